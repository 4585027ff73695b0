import PyProof.Rows.All
import Wide.All
import OpenK.AllK
import Wide.FinOn
import Lean
import PyProof.EqAt
import PyProof.EqKinds
import PyProof.TupleCall
import KE.KLam
import KE.KNest
import PySem.Challenge.RW_wholeowners_k62_whole_what_things_change
import KE.KNestM
import KE.KIsAll
import PyProof.EnumFor
import PyProof.EnumStmt
import PyProof.EnumMake
import PyProof.StrOps2
import PyProof.ZipIter
import PyProof.Rows.SumAny
import PyProof.AttrMissHeap
import KE.KDictOf
import PyProof.SumWalk
import PyProof.DictWalks
import KE.KEqDict
theorem Zf{p}[i:Decidable p](h:decide p=true):p:=of_decide_eq_true h
theorem Zg{p}[i:Decidable p](h:p):decide p=true:=decide_eq_true h
theorem Zh{p}[i:Decidable p](h:¬p):decide p=false:=decide_eq_false h
open Option renaming some→Za,none→Zb
theorem Zc{c:Prop}{h:Decidable c}(k:c){α}{t e:α}:ite c t e=t:=if_pos k
theorem Zd{c:Prop}{h:Decidable c}(k:¬c){α}{t e:α}:ite c t e=e:=if_neg k
open PySem.W renaming Frag->aa,findIn->aU,nsIn->bQ,fnOf->bX,keepIn->cD,emptyDict->cE,instObj->di,plainGet->d6,hasDictIn->eT,makesIn->fE,codeIn->fR,specialIn->fZ,plainOver->f6,mroIn->f8,OpenLaw->gw,isFn->gy,hideAll->gA,lookIn->gR,plainGet_of->g9,callWith_K->iq,methodObj->iD,takesIn->i0,takerIn->i6,mg_of->jq,excIn->jt,cellsFrom_some->jD,methodCall_KW->jN,hideAll_get->ka,callWith_K0->ke,of_hideAll->kC,handedIn->kS,WalkO->kT
open List renaming length_map->ac,mem_cons_of_mem->ae,mem_cons_self->ag,mem_cons->ah,mem_map->aj,map_cons->am,mem_singleton->ao,getElem?_eq_getElem->au,map_append->aw,nodup_cons->ay,getElem?_map->aC,map_map->aE,mem_append_right->aG,length_append->aJ,mem_append->aL,size_toArray->aN,replicate->aR,map_congr_left->aV,getElem?_eq_some_iff->aW,length_cons->bh,mem_append_left->bj,mem_filter->bw,range->bA,find?_cons->bG,lookup_cons->bJ,nodup_append->bK,eq_nil_of_length_eq_zero->bV,mem_iff_getElem?->bZ,length->b7,getElem_mem->ce,find?_eq_none->cy,length_eq_zero_iff->cB,mem_range->cF,getElem?_append_right->cG,getElem?_eq_none->cJ,not_mem_nil->cK,any_eq_true->cL,any_cons->cO,append_nil->cS,replicate_succ->cX,lookup->cZ,all_eq_true->da,pairwise_cons->dg,getElem?_append_left->dk,mem_of_getElem?->dw,map_nil->dy,length_singleton->dQ,length_replicate->dR,take_add_one->dW,flatten_cons->dX,length_take->eB,mem_of_find?_eq_some->eI,drop_eq_getElem_cons->eJ,filterMap_cons->eK,find?_some->eP,getElem?_cons_zero->eX,find?_map->fg,drop_eq_nil_of_le->fj,length_filter_le->fB,filter_map->fO,length_pos_iff->fS,getElem?_range->fT,perm_ext_iff_of_nodup->f7,take_length->gC,length_drop->gD,getElem?_replicate->gE,getElem?_cons_succ->gF,filter_cons->gG,take_of_length_le->gM,any_map->gN,nil_append->gU,nodup_nil->ii,filter_eq_self->iC,sum_cons->iF,all_cons->iG,mem_filterMap->iJ,findIdx?_eq_some_iff_getElem->iQ,find?_isSome->iW,find?_append->iX,ext_getElem?->iY,map_fst_zip->jb,map_id->jf,of_mem_zip->ji,length_nil->jj,zipWith->kn,range_succ_eq_map->ko,getElem?_set_self->kq,all_map->kr,take_append_drop->kI,cons_lt_cons_iff->kJ,mem_of_mem_take->kM,mem_of_mem_drop->kN,getElem?_set_ne->kO,drop_eq_nil_iff->kP,filter_sublist->k8,ne_nil_of_mem->ly,foldl->lz
open Sum renaming inr->af,inl->iZ
open PySem renaming Value->ai,Addr->ak,wpAny_bind->aq,Shared->ax,starEach->aB,sizeLine->aI,Program->aK,wpAny_pure->aM,wpAny->aS,mainGlobals->a7,World->ba,Expr->bo,Heap->bx,wpAny_mono->bN,bootBuiltins->bP,Stmt->bR,compareOp->bS,backTo->b5,foldedSetIterable->b6,FuncData->cq,attributeBase->cz,Around->cA,assignEach->cQ,behindInMarks->cR,keywordEach->cU,mem_of_lookup->dC,lookup_relabel_local->dD,binaryOp->dE,Scope->dG,swapsWith->dL,sysModules->dS,wpAny_passesOwn->dZ,Spec->d8,wpAny_holding->ed,wpAny_truthy_bool->ej,wpAny_newObj_type->eA,backToKw->eL,cLine->eR,Paired->eU,wpAny_comprehension_free->fc,wpAny_Call_Name_kw->ft,tupleKind_room_in1->fu,Keyword->fG,getMethod->fQ,wpAny_standAt->fU,sliceBounds->fW,bindArgs->fX,standAt->gc,codeAny->gg,wpAny_pyIter_list->gJ,swapsWithSole->gP,swappedStores->gQ,reprText->g8,NameKind->ia,getItem->io,call_meets->ip,wpAny_execs_nil->iA,letOwnedTupleGo->iB,strIterType->iL,callWith->iM,IntMulOk->iP,valueAt->iT,tupleKind->iU,builtinsNs->jc,wpAny_assign_Name->jm,codeAny_mono->jn,callerA->jo,call_meetsIn->jp,BindsTo->jw,PyData->jE,IsPart->jF,Arguments->jH,sizeLine_eq->jM,Within->jU,setItem->jY,notedBy->jZ,atKey->kB,evalArgs_none->kK,call->kQ,assignInOrder->kR,wpAny_Call_method0_late->lc,bindL->lf,bindC->lg,Builtin->li
open And renaming intro->al
open Nat renaming le_refl->ap,lt_of_lt_of_le->aA,ne_of_lt->aF,le_trans->aH,lt_of_le_of_lt->aQ,zero_le->aZ,pow_le_pow_right->b8,lt_succ_of_lt->cj,lt_succ_self->cC,two_pow_pos->cW,le_of_lt->dM,lt_irrefl->dP,le_of_not_lt->eE,zero_add->fw,le_of_ble_eq_true->fC,lcm->fK,le_succ->fL,ne_of_gt->fY,eq_of_mul_eq_mul_left->gu,pow_succ->gS,lt_trans->gT,pow_add->iu,le_antisymm->jx,mod_two_eq_zero_or_one->jI,mul_assoc->jV,add_assoc->jW,add_sub_cancel_left->km,mul_comm->kF,le_of_eq->kG,add_comm->kH,pow_lt_pow_right->k6,mul_pos->k7,mul_le_mul_left->lv,add_le_add_left->lw
open PySem.Heap renaming get?_push_of_some->ar,lt_size->az,get?_push_size->a6,SameBut->iV,size_push->jy,get?_update_other->kh
open Int renaming gcd->aD,mul_assoc->aT,mul_le_mul_of_nonneg_right->aX,mul_comm->br,le_of_lt->bF,gcd_pos_of_ne_zero_right->bH,mul_pos->bI,gcd_dvd_right->cm,emod_lt_of_pos->cN,mul_ediv_cancel_left->cP,emod_nonneg->dA,eq_of_mul_eq_mul_right->ei,toNat_of_nonneg->eM,mul_right_comm->eY,mul_nonpos_of_nonneg_of_nonpos->eZ,natCast_dvd_natCast->fb,mul_left_comm->fz,natAbs_dvd_natAbs->fD,gcd_dvd_left->fJ,ofNat_le->gW,le_trans->gX,neg_mul->iw,natAbs_neg->iy,natAbs_mul->iz,natAbs_natCast->iR,mul_nonpos_of_nonpos_of_nonneg->iS,zero_mul->i8,gcd_mul_left->jg,ediv_eq_of_eq_mul_right->jC,mul_nonneg->jK,le_of_mul_le_mul_right->jL,mul_one->k9
open Option.some renaming inj->aO
open PySem.Str renaming ofString->aP,empty->cx
open Bool renaming false_ne_true->aY,eq_iff_iff->bU,and_eq_true->cg,or_eq_true->dO,false_and->fk,eq_false_iff->gv,true_and->iH,false_or->jS
open PySem.PyData renaming strOk->bc,eqv->bu,eqvAll->bO,str->dq,canLay0->g5,depth->iI,canLayAll0->kY
open PySem.Value renaming ref->bi,int->fV,str->ib,none->kU,bool->kW
open Rat renaming mul_nonneg->bL,natCast_le_natCast->cH,intCast_natCast->cI,intCast_mul->cT,le_trans->cY,mul_le_mul_of_nonneg_left->dJ,divInt->eS,intCast_lt_intCast->fm,add_zero->gO,intCast_sub->gY,intCast_add->gZ,mul_pos->ij,le_refl->im,divInt_nonneg_iff_of_pos_right->iK,natCast_mul->jk,divInt_eq_divInt_iff->jT,intCast_eq_zero_iff->jX,mul_zero->ky,le_of_lt->kA
open PySem.NameKind renaming free->bM,cell->hJ
open False renaming elim->bT
open PySem.Builtin.Int renaming intBits->bW
open Ne renaming symm->bY
open Option renaming isSome_map->ci,isSome_iff_exists->du,isSome_eq_false_iff->dY,isNone_iff_eq_none->ee,map_eq_none_iff->gB,map->kL,getD_none->lr
open Sum.inr renaming inj->cM
open Classical renaming byContradiction->de,propDecidable->dB
open PyProof.Rows renaming callWith_type1->dF,slot_tuple_getitem->dH,envOfC->eV,AllBare->gL,subscriptTail->ja,assignInOrder_cons->je
open PySem.Calls renaming callWith_builtin->dI,spliced_cons->eO,evalArgs_plain->fH,spliced_nil->f9,Name_function_global->jv,Constant_str->kZ
open PySem.Builtin.Slice renaming slicePlaces->dN,sliceAdjust->fI,sliceApplied->iE
open PySem.Builtin.Tuple renaming tupleExact->dU
open List.cons renaming inj->eg
open ForInStep renaming yield->eC
open True renaming intro->eQ
open Or renaming inl->fA,inr->g7
open PySem.Spec renaming ltCps->fF
open PySem.Builtin.List renaming listTooLong->fM
open Array renaming length_toList->fP,getElem?_toList->ku,append_assoc->la
open PySem.F renaming plainAttrs_list->gh,plainAttrs_dict->gn,slot_list_getattribute->gH,slot_dict_get->gI,excBase_ValueError->jd,slot_dict_getitem->jh,slot_dict_values->ju,slot_list_index->jz,args_dict_get_3->jA,entry_dict_get->jG,slot_dict_pop->jQ,slot_list_append->kD,slot_list_pop->lh
open PySem.W.WData renaming int->gz,weightAll->gK
open PySem.Expr renaming Subscript->ig
open PySem.Paired renaming length->ir,snoc->kg
open PySem.PassesOwn renaming never->iN
open PySem.Obj renaming mapSeq->iO
open PySem.Builtin.Dict renaming updateFrom->i7,pairItems->i9
open Nat.succ renaming inj->jB
open List.Sublist renaming refl->jJ
open PySem.SeqAt.EqAt renaming str_int->jO,int_str->jP
open PySem.Around renaming under->jR,under_plainId->kl
open PySem.Heap.DictOf renaming new->ki
open PySem.Code renaming isFrame->kj
open PySem.SeqAt renaming EqAt->kX
set_option compiler.extract_closed false
set_option bootstrap.genMatcherCode false
set_option genSizeOf false
noncomputable section
set_option Elab.async false
set_option linter.all false
set_option autoImplicit true
set_option maxRecDepth 100000
namespace L2
open PySem PySem.Spec PyProof.Rows
abbrev Key:=Sum Int Str
def AK:Key->ai->Bool
 |.inl k,v=>Value.isInt k v
 |.inr x,v=>Value.isStrOf x v
def keyH(w:ba):Key->Int
 |.inl k=>hashInt k
 |.inr x=>hashStr w x
def mP:∀{k:Key}{v:ai},AK k v=true->(∃i t,k=iZ i/\v=fV i t)\/(∃x t,k=af x/\v=ib x t)
 |.inl i,v,h=>by
  obtain⟨t,e⟩:=Value.isInt_shape (k:=i) (v:=v) h;exact .inl ⟨i,t,rfl,e⟩
 |.inr x,v,h=>by obtain⟨t,e⟩:=Value.isStrOf_shape (x:=x) (v:=v) h;exact .inr ⟨x,t,rfl,e⟩
def Hq(i)(t):AK (.inl i) (.int i t)=true:=by simp[AK,Value.isInt]
def Hn(x)(t):AK (.inr x) (.str x t)=true:=by simp[AK,Value.isStrOf]
def Ox(a b):decide ((iZ a:Key)=iZ b)=(a==b):=by
 by_cases e:a=b
 ·subst e;simp
 ·have h:¬(iZ a:Key)=iZ b:=λq=>e (Sum.inl.inj q);rw[Zh h];exact(beq_eq_false_iff_ne.mpr e).symm
def Aw(a b):decide ((af a:Key)=af b)=decide (a=b):=by
 by_cases e:a=b
 ·subst e;simp
 ·have h:¬(af a:Key)=af b:=λq=>e (cM q);rw[Zh h,Zh e]
def Ow(a)(b):decide ((iZ a:Key)=af b)=false:=Zh (λq=>nomatch q)
def Ov(a)(b):decide ((af a:Key)=iZ b)=false:=Zh (λq=>nomatch q)
def mG(prog:aK)(w:ba):PySem.KeyKind prog w Key where
 is:=AK
 hash:=keyH w
 inj:=λv a b ha hb=>by
  rcases mP ha with⟨i,t,rfl,rfl⟩|⟨x,t,rfl,rfl⟩
  ·rcases mP hb with⟨j,u,rfl,e⟩|⟨y,u,rfl,e⟩
   ·injection e with e1 _;rw[e1]
   ·exact nomatch e
  ·rcases mP hb with⟨j,u,rfl,e⟩|⟨y,u,rfl,e⟩
   ·exact nomatch e
   ·injection e with e1 _;rw[e1]
 byValue:=λk v h=>by rcases mP h with⟨i,t,rfl,rfl⟩|⟨x,t,rfl,rfl⟩<;>rfl
 pyHash:=λhv h=>by
  rcases mP hv with⟨i,t,rfl,rfl⟩|⟨x,t,rfl,rfl⟩
  ·exact wpAny_pyHash_int h
  ·exact wpAny_pyHash_str h
 eqBool:=λhu hv h=>by
  rcases mP hu with⟨i,t,rfl,rfl⟩|⟨x,t,rfl,rfl⟩
  ·rcases mP hv with⟨j,u,rfl,rfl⟩|⟨y,u,rfl,rfl⟩
   ·rw[Ox] at h;exact wpAny_eqBool_int h
   ·rw[Ow] at h;exact jP i t y u _ _ _ _ h
  ·rcases mP hv with⟨j,u,rfl,rfl⟩|⟨y,u,rfl,rfl⟩
   ·rw[Ov] at h;exact jO x t j u _ _ _ _ h
   ·rw[Aw] at h;exact wpAny_eqBool_str h
 «strs»:=λk x t v h=>by
  rcases mP h with⟨i,u,rfl,e⟩|⟨y,u,rfl,e⟩
  ·exact nomatch e
  ·injection e with e1 _
   subst e1;cases v<;>rfl
def Dg(prog)(w)(i)(t):(mG prog w).is (.inl i) (.int i t)=true:=Hq i t
def Df(prog)(w)(x)(t):(mG prog w).is (.inr x) (.str x t)=true:=Hn x t
inductive V where
 |non|bl (b:Bool)|int (i:Int)|str (x:Str)|byt (b:Array UInt8)|flt (b:UInt64)|ref (a:ak)|ty (n:String)
 deriving DecidableEq
def RelV:V->ai->Prop
 |.non,u=>u=kU
 |.bl b,u=>u=kW b
 |.int i,u=>∃t,u=fV i t
 |.str x,u=>∃t,u=ib x t
 |.byt b,u=>∃t,u=Value.bytes b t
 |.flt b,u=>∃t,u=Value.float b t
 |.ref a,u=>u=bi a
 |.ty n,u=>u=Value.type n
abbrev Vals:List V->List ai->Prop:=eU RelV
theorem Vals.length(r:Vals xs us):xs.length=us.length:=ir r
theorem Vals.get:∀{xs:List V}{us:List ai}{i:Nat}{x:V},Vals xs us->xs[i]?=Za x->∃u,us[i]?=Za u/\RelV x u
 |_,_,_,_,.nil,e=>by simp at e
 |_,_,0,_,.cons r _,e=>by simp at e;subst e;exact⟨_,rfl,r⟩
 |_,_,i+1,x,.cons _ t,e=>by obtain⟨u,h1,h2⟩:=Vals.get (i:=i) (x:=x) t (by simpa using e);exact⟨u,by simpa using h1,h2⟩
theorem Vals.set(r:RelV x u):∀{xs:List V}{us:List ai}(i:Nat),Vals xs us->Vals (xs.set i x) (us.set i u)
 |_,_,_,.nil=>.nil
 |_,_,0,.cons _ t=>.cons r t
 |_,_,i+1,.cons q t=>.cons q (Vals.set r i t)
theorem Vals.append:∀{xs ys:List V}{us ws:List ai},Vals xs us->Vals ys ws->Vals (xs++ys) (us++ws)
 |_,_,_,_,.nil,s=>s
 |_,_,_,_,.cons r t,s=>.cons r (Vals.append t s)
theorem Vals.take:∀{xs:List V}{us:List ai}(n:Nat),Vals xs us->Vals (xs.take n) (us.take n)
 |_,_,0,_=>.nil
 |_,_,_+1,.nil=>.nil
 |_,_,n+1,.cons r t=>.cons r (Vals.take n t)
theorem Vals.drop:∀{xs:List V}{us:List ai}(n:Nat),Vals xs us->Vals (xs.drop n) (us.drop n)
 |_,_,0,r=>r
 |_,_,_+1,.nil=>.nil
 |_,_,n+1,.cons _ t=>Vals.drop n t
def RelO:Option V->Option ai->Prop
 |some v,Za u=>RelV v u
 |none,Zb=>True
 |_,_=>False
def KV{κ:Type}:List (κ×V)->List (κ×ai)->Prop:=eU λ(p:κ×V)(q:κ×ai)=>p.1=q.1/\RelV p.2 q.2
def kV:Key->V
 |.inl i=>.int i
 |.inr x=>.str x
inductive HO where
 /-- a list -/
 |lst (xs:List V)
 /-- a tuple (never changes) -/
 |tup (xs:List V)
 /-- a dict whose keys are ints and texts;one whose keys are tuples of ints and texts (the empty one is both) -/
 |dK (kvs:List (Key×V))|dT (kvs:List (List Key×V))
 /-- a set of ints: its members,its size -/
 |set (S:Int->Bool) (n:Nat)
 /-- an instance of the class at C,its dict at dx,its attributes -/
 |ins (C dx:ak) (fs:List (Str×V))
 /-- the dict of the instance at x -/
 |own (x:ak)
 /-- the dict of an exception -/
 |xd (fs:List (Str×V))
 /-- a bound method,f of x -/
 |met (f x:ak)
 /-- a range object lo,lo+1,.. below hi -/
 |rng (lo hi:Int)
 /-- a thing that is known to the object (the script;a dict while a loop walks it): read,never written while it is so -/
 |frz (o:Obj) (u:HO)
 /-- a code object's table -/
 |tbl (ps:Array ai)
 /-- any Q0 thing,by what is true of its one object (a def of one's own: SetO a S n:=HO.ext λh=>..) -/
 |ext (φ:bx->Prop)
abbrev Hp:=ak->Option HO
def upd(H:Hp)(a:ak)(o:HO):Hp:=λb=>if b=a then Za o else H b
def lJ:upd H a o a=Za o:=by unfold upd;rw[Zc rfl]
def lG(h:b≠a):upd H a o b=H b:=by unfold upd;rw[Zd h]
def wm:upd (upd H a o) a u=upd H a u:=by
 funext b;unfold upd;split<;>rfl
def CT{H:Hp}{a b:ak}{o u:HO}(h:H a=Za o)(h':H b=Za u)(d:o≠u):a≠b:=by intro e;subst e;rw[h] at h';exact d (aO h')
def lV{H:Hp}{a b:ak}{o:HO}(h:H a=Za o)(h':H b=Zb):a≠b:=by intro e;subst e;rw[h] at h';cases h'
section
variable(P:aK)(w:ba)
def ObjOk(H:Hp)(h:bx)(a:ak):HO->Prop
 |.lst xs=>xs.length<=aI/\∃(its:List ai)(n:Nat),Vals xs its/\h.get? a=Za { cls:=.type "list",data:=.seq its.toArray n }
 |.tup xs=>xs.length<=aI/\∃its:List ai,Vals xs its/\IsTup h a its.toArray
 |.dK kvs=>kvs.length<=aI/\(a==dS)=false/\∃vs,KV kvs vs/\h.DictOf (mG P w) a vs
 |.dT kvs=>kvs.length<=aI/\(a==dS)=false/\∃xs:List (List Key×ak×ai),
   eU (λ(p:List Key×V)(q:List Key×ak×ai)=>p.1=q.1/\H q.2.1=Za (.tup (p.1.map kV))/\RelV p.2 q.2.2) kvs xs /\
   ∃o es ep,h.get? a=Za o/\o.ExactDict/\o.data=.dict es ep/\es.toList=xs.map (entryOfKey (iU (mG P w)))/\(xs.map (·.1)).Nodup
 |.set S n=>h.SetOf (intKind P w) a S n
 |.ins C dx fs=>H dx=Za (.own a)/\fs.length<=1000/\dx≠a/\h.get? a=Za (di C dx) /\
   ∃mA,h.Ns1 dx mA/\(∀f,RelO (fs.lookup f) (mA f))/\jU mA (fs.map (·.1))
 |.own _=>∃o,h.get? a=Za o
 |.xd fs=>∃mA,h.Ns1 a mA/\∀f,RelO (fs.lookup f) (mA f)
 |.rng lo hi=>∃t u v,h.get? a=Za { cls:=.type "range",data:=.fields #[.int lo t,.int hi u,.int 1 v] }
 |.frz o u=>h.get? a=Za o/\ObjOk H h a u
 |.tbl ps=>h.get? a=Za { cls:=.none,data:=.fields ps }
 |.met f x=>h.get? a=Za (iD (.ref f) (.ref x))
 |.ext φ=>φ h/\(∃o,h.get? a=Za o)/\∀h1 h2:bx,φ h1->(∀o,h1.get? a=Za o->h2.get? a=Za o)->φ h2
def HOk(H:Hp)(h:bx):Prop:=∀a o,H a=Za o->ObjOk P w H h a o
end
section
variable{P:aK}{w:ba}{H H':Hp}{h h':bx}{a:ak}{o:HO}
theorem ObjOk.lt(x:ObjOk P w H h a o):a<h.objs.size:=by
 cases o with
 |lst xs=>obtain⟨_,_,_,_,e⟩:=x;exact az e
 |tup xs=>obtain⟨_,_,_,p⟩:=x;exact p.lt
 |dK kvs=>obtain⟨_,_,_,_,o,_,_,e,_⟩:=x;exact az e
 |dT kvs=>obtain⟨_,_,_,_,o,_,_,e,_⟩:=x;exact az e
 |set S n=>obtain⟨o,_,_,_,e,_⟩:=x;exact az e
 |ins C dx fs=>obtain⟨_,_,_,e,_⟩:=x;exact az e
 |own y=>obtain⟨_,e⟩:=x;exact az e
 |xd fs=>obtain⟨_,⟨_,_,_,e,_⟩,_⟩:=x;exact az e
 |rng lo hi=>obtain⟨_,_,_,e⟩:=x;exact az e
 |frz ob u=>obtain⟨e,_⟩:=x;exact az e
 |tbl ps=>exact az (show h.get? a=Za _ from x)
 |met f y=>exact az (show h.get? a=Za _ from x)
 |ext φ=>obtain⟨_,⟨_,e⟩,_⟩:=x;exact az e
theorem eU.mapP:∀{la1:List α}{la2:List β},eU F la1 la2->(∀a b,F a b->G a b)->eU G la1 la2
 |_,_,.nil,_=>.nil
 |_,_,.cons r t,f=>.cons (f _ _ r) (eU.mapP t f)
def ObjOk.stay(x:ObjOk P w H h a o)(k:∀b u,(b=a\/H b=Za (.own a))->h.get? b=Za u->h'.get? b=Za u)(ho:∀b,H b=Za (.own a)->H' b=Za (.own a))(ht:∀b xs,H b=Za (.tup xs)->H' b=Za (.tup xs)):ObjOk P w H' h' a o:=by
 induction o with
 |lst xs=>obtain⟨z,its,n,r,e⟩:=x;exact⟨z,its,n,r,k _ _ (.inl rfl) e⟩
 |tup xs=>obtain⟨z,its,r,ob,e,c⟩:=x;exact⟨z,its,r,ob,k _ _ (.inl rfl) e,c⟩
 |dK kvs=>obtain⟨z,y,vs,r,ob,es,ep,e,c⟩:=x;exact⟨z,y,vs,r,ob,es,ep,k _ _ (.inl rfl) e,c⟩
 |dT kvs =>
  obtain⟨z,y,xs,r,ob,es,ep,e,c⟩:=x;exact⟨z,y,xs,eU.mapP r λp q z=>⟨z.1,ht _ _ z.2.1,z.2.2⟩,ob,es,ep,k _ _ (.inl rfl) e,c⟩
 |set S n=>obtain⟨ob,es,ep,t,e,c⟩:=x;exact⟨ob,es,ep,t,k _ _ (.inl rfl) e,c⟩
 |ins C dx fs =>
  obtain⟨d,z,ne,e,mA,⟨od,es,ep,e2,c⟩,r⟩:=x;exact⟨ho _ d,z,ne,k _ _ (.inl rfl) e,mA,⟨od,es,ep,k _ _ (.inr d) e2,c⟩,r⟩
 |own y=>obtain⟨ob,e⟩:=x;exact⟨ob,k _ _ (.inl rfl) e⟩
 |xd fs=>obtain⟨mA,⟨od,es,ep,e,c⟩,r⟩:=x;exact⟨mA,⟨od,es,ep,k _ _ (.inl rfl) e,c⟩,r⟩
 |rng lo hi=>obtain⟨t,u,v,e⟩:=x;exact⟨t,u,v,k _ _ (.inl rfl) e⟩
 |frz ob u ih=>obtain⟨e,q⟩:=x;exact⟨k _ _ (.inl rfl) e,ih q⟩
 |tbl ps =>
  have e:h.get? a=Za { cls:=.none,data:=.fields ps }:=x;show h'.get? a=Za { cls:=.none,data:=.fields ps };exact k a _ (.inl rfl) e
 |met f y =>
  have e:h.get? a=Za (iD (.ref f) (.ref y)):=x;show h'.get? a=Za (iD (.ref f) (.ref y));exact k a _ (.inl rfl) e
 |ext φ=>obtain⟨p,⟨o,e⟩,st⟩:=x;exact⟨st _ _ p λo q=>k _ _ (.inl rfl) q,⟨o,k _ _ (.inl rfl) e⟩,st⟩
theorem HOk.lt(x:HOk P w H h)(e:H a=Za o):a<h.objs.size:=(x a o e).lt
def HOk.fresh(x:HOk P w H h)(e:h.objs.size<=a):H a=none:=by
 cases q:H a with
 |none=>rfl
 |some u=>exact absurd (aA (x.lt q) e) (dP _)
def HOk.kept(x:HOk P w H h)(k:∀b u,h.get? b=Za u->h'.get? b=Za u):HOk P w H h':=λa o e =>
 (x a o e).stay (λb u _ q=>k b u q) (λ_ q=>q) λ_ _ q=>q
def HOk.laid(x:HOk P w H h)(k:∀b u,h.get? b=Za u->h'.get? b=Za u)(hp:h.objs.size<=a)(new:ObjOk P w (upd H a o) h' a o):HOk P w (upd H a o) h':=λb u e=>by
 have hn:=x.fresh hp;by_cases hb:b=a
 ·subst hb;rw[lJ] at e;cases e;exact new
 ·rw[lG hb] at e;exact(x b u e).stay (λc v _ q=>k c v q) (λc q=>by rw[lG (lV q hn)];exact q) λc xs q=>by rw[lG (lV q hn)];exact q
end
def Rd(H:Hp)(a:ak)(u:HO):Prop:=H a=Za u\/∃o,H a=Za (.frz o u)
def Rd.ok(r:Rd H a u)(x:HOk P w H h):ObjOk P w H h a u:=by
 rcases r with r|⟨o,r⟩
 ·exact x a u r
 ·obtain⟨_,q⟩:=x a _ r;exact q
def Mut:Option HO->Prop
 |some (.lst _)=>True
 |some (.dK _)=>True
 |some (.dT _)=>True
 |some (.set _ _)=>True
 |some (.ins _ _ _)=>True
 |some (.ext _)=>True
 |_=>False
section
variable{P:aK}{w:ba}{H:Hp}{h h':bx}{x e:ak}{o':HO}
def HOk.write(ok:HOk P w H h)(mu:Mut (H x))(he:e=x\/H e=Za (.own x))(k:∀b u,b≠e->h.get? b=Za u->h'.get? b=Za u)(Sx:∃u,h'.get? e=Za u)(new:ObjOk P w (upd H x o') h' x o'):HOk P w (upd H x o') h':=λb u q=>by
 have SV:∀c y,H c=Za (.own y)->c≠x:=λc y r z=>by subst z;rw[r] at mu;exact mu
 have UL:∀c xs,H c=Za (.tup xs)->c≠x:=λc xs r z=>by subst z;rw[r] at mu;exact mu
 by_cases hb:b=x
 ·subst hb;rw[lJ] at q;cases q;exact new
 ·rw[lG hb] at q;by_cases hbe:b=e
  ·have q':H b=Za (.own x):=by
    rcases he with z|z
    ·exact absurd (hbe.trans z) hb
    ·rw[hbe];exact z
   rw[q] at q';cases q';obtain⟨v,hv⟩:=Sx;exact⟨v,by rw[hbe];exact hv⟩
  ·refine(ok b u q).stay (λc v hc r=>k c v ?_ r) (λc r=>by rw[lG (SV c b r)];exact r) λc xs r=>by rw[lG (UL c xs r)];exact r
   rcases hc with rfl|hc
   ·exact hbe
   ·rintro rfl
    rcases he with z|z
    ·exact SV c b hc z
    ·rw[hc] at z;cases z;exact hb rfl
end
structure Un(fs ex:List ak)(H H':Hp)(h h':bx):Prop where
 keep:∀b o,h.get? b=Za o->H b=Zb->b∉fs->b∉ex->h'.get? b=Za o
 slot:∀b o,h.get? b=Za o->H b=Zb->b∈fs->b∉ex->∃sl,h'.get? b=Za { o with slots:=sl }
 free:∀b o,h.get? b=Za o->H b=Zb->b∉ex->H' b=Zb
 there:∀b o,h.get? b=Za o->b∉ex->∃o',h'.get? b=Za o'
 tups:∀b xs,H b=Za (.tup xs)->H' b=Za (.tup xs)
 frzs:∀b o u,H b=Za (.frz o u)->H' b=Za (.frz o u)
 tbls:∀b ps,H b=Za (.tbl ps)->∃more,H' b=Za (.tbl (ps++more))
section
variable{fs Qp ex Ul:List ak}{H H1 H2:Hp}{h h1 h2 h':bx}{a x e:ak}{o:HO}
def Un.any(u:Un fs ex H H1 h h1)(q:h.get? b=Za ob)(n:H b=Zb)(hx:b∉ex):∃sl,h1.get? b=Za { ob with slots:=sl }:=by
 by_cases hb:b∈fs
 ·exact u.slot b ob q n hb hx
 ·exact⟨ob.slots,u.keep b ob q n hb hx⟩
def Un.kept(k:∀b u,h.get? b=Za u->h'.get? b=Za u):Un fs ex H H h h' :=
 ⟨λb ob q _ _ _=>k b ob q,λb ob q _ _ _=>⟨ob.slots,k b ob q⟩,λ_ _ _ n _=>n,λb ob q _=>⟨ob,k b ob q⟩,λ_ _ q=>q,λ_ _ _ q=>q,λ_ ps q=>⟨#[],by rw[q];simp⟩⟩
def Un.refl:Un fs ex H H h h:=Un.kept λ_ _ q=>q
def Un.laid(k:∀b u,h.get? b=Za u->h'.get? b=Za u)(hp:h.objs.size<=a)(hn:H a=Zb):Un fs ex H (upd H a o) h h' where
 keep:=λb u q _ _ _=>k b u q
 slot:=λb u q _ _ _=>⟨u.slots,k b u q⟩
 free:=λb u q n _=>by rw[lG (aF (aA (az q) hp))];exact n
 there:=λb u q _=>⟨u,k b u q⟩
 tups:=λb xs q=>by rw[lG (lV q hn)];exact q
 frzs:=λb u xs q=>by rw[lG (lV q hn)];exact q
 tbls:=λb ps q=>⟨#[],by rw[lG (lV q hn),q];simp⟩
def Un.write(mu:Mut (H x))(he:e=x\/H e=Za (.own x))(k:∀b u,b≠e->h.get? b=Za u->h'.get? b=Za u)(Sx:∃u,h'.get? e=Za u):Un fs ex H (upd H x o) h h':=by
 have hx:∀b,H b=Zb->b≠x:=λb n z=>by subst z;rw[n] at mu;exact mu
 have hb:∀b,H b=Zb->b≠e:=λb n z=>by
  subst z;rcases he with r|r
  ·exact hx b n r
  ·rw[n] at r;cases r
 have hm:∀b u,H b=Za u->¬Mut (Za u)->b≠x:=λb u q nm z=>by subst z;rw[q] at mu;exact nm mu
 refine⟨λb u q n _ _=>k b u (hb b n) q,λb u q n _ _=>⟨u.slots,k b u (hb b n) q⟩,λb u q n _=>by rw[lG (hx b n)];exact n,λb u q _=>?_,
  λb xs q=>by rw[lG (hm b _ q λz=>z)];exact q,λb u xs q=>by rw[lG (hm b _ q λz=>z)];exact q,λb ps q=>⟨#[],by rw[lG (hm b _ q λz=>z),q];simp⟩⟩
 by_cases hbe:b=e
 ·subst hbe;exact Sx
 ·exact⟨u,k b u hbe q⟩
end
def trk(h:bx)(H:Hp):List ak:=(bA h.objs.size).filter λa=>(H a).isSome
def EZ(h:bx)(H:Hp):bx:=gA h (trk h H)
def Ht(h)(H):(EZ h H).objs.size=h.objs.size:=PySem.W.hideAll_size _ _
def Jd(e:h.get? b=Za o)(n:H b=Zb):(EZ h H).get? b=Za o :=
 ka _ e λhm=>by have q:(H b).isSome=true:=(bw.mp hm).2;rw[n] at q;simp at q
def LF(e:(EZ h H).get? b=Za o):h.get? b=Za o/\H b=none:=by
 have e':h.get? b=Za o:=kC (trk h H) e;refine⟨e',?_⟩;cases q:H b with
 |none=>rfl
 |some x =>
  have hm:b∈trk h H:=bw.mpr ⟨cF.mpr (az e'),by simp[q]⟩;have z:(EZ h H).get? b=none:=PySem.W.hideAll_none (trk h H) hm;rw[z] at e;cases e
def MN(g h:bx)(L:ak):List (ak×Obj):=(bA h.objs.size).filterMap λa=>if a=L\/(g.get? a).isSome=true then Zb else(h.get? a).map λo=>(a,o)
def pQ(g h:bx)(L d:ak):List (ak×Obj):=(MN g h L).filter λp=>decide (p.1≠d)
structure Mod(K:aa)(mg:Str->Option ai)(base:bx):Prop where
 kin:K.In base
 glob:base.Ns a7 mg
 blt:∃mb,base.Ns jc mb/\∀x:Str,x≠"__name__"->mb x=bP x
 nolimit:base.NoLimit
structure Cx where
 prog:aK
 w:ba
 K:aa
 mg:Str->Option ai
 base:bx
 A:cA
 N:List Str
 sa0:ax
 Ha0:Hp
 env:Env
 outer:List Env
 stack:List Env
 ex:List ak
 fn:Str->Bool
 calm:Bool
 pn:List (ak×Obj)
 xe:ai->ax->Prop
def frs(l:List Env):List ak:=l.filterMap (·.frame)
abbrev Cx.fs(X:Cx):List ak:=frs X.outer
def Vis(sc:dG)(x:Str):Prop:=sc.names.lookup x=Za .local\/sc.names.lookup x=Za .cell\/sc.names.lookup x=Za .free
def Loc(sc:dG)(x:Str):Prop:=sc.names.lookup x=Za .local\/sc.names.lookup x=Za .cell
def Look(env:Env)(h:bx)(m:Str->Option ai)(x:Str)(u:ai):Prop :=
 (env.kindOf x=Za .local/\m x=Za u)\/((env.kindOf x=Za .cell\/env.kindOf x=Za .free)/\∃c,env.cells.lookup x=Za c/\h.IsCell c (Za u))
structure Cx.Ok(X:Cx):Prop where
 mod:Mod X.K X.mg X.base
 kind:X.env.scope.kind=.function
 glob:X.env.globals=a7
 blt:X.env.builtins=jc
 above:X.sa0.heap.objs.size<=X.env.locals
 inj:∀x y c,X.env.cells.lookup x=Za c->X.env.cells.lookup y=Za c->x=y
 has:∀x,(X.env.kindOf x=Za .cell\/X.env.kindOf x=Za .free)->∃c,X.env.cells.lookup x=Za c
 cab:∀x c,X.fn x=true->X.env.cells.lookup x=Za c->X.sa0.heap.objs.size<=c
 hd:X.calm=true->X.A.handled=Zb
 frames:X.A.frames=Za X.stack
 stk:X.stack=X.outer\/(X.stack=X.env::X.outer/\X.env.frame=Za X.env.locals)
 exf:∀b∈X.ex,b≠X.env.locals/\∀x c,X.env.cells.lookup x=Za c->c≠b
 bs:∀b o,X.base.get? b=Za o->X.sa0.heap.get? b=Za o/\X.Ha0 b=Zb
 bsz:X.base.objs.size<=X.sa0.heap.objs.size
 noex:∀b o,X.base.get? b=Za o->b∉X.ex
 exfs:∀b∈X.ex,b∉X.fs
 funs:X.sa0.heap.FunFrames X.base X.outer
 frf:∀b∈X.fs,X.Ha0 b=Zb
structure Inv(X:Cx)(Pf:List (ak×Obj))(O:List (Option V))(H:Hp)(s:ax):Prop where
 ok:X.Ok
 os:s.os=X.sa0.os
 bare:gL s.gens
 base:Un X.fs X.ex X.Ha0 H X.sa0.heap s.heap
 loc:∃m,s.heap.Ns X.env.locals m/\∀(i:Nat)(x:Str)(v:V),X.N[i]?=Za x->O[i]?=Za (Za v)->Vis X.env.scope x->∃u,RelV v u/\Look X.env s.heap m x u
 cell:∀x c,X.env.cells.lookup x=Za c->∃v,s.heap.IsCell c v
 free:H X.env.locals=Zb
 freeC:∀x c,X.env.cells.lookup x=Za c->H c=Zb
 pin:∀p∈X.pn++Pf,s.heap.get? p.1=Za p.2/\H p.1=Zb/\p.1≠X.env.locals/\p.1∉X.fs/\∀v,p.2.data≠.cell v
 hok:HOk X.prog X.w H s.heap
 len:O.length=X.N.length
section
variable{X:Cx}{Pf:List (ak×Obj)}{O:List (Option V)}{H H':Hp}{s:ax}{h':bx}
def Cx.Ok.nofr(ok:X.Ok)(e:X.base.get? b=Za o):b∉X.fs:=λhb=>by have:=(ok.funs.mem hb).1;rw[e] at this;cases this
theorem Inv.bs(I:Inv X Pf O H s):∀b o,X.base.get? b=Za o->s.heap.get? b=Za o/\H b=none:=λb o e =>
 ⟨I.base.keep b o (I.ok.bs b o e).1 (I.ok.bs b o e).2 (I.ok.nofr e) (I.ok.noex b o e),I.base.free b o (I.ok.bs b o e).1 (I.ok.bs b o e).2 (I.ok.noex b o e)⟩
def Inv.bk(I:Inv X Pf O H s):∀b o,X.base.get? b=Za o->s.heap.get? b=Za o:=λb o e=>(I.bs b o e).1
theorem Inv.mod(I:Inv X Pf O H s):Mod X.K X.mg X.base:=I.ok.mod
def Inv.kIn(I:Inv X Pf O H s):X.K.In s.heap:=I.ok.mod.kin.keeps I.bk
theorem Inv.lt(I:Inv X Pf O H s):X.env.locals<s.heap.objs.size:=let⟨_,hn,_⟩:=I.loc;hn.lt
def Inv.sz(I:Inv X Pf O H s):X.sa0.heap.objs.size<=s.heap.objs.size:=aH I.ok.above (dM I.lt)
def Inv.nofs(I:Inv X Pf O H s)(h:s.heap.objs.size<=a):a∉X.fs:=λhb=>by obtain⟨_,o,ho,_⟩:=I.ok.funs.mem hb;exact absurd (aA (az ho) (aH I.sz h)) (dP _)
def Inv.cne(I:Inv X Pf O H s):∀x c,X.env.cells.lookup x=Za c->c≠X.env.locals:=λx c e z=>by obtain⟨v,o,ho,hd⟩:=I.cell x c e;obtain⟨m,⟨o',es,ep,Rt,Tw,_⟩,_⟩:=I.loc;rw[z,Rt] at ho;cases ho;rw[Tw] at hd;cases hd
theorem Inv.funs(I:Inv X Pf O H s):s.heap.FunFrames X.base X.outer:=by
 have all:∀(l:List Env),(∀b∈frs l,b∈X.fs)->X.sa0.heap.FunFrames X.base l->s.heap.FunFrames X.base l:=by
  intro l;induction l with
  |nil=>intro _ _;trivial
  |cons env r ih =>
   intro hs hl;obtain⟨hk,⟨L,o,hf,hn,ho,hd⟩,hr⟩:=hl;have hL:L∈X.fs:=hs L (by unfold frs;rw[eK,hf];exact ag);obtain⟨sl,e⟩:=I.base.slot L o ho (I.ok.frf L hL) hL λz=>I.ok.exfs L z hL;exact⟨hk,⟨L,_,hf,hn,e,hd⟩,ih (λb hb=>hs b (by unfold frs;rw[eK,hf];exact ae _ hb)) hr⟩
 exact all X.outer (λ_ hb=>hb) I.ok.funs
theorem Inv.stack(I:Inv X Pf O H s):s.heap.FunFrames X.base X.stack:=by
 rcases I.ok.stk with e|⟨e,hf⟩
 ·rw[e];exact I.funs
 ·rw[e];obtain⟨m,hn,_⟩:=I.loc;refine .cons (by rw[I.ok.kind];decide) hf hn ?_ I.funs;exact Heap.get?_none_of_le (aH I.ok.bsz I.ok.above)
def Inv.stkSub(I:Inv X Pf O H s):∀b∈frs X.stack,b∈X.env.locals::X.fs:=λb hb=>by
 rcases I.ok.stk with e|⟨e,hf⟩
 ·rw[e] at hb;exact ae _ hb
 ·rw[e] at hb;unfold frs at hb;rw[eK,hf] at hb;exact hb
def Inv.stkFree(I:Inv X Pf O H s):∀b∈frs X.stack,H b=none:=λb hb=>by
 rcases ah.mp (I.stkSub b hb) with e|hb
 ·rw[e];exact I.free
 ·obtain⟨_,o,ho,_⟩:=I.ok.funs.mem hb;exact I.base.free b o ho (I.ok.frf b hb) λz=>I.ok.exfs b z hb
def Inv.step{g':Array GenState}{t':Nat}{d':Drawn}{ch:List ak}(I:Inv X Pf O H s)(QZ:∀b∈ch,(b∈X.ex\/X.sa0.heap.objs.size<=b)/\b≠X.env.locals/\(∀x c,X.env.cells.lookup x=Za c->c≠b)/\∀p∈X.pn++Pf,p.1≠b)(keep:∀b o,b≠X.env.locals->b∉X.fs->b∉ch->s.heap.get? b=Za o->H b=Zb->h'.get? b=Za o)(slot:∀b o,b≠X.env.locals->b∈X.fs->b∉ch->s.heap.get? b=Za o->H b=Zb->∃sl,h'.get? b=Za { o with slots:=sl })(free:∀b o,b∉ch->s.heap.get? b=Za o->H b=Zb->H' b=Zb)(there:∀b o,b∉ch->s.heap.get? b=Za o->∃o',h'.get? b=Za o')(tups:∀b xs,H b=Za (.tup xs)->H' b=Za (.tup xs))(frzs:∀b o u,H b=Za (.frz o u)->H' b=Za (.frz o u))(tbls:∀b ps,H b=Za (.tbl ps)->∃more,H' b=Za (.tbl (ps++more)))(ns:∀m,s.heap.Ns X.env.locals m->h'.Ns X.env.locals m)(hok:HOk X.prog X.w H' h')(hg:gL g') :
  Inv X Pf O H' { s with heap:=h',gens:=g',drawn:=d',toks:=t' }:=by
 have neL:∀b o,X.sa0.heap.get? b=Za o->b≠X.env.locals:=λb o e=>aF (aA (az e) I.ok.above);have T8:∀b o,X.sa0.heap.get? b=Za o->b∉X.ex->b∉ch:=λb o e hx hb=>by
  rcases(QZ b hb).1 with z|z
  ·exact hx z
  ·exact absurd (aA (az e) z) (dP _)
 have RJ:∀x c,X.env.cells.lookup x=Za c->∀v,s.heap.IsCell c v->h'.IsCell c v:=λx c e v ⟨o,ho,hd⟩=>by
  have SX:c∉ch:=λz=>(QZ c z).2.2.1 x c e rfl;by_cases hc:c∈X.fs
  ·obtain⟨sl,q⟩:=slot c o (I.cne x c e) hc SX ho (I.freeC x c e);exact⟨_,q,hd⟩
  ·exact⟨o,keep c o (I.cne x c e) hc SX ho (I.freeC x c e),hd⟩
 refine⟨I.ok,I.os,hg,⟨λb o e n hb hx=>?_,λb o e n hb hx=>?_,λb o e n hx=>?_,λb o e hx=>?_,λb xs e=>tups b xs (I.base.tups b xs e),λb o xs e=>frzs b o xs (I.base.frzs b o xs e),λb ps e=>?_⟩,?_,λx c e=>?_,?_,λx c e=>?_,λp hp=>?_,hok,I.len⟩
 ·exact keep b o (neL b o e) hb (T8 b o e hx) (I.base.keep b o e n hb hx) (I.base.free b o e n hx)
 ·obtain⟨sl,e1⟩:=I.base.slot b o e n hb hx;obtain⟨sl',e2⟩:=slot b _ (neL b o e) hb (T8 b o e hx) e1 (I.base.free b o e n hx);exact⟨sl',e2⟩
 ·obtain⟨o',e1⟩:=I.base.there b o e hx;exact free b o' (T8 b o e hx) e1 (I.base.free b o e n hx)
 ·obtain⟨o',e1⟩:=I.base.there b o e hx;exact there b o' (T8 b o e hx) e1
 ·obtain⟨m1,e1⟩:=I.base.tbls b ps e;obtain⟨m2,e2⟩:=tbls b _ e1;exact⟨m1++m2,by rw[e2,la]⟩
 ·obtain⟨m,hn,hl⟩:=I.loc;refine⟨m,ns m hn,λi x v e1 e2 e3=>?_⟩;obtain⟨u,r,l⟩:=hl i x v e1 e2 e3;refine⟨u,r,?_⟩;rcases l with l|⟨k,c,e,z⟩
  ·exact .inl l
  ·exact .inr ⟨k,c,e,RJ x c e _ z⟩
 ·obtain⟨v,z⟩:=I.cell x c e;exact⟨v,RJ x c e v z⟩
 ·obtain⟨m,⟨o,_,_,ho,_⟩,_⟩:=I.loc;exact free _ o (λz=>(QZ _ z).2.1 rfl) ho I.free
 ·obtain⟨v,o,ho,hd⟩:=I.cell x c e;exact free c o (λz=>(QZ c z).2.2.1 x c e rfl) ho (I.freeC x c e)
 ·obtain⟨e,n,ne,nf,d⟩:=I.pin p hp;have SX:p.1∉ch:=λz=>(QZ p.1 z).2.2.2 p hp rfl;exact⟨keep p.1 p.2 ne nf SX e n,free p.1 p.2 SX e n,ne,nf,d⟩
def Inv.un{t':Nat}(I:Inv X Pf O H s)(u:Un X.fs [] H H' s.heap h')(hok:HOk X.prog X.w H' h'):Inv X Pf O H' { s with heap:=h',toks:=t' }:=by
 obtain⟨m,⟨o,es,ep,ho,r⟩,_⟩:=id I.loc;obtain⟨sl,hL⟩:=u.any ho I.free (by simp);exact I.step (g':=s.gens) (d':=s.drawn) (ch:=[]) (λ_ z=>nomatch z) (λb o _ hb _ e n=>u.keep b o e n hb (by simp)) (λb o _ hb _ e n=>u.slot b o e n hb (by simp)) (λb o _ e n=>u.free b o e n (by simp)) (λb o _ e=>u.there b o e (by simp)) u.tups u.frzs u.tbls (λm' hm=>by obtain⟨o',VA,Um,Rt,r'⟩:=hm;rw[ho] at Rt;cases Rt;exact⟨_,VA,Um,hL,r'⟩) hok I.bare
def Inv.call{g':Array GenState}{t':Nat}{d':Drawn}{ch:List ak}(I:Inv X Pf O H s)(u:Un (frs X.stack) ch H H' s.heap h')(hok:HOk X.prog X.w H' h')(hg:gL g')(QZ:∀b∈ch,(b∈X.ex\/X.sa0.heap.objs.size<=b)/\b≠X.env.locals/\(∀x c,X.env.cells.lookup x=Za c->c≠b)/\∀p∈X.pn++Pf,p.1≠b) :
  Inv X Pf O H' { s with heap:=h',gens:=g',drawn:=d',toks:=t' }:=by
 obtain⟨m,⟨o,es,ep,ho,r⟩,_⟩:=id I.loc;obtain⟨sl,hL⟩:=u.any ho I.free λz=>(QZ _ z).2.1 rfl;exact I.step (ch:=ch) QZ (λb o hL hb hc e n=>u.keep b o e n (λz=>(ah.mp (I.stkSub b z)).elim hL hb) hc) (λb o _ _ hc e n=>u.any e n hc) (λb o hc e n=>u.free b o e n hc) (λb o hc e=>u.there b o e hc) u.tups u.frzs u.tbls (λm' hm=>by obtain⟨o',VA,Um,Rt,r'⟩:=hm;rw[ho] at Rt;cases Rt;exact⟨_,VA,Um,hL,r'⟩) hok hg
def Inv.turned{t':Nat}{it:ak}(I:Inv X Pf O H s)(k:∀b o,b≠it->s.heap.get? b=Za o->h'.get? b=Za o)(hn:H it=Zb)(hL:it≠X.env.locals)(h1:it∈X.ex\/X.sa0.heap.objs.size<=it)(h2:∀x c,X.env.cells.lookup x=Za c->c≠it)(h3:∀p∈X.pn++Pf,p.1≠it):Inv X Pf O H { s with heap:=h',toks:=t' }:=by
 have Q3:∀b u,H b=Za u->b≠it:=λb u e z=>by rw[z,hn] at e;cases e
 refine I.step (g':=s.gens) (d':=s.drawn) (ch:=[it]) (λb hb=>?_) (λb o _ _ hc e _=>k b o (λz=>hc (by simp[z])) e) (λb o _ _ hc e _=>⟨o.slots,k b o (λz=>hc (by simp[z])) e⟩) (λ_ _ _ _ n=>n)
  (λb o hc e=>⟨o,k b o (λz=>hc (by simp[z])) e⟩) (λ_ _ e=>e) (λ_ _ _ e=>e) (λb ps e=>⟨#[],by rw[e];simp⟩) (λm hm=>?_) (λb u e=>?_) I.bare
 ·have e:b=it:=by simpa using hb
  subst e;exact⟨h1,hL,h2,h3⟩
 ·obtain⟨o,es,ep,ho,r⟩:=hm;exact⟨o,es,ep,k _ o (bY hL) ho,r⟩
 ·refine(I.hok b u e).stay (λc v hc q=>k c v ?_ q) (λ_ q=>q) λ_ _ q=>q;rcases hc with z|z
  ·rw[z];exact Q3 b u e
  ·exact Q3 c _ z
def Inv.tok(I:Inv X Pf O H s)(t):Inv X Pf O H { s with toks:=t }:=I.un (h':=s.heap) (t':=t) Un.refl I.hok
theorem Inv.kept(I:Inv X Pf O H s)(k:∀b u,s.heap.get? b=Za u->h'.get? b=Za u):Inv X Pf O H { s with heap:=h',toks:=t' }:=I.un (Un.kept k) (I.hok.kept k)
theorem Inv.laid(I:Inv X Pf O H s)(k:∀b u,s.heap.get? b=Za u->h'.get? b=Za u)(hp:s.heap.objs.size<=a)(new:ObjOk X.prog X.w (upd H a o) h' a o) :
  Inv X Pf O (upd H a o) { s with heap:=h',toks:=t' }:=I.un (Un.laid k hp (I.hok.fresh hp)) (I.hok.laid k hp new)
theorem Inv.write(I:Inv X Pf O H s)(mu:Mut (H x))(he:e=x\/H e=Za (.own x))(k:∀b u,b≠e->s.heap.get? b=Za u->h'.get? b=Za u)(Sx:∃u,h'.get? e=Za u)(new:ObjOk X.prog X.w (upd H x o) h' x o):Inv X Pf O (upd H x o) { s with heap:=h',toks:=t' }:=I.un (Un.write mu he k Sx) (I.hok.write mu he k Sx new)
def Inv.pins_of(I:Inv X Pf O H s)(h:∀p∈pins',s.heap.get? p.1=Za p.2/\H p.1=Zb/\p.1≠X.env.locals/\p.1∉X.fs/\∀v,p.2.data≠.cell v):Inv X pins' O H s :=
 ⟨I.ok,I.os,I.bare,I.base,I.loc,I.cell,I.free,I.freeC,λp hp=>(aL.mp hp).elim (λz=>I.pin p (bj _ z)) (h p),I.hok,I.len⟩
def DU{N:List Str}(hN:N.Nodup){i j:Nat}{x:Str}(a:N[i]?=Za x)(b:N[j]?=Za x):i=j:=by obtain⟨h1,e1⟩:=aW.mp a;obtain⟨h2,e2⟩:=aW.mp b;exact(List.getElem_inj hN).mp (e1.trans e2.symm)
def wQ{M:Model}{A:cA}{E:ai->ax->Prop}{i:Nat}{x:Str}{v:V}{u:ai}{Q:Unit->ax->Prop}(I:Inv X Pf O H s)(hN:X.N.Nodup)(hi:X.N[i]?=Za x)(hx:Loc X.env.scope x)(r:RelV v u)(h:∀s',Inv X Pf (O.set i (Za v)) H s'->(∃a,iV a s.heap s'.heap/\(a=X.env.locals\/X.env.cells.lookup x=Za a))->Q () s')(hf:X.fn x=true\/X.env.scope.names.lookup x=Za .local:=by first|exact .inl rfl|exact .inr rfl|assumption):aS M A (storeName X.env x u) Q E s:=by
 obtain⟨m,hn,hl⟩:=id I.loc;have Vl:(X.env.scope.kind==.class||(X.env.scope.kind==.module&&X.env.locals != X.env.globals))=false:=by rw[I.ok.kind];rfl
 have hiσ:i<O.length:=by rw[I.len];exact(aW.mp hi).1
 have cne:=I.cne;have QF:∀{a:ak}{h':bx},(∃o,s.heap.get? a=Za o/\H a=Zb)->iV a s.heap h'->HOk X.prog X.w H h':=λ{a h'} ha hs b ob e=>by
  obtain⟨_,_,RG⟩:=ha;refine(I.hok b ob e).stay (λc w' hc q=>(hs.2 c ?_).trans q) (λ_ q=>q) λ_ _ q=>q
  rintro rfl
  rcases hc with rfl|hc
  ·rw[RG] at e;cases e
  ·rw[RG] at hc;cases hc
 rcases hx with hk|hk
 ·refine wpAny_storeName_local hk hn (λh' Q4 hs=>?_) Vl;obtain⟨oL,_,_,Te,_⟩:=id hn;refine h _ ⟨I.ok,I.os,I.bare,⟨λb o e n hb hx=>?_,λb o e n hb hx=>?_,I.base.free,λb o e hx=>?_,I.base.tups,I.base.frzs,I.base.tbls⟩,⟨_,Q4,λj y v' e1 e2 e3=>?_⟩,λy c e=>?_,I.free,I.freeC,λp hp=>?_,QF ⟨oL,Te,I.free⟩ hs,by simpa using I.len⟩ ⟨_,hs,.inl rfl⟩
  ·exact(hs.2 b (aF (aA (az e) I.ok.above))).trans (I.base.keep b o e n hb hx)
  ·obtain⟨sl,e1⟩:=I.base.slot b o e n hb hx;exact⟨sl,(hs.2 b (aF (aA (az e) I.ok.above))).trans e1⟩
  ·obtain⟨o',e1⟩:=I.base.there b o e hx;exact⟨o',(hs.2 b (aF (aA (az e) I.ok.above))).trans e1⟩
  ·by_cases hj:j=i
   ·subst hj;rw[hi] at e1;cases e1;rw[kq hiσ] at e2;cases e2;exact⟨u,r,.inl ⟨hk,by simp⟩⟩
   ·rw[kO (bY hj)] at e2;obtain⟨u',r',q⟩:=hl j y v' e1 e2 e3;refine⟨u',r',?_⟩;rcases q with⟨k,e⟩|⟨k,c,e,z⟩
    ·refine .inl ⟨k,?_⟩;have:y≠x:=λe=>hj (DU hN e1 (e▸hi));simp[this,e]
    ·exact .inr ⟨k,c,e,z.sameBut hs (cne y c e)⟩
  ·obtain⟨w',z⟩:=I.cell y c e;exact⟨w',z.sameBut hs (cne y c e)⟩
  ·obtain⟨e,n,ne,nf,d⟩:=I.pin p hp;exact⟨(hs.2 p.1 ne).trans e,n,ne,nf,d⟩
 ·have QP:X.fn x=true:=by
   rcases hf with z|z
   ·exact z
   ·rw[z] at hk;cases hk
  obtain⟨c,hc⟩:=I.ok.has x (.inl hk);obtain⟨w',z⟩:=I.cell x c hc;refine wpAny_storeName_cell I.ok.kind hk hc z (λh' hc' hs=>?_);obtain⟨oc,hoc,U5⟩:=id z;refine h { s with heap:=h' } ⟨I.ok,I.os,I.bare,⟨λb o e n hb hx=>?_,λb o e n hb hx=>?_,I.base.free,λb o e hx=>?_,I.base.tups,I.base.frzs,I.base.tbls⟩,⟨m,hn.sameBut hs (bY (cne x c hc)),λj y v' e1 e2 e3=>?_⟩,λy c' e=>?_,I.free,I.freeC,λp hp=>?_,QF ⟨oc,hoc,I.freeC x c hc⟩ hs,by simpa using I.len⟩ ⟨c,hs,.inr hc⟩
  ·exact(hs.2 b (aF (aA (az e) (I.ok.cab x c QP hc)))).trans (I.base.keep b o e n hb hx)
  ·obtain⟨sl,e1⟩:=I.base.slot b o e n hb hx;exact⟨sl,(hs.2 b (aF (aA (az e) (I.ok.cab x c QP hc)))).trans e1⟩
  ·obtain⟨o',e1⟩:=I.base.there b o e hx;exact⟨o',(hs.2 b (aF (aA (az e) (I.ok.cab x c QP hc)))).trans e1⟩
  ·by_cases hj:j=i
   ·subst hj;rw[hi] at e1;cases e1;rw[kq hiσ] at e2;cases e2;exact⟨u,r,.inr ⟨.inl hk,c,hc,hc'⟩⟩
   ·rw[kO (bY hj)] at e2;obtain⟨u',r',q⟩:=hl j y v' e1 e2 e3;refine⟨u',r',?_⟩;rcases q with q|⟨k,c',e,z'⟩
    ·exact .inl q
    ·refine .inr ⟨k,c',e,z'.sameBut hs ?_⟩
     rintro rfl
     exact hj (DU hN e1 (I.ok.inj _ _ _ e hc▸hi))
  ·by_cases hcc:c'=c
   ·subst hcc;exact⟨_,hc'⟩
   ·obtain⟨w2,z2⟩:=I.cell y c' e;exact⟨w2,z2.sameBut hs hcc⟩
  ·obtain⟨e,n,ne,nf,d⟩:=I.pin p hp;refine⟨(hs.2 p.1 ?_).trans e,n,ne,nf,d⟩;intro q;rw[q,hoc] at e;have q':oc=p.2:=aO e;exact d w' (by rw[<-q'];exact U5)
def uk(I:Inv X Pf O H s)(hN:X.N.Nodup)(hi:X.N[i]?=Za x)(hx:Loc X.env.scope x)(r:RelV v u)(h:∀s',Inv X Pf (O.set i (Za v)) H s'->Q () s')(hf:X.fn x=true\/X.env.scope.names.lookup x=Za .local:=by first|exact .inl rfl|exact .inr rfl|assumption):aS M A (storeName X.env x u) Q E s :=
 wQ I hN hi hx r (λs' I' _=>h s' I') hf
def Inv.call'(I:Inv X Pf O H s)(ho:s'.os=s.os)(u:Un (frs X.stack) ch H H' s.heap s'.heap)(hok:HOk X.prog X.w H' s'.heap)(hg:gL s'.gens)(QZ:∀b∈ch,(b∈X.ex\/X.sa0.heap.objs.size<=b)/\b≠X.env.locals/\(∀x c,X.env.cells.lookup x=Za c->c≠b)/\∀p∈X.pn++Pf,p.1≠b):Inv X Pf O H' s':=by
 obtain⟨h',g',d',t',o'⟩:=s';have e:o'=s.os:=ho;subst e;exact I.call (g':=g') (t':=t') (d':=d') u hok hg QZ
end
abbrev XK:=ai->Option ak->Hp->Prop
abbrev St:=List (Option V)
abbrev VK:=V->Hp->Prop
abbrev TE:=St->Hp->VK->Prop
abbrev TT:=St->Hp->(Bool->Hp->Prop)->Prop
abbrev TA:=St->Hp->(List V->Hp->Prop)->Prop
structure Ends where
 nx:St->Hp->Prop
 rt:VK
 bk:St->Hp->Prop:=λ_ _=>False
 ct:St->Hp->Prop:=λ_ _=>False
abbrev TS:=Ends->St->Hp->Prop
def EP(X:Cx)(Pf:List (ak×Obj))(O:St)(Q:VK)(u:ai)(s':ax):Prop:=∃v H',Inv X Pf O H' s'/\RelV v u/\Q v H'
def TP(X:Cx)(Pf:List (ak×Obj))(O:St)(Q:Bool->Hp->Prop)(b:Bool)(s':ax):Prop:=∃H',Inv X Pf O H' s'/\Q b H'
def AP(X:Cx)(Pf:List (ak×Obj))(O:St)(Q:List V->Hp->Prop)(us:List ai)(s':ax):Prop:=∃vs H',Inv X Pf O H' s'/\Vals vs us/\Q vs H'
def SP(X:Cx)(Pf:List (ak×Obj))(D:Ends)(f:Flow)(s':ax):Prop :=
 match f with
 |.next=>∃σ' H',Inv X Pf σ' H' s'/\D.nx σ' H'
 |.brk=>∃σ' H',Inv X Pf σ' H' s'/\D.bk σ' H'
 |.cont=>∃σ' H',Inv X Pf σ' H' s'/\D.ct σ' H'
 |.ret u=>∃v σ' H',Inv X Pf σ' H' s'/\RelV v u/\D.rt v H'
def PE(X:Cx)(e:bo)(t:TE):Prop :=
 ∀(Pf:List (ak×Obj))(s:ax)(O:St)(H:Hp)(Q:VK),Inv X Pf O H s->t O H Q->aS (model X.prog X.w) X.A (eval e X.env) (EP X Pf O Q) X.xe s
def PT(X:Cx)(e:bo)(t:TT):Prop :=
 ∀(Pf:List (ak×Obj))(s:ax)(O:St)(H:Hp)(Q:Bool->Hp->Prop),Inv X Pf O H s->t O H Q->aS (model X.prog X.w) X.A (isTrue e X.env (eval e X.env)) (TP X Pf O Q) X.xe s
def PW(X:Cx)(e:bo)(t:TT):Prop :=
 ∀(whole:Sem ai)(Pf:List (ak×Obj))(s:ax)(O:St)(H:Hp)(Q:Bool->Hp->Prop),Inv X Pf O H s->t O H Q->aS (model X.prog X.w) X.A (isTrue e X.env whole) (TP X Pf O Q) X.xe s
def PW.pt(h:PW X e t):PT X e t:=h _
def PA(X:Cx)(es:List bo)(t:TA):Prop :=
 ∀(pos:Pos)(Pf:List (ak×Obj))(s:ax)(O:St)(H:Hp)(Q:List V->Hp->Prop),Inv X Pf O H s->t O H Q->aS (model X.prog X.w) X.A (spliced (b5 pos (aB es X.env))) (AP X Pf O Q) X.xe s
def PS(X:Cx)(st:bR)(t:TS):Prop :=
 ∀(Pf:List (ak×Obj))(s:ax)(O:St)(H:Hp)(D:Ends),Inv X Pf O H s->t D O H->aS (model X.prog X.w) X.A (exec st X.env) (SP X Pf D) X.xe s
def PSs(X:Cx)(st:List bR)(t:TS):Prop :=
 ∀(Pf:List (ak×Obj))(s:ax)(O:St)(H:Hp)(D:Ends),Inv X Pf O H s->t D O H->aS (model X.prog X.w) X.A (execs st X.env) (SP X Pf D) X.xe s
def e4b{α β:Sort _}{p q:α->β->Prop}{R:Prop}(k:∀x y,p x y->q x y->R)(h:∃x y,p x y/\q x y):R:=h.elim λx h=>h.elim λy h=>k x y h.1 h.2
def e4{α β:Sort _}{p q r:α->β->Prop}{R:Prop}(k:∀x y,p x y->q x y->r x y->R)(h:∃x y,p x y/\q x y/\r x y):R:=h.elim λx h=>h.elim λy h=>k x y h.1 h.2.1 h.2.2
def e3{α:Sort _}{p q:α->Prop}{R:Prop}(k:∀x,p x->q x->R)(h:∃x,p x/\q x):R:=h.elim λx h=>k x h.1 h.2
def thn(h:aS M A t Q E s)(hQ:∀a s,Q a s->Q' a s):aS M A t Q' E s:=bN h hQ λ_ _ x=>x
section
variable{X:Cx}
def HW(i:Nat):TE:=λO H Q=>∃v,O[i]?=Za (Za v)/\Q v H
def tC(v:V):TE:=λ_ H Q=>Q v H
abbrev NDb(x:Str):Prop:=(x==("__debug__":Str))=false
def JQ(hN:X.N[i]?=Za x)(hv:Vis X.env.scope x)(hd:NDb x:=by decide)(QA:(x==("__classdict__":Str))=false:=by decide):PE X (.Name x pos) (HW i):=by
 intro Pf s O H Q I h;obtain⟨v,e,h⟩:=h;obtain⟨m,hn,hl⟩:=I.loc;obtain⟨u,r,l⟩:=hl i x v hN e hv;have PX:EP X Pf O Q u s:=⟨v,H,I,r,h⟩;rcases l with⟨hk,hm⟩|⟨hk,c,hc,P7⟩
 ·exact wpAny_Name (wpAny_loadName_local I.ok.kind hk hn hm PX) hd
 ·rcases hk with hk|hk
  ·exact wpAny_Name (wpAny_loadName_cell I.ok.kind hk hc P7 PX) hd
  ·exact wpAny_Name (wpAny_loadName_free I.ok.kind hk hc P7 PX QA) hd
def pe_int{i j pos}:PE X (.Constant (.int i) j pos) (tC (.int i)):=λ_ _ _ H _ I h=>wpAny_Constant_int ⟨.int i,H,I.tok _,⟨_,rfl⟩,h⟩
def pe_bl{b j pos}:PE X (.Constant (.bool b) j pos) (tC (.bl b)):=λ_ _ _ H _ I h=>Constant_bool ⟨.bl b,H,I,rfl,h⟩
def pe_str{x j pos}:PE X (.Constant (.str x) j pos) (tC (.str x)):=λ_ _ _ H _ I h=>kZ ⟨.str x,H,I.tok _,⟨_,rfl⟩,h⟩
def Gl(X:Cx)(x:Str):Prop:=X.env.kindOf x=Za .globalImplicit
def wD(I:Inv X Pf O H s)(hg:Gl X x)(hm:X.mg x=Za u)(h:Q u s)(hd:NDb x:=by decide):aS (model X.prog X.w) X.A (eval (.Name x pos) X.env) Q E s :=
 jv I.ok.kind hg (Calls.loadGlobal_global (by rw[I.ok.glob];exact I.mod.glob.keeps I.bk) hm h) hd
def Av(I:Inv X Pf O H s)(hg:Gl X x)(hm:X.mg x=Zb)(hv:bP x=Za u)(h:Q u s)(hn:x≠"__name__":=by decide)(hd:NDb x:=by decide):aS (model X.prog X.w) X.A (eval (.Name x pos) X.env) Q E s:=by
 obtain⟨mb,h1,h2⟩:=I.mod.blt;exact jv I.ok.kind hg (Calls.loadGlobal_builtin (by rw[I.ok.glob];exact I.mod.glob.keeps I.bk) hm (by rw[I.ok.blt];exact h1.keeps I.bk) ((h2 x hn).trans hv) h) hd
def rn(hg:Gl X x)(hm:X.mg x=Za u)(r:RelV v u)(hd:NDb x:=by decide):PE X (.Name x pos) (tC v) :=
 λ_ _ _ H _ I h=>wD I hg hm ⟨v,H,I,r,h⟩ hd
variable{a b:bo}{ta tb:TE}{pos:Pos}
def PC(X:Cx)(op:CmpOp)(a b:bo)(t:TE):Prop :=
 ∀(Pf:List (ak×Obj))(s:ax)(O:St)(H:Hp)(Q:VK),Inv X Pf O H s->t O H Q ->
  aS (model X.prog X.w) X.A (eval a X.env) (λv Ps=>aS (model X.prog X.w) X.A (eval b X.env) (λu Qy=>aS (model X.prog X.w) X.A (bS op v u) (EP X Pf O Q) X.xe Qy) X.xe Ps) X.xe s
def IQ(b)(h:op≠.In)(h2:op≠.NotIn):cR op b=false:=by
 have e1:(op==CmpOp.In)=false:=by cases op<;>first|rfl|exact absurd rfl h
 have e2:(op==CmpOp.NotIn)=false:=by cases op<;>first|rfl|exact absurd rfl h2
 cases b<;>simp[cR,e1,e2]
def tB(t:TE):TT:=λO H Q=>t O H λx H1=>∃c,x=.bl c/\Q c H1
def JS(h:PC X op a b t)(h1:cR op b=false:=by first|exact IQ _ (by decide) (by decide)|rfl):PE X (.Compare a [op] [b] pos) t:=λPf s O H Q I hw=>wpAny_Compare1 (h Pf s O H Q I hw) h1
def vN(h:PE X e t)(he:∀whole,isTrue e X.env whole=(do let v <-whole;gc e.pos;holding [v] (truthy v)):=by intro _;rfl):PT X e (tB t):=by intro Pf s O H Q I hw;refine isTrue_plain (thn (h Pf s O H _ I hw) λv s1=>e4 λx H1 I1 r1 q1=>?_) (he _);obtain⟨d,rfl,q⟩:=q1;cases r1;exact ej ⟨H1,I1,q⟩
variable{tA TU:TT}{pQ:List bo}
def tAnd(t u:TT):TT:=λO H Q=>t O H λc H1=>if c=true then u O H1 Q else Q false H1
def tOr(t u:TT):TT:=λO H Q=>t O H λc H1=>if c=true then Q true H1 else u O H1 Q
def tNot(t:TT):TT:=λO H Q=>t O H λc H1=>Q (!c) H1
def Lb(ha:PT X a tA):PW X (.BoolOp .And [a] pos) tA:=by
 intro wh Pf s O H Q I h;refine isTrue_and (thn (ha Pf s O H Q I h) λc s1 e=>?_);cases c with
 |true=>exact isTrue_and_nil e
 |false=>exact e
def JO(ha:PT X a tA):PW X (.BoolOp .Or [a] pos) tA:=by
 intro wh Pf s O H Q I h;refine isTrue_or (thn (ha Pf s O H Q I h) λc s1 e=>?_);cases c with
 |false=>exact isTrue_or_nil e
 |true=>exact e
def NQ(ha:PT X a tA)(hb:PW X (.BoolOp .And (b::pQ) pos) TU):PW X (.BoolOp .And (a::b::pQ) pos) (tAnd tA TU):=by
 intro wh Pf s O H Q I h;refine isTrue_and (thn (ha Pf s O H _ I h) λc s1=>e3 λH1 I1 q1=>?_);cases c with
 |true=>exact hb wh Pf s1 O H1 Q I1 q1
 |false=>exact⟨H1,I1,q1⟩
def M6(ha:PT X a tA)(hb:PW X (.BoolOp .Or (b::pQ) pos) TU):PW X (.BoolOp .Or (a::b::pQ) pos) (tOr tA TU):=by
 intro wh Pf s O H Q I h;refine isTrue_or (thn (ha Pf s O H _ I h) λc s1=>e3 λH1 I1 q1=>?_);cases c with
 |true=>exact⟨H1,I1,q1⟩
 |false=>exact hb wh Pf s1 O H1 Q I1 q1
def Ai(ha:PT X a tA):PT X (.UnaryOp .Not a pos) (tNot tA):=by intro Pf s O H Q I h;exact isTrue_not (ha Pf s O H (λc H1=>Q (!c) H1) I h)
def tAndV(ta tb:TE):TE:=λO H Q=>ta O H λx H1=>∃c,x=.bl c/\if c=true then tb O H1 Q else Q (.bl false) H1
def tOrV(ta tb:TE):TE:=λO H Q=>ta O H λx H1=>∃c,x=.bl c/\if c=true then Q (.bl true) H1 else tb O H1 Q
def Fm{op}{t}(h:PE X a t):PE X (.BoolOp op [a] pos) t:=λPf s O H Q I hw=>BoolOp_one (h Pf s O H Q I hw)
def JT(ha:PE X a ta)(hb:PE X (.BoolOp .And (b::pQ) pos) tb):PE X (.BoolOp .And (a::b::pQ) pos) (tAndV ta tb):=by
 intro Pf s O H Q I h;refine BoolOp_and (thn (ha Pf s O H _ I h) λv s1=>e4 λx H1 I1 r1 q1=>?_);obtain⟨c,rfl,q1⟩:=q1;cases r1;refine ej ?_;cases c with
 |true=>exact hb Pf s1 O H1 Q I1 q1
 |false=>exact⟨.bl false,H1,I1,rfl,q1⟩
def pe_or(ha:PE X a ta)(hb:PE X (.BoolOp .Or (b::pQ) pos) tb):PE X (.BoolOp .Or (a::b::pQ) pos) (tOrV ta tb):=by
 intro Pf s O H Q I h;refine BoolOp_or (thn (ha Pf s O H _ I h) λv s1=>e4 λx H1 I1 r1 q1=>?_);obtain⟨c,rfl,q1⟩:=q1;cases r1;refine ej ?_;cases c with
 |false=>exact hb Pf s1 O H1 Q I1 q1
 |true=>exact⟨.bl true,H1,I1,rfl,q1⟩
def tIf(t:TT)(ta tb:TE):TE:=λO H Q=>t O H λc H1=>if c=true then ta O H1 Q else tb O H1 Q
def IF(hc:PT X c tA)(ha:PE X a ta)(hb:PE X b tb):PE X (.IfExp c a b pos) (tIf tA ta tb):=by
 intro Pf s O H Q I h;refine wpAny_IfExp (thn (hc Pf s O H _ I h) λd s1=>e3 λH1 I1 q1=>?_);cases d with
 |true=>exact ha Pf s1 O H1 Q I1 q1
 |false=>exact hb Pf s1 O H1 Q I1 q1
end
def SqL(K:aa)(H:Hp)(a:ak)(xs:List V):Prop :=
 Rd H a (.lst xs) \/
  ∃(o:Obj)(its:Array ai)(n:Nat),K.lookup a=Za o/\o.cls=.type "list"/\o.dict=Zb/\o.data=.seq its n/\its.size<=aI/\Vals xs its.toList
def SqT(K:aa)(H:Hp)(a:ak)(xs:List V):Prop :=
 Rd H a (.tup xs) \/
  ∃(o:Obj)(its:Array ai)(n:Nat),K.lookup a=Za o/\o.cls=.type "tuple"/\o.data=.seq its n/\its.size<=aI/\Vals xs its.toList
def absV:ai->Option V
 |.none=>Za .non
 |.bool b=>Za (.bl b)
 |.int i _=>Za (.int i)
 |.str x _=>Za (.str x)
 |.bytes b _=>Za (.byt b)
 |.float b _=>Za (.flt b)
 |.ref a=>Za (.ref a)
 |.type n=>Za (.ty n)
 |_=>Zb
def RelV.abs(r:RelV x u):absV u=Za x:=by
 cases x with
 |non=>cases r;rfl
 |bl _=>cases r;rfl
 |int _=>obtain⟨t,rfl⟩:=r;rfl
 |str _=>obtain⟨t,rfl⟩:=r;rfl
 |byt _=>obtain⟨t,rfl⟩:=r;rfl
 |flt _=>obtain⟨t,rfl⟩:=r;rfl
 |ref _=>cases r;rfl
 |ty _=>cases r;rfl
def RelV.inj(r:RelV x u)(q:RelV y u):x=y:=aO (r.abs.symm.trans q.abs)
theorem Vals.inj:∀{xs ys:List V}{us:List ai},Vals xs us->Vals ys us->xs=ys
 |_,_,_,.nil,.nil=>rfl
 |_,_,_,.cons r t,.cons r' t'=>by rw[r.inj r',Vals.inj t t']
section
variable{X:Cx}{Pf:List (ak×Obj)}{O:St}{H:Hp}{s:ax}{a:ak}{xs ys:List V}
def SqL.of{K}(h:H a=Za (.lst xs)):SqL K H a xs:=.inl (.inl h)
def SqT.of{K}(h:H a=Za (.tup xs)):SqT K H a xs:=.inl (.inl h)
def Inv.list(I:Inv X Pf O H s)(h:SqL X.K H a xs):∃its:List ai,Vals xs its/\PlainL s.heap a its.toArray/\xs.length<=aI:=by
 rcases h with h|⟨o,its,n,hk,hc,hd,hs,hz,r⟩
 ·obtain⟨z,its,n,r,e⟩:=h.ok I.hok;exact⟨its,r,⟨_,n,e,rfl,rfl,rfl⟩,z⟩
 ·refine⟨its.toList,r,⟨o,n,I.kIn a o hk,hc,hd,by simpa using hs⟩,?_⟩;have e:=r.length;simp only[fP] at e;lia
def Inv.tuple(I:Inv X Pf O H s)(h:SqT X.K H a xs):∃its:List ai,Vals xs its/\IsTup s.heap a its.toArray/\xs.length<=aI:=by
 rcases h with h|⟨o,its,n,hk,hc,hs,hz,r⟩
 ·obtain⟨z,its,r,p⟩:=h.ok I.hok;exact⟨its,r,p,z⟩
 ·refine⟨its.toList,r,⟨o,I.kIn a o hk,hc,n,by simpa using hs⟩,?_⟩;have e:=r.length;simp only[fP] at e;lia
def Inv.list_inj(I:Inv X Pf O H s)(h:SqL X.K H a xs)(h':SqL X.K H a ys):xs=ys:=by
 obtain⟨its,r,⟨o,n,e,_,_,d⟩,_⟩:=I.list h;obtain⟨its',r',⟨o',n',e',_,_,d'⟩,_⟩:=I.list h';rw[e] at e';cases e';rw[d] at d';injection d' with d1 _
 have:its=its':=by simpa using congrArg Array.toList d1
 subst this;exact r.inj r'
def Inv.tuple_inj(I:Inv X Pf O H s)(h:SqT X.K H a xs)(h':SqT X.K H a ys):xs=ys:=by
 obtain⟨its,r,⟨o,e,_,n,d⟩,_⟩:=I.tuple h;obtain⟨its',r',⟨o',e',_,n',d'⟩,_⟩:=I.tuple h';rw[e] at e';cases e';rw[d] at d';injection d' with d1 _
 have:its=its':=by simpa using congrArg Array.toList d1
 subst this;exact r.inj r'
end
abbrev Cx.wish(X:Cx)(E:ai->ax->Prop):Cx:={ X with xe:=E }
abbrev Cx.nox(X:Cx):Cx:=X.wish λ_ _=>False
theorem Cx.Ok.wish{X:Cx}(ok:X.Ok)(E:ai->ax->Prop):(X.wish E).Ok :=
 ⟨ok.mod,ok.kind,ok.glob,ok.blt,ok.above,ok.inj,ok.has,ok.cab,ok.hd,ok.frames,ok.stk,ok.exf,ok.bs,ok.bsz,ok.noex,ok.exfs,ok.funs,ok.frf⟩
def Cx.Ok.unwish{X:Cx}{E:ai->ax->Prop}(ok:(X.wish E).Ok):X.Ok :=
 ⟨ok.mod,ok.kind,ok.glob,ok.blt,ok.above,ok.inj,ok.has,ok.cab,ok.hd,ok.frames,ok.stk,ok.exf,ok.bs,ok.bsz,ok.noex,ok.exfs,ok.funs,ok.frf⟩
section
variable{X:Cx}{Pf:List (ak×Obj)}{O:St}{H:Hp}{s:ax}{E:ai->ax->Prop}
theorem Inv.wish(I:Inv X Pf O H s)(E:ai->ax->Prop):Inv (X.wish E) Pf O H s:=⟨I.ok.wish E,I.os,I.bare,I.base,I.loc,I.cell,I.free,I.freeC,I.pin,I.hok,I.len⟩
theorem Inv.unwish(I:Inv (X.wish E) Pf O H s):Inv X Pf O H s:=⟨I.ok.unwish,I.os,I.bare,I.base,I.loc,I.cell,I.free,I.freeC,I.pin,I.hok,I.len⟩
theorem SP.unwish(h:SP (X.wish E) Pf D f s'):SP X Pf D f s':=by
 cases f with
 |next=>obtain⟨σ',H',I,q⟩:=h;exact⟨σ',H',I.unwish,q⟩
 |brk=>obtain⟨σ',H',I,q⟩:=h;exact⟨σ',H',I.unwish,q⟩
 |cont=>obtain⟨σ',H',I,q⟩:=h;exact⟨σ',H',I.unwish,q⟩
 |ret u=>obtain⟨v,σ',H',I,r,q⟩:=h;exact⟨v,σ',H',I.unwish,r,q⟩
theorem PSs.nox{st}{t}(h:PSs X.nox st t):PSs X st t:=λPf s O H D I hw =>
 bN (h Pf s O H D (I.wish _) hw) (λ_ _ q=>q.unwish) λ_ _ z=>bT z
end
section
variable{X:Cx}{st:bR}{pQ:List bR}{t u:TS}{e:bo}{te:TE}{pos:Pos}
def tNext:TS:=λD O H=>D.nx O H
def tSeq(t u:TS):TS:=λD O H=>t { D with nx:=u D } O H
def pss_nil:PSs X [] tNext:=λ_ _ O H _ I h=>iA ⟨O,H,I,h⟩
def lW(h1:PS X st t)(h2:PSs X pQ u):PSs X (st::pQ) (tSeq t u):=by
 intro Pf s O H D I h;refine wpAny_execs_cons (thn (h1 Pf s O H { D with nx:=u D } I h) λf s1 q=>?_);cases f with
 |next =>
  obtain⟨σ',H',I',q⟩:=q;exact h2 Pf s1 σ' H' D I' q
 |ret v=>exact q
 |brk=>exact q
 |cont=>exact q
def ma(h1:PS X st t):PSs X [st] t:=by
 intro Pf s O H D I h;refine wpAny_execs_cons (thn (h1 Pf s O H D I h) λf s1 q=>?_);cases f with
 |next=>exact iA q
 |ret v=>exact q
 |brk=>exact q
 |cont=>exact q
def Inv.quiet(I:Inv X Pf O H s):interactive X.env=false:=by simp[interactive,I.ok.kind]
def tDrop(te:TE):TS:=λD O H=>te O H λ_ H1=>D.nx O H1
def nN(he:PE X e te)(hs:dL e Zb pos.line X.env=pure false:=by rfl):PS X (.Expr e pos) (tDrop te):=by intro Pf s O H D I h;exact wpAny_Expr_any (thn (he Pf s O H _ I h) λv s1=>e4 λx H1 I1 r1 q1=>⟨O,H1,I1,q1⟩) I.quiet hs
def tRet(te:TE):TS:=λD O H=>te O H D.rt
def qp(he:PE X e te):PS X (.Return (Za e) pos) (tRet te):=by intro Pf s O H D I h;exact wpAny_Return_some (thn (he Pf s O H _ I h) λv s1=>e4 λx H1 I1 r1 q1=>⟨x,O,H1,I1,r1,q1⟩)
def tRetN:TS:=λD _ H=>D.rt .non H
def ps_retN:PS X (.Return Zb pos) tRetN:=λ_ _ O H _ I h=>wpAny_Return_none ⟨.non,O,H,I,rfl,h⟩
def tIfS(c:TT)(t u:TS):TS:=λD O H=>c O H λb H1=>if b=true then t D O H1 else u D O H1
def wb{c}{a b}{tc}(hc:PT X c tc)(ha:PSs X a t)(hb:PSs X b u):PS X (.If c a b pos) (tIfS tc t u):=by
 intro Pf s O H D I h;refine wpAny_If (thn (hc Pf s O H _ I h) λd s1=>e3 λH1 I1 q1=>?_);cases d with
 |true=>exact ha Pf s1 O H1 D I1 q1
 |false=>exact hb Pf s1 O H1 D I1 q1
abbrev TG:=V->St->Hp->(St->Hp->Prop)->Prop
abbrev TGs:=List V->St->Hp->(St->Hp->Prop)->Prop
def PG(X:Cx)(Qa:bo)(t:TG):Prop :=
 ∀(Pf:List (ak×Obj))(s:ax)(O:St)(H:Hp)(v:V)(u:ai)(Q:St->Hp->Prop),Inv X Pf O H s->RelV v u->t v O H Q ->
  aS (model X.prog X.w) X.A (assign Qa X.env u) (λ_ s'=>∃σ' H',Inv X Pf σ' H' s'/\Q σ' H') X.xe s
def PGs(X:Cx)(ts:List bo)(t:TGs):Prop :=
 ∀(Pf:List (ak×Obj))(s:ax)(O:St)(H:Hp)(vs:List V)(us:List ai)(Q:St->Hp->Prop),Inv X Pf O H s->Vals vs us->t vs O H Q ->
  aS (model X.prog X.w) X.A (kR ((cQ ts X.env).map (·.2)) us) (λ_ s'=>∃σ' H',Inv X Pf σ' H' s'/\Q σ' H') X.xe s
abbrev MQ:=V->V->V->Hp->(Hp->Prop)->Prop
def PSet(X:Cx)(t:MQ):Prop :=
 ∀(Pf:List (ak×Obj))(s:ax)(O:St)(H:Hp)(o i v:V)(ov iv u:ai)(Q:Hp->Prop),Inv X Pf O H s->RelV o ov->RelV i iv->RelV v u->t o i v H Q ->
  aS (model X.prog X.w) X.A (jY ov iv u) (λ_ s'=>∃H',Inv X Pf O H' s'/\Q H') X.xe s
abbrev TIp:=V->V->Hp->VK->Prop
def PIp(X:Cx)(op:Operator)(t:TIp):Prop :=
 ∀(Pf:List (ak×Obj))(s:ax)(O:St)(H:Hp)(x y:V)(v u:ai)(Q:VK),Inv X Pf O H s->RelV x v->RelV y u->t x y H Q ->
  aS (model X.prog X.w) X.A (inplaceOp op v u) (EP X Pf O Q) X.xe s
def E5(i:Nat):TG:=λv O H Q=>Q (O.set i (Za v)) H
def FU(hN:X.N.Nodup)(hi:X.N[i]?=Za x)(hx:Loc X.env.scope x)(hf:X.fn x=true\/X.env.scope.names.lookup x=Za .local:=by first|exact .inl rfl|exact .inr rfl|assumption):PG X (.Name x pos) (E5 i):=by intro Pf s O H v u Q I r h;exact jm (uk I hN hi hx r (λs' I'=>⟨_,H,I',h⟩) hf)
def gNil:TGs:=λvs O H Q=>vs=[]/\Q O H
def gCons(t:TG)(u:TGs):TGs:=λvs O H Q=>∃v r,vs=v::r/\t v O H λσ' H'=>u r σ' H' Q
def pgs_nil:PGs X [] gNil:=by intro Pf s O H vs us Q I r h;obtain⟨e,h⟩:=h;subst e;cases r;exact assignInOrder_nil ⟨O,H,I,h⟩
def IB{e}{t:TG}{u:TGs}(h1:PG X e t)(h2:PGs X es u)(hs:(cQ (e::es) X.env).map (·.2)=assign e X.env::(cQ es X.env).map (·.2):=by rfl):PGs X (e::es) (gCons t u):=by
 intro Pf s O H vs us Q I r h;obtain⟨v,vr,e1,h⟩:=h;subst e1;cases r with
 |cons r rr =>
  rw[hs];refine je (thn (h1 Pf s O H _ _ _ I r h) λ_ s1=>e4b λσ1 H1 I1 q1=>?_);exact h2 Pf s1 σ1 H1 _ _ Q I1 rr q1
def gTup(K:aa)(n:Nat)(t:TGs):TG:=λv O H Q=>∃a xs,v=.ref a/\SqT K H a xs/\xs.length=n/\t xs O H Q
def NY{t:TGs}(hc:X.calm=true)(h:PGs X es t)(hn:(cQ es X.env).length=n:=by rfl)(QI:(cQ es X.env).findIdx? (·.1)=none:=by rfl):PG X (.Tuple es k pos) (gTup X.K n t):=by
 intro Pf s O H v u Q I r hw;obtain⟨a,xs,e1,hq,hl,hw⟩:=hw;subst e1;cases r;obtain⟨its,rv,ht,hz⟩:=I.tuple hq;refine assign_Tuple_tuple (I.ok.hd hc) ht (by simp[hn,<-hl,rv.length]) QI λh' hx=>?_;have I1:Inv X Pf O H { s with heap:=h' }:=I.kept (t':=s.toks) λb o e=>hx b o (aF (az e)) e;exact h Pf _ O H xs _ Q I1 (by simpa using rv) hw
def gSub(to ti:TE)(t:MQ):TG:=λv O H Q=>to O H λo H1=>ti O H1 λi H2=>t o i v H2 λH3=>Q O H3
def NZ{t:MQ}(ho:PE X o to)(hi:PE X i ti)(hs:PSet X t)(ha:∀v,assign (.Subscript o i pos) X.env v=(do
   let ov <-holding [v] (eval o X.env);let iv <-holding [v,ov] (eval i X.env)
   gc pos
   holding [v,ov,iv] (jY ov iv v)
   release [v,ov,iv] []):=by intro _;rfl):PG X (.Subscript o i pos) (gSub to ti t):=by
 intro Pf s O H v u Q I r h;rw[ha];refine aq (ed (thn (ho Pf s O H _ I h) λov s1=>e4 λx H1 I1 r1 q1=>?_));refine aq (ed (thn (hi Pf s1 O H1 _ I1 q1) λiv s2=>e4 λy H2 I2 r2 q2=>?_));refine aq (fU (aq (ed (thn (hs Pf s2 O H2 x y v ov iv u _ I2 r1 r2 r q2) λ_ s3=>e3 λH3 I3 q3=>?_))));exact wpAny_release ⟨O,H3,I3,q3⟩
def MV(te:TE)(g:TG):TS:=λD O H=>te O H λx H1=>g x O H1 D.nx
def JP{tg e}{te}(he:PE X e te)(hg:PG X tg g)(hs:gP [tg] e pos.line X.env=pure false:=by rfl)(hw:gQ [tg] e X.env=pure none:=by rfl)(h1:(cQ [tg] X.env).map (·.2)=[assign tg X.env]:=by rfl):PS X (.Assign [tg] e pos) (MV te g):=by
 intro Pf s O H D I h;refine wpAny_Assign_stores (thn (he Pf s O H _ I h) λv s1=>e4 λx H1 I1 r1 q1=>?_) hs hw;rw[h1];exact thn (hg Pf s1 O H1 x v _ I1 r1 q1) λ_ s2 q=>q
def rT{i}{x}{e}{te}{Pw}(hN:X.N.Nodup)(hi:X.N[i]?=Za x)(hx:Loc X.env.scope x)(he:PE X e te)(hs:dL e (Za (.Name x Pw)) pos.line X.env=pure false:=by rfl)(hf:X.fn x=true\/X.env.scope.names.lookup x=Za .local:=by first|exact .inl rfl|exact .inr rfl|assumption) :
  PS X (.Assign [.Name x Pw] e pos) (MV te (E5 i)):=by
 intro Pf s O H D I h;refine wpAny_Assign_Name (thn (he Pf s O H _ I h) λv s1=>e4 λy H1 I1 r1 q1=>?_) hs;exact uk I1 hN hi hx r1 (λs2 I2=>⟨_,H1,I2,q1⟩) hf
def tPar(i j:Nat)(ta:TA):TS:=λD O H=>ta O H λvs H1=>∃v w,vs=[v,w]/\D.nx ((O.set i (Za v)).set j (Za w)) H1
def NT{kt k2 pt2}(hc:X.calm=true)(hN:X.N.Nodup)(hi:X.N[i]?=Za x)(hj:X.N[j]?=Za y)(Tq:i≠j)(hx:X.env.scope.names.lookup x=Za .local)(hy:X.env.scope.names.lookup y=Za .local)(ha:PA X [a,b] ta)(hw:gQ [.Tuple [.Name x px,.Name y py] kt pt] (.Tuple [a,b] k2 pt2) X.env=pure (Za [x,y]))(hs:gP [.Tuple [.Name x px,.Name y py] kt pt] (.Tuple [a,b] k2 pt2) pos.line X.env=pure false:=by rfl) :
  PS X (.Assign [.Tuple [.Name x px,.Name y py] kt pt] (.Tuple [a,b] k2 pt2) pos) (tPar i j ta):=by
 intro Pf s O H D I h;rw[exec_Assign_arm];refine aq (fU ?_);rw[hs];refine aq (aM ?_);rw[Zd (by decide)];refine aq (Tuple_ (thn (ha _ Pf s O H _ I h) λus s1=>e4 λvs H1 I1 r1 q1=>?_));obtain⟨v,w,e1,q1⟩:=q1;subst e1;obtain⟨u1,u2,rfl,rv,P4⟩:∃u1 u2,us=[u1,u2]/\RelV v u1/\RelV w u2:=by
  cases r1 with
  |cons p q =>
   cases q with
   |cons p' q' =>
    cases q';exact⟨_,_,rfl,p,p'⟩
 refine eA ?_ (by show 2<=aI;decide);have I2:Inv X Pf O H1 { s1 with heap:=s1.heap.push { cls:=.type "tuple",data:=.seq [u1,u2].toArray } }:=I1.kept (t':=s1.toks) λb o e=>ar _ e;rw[hw];refine aq (aM ?_);show aS (model X.prog X.w) X.A (do rule "assign.swapped-stores";let items <-unpackItems (.ref s1.heap.objs.size) 2 Zb;kR [λv=>bindName X.env y v,λv=>bindName X.env x v] items.reverse;pure Flow.next) _ _ _;refine aq (wpAny_rule (aq (unpackItems_tuple (items:=#[u1,u2]) (I.ok.hd hc) (IsTup.new s1.heap _) λh' QW=>?_)));have I3:=I2.kept (h':=h') (t':=s1.toks) λb o e=>QW b o (aF (az e)) e;show aS _ _ (kR [λv=>bindName X.env y v,λv=>bindName X.env x v] [u2,u1] >>= λ_=>pure Flow.next) _ _ _;refine aq (je (wpAny_bindName (uk I3 hN hj (.inl hy) P4 (λs2 I4=>?_) (.inr hy))));refine je (wpAny_bindName (uk I4 hN hi (.inl hx) rv (λs3 I5=>assignInOrder_nil (aM ?_)) (.inr hx)));rw[List.set_comm _ _ (bY Tq)] at I5;exact⟨_,H1,I5,q1⟩
def tAug(i:Nat)(te:TE)(ti:TIp):TS:=λD O H=>∃x,O[i]?=Za (Za x)/\te O H λy H1=>ti x y H1 λz H2=>D.nx (O.set i (Za z)) H2
def NV{e}{te}(hN:X.N.Nodup)(hi:X.N[i]?=Za x)(hx:Loc X.env.scope x)(he:PE X e te)(ho:PIp X op ti)(hf:X.fn x=true\/X.env.scope.names.lookup x=Za .local:=by first|exact .inl rfl|exact .inr rfl|assumption) :
  PS X (.AugAssign (.Name x Pw) op e pos) (tAug i te ti):=by
 intro Pf s O H D I h;obtain⟨v,e1,h⟩:=h;obtain⟨m,hn,hl⟩:=I.loc;have vis:Vis X.env.scope x:=by rcases hx with k|k;exact .inl k;exact .inr (.inl k)
 obtain⟨u,r,l⟩:=hl i x v hi e1 vis;refine wpAny_AugAssign_Name ?_;have go:aS (model X.prog X.w) X.A (eval e X.env) (λw Qy=>aS (model X.prog X.w) X.A (inplaceOp op u w) (λr Pl=>aS (model X.prog X.w) X.A (storeName X.env x r) (λ_=>SP X Pf D .next) X.xe Pl) X.xe Qy) X.xe s:=by refine thn (he Pf s O H _ I h) λw s1=>e4 λy H1 I1 r1 q1=>?_;refine thn (ho Pf s1 O H1 v y u w _ I1 r r1 q1) λz s2=>e4 λzv H2 I2 r2 q2=>?_;exact uk I2 hN hi hx r2 (λs3 I3=>⟨_,H2,I3,q2⟩) hf
 rcases l with⟨hk,hm⟩|⟨hk,c,hc,P7⟩
 ·exact wpAny_loadName_local I.ok.kind hk hn hm go
 ·rcases hk with hk|hk
  ·exact wpAny_loadName_cell I.ok.kind hk hc P7 go
  ·rcases hx with k|k
   ·have:X.env.scope.names.lookup x=Za .free:=hk;rw[k] at this;cases this
   ·have:X.env.scope.names.lookup x=Za .free:=hk;rw[k] at this;cases this
def tAugS(to ti te:TE)(RR:V->V->Hp->VK->Prop)(Uw:TIp)(RP:MQ):TS:=λD O H=>to O H λo H1=>ti O H1 λi H2=>RR o i H2 λx H3=>te O H3 λy H4=>Uw x y H4 λz H5=>RP o i z H5 λH6=>D.nx O H6
def PGet(X:Cx)(t:V->V->Hp->VK->Prop):Prop :=
 ∀(Pf:List (ak×Obj))(s:ax)(O:St)(H:Hp)(o i:V)(ov iv:ai)(Q:VK),Inv X Pf O H s->RelV o ov->RelV i iv->t o i H Q ->
  aS (model X.prog X.w) X.A (io ov iv) (EP X Pf O Q) X.xe s
def Le{o i e}{to ti te}(ho:PE X o to)(hi:PE X i ti)(hg:PGet X RR)(he:PE X e te)(hp:PIp X op Uw)(hs:PSet X RP)(ha:∀ov iv new,augStore i ov iv new=(do holding [new,ov,iv] (jY ov iv new);release [new,ov,iv] [];pure .next):=by intros;rfl):PS X (.AugAssign (.Subscript o i PY) op e pos) (tAugS to ti te RR Uw RP):=by
 intro Pf s O H D I h;refine wpAny_AugAssign_SubscriptAny (thn (ho Pf s O H _ I h) λov s1=>e4 λx1 H1 I1 r1 q1=>?_) ha;refine thn (hi Pf s1 O H1 _ I1 q1) λiv s2=>e4 λx2 H2 I2 r2 q2=>?_;refine thn (hg Pf s2 O H2 x1 x2 ov iv _ I2 r1 r2 q2) λold s3=>e4 λx3 H3 I3 r3 q3=>?_;refine thn (he Pf s3 O H3 _ I3 q3) λv s4=>e4 λx4 H4 I4 r4 q4=>?_;refine thn (hp Pf s4 O H4 x3 x4 old v _ I4 r3 r4 q4) λnew s5=>e4 λx5 H5 I5 r5 q5=>?_;exact thn (hs Pf s5 O H5 x1 x2 x5 ov iv new _ I5 r1 r2 r5 q5) λ_ s6=>e3 λH6 I6 q6=>⟨O,H6,I6,q6⟩
def ipI(f:Int->Int->Int):TIp:=λx y H Q=>∃i j,x=.int i/\y=.int j/\Q (.int (f i j)) H
def J2:PIp X .Add (ipI λi j=>i+j):=by intro Pf s O H x y v u Q I r1 r2 h;obtain⟨i,j,e1,e2,q⟩:=h;subst e1;subst e2;obtain⟨t,rfl⟩:=r1;obtain⟨t',rfl⟩:=r2;exact iadd_int ⟨.int _,H,I.tok _,⟨_,rfl⟩,q⟩
def NA(c:TT)(tb:TS):TS:=λD O H=>∃W:Nat->St->Hp->Prop,(∃m,W m O H)/\∀m O H,W m O H ->
 c O H λb H1=>if b=true then ∃N:St->Hp->Prop,(∀σ' H',N σ' H'->∃m',m'<m/\W m' σ' H')/\tb { D with nx:=N,ct:=N,bk:=D.nx } O H1 else D.nx O H1
def DM(hp:PassesOwn (model X.prog X.w) X.A X.env X.xe)(hc:PT X c tc)(hb:PSs X body tb):PS X (.While c body [] pos) (NA tc tb):=by
 intro Pf s O H D I h;obtain⟨W,⟨m0,w0⟩,Qv⟩:=h;refine wpAny_While (codeAny_whileLoop (λn s'=>∃σ' H',Inv X Pf σ' H' s'/\W n σ' H') ?_ m0 ⟨O,H,I,w0⟩)
 rintro n s1 ⟨σ1,H1,I1,w1⟩
 refine dZ hp (thn (hc Pf s1 σ1 H1 _ I1 (Qv n σ1 H1 w1)) λb s2=>e3 λH2 I2 q2=>?_);cases b with
 |true =>
  obtain⟨N,hN,q2⟩:=q2;rw[Zc rfl];refine dZ hp (thn (hb Pf s2 σ1 H2 _ I2 q2) λf s3 q3=>?_);cases f with
  |next =>
   obtain⟨σ3,H3,I3,n3⟩:=q3;obtain⟨m',hm,w3⟩:=hN σ3 H3 n3;exact⟨m',hm,σ3,H3,I3,w3⟩
  |cont =>
   obtain⟨σ3,H3,I3,n3⟩:=q3;obtain⟨m',hm,w3⟩:=hN σ3 H3 n3;exact⟨m',hm,σ3,H3,I3,w3⟩
  |brk=>exact q3
  |ret v=>exact q3
 |false =>
  rw[Zd aY];exact iA ⟨σ1,H2,I2,q2⟩
end
structure It where
 go:Nat->Hp->Prop
 yld:Nat->Hp->V->Hp->Prop
 stop:Nat->Hp->Prop
def zC(X:Cx)(Pf:List (ak×Obj))(H:Hp)(b:ak):Prop :=
 H b=Zb/\b≠X.env.locals/\b∉X.fs/\(b∈X.ex\/X.sa0.heap.objs.size<=b)/\(∀x c,X.env.cells.lookup x=Za c->c≠b)/\∀p∈X.pn++Pf,p.1≠b
def Inv.fpOk(I:Inv X Pf O H s)(hb:s.heap.objs.size<=b)(hn:H' b=Zb):zC X Pf H' b:=by
 refine⟨hn,fY (aA I.lt hb),I.nofs hb,.inr (aH I.sz hb),λx c e z=>?_,λp hp z=>?_⟩
 ·obtain⟨v,q⟩:=I.cell x c e;exact absurd (aA q.lt (by rw[z];exact hb)) (dP _)
 ·exact absurd (aA (az (I.pin p hp).1) (by rw[z];exact hb)) (dP _)
structure Turn(P:aK)(w:ba)(K:aa)(tg:bo)(J:It)(fp:List ak)(it:ak)(tn:Nat->bx->Prop):Prop where
 mem:it∈fp
 obj:∀i h,tn i h->∀b∈fp,∃o,h.get? b=Za o/\∀v,o.data≠.cell v
 keep:∀i h h',tn i h->(∀b∈fp,∀o,h.get? b=Za o->h'.get? b=Za o)->tn i h'
 item:∀(X:Cx),X.prog=P->X.w=w->X.K=K->X.calm=true->∀(i:Nat)(Pf:List (ak×Obj))(s:ax)(O:St)(H:Hp)(E:ai->ax->Prop),Inv X Pf O H s->(∀b∈fp,zC X Pf H b)->tn i s.heap->J.go i H ->
  aS (model P w) X.A (pyNext (.ref it)) (λr s1=>∃u,r=Za u /\
   aS (model P w) X.A (iB tg (.ref it) u) (λ_ s2=>∃x H',Inv X Pf O H' s2/\RelV x u/\J.yld i H x H'/\tn (i+1) s2.heap/\∀b∈fp,H' b=Zb) E s1) E s
 done:∀(X:Cx),X.prog=P->X.w=w->X.K=K->X.calm=true->∀(i:Nat)(Pf:List (ak×Obj))(s:ax)(O:St)(H:Hp)(E:ai->ax->Prop),Inv X Pf O H s->(∀b∈fp,zC X Pf H b)->tn i s.heap->J.stop i H ->
  aS (model P w) X.A (pyNext (.ref it)) (λr s1=>r=Zb/\Inv X Pf O H s1) E s
 self:∀(A:cA)(i:Nat)(s:ax)(Q:ai->ax->Prop)(E:ai->ax->Prop),tn i s.heap->Q (.ref it) s->aS (model P w) A (pyIter (.ref it)) Q E s
abbrev TI:=St->Hp->(It->Hp->Prop)->Prop
def PIE(X:Cx)(Pf:List (ak×Obj))(O:St)(tg:bo)(R:It->Hp->Prop)(Sr:ai)(s2:ax):Prop :=
 ∃(it:ak)(fp:List ak)(tn:Nat->bx->Prop)(J:It)(H':Hp),Sr=.ref it/\Inv X Pf O H' s2/\Turn X.prog X.w X.K tg J fp it tn/\tn 0 s2.heap/\(∀b∈fp,zC X Pf H' b)/\R J H'
def PI(X:Cx)(tg iter:bo)(wi:TI):Prop :=
 ∀(Pf:List (ak×Obj))(s:ax)(O:St)(H:Hp)(R:It->Hp->Prop),Inv X Pf O H s->wi O H R ->
  aS (model X.prog X.w) X.A (eval iter X.env) (λv s1=>aS (model X.prog X.w) X.A (pyIter v) (PIE X Pf O tg R) X.xe s1) X.xe s
def E1(ho:s.heap.get? it=Za o)(hc:o.cls=.type n)(hd:o.data=.fields vs)(hn:["enumerate","zip","dict_itemiterator","dict_reverseitemiterator","odict_iterator","itertools.zip_longest","itertools.pairwise"].contains n=false)(hQ:Q () s):aS M A (iB tg (.ref it) u) Q E s:=by
 unfold iB;cases tg<;>first
  |exact aM hQ
  | (cases u<;>first
    |exact aM hQ
    | (refine aq (wpAny_load ho ?_)
       rw[hc,hd];show aS M A (if(["enumerate","zip","dict_itemiterator","dict_reverseitemiterator","odict_iterator","itertools.zip_longest","itertools.pairwise"].contains n&&vs[0]?==Za (rawInt _))=true then _ else _) Q E s;rw[Zd (by intro h;rw[hn,fk] at h;cases h)];exact aM hQ))
def Itl(K:aa)(a:ak):It :=
 ⟨λi H=>∃xs x,SqL K H a xs/\xs[i]?=Za x,λi H x H'=>H'=H/\∀xs,SqL K H a xs->xs[i]?=Za x,λi H=>∃xs,SqL K H a xs/\xs.length<=i⟩
def Itt(K:aa)(a:ak):It :=
 ⟨λi H=>∃xs x,SqT K H a xs/\xs[i]?=Za x,λi H x H'=>H'=H/\∀xs,SqT K H a xs->xs[i]?=Za x,λi H=>∃xs,SqT K H a xs/\xs.length<=i⟩
def Itr(lo:Int)(n:Nat):It:=⟨λi _=>i<n,λi H x H'=>H'=H/\x=.int (lo+i),λi _=>n<=i⟩
def AW{P}{w}{K}{tg}(a it):Turn P w K tg (Itl K a) [it] it (λi h=>h.IsListIter it a i) where
 mem:=by simp
 obj:=λi h st b hb=>by
  have e:b=it:=by simpa using hb
  subst e;obtain⟨o,e,c,d⟩:=st;exact⟨o,e,λv z=>by rw[d] at z;cases z⟩
 keep:=λi h h' st k=>st.at λo e=>k it (by simp) o e
 item:=by intro X hP hw hK hc i Pf s O H E I hf st hg;subst hP hw hK;obtain⟨xs,x,hq,hx⟩:=hg;obtain⟨its,rv,p,hz⟩:=I.list hq;obtain⟨u,hu,ru⟩:=rv.get hx;obtain⟨f0,f1,f2,f3,f4,f5⟩:=hf it (by simp);refine wpAny_pyNext_list_item st p.isList (x:=u) (by simpa using hu) λh' Qt sb=>?_;have I1:Inv X Pf O H { s with heap:=h' }:=I.turned (t':=s.toks) (λb o hb e=>(sb.2 b hb).trans e) f0 f1 f3 f4 f5;obtain⟨o,e,c,d⟩:=id Qt;exact⟨u,rfl,E1 (s:={ s with heap:=h' }) e c d (by decide) ⟨x,H,I1,ru,⟨rfl,λys hy=>by rw[I.list_inj hy hq];exact hx⟩,Qt,λb hb=>(hf b hb).1⟩⟩
 done:=by intro X hP hw hK hc i Pf s O H E I hf st hg;subst hP hw hK;obtain⟨xs,hq,hx⟩:=hg;obtain⟨its,rv,p,hz⟩:=I.list hq;obtain⟨f0,f1,f2,f3,f4,f5⟩:=hf it (by simp);have hl:=rv.length;exact wpAny_pyNext_list_end (I.ok.hd hc) st p.isList (by simp;lia) λh' eb=>⟨rfl,I.turned (t':=s.toks) (λb o hb e=>eb b o hb e) f0 f1 f3 f4 f5⟩
 self:=λ_ _ _ _ _ st h=>wpAny_pyIter_listiter st h
def Eu{P}{w}{K}{tg}(a it):Turn P w K tg (Itt K a) [it] it (λi h=>h.IsTupleIter it a i) where
 mem:=by simp
 obj:=λi h st b hb=>by
  have e:b=it:=by simpa using hb
  subst e;obtain⟨o,e,c,d⟩:=st;exact⟨o,e,λv z=>by rw[d] at z;cases z⟩
 keep:=λi h h' st k=>st.at λo e=>k it (by simp) o e
 item:=by intro X hP hw hK hc i Pf s O H E I hf st hg;subst hP hw hK;obtain⟨xs,x,hq,hx⟩:=hg;obtain⟨its,rv,p,hz⟩:=I.tuple hq;obtain⟨u,hu,ru⟩:=rv.get hx;obtain⟨f0,f1,f2,f3,f4,f5⟩:=hf it (by simp);refine wpAny_pyNext_tuple_item st (show s.heap.IsTuple a its.toArray from p) (x:=u) (by simpa using hu) λh' Qt sb=>?_;have I1:Inv X Pf O H { s with heap:=h' }:=I.turned (t':=s.toks) (λb o hb e=>(sb.2 b hb).trans e) f0 f1 f3 f4 f5;obtain⟨o,e,c,d⟩:=id Qt;exact⟨u,rfl,E1 (s:={ s with heap:=h' }) e c d (by decide) ⟨x,H,I1,ru,⟨rfl,λys hy=>by rw[I.tuple_inj hy hq];exact hx⟩,Qt,λb hb=>(hf b hb).1⟩⟩
 done:=by intro X hP hw hK hc i Pf s O H E I hf st hg;subst hP hw hK;obtain⟨xs,hq,hx⟩:=hg;obtain⟨its,rv,p,hz⟩:=I.tuple hq;obtain⟨f0,f1,f2,f3,f4,f5⟩:=hf it (by simp);have hl:=rv.length;exact wpAny_pyNext_tuple_end (I.ok.hd hc) st (show s.heap.IsTuple a its.toArray from p) (by simp;lia) λh' eb=>⟨rfl,I.turned (t':=s.toks) (λb o hb e=>eb b o hb e) f0 f1 f3 f4 f5⟩
 self:=λ_ _ _ _ _ st h=>wpAny_pyIter_tupleiter st h
def Ev{P}{w}{K}{tg}(it)(lo)(n):Turn P w K tg (Itr lo n) [it] it (λi h=>IsRangeIter h it (lo+(i:Nat)*1) ((n:Int)-(i:Nat)) 1) where
 mem:=by simp
 obj:=λi h st b hb=>by
  have e:b=it:=by simpa using hb
  subst e;exact⟨_,st,λv z=>by have z':Data.fields _=Data.cell v:=z;cases z'⟩
 keep:=λi h h' st k=>k it (by simp) _ st
 item:=by intro X hP hw hK hc i Pf s O H E I hf st hg;subst hP hw hK;obtain⟨f0,f1,f2,f3,f4,f5⟩:=hf it (by simp);have W:=Walks.range (prog:=X.prog) (w:=X.w) (I.ok.hd hc) it lo 1 n;refine W.item i s _ _ hg st λv h' tk hv Qt kk=>?_;obtain⟨t,rfl⟩:=hv;have I1:Inv X Pf O H { s with heap:=h',toks:=tk }:=I.turned (λb o hb e=>kk b o (by simpa using hb) e) f0 f1 f3 f4 f5;refine⟨_,rfl,E1 (s:={ s with heap:=h',toks:=tk }) (n:="range_iterator") Qt rfl rfl (by decide) ⟨.int (lo+i),H,I1,⟨t,?_⟩,⟨rfl,rfl⟩,Qt,λb hb=>(hf b hb).1⟩⟩;rw[k9]
 done:=by intro X hP hw hK hc i Pf s O H E I hf st hg;subst hP hw hK;obtain⟨f0,f1,f2,f3,f4,f5⟩:=hf it (by simp);exact wpAny_pyNext_range_end (I.ok.hd hc) st (by have:n<=i:=hg;lia) λh' eb=>⟨rfl,I.turned (t':=s.toks) (λb o hb e=>eb b o hb e) f0 f1 f3 f4 f5⟩
 self:=λ_ _ _ _ _ st h=>wpAny_pyIter_rangeiter st h
section
variable{X:Cx}{tg:bo}
def iList(K:aa)(tl:TE):TI:=λO H R=>tl O H λx H1=>∃a,x=.ref a/\(∃xs,SqL K H1 a xs)/\R (Itl K a) H1
def Lg{l}{tl}(hl:PE X l tl):PI X tg l (iList X.K tl):=by
 intro Pf s O H R I h;refine thn (hl Pf s O H _ I h) λv s1=>e4 λx H1 I1 r1 q1=>?_;obtain⟨a,e,⟨xs,hq⟩,q⟩:=q1;subst e;cases r1;obtain⟨its,rv,p,hz⟩:=I1.list hq;refine gJ p.isList ?_;refine⟨s1.heap.objs.size,[s1.heap.objs.size],_,_,H1,rfl,I1.kept (t':=s1.toks) λb o e=>ar _ e,AW a _,⟨_,a6 _ rfl,rfl,rfl⟩,λb hb=>?_,q⟩;have e:b=s1.heap.objs.size:=by simpa using hb
 subst e;exact I1.fpOk (ap _) (I1.hok.fresh (ap _))
def Iv{Pf}{O}{H}{s}{R:It->Hp->Prop}{E}{lo hi}{t u v}{tk}(I:Inv X Pf O H s)(h1:-(2^62)<=lo)(h2:lo<2^62)(h3:-(2^62)<=hi)(h4:hi<2^62)(q:R (Itr lo (hi-lo).toNat) H):aS (model X.prog X.w) X.A (pyIter (.ref s.heap.objs.size)) (PIE X Pf O tg R) E { s with heap:=s.heap.push { cls:=.type "range",data:=.fields #[.int lo t,.int hi u,.int 1 v] },toks:=tk }:=by
 refine wpAny_pyIter_range (IsRange.new ..) (small_one h1 h2 h3 h4) ?_;have I1:Inv X Pf O H { s with heap:=s.heap.push { cls:=.type "range",data:=.fields #[.int lo t,.int hi u,.int 1 v] },toks:=tk }:=I.kept λb o e=>ar _ e;refine⟨(s.heap.push { cls:=.type "range",data:=.fields #[.int lo t,.int hi u,.int 1 v] }).objs.size,[(s.heap.push { cls:=.type "range",data:=.fields #[.int lo t,.int hi u,.int 1 v] }).objs.size],_,_,H,rfl,
  I1.kept (t':=tk) λb o e=>ar _ e,Ev _ lo (hi-lo).toNat,?_,λb hb=>?_,q⟩
 ·have e1:lo+((0:Nat):Int)*1=lo:=by simp
  have e2:(((hi-lo).toNat:Nat):Int)-((0:Nat):Int)=Builtin.Range.rangeSize lo hi 1:=by rw[rangeSize_one];split<;>lia
  show IsRangeIter _ _ (lo+((0:Nat):Int)*1) ((((hi-lo).toNat:Nat):Int)-((0:Nat):Int)) 1;rw[e1,e2];exact a6 _ rfl
 ·have e:b=(s.heap.push { cls:=.type "range",data:=.fields #[.int lo t,.int hi u,.int 1 v] }).objs.size:=by simpa using hb
  subst e;exact I1.fpOk (ap _) (I1.hok.fresh (ap _))
def iRng1(ta:TA):TI:=λO H R=>ta O H λvs H1=>∃j:Int,vs=[.int j]/\-(2^62)<=j/\j<2^62/\R (Itr 0 j.toNat) H1
def GU{a}{ta}{p pos}(hg:Gl X "range")(hm:X.mg "range"=Zb)(ha:PA X [a] ta)(hs:aB [a] X.env=[(false,eval a X.env)]:=by rfl):PI X tg (.Call (.Name "range" p) [a] [] pos) (iRng1 ta):=by
 intro Pf s O H R I h;refine Call_ (Av I hg hm boot_range (dF (thn (ha pos Pf s O H _ I h) λus s1=>e4 λvs H1 I1 r1 q1=>?_) hs rfl));obtain⟨j,e,q1,q2,q⟩:=q1;subst e;cases r1 with
 |cons r rr =>
  cases rr;obtain⟨t,rfl⟩:=r;exact call_range_1 (Iv I1 (by lia) (by lia) q1 q2 (by simpa using q))
def tFor(wi:TI)(g:TG)(tb:TS):TS:=λD O H=>wi O H λJ H1=>∃W:Nat->Nat->St->Hp->Prop,(∃m,W 0 m O H1)/\∀i m O H,W i m O H ->
 (J.stop i H/\D.nx O H)\/(J.go i H/\∃N:St->Hp->Prop,(∀σ' H',N σ' H'->∃m',m'<m/\W (i+1) m' σ' H')/\∀x H',J.yld i H x H'->g x O H' λσ2 H2=>tb { D with nx:=N,ct:=N,bk:=D.nx } σ2 H2)
def Al(fp:List ak)(h:bx):List (ak×Obj):=fp.filterMap λb=>(h.get? b).map λo=>(b,o)
def sN(hb:b∈fp)(e:h.get? b=Za o):(b,o)∈Al fp h:=iJ.mpr ⟨b,hb,by rw[e];rfl⟩
def Hf(hp:p∈Al fp h):p.1∈fp/\h.get? p.1=Za p.2:=by
 obtain⟨b,hb,e⟩:=iJ.mp hp;cases q:h.get? b with
 |none=>rw[q] at e;cases e
 |some o =>
  rw[q] at e;have e':(b,o)=p:=aO e;subst e';exact⟨hb,q⟩
def Inv.pinned(I:Inv X Pf O H s)(hf:∀b∈fp,zC X Pf H b)(ho:∀b∈fp,∃o,s.heap.get? b=Za o/\∀v,o.data≠.cell v):Inv X (Pf++Al fp s.heap) O H s :=
 I.pins_of λp hp=>(aL.mp hp).elim (λz=>I.pin p (aG _ z)) λz=>by obtain⟨hb,e⟩:=Hf z;obtain⟨f0,f1,f2,_⟩:=hf p.1 hb;obtain⟨o,e',d⟩:=ho p.1 hb;rw[e] at e';cases e';exact⟨e,f0,f1,f2,d⟩
def Inv.unpinned(I:Inv X (Pf++pl) O H s):Inv X Pf O H s:=I.pins_of λp hp=>I.pin p (aG _ (bj _ hp))
def NU(hp:PassesOwn (model X.prog X.w) X.A X.env X.xe)(hc:X.calm=true)(hi:PI X tg iter wi)(hg:PG X tg g)(hb:PSs X body tb)(hs:∀x,b6 iter X.env x=pure x:=by intro _;rfl):PS X (.For tg iter body [] pos) (tFor wi g tb):=by
 intro Pf s O H D I h;refine wpAny_For (thn (hi Pf s O H _ I h) λv s1 h1=>thn h1 λSr s2 h2=>?_) hs;obtain⟨it,fp,tn,J,H2,e,I2,T,Qf,f2,W,⟨m0,w0⟩,Qv⟩:=h2;subst e;have Qx:∀{H':Hp},(∀b∈fp,H' b=Zb)->∀b∈fp,zC X Pf H' b:=λhn b hb=>⟨hn b hb,(f2 b hb).2⟩;refine codeAny_forLoop_any (λn s'=>∃i σ' H',Inv X Pf σ' H' s'/\tn i s'.heap/\(∀b∈fp,H' b=Zb)/\W i n σ' H') ?_ m0 ⟨0,O,H2,I2,Qf,λb hb=>(f2 b hb).1,w0⟩
 rintro n s3 ⟨i,σ3,H3,I3,SK,TH,w3⟩
 rcases Qv i n σ3 H3 w3 with⟨stop,qn⟩|⟨go,N,hN,step⟩
 ·refine dZ hp (thn (T.done X rfl rfl rfl hc i Pf s3 σ3 H3 X.xe I3 (Qx TH) SK stop) λr s4 ⟨hr,I4⟩=>?_);subst hr;exact iA ⟨σ3,H3,I4,qn⟩
 ·refine dZ hp (thn (T.item X rfl rfl rfl hc i Pf s3 σ3 H3 X.xe I3 (Qx TH) SK go) λr s4 ⟨u,hr,h4⟩=>?_);subst hr;refine dZ hp (thn h4 λ_ s5=>e4 λx H5 I5 r5 ⟨y5,st5,fr5⟩=>?_);have I5':=I5.pinned (Qx fr5) (T.obj _ _ st5);refine dZ hp (thn (hg _ s5 σ3 H5 x u _ I5' r5 (step x H5 y5)) λ_ s6=>e4b λσ6 H6 I6 q6=>?_);refine dZ hp (thn (hb _ s6 σ6 H6 _ I6 q6) λf s7 q7=>?_);have again:∀{σ7:St}{H7:Hp},Inv X (Pf++Al fp s5.heap) σ7 H7 s7->N σ7 H7->∃m,m<n/\∃i σ' H',Inv X Pf σ' H' s7/\tn i s7.heap/\(∀b∈fp,H' b=Zb)/\W i m σ' H':=λ{σ7 H7} I7 n7=>by obtain⟨m',hm,w7⟩:=hN σ7 H7 n7;refine⟨m',hm,i+1,σ7,H7,I7.unpinned,T.keep _ _ _ st5 λb hb o e=>(I7.pin (b,o) (aG _ (aG _ (sN hb e)))).1,λb hb=>?_,w7⟩;obtain⟨o,e,d⟩:=T.obj _ _ st5 b hb;exact(I7.pin (b,o) (aG _ (aG _ (sN hb e)))).2.1
  cases f with
  |next=>obtain⟨σ7,H7,I7,n7⟩:=q7;exact again I7 n7
  |cont=>obtain⟨σ7,H7,I7,n7⟩:=q7;exact again I7 n7
  |brk=>obtain⟨σ7,H7,I7,q7⟩:=q7;exact⟨σ7,H7,I7.unpinned,q7⟩
  |ret v=>obtain⟨x7,σ7,H7,I7,r7,q7⟩:=q7;exact⟨x7,σ7,H7,I7.unpinned,r7,q7⟩
end
abbrev R2:=V->V->Hp->VK->Prop
def OpR(X:Cx)(f:ai->ai->Sem ai)(r:R2):Prop :=
 ∀(Pf:List (ak×Obj))(s:ax)(O:St)(H:Hp)(x y:V)(v u:ai)(Q:VK),Inv X Pf O H s->RelV x v->RelV y u->r x y H Q ->
  aS (model X.prog X.w) X.A (f v u) (EP X Pf O Q) X.xe s
def UnR(X:Cx)(f:ai->Sem ai)(r:V->Hp->VK->Prop):Prop :=
 ∀(Pf:List (ak×Obj))(s:ax)(O:St)(H:Hp)(x:V)(v:ai)(Q:VK),Inv X Pf O H s->RelV x v->r x H Q ->
  aS (model X.prog X.w) X.A (f v) (EP X Pf O Q) X.xe s
def CallR(X:Cx)(f:ai)(r:List V->Hp->VK->Prop):Prop :=
 ∀(Pf:List (ak×Obj))(s:ax)(O:St)(H:Hp)(xs:List V)(us:List ai)(Q:VK),Inv X Pf O H s->Vals xs us->r xs H Q ->
  aS (model X.prog X.w) X.A (call f us) (EP X Pf O Q) X.xe s
def tOp(r:R2)(ta tb:TE):TE:=λO H Q=>ta O H λx H1=>tb O H1 λy H2=>r x y H2 Q
def tUn(r:V->Hp->VK->Prop)(ta:TE):TE:=λO H Q=>ta O H λx H1=>r x H1 Q
def rI(C:Int->Int->Prop)(g:Int->Int->V):R2:=λx y H Q=>∃i j,x=.int i/\y=.int j/\C i j/\Q (g i j) H
def rI0(g:Int->Int->V):R2:=λx y H Q=>∃i j,x=.int i/\y=.int j/\Q (g i j) H
def rU(g:Int->V):V->Hp->VK->Prop:=λx H Q=>∃i,x=.int i/\Q (g i) H
section
variable{X:Cx}{a b c:bo}{ta tb tc:TE}{pos:Pos}
def Pd(ha:PE X a ta)(hb:PE X b tb){Pf:List (ak×Obj)}{s:ax}{O:St}{H:Hp}{R:V->V->Hp->Prop}(I:Inv X Pf O H s)(h:ta O H λx H1=>tb O H1 λy H2=>R x y H2){Q:ai->ax->Prop}{f:ai->ai->Sem ai}(hf:∀v u s2 x y H2,Inv X Pf O H2 s2->RelV x v->RelV y u->R x y H2->aS (model X.prog X.w) X.A (f v u) Q X.xe s2) :
  aS (model X.prog X.w) X.A (eval a X.env) (λv Ps=>aS (model X.prog X.w) X.A (eval b X.env) (λu Qy=>aS (model X.prog X.w) X.A (f v u) Q X.xe Qy) X.xe Ps) X.xe s:=by
 refine thn (ha Pf s O H _ I h) λv s1=>e4 λx H1 I1 r1 q1=>?_;refine thn (hb Pf s1 O H1 _ I1 q1) λu s2=>e4 λy H2 I2 r2 q2=>?_;exact hf v u s2 x y H2 I2 r1 r2 q2
def tf{op:Operator}{r:R2}(ho:OpR X (dE op) r)(ha:PE X a ta)(hb:PE X b tb):PE X (.BinOp a op b pos) (tOp r ta tb):=by intro Pf s O H Q I h;exact wpAny_BinOp (Pd ha hb I h λv u s2 x y H2 I2 rx ry q=>ho Pf s2 O H2 x y v u Q I2 rx ry q)
def M8{op:UnaryOp}{r}(ho:UnR X (unaryOp op) r)(ha:PE X a ta):PE X (.UnaryOp op a pos) (tUn r ta):=by intro Pf s O H Q I h;exact UnaryOp_ (thn (ha Pf s O H _ I h) λv s1=>e4 λx H1 I1 r1 q1=>ho Pf s1 O H1 x v Q I1 r1 q1)
def opI{f:ai->ai->Sem ai}{C:Int->Int->Prop}{g:Int->Int->Int}(rule:∀(i j:Int)(t u:Tok)(s:ax)(Q:ai->ax->Prop)(E:ai->ax->Prop),C i j->Q (.int (g i j) s.toks) { s with toks:=s.toks+1 }->aS (model X.prog X.w) X.A (f (.int i t) (.int j u)) Q E s) :
  OpR X f (rI C λi j=>.int (g i j)):=by
 intro Pf s O H x y v u Q I rx ry h;obtain⟨i,j,rfl,rfl,hc,q⟩:=h;obtain⟨t,rfl⟩:=rx;obtain⟨t',rfl⟩:=ry;exact rule i j t t' s _ _ hc ⟨.int (g i j),H,I.tok _,⟨_,rfl⟩,q⟩
def opI0{f:ai->ai->Sem ai}{g:Int->Int->Int}(rule:∀(i j:Int)(t u:Tok)(s:ax)(Q:ai->ax->Prop)(E:ai->ax->Prop),Q (.int (g i j) s.toks) { s with toks:=s.toks+1 }->aS (model X.prog X.w) X.A (f (.int i t) (.int j u)) Q E s) :
  OpR X f (rI0 λi j=>.int (g i j)):=by
 intro Pf s O H x y v u Q I rx ry h;obtain⟨i,j,rfl,rfl,q⟩:=h;obtain⟨t,rfl⟩:=rx;obtain⟨t',rfl⟩:=ry;exact rule i j t t' s _ _ ⟨.int (g i j),H,I.tok _,⟨_,rfl⟩,q⟩
def Nd{f:ai->ai->Sem ai}{g:Int->Int->Bool}(rule:∀(i j:Int)(t u:Tok)(s:ax)(Q:ai->ax->Prop)(E:ai->ax->Prop),Q (.bool (g i j)) s->aS (model X.prog X.w) X.A (f (.int i t) (.int j u)) Q E s) :
  OpR X f (rI0 λi j=>.bl (g i j)):=by
 intro Pf s O H x y v u Q I rx ry h;obtain⟨i,j,rfl,rfl,q⟩:=h;obtain⟨t,rfl⟩:=rx;obtain⟨t',rfl⟩:=ry;exact rule i j t t' s _ _ ⟨.bl (g i j),H,I,rfl,q⟩
def CPow(i j:Int):Prop:=0<=j/\j<=1000000/\i.natAbs<2^64
def CMul(i j:Int):Prop:=(-(2^64)<i/\i<2^64)\/(-(2^64)<j/\j<2^64)
def CMul.ok(h:CMul i j):iP i j:=by
 rcases h with⟨h1,h2⟩|⟨h1,h2⟩
 ·exact .of_left (intBits_le_64 h1 h2)
 ·exact .of_right (intBits_le_64 h1 h2)
def op_add:OpR X (dE .Add) (rI0 λi j=>.int (i+j)):=opI0 λ_ _ _ _ _ _ _ q=>add_int q
def N5:OpR X (dE .Sub) (rI0 λi j=>.int (i-j)):=opI0 λ_ _ _ _ _ _ _ q=>sub_int q
def N9:OpR X (dE .Mult) (rI CMul λi j=>.int (i*j)):=opI λ_ _ _ _ _ _ _ hc q=>mul_int q hc.ok
def JV:OpR X (dE .Mod) (rI (λ_ j=>0<j) λi j=>.int (i%j)):=opI λi j _ _ _ _ _ hc q=>by have h1:(0:Int)<j:=hc;exact mod_int' (by lia) (by rw[Int.fmod_eq_emod_of_nonneg i (by lia)];exact q)
def N7:OpR X (dE .Pow) (rI CPow λi j=>.int (i^j.toNat)):=opI λ_ _ _ _ _ _ _ hc q=>pow_int_small hc.1 hc.2.1 hc.2.2 q
def unI{f:ai->Sem ai}{g:Int->Int}(rule:∀(i:Int)(t:Tok)(s:ax)(Q:ai->ax->Prop)(E:ai->ax->Prop),Q (.int (g i) s.toks) { s with toks:=s.toks+1 }->aS (model X.prog X.w) X.A (f (.int i t)) Q E s) :
  UnR X f (rU λi=>.int (g i)):=by
 intro Pf s O H x v Q I rx h;obtain⟨i,rfl,q⟩:=h;obtain⟨t,rfl⟩:=rx;exact rule i t s _ _ ⟨.int (g i),H,I.tok _,⟨_,rfl⟩,q⟩
def JB:UnR X (unaryOp .USub) (rU λi=>.int (-i)):=unI λ_ _ _ _ _ q=>neg_int q
def scal:V->V->Bool
 |.non,.non=>true|.non,.int _=>true|.int _,.non=>true|.non,.bl _=>true|.bl _,.non=>true|.non,.str _=>true|.str _,.non=>true
 |.int _,.int _=>true|.bl _,.bl _=>true|.str _,.str _=>true|.byt _,.byt _=>true
 |.int _,.str _=>true|.str _,.int _=>true|.bl _,.str _=>true|.str _,.bl _=>true
 |_,_=>false
def rNe:R2:=λx y H Q=>scal x y=true/\Q (.bl (!decide (x=y))) H
def Ms:decide (V.int i=V.int j)=(i==j):=by rw[bU];simp
def OO:decide (V.bl i=V.bl j)=(i==j):=by rw[bU];simp
def Mr:decide (V.str i=V.str j)=(i==j):=by rw[bU];simp
def Mu:decide (V.byt i=V.byt j)=(i.toList==j.toList):=by rw[bU];cases i;cases j;simp
def oY(I:Inv X Pf O H s)(q:Q (.bl k) H)(e:k=k'):EP X Pf O Q (.bool k') s:=by subst e;exact⟨.bl k,H,I,rfl,q⟩
def op_ne:OpR X (bS .NotEq) rNe:=by
 intro Pf s O H x y v u Q I rx ry h;obtain⟨hs,q⟩:=h;cases x with
 |non =>
  cases rx;cases y with
  |non=>cases ry;exact PySem.EqNone.ne_none_none (oY I q (by simp))
  |bl j=>cases ry;exact PySem.EqNone.ne_none_bool (oY I q (by simp))
  |int j=>obtain⟨t',rfl⟩:=ry;exact PySem.EqNone.ne_none_int (oY I q (by simp))
  |str j=>obtain⟨t',rfl⟩:=ry;exact PySem.EqNone.ne_none_str (oY I q (by simp))
  |_=>exact absurd (show false=true from hs) aY
 |bl i =>
  cases rx;cases y with
  |non=>cases ry;exact PySem.EqNone.ne_bool_none (oY I q (by simp))
  |bl j=>cases ry;exact ne_bool (oY I q (congrArg not OO))
  |str j=>obtain⟨t',rfl⟩:=ry;exact PySem.EqMixed.ne_bool_str (oY I q (by simp))
  |_=>exact absurd (show false=true from hs) aY
 |int i =>
  obtain⟨t,rfl⟩:=rx;cases y with
  |non=>cases ry;exact PySem.EqNone.ne_int_none (oY I q (by simp))
  |int j=>obtain⟨t',rfl⟩:=ry;exact ne_int (oY I q (congrArg not Ms))
  |str j=>obtain⟨t',rfl⟩:=ry;exact PySem.EqMixed.ne_int_str (oY I q (by simp))
  |_=>exact absurd (show false=true from hs) aY
 |str i =>
  obtain⟨t,rfl⟩:=rx;cases y with
  |non=>cases ry;exact PySem.EqNone.ne_str_none (oY I q (by simp))
  |bl j=>cases ry;exact PySem.EqMixed.ne_str_bool (oY I q (by simp))
  |int j=>obtain⟨t',rfl⟩:=ry;exact PySem.EqMixed.ne_str_int (oY I q (by simp))
  |str j=>obtain⟨t',rfl⟩:=ry;exact ne_str (oY I q (congrArg not Mr))
  |_=>exact absurd (show false=true from hs) aY
 |byt i =>
  obtain⟨t,rfl⟩:=rx;cases y with
  |byt j=>obtain⟨t',rfl⟩:=ry;exact PySem.W.ne_bytes (oY I q (congrArg not Mu))
  |_=>exact absurd (show false=true from hs) aY
 |_=>cases y<;>exact absurd (show false=true from hs) aY
def M9:OpR X (bS .Lt) (rI0 λi j=>.bl (decide (i<j))):=Nd λ_ _ _ _ _ _ _ q=>lt_int q
def Na:OpR X (bS .LtE) (rI0 λi j=>.bl (decide (i<=j))):=Nd λ_ _ _ _ _ _ _ q=>le_int q
def Nc:OpR X (bS .Gt) (rI0 λi j=>.bl (decide (j<i))):=Nd λ_ _ _ _ _ _ _ q=>gt_int q
def Kx:OpR X (bS .GtE) (rI0 λi j=>.bl (decide (j<=i))):=Nd λ_ _ _ _ _ _ _ q=>ge_int q
def OpR.or(h:OpR X f r)(h':OpR X f r'):OpR X f (λx y H Q=>r x y H Q\/r' x y H Q):=by
 intro Pf s O H x y v u Q I rx ry q;rcases q with q|q
 ·exact h Pf s O H x y v u Q I rx ry q
 ·exact h' Pf s O H x y v u Q I rx ry q
def uU(b)(h:op≠.In:=by decide)(h2:op≠.NotIn:=by decide):cR op b=false:=by
 have e1:(op==CmpOp.In)=false:=by cases op<;>first|rfl|exact absurd rfl h
 have e2:(op==CmpOp.NotIn)=false:=by cases op<;>first|rfl|exact absurd rfl h2
 cases b<;>simp[cR,e1,e2]
def FW{op:CmpOp}{r}(ho:OpR X (bS op) r)(ha:PE X a ta)(hb:PE X b tb)(hm:cR op b=false):PE X (.Compare a [op] [b] pos) (tOp r ta tb):=by intro Pf s O H Q I h;exact wpAny_Compare1 (Pd ha hb I h λv u s2 x y H2 I2 rx ry q=>ho Pf s2 O H2 x y v u Q I2 rx ry q) hm
def tTest(t:TE):TT:=λO H Q=>t O H λx H'=>∃k,x=.bl k/\Q k H'
def uR{op:CmpOp}{r}(ho:OpR X (bS op) r)(ha:PE X a ta)(hb:PE X b tb)(hm:cR op b=false):PT X (.Compare a [op] [b] pos) (tTest (tOp r ta tb)):=by
 intro Pf s O H Q I h;refine wpAny_isTrue_Compare1 (thn (ha Pf s O H _ I h) λv s1=>e4 λx H1 I1 r1 q1=>thn (hb Pf s1 O H1 _ I1 q1) λu s2=>e4 λy H2 I2 r2 q2 =>
  thn (ho Pf s2 O H2 x y v u _ I2 r1 r2 q2) λc s3=>e4 λz H3 I3 r3 ⟨k,e,q3⟩=>?_) hm
 subst e;cases r3;exact ej ⟨H3,I3,q3⟩
def NF(r r':R2)(ta tb tc:TE):TE:=λO H Q=>ta O H λx H1=>tb O H1 λy H2=>r x y H2 λz H3=>∃k,z=.bl k /\
 (if k=true then tc O H3 λw' H4=>r' y w' H4 Q else Q (.bl false) H3)
def DR(ho:OpR X (bS op) r)(Rt:OpR X (bS op') r')(ha:PE X a ta)(hb:PE X b tb)(hc:PE X c tc)(hm:lastMarks [op,op'] [b,c]=false:=by with_unfolding_all rfl):PE X (.Compare a [op,op'] [b,c] pos) (NF r r' ta tb tc):=by
 intro Pf s O H Q I h;refine Compare_chain (thn (ha Pf s O H _ I h) λv s1=>e4 λx H1 I1 r1 q1=>chain_link (thn (hb Pf s1 O H1 _ I1 q1) λu s2=>e4 λy H2 I2 r2 q2 =>
  thn (ho Pf s2 O H2 x y v u _ I2 r1 r2 q2) λd s3=>e4 λz H3 I3 r3 ⟨k,e,q3⟩=>?_)) hm
 subst e;cases r3;refine ej ?_;cases k with
 |false=>exact ite_ff ⟨.bl false,H3,I3,rfl,q3⟩
 |true=>exact ite_tt (chain_last (thn (hc Pf s3 O H3 _ I3 q3) λw' s4=>e4 λz' H4 I4 r4 q4=>Rt Pf s4 O H4 y z' u w' Q I4 r2 r4 q4))
def vQ:(aI:Nat)<2^63:=by rw[jM];decide
def op_add_str:OpR X (dE .Add) (λx y H Q=>∃i j,x=.str i/\y=.str j/\i.length+j.length<=aI/\Q (.str (i++j)) H):=by intro Pf s O H x y v u Q I rx ry h;obtain⟨i,j,rfl,rfl,hz,q⟩:=h;obtain⟨t,rfl⟩:=rx;obtain⟨t',rfl⟩:=ry;exact add_str (λt' tk=>⟨.str (i++j),H,I.tok _,⟨_,rfl⟩,q⟩) hz
def qI(r:Vals [x] us):∃u,us=[u]/\RelV x u:=by
 cases r with
 |cons r1 r2=>cases r2;exact⟨_,rfl,r1⟩
def MU(r:Vals [x,y] us):∃u w',us=[u,w']/\RelV x u/\RelV y w':=by
 cases r with
 |cons r1 r2 =>
  cases r2 with
  |cons r3 r4=>cases r4;exact⟨_,_,rfl,r1,r3⟩
def Ju:CallR X (.builtin "abs") (λxs H Q=>∃i,xs=[.int i]/\Q (.int (if i<0 then -i else i)) H):=by intro Pf s O H xs us Q I r h;obtain⟨i,rfl,q⟩:=h;obtain⟨u,rfl,t,rfl⟩:=qI r;exact call_abs_int λu tk=>⟨.int (if i<0 then -i else i),H,I.tok _,⟨_,rfl⟩,q⟩
def HD:CallR X (.type "int") (λxs H Q=>(∃i,xs=[.int i]/\Q (.int i) H)\/∃k,xs=[.bl k]/\Q (.int (if k then 1 else 0)) H):=by
 intro Pf s O H xs us Q I r h;rcases h with⟨i,rfl,q⟩|⟨k,rfl,q⟩
 ·obtain⟨u,rfl,t,rfl⟩:=qI r;exact call_int_int ⟨.int i,H,I,⟨_,rfl⟩,q⟩
 ·obtain⟨u,rfl,r1⟩:=qI r;cases r1;exact call_int_bool ⟨.int (if k then 1 else 0),H,I.tok _,⟨_,rfl⟩,q⟩
end
structure ObjM(h:bx)(x dx C:ak)(mA:Str->Option ai):Prop where
 obj:h.get? x=Za (di C dx)
 ns:h.Ns1 dx mA
 ne:dx≠x
def Hk{h:bx}{dx:ak}{mA:Str->Option ai}(n:h.Ns1 dx mA):∃od,h.get? dx=Za od/\∀name,gR name od=Za (mA name):=by
 obtain⟨o,es,ep,ho,hd,hk,_,hm⟩:=n;refine⟨o,ho,λname=>?_⟩;have e:=hm name;unfold nsFind findBy at e;rw[<-Array.find?_toList] at e;unfold gR;rw[hd];dsimp only;split
 ·rename_i y q;rw[q] at e;exact congrArg Za e
 ·rename_i q;rw[q] at e;have a:es.toList.any (·.refKey)=false:=by rw[List.any_eq_false];intro y hy;obtain⟨z,t,R6⟩:=hk y (Array.mem_toList_iff.mp hy);simp[DictEntry.refKey,R6]
  have a':¬es.toList.any (·.refKey)=true:=by rw[a];exact aY
  rw[Zd a'];exact congrArg Za e
def ObjM.look(I:ObjM h x dx C mA):∃od,PySem.W.InstAt h x (di C dx) C (Za od)/\∀name,gR name od=Za (mA name) :=
 let⟨od,ho,hl⟩:=Hk I.ns
 ⟨od,⟨I.obj,rfl,rfl,ho⟩,hl⟩
section
variable{prog:aK}{w:ba}{A:cA}{E:ai->ax->Prop}{s:ax}{K:aa}{x dx C f:ak}{mA:Str->Option ai}{name:Str}{v:ai}
def L7(X:K.In s.heap)(I:ObjM s.heap x dx C mA)(hg:d6 K C name=true)(hh:eT K C=true)(ha:aU K (.ref C) name=Za Zb)(hv:mA name=Za v)(hv':kS v=true)(h:Q v { s with toks:=s.toks+1 }) :
  aS (model prog w) A (getAttr (.ref x) name expr) Q E s:=by
 obtain⟨od,J,hl⟩:=I.look;exact PySem.W.get_value X J (g9 hg).1 (PySem.W.findObj_own hh ha rfl (by rw[hl,hv])) hv' h
def Je(X:K.In s.heap)(I:ObjM s.heap x dx C mA)(hg:d6 K C name=true)(hf:aU K (.ref C) name=Za (Za (.ref f)))(ht:gy K (.ref f)=true)(hv:mA name=Zb)(h:Q (.ref f,[.ref x]) s) :
  aS (model prog w) A (fQ (.ref x) name pl) Q E s:=by
 obtain⟨od,J,hl⟩:=I.look;exact PySem.W.method_fn X J (g9 hg).1 (g9 hg).2 hf (beq_iff_eq.mp ht) (by show(gR name od).map (·.isSome)=Za false;rw[hl,hv];rfl) h
def K2(X:K.In s.heap)(I:ObjM s.heap x dx C mA)(hs:aU K (.ref C) "__setattr__"=Za (Za (.builtin "object.__setattr__")))(hp:f6 K C=true)(ht:i6 K C name=Za Zb)(hh:eT K C=true)(hw:jU mA ns)(hsz:ns.length<=aI)(h:∀h',ObjM h' x dx C (λy=>if y=name then Za v else mA y)->iV dx s.heap h'->Q () { s with heap:=h',toks:=s.toks+2 }) :
  aS (model prog w) A (setAttr (.ref x) name v) Q E s:=by
 obtain⟨od,J,hl⟩:=I.look;refine PySem.W.set_plain X J hs (PySem.W.osa_open (s:={ s with toks:=s.toks+1 }) (r:=Zb) X J hp ht λb=>?_);obtain⟨cd,hc,Tw⟩:=PySem.W.any_some hh;have hx:s.heap.get? x=Za ⟨.ref C,Za dx,.plain,#[]⟩:=I.obj;refine aq (aM (aq (aq (wpAny_loadPart hx (aq (PySem.W.Looks.here (s:={ s with toks:=s.toks+1 }) (PySem.W.looks_clsIn X hc) ?_))))));rw[Tw];refine aM (a:=Za dx) (aq (aM (aq ?_)));refine wpAny_nsSet1 (s:={ s with toks:=s.toks+1 }) I.ns λh' Ud Rq=>?_;obtain⟨oD,esD,epD,hoD,hdD,hcD⟩:=Ud.count (PySem.Within.cons name v hw);refine aq (wpAny_lookBehind hoD (by rw[hdD];exact pastItsLine_dict (aH hcD (by rw[bh];lia))) ?_);exact aM (h _ ⟨(Rq.2 _ (bY I.ne)).trans I.obj,Ud,I.ne⟩ Rq)
def IV(X:K.In s.heap)(hm:fE K C=true)(hi:aU K (.ref C) "__init__"=Za (Za (.ref f)))(hf:PySem.W.typeIn K (.ref f)=Za (.type "function"))(h:gg (model prog w) (A.under (.builtin "type.__call__" ⟨.ref C::vs,kw⟩)) (.call (.ref f) ⟨.ref (s.heap.objs.size+1)::vs,kw⟩) (PySem.W.InitBack (s.heap.objs.size+1) R)
   {s with heap:=(s.heap.push cE).push (di C s.heap.objs.size) }) :
  gg (model prog w) A (.call (.ref C) ⟨vs,kw⟩) R s:=by
 obtain⟨hh,g,d,t,os⟩:=s;exact PySem.W.make_core (PySem.W.makes_of X hm) (PySem.W.looks_findIn X hi) (λself=>PySem.W.bind_fn X self hf) (.inl rfl) h
end
def putF(f:Str)(v:V):List (Str×V)->List (Str×V)
 |[]=>[(f,v)]
 |(g,x)::r=>if g=f then(g,v)::r else(g,x)::putF f v r
theorem xy(f g)(v):∀fs:List (Str×V),(putF f v fs).lookup g=if g=f then Za v else fs.lookup g
 |[]=>by
  show cZ g [(f,v)]=_;by_cases h:g=f
  ·have hb:(g==f)=true:=beq_iff_eq.mpr h;simp only[cZ,hb,Zc h]
  ·have hb:(g==f)=false:=beq_eq_false_iff_ne.mpr h;simp only[cZ,hb,Zd h]
 |(k,x)::r=>by
  have ih:=xy f g v r;rw[show putF f v ((k,x)::r)=(if k=f then(k,v)::r else(k,x)::putF f v r) from rfl];by_cases hk:k=f
  ·rw[Zc hk];by_cases h:g=k
   ·have hb:(g==k)=true:=beq_iff_eq.mpr h;simp only[cZ,hb,Zc (h.trans hk)]
   ·have hb:(g==k)=false:=beq_eq_false_iff_ne.mpr h;simp only[cZ,hb,Zd (λe:g=f=>h (e.trans hk.symm))]
  ·rw[Zd hk];by_cases h:g=k
   ·have hb:(g==k)=true:=beq_iff_eq.mpr h;simp only[cZ,hb,Zd (λe:g=f=>hk (h.symm.trans e))]
   ·have hb:(g==k)=false:=beq_eq_false_iff_ne.mpr h;simp only[cZ,hb];exact ih
theorem w6(f)(v):∀fs:List (Str×V),f∈(putF f v fs).map (·.1)/\∀g,g∈fs.map (·.1)->g∈(putF f v fs).map (·.1)
 |[]=>⟨by simp[putF],λg h=>by simp at h⟩
 |(k,x)::r=>by
  obtain⟨i1,i2⟩:=w6 f v r;rw[show putF f v ((k,x)::r)=(if k=f then(k,v)::r else(k,x)::putF f v r) from rfl];by_cases hk:k=f
  ·rw[Zc hk];subst hk;exact⟨by simp,λg h=>by simpa using h⟩
  ·rw[Zd hk];refine⟨?_,λg h=>?_⟩
   ·rw[am];exact ae _ i1
   ·rw[am] at h ⊢;rcases ah.mp h with e|e
    ·exact ah.mpr (.inl e)
    ·exact ae _ (i2 g e)
theorem tW(f)(v):∀fs:List (Str×V),(putF f v fs).length<=fs.length+1
 |[]=>by simp[putF]
 |(k,x)::r=>by
  have ih:=tW f v r;rw[show putF f v ((k,x)::r)=(if k=f then(k,v)::r else(k,x)::putF f v r) from rfl];by_cases hk:k=f
  ·rw[Zc hk,bh,bh];lia
  ·rw[Zd hk,bh,bh];lia
def RelO.some_of(r:RelO (Za v) o):∃u,o=Za u/\RelV v u:=by
 cases o with
 |none=>exact(show False from r).elim
 |some u=>exact⟨u,rfl,r⟩
def RelO.none_of(r:RelO Zb o):o=none:=by
 cases o with
 |none=>rfl
 |some u=>exact(show False from r).elim
def Hv(r:RelV v u):kS u=true:=by
 cases v with
 |non=>cases(show u=kU from r);rfl
 |bl b=>cases(show u=kW b from r);rfl
 |int i=>obtain⟨t,e⟩:=(show ∃t,u=fV i t from r);cases e;rfl
 |str x=>obtain⟨t,e⟩:=(show ∃t,u=ib x t from r);cases e;rfl
 |byt b=>obtain⟨t,e⟩:=(show ∃t,u=Value.bytes b t from r);cases e;rfl
 |flt b=>obtain⟨t,e⟩:=(show ∃t,u=Value.float b t from r);cases e;rfl
 |ref a=>cases(show u=bi a from r);rfl
 |ty n=>cases(show u=Value.type n from r);rfl
section
variable{P:aK}{w:ba}{H H':Hp}{h h':bx}{a C dx:ak}{fs Qp:List (Str×V)}
def CA(hok:HOk P w H h)(e:H a=Za (.ins C dx fs)):∃mA,ObjM h a dx C mA/\(∀f,RelO (fs.lookup f) (mA f))/\jU mA (fs.map (·.1))/\fs.length<=1000/\H dx=Za (.own a):=by obtain⟨d,z,ne,ob,mA,n,r,q⟩:=(show ObjOk P w H h a (.ins C dx fs) from hok a _ e);exact⟨mA,⟨ob,n,ne⟩,r,q,z,d⟩
end
structure Cls(K:aa)(C:ak):Prop where
 pg:d6 K C cx=true
 hd:eT K C=true
 po:f6 K C=true
 sa:aU K (.ref C) "__setattr__"=Za (Za (.builtin "object.__setattr__"))
def Cls.get{K}{C}(c:Cls K C)(f):d6 K C f=true:=c.pg
def NoAttr(K:aa)(C:ak)(f:Str):Prop:=aU K (.ref C) f=Za Zb
def NoAttr.taker{K}{C}{f}(n:NoAttr K C f):i6 K C f=Za none:=by unfold i6;rw[show aU K (.ref C) f=Za Zb from n];rfl
structure Con(K:aa)(C:ak)(f:Str)(v:V)(u:ai):Prop where
 at_:aU K (.ref C) f=Za (Za u)
 rel:RelV v u
 get:fZ K u "__get__"=Za Zb
 cp:PySem.W.copiedNames.contains f=false
structure Meth(K:aa)(C:ak)(m:Str)(f:ak):Prop where
 at_:aU K (.ref C) m=Za (Za (.ref f))
 fn:gy K (.ref f)=true
 kp:cD K (.ref f)=true
section
variable{X:Cx}{Pf:List (ak×Obj)}{O:St}{H:Hp}{s:ax}{a C dx:ak}{fs:List (Str×V)}{f:Str}{v:V}{A:cA}{E:ai->ax->Prop}
def E3(I:Inv X Pf O H s)(e:H a=Za (.ins C dx fs))(c:Cls X.K C)(n:NoAttr X.K C f)(l:fs.lookup f=Za v)(h:∀u s',Inv X Pf O H s'->RelV v u->Q u s'):aS (model X.prog X.w) A (getAttr (.ref a) f b) Q E s:=by
 obtain⟨mA,Zi,r,_,_,_⟩:=CA I.hok e;obtain⟨u,hu,ru⟩:=RelO.some_of (v:=v) (o:=mA f) (by rw[<-l];exact r f);exact L7 I.kIn Zi (c.get f) c.hd n hu (Hv ru) (h u _ (I.tok _) ru)
def zc(I:Inv X Pf O H s)(e:H a=Za (.ins C dx fs))(c:Cls X.K C)(k:Meth X.K C m g)(l:fs.lookup m=Zb)(h:Q (.ref g,[.ref a]) s):aS (model X.prog X.w) A (fQ (.ref a) m pl) Q E s:=by
 obtain⟨mA,Zi,r,_,_,_⟩:=CA I.hok e;have hn:mA m=none:=RelO.none_of (by rw[<-l];exact r m);exact Je I.kIn Zi (c.get m) k.at_ k.fn hn h
def EA(I:Inv X Pf O H s)(e:H a=Za (.ins C dx fs))(c:Cls X.K C)(n:NoAttr X.K C f)(hl:fs.length<1000)(ry:RelV y u)(h:∀s',Inv X Pf O (upd H a (.ins C dx (putF f y fs))) s'->Q () s'):aS (model X.prog X.w) A (setAttr (.ref a) f u) Q E s:=by
 obtain⟨mA,Zi,r,wi,_,ho⟩:=CA I.hok e;have hz:(fs.map (·.1)).length<=aI:=by rw[ac,jM];lia
 refine K2 I.kIn Zi c.sa c.po n.taker c.hd wi hz λh' O' sb=>h _ ?_;have hd:∃o,h'.get? dx=Za o:=let⟨o,_,_,e',_⟩:=O'.ns;⟨o,e'⟩;refine I.write (x:=a) (e:=dx) (by rw[e];exact eQ) (.inr ho) (λb q hb z=>(sb.2 b hb).trans z) hd ?_;refine⟨by rw[lG Zi.ne];exact ho,?_,Zi.ne,O'.obj,_,O'.ns,λg=>?_,λg hg=>?_⟩
 ·have:=tW f y fs;lia
 ·show RelO ((putF f y fs).lookup g) (if g=f then Za u else mA g);rw[xy];by_cases q:g=f
  ·rw[Zc q,Zc q];exact ry
  ·rw[Zd q,Zd q];exact r g
 ·by_cases q:g=f
  ·rw[q];exact(w6 f y fs).1
  ·refine(w6 f y fs).2 g (wi g λz=>hg ?_);show(if g=f then Za u else mA g)=Zb;rw[Zd q];exact z
def Inv.made(I:Inv X Pf O H s):Inv X Pf O (upd (upd H s.heap.objs.size (.own (s.heap.objs.size+1))) (s.heap.objs.size+1) (.ins C s.heap.objs.size []))
  {s with heap:=(s.heap.push cE).push (di C s.heap.objs.size) }:=by
 have e1:(s.heap.push cE).get? s.heap.objs.size=Za cE:=a6 s.heap rfl;have e2:((s.heap.push cE).push (di C s.heap.objs.size)).get? (s.heap.objs.size+1)=Za (di C s.heap.objs.size):=by have:=a6 (s.heap.push cE) (o:=di C s.heap.objs.size) rfl;rwa[jy] at this
 have e3:(s.heap.push cE).Ns s.heap.objs.size (λ_=>Zb):=⟨cE,#[],_,e1,rfl,(λe he=>absurd he (by simp)),λ_=>rfl⟩;have I1:=I.laid (a:=s.heap.objs.size) (o:=.own (s.heap.objs.size+1)) (h':=s.heap.push cE) (t':=s.toks) (λb u q=>ar _ q) (ap _) ⟨_,e1⟩;refine I1.laid (a:=s.heap.objs.size+1) (o:=.ins C s.heap.objs.size []) (t':=s.toks) (λb u q=>ar _ q) (kG (jy _ _)) ?_;have ne:s.heap.objs.size≠s.heap.objs.size+1:=aF (cC _);refine⟨by rw[lG ne,lJ],aZ _,ne,e2,λ_=>Zb,(Heap.Ns1.of_empty e3).at λo q=>ar _ q,λ_=>eQ,λy hy=>absurd rfl hy⟩
def MK{f}{s}(hb:cz e f env (eval e env)=eval e env)(h:aS (model prog w) A (eval e env) (λo Ps=>aS (model prog w) A (getAttr o f true) Q E Ps) E s):aS (model prog w) A (eval (.Attribute e f pos) env) Q E s :=
 Attribute_any_ h (by rw[arm_eval_Attribute,hb])
end
def tFld(K:aa)(ta:TE)(f:Str):TE:=λO H Q=>ta O H λx H1=>∃a C dx fs v,x=.ref a/\H1 a=Za (.ins C dx fs)/\Cls K C/\NoAttr K C f/\fs.lookup f=Za v/\Q v H1
def sFld(K:aa)(ta tv:TE)(f:Str):TS:=λD O H=>tv O H λy H1=>ta O H1 λx H2=>∃a C dx fs,x=.ref a/\H2 a=Za (.ins C dx fs)/\Cls K C/\NoAttr K C f/\fs.length<1000 /\
 D.nx O (upd H2 a (.ins C dx (putF f y fs)))
section
variable{X:Cx}{o e value:bo}{f:Str}{pos Pw PY:Pos}{ta tv:TE}
def nJ(he:PE X e ta)(hb:cz e f X.env (eval e X.env)=eval e X.env):PE X (.Attribute e f pos) (tFld X.K ta f):=by intro Pf s O H Q I h;refine MK hb (thn (he Pf s O H _ I h) λu s1=>e4 λx H1 I1 rx ⟨a,C,dx,fs,v,ex,ea,c,n,l,q⟩=>?_);subst ex;obtain rfl:u=bi a:=rx;exact E3 I1 ea c n l λu' s2 I2 ru=>⟨v,H1,I2,ru,q⟩
def x6(ha:PE X o ta)(hv:PE X value tv)(hs:dL value (Za (.Attribute o f Pw)) pos.line X.env=pure false):PS X (.Assign [.Attribute o f Pw] value pos) (sFld X.K ta tv f):=by intro Pf s O H D I h;refine plainObj_wpAny_Assign_Attribute (thn (hv Pf s O H _ I h) λu s1=>e4 λy H1 I1 ry q=>thn (ha Pf s1 O H1 _ I1 q) λov s2=>e4 λx H2 I2 rx ⟨a,C,dx,fs,ex,ea,c,n,l,q2⟩=>?_) hs;subst ex;obtain rfl:ov=bi a:=rx;exact EA I2 ea c n l ry λs3 I3=>⟨O,_,I3,q2⟩
end
section
variable{X:Cx}{Pf:List (ak×Obj)}{O:St}{H:Hp}{s:ax}{A:cA}{E:ai->ax->Prop}{Q:ai->ax->Prop}{c:ai}{b:Bool}
inductive TyOf (K:aa) (H:Hp):V->ai->Prop where
 |non:TyOf K H .non (.type "NoneType")
 |bl (x:Bool):TyOf K H (.bl x) (.type "bool")
 |int (i:Int):TyOf K H (.int i) (.type "int")
 |str (x:Str):TyOf K H (.str x) (.type "str")
 |flt (x:UInt64):TyOf K H (.flt x) (.type "float")
 |lst {a:ak}{xs:List V} (e:H a=Za (.lst xs)):TyOf K H (.ref a) (.type "list")
 |frz {a:ak}{o:Obj}{xs:List V} (e:H a=Za (.frz o (.lst xs))):TyOf K H (.ref a) (.type "list")
 |tup {a:ak}{xs:List V} (e:H a=Za (.tup xs)):TyOf K H (.ref a) (.type "tuple")
 |dK {a:ak}{kvs:List (Key×V)} (e:H a=Za (.dK kvs)):TyOf K H (.ref a) (.type "dict")
 |dT {a:ak}{kvs:List (List Key×V)} (e:H a=Za (.dT kvs)):TyOf K H (.ref a) (.type "dict")
 |ins {a C dx:ak}{fs:List (Str×V)} (e:H a=Za (.ins C dx fs)) (cl:Cls K C) (ha:aU K (.ref C) "__class__"=Za (Za (.builtin "object.__class__")))
   (hn:fZ K (.builtin "object.__class__") "__get__"=Za (Za (.builtin "getset_descriptor.__get__"))) (htk:i0 K (.builtin "object.__class__")=Za true)
   (hm:f8 K C (.type "object")=Za true):TyOf K H (.ref a) (.ref C)
end
structure Room(k:Nat)(A:cA):Prop where
 hd:A.handled=Zb
 dp:A.depth+3*k+5<recursionLimit
 un:A.units+16*k+200<eR
def Room.mono(r:Room k A)(h:j<=k):Room j A:=⟨r.hd,by have:=r.dp;lia,by have:=r.un;lia⟩
theorem Room.deeper(r:Room (k+1) A)(env:Env):Room k (A.deeper env) :=
 ⟨r.hd,by have:=r.dp;show A.depth+1+3*k+5<_;lia,by have:=r.un;show A.units+3+16*k+200<_;lia⟩
def EW{A:cA}{C:ak}{us:List ai}{kw:List (Str×ai)}:(A.under (.builtin "type.__call__" ⟨.ref C::us,kw⟩)).depth=A.depth+1:=by
 first|rfl|simp[jR,Code.weight,Code.isCreation,Code.isGuard,Code.isCaller,Code.frames,kj,guardIds]
def EV{A:cA}{C:ak}{us:List ai}{kw:List (Str×ai)}:(A.under (.builtin "type.__call__" ⟨.ref C::us,kw⟩)).units=A.units+1:=by
 first|rfl|simp[jR,Code.cUnits,Code.frames,kj]
def Room.make(r:Room (k+1) A)(C:ak)(us:List ai)(kw:List (Str×ai)):Room k (A.under (.builtin "type.__call__" ⟨.ref C::us,kw⟩)) :=
 ⟨r.hd,by have:=r.dp;rw[EW];lia,by have:=r.un;rw[EV];lia⟩
theorem Room.depth(r:Room k A):A.depth<recursionLimit:=by have:=r.dp;lia
theorem Room.units(r:Room k A):A.units+64<eR:=by have:=r.un;lia
def JE:TA:=λ_ H Q=>Q [] H
def Kn(ta:TE)(tr:TA):TA:=λO H Q=>ta O H λx H1=>tr O H1 λxs H2=>Q (x::xs) H2
section
variable{X:Cx}{e:bo}{es:List bo}{te:TE}{t:TA}{pos:Pos}
def pa_nil:PA X [] JE:=λ_ _ _ _ H Q I h=>f9 ⟨[],H,I,.nil,h⟩
abbrev SEb(X:Cx)(e:bo)(es:List bo):Prop:=aB (e::es) X.env=(false,eval e X.env)::aB es X.env
def lS(ha:PE X e te)(hr:PA X es t)(hs:SEb X e es:=by rfl):PA X (e::es) (Kn te t):=by intro pos Pf s O H Q I h;rw[hs];show aS _ _ (spliced ((false,eval e X.env)::b5 pos (aB es X.env))) _ _ s;refine eO (thn (ha Pf s O H _ I h) λu s1=>e4 λx H1 I1 r1 q1=>?_);exact thn (hr pos Pf s1 O H1 _ I1 q1) λus s2=>e4 λxs H2 I2 r2 q2=>⟨x::xs,H2,I2,.cons r1 r2,q2⟩
def tTup(t:TA):TE:=λO H Q=>t O H λxs H1=>xs.length<=aI/\∀p,H1 p=Zb->Q (.ref p) (upd H1 p (.tup xs))
def tLst(t:TA):TE:=λO H Q=>t O H λxs H1=>xs.length<=aI/\∀p,H1 p=Zb->Q (.ref p) (upd H1 p (.lst xs))
def vO{x1}(h:PA X es t):PE X (.Tuple es x1 pos) (tTup t):=by intro Pf s O H Q I hq;refine wpAny_Tuple_spliced (thn (h pos Pf s O H _ I hq) λus s1=>e4 λxs H1 I1 r ⟨z,q⟩=>⟨by rw[<-r.length];exact z,?_⟩);have hf:H1 s1.heap.objs.size=none:=I1.hok.fresh (ap _);refine⟨.ref s1.heap.objs.size,upd H1 s1.heap.objs.size (.tup xs),I1.laid (t':=s1.toks) (λb u e=>ar _ e) (ap _) ?_,rfl,q _ hf⟩;exact⟨z,us,r,⟨_,a6 _ rfl,rfl,_,rfl⟩⟩
def JR(h:PA X es t):PE X (.List es pos) (tLst t):=by intro Pf s O H Q I hq;refine wpAny_List_spliced (thn (h pos Pf s O H _ I hq) λus s1=>e4 λxs H1 I1 r ⟨z,q⟩=>⟨by rw[<-r.length];exact z,?_⟩);have hf:H1 s1.heap.objs.size=none:=I1.hok.fresh (ap _);refine⟨.ref s1.heap.objs.size,upd H1 s1.heap.objs.size (.lst xs),I1.laid (t':=s1.toks) (λb u e=>ar _ e) (ap _) ?_,rfl,q _ hf⟩;exact⟨z,us,0,r,a6 _ rfl⟩
end
abbrev Sp:=List V->Hp->VK->XK->Prop
abbrev CXT:=List Env->Hp->ax->XK->ai->ax->Prop
structure Env0(P:aK)(w:ba)(K:aa)(mg:Str->Option ai)(base:bx)(A:cA)(outer:List Env)(s:ax)(H:Hp):Prop where
 frames:A.frames=Za outer
 mod:Mod K mg base
 bs:∀b o,base.get? b=Za o->s.heap.get? b=Za o/\H b=Zb
 bsz:base.objs.size<=s.heap.objs.size
 funs:s.heap.FunFrames base outer
 frf:∀b∈frs outer,H b=Zb
 hok:HOk P w H s.heap
 bare:gL s.gens
def CE(outer:List Env)(P:aK)(w:ba)(H:Hp)(s:ax)(Q:VK)(u:ai)(s':ax):Prop :=
 ∃v H',s'.os=s.os/\gL s'.gens/\Un (frs outer) [] H H' s.heap s'.heap/\HOk P w H' s'.heap/\RelV v u/\Q v H'
def CR(CX:CXT)(outer:List Env)(P:aK)(w:ba)(H:Hp)(s:ax)(Q:VK)(E:XK)(r:Result)(s':ax):Prop :=
 match r with
 |.ok (.ret u)=>CE outer P w H s Q u s'
 |.ok _=>False
 |.error e=>CX outer H s E e s'
structure FnOk(P:aK)(w:ba)(K:aa)(mg:Str->Option ai)(base:bx)(CX:CXT)(k:Nat)(f:ak)(fd:cq)(ps:List Str)(sp:Sp):Prop where
 len:∀vs H Q E,sp vs H Q E->vs.length=ps.length
 run:∀(A:cA)(outer:List Env)(s:ax)(H:Hp)(args:Args)(us:List ai)(vs:List V)(Q:VK)(E:XK),Room k A->Env0 P w K mg base A outer s H->jw s fd args (ps.zip us)->Vals vs us->sp vs H Q E ->
  gg (model P w) A (.call (.ref f) args) (CR CX outer P w H s Q E) s
def FnOk.imp{P}{w}{K}{mg}{base}{CX:CXT}{k}{f}{fd}{ps}{sp Sk:Sp}(F:FnOk P w K mg base CX k f fd ps sp)(h:∀vs H Q E,Sk vs H Q E->sp vs H Q E):FnOk P w K mg base CX k f fd ps Sk :=
 ⟨λvs H Q E q=>F.len vs H Q E (h _ _ _ _ q),λA outer s H args us vs Q E hr he hb hv hs=>F.run A outer s H args us vs Q E hr he hb hv (h _ _ _ _ hs)⟩
def Env0.make{P}{w}{K}{mg}{base}{A}{outer}{s}{H}(e:Env0 P w K mg base A outer s H)(C)(us)(kw) :
  Env0 P w K mg base (A.under (.builtin "type.__call__" ⟨.ref C::us,kw⟩)) outer s H:=⟨by first|exact e.frames|(simpa[jR,Code.envs,kj,pushEnvs] using e.frames),e.mod,e.bs,e.bsz,e.funs,e.frf,e.hok,e.bare⟩
section
variable{X:Cx}{Pf:List (ak×Obj)}{O:St}{H:Hp}{s s':ax}
def Inv.env0(I:Inv X Pf O H s):Env0 X.prog X.w X.K X.mg X.base X.A X.stack s H :=
 ⟨I.ok.frames,I.ok.mod,I.bs,aH I.ok.bsz I.sz,I.stack,I.stkFree,I.hok,I.bare⟩
def Inv.after(I:Inv X Pf O H s)(h:CE X.stack X.prog X.w H s Q u s'):EP X Pf O Q u s':=by obtain⟨v,H',os,bare,un,hok,r,q⟩:=h;obtain⟨hh,g,d,t,os'⟩:=s';obtain rfl:os'=s.os:=os;exact⟨v,H',I.call (h':=hh) (g':=g) (d':=d) (t':=t) (ch:=[]) un hok bare (λb z=>absurd z (by simp)),r,q⟩
end
def Ko(sp:Sp)(P9:List V)(E:XK)(t:TA):TE:=λO H Q=>t O H λvs H1=>sp (vs++P9) H1 Q E
def HJ(C:ak)(m:Str)(sp:Sp)(P9:List V)(E:XK)(ta:TE)(t:TA):TE:=λO H Q=>ta O H λx H1=>∃a dx fs,x=.ref a/\H1 a=Za (.ins C dx fs)/\fs.lookup m=Zb /\
 t O H1 λvs H2=>sp (x::(vs++P9)) H2 Q E
def HK(C:ak)(sp:Sp)(P9:List V)(E:XK)(t:TA):TE:=λO H Q=>t O H λvs H1=>∀x dx,H1 x=Zb->H1 dx=Zb->dx≠x ->
 sp (.ref x::(vs++P9)) (upd (upd H1 dx (.own x)) x (.ins C dx [])) (λv H2=>v=.non/\Q (.ref x) H2) E
def Binds(K:aa)(fd:cq)(ps:List Str)(ds:List ai):Prop :=
 ∀(s:ax)(us:List ai),K.In s.heap->(us++ds).length=ps.length->jw s fd ⟨us,[]⟩ (ps.zip (us++ds))
def Binds.all{K}{fd}{ps}(h:∀us:List ai,us.length=ps.length->fX fd ⟨us,[]⟩=pure (ps.zip us)):Binds K fd ps []:=λs us _ hl=>by rw[cS] at hl ⊢;exact .of_eq (h us hl)
def nL(CX:CXT)(X:Cx)(E:XK):Prop:=∀(Pf:List (ak×Obj))(O:St)(H:Hp)(s:ax)(e:ai)(s':ax),Inv X Pf O H s->CX X.stack H s E e s'->X.xe e s'
section
variable{X:Cx}{CX:CXT}{k:Nat}{f C:ak}{fd:cq}{ps:List Str}{sp:Sp}{P9:List V}{ds:List ai}{E:XK}{x m:Str}{p pos Pg:Pos}{e o:bo}{es:List bo}{ta:TE}{t:TA}
def Fk(F:FnOk X.prog X.w X.K X.mg X.base CX k f fd ps sp)(hr:Room k X.A)(hb:Binds X.K fd ps ds)(hd:Vals P9 ds)(hx:nL CX X E)(I:Inv X Pf O H s)(r:Vals vs us)(h:sp (vs++P9) H Q E):aS (model X.prog X.w) X.A (call (.ref f) us) (EP X Pf O Q) X.xe s:=by
 have r2:Vals (vs++P9) (us++ds):=r.append hd;have hl:(us++ds).length=ps.length:=by rw[<-r2.length];exact F.len _ _ _ _ h
 refine wpAny_call (jn (F.run X.A X.stack s H ⟨us,[]⟩ (us++ds) (vs++P9) Q E hr I.env0 (hb s us I.kIn hl) r2 h) λr s' hq=>?_);cases r with
 |error e=>exact hx Pf O H s e s' I hq
 |ok fl =>
  cases fl with
  |ret u=>exact I.after hq
  |next=>exact bT hq
  |brk=>exact bT hq
  |cont=>exact bT hq
def Lm(F:FnOk X.prog X.w X.K X.mg X.base CX k f fd ps sp)(hr:Room k X.A)(hg:Gl X x)(hm:X.mg x=Za (.ref f))(hk:cD X.K (.ref f)=true)(hb:Binds X.K fd ps ds)(hd:Vals P9 ds)(hx:nL CX X E)(ha:PA X (e::es) t)(P8:NDb x:=by decide)(he:SEb X e es:=by rfl)(PK:(b5 pos (aB es X.env)).any (·.1)=false:=by rfl) :
  PE X (.Call (.Name x p) (e::es) [] pos) (Ko sp P9 E t):=by
 intro Pf s O H Q I h;refine ft (wD I hg hm ?_ P8);refine iq (h₀:=X.base) I.ok.mod.kin hk (thn (ha pos Pf s O H _ I h) λus s1=>e4 λvs H1 I1 r q=>⟨I1.kIn,?_⟩) he PK;exact Fk F hr hb hd hx I1 r q
def Lk(he:PE X o ta)(c:Cls X.K C)(hm:Meth X.K C m f)(F:FnOk X.prog X.w X.K X.mg X.base CX k f fd ps sp)(hr:Room k X.A)(hb:Binds X.K fd ps ds)(hd:Vals P9 ds)(hx:nL CX X E)(ha:PA X (e::es) t)(QI:SEb X e es:=by rfl)(PK:(b5 pos (aB es X.env)).any (·.1)=false:=by rfl)(ht:eval (.Call (.Attribute o m Pg) (e::es) [] pos) X.env=(do
   let ov <-eval o X.env
   gc Pg.atName
   let(f,first) <-holding [ov] (fQ ov m pl)
   iM pos f first (b5 pos (aB (e::es) X.env)) (eL pos (cU [] X.env))):=by rfl) :
  PE X (.Call (.Attribute o m Pg) (e::es) [] pos) (HJ C m sp P9 E ta t):=by
 intro Pf s O H Q I h;refine jN (pl:=pl) (thn (he Pf s O H _ I h) λu s1=>e4 λx H1 I1 rx ⟨a,dx,fs,ex,ea,l,q⟩=>?_) ht;subst ex;obtain rfl:u=bi a:=rx;refine zc I1 ea c hm l ?_;refine iq (first:=[.ref a]) (h₀:=X.base) I.ok.mod.kin hm.kp (thn (ha pos Pf s1 O H1 _ I1 q) λus s2=>e4 λvs H2 I2 r q2=>⟨I2.kIn,?_⟩) QI PK;exact Fk (us:=.ref a::us) (vs:=.ref a::vs) F hr hb hd hx I2 (.cons rfl r) q2
def ID(he:PE X o ta)(c:Cls X.K C)(hm:Meth X.K C m f)(F:FnOk X.prog X.w X.K X.mg X.base CX k f fd ps sp)(hr:Room k X.A)(hb:Binds X.K fd ps ds)(hd:Vals P9 ds)(hx:nL CX X E)(ht:eval (.Call (.Attribute o m Pg) [] [] pos) X.env=(do
   let ov <-eval o X.env
   gc Pg.atName
   let(f,first) <-holding [ov] (fQ ov m pl)
   iM pos f first (b5 pos (aB [] X.env)) (eL pos (cU [] X.env))):=by rfl) :
  PE X (.Call (.Attribute o m Pg) [] [] pos) (HJ C m sp P9 E ta JE):=by
 intro Pf s O H Q I h;refine jN (pl:=pl) (thn (he Pf s O H _ I h) λu s1=>e4 λx H1 I1 rx ⟨a,dx,fs,ex,ea,l,q⟩=>?_) ht;subst ex;obtain rfl:u=bi a:=rx;refine zc I1 ea c hm l ?_;exact ke (first:=[.ref a]) I1.kIn hm.kp (Fk (us:=[.ref a]) (vs:=[.ref a]) F hr hb hd hx I1 (.cons rfl .nil) q)
structure Mk(K:aa)(C f:ak):Prop where
 makes:fE K C=true
 init:aU K (.ref C) "__init__"=Za (Za (.ref f))
 fn:gy K (.ref f)=true
 kp:cD K (.ref C)=true
def DF(M:Mk X.K C f)(F:FnOk X.prog X.w X.K X.mg X.base CX k f fd ps sp)(hr:Room (k+1) X.A)(hb:Binds X.K fd ps ds)(hd:Vals P9 ds)(hx:nL CX X E)(I:Inv X Pf O H s)(r:Vals vs us)(h:∀x dx,H x=Zb->H dx=Zb->dx≠x->sp (.ref x::(vs++P9)) (upd (upd H dx (.own x)) x (.ins C dx [])) (λv H2=>v=.non/\Q (.ref x) H2) E) :
  aS (model X.prog X.w) X.A (call (.ref C) us) (EP X Pf O Q) X.xe s:=by
 have hq:=h (s.heap.objs.size+1) s.heap.objs.size (I.hok.fresh (fL _)) (I.hok.fresh (ap _)) (aF (cC _));have I2:=Inv.made (C:=C) I;have r2:Vals (V.ref (s.heap.objs.size+1)::(vs++P9)) (bi (s.heap.objs.size+1)::(us++ds)):=.cons rfl (r.append hd);have hl:(bi (s.heap.objs.size+1)::us++ds).length=ps.length:=by have e:=r2.length;rw[F.len _ _ _ _ hq] at e;exact e.symm
 refine wpAny_call (IV (f:=f) I.kIn M.makes M.init (beq_iff_eq.mp M.fn) (jn (F.run _ X.stack _ _ ⟨bi (s.heap.objs.size+1)::us,[]⟩ (bi (s.heap.objs.size+1)::(us++ds)) _ _ E (hr.make C us [])
  (I2.env0.make C us []) (hb _ (bi (s.heap.objs.size+1)::us) I2.kIn hl) r2 hq) λr s' Qg=>?_))
 cases r with
 |error e=>exact hx Pf O _ _ e s' I2 Qg
 |ok fl =>
  cases fl with
  |ret u =>
   obtain⟨v,H',I3,rv,ev,q3⟩:=I2.after Qg;subst ev;exact⟨rv,⟨V.ref (s.heap.objs.size+1),H',I3,rfl,q3⟩⟩
  |next=>exact bT Qg
  |brk=>exact bT Qg
  |cont=>exact bT Qg
def Ll(M:Mk X.K C f)(F:FnOk X.prog X.w X.K X.mg X.base CX k f fd ps sp)(hr:Room (k+1) X.A)(hg:Gl X x)(hm:X.mg x=Za (.ref C))(hb:Binds X.K fd ps ds)(hd:Vals P9 ds)(hx:nL CX X E)(ha:PA X (e::es) t)(P8:NDb x:=by decide)(he:SEb X e es:=by rfl)(PK:(b5 pos (aB es X.env)).any (·.1)=false:=by rfl) :
  PE X (.Call (.Name x p) (e::es) [] pos) (HK C sp P9 E t):=by
 intro Pf s O H Q I h;refine ft (wD I hg hm ?_ P8);refine iq (h₀:=X.base) I.ok.mod.kin M.kp (thn (ha pos Pf s O H _ I h) λus s1=>e4 λvs H1 I1 r q=>⟨I1.kIn,?_⟩) he PK;exact DF M F hr hb hd hx I1 r q
def IE(M:Mk X.K C f)(F:FnOk X.prog X.w X.K X.mg X.base CX k f fd ps sp)(hr:Room (k+1) X.A)(hg:Gl X x)(hm:X.mg x=Za (.ref C))(hb:Binds X.K fd ps ds)(hd:Vals P9 ds)(hx:nL CX X E)(P8:NDb x:=by decide):PE X (.Call (.Name x p) [] [] pos) (HK C sp P9 E JE):=by
 intro Pf s O H Q I h;refine ft (wD I hg hm ?_ P8);exact ke I.kIn M.kp (DF (us:=[]) M F hr hb hd hx I .nil h)
end
section
variable{X:Cx}{CX:CXT}{k:Nat}{f C:ak}{fd:cq}{ps ks:List Str}{sp:Sp}{E:XK}{x m:Str}{p pos Pg kpos:Pos}{e o:bo}{es:List bo}{kws:List fG}{te ta:TE}{t tk:TA}{nm:Option Str}
structure KBinds(K:aa)(fd:cq)(ps ks:List Str)(g:List ai->List ai->List ai)(gV:List V->List V->List V):Prop where
 to:∀(s:ax)(us ws:List ai),K.In s.heap->(g us ws).length=ps.length->jw s fd ⟨us,ks.zip ws⟩ (ps.zip (g us ws))
 rel:∀{vs:List V}{us:List ai}{zs:List V}{ws:List ai},Vals vs us->Vals zs ws->Vals (gV vs zs) (g us ws)
variable{g:List ai->List ai->List ai}{gV:List V->List V->List V}
end
structure FnScope(N P:List Str)(sc:dG):Prop where
 kind:sc.kind=.function
 co:sc.isCoroutine=false
 gen:sc.isGenerator=false
 nd:N.Nodup
 pre:N.take P.length=P
 par:∀x∈P,sc.names.lookup x=Za .local\/sc.names.lookup x=Za .cell
 nofree:∀y∈sc.names,y.2≠.free
def fsc{N P:List Str}{sc:dG}(h1:sc.kind=.function:=by rfl)(h2:sc.isCoroutine=false:=by rfl)(h3:sc.isGenerator=false:=by rfl)(h4:N.Nodup:=by decide +kernel)(h5:N.take P.length=P:=by rfl)(h6:∀x∈P,sc.names.lookup x=Za .local\/sc.names.lookup x=Za .cell:=by decide +kernel)(h7:∀y∈sc.names,y.2≠.free:=by decide +kernel):FnScope N P sc:=⟨h1,h2,h3,h4,h5,h6,h7⟩
theorem BI{kindOf}{x}:∀{binds:List (Str×ai)}{m:Str->Option ai},(∀v,(x,v)∉binds)->lf kindOf binds m x=m x
 |[],_,_=>rfl
 |(n,v)::r,m,h=>by
  unfold lf;rw[BI λw hw=>h w (ae _ hw)];split
  ·have:x≠n:=by rintro rfl;exact h v ag
   simp[this]
  ·rfl
theorem BL{kindOf}{x}:∀{binds:List (Str×ai)}{m:Str->Option ai},(∀v,(x,v)∉binds)->lg kindOf binds m x=m x
 |[],_,_=>rfl
 |(n,v)::r,m,h=>by
  unfold lg;rw[BL λw hw=>h w (ae _ hw)];split
  ·rfl
  ·have:x≠n:=by rintro rfl;exact h v ag
   simp[this]
theorem BJ{kindOf}{x}{v}:∀{P:List Str}{vs:List ai}{i:Nat}{m:Str->Option ai},P.Nodup->P[i]?=Za x->vs[i]?=Za v->kindOf x=Za .local ->
  lf kindOf (P.zip vs) m x=Za v
 |[],_,_,_,_,h,_,_=>by simp at h
 |_::_,[],_,_,_,_,h,_=>by simp at h
 |p::P,w::vs,0,m,nd,h1,h2,hk=>by
  simp at h1 h2;subst h1;subst h2;show lf kindOf ((p,w)::P.zip vs) m p=_;unfold lf;rw[BI λv hv=>(ay.mp nd).1 (ji hv).1,Zc hk];simp
 |p::P,w::vs,i+1,m,nd,h1,h2,hk=>by show lf kindOf ((p,w)::P.zip vs) m x=_;unfold lf;exact BJ (i:=i) (ay.mp nd).2 (by simpa using h1) (by simpa using h2) hk
theorem BM{kindOf}{x}{v}:∀{P:List Str}{vs:List ai}{i:Nat}{m:Str->Option ai},P.Nodup->P[i]?=Za x->vs[i]?=Za v->kindOf x≠Za .local ->
  lg kindOf (P.zip vs) m x=Za v
 |[],_,_,_,_,h,_,_=>by simp at h
 |_::_,[],_,_,_,_,h,_=>by simp at h
 |p::P,w::vs,0,m,nd,h1,h2,hk=>by
  simp at h1 h2;subst h1;subst h2;show lg kindOf ((p,w)::P.zip vs) m p=_;unfold lg;rw[BL λv hv=>(ay.mp nd).1 (ji hv).1,Zd hk];simp
 |p::P,w::vs,i+1,m,nd,h1,h2,hk=>by show lg kindOf ((p,w)::P.zip vs) m x=_;unfold lg;exact BM (i:=i) (ay.mp nd).2 (by simpa using h1) (by simpa using h2) hk
def start(N:List Str)(vs:List V):St:=vs.map Za++aR (N.length-vs.length) Zb
def Ec(CX:CXT)(P:aK)(w:ba)(K:aa)(mg:Str->Option ai)(base:bx)(N:List Str)(qual:Str)(scope:dG)(f:ak)(cd:ai)(A:cA)(outer:List Env)(s:ax)(H:Hp)(E:XK):Cx where
 prog:=P
 w:=w
 K:=K
 mg:=mg
 base:=base
 A:=A.deeper (eV qual scope s.heap.objs.size f cd)
 N:=N
 sa0:=s
 Ha0:=H
 env:=eV qual scope s.heap.objs.size f cd
 outer:=outer
 stack:=eV qual scope s.heap.objs.size f cd::outer
 ex:=[]
 calm:=true
 fn:=λ_=>true
 pn:=[]
 xe:=λe s'=>aS (model P w) (A.deeper (eV qual scope s.heap.objs.size f cd)) (leaving (eV qual scope s.heap.objs.size f cd) e) (λ_ UE=>CX outer H s E e UE) (λe' UE=>CX outer H s E e' UE) s'
def Ef{sc:dG}{n:Nat}{x:Str}(h:sc.names.lookup x=Za .cell):∃c,(cellsFrom n sc.names []).lookup x=Za c:=by have q:=jD sc.names n [] (.inl h);exact du.mp q
def Hs{CX:CXT}{P:aK}{w:ba}{K:aa}{mg:Str->Option ai}{base:bx}{N ps:List Str}{qual:Str}{scope:dG}{f:ak}{cd:ai}{A:cA}{outer:List Env}{s s1:ax}{H:Hp}{E:XK}{us:List ai}{vs:List V}(S:FnScope N ps scope)(hd:A.handled=Zb)(e0:Env0 P w K mg base A outer s H)(hl:vs.length=ps.length)(r:Vals vs us)(x:InCallC s s.heap.objs.size (lf (eV qual scope s.heap.objs.size f cd).kindOf (ps.zip us) λ_=>Zb) (cellsFrom (s.heap.objs.size+1) scope.names []) (lg (eV qual scope s.heap.objs.size f cd).kindOf (ps.zip us) λ_=>Zb) s1) :
  Inv (Ec CX P w K mg base N qual scope f cd A outer s H E) [] (start N vs) H s1:=by
 have PK:ps.length<=N.length:=by have:=congrArg b7 S.pre;rw[eB] at this;lia
 obtain⟨h1,tk,rfl,hk⟩:=x.done;have SW:∀b:ak,b∉(Ec CX P w K mg base N qual scope f cd A outer s H E).ex:=λb z=>absurd (show b∈([]:List ak) from z) (by simp);refine⟨⟨e0.mod,S.kind,rfl,rfl,ap _,λy z c h1 h2=>?_,λy hy=>?_,λy c _ h=>?_,λ_=>hd,Around.frames_deeper e0.frames,.inr ⟨rfl,rfl⟩,λb z=>absurd z (SW b),e0.bs,e0.bsz,λb _ _=>SW b,λb z=>absurd z (SW b),e0.funs,e0.frf⟩,
  rfl,e0.bare,Un.kept hk,⟨_,x.toInCall.ns,λi y v h1 h2 h3=>?_⟩,λy c h=>⟨_,x.cell y c h⟩,e0.hok.fresh (ap _),λy c h=>?_,λp hp=>absurd (show p∈([]:List (ak×Obj)) from hp) (by simp),e0.hok.kept hk,?_⟩
 ·exact name_of_addr x.apart (dC h1) (dC h2)
 ·have hy:scope.names.lookup y=Za .cell\/scope.names.lookup y=Za .free:=hy;rcases hy with hy|hy
  ·exact Ef hy
  ·exact absurd rfl (S.nofree _ (dC hy))
 ·exact dM (x.above y c (dC h))
 ·have hi:i<vs.length:=by
   unfold start at h2;by_cases hi:i<vs.length
   ·exact hi
   ·rw[cG (by simpa using hi)] at h2;rw[gE] at h2;split at h2<;>cases h2
  have ha:vs[i]?=Za v:=by
   unfold start at h2;rw[dk (by simpa using hi),aC] at h2;cases e:vs[i]? with
   |none=>rw[e] at h2;cases h2
   |some a=>rw[e] at h2;cases h2;rfl
  obtain⟨u,hu,rv⟩:=r.get ha;have hp:ps[i]?=Za y:=by rw[<-S.pre,List.getElem?_take_of_lt (by lia)];exact h1
  have ndP:ps.Nodup:=by rw[<-S.pre];exact S.nd.sublist (List.take_sublist _ _)
  refine⟨u,rv,?_⟩;rcases S.par y (dw hp) with k|k
  ·exact .inl ⟨k,BJ ndP hp hu k⟩
  ·obtain⟨c,e⟩:=Ef (n:=s.heap.objs.size+1) k;refine .inr ⟨.inl k,c,e,?_⟩;have q:=x.cell y c e;rw[BM ndP hp hu (by show scope.names.lookup y≠_;rw[k];decide)] at q;exact q
 ·exact e0.hok.fresh (dM (x.above y c (dC h)))
 ·unfold start;show _=N.length;rw[aJ,ac,dR];lia
def Np{CX:CXT}{P}{w}{K}{mg}{base}{k}{f}{name qual}{params:jH}{body}{scope}{dV kV Qo pm Po ct oc}{an od}{Rl:Array (Option ai)}{N ps}{sp:Sp}(lk:K.lookup f=Za ⟨oc,od,.func (bX name qual params body scope dV kV Qo pm an Po ct),Rl⟩)(QA:fR K Po qual=true)(S:FnScope N ps scope)(len:∀vs H Q E,sp vs H Q E->vs.length=ps.length)(Qs:∀(A:cA)(outer:List Env)(s:ax)(H:Hp)(vs:List V)(Q:VK)(E:XK),Room k (A.deeper (eV qual scope s.heap.objs.size f Po))->sp vs H Q E ->
   ∃t,PSs (Ec CX P w K mg base N qual scope f Po A outer s H E) body t/\t { nx:=λ_ H'=>Q .non H',rt:=Q } (start N vs) H) :
  FnOk P w K mg base CX (k+1) f (bX name qual params body scope dV kV Qo pm an Po ct) ps sp:=by
 refine⟨len,λA outer s H args us vs Q E hr e0 hb r Rf=>?_⟩;have hl:=len _ _ _ _ Rf;have KX:K.In s.heap:=e0.mod.kin.keeps λb o e=>(e0.bs b o e).1;have lim:s.heap.NoLimit:=e0.mod.nolimit.keeps λb o e=>(e0.bs b o e).1;have Tn:∀y∈ps.zip us,scope.names.lookup y.1=Za .local\/(scope.names.lookup y.1=Za .cell/\((cellsFrom (s.heap.objs.size+1) scope.names []).lookup y.1).isSome=true):=λ⟨n,v⟩ hy=>by
  rcases S.par n (ji hy).1 with q|q
  ·exact .inl q
  ·exact .inr ⟨q,jD _ _ _ (.inl q)⟩
 refine codeAny_call_function hr.depth (KX _ _ lk) rfl S.co S.gen rfl (PySem.W.codeRec_of KX QA) (hb _ _ _ _ ?_);refine wpAny_newFunctionEnv_cells S.kind Tn λenv he s1 x=>?_;subst he;refine⟨lim.keeps x.toInCall.keep,codeAny_func ?_⟩;obtain⟨t,ht,hq⟩:=Qs A outer s H vs Q E (hr.deeper _) Rf;have I:Inv (Ec CX P w K mg base N qual scope f Po A outer s H E) [] (start N vs) H s1:=Hs S hr.hd e0 hl r x;refine bN (ht [] s1 (start N vs) H _ I hq) (λfl s' hs=>?_) λe s' hs=>hs;have PX:∀{σ':St}{H':Hp}{v:V}{u:ai},Inv (Ec CX P w K mg base N qual scope f Po A outer s H E) [] σ' H' s'->RelV v u->Q v H'->CE outer P w H s Q u s' :=
  λ{σ' H' v u} J rv q=>⟨v,H',J.os,J.bare,J.base,J.hok,rv,q⟩
 cases fl with
 |ret u =>
  obtain⟨v,σ',H',J,rv,q⟩:=hs;exact PX J rv q
 |next =>
  obtain⟨σ',H',J,q⟩:=hs;exact PX (v:=V.non) (u:=kU) J rfl q
 |brk =>
  obtain⟨_,_,_,q⟩:=hs;exact bT q
 |cont =>
  obtain⟨_,_,_,q⟩:=hs;exact bT q
section
variable{X:Cx}{x:Str}{p pos:Pos}{e:bo}{es:List bo}{t:TA}{id T:String}{r:List V->Hp->VK->Prop}
def tCB(r:List V->Hp->VK->Prop)(t:TA):TE:=λO H Q=>t O H λvs H1=>r vs H1 Q
def o6(hc:CallR X (.builtin id) r)(hg:Gl X x)(hm:X.mg x=Zb)(hv:bP x=Za (.builtin id))(ha:PA X (e::es) t)(hn:x≠"__name__":=by decide)(P8:NDb x:=by decide)(he:SEb X e es:=by rfl)(PK:(b5 pos (aB es X.env)).any (·.1)=false:=by rfl):PE X (.Call (.Name x p) (e::es) [] pos) (tCB r t):=by
 intro Pf s O H Q I h;refine ft (Av I hg hm hv ?_ hn P8);exact PyProof.Rows.callWith_builtin1 (thn (ha pos Pf s O H _ I h) λus s1=>e4 λvs H1 I1 r1 q1=>hc Pf s1 O H1 vs us Q I1 r1 q1) he PK
def GW(hc:CallR X (.type T) r)(hg:Gl X x)(hm:X.mg x=Zb)(hv:bP x=Za (.type T))(ha:PA X (e::es) t)(hn:x≠"__name__":=by decide)(P8:NDb x:=by decide)(he:SEb X e es:=by rfl)(PK:(b5 pos (aB es X.env)).any (·.1)=false:=by rfl):PE X (.Call (.Name x p) (e::es) [] pos) (tCB r t):=by
 intro Pf s O H Q I h;refine ft (Av I hg hm hv ?_ hn P8);exact dF (thn (ha pos Pf s O H _ I h) λus s1=>e4 λvs H1 I1 r1 q1=>hc Pf s1 O H1 vs us Q I1 r1 q1) he PK
end
end L2
namespace HT
open PySem PyProof.Rows
section
open PySem.SeqAt
open PySem.AutoSeq1 (wpAny_loadPart')
open PySem.MeetsSeq PySem.MeetsSeq2 PySem.MeetsSeq3
end
section
variable{prog:aK}{w:ba}{A:cA}{E:ai->ax->Prop}{s:ax}
def sIx(n d:Nat):Option Int->Nat
 |none=>d
 |some v=>if v<0 then(v+(n:Int)).toNat else min v.toNat n
def NM(n d)(hd:d<=n)(o):sIx n d o<=n:=by
 cases o with
 |none=>exact hd
 |some v =>
  show(if v<0 then(v+(n:Int)).toNat else min v.toNat n)<=n;by_cases hv:v<0
  ·rw[Zc hv];lia
  ·rw[Zd hv];exact Nat.min_le_right _ _
def Gu(v:Int)(n d:Nat):(if v<0 then max (v+(n:Int)) 0 else min v (n:Int))=((sIx n d (Za v):Nat):Int):=by
 show(if v<0 then max (v+(n:Int)) 0 else min v (n:Int))=(((if v<0 then(v+(n:Int)).toNat else min v.toNat n):Nat):Int);by_cases hv:v<0
 ·simp only[Zc hv];lia
 ·simp only[Zd hv];lia
def Fe(lo hi:Option Int)(n:Nat):fI lo hi 1 (n:Int)=(((sIx n 0 lo:Nat):Int),((sIx n n hi:Nat):Int)):=by
 have h1:¬((1:Int)<0):=by lia
 unfold fI;simp only[h1,if_false];refine Prod.ext ?_ ?_
 ·cases lo with
  |none=>rfl
  |some v=>exact Gu v n 0
 ·cases hi with
  |none=>rfl
  |some v=>exact Gu v n n
def EI(i j:Nat):dN (i:Int) (j:Int) 1=j-i:=by
 unfold dN;have h1:(1:Int)>0:=by lia
 simp only[h1,if_true,Int.ediv_one];split<;>lia
def yH(p:jF v o)(h:Q o s):aS (model prog w) A (Builtin.Slice.slicePartIndex v) Q E s:=by
 cases p with
 |none=>exact slicePart_none h
 |int i t=>exact slicePart_int h
def wq{sl:ak}{vl vu:ai}{lo hi:Option Int}{n:Nat}{Q:Int×Int×Nat->ax->Prop}(hs:s.heap.IsSliceOf sl vl vu .none)(pl:jF vl lo)(pu:jF vu hi)(h:Q (((sIx n 0 lo:Nat):Int),1,sIx n n hi-sIx n 0 lo) s):aS (model prog w) A (iE (.ref sl) (pure (n:Int))) Q E s:=by
 obtain⟨os,R1,Sb,Uh⟩:=id hs;unfold iE Builtin.Slice.sliceFields;refine aq (aq (wpAny_field R1 Uh (x:=vl) rfl (aq (wpAny_field R1 Uh (x:=vu) rfl (aq (wpAny_field R1 Uh (x:=.none) rfl (aM ?_)))))));refine aq (slicePart_none ?_);show aS _ _ (if((1:Int)==0)=true then _ else _) _ _ s;rw[Zd (by decide)];refine aq (yH pl (aq (yH pu (aq (aM ?_)))));show aS _ _ (match fI lo hi 1 (n:Int) with|(lo,hi)=>pure (lo,(1:Int),dN lo hi 1)) _ _ s;rw[Fe lo hi n];show aS _ _ (pure (((sIx n 0 lo:Nat):Int),(1:Int),dN ((sIx n 0 lo:Nat):Int) ((sIx n n hi:Nat):Int) 1)) _ _ s;rw[EI];exact aM h
def IA(xs:Array ai)(i k:Nat):((bA k).filterMap λ(m:Nat)=>xs[((i:Int)+(m:Int)*1).toNat]?).toArray=((xs.toList.drop i).take k).toArray:=by
 have e:(λ(m:Nat)=>xs[((i:Int)+(m:Int)*1).toNat]?)=λm=>xs[i+m]?:=by
  funext m
  have:((i:Int)+(m:Int)*1).toNat=i+m:=by lia
  rw[this]
 rw[e];have:=pick_run xs i k;rw[List.filterMap_map] at this;have e2:((λx=>xs[x]?)∘λx=>i+x)=λm=>xs[i+m]?:=rfl;rw[e2] at this;rw[this]
def getItem_tuple_cut{t sl}{items:Array ai}{vl vu}{lo hi}{Q}(ht:IsTup s.heap t items)(hs:s.heap.IsSliceOf sl vl vu .none)(pl:jF vl lo)(pu:jF vu hi)(hw:¬(sIx items.size 0 lo=0/\sIx items.size items.size hi=items.size))(h:Q (.ref s.heap.objs.size) { s with heap:=s.heap.push { cls:=.type "tuple",data:=.seq ((items.toList.drop (sIx items.size 0 lo)).take (sIx items.size items.size hi-sIx items.size 0 lo)).toArray } })(hsz:items.size<=aI):aS (model prog w) A (io (.ref t) (.ref sl)) Q E s:=by
 have QH:sizeOk (.seq ((items.toList.drop (sIx items.size 0 lo)).take (sIx items.size items.size hi-sIx items.size 0 lo)).toArray):=by show((items.toList.drop (sIx items.size 0 lo)).take (sIx items.size items.size hi-sIx items.size 0 lo)).toArray.size<=aI;rw[aN,eB,gD,fP];lia
 have hj:sIx items.size items.size hi<=items.size:=NM _ _ (ap _) hi;obtain⟨os,R1,Sb,Uh⟩:=id hs;have hTs:s.TypeIs (.ref sl) "slice":=⟨os,R1,Sb⟩;unfold io
 try with_reducible refine ed ?_
 first|refine aq (aM ?_)|skip
 refine aq (wpAny_sequenceKey ht.typeIs (by decide) ?_);refine aq (wpAny_callSpecial?_slot (name:=aP "__getitem__") ht.typeIs dH
  (wpAny_call_entry dH ht.typeIs entry_tuple_getitem ?_ (args_tuple_getitem _ _)))
 show aS _ _ (Builtin.Tuple.tupleItemsOf (.ref t) >>= _) _ _ s;refine aq (tupleItemsOf_ ht ?_);refine aq (wpAny_typeOf hTs ?_);rw[Zc (by decide)];refine aq (wq hs pl pu ?_);have QJ:¬((((sIx items.size 0 lo:Nat):Int)==0&&(1:Int)==1&&(sIx items.size items.size hi-sIx items.size 0 lo)==items.size)=true):=by intro q;rw[cg,cg] at q;have q1:((sIx items.size 0 lo:Nat):Int)=0:=eq_of_beq q.1.1;have q2:sIx items.size items.size hi-sIx items.size 0 lo=items.size:=eq_of_beq q.2;exact hw ⟨by lia,by lia⟩
 show aS _ _ (if(((sIx items.size 0 lo:Nat):Int)==0&&(1:Int)==1&&(sIx items.size items.size hi-sIx items.size 0 lo)==items.size)=true then _ else _) _ _ s;rw[Zd QJ,IA]
 first
  |exact aq (m:=dU _) (eA (aM ⟨_,rfl,aM h⟩) QH)
  |exact aq (m:=dU _) (eA (aq (aM (aM ⟨_,rfl,aM h⟩))) QH)
  |exact aq (aq (m:=dU _) (eA (aM (aM ⟨_,rfl,aM h⟩)) QH))
  |exact aq (aq (m:=dU _) (eA (aM ⟨_,rfl,aM h⟩) QH))
end
end HT
namespace L2
open PySem PySem.Spec PyProof.Rows
abbrev TO:=St->Hp->(Option Int->Hp->Prop)->Prop
def PO(X:Cx)(e:Option bo)(t:TO):Prop :=
 ∀(Pf:List (ak×Obj))(s:ax)(O:St)(H:Hp)(Q:Option Int->Hp->Prop),Inv X Pf O H s->t O H Q ->
  aS (model X.prog X.w) X.A (evalPart e X.env) (λu s'=>∃o H',Inv X Pf O H' s'/\jF u o/\Q o H') X.xe s
def KR:TO:=λ_ H Q=>Q Zb H
def tPart(t:TE):TO:=λO H Q=>t O H λx H1=>∃i,x=.int i/\Q (Za i) H1
section
variable{X:Cx}{e:bo}{te:TE}{lo hi:Option bo}{tl th:TO}{pos p2:Pos}
def po_none:PO X Zb KR:=by intro Pf s O H Q I h;rw[evalPart_none];exact aM ⟨Zb,H,I,.none,h⟩
def Lf(h:PE X e te):PO X (Za e) (tPart te):=by intro Pf s O H Q I hw;rw[evalPart_some];refine thn (h Pf s O H _ I hw) λu s1=>e4 λx H1 I1 r1 q1=>?_;obtain⟨i,rfl,q⟩:=q1;obtain⟨t,rfl⟩:=r1;exact⟨Za i,H1,I1,.int i t,q⟩
def SlR(X:Cx)(r:V->Option Int->Option Int->Hp->VK->Prop):Prop :=
 ∀(Pf:List (ak×Obj))(s:ax)(O:St)(H:Hp)(x:V)(v vl vu:ai)(lo hi:Option Int)(sl:ak)(Q:VK),Inv X Pf O H s->RelV x v->s.heap.IsSliceOf sl vl vu .none->jF vl lo->jF vu hi->r x lo hi H Q ->
  ∃T id,typeLookup (.type T) "__getitem__"=pure (Za (.builtin id))/\s.TypeIs v T/\aS (model X.prog X.w) X.A (io v (.ref sl)) (EP X Pf O Q) X.xe s
def SlR.or(h:SlR X r)(h':SlR X r'):SlR X (λx lo hi H Q=>r x lo hi H Q\/r' x lo hi H Q):=by
 intro Pf s O H x v vl vu lo hi sl Q I rx hs pl pu q;rcases q with q|q
 ·exact h Pf s O H x v vl vu lo hi sl Q I rx hs pl pu q
 ·exact h' Pf s O H x v vl vu lo hi sl Q I rx hs pl pu q
def tSl(r:V->Option Int->Option Int->Hp->VK->Prop)(te:TE)(tl th:TO):TE:=λO H Q=>te O H λx H1=>tl O H1 λl H2=>th O H2 λu H3=>r x l u H3 Q
def IC(hr:SlR X r)(he:PE X e te)(hl:PO X lo tl)(hu:PO X hi th):PE X (.Subscript e (.Slice lo hi Zb p2) pos) (tSl r te tl th):=by intro Pf s O H Q I h;refine Subscript_ (thn (he Pf s O H _ I h) λv s1=>e4 λx H1 I1 r1 q1=>?_);refine wpAny_Slice (thn (hl Pf s1 O H1 _ I1 q1) λvl s2=>e4 λl H2 I2 pl q2=>thn (hu Pf s2 O H2 _ I2 q2) λvu s3=>e4 λu H3 I3 pu q3=>?_);rw[evalPart_none];refine aM ?_;have I4:Inv X Pf O H3 { s3 with heap:=s3.heap.push { cls:=.type "slice",data:=.fields #[vl,vu,.none] } }:=I3.kept (t':=s3.toks) λb ob q=>ar _ q;obtain⟨T,id,hT,ht,hg⟩:=hr Pf { s3 with heap:=s3.heap.push { cls:=.type "slice",data:=.fields #[vl,vu,.none] } } O H3 x v vl vu l u s3.heap.objs.size Q I4 r1 (Heap.IsSliceOf.new ..) pl pu q3;show aS (model X.prog X.w) X.A (ja e (.Slice lo hi Zb p2) v (.ref s3.heap.objs.size)) (EP X Pf O Q) X.xe { s3 with heap:=s3.heap.push { cls:=.type "slice",data:=.fields #[vl,vu,.none] } };exact tail_any (ops:=[.ref s3.heap.objs.size,v]) ht hT hg (by with_unfolding_all rfl)
def Gp(xs:List V)(lo hi:Option Int):List V:=(xs.drop (HT.sIx xs.length 0 lo)).take (HT.sIx xs.length xs.length hi-HT.sIx xs.length 0 lo)
def xL(xs)(lo hi):(Gp xs lo hi).length<=xs.length:=by unfold Gp;rw[eB,gD];lia
def rSlT(K:aa):V->Option Int->Option Int->Hp->VK->Prop:=λx lo hi H Q=>∃a xs,x=.ref a/\SqT K H a xs /\
 ¬(HT.sIx xs.length 0 lo=0/\HT.sIx xs.length xs.length hi=xs.length)/\∀p,H p=Zb->Q (.ref p) (upd H p (.tup (Gp xs lo hi)))
def NJ:SlR X (rSlT X.K):=by
 intro Pf s O H x v vl vu lo hi sl Q I rx hs pl pu h;obtain⟨a,xs,rfl,hx,hw,q⟩:=h;cases rx;obtain⟨its,r,ht,hz⟩:=I.tuple hx;have Pk:its.toArray.size=xs.length:=by rw[aN];exact r.length.symm
 refine⟨"tuple",_,dH.lookup,ht.typeIs,?_⟩;refine HT.getItem_tuple_cut ht hs pl pu (by rw[Pk];exact hw) ?_ (by rw[Pk];exact hz);rw[Pk];refine⟨.ref s.heap.objs.size,_,I.laid (t':=s.toks) (o:=.tup (Gp xs lo hi)) (λb ob q=>ar _ q) (ap _) ?_,rfl,q _ (I.hok.fresh (ap _))⟩;exact⟨aH (xL xs lo hi) hz,_,(r.drop (HT.sIx xs.length 0 lo)).take (HT.sIx xs.length xs.length hi-HT.sIx xs.length 0 lo),IsTup.new _ _⟩
end
def ixN(n:Nat)(i:Int):Option Nat:=if 0<=i then(if i<n then Za i.toNat else Zb) else if -(n:Int)<=i then Za (i+n).toNat else Zb
def atI{α:Type}(xs:List α)(i:Int):Option α:=(ixN xs.length i).bind λj=>xs[j]?
def F7(h:ixN n i=Za j):seqIndex? i n=Za j/\j<n/\-(n:Int)<=i/\i<n:=by
 unfold ixN at h;by_cases h0:0<=i
 ·rw[Zc h0] at h;by_cases h1:i<n
  ·rw[Zc h1] at h;have e:i.toNat=j:=aO h;exact⟨by rw[seqIndex_of h0 h1,e],by lia,by lia,h1⟩
  ·rw[Zd h1] at h;cases h
 ·rw[Zd h0] at h;by_cases h1:-(n:Int)<=i
  ·rw[Zc h1] at h;have e:(i+n).toNat=j:=aO h;exact⟨by rw[seqIndex_neg (by lia) h1,e],by lia,h1,by lia⟩
  ·rw[Zd h1] at h;cases h
def CL(h:atI xs i=Za v):∃j,seqIndex? i xs.length=Za j/\xs[j]?=Za v/\j<xs.length/\-(xs.length:Int)<=i/\i<xs.length:=by
 unfold atI at h;cases e:ixN xs.length i with
 |none=>rw[e] at h;cases h
 |some j =>
  rw[e] at h;obtain⟨h1,h2,h3,h4⟩:=F7 e;exact⟨j,h1,h,h2,h3,h4⟩
def mO{α:Type}{xs:List α}{j:Nat}{v:α}(h:xs[j]?=Za v):atI xs (j:Int)=Za v:=by
 have hj:j<xs.length:=(aW.mp h).1;have e:ixN xs.length (j:Int)=Za j:=by unfold ixN;rw[Zc (by lia),Zc (by lia)];simp
 unfold atI;rw[e];exact h
def GD(b:bo):Prop:=∀o i,subscripted b false o i=operate [o,i] (io o i)
def IxR(X:Cx)(r:R2):Prop :=
 ∀(value Py:bo)(Pf:List (ak×Obj))(s:ax)(O:St)(H:Hp)(x y:V)(v u:ai)(Q:VK),Inv X Pf O H s->RelV x v->RelV y u->r x y H Q ->
  subscripted Py false v u=operate [v,u] (io v u)->aS (model X.prog X.w) X.A (ja value Py v u) (EP X Pf O Q) X.xe s
def MtR(X:Cx)(id:String)(r:V->List V->Hp->VK->Prop):Prop :=
 ∀(Pf:List (ak×Obj))(s:ax)(O:St)(H:Hp)(x:V)(xs:List V)(v:ai)(us:List ai)(Q:VK),Inv X Pf O H s->RelV x v->Vals xs us->r x xs H Q ->
  aS (model X.prog X.w) X.A (call (.builtin id) (v::us)) (EP X Pf O Q) X.xe s
section
variable{X:Cx}{a b:bo}{ta tb:TE}{pos:Pos}
def IxR.or(h:IxR X r)(h':IxR X r'):IxR X (λx y H Q=>r x y H Q\/r' x y H Q):=by
 intro value Py Pf s O H x y v u Q I rx ry q hs;rcases q with q|q
 ·exact h value Py Pf s O H x y v u Q I rx ry q hs
 ·exact h' value Py Pf s O H x y v u Q I rx ry q hs
def rG{r}(hr:IxR X r)(ha:PE X a ta)(hb:PE X b tb)(hs:GD b):PE X (.Subscript a b pos) (tOp r ta tb):=by intro Pf s O H Q I h;exact Subscript_ (Pd ha hb I h λv u s2 x y H2 I2 rx ry q=>hr a b Pf s2 O H2 x y v u Q I2 rx ry q (hs _ _))
def O5(K:aa):R2:=λx y H Q=>∃p xs i v,x=.ref p/\y=.int i/\SqL K H p xs/\atI xs i=Za v/\Q v H
def O3(K:aa):R2:=λx y H Q=>∃p xs i v,x=.ref p/\y=.int i/\SqT K H p xs/\atI xs i=Za v/\Q v H
def O4:R2:=λx y H Q=>∃z i c,x=.str z/\y=.int i/\z.length<=aI/\atI z.cps.toList i=Za c/\Q (.str ⟨#[c]⟩) H
def ix_list:IxR X (O5 X.K):=by
 intro value Py Pf s O H x y v u Q I rx ry h hs;obtain⟨p,xs,i,z,rfl,rfl,hq,he,q⟩:=h;cases rx;obtain⟨t,rfl⟩:=ry;obtain⟨its,r,pl,hz⟩:=I.list hq;obtain⟨j,h1,h2,h3,h4,h5⟩:=CL he;obtain⟨w,ew,P4⟩:=r.get h2;have hl:=r.length;have hn:=vQ;have PX:EP X Pf O Q w s:=⟨z,H,I,P4,q⟩;by_cases h0:0<=i
 ·have hj:i.toNat=j:=by rw[seqIndex_of h0 h5] at h1;exact aO h1
  exact item_listR pl.isList h0 (by lia) (by rw[hj];simpa using ew) PX hs
 ·have hj:(i+(its.toArray.size:Int)).toNat=j:=by rw[seqIndex_neg (by lia) h4] at h1;rw[aN,<-hl];exact aO h1
  exact subscriptTail_builtinR (x:=w) pl.isList.typeIs slot_list_getitem.lookup
   (wpAny_getItem_list_neg (Q:=λr s'=>r=w/\EP X Pf O Q r s') pl.isList (by lia) (by rw[aN]<;>lia) (by lia) (by rw[hj];simpa using ew) ⟨rfl,PX⟩) hs
def ix_tup:IxR X (O3 X.K):=by
 intro value Py Pf s O H x y v u Q I rx ry h hs;obtain⟨p,xs,i,z,rfl,rfl,hq,he,q⟩:=h;cases rx;obtain⟨t,rfl⟩:=ry;obtain⟨its,r,pl,hz⟩:=I.tuple hq;obtain⟨j,h1,h2,h3,h4,h5⟩:=CL he;obtain⟨w,ew,P4⟩:=r.get h2;have hl:=r.length;have hn:=vQ;have PX:EP X Pf O Q w s:=⟨z,H,I,P4,q⟩;exact subscriptTail_builtinR (x:=w) pl.typeIs dH.lookup
  (getItem_tuple (j:=j) (Q:=λr s'=>r=w/\EP X Pf O Q r s') pl (by lia) (by lia) (by rw[aN,<-hl];exact h1) (by simpa using ew) ⟨rfl,PX⟩) hs
def yf:IxR X O4:=by
 intro value Py Pf s O H x y v u Q I rx ry h hs;obtain⟨z,i,c,rfl,rfl,hz,he,q⟩:=h;obtain⟨t,rfl⟩:=rx;obtain⟨t',rfl⟩:=ry;obtain⟨j,h1,h2,h3,h4,h5⟩:=CL he;have hl:z.cps.toList.length=z.length:=by simp[Str.length]
 rw[hl] at h1 h4 h5;have hn:=vQ;exact tail_any (typeIs_str s z t) slot_str_getitem.lookup (getItem_str (c:=c) (by have e1:decide (i < -(2^63:Int))=false:=Zh (by lia);have e2:decide (i>=2^63)=false:=Zh (by lia);rw[e1,e2,Bool.or_false]) (by rw[h1];simpa using h2) ⟨.str ⟨#[c]⟩,H,I.tok _,⟨_,rfl⟩,q⟩) hs
def EU(its:List ai)(n j:Nat)(u:ai):iO (·.setIfInBounds j u) { cls:=.type "list",data:=.seq its.toArray n }={ cls:=.type "list",data:=.seq (its.set j u).toArray n }:=by simp[iO]
theorem Inv.lst{Pf}{O}{H}{s}{p}{xs}(I:Inv X Pf O H s)(h:H p=Za (.lst xs)) :
  ∃(its:List ai)(n:Nat),Vals xs its/\s.heap.get? p=Za { cls:=.type "list",data:=.seq its.toArray n }/\xs.length<=aI:=by
 obtain⟨z,its,n,r,e⟩:=I.hok p _ h;exact⟨its,n,r,e,z⟩
def Inv.lstUpd{Pf:List (ak×Obj)}{O:St}{H:Hp}{s:ax}{p:ak}{xs ys:List V}{its its':List ai}{n n':Nat}{f:Obj->Obj}(I:Inv X Pf O H s)(h:H p=Za (.lst xs))(ho:s.heap.get? p=Za { cls:=.type "list",data:=.seq its.toArray n })(hf:f { cls:=.type "list",data:=.seq its.toArray n }={ cls:=.type "list",data:=.seq its'.toArray n' })(r:Vals ys its')(hz:ys.length<=aI)(t:Nat) :
  Inv X Pf O (upd H p (.lst ys)) { s with heap:=s.heap.update p f,toks:=t }:=by
 have e:(s.heap.update p f).get? p=Za { cls:=.type "list",data:=.seq its'.toArray n' }:=by rw[Heap.get?_update_self f ho (by rw[hf]<;>rfl),hf]
 refine I.write (x:=p) (e:=p) (by rw[h];trivial) (.inl rfl) (λb u hb q=>(kh _ _ (bY hb)).trans q) ⟨_,e⟩ ?_;exact⟨hz,its',n',r,e⟩
def M0:V->V->V->Hp->(Hp->Prop)->Prop:=λo i v H Q=>∃p xs k j,o=.ref p/\i=.int k/\H p=Za (.lst xs)/\ixN xs.length k=Za j/\Q (upd H p (.lst (xs.set j v)))
def set_list:PSet X M0:=by
 intro Pf s O H o i v ov iv u Q I ro ri rv h;obtain⟨p,xs,k,j,rfl,rfl,hp,hj,q⟩:=h;cases ro;obtain⟨t,rfl⟩:=ri;obtain⟨its,n,r,ho,hz⟩:=I.lst hp;obtain⟨h1,h2,h3,h4⟩:=F7 hj;have hl:=r.length;have hn:=vQ;have I':Inv X Pf O (upd H p (.lst (xs.set j v))) { s with heap:=s.heap.update p (iO (·.setIfInBounds j u)) } :=
  I.lstUpd hp ho (EU its n j u) (r.set rv j) (by rw[List.length_set];exact hz) s.toks
 by_cases h0:0<=k
 ·have hk:k.toNat=j:=by rw[seqIndex_of h0 h4] at h1;exact aO h1
  exact PySem.W.ki_setAt ho h0 (by lia) (by rw[aN,<-hl];exact h4) (by rw[hk];exact⟨_,I',q⟩)
 ·have hk:(k+(its.toArray.size:Int)).toNat=j:=by rw[seqIndex_neg (by lia) h3] at h1;rw[aN,<-hl];exact aO h1
  exact PySem.W.ki_setBack ho (by lia) (by rw[aN,<-hl];exact h3) (by lia) (by rw[hk];exact⟨_,I',q⟩)
def BP(lo hi)(n):(fW lo hi Zb n).1=((HT.sIx n 0 lo:Nat):Int)/\(fW lo hi Zb n).2.1=((HT.sIx n n hi:Nat):Int)/\(fW lo hi Zb n).2.2=1:=by
 refine⟨?_,?_,rfl⟩
 ·cases lo with
  |none=>simp[fW,HT.sIx]
  |some i =>
   simp only[fW,HT.sIx,lr,show(1:Int)>0 by decide,if_true];by_cases h:i<0
   ·simp only[h,if_true]<;>lia
   ·simp only[h,if_false]<;>lia
 ·cases hi with
  |none=>simp[fW,HT.sIx]
  |some i =>
   simp only[fW,HT.sIx,lr,show(1:Int)>0 by decide,if_true];by_cases h:i<0
   ·simp only[h,if_true]<;>lia
   ·simp only[h,if_false]<;>lia
def Ab(its:List ai)(lo hi:Option Int):slicePick its.toArray lo hi Zb=((its.drop (HT.sIx its.length 0 lo)).take (HT.sIx its.length its.length hi-HT.sIx its.length 0 lo)).toArray:=by obtain⟨h1,h2,h3⟩:=BP lo hi its.toArray.size;unfold slicePick;rw[h1,h2,h3];simp only[sliceRange_one,pick_run,aN]<;>rfl
def rSlL(K:aa):V->Option Int->Option Int->Hp->VK->Prop:=λx lo hi H Q=>∃a xs,x=.ref a/\SqL K H a xs/\∀p,H p=Zb->Q (.ref p) (upd H p (.lst (Gp xs lo hi)))
def sl_list:SlR X (rSlL X.K):=by intro Pf s O H x v vl vu lo hi sl Q I rx hs pl pu h;obtain⟨a,xs,rfl,hx,q⟩:=h;cases rx;obtain⟨its,r,ht,hz⟩:=I.list hx;have Pk:=r.length;refine⟨"list",_,slot_list_getitem.lookup,ht.isList.typeIs,?_⟩;refine wpAny_getItem_list_slice ht.isList hs pl pu .none (by simp) ?_ (by rw[aN]<;>lia);rw[Ab,<-Pk];refine⟨.ref s.heap.objs.size,_,I.laid (t':=s.toks) (o:=.lst (Gp xs lo hi)) (λb ob q=>ar _ q) (ap _) ?_,rfl,q _ (I.hok.fresh (ap _))⟩;exact⟨aH (xL xs lo hi) hz,_,0,(r.drop (HT.sIx xs.length 0 lo)).take (HT.sIx xs.length xs.length hi-HT.sIx xs.length 0 lo),a6 _ rfl⟩
def sP:V->Bool
 |.non=>true
 |.bl _=>true
 |.int _=>true
 |.str _=>true
 |_=>false
def eqV:V->V->Bool
 |.non,.non=>true
 |.bl a,.bl b=>a==b
 |.bl a,.int b=>(if a then 1 else 0)==b
 |.int a,.bl b=>a==(if b then 1 else 0)
 |.int a,.int b=>a==b
 |.str a,.str b=>a==b
 |_,_=>false
def Fw(ry:RelV y u)(rx:RelV x v)(fy:sP y=true)(fx:sP x=true):kX A s u v (eqV y x):=by
 cases y with
 |non =>
  cases ry;cases x with
  |non=>cases rx;exact SeqAt.EqAt.same _
  |bl b=>cases rx;exact SeqAt.EqAt.none_bool b
  |int b=>obtain⟨t,rfl⟩:=rx;exact SeqAt.EqAt.none_int b t
  |str b=>obtain⟨t,rfl⟩:=rx;exact SeqAt.EqAt.none_str b t
  |_=>exact absurd (show false=true from fx) aY
 |bl a =>
  cases ry;cases x with
  |non=>cases rx;exact SeqAt.EqAt.bool_none a
  |bl b=>cases rx;exact SeqAt.EqAt.bool_bool a b
  |int b=>obtain⟨t,rfl⟩:=rx;exact SeqAt.EqAt.bool_int a b t
  |str b=>obtain⟨t,rfl⟩:=rx;exact SeqAt.EqAt.bool_str a b t
  |_=>exact absurd (show false=true from fx) aY
 |int a =>
  obtain⟨t',rfl⟩:=ry;cases x with
  |non=>cases rx;exact SeqAt.EqAt.int_none a t'
  |bl b=>cases rx;exact SeqAt.EqAt.int_bool a t' b
  |int b=>obtain⟨t,rfl⟩:=rx;exact SeqAt.EqAt.int_int a t' b t
  |str b=>obtain⟨t,rfl⟩:=rx;exact jP a t' b t
  |_=>exact absurd (show false=true from fx) aY
 |str a =>
  obtain⟨t',rfl⟩:=ry;cases x with
  |non=>cases rx;exact SeqAt.EqAt.str_none a t'
  |bl b=>cases rx;exact SeqAt.EqAt.str_bool a t' b
  |int b=>obtain⟨t,rfl⟩:=rx;exact jO a t' b t
  |str b=>obtain⟨t,rfl⟩:=rx;exact SeqAt.EqAt.str_str a t' b t
  |_=>exact absurd (show false=true from fx) aY
 |_=>exact absurd (show false=true from fy) aY
def eqU(x:V)(u:ai):Bool:=match u with
 |.none=>eqV .non x
 |.bool b=>eqV (.bl b) x
 |.int i _=>eqV (.int i) x
 |.str z _=>eqV (.str z) x
 |_=>false
def Ka(r:RelV y u)(f:sP y=true):eqU x u=eqV y x:=by
 cases y with
 |non=>cases r;rfl
 |bl b=>cases r;rfl
 |int i=>obtain⟨t,rfl⟩:=r;rfl
 |str z=>obtain⟨t,rfl⟩:=r;rfl
 |_=>exact absurd (show false=true from f) aY
theorem wI:∀{xs:List V}{us:List ai},Vals xs us->xs.all sP=true->us.any (eqU x)=xs.any λy=>eqV y x
 |_,_,.nil,_=>rfl
 |y::xs,u::us,.cons r t,f=>by rw[iG,cg] at f;rw[cO,cO,Ka r f.1,wI t f.2]
theorem ur(rx:RelV x v)(fx:sP x=true):∀{xs:List V}{us:List ai},Vals xs us->xs.all sP=true->∀u∈us,kX A s u v (eqU x u)
 |_,_,.nil,_=>λu hu=>by cases hu
 |y::xs,u::us,.cons r t,f=>λu' hu=>by
  rw[iG,cg] at f;rcases ah.mp hu with rfl|hu
  ·rw[Ka r f.1];exact Fw r rx f.1 fx
  ·exact ur rx fx t f.2 u' hu
def inV(x:V)(xs:List V):Bool:=xs.any λy=>eqV y x
def rIn(K:aa)(neg:Bool):R2:=λx y H Q=>∃p xs,y=.ref p/\(SqL K H p xs\/SqT K H p xs)/\sP x=true/\xs.all sP=true/\Q (.bl (if neg then !inV x xs else inV x xs)) H
def GZ:OpR X (bS .In) (rIn X.K false):=by
 intro Pf s O H x y v u Q I rx ry h;obtain⟨p,xs,rfl,hq,fx,fs,q⟩:=h;cases ry;rcases hq with hq|hq
 ·obtain⟨its,r,pl,hz⟩:=I.list hq;refine SeqAt.in_listAt (eqU x) pl.isList (λw hw=>ur rx fx r fs w (by simpa using hw)) ⟨.bl _,H,I,rfl,?_⟩;rw[show its.toArray.any (eqU x)=its.any (eqU x) by simp,wI r fs];exact q
 ·obtain⟨its,r,pl,hz⟩:=I.tuple hq;refine SeqAt.in_tupleAt (eqU x) pl (λw hw=>ur rx fx r fs w (by simpa using hw)) ⟨.bl _,H,I,rfl,?_⟩;rw[show its.toArray.any (eqU x)=its.any (eqU x) by simp,wI r fs];exact q
def B8:OpR X (bS .NotIn) (rIn X.K true):=by
 intro Pf s O H x y v u Q I rx ry h;obtain⟨p,xs,rfl,hq,fx,fs,q⟩:=h;cases ry;rcases hq with hq|hq
 ·obtain⟨its,r,pl,hz⟩:=I.list hq;refine SeqAt.notIn_listAt (eqU x) pl.isList (λw hw=>ur rx fx r fs w (by simpa using hw)) ⟨.bl _,H,I,rfl,?_⟩;rw[show its.toArray.any (eqU x)=its.any (eqU x) by simp,wI r fs];exact q
 ·obtain⟨its,r,pl,hz⟩:=I.tuple hq;refine SeqAt.notIn_tupleAt (eqU x) pl (λw hw=>ur rx fx r fs w (by simpa using hw)) ⟨.bl _,H,I,rfl,?_⟩;rw[show its.toArray.any (eqU x)=its.any (eqU x) by simp,wI r fs];exact q
def call_len_seq:CallR X (.builtin "len") (λxs H Q=>∃p ys,xs=[.ref p]/\(SqL X.K H p ys\/SqT X.K H p ys)/\Q (.int ys.length) H):=by
 intro Pf s O H xs us Q I r h;obtain⟨p,ys,rfl,hq,q⟩:=h;obtain⟨u,rfl,rx⟩:=qI r;cases rx;have hn:=vQ;rcases hq with hq|hq
 ·obtain⟨its,r',pl,hz⟩:=I.list hq;have Pk:=r'.length;exact Calls.call_len_list pl.isList (by simp only[aN]<;>lia) ⟨.int ys.length,H,I.tok _,⟨s.toks+1,by rw[aN,Pk]⟩,q⟩
 ·obtain⟨its,r',pl,hz⟩:=I.tuple hq;have Pk:=r'.length;exact len_tuple pl (by simp only[aN]<;>lia) ⟨.int ys.length,H,I.tok _,⟨s.toks+1,by rw[aN,Pk]⟩,q⟩
def call_len_str:CallR X (.builtin "len") (λxs H Q=>∃z,xs=[.str z]/\z.length<=aI/\Q (.int z.length) H):=by intro Pf s O H xs us Q I r h;obtain⟨z,rfl,hz,q⟩:=h;obtain⟨u,rfl,t,rfl⟩:=qI r;have hn:=vQ;exact len_str (by lia) ⟨.int z.length,H,I.tok _,⟨_,rfl⟩,q⟩
def CallR.or(h:CallR X f r)(h':CallR X f r'):CallR X f (λxs H Q=>r xs H Q\/r' xs H Q):=by
 intro Pf s O H xs us Q I rs q;rcases q with q|q
 ·exact h Pf s O H xs us Q I rs q
 ·exact h' Pf s O H xs us Q I rs q
def AB:CallR X (.type "tuple") (λxs H Q=>∃p ys,xs=[.ref p]/\((SqL X.K H p ys/\∀l,H l=Zb->Q (.ref l) (upd H l (.tup ys)))\/(SqT X.K H p ys/\Q (.ref p) H))):=by
 intro Pf s O H xs us Q I r h;obtain⟨p,ys,rfl,h⟩:=h;obtain⟨u,rfl,rx⟩:=qI r;cases rx;rcases h with⟨hq,q⟩|⟨hq,q⟩
 ·obtain⟨its,r',pl,hz⟩:=I.list hq;have Pk:=r'.length;refine call_tuple_list pl.isList (λh' kp=>?_) (by simp only[aN]<;>lia);have I1:Inv X Pf O H { s with heap:=h' }:=I.kept (t':=s.toks) kp;have I2:Inv X Pf O (upd H h'.objs.size (.tup ys)) { s with heap:=h'.push { cls:=.type "tuple",data:=.seq its.toArray } } :=
   I1.laid (t':=s.toks) (λb o e=>ar _ e) (ap _) (show ObjOk X.prog X.w _ _ _ (.tup ys) from⟨hz,its,r',IsTup.new _ _⟩)
  exact⟨.ref h'.objs.size,_,I2,rfl,q _ (I1.hok.fresh (ap _))⟩
 ·obtain⟨its,r',pl,hz⟩:=I.tuple hq;exact call_tuple_same pl ⟨.ref p,H,I,rfl,q⟩
def tyV(K:aa)(T:String)(x:V)(H:Hp):Prop:=match x with
 |.str _=>T="str"
 |.int _=>T="int"
 |.ref p=>(T="list"/\∃xs,SqL K H p xs)\/(T="tuple"/\∃o,K.lookup p=Za o/\o.cls=.type "tuple"/\o.dict=Zb) \/
   (T="dict"/\((∃kvs,H p=Za (.dK kvs))\/∃kvs,H p=Za (.dT kvs)))\/(T="set"/\∃S n,H p=Za (.set S n))
 |_=>False
def JC(I:Inv X Pf O H s)(r:RelV x v)(ty:tyV X.K T x H) :
  s.TypeIs v T/\∀a,v=.ref a->∃ob,s.heap.get? a=Za ob/\ob.dict=none:=by
 cases x with
 |str z =>
  obtain⟨t,rfl⟩:=r;cases(show T="str" from ty);exact⟨typeIs_str s z t,λ_ e=>nomatch e⟩
 |int i =>
  obtain⟨t,rfl⟩:=r;cases(show T="int" from ty);exact⟨typeIs_int s i t,λ_ e=>nomatch e⟩
 |ref p =>
  cases r;rcases ty with⟨rfl,xs,hq⟩|⟨rfl,o,hk,hc,hd⟩|⟨rfl,hk⟩|⟨rfl,S,n,hk⟩
  ·obtain⟨its,_,pl,_⟩:=I.list hq;refine⟨pl.isList.typeIs,λa e=>?_⟩;cases e;obtain⟨o,n,e,c,hd,_⟩:=pl;exact⟨o,e,hd⟩
  ·refine⟨⟨o,I.kIn p o hk,hc⟩,λa e=>?_⟩;cases e;exact⟨o,I.kIn _ o hk,hd⟩
  ·have z:∃o,s.heap.get? p=Za o/\o.ExactDict:=by
    rcases hk with⟨kvs,hk⟩|⟨kvs,hk⟩
    ·obtain⟨_,_,_,_,o,_,_,e,ex,_⟩:=I.hok p _ hk;exact⟨o,e,ex⟩
    ·obtain⟨_,_,_,_,o,_,_,e,ex,_⟩:=I.hok p _ hk;exact⟨o,e,ex⟩
   obtain⟨o,e,ex⟩:=z;refine⟨⟨o,e,ex.1⟩,λa e2=>?_⟩;cases e2;exact⟨o,e,ex.2.1⟩
  ·obtain⟨o,_,_,_,e,ex,_⟩:=I.hok p _ hk;refine⟨⟨o,e,ex.1⟩,λa e2=>?_⟩;cases e2;exact⟨o,e,ex.2.1⟩
 |_=>exact bT ty
def tBM0(K:aa)(T:String)(r:V->List V->Hp->VK->Prop)(to:TE):TE:=λO H Q=>to O H λx H1=>tyV K T x H1/\r x [] H1 Q
def tBM(K:aa)(T:String)(r:V->List V->Hp->VK->Prop)(to:TE)(t:TA):TE:=λO H Q=>to O H λx H1=>tyV K T x H1/\t O H1 λxs H2=>r x xs H2 Q
variable{o e:bo}{es:List bo}{to:TE}{t:TA}{name:Str}{Pg Ph:Pos}{T id:String}{r:V->List V->Hp->VK->Prop}
def N3(pa:PlainAttrs T)(slot:Slot T name id)(S9:typeOf (.builtin id)=pure (.type "method_descriptor"))(hm:MtR X id r)(ho:PE X o to)(PB:cz o name X.env (eval o X.env)=eval o X.env:=by rfl)(Pz:(Pg.endLine==Ph.line)=true:=by rfl):PE X (.Call (.Attribute o name Pg) [] [] Ph) (tBM0 X.K T r to):=by
 intro Pf s O H Q I h;refine lc PB Pz (thn (ho Pf s O H _ I h) λv s1=>e4 λx H1 I1 r1 ⟨ty,q1⟩=>?_);obtain⟨h1,h2⟩:=JC I1 r1 ty;exact⟨T,id,pa,slot,S9,h1,h2,dI rfl (kK (hm Pf s1 O H1 x [] v [] Q I1 r1 .nil q1))⟩
def Kv(pa:PlainAttrs T)(slot:Slot T name id)(S9:typeOf (.builtin id)=pure (.type "method_descriptor"))(hm:MtR X id r)(ho:PE X o to)(ha:PA X (e::es) t)(PB:cz o name X.env (eval o X.env)=eval o X.env:=by rfl)(Qz:((b5 Ph (aB (e::es) X.env)).all (λx=>!x.1)&&(eL Ph (cU [] X.env)).all (λx=>x.1.isSome)
   && decide ((e::es).length+([]:List fG).length+(if([]:List fG).isEmpty then 0 else 1)<30))=true:=by rfl)(Pz:(Pg.endLine==Ph.line)=true:=by rfl)(hs:SEb X e es:=by rfl)(PZ:(b5 Ph (aB es X.env)).any (·.1)=false:=by rfl) :
  PE X (.Call (.Attribute o name Pg) (e::es) [] Ph) (tBM X.K T r to t):=by
 intro Pf s O H Q I h;refine wpAny_Call_method_late PB Qz Pz rfl (thn (ho Pf s O H _ I h) λv s1=>e4 λx H1 I1 r1 ⟨ty,q1⟩=>?_);obtain⟨h1,h2⟩:=JC I1 r1 ty;refine⟨T,id,pa,slot,S9,h1,h2,?_⟩;have hA:=ha Ph Pf s1 O H1 _ I1 q1;rw[hs] at hA ⊢;refine dI (by show(false||(b5 Ph (aB es X.env)).any (·.1))=false;rw[PZ]<;>rfl) (fH ?_);exact thn hA λus s2=>e4 λvs H2 I2 r2 q2=>hm Pf s2 O H2 x vs v us Q I2 r1 r2 q2
end
def MtM(X:Cx)(id:String)(r:V->List V->Hp->VK->Prop):Prop :=
 ∀(Pf:List (ak×Obj))(s:ax)(O:St)(H:Hp)(x:V)(xs:List V)(v:ai)(us:List ai)(Q:VK),Inv X Pf O H s->RelV x v->Vals xs us->r x xs H Q ->
  aS (model X.prog X.w) X.A (call (.builtin id) (v::us)) (EP X Pf O Q) X.xe s
def Vals.one:∀{x:V}{us:List ai},Vals [x] us->∃u,us=[u]/\RelV x u
 |_,_,.cons r .nil=>⟨_,rfl,r⟩
def Vals.zero:∀{us:List ai},Vals [] us->us=[]
 |_,.nil=>rfl
theorem Vals.dropLast(h:Vals xs us):Vals xs.dropLast us.dropLast:=by
 induction h with
 |nil=>exact .nil
 |cons r t ih =>
  cases t with
  |nil=>exact .nil
  |cons q t'=>exact .cons r ih
theorem Vals.rep(h:Vals xs us):∀k:Nat,Vals (aR k xs).flatten (aR k us).flatten
 |0=>.nil
 |k+1=>by rw[cX,cX,dX,dX];exact Vals.append h (Vals.rep h k)
def E7(l:List α):l.eraseIdx (l.length-1)=l.dropLast:=by
 induction l with
 |nil=>rfl
 |cons a r ih =>
  cases r with
  |nil=>rfl
  |cons b r =>
   have e:(a::b::r).length-1=((b::r).length-1)+1:=by have h1:(a::b::r).length=r.length+2:=rfl;have h2:(b::r).length=r.length+1:=rfl;lia
   rw[e,List.eraseIdx_cons_succ,ih]
   all_goals rfl
theorem Bu(its):∀(k:Nat)(Pq:List ai),
  lz (λx1 x2=>x1++x2) Pq.toArray (aR k its.toArray)=(Pq++(aR k its).flatten).toArray
 |0,Pq=>by simp
 |k+1,Pq=>by
  have e:Pq.toArray++its.toArray=(Pq++its).toArray:=by simp
  have e2:(Pq++its)++(aR k its).flatten=Pq++(aR (k+1) its).flatten:=by rw[cX,dX,List.append_assoc]
  rw[<-e2,<-Bu its k (Pq++its),<-e,cX,List.foldl_cons]
section
variable{X:Cx}{Pf:List (ak×Obj)}{O:St}{H:Hp}{s:ax}{l b:ak}{xs ys zs:List V}
def Inv.lset{its its':List ai}{n:Nat}{f:Array ai->Array ai}{t':Nat}(I:Inv X Pf O H s)(hH:H l=Za (.lst xs))(e:s.heap.get? l=Za { cls:=.type "list",data:=.seq its.toArray n })(hf:f its.toArray=its'.toArray)(hv:Vals ys its')(hz:ys.length<=aI) :
  Inv X Pf O (upd H l (.lst ys)) { s with heap:=s.heap.update l (iO f),toks:=t' }:=by
 have q:=PySem.IsL.update e f;rw[hf] at q;refine I.write (x:=l) (e:=l) (by rw[hH];exact trivial) (.inl rfl) (λb' u hb hu=>(kh s.heap (iO f) (bY hb)).trans hu) ⟨_,q⟩ ?_;exact⟨hz,its',_,hv,q⟩
def Inv.lnew(I:Inv X Pf O H s)(hv:Vals ys its)(hz:ys.length<=aI) :
  Inv X Pf O (upd H s.heap.objs.size (.lst ys)) { s with heap:=s.heap.push { cls:=.type "list",data:=.seq its.toArray },toks:=t' } :=
 I.laid (λ_ _ q=>ar _ q) (ap _) ⟨hz,its,0,hv,a6 _ rfl⟩
theorem Inv.fresh(I:Inv X Pf O H s):H s.heap.objs.size=none:=I.hok.fresh (ap _)
def Inv.lstM(I:Inv X Pf O H s)(hH:H l=Za (.lst xs)):xs.length<=aI/\∃(its:List ai)(n:Nat),Vals xs its/\xs.length=its.length/\s.heap.get? l=Za { cls:=.type "list",data:=.seq its.toArray n }:=by obtain⟨z,its,n,r,e⟩:=I.hok l _ hH;exact⟨z,its,n,r,r.length,e⟩
def IP(h:n<=aI):fM n=false:=by unfold fM;exact Zh (by lia)
def La:V->List V->Hp->VK->Prop:=λx vs H Q=>∃l xs y,x=.ref l/\vs=[y]/\H l=Za (.lst xs)/\xs.length<aI/\Q .non (upd H l (.lst (xs++[y])))
def Bl:MtM X "list.append" La:=by intro Pf s O H x vs v us Q I rx rv h;obtain⟨l,xs,y,rfl,rfl,hH,hz,q⟩:=h;cases rx;obtain⟨u,rfl,ru⟩:=rv.one;obtain⟨z,its,n,r,hl,e⟩:=I.lstM hH;refine ip kD ⟨_,e,rfl⟩ F.entry_list_append (F.args_list_append_2 _ _) (PySem.list_append l its.toArray n u (by rw[aN];lia)) ⟨e,?_⟩;refine⟨.non,_,I.lset (its':=its++[u]) hH e (by simp) (r.append (.cons ru .nil)) ?_,rfl,q⟩;rw[aJ,dQ];lia
def rPop:V->List V->Hp->VK->Prop:=λx vs H Q=>∃l xs y,x=.ref l/\vs=[]/\H l=Za (.lst xs)/\xs[xs.length-1]?=Za y/\Q y (upd H l (.lst xs.dropLast))
def Oq:MtM X "list.pop" rPop:=by
 intro Pf s O H x vs v us Q I rx rv h;obtain⟨l,xs,y,rfl,rfl,hH,hy,q⟩:=h;cases rx;have hus:=rv.zero;subst hus;obtain⟨z,its,n,r,hl,e⟩:=I.lstM hH;obtain⟨u,hu,ru⟩:=r.get hy;have S7:its.toArray[its.toArray.size-1]?=Za u:=by show its.toArray[its.length-1]?=Za u;rw[<-ku,<-hl];exact hu
 refine ip lh ⟨_,e,rfl⟩ F.entry_list_pop (F.args_list_pop_1 _) (MeetsSeq.list_pop_last l its.toArray n u S7 (by rw[aN];lia)) ⟨e,?_⟩;refine⟨y,_,I.lset (its':=its.dropLast) hH e ?_ r.dropLast ?_,ru,q⟩
 ·show its.toArray.eraseIdxIfInBounds (its.toArray.size-1)=its.dropLast.toArray;rw[aN,List.eraseIdxIfInBounds_toArray,E7]
 ·rw[List.length_dropLast];lia
def O2:R2:=λx y H Q=>∃l k xs,x=.ref l/\y=.int k/\H l=Za (.lst xs)/\-(2^63)<=k/\k<2^63/\xs.length*k.toNat<=aI /\
 ∀p,H p=Zb->Q (.ref p) (upd H p (.lst (aR k.toNat xs).flatten))
def LQ(xs:List α)(k:Nat):(aR k xs).flatten.length=k*xs.length:=by
 induction k with
 |zero=>simp
 |succ k ih=>rw[cX,dX,aJ,ih,Nat.succ_mul,kH]
def N6:OpR X (dE .Mult) O2:=by
 intro Pf s O H x y v u Q I rx ry h;obtain⟨l,k,xs,rfl,rfl,hH,h1,h2,hz,q⟩:=h;cases rx;obtain⟨t,rfl⟩:=ry;obtain⟨z,its,n,r,hl,e⟩:=I.lstM hH;have Pk:its.toArray.size*k.toNat<=aI:=by rw[aN,<-hl];exact hz
 have Vm:¬its.toArray.size*k.toNat>(2^63-1)/8:=by
  have:(aI:Nat)<=(2^63-1)/8:=by decide
  lia
 have Vg:¬(!Builtin.List.listFitsIndex k)=true:=by rw[fitsIndex_both h1 h2];exact aY
 have Ti:¬fM (its.toArray.size*k.toNat)=true:=by rw[IP Pk];exact aY
 have Qh:lz (λx1 x2=>x1++x2) #[] (aR (if its.toArray.isEmpty=true then 0 else k.toNat) its.toArray)=(aR k.toNat its).flatten.toArray:=by
  have f0:∀m:Nat,lz (λx1 x2=>x1++x2) #[] (aR m its.toArray)=(aR m its).flatten.toArray:=λm=>by have:=Bu its m [];rw[gU] at this;exact this
  rw[f0];cases its with
  |nil=>simp
  |cons a r'=>rw[Zd (by simp)]
 refine wpAny_binaryOp_repeat_ref (T:="list") (U:="int") (by decide) ⟨_,e,rfl⟩ (λs'=>typeIs_int s' k t) noFill_list_mul F.fills_int_mul F.slot_int_rmul repeat_list F.slot_int_index.lookup
  (ip F.slot_int_rmul (typeIs_int s k t) F.entry_int_rmul (F.args_int_rmul_2 _ _) (int___rmul___int_list k t l its.toArray n)
   ⟨e,rfl,⟨_,e,rfl⟩,ip F.slot_list_mul ⟨_,e,rfl⟩ F.entry_list_mul (F.args_list_mul_2 _ _) (AutoListH.list___mul___list_int_3 l its.toArray n k t Vg Vm Ti) ⟨e,?_⟩⟩)
 rw[Qh];exact⟨.ref _,_,I.lnew (t':=s.toks) (r.rep k.toNat) (by rw[LQ,kF];exact hz),rfl,q _ I.fresh⟩
end
section
variable{prog:aK}{w:ba}{A:cA}{E:ai->ax->Prop}{s:ax}
set_option maxRecDepth 100000 in
end
section
variable{X:Cx}
end
open PySem PySem.Spec PyProof.Rows
section
variable{κ:Type}[DecidableEq κ]
def oo(kvs:List (κ×V))(k:κ):Option V:=(kvs.find? λkv=>decide (kv.1=k)).map (·.2)
def pA(kvs:List (κ×V))(k:κ)(v:V):List (κ×V) :=
 if(kvs.any λkv=>decide (kv.1=k))=true then kvs.map (λkv=>if kv.1=k then(kv.1,v) else kv) else kvs++[(k,v)]
def xV(kvs:List (κ×V))(k:κ):List (κ×V):=kvs.filter λkv=>decide (kv.1≠k)
def vW{p:κ×V}{r}{k:κ}(e:p.1=k):oo (p::r) k=Za p.2:=by simp[oo,bG,e]
def vX{p:κ×V}{r}{k:κ}(e:¬p.1=k):oo (p::r) k=oo r k:=by simp[oo,bG,e]
theorem vY(k:κ):∀kvs:List (κ×V),(kvs.any λkv=>decide (kv.1=k))=(oo kvs k).isSome
 |[]=>rfl
 |p::r=>by
  rw[cO];by_cases e:p.1=k
  ·simp only[vW e,Zg e,Bool.true_or,Option.isSome_some]
  ·rw[vX e,Zh e,jS];exact vY k r
def qL(kvs)(k:κ)(v):(pA kvs k v).length<=kvs.length+1:=by
 unfold pA;split
 ·rw[ac];lia
 ·rw[aJ,bh,jj];lia
def um{kvs}{k:κ}(v)(h:oo kvs k=Zb):pA kvs k v=kvs++[(k,v)]:=by unfold pA;rw[vY,h];exact Zd (by decide)
def RelO.isSome_eq(r:RelO o u):o.isSome=u.isSome:=by
 cases o with
 |none=>cases u with
  |none=>rfl
  |some _=>exact(show False from r).elim
 |some _=>cases u with
  |none=>exact(show False from r).elim
  |some _=>rfl
theorem RelO.getD(r:RelO o u)(rd:RelV d d'):RelV (o.getD d) (u.getD d'):=by
 cases o with
 |none=>cases u with
  |none=>exact rd
  |some _=>exact(show False from r).elim
 |some _=>cases u with
  |none=>exact(show False from r).elim
  |some _=>exact r
def KV.val{kvs}{vs}(r:KV kvs vs)(k:κ):RelO (oo kvs k) (iT vs k):=by
 unfold KV at r;induction r with
 |nil=>exact eQ
 |@cons p q ps qs h t ih =>
  obtain⟨h1,h2⟩:=h;by_cases e:p.1=k
  ·have e':q.1=k:=h1.symm.trans e;have b:iT (q::qs) k=Za q.2:=by simp[iT,bG,e']
   rw[vW e,b];exact h2
  ·have e':¬q.1=k:=λz=>e (h1.trans z);have b:iT (q::qs) k=iT qs k:=by simp[iT,bG,e']
   rw[vX e,b];exact ih
theorem KV.any(r:KV kvs vs)(k:κ):(kvs.any λkv=>decide (kv.1=k))=vs.any λkv=>decide (kv.1=k):=by
 unfold KV at r;induction r with
 |nil=>rfl
 |cons h t ih=>rw[cO,cO,ih,h.1]
def KV.repl(r:KV kvs vs)(k:κ)(ry:RelV y u) :
  KV (kvs.map λkv=>if kv.1=k then(kv.1,y) else kv) (vs.map λkv=>if kv.1=k then(kv.1,u) else kv):=by
 unfold KV at r ⊢;induction r with
 |nil=>exact .nil
 |@cons p q ps qs h t ih =>
  rw[am,am];refine .cons ?_ ih;obtain⟨h1,h2⟩:=h;by_cases e:p.1=k
  ·rw[Zc e,Zc (h1.symm.trans e)];exact⟨h1,ry⟩
  ·rw[Zd e,Zd (λz=>e (h1.trans z))];exact⟨h1,h2⟩
def KV.put(r:KV kvs vs)(k:κ)(ry:RelV y u):KV (pA kvs k y) (stored vs k u):=by
 unfold pA stored;rw[r.any k];by_cases e:(vs.any λkv=>decide (kv.1=k))=true
 ·rw[Zc e,Zc e];exact r.repl k ry
 ·rw[Zd e,Zd e];exact kg r ⟨rfl,ry⟩
def KV.drop(r:KV kvs vs)(k:κ):KV (xV kvs k) (without vs k):=by
 unfold KV at r ⊢;unfold xV without;induction r with
 |nil=>exact .nil
 |@cons p q ps qs h t ih =>
  obtain⟨h1,h2⟩:=h;rw[gG,gG];by_cases e:p.1=k
  ·have a:¬decide (p.1≠k)=true:=by simp[e]
   have b:¬decide (q.1≠k)=true:=by simp[h1.symm.trans e]
   rw[Zd a,Zd b];exact ih
  ·have e':¬q.1=k:=λz=>e (h1.trans z);have a:decide (p.1≠k)=true:=by simp[e]
   have b:decide (q.1≠k)=true:=by simp[e']
   rw[Zc a,Zc b];exact .cons ⟨h1,h2⟩ ih
def KV.keys{kvs:List (κ×V)}{vs:List (κ×ai)}(r:KV kvs vs):kvs.map (·.1)=vs.map (·.1):=by
 unfold KV at r;induction r with
 |nil=>rfl
 |cons h t ih=>rw[am,am,ih,h.1]
theorem KV.length(r:KV kvs vs):kvs.length=vs.length:=ir r
def Jk(kvs)(k:κ):(xV kvs k).length<=kvs.length:=fB _ _
end
def xS(r:RelV (kV k) u):(mG P w).is k u=true:=by
 cases k with
 |inl i=>obtain⟨t,e⟩:=(show ∃t,u=fV i t from r);subst e;exact Dg P w i t
 |inr x=>obtain⟨t,e⟩:=(show ∃t,u=ib x t from r);subst e;exact Df P w x t
theorem Bn:∀{ks:List Key}{us:List ai},Vals (ks.map kV) us->ItemsAre (mG P w) ks us
 |[],_,r=>by rw[dy] at r;cases r;exact .nil
 |k::ks,_,r=>by
  rw[am] at r;cases r with
  |cons h t=>exact .cons (xS h) (Bn t)
abbrev KT(H:Hp):List (List Key×V)->List (List Key×ak×ai)->Prop:=eU λp q=>p.1=q.1/\H q.2.1=Za (.tup (p.1.map kV))/\RelV p.2 q.2.2
def KT.val{H}{kvs}{xs}(r:KT H kvs xs)(k):RelO (oo kvs k) ((kB xs k).map (·.2)):=by
 induction r with
 |nil=>exact eQ
 |@cons p q ps qs h t ih =>
  obtain⟨h1,_,h2⟩:=h;by_cases e:p.1=k
  ·have e':q.1=k:=h1.symm.trans e;have b:kB (q::qs) k=Za q.2:=by simp[kB,bG,e']
   rw[vW e,b];exact h2
  ·have e':¬q.1=k:=λz=>e (h1.trans z);have b:kB (q::qs) k=kB qs k:=by simp[kB,bG,e']
   rw[vX e,b];exact ih
def KT.repl(r:KT H kvs xs)(k)(ry:RelV y u) :
  KT H (kvs.map λkv=>if kv.1=k then(kv.1,y) else kv) (xs.map (putAt k u)):=by
 induction r with
 |nil=>exact .nil
 |@cons p q ps qs h t ih =>
  rw[am,am];refine .cons ?_ ih;obtain⟨h1,h2,h3⟩:=h;unfold putAt;by_cases e:p.1=k
  ·rw[Zc e,Zc (h1.symm.trans e)];exact⟨h1,h2,ry⟩
  ·rw[Zd e,Zd (λz=>e (h1.trans z))];exact⟨h1,h2,h3⟩
def KT.put(r:KT H kvs xs)(k)(hb:H b=Za (.tup (k.map kV)))(ry:RelV y u) :
  KT H (pA kvs k y) (storedH xs k b u):=by
 have e:(kvs.any λkv=>decide (kv.1=k))=(kB xs k).isSome:=by rw[vY,(r.val k).isSome_eq,ci]
 unfold pA storedH;rw[e];by_cases q:(kB xs k).isSome=true
 ·rw[Zc q,Zc q];exact r.repl k ry
 ·rw[Zd q,Zd q];exact kg r ⟨rfl,hb,ry⟩
def KT.keeps(r:KT H kvs xs)(ht:∀b ys,H b=Za (.tup ys)->H' b=Za (.tup ys)):KT H' kvs xs :=
 eU.mapP r λ_ _ z=>⟨z.1,ht _ _ z.2.1,z.2.2⟩
section
variable{P:aK}{w:ba}{H:Hp}{h:bx}{a:ak}
def MZ(ok:HOk P w H h)(e:Rd H a u):ObjOk P w H h a u:=e.ok ok
def sR(ok:HOk P w H h)(e:Rd H a (.dK kvs)):kvs.length<=aI/\(a==dS)=false/\∃vs,KV kvs vs/\h.DictOf (mG P w) a vs :=
 show ObjOk P w H h a (.dK kvs) from MZ ok e
def KD(ok:HOk P w H h)(e:H a=Za (.dK kvs)):kvs.length<=aI/\(a==dS)=false/\∃vs,KV kvs vs/\h.DictOf (mG P w) a vs:=sR ok (.inl e)
def x9(ok:HOk P w H h)(e:H a=Za (.tup (ks.map kV))):(iU (mG P w)).is h ks a:=by obtain⟨_,its,r,o,h1,h2,n,h3⟩:=(show ObjOk P w H h a (.tup (ks.map kV)) from ok a _ e);exact⟨o,its.toArray,n,h1,h2,h3,by simpa using Bn r⟩
def AN(ok:HOk P w H h)(e:Rd H a (.dT kvs)):kvs.length<=aI/\(a==dS)=false /\
  ∃xs,KT H kvs xs/\h.DictOfH (iU (mG P w)) a xs:=by
 obtain⟨z,y,xs,r,o,es,ep,h1,h2,h3,h4,h5⟩:=(show ObjOk P w H h a (.dT kvs) from MZ ok e);refine⟨z,y,xs,r,o,es,ep,h1,h2,h3,h4,λx hx=>?_,h5⟩;have all:∀{l:List (List Key×V)}{m:List (List Key×ak×ai)},KT H l m->∀x∈m,(iU (mG P w)).is h x.1 x.2.1:=by
  intro l m q;induction q with
  |nil=>intro x hx;exact nomatch hx
  |@cons p q ps qs hq t ih =>
   intro x hx;rcases ah.mp hx with e|hx
   ·subst e;exact x9 ok (by rw[<-hq.1];exact hq.2.1)
   ·exact ih x hx
 exact all r x hx
def dt_of(ok:HOk P w H h)(e:H a=Za (.dT kvs)):kvs.length<=aI/\(a==dS)=false /\
  ∃xs,KT H kvs xs/\h.DictOfH (iU (mG P w)) a xs:=AN ok (.inl e)
end
def DGet(H:Hp)(a:ak)(y:V)(r:Option V):Prop :=
 (∃kvs k,Rd H a (.dK kvs)/\y=kV k/\r=oo kvs k)\/∃kvs k b,Rd H a (.dT kvs)/\y=.ref b/\H b=Za (.tup (k.map kV))/\r=oo kvs k
def DPut(H:Hp)(a:ak)(y v:V)(H':Hp):Prop :=
 (∃kvs k,H a=Za (.dK kvs)/\y=kV k/\kvs.length<aI/\H'=upd H a (.dK (pA kvs k v))) \/
 ∃kvs k b,H a=Za (.dT kvs)/\y=.ref b/\H b=Za (.tup (k.map kV))/\kvs.length<aI/\H'=upd H a (.dT (pA kvs k v))
theorem DGet.k{H}{a}{kvs}{k}(e:H a=Za (.dK kvs)):DGet H a (kV k) (oo kvs k):=.inl ⟨kvs,k,.inl e,rfl,rfl⟩
def DGet.t{H}{a b}{kvs}{k}(e:H a=Za (.dT kvs))(eb:H b=Za (.tup (k.map kV))):DGet H a (.ref b) (oo kvs k):=.inr ⟨kvs,k,b,.inl e,rfl,eb,rfl⟩
theorem DPut.k{H}{a}{kvs}{k}{v}(e:H a=Za (.dK kvs))(hl:kvs.length<aI):DPut H a (kV k) v (upd H a (.dK (pA kvs k v))):=.inl ⟨kvs,k,e,rfl,hl,rfl⟩
def DPut.t{H}{a b}{kvs}{k}{v}(e:H a=Za (.dT kvs))(eb:H b=Za (.tup (k.map kV)))(hl:kvs.length<aI) :
  DPut H a (.ref b) v (upd H a (.dT (pA kvs k v))):=.inr ⟨kvs,k,b,e,rfl,eb,hl,rfl⟩
section
variable{X:Cx}{Pf:List (ak×Obj)}{O:St}{H:Hp}{s:ax}{a:ak}{y v:V}{u r:ai}{o:Option V}{A:cA}{E:ai->ax->Prop}
def Inv.big(I:Inv X Pf O H s):dS<s.heap.objs.size:=by have h:a7<s.heap.objs.size:=(I.mod.glob.keeps I.bk).lt;exact gT (by decide) h
def Bz(hu:A.units+1<eR)(I:Inv X Pf O H s)(g:DGet H a y (Za v))(ry:RelV y u)(h:∀w' s',Inv X Pf O H s'->RelV v w'->Q w' s') :
  aS (model X.prog X.w) A (io (.ref a) u) Q E s:=by
 rcases g with⟨kvs,k,e,ey,l⟩|⟨kvs,k,b,e,ey,eb,l⟩
 ·subst ey;obtain⟨z,hd,vs,rel,dd⟩:=sR I.hok e;obtain⟨w',hw,P4⟩:=RelO.some_of (v:=v) (o:=iT vs k) (by rw[l];exact rel.val k);exact wpAny_getItem_of (xS ry) dd.mapOf hw (h w' _ (I.tok _) P4)
 ·subst ey;cases(show u=bi b from ry);obtain⟨z,hd,xs,rel,dd⟩:=AN I.hok e;obtain⟨w',hw,P4⟩:=RelO.some_of (v:=v) (o:=(kB xs k).map (·.2)) (by rw[l];exact rel.val k);obtain⟨p,hp,hp2⟩:=Option.map_eq_some_iff.mp hw;refine wpAny_getItem_heap (fu hu) (x9 I.hok eb) dd hp ?_;rw[hp2];exact h w' _ (I.tok _) P4
def d_in(hu:A.units+1<eR)(I:Inv X Pf O H s)(g:DGet H a y o)(ry:RelV y u)(h:∀s',Inv X Pf O H s'->Q (.bool o.isSome) s') :
  aS (model X.prog X.w) A (bS .In u (.ref a)) Q E s:=by
 rcases g with⟨kvs,k,e,ey,l⟩|⟨kvs,k,b,e,ey,eb,l⟩
 ·subst ey;obtain⟨z,hd,vs,rel,dd⟩:=sR I.hok e;refine wpAny_in_of (xS ry) hd dd.mapOf ?_;rw[<-(rel.val k).isSome_eq,<-l];exact h _ (I.tok _)
 ·subst ey;cases(show u=bi b from ry);obtain⟨z,hd,xs,rel,dd⟩:=AN I.hok e;refine wpAny_in_heap (fu hu) (x9 I.hok eb) hd dd ?_;have q:=(rel.val k).isSome_eq;rw[ci] at q;rw[<-q,<-l];exact h _ (I.tok _)
def MG(hu:A.units+1<eR)(I:Inv X Pf O H s)(g:DGet H a y o)(ry:RelV y u)(h:∀s',Inv X Pf O H s'->Q (.bool (!o.isSome)) s') :
  aS (model X.prog X.w) A (bS .NotIn u (.ref a)) Q E s:=by
 rcases g with⟨kvs,k,e,ey,l⟩|⟨kvs,k,b,e,ey,eb,l⟩
 ·subst ey;obtain⟨z,hd,vs,rel,dd⟩:=sR I.hok e;refine wpAny_notIn_of (xS ry) hd dd.mapOf ?_;rw[<-(rel.val k).isSome_eq,<-l];exact h _ (I.tok _)
 ·subst ey;cases(show u=bi b from ry);obtain⟨z,hd,xs,rel,dd⟩:=AN I.hok e;refine wpAny_notIn_heap (fu hu) (x9 I.hok eb) hd dd ?_;have q:=(rel.val k).isSome_eq;rw[ci] at q;rw[<-q,<-l];exact h _ (I.tok _)
def zo(I:Inv X Pf O H s)(mu:Mut (H a))(hs:iV a s.heap h')(he:∃q,h'.get? a=Za q)(new:ObjOk X.prog X.w (upd H a ob) h' a ob) :
  Inv X Pf O (upd H a ob) { s with heap:=h',toks:=t' } :=
 I.write (x:=a) (e:=a) mu (.inl rfl) (λb q hb z=>(hs.2 b hb).trans z) he new
def C1(z:kvs.length<=aI)(hd:(a==dS)=false)(rel:KV kvs vs)(dd:h'.DictOf (mG P w) a vs) :
  ObjOk P w H' h' a (.dK kvs):=⟨z,hd,vs,rel,dd⟩
def By(hu:A.units+1<eR)(I:Inv X Pf O H s)(g:DPut H a y v H')(ry:RelV y u)(rv:RelV v r)(h:∀s',Inv X Pf O H' s'->Q () s') :
  aS (model X.prog X.w) A (jY (.ref a) u r) Q E s:=by
 rcases g with⟨kvs,k,e,ey,l,eH⟩|⟨kvs,k,b,e,ey,eb,l,eH⟩
 ·subst ey eH;obtain⟨z,hd,vs,rel,dd⟩:=KD I.hok e;have hz:vs.length<=aI:=by rw[<-rel.length];exact z
  have hl:(pA kvs k v).length<=aI:=by have:=qL kvs k v;lia
  refine wpAny_setItem_pairs (hsz:=hz) (xS ry) dd λh' Ri hs=>h _ ?_;have he:∃q,h'.get? a=Za q:=let⟨q,_,_,hq,_⟩:=Ri;⟨q,hq⟩;exact zo I (by rw[e];exact eQ) hs he (C1 hl hd (rel.put k rv) Ri)
 ·subst ey eH;cases(show u=bi b from ry);obtain⟨z,hd,xs,rel,dd⟩:=dt_of I.hok e;have hz:xs.length<=aI:=by rw[<-ir rel];exact z
  have hl:(pA kvs k v).length<=aI:=by have:=qL kvs k v;lia
  refine wpAny_setItem_heap (hsz:=hz) (fu hu) (x9 I.hok eb) dd λh' Ri hs=>h _ ?_;obtain⟨q,es,ep,hq,h2,h3,h4,_,h5⟩:=Ri;refine zo I (by rw[e];exact eQ) hs ⟨q,hq⟩ ⟨hl,hd,_,(rel.put k eb rv).keeps λc ys ec=>?_,q,es,ep,hq,h2,h3,h4,h5⟩;rw[lG (CT ec e (λz=>nomatch z))];exact ec
end
section
variable{X:Cx}{Pf:List (ak×Obj)}{O:St}{H:Hp}{s:ax}{a:ak}{kvs:List (Key×V)}{k:Key}{u:ai}{A:cA}{E:ai->ax->Prop}
def d_pop(I:Inv X Pf O H s)(e:H a=Za (.dK kvs))(ry:RelV (kV k) u)(l:oo kvs k=Za v)(hm:more=[]\/∃x,more=[x])(h:∀w' s',Inv X Pf O (upd H a (.dK (xV kvs k))) s'->RelV v w'->Q w' s'):aS (model X.prog X.w) A (call (.builtin "dict.pop") (.ref a::u::more)) Q E s:=by
 obtain⟨z,hd,vs,rel,dd⟩:=KD I.hok e;obtain⟨w',hw,P4⟩:=RelO.some_of (v:=v) (o:=iT vs k) (by rw[<-l];exact rel.val k);have hp:(keyPart u).isSome=true:=by
  cases k with
  |inl i=>obtain⟨t,q⟩:=(show ∃t,u=fV i t from ry);subst q;rfl
  |inr x=>obtain⟨t,q⟩:=(show ∃t,u=ib x t from ry);subst q;rfl
 have ha:argsOk "dict.pop" ⟨.ref a::u::more,[]⟩:=by
  rcases hm with q|⟨x,q⟩
  ·subst q;exact PySem.F.args_dict_pop_2 _ _
  ·subst q;exact PySem.F.args_dict_pop_3 _ _ _
 refine jp jQ dd.typeIs PySem.F.entry_dict_pop ha (meets_dict_pop_there (mG X.prog X.w) a (xS ry) more hm hp)
  ⟨vs,w',dd,by rw[<-rel.length];exact z,hw,λh' Ri hs=>h w' _ ?_ P4⟩
 have he:∃q,h'.get? a=Za q:=let⟨q,_,_,hq,_⟩:=Ri;⟨q,hq⟩;exact zo I (by rw[e];exact eQ) hs he (C1 (aH (Jk kvs k) z) hd (rel.drop k) Ri)
def Nv(I:Inv X Pf O H s)(e:Rd H a (.dK kvs))(h:∀t s',Inv X Pf O H s'->Q (.int kvs.length t) s'):aS (model X.prog X.w) A (call (.builtin "len") [.ref a]) Q E s:=by obtain⟨z,hd,vs,rel,dd⟩:=sR I.hok e;refine call_len_dict hd dd (by rw[<-rel.length];rw[jM] at z;lia) ?_;rw[<-rel.length];exact h _ _ (I.tok _)
end
def Pe(i:bo):Prop:=∀ov iv,subscripted i false ov iv=operate [ov,iv] (io ov iv)
def KS{prog}{w}{A}{E}{s}{env:Env}{value Py}{pos}{T id:String}{Q}(hl:typeLookup (.type T) "__getitem__"=pure (Za (.builtin id)))(hs:Pe Py)(h:aS (model prog w) A (eval value env) (λo Ps=>aS (model prog w) A (eval Py env) (λi Qy=>Qy.TypeIs o T/\aS (model prog w) A (io o i) Q E Qy) E Ps) E s) :
  aS (model prog w) A (eval (.Subscript value Py pos) env) Q E s:=by
 refine Subscript_ (bN h (λo Ps TD=>bN TD (λi Qy TC=>?_) λ_ _ x=>x) λ_ _ x=>x);obtain⟨hT,TC⟩:=TC;unfold ja;refine aq ?_;rw[getitemInPython_of_ne hT.not_modules];refine aq (wpAny_specialOf hT hl ?_);have PX:aS (model prog w) A (subscripted Py false o i) (λr Pl=>aS (model prog w) A (letTemporaryGo value o r >>= λ_=>pure r) Q E Pl) E Qy:=by rw[hs o i];exact wpAny_operating (bN TC (λr Pl SA=>aq (wpAny_letTemporaryGo (aM SA))) λ_ _ x=>x)
 first
  |exact aM (aq PX)
  |exact aq (aM (aq PX))
  |exact aq PX
def xK(I:Inv X Pf O H s)(g:DGet H a y o):s.TypeIs (.ref a) "dict":=by
 rcases g with⟨kvs,k,e,_,_⟩|⟨kvs,k,b,e,_,_,_⟩
 ·obtain⟨_,_,vs,_,dd⟩:=sR I.hok e;exact dd.typeIs
 ·obtain⟨_,_,xs,_,dd⟩:=AN I.hok e;exact dd.typeIs
def tDGet(td ty:TE):TE:=λO H Q=>td O H λx H1=>ty O H1 λy H2=>∃a v,x=.ref a/\DGet H2 a y (Za v)/\Q v H2
def tDIn(ty td:TE):TE:=λO H Q=>ty O H λy H1=>td O H1 λx H2=>∃a o,x=.ref a/\DGet H2 a y o/\Q (.bl o.isSome) H2
def MX(td ty tv:TE):TS:=λD O H=>tv O H λv H1=>td O H1 λx H2=>ty O H2 λy H3=>∃a H4,x=.ref a/\DPut H3 a y v H4/\D.nx O H4
section
variable{X:Cx}{o i e value:bo}{pos Pw PY:Pos}{td ty tv:TE}
def rA(hu:X.A.units+1<eR)(ho:PE X o td)(hi:PE X i ty)(hs:Pe i):PE X (.Subscript o i pos) (tDGet td ty):=by intro Pf s O H Q I h;refine KS jh.lookup hs (thn (ho Pf s O H _ I h) λu s1=>e4 λx H1 I1 rx q1=>thn (hi Pf s1 O H1 _ I1 q1) λiv s2=>e4 λy H2 I2 ry ⟨a,v,ex,g,q2⟩=>?_);subst ex;obtain rfl:u=bi a:=rx;exact⟨xK I2 g,Bz hu I2 g ry λw' s3 I3 P4=>⟨v,H2,I3,P4,q2⟩⟩
def JU(hu:X.A.units+1<eR)(hi:PE X i ty)(ho:PE X o td):PC X .In i o (tDIn ty td):=by intro Pf s O H Q I h;refine thn (hi Pf s O H _ I h) λiv s1=>e4 λy H1 I1 ry q1=>thn (ho Pf s1 O H1 _ I1 q1) λu s2=>e4 λx H2 I2 rx ⟨a,ov,ex,g,q2⟩=>?_;subst ex;obtain rfl:u=bi a:=rx;exact d_in hu I2 g ry λs3 I3=>⟨.bl ov.isSome,H2,I3,rfl,q2⟩
def pb(hu:X.A.units+1<eR)(ho:PE X o td)(hi:PE X i ty)(hv:PE X value tv)(hs:dL value (Za (.Subscript o i Pw)) pos.line X.env=pure false) :
  PS X (.Assign [.Subscript o i Pw] value pos) (MX td ty tv):=by
 intro Pf s O H D I h;refine wpAny_Assign_Subscript (thn (hv Pf s O H _ I h) λr s1=>e4 λv H1 I1 rv q1=>thn (ho Pf s1 O H1 _ I1 q1) λu s2=>e4 λx H2 I2 rx q2=>thn (hi Pf s2 O H2 _ I2 q2) λiv s3=>e4 λy H3 I3 ry ⟨a,H4,ex,g,q3⟩=>?_) hs;subst ex;obtain rfl:u=bi a:=rx;exact By hu I3 g ry rv λs4 I4=>⟨O,H4,I4,q3⟩
def Eb(h:bx)(hb:dS<h.objs.size):ObjOk P w H (h.push { cls:=.type "dict",data:=.dict #[] }) h.objs.size (.dK []) :=
 ⟨aZ _,beq_eq_false_iff_ne.mpr (bY (aF hb)),[],.nil,ki h⟩
def Jj(h:bx)(hb:dS<h.objs.size):ObjOk P w H (h.push { cls:=.type "dict",data:=.dict #[] }) h.objs.size (.dT []) :=
 ⟨aZ _,beq_eq_false_iff_ne.mpr (bY (aF hb)),[],.nil,_,#[],0,a6 _ rfl,⟨rfl,rfl,rfl⟩,rfl,rfl,ii⟩
def NE:TE:=λ_ H Q=>∀p,H p=Zb->Q (.ref p) (upd H p (.dK []))
def ND:TE:=λ_ H Q=>∀p,H p=Zb->Q (.ref p) (upd H p (.dT []))
def pe_dnewK:PE X (.Dict [] [] pos) NE:=λPf s O H Q I h =>
 wpAny_Dict_empty ⟨.ref s.heap.objs.size,_,I.laid (a:=s.heap.objs.size) (o:=.dK []) (t':=s.toks) (λ_ _ q=>ar _ q) (ap _) (Eb s.heap I.big),rfl,h _ (I.hok.fresh (ap _))⟩
def pe_dnewT:PE X (.Dict [] [] pos) ND:=λPf s O H Q I h =>
 wpAny_Dict_empty ⟨.ref s.heap.objs.size,_,I.laid (a:=s.heap.objs.size) (o:=.dT []) (t':=s.toks) (λ_ _ q=>ar _ q) (ap _) (Jj s.heap I.big),rfl,h _ (I.hok.fresh (ap _))⟩
end
def Fg:List (TE×TE)->St->Hp->(List (V×V)->Hp->Prop)->Prop
 |[],_,H,Q=>Q [] H
 |(tk,tv)::r,O,H,Q=>tk O H λx H1=>tv O H1 λy H2=>Fg r O H2 λps H3=>Q ((x,y)::ps) H3
abbrev VV:List (V×V)->List (ai×ai)->Prop:=eU λp q=>RelV p.1 q.1/\RelV p.2 q.2
def PPs(X:Cx)(pos:Pos)(keys:List (Option bo))(Qk:List bo)(RQ:List (TE×TE)):Prop :=
 ∀(Pf:List (ak×Obj))(s:ax)(O:St)(H:Hp)(Q:List (V×V)->Hp->Prop),Inv X Pf O H s->Fg RQ O H Q ->
  aS (model X.prog X.w) X.A (evalPairs (pairTrees keys Qk X.env pos)) (λvs s'=>∃ps H',Inv X Pf O H' s'/\VV ps vs/\Q ps H') X.xe s
def FT:PPs X pos [] [] []:=λPf s O H Q I h=>pairTrees_nil_walk ⟨[],H,I,.nil,h⟩
def DP(hk:PE X k tk)(hv:PE X v tv)(hr:PPs X pos ks vs RQ) :
  PPs X pos (Za k::ks) (v::vs) ((tk,tv)::RQ):=λPf s O H Q I h =>
 pairTrees_cons_walk (thn (hk Pf s O H _ I h) λu s1=>e4 λx H1 I1 rx q1=>thn (hv Pf s1 O H1 _ I1 q1) λw2 s2=>e4 λy H2 I2 ry q2 =>
  thn (hr Pf s2 O H2 _ I2 q2) λws s3=>e4 λps H3 I3 rel q3=>⟨(x,y)::ps,H3,I3,.cons ⟨rx,ry⟩ rel,q3⟩)
def Au(kvs more:List (Key×V)):List (Key×V):=more.foldl (λPq kv=>pA Pq kv.1 kv.2) kvs
def KV.merge:∀{more:List (Key×V)}{rs:List (Key×ai)}{kvs:List (Key×V)}{vs:List (Key×ai)},KV more rs->KV kvs vs->KV (Au kvs more) (merged vs rs):=by
 intro more rs kvs vs r;unfold KV at r;induction r generalizing kvs vs with
 |nil=>intro q;exact q
 |@cons p q ps qs h t ih =>
  intro r0;have e:KV (pA kvs p.1 p.2) (stored vs q.1 q.2):=by have:=r0.put p.1 h.2;rw[<-h.1];exact this
  exact ih e
theorem uX:∀(more kvs:List (Key×V)),(Au kvs more).length<=kvs.length+more.length
 |[],kvs=>by show kvs.length<=kvs.length+0;lia
 |p::r,kvs=>by have h1:=uX r (pA kvs p.1 p.2);have h2:=qL kvs p.1 p.2;show(Au (pA kvs p.1 p.2) r).length<=_;rw[bh];lia
theorem zx:∀{kvs:List (Key×V)}{ws:List (ai×ai)},VV (kvs.map λkv=>(kV kv.1,kv.2)) ws->∃rs,Carries (mG P w) ws rs/\KV kvs rs
 |[],_,r=>by rw[dy] at r;cases r;exact⟨[],eQ,.nil⟩
 |p::kvs,_,r=>by
  rw[am] at r;cases r with
  |@cons a b as bs h t =>
   obtain⟨rs,c,q⟩:=zx (P:=P) (w:=w) t;obtain⟨b1,b2⟩:=b;exact⟨(p.1,b2)::rs,⟨xS h.1,rfl,c⟩,.cons ⟨rfl,h.2⟩ q⟩
def tDisp(RQ:List (TE×TE)):TE:=λO H Q=>∀p,H p=Zb->Fg RQ O (upd H p (.dK [])) λps H2=>H2 p=Za (.dK [])/\∃kvs:List (Key×V),ps=kvs.map (λkv=>(kV kv.1,kv.2))/\kvs.length<=15/\Q (.ref p) (upd H2 p (.dK (Au [] kvs)))
def FV(h:PPs X pos keys Qk RQ)(Se:keys.all (·.isSome)=true)(hl:keys.length=Qk.length)(h0:keys≠[])(h15:keys.length<=15):PE X (.Dict keys Qk pos) (tDisp RQ):=by
 intro Pf s O H Q I q;have hn:=I.hok.fresh (ap s.heap.objs.size);have I1:=I.laid (a:=s.heap.objs.size) (o:=.dK []) (h':=s.heap.push { cls:=.type "dict",data:=.dict #[] }) (t':=s.toks) (λ_ _ q=>ar _ q) (ap _) (Eb s.heap I.big);refine wpAny_Dict_walk (knd:=mG X.prog X.w) Se hl h0 h15 (thn (h Pf _ O _ _ I1 (q _ hn)) λws s2=>e4 λps H2 I2 rel ⟨e,kvs,ep,lk,q2⟩=>?_);subst ep;obtain⟨rs,c,rk⟩:=zx (P:=X.prog) (w:=X.w) rel;obtain⟨z,hd,QV,r0,dd⟩:=KD I2.hok e;cases r0;refine⟨rs,c,dd,λh' Ri hs=>⟨.ref s.heap.objs.size,_,?_,rfl,q2⟩⟩;have hz:(Au [] kvs).length<=aI:=by have h1:=uX kvs [];rw[jj] at h1;rw[jM];lia
 have he:∃q,h'.get? s.heap.objs.size=Za q:=let⟨q,_,_,hq,_⟩:=Ri;⟨q,hq⟩;exact zo I2 (by rw[e];exact eQ) hs he (C1 hz hd (rk.merge .nil) Ri)
structure M1(X:Cx)(o:bo)(m:Str)(Pg:Pos)(e:bo)(Ph:Pos):Prop where
 base:cz o m X.env (eval o X.env)=eval o X.env
 few:((b5 Ph (aB [e] X.env)).all (λx=>!x.1)&&(eL Ph (cU [] X.env)).all (λx=>x.1.isSome)
  && decide (([e]:List bo).length+([]:List fG).length+(if([]:List fG).isEmpty then 0 else 1)<30))=true
 line:(Pg.endLine==Ph.line)=true
 trees:b5 Ph (aB [e] X.env)=[(false,eval e X.env)]
structure M2(X:Cx)(o:bo)(m:Str)(Pg:Pos)(e f:bo)(Ph:Pos):Prop where
 base:cz o m X.env (eval o X.env)=eval o X.env
 few:((b5 Ph (aB [e,f] X.env)).all (λx=>!x.1)&&(eL Ph (cU [] X.env)).all (λx=>x.1.isSome)
  && decide (([e,f]:List bo).length+([]:List fG).length+(if([]:List fG).isEmpty then 0 else 1)<30))=true
 line:(Pg.endLine==Ph.line)=true
 trees:b5 Ph (aB [e,f] X.env)=[(false,eval e X.env),(false,eval f X.env)]
def IsD(H:Hp)(a:ak):Prop:=(∃kvs,Rd H a (.dK kvs))\/∃kvs,Rd H a (.dT kvs)
def Fu(I:Inv X Pf O H s)(d:IsD H a) :
  s.TypeIs (.ref a) "dict"/\(∀b,bi a=.ref b->∃ob,s.heap.get? b=Za ob/\ob.dict=Zb)/\(a==dS)=false:=by
 rcases d with⟨kvs,e⟩|⟨kvs,e⟩
 ·obtain⟨_,hd,vs,_,dd⟩:=sR I.hok e;refine⟨dd.typeIs,λb q=>?_,hd⟩;cases q;obtain⟨ob,_,_,h1,h2,_⟩:=dd;exact⟨ob,h1,h2.2.1⟩
 ·obtain⟨_,hd,xs,_,dd⟩:=AN I.hok e;refine⟨dd.typeIs,λb q=>?_,hd⟩;cases q;obtain⟨ob,_,_,h1,h2,_⟩:=dd;exact⟨ob,h1,h2.2.1⟩
section
variable{X:Cx}{Pf:List (ak×Obj)}{O:St}{H:Hp}{s:ax}{a:ak}{y d:V}{u r:ai}{o:Option V}{A:cA}{E:ai->ax->Prop}
def OT(hu:A.units+1<eR)(I:Inv X Pf O H s)(g:DGet H a y o)(ry:RelV y u)(rd:RelV d r)(h:∀w' s',Inv X Pf O H s'->RelV (o.getD d) w'->Q w' s') :
  aS (model X.prog X.w) A (call (.builtin "dict.get") [.ref a,u,r]) Q E s:=by
 rcases g with⟨kvs,k,e,ey,l⟩|⟨kvs,k,b,e,ey,eb,l⟩
 ·subst ey;obtain⟨z,hd,vs,rel,dd⟩:=sR I.hok e;refine jp gI dd.typeIs jG (jA _ _ _) (meets_dict_get_default (mG X.prog X.w) a (xS ry) hd r) ⟨_,dd.mapOf,h _ _ (I.tok _) ?_⟩;rw[l];exact(rel.val k).getD rd
 ·subst ey;cases(show u=bi b from ry);obtain⟨z,hd,xs,rel,dd⟩:=AN I.hok e;refine jp gI dd.typeIs jG (jA _ _ _) (meetsH_dict_get_default (iU (mG X.prog X.w)) a b hd r) ⟨fu hu,k,xs,x9 I.hok eb,dd,h _ _ (I.tok _) ?_⟩;rw[l];exact(rel.val k).getD rd
end
def JF(td ty tx:TE):TE:=λO H Q=>td O H λx H1=>∃a,x=.ref a/\IsD H1 a/\ty O H1 λy H2=>tx O H2 λz H3=>∃o,DGet H3 a y o/\Q (o.getD z) H3
def NC(td ty:TE):TE:=λO H Q=>td O H λx H1=>∃a,x=.ref a/\IsD H1 a/\ty O H1 λy H2=>∃kvs k v,H2 a=Za (.dK kvs)/\y=kV k/\oo kvs k=Za v/\Q v (upd H2 a (.dK (xV kvs k)))
section
variable{X:Cx}{o e f:bo}{Pg Ph:Pos}{td ty tx:TE}
def zN(hu:X.A.units+1<eR)(ho:PE X o td)(he:PE X e ty)(hf:PE X f tx)(m:M2 X o "get" Pg e f Ph):PE X (.Call (.Attribute o "get" Pg) [e,f] [] Ph) (JF td ty tx):=by
 intro Pf s O H Q I h;refine wpAny_Call_method m.base m.few m.line gn gI PySem.F.type_dict_get (thn (ho Pf s O H _ I h) λu s1=>e4 λx H1 I1 rx ⟨a,ex,d,q1⟩=>?_);subst ex;obtain rfl:u=bi a:=rx;obtain⟨t1,t2,_⟩:=Fu I1 d;refine⟨t1,t2,?_⟩;rw[m.trees];refine dI rfl (fH (eO (thn (he Pf s1 O H1 _ I1 q1) λiv s2=>e4 λy H2 I2 ry q2 =>
  eO (thn (hf Pf s2 O H2 _ I2 q2) λfv s3=>e4 λz H3 I3 rz ⟨ov,g,q3⟩=>f9 ?_))))
 exact OT hu I3 g ry rz λw' s4 I4 P4=>⟨_,H3,I4,P4,q3⟩
def DQ(ho:PE X o td)(he:PE X e ty)(m:M1 X o "pop" Pg e Ph):PE X (.Call (.Attribute o "pop" Pg) [e] [] Ph) (NC td ty):=by intro Pf s O H Q I h;refine wpAny_Call_method m.base m.few m.line gn jQ PySem.F.type_dict_pop (thn (ho Pf s O H _ I h) λu s1=>e4 λx H1 I1 rx ⟨a,ex,d,q1⟩=>?_);subst ex;obtain rfl:u=bi a:=rx;obtain⟨t1,t2,_⟩:=Fu I1 d;refine⟨t1,t2,?_⟩;rw[m.trees];refine dI rfl (fH (eO (thn (he Pf s1 O H1 _ I1 q1) λiv s2=>e4 λy H2 I2 ry ⟨kvs,k,v,ea,ey,l,q2⟩=>f9 ?_)));subst ey;exact d_pop I2 ea ry l (.inl rfl) λw' s3 I3 P4=>⟨v,_,I3,P4,q2⟩
end
section
variable{X:Cx}{Pf:List (ak×Obj)}{O:St}{H:Hp}{s:ax}{a:ak}{kvs:List (Key×V)}{A:cA}{E:ai->ax->Prop}
end
section
variable{X:Cx}{Pf:List (ak×Obj)}{O:St}{H:Hp}{s:ax}{a:ak}{y:V}{u:ai}{A:cA}{E:ai->ax->Prop}
end
end L2
namespace Att
open PySem PySem.W PySem.Calls PyProof.Rows
def xT:∀(ns:List Int)(vs:List ai),WellAll P h vs (ns.map gz)->IntsAre vs ns:=by
 intro ns;induction ns with
 |nil =>
  intro vs w;rw[dy] at w;cases w;exact .nil
 |cons n ns ih =>
  intro vs w;rw[am] at w;cases w with
  |cons a b =>
   cases a;exact .cons _ _ (ih _ b)
def GO{l:gw}{n}(hn:l.most=Za n){P:Params}{h}{args}{RO}(Rr:l.row.toRowW.claim.pre args=true)(UZ:WellAll P h RO args) :
  ∃a vs ns,RO=[bi a]/\args=[WData.list (ns.map gz)]/\h.get? a=Za { cls:=.type "list",data:=.seq vs.toArray }/\IntsAre vs ns/\ns.length<=n:=by
 have hsh:WShape.hasAll [] args [.list .int]=true:=(pre_splitW Rr).1;have hc:l.pre.holds [] { args:=args }=true:=(pre_splitW Rr).2;obtain⟨d,r,rfl,h1,h2⟩:=hasAllW_cons hsh;obtain rfl:=hasAllW_nil h2;obtain⟨xs,rfl,h3⟩:=hasW_list h1;obtain⟨ns,rfl⟩:=items_int h3;have Pk:ns.length<=n:=by
  unfold OpenLaw.pre at hc;have h4:(WTm.not (.lt (.lit (.int (n:Int))) (.len (.arg 0)))).holds [] { args:=[.list (ns.map .int)] }=true:=by have h4:=(holds_andW hc).1;rw[hn] at h4;exact h4
  have h5:=condW_of h4 (w_not (w_lt w_lit (w_len_list (w_arg rfl))));rw[ac] at h5;refine eE λq=>?_;have q':(n:Int)<((ns.length:Nat):Int):=by lia
  first
   |(rw[Zg q'] at h5;exact absurd h5 (by decide))
   |(simp at h5;lia)
 cases UZ with
 |cons w1 w2 =>
  cases w2;cases w1 with
  |list ho Se=>exact⟨_,_,ns,rfl,rfl,ho,xT ns _ Se,Pk⟩
def GT(l:gw)(args):l.row.toRowW.claim.post args (.bool true) args=true :=
 postW_of (r:=l.row.toRowW) (X:=(true==true))
  (show WShape.has [] (.bool true) .bool=true by first|rfl|decide|simp[WShape.has,WShape.arms,WShape.armsAll])
  (show(WTm.eq .res (.lit (.bool true))).value [] { args:=args,res:=Za (.bool true),after:=args }=Za (.bool (true==true)) from w_eq_bool (w_res rfl) w_lit) rfl
section
variable{prog:aK}{w:ba}{A:cA}{E:ai->ax->Prop}{s:ax}{K:aa}
end
end Att
namespace L2
open PySem PySem.Spec PyProof.Rows
theorem AU:∀{vs:List ai}{ns:List Int},IntsAre vs ns->Vals (ns.map V.int) vs
 |_,_,.nil=>.nil
 |_,_,.cons n t h=>.cons ⟨t,rfl⟩ (AU h)
def MR(H:Hp):Prop:=∀b,H b=Zb\/∃o xs,H b=Za (.frz o (.lst xs))
def Jb{P}{w}{K}{mg mb}{CX:CXT}{k}{fa a}{fd}{x}{sp:Sp}{Ps}{vs}{ns}(KX:K.In Ps.heap)(Qr:Ps.heap.Ns a7 mg)(hb:Ps.heap.Ns jc mb)(hbb:∀x:Str,x≠"__name__"->mb x=bP x)(Va:Ps.heap.NoLimit)(hg:Ps.gens=#[])(ha:Ps.heap.get? a=Za { cls:=.type "list",data:=.seq vs.toArray })(hi:IntsAre vs ns)(hl:ns.length<=aI)(hr:Room k jo)(F:∀base:bx,K.In base->base.Ns a7 mg->FnOk P w K mg base CX k fa fd [x] sp)(Tx:∀(s:ax)(u:ai),jw s fd ⟨[u],[]⟩ [(x,u)])(Rf:∀H:Hp,MR H->SqL K H a (ns.map V.int)->sp [.ref a] H (λv _=>v=.bl true) λ_ _ _=>False)(Vw:∀H e s',CX [] H Ps (λ_ _ _=>False) e s'->False) :
  gg (model P w) jo (.call (.ref fa) ⟨[.ref a],[]⟩) (λr s'=>r=.ok (.ret (.bool true))/\OldK Ps.heap s'.heap/\s'.os=Ps.os/\gL s'.gens) Ps:=by
 have rv:=AU hi;have UQ:=hi.length;have TN:∀H:Hp,MR H->SqL K H a (ns.map V.int)->HOk P w H Ps.heap->(∀b,H b≠Zb->b=a)->(H a≠Zb->K.lookup a=Zb) ->
   gg (model P w) jo (.call (.ref fa) ⟨[.ref a],[]⟩) (λr s'=>r=.ok (.ret (.bool true))/\OldK Ps.heap s'.heap/\s'.os=Ps.os/\gL s'.gens) Ps:=by
  intro H hO hS hok hA hK;have QL:∀{b:ak}{o:Obj},Ps.heap.get? b=Za o->H b=Zb->(EZ Ps.heap H).get? b=Za o:=λe n=>Jd e n;have SW:∀{b:ak}{o:Obj}{es:Array DictEntry}{ep:Nat},Ps.heap.get? b=Za o->o.data=.dict es ep->H b=none:=λ{b o es ep} e d=>by
   cases q:H b with
   |none=>rfl
   |some u =>
    have e':b=a:=hA b (by rw[q];simp);subst e';rw[ha] at e;cases e;have d':Data.seq vs.toArray _=Data.dict es ep:=d;cases d'
  have T7:∀{b:ak}{m:Str->Option ai},Ps.heap.Ns b m->(EZ Ps.heap H).Ns b m:=λ{b m} ⟨o,es,ep,e,d,r⟩=>⟨o,es,ep,QL e (SW e d),d,r⟩;have hKb:K.In (EZ Ps.heap H):=λb o e=>QL (KX b o e) (by
   cases q:H b with
   |none=>rfl
   |some u =>
    have e':b=a:=hA b (by rw[q];simp);subst e';rw[hK (by rw[q];simp)] at e;cases e)
  have hM:Mod K mg (EZ Ps.heap H):=⟨hKb,T7 Qr,⟨mb,T7 hb,hbb⟩,let⟨mc,h1,h2⟩:=Va;⟨mc,T7 h1,h2⟩⟩;have e0:Env0 P w K mg (EZ Ps.heap H) jo [] Ps H:=⟨rfl,hM,λb o e=>LF e,kG (Ht _ _),trivial,λb hb=>absurd (show b∈([]:List ak) from hb) (by simp),hok,.of_eq hg⟩;refine jn ((F _ hKb (T7 Qr)).run jo [] Ps H ⟨[.ref a],[]⟩ [.ref a] [.ref a] _ _ hr e0 (Tx Ps (.ref a)) (.cons rfl .nil) (Rf H hO hS)) λr s' h=>?_;cases r with
  |error e=>exact(Vw H e s' h).elim
  |ok fl =>
   cases fl with
   |next=>exact bT h
   |brk=>exact bT h
   |cont=>exact bT h
   |ret u =>
    obtain⟨v,H',os,bare,un,U4,r',q⟩:=h;have q':v=.bl true:=q;subst q';obtain rfl:u=kW true:=r';refine⟨rfl,OldK.of_keep λb o e=>?_,os,bare⟩;cases q:H b with
    |none=>exact un.keep b o e q (by intro z;exact absurd (show b∈([]:List ak) from z) (by simp)) (by simp)
    |some u =>
     rcases hO b with z|⟨ob,xs,z⟩
     ·rw[q] at z;cases z
     ·have z2:=un.frzs b ob _ z;obtain⟨e1,_⟩:=hok b _ z;obtain⟨e2,_⟩:=U4 b _ z2;rw[e] at e1;cases e1;exact e2
 cases hk:K.lookup a with
 |some o =>
  have e:=KX a o hk;rw[ha] at e;cases e;refine TN (λ_=>Zb) (λ_=>.inl rfl) (.inr ⟨_,vs.toArray,_,hk,rfl,rfl,rfl,by rw[aN,UQ];exact hl,by simpa using rv⟩) (λb u z=>by have z':(Zb:Option HO)=Za u:=z;cases z') (λb z=>absurd rfl z) λz=>absurd rfl z
 |none =>
  refine TN (λb=>if b=a then Za (.frz { cls:=.type "list",data:=.seq vs.toArray } (.lst (ns.map V.int))) else Zb) (λb=>?_) (.inl (.inr ⟨{ cls:=.type "list",data:=.seq vs.toArray },Zc rfl⟩)) (λb u z=>?_) (λb z=>?_) λ_=>hk
  ·by_cases hb:b=a
   ·exact .inr ⟨_,_,Zc hb⟩
   ·exact .inl (Zd hb)
  ·by_cases hb:b=a
   ·have z':=(Zc hb).symm.trans z;cases z';subst hb;exact⟨ha,by rw[ac];exact hl,vs,_,rv,ha⟩
   ·have z':=(Zd hb).symm.trans z;cases z'
  ·by_cases hb:b=a
   ·exact hb
   ·exact absurd (Zd hb) z
def mV(s:bR)(j:Nat):bR:=match s with
 |.ClassDef _ _ _ body _ _ _ _ _ _ _=>body.getD j (.Pass ⟨0,0,0,0⟩)
 |_=>.Pass ⟨0,0,0,0⟩
def n8(s:bR):jH:=match s with
 |.FunctionDef _ a _ _ _ _ _ _ _ _=>a
 |_=>{ posonlyargs:=[],args:=[],vararg:=Zb,kwonlyargs:=[],kw_defaults:=[],kwarg:=Zb,defaults:=[] }
def nc(s:bR):List bR:=match s with
 |.FunctionDef _ _ b _ _ _ _ _ _ _=>b
 |_=>[]
def lK(s:bR):dG:=match s with
 |.FunctionDef _ _ _ _ _ _ sc _ _ _=>sc
 |_=>{ kind:=.function,names:=[],isGenerator:=false,isCoroutine:=false }
abbrev E0:XK:=λ_ _ _=>False
structure Fun(K:aa)(x qual:Str)(st:bR)(f:ak)(fd:cq):Prop where
 ex:∃(oc:ai)(od:Option ak)(kV Qo pm:ai)(an:Option ak)(Po ct:ai)(Rl:Array (Option ai)),
  fd=bX x qual (n8 st) (nc st) (lK st) .none kV Qo pm an Po ct/\K.lookup f=Za ⟨oc,od,.func fd,Rl⟩/\fR K Po qual=true
 kp:cD K (.ref f)=true
section
variable{P:aK}{w:ba}{K:aa}{mg:Str->Option ai}{base:bx}
def Fun.binds{x qual}{st}{f}{fd}{ps}(F:Fun K x qual st f fd)(h:∀(kV Qo pm:ai)(an:Option ak)(Po ct:ai)(us:List ai),us.length=ps.length->fX (bX x qual (n8 st) (nc st) (lK st) .none kV Qo pm an Po ct) ⟨us,[]⟩=pure (ps.zip us)):Binds K fd ps []:=by
 obtain⟨oc,od,kV,Qo,pm,an,Po,ct,Rl,rfl,lk,QA⟩:=F.ex;exact .all (h kV Qo pm an Po ct)
def J6{x qual}{st}{f}{oc}{od an}{Rl:Array (Option ai)}{kV Qo pm Po ct}(l:K.lookup f=Za ⟨oc,od,.func (bX x qual (n8 st) (nc st) (lK st) .none kV Qo pm an Po ct),Rl⟩)(c:fR K Po qual=true)(k:cD K (.ref f)=true):Fun K x qual st f (bX x qual (n8 st) (nc st) (lK st) .none kV Qo pm an Po ct):=⟨⟨oc,od,kV,Qo,pm,an,Po,ct,Rl,rfl,l,c⟩,k⟩
end
def nj(hr:Room k A):A.units+1<eR:=aQ (lw (by decide:1<=64) _) hr.units
section
variable{X:Cx}
def pv(i)(hN:X.N[i]?=Za x:=by rfl)(hv:Vis X.env.scope x:=by first|exact fA rfl|exact g7 (fA rfl)|exact g7 (g7 rfl))(hd:NDb x:=by decide)(QA:(x==("__classdict__":Str))=false:=by decide):PE X (.Name x pos) (HW i):=JQ hN hv hd QA
def BG:CallR X (.builtin "len") (λxs H Q=>∃a kvs,xs=[V.ref a]/\H a=Za (.dK kvs)/\Q (.int kvs.length) H):=by intro Pf s O H xs us Q I r h;obtain⟨a,kvs,rfl,ha,q⟩:=h;obtain⟨u,rfl,ru⟩:=qI r;cases ru;exact Nv I (.inl ha) λt s' I'=>⟨.int kvs.length,H,I',⟨t,rfl⟩,q⟩
end
def LX{A B:Prop}(h:B):if false=true then A else B:=by rw[Zd aY];exact h
def LW{A B:Prop}(h:A):if true=true then A else B:=by rw[Zc rfl];exact h
def uY{c A B:Prop}[Decidable c](h1:c->A)(h2:¬c->B):if c then A else B:=by
 by_cases h:c
 ·rw[Zc h];exact h1 h
 ·rw[Zd h];exact h2 h
def Same(H H':Hp):Prop:=∀b o,H b=Za o->H' b=Za o
def Same.trans(a:Same H H1)(b:Same H1 H2):Same H H2:=λc o h=>b c o (a c o h)
def Same.free(e:Same H H')(h:H' l=Option.none):H l=Option.none:=by
 cases q:H l with
 |none=>rfl
 |some o =>
  rw[e l o q] at h;cases h
def Same.seq{K}{H H'}{a}{xs}(e:Same H H')(h:SqL K H a xs):SqL K H' a xs:=by
 rcases h with(h|⟨o,h⟩)|h
 ·exact .inl (.inl (e _ _ h))
 ·exact .inl (.inr ⟨o,e _ _ h⟩)
 ·exact .inr h
section
variable{κ:Type}[DecidableEq κ]
theorem wB:∀{l:List κ}{k:κ},l.Nodup->¬k∈l->(l++[k]).Nodup
 |[],k,_,_=>by simp
 |a::r,k,h,hk=>by
  obtain⟨h1,h2⟩:=ay.mp h;show(a::(r++[k])).Nodup;refine ay.mpr ⟨λm=>?_,wB h2 λm=>hk (ah.mpr (g7 m))⟩;rcases aL.mp m with q|q
  ·exact h1 q
  ·exact hk (ah.mpr (fA (ao.mp q).symm))
end
def ff:(bM==bM)=true:=rfl
def qD(cells:List (Str×ak)):List (Str×ia)->List (Str×ak)->List (Str×ak)
 |[],cs=>cs
 |(n,k)::r,cs=>qD cells r (if k==.free then(n,(cells.lookup n).getD 0)::cs else cs)
theorem xl(env:Env):∀(names:List (Str×ia))(cs:List (Str×ak)),(∀y∈names,y.2=.free->∃c,env.cells.lookup y.1=Za c) ->
  (forIn names cs λ(x:Str×ia)(r:List (Str×ak))=>match x with
   |(name,kind)=>if(kind==.free)=true then(do let c <-cellOf env name;pure (eC ((name,c)::r))) else pure (eC r):Sem (List (Str×ak)))=pure (qD env.cells names cs)
 |[],cs,_=>rfl
 |(n,k)::r,cs,h=>by
  rw[List.forIn_cons];by_cases hk:k=.free
  ·subst hk;obtain⟨c,hc⟩:=h (n,.free) ag rfl;have hc:env.cells.lookup n=Za c:=hc;have ih:=xl env r ((n,c)::cs) λy hy=>h y (ae _ hy);have e1:qD env.cells ((n,bM)::r) cs=qD env.cells r ((n,c)::cs):=by
    show qD env.cells r (if(bM==bM)=true then(n,(env.cells.lookup n).getD 0)::cs else cs)=_;rw[Zc ff,hc]
    all_goals rfl
   rw[e1,<-ih];have e2:cellOf env n=pure c:=by unfold cellOf;rw[hc]
   simp only[beq_self_eq_true,if_true,e2];rfl
  ·have hb:(k==bM)=false:=by simpa using hk
   have ih:=xl env r cs λy hy=>h y (ae _ hy);have e1:qD env.cells ((n,k)::r) cs=qD env.cells r cs:=by show qD env.cells r (if(k==bM)=true then(n,(env.cells.lookup n).getD 0)::cs else cs)=_;rw[hb,Zd aY]
   rw[e1,<-ih];simp only[hb];rfl
def pC(h:∀y∈scope.names,y.2=.free->∃c,env.cells.lookup y.1=Za c):closureFor scope env=pure (qD env.cells scope.names []):=by have e:=xl env scope.names [] h;unfold closureFor;refine Eq.trans ?_ (congrArg (λm:Sem (List (Str×ak))=>m >>= pure) e);rfl
theorem Ee:∀(names:List (Str×ia))(cs:List (Str×ak)),(∀z∈names,z.2=.free->∃c,cells.lookup z.1=Za c)->(∀z d,cs.lookup z=Za d->cells.lookup z=Za d) ->
  (qD cells names cs).lookup y=Za c->cells.lookup y=Za c
 |[],cs,_,Sb,h=>Sb y c h
 |(n,k)::r,cs,hf,Sb,h=>by
  refine Ee r _ (λz hz=>hf z (ae _ hz)) ?_ h;by_cases hk:k=.free
  ·subst hk;obtain⟨d,hd⟩:=hf (n,.free) ag rfl;have hd:cells.lookup n=Za d:=hd;intro z d' hz;rw[Zc ff,hd] at hz;by_cases e:z=n
   ·subst e;rw[bJ] at hz;simp only[beq_self_eq_true] at hz;rw[hd];exact hz
   ·have hb:(z==n)=false:=by simpa using e
    rw[bJ] at hz;simp only[hb] at hz;exact Sb z d' hz
  ·have hb:(k==bM)=false:=by simpa using hk
   rw[hb,Zd aY];exact Sb
theorem zw:∀(names:List (Str×ia))(cs:List (Str×ak)),(cs.lookup y).isSome=true->((qD cells names cs).lookup y).isSome=true
 |[],cs,h=>h
 |(n,k)::r,cs,h=>by
  refine zw r _ ?_;by_cases hk:(k==bM)=true
  ·rw[Zc hk,bJ];cases z:(y==n)
   ·exact h
   ·rfl
  ·rw[Zd hk];exact h
theorem BF:∀(names:List (Str×ia))(cs:List (Str×ak)),(y,bM)∈names->((qD cells names cs).lookup y).isSome=true
 |(n,k)::r,cs,h=>by
  rcases ah.mp h with e|e
  ·cases e;refine zw r _ ?_;rw[Zc ff,bJ];simp
  ·exact BF r _ e
def blk(X:Cx)(scope:dG)(cl:List (Str×ak))(C:ak)(Nb:List Str)(Pl:ax)(Pm:Hp)(fp:List ak):Cx where
 prog:=X.prog
 w:=X.w
 K:=X.K
 mg:=X.mg
 base:=X.base
 A:=X.A
 N:=Nb
 sa0:=Pl
 Ha0:=Pm
 env:=compEnvC scope cl C X.env
 outer:=X.stack
 stack:=X.stack
 ex:=fp
 fn:=λ_=>false
 calm:=true
 pn:=[]
 xe:=λ_ _=>False
structure CompOk(N:List Str)(TK:dG)(scope:dG)(x:Str)(fr:List Str)(ix:List Nat):Prop where
 kind:scope.kind=.function
 cell:∀y∈scope.names,y.2≠.cell
 loc:scope.names.lookup x=Za .local
 nm:∀y∈scope.names,y.2=.local->scope.names.lookup y.1=Za .local
 free:∀y∈scope.names,y.2=.free->TK.names.lookup y.1=Za .cell
 nd:(x::fr).Nodup
 idx:∀p∈fr.zip ix,N[p.2]?=Za p.1
 frs:∀y∈fr,scope.names.lookup y=Za .free/\TK.names.lookup y=Za .cell
 len:ix.length=fr.length
def cok{N:List Str}{e c:dG}{x:Str}{fr:List Str}{ix:List Nat}(h1:c.kind=.function:=by rfl)(h2:∀y∈c.names,y.2≠.cell:=by decide +kernel)(h3:c.names.lookup x=Za .local:=by rfl)(h4:∀y∈c.names,y.2=.local->c.names.lookup y.1=Za .local:=by decide +kernel)(h5:∀y∈c.names,y.2=.free->e.names.lookup y.1=Za .cell:=by decide +kernel)(h6:(x::fr).Nodup:=by decide +kernel)(h7:∀p∈fr.zip ix,N[p.2]?=Za p.1:=by decide +kernel)(h8:∀y∈fr,c.names.lookup y=Za .free/\e.names.lookup y=Za .cell:=by decide +kernel)(h9:ix.length=fr.length:=by rfl):CompOk N e c x fr ix:=⟨h1,h2,h3,h4,h5,h6,h7,h8,h9⟩
def Pb{X:Cx}{N ps:List Str}{e c:dG}{x:Str}{fr:List Str}{ix:List Nat}(S:FnScope N ps e)(h0:X.N=N:=by rfl)(Vy:X.env.scope=e:=by rfl)(h1:c.kind=.function:=by rfl)(h2:∀y∈c.names,y.2≠.cell:=by decide +kernel)(h3:c.names.lookup x=Za .local:=by rfl)(h4:∀y∈c.names,y.2=.local->c.names.lookup y.1=Za .local:=by decide +kernel)(h5:∀y∈c.names,y.2=.free->e.names.lookup y.1=Za .cell:=by decide +kernel)(h6:(x::fr).Nodup:=by decide +kernel)(h7:∀p∈fr.zip ix,N[p.2]?=Za p.1:=by decide +kernel)(h8:∀y∈fr,c.names.lookup y=Za .free/\e.names.lookup y=Za .cell:=by decide +kernel)(h9:ix.length=fr.length:=by rfl):CompOk X.N X.env.scope c x fr ix:=by rw[h0,Vy];exact⟨h1,h2,h3,h4,h5,h6,h7,h8,h9⟩
def capt(ix:List Nat)(O:St):St:=ix.map λi=>(O[i]?).getD Zb
def Ff(X:Cx)(PD:List bo)(t:TT):Prop :=
 ∀(Pf:List (ak×Obj))(s:ax)(O:St)(H:Hp)(Q:Bool->Hp->Prop),Inv X Pf O H s->t O H Q ->
  aS (model X.prog X.w) X.A (forIn PD true λc r=>if r=true then do let ok <-isTrue c X.env (eval c X.env);pure (eC ok) else pure (eC r)) (TP X Pf O Q) X.xe s
def tYes:TT:=λ_ H Q=>Q true H
def zM:Ff X [] tYes:=λPf s O H Q I h=>aM ⟨H,I,h⟩
def Iz(h:PT X c t):Ff X [c] t:=by intro Pf s O H Q I hq;rw[List.forIn_cons];refine aq ?_;rw[Zc rfl];refine aq (thn (h Pf s O H Q I hq) λb s1 h1=>aM ?_);show aS _ _ (forIn [] b _) _ _ _;rw[List.forIn_nil];exact aM h1
def CompB(J:It)(tc:TT)(te:TE)(cap:St)(D:ak)(H1:Hp)(Q:VK):Prop :=
 ∃Pv:Nat->Nat->List V->Hp->Prop,(∃m,Pv 0 m [] (upd H1 D (.lst [])))/\∀i m ys H2,Pv i m ys H2 ->
  (J.stop i H2/\H2 D=Za (.lst ys)/\Q (.ref D) H2)\/(J.go i H2/\∀x H3,J.yld i H2 x H3->tc (Za x::cap) H3 λb H4=>if b=true then
   te (Za x::cap) H4 λv H5=>H5 D=Za (.lst ys)/\ys.length<aI/\∃m',m'<m/\Pv (i+1) m' (ys++[v]) (upd H5 D (.lst (ys++[v])))
   else ∃m',m'<m/\Pv (i+1) m' ys H4)
def HL(wi:TI)(ix:List Nat)(tc:TT)(te:TE):TE:=λO H Q=>wi O H λJ H1=>∀D,H1 D=Zb->CompB J tc te (capt ix O) D H1 Q
section
variable{X:Cx}{PF iter:bo}{PD:List bo}{x:Str}{px pos:Pos}{scope:dG}{wi:TI}{tc:TT}{te:TE}{fr:List Str}{ix:List Nat}
theorem pX{env:Env}(hk:env.scope.kind=.function):∀{names:List (Str×ia)}{y:Str},names.lookup y=Za .free->env.scope.names.lookup y=Za .cell ->
  (names.map λ(n,k)=>if(k==bM&&env.scope.kind==.function&&env.kindOf n==Za .cell) then(n,hJ) else(n,k)).lookup y=Za .cell
 |[],_,h,_=>by simp at h
 |(n,k)::r,y,h,hc=>by
  have ih:=@pX env hk r y;show cZ y ((if(k==bM&&env.scope.kind==.function&&env.kindOf n==Za .cell)=true then(n,hJ) else(n,k))::_)=_;cases hx:y==n with
  |true =>
   simp only[bJ,hx] at h;cases h;have e:y=n:=by simpa using hx
   subst e;have e2:env.kindOf y=Za .cell:=hc;rw[Zc (by rw[hk,e2];rfl),bJ];simp
  |false =>
   simp only[bJ,hx] at h;split
   ·simp only[bJ,hx];exact ih h hc
   ·simp only[bJ,hx];exact ih h hc
def Js{ix:List Nat}{O:St}{k:Nat}{v:V}(h:(capt ix O)[k]?=Za (Za v)):∃i,ix[k]?=Za i/\O[i]?=Za (Za v):=by
 unfold capt at h;rw[aC] at h;cases e:ix[k]? with
 |none=>rw[e] at h;cases h
 |some i =>
  rw[e] at h;refine⟨i,rfl,?_⟩;have h2:(O[i]?).getD Zb=Za v:=aO h;cases q:O[i]? with
  |none=>rw[q] at h2;cases h2
  |some o=>rw[q] at h2;exact congrArg Za h2
def Nz(X:Cx)(Pf:List (ak×Obj))(C:ak):Prop:=C≠X.env.locals/\X.sa0.heap.objs.size<=C/\(∀y c,X.env.cells.lookup y=Za c->c≠C)/\∀p∈X.pn++Pf,p.1≠C
end
section
variable{prog:aK}{w:ba}{A:cA}{R:Result->ax->Prop}{s:ax}
def Fb(I:Nat->ax->Prop)(Qv:∀n s,I n s->aS (model prog w) A (pyNext it) (λr Ps=>match r with
   |none=>R (.ok .next) Ps
   |some v=>aS (model prog w) A (iB Qa it v) (λ_ sa0=>aS (model prog w) A (assign Qa env v) (λ_ Qy =>
     aS (model prog w) A (forIn PD true λc r=>if r=true then do let ok <-isTrue c env (eval c env);pure (eC ok) else pure (eC r)) (λok Pl =>
      if ok=true then aS (model prog w) A (eval PF env) (λx Sl =>
       aS (model prog w) A (call (.builtin "list.append") [Pq,x]) (λ_ sa5=>∃m,m<n/\I m sa5) (jZ (model prog w) A env λe s'=>R (.error e) s') Sl) (jZ (model prog w) A env λe s'=>R (.error e) s') Pl
      else ∃m,m<n/\I m Pl) (jZ (model prog w) A env λe s'=>R (.error e) s') Qy) (jZ (model prog w) A env λe s'=>R (.error e) s') sa0) (jZ (model prog w) A env λe s'=>R (.error e) s') Ps) (jZ (model prog w) A env λe s'=>R (.error e) s') s)(n:Nat)(h:I n s) :
  gg (model prog w) A (.compLoop (.ListComp PF [⟨Qa,iter,PD,0⟩] scope pos) 0 it Pq env) R s:=by
 refine codeAny_loop rfl I (λn s hI=>?_) n h;show aS _ A ((compTurn (.ListComp PF [⟨Qa,iter,PD,0⟩] scope pos) 0 it Pq env).onRaise (λx=>do noteFrame x env;theTreesLotGoes x)) _ _ s;refine wpAny_noted ?_;rw[compTurn_list];refine aq (fU (aq (bN (Qv n s hI) (λr Ps TD=>?_) λ_ _ h'=>h')));cases r with
 |none=>exact aM TD
 |some v =>
  refine aq (bN TD (λ_ sa0 h₀=>?_) λ_ _ h'=>h');refine aq (bN h₀ (λ_ Qy TC=>aq (bN TC (λok Pl SA=>?_) λ_ _ h'=>h')) λ_ _ h'=>h');cases ok with
  |false=>exact aM ⟨rfl,SA⟩
  |true =>
   exact aq (aq (bN SA (λx Sl ha4=>aq (bN ha4 (λ_ sa5 hb5=>aM (aM ⟨rfl,hb5⟩)) λ_ _ h'=>h')) λ_ _ h'=>h'))
end
structure CompOkG(N:List Str)(TK:dG)(scope:dG)(xs fr:List Str)(ix:List Nat):Prop where
 kind:scope.kind=.function
 cell:∀y∈scope.names,y.2≠.cell
 nm:∀y∈scope.names,y.2=.local->scope.names.lookup y.1=Za .local
 free:∀y∈scope.names,y.2=.free->TK.names.lookup y.1=Za .cell
 nd:(xs++fr).Nodup
 idx:∀p∈fr.zip ix,N[p.2]?=Za p.1
 frs:∀y∈fr,scope.names.lookup y=Za .free/\TK.names.lookup y=Za .cell
 len:ix.length=fr.length
def cokG{X:Cx}{N ps:List Str}{e c:dG}{xs fr:List Str}{ix:List Nat}(S:FnScope N ps e)(h0:X.N=N:=by rfl)(Vy:X.env.scope=e:=by rfl)(h1:c.kind=.function:=by rfl)(h2:∀y∈c.names,y.2≠.cell:=by decide +kernel)(h4:∀y∈c.names,y.2=.local->c.names.lookup y.1=Za .local:=by decide +kernel)(h5:∀y∈c.names,y.2=.free->e.names.lookup y.1=Za .cell:=by decide +kernel)(h6:(xs++fr).Nodup:=by decide +kernel)(h7:∀p∈fr.zip ix,N[p.2]?=Za p.1:=by decide +kernel)(h8:∀y∈fr,c.names.lookup y=Za .free/\e.names.lookup y=Za .cell:=by decide +kernel)(h9:ix.length=fr.length:=by rfl):CompOkG X.N X.env.scope c xs fr ix:=by rw[h0,Vy];exact⟨h1,h2,h4,h5,h6,h7,h8,h9⟩
def C8(J:It)(gt:TG)(k:Nat)(tc:TT)(te:TE)(cap:St)(D:ak)(H1:Hp)(Q:VK):Prop :=
 ∃Pv:Nat->Nat->List V->St->Hp->Prop,(∃m,Pv 0 m [] (aR k Zb++cap) (upd H1 D (.lst [])))/\∀i m ys σ2 H2,Pv i m ys σ2 H2 ->
  (J.stop i H2/\H2 D=Za (.lst ys)/\Q (.ref D) H2)\/(J.go i H2/\∀x H3,J.yld i H2 x H3->gt x σ2 H3 λσ3 H3'=>tc σ3 H3' λb H4=>if b=true then
   te σ3 H4 λv H5=>H5 D=Za (.lst ys)/\ys.length<aI/\∃m',m'<m/\Pv (i+1) m' (ys++[v]) σ3 (upd H5 D (.lst (ys++[v])))
   else ∃m',m'<m/\Pv (i+1) m' ys σ3 H4)
def Fh(wi:TI)(ix:List Nat)(gt:TG)(k:Nat)(tc:TT)(te:TE):TE:=λO H Q=>wi O H λJ H1=>∀D,H1 D=Zb->C8 J gt k tc te (capt ix O) D H1 Q
section
variable{X:Cx}{PF iter tg:bo}{PD:List bo}{pos:Pos}{scope:dG}{wi:TI}{tc:TT}{te:TE}{gt:TG}{xs fr:List Str}{ix:List Nat}
def vz{PR:ai->ak->Result->ax->Prop}{Pf:List (ak×Obj)}{O:St}{H2:Hp}{s2:ax}{it:ak}{fp:List ak}{tn:Nat->bx->Prop}{J:It}{Q:VK}(hc:X.calm=true)(S:CompOkG X.N X.env.scope scope xs fr ix)(hg:∀cl C Pl Pm fp,PG (blk X scope cl C (xs++fr) Pl Pm fp) tg gt)(ht:∀cl C Pl Pm fp,Ff (blk X scope cl C (xs++fr) Pl Pm fp) PD tc)(he:∀cl C Pl Pm fp,PE (blk X scope cl C (xs++fr) Pl Pm fp) PF te)(Pn:∀y∈scope.names,y.2=.free->∃c,X.env.cells.lookup y.1=Za c)(I2:Inv X Pf O H2 s2)(T:Turn X.prog X.w X.K tg J fp it tn)(Qf:tn 0 s2.heap)(f2:∀b∈fp,zC X Pf H2 b)(q2:∀D,H2 D=Zb->C8 J gt xs.length tc te (capt ix O) D H2 Q)(R9:∀D C H' s',Inv X Pf O H' s'->H' C=Zb->Nz X Pf C->(∃m,s'.heap.Ns C m)->Q (.ref D) H'->PR (.ref D) C (.ok .next) s') :
  aS (model X.prog X.w) X.A (newList []) (λPq Pl=>aS (model X.prog X.w) X.A (newFunctionEnv scope X.env.globals (qD X.env.cells scope.names []) [] X.env.qual Zb .none (Za X.env)) (λRb Sl =>
   gg (model X.prog X.w) X.A (.compStart (.ListComp PF [⟨tg,iter,PD,0⟩] scope pos) 0 (.ref it) Pq { Rb with scope:=relabel scope X.env }) (PR Pq Rb.locals) Sl) X.xe Pl) X.xe s2:=by
 refine eA ?_;have hD:H2 s2.heap.objs.size=none:=I2.hok.fresh (ap _);have I3:Inv X Pf O (upd H2 s2.heap.objs.size (.lst [])) { s2 with heap:=s2.heap.push { cls:=.type "list",dict:=Zb,data:=.seq ([]:List ai).toArray } } :=
  I2.lnew (its:=[]) (t':=s2.toks) (.nil) (aZ _)
 obtain⟨Pv,⟨m0,p0⟩,Qv⟩:=q2 s2.heap.objs.size hD;generalize hD':s2.heap.objs.size=D at *;generalize hs3:({ s2 with heap:=s2.heap.push { cls:=.type "list",dict:=Zb,data:=.seq ([]:List ai).toArray } }:ax)=s3 at *;have Tp:∀b o,s2.heap.get? b=Za o->s3.heap.get? b=Za o:=λb o e=>by rw[<-hs3];exact ar _ e
 have hH3:∀b,b≠D->(upd H2 D (.lst [])) b=H2 b:=λb hb=>lG hb;have f3:∀b∈fp,zC X Pf (upd H2 D (.lst [])) b/\b<s3.heap.objs.size:=λb hb=>by obtain⟨o,e,_⟩:=T.obj _ _ Qf b hb;have Pt:=az e;refine⟨⟨?_,(f2 b hb).2⟩,az (Tp b o e)⟩;rw[hH3 b (by rw[<-hD'];exact aF Pt)];exact(f2 b hb).1
 have SK:tn 0 s3.heap:=T.keep _ _ _ Qf λb hb o e=>Tp b o e;refine wpAny_newFunctionEnv S.cell (by intro y hy;simp at hy) (λh4 U6 U2=>?_) S.kind;generalize hC:s3.heap.objs.size=C at *;let X':Cx:=blk X scope (qD X.env.cells scope.names []) C (xs++fr) s3 (upd H2 D (.lst [])) fp;have QB:∀y c,(qD X.env.cells scope.names []).lookup y=Za c->X.env.cells.lookup y=Za c:=λy c e=>Ee scope.names [] Pn (λz d hz=>by simp at hz) e;have Ra:∀y,(y,bM)∈scope.names->∃c,(qD X.env.cells scope.names []).lookup y=Za c:=λy hy=>du.mp (BF scope.names [] hy);have Sq:∀b o,s3.heap.get? b=Za o->h4.get? b=Za o:=λb o e=>U2.extBut b o (by rw[<-hC];exact aF (az e)) (ar _ e);have QG:∀(l:List (Str×ia)) y k,(l.map λ(n,k)=>if(k==bM&&X.env.scope.kind==.function&&X.env.kindOf n==Za .cell) then(n,hJ) else(n,k)).lookup y=Za k->(k=.cell\/k=.free) ->
   (∀z∈l,z.2≠.cell)->(y,bM)∈l:=by
  intro l;induction l with
  |nil=>intro y k e _ _;simp at e
  |cons z r ih =>
   intro y k e hk hn;obtain⟨n,kz⟩:=z;rw[am] at e;by_cases hy:y=n
   ·subst hy;have:kz=.free:=by
     by_cases hkz:kz=.free
     ·exact hkz
     ·exfalso;have hb:(kz==bM)=false:=by simpa using hkz
      simp only[hb,fk,Bool.false_eq_true,if_false,bJ,beq_self_eq_true] at e;have e':kz=k:=aO e;rcases hk with z|z
      ·exact hn (y,kz) ag (e'.trans z)
      ·exact hkz (e'.trans z)
    rw[this];exact ag
   ·have hb:(y==n)=false:=by simpa using hy
    refine ae _ (ih y k ?_ hk λz hz=>hn z (ae _ hz));have e:cZ y ((if(kz==bM&&X.env.scope.kind==.function&&X.env.kindOf n==Za .cell)=true then(n,hJ) else(n,kz))::_)=Za k:=e;by_cases hq:(kz==bM&&X.env.scope.kind==.function&&X.env.kindOf n==Za .cell)=true
    ·rw[Zc hq,bJ] at e;simp only[hb] at e;exact e
    ·rw[Zd hq,bJ] at e;simp only[hb] at e;exact e
 have ok':X'.Ok:=by
  refine⟨I3.ok.mod,S.kind,I3.ok.glob,I3.ok.blt,?_,λy z c e1 e2=>I3.ok.inj y z c (QB y c e1) (QB z c e2),λy hy=>?_,λy c e _=>(by cases e),λ_=>I3.ok.hd hc,I3.ok.frames,.inl rfl,λb hb=>⟨?_,λy c e=>(f3 b hb).1.2.2.2.2.1 y c (QB y c e)⟩,I3.bs,aH I3.ok.bsz I3.sz,λb o e hb=>?_,λb hb z=>?_,I3.stack,I3.stkFree⟩
  ·show s3.heap.objs.size<=C;rw[hC];exact ap _
  ·rcases hy with hy|hy
   ·exact Ra y (QG scope.names y _ hy (.inl rfl) S.cell)
   ·exact Ra y (QG scope.names y _ hy (.inr rfl) S.cell)
  ·exact aF (f3 b hb).2
  ·rcases(f3 b hb).1.2.2.2.1 with z|z
   ·exact I3.ok.noex b o e z
   ·exact absurd (aA (az e) (aH I3.ok.bsz z)) (dP _)
  ·rcases ah.mp (I3.stkSub b z) with z|z
   ·exact(f3 b hb).1.2.1 z
   ·exact(f3 b hb).1.2.2.1 z
 have Ry:∀{h':bx}{m:Str->Option ai},(∀b o,s3.heap.get? b=Za o->(∃v,o.data=.cell v)->h'.get? b=Za o)->∀(k:Nat)(y:Str)(v:V),fr[k]?=Za y->(capt ix O)[k]?=Za (Za v)->∃u,RelV v u/\Look X'.env h' m y u:=by
  intro h' m hkc k y v hy hv;obtain⟨i,hix,hσ⟩:=Js hv;have UW:(y,i)∈fr.zip ix:=by refine dw (i:=k) ?_;rw[List.getElem?_zip_eq_some];exact⟨hy,hix⟩
  have hN:X.N[i]?=Za y:=S.idx (y,i) UW;obtain⟨hfr,P7⟩:=S.frs y (dw hy);obtain⟨m3,hn3,hl3⟩:=I3.loc;obtain⟨u,ru,l⟩:=hl3 i y v hN hσ (.inr (.inl P7));refine⟨u,ru,?_⟩;rcases l with⟨kd,_⟩|⟨_,c,ec,ic⟩
  ·have kd:X.env.scope.names.lookup y=Za .local:=kd;rw[P7] at kd;cases kd
  ·refine .inr ⟨.inl (pX I3.ok.kind hfr P7),c,?_,?_⟩
   ·obtain⟨c',e'⟩:=Ra y (dC hfr);have:=QB y c' e';rw[ec] at this;cases this;exact e'
   ·obtain⟨o,ho,hd⟩:=ic;exact⟨o,hkc c o ho ⟨_,hd⟩,hd⟩
 have hNd:X'.N.Nodup:=S.nd;have UP:(aR xs.length Zb++capt ix O).length=X'.N.length:=by show _=(xs++fr).length;unfold capt;rw[aJ,aJ,dR,ac,S.len]
 have I4:Inv X' [] (aR xs.length Zb++capt ix O) (upd H2 D (.lst [])) { s3 with heap:=h4,toks:=s3.toks+([]:List (Str×ai)).length }:=by
  refine⟨ok',rfl,I3.bare,Un.kept Sq,⟨_,U6,λk y v e1 e2 e3=>?_⟩,λy c e=>?_,?_,λy c e=>I3.freeC y c (QB y c e),λp hp=>?_,I3.hok.kept Sq,UP⟩
  ·have e1:(xs++fr)[k]?=Za y:=e1;by_cases hk:k<xs.length
   ·rw[dk (by rw[dR];exact hk),gE,Zc hk] at e2;cases e2
   ·have hk:xs.length<=k:=eE hk;rw[cG hk] at e1;rw[cG (by rw[dR];exact hk),dR] at e2;exact Ry (λb o e _=>Sq b o e) (k-xs.length) y v e1 e2
  ·obtain⟨v,o,ho,hd⟩:=I3.cell y c (QB y c e);exact⟨v,o,Sq c o ho,hd⟩
  ·exact I3.hok.fresh (by show s3.heap.objs.size<=C;rw[hC];exact ap _)
  ·exact absurd (show p∈([]:List (ak×Obj)) from hp) (by simp)
 have Qx:∀{H':Hp}{b:ak},b∈fp->H' b=Zb->zC X' [] H' b:=λ{H' b} hb hn=>by
  refine⟨hn,?_,?_,.inl hb,λy c e=>(f3 b hb).1.2.2.2.2.1 y c (QB y c e),λp hp=>absurd (show p∈([]:List (ak×Obj)) from hp) (by simp)⟩
  ·exact aF (f3 b hb).2
  ·intro z;rcases ah.mp (I3.stkSub b z) with z|z
   ·exact(f3 b hb).1.2.1 z
   ·exact(f3 b hb).1.2.2.1 z
 have QZ:∀b∈fp,(b∈X.ex\/X.sa0.heap.objs.size<=b)/\b≠X.env.locals/\(∀y c,X.env.cells.lookup y=Za c->c≠b)/\∀p∈X.pn++Pf,p.1≠b:=λb hb =>
  ⟨(f3 b hb).1.2.2.2.1,(f3 b hb).1.2.1,(f3 b hb).1.2.2.2.2.1,(f3 b hb).1.2.2.2.2.2⟩
 have PX:∀{σ':St}{H':Hp}{s':ax},Inv X' [] σ' H' s'->Q (.ref D) H'->PR (.ref D) C (.ok .next) s':=λ{σ' H' s'} I' q'=>by
  obtain⟨m',Q4,_⟩:=I'.loc;have J:=I3.call' (s':=s') (ch:=fp) I'.os I'.base I'.hok I'.bare QZ;refine R9 D C H' s' J I'.free ⟨?_,?_,λy c e=>?_,λp hp=>?_⟩ ⟨m',Q4⟩ q'
  ·rw[<-hC];exact fY I3.lt
  ·rw[<-hC];exact I3.sz
  ·obtain⟨v,z⟩:=I3.cell y c e;rw[<-hC];exact aF z.lt
  ·rw[<-hC];exact aF (az (I3.pin p hp).1)
 have loop:gg (model X.prog X.w) X.A (.compLoop (.ListComp PF [⟨tg,iter,PD,0⟩] scope pos) 0 (.ref it) (.ref D) X'.env) (PR (.ref D) C) { s3 with heap:=h4,toks:=s3.toks+([]:List (Str×ai)).length }:=by
  refine Fb (λn s'=>∃i ys σ5 H',Inv X' [] σ5 H' s'/\tn i s'.heap/\(∀b∈fp,H' b=Zb)/\Pv i n ys σ5 H') ?_ m0 ⟨0,[],_,_,I4,T.keep _ _ _ SK λb hb o e=>Sq b o e,λb hb=>(f3 b hb).1.1,p0⟩
  rintro n s5 ⟨i,ys,σ5,H5,I5,st5,fr5,p5⟩
  rcases Qv i n ys σ5 H5 p5 with⟨stop,hd5,qn⟩|⟨go,step⟩
  ·refine bN (T.done X' rfl rfl rfl rfl i [] s5 _ H5 (λ_ _=>False) I5 (λb hb=>Qx hb (fr5 b hb)) st5 stop) (λr s6 ⟨hr,I6⟩=>?_) λ_ _ z=>bT z;subst hr;exact PX I6 qn
  ·refine bN (T.item X' rfl rfl rfl rfl i [] s5 _ H5 (λ_ _=>False) I5 (λb hb=>Qx hb (fr5 b hb)) st5 go) (λr s6 ⟨u,hr,h6⟩=>?_) λ_ _ z=>bT z;subst hr;dsimp only;refine bN h6 (λ_ s6' h6'=>?_) λ_ _ z=>bT z;obtain⟨xv,H6,I6,r6,y6,UA,fr6⟩:=h6';have I6':=I6.pinned (λb hb=>Qx hb (fr6 b hb)) (T.obj _ _ UA);refine bN (hg _ _ _ _ _ _ s6' _ H6 xv u _ I6' r6 (step xv H6 y6)) (λ_ s7 h7=>?_) λ_ _ z=>bT z;obtain⟨σ7,H7,I7,q7⟩:=h7;refine bN (ht _ _ _ _ _ _ s7 _ H7 _ I7 q7) (λb s8=>e3 λH8 I8 q8=>?_) λ_ _ z=>bT z;have back:∀{H9:Hp}{s9:ax}{SH:List V},Inv X' ([]++Al fp s6'.heap) σ7 H9 s9->(∃m',m'<n/\Pv (i+1) m' SH σ7 H9) ->
     ∃m,m<n/\∃i ys σ5 H',Inv X' [] σ5 H' s9/\tn i s9.heap/\(∀b∈fp,H' b=Zb)/\Pv i m ys σ5 H':=λ{H9 s9 SH} I9 h9=>by
    obtain⟨m',hm,p9⟩:=h9;refine⟨m',hm,i+1,SH,_,H9,I9.unpinned,T.keep _ _ _ UA λb hb o e=>(I9.pin (b,o) (aG _ (aG _ (sN hb e)))).1,λb hb=>?_,p9⟩;obtain⟨o,e,d⟩:=T.obj _ _ UA b hb;exact(I9.pin (b,o) (aG _ (aG _ (sN hb e)))).2.1
   cases b with
   |false =>
    rw[Zd aY] at q8 ⊢;exact back I8 q8
   |true =>
    rw[Zc rfl] at q8 ⊢;refine bN (he _ _ _ _ _ _ s8 _ H8 _ I8 q8) (λw9 s9=>e4 λv9 H9 I9 r9 ⟨hd9,hz9,q9⟩=>?_) λ_ _ z=>bT z;refine bN (Bl (X:=X') _ s9 _ H9 (.ref D) [v9] (.ref D) [w9] (λ_ H'=>H'=upd H9 D (.lst (ys++[v9]))) I9 rfl (.cons r9 .nil) ⟨D,ys,v9,rfl,rfl,hd9,hz9,rfl⟩) (λ_ s10 h10=>?_) λ_ _ z=>bT z;obtain⟨_,H10,I10,_,rfl⟩:=h10;exact back I10 q9
 exact codeAny_compStart_list loop (T.self _ 0 _ _ _ (T.keep _ _ _ SK λb hb o e=>Sq b o e) loop)
end
section
variable{X:Cx}{PF iter:bo}{PD:List bo}{x:Str}{px pos:Pos}{scope:dG}{wi:TI}{tc:TT}{te:TE}{fr:List Str}{ix:List Nat}
theorem CompB.g(h:CompB J tc te cap D H1 Q):C8 J (E5 0) 1 tc te cap D H1 Q:=by obtain⟨Pv,⟨m,p⟩,h⟩:=h;refine⟨λi m ys σ2 H2=>Pv i m ys H2/\∃o,σ2=o::cap,⟨m,p,Zb,rfl⟩,λi m ys σ2 H2 ⟨p,o,e⟩=>?_⟩;subst e;refine(h i m ys H2 p).imp id λ⟨g,h⟩=>⟨g,λx H3 y=>?_⟩;have h:=h x H3 y;have e:(∃o,(Za x::cap:St)=o::cap)=True:=eq_true ⟨_,rfl⟩;show tc (Za x::cap) H3 _;simpa only[List.set_cons_zero,e,and_true] using h
def BC{PR:ai->ak->Result->ax->Prop}{Pf:List (ak×Obj)}{O:St}{H2:Hp}{s2:ax}{it:ak}{fp:List ak}{tn:Nat->bx->Prop}{J:It}{Q:VK}(hc:X.calm=true)(S:CompOk X.N X.env.scope scope x fr ix)(ht:∀cl C Pl Pm fp,Ff (blk X scope cl C (x::fr) Pl Pm fp) PD tc)(he:∀cl C Pl Pm fp,PE (blk X scope cl C (x::fr) Pl Pm fp) PF te)(Pn:∀y∈scope.names,y.2=.free->∃c,X.env.cells.lookup y.1=Za c)(I2:Inv X Pf O H2 s2)(T:Turn X.prog X.w X.K (.Name x px) J fp it tn)(Qf:tn 0 s2.heap)(f2:∀b∈fp,zC X Pf H2 b)(q2:∀D,H2 D=Zb->CompB J tc te (capt ix O) D H2 Q)(R9:∀D C H' s',Inv X Pf O H' s'->H' C=Zb->Nz X Pf C->(∃m,s'.heap.Ns C m)->Q (.ref D) H'->PR (.ref D) C (.ok .next) s') :
  aS (model X.prog X.w) X.A (newList []) (λPq Pl=>aS (model X.prog X.w) X.A (newFunctionEnv scope X.env.globals (qD X.env.cells scope.names []) [] X.env.qual Zb .none (Za X.env)) (λRb Sl =>
   gg (model X.prog X.w) X.A (.compStart (.ListComp PF [⟨.Name x px,iter,PD,0⟩] scope pos) 0 (.ref it) Pq { Rb with scope:=relabel scope X.env }) (PR Pq Rb.locals) Sl) X.xe Pl) X.xe s2 :=
 vz (xs:=[x]) hc ⟨S.kind,S.cell,S.nm,S.free,S.nd,S.idx,S.frs,S.len⟩ (λcl C Pl Pm fp=>FU (i:=0) S.nd rfl (.inl (dD S.loc)) (.inr (dD S.loc))) ht he Pn I2 T Qf f2 (λD hD=>(q2 D hD).g) R9
def Cu(hc:X.calm=true)(S:CompOk X.N X.env.scope scope x fr ix)(hi:PI X (.Name x px) iter wi)(ht:∀cl C Pl Pm fp,Ff (blk X scope cl C (x::fr) Pl Pm fp) PD tc)(he:∀cl C Pl Pm fp,PE (blk X scope cl C (x::fr) Pl Pm fp) PF te)(hs:∀v,b6 iter X.env v=pure v:=by intro _;rfl):PE X (.ListComp PF [⟨.Name x px,iter,PD,0⟩] scope pos) (HL wi ix tc te):=by
 intro Pf s O H Q I h;have Pn:∀y∈scope.names,y.2=.free->∃c,X.env.cells.lookup y.1=Za c:=λy hy hf=>I.ok.has y.1 (.inl (S.free y hy hf));rw[eval_ListComp];refine fc (use:=Zb) rfl hs (pC Pn) S.kind S.nm (thn (hi Pf s O H _ I h) λv s1 h1=>thn h1 λSr s2 h2=>?_);obtain⟨it,fp,tn,J,H2,e,I2,T,Qf,f2,q2⟩:=h2;subst e;refine BC (PR:=λPq C r s'=>compPost (model X.prog X.w) X.A X.xe Zb (EP X Pf O Q) Pq C r s') hc S ht he Pn I2 T Qf f2 q2 λD C H' s' I' Sg ⟨b1,b2,b3,b4⟩ Qr q'=>?_;obtain⟨m',Q4⟩:=Qr;refine⟨m',Q4,λh' RY=>⟨.ref D,H',?_,rfl,q'⟩⟩;exact I'.turned (t':=s'.toks) (it:=C) (λb o hb e=>RY.extBut b o hb e) Sg b1 (.inr b2) b3 b4
def yN(hN:X.N.Nodup)(Rv:X.N[i]?=Za y)(Q5:X.env.scope.names.lookup y=Za .local)(hc:X.calm=true)(S:CompOk X.N X.env.scope scope x fr ix)(hi:PI X (.Name x px) iter wi)(ht:∀cl C Pl Pm fp,Ff (blk X scope cl C (x::fr) Pl Pm fp) PD tc)(he:∀cl C Pl Pm fp,PE (blk X scope cl C (x::fr) Pl Pm fp) PF te)(Rp:dL (.ListComp PF [⟨.Name x px,iter,PD,0⟩] scope pos) (Za (.Name y py)) spos.line X.env=pure true:=by rfl)(hs:∀v,b6 iter X.env v=pure v:=by intro _;rfl):PS X (.Assign [.Name y py] (.ListComp PF [⟨.Name x px,iter,PD,0⟩] scope pos) spos) (MV (HL wi ix tc te) (E5 i)):=by
 intro Pf s O H D0 I h;have Pn:∀y∈scope.names,y.2=.free->∃c,X.env.cells.lookup y.1=Za c:=λy hy hf=>I.ok.has y.1 (.inl (S.free y hy hf));rw[exec_Assign_Name_used _ _ _ _ Rp];refine aq (fU (aq ?_));show aS _ X.A (do let _ <-comprehension (.ListComp PF [⟨.Name x px,iter,PD,0⟩] scope pos) scope X.env _ (newList []) false (eval iter X.env) (Za (assign (.Name y py) X.env))) _ _ s;refine aq (bN (fc (use:=Za (assign (.Name y py) X.env)) (Q:=λ_ s'=>SP X Pf D0 .next s') rfl hs (pC Pn) S.kind S.nm
  (thn (hi Pf s O H _ I h) λv s1 h1=>thn h1 λSr s2 h2=>?_)) (λ_ s' hq=>aM (aM hq)) λ_ _ e=>e)
 obtain⟨it,fp,tn,J,H2,e,I2,T,Qf,f2,q2⟩:=h2;subst e;refine BC (PR:=λPq C r s'=>compPost (model X.prog X.w) X.A X.xe (Za (assign (.Name y py) X.env)) (λ_ s'=>SP X Pf D0 .next s') Pq C r s') hc S ht he Pn I2 T Qf f2 q2 λD C H' s' I' Sg ⟨b1,b2,b3,b4⟩ Qr q'=>?_;obtain⟨m',Q4⟩:=Qr;refine jm (wQ (v:=.ref D) I' hN Rv (.inl Q5) rfl (λs5 I5 sb=>?_) (.inr Q5));obtain⟨a5,sb,Vp⟩:=sb;have Vv:C≠a5:=by
  rcases Vp with z|z
  ·rw[z];exact b1
  ·exact(b3 _ _ z).symm
 refine⟨m',Q4.sameBut sb Vv,λh' RY=>⟨_,H',?_,q'⟩⟩;exact I5.turned (t':=s5.toks) (it:=C) (λb o hb e=>RY.extBut b o hb e) Sg b1 (.inr b2) b3 b4
end
abbrev bmV:List ai:=[.type "ValueError",.type "Exception",.type "BaseException",.type "object"]
structure Exc(K:aa)(C:ak):Prop where
 ex:jt K C bmV "ValueError.__new__"=true
 ga:aU K (.ref C) "__getattribute__"=Za (Za (.builtin "BaseException.__getattribute__"))
 gt:aU K (.ref C) "__getattr__"=Za Zb
 ha:aU K (.ref C) "__class__"=Za (Za (.builtin "object.__class__"))
 hn:fZ K (.builtin "object.__class__") "__get__"=Za (Za (.builtin "getset_descriptor.__get__"))
 ht:i0 K (.builtin "object.__class__")=Za true
 mo:f8 K C (.type "object")=Za true
 mb:f8 K C (.type "BaseException")=Za true
def Exc.obj{K}{C}{h}(Zj:Exc K C)(X:K.In h):∃bm N nm q bs hdct sn sub ab col dd k0 k1 k2 k3 k5 mN,
  h.get? C=Za (excClassObj nm q C N bs bm hdct sn sub ab col dd k0 k1 k2 k3 k5 "ValueError.__new__")/\h.Ns N mN/\mN "__init__"=Zb/\OwnTail h bmV bm:=by
 have z:=Zj.ex;unfold jt at z;split at z
 case h_2=>cases z
 case h_1 ddv Po slv lk =>
  split at z
  case h_2=>cases z
  case h_1 D bm a0 a1 a2 a3 nw a5 em es =>
   have z':((((D=C/\nw="ValueError.__new__")/\Po.hasDel=false)/\PySem.W.tailIn K bmV bm=true)/\PySem.W.nsOkIn K Po.ns=true)/\bQ K Po.ns "__init__"=Za none:=by simpa only[cg,beq_iff_eq,Bool.not_eq_true'] using z
   obtain⟨⟨⟨⟨⟨eD,eN⟩,Rw⟩,tl⟩,T5⟩,UU⟩:=z';rcases Po with⟨c1,c2,c3,c4,c5,c6,c7,c8,c9,c10,c11⟩;have em:c3=.ref D::bm:=em;have Rw:c11=false:=Rw;have T5:PySem.W.nsOkIn K c4=true:=T5;have UU:bQ K c4 "__init__"=Za none:=UU;subst em Rw eD eN;have esl:slv=#[a0,a1,a2,a3,Za (.builtin "ValueError.__new__"),a5]:=by rcases slv with⟨l⟩;have es:l=_:=es;rw[es]
   subst esl;refine⟨bm,c4,c1,c5,c2,c6,c7,c8,c9,c10,ddv,a0,a1,a2,a3,a5,h.nsMap c4,X _ _ lk,?_,?_,PySem.W.tail_of_in X tl⟩
   ·exact .of_isNs (PySem.W.isNs_of_in X T5)
   ·exact PySem.W.nsMap_none_of_in X T5 UU
def ExcAt(h:bx)(a C:ak):Prop:=∃ox vs,h.get? a=Za ox/\ox.cls=.ref C/\ox.data=.fields vs
def excO(C a:ak):HO:=.ext λh=>ExcAt h a C
section
variable{prog:aK}{w:ba}{A:cA}{E:ai->ax->Prop}{s:ax}{K:aa}{x C:ak}{ox:Obj}
open PySem.W Builtin Builtin.ObjectAttr Builtin.Getset_descriptor in
end
section
variable{K:aa}{C a:ak}
open PySem.W in
end
section
variable{X:Cx}
end
def ObjOk.there(x:ObjOk P w H h a o):∃ob,h.get? a=Za ob:=by
 cases o with
 |lst xs=>obtain⟨_,_,_,_,e⟩:=x;exact⟨_,e⟩
 |tup xs=>obtain⟨_,_,_,ob,e,_⟩:=x;exact⟨ob,e⟩
 |dK kvs=>obtain⟨_,_,_,_,ob,_,_,e,_⟩:=x;exact⟨ob,e⟩
 |dT kvs=>obtain⟨_,_,_,_,ob,_,_,e,_⟩:=x;exact⟨ob,e⟩
 |set S n=>obtain⟨ob,_,_,_,e,_⟩:=x;exact⟨ob,e⟩
 |ins C dx fs=>obtain⟨_,_,_,e,_⟩:=x;exact⟨_,e⟩
 |own y=>exact x
 |xd fs=>obtain⟨_,⟨ob,_,_,e,_⟩,_⟩:=x;exact⟨ob,e⟩
 |rng lo hi=>obtain⟨_,_,_,e⟩:=x;exact⟨_,e⟩
 |frz ob u=>obtain⟨e,_⟩:=x;exact⟨ob,e⟩
 |tbl ps=>exact⟨_,show h.get? a=Za _ from x⟩
 |met f y=>exact⟨_,show h.get? a=Za _ from x⟩
 |ext φ=>exact x.2.1
def CXo(P:aK)(w:ba):CXT:=λouter H s E e s'=>∃(a C:ak)(t:ai)(B:bx)(H':Hp),e=.ref a/\s'.os=s.os/\gL s'.gens/\Un (frs outer) [] H H' s.heap s'.heap/\HOk P w H' s'.heap /\
 Heap.FlyingW B outer a (.ref C) t s'.heap/\(∀b u o,H' b=Za u->s'.heap.get? b=Za o->B.get? b=Za o) /\
 (∀b o,s.heap.get? b=Za o->b∉frs outer->∃o',s'.heap.get? b=Za o'/\B.get? b=Za o')/\E (.ref C) Zb H'
def rV:nL (CXo P w) X E0:=λ_ _ _ _ _ _ _ h=>by obtain⟨_,_,_,_,_,_,_,_,_,_,_,_,_,z⟩:=h;exact z.elim
def LK(hf:env.frame=Za L)(h:b∈frs (env::outer)):b=L\/b∈frs outer:=by unfold frs at h ⊢;rw[eK,hf] at h;exact ah.mp h
def zd(hf:env.frame=Za L)(h:b∈frs outer):b∈frs (env::outer):=by unfold frs at h ⊢;rw[eK,hf];exact ae _ h
section
variable{P:aK}{w:ba}{K:aa}{mg:Str->Option ai}{base:bx}{N:List Str}{qual:Str}{scope:dG}{f:ak}{cd:ai}{A:cA}{outer:List Env}{sa0:ax}{Ha0:Hp}{E:XK}
def nS:nL (CXo P w) (Ec (CXo P w) P w K mg base N qual scope f cd A outer sa0 Ha0 E) E:=by
 intro Pf O H s e s' I h;obtain⟨a,C,t,B,H',rfl,R1,Tz,un,hok,fl,UV,SS,hE⟩:=h;have U9:∀b o,sa0.heap.get? b=Za o->b≠sa0.heap.objs.size:=λb o e=>aF (az e);refine wpAny_leaves_onW (L:=sa0.heap.objs.size) (by exact I.ok.frames) rfl fl λh' SD up=>?_;have VB:frs (eV qual scope sa0.heap.objs.size f cd::outer)=sa0.heap.objs.size::frs outer:=rfl;have Qb:∀b o,sa0.heap.get? b=Za o->b∉frs outer->b∉frs (eV qual scope sa0.heap.objs.size f cd::outer):=λb o e n z=>by
  rw[VB] at z;rcases ah.mp z with z|z
  ·exact U9 b o e z
  ·exact n z
 have ub:Un (frs outer) [] Ha0 H sa0.heap s.heap:=I.base;have old:∀b o,sa0.heap.get? b=Za o->b∉frs outer->∃o',h'.get? b=Za o'/\B.get? b=Za o':=λb o e n=>by obtain⟨o1,e1⟩:=ub.there b o e (by simp);obtain⟨o2,e2,e3⟩:=SS b o1 e1 (Qb b o e n);exact⟨o2,SD.1 b o2 e3,e3⟩
 refine⟨a,C,t,B,H',rfl,R1.trans I.os,Tz,⟨λb o e n hb _=>?_,λb o e n hb _=>?_,λb o e n _=>?_,λb o e _=>?_,λb xs e=>un.tups b xs (ub.tups b xs e),λb o u e=>un.frzs b o u (ub.frzs b o u e),λb ps e=>?_⟩,?_,SD,?_,old,hE⟩
 ·have e1:=ub.keep b o e n hb (by simp);have n1:=ub.free b o e n (by simp);have e2:=un.keep b o e1 n1 (Qb b o e hb) (by simp);obtain⟨o2,e3,e4⟩:=SS b o e1 (Qb b o e hb);rw[e2] at e3;cases e3;exact SD.1 b o e4
 ·obtain⟨sl,e1⟩:=ub.slot b o e n hb (by simp);have n1:=ub.free b o e n (by simp);obtain⟨SL,e2⟩:=un.slot b _ e1 n1 (zd rfl hb) (by simp);obtain⟨_,o3,e3,Tf⟩:=fl.2.2.1.mem (show b∈(eV qual scope sa0.heap.objs.size f cd::outer).filterMap (·.frame) from zd rfl hb);obtain⟨sl3,e4⟩:=up b _ e3 Tf;rw[e2] at e3;cases e3;exact⟨sl3,e4⟩
 ·obtain⟨o1,e1⟩:=ub.there b o e (by simp);exact un.free b o1 e1 (ub.free b o e n (by simp)) (by simp)
 ·by_cases hb:b∈frs outer
  ·obtain⟨_,o3,e3,Tf⟩:=fl.2.2.1.mem (show b∈(eV qual scope sa0.heap.objs.size f cd::outer).filterMap (·.frame) from zd rfl hb);obtain⟨sl3,e4⟩:=up b _ e3 Tf;exact⟨_,e4⟩
  ·obtain⟨o',e1,_⟩:=old b o e hb;exact⟨o',e1⟩
 ·obtain⟨m1,e1⟩:=ub.tbls b ps e;obtain⟨m2,e2⟩:=un.tbls b _ e1;exact⟨m1++m2,by rw[e2,la]⟩
 ·intro b u e;refine(hok b u e).stay (λc v hc q=>?_) (λ_ q=>q) λ_ _ q=>q;rcases hc with z|z
  ·subst z;exact SD.1 _ _ (UV _ u v e q)
  ·exact SD.1 _ _ (UV c _ v z q)
 ·intro b u o e q;obtain⟨o1,q1⟩:∃o1,s'.heap.get? b=Za o1:=by exact(hok b u e).there
  have z:=UV b u o1 e q1;have z2:=SD.1 b o1 z;rw[z2] at q;cases q;exact z
def zB(X:Cx)(E:XK):Prop:=∀(Pf:List (ak×Obj))(O:St)(H:Hp)(s:ax)(a C:ak)(vs:List ai)(h':bx),Inv X Pf O H s->Heap.MadeExcOf s.heap h' a (.ref C) vs->E (.ref C) Zb H->X.xe (.ref a) { s with heap:=h' }
def yV:zB (Ec (CXo P w) P w K mg base N qual scope f cd A outer sa0 Ha0 E) E:=by
 intro Pf O H s a C vs TD I mk hE;have stk:s.heap.FunFrames base (eV qual scope sa0.heap.objs.size f cd::outer):=I.stack;let l:List ak:=frs (eV qual scope sa0.heap.objs.size f cd::outer);have P5:∀env∈(eV qual scope sa0.heap.objs.size f cd::outer),∀b,env.frame=Za b->b∈l:=λenv he b hb=>iJ.mpr ⟨env,he,hb⟩;have Uv:∀b o,s.heap.get? b=Za o->b∉l->(gA s.heap l).get? b=Za o:=λb o e n=>ka l e n;have ub:Un (frs outer) [] Ha0 H sa0.heap s.heap:=I.base;have Qb:∀b o,sa0.heap.get? b=Za o->b∉frs outer->b∉l:=λb o e n z=>by
  rcases LK (L:=sa0.heap.objs.size) rfl z with z|z
  ·exact aF (az e) z
  ·exact n z
 have Rk:∀b u,H b=Za u->b∉l:=λb u e z=>by rw[I.stkFree b z] at e;cases e
 refine wpAny_leaves_madeW (L:=sa0.heap.objs.size) (base:=gA s.heap l) (h:=s.heap) (by exact I.ok.frames) rfl (λb o e=>kC l e) (PySem.W.funFrames_hide stk P5) mk λh' t fl tup nt up=>?_;have Qj:∀b o,s.heap.get? b=Za o->b∉l->h'.get? b=Za o:=λb o e n=>fl.1 b o (Uv b o e n);have frame:∀b o,s.heap.get? b=Za o->b∈l->∃sl,h'.get? b=Za { o with slots:=sl }:=λb o e hb=>by obtain⟨_,o3,e3,Tf⟩:=stk.mem hb;rw[e] at e3;cases e3;exact up b o (mk.keeps b o e) Tf
 refine⟨a,C,.ref t,gA s.heap l,H,rfl,I.os,I.bare,⟨λb o e n hb _=>?_,λb o e n hb _=>?_,λb o e n _=>ub.free b o e n (by simp),λb o e _=>?_,ub.tups,ub.frzs,ub.tbls⟩,λb u e=>?_,fl,λb u o e q=>?_,λb o e n=>?_,hE⟩
 ·exact Qj b o (ub.keep b o e n hb (by simp)) (Qb b o e hb)
 ·obtain⟨sl,e1⟩:=ub.slot b o e n hb (by simp);obtain⟨SL,e2⟩:=frame b _ e1 (zd rfl hb);exact⟨SL,e2⟩
 ·obtain⟨o1,e1⟩:=ub.there b o e (by simp);by_cases hb:b∈l
  ·obtain⟨SL,e2⟩:=frame b _ e1 hb;exact⟨_,e2⟩
  ·exact⟨o1,Qj b o1 e1 hb⟩
 ·refine(I.hok b u e).stay (λc v hc q=>?_) (λ_ q=>q) λ_ _ q=>q;rcases hc with z|z
  ·subst z;exact Qj _ v q (Rk _ u e)
  ·exact Qj c v q (Rk c _ z)
 ·obtain⟨o1,q1⟩:=(I.hok b u e).there;have z2:=Qj b o1 q1 (Rk b u e);have q:h'.get? b=Za o:=q;rw[z2] at q;cases q;exact Uv b _ q1 (Rk b u e)
 ·obtain⟨o1,e1⟩:=ub.there b o e (by simp);exact⟨o1,Qj b o1 e1 (Qb b o e n),Uv b o1 e1 (Qb b o e n)⟩
end
section
variable{X:Cx}{C:ak}{x:Str}{np Ph pos:Pos}{e:bo}{te:TE}{E:XK}
def NB(C:ak)(E:XK)(te:TE):TS:=λ_ O H=>te O H λ_ H1=>E (.ref C) Zb H1
def pW(Zj:Exc X.K C)(hg:Gl X x)(hm:X.mg x=Za (.ref C))(hc:X.calm=true)(ha:PE X e te)(hp:zB X E)(hd:NDb x:=by decide)(he:aB [e] X.env=[(false,eval e X.env)]:=by rfl):PS X (.Raise (Za (.Call (.Name x np) [e] [] Ph)) Zb pos) (NB C E te):=by
 intro Pf s O H D I h;obtain⟨bm,N,nm,q,bs,hdct,sn,sub,ab,col,dd,k0,k1,k2,k3,k5,mN,hC,hN,hni,T⟩:=Zj.obj I.mod.kin;refine wpAny_Raise_call_subT (C:=C) (nm:=nm) (q:=q) (N:=N) (bs:=bs) (bm:=bm) (hdct:=hdct) (sn:=sn) (sub:=sub) (ab:=ab) (col:=col) (dd:=dd) (k0:=k0) (k1:=k1) (k2:=k2) (k3:=k3) (k5:=k5)
  jd (mN:=mN) (T.hasType jd.hasBase) (I.ok.hd hc) (by rw[he];rfl) hni (wD I hg hm ⟨rfl,?_⟩ hd)
 rw[he];refine fH ?_;show aS _ _ (spliced ((false,eval e X.env)::[])) _ _ s;refine eO (thn (ha Pf s O H _ I h) λu Qy=>e4 λv H2 I2 r2 q2=>?_);refine f9 ⟨rfl,?_,I2.bk _ _ hC,hN.keeps I2.bk,T.keeps I2.bk,λh' a mk=>hp Pf O H2 Qy a C _ h' I2 mk q2⟩;show 1<=aI;decide
end
section
variable{M:Model}{A:cA}{E:ai->ax->Prop}{K:aa}{C D e:ak}{oe:Obj}
end
def XO(X:Cx)(Pf:List (ak×Obj))(O:St)(E:XK):ai->ax->Prop:=λe s'=>∃H1 s1,Inv X Pf O H1 s1/\CXo X.prog X.w X.stack H1 s1 E e s'
def PEx(X:Cx)(e:bo)(t:XK->TE):Prop:=∀(Pf:List (ak×Obj))(s:ax)(O:St)(H:Hp)(Q:VK)(E:XK),Inv X Pf O H s->t E O H Q->aS (model X.prog X.w) X.A (eval e X.env) (EP X Pf O Q) (XO X Pf O E) s
def PSx(X:Cx)(st:bR)(t:XK->TS):Prop:=∀(Pf:List (ak×Obj))(s:ax)(O:St)(H:Hp)(D:Ends)(E:XK),Inv X Pf O H s->t E D O H->aS (model X.prog X.w) X.A (exec st X.env) (SP X Pf D) (XO X Pf O E) s
section
variable{X:Cx}{k:Nat}{f C:ak}{fd:cq}{ps:List Str}{sp:Sp}{P9:List V}{ds:List ai}{x m:Str}{p pos Pg:Pos}{e o:bo}{es:List bo}{ta:TE}{t:TA}
end
section
variable{X:Cx}{e:bo}{te:XK->TE}{pos:Pos}
def hnd(X:Cx)(a:ak):Cx:={ X with A:=X.A.mark (Za (.ref a)),calm:=false,xe:=λ_ _=>False }
end
section
variable{X:Cx}{body:List bR}{x n:Str}{np hp pos:Pos}{ba0:bR}{bs:List bR}{tb:XK->TS}{th:TS}{D:ak}{i:Nat}
def leS(a b:Str):Bool:=!fF b.cps.toList a.cps.toList
theorem vH:∀a:List Nat,fF a a=false
 |[]=>rfl
 |a::r=>by show(decide (a<a)||(a==a&&fF r r))=false;rw[vH r];simp
theorem tV:∀{a b c:List Nat},fF a b=true->fF b c=true->fF a c=true
 |[],_,[],h1,h2=>by
  cases ‹List Nat› with
  |nil=>exact h1
  |cons x r=>exact absurd (show fF (x::r) []=true from h2) (by intro z;cases z)
 |[],_,_::_,_,_=>rfl
 |a::r,[],_,h1,_=>by cases h1
 |a::r,b::t,[],_,h2=>by cases h2
 |a::r,b::t,c::u,h1,h2=>by
  have h1:(decide (a<b)||(a==b&&fF r t))=true:=h1;have h2:(decide (b<c)||(b==c&&fF t u))=true:=h2;show(decide (a<c)||(a==c&&fF r u))=true;simp only[dO,decide_eq_true_eq,cg,beq_iff_eq] at h1 h2 ⊢;rcases h1 with h1|⟨e1,g1⟩
  ·rcases h2 with h2|⟨e2,g2⟩
   ·exact .inl (by lia)
   ·exact .inl (by lia)
  ·rcases h2 with h2|⟨e2,g2⟩
   ·exact .inl (by lia)
   ·exact .inr ⟨e1.trans e2,tV g1 g2⟩
theorem wZ:∀a b:List Nat,fF a b=false->fF b a=false->a=b
 |[],[],_,_=>rfl
 |[],_::_,h,_=>by cases h
 |_::_,[],_,h=>by cases h
 |a::r,b::t,h1,h2=>by
  have h1:(decide (a<b)||(a==b&&fF r t))=false:=h1;have h2:(decide (b<a)||(b==a&&fF t r))=false:=h2;simp only[Bool.or_eq_false_iff,decide_eq_false_iff_not,Bool.and_eq_false_iff,beq_eq_false_iff_ne] at h1 h2;have e:a=b:=by lia
  subst e;rw[wZ r t (h1.2.resolve_left λz=>z rfl) (h2.2.resolve_left λz=>z rfl)]
def Hm(a b):leS a b=true\/leS b a=true:=by
 unfold leS;cases h:fF b.cps.toList a.cps.toList with
 |false=>exact .inl rfl
 |true =>
  right;cases h2:fF a.cps.toList b.cps.toList with
  |false=>rfl
  |true =>
   have:=tV h h2;rw[vH] at this;cases this
def IZ(h1:leS a b=true)(h2:leS b a=true):a=b:=by unfold leS at h1 h2;have e:=wZ b.cps.toList a.cps.toList (by simpa using h1) (by simpa using h2);obtain⟨⟨x⟩⟩:=a;obtain⟨⟨y⟩⟩:=b;have e:y=x:=e;rw[e]
def Bm(h1:leS a b=true)(h2:leS b c=true):leS a c=true:=by
 unfold leS at *;cases h:fF c.cps.toList a.cps.toList with
 |false=>rfl
 |true =>
  exfalso;have h1:fF b.cps.toList a.cps.toList=false:=by simpa using h1
  have h2:fF c.cps.toList b.cps.toList=false:=by simpa using h2
  cases h3:fF b.cps.toList c.cps.toList with
  |true =>
   have:=tV h3 h;rw[h1] at this;cases this
  |false =>
   have e:=wZ _ _ h3 h2;rw[e,h] at h1;cases h1
def HY(x:Str):List Str->List Str
 |[]=>[x]
 |y::r=>if leS x y then x::y::r else y::HY x r
def srt:List Str->List Str
 |[]=>[]
 |x::r=>HY x (srt r)
theorem xg(x):∀l,(HY x l).Perm (x::l)
 |[]=>.refl _
 |y::r=>by
  unfold HY;split
  ·exact .refl _
  ·exact((xg x r).cons y).trans (.swap x y r)
theorem lQ:∀l,(srt l).Perm l
 |[]=>.refl _
 |x::r=>(xg x (srt r)).trans ((lQ r).cons x)
theorem xz(x):∀l,l.Pairwise (λa b=>leS a b=true)->(HY x l).Pairwise (λa b=>leS a b=true)
 |[],_=>by simp[HY]
 |y::r,h=>by
  obtain⟨h1,h2⟩:=dg.mp h;unfold HY;split
  ·rename_i Ua;refine dg.mpr ⟨λz hz=>?_,h⟩;rcases ah.mp hz with rfl|hz
   ·exact Ua
   ·exact Bm Ua (h1 z hz)
  ·rename_i Ua;refine dg.mpr ⟨λz hz=>?_,xz x r h2⟩;rcases ah.mp ((xg x r).mem_iff.mp hz) with rfl|hz
   ·exact(Hm z y).resolve_left Ua
   ·exact h1 z hz
theorem nY:∀l,(srt l).Pairwise (λa b=>leS a b=true)
 |[]=>.nil
 |x::r=>xz x _ (nY r)
theorem ot:∀{l m:List Str},l.Perm m->l.Pairwise (λa b=>leS a b=true)->m.Pairwise (λa b=>leS a b=true)->l=m
 |[],m,p,_,_=>(List.nil_perm.mp p).symm
 |a::l,[],p,_,_=>absurd (List.perm_nil.mp p) (by simp)
 |a::l,b::m,p,h1,h2=>by
  obtain⟨a1,a2⟩:=dg.mp h1;obtain⟨b1,b2⟩:=dg.mp h2;have e:a=b:=by
   have ha:a∈b::m:=p.mem_iff.mp ag;have hb:b∈a::l:=p.mem_iff.mpr ag;rcases ah.mp ha with e|ha
   ·exact e
   ·rcases ah.mp hb with e|hb
    ·exact e.symm
    ·exact IZ (a1 b hb) (b1 a ha)
  subst e;rw[ot (List.Perm.cons_inv p) a2 b2]
def C9(p:l.Perm m):srt l=srt m:=ot ((lQ l).trans (p.trans (lQ m).symm)) (nY l) (nY m)
def vn(l):(srt l).length=l.length:=(lQ l).length_eq
theorem sM:∀(p:Str)(l:List Str),risingS p l=true->(p::l).Pairwise (λa b=>leS a b=true)
 |p,[],_=>List.pairwise_singleton _ _
 |p,x::r,h=>by
  have h:(!fF x.cps.toList p.cps.toList&&risingS x r)=true:=h;rw[cg] at h;have ih:=sM x r h.2;refine dg.mpr ⟨λz hz=>?_,ih⟩;rcases ah.mp hz with rfl|hz
  ·exact h.1
  ·exact Bm (show leS p x=true from h.1) ((dg.mp ih).1 z hz)
def wo:∀(l:List Str),sortedS l=true->l.Pairwise (λa b=>leS a b=true)
 |[],_=>.nil
 |x::r,h=>sM x r h
def J1(p:l.Perm m)(h:sortedS l=true):l=srt m:=ot (p.trans (lQ m).symm) (wo l h) (nY m)
theorem yD:∀{ss:List Str}{us:List ai},Vals (ss.map V.str) us->StrsAre us ss
 |[],_,.nil=>.nil
 |x::ss,_,.cons ⟨t,e⟩ r=>by subst e;exact .cons x t (yD r)
theorem Cv:∀{ss:List Str}{us:List ai},StrsAre us ss->Vals (ss.map V.str) us
 |_,_,.nil=>.nil
 |_,_,.cons x t r=>.cons ⟨t,rfl⟩ (Cv r)
theorem FI:∀(xs:List V)(us:List ai),xs.length=us.length->(∀(j:Nat) x u,xs[j]?=Za x->us[j]?=Za u->RelV x u)->Vals xs us
 |[],[],_,_=>.nil
 |[],_::_,e,_=>by cases e
 |_::_,[],e,_=>by cases e
 |x::xs,u::us,e,h=>.cons (h 0 x u rfl rfl) (FI xs us (jB e) λj y v e1 e2=>h (j+1) y v (by simpa using e1) (by simpa using e2))
def call_sortedL:CallR X (.builtin "sorted") (λxs H Q=>∃p ss,xs=[.ref p]/\SqL X.K H p (ss.map V.str)/\ss.length<64/\∀l,H l=Zb->Q (.ref l) (upd H l (.lst ((srt ss).map V.str)))):=by
 intro Pf s O H xs us Q I r h;obtain⟨p,ss,rfl,hq,hz,q⟩:=h;obtain⟨u,rfl,ru⟩:=qI r;cases ru;obtain⟨its,rv,pl,Ss⟩:=I.list hq;have hS:=yD rv;have hl:its.length=ss.length:=by have:=rv.length;rw[ac] at this;exact this.symm
 refine sorted_strs pl.isList hS (by lia) λout ss' h1 h2 h3=>?_;have e:=J1 h2 h3;subst e;obtain⟨ep,QQ⟩:=sortedAll_at s.heap its out;have hf:H (s.heap.objs.size+1)=none:=I.hok.fresh (fL _);refine⟨.ref _,_,I.laid (t':=s.toks) (λb o e=>sortedAll_old e) (fL _) (o:=.lst ((srt ss).map V.str)) ?_,rfl,q _ hf⟩;refine⟨?_,out.toList,ep,Cv h1,?_⟩
 ·rw[ac,vn];exact aH (dM hz) (by decide)
 ·rw[QQ]
def oW(hc:X.calm=true):CallR X (.builtin "sorted") (λxs H Q=>∃p kvs ss,xs=[.ref p]/\Rd H p (.dK kvs)/\kvs.map (·.1)=ss.map af/\ss.length<64/\∀l,H l=Zb->Q (.ref l) (upd H l (.lst ((srt ss).map V.str)))):=by
 intro Pf s O H xs us Q I r h;obtain⟨p,kvs,ss,rfl,hq,hk,hz,q⟩:=h;obtain⟨u,rfl,ru⟩:=qI r;cases ru;obtain⟨z,RW,vs,rel,dd⟩:=sR I.hok hq;obtain⟨ep,QQ⟩:=dd.dictAt;have Pk:vs.length=ss.length:=by have e1:=rel.length;have e2:=congrArg b7 hk;rw[ac,ac] at e2;lia
 refine Calls.call_function_entry kind_sorted plain_sorted entry_sorted (args_sorted1 _) ?_;unfold Builtin.«sorted»;refine aq (m:=checkCount "sorted" 1 1 _) (aM ?_);refine aq (PySem.W.kdu_collect (A:=X.A.in1) (PySem.W.kdl_dict (knd:=mG X.prog X.w) (kvs:=vs) (ep:=ep) RW) (I.ok.hd hc) QQ (aH (by lia) (show 64<=aI by decide)) λh' tk Pq hkp TB=>?_);have hl:Pq.toList.length=vs.length:=by rw[fP];exact TB.1
 have hS:StrsAre Pq.toList ss:=by
  refine yD (FI _ _ (by rw[ac,hl,Pk]) λj x u e1 e2=>?_);obtain⟨k,y,e3,e4⟩:=TB.2 j u (by rw[<-ku];exact e2);have e5:(vs.map (·.1))[j]?=Za k:=by rw[aC,e3];rfl
  rw[<-rel.keys,hk,aC] at e5;rw[aC] at e1;cases e6:ss[j]? with
  |none=>rw[e6] at e1;cases e1
  |some z =>
   rw[e6] at e1 e5;have e1:V.str z=x:=aO e1;have e5:af z=k:=aO e5;subst e1 e5;rcases mP (k:=af z) (v:=u) e4 with⟨i,t,q1,_⟩|⟨y',t,q1,q2⟩
   ·cases q1
   ·cases q1;exact⟨t,q2⟩
 refine aq (wpAny_newList ?_ (by rw[hl];exact aH (by lia) (show 64<=aI by decide)));have Te:(h'.push (seqObj "list" Pq.toList.toArray 0)).get? h'.objs.size=Za (seqObj "list" Pq.toList.toArray 0):=a6 _ rfl;refine aq (ed (wpAny_call_entry slot_list_sort ⟨_,Te,rfl⟩ entry_list_sort (list_sort_treeK strKind_oneLt Te hS.keysOf (λSJ SI pQ e=>keyKind_strs (by rw[<-e];exact hS)) (by lia) λQt a1 a2=>⟨_,rfl,?_⟩) (args_list_sort _)));refine aM ⟨_,rfl,?_⟩;obtain⟨ss',h1,h2,h3⟩:=sorted_out_str hS a1 a2;have e:=J1 h2 h3;subst e;have I1:Inv X Pf O H { s with heap:=h',toks:=tk }:=I.kept hkp;obtain⟨e',Vo⟩:=sortedHeap_at (out:=(arrOf Qt).map (·.2)) Te;have hf:H h'.objs.size=none:=I1.hok.fresh (ap _);refine⟨.ref _,_,I1.laid (t':=tk) (λb o e=>?_) (ap _) (o:=.lst ((srt ss).map V.str)) ?_,rfl,q _ hf⟩
 ·have Pt:b<h'.objs.size:=az e;refine(sortedHeap_old (aF Pt) (by rw[size_push'];exact cj Pt)).trans ?_;exact ar _ e
 ·refine⟨?_,((arrOf Qt).map (·.2)).toList,e',Cv h1,?_⟩
  ·rw[ac,vn];exact aH (dM hz) (by decide)
  ·exact Vo
end
def Its(x:Str):It:=⟨λi _=>i<x.cps.size,λi H v H'=>H'=H/\∃c,x.cps[i]?=Za c/\v=.str ⟨#[c]⟩,λi _=>x.cps.size<=i⟩
def AT(hh:A.handled=Zb)(it)(x)(t):Walks P w A it [it] [it] x.cps.size (SignAt x) (λi h=>h.IsStrIter it (iL x) x t i):=by
 unfold iL;split
 ·exact Walks.strAscii hh it x t
 ·exact Walks.strWide hh it x t
def Ie{P}{w}{K}{tg}(it)(x)(t):Turn P w K tg (Its x) [it] it (λi h=>i<=x.cps.size/\h.IsStrIter it (iL x) x t i) where
 mem:=by simp
 obj:=λi h st b hb=>by
  have e:b=it:=by simpa using hb
  subst e;obtain⟨_,o,e,c,d⟩:=st;exact⟨o,e,λv z=>by rw[d] at z;cases z⟩
 keep:=λi h h' st k=>by obtain⟨z,o,e,c,d⟩:=st;exact⟨z,o,k it (by simp) o e,c,d⟩
 item:=by intro X hP hw hK hc i Pf s O H E I hf st hg;subst hP hw hK;obtain⟨f0,f1,f2,f3,f4,f5⟩:=hf it (by simp);refine(AT (I.ok.hd hc) it x t).item i s _ _ hg st.2 λv h' tk hv Qt kk=>?_;obtain⟨c,u,e1,e2⟩:=hv;subst e2;have I1:Inv X Pf O H { s with heap:=h',toks:=tk }:=I.turned (λb o hb e=>kk b o (by simpa using hb) e) f0 f1 f3 f4 f5;obtain⟨o,e,cl,d⟩:=id Qt;refine⟨_,rfl,E1 (s:={ s with heap:=h',toks:=tk }) e cl d ?_ ⟨.str ⟨#[c]⟩,H,I1,⟨u,rfl⟩,⟨rfl,c,e1,rfl⟩,⟨hg,Qt⟩,λb hb=>(hf b hb).1⟩⟩;unfold iL;split<;>decide
 done:=by intro X hP hw hK hc i Pf s O H E I hf st hg;subst hP hw hK;obtain⟨f0,f1,f2,f3,f4,f5⟩:=hf it (by simp);have e:i=x.cps.size:=jx st.1 hg;subst e;exact(AT (I.ok.hd hc) it x t).done s _ _ st.2 λh' tk kk=>⟨rfl,I.turned (λb o hb e=>kk b o (by simpa using hb) e) f0 f1 f3 f4 f5⟩
 self:=λA i s Q E st h=>by
  obtain⟨_,st⟩:=st;unfold iL at st;split at st
  ·exact wpAny_pyIter_striter_ascii st h
  ·exact wpAny_pyIter_striter_wide st h
section
variable{X:Cx}{tg:bo}
def iStr(tl:TE):TI:=λO H R=>tl O H λv H1=>∃x,v=.str x/\R (Its x) H1
def NX{l}{tl}(hl:PE X l tl):PI X tg l (iStr tl):=by
 intro Pf s O H R I h;refine thn (hl Pf s O H _ I h) λv s1=>e4 λy H1 I1 r1 q1=>?_;obtain⟨x,e,q⟩:=q1;subst e;obtain⟨t,rfl⟩:=r1;refine wpAny_pyIter_strU ?_;refine⟨s1.heap.objs.size,[s1.heap.objs.size],_,_,H1,rfl,I1.kept (t':=s1.toks) λb o e=>ar _ e,Ie _ x t,⟨aZ _,_,a6 _ rfl,rfl,rfl⟩,λb hb=>?_,q⟩;have e:b=s1.heap.objs.size:=by simpa using hb
 subst e;exact I1.fpOk (ap _) (I1.hok.fresh (ap _))
end
section
variable{X:Cx}{Pf:List (ak×Obj)}{O:St}{H:Hp}{s:ax}{d:ak}{kvs:List (Key×V)}{ob:Obj}
def Inv.redo(I:Inv X Pf O H s)(hd:H d=Za u)(n1:∀y,u≠.own y)(n2:∀xs,u≠.tup xs)(n3:∀o v,X.Ha0 d≠Za (.frz o v))(n4:∀ps,u≠.tbl ps)(ok:ObjOk X.prog X.w (upd H d u') s.heap d u'):Inv X Pf O (upd H d u') s:=by
 have ne:∀b v,H b=Za v->v≠u->b≠d:=λb v e hv z=>by subst z;rw[hd] at e;exact hv (aO e).symm
 have nn:∀b,H b=Zb->b≠d:=λb e z=>by subst z;rw[hd] at e;cases e
 refine⟨I.ok,I.os,I.bare,⟨I.base.keep,I.base.slot,λb o e z hx=>?_,I.base.there,λb xs e=>?_,λb o v e=>?_,λb ps e=>?_⟩,I.loc,I.cell,?_,λy c e=>?_,λp hp=>?_,λb v e=>?_,I.len⟩
 ·have:=I.base.free b o e z hx;rw[lG (nn b this)];exact this
 ·have:=I.base.tups b xs e;rw[lG (ne b _ this λz=>n2 xs z.symm)];exact this
 ·have:=I.base.frzs b o v e;have hb:b≠d:=λz=>by subst z;exact n3 o v e
  rw[lG hb];exact this
 ·obtain⟨m,e1⟩:=I.base.tbls b ps e;exact⟨m,by rw[lG (ne b _ e1 λz=>n4 _ z.symm)];exact e1⟩
 ·rw[lG (nn _ I.free)];exact I.free
 ·rw[lG (nn _ (I.freeC y c e))];exact I.freeC y c e
 ·obtain⟨e1,z1,r1⟩:=I.pin p hp;exact⟨e1,by rw[lG (nn _ z1)];exact z1,r1⟩
 ·by_cases hb:b=d
  ·subst hb;rw[lJ] at e;cases e;exact ok
  ·rw[lG hb] at e;exact(I.hok b v e).stay (λc v _ q=>q) (λc q=>by rw[lG (ne c _ q λz=>n1 _ z.symm)];exact q) λc xs q=>by rw[lG (ne c _ q λz=>n2 _ z.symm)];exact q
def dK_ok{H H'}(x:ObjOk P w H h d (.dK kvs)):ObjOk P w H' h d (.dK kvs):=x
def Inv.freeze(I:Inv X Pf O H s)(hd:H d=Za (.dK kvs))(ho:s.heap.get? d=Za ob):Inv X Pf O (upd H d (.frz ob (.dK kvs))) s :=
 I.redo hd (by intro y z;cases z) (by intro y z;cases z) (λo v z=>by rw[I.base.frzs d o v z] at hd;cases hd) (by intro y z;cases z) ⟨ho,dK_ok (I.hok d _ hd)⟩
end
def Itd(d:ak)(ob:Obj)(kvs:List (Key×V)):It :=
 ⟨λi H=>i<kvs.length/\H d=Za (.frz ob (.dK kvs)),λi H v H'=>H'=H/\∃kv,kvs[i]?=Za kv/\v=kV kv.1,λi H=>kvs.length<=i/\H d=Za (.frz ob (.dK kvs))⟩
def J7(I:Inv X Pf O H s)(hd:H d=Za (.frz ob (.dK kvs)))(he:ob.data=.dict es0 ep) :
  ∃vs,KV kvs vs/\s.heap.DictAt (mG X.prog X.w) d vs ep:=by
 obtain⟨e,z,_,vs,rel,dd⟩:=(show ObjOk X.prog X.w H s.heap d (.frz ob (.dK kvs)) from I.hok d _ hd);obtain⟨Um,o,es,e1,e2,e3,e4⟩:=dd.dictAt;rw[e] at e1;cases e1;rw[he] at e3;cases e3;exact⟨vs,rel,ob,_,e,e2,he,e4⟩
def AX{P}{w}{K}{tg}(d it)(ob)(kvs)(es0:Array DictEntry)(ep)(he:ob.data=.dict es0 ep) :
  Turn P w K tg (Itd d ob kvs) [it] it (λi h=>i<=kvs.length/\h.IsKeyIter it d i kvs.length ep) where
 mem:=by simp
 obj:=λi h st b hb=>by
  have e:b=it:=by simpa using hb
  subst e;obtain⟨_,o,e,c,d⟩:=st;exact⟨o,e,λv z=>by rw[d] at z;cases z⟩
 keep:=λi h h' st k=>by obtain⟨z,o,e,c,d⟩:=st;exact⟨z,o,k it (by simp) o e,c,d⟩
 item:=by
  intro X hP hw hK hc i Pf s O H E I hf st hg;subst hP hw hK;obtain⟨f0,f1,f2,f3,f4,f5⟩:=hf it (by simp);obtain⟨hi,hd⟩:=hg;obtain⟨vs,rel,at_⟩:=J7 I hd he;have hl:=rel.length;have hiv:i<vs.length:=by omega
  have R7:s.heap.IsKeyIter it d i vs.length ep:=by rw[<-hl];exact st.2
  refine wpAny_pyNext_dict_item (k:=vs[i].1) (v:=vs[i].2) R7 at_ (by simp[hiv]) λkey h' hk it' sb=>?_;have I1:Inv X Pf O H { s with heap:=h' }:=I.turned (t':=s.toks) (λb o hb e=>(sb.2 b hb).trans e) f0 f1 f3 f4 f5;have R6:kvs[i].1=vs[i].1:=by
   have e1:(kvs.map (·.1))[i]?=(vs.map (·.1))[i]?:=by rw[rel.keys]
   rw[aC,aC,au hi,au hiv] at e1;exact aO e1
  obtain⟨o,e,cl,dt⟩:=id it';refine⟨key,rfl,E1 (s:={ s with heap:=h' }) e cl dt (by decide) ⟨kV kvs[i].1,H,I1,?_,⟨rfl,kvs[i],by simp[hi],rfl⟩,⟨hi,by rw[hl];exact it'⟩,λb hb=>(hf b hb).1⟩⟩;rw[R6];have hk:AK vs[i].1 key=true:=hk;rcases mP hk with⟨z,t,q1,q2⟩|⟨z,t,q1,q2⟩
  ·rw[q1,q2];exact⟨t,rfl⟩
  ·rw[q1,q2];exact⟨t,rfl⟩
 done:=by
  intro X hP hw hK hc i Pf s O H E I hf st hg;subst hP hw hK;obtain⟨f0,f1,f2,f3,f4,f5⟩:=hf it (by simp);obtain⟨hi,hd⟩:=hg;obtain⟨vs,rel,at_⟩:=J7 I hd he;have hl:=rel.length;have R7:s.heap.IsKeyIter it d i vs.length ep:=by rw[<-hl];exact st.2
  exact wpAny_pyNext_dict_end (I.ok.hd hc) R7 at_ (by simp;omega) λh' eb=>⟨rfl,I.turned (t':=s.toks) (λb o hb e=>eb b o hb e) f0 f1 f3 f4 f5⟩
 self:=λA i s Q E st h=>by exact wpAny_pyIter_keyiter st.2 h
section
variable{X:Cx}{tg:bo}
def Nm(x:Str):Prop:=x.length<=100/\∀c∈x.cps.toList,c<16^8
def Bj:OpR X (bS .LtE) (λx y H Q=>∃i j,x=.str i/\y=.str j/\Q (.bl (!decide (j.cps.toList<i.cps.toList))) H):=by intro Pf s O H x y v u Q I rx ry h;obtain⟨i,j,rfl,rfl,q⟩:=h;obtain⟨t,rfl⟩:=rx;obtain⟨t',rfl⟩:=ry;exact PySem.P.le_str ⟨.bl _,H,I,rfl,q⟩
def LJ:MtR X "str.join" (λx vs H Q=>∃(z:Str)(p:ak)(ys:List Str),x=.str z/\vs=[.ref p]/\SqL X.K H p (ys.map V.str)/\(ys.map (·.length)).sum+ys.length*z.length<=16777216/\Q (.str (Txt.join z ys)) H):=by intro Pf s O H x vs v us Q I rx rv h;obtain⟨z,p,ys,rfl,rfl,hq,hz,q⟩:=h;obtain⟨t,rfl⟩:=rx;obtain⟨u,rfl,ru⟩:=rv.one;cases ru;obtain⟨its,r,pl,Ss⟩:=I.list hq;exact join_list pl.isList (by simpa using yD r) hz λt' k=>⟨.str _,H,I.tok k,⟨t',rfl⟩,q⟩
def Eg:CallR X (.builtin "all") (λxs H Q=>∃(p:ak)(bs:List Bool),xs=[.ref p]/\SqL X.K H p (bs.map V.bl)/\X.calm=true/\Q (.bl (bs.all id)) H):=by
 intro Pf s O H xs us Q I r h;obtain⟨p,bs,rfl,hq,hc,q⟩:=h;obtain⟨u,rfl,ru⟩:=qI r;cases ru;obtain⟨its,rv,pl,Ss⟩:=I.list hq;have hl:its.length=bs.length:=by have:=rv.length;rw[ac] at this;exact this.symm
 have PL:p≠s.heap.objs.size:=by obtain⟨o,ho,_⟩:=pl.isList;exact aF (az ho)
 refine call_all_walk (gJ pl.isList ?_);refine⟨s.heap.objs.size,_,_,its.toArray.size,_,_,λi=>(bs[i]?).getD true,rfl,Walks.list (show X.A.in1.handled=Zb from I.ok.hd hc) _ p PL its.toArray,⟨⟨_,a6 _ rfl,rfl,rfl⟩,pl.isList.push _⟩,?_,λh' tk hk=>?_⟩
 ·intro i v s' Q' E' hP hQ;have hP:its.toArray[i]?=Za v:=hP;have hv:its[i]?=Za v:=by simpa using hP
  have hi:i<its.length:=(aW.mp hv).1;obtain⟨u',hu',ru'⟩:=rv.get (i:=i) (x:=.bl bs[i]) (by simp[<-hl,hi]);rw[hv] at hu';cases hu';cases ru';refine ej ?_;have e:(bs[i]?).getD true=bs[i]:=by simp[<-hl,hi]
  rw[<-e];exact hQ
 ·have I1:Inv X Pf O H { s with heap:=h',toks:=tk }:=I.kept λb o e=>hk b o (λz=>by
   have e1:b=s.heap.objs.size:=by simpa using z
   exact absurd (az e) (by rw[e1];exact dP _)) (ar _ e)
  refine⟨.bl _,H,I1,rfl,?_⟩;have e:(bA its.toArray.size).all (λi=>(bs[i]?).getD true)=bs.all id:=by
   rw[aN,hl,bU,da,da];constructor
   ·intro z b hb;obtain⟨i,hi,rfl⟩:=List.mem_iff_getElem.mp hb;have:=z i (cF.mpr hi);simpa[hi] using this
   ·intro z i hi;have hi:=cF.mp hi;simpa[hi] using z bs[i] (ce hi)
  rw[e];exact q
def Mf:List V->List V->Bool
 |[],[]=>true
 |x::xs,y::ys=>eqV x y&&Mf xs ys
 |_,_=>false
theorem Ea:∀{xs ys:List V},xs.length=ys.length->Mf xs ys=(bA xs.length).all λi=>eqV ((xs[i]?).getD .non) ((ys[i]?).getD .non)
 |[],[],_=>rfl
 |[],_::_,h=>by cases h
 |_::_,[],h=>by cases h
 |x::xs,y::ys,h=>by show(eqV x y&&Mf xs ys)=_;rw[Ea (jB h),bh,ko,iG,kr];rfl
def EX(rx:Vals xs us)(ry:Vals ys ws)(hl:xs.length=ys.length)(fx:xs.all sP=true)(fy:ys.all sP=true) :
  ∀j (h1:j<us.toArray.size) (h2:j<ws.toArray.size),kX A s us.toArray[j] ws.toArray[j] (eqV ((xs[j]?).getD .non) ((ys[j]?).getD .non)):=by
 intro j h1 h2;have e1:=rx.length;have e2:=ry.length;have SB:j<xs.length:=by rw[e1];simpa using h1
 have Vx:j<ys.length:=by rw[e2];simpa using h2
 obtain⟨u,hu,ru⟩:=rx.get (i:=j) (x:=xs[j]) (by simp[SB]);obtain⟨w,hw,P4⟩:=ry.get (i:=j) (x:=ys[j]) (by simp[Vx]);have e3:us.toArray[j]=u:=by
  have:us[j]?=Za us.toArray[j]:=by simp[show j<us.length by simpa using h1]
  rw[hu] at this;exact(aO this).symm
 have e4:ws.toArray[j]=w:=by
  have:ws[j]?=Za ws.toArray[j]:=by simp[show j<ws.length by simpa using h2]
  rw[hw] at this;exact(aO this).symm
 rw[e3,e4];have e5:(xs[j]?).getD .non=xs[j]:=by simp[SB]
 have e6:(ys[j]?).getD .non=ys[j]:=by simp[Vx]
 rw[e5,e6];exact Fw ru P4 (da.mp fx _ (ce SB)) (da.mp fy _ (ce Vx))
def gLst(K:aa)(n:Nat)(t:TGs):TG:=λv O H Q=>∃a xs,v=.ref a/\SqL K H a xs/\xs.length=n/\t xs O H Q
def N0(hc:X.calm=true)(h:PGs X es t)(hn:(cQ es X.env).length=n:=by rfl)(QI:(cQ es X.env).findIdx? (·.1)=none:=by rfl):PG X (.Tuple es k pos) (gLst X.K n t):=by
 intro Pf s O H v u Q I r hw;obtain⟨a,xs,e1,hq,hl,hw⟩:=hw;subst e1;cases r;obtain⟨its,rv,ht,hz⟩:=I.list hq;rw[assign_Tuple];refine aq (fU ?_);unfold unpack;have hsz:(cQ es X.env).length=its.toArray.size:=by simp[hn,<-hl,rv.length]
 rw[hsz,QI];refine aq (ed (PySem.W.kun_itemsOf (I.ok.hd hc) ht.isList λh' hx=>?_));have I1:Inv X Pf O H { s with heap:=h' }:=I.kept (t':=s.toks) λb o e=>hx b o (aF (az e)) e;exact h Pf _ O H xs _ Q I1 (by simpa using rv) hw
def PJ(X:Cx)(es:List bo)(t:St->Hp->(Hp->Prop)->Prop):Prop:=∀(Pf:List (ak×Obj))(s:ax)(O:St)(H:Hp)(Pq:Str)(n:Nat)(Q:Hp->Prop),Inv X Pf O H s->Pq.length<=2000*n->n+es.length<=100->t O H Q ->
 Joins (model X.prog X.w) X.A X.xe (evalEach es X.env) Pq (λout s1=>out.length<=aI/\∃H',Inv X Pf O H' s1/\Q H') s
def jNil:St->Hp->(Hp->Prop)->Prop:=λ_ H Q=>Q H
def jRep(te:TE)(t:St->Hp->(Hp->Prop)->Prop):St->Hp->(Hp->Prop)->Prop:=λO H Q=>te O H λv H1=>(∃x,v=.str x/\Nm x)/\t O H1 Q
def Ak:PJ X [] jNil:=λPf s O H Pq n Q I h1 h2 h=>⟨aH h1 (aH (lv 2000 (show n<=100 by simpa using h2)) (by decide)),H,I,h⟩
def yY(a b:Str):(a++b).length=a.length+b.length:=strLen_append a b
def Aj{j pos}(hr:PJ X es t)(hl:c.length<=2000:=by decide):PJ X (.Constant (.str c) j pos::es) t:=by
 intro Pf s O H Pq n Q I h1 h2 h;have h2:n+(es.length+1)<=100:=h2;refine kZ ⟨c,s.toks,rfl,?_,hr Pf _ O H (Pq++c) (n+1) Q (I.tok _) ?_ (by lia) h⟩
 ·rw[yY];exact aH (show Pq.length+c.length<=2000*101 by lia) (by decide)
 ·rw[yY];lia
def x8(he:PE X e te)(hr:PJ X es t):PJ X (.FormattedValue e 114 Zb pos::es) (jRep te t):=by
 intro Pf s O H Pq n Q I h1 h2 h;have h2:n+(es.length+1)<=100:=h2;refine wpAny_FormattedValue_repr (thn (he Pf s O H _ I h) λv s1 ⟨y,H1,I1,r1,⟨x,e1,nm⟩,q1⟩=>?_);subst e1;obtain⟨tk,rfl⟩:=r1;have Pk:(g8 x).length<=1002:=aH (PySem.StrLaws.reprText_len x nm.2) (by have:=nm.1;lia);have hsz:(g8 x).length<=aI:=aH Pk (by decide);have PX:∀tk s2,Inv X Pf O H1 s2->∃y t',ib (g8 x) tk=.str y t'/\(Pq++y).length<=aI/\Joins (model X.prog X.w) X.A X.xe (evalEach es X.env) (Pq++y) (λout s1=>out.length<=aI/\∃H',Inv X Pf O H' s1/\Q H') s2:=λtk s2 I2=>by
  refine⟨_,tk,rfl,?_,hr Pf s2 O H1 _ (n+1) Q I2 ?_ (by lia) q1⟩
  ·rw[yY];exact aH (show Pq.length+(g8 x).length<=2000*101 by lia) (by decide)
  ·rw[yY];lia
 refine wpAny_pyReprObj_str ?_ hsz;exact wpAny_formatField_str (PX _ _ (I1.tok _)) (PX _ _ ((I1.tok _).tok _)) hsz
def tFs(t:St->Hp->(Hp->Prop)->Prop):TE:=λO H Q=>t O H λH1=>∀x,Q (.str x) H1
def EJ{SJ SI}{pQ}{pos}{t}(h:PJ X (SJ::SI::pQ) t)(hl:(SJ::SI::pQ).length<=100:=by decide):PE X (.JoinedStr (SJ::SI::pQ) pos) (tFs t):=by
 intro Pf s O H Q I hq;refine wpAny_JoinedStr ?_;have:=h Pf s O H cx 0 (λH1=>∀x,Q (.str x) H1) I (aZ _) (by lia) hq;revert this;generalize evalEach (SJ::SI::pQ) X.env=parts;generalize cx=Pq;intro this;clear h hl hq I;induction parts generalizing Pq s with
 |nil =>
  obtain⟨z,H',I',q⟩:=this;exact⟨z,.str Pq,H',I'.tok _,⟨_,rfl⟩,q Pq⟩
 |cons p ps ih =>
  refine bN this (λv s1 ⟨y,t,e,z,k⟩=>⟨y,t,e,z,ih _ _ k⟩) λ_ _ z=>z
end
def Fn(P:aK)(w:ba)(K:aa)(mg:Str->Option ai)(base:bx)(x:Str)(k:Nat)(ps:List Str)(sp:Sp):Prop :=
 ∃f fd,FnOk P w K mg base (CXo P w) k f fd ps sp/\mg x=Za (.ref f)/\cD K (.ref f)=true/\Binds K fd ps []
def Mt(P:aK)(w:ba)(K:aa)(mg:Str->Option ai)(base:bx)(C:ak)(m:Str)(k:Nat)(ps:List Str)(sp:Sp):Prop :=
 ∃f fd,FnOk P w K mg base (CXo P w) k f fd ps sp/\Meth K C m f/\Cls K C/\Binds K fd ps []
def MkB(P:aK)(w:ba)(K:aa)(mg:Str->Option ai)(base:bx)(x:Str)(C:ak)(k:Nat)(ps:List Str)(sp:Sp):Prop :=
 ∃f fd,FnOk P w K mg base (CXo P w) k f fd ps sp/\mg x=Za (.ref C)/\Mk K C f/\Binds K fd ps []
section
variable{X:Cx}{k:Nat}{C:ak}{ps:List Str}{sp:Sp}{E:XK}{x m:Str}{p pos Pg:Pos}{e o:bo}{es:List bo}{ta:TE}{t:TA}
def vq(F:Fn X.prog X.w X.K X.mg X.base x k ps sp)(hr:Room k X.A)(hg:Gl X x)(hx:nL (CXo X.prog X.w) X E)(ha:PA X (e::es) t)(P8:NDb x:=by decide)(he:SEb X e es:=by rfl)(PK:(b5 pos (aB es X.env)).any (·.1)=false:=by rfl):PE X (.Call (.Name x p) (e::es) [] pos) (Ko sp [] E t):=by
 obtain⟨f,fd,F,hm,hk,hb⟩:=F;exact Lm F hr hg hm hk hb .nil hx ha P8 he PK
def qu(he:PE X o ta)(M:Mt X.prog X.w X.K X.mg X.base C m k ps sp)(hr:Room k X.A)(hx:nL (CXo X.prog X.w) X E)(ha:PA X (e::es) t)(QI:SEb X e es:=by rfl)(PK:(b5 pos (aB es X.env)).any (·.1)=false:=by rfl)(ht:eval (.Call (.Attribute o m Pg) (e::es) [] pos) X.env=(do
   let ov <-eval o X.env
   gc Pg.atName
   let(f,first) <-holding [ov] (fQ ov m pl)
   iM pos f first (b5 pos (aB (e::es) X.env)) (eL pos (cU [] X.env))):=by rfl):PE X (.Call (.Attribute o m Pg) (e::es) [] pos) (HJ C m sp [] E ta t):=by
 obtain⟨f,fd,F,hm,c,hb⟩:=M;exact Lk (pl:=pl) he c hm F hr hb .nil hx ha QI PK ht
def N1(he:PE X o ta)(M:Mt X.prog X.w X.K X.mg X.base C m k ps sp)(hr:Room k X.A)(hx:nL (CXo X.prog X.w) X E)(ht:eval (.Call (.Attribute o m Pg) [] [] pos) X.env=(do
   let ov <-eval o X.env
   gc Pg.atName
   let(f,first) <-holding [ov] (fQ ov m pl)
   iM pos f first (b5 pos (aB [] X.env)) (eL pos (cU [] X.env))):=by rfl):PE X (.Call (.Attribute o m Pg) [] [] pos) (HJ C m sp [] E ta JE):=by
 obtain⟨f,fd,F,hm,c,hb⟩:=M;exact ID (pl:=pl) he c hm F hr hb .nil hx ht
def N2(M:MkB X.prog X.w X.K X.mg X.base x C k ps sp)(hr:Room (k+1) X.A)(hg:Gl X x)(hx:nL (CXo X.prog X.w) X E)(P8:NDb x:=by decide):PE X (.Call (.Name x p) [] [] pos) (HK C sp [] E JE):=by obtain⟨f,fd,F,hm,mk,hb⟩:=M;exact IE mk F hr hg hm hb .nil hx P8
def rW:OpR X (dE .FloorDiv) (rI (λ_ j=>0<j/\j.natAbs.log2<9000) λi j=>.int (i/j)):=opI λi j _ _ _ _ _ hc q=>by have h1:(0:Int)<j:=hc.1;exact floordiv_int (by lia) (by rw[Int.fdiv_eq_ediv_of_nonneg i (by lia)];exact q) (.inl (PyProof.noPylong_of_log2 hc.2))
end
section
variable{P:aK}{w:ba}{K:aa}{mg:Str->Option ai}{base:bx}
def Fun.okN{x qual}{st}{f}{fd}{N ps}{k}{sp:Sp}(F:Fun K x qual st f fd)(S:FnScope N ps (lK st))(len:∀vs H Q E,sp vs H Q E->vs.length=ps.length)(Qs:∀(Po:ai)(A:cA)(outer:List Env)(s:ax)(H:Hp)(vs:List V)(Q:VK)(E:XK),Room k (A.deeper (eV qual (lK st) s.heap.objs.size f Po))->sp vs H Q E ->
   ∃t,PSs (Ec (CXo P w) P w K mg base N qual (lK st) f Po A outer s H E).nox (nc st) t/\t { nx:=λ_ H'=>Q .non H',rt:=Q } (start N vs) H):FnOk P w K mg base (CXo P w) (k+1) f fd ps sp:=by
 obtain⟨oc,od,kV,Qo,pm,an,Po,ct,Rl,rfl,lk,QA⟩:=F.ex;refine Np lk QA S len λA outer s H vs Q E hr Rf=>?_;obtain⟨t,h,q⟩:=Qs Po A outer s H vs Q E hr Rf;exact⟨t,h.nox,q⟩
def Fun.okX{x qual}{st}{f}{fd}{N ps}{k}{sp:Sp}(F:Fun K x qual st f fd)(S:FnScope N ps (lK st))(len:∀vs H Q E,sp vs H Q E->vs.length=ps.length)(Qs:∀(Po:ai)(A:cA)(outer:List Env)(s:ax)(H:Hp)(vs:List V)(Q:VK)(E:XK),Room k (A.deeper (eV qual (lK st) s.heap.objs.size f Po))->sp vs H Q E ->
   ∃t,PSs (Ec (CXo P w) P w K mg base N qual (lK st) f Po A outer s H E) (nc st) t/\t { nx:=λ_ H'=>Q .non H',rt:=Q } (start N vs) H):FnOk P w K mg base (CXo P w) (k+1) f fd ps sp:=by
 obtain⟨oc,od,kV,Qo,pm,an,Po,ct,Rl,rfl,lk,QA⟩:=F.ex;exact Np lk QA S len λA outer s H vs Q E hr Rf=>Qs Po A outer s H vs Q E hr Rf
end
def Gs(n:Nat)(R:Nat->List V->Hp->Prop)(h0:R 0 [] (upd H1 D (.lst [])))(hn:n<=aI)(hD:∀i ys H,R i ys H->H D=Za (.lst ys))(hgo:∀i ys H,i<n->R i ys H->J.go i H)(Tb:∀i ys H x H',i<n->R i ys H->J.yld i H x H'->∀(Kt:VK)(Kf:Hp->Prop),(∀v H5,H5 D=Za (.lst ys)->R (i+1) (ys++[v]) (upd H5 D (.lst (ys++[v])))->Kt v H5)->(∀H4,R (i+1) ys H4->Kf H4) ->
   tc (Za x::cap) H' λb H4=>if b=true then te (Za x::cap) H4 Kt else Kf H4)(Vh:∀ys H,ys.length<=n->R n ys H->J.stop n H/\Q (.ref D) H) :
  CompB J tc te cap D H1 Q:=by
 refine⟨λi m ys H=>i<=n/\m=n-i/\ys.length<=i/\R i ys H,⟨n,aZ _,by simp,aZ _,h0⟩,?_⟩
 rintro i m ys H2 ⟨hi,rfl,hl,r⟩
 by_cases Pt:i<n
 ·refine .inr ⟨hgo i ys H2 Pt r,λx H3 y=>Tb i ys H2 x H3 Pt r y _ _ (λv H5 e r'=>⟨e,by lia,n-(i+1),by lia,Pt,rfl,by rw[aJ];simp;lia,r'⟩) λH4 r'=>⟨n-(i+1),by lia,Pt,rfl,by lia,r'⟩⟩
 ·have e:i=n:=by lia
  subst e;obtain⟨h1,h2⟩:=Vh ys H2 hl r;exact .inl ⟨h1,hD i ys H2 r,h2⟩
def C7:bP "len"=Za (.builtin "len"):=by decide +kernel
def uK:bP "sorted"=Za (.builtin "sorted"):=by decide +kernel
def OZ:bP "abs"=Za (.builtin "abs"):=by decide +kernel
def Kj:bP "all"=Za (.builtin "all"):=by decide +kernel
def OY:bP "int"=Za (.type "int"):=by decide +kernel
def Jw:bP "tuple"=Za (.type "tuple"):=by decide +kernel
def MJ:bP "list"=Za (.type "list"):=by decide +kernel
def OX:bP "str"=Za (.type "str"):=by decide +kernel
end L2
set_option maxHeartbeats 4000000
namespace My
open PySem L2
abbrev Same:=L2.Same
def rS(h:H p=Zb):Same H (upd H p o):=λb u e=>by rw[lG (lV e h)];exact e
def nbT(h:(!b)=true):b=false:=by cases b<;>first|rfl|cases h
def nbF(h:¬(!b)=true):b=true:=by cases b<;>first|rfl|exact absurd rfl h
structure Ent where
 nm:Str
 th:Int
 mr:Int
 ls:Int
 held:List (Str×Int×Int)
structure BA where
 dx:ak
 dp:ak
 dt:ak
 dm:ak
 dl:ak
 dh:ak
def bf(z:BA):List (Str×V):=[(("people":Str),V.ref z.dp),("things_of",.ref z.dt),("mark_of",.ref z.dm),("loss_of",.ref z.dl),("held_of",.ref z.dh)]
def nO{g f:Str}{v:V}{r:List (Str×V)}(h:¬f=g):cZ f ((g,v)::r)=cZ f r:=by
 rw[bJ];have:(f==g)=false:=by simpa using h
 rw[this]
def wC{f:Str}{v:V}{r:List (Str×V)}:cZ f ((f,v)::r)=Za v:=by rw[bJ];simp
def uL(z:BA):(bf z).lookup ("people":Str)=Za (V.ref z.dp):=wC
def xm(z:BA):(bf z).lookup ("things_of":Str)=Za (V.ref z.dt):=by unfold bf;rw[nO (by decide +kernel)];exact wC
def CJ(z:BA):(bf z).lookup ("mark_of":Str)=Za (V.ref z.dm):=by unfold bf;rw[nO (by decide +kernel),nO (by decide +kernel)];exact wC
def CK(z:BA):(bf z).lookup ("loss_of":Str)=Za (V.ref z.dl):=by unfold bf;rw[nO (by decide +kernel),nO (by decide +kernel),nO (by decide +kernel)];exact wC
def vg(z:BA):(bf z).lookup ("held_of":Str)=Za (V.ref z.dh):=by unfold bf;rw[nO (by decide +kernel),nO (by decide +kernel),nO (by decide +kernel),nO (by decide +kernel)];exact wC
def qN(z:BA){m:Str}(h1:¬m="people":=by decide +kernel)(h2:¬m="things_of":=by decide +kernel)(h3:¬m="mark_of":=by decide +kernel)(h4:¬m="loss_of":=by decide +kernel)(h5:¬m="held_of":=by decide +kernel):(bf z).lookup m=none:=by unfold bf;rw[nO h1,nO h2,nO h3,nO h4,nO h5];rfl
def HeldAt(K:aa)(H:Hp)(p:ak)(l:List (Str×Int×Int)):Prop :=
 ∃ts:List ak,ts.length=l.length/\H p=Za (.dK ((l.zip ts).map λq=>(af q.1.1,V.ref q.2)))/\∀q∈l.zip ts,SqT K H q.2 [.int q.1.2.1,.int q.1.2.2]
def PmAt(H:Hp)(d:ak)(S:List (Key×V)):Prop:=∃T:List (Key×V),H d=Za (.dK T)/\T.Perm S/\(S.map (·.1)).Nodup
theorem yz:∀{l:List (Key×V)},(l.map (·.1)).Nodup->(oo l k=Za v↔(k,v)∈l)
 |[],_=>⟨λh=>(by cases h),λh=>(by cases h)⟩
 |x::r,h=>by
  obtain⟨h1,h2⟩:=ay.mp h;have ih:=yz (k:=k) (v:=v) h2;unfold oo at ih ⊢;rw[bG];by_cases e:x.1=k
  ·rw[Zg e];constructor
   ·intro q;have q:x.2=v:=aO q;rw[<-q,<-e];exact ag
   ·intro q;rcases ah.mp q with q|q
    ·rw[<-q];rfl
    ·exact absurd (aj.mpr ⟨(k,v),q,rfl⟩) (by rw[<-e];exact h1)
  ·rw[Zh e];refine ih.trans ⟨λq=>ae _ q,λq=>?_⟩;rcases ah.mp q with q|q
   ·exact absurd (by rw[<-q]) e
   ·exact q
def Dr(p:T.Perm S)(nd:(S.map (·.1)).Nodup)(k:Key):oo T k=oo S k:=by apply Option.ext;intro v;rw[yz ((p.map (·.1)).nodup_iff.mpr nd),yz nd,p.mem_iff]
def PmAt.keep(h:PmAt H d S)(k:∀o,H d=Za o->H' d=Za o):PmAt H' d S:=by obtain⟨T,e,p,n⟩:=h;exact⟨T,k _ e,p,n⟩
def PmAt.dget(h:PmAt H d S)(x:Str):DGet H d (kV (af x)) (oo S (af x)):=by obtain⟨T,e,p,n⟩:=h;rw[<-Dr p n];exact DGet.k e
def PmAt.keys{H:Hp}{d:ak}{α:Type}{L:List α}{key:α->Str}{v:α->V}(h:PmAt H d (L.map λe=>((af (key e):Key),v e))):∃(T:List (Key×V))(ss:List Str),H d=Za (.dK T)/\T.map (·.1)=ss.map af/\ss.Perm (L.map key):=by
 obtain⟨T,e,p,n⟩:=h;have q:=p.map (·.1);rw[aE] at q;refine⟨T,(T.map (·.1)).map λk=>match k with|.inr s=>s|.inl _=>cx,e,?_,?_⟩
 ·rw[aE];refine((jf _).symm.trans (aV λk hk=>?_));have:=q.mem_iff.mp hk;obtain⟨x,_,rfl⟩:=aj.mp this;rfl
 ·have:=q.map λk:Key=>match k with|.inr s=>s|.inl _=>cx
  have e2:(L.map ((λx=>x.1)∘λe=>((af (key e):Key),v e))).map (λk:Key=>match k with|.inr s=>s|.inl _=>cx)=L.map key:=by rw[aE];rfl
  rw[e2] at this;exact this
structure BookAt(K:aa)(C:ak)(H:Hp)(b:ak)(z:BA)(Pi:List Str)(L:List (Ent×ak)):Prop where
 ob:H b=Za (.ins C z.dx (bf z))
 pp:H z.dp=Za (.dK (Pi.map λn=>(af n,.bl true)))
 tt:H z.dt=Za (.dK (L.map λe=>(af e.1.nm,.int e.1.th)))
 mm:H z.dm=Za (.dK (L.map λe=>(af e.1.nm,.int e.1.mr)))
 ll:H z.dl=Za (.dK (L.map λe=>(af e.1.nm,.int e.1.ls)))
 hh:PmAt H z.dh (L.map λe=>(af e.1.nm,.ref e.2))
 he:∀e∈L,HeldAt K H e.2 e.1.held
 nd:(b::z.dp::z.dt::z.dm::z.dl::z.dh::L.map (·.2)).Nodup
 p6:Pi.length<=6
 h8:L.length<=8
def BFp(b:ak)(z:BA)(L:List (Ent×ak)):List ak:=b::z.dp::z.dt::z.dm::z.dl::z.dh::L.map (·.2)
def uN{K}(h:SqT K H t xs)(k:∀c o,H c=Za o->(∃xs,o=.tup xs\/∃ob,o=.frz ob (.tup xs))->H' c=Za o):SqT K H' t xs:=by
 rcases h with(h|⟨ob,h⟩)|h
 ·exact .inl (.inl (k _ _ h ⟨xs,.inl rfl⟩))
 ·exact .inl (.inr ⟨ob,k _ _ h ⟨xs,.inr ⟨ob,rfl⟩⟩⟩)
 ·exact .inr h
def HeldAt.keep{K}(h:HeldAt K H p l)(hp:∀o,H p=Za o->H' p=Za o)(k:∀c o,H c=Za o->(∃xs,o=.tup xs\/∃ob,o=.frz ob (.tup xs))->H' c=Za o):HeldAt K H' p l:=by obtain⟨ts,e1,e2,e3⟩:=h;exact⟨ts,e1,hp _ e2,λq hq=>uN (e3 q hq) k⟩
theorem BookAt.keep{K}(B:BookAt K C H b z Pi L)(k:∀c o,H c=Za o->(c∈BFp b z L\/∃xs,o=.tup xs\/∃ob,o=.frz ob (.tup xs))->H' c=Za o):BookAt K C H' b z Pi L:=by refine⟨k _ _ B.ob (.inl (by simp[BFp])),k _ _ B.pp (.inl (by simp[BFp])),k _ _ B.tt (.inl (by simp[BFp])),k _ _ B.mm (.inl (by simp[BFp])),k _ _ B.ll (.inl (by simp[BFp])),B.hh.keep (λo h=>k _ _ h (.inl (by simp[BFp]))),λe he=>?_,B.nd,B.p6,B.h8⟩;refine(B.he e he).keep (λo h=>k _ _ h (.inl ?_)) λc o h x=>k c o h (.inr x);unfold BFp;simp only[ah];right;right;right;right;right;right;exact aj.mpr ⟨e,he,rfl⟩
def BookAt.same{K}(B:BookAt K C H b z Pi L)(s:Same H H'):BookAt K C H' b z Pi L:=B.keep λc o h _=>s c o h
def oC(L:List (Ent×ak))(n:Str):Bool:=(L.find? λe=>decide (e.1.nm=n)).isSome
def oQ(Pi:List Str)(n:Str):Bool:=(Pi.find? λm=>decide (m=n)).isSome
def qt(l:List α)(key:α->Str)(v:α->V)(n:Str):oo (l.map λe=>((af (key e):Key),v e)) (af n)=(l.find? λe=>decide (key e=n)).map v:=by
 unfold oo;rw[fg,Option.map_map];have e:((λkv:Key×V=>decide (kv.1=af n))∘λe=>((af (key e):Key),v e))=λe=>decide (key e=n):=by
  funext x
  show decide ((af (key x):Key)=af n)=decide (key x=n);rw[Aw]
 rw[e];rfl
end My
namespace L2
open PySem PySem.Spec PyProof.Rows
abbrev fzO(o:Obj):HO:=.frz o (.own 0)
section
variable{H:Hp}{cs:List (ak×Obj)}{b:ak}{o:Obj}
end
section
variable{P:aK}{w:ba}{K:aa}{mg:Str->Option ai}{base:bx}{A:cA}{outer:List Env}{s s':ax}{H H2:Hp}{cs:List (ak×Obj)}
end
structure LamOk(scope:dG)(x:Str)(fr:List Str):Prop where
 kind:scope.kind=.function
 co:scope.isCoroutine=false
 gen:scope.isGenerator=false
 cell:∀y∈scope.names,y.2≠.cell
 par:scope.names.lookup x=Za .local
 frs:∀y∈fr,scope.names.lookup y=Za .free
 nd:(x::fr).Nodup
structure CloOk(scope:dG)(fr:List Str)(cl:List (Str×ak))(cs:List (ak×Obj))(Sh:List V):Prop where
 has:∀y,scope.names.lookup y=Za .free->∃c,cl.lookup y=Za c
 inj:∀y z c,cl.lookup y=Za c->cl.lookup z=Za c->y=z
 cel:∀y c,cl.lookup y=Za c->∃o u,cs.lookup c=Za o/\o.data=.cell u
 val:∀(i:Nat)(y:Str)(v:V),fr[i]?=Za y->Sh[i]?=Za v->∃c o u,cl.lookup y=Za c/\cs.lookup c=Za o/\o.data=.cell (Za u)/\RelV v u
 len:Sh.length=fr.length
section
variable{P:aK}{w:ba}{K:aa}{mg:Str->Option ai}{base:bx}{CX:CXT}{k:Nat}{f c':ak}{qual x:Str}{params:jH}{body:bo}{scope:dG}{cl:List (Str×ak)}{cs:List (ak×Obj)}{pm ctv:ai}{fr:List Str}{Sh:List V}{oc:Obj}
end
section
variable{X:Cx}{CX:CXT}{k i:Nat}{x:Str}{p pos:Pos}{e:bo}{es:List bo}{t:TA}{E:XK}
end
section
variable{X:Cx}{CX:CXT}{k:Nat}{f:ak}{fd:cq}{ps:List Str}{sp:Sp}{E:XK}
end
def Ny(H:Hp)(P:ak)(q:Str):Prop:=∃ps,H P=Za (.tbl ps)/\TriplesOk ps.toList/\∀pos c,codeAmong pos ps.toList=Za c->∃c' oc,c=.ref c'/\H c'=Za (fzO oc)/\∃vs tq,oc.data=.fields vs/\vs[1]?=Za (.str q tq)
section
variable{X:Cx}{params:jH}{body:bo}{scope:dG}{pos:Pos}{cd P:ak}{q:Str}
structure LamTxt(K:aa)(mg:Str->Option ai)(base:bx)(cd P:ak):Prop where
 hd:∀h:bx,K.In h->PySem.W.CodeHd h cd P
 nP:P≠a7
 bm:∃bm o,mg "__builtins__"=Za (.ref bm)/\bm≠jc/\bm≠a7/\bm≠P/\base.get? bm=Za o/\o.cls=.type "module"/\o.dict=Za jc/\o.data=.plain
end
def Odd(u:HO):Prop:=(∃ps,u=.tbl ps)\/∃ob x,u=.frz ob (.own x)
def TbS(H H':Hp):Prop:=(∀a ps,H a=Za (.tbl ps)->∃RT,H' a=Za (.tbl RT))/\∀P q,Ny H P q->Ny H' P q
def TbS.of(k:∀a o,H a=Za o->Odd o->H' a=Za o):TbS H H':=⟨λa ps h=>⟨ps,k a _ h (.inl ⟨ps,rfl⟩)⟩,λP q ⟨ps,h,t,g⟩=>⟨ps,k P _ h (.inl ⟨ps,rfl⟩),t,λp c e=>by obtain⟨c',oc,a1,a2,a3⟩:=g p c e;exact⟨c',oc,a1,k c' _ a2 (.inr ⟨oc,0,rfl⟩),a3⟩⟩⟩
def TbS.same(k:Same H H'):TbS H H':=.of λa o h _=>k a o h
theorem TbS.upd(h:H d=Za u)(n:¬Odd u):TbS H (upd H d o):=.of λa o' h' od=>by rw[lG (show a≠d from λz=>by rw[z,h] at h';cases h';exact n od)];exact h'
def ET:¬Odd (.dK kvs):=λz=>by rcases z with⟨_,z⟩|⟨_,_,z⟩<;>cases z
def At:¬Odd (.lst xs):=λz=>by rcases z with⟨_,z⟩|⟨_,_,z⟩<;>cases z
def no_dT:¬Odd (.dT kvs):=λz=>by rcases z with⟨_,z⟩|⟨_,_,z⟩<;>cases z
def JX:¬Odd (.ins C dx fs):=λz=>by rcases z with⟨_,z⟩|⟨_,_,z⟩<;>cases z
def Ol:¬Odd (.frz ob (.dK kvs)):=λz=>by rcases z with⟨_,z⟩|⟨_,_,z⟩<;>cases z
def Ek:List Str:=["rules"]
def Tab(K:aa)(P:ak)(q:Str):Prop:=∃x∈Ek,∃c,PySem.W.tabIn K x=Za (c,P)/\q=x++".<locals>.<lambda>"
inductive PV where
 |non|bl (b:Bool)|int (i:Int)|str (x:Str)|tup (l:List PV)|lst (l:List PV)|dct (l:List (Key×PV))|ref (n:Nat)|exc (c:ak)|seq (l:List PV)|clo (a:ak) (vs:List V) (l:List PV)
inductive Cell where
 |lst (l:List PV)|dct (l:List (Key×PV))|book (pp:List Str) (L:List My.Ent)|obj (C:ak) (fs:List (Str×PV))|dfz (l:List (Key×PV))|dtt (l:List (List Key×PV))
structure Sto where
 nx:Nat
 cs:List (Nat×Cell)
structure Mp where
 ad:Nat->ak
 fp:Nat->List ak
 hid:List ak
def p4:List (Nat×Cell)->Nat->Option Cell
 |[],_=>Zb
 |(k,c)::r,n=>if k=n then Za c else p4 r n
def sV(n:Nat)(c:Cell):List (Nat×Cell)->List (Nat×Cell)
 |[]=>[]
 |(k,d)::r=>if k=n then(n,c)::r else(k,d)::sV n c r
def CF(n:Nat):List (Nat×Cell)->List (Nat×Cell)
 |[]=>[]
 |(k,d)::r=>if k=n then r else(k,d)::CF n r
def Sto.get(s:Sto)(n:Nat):Option Cell:=p4 s.cs n
def Sto.set(s:Sto)(n:Nat)(c:Cell):Sto:=⟨s.nx,sV n c s.cs⟩
def Sto.del(s:Sto)(n:Nat):Sto:=⟨s.nx,CF n s.cs⟩
def Sto.add(s:Sto)(c:Cell):Sto:=⟨s.nx+1,(s.nx,c)::s.cs⟩
theorem oF:∀{l:List (Nat×Cell)},p4 l n=Za c->(n,c)∈l
 |(k,d)::r,h=>by
  unfold p4 at h;split at h
  ·rename_i e;cases h;subst e;exact ag
  ·exact ae _ (oF h)
theorem DC:∀{l:List (Nat×Cell)},(l.map (·.1)).Nodup->q∈sV n c l->q=(n,c)\/(q∈l/\q.1≠n)
 |(k,d)::r,nd,h=>by
  unfold sV at h;obtain⟨n1,n2⟩:=ay.mp (show(k::r.map (·.1)).Nodup from nd);split at h
  ·rename_i e;rcases ah.mp h with h|h
   ·exact .inl h
   ·exact .inr ⟨ae _ h,λz=>n1 (by rw[e,<-z];exact aj.mpr ⟨q,h,rfl⟩)⟩
  ·rename_i e;rcases ah.mp h with h|h
   ·subst h;exact .inr ⟨ag,e⟩
   ·rcases DC n2 h with h|⟨h,h'⟩
    ·exact .inl h
    ·exact .inr ⟨ae _ h,h'⟩
theorem pL:∀{l:List (Nat×Cell)},(sV n c l).map (·.1)=l.map (·.1)
 |[]=>rfl
 |(k,d)::r=>by
  unfold sV;split
  ·rename_i e;simp[e]
  ·simp[pL]
theorem uA:∀{l:List (Nat×Cell)},q∈CF n l->q∈l
 |(k,d)::r,h=>by
  unfold CF at h;split at h
  ·exact ae _ h
  ·rcases ah.mp h with h|h
   ·subst h;exact ag
   ·exact ae _ (uA h)
theorem Go:∀{l:List (Nat×Cell)},(l.map (·.1)).Nodup->((CF n l).map (·.1)).Nodup
 |[],_=>ii
 |(k,d)::r,nd=>by
  obtain⟨n1,n2⟩:=ay.mp (show(k::r.map (·.1)).Nodup from nd);unfold CF;split
  ·exact n2
  ·refine ay.mpr ⟨λz=>n1 ?_,Go n2⟩;obtain⟨q,hq,e⟩:=aj.mp z;exact aj.mpr ⟨q,uA hq,e⟩
theorem Gn:∀{l:List (Nat×Cell)},(l.map (·.1)).Nodup->q∈CF n l->q.1≠n
 |(k,d)::r,nd,h=>by
  obtain⟨n1,n2⟩:=ay.mp (show(k::r.map (·.1)).Nodup from nd);unfold CF at h;split at h
  ·rename_i e;intro z;exact n1 (by rw[e,<-z];exact aj.mpr ⟨q,h,rfl⟩)
  ·rename_i e;rcases ah.mp h with h|h
   ·subst h;exact e
   ·exact Gn n2 h
theorem tY(h:k≠n):∀{l:List (Nat×Cell)},p4 (sV n c l) k=p4 l k
 |[]=>rfl
 |(j,d)::r=>by
  unfold sV;split
  ·rename_i e;unfold p4;rw[Zd (λz=>h z.symm),Zd (λz=>h (z.symm.trans e))]
  ·unfold p4;split
   ·rfl
   ·exact tY h
theorem xA(h:k≠n):∀{l:List (Nat×Cell)},p4 (CF n l) k=p4 l k
 |[]=>rfl
 |(j,d)::r=>by
  unfold CF;split
  ·rename_i e
   conv=>rhs;unfold p4
   rw[Zd (λz=>h (z.symm.trans e))]
  ·unfold p4;split
   ·rfl
   ·exact xA h
def Pur(m:Mp)(s:Sto)(a:ak):Prop:=a∉m.hid/\∀n∈s.cs.map (·.1),a∉m.fp n
def KL(K:aa)(a:ak)(xs:List V):Prop:=∃(o:Obj)(its:Array ai)(n:Nat),K.lookup a=Za o/\o.cls=.type "list"/\o.dict=Zb/\o.data=.seq its n/\its.size<=aI/\Vals xs its.toList
def KT'(K:aa)(a:ak)(xs:List V):Prop:=∃(o:Obj)(its:Array ai)(n:Nat),K.lookup a=Za o/\o.cls=.type "tuple"/\o.data=.seq its n/\its.size<=aI/\Vals xs its.toList
mutual
inductive Rep (K:aa) (H:Hp) (m:Mp) (s:Sto):V->PV->Prop
 |non:Rep K H m s .non .non
 |bl {b:Bool}:Rep K H m s (.bl b) (.bl b)
 |int {i:Int}:Rep K H m s (.int i) (.int i)
 |str {x:Str}:Rep K H m s (.str x) (.str x)
 |tup {a:ak}{vs:List V}{l:List PV}:(Rd H a (.tup vs)/\Pur m s a\/KT' K a vs)->Reps K H m s vs l->Rep K H m s (.ref a) (.tup l)
 |lst {a:ak}{vs:List V}{l:List PV}:H a=Za (.lst vs)->Pur m s a->Reps K H m s vs l->Rep K H m s (.ref a) (.lst l)
 |seq {a:ak}{vs:List V}{l:List PV}:((∃o,H a=Za (.frz o (.lst vs)))/\Pur m s a\/KL K a vs)->Reps K H m s vs l->Rep K H m s (.ref a) (.seq l)
 |dct {a:ak}{vs:List (Key×V)}{l:List (Key×PV)}:Rd H a (.dK vs)->Pur m s a->RepKs K H m s vs l->Rep K H m s (.ref a) (.dct l)
 |ref {n:Nat}:n<s.nx->Rep K H m s (.ref (m.ad n)) (.ref n)
 |exc {a c:ak}:H a=Za (excO c a)->Pur m s a->Rep K H m s (.ref a) (.exc c)
 |clo {a:ak}{vs:List V}{l:List PV}:Reps K H m s vs l->Rep K H m s (.ref a) (.clo a vs l)
inductive Reps (K:aa) (H:Hp) (m:Mp) (s:Sto):List V->List PV->Prop
 |nil:Reps K H m s [] []
 |cons {v:V}{p:PV}{vs:List V}{l:List PV}:Rep K H m s v p->Reps K H m s vs l->Reps K H m s (v::vs) (p::l)
inductive RepKs (K:aa) (H:Hp) (m:Mp) (s:Sto):List (Key×V)->List (Key×PV)->Prop
 |nil:RepKs K H m s [] []
 |cons {k:Key}{v:V}{p:PV}{vs:List (Key×V)}{l:List (Key×PV)}:Rep K H m s v p->RepKs K H m s vs l->RepKs K H m s ((k,v)::vs) ((k,p)::l)
end
structure ExtR(H:Hp)(m:Mp)(s:Sto)(H':Hp)(m':Mp)(s':Sto):Prop where
 nx:s.nx<=s'.nx
 ad:∀n,n<s.nx->m'.ad n=m.ad n
 pu:∀a u,Rd H a u->Pur m s a->Rd H' a u/\Pur m' s' a
 el:∀a u,H a=Za u->(∀kvs,u≠.dK kvs)->Pur m s a->H' a=Za u
structure Ext0(H:Hp)(m:Mp)(s:Sto)(H':Hp)(m':Mp)(s':Sto):Prop extends ExtR H m s H' m' s' where
 df:∀n l,n<s.nx->p4 s.cs n=Za (.dfz l)->p4 s'.cs n=Za (.dfz l)/\∀o,H (m.ad n)=Za o->H' (m.ad n)=Za o
structure Ext(H:Hp)(m:Mp)(s:Sto)(H':Hp)(m':Mp)(s':Sto):Prop extends Ext0 H m s H' m' s' where
 hd:m'.hid=m.hid
 hk:∀a∈m.hid,∀o,H a=Za o->(∀ps,o≠.tbl ps)->H' a=Za o
def Ext.refl:Ext H m s H m s:=⟨⟨⟨ap _,λ_ _=>rfl,λ_ _ h p=>⟨h,p⟩,λ_ _ h _ _=>h⟩,λ_ _ _ h=>⟨h,λ_ h=>h⟩⟩,rfl,λ_ _ _ h _=>h⟩
theorem Ext0.trans(a:Ext0 H m s H1 m1 s1)(b:Ext0 H1 m1 s1 H2 m2 s2):Ext0 H m s H2 m2 s2 :=
 ⟨⟨aH a.nx b.nx,λn h=>(b.ad n (aA h a.nx)).trans (a.ad n h),λc u h p=>let⟨h1,p1⟩:=a.pu c u h p;b.pu c u h1 p1,λc x h n p=>b.el c x (a.el c x h n p) n (a.pu c _ (.inl h) p).2⟩,λn l hn h=>by obtain⟨h1,k1⟩:=a.df n l hn h;obtain⟨h2,k2⟩:=b.df n l (aA hn a.nx) h1;rw[a.ad n hn] at k2;exact⟨h2,λo h=>k2 o (k1 o h)⟩⟩
theorem Ext.trans(a:Ext H m s H1 m1 s1)(b:Ext H1 m1 s1 H2 m2 s2):Ext H m s H2 m2 s2 :=
 ⟨a.toExt0.trans b.toExt0,b.hd.trans a.hd,λc hc o h n=>b.hk c (by rw[a.hd];exact hc) o (a.hk c hc o h n) n⟩
def Rd.same(k:Same H H')(h:Rd H a u):Rd H' a u:=h.elim (λh=>.inl (k _ _ h)) λ⟨o,h⟩=>.inr ⟨o,k _ _ h⟩
def Rd.ne(h:Rd H a u)(hb:H b=Zb):a≠b:=h.elim (λh=>lV h hb) λ⟨_,h⟩=>lV h hb
theorem Ext.same(k:Same H H'):Ext H m s H' m s:=⟨⟨⟨ap _,λ_ _=>rfl,λ_ _ h p=>⟨h.same k,p⟩,λ_ _ h _ _=>k _ _ h⟩,λ_ _ _ h=>⟨h,λo h=>k _ _ h⟩⟩,rfl,λ_ _ _ h _=>k _ _ h⟩
mutual
theorem Rep.ext0{K}{H H'}{m m'}{s s'}(e:ExtR H m s H' m' s'):∀{v:V}{p:PV},Rep K H m s v p->Rep K H' m' s' v p
 |_,_,.non=>.non
 |_,_,.bl=>.bl
 |_,_,.int=>.int
 |_,_,.str=>.str
 |_,_,.tup h r=>.tup (h.imp (λz=>e.pu _ _ z.1 z.2) λz=>z) (Reps.ext0 e r)
 |_,_,.lst h p r=>.lst (e.el _ _ h (by intro _ z;cases z) p) (e.pu _ _ (.inl h) p).2 (Reps.ext0 e r)
 |_,_,.seq h r=>.seq (h.imp (λ⟨⟨o,z⟩,p⟩=>⟨⟨o,e.el _ _ z (by intro _ z;cases z) p⟩,(e.pu _ _ (.inl z) p).2⟩) λz=>z) (Reps.ext0 e r)
 |_,_,.dct h p r=>.dct (e.pu _ _ h p).1 (e.pu _ _ h p).2 (RepKs.ext0 e r)
 |_,_,.ref (n:=n) h=>by rw[<-e.ad _ h];exact .ref (aA h e.nx)
 |_,_,.exc h p=>.exc (e.el _ _ h (by intro _ z;cases z) p) (e.pu _ _ (.inl h) p).2
 |_,_,.clo r=>.clo (Reps.ext0 e r)
theorem Reps.ext0{K}{H H'}{m m'}{s s'}(e:ExtR H m s H' m' s'):∀{v:List V}{p:List PV},Reps K H m s v p->Reps K H' m' s' v p
 |_,_,.nil=>.nil
 |_,_,.cons a b=>.cons (Rep.ext0 e a) (Reps.ext0 e b)
theorem RepKs.ext0{K}{H H'}{m m'}{s s'}(e:ExtR H m s H' m' s'):∀{v:List (Key×V)}{p:List (Key×PV)},RepKs K H m s v p->RepKs K H' m' s' v p
 |_,_,.nil=>.nil
 |_,_,.cons a b=>.cons (Rep.ext0 e a) (RepKs.ext0 e b)
end
def Rep.ext{K}{H H'}{m m'}{s s'}(e:Ext H m s H' m' s'){v}{p}(r:Rep K H m s v p):Rep K H' m' s' v p:=r.ext0 e.toExtR
def Reps.ext{K}{H H'}{m m'}{s s'}(e:Ext H m s H' m' s'){v}{p}(r:Reps K H m s v p):Reps K H' m' s' v p:=r.ext0 e.toExtR
def RepKs.ext{K}{H H'}{m m'}{s s'}(e:Ext H m s H' m' s'){v}{p}(r:RepKs K H m s v p):RepKs K H' m' s' v p:=r.ext0 e.toExtR
mutual
inductive Old (k:Nat):PV->Prop
 |non:Old k .non
 |bl {b:Bool}:Old k (.bl b)
 |int {i:Int}:Old k (.int i)
 |str {x:Str}:Old k (.str x)
 |tup {l:List PV}:Olds k l->Old k (.tup l)
 |lst {l:List PV}:Olds k l->Old k (.lst l)
 |seq {l:List PV}:Olds k l->Old k (.seq l)
 |dct {l:List (Key×PV)}:OldKs k l->Old k (.dct l)
 |ref {n:Nat}:n<k->Old k (.ref n)
 |exc {c:ak}:Old k (.exc c)
 |clo {a:ak}{vs:List V}{l:List PV}:Olds k l->Old k (.clo a vs l)
inductive Olds (k:Nat):List PV->Prop
 |nil:Olds k []
 |cons {p:PV}{l:List PV}:Old k p->Olds k l->Olds k (p::l)
inductive OldKs (k:Nat):List (Key×PV)->Prop
 |nil:OldKs k []
 |cons {q:Key}{p:PV}{l:List (Key×PV)}:Old k p->OldKs k l->OldKs k ((q,p)::l)
end
structure Sub(m:Mp)(s:Sto)(m':Mp)(s':Sto):Prop where
 pu:∀a,Pur m s a->Pur m' s' a
 ad:∀n,n<s'.nx->m'.ad n=m.ad n
mutual
theorem Rep.sub{K}{H}{m m'}{s s'}(e:Sub m s m' s'):∀{v:V}{p:PV},Old s'.nx p->Rep K H m s v p->Rep K H m' s' v p
 |_,_,_,.non=>.non
 |_,_,_,.bl=>.bl
 |_,_,_,.int=>.int
 |_,_,_,.str=>.str
 |_,_,.tup o,.tup h r=>.tup (h.imp (λz=>⟨z.1,e.pu _ z.2⟩) λz=>z) (Reps.sub e o r)
 |_,_,.lst o,.lst h p r=>.lst h (e.pu _ p) (Reps.sub e o r)
 |_,_,.seq o,.seq h r=>.seq (h.imp (λz=>⟨z.1,e.pu _ z.2⟩) λz=>z) (Reps.sub e o r)
 |_,_,.dct o,.dct h p r=>.dct h (e.pu _ p) (RepKs.sub e o r)
 |_,_,.ref o,.ref _=>by rw[<-e.ad _ o];exact .ref o
 |_,_,_,.exc h p=>.exc h (e.pu _ p)
 |_,_,.clo o,.clo r=>.clo (Reps.sub e o r)
theorem Reps.sub{K}{H}{m m'}{s s'}(e:Sub m s m' s'):∀{v:List V}{p:List PV},Olds s'.nx p->Reps K H m s v p->Reps K H m' s' v p
 |_,_,_,.nil=>.nil
 |_,_,.cons o q,.cons a b=>.cons (Rep.sub e o a) (Reps.sub e q b)
theorem RepKs.sub{K}{H}{m m'}{s s'}(e:Sub m s m' s'):∀{v:List (Key×V)}{p:List (Key×PV)},OldKs s'.nx p->RepKs K H m s v p->RepKs K H m' s' v p
 |_,_,_,.nil=>.nil
 |_,_,.cons o q,.cons a b=>.cons (Rep.sub e o a) (RepKs.sub e q b)
end
mutual
theorem Rep.old{K}{H}{m}{s}:∀{v:V}{p:PV},Rep K H m s v p->Old s.nx p
 |_,_,.non=>.non
 |_,_,.bl=>.bl
 |_,_,.int=>.int
 |_,_,.str=>.str
 |_,_,.tup _ r=>.tup (Reps.old r)
 |_,_,.lst _ _ r=>.lst (Reps.old r)
 |_,_,.seq _ r=>.seq (Reps.old r)
 |_,_,.dct _ _ r=>.dct (RepKs.old r)
 |_,_,.ref h=>.ref h
 |_,_,.exc _ _=>.exc
 |_,_,.clo r=>.clo r.old
theorem Reps.old{K}{H}{m}{s}:∀{v:List V}{p:List PV},Reps K H m s v p->Olds s.nx p
 |_,_,.nil=>.nil
 |_,_,.cons a b=>.cons (Rep.old a) (Reps.old b)
theorem RepKs.old{K}{H}{m}{s}:∀{v:List (Key×V)}{p:List (Key×PV)},RepKs K H m s v p->OldKs s.nx p
 |_,_,.nil=>.nil
 |_,_,.cons a b=>.cons (Rep.old a) (RepKs.old b)
end
def RepFs(K:aa)(H:Hp)(m:Mp)(s:Sto)(Qp:List (Str×V))(fs:List (Str×PV)):Prop:=Qp.map (·.1)=fs.map (·.1)/\Reps K H m s (Qp.map (·.2)) (fs.map (·.2))
def RepTs(K:aa)(H:Hp)(m:Mp)(s:Sto)(Qp:List (List Key×V))(fs:List (List Key×PV)):Prop:=Qp.map (·.1)=fs.map (·.1)/\Reps K H m s (Qp.map (·.2)) (fs.map (·.2))
def CellOk(K:aa)(CB:ak)(H:Hp)(m:Mp)(s:Sto)(n:Nat):Cell->Prop
 |.lst l=>m.fp n=[m.ad n]/\∃vs,H (m.ad n)=Za (.lst vs)/\Reps K H m s vs l
 |.dct l=>m.fp n=[m.ad n]/\∃vs,H (m.ad n)=Za (.dK vs)/\RepKs K H m s vs l
 |.dfz l=>m.fp n=[m.ad n]/\∃ob vs,H (m.ad n)=Za (.frz ob (.dK vs))/\RepKs K H m s vs l
 |.book pp L=>∃z L',My.BookAt K CB H (m.ad n) z pp L'/\L'.map (·.1)=L/\m.fp n=My.BFp (m.ad n) z L'
 |.obj C fs=>m.fp n=[m.ad n]/\∃dx Qp,H (m.ad n)=Za (.ins C dx Qp)/\RepFs K H m s Qp fs
 |.dtt l=>m.fp n=[m.ad n]/\∃vs,H (m.ad n)=Za (.dT vs)/\RepTs K H m s vs l
structure SR(K:aa)(CB:ak)(H:Hp)(m:Mp)(s:Sto):Prop where
 nd:(s.cs.map (·.1)).Nodup
 lt:∀n∈s.cs.map (·.1),n<s.nx
 ok:∀q∈s.cs,CellOk K CB H m s q.1 q.2
 dj:∀n∈s.cs.map (·.1),∀k∈s.cs.map (·.1),n≠k->∀a∈m.fp n,a∉m.fp k
 hx:∀n∈s.cs.map (·.1),∀a∈m.fp n,a∉m.hid
 hs:∀a∈m.hid,H a≠Zb/\∀xs o,H a≠Za (.tup xs)/\H a≠Za (.frz o (.tup xs))/\H a≠Za (.frz o (.lst xs))/\∀x,H a≠Za (.frz o (.own x))
 tb:∀P q,Tab K P q->P∈m.hid/\Ny H P q
def SR.tbk{K}{CB}{H H'}{m}{s}(S:SR K CB H m s)(e:TbS H H'):∀P q,Tab K P q->P∈m.hid/\Ny H' P q:=λP q t=>⟨(S.tb P q t).1,e.2 P q (S.tb P q t).2⟩
def CellOk.kind{K}{CB}{H}{m}{s}{n}{c}(h:CellOk K CB H m s n c){a}(ha:a∈m.fp n):∃o,H a=Za o/\(∀xs,o≠.tup xs)/\(∀ob xs,o≠.frz ob (.tup xs)/\o≠.frz ob (.lst xs))/\¬Odd o:=by
 cases c with
 |lst l=>obtain⟨e,vs,h,_⟩:=h;rw[e,ao] at ha;subst ha;exact⟨_,h,(by intro _ z;cases z),(λ_ _=>⟨(by intro z;cases z),(by intro z;cases z)⟩),At⟩
 |dct l=>obtain⟨e,vs,h,_⟩:=h;rw[e,ao] at ha;subst ha;exact⟨_,h,(by intro _ z;cases z),(λ_ _=>⟨(by intro z;cases z),(by intro z;cases z)⟩),ET⟩
 |dfz l=>obtain⟨e,ob,vs,h,_⟩:=h;rw[e,ao] at ha;subst ha;exact⟨_,h,(by intro _ z;cases z),(λ_ _=>⟨(by intro z;cases z),(by intro z;cases z)⟩),Ol⟩
 |obj C fs=>obtain⟨e,dx,vs,h,_⟩:=h;rw[e,ao] at ha;subst ha;exact⟨_,h,(by intro _ z;cases z),(λ_ _=>⟨(by intro z;cases z),(by intro z;cases z)⟩),JX⟩
 |dtt l=>obtain⟨e,vs,h,_⟩:=h;rw[e,ao] at ha;subst ha;exact⟨_,h,(by intro _ z;cases z),(λ_ _=>⟨(by intro z;cases z),(by intro z;cases z)⟩),no_dT⟩
 |book pp L =>
  obtain⟨z,L',B,_,e⟩:=h;rw[e] at ha;unfold My.BFp at ha;have d:∀{c:ak}{kvs:List (Key×V)},H c=Za (.dK kvs)->∃o,H c=Za o/\(∀xs,o≠.tup xs)/\(∀ob xs,o≠.frz ob (.tup xs)/\o≠.frz ob (.lst xs))/\¬Odd o:=λh=>⟨_,h,(by intro _ z;cases z),(λ_ _=>⟨(by intro z;cases z),(by intro z;cases z)⟩),ET⟩;simp only[ah] at ha;rcases ha with rfl|rfl|rfl|rfl|rfl|rfl|ha
  ·exact⟨_,B.ob,(by intro _ z;cases z),(λ_ _=>⟨(by intro z;cases z),(by intro z;cases z)⟩),JX⟩
  ·exact d B.pp
  ·exact d B.tt
  ·exact d B.mm
  ·exact d B.ll
  ·obtain⟨T,e,_⟩:=B.hh;exact d e
  ·obtain⟨q,hq,rfl⟩:=aj.mp ha;obtain⟨ts,_,h2,_⟩:=B.he q hq;exact d h2
def SR.pure_none{K}{CB}{H}{m}{s}(S:SR K CB H m s){a}(h:H a=Zb):Pur m s a:=⟨λz=>(S.hs a z).1 h,λn hn ha=>by obtain⟨q,hq,rfl⟩:=aj.mp hn;obtain⟨o,e,_⟩:=(S.ok q hq).kind ha;rw[h] at e;cases e⟩
def SR.pure_tup{K}{CB}{H}{m}{s}(S:SR K CB H m s){a}{xs}(h:H a=Za (.tup xs)):Pur m s a:=⟨λz=>((S.hs a z).2 xs default).1 h,λn hn ha=>by obtain⟨q,hq,rfl⟩:=aj.mp hn;obtain⟨o,e,k,_⟩:=(S.ok q hq).kind ha;rw[h] at e;cases e;exact k _ rfl⟩
def SR.pure_frz{K}{CB}{H}{m}{s}(S:SR K CB H m s){a}{ob}{xs}(h:H a=Za (.frz ob (.tup xs))\/H a=Za (.frz ob (.lst xs))):Pur m s a:=⟨λz=>h.elim (λh=>((S.hs a z).2 xs ob).2.1 h) λh=>((S.hs a z).2 xs ob).2.2.1 h,λn hn ha=>by
 obtain⟨q,hq,rfl⟩:=aj.mp hn;obtain⟨o,e,_,k,_⟩:=(S.ok q hq).kind ha;rcases h with h|h<;>(rw[h] at e;cases e)
 ·exact(k _ _).1 rfl
 ·exact(k _ _).2 rfl⟩
def SqT.keepX{K}{CB}{H H'}{m m'}{s s'}(S:SR K CB H m s)(e:ExtR H m s H' m' s'){t}{xs}(h:SqT K H t xs):SqT K H' t xs:=by
 rcases h with h|h
 ·exact .inl (e.pu _ _ h (h.elim (λh=>S.pure_tup h) λ⟨_,h⟩=>S.pure_frz (.inl h))).1
 ·exact .inr h
def RepFs.ext{K}{H H'}{m m'}{s s'}(e:ExtR H m s H' m' s'){a}{b}(h:RepFs K H m s a b):RepFs K H' m' s' a b:=⟨h.1,h.2.ext0 e⟩
theorem CellOk.keep{K}{CB}{H H'}{m m'}{s s'}{n}{c}(S:SR K CB H m s)(e:ExtR H m s H' m' s')(k:∀a∈m.fp n,∀o,H a=Za o->H' a=Za o)(ha:m'.ad n=m.ad n)(hf:m'.fp n=m.fp n)(h:CellOk K CB H m s n c):CellOk K CB H' m' s' n c:=by
 cases c with
 |lst l=>obtain⟨e1,vs,h,r⟩:=h;exact⟨by rw[ha,hf];exact e1,vs,by rw[ha];exact k _ (by rw[e1];simp) _ h,r.ext0 e⟩
 |dct l=>obtain⟨e1,vs,h,r⟩:=h;exact⟨by rw[ha,hf];exact e1,vs,by rw[ha];exact k _ (by rw[e1];simp) _ h,r.ext0 e⟩
 |dfz l=>obtain⟨e1,ob,vs,h,r⟩:=h;exact⟨by rw[ha,hf];exact e1,ob,vs,by rw[ha];exact k _ (by rw[e1];simp) _ h,r.ext0 e⟩
 |obj C fs=>obtain⟨e1,dx,vs,h,r⟩:=h;exact⟨by rw[ha,hf];exact e1,dx,vs,by rw[ha];exact k _ (by rw[e1];simp) _ h,RepFs.ext e r⟩
 |dtt l=>obtain⟨e1,vs,h,r⟩:=h;exact⟨by rw[ha,hf];exact e1,vs,by rw[ha];exact k _ (by rw[e1];simp) _ h,⟨r.1,r.2.ext0 e⟩⟩
 |book pp L =>
  obtain⟨z,L',B,e1,e2⟩:=h;rw[e2] at k;have kb:∀a∈My.BFp (m.ad n) z L',∀o,H a=Za o->H' a=Za o:=k;refine⟨z,L',?_,e1,by rw[ha,hf];exact e2⟩;rw[ha];refine⟨kb _ (by simp[My.BFp]) _ B.ob,kb _ (by simp[My.BFp]) _ B.pp,kb _ (by simp[My.BFp]) _ B.tt,kb _ (by simp[My.BFp]) _ B.mm,kb _ (by simp[My.BFp]) _ B.ll,B.hh.keep (λo h=>kb _ (by simp[My.BFp]) _ h),λq hq=>?_,B.nd,B.p6,B.h8⟩;obtain⟨ts,h1,h2,h3⟩:=B.he q hq;refine⟨ts,h1,kb _ ?_ _ h2,λy hy=>(h3 y hy).keepX S e⟩;unfold My.BFp;simp only[ah];right;right;right;right;right;right;exact aj.mpr ⟨q,hq,rfl⟩
theorem SR.same{K}{CB}{H H'}{m}{s}(S:SR K CB H m s)(k:Same H H'):SR K CB H' m s :=
 ⟨S.nd,S.lt,λq hq=>(S.ok q hq).keep S (Ext.same k).toExtR (λa _ o h=>k a o h) rfl rfl,S.dj,S.hx,λa ha=>by
  obtain⟨h1,h2⟩:=S.hs a ha;cases e:H a with
  |none=>exact absurd e h1
  |some o =>
   rw[k a o e];rw[e] at h2;exact⟨by simp,h2⟩,S.tbk (.same k)⟩
theorem SR.get{K}{CB}{H}{m}{s}(S:SR K CB H m s){n}{c}(h:s.get n=Za c):CellOk K CB H m s n c:=S.ok _ (oF h)
def Mp.fput(m:Mp)(n:Nat)(f':List ak):Mp:=⟨m.ad,λj=>if j=n then f' else m.fp j,m.hid⟩
def SR.hsk{K}{CB}{H H'}{m}{s}(S:SR K CB H m s)(k:∀a∈m.hid,∀o,H a=Za o->(∀ps,o≠.tbl ps)->H' a=Za o)(kt:TbS H H'):∀a∈m.hid,H' a≠Zb/\∀xs o,H' a≠Za (.tup xs)/\H' a≠Za (.frz o (.tup xs))/\H' a≠Za (.frz o (.lst xs))/\∀x,H' a≠Za (.frz o (.own x)):=λa ha=>by
 obtain⟨h1,h2⟩:=S.hs a ha;cases e:H a with
 |none=>exact absurd e h1
 |some o =>
  by_cases t:∃ps,o=.tbl ps
  ·obtain⟨ps,t⟩:=t;rw[t] at e;obtain⟨RT,e'⟩:=kt.1 a ps e;rw[e'];exact⟨by simp,λ_ _=>⟨by simp,by simp,by simp,by simp⟩⟩
  rw[k a ha o e λps z=>t ⟨ps,z⟩];rw[e] at h2;exact⟨by simp,h2⟩
def SR.put'{K}{CB}{H}{m}{s}(S:SR K CB H m s){n}{c c'}(hn:s.get n=Za c)(H')(f')(k:∀a o,H a=Za o->a∉m.fp n->H' a=Za o)(Qh:∀a∈f',a∈m.fp n\/H a=Zb)(hok:ExtR H m s H' (m.fput n f') (s.set n c')->CellOk K CB H' (m.fput n f') (s.set n c') n c') :
  SR K CB H' (m.fput n f') (s.set n c')/\ExtR H m s H' (m.fput n f') (s.set n c')/\((∀l,c≠.dfz l)->Ext H m s H' (m.fput n f') (s.set n c')):=by
 have P5:n∈s.cs.map (·.1):=aj.mpr ⟨_,oF hn,rfl⟩;have hkd:∀a∈m.hid,∀o,H a=Za o->(∀ps,o≠.tbl ps)->H' a=Za o:=λa ha o h _=>k a o h λz=>S.hx n P5 a z ha;have htb:TbS H H':=.of λa o h od=>k a o h λz=>by obtain⟨o',e',_,_,no⟩:=(S.get hn).kind z;rw[h] at e';cases e';exact no od
 have hx:ExtR H m s H' (m.fput n f') (s.set n c'):=by
  refine⟨ap _,λ_ _=>rfl,λa u h p=>?_,λa u h _ p=>k _ _ h (p.2 n P5)⟩;have PL:∃o,H a=Za o:=h.elim (λh=>⟨_,h⟩) λ⟨o,h⟩=>⟨_,h⟩;refine⟨h.elim (λh=>.inl (k _ _ h (p.2 n P5))) λ⟨o,h⟩=>.inr ⟨o,k _ _ h (p.2 n P5)⟩,p.1,λj hj hm=>?_⟩;have hm:a∈(if j=n then f' else m.fp j):=hm;have Ru:j∈s.cs.map (·.1):=by rw[<-pL (n:=n) (c:=c')];exact hj
  by_cases e:j=n
  ·simp only[e,Zc] at hm;rcases Qh a hm with z|z
   ·exact p.2 n P5 z
   ·obtain⟨o,ho⟩:=PL;rw[z] at ho;cases ho
  ·simp only[Zd e] at hm;exact p.2 j Ru hm
 refine⟨⟨?_,?_,λq hq=>?_,λj hj i hi PL a ha hb=>?_,λj hj a ha hb=>?_,S.hsk hkd htb,S.tbk htb⟩,hx,λhnd=>⟨⟨hx,λj l hj h=>?_⟩,rfl,hkd⟩⟩
 ·show((sV n c' s.cs).map (·.1)).Nodup;rw[pL];exact S.nd
 ·intro j hj;have Ru:j∈s.cs.map (·.1):=by rw[<-pL (n:=n) (c:=c')];exact hj
  exact S.lt j Ru
 ·rcases DC S.nd hq with rfl|⟨hq,PL⟩
  ·exact hok hx
  ·refine(S.ok q hq).keep S hx (λa ha o h=>k a o h (S.dj _ (aj.mpr ⟨q,hq,rfl⟩) _ P5 PL a ha)) rfl ?_;show(if q.1=n then f' else m.fp q.1)=_;rw[Zd PL]
 ·have ha:a∈(if j=n then f' else m.fp j):=ha;have hb:a∈(if i=n then f' else m.fp i):=hb;have Ru:j∈s.cs.map (·.1):=by rw[<-pL (n:=n) (c:=c')];exact hj
  have R8:i∈s.cs.map (·.1):=by rw[<-pL (n:=n) (c:=c')];exact hi
  have PN:∀j∈s.cs.map (·.1),∀a∈m.fp j,H a≠none:=λj hj a ha z=>by obtain⟨q,hq,rfl⟩:=aj.mp hj;obtain⟨o,e,_⟩:=(S.ok q hq).kind ha;rw[z] at e;cases e
  by_cases e1:j=n
  ·have e2:i≠n:=λz=>PL (e1.trans z.symm);simp only[e1,Zc] at ha;simp only[Zd e2] at hb;rcases Qh a ha with z|z
   ·exact S.dj _ P5 _ R8 (λz=>e2 z.symm) a z hb
   ·exact PN i R8 a hb z
  ·simp only[Zd e1] at ha;by_cases e2:i=n
   ·simp only[e2,Zc] at hb;rcases Qh a hb with z|z
    ·exact S.dj _ Ru _ P5 e1 a ha z
    ·exact PN j Ru a ha z
   ·simp only[Zd e2] at hb;exact S.dj _ Ru _ R8 PL a ha hb
 ·have ha:a∈(if j=n then f' else m.fp j):=ha;have Ru:j∈s.cs.map (·.1):=by rw[<-pL (n:=n) (c:=c')];exact hj
  by_cases e1:j=n
  ·rw[Zc e1] at ha;rcases Qh a ha with z|z
   ·exact S.hx n P5 a z hb
   ·exact(S.hs a hb).1 z
  ·rw[Zd e1] at ha;exact S.hx j Ru a ha hb
 ·have hjn:j≠n:=λz=>by subst z;have h:s.get j=Za (.dfz l):=h;rw[hn] at h;exact hnd l (aO h)
  refine⟨(tY hjn).trans h,λo ho=>?_⟩;obtain⟨e1,_⟩:=S.ok _ (oF h);exact k _ _ ho (S.dj j (aj.mpr ⟨_,oF h,rfl⟩) n P5 hjn _ (by rw[e1];simp))
def SR.put{K}{CB}{H}{m}{s}(S:SR K CB H m s){n}{c c'}(hn:s.get n=Za c)(hnd:∀l,c≠.dfz l)(H')(f')(k:∀a o,H a=Za o->a∉m.fp n->H' a=Za o)(Qh:∀a∈f',a∈m.fp n\/H a=Zb)(hok:ExtR H m s H' (m.fput n f') (s.set n c')->CellOk K CB H' (m.fput n f') (s.set n c') n c'):SR K CB H' (m.fput n f') (s.set n c')/\Ext H m s H' (m.fput n f') (s.set n c') :=
 let⟨a,_,b⟩:=S.put' hn H' f' k Qh hok;⟨a,b hnd⟩
def Mp.add(m:Mp)(n:Nat)(p:ak)(f:List ak):Mp:=⟨λj=>if j=n then p else m.ad j,λj=>if j=n then f else m.fp j,m.hid⟩
theorem SR.add{K}{CB}{H}{m}{s}(S:SR K CB H m s){c}(H')(p)(f)(k:Same H H')(hf:∀a∈f,H a=Zb)(hok:Ext H m s H' (m.add s.nx p f) (s.add c)->CellOk K CB H' (m.add s.nx p f) (s.add c) s.nx c) :
  SR K CB H' (m.add s.nx p f) (s.add c)/\Ext H m s H' (m.add s.nx p f) (s.add c):=by
 have Pt:∀j∈s.cs.map (·.1),j≠s.nx:=λj hj=>aF (S.lt j hj);have PN:∀j∈s.cs.map (·.1),∀a∈m.fp j,H a≠none:=λj hj a ha z=>by obtain⟨q,hq,rfl⟩:=aj.mp hj;obtain⟨o,e,_⟩:=(S.ok q hq).kind ha;rw[z] at e;cases e
 have hx:Ext H m s H' (m.add s.nx p f) (s.add c):=by
  refine⟨⟨⟨fL _,λj hj=>?_,λa u h q=>⟨h.same k,q.1,λj hj hm=>?_⟩,λa u h _ _=>k _ _ h⟩,λj l hj h=>⟨?_,λo ho=>k _ _ ho⟩⟩,rfl,λa _ o h _=>k a o h⟩
  rotate_left 2
  ·show p4 ((s.nx,c)::s.cs) j=_;unfold p4;rw[Zd (λz=>aF hj z.symm)];exact h
  ·show(if j=s.nx then p else m.ad j)=_;rw[Zd (aF hj)]
  ·have hm:a∈(if j=s.nx then f else m.fp j):=hm;rcases ah.mp (show j∈s.nx::s.cs.map (·.1) from hj) with e|hj
   ·rw[Zc e] at hm;have:=hf a hm;rcases h with h|⟨o,h⟩<;>(rw[this] at h;cases h)
   ·rw[Zd (Pt j hj)] at hm;exact q.2 j hj hm
 have QK:∀j∈s.cs.map (·.1),(m.add s.nx p f).fp j=m.fp j:=λj hj=>by show(if j=s.nx then f else m.fp j)=_;rw[Zd (Pt j hj)]
 have QP:(m.add s.nx p f).fp s.nx=f:=by show(if s.nx=s.nx then f else _)=_;rw[Zc rfl]
 refine⟨⟨?_,?_,λq hq=>?_,λj hj i hi PL a ha hb=>?_,λj hj a ha hb=>?_,S.hsk hx.hk (.same k),S.tbk (.same k)⟩,hx⟩
 ·exact ay.mpr ⟨λz=>Pt _ z rfl,S.nd⟩
 ·intro j hj;rcases ah.mp (show j∈s.nx::s.cs.map (·.1) from hj) with e|hj
  ·rw[e];exact cC _
  ·exact cj (S.lt j hj)
 ·rcases ah.mp (show q∈(s.nx,c)::s.cs from hq) with rfl|hq
  ·exact hok hx
  ·have Td:q.1∈s.cs.map (·.1):=aj.mpr ⟨q,hq,rfl⟩;exact(S.ok q hq).keep S hx.toExtR (λa ha o h=>k a o h) (hx.ad _ (S.lt _ Td)) (QK _ Td)
 ·rcases ah.mp (show j∈s.nx::s.cs.map (·.1) from hj) with e|hj<;>rcases ah.mp (show i∈s.nx::s.cs.map (·.1) from hi) with e'|hi
  ·exact PL (e.trans e'.symm)
  ·rw[e,QP] at ha;rw[QK i hi] at hb;exact PN i hi a hb (hf a ha)
  ·rw[QK j hj] at ha;rw[e',QP] at hb;exact PN j hj a ha (hf a hb)
  ·rw[QK j hj] at ha;rw[QK i hi] at hb;exact S.dj j hj i hi PL a ha hb
 ·rcases ah.mp (show j∈s.nx::s.cs.map (·.1) from hj) with e|hj
  ·rw[e,QP] at ha;exact(S.hs a hb).1 (hf a ha)
  ·rw[QK j hj] at ha;exact S.hx j hj a ha hb
theorem SR.del{K}{CB}{H}{m}{s}(S:SR K CB H m s)(n)(hnd:∀l,s.get n≠Za (.dfz l)):SR K CB H m (s.del n)/\Ext H m s H m (s.del n):=by
 have P5:∀j∈(s.del n).cs.map (·.1),j∈s.cs.map (·.1):=λj hj=>by obtain⟨q,hq,rfl⟩:=aj.mp hj;exact aj.mpr ⟨q,uA hq,rfl⟩
 have hx:Ext H m s H m (s.del n):=⟨⟨⟨ap _,λ_ _=>rfl,λa u h p=>⟨h,p.1,λj hj=>p.2 j (P5 j hj)⟩,λ_ _ h _ _=>h⟩,λj l hj h=>⟨(xA (λz=>hnd l (by rw[<-z];exact h))).trans h,λo h=>h⟩⟩,rfl,λ_ _ _ h _=>h⟩;exact⟨⟨Go S.nd,λj hj=>S.lt j (P5 j hj),λq hq=>(S.ok q (uA hq)).keep S hx.toExtR (λ_ _ _ h=>h) rfl rfl,λj hj i hi=>S.dj j (P5 j hj) i (P5 i hi),λj hj=>S.hx j (P5 j hj),S.hs,S.tb⟩,hx⟩
inductive Out (α:Type) where
 |ok (a:α) (s:Sto)|ex (c:ak) (s:Sto)|bad
noncomputable def Out.bind{α β:Type}(o:Out α)(k:α->Sto->Out β):Out β:=match o with
 |.ok a s=>k a s
 |.ex c s=>.ex c s
 |.bad=>.bad
abbrev En:=List (Option PV)
abbrev XE:=En->Sto->Out PV
abbrev XT:=En->Sto->Out Bool
abbrev XA:=En->Sto->Out (List PV)
inductive SO where
 |nx (Z:En) (s:Sto)|rt (v:PV) (s:Sto)|bk (Z:En) (s:Sto)|ct (Z:En) (s:Sto)|ex (c:ak) (s:Sto)|bad
abbrev XS:=En->Sto->SO
def Post{α β:Type}(K:aa)(CB:ak)(R:Hp->Mp->Sto->β->α->Prop)(E:XK)(o:Out α)(H:Hp)(m:Mp)(s:Sto)(Q:β->Hp->Prop):Prop:=match o with
 |.ok v s'=>∀u H' m',Ext H m s H' m' s'->SR K CB H' m' s'->R H' m' s' u v->Q u H'
 |.ex c s'=>∀H' m',Ext H m s H' m' s'->SR K CB H' m' s'->E (.ref c) Zb H'
 |.bad=>False
def Post.shift{α β:Type}{K}{CB}{R}{E}{o:Out α}{H H1}{m m1}{s s1}{Q:β->Hp->Prop}(e:Ext H m s H1 m1 s1)(h:Post K CB R E o H m s Q):Post K CB R E o H1 m1 s1 Q:=by
 cases o with
 |ok v s'=>exact λu H' m' x S r=>h u H' m' (e.trans x) S r
 |ex c s'=>exact λH' m' x S=>h H' m' (e.trans x) S
 |bad=>exact h
theorem Post.bind{α β α' β':Type}{K}{CB}{R}{R'}{E}{o:Out α}{k:α->Sto->Out α'}{H}{m}{s}{Q:β'->Hp->Prop}{Q1:β->Hp->Prop}(h:Post K CB R' E (o.bind k) H m s Q)(f:∀v s1 u H1 m1,Ext H m s H1 m1 s1->SR K CB H1 m1 s1->R H1 m1 s1 u v->Post K CB R' E (k v s1) H1 m1 s1 Q->Q1 u H1):Post K CB R E o H m s Q1:=by
 cases o with
 |ok v s1=>exact λu H1 m1 x S r=>f v s1 u H1 m1 x S r (Post.shift x h)
 |ex c s'=>exact h
 |bad=>exact h
def Post.here{α β:Type}{K}{CB}{R}{E}{v:α}{H}{m}{s}{Q:β->Hp->Prop}{u:β}(h:Post K CB R E (.ok v s) H m s Q)(S:SR K CB H m s)(r:R H m s u v):Q u H:=h u H m .refl S r
def Post.new{α β:Type}{K}{CB}{R}{E}{v:α}{H}{m}{s}{Q:β->Hp->Prop}{u:β}{p}{o}(h:Post K CB R E (.ok v s) H m s Q)(S:SR K CB H m s)(hp:H p=Zb)(r:Ext H m s (upd H p o) m s->SR K CB (upd H p o) m s->R (upd H p o) m s u v):Q u (upd H p o):=by
 have k:Same H (upd H p o):=My.rS hp;exact h u _ m (.same k) (S.same k) (r (.same k) (S.same k))
structure ER(K:aa)(H:Hp)(m:Mp)(s:Sto)(O:St)(Z:En):Prop where
 len:Z.length=O.length
 at_:∀(i:Nat)(p:PV),Z[i]?=Za (Za p)->∃u,O[i]?=Za (Za u)/\Rep K H m s u p
theorem ER.ext{K}{H H'}{m m'}{s s'}{O}{Z}(h:ER K H m s O Z)(e:Ext H m s H' m' s'):ER K H' m' s' O Z :=
 ⟨h.len,λi p q=>let⟨u,a,b⟩:=h.at_ i p q;⟨u,a,b.ext e⟩⟩
theorem ER.set{K}{H}{m}{s}{O}{Z}{u}{p}(h:ER K H m s O Z)(i)(r:Rep K H m s u p):ER K H m s (O.set i (Za u)) (Z.set i (Za p)):=by
 refine⟨by simp[h.len],λj q e=>?_⟩;rw[List.getElem?_set] at e ⊢;by_cases c:i=j
 ·rw[Zc c] at e ⊢;by_cases d:i<Z.length
  ·rw[Zc d] at e;rw[Zc (by rw[<-h.len];exact d)];cases e;exact⟨u,rfl,r⟩
  ·rw[Zd d] at e;cases e
 ·rw[Zd c] at e ⊢;exact h.at_ j q e
def ER.cons{K}{H}{m}{s}{O}{Z}{u}{p}(h:ER K H m s O Z)(r:Rep K H m s u p):ER K H m s (Za u::O) (Za p::Z):=by
 refine⟨by simp[h.len],λj q e=>?_⟩;cases j with
 |zero=>simp at e;subst e;exact⟨u,rfl,r⟩
 |succ j=>exact h.at_ j q (by simpa using e)
theorem ER.start{K}{H}{m}{s}:∀{vs:List V}{ps:List PV},Reps K H m s vs ps->∀n,ER K H m s (vs.map Za++aR n Zb) (ps.map Za++aR n Zb)
 |_,_,.nil,n=>⟨by simp,λi p e=>by
   have e:(aR n (Zb:Option PV))[i]?=Za (Za p):=by simpa using e
   rw[gE] at e;split at e<;>cases e⟩
 |_,_,.cons a b,n=>(ER.start b n).cons a
def m8(ix:List Nat)(Z:En):En:=ix.map λi=>(Z[i]?).getD Zb
theorem ER.capt{K}{H}{m}{s}{O}{Z}(h:ER K H m s O Z)(ix):ER K H m s (capt ix O) (m8 ix Z):=by
 refine⟨by simp[L2.capt,m8],λj q e=>?_⟩;unfold m8 at e;unfold L2.capt;rw[aC] at e ⊢;cases c:ix[j]? with
 |none=>rw[c] at e;cases e
 |some i =>
  rw[c] at e;have e:(Z[i]?).getD Zb=Za q:=aO e;cases d:Z[i]? with
  |none=>rw[d] at e;cases e
  |some o =>
   rw[d] at e;have e:o=Za q:=e;subst e;obtain⟨u,h1,h2⟩:=h.at_ i q d;refine⟨u,?_,h2⟩;show Za ((O[i]?).getD Zb)=_;rw[h1];rfl
def TDE(K:aa)(CB:ak)(E:XK)(f:XE):TE:=λO H Q=>∃Z s m,ER K H m s O Z/\SR K CB H m s/\Post K CB (Rep K) E (f Z s) H m s Q
def TDT(K:aa)(CB:ak)(E:XK)(f:XT):TT:=λO H Q=>∃Z s m,ER K H m s O Z/\SR K CB H m s/\Post K CB (λ_ _ _ u v=>u=v) E (f Z s) H m s Q
def TDA(K:aa)(CB:ak)(E:XK)(f:XA):TA:=λO H Q=>∃Z s m,ER K H m s O Z/\SR K CB H m s/\Post K CB (Reps K) E (f Z s) H m s Q
def PostS(K:aa)(CB:ak)(E:XK)(o:SO)(H:Hp)(m:Mp)(s:Sto)(D:Ends):Prop:=match o with
 |.nx ρ' s'=>∀σ' H' m',Ext H m s H' m' s'->SR K CB H' m' s'->ER K H' m' s' σ' ρ'->D.nx σ' H'
 |.rt v s'=>∀u H' m',Ext H m s H' m' s'->SR K CB H' m' s'->Rep K H' m' s' u v->D.rt u H'
 |.bk ρ' s'=>∀σ' H' m',Ext H m s H' m' s'->SR K CB H' m' s'->ER K H' m' s' σ' ρ'->D.bk σ' H'
 |.ct ρ' s'=>∀σ' H' m',Ext H m s H' m' s'->SR K CB H' m' s'->ER K H' m' s' σ' ρ'->D.ct σ' H'
 |.ex c s'=>∀H' m',Ext H m s H' m' s'->SR K CB H' m' s'->E (.ref c) Zb H'
 |.bad=>False
def TDS(K:aa)(CB:ak)(E:XK)(g:XS):TS:=λD O H=>∃Z s m,ER K H m s O Z/\SR K CB H m s/\PostS K CB E (g Z s) H m s D
def oE{K:aa}{CB:ak}{H:Hp}{O:St}{Zj:En->Sto->Mp->Prop}{R:Prop}(k:∀Z s m,ER K H m s O Z->SR K CB H m s->Zj Z s m->R)(h:∃Z s m,ER K H m s O Z/\SR K CB H m s/\Zj Z s m):R:=h.elim λZ h=>h.elim λs h=>h.elim λm h=>k Z s m h.1 h.2.1 h.2.2
structure DE(X:Cx)(CB:ak)(E:XK)(e:bo)(f:XE):Prop where
 pe:PE X e (TDE X.K CB E f)
structure DT(X:Cx)(CB:ak)(E:XK)(e:bo)(f:XT):Prop where
 pt:PT X e (TDT X.K CB E f)
structure DW(X:Cx)(CB:ak)(E:XK)(e:bo)(f:XT):Prop where
 pw:PW X e (TDT X.K CB E f)
structure DA(X:Cx)(CB:ak)(E:XK)(es:List bo)(f:XA):Prop where
 pa:PA X es (TDA X.K CB E f)
structure DS(X:Cx)(CB:ak)(E:XK)(st:bR)(g:XS):Prop where
 ps:PS X st (TDS X.K CB E g)
structure DSs(X:Cx)(CB:ak)(E:XK)(st:List bR)(g:XS):Prop where
 pss:PSs X st (TDS X.K CB E g)
def PE.mono(h:PE X e t)(k:∀O H Q,t' O H Q->t O H Q):PE X e t':=λPf s O H Q I q=>h Pf s O H Q I (k O H Q q)
def PT.mono(h:PT X e t)(k:∀O H Q,t' O H Q->t O H Q):PT X e t':=λPf s O H Q I q=>h Pf s O H Q I (k O H Q q)
def PW.mono(h:PW X e t)(k:∀O H Q,t' O H Q->t O H Q):PW X e t':=λw Pf s O H Q I q=>h w Pf s O H Q I (k O H Q q)
def PA.mono(h:PA X e t)(k:∀O H Q,t' O H Q->t O H Q):PA X e t':=λpos Pf s O H Q I q=>h pos Pf s O H Q I (k O H Q q)
def PS.mono(h:PS X e t)(k:∀D O H,t' D O H->t D O H):PS X e t':=λPf s O H D I q=>h Pf s O H D I (k D O H q)
def PSs.mono(h:PSs X e t)(k:∀D O H,t' D O H->t D O H):PSs X e t':=λPf s O H D I q=>h Pf s O H D I (k D O H q)
def xVar(i:Nat)(Z:En)(s:Sto):Out PV:=match Z[i]? with
 |some (Za p)=>.ok p s
 |_=>.bad
def xC(p:PV)(_:En)(s:Sto):Out PV:=.ok p s
def x1(f:XE)(F:PV->Sto->Out PV)(Z:En)(s:Sto):Out PV:=(f Z s).bind F
def x2(f g:XE)(F:PV->PV->Sto->Out PV)(Z:En)(s:Sto):Out PV:=(f Z s).bind λv s1=>(g Z s1).bind λw s2=>F v w s2
def xNil(_:En)(s:Sto):Out (List PV):=.ok [] s
def xCons(f:XE)(g:XA)(Z:En)(s:Sto):Out (List PV):=(f Z s).bind λv s1=>(g Z s1).bind λvs s2=>.ok (v::vs) s2
section
variable{X:Cx}{CB:ak}{E:XK}{a b c e:bo}{es:List bo}{f g h:XE}{fa:XA}{p pos Pg:Pos}{x:Str}
def Op2(K:aa)(CB:ak)(E:XK)(r:R2)(F:PV->PV->Sto->Out PV):Prop:=∀H m s v w x y Q,SR K CB H m s->Rep K H m s x v->Rep K H m s y w->Post K CB (Rep K) E (F v w s) H m s Q->r x y H Q
def Op1(K:aa)(CB:ak)(E:XK)(r:V->Hp->VK->Prop)(F:PV->Sto->Out PV):Prop:=∀H m s v x Q,SR K CB H m s->Rep K H m s x v->Post K CB (Rep K) E (F v s) H m s Q->r x H Q
def OpN(K:aa)(CB:ak)(E:XK)(r:List V->Hp->VK->Prop)(F:List PV->Sto->Out PV):Prop:=∀H m s v x Q,SR K CB H m s->Reps K H m s x v->Post K CB (Rep K) E (F v s) H m s Q->r x H Q
def two{r}{F}(o:Op2 X.K CB E r F){O}{H}{Q}(q:TDE X.K CB E (x2 f g F) O H Q):tOp r (TDE X.K CB E f) (TDE X.K CB E g) O H Q:=by obtain⟨Z,s,m,er,S,P⟩:=q;exact⟨Z,s,m,er,S,P.bind λv s1 u H1 m1 e1 S1 r1 P1=>⟨Z,s1,m1,er.ext e1,S1,P1.bind λw s2 u2 H2 m2 e2 S2 r2 P2=>o H2 m2 s2 v w u u2 Q S2 (r1.ext e2) r2 P2⟩⟩
def lA(i)(hN:X.N[i]?=Za x:=by rfl)(hv:Vis X.env.scope x:=by first|exact fA rfl|exact g7 (fA rfl)|exact g7 (g7 rfl))(hd:NDb x:=by decide)(QA:(x==("__classdict__":Str))=false:=by decide):DE X CB E (.Name x pos) (xVar i):=⟨(JQ hN hv hd QA).mono λO H Q=>oE λZ s m er S P=>by
 unfold xVar at P;split at P
 ·rename_i q hq;obtain⟨u,h1,h2⟩:=er.at_ i q hq;exact⟨u,h1,P.here S h2⟩
 ·exact P.elim⟩
def lM{i}{j}:DE X CB E (.Constant (.int i) j pos) (xC (.int i)):=⟨pe_int.mono λO H Q=>oE λZ s m er S P=>P.here S .int⟩
def Fa{i}{j}:DE X CB E (.Constant (.bool i) j pos) (xC (.bl i)):=⟨pe_bl.mono λO H Q=>oE λZ s m er S P=>P.here S .bl⟩
def FB{i}{j}:DE X CB E (.Constant (.str i) j pos) (xC (.str i)):=⟨pe_str.mono λO H Q=>oE λZ s m er S P=>P.here S .str⟩
def zk(ho:OpR X (dE op) r)(o:Op2 X.K CB E r F)(ha:DE X CB E a f)(hb:DE X CB E b g):DE X CB E (.BinOp a op b pos) (x2 f g F):=⟨(tf ho ha.pe hb.pe).mono λO H Q q=>two o q⟩
def de_un(ho:UnR X (unaryOp op) r)(o:Op1 X.K CB E r F)(ha:DE X CB E a f):DE X CB E (.UnaryOp op a pos) (x1 f F):=⟨(M8 ho ha.pe).mono λO H Q=>oE λZ s m er S P =>
 ⟨Z,s,m,er,S,P.bind λv s1 u H1 m1 e1 S1 r1 P1=>o H1 m1 s1 v u Q S1 r1 P1⟩⟩
def de_cmp(ho:OpR X (bS op) r)(o:Op2 X.K CB E r F)(ha:DE X CB E a f)(hb:DE X CB E b g)(hm:cR op b=false):DE X CB E (.Compare a [op] [b] pos) (x2 f g F):=⟨(FW ho ha.pe hb.pe hm).mono λO H Q q=>two o q⟩
def xTr(f:XE)(Z:En)(s:Sto):Out Bool:=(f Z s).bind λv s1=>match v with
 |.bl b=>.ok b s1
 |_=>.bad
def TDT.tst{O}{H}{Q}(q:TDT X.K CB E (xTr f) O H Q):TDE X.K CB E f O H λx H1=>∃k,x=.bl k/\Q k H1:=by obtain⟨Z,s,m,er,S,P⟩:=q;refine⟨Z,s,m,er,S,P.bind λv s1 u H1 m1 e1 S1 r1 P1=>?_⟩;cases r1<;>first|exact P1.elim|exact⟨_,rfl,P1.here S1 rfl⟩
def dt_cmp(ho:OpR X (bS op) r)(o:Op2 X.K CB E r F)(ha:DE X CB E a f)(hb:DE X CB E b g)(hm:cR op b=false):DT X CB E (.Compare a [op] [b] pos) (xTr (x2 f g F)):=⟨(uR ho ha.pe hb.pe hm).mono λO H Q q=>two o (TDT.tst q)⟩
def Ay(h:DE X CB E e f)(he:∀whole,isTrue e X.env whole=(do let v <-whole;gc e.pos;holding [v] (truthy v)):=by intro _;rfl):DT X CB E e (xTr f):=⟨(vN h.pe he).mono λO H Q q=>TDT.tst q⟩
def xChain(f g h:XE)(F G:PV->PV->Sto->Out PV)(Z:En)(s:Sto):Out PV:=(f Z s).bind λv s1=>(g Z s1).bind λw s2=>(F v w s2).bind λz s3=>match z with
 |.bl true=>(h Z s3).bind λy s4=>G w y s4
 |.bl false=>.ok (.bl false) s3
 |_=>.bad
def xNot(f:XT)(Z:En)(s:Sto):Out Bool:=(f Z s).bind λb s1=>.ok (!b) s1
def xAnd(f g:XT)(Z:En)(s:Sto):Out Bool:=(f Z s).bind λb s1=>if b=true then g Z s1 else .ok false s1
def xOr(f g:XT)(Z:En)(s:Sto):Out Bool:=(f Z s).bind λb s1=>if b=true then .ok true s1 else g Z s1
variable{t u:XT}{pQ:List bo}
def Kd(h:DT X CB E a t):DT X CB E (.UnaryOp .Not a pos) (xNot t):=⟨(Ai h.pt).mono λO H Q=>oE λZ s m er S P =>
 ⟨Z,s,m,er,S,P.bind λv s1 b H1 m1 e1 S1 r1 P1=>by cases r1;exact P1.here S1 rfl⟩⟩
def Mg(h:DT X CB E a t):DW X CB E (.BoolOp .And [a] pos) t:=⟨Lb h.pt⟩
def Kb(h:DT X CB E a t):DW X CB E (.BoolOp .Or [a] pos) t:=⟨JO h.pt⟩
def OI(h:DT X CB E a t)(k:DW X CB E (.BoolOp .And (b::pQ) pos) u):DW X CB E (.BoolOp .And (a::b::pQ) pos) (xAnd t u):=⟨(NQ h.pt k.pw).mono λO H Q=>oE λZ s m er S P =>
 ⟨Z,s,m,er,S,P.bind λv s1 b H1 m1 e1 S1 r1 P1=>by
  cases r1;refine uY (λc=>?_) λc=>?_
  ·rw[Zc c] at P1;exact⟨Z,s1,m1,er.ext e1,S1,P1⟩
  ·rw[Zd c] at P1;exact P1.here S1 rfl⟩⟩
def Nt(h:DT X CB E a t)(k:DW X CB E (.BoolOp .Or (b::pQ) pos) u):DW X CB E (.BoolOp .Or (a::b::pQ) pos) (xOr t u):=⟨(M6 h.pt k.pw).mono λO H Q=>oE λZ s m er S P =>
 ⟨Z,s,m,er,S,P.bind λv s1 b H1 m1 e1 S1 r1 P1=>by
  cases r1;refine uY (λc=>?_) λc=>?_
  ·rw[Zc c] at P1;exact P1.here S1 rfl
  ·rw[Zd c] at P1;exact⟨Z,s1,m1,er.ext e1,S1,P1⟩⟩⟩
def DW.dt(h:DW X CB E a t):DT X CB E a t:=⟨h.pw.pt⟩
def xAndV(f g:XE)(Z:En)(s:Sto):Out PV:=(f Z s).bind λv s1=>match v with
 |.bl true=>g Z s1
 |.bl false=>.ok (.bl false) s1
 |_=>.bad
def xOrV(f g:XE)(Z:En)(s:Sto):Out PV:=(f Z s).bind λv s1=>match v with
 |.bl true=>.ok (.bl true) s1
 |.bl false=>g Z s1
 |_=>.bad
def xNotV(f:XE)(Z:En)(s:Sto):Out PV:=(f Z s).bind λv s1=>match v with
 |.bl b=>.ok (.bl (!b)) s1
 |_=>.bad
def OP(h:DE X CB E a f):DE X CB E (.BoolOp op [a] pos) f:=⟨Fm h.pe⟩
def Kg(h:DE X CB E a f)(k:DE X CB E (.BoolOp .And (b::pQ) pos) g):DE X CB E (.BoolOp .And (a::b::pQ) pos) (xAndV f g):=⟨(JT h.pe k.pe).mono λO H Q=>oE λZ s m er S P =>
 ⟨Z,s,m,er,S,P.bind λv s1 b H1 m1 e1 S1 r1 P1=>by
  cases r1 with
  |bl =>
   rename_i b;cases b
   ·exact⟨_,rfl,LX (P1.here S1 .bl)⟩
   ·exact⟨_,rfl,LW ⟨Z,s1,m1,er.ext e1,S1,P1⟩⟩
  |_=>exact P1.elim⟩⟩
def AA:DA X CB E [] xNil:=⟨pa_nil.mono λO H Q=>oE λZ s m er S P=>P.here S .nil⟩
def lL(ha:DE X CB E e f)(hr:DA X CB E es fa)(hs:SEb X e es:=by rfl):DA X CB E (e::es) (xCons f fa):=⟨(lS ha.pe hr.pa hs).mono λO H Q=>oE λZ s m er S P =>
 ⟨Z,s,m,er,S,P.bind λv s1 u H1 m1 e1 S1 r1 P1=>⟨Z,s1,m1,er.ext e1,S1,P1.bind λw s2 u2 H2 m2 e2 S2 r2 P2=>P2.here S2 (.cons (r1.ext e2) r2)⟩⟩⟩
def lI(ha:DE X CB E e f)(hs:aB [e] X.env=(false,eval e X.env)::aB [] X.env:=by rfl):DA X CB E [e] (xCons f xNil):=lL ha AA hs
theorem Reps.length{K}{H}{m}{s}:∀{vs:List V}{l:List PV},Reps K H m s vs l->vs.length=l.length
 |_,_,.nil=>rfl
 |_,_,.cons _ b=>congrArg Nat.succ b.length
def sz5(h:n<=100000):n<=aI:=aH h (by decide)
def sz6(h:n<100000):n<aI:=aA h (by decide)
def xTup(fa:XA)(Z:En)(s:Sto):Out PV:=(fa Z s).bind λvs s1=>if vs.length<=100000 then .ok (.tup vs) s1 else .bad
def xLst(fa:XA)(Z:En)(s:Sto):Out PV:=(fa Z s).bind λvs s1=>if vs.length<=100000 then .ok (.lst vs) s1 else .bad
def xLstC(fa:XA)(Z:En)(s:Sto):Out PV:=(fa Z s).bind λvs s1=>if vs.length<=100000 then .ok (.ref s1.nx) (s1.add (.lst vs)) else .bad
def rg{x1}(h:DA X CB E es fa):DE X CB E (.Tuple es x1 pos) (xTup fa):=⟨(vO h.pa).mono λO H Q=>oE λZ s m er S P =>
 ⟨Z,s,m,er,S,P.bind λv s1 u H1 m1 e1 S1 r1 P1=>by
  split at P1
  ·rename_i hl;exact⟨by rw[r1.length];exact sz5 hl,λp hp=>P1.new S1 hp λex S'=>.tup (.inl ⟨.inl lJ,S'.pure_tup lJ⟩) (r1.ext ex)⟩
  ·exact P1.elim⟩⟩
def vf(h:DA X CB E es fa):DE X CB E (.List es pos) (xLst fa):=⟨(JR h.pa).mono λO H Q=>oE λZ s m er S P =>
 ⟨Z,s,m,er,S,P.bind λv s1 u H1 m1 e1 S1 r1 P1=>by
  split at P1
  ·rename_i hl;exact⟨by rw[r1.length];exact sz5 hl,λp hp=>P1.new S1 hp λex S'=>.lst lJ (S1.pure_none hp) (r1.ext ex)⟩
  ·exact P1.elim⟩⟩
def SR.newL{K}{H}{m}{s}{vs}{l}{p}(S:SR K CB H m s)(hp:H p=Zb)(r:Reps K H m s vs l):SR K CB (upd H p (.lst vs)) (m.add s.nx p [p]) (s.add (.lst l))/\Ext H m s (upd H p (.lst vs)) (m.add s.nx p [p]) (s.add (.lst l)) :=
 S.add _ p [p] (My.rS hp) (λa ha=>by rw[ao.mp ha];exact hp) λex=>by
  have e1:(m.add s.nx p [p]).ad s.nx=p:=by show(if s.nx=s.nx then p else _)=_;rw[Zc rfl]
  have e2:(m.add s.nx p [p]).fp s.nx=[p]:=by show(if s.nx=s.nx then [p] else _)=_;rw[Zc rfl]
  exact⟨by rw[e1,e2],vs,by rw[e1];exact lJ,r.ext ex⟩
def SR.newD{K}{H H'}{m}{s}{vs}{l}{p}(S:SR K CB H m s)(hp:H p=Zb)(k:Same H H')(hd:H' p=Za (.dK vs))(r:RepKs K H m s vs l):SR K CB H' (m.add s.nx p [p]) (s.add (.dct l))/\Ext H m s H' (m.add s.nx p [p]) (s.add (.dct l)) :=
 S.add _ p [p] k (λa ha=>by rw[ao.mp ha];exact hp) λex=>by
  have e1:(m.add s.nx p [p]).ad s.nx=p:=by show(if s.nx=s.nx then p else _)=_;rw[Zc rfl]
  have e2:(m.add s.nx p [p]).fp s.nx=[p]:=by show(if s.nx=s.nx then [p] else _)=_;rw[Zc rfl]
  exact⟨by rw[e1,e2],vs,by rw[e1];exact hd,r.ext ex⟩
def Mp.add_ad{m:Mp}{n:Nat}{p:ak}{f:List ak}:(m.add n p f).ad n=p:=by show(if n=n then p else _)=_;rw[Zc rfl]
def Rep.new{K:aa}{H:Hp}{m:Mp}{s:Sto}{p:ak}{f:List ak}{c:Cell}:Rep K H (m.add s.nx p f) (s.add c) (.ref p) (.ref s.nx):=by have h:Rep K H (m.add s.nx p f) (s.add c) (.ref ((m.add s.nx p f).ad s.nx)) (.ref s.nx):=.ref (cC _);rw[Mp.add_ad] at h;exact h
def zl(h:DA X CB E es fa):DE X CB E (.List es pos) (xLstC fa):=⟨(JR h.pa).mono λO H Q=>oE λZ s m er S P =>
 ⟨Z,s,m,er,S,P.bind λv s1 u H1 m1 e1 S1 r1 P1=>by
  split at P1
  ·rename_i hl;refine⟨by rw[r1.length];exact sz5 hl,λp hp=>?_⟩;obtain⟨S2,e2⟩:=S1.newL hp r1;exact P1 _ _ _ e2 S2 .new
  ·exact P1.elim⟩⟩
end
end L2
namespace Fra
def Cop(a b:Int):Prop:=aD a b=1
def Low(q:Int×Int):Prop:=0<q.2/\Cop q.1 q.2
def red(q:Int×Int):Int×Int:=(q.1/(aD q.1 q.2:Int),q.2/(aD q.1 q.2:Int))
def Cop.symm(h:Cop a b):Cop b a:=by unfold Cop at *;rw[Int.gcd_comm];exact h
def qC(d:a∣a')(h:Cop a' b):Cop a b:=Nat.Coprime.coprime_dvd_left (fD.mpr d) h
def zp(h1:Cop a c)(h2:Cop b c):Cop (a*b) c:=by unfold Cop aD at *;rw[iz];exact Nat.Coprime.mul_left h1 h2
def CI(h:Cop a b)(d:a∣b*c):a∣c:=by have d':=fD.mpr d;rw[iz] at d';exact fD.mp (Nat.Coprime.dvd_of_dvd_mul_left h d')
def Gq(h:Cop a b):Cop (a+k*b) b:=by
 unfold Cop at *;have g1:(aD (a+k*b) b:Int)∣a+k*b:=fJ ..;have g2:(aD (a+k*b) b:Int)∣b:=cm ..;have g3:(aD (a+k*b) b:Int)∣a:=by
  have:=Int.dvd_sub g1 (Int.dvd_trans g2 (Int.dvd_mul_left k b));have e:a+k*b-k*b=a:=by lia
  rw[e] at this;exact this
 have g4:=Int.dvd_gcd g3 g2;rw[h] at g4;exact Nat.dvd_one.mp g4
def yX(hp:Low p)(hq:Low q)(h:p.1*q.2=q.1*p.2):p=q:=by obtain⟨a,b⟩:=p;obtain⟨c,d⟩:=q;obtain⟨h1,h2⟩:=hp;obtain⟨h3,h4⟩:=hq;simp only at h h1 h2 h3 h4;have d1:b∣d:=CI h2.symm ⟨c,by rw[h];exact br _ _⟩;have d2:d∣b:=CI h4.symm ⟨a,by rw[<-h];exact br _ _⟩;have e:b=d:=Int.dvd_antisymm (by lia) (by lia) d1 d2;subst e;have:a=c:=ei (by lia) h;rw[this]
def sW(h:0<q.2):Low (red q)/\(red q).1*q.2=q.1*(red q).2:=by
 obtain⟨a,b⟩:=q;simp only at h;have hg:0<aD a b:=bH _ (by lia);obtain⟨u,hu⟩:(aD a b:Int)∣a:=fJ ..;obtain⟨v,hv⟩:(aD a b:Int)∣b:=cm ..;have eu:a/(aD a b:Int)=u:=jC (by lia) hu;have ev:b/(aD a b:Int)=v:=jC (by lia) hv;have hc:Cop u v:=by
  have e:aD ((aD a b:Int)*u) ((aD a b:Int)*v)=aD a b*aD u v:=by rw[jg];rfl
  rw[<-hu,<-hv] at e;unfold Cop;have:aD a b*aD u v=aD a b*1:=by lia
  exact gu hg this
 have hv0:0<v:=by
  by_cases z:0<v
  ·exact z
  ·have:(aD a b:Int)*v<=0:=eZ (by lia) (by lia);lia
 unfold red;simp only;rw[eu,ev];refine⟨⟨hv0,hc⟩,?_⟩;show u*b=a*v;have e1:u*b=u*((aD a b:Int)*v):=by rw[<-hv]
 have e2:a*v=(aD a b:Int)*u*v:=by rw[<-hu]
 rw[e1,e2,br (aD a b:Int) u,aT]
def NO(hp:Low p)(hq:0<q.2)(h:p.1*q.2=q.1*p.2):p=red q:=by
 obtain⟨r1,r2⟩:=sW hq;refine yX hp r1 ?_;have e:p.1*(red q).2*q.2=(red q).1*p.2*q.2:=by rw[eY,h,eY q.1,<-r2,eY]
 exact ei (by lia) e
def addK(p q:Int×Int):Int×Int :=
 let d:Int:=aD p.2 q.2;let t:=p.1*(q.2/d)+q.1*(p.2/d);let e:Int:=aD t d
 (t/e,p.2/d*(q.2/e))
def nz(p q:Int×Int):Int×Int:=red (p.1*q.2+q.1*p.2,p.2*q.2)
def MP(hp:Low p)(hq:Low q):addK p q=nz p q:=by
 obtain⟨n1,b1⟩:=p;obtain⟨n2,b2⟩:=q;obtain⟨h1,h2⟩:=hp;obtain⟨h3,h4⟩:=hq;simp only at h1 h2 h3 h4;unfold addK nz;simp only;have hd:0<aD b1 b2:=bH _ (by lia);obtain⟨u,hu⟩:(aD b1 b2:Int)∣b1:=fJ ..;obtain⟨v,hv⟩:(aD b1 b2:Int)∣b2:=cm ..;have huv:Cop u v:=by
  have e:aD ((aD b1 b2:Int)*u) ((aD b1 b2:Int)*v)=aD b1 b2*aD u v:=by rw[jg];rfl
  rw[<-hu,<-hv] at e;have:aD b1 b2*aD u v=aD b1 b2*1:=by lia
  exact gu hd this
 generalize hD:(aD b1 b2:Int)=d at *;have d0:0<d:=by lia
 subst hu;subst hv;rw[cP _ (by lia:d≠0),cP _ (by lia:d≠0)];have pos:∀{x:Int},0<d*x->0<x:=λ{x} hx=>by
  by_cases z:0<x
  ·exact z
  ·have:d*x<=0:=eZ (by lia) (by lia);lia
 have u0:=pos h1;have v0:=pos h3;have VH:Cop (n1*v+n2*u) u:=Gq (zp (qC (Int.dvd_refl _) (qC ⟨d,br _ _⟩ h2.symm).symm) huv.symm);have VG:Cop (n1*v+n2*u) v:=by rw[Int.add_comm];exact Gq (zp (qC ⟨d,br _ _⟩ h4.symm).symm huv)
 generalize hT:n1*v+n2*u=t at *;have he:0<aD t d:=bH _ (by lia);obtain⟨t',ht⟩:(aD t d:Int)∣t:=fJ ..;obtain⟨e',hE⟩:(aD t d:Int)∣d:=cm ..;have cte:Cop t' e':=by
  have e:aD ((aD t d:Int)*t') ((aD t d:Int)*e')=aD t d*aD t' e':=by rw[jg];rfl
  rw[<-ht,<-hE] at e;have:aD t d*aD t' e'=aD t d*1:=by lia
  exact gu he this
 generalize hG:(aD t d:Int)=g at *;have g0:0<g:=by lia
 have e0:0<e':=by
  by_cases z:0<e'
  ·exact z
  ·have:g*e'<=0:=eZ (by lia) (by lia);lia
 have q1:t/g=t':=by rw[ht];exact cP _ (by lia)
 have q2:d*v/g=e'*v:=by rw[hE,aT];exact cP _ (by lia)
 rw[q1,q2];refine NO ⟨bI u0 (bI e0 v0),?_⟩ (bI h1 h3) ?_
 ·have d1:t'∣t:=⟨g,by rw[ht];exact br _ _⟩;exact(zp (qC d1 VH).symm (zp cte.symm (qC d1 VG).symm)).symm
 ·show t'*(d*u*(d*v))=(n1*(d*v)+n2*(d*u))*(u*(e'*v));have e1:n1*(d*v)+n2*(d*u)=d*t:=by rw[<-hT,Int.mul_add,fz,fz n2]
  rw[e1];have e2:d*t*(u*(e'*v))=d*(g*t')*(u*(e'*v)):=by rw[<-ht]
  have e3:t'*(d*u*(d*v))=t'*(d*u*(g*e'*v)):=by rw[<-hE]
  rw[e2,e3];simp only[aT,fz,br]
def Ej(hp:Low p)(hq:Low q):Low (nz p q):=(sW (bI hp.1 hq.1)).1
end Fra
namespace L2
open PySem PySem.Spec PyProof.Rows
def lsOf(s:Sto):PV->Option (List PV)
 |.lst l=>Za l
 |.seq l=>Za l
 |.ref n=>match s.get n with
  |some (.lst l)=>Za l
  |_=>Zb
 |_=>Zb
def dcOf(s:Sto):PV->Option (List (Key×PV))
 |.dct l=>Za l
 |.ref n=>match s.get n with
  |some (.dct l)=>Za l
  |some (.dfz l)=>Za l
  |_=>Zb
 |_=>Zb
def kyOf:PV->Option Key
 |.int i=>Za (.inl i)
 |.str x=>Za (.inr x)
 |_=>Zb
def toV:PV->Option V
 |.non=>Za .non
 |.bl b=>Za (.bl b)
 |.int i=>Za (.int i)
 |.str x=>Za (.str x)
 |_=>Zb
def toVs:List PV->Option (List V)
 |[]=>Za []
 |p::l=>match toV p,toVs l with
  |some v,Za vs=>Za (v::vs)
  |_,_=>Zb
def pP(l:List (Key×PV))(k:Key):Option PV:=(l.find? λkv=>decide (kv.1=k)).map (·.2)
def xw(l:List (Key×PV))(k:Key)(p:PV):List (Key×PV) :=
 if(l.any λkv=>decide (kv.1=k))=true then l.map (λkv=>if kv.1=k then(kv.1,p) else kv) else l++[(k,p)]
def vG(f:PV->Option jE):List PV->Option (List jE)
 |[]=>Za []
 |p::l=>match f p,vG f l with
  |some d,Za ds=>Za (d::ds)
  |_,_=>Zb
def PV.data(s:Sto):Nat->PV->Option jE
 |0,_=>Zb
 |_+1,.non=>Za .none
 |_+1,.bl b=>Za (.bool b)
 |_+1,.int i=>Za (.int i)
 |_+1,.str x=>if bc x=true then Za (.str x) else Zb
 |k+1,.tup l=>(vG (PV.data s k) l).map .tuple
 |k+1,.lst l=>(vG (PV.data s k) l).map .list
 |k+1,.seq l=>(vG (PV.data s k) l).map .list
 |k+1,.ref n=>match s.get n with
  |some (.lst l)=>(vG (PV.data s k) l).map .list
  |_=>Zb
 |_+1,_=>Zb
section
variable{K:aa}{CB:ak}{H:Hp}{m:Mp}{s:Sto}{x y:V}{v w:PV}
def Rep.ls(S:SR K CB H m s)(r:Rep K H m s x v)(e:lsOf s v=Za l):∃a vs,x=.ref a/\SqL K H a vs/\Reps K H m s vs l:=by
 cases r with
 |lst h _ q=>cases e;exact⟨_,_,rfl,SqL.of h,q⟩
 |seq h q=>cases e;exact⟨_,_,rfl,h.elim (λz=>.inl (.inr z.1)) .inr,q⟩
 |ref h =>
  rename_i n;have e:(match s.get n with|some (.lst l)=>Za l|_=>Zb)=Za l:=e;split at e<;>cases e
  rename_i hg;obtain⟨_,vs,h1,h2⟩:=S.get hg;exact⟨_,vs,rfl,SqL.of h1,h2⟩
 |_=>cases e
def Rep.tp(r:Rep K H m s x (.tup l)):∃a vs,x=.ref a/\SqT K H a vs/\Reps K H m s vs l:=by
 cases r with
 |tup h q=>exact⟨_,_,rfl,h.elim (λz=>.inl z.1) .inr,q⟩
def Rep.dc(S:SR K CB H m s)(r:Rep K H m s x v)(e:dcOf s v=Za l):∃a vs,x=.ref a/\Rd H a (.dK vs)/\RepKs K H m s vs l:=by
 cases r with
 |dct h _ q=>cases e;exact⟨_,_,rfl,h,q⟩
 |ref h =>
  rename_i n;have e:(match s.get n with|some (.dct l)=>Za l|some (.dfz l)=>Za l|_=>Zb)=Za l:=e;split at e<;>cases e
  ·rename_i hg;obtain⟨_,vs,h1,h2⟩:=S.get hg;exact⟨_,vs,rfl,.inl h1,h2⟩
  ·rename_i hg;obtain⟨_,ob,vs,h1,h2⟩:=S.get hg;exact⟨_,vs,rfl,.inr ⟨ob,h1⟩,h2⟩
 |_=>cases e
theorem Rep.toV(r:Rep K H m s x v)(e:L2.toV v=Za z):x=z:=by cases r<;>first|cases e;rfl|cases e
theorem Reps.toVs:∀{vs:List V}{l:List PV}{zs:List V},Reps K H m s vs l->L2.toVs l=Za zs->vs=zs
 |_,_,_,.nil,e=>by cases e;rfl
 |_,_,_,.cons a b,e=>by
  unfold L2.toVs at e;split at e<;>cases e
  rename_i h1 h2;rw[a.toV h1,b.toVs h2]
def zE{v}(e:L2.toV v=Za z):sP z=true:=by cases v<;>first|cases e;rfl|cases e
theorem wP:∀{l:List PV}{zs:List V},L2.toVs l=Za zs->zs.all sP=true
 |[],_,e=>by cases e;rfl
 |p::l,_,e=>by
  unfold L2.toVs at e;split at e<;>cases e
  rename_i h1 h2;rw[iG,zE h1,wP h2];rfl
theorem Reps.get:∀{vs:List V}{l:List PV}{i:Nat}{p:PV},Reps K H m s vs l->l[i]?=Za p->∃u,vs[i]?=Za u/\Rep K H m s u p
 |_,_,_,_,.nil,e=>by simp at e
 |_,_,0,_,.cons a _,e=>by simp at e;subst e;exact⟨_,rfl,a⟩
 |_,_,i+1,p,.cons _ b,e=>by obtain⟨u,h1,h2⟩:=b.get (i:=i) (p:=p) (by simpa using e);exact⟨u,by simpa using h1,h2⟩
theorem Reps.atI(r:Reps K H m s vs l)(e:L2.atI l i=Za p):∃u,L2.atI vs i=Za u/\Rep K H m s u p:=by
 unfold L2.atI at e ⊢;rw[r.length];cases c:ixN l.length i with
 |none=>rw[c] at e;cases e
 |some j=>rw[c] at e;exact r.get e
theorem Reps.append:∀{vs ws:List V}{l k:List PV},Reps K H m s vs l->Reps K H m s ws k->Reps K H m s (vs++ws) (l++k)
 |_,_,_,_,.nil,q=>q
 |_,_,_,_,.cons a b,q=>.cons a (b.append q)
theorem Reps.drop:∀{vs:List V}{l:List PV}(n:Nat),Reps K H m s vs l->Reps K H m s (vs.drop n) (l.drop n)
 |_,_,0,r=>r
 |_,_,_+1,.nil=>.nil
 |_,_,n+1,.cons _ b=>b.drop n
theorem Reps.take:∀{vs:List V}{l:List PV}(n:Nat),Reps K H m s vs l->Reps K H m s (vs.take n) (l.take n)
 |_,_,0,_=>.nil
 |_,_,_+1,.nil=>.nil
 |_,_,n+1,.cons a b=>.cons a (b.take n)
theorem Reps.set:∀{vs:List V}{l:List PV}{u:V}{p:PV}(i:Nat),Reps K H m s vs l->Rep K H m s u p->Reps K H m s (vs.set i u) (l.set i p)
 |_,_,_,_,_,.nil,_=>.nil
 |_,_,_,_,0,.cons _ b,r=>.cons r b
 |_,_,_,_,i+1,.cons a b,r=>.cons a (b.set i r)
theorem Reps.strs:∀{vs:List V}{ss:List Str},Reps K H m s vs (ss.map PV.str)->vs=ss.map V.str
 |_,[],.nil=>rfl
 |_,x::ss,.cons a b=>by cases a;rw[Reps.strs (ss:=ss) b];rfl
theorem Reps.ofStrs:∀(ss:List Str),Reps K H m s (ss.map V.str) (ss.map PV.str)
 |[]=>.nil
 |_::r=>.cons .str (Reps.ofStrs r)
theorem RepKs.keys:∀{vs:List (Key×V)}{l:List (Key×PV)},RepKs K H m s vs l->vs.map (·.1)=l.map (·.1)
 |_,_,.nil=>rfl
 |_,_,.cons _ b=>by simp[b.keys]
theorem RepKs.length(r:RepKs K H m s vs l):vs.length=l.length:=by have:=congrArg b7 r.keys;simpa using this
theorem RepKs.val:∀{vs:List (Key×V)}{l:List (Key×PV)}(k:Key),RepKs K H m s vs l->(∀p,pP l k=Za p->∃u,oo vs k=Za u/\Rep K H m s u p)/\(pP l k=Zb->oo vs k=Zb)
 |_,_,k,.nil=>⟨λp e=>(by cases e),λ_=>rfl⟩
 |_,_,k,.cons (k:=q) (p:=p0) (v:=v0) a b=>by
  by_cases e:q=k
  ·refine⟨λp h=>⟨v0,vW e,?_⟩,λh=>?_⟩
   ·unfold pP at h;simp[e] at h;subst h;exact a
   ·unfold pP at h;simp[e] at h
  ·rw[vX e];have h2:∀{l:List (Key×PV)},pP ((q,p0)::l) k=pP l k:=λ{l}=>by unfold pP;simp[e]
   rw[h2];exact b.val k
theorem RepKs.any(r:RepKs K H m s vs l)(k):(vs.any λkv=>decide (kv.1=k))=l.any λkv=>decide (kv.1=k):=by
 have h:∀{β:Type}(l:List (Key×β)),(l.any λkv=>decide (kv.1=k))=(l.map (·.1)).any λj=>decide (j=k):=λl=>by rw[gN];rfl
 rw[h,h,r.keys]
theorem RepKs.mapput:∀{vs:List (Key×V)}{l:List (Key×PV)}{u:V}{p:PV}(k:Key),RepKs K H m s vs l->Rep K H m s u p->RepKs K H m s (vs.map λkv=>if kv.1=k then(kv.1,u) else kv) (l.map λkv=>if kv.1=k then(kv.1,p) else kv)
 |_,_,_,_,_,.nil,_=>.nil
 |_,_,u,p,k,.cons (k:=q) a b,r=>by
  rw[am,am];by_cases e:q=k
  ·rw[Zc e,Zc e];exact .cons r (b.mapput k r)
  ·rw[Zd e,Zd e];exact .cons a (b.mapput k r)
theorem RepKs.append:∀{vs ws:List (Key×V)}{l k:List (Key×PV)},RepKs K H m s vs l->RepKs K H m s ws k->RepKs K H m s (vs++ws) (l++k)
 |_,_,_,_,.nil,q=>q
 |_,_,_,_,.cons a b,q=>.cons a (b.append q)
def RepKs.put(k)(q:RepKs K H m s vs l)(r:Rep K H m s u p):RepKs K H m s (pA vs k u) (xw l k p):=by
 unfold pA xw;rw[q.any];split
 ·exact q.mapput k r
 ·exact q.append (.cons r .nil)
def pY(r:Rep K H m s x v)(e:kyOf v=Za k):x=kV k:=by cases r<;>first|cases e;rfl|cases e
end
section
variable{X:Cx}{CB:ak}{E:XK}
theorem Reps.readss{sh:ax}{H:Hp}{m:Mp}{s:Sto}{k:Nat}(ih:∀{v:V}{p:PV}{u:ai}{d:jE},Rep X.K H m s v p->RelV v u->PV.data s k p=Za d->(∃as,Reads sh.heap u d as)/\d.canLay0=true/\d.depth<=k) :
  ∀{v:List V}{p:List PV}{u:List ai}{d:List jE},Reps X.K H m s v p->Vals v u->vG (PV.data s k) p=Za d->(∃as,ReadsAll sh.heap u.toArray.toList d as)/\kY d=true/\PyData.depthAll d<=k
 |_,_,_,_,.nil,.nil,e=>by unfold vG at e;cases e;exact⟨⟨_,.nil⟩,rfl,aZ _⟩
 |_,_,_,_,.cons a b,.cons r rs,e=>by
  unfold vG at e;split at e<;>cases e
  rename_i h1 h2;obtain⟨⟨as,r1⟩,r2,r3⟩:=ih a r h1;obtain⟨⟨bs,q1⟩,q2,q3⟩:=Reps.readss ih b rs h2;refine⟨⟨_,.cons r1 (by simpa using q1)⟩,by unfold kY;rw[r2,q2];rfl,?_⟩;unfold PyData.depthAll;lia
theorem Rep.reads(I:Inv X Pf O H sh)(S:SR X.K CB H m s):∀(k:Nat){v:V}{p:PV}{u:ai}{d:jE},Rep X.K H m s v p->RelV v u->PV.data s k p=Za d ->
  (∃as,Reads sh.heap u d as)/\d.canLay0=true/\d.depth<=k
 |0,_,p,_,_,_,_,e=>by cases p<;>(unfold PV.data at e;cases e)
 |k+1,_,_,_,_,.non,ru,e=>by cases ru;unfold PV.data at e;cases e;exact⟨⟨_,.none⟩,rfl,aZ _⟩
 |k+1,_,_,_,_,.bl,ru,e=>by cases ru;unfold PV.data at e;cases e;exact⟨⟨_,.bool _⟩,rfl,aZ _⟩
 |k+1,_,_,_,_,.int,ru,e=>by obtain⟨t,rfl⟩:=ru;unfold PV.data at e;cases e;exact⟨⟨_,.int _ _⟩,rfl,aZ _⟩
 |k+1,_,_,_,_,.str,ru,e=>by
  obtain⟨t,rfl⟩:=ru;unfold PV.data at e;split at e<;>cases e
  rename_i h;exact⟨⟨_,.str _ _⟩,h,aZ _⟩
 |k+1,_,_,_,_,.tup (l:=l) h q,ru,e=>by
  cases ru;unfold PV.data at e;cases c:vG (PV.data s k) l with
  |none=>rw[c] at e;cases e
  |some ds =>
   rw[c] at e;cases e;obtain⟨its,rv,⟨o,g1,g2,n,g3⟩,_⟩:=I.tuple (h.elim (λz=>(.inl z.1:SqT X.K H _ _)) .inr);obtain⟨⟨as,r1⟩,r2,r3⟩:=Reps.readss (Rep.reads I S k) q rv c;exact⟨⟨_,.tuple g1 g2 g3 r1⟩,by unfold g5;exact r2,by unfold iI;lia⟩
 |k+1,_,_,_,_,.lst (l:=l) h _ q,ru,e=>by
  cases ru;unfold PV.data at e;cases c:vG (PV.data s k) l with
  |none=>rw[c] at e;cases e
  |some ds =>
   rw[c] at e;cases e;obtain⟨its,rv,⟨o,n,g1,g2,_,g3⟩,_⟩:=I.list (SqL.of h);obtain⟨⟨as,r1⟩,r2,r3⟩:=Reps.readss (Rep.reads I S k) q rv c;exact⟨⟨_,.list g1 g2 g3 r1⟩,by unfold g5;exact r2,by unfold iI;lia⟩
 |k+1,_,_,_,_,.seq (l:=l) h q,ru,e=>by
  cases ru;unfold PV.data at e;cases c:vG (PV.data s k) l with
  |none=>rw[c] at e;cases e
  |some ds =>
   rw[c] at e;cases e;obtain⟨its,rv,⟨o,n,g1,g2,_,g3⟩,_⟩:=I.list (h.elim (λz=>(.inl (.inr z.1):SqL X.K H _ _)) .inr);obtain⟨⟨as,r1⟩,r2,r3⟩:=Reps.readss (Rep.reads I S k) q rv c;exact⟨⟨_,.list g1 g2 g3 r1⟩,by unfold g5;exact r2,by unfold iI;lia⟩
 |k+1,_,_,_,_,.dct _ _ _,_,e=>by unfold PV.data at e;cases e
 |k+1,_,_,_,_,.exc _ _,_,e=>by unfold PV.data at e;cases e
 |k+1,_,_,_,_,.clo _,_,e=>by unfold PV.data at e;cases e
 |k+1,_,_,_,_,.ref _,ru,e=>by
  cases ru;unfold PV.data at e;split at e<;>first|cases e|skip
  rename_i l hg;cases c:vG (PV.data s k) l with
  |none=>rw[c] at e;cases e
  |some ds =>
   rw[c] at e;cases e;obtain⟨_,vs,h1,q⟩:=S.get hg;obtain⟨its,rv,⟨o,n,g1,g2,_,g3⟩,_⟩:=I.list (SqL.of h1);obtain⟨⟨as,r1⟩,r2,r3⟩:=Reps.readss (Rep.reads I S k) q rv c;exact⟨⟨_,.list g1 g2 g3 r1⟩,by unfold g5;exact r2,by unfold iI;lia⟩
def Bt(k:Nat)(n:Int):Prop:=n.natAbs<2^k
def Bt.mono(h:Bt k n)(hl:k<=l):Bt l n:=aA h (b8 (by decide) hl)
def Bt.mul(h:Bt k n)(g:Bt l m):Bt (k+l) (n*m):=by
 unfold Bt at *;rw[iz,iu];by_cases z:m.natAbs=0
 ·rw[z,Nat.mul_zero];exact k7 (cW k) (cW l)
 ·exact aA (Nat.mul_lt_mul_of_pos_right h (Nat.pos_of_ne_zero z)) (lv _ (dM g))
def Bt.add(h:Bt k n)(g:Bt k m):Bt (k+1) (n+m):=by unfold Bt at *;have:=Int.natAbs_add_le n m;rw[gS];lia
def Bt.neg(h:Bt k n):Bt k (-n):=by unfold Bt at *;rw[iy];exact h
def Bt.div(h:Bt k n):Bt k (n/d):=aQ (Int.natAbs_ediv_le_natAbs n d) h
def Bt.dvd(h:Bt k n)(hn:n≠0)(hd:d∣n):Bt k d:=aQ (Nat.le_of_dvd (by lia) (fD.mpr hd)) h
def Bt.log(h:Bt 9000 n)(h0:0<n):n.natAbs.log2<9000:=(Nat.log2_lt (by lia)).mpr h
def Eh(h:Bt 20000 i):bW i<=2^20:=by
 unfold bW;split
 ·exact aZ _
 ·rename_i z;have z:i≠0:=by simpa using z
  have:=(Nat.log2_lt (by lia:i.natAbs≠0)).mpr h;lia
def op_mulB:OpR X (dE .Mult) (rI (λi j=>Bt 20000 i/\Bt 20000 j) λi j=>.int (i*j)):=opI λ_ _ _ _ _ _ _ hc q=>mul_int q (.of_bits (Eh hc.1) (Eh hc.2))
def Ks(K:aa):R2:=λx y H Q=>∃l b xs zs,x=.ref l/\y=.ref b/\SqL K H l xs/\SqL K H b zs/\xs.length+zs.length<=aI/\∀p,H p=Zb->Q (.ref p) (upd H p (.lst (xs++zs)))
def Lv:OpR X (dE .Add) (Ks X.K):=by
 intro Pf s O H x y v u Q I rx ry h;obtain⟨l,b,xs,zs,rfl,rfl,hH,hB,hz,q⟩:=h;cases rx;cases ry;obtain⟨its,r,ht,_⟩:=I.list hH;obtain⟨Ql,r2,Ta,_⟩:=I.list hB;have l1:=r.length;have l2:=r2.length;obtain⟨⟨cls,dd,data,sl⟩,n,ho,hc,_,hd⟩:=ht;obtain⟨⟨cls2,VE,data2,SL⟩,n2,Rs,RH,_,Sy⟩:=Ta;simp only at hc hd RH Sy;subst hc hd RH Sy;refine concat_meets ⟨_,ho,rfl⟩ ⟨_,Rs,rfl⟩ noFill_list_add seq_list_add PySem.F.slot_list_add PySem.F.entry_list_add (PySem.F.args_list_add_2 _ _) (list_addW l b its.toArray Ql.toArray n n2 dd VE sl SL (by rw[aN,aN];lia)) ⟨ho,Rs,?_⟩;have ea:its.toArray++Ql.toArray=(its++Ql).toArray:=by simp
 rw[ea];exact⟨.ref _,_,I.lnew (t':=s.toks) (r.append r2) (by rw[aJ];lia),rfl,q _ I.fresh⟩
def NP:V->List V->Hp->VK->Prop:=λx vs H Q=>∃(l:ak)(ss:List Str)(y:Str)(j:Nat),x=.ref l/\vs=[.str y]/\H l=Za (.lst (ss.map V.str))/\ss[j]?=Za y/\(∀m,m<j->ss[m]?≠Za y)/\ss.length<1000/\Q (.int (j:Nat)) H
def IT:MtM X "list.index" NP:=by
 intro Pf s O H x vs v us Q I rx rv h;obtain⟨l,ss,y,j,rfl,rfl,hH,hj,QJ,Pk,q⟩:=h;cases rx;obtain⟨u,rfl,ru⟩:=rv.one;obtain⟨t,rfl⟩:=ru;obtain⟨z,its,n,r,hl,e⟩:=I.lstM hH;rw[ac] at hl;have UT:∀m (hm:m<its.toArray.size),∃z tz,its.toArray[m]=.str z tz/\ss[m]?=Za z:=λm hm=>by
  have RD:m<ss.length:=by rw[hl];simpa using hm
  obtain⟨u,hu,ru⟩:=r.get (i:=m) (x:=.str ss[m]) (by simp[RD]);obtain⟨tz,rfl⟩:=ru;refine⟨ss[m],tz,?_,by simp[RD]⟩;have:its[m]?=Za its.toArray[m]:=by simp[show m<its.length by simpa using hm]
  rw[hu] at this;exact(aO this).symm
 have jl:j<its.toArray.size:=by have:=(aW.mp hj).1;rw[aN];lia
 refine ip jz ⟨_,e,rfl⟩ PySem.F.entry_list_index (PySem.F.args_list_index_2 _ _)
  (SeqAt.list_indexAt l its.toArray n _ _ (.str y t) (λv=>match v with|.str z _=>decide (z=y)|_=>false) j jl (by rw[aN] at jl;lia) ?_ ?_) ⟨e,λw hw=>?_,⟨.int j,H,I.tok _,⟨_,rfl⟩,q⟩⟩
 ·obtain⟨z',tz,e1,e2⟩:=UT j jl;rw[e1];rw[hj] at e2;exact Zg (aO e2).symm
 ·intro m hm Pt;obtain⟨z',tz,e1,e2⟩:=UT m hm;rw[e1];exact Zh λw=>QJ m Pt (by rw[e2,w])
 ·obtain⟨m,hm,rfl⟩:=Array.getElem_of_mem hw;obtain⟨z',tz,e1,e2⟩:=UT m hm;rw[e1];exact Fw (show RelV (.str z') (.str z' tz) from⟨tz,rfl⟩) (show RelV (.str y) (.str y t) from⟨t,rfl⟩) rfl rfl
def O6:R2:=λx y H Q=>∃a v,x=.ref a/\DGet H a y (Za v)/\Q v H
def LV(hu:X.A.units+1<eR):IxR X O6:=by
 intro value Py Pf s O H x y v u Q I rx ry h hs;obtain⟨a,z,rfl,g,q⟩:=h;obtain rfl:v=bi a:=rx;have hT:=xK I g;unfold ja;refine aq ?_;rw[getitemInPython_of_ne hT.not_modules];refine aq (wpAny_specialOf hT jh.lookup ?_);have PX:aS (model X.prog X.w) X.A (subscripted Py false (.ref a) u) (λr Pl=>aS (model X.prog X.w) X.A (letTemporaryGo value (.ref a) r >>= λ_=>pure r) (EP X Pf O Q) X.xe Pl) X.xe s:=by rw[hs];exact wpAny_operating (bN (Bz hu I g ry λw' s3 I3 P4=>(⟨z,H,I3,P4,q⟩:EP X Pf O Q w' s3)) (λr Pl SA=>aq (wpAny_letTemporaryGo (aM SA))) λ_ _ x=>x)
 first
  |exact aM (aq PX)
  |exact aq (aM (aq PX))
  |exact aq PX
def rInD:R2:=λy x H Q=>∃a o,x=.ref a/\DGet H a y o/\Q (.bl o.isSome) H
def K9:R2:=λy x H Q=>∃a o,x=.ref a/\DGet H a y o/\Q (.bl (!o.isSome)) H
def EK(hu:X.A.units+1<eR):OpR X (bS .In) rInD:=by intro Pf s O H y x v u Q I ry rx h;obtain⟨a,o,rfl,g,q⟩:=h;obtain rfl:u=bi a:=rx;exact d_in hu I g ry λs3 I3=>⟨.bl o.isSome,H,I3,rfl,q⟩
def Am(hu:X.A.units+1<eR):OpR X (bS .NotIn) K9:=by intro Pf s O H y x v u Q I ry rx h;obtain⟨a,o,rfl,g,q⟩:=h;obtain rfl:u=bi a:=rx;exact MG hu I g ry λs3 I3=>⟨.bl (!o.isSome),H,I3,rfl,q⟩
def HC:CallR X (.builtin "len") (λxs H Q=>∃a kvs,xs=[V.ref a]/\Rd H a (.dK kvs)/\Q (.int kvs.length) H):=by intro Pf s O H xs us Q I r h;obtain⟨a,kvs,rfl,ha,q⟩:=h;obtain⟨u,rfl,ru⟩:=qI r;cases ru;exact Nv I ha λt s' I'=>⟨.int kvs.length,H,I',⟨t,rfl⟩,q⟩
def O7(K:aa)(CB:ak)(neg:Bool):R2:=λx y H Q=>∃m s v w d e,SR K CB H m s/\Rep K H m s x v/\Rep K H m s y w/\PV.data s 12 v=Za d/\PV.data s 12 w=Za e/\Q (.bl (if neg then !bu d e else bu d e)) H
def Oc{CB}(hu:X.A.units+12<eR):OpR X (bS .Eq) (O7 X.K CB false):=by intro Pf s O H x y v u Q I rx ry h;obtain⟨m,t,p,q,d,e,S,r1,r2,e1,e2,k⟩:=h;obtain⟨⟨as,a1⟩,a2,a3⟩:=r1.reads I S 12 rx e1;obtain⟨⟨bs,b1⟩,b2,b3⟩:=r2.reads I S 12 ry e2;exact SeqAt.rcAt_reads a1 b1 a2 b2 (by lia) _ _ _ _ ⟨.bl _,H,I,rfl,k⟩
def N8{CB}(hu:X.A.units+12<eR):OpR X (bS .NotEq) (O7 X.K CB true):=by intro Pf s O H x y v u Q I rx ry h;obtain⟨m,t,p,q,d,e,S,r1,r2,e1,e2,k⟩:=h;obtain⟨⟨as,a1⟩,a2,a3⟩:=r1.reads I S 12 rx e1;obtain⟨⟨bs,b1⟩,b2,b3⟩:=r2.reads I S 12 ry e2;exact SeqAt.rcNeAt_reads a1 b1 a2 b2 (by lia) _ _ _ _ ⟨.bl _,H,I,rfl,k⟩
end
def p8(i j:Int):Prop:=(Bt 20000 i/\Bt 20000 j)\/CMul i j
def zi(j:Int):Prop:=0<j/\Bt 9000 j
noncomputable instance (i j:Int):Decidable (p8 i j):=dB _
noncomputable instance (j:Int):Decidable (zi j):=dB _
def fAdd(v w:PV)(s:Sto):Out PV:=match v,w with
 |.int i,.int j=>.ok (.int (i+j)) s
 |.str x,.str y=>if x.length+y.length<=100000 then .ok (.str (x++y)) s else .bad
 |v,w=>match lsOf s v,lsOf s w with
  |some l,Za k=>if l.length+k.length<=100000 then .ok (.lst (l++k)) s else .bad
  |_,_=>.bad
def fSub(v w:PV)(s:Sto):Out PV:=match v,w with
 |.int i,.int j=>.ok (.int (i-j)) s
 |_,_=>.bad
def fMul(v w:PV)(s:Sto):Out PV:=match v,w with
 |.int i,.int j=>if p8 i j then .ok (.int (i*j)) s else .bad
 |.lst l,.int k=>if -(2^63)<=k/\k<2^63/\l.length*k.toNat<=100000 then .ok (.lst (aR k.toNat l).flatten) s else .bad
 |_,_=>.bad
def fDiv(v w:PV)(s:Sto):Out PV:=match v,w with
 |.int i,.int j=>if zi j then .ok (.int (i/j)) s else .bad
 |_,_=>.bad
def fMod(v w:PV)(s:Sto):Out PV:=match v,w with
 |.int i,.int j=>if 0<j then .ok (.int (i%j)) s else .bad
 |_,_=>.bad
def fPow(v w:PV)(s:Sto):Out PV:=match v,w with
 |.int i,.int j=>if 0<=j/\j<=1000000/\i.natAbs<2^64 then .ok (.int (i^j.toNat)) s else .bad
 |_,_=>.bad
def fCmp(p:Int->Int->Bool)(v w:PV)(s:Sto):Out PV:=match v,w with
 |.int i,.int j=>.ok (.bl (p i j)) s
 |_,_=>.bad
abbrev fLt:=fCmp λi j=>decide (i<j)
abbrev fGt:=fCmp λi j=>decide (j<i)
abbrev fGe:=fCmp λi j=>decide (j<=i)
def fEqN(neg:Bool)(v w:PV)(s:Sto):Out PV:=match PV.data s 12 v,PV.data s 12 w with
 |some d,Za e=>.ok (.bl (if neg then !bu d e else bu d e)) s
 |_,_=>.bad
abbrev fEq:=fEqN false
abbrev fNe:=fEqN true
def PV.isNon:PV->Bool
 |.non=>true
 |_=>false
def fIs(v w:PV)(s:Sto):Out PV:=match w with
 |.non=>.ok (.bl v.isNon) s
 |_=>.bad
def fIsnt(v w:PV)(s:Sto):Out PV:=match w with
 |.non=>.ok (.bl (!v.isNon)) s
 |_=>.bad
def FF(neg b:Bool):Bool:=if neg then !b else b
def qx(neg:Bool)(v w:PV)(s:Sto):Out PV:=match dcOf s w with
 |some l=>match kyOf v with
  |some k=>.ok (.bl (FF neg (pP l k).isSome)) s
  |none=>.bad
 |none=>match toV v with
  |none=>.bad
  |some x=>match w with
   |.tup l=>match toVs l with
    |some zs=>.ok (.bl (FF neg (inV x zs))) s
    |none=>.bad
   |w=>match lsOf s w with
    |some l=>match toVs l with
     |some zs=>.ok (.bl (FF neg (inV x zs))) s
     |none=>.bad
    |none=>.bad
abbrev fIn:=qx false
abbrev Ax:=qx true
def fIx(v w:PV)(s:Sto):Out PV:=match v with
 |.tup l=>match w with
  |.int i=>match atI l i with
   |some p=>.ok p s
   |none=>.bad
  |_=>.bad
 |.str x=>match w with
  |.int i=>match atI x.cps.toList i with
   |some c=>if x.length<=100000 then .ok (.str ⟨#[c]⟩) s else .bad
   |none=>.bad
  |_=>.bad
 |v=>match lsOf s v with
  |some l=>match w with
   |.int i=>match atI l i with
    |some p=>.ok p s
    |none=>.bad
   |_=>.bad
  |none=>match dcOf s v with
   |some l=>match kyOf w with
    |some k=>match pP l k with
     |some p=>.ok p s
     |none=>.bad
    |none=>.bad
   |none=>.bad
def fNeg(v:PV)(s:Sto):Out PV:=match v with
 |.int i=>.ok (.int (-i)) s
 |_=>.bad
section
variable{X:Cx}{CB:ak}{E:XK}
def o_add:Op2 X.K CB E (λx y H Q=>rI0 (λi j=>V.int (i+j)) x y H Q\/(∃i j,x=V.str i/\y=V.str j/\i.length+j.length<=aI/\Q (V.str (i++j)) H)\/Ks X.K x y H Q) fAdd:=by
 intro H m s v w x y Q S rx ry P;unfold fAdd at P;split at P
 ·cases rx;cases ry;exact .inl ⟨_,_,rfl,rfl,P.here S .int⟩
 ·cases rx;cases ry;split at P
  ·rename_i h;exact .inr (.inl ⟨_,_,rfl,rfl,sz5 h,P.here S .str⟩)
  ·exact P.elim
 ·split at P
  ·rename_i l k h1 h2;split at P
   ·rename_i h;obtain⟨a,vs,rfl,q1,r1⟩:=rx.ls S h1;obtain⟨b,ws,rfl,q2,r2⟩:=ry.ls S h2;exact .inr (.inr ⟨a,b,vs,ws,rfl,rfl,q1,q2,by rw[r1.length,r2.length];exact sz5 h,λp hp=>P.new S hp λex S'=>.lst lJ (S.pure_none hp) ((r1.append r2).ext ex)⟩)
   ·exact P.elim
  ·exact P.elim
def Lw:OpR X (dE .Add) (λx y H Q=>rI0 (λi j=>V.int (i+j)) x y H Q\/(∃i j,x=V.str i/\y=V.str j/\i.length+j.length<=aI/\Q (V.str (i++j)) H)\/Ks X.K x y H Q):=op_add.or (op_add_str.or Lv)
def o_sub:Op2 X.K CB E (rI0 λi j=>V.int (i-j)) fSub:=by
 intro H m s v w x y Q S rx ry P;unfold fSub at P;split at P
 ·cases rx;cases ry;exact⟨_,_,rfl,rfl,P.here S .int⟩
 ·exact P.elim
theorem Reps.rep{K}{H}{m}{s}{vs}{l}(r:Reps K H m s vs l):∀n,Reps K H m s (aR n vs).flatten (aR n l).flatten
 |0=>.nil
 |n+1=>by rw[cX,cX,dX,dX];exact r.append (r.rep n)
def o_mul:Op2 X.K CB E (λx y H Q=>(rI (λi j=>Bt 20000 i/\Bt 20000 j) (λi j=>V.int (i*j)) x y H Q\/rI CMul (λi j=>V.int (i*j)) x y H Q)\/O2 x y H Q) fMul:=by
 intro H m s v w x y Q S rx ry P;unfold fMul at P;split at P
 ·cases rx;cases ry;split at P
  ·rename_i h;rcases h with h|h
   ·exact .inl (.inl ⟨_,_,rfl,rfl,h,P.here S .int⟩)
   ·exact .inl (.inr ⟨_,_,rfl,rfl,h,P.here S .int⟩)
  ·exact P.elim
 ·split at P
  ·rename_i h;cases rx with
   |lst h1 _ r1 =>
    cases ry;exact .inr ⟨_,_,_,rfl,rfl,h1,h.1,h.2.1,by rw[r1.length];exact sz5 h.2.2,λp hp=>P.new S hp λex S'=>.lst lJ (S.pure_none hp) ((r1.rep _).ext ex)⟩
  ·exact P.elim
 ·exact P.elim
def Lr:OpR X (dE .Mult) (λx y H Q=>(rI (λi j=>Bt 20000 i/\Bt 20000 j) (λi j=>V.int (i*j)) x y H Q\/rI CMul (λi j=>V.int (i*j)) x y H Q)\/O2 x y H Q):=(op_mulB.or N9).or N6
def o_div:Op2 X.K CB E (rI (λ_ j=>0<j/\j.natAbs.log2<9000) λi j=>V.int (i/j)) fDiv:=by
 intro H m s v w x y Q S rx ry P;unfold fDiv at P;split at P
 ·cases rx;cases ry;split at P
  ·rename_i h;exact⟨_,_,rfl,rfl,⟨h.1,h.2.log h.1⟩,P.here S .int⟩
  ·exact P.elim
 ·exact P.elim
def o_mod:Op2 X.K CB E (rI (λ_ j=>0<j) λi j=>V.int (i%j)) fMod:=by
 intro H m s v w x y Q S rx ry P;unfold fMod at P;split at P
 ·cases rx;cases ry;split at P
  ·rename_i h;exact⟨_,_,rfl,rfl,h,P.here S .int⟩
  ·exact P.elim
 ·exact P.elim
def o_pow:Op2 X.K CB E (rI CPow λi j=>V.int (i^j.toNat)) fPow:=by
 intro H m s v w x y Q S rx ry P;unfold fPow at P;split at P
 ·cases rx;cases ry;split at P
  ·rename_i h;exact⟨_,_,rfl,rfl,h,P.here S .int⟩
  ·exact P.elim
 ·exact P.elim
def Kz:Op2 X.K CB E (rI0 λi j=>V.bl (p i j)) (fCmp p):=by
 intro H m s v w x y Q S rx ry P;unfold fCmp at P;split at P
 ·cases rx;cases ry;exact⟨_,_,rfl,rfl,P.here S .bl⟩
 ·exact P.elim
def Nf:Op2 X.K CB E (O7 X.K CB neg) (fEqN neg):=by
 intro H m s v w x y Q S rx ry P;unfold fEqN at P;split at P
 ·rename_i d e h1 h2;exact⟨m,s,v,w,d,e,S,rx,ry,h1,h2,P.here S .bl⟩
 ·exact P.elim
def O8(neg:Bool):R2:=λy x H Q=>∃a o,x=.ref a/\DGet H a y o/\Q (.bl (FF neg o.isSome)) H
def o_in:Op2 X.K CB E (λx y H Q=>O8 neg x y H Q\/rIn X.K neg x y H Q) (qx neg):=by
 intro H m s v w x y Q S rx ry P;unfold qx at P;split at P
 ·rename_i l hl;split at P
  ·rename_i k hk;obtain⟨a,vs,rfl,q,r⟩:=ry.dc S hl;refine .inl ⟨a,oo vs k,rfl,.inl ⟨vs,k,q,pY rx hk,rfl⟩,?_⟩;obtain⟨r1,r2⟩:=r.val k;cases c:pP l k with
   |none=>rw[r2 c];rw[c] at P;exact P.here S .bl
   |some p=>obtain⟨u,e,_⟩:=r1 p c;rw[e];rw[c] at P;exact P.here S .bl
  ·exact P.elim
 ·split at P
  ·exact P.elim
  ·rename_i z hz;have ez:=rx.toV hz;subst ez;split at P
   ·split at P
    ·rename_i l zs SZ;obtain⟨a,vs,rfl,q,r⟩:=ry.tp;have e:=r.toVs SZ;subst e;exact .inr ⟨a,vs,rfl,.inr q,zE hz,wP SZ,P.here S .bl⟩
    ·exact P.elim
   ·split at P
    ·rename_i l hl;split at P
     ·rename_i zs SZ;obtain⟨a,vs,rfl,q,r⟩:=ry.ls S hl;have e:=r.toVs SZ;subst e;exact .inr ⟨a,vs,rfl,.inl q,zE hz,wP SZ,P.here S .bl⟩
     ·exact P.elim
    ·exact P.elim
def Oa(hu:X.A.units+1<eR):OpR X (bS .In) (λx y H Q=>O8 false x y H Q\/rIn X.K false x y H Q):=(EK hu).or GZ
def GY(hu:X.A.units+1<eR):OpR X (bS .NotIn) (λx y H Q=>O8 true x y H Q\/rIn X.K true x y H Q):=(Am hu).or B8
def o_ix:Op2 X.K CB E (λx y H Q=>(O3 X.K x y H Q\/O4 x y H Q)\/(O5 X.K x y H Q\/O6 x y H Q)) fIx:=by
 intro H m s v w x y Q S rx ry P;unfold fIx at P;split at P
 ·split at P
  ·split at P
   ·rename_i p hp;cases ry;obtain⟨a,vs,rfl,q,r⟩:=rx.tp;obtain⟨u,e,ru⟩:=r.atI hp;exact .inl (.inl ⟨a,vs,_,u,rfl,rfl,q,e,P.here S ru⟩)
   ·exact P.elim
  ·exact P.elim
 ·split at P
  ·split at P
   ·rename_i c hc;split at P
    ·rename_i hl;cases rx;cases ry;exact .inl (.inr ⟨_,_,c,rfl,rfl,sz5 hl,hc,P.here S .str⟩)
    ·exact P.elim
   ·exact P.elim
  ·exact P.elim
 ·split at P
  ·rename_i l hl;split at P
   ·split at P
    ·rename_i p hp;cases ry;obtain⟨a,vs,rfl,q,r⟩:=rx.ls S hl;obtain⟨u,e,ru⟩:=r.atI hp;exact .inr (.inl ⟨a,vs,_,u,rfl,rfl,q,e,P.here S ru⟩)
    ·exact P.elim
   ·exact P.elim
  ·split at P
   ·rename_i l hl;split at P
    ·rename_i k hk;split at P
     ·rename_i p hp;obtain⟨a,vs,rfl,q,r⟩:=rx.dc S hl;obtain⟨u,e,ru⟩:=(r.val k).1 p hp;exact .inr (.inr ⟨a,u,rfl,.inl ⟨vs,k,q,pY ry hk,e.symm⟩,P.here S ru⟩)
     ·exact P.elim
    ·exact P.elim
   ·exact P.elim
def ix_U(hu:X.A.units+1<eR):IxR X (λx y H Q=>(O3 X.K x y H Q\/O4 x y H Q)\/(O5 X.K x y H Q\/O6 x y H Q)):=(ix_tup.or yf).or (ix_list.or (LV hu))
def o_neg:Op1 X.K CB E (rU λi=>V.int (-i)) fNeg:=by
 intro H m s v x Q S rx P;unfold fNeg at P;split at P
 ·cases rx;exact⟨_,rfl,P.here S .int⟩
 ·exact P.elim
variable{a b c e:bo}{es:List bo}{f g h:XE}{fa:XA}{p pos Pg Ph:Pos}{x:Str}
def m7(ha:DE X CB E a f)(hb:DE X CB E b g):DE X CB E (.BinOp a .Add b pos) (x2 f g fAdd):=zk Lw o_add ha hb
def yh(ha:DE X CB E a f)(hb:DE X CB E b g):DE X CB E (.BinOp a .Sub b pos) (x2 f g fSub):=zk N5 o_sub ha hb
def m6(ha:DE X CB E a f)(hb:DE X CB E b g):DE X CB E (.BinOp a .Mult b pos) (x2 f g fMul):=zk Lr o_mul ha hb
def tw(ha:DE X CB E a f)(hb:DE X CB E b g):DE X CB E (.BinOp a .FloorDiv b pos) (x2 f g fDiv):=zk rW o_div ha hb
def vS(ha:DE X CB E a f)(hb:DE X CB E b g):DE X CB E (.BinOp a .Mod b pos) (x2 f g fMod):=zk JV o_mod ha hb
def yi(ha:DE X CB E a f)(hb:DE X CB E b g):DE X CB E (.BinOp a .Pow b pos) (x2 f g fPow):=zk N7 o_pow ha hb
def OQ(ha:DE X CB E a f):DE X CB E (.UnaryOp .USub a pos) (x1 f fNeg):=de_un JB o_neg ha
def hu12(hr:Room k A):A.units+12<eR:=aQ (lw (by decide:12<=64) _) hr.units
def mf(ha:DE X CB E a f)(hb:DE X CB E b g)(hr:Room jr X.A:=by assumption)(hs:GD b:=by exact λ_ _=>rfl):DE X CB E (.Subscript a b pos) (x2 f g fIx):=⟨(rG (ix_U (nj hr)) ha.pe hb.pe hs).mono λO H Q q=>two o_ix q⟩
structure CmpR(X:Cx)(CB:ak)(E:XK)(op:CmpOp)(F:PV->PV->Sto->Out PV):Prop where
 ex:∃r,OpR X (bS op) r/\Op2 X.K CB E r F
def c_lt:CmpR X CB E .Lt fLt:=⟨_,M9,Kz⟩
def Pc:CmpR X CB E .Gt fGt:=⟨_,Nc,Kz⟩
def c_ge:CmpR X CB E .GtE fGe:=⟨_,Kx,Kz⟩
def BH(hr:Room jr X.A:=by assumption):CmpR X CB E .Eq fEq:=⟨_,Oc (hu12 hr),Nf⟩
def Nw(hr:Room jr X.A:=by assumption):CmpR X CB E .NotEq fNe:=⟨_,N8 (hu12 hr),Nf⟩
def c_in(hr:Room jr X.A:=by assumption):CmpR X CB E .In fIn:=⟨_,Oa (nj hr),o_in⟩
def Gv(hr:Room jr X.A:=by assumption):CmpR X CB E .NotIn Ax:=⟨_,GY (nj hr),o_in⟩
def C6(r:CmpR X CB E op F)(ha:DE X CB E a f)(hb:DE X CB E b g)(hm:cR op b=false:=by first|exact uU _|with_unfolding_all rfl):DE X CB E (.Compare a [op] [b] pos) (x2 f g F):=let⟨_,r1,r2⟩:=r.ex;L2.de_cmp r1 r2 ha hb hm
def pB(r:CmpR X CB E op F)(ha:DE X CB E a f)(hb:DE X CB E b g)(hm:cR op b=false:=by first|exact uU _|with_unfolding_all rfl):DT X CB E (.Compare a [op] [b] pos) (xTr (x2 f g F)):=let⟨_,r1,r2⟩:=r.ex;L2.dt_cmp r1 r2 ha hb hm
abbrev XO':=En->Sto->Out (Option Int)
def TDO(K:aa)(CB:ak)(E:XK)(f:XO'):TO:=λO H Q=>∃Z s m,ER K H m s O Z/\SR K CB H m s/\Post K CB (λ_ _ _ u v=>u=v) E (f Z s) H m s Q
structure DO(X:Cx)(CB:ak)(E:XK)(e:Option bo)(f:XO'):Prop where
 po:PO X e (TDO X.K CB E f)
def xNoP(_:En)(s:Sto):Out (Option Int):=.ok Zb s
def xPart(f:XE)(Z:En)(s:Sto):Out (Option Int):=(f Z s).bind λv s1=>match v with
 |.int i=>.ok (Za i) s1
 |_=>.bad
def PO.mono{e}{t t':TO}(h:PO X e t)(k:∀O H Q,t' O H Q->t O H Q):PO X e t':=λPf s O H Q I q=>h Pf s O H Q I (k O H Q q)
def zh:DO X CB E Zb xNoP:=⟨po_none.mono λO H Q=>oE λZ s m er S P=>P.here S rfl⟩
def zg(h:DE X CB E e f):DO X CB E (Za e) (xPart f):=⟨(Lf h.pe).mono λO H Q=>oE λZ s m er S P=>⟨Z,s,m,er,S,P.bind λv s1 u H1 m1 e1 S1 r1 P1=>by cases r1<;>first|exact P1.elim|exact⟨_,rfl,P1.here S1 rfl⟩⟩⟩
def CH(l:List PV)(lo hi:Option Int):List PV:=(l.drop (HT.sIx l.length 0 lo)).take (HT.sIx l.length l.length hi-HT.sIx l.length 0 lo)
def fSl(v:PV)(lo hi:Option Int)(s:Sto):Out PV:=match v with
 |.tup l=>if HT.sIx l.length 0 lo=0/\HT.sIx l.length l.length hi=l.length then .bad else .ok (.tup (CH l lo hi)) s
 |v=>match lsOf s v with
  |some l=>.ok (.lst (CH l lo hi)) s
  |none=>.bad
def xSl(f:XE)(lo hi:XO')(Z:En)(s:Sto):Out PV:=(f Z s).bind λv s1=>(lo Z s1).bind λl s2=>(hi Z s2).bind λu s3=>fSl v l u s3
def Reps.cut{K}{H}{m}{s}{vs}{l}(r:Reps K H m s vs l)(lo hi):Reps K H m s (Gp vs lo hi) (CH l lo hi):=by unfold Gp CH;rw[r.length];exact(r.drop _).take _
def HU{lo hi}{fl fh:XO'}{p2}(ha:DE X CB E a f)(hl:DO X CB E lo fl)(hh:DO X CB E hi fh):DE X CB E (.Subscript a (.Slice lo hi Zb p2) pos) (xSl f fl fh) :=
 ⟨(IC (sl_list.or NJ) ha.pe hl.po hh.po).mono λO H Q=>oE λZ s m er S P=>⟨Z,s,m,er,S,P.bind λv s1 u H1 m1 e1 S1 r1 P1=>⟨Z,s1,m1,er.ext e1,S1,P1.bind λl s2 l' H2 m2 e2 S2 r2 P2=>by
  cases r2;refine⟨Z,s2,m2,(er.ext e1).ext e2,S2,P2.bind λk s3 k' H3 m3 e3 S3 r3 P3=>?_⟩;cases r3;have r1:=(r1.ext e2).ext e3;unfold fSl at P3;split at P3
  ·split at P3
   ·exact P3.elim
   ·rename_i hn;obtain⟨a,vs,rfl,q,r⟩:=r1.tp;exact .inr ⟨a,vs,rfl,q,by rw[r.length];exact hn,λp hp=>P3.new S3 hp λex S'=>.tup (.inl ⟨.inl lJ,S'.pure_tup lJ⟩) ((r.cut _ _).ext ex)⟩
  ·split at P3
   ·rename_i l hl;obtain⟨a,vs,rfl,q,r⟩:=r1.ls S3 hl;exact .inl ⟨a,vs,rfl,q,λp hp=>P3.new S3 hp λex S'=>.lst lJ (S3.pure_none hp) ((r.cut _ _).ext ex)⟩
   ·exact P3.elim⟩⟩⟩
def xB(fa:XA)(F:List PV->Sto->Out PV)(Z:En)(s:Sto):Out PV:=(fa Z s).bind F
def nOf(o:OpN X.K CB E r F)(q:TDE X.K CB E (xB fa F) O H Q):tCB r (TDA X.K CB E fa) O H Q:=by obtain⟨Z,s,m,er,S,P⟩:=q;exact⟨Z,s,m,er,S,P.bind λv s1 u H1 m1 e1 S1 r1 P1=>o H1 m1 s1 v u Q S1 r1 P1⟩
structure BltR(X:Cx)(CB:ak)(E:XK)(fv:ai)(F:List PV->Sto->Out PV):Prop where
 ex:∃r,CallR X fv r/\OpN X.K CB E r F
def mw{id:String}{F}(r:BltR X CB E (.builtin id) F)(ha:DA X CB E (e::es) fa)(hg:Gl X x:=by rfl)(hm:X.mg x=none:=by first|exact T.b_len|exact T.b_str|exact T.b_sorted|exact T.b_tuple|exact T.b_int|exact T.b_list|exact T.b_abs|exact T.b_all|exact T.b_any|exact T.b_max|exact T.b_bool|exact T.b_dict)(hv:bP x=Za (.builtin id):=by first|exact C7|exact uK|exact OZ|exact Kj|exact bt_any|exact bt_max)(hn:x≠"__name__":=by decide)(P8:NDb x:=by decide)(hs:SEb X e es:=by rfl)(PK:(b5 pos (aB es X.env)).any (·.1)=false:=by rfl):DE X CB E (.Call (.Name x p) (e::es) [] pos) (xB fa F) :=
 let⟨_,r1,r2⟩:=r.ex;⟨(o6 r1 hg hm hv ha.pa hn P8 hs PK).mono λO H Q q=>nOf r2 q⟩
def uJ(r:BltR X CB E (.type T) F)(ha:DA X CB E (e::es) fa)(hg:Gl X x:=by rfl)(hm:X.mg x=none:=by first|exact T.b_len|exact T.b_str|exact T.b_sorted|exact T.b_tuple|exact T.b_int|exact T.b_list|exact T.b_abs|exact T.b_all|exact T.b_any|exact T.b_max|exact T.b_bool|exact T.b_dict)(hv:bP x=Za (.type T):=by first|exact OX|exact Jw|exact OY|exact MJ|exact bt_dict)(hn:x≠"__name__":=by decide)(P8:NDb x:=by decide)(hs:SEb X e es:=by rfl)(PK:(b5 pos (aB es X.env)).any (·.1)=false:=by rfl):DE X CB E (.Call (.Name x p) (e::es) [] pos) (xB fa F) :=
 let⟨_,r1,r2⟩:=r.ex;⟨(GW r1 hg hm hv ha.pa hn P8 hs PK).mono λO H Q q=>nOf r2 q⟩
def fLen(vs:List PV)(s:Sto):Out PV:=match vs with
 |[.tup l]=>.ok (.int l.length) s
 |[.str x]=>if x.length<=100000 then .ok (.int x.length) s else .bad
 |[v]=>match lsOf s v with
  |some l=>.ok (.int l.length) s
  |none=>match dcOf s v with
   |some l=>.ok (.int l.length) s
   |none=>.bad
 |_=>.bad
def b_len:BltR X CB E (.builtin "len") fLen:=⟨_,call_len_seq.or (call_len_str.or HC),by
 intro H m s v x Q S rx P;unfold fLen at P;split at P
 ·cases rx with
  |cons r n =>
   cases n;obtain⟨a,vs,rfl,q,r⟩:=r.tp;rw[<-r.length] at P;exact .inl ⟨a,vs,rfl,.inr q,P.here S .int⟩
 ·cases rx with
  |cons r n =>
   cases n;cases r;split at P
   ·rename_i h;exact .inr (.inl ⟨_,rfl,sz5 h,P.here S .int⟩)
   ·exact P.elim
 ·cases rx with
  |cons r n =>
   cases n;split at P
   ·rename_i l hl;obtain⟨a,vs,rfl,q,r⟩:=r.ls S hl;rw[<-r.length] at P;exact .inl ⟨a,vs,rfl,.inl q,P.here S .int⟩
   ·split at P
    ·rename_i l hl;obtain⟨a,vs,rfl,q,r⟩:=r.dc S hl;rw[<-r.length] at P;exact .inr (.inr ⟨a,vs,rfl,q,P.here S .int⟩)
    ·exact P.elim
 ·exact P.elim⟩
def fAbs(vs:List PV)(s:Sto):Out PV:=match vs with
 |[.int i]=>.ok (.int (if i<0 then -i else i)) s
 |_=>.bad
def b_abs:BltR X CB E (.builtin "abs") fAbs:=⟨_,Ju,by
 intro H m s v x Q S rx P;unfold fAbs at P;split at P
 ·cases rx with
  |cons r n=>cases n;cases r;exact⟨_,rfl,P.here S .int⟩
 ·exact P.elim⟩
def fInt(vs:List PV)(s:Sto):Out PV:=match vs with
 |[.int i]=>.ok (.int i) s
 |[.bl b]=>.ok (.int (if b=true then 1 else 0)) s
 |_=>.bad
def b_int:BltR X CB E (.type "int") fInt:=⟨_,HD,by
 intro H m s v x Q S rx P;unfold fInt at P;split at P
 ·cases rx with
  |cons r n=>cases n;cases r;exact .inl ⟨_,rfl,P.here S .int⟩
 ·cases rx with
  |cons r n=>cases n;cases r;exact .inr ⟨_,rfl,P.here S .int⟩
 ·exact P.elim⟩
def fTuple(vs:List PV)(s:Sto):Out PV:=match vs with
 |[v]=>match lsOf s v with
  |some l=>.ok (.tup l) s
  |none=>.bad
 |_=>.bad
def b_tuple:BltR X CB E (.type "tuple") fTuple:=⟨_,AB,by
 intro H m s v x Q S rx P;unfold fTuple at P;split at P
 ·cases rx with
  |cons r n =>
   cases n;split at P
   ·rename_i l hl;obtain⟨a,vs,rfl,q,r⟩:=r.ls S hl;exact⟨a,vs,rfl,.inl ⟨q,λp hp=>P.new S hp λex S'=>.tup (.inl ⟨.inl lJ,S'.pure_tup lJ⟩) (r.ext ex)⟩⟩
   ·exact P.elim
 ·exact P.elim⟩
def fList(vs:List PV)(s:Sto):Out PV:=match vs with
 |[.tup l]=>.ok (.lst l) s
 |[v]=>match lsOf s v with
  |some l=>.ok (.lst l) s
  |none=>.bad
 |_=>.bad
def sZ:List PV->Option (List Str)
 |[]=>Za []
 |.str x::l=>(sZ l).map (x::·)
 |_=>Zb
theorem uD:∀{l:List PV}{ss:List Str},sZ l=Za ss->l=ss.map PV.str
 |[],_,e=>by cases e;rfl
 |p::l,ss,e=>by
  unfold sZ at e;split at e
  ·rename_i h;cases h
  ·rename_i x l' h;cases h;cases c:sZ l with
   |none=>rw[c] at e;cases e
   |some t=>rw[c] at e;cases e;rw[uD c];rfl
  ·cases e
def vm(ss):sZ (ss.map PV.str)=Za ss:=by
 induction ss with
 |nil=>rfl
 |cons x r ih=>rw[am];unfold sZ;rw[ih];rfl
def keysOf:List (Key×PV)->Option (List Str)
 |[]=>Za []
 |(.inr x,_)::l=>(keysOf l).map (x::·)
 |_=>Zb
theorem xf:∀{l:List (Key×PV)}{ss:List Str},keysOf l=Za ss->l.map (·.1)=ss.map af
 |[],_,e=>by cases e;rfl
 |p::l,ss,e=>by
  unfold keysOf at e;split at e
  ·rename_i h;cases h
  ·rename_i x _ l' h;cases h;cases c:keysOf l with
   |none=>rw[c] at e;cases e
   |some t=>rw[c] at e;cases e;rw[am,xf c];rfl
  ·cases e
def me(vs:List PV)(s:Sto):Out PV:=match vs with
 |[v]=>match lsOf s v with
  |some l=>match sZ l with
   |some ss=>if ss.length<64 then .ok (.lst ((srt ss).map PV.str)) s else .bad
   |none=>.bad
  |none=>match dcOf s v with
   |some l=>match keysOf l with
    |some ss=>if ss.length<64 then .ok (.lst ((srt ss).map PV.str)) s else .bad
    |none=>.bad
   |none=>.bad
 |_=>.bad
def b_sorted(hc:X.calm=true):BltR X CB E (.builtin "sorted") me:=⟨_,call_sortedL.or (oW hc),by
 intro H m s v x Q S rx P;unfold me at P;split at P
 ·cases rx with
  |cons r n =>
   cases n;split at P
   ·rename_i l hl;split at P
    ·rename_i ss hs;split at P
     ·rename_i Rg;obtain⟨a,vs,rfl,q,r⟩:=r.ls S hl;have e:=uD hs;subst e;rw[r.strs] at q;exact .inl ⟨a,ss,rfl,q,Rg,λp hp=>P.new S hp λex S'=>.lst lJ (S.pure_none hp) (.ofStrs _)⟩
     ·exact P.elim
    ·exact P.elim
   ·split at P
    ·rename_i l hl;split at P
     ·rename_i ss hs;split at P
      ·rename_i Rg;obtain⟨a,vs,rfl,q,r⟩:=r.dc S hl;exact .inr ⟨a,vs,ss,rfl,q,r.keys.trans (xf hs),Rg,λp hp=>P.new S hp λex S'=>.lst lJ (S.pure_none hp) (.ofStrs _)⟩
      ·exact P.elim
     ·exact P.elim
    ·exact P.elim
 ·exact P.elim⟩
def zA:List PV->Option (List Bool)
 |[]=>Za []
 |.bl x::l=>(zA l).map (x::·)
 |_=>Zb
theorem zy{K}{H}{m}{s}:∀{vs:List V}{l:List PV}{bs:List Bool},Reps K H m s vs l->zA l=Za bs->vs=bs.map V.bl
 |_,_,_,.nil,e=>by cases e;rfl
 |_,_,_,.cons (l:=l) a b,e=>by
  unfold zA at e;split at e
  ·rename_i h;cases h
  ·rename_i h;cases h;cases a;cases c:zA l with
   |none=>rw[c] at e;cases e
   |some t=>rw[c] at e;cases e;rw[zy b c];rfl
  ·cases e
def fAll(vs:List PV)(s:Sto):Out PV:=match vs with
 |[v]=>match lsOf s v with
  |some l=>match zA l with
   |some bs=>.ok (.bl (bs.all id)) s
   |none=>.bad
  |none=>.bad
 |_=>.bad
def b_all(hc:X.calm=true):BltR X CB E (.builtin "all") fAll:=⟨_,Eg,by
 intro H m s v x Q S rx P;unfold fAll at P;split at P
 ·cases rx with
  |cons r n =>
   cases n;split at P
   ·rename_i l hl;split at P
    ·rename_i bs hb;obtain⟨a,vs,rfl,q,r⟩:=r.ls S hl;have e:=zy r hb;subst e;exact⟨a,bs,rfl,q,hc,P.here S .bl⟩
    ·exact P.elim
   ·exact P.elim
 ·exact P.elim⟩
def xJoin(f:XE)(fa:XA)(Z:En)(s:Sto):Out PV:=(f Z s).bind λv s1=>match v with
 |.str z=>(fa Z s1).bind λvs s2=>match vs with
  |[w]=>match lsOf s2 w with
   |some l=>match sZ l with
    |some ys=>if(ys.map (·.length)).sum+ys.length*z.length<=16777216 then .ok (.str (Txt.join z ys)) s2 else .bad
    |none=>.bad
   |none=>.bad
  |_=>.bad
 |_=>.bad
def MB(ho:DE X CB E a f)(ha:DA X CB E (e::es) fa)(PB:cz a "join" X.env (eval a X.env)=eval a X.env:=by rfl)(Qz:((b5 Ph (aB (e::es) X.env)).all (λx=>!x.1)&&(eL Ph (cU [] X.env)).all (λx=>x.1.isSome)
   && decide ((e::es).length+([]:List fG).length+(if([]:List fG).isEmpty then 0 else 1)<30))=true:=by rfl)(Pz:(Pg.endLine==Ph.line)=true:=by rfl)(hs:SEb X e es:=by rfl)(PZ:(b5 Ph (aB es X.env)).any (·.1)=false:=by rfl) :
  DE X CB E (.Call (.Attribute a "join" Pg) (e::es) [] Ph) (xJoin f fa) :=
 ⟨(Kv PySem.F.plainAttrs_str PySem.F.slot_str_join PySem.F.type_str_join LJ ho.pe ha.pa PB Qz Pz hs PZ).mono λO H Q=>oE λZ s m er S P=>⟨Z,s,m,er,S,P.bind λv s1 u H1 m1 e1 S1 r1 P1=>by
  split at P1
  ·cases r1;refine⟨rfl,Z,s1,m1,er.ext e1,S1,P1.bind λvs s2 us H2 m2 e2 S2 r2 P2=>?_⟩;split at P2
   ·cases r2 with
    |cons r n =>
     cases n;split at P2
     ·rename_i l hl;split at P2
      ·rename_i ys hy;split at P2
       ·rename_i hz;obtain⟨b,vs,rfl,q,r⟩:=r.ls S2 hl;have e:=uD hy;subst e;rw[r.strs] at q;exact⟨_,b,ys,rfl,rfl,q,hz,P2.here S2 .str⟩
       ·exact P2.elim
      ·exact P2.elim
     ·exact P2.elim
   ·exact P2.elim
  ·exact P1.elim⟩⟩
def xAppend(f:XE)(fa:XA)(Z:En)(s:Sto):Out PV:=(f Z s).bind λv s1=>match v with
 |.ref n=>match s1.get n with
  |some (.lst _)=>(fa Z s1).bind λvs s2=>match vs with
   |[w]=>match s2.get n with
    |some (.lst l)=>if l.length<100000 then .ok .non (s2.set n (.lst (l++[w]))) else .bad
    |_=>.bad
   |_=>.bad
  |_=>.bad
 |_=>.bad
def SR.putL{K}{H}{m}{s}{n}{l l'}{P6}(S:SR K CB H m s)(hn:s.get n=Za (.lst l))(r:Reps K H m s P6 l') :
  SR K CB (upd H (m.ad n) (.lst P6)) (m.fput n [m.ad n]) (s.set n (.lst l'))/\Ext H m s (upd H (m.ad n) (.lst P6)) (m.fput n [m.ad n]) (s.set n (.lst l')):=by
 obtain⟨e1,vs,h1,_⟩:=S.get hn;refine S.put hn (by intro _ z;cases z) _ _ (λa o h ha=>?_) (λa ha=>.inl (by rw[e1];exact ha)) λex=>⟨by show(if n=n then [m.ad n] else m.fp n)=_;rw[Zc rfl];rfl,P6,lJ,r.ext0 ex⟩;rw[e1,ao] at ha;rw[lG ha];exact h
def SR.putD{K}{H}{m}{s}{n}{l l'}{P6}(S:SR K CB H m s)(hn:s.get n=Za (.dct l))(r:RepKs K H m s P6 l') :
  SR K CB (upd H (m.ad n) (.dK P6)) (m.fput n [m.ad n]) (s.set n (.dct l'))/\Ext H m s (upd H (m.ad n) (.dK P6)) (m.fput n [m.ad n]) (s.set n (.dct l')):=by
 obtain⟨e1,vs,h1,_⟩:=S.get hn;refine S.put hn (by intro _ z;cases z) _ _ (λa o h ha=>?_) (λa ha=>.inl (by rw[e1];exact ha)) λex=>⟨by show(if n=n then [m.ad n] else m.fp n)=_;rw[Zc rfl];rfl,P6,lJ,r.ext0 ex⟩;rw[e1,ao] at ha;rw[lG ha];exact h
def Bw(ho:DE X CB E a f)(ha:DA X CB E (e::es) fa)(PB:cz a "append" X.env (eval a X.env)=eval a X.env:=by rfl)(Qz:((b5 Ph (aB (e::es) X.env)).all (λx=>!x.1)&&(eL Ph (cU [] X.env)).all (λx=>x.1.isSome)
   && decide ((e::es).length+([]:List fG).length+(if([]:List fG).isEmpty then 0 else 1)<30))=true:=by rfl)(Pz:(Pg.endLine==Ph.line)=true:=by rfl)(hs:SEb X e es:=by rfl)(PZ:(b5 Ph (aB es X.env)).any (·.1)=false:=by rfl) :
  DE X CB E (.Call (.Attribute a "append" Pg) (e::es) [] Ph) (xAppend f fa) :=
 ⟨(Kv gh kD PySem.F.type_list_append Bl ho.pe ha.pa PB Qz Pz hs PZ).mono λO H Q=>oE λZ s m er S P=>⟨Z,s,m,er,S,P.bind λv s1 u H1 m1 e1 S1 r1 P1=>by
  split at P1
  ·split at P1
   ·rename_i n _ _ hg;obtain⟨_,QV,h0,_⟩:=S1.get hg;cases r1 with
    |ref hn =>
    refine⟨.inl ⟨rfl,QV,SqL.of h0⟩,Z,s1,m1,er.ext e1,S1,P1.bind λvs s2 us H2 m2 e2 S2 r2 P2=>?_⟩;split at P2
    ·cases r2 with
     |cons r n' =>
      cases n';split at P2
      ·rename_i l Tr;split at P2
       ·rename_i hl;obtain⟨f1,vs1,h1,q1⟩:=S2.get Tr;obtain⟨S3,e3⟩:=S2.putL Tr (q1.append (.cons r .nil));rw[<-e2.ad _ hn];exact⟨_,vs1,_,rfl,rfl,h1,by rw[q1.length];exact sz6 hl,P2 _ _ _ e3 S3 .non⟩
       ·exact P2.elim
      ·exact P2.elim
    ·exact P2.elim
   ·exact P1.elim
  ·exact P1.elim⟩⟩
def xGet(f g h:XE)(Z:En)(s:Sto):Out PV:=(f Z s).bind λv s1=>match dcOf s1 v with
 |some _=>(g Z s1).bind λw s2=>(h Z s2).bind λz s3=>match dcOf s3 v with
  |some l=>match kyOf w with
   |some k=>.ok ((pP l k).getD z) s3
   |none=>.bad
  |none=>.bad
 |none=>.bad
def FD(ho:DE X CB E a f)(he:DE X CB E b g)(hf:DE X CB E c h)(hr:Room jr X.A:=by assumption)(mm:M2 X a "get" Pg b c Ph:=by exact⟨rfl,rfl,rfl,rfl⟩):DE X CB E (.Call (.Attribute a "get" Pg) [b,c] [] Ph) (xGet f g h) :=
 ⟨(zN (nj hr) ho.pe he.pe hf.pe mm).mono λO H Q=>oE λZ s m er S P=>⟨Z,s,m,er,S,P.bind λv s1 u H1 m1 e1 S1 r1 P1=>by
  split at P1
  ·rename_i l0 R5;obtain⟨a,QV,rfl,q0,_⟩:=r1.dc S1 R5;refine⟨a,rfl,.inl ⟨QV,q0⟩,Z,s1,m1,er.ext e1,S1,P1.bind λw s2 u2 H2 m2 e2 S2 r2 P2=>⟨Z,s2,m2,(er.ext e1).ext e2,S2,P2.bind λz s3 u3 H3 m3 e3 S3 r3 P3=>?_⟩⟩;split at P3
   ·rename_i l hl;split at P3
    ·rename_i k hk;obtain⟨a',vs,ea,q,r⟩:=((r1.ext e2).ext e3).dc S3 hl;cases ea;refine⟨oo vs k,.inl ⟨vs,k,q,pY (r2.ext e3) hk,rfl⟩,?_⟩;obtain⟨v1,v2⟩:=r.val k;cases cc:pP l k with
     |none=>rw[v2 cc];rw[cc] at P3;exact P3.here S3 r3
     |some p=>obtain⟨u,e,ru⟩:=v1 p cc;rw[e];rw[cc] at P3;exact P3.here S3 ru
    ·exact P3.elim
   ·exact P3.elim
  ·exact P1.elim⟩⟩
def xNewD(_:En)(s:Sto):Out PV:=.ok (.ref s.nx) (s.add (.dct []))
def CG:DE X CB E (.Dict [] [] pos) xNewD:=⟨pe_dnewK.mono λO H Q=>oE λZ s m er S P p hp=>by obtain⟨S2,e2⟩:=S.newD hp (My.rS hp) lJ .nil;exact P _ _ _ e2 S2 .new⟩
end
noncomputable def Out.so{α:Type}(o:Out α)(k:α->Sto->SO):SO:=match o with
 |.ok a s=>k a s
 |.ex c s=>.ex c s
 |.bad=>.bad
def SO.noex:SO->SO
 |.ex _ _=>.bad
 |o=>o
def PostS.shift{K}{CB}{E}{o}{H H1}{m m1}{s s1}{D}(e:Ext H m s H1 m1 s1)(h:PostS K CB E o H m s D):PostS K CB E o H1 m1 s1 D:=by
 cases o with
 |nx=>exact λσ' H' m' x=>h σ' H' m' (e.trans x)
 |rt=>exact λσ' H' m' x=>h σ' H' m' (e.trans x)
 |bk=>exact λσ' H' m' x=>h σ' H' m' (e.trans x)
 |ct=>exact λσ' H' m' x=>h σ' H' m' (e.trans x)
 |ex=>exact λH' m' x=>h H' m' (e.trans x)
 |bad=>exact h
theorem Post.so{α β:Type}{K}{CB}{R}{E}{o:Out α}{k:α->Sto->SO}{H}{m}{s}{D}{Q1:β->Hp->Prop}(h:PostS K CB E (o.so k) H m s D)(f:∀v s1 u H1 m1,Ext H m s H1 m1 s1->SR K CB H1 m1 s1->R H1 m1 s1 u v->PostS K CB E (k v s1) H1 m1 s1 D->Q1 u H1):Post K CB R E o H m s Q1:=by
 cases o with
 |ok v s1=>exact λu H1 m1 x S r=>f v s1 u H1 m1 x S r (PostS.shift x h)
 |ex c s'=>exact h
 |bad=>exact h
def PostS.next{K}{CB}{E}{Z}{H}{m}{s}{D}{O}(h:PostS K CB E (.nx Z s) H m s D)(S:SR K CB H m s)(er:ER K H m s O Z):D.nx O H:=h O H m .refl S er
theorem PostS.noex{K}{CB}{E}{o}{H}{m}{s}{D}(h:PostS K CB E o.noex H m s D):PostS K CB E0 o H m s D:=by cases o<;>first|exact h|exact bT h
def xSet(i:Nat)(f:XE)(Z:En)(s:Sto):SO:=(f Z s).so λv s1=>.nx (Z.set i (Za v)) s1
def xRet(f:XE)(Z:En)(s:Sto):SO:=(f Z s).so λv s1=>.rt v s1
def xRetN(_:En)(s:Sto):SO:=.rt .non s
def xDo(f:XE)(Z:En)(s:Sto):SO:=(f Z s).so λ_ s1=>.nx Z s1
def xIf(t:XT)(g h:XS)(Z:En)(s:Sto):SO:=(t Z s).so λb s1=>if b=true then g Z s1 else h Z s1
def xEnd(Z:En)(s:Sto):SO:=.nx Z s
def xSeq(g h:XS)(Z:En)(s:Sto):SO:=match g Z s with
 |.nx ρ' s'=>h ρ' s'
 |o=>o
section
variable{X:Cx}{CB:ak}{E:XK}{a b c e:bo}{es:List bo}{f g h:XE}{fa:XA}{t:XT}{p pos Pw Pg Ph:Pos}{x:Str}{st:bR}{pQ QO Qw:List bR}{u v:XS}
theorem PS.nox{t}(h:PS X.nox st t):PS X st t:=λPf s O H D I hw=>bN (h Pf s O H D (I.wish _) hw) (λ_ _ q=>q.unwish) λ_ _ z=>bT z
def lY(i)(he:DE X CB E e f)(hN:X.N.Nodup:=by exact ‹FnScope _ _ _›.nd)(hi:X.N[i]?=Za x:=by rfl)(hx:Loc X.env.scope x:=by first|exact fA rfl|exact g7 rfl)(hs:dL e (Za (.Name x Pw)) pos.line X.env=pure false:=by rfl)(hf:X.fn x=true\/X.env.scope.names.lookup x=Za .local:=by first|exact .inl rfl|exact .inr rfl|assumption):DS X CB E (.Assign [.Name x Pw] e pos) (xSet i f) :=
 ⟨(rT hN hi hx he.pe hs hf).mono λD O H=>oE λZ s m er S P=>⟨Z,s,m,er,S,Post.so P λv s1 u H1 m1 e1 S1 r1 P1=>P1.next S1 ((er.ext e1).set i r1)⟩⟩
def mI(he:DE X CB E e f):DS X CB E (.Return (Za e) pos) (xRet f) :=
 ⟨(qp he.pe).mono λD O H=>oE λZ s m er S P=>⟨Z,s,m,er,S,Post.so P λv s1 u H1 m1 e1 S1 r1 P1=>P1 u H1 m1 .refl S1 r1⟩⟩
def Mj:DS X CB E (.Return Zb pos) xRetN:=⟨ps_retN.mono λD O H=>oE λZ s m er S P=>P .non H m .refl S .non⟩
def uH(he:DE X CB E e f)(hs:dL e Zb pos.line X.env=pure false:=by rfl):DS X CB E (.Expr e pos) (xDo f) :=
 ⟨(nN he.pe hs).mono λD O H=>oE λZ s m er S P=>⟨Z,s,m,er,S,Post.so P λv s1 u H1 m1 e1 S1 r1 P1=>P1.next S1 (er.ext e1)⟩⟩
def rH(hc:DT X CB E c t)(ha:DSs X CB E QO u)(hb:DSs X CB E Qw v):DS X CB E (.If c QO Qw pos) (xIf t u v) :=
 ⟨(wb hc.pt ha.pss hb.pss).mono λD O H=>oE λZ s m er S P=>⟨Z,s,m,er,S,Post.so P λv s1 u H1 m1 e1 S1 r1 P1=>by
  cases r1;refine uY (λc=>?_) λc=>?_
  ·rw[Zc c] at P1;exact⟨Z,s1,m1,er.ext e1,S1,P1⟩
  ·rw[Zd c] at P1;exact⟨Z,s1,m1,er.ext e1,S1,P1⟩⟩⟩
def nQ:DSs X CB E [] xEnd:=⟨pss_nil.mono λD O H=>oE λZ s m er S P=>P.next S er⟩
def lO(h:DS X CB E st u):DSs X CB E [st] u:=⟨ma h.ps⟩
def lH(h:DS X CB E st u)(k:DSs X CB E pQ v):DSs X CB E (st::pQ) (xSeq u v) :=
 ⟨(lW h.ps k.pss).mono λD O H=>oE λZ s m er S P=>⟨Z,s,m,er,S,by
  unfold xSeq at P;cases c:u Z s with
  |nx ρ' s'=>rw[c] at P;exact λσ' H' m' x S' er'=>⟨ρ',s',m',er',S',PostS.shift x P⟩
  |rt=>rw[c] at P;exact P
  |bk=>rw[c] at P;exact P
  |ct=>rw[c] at P;exact P
  |ex=>rw[c] at P;exact P
  |bad=>rw[c] at P;exact P⟩⟩
abbrev XG:=PV->En->Sto->Option En
abbrev XGs:=List PV->En->Sto->Option En
def TDG(K:aa)(CB:ak)(h:XG):TG:=λv O H Q=>∃Z s m q ρ',ER K H m s O Z/\SR K CB H m s/\Rep K H m s v q/\h q Z s=Za ρ'/\∀σ',ER K H m s σ' ρ'->Q σ' H
def TDGs(K:aa)(CB:ak)(h:XGs):TGs:=λv O H Q=>∃Z s m q ρ',ER K H m s O Z/\SR K CB H m s/\Reps K H m s v q/\h q Z s=Za ρ'/\∀σ',ER K H m s σ' ρ'->Q σ' H
structure DG(X:Cx)(CB:ak)(tg:bo)(h:XG):Prop where
 pg:PG X tg (TDG X.K CB h)
structure DGs(X:Cx)(CB:ak)(tg:List bo)(h:XGs):Prop where
 pgs:PGs X tg (TDGs X.K CB h)
def PG.mono{tg}{t t':TG}(h:PG X tg t)(k:∀v O H Q,t' v O H Q->t v O H Q):PG X tg t':=λPf s O H v u Q I r q=>h Pf s O H v u Q I r (k v O H Q q)
def PGs.mono{tg}{t t':TGs}(h:PGs X tg t)(k:∀v O H Q,t' v O H Q->t v O H Q):PGs X tg t':=λPf s O H v u Q I r q=>h Pf s O H v u Q I r (k v O H Q q)
def PG.or{tg}{t t':TG}(h:PG X tg t)(h':PG X tg t'):PG X tg (λv O H Q=>t v O H Q\/t' v O H Q):=λPf s O H v u Q I r q=>q.elim (h Pf s O H v u Q I r) (h' Pf s O H v u Q I r)
def yName(i:Nat)(q:PV)(Z:En)(_:Sto):Option En:=Za (Z.set i (Za q))
def yNil(q:List PV)(Z:En)(_:Sto):Option En:=match q with
 |[]=>Za Z
 |_=>Zb
def yCons(h:XG)(k:XGs)(q:List PV)(Z:En)(s:Sto):Option En:=match q with
 |p::r=>(h p Z s).bind λρ'=>k r ρ' s
 |[]=>Zb
def yTup(n:Nat)(k:XGs)(q:PV)(Z:En)(s:Sto):Option En:=match q with
 |.tup l=>if l.length=n then k l Z s else Zb
 |q=>match lsOf s q with
  |some l=>if l.length=n then k l Z s else Zb
  |none=>Zb
def mD(i)(hN:X.N.Nodup:=by exact ‹FnScope _ _ _›.nd)(hi:X.N[i]?=Za x:=by rfl)(hx:Loc X.env.scope x:=by first|exact fA rfl|exact g7 rfl)(hf:X.fn x=true\/X.env.scope.names.lookup x=Za .local:=by first|exact .inl rfl|exact .inr rfl|assumption):DG X CB (.Name x pos) (yName i) :=
 ⟨(FU hN hi hx hf).mono λv O H Q ⟨Z,s,m,q,ρ',er,S,r,e,k⟩=>by cases e;exact k _ (er.set i r)⟩
def qA:DGs X CB [] yNil:=⟨pgs_nil.mono λv O H Q ⟨Z,s,m,q,ρ',er,S,r,e,k⟩=>by
 unfold yNil at e;split at e<;>cases e
 cases r;exact⟨rfl,k _ er⟩⟩
def mJ{h:XG}{k:XGs}(h1:DG X CB e h)(h2:DGs X CB es k)(hs:(cQ (e::es) X.env).map (·.2)=assign e X.env::(cQ es X.env).map (·.2):=by rfl):DGs X CB (e::es) (yCons h k) :=
 ⟨(IB h1.pg h2.pgs hs).mono λv O H Q ⟨Z,s,m,q,ρ',er,S,r,e,kk⟩=>by
  unfold yCons at e;split at e
  ·rename_i p r';cases r with
   |cons a b =>
    cases c:h p Z s with
    |none=>rw[c] at e;cases e
    |some ρ1 =>
     rw[c] at e;exact⟨_,_,rfl,Z,s,m,p,ρ1,er,S,a,c,λσ1 er1=>⟨ρ1,s,m,r',ρ',er1,S,b,e,kk⟩⟩
  ·cases e⟩
def tu{k:XGs}{n k0}(h:DGs X CB es k)(hc:X.calm=true:=by rfl)(hn:(cQ es X.env).length=n:=by rfl)(QI:(cQ es X.env).findIdx? (·.1)=none:=by rfl):DG X CB (.Tuple es k0 pos) (yTup n k) :=
 ⟨((NY hc h.pgs hn QI).or (N0 hc h.pgs hn QI)).mono λv O H Q ⟨Z,s,m,q,ρ',er,S,r,e,kk⟩=>by
  unfold yTup at e;split at e
  ·split at e
   ·rename_i hl;obtain⟨a,vs,rfl,q1,r1⟩:=r.tp;exact .inl ⟨a,vs,rfl,q1,r1.length.trans hl,Z,s,m,_,ρ',er,S,r1,e,kk⟩
   ·cases e
  ·split at e
   ·rename_i l R5;split at e
    ·rename_i hl;obtain⟨a,vs,rfl,q1,r1⟩:=r.ls S R5;exact .inr ⟨a,vs,rfl,q1,r1.length.trans hl,Z,s,m,_,ρ',er,S,r1,e,kk⟩
    ·cases e
   ·cases e⟩
def xAsg(f:XE)(h:XG)(Z:En)(s:Sto):SO:=(f Z s).so λv s1=>match h v Z s1 with
 |some ρ'=>.nx ρ' s1
 |none=>.bad
def Fy{h:XG}{tg}(he:DE X CB E e f)(hg:DG X CB tg h)(hs:gP [tg] e pos.line X.env=pure false:=by rfl)(hw:gQ [tg] e X.env=pure none:=by rfl)(h1:(cQ [tg] X.env).map (·.2)=[assign tg X.env]:=by rfl):DS X CB E (.Assign [tg] e pos) (xAsg f h) :=
 ⟨(JP he.pe hg.pg hs hw h1).mono λD O H=>oE λZ s m er S P=>⟨Z,s,m,er,S,Post.so P λv s1 u H1 m1 e1 S1 r1 P1=>by
  split at P1
  ·rename_i ρ' hρ;exact⟨Z,s1,m1,v,ρ',er.ext e1,S1,r1,hρ,λσ' er'=>P1.next S1 er'⟩
  ·exact P1.elim⟩⟩
def xPar(i j:Nat)(fa:XA)(Z:En)(s:Sto):SO:=(fa Z s).so λvs s1=>match vs with
 |[v,w]=>.nx ((Z.set i (Za v)).set j (Za w)) s1
 |_=>.bad
def OK{kt k2 pt2}(hc:X.calm=true)(hN:X.N.Nodup)(hi:X.N[i]?=Za x)(hj:X.N[j]?=Za y)(Tq:i≠j)(hx:X.env.scope.names.lookup x=Za .local)(hy:X.env.scope.names.lookup y=Za .local)(ha:DA X CB E [a,b] fa)(hw:gQ [.Tuple [.Name x px,.Name y py] kt pt] (.Tuple [a,b] k2 pt2) X.env=pure (Za [x,y]))(hs:gP [.Tuple [.Name x px,.Name y py] kt pt] (.Tuple [a,b] k2 pt2) pos.line X.env=pure false:=by rfl):DS X CB E (.Assign [.Tuple [.Name x px,.Name y py] kt pt] (.Tuple [a,b] k2 pt2) pos) (xPar i j fa) :=
 ⟨(NT hc hN hi hj Tq hx hy ha.pa hw hs).mono λD O H=>oE λZ s m er S P=>⟨Z,s,m,er,S,Post.so P λv s1 u H1 m1 e1 S1 r1 P1=>by
  split at P1
  ·cases r1 with
   |cons a b =>
    cases b with
    |cons b c=>cases c;exact⟨_,_,rfl,P1.next S1 (((er.ext e1).set i a).set j b)⟩
  ·exact P1.elim⟩⟩
def sQ(o i v:PV)(s:Sto):Option Sto:=match o with
 |.ref n=>match s.get n with
  |some (.lst l)=>match i with
   |.int k=>match ixN l.length k with
    |some j=>Za (s.set n (.lst (l.set j v)))
    |none=>Zb
   |_=>Zb
  |some (.dct l)=>match kyOf i with
   |some k=>if l.length<100000 then Za (s.set n (.dct (xw l k v))) else Zb
   |none=>Zb
  |_=>Zb
 |_=>Zb
def xPut(fo fi fv:XE)(Z:En)(s:Sto):SO:=(fv Z s).so λv s1=>(fo Z s1).so λo s2=>(fi Z s2).so λi s3=>match sQ o i v s3 with
 |some s4=>.nx Z s4
 |none=>.bad
def M4:V->V->V->Hp->(Hp->Prop)->Prop:=λo i v H Q=>∃a H',o=.ref a/\DPut H a i v H'/\Q H'
def Il(hu:X.A.units+1<eR):PSet X M4:=by intro Pf s O H o i v ov iv u Q I ro ri rv h;obtain⟨a,H',rfl,g,q⟩:=h;obtain rfl:ov=bi a:=ro;exact By hu I g ri rv λs4 I4=>⟨H',I4,q⟩
def PSet.or{t t':MQ}(h:PSet X t)(h':PSet X t'):PSet X (λo i v H Q=>t o i v H Q\/t' o i v H Q):=λPf s O H o i v ov iv u Q I r1 r2 r3 q=>q.elim (h Pf s O H o i v ov iv u Q I r1 r2 r3) (h' Pf s O H o i v ov iv u Q I r1 r2 r3)
def NR{K}{H}{m}{s s'}{o i v}{xo xi xv}(S:SR K CB H m s)(ro:Rep K H m s xo o)(ri:Rep K H m s xi i)(rv:Rep K H m s xv v)(e:sQ o i v s=Za s'){Q}(hq:∀H' m',Ext H m s H' m' s'->SR K CB H' m' s'->Q H'):M0 xo xi xv H Q\/M4 xo xi xv H Q:=by
 unfold sQ at e;split at e
 ·split at e
  ·rename_i l hg;split at e
   ·split at e
    ·rename_i j hj;cases e;cases ro;cases ri;obtain⟨_,vs,h1,q1⟩:=S.get hg;obtain⟨S2,e2⟩:=S.putL hg (q1.set j rv);exact .inl ⟨_,vs,_,j,rfl,rfl,h1,by rw[q1.length];exact hj,hq _ _ e2 S2⟩
    ·cases e
   ·cases e
  ·rename_i l hg;split at e
   ·rename_i k hk;split at e
    ·rename_i hl;cases e;cases ro;obtain⟨_,vs,h1,q1⟩:=S.get hg;obtain⟨S2,e2⟩:=S.putD hg (q1.put k rv);exact .inr ⟨_,_,rfl,.inl ⟨vs,k,h1,pY ri hk,by rw[q1.length];exact sz6 hl,rfl⟩,hq _ _ e2 S2⟩
    ·cases e
   ·cases e
  ·cases e
 ·cases e
def yg{PY}(ho:DE X CB E a f)(hi:DE X CB E b g)(hv:DE X CB E e h){jr}(hr:Room jr X.A:=by assumption)(hs:gP [ig a b PY] e pos.line X.env=pure false:=by rfl)(hw:gQ [ig a b PY] e X.env=pure none:=by rfl)(h1:(cQ [ig a b PY] X.env).map (·.2)=[assign (ig a b PY) X.env]:=by rfl)(ha:∀v,assign (.Subscript a b PY) X.env v=(do
   let ov <-holding [v] (eval a X.env);let iv <-holding [v,ov] (eval b X.env)
   gc PY
   holding [v,ov,iv] (jY ov iv v)
   release [v,ov,iv] []):=by intro _;rfl):DS X CB E (.Assign [.Subscript a b PY] e pos) (xPut f g h) :=
 ⟨(JP hv.pe (NZ ho.pe hi.pe (set_list.or (Il (nj hr))) ha) hs hw h1).mono λD O H=>oE λZ s m er S P=>⟨Z,s,m,er,S,Post.so P λv s1 u H1 m1 e1 S1 r1 P1 =>
  ⟨Z,s1,m1,er.ext e1,S1,Post.so P1 λo s2 uo H2 m2 e2 S2 r2 P2=>⟨Z,s2,m2,(er.ext e1).ext e2,S2,Post.so P2 λi s3 ui H3 m3 e3 S3 r3 P3=>by
   split at P3
   ·rename_i s4 h4;exact NR S3 (r2.ext e3) r3 ((r1.ext e2).ext e3) h4 λH' m' x S'=>P3 O H' m' x S' ((((er.ext e1).ext e2).ext e3).ext x)
   ·exact P3.elim⟩⟩⟩⟩
def p7(K:aa)(CB:ak)(J:It)(l:List PV)(H0:Hp)(m0:Mp)(s0:Sto):Prop:=∀i H m s,Ext0 H0 m0 s0 H m s->SR K CB H m s ->
 (∀q,l[i]?=Za q->J.go i H/\∀x H',J.yld i H x H'->Ext H m s H' m s/\SR K CB H' m s/\Rep K H' m s x q)/\(l.length<=i->J.stop i H)
def TDI(K:aa)(CB:ak)(E:XK)(f:XA):TI:=λO H R=>∃Z s m,ER K H m s O Z/\SR K CB H m s/\match f Z s with
 |.ok l s'=>∀J H' m',Ext H m s H' m' s'->SR K CB H' m' s'->p7 K CB J l H' m' s'->R J H'
 |.ex c s'=>∀H' m',Ext H m s H' m' s'->SR K CB H' m' s'->E (.ref c) Zb H'
 |.bad=>False
structure DI(X:Cx)(CB:ak)(E:XK)(tg e:bo)(f:XA):Prop where
 pi:PI X tg e (TDI X.K CB E f)
def PI.mono{tg}{t t':TI}(h:PI X tg e t)(k:∀O H R,t' O H R->t O H R):PI X tg e t':=λPf s O H R I q=>h Pf s O H R I (k O H R q)
end
section
variable{X:Cx}{CB:ak}{E:XK}{a b c e tg:bo}{es:List bo}{f g h:XE}{fa fi:XA}{t:XT}{p pos Pw Pg Ph:Pos}{x:Str}{st:bR}{pQ QO Qw:List bR}{u v:XS}
def xIter(f:XE)(Z:En)(s:Sto):Out (List PV):=(f Z s).bind λv s1=>match v with
 |.lst l=>.ok l s1
 |.seq l=>.ok l s1
 |.tup l=>.ok l s1
 |_=>.bad
def Nk{K}{H0}{m0}{s0}{b}{q}{l}(r:Rep K H0 m0 s0 (.ref b) q)(hl:∀s,lsOf s q=Za l):p7 K CB (Itl K b) l H0 m0 s0:=by intro i H m s ex S;obtain⟨b',vs,e,hq,rs⟩:=(r.ext0 ex.toExtR).ls S (hl s);cases e;refine⟨λq' Qg=>?_,λhi=>⟨vs,hq,by rw[rs.length];exact hi⟩⟩;obtain⟨u,hu,ru⟩:=rs.get Qg;refine⟨⟨vs,u,hq,hu⟩,λx H' ⟨e1,e2⟩=>?_⟩;subst e1;have e3:=e2 vs hq;rw[hu] at e3;cases e3;exact⟨.refl,S,ru⟩
def iterT{K}{H0}{m0}{s0}{b}{l}(r:Rep K H0 m0 s0 (.ref b) (.tup l)):p7 K CB (Itt K b) l H0 m0 s0:=by intro i H m s ex S;obtain⟨b',vs,e,hq,rs⟩:=(r.ext0 ex.toExtR).tp;cases e;refine⟨λq' Qg=>?_,λhi=>⟨vs,hq,by rw[rs.length];exact hi⟩⟩;obtain⟨u,hu,ru⟩:=rs.get Qg;refine⟨⟨vs,u,hq,hu⟩,λx H' ⟨e1,e2⟩=>?_⟩;subst e1;have e3:=e2 vs hq;rw[hu] at e3;cases e3;exact⟨.refl,S,ru⟩
def iLT(K:aa)(tl:TE):TI:=λO H R=>tl O H λx H1=>(∃a,x=.ref a/\(∃xs,SqL K H1 a xs)/\R (Itl K a) H1)\/(∃a,x=.ref a/\(∃xs,SqT K H1 a xs)/\R (Itt K a) H1)
def pi_lt(hl:PE X e tl):PI X tg e (iLT X.K tl):=by
 intro Pf s O H R I h;refine thn (hl Pf s O H _ I h) λv s1=>e4 λx H1 I1 r1 q1=>?_;rcases q1 with⟨a,e,⟨xs,hq⟩,q⟩|⟨a,e,⟨xs,hq⟩,q⟩
 ·subst e;cases r1;obtain⟨its,rv,p,hz⟩:=I1.list hq;refine gJ p.isList ?_;refine⟨s1.heap.objs.size,[s1.heap.objs.size],_,_,H1,rfl,I1.kept (t':=s1.toks) λb o e=>ar _ e,AW a _,⟨_,a6 _ rfl,rfl,rfl⟩,λb hb=>?_,q⟩;have e:b=s1.heap.objs.size:=by simpa using hb
  subst e;exact I1.fpOk (ap _) (I1.hok.fresh (ap _))
 ·subst e;cases r1;obtain⟨its,rv,p,hz⟩:=I1.tuple hq;refine wpAny_pyIter_tuple (show s1.heap.IsTuple a its.toArray from p) ?_;refine⟨s1.heap.objs.size,[s1.heap.objs.size],_,_,H1,rfl,I1.kept (t':=s1.toks) λb o e=>ar _ e,Eu a _,⟨_,a6 _ rfl,rfl,rfl⟩,λb hb=>?_,q⟩;have e:b=s1.heap.objs.size:=by simpa using hb
  subst e;exact I1.fpOk (ap _) (I1.hok.fresh (ap _))
theorem TDI.bind(q:TDI X.K CB E (λZ s=>(f Z s).bind F) O H R)(k:∀v s1 u H1 m1,SR X.K CB H1 m1 s1->Rep X.K H1 m1 s1 u v->(match F v s1 with
  |.ok l s'=>∀J H' m',Ext H1 m1 s1 H' m' s'->SR X.K CB H' m' s'->p7 X.K CB J l H' m' s'->R J H'
  |.ex c s'=>∀H' m',Ext H1 m1 s1 H' m' s'->SR X.K CB H' m' s'->E (.ref c) Zb H'
  |.bad=>False)->Q u H1):TDE X.K CB E f O H Q:=by
 obtain⟨Z,s,m,er,S,P⟩:=q;refine⟨Z,s,m,er,S,?_⟩;cases c:f Z s with
 |ok v s1 =>
  simp only[c,Out.bind] at P;refine λu H1 m1 e1 S1 r1=>k v s1 u H1 m1 S1 r1 ?_;cases d:F v s1 with
  |ok l s'=>rw[d] at P;exact λJ H' m' x=>P J H' m' (e1.trans x)
  |ex c' s'=>rw[d] at P;exact λH' m' x=>P H' m' (e1.trans x)
  |bad=>rw[d] at P;exact P
 |ex c' s'=>simp only[c,Out.bind] at P;exact P
 |bad=>simp only[c,Out.bind] at P
def rJ(hl:DE X CB E e f):DI X CB E tg e (xIter f):=⟨(pi_lt hl.pe).mono λO H R q=>TDI.bind q λv s1 u H1 m1 S1 r1 P=>by
 cases r1 with
 |lst h1 h2 h3=>exact .inl ⟨_,rfl,⟨_,SqL.of h1⟩,P _ _ _ .refl S1 (Nk (.lst h1 h2 h3) λ_=>rfl)⟩
 |seq h1 h3=>exact .inl ⟨_,rfl,⟨_,h1.elim (λz=>.inl (.inr z.1)) .inr⟩,P _ _ _ .refl S1 (Nk (.seq h1 h3) λ_=>rfl)⟩
 |tup h1 h3=>exact .inr ⟨_,rfl,⟨_,h1.elim (λz=>.inl z.1) .inr⟩,P _ _ _ .refl S1 (iterT (.tup h1 h3))⟩
 |_=>exact P.elim⟩
def strP(x:Str):List PV:=x.cps.toList.map λc=>PV.str ⟨#[c]⟩
def xIterS(f:XE)(Z:En)(s:Sto):Out (List PV):=(f Z s).bind λv s1=>match v with
 |.str x=>.ok (strP x) s1
 |_=>.bad
def uP(lo:Int)(n:Nat):List PV:=(bA n).map λ(k:Nat)=>PV.int (lo+k)
def xRng1(fa:XA)(Z:En)(s:Sto):Out (List PV):=(fa Z s).bind λvs s1=>match vs with
 |[.int j]=>if -(2^62)<=j/\j<2^62 then .ok (uP 0 j.toNat) s1 else .bad
 |_=>.bad
def iterR{K}{lo}{n}{H0}{m0}{s0}:p7 K CB (Itr lo n) (uP lo n) H0 m0 s0:=by
 intro i H m s ex S;refine⟨λq hq=>?_,λhi=>?_⟩
 ·unfold uP at hq;rw[aC] at hq;by_cases hi:i<n
  ·rw[fT hi] at hq;cases hq;exact⟨hi,λx H' ⟨e1,e2⟩=>by subst e1 e2;exact⟨.refl,S,.int⟩⟩
  ·rw[cJ (by simpa using hi)] at hq;cases hq
 ·unfold uP at hi;rw[ac,List.length_range] at hi;exact hi
def TDI.bindA(q:TDI X.K CB E (λZ s=>(fa Z s).bind F) O H R)(k:∀v s1 u H1 m1,SR X.K CB H1 m1 s1->Reps X.K H1 m1 s1 u v->(match F v s1 with
  |.ok l s'=>∀J H' m',Ext H1 m1 s1 H' m' s'->SR X.K CB H' m' s'->p7 X.K CB J l H' m' s'->R J H'
  |.ex c s'=>∀H' m',Ext H1 m1 s1 H' m' s'->SR X.K CB H' m' s'->E (.ref c) Zb H'
  |.bad=>False)->Q u H1):TDA X.K CB E fa O H Q:=by
 obtain⟨Z,s,m,er,S,P⟩:=q;refine⟨Z,s,m,er,S,?_⟩;cases c:fa Z s with
 |ok v s1 =>
  simp only[c,Out.bind] at P;refine λu H1 m1 e1 S1 r1=>k v s1 u H1 m1 S1 r1 ?_;cases d:F v s1 with
  |ok l s'=>rw[d] at P;exact λJ H' m' x=>P J H' m' (e1.trans x)
  |ex c' s'=>rw[d] at P;exact λH' m' x=>P H' m' (e1.trans x)
  |bad=>rw[d] at P;exact P
 |ex c' s'=>simp only[c,Out.bind] at P;exact P
 |bad=>simp only[c,Out.bind] at P
def pO(ha:DA X CB E [a] fa)(hg:Gl X "range":=by rfl)(hm:X.mg "range"=none:=by exact T.b_range)(hs:aB [a] X.env=[(false,eval a X.env)]:=by rfl):DI X CB E tg (.Call (.Name "range" p) [a] [] pos) (xRng1 fa) :=
 ⟨(GU hg hm ha.pa hs).mono λO H R q=>TDI.bindA q λv s1 u H1 m1 S1 r1 P=>by
  split at P
  ·rename_i l s' hF;split at hF
   ·split at hF<;>cases hF
    rename_i hj;cases r1 with
    |cons r n=>cases n;cases r;exact⟨_,rfl,hj.1,hj.2,P _ _ _ .refl S1 iterR⟩
   ·cases hF
  ·rename_i hF;split at hF
   ·split at hF<;>cases hF
   ·cases hF
  ·exact P.elim⟩
def Nj:Key->PV
 |.inl i=>.int i
 |.inr x=>.str x
def xIterD(f:XE)(Z:En)(s:Sto):Out (List PV):=(f Z s).bind λv s1=>match v with
 |.dct l=>.ok (l.map λkv=>Nj kv.1) s1
 |_=>.bad
def iDict(tl:TE):TI:=λO H R=>tl O H λx H1=>∃d kvs,x=.ref d/\((H1 d=Za (.dK kvs)/\∀ob,R (Itd d ob kvs) (upd H1 d (.frz ob (.dK kvs))))\/∃ob,H1 d=Za (.frz ob (.dK kvs))/\R (Itd d ob kvs) H1)
def Li(hl:PE X e tl):PI X tg e (iDict tl):=by
 intro Pf s O H R I h;refine thn (hl Pf s O H _ I h) λv s1=>e4 λx H1 I1 r1 q1=>?_;obtain⟨d,kvs,e,q1⟩:=q1;subst e;cases r1;have hd:Rd H1 d (.dK kvs):=q1.elim (λz=>.inl z.1) λ⟨ob,z,_⟩=>.inr ⟨ob,z⟩;obtain⟨z,RW,vs,rel,dd⟩:=sR I1.hok hd;obtain⟨ep,at_⟩:=dd.dictAt;obtain⟨ob,es,ho,hex,Q9,hrest⟩:=id at_;refine wpAny_pyIter_dict RW at_ ?_;have hl:=rel.length;have I2:Inv X Pf O H1 { s1 with heap:=s1.heap.push { cls:=.type "dict_keyiterator",data:=.fields #[.ref d,.int 0 0,.int vs.length 0,.int ep 0] } }:=I1.kept (t':=s1.toks) λb o e=>ar _ e;have PL:s1.heap.objs.size≠d:=λz=>by have:=az ho;rw[z] at this;exact dP _ this
 have Qf:(0<=kvs.length/\(s1.heap.push { cls:=.type "dict_keyiterator",data:=.fields #[.ref d,.int 0 0,.int vs.length 0,.int ep 0] }).IsKeyIter s1.heap.objs.size d 0 kvs.length ep):=by refine⟨aZ _,{ cls:=.type "dict_keyiterator",data:=.fields #[.ref d,.int 0 0,.int vs.length 0,.int ep 0] },a6 _ rfl,rfl,?_⟩;rw[hl];rfl
 rcases q1 with⟨Tu,q⟩|⟨ob',Tu,q⟩
 ·refine⟨s1.heap.objs.size,[s1.heap.objs.size],_,Itd d ob kvs,_,rfl,I2.freeze Tu (ar _ ho),AX d _ ob kvs es ep Q9,Qf,λb hb=>?_,q ob⟩;have e:b=s1.heap.objs.size:=by simpa using hb
  subst e;refine I1.fpOk (ap _) ?_;rw[lG PL];exact I1.hok.fresh (ap _)
 ·have e0:ob'=ob:=by obtain⟨e1,_⟩:=(show ObjOk X.prog X.w H1 s1.heap d (.frz ob' (.dK kvs)) from I1.hok d _ Tu);rw[ho] at e1;exact(aO e1).symm
  subst e0;refine⟨s1.heap.objs.size,[s1.heap.objs.size],_,Itd d ob' kvs,_,rfl,I2,AX d _ ob' kvs es ep Q9,Qf,λb hb=>?_,q⟩;have e:b=s1.heap.objs.size:=by simpa using hb
  subst e;exact I1.fpOk (ap _) (I1.hok.fresh (ap _))
def Oy{K}{H}{m}{s}(k):Rep K H m s (kV k) (Nj k):=by
 cases k with
 |inl i=>exact .int
 |inr x=>exact .str
theorem RepKs.get:∀{K:aa}{H:Hp}{m:Mp}{s:Sto}{vs:List (Key×V)}{l:List (Key×PV)}{i:Nat}{q:Key×PV},RepKs K H m s vs l->l[i]?=Za q->∃w,vs[i]?=Za w/\w.1=q.1
 |_,_,_,_,_,_,_,_,.nil,e=>by simp at e
 |_,_,_,_,_,_,0,_,.cons _ _,e=>by simp at e;subst e;exact⟨_,rfl,rfl⟩
 |_,_,_,_,_,_,i+1,q,.cons _ b,e=>by obtain⟨w,h1,h2⟩:=b.get (i:=i) (q:=q) (by simpa using e);exact⟨w,by simpa using h1,h2⟩
def Nn{K}{H0}{m0}{s0}{d}{ob}{kvs}{l}(hd:∀H m s,Ext0 H0 m0 s0 H m s->SR K CB H m s->H d=Za (.frz ob (.dK kvs)))(r:RepKs K H0 m0 s0 kvs l):p7 K CB (Itd d ob kvs) (l.map λkv=>Nj kv.1) H0 m0 s0:=by
 intro i H m s ex S;have h:=hd H m s ex S;refine⟨λq hq=>?_,λhi=>⟨by rw[r.length];simpa using hi,h⟩⟩;rw[aC] at hq;cases c:l[i]? with
 |none=>rw[c] at hq;cases hq
 |some kv =>
  rw[c] at hq;cases hq;obtain⟨w,h1,h2⟩:=r.get c;refine⟨⟨(aW.mp h1).1,h⟩,λx H' ⟨e1,kv',e2,e3⟩=>?_⟩;subst e1 e3;rw[h1] at e2;cases e2;rw[h2];exact⟨.refl,S,Oy _⟩
def Ext.freeze{K}{H}{m}{s}{d}{ob}{kvs}(S:SR K CB H m s)(hd:H d=Za (.dK kvs))(hp:Pur m s d):Ext H m s (upd H d (.frz ob (.dK kvs))) m s:=by
 refine⟨⟨⟨ap _,λ_ _=>rfl,λa u h p=>⟨?_,p⟩,λa u h n p=>?_⟩,λj l hj h=>⟨h,λo ho=>?_⟩⟩,rfl,λa ha o h _=>?_⟩
 ·by_cases e:a=d
  ·subst e;rcases h with h|⟨o,h⟩
   ·rw[hd] at h;cases h;exact .inr ⟨ob,lJ⟩
   ·rw[hd] at h;cases h
  ·exact h.elim (λh=>.inl (by rw[lG e];exact h)) λ⟨o,h⟩=>.inr ⟨o,by rw[lG e];exact h⟩
 ·rw[lG (CT h hd (n _))];exact h
 ·obtain⟨e1,_⟩:=S.ok _ (oF h);rw[lG (show m.ad j≠d from λz=>hp.2 j (aj.mpr ⟨_,oF h,rfl⟩) (by rw[e1,z];simp))];exact ho
 ·rw[lG (show a≠d from λz=>hp.1 (by rw[<-z];exact ha))];exact h
def SR.freezeP{K}{H}{m}{s}{d}{ob}{kvs}(S:SR K CB H m s)(hd:H d=Za (.dK kvs))(hp:Pur m s d):SR K CB (upd H d (.frz ob (.dK kvs))) m s:=by refine⟨S.nd,S.lt,λq hq=>(S.ok q hq).keep S (Ext.freeze S hd hp).toExtR (λa ha o h=>?_) rfl rfl,S.dj,S.hx,S.hsk (Ext.freeze S hd hp).hk (.upd hd ET),S.tbk (.upd hd ET)⟩;have:a≠d:=λz=>hp.2 q.1 (aj.mpr ⟨q,hq,rfl⟩) (z▸ha);rw[lG this];exact h
def Mo(hl:DE X CB E e f):DI X CB E tg e (xIterD f):=⟨(Li hl.pe).mono λO H R q=>TDI.bind q λv s1 u H1 m1 S1 r1 P=>by
 cases r1 with
 |dct h1 h2 h3 =>
  rename_i d vs l;rcases h1 with h1|⟨ob,h1⟩
  ·refine⟨d,vs,rfl,.inl ⟨h1,λob=>P _ _ m1 (.freeze S1 h1 h2) (S1.freezeP h1 h2) (Nn (λH m s ex S=>ex.el _ _ lJ (by intro _ z;cases z) h2) (h3.ext (.freeze S1 h1 h2)))⟩⟩
  ·exact⟨d,vs,rfl,.inr ⟨ob,h1,P _ _ m1 .refl S1 (Nn (λH m s ex S=>ex.el _ _ h1 (by intro _ z;cases z) h2) h3)⟩⟩
 |_=>exact P.elim⟩
def nM(body:PV->XS):List PV->XS
 |[],Z,s=>.nx Z s
 |q::l,Z,s=>match body q Z s with
  |.nx ρ' s'=>nM body l ρ' s'
  |.ct ρ' s'=>nM body l ρ' s'
  |.bk ρ' s'=>.nx ρ' s'
  |o=>o
def mK(y:XG)(u:XS)(q:PV)(Z:En)(s:Sto):SO:=match y q Z s with
 |some ρ'=>u ρ' s
 |none=>.bad
def xFor(fi:XA)(y:XG)(body:XS)(Z:En)(s:Sto):SO:=((fi Z s).so λl s1=>nM (mK y body) l Z s1).noex
def Ji(S1:SR X.K CB H1 m1 s1)(er:ER X.K H1 m1 s1 O Z)(it:p7 X.K CB J l H1 m1 s1)(P:PostS X.K CB E0 (nM (mK y u) l Z s1) H1 m1 s1 D) :
  ∃W:Nat->Nat->St->Hp->Prop,(∃m,W 0 m O H1)/\∀i m O H,W i m O H ->
   (J.stop i H/\D.nx O H)\/(J.go i H/\∃N:St->Hp->Prop,(∀σ' H',N σ' H'->∃m',m'<m/\W (i+1) m' σ' H')/\∀x H',J.yld i H x H'->(TDG X.K CB y) x O H' λσ2 H2=>(TDS X.K CB E0 u) { D with nx:=N,ct:=N,bk:=D.nx } σ2 H2):=by
 refine⟨λi k σ' H'=>∃ρ' s' m',ER X.K H' m' s' σ' ρ'/\SR X.K CB H' m' s'/\Ext H1 m1 s1 H' m' s'/\i<=l.length/\k=l.length-i/\PostS X.K CB E0 (nM (mK y u) (l.drop i) ρ' s') H' m' s' D,⟨l.length,Z,s1,m1,er,S1,.refl,aZ _,rfl,P⟩,?_⟩
 rintro i k σ' H' ⟨ρ',s',m',er',S',Ul,R8,rfl,P'⟩
 obtain⟨RU,Rn⟩:=it i H' m' s' Ul.toExt0 S';by_cases Pt:i<l.length
 ·right;have hq:l[i]?=Za l[i]:=au Pt;obtain⟨go,yl⟩:=RU _ hq;rw[eJ Pt] at P';refine⟨go,λσ2 H2=>∃ρ2 s2 m2,ER X.K H2 m2 s2 σ2 ρ2/\SR X.K CB H2 m2 s2/\Ext H1 m1 s1 H2 m2 s2/\PostS X.K CB E0 (nM (mK y u) (l.drop (i+1)) ρ2 s2) H2 m2 s2 D,λσ2 H2 ⟨ρ2,s2,m2,a1,a2,a3,a4⟩=>⟨l.length-(i+1),by omega,ρ2,s2,m2,a1,a2,a3,Pt,rfl,a4⟩,λx H2 hy=>?_⟩;obtain⟨e2,S2,r2⟩:=yl x H2 hy;unfold nM at P';have hbo:mK y u l[i] ρ' s'=match y l[i] ρ' s' with|some ρ'=>u ρ' s'|none=>.bad:=rfl
  rw[hbo] at P';cases hyq:y l[i] ρ' s' with
  |none=>rw[hyq] at P';exact P'.elim
  |some ρ2 =>
   rw[hyq] at P';have P':=PostS.shift e2 P';dsimp only at P';refine⟨ρ',s',m',l[i],ρ2,er'.ext e2,S2,r2,hyq,λσ2 er2=>⟨ρ2,s',m',er2,S2,?_⟩⟩;cases cb:u ρ2 s' with
   |nx ρ3 s3=>rw[cb] at P';exact λσ3 H3 m3 e3 S3 Rh=>⟨ρ3,s3,m3,Rh,S3,(Ul.trans e2).trans e3,PostS.shift e3 P'⟩
   |ct ρ3 s3=>rw[cb] at P';exact λσ3 H3 m3 e3 S3 Rh=>⟨ρ3,s3,m3,Rh,S3,(Ul.trans e2).trans e3,PostS.shift e3 P'⟩
   |bk ρ3 s3=>rw[cb] at P';exact P'
   |rt v3 s3=>rw[cb] at P';exact P'
   |ex c3 s3=>rw[cb] at P';exact P'
   |bad=>rw[cb] at P';exact P'
 ·left;have Qn:l.length<=i:=eE Pt;rw[fj Qn] at P';exact⟨Rn Qn,P'.next S' er'⟩
def qq(hi:DI X.nox CB E0 tg e fi)(hg:DG X.nox CB tg y)(hb:DSs X.nox CB E0 QO u)(hc:X.calm=true:=by rfl)(hs:∀x,b6 e X.env x=pure x:=by intro _;rfl):DS X CB E (.For tg e QO [] pos) (xFor fi y u) :=
 ⟨PS.nox ((NU (X:=X.nox) iN hc hi.pi hg.pg hb.pss hs).mono λD O H=>oE λZ s m er S P=>by
  have P:=PostS.noex P;refine⟨Z,s,m,er,S,?_⟩;cases c:fi Z s with
  |bad=>rw[c] at P;exact P
  |ex c' s'=>rw[c] at P;exact P
  |ok l s1 =>
   rw[c] at P;intro J H1 m1 e1 S1 it;exact Ji (X:=X.nox) S1 (er.ext e1) it (PostS.shift e1 P))⟩
def mz(c:XT)(b:XS):Nat->XS
 |0,_,_=>.bad
 |n+1,Z,s=>(c Z s).so λt s1=>if t=true then(match b Z s1 with
  |.nx ρ' s'=>mz c b n ρ' s'
  |.ct ρ' s'=>mz c b n ρ' s'
  |.bk ρ' s'=>.nx ρ' s'
  |o=>o) else .nx Z s1
open Classical in
def sX(c:XT)(b:XS)(Z:En)(s:Sto):SO:=if h:∃n,mz c b n Z s≠.bad then(mz c b h.choose Z s).noex else .bad
def zS{c}(hc:DT X.nox CB E0 c t)(hb:DSs X.nox CB E0 QO u):DS X CB E (.While c QO [] pos) (sX t u) :=
 ⟨PS.nox ((DM (X:=X.nox) iN hc.pt hb.pss).mono λD O H=>oE λZ s m er S P=>by
  unfold sX at P;split at P
  ·rename_i h;have P:=PostS.noex P;refine⟨λn σ' H'=>∃ρ' s' m',ER X.K H' m' s' σ' ρ'/\SR X.K CB H' m' s'/\PostS X.K CB E0 (mz t u n ρ' s') H' m' s' D,⟨_,Z,s,m,er,S,P⟩,?_⟩
   rintro n σ' H' ⟨ρ',s',m',er',S',P'⟩
   cases n with
   |zero=>exact P'.elim
   |succ n =>
    refine⟨ρ',s',m',er',S',Post.so P' λb s1 b' H1 m1 e1 S1 r1 P1=>?_⟩;cases r1;refine uY (λcb=>?_) λcb=>?_
    ·rw[Zc cb] at P1;refine⟨λσ2 H2=>∃ρ2 s2 m2,ER X.K H2 m2 s2 σ2 ρ2/\SR X.K CB H2 m2 s2/\PostS X.K CB E0 (mz t u n ρ2 s2) H2 m2 s2 D,λσ2 H2 q=>⟨n,cC _,q⟩,ρ',s1,m1,er'.ext e1,S1,?_⟩;cases cu:u ρ' s1 with
     |nx ρ3 s3=>rw[cu] at P1;exact λσ3 H3 m3 e3 S3 Rh=>⟨ρ3,s3,m3,Rh,S3,PostS.shift e3 P1⟩
     |ct ρ3 s3=>rw[cu] at P1;exact λσ3 H3 m3 e3 S3 Rh=>⟨ρ3,s3,m3,Rh,S3,PostS.shift e3 P1⟩
     |bk ρ3 s3=>rw[cu] at P1;exact P1
     |rt v3 s3=>rw[cu] at P1;exact P1
     |ex c3 s3=>rw[cu] at P1;exact P1
     |bad=>rw[cu] at P1;exact P1
    ·rw[Zd cb] at P1;exact P1.next S1 (er'.ext e1)
  ·exact P.elim)⟩
theorem tH{c}{b}:∀{n:Nat}{Z:En}{s:Sto},mz c b n Z s≠.bad->mz c b (n+1) Z s=mz c b n Z s
 |0,_,_,h=>absurd rfl h
 |n+1,Z,s,h=>by
  unfold mz at h ⊢;cases hc:c Z s with
  |ok t s1 =>
   rw[hc] at h;simp only[Out.so] at h ⊢;by_cases ht:t=true
   ·rw[Zc ht] at h ⊢;rw[Zc ht];cases hb:b Z s1 with
    |nx ρ' s'=>rw[hb] at h;exact tH h
    |ct ρ' s'=>rw[hb] at h;exact tH h
    |_=>rfl
   ·rw[Zd ht,Zd ht]
  |ex=>rfl
  |bad=>rfl
def AS{c}{b}{n k}{Z}{s}(h:mz c b n Z s≠.bad):mz c b (n+k) Z s=mz c b n Z s:=by
 induction k with
 |zero=>rfl
 |succ k ih=>rw[<-jW,tH (by rw[ih];exact h),ih]
def wM{c}{b}{n}{Z}{s}{o}(h:mz c b n Z s=o)(ho:o≠.bad):sX c b Z s=o.noex:=by have hx:∃n,mz c b n Z s≠.bad:=⟨n,by rw[h];exact ho⟩;unfold sX;rw[dif_pos hx];have h1:=AS (k:=n) hx.choose_spec;have h2:=AS (k:=hx.choose) (show mz c b n Z s≠.bad by rw[h];exact ho);rw[kH] at h2;rw[<-h1,h2,h]
end
def nl(c:XT)(e:XE)(cap:En):List PV->Sto->Out (List PV)
 |[],s=>.ok [] s
 |q::l,s=>match c (Za q::cap) s with
  |.ok true s1=>match e (Za q::cap) s1 with
   |.ok v s2=>match nl c e cap l s2 with
    |.ok vs s3=>.ok (v::vs) s3
    |_=>.bad
   |_=>.bad
  |.ok false s1=>nl c e cap l s1
  |_=>.bad
def oH:nl c e cap (q::l) s=match c (Za q::cap) s with
  |.ok true s1=>match e (Za q::cap) s1 with
   |.ok v s2=>match nl c e cap l s2 with
    |.ok vs s3=>.ok (v::vs) s3
    |_=>.bad
   |_=>.bad
  |.ok false s1=>nl c e cap l s1
  |_=>.bad:=rfl
theorem zW:∀{l:List PV}{s s':Sto}{k:ak},nl c e cap l s≠.ex k s'
 |[],_,_,_,h=>by cases h
 |q::l,s,s',k,h=>by
  unfold nl at h;split at h
  ·split at h
   ·split at h<;>cases h
   ·cases h
  ·exact zW h
  ·cases h
def mU(_:En)(s:Sto):Out Bool:=.ok true s
def o4(fi:XA)(ix:List Nat)(c:XT)(e:XE)(Z:En)(s:Sto):Out PV:=(fi Z s).bind λl s1=>if l.length<=100000 then(nl c e (m8 ix Z) l s1).bind λvs s2=>.ok (.lst vs) s2 else .bad
structure DIfs(X:Cx)(CB:ak)(PD:List bo)(t:XT):Prop where
 pifs:Ff X PD (TDT X.K CB E0 t)
section
variable{X:Cx}{CB:ak}{E:XK}{a b c e PF iter tg:bo}{es PD:List bo}{f g h:XE}{fa fi:XA}{t:XT}{p px pos Pw Pg Ph:Pos}{x:Str}{st:bR}{pQ QO Qw:List bR}{u v:XS}{scope:dG}{fr:List Str}{ix:List Nat}
def uz:DIfs X CB [] mU:=⟨λPf s O H Q I ⟨Z,s',m,er,S,P⟩=>zM Pf s O H Q I (P.here S rfl)⟩
def Jm(h:DT X CB E0 c t):DIfs X CB [c] t:=⟨Iz h.pt⟩
def Mp.hide(m:Mp)(d:ak):Mp:=⟨m.ad,m.fp,d::m.hid⟩
def Mp.bare(m:Mp)(l:List ak):Mp:=⟨m.ad,m.fp,l⟩
theorem Ext0.hide(hd:H d=Zb):Ext0 H m s (upd H d o) (m.hide d) s :=
 ⟨⟨ap _,λ_ _=>rfl,λa u h p=>⟨h.same (My.rS hd),λz=>(ah.mp z).elim (h.ne hd) p.1,p.2⟩,λa u h _ _=>My.rS hd _ _ h⟩,λj l _ h=>⟨h,λo ho=>My.rS hd _ _ ho⟩⟩
theorem SR.hide{K}{H}{m}{s}{d}{xs}(S:SR K CB H m s)(hd:H d=Zb):SR K CB (upd H d (.lst xs)) (m.hide d) s:=by
 have k:=My.rS (o:=.lst xs) hd;have S1:=S.same k;have e0:Ext0 H m s (upd H d (.lst xs)) (m.hide d) s:=Ext0.hide hd;have PL:∀n∈s.cs.map (·.1),∀a∈m.fp n,a≠d:=λn hn a ha z=>by obtain⟨q,hq,rfl⟩:=aj.mp hn;obtain⟨o,e,_⟩:=(S.ok q hq).kind ha;rw[z,hd] at e;cases e
 refine⟨S.nd,S.lt,λq hq=>?_,S.dj,λn hn a ha hb=>(ah.mp hb).elim (PL n hn a ha) (S.hx n hn a ha),λa ha=>?_,λP q t=>⟨ae _ (S1.tb P q t).1,(S1.tb P q t).2⟩⟩
 ·have:=S.ok q hq;cases c:q.2 with
  |lst l=>rw[c] at this;obtain⟨a1,vs,a2,a3⟩:=this;exact⟨a1,vs,k _ _ a2,a3.ext0 e0.toExtR⟩
  |dct l=>rw[c] at this;obtain⟨a1,vs,a2,a3⟩:=this;exact⟨a1,vs,k _ _ a2,a3.ext0 e0.toExtR⟩
  |dfz l=>rw[c] at this;obtain⟨a1,ob,vs,a2,a3⟩:=this;exact⟨a1,ob,vs,k _ _ a2,a3.ext0 e0.toExtR⟩
  |obj C fs=>rw[c] at this;obtain⟨a1,dx,vs,a2,a3,a4⟩:=this;exact⟨a1,dx,vs,k _ _ a2,a3,a4.ext0 e0.toExtR⟩
  |dtt l=>rw[c] at this;obtain⟨a1,vs,a2,a3,a4⟩:=this;exact⟨a1,vs,k _ _ a2,a3,a4.ext0 e0.toExtR⟩
  |book pp L =>
   have:=S1.ok q hq;rw[c] at this;exact this
 ·rcases ah.mp ha with rfl|ha
  ·rw[lJ];exact⟨by simp,λ_ _=>⟨by simp,by simp,by simp,by simp⟩⟩
  ·exact S1.hs a ha
def Ext0.redo{K}{H}{m}{s}{d}{o u0}(S:SR K CB H m s)(hd:d∈m.hid)(hu:H d=Za u0)(QJ:¬Odd u0):Ext0 H m s (upd H d o) m s:=by
 have ne:∀a,Pur m s a->a≠d:=λa p z=>p.1 (z▸hd);refine⟨⟨ap _,λ_ _=>rfl,λa u h p=>⟨?_,p⟩,λa u h _ p=>by rw[lG (ne a p)];exact h⟩,λj l _ h=>⟨h,λo ho=>?_⟩⟩
 rotate_left
 ·obtain⟨e1,_⟩:=S.ok _ (oF h);rw[lG (show m.ad j≠d from λz=>S.hx j (aj.mpr ⟨_,oF h,rfl⟩) (m.ad j) (by rw[e1];simp) (by rw[z];exact hd))];exact ho
 exact h.elim (λh=>.inl (by rw[lG (ne a p)];exact h)) λ⟨o,h⟩=>.inr ⟨o,by rw[lG (ne a p)];exact h⟩
theorem SR.redo{K}{H}{m}{s}{d}{xs ys}(S:SR K CB H m s)(hd:d∈m.hid)(hl:H d=Za (.lst xs)):SR K CB (upd H d (.lst ys)) m s:=by
 have e0:Ext0 H m s (upd H d (.lst ys)) m s:=Ext0.redo S hd hl At;have nt:∀(t:ak)(us:List V),SqT K H t us->SqT K (upd H d (.lst ys)) t us:=λt us h=>by
  rcases h with h|h
  ·refine .inl (e0.pu _ _ h ?_).1;exact h.elim (λh=>S.pure_tup h) λ⟨_,h⟩=>S.pure_frz (.inl h)
  ·exact .inr h
 refine⟨S.nd,S.lt,λq hq=>?_,S.dj,S.hx,λa ha=>?_,S.tbk (.upd hl At)⟩
 ·have hn:q.1∈s.cs.map (·.1):=aj.mpr ⟨q,hq,rfl⟩;have kp:∀a∈m.fp q.1,∀o,H a=Za o->upd H d (.lst ys) a=Za o:=λa ha o h=>by rw[lG (show a≠d from λz=>S.hx _ hn a ha (by rw[z];exact hd))];exact h
  have:=S.ok q hq;cases c:q.2 with
  |lst l=>rw[c] at this;obtain⟨a1,vs,a2,a3⟩:=this;exact⟨a1,vs,kp _ (by rw[a1];simp) _ a2,a3.ext0 e0.toExtR⟩
  |dct l=>rw[c] at this;obtain⟨a1,vs,a2,a3⟩:=this;exact⟨a1,vs,kp _ (by rw[a1];simp) _ a2,a3.ext0 e0.toExtR⟩
  |dfz l=>rw[c] at this;obtain⟨a1,ob,vs,a2,a3⟩:=this;exact⟨a1,ob,vs,kp _ (by rw[a1];simp) _ a2,a3.ext0 e0.toExtR⟩
  |obj C fs=>rw[c] at this;obtain⟨a1,dx,vs,a2,a3,a4⟩:=this;exact⟨a1,dx,vs,kp _ (by rw[a1];simp) _ a2,a3,a4.ext0 e0.toExtR⟩
  |dtt l=>rw[c] at this;obtain⟨a1,vs,a2,a3,a4⟩:=this;exact⟨a1,vs,kp _ (by rw[a1];simp) _ a2,a3,a4.ext0 e0.toExtR⟩
  |book pp L =>
   rw[c] at this;obtain⟨z,L',B,e1,e2⟩:=this;rw[e2] at kp;have kb:∀a∈My.BFp (m.ad q.1) z L',∀o,H a=Za o->upd H d (.lst ys) a=Za o:=kp;refine⟨z,L',⟨kb _ (by simp[My.BFp]) _ B.ob,kb _ (by simp[My.BFp]) _ B.pp,kb _ (by simp[My.BFp]) _ B.tt,kb _ (by simp[My.BFp]) _ B.mm,kb _ (by simp[My.BFp]) _ B.ll,B.hh.keep (λo h=>kb _ (by simp[My.BFp]) _ h),λq' Qg=>?_,B.nd,B.p6,B.h8⟩,e1,e2⟩;obtain⟨ts,h1,h2,h3⟩:=B.he q' Qg;refine⟨ts,h1,kb _ ?_ _ h2,λy hy=>nt _ _ (h3 y hy)⟩;unfold My.BFp;simp only[ah];right;right;right;right;right;right;exact aj.mpr ⟨q',Qg,rfl⟩
 ·by_cases e:a=d
  ·subst e;rw[lJ];exact⟨by simp,λ_ _=>⟨by simp,by simp,by simp,by simp⟩⟩
  ·rw[lG e];exact S.hs a ha
def Ext0.show(hm:m.hid=d::l):Ext0 H m s H (m.bare l) s :=
 ⟨⟨ap _,λ_ _=>rfl,λa u h p=>⟨h,λz=>p.1 (by rw[hm];exact ae _ z),p.2⟩,λa u h _ _=>h⟩,λj l _ h=>⟨h,λo h=>h⟩⟩
theorem SR.show{K}{H}{m}{s}{d}{l}{u0}(S:SR K CB H m s)(hm:m.hid=d::l)(hu:H d=Za u0)(QJ:¬Odd u0):SR K CB H (m.bare l) s:=by
 have e0:Ext0 H m s H (m.bare l) s:=Ext0.show hm;refine⟨S.nd,S.lt,λq hq=>?_,S.dj,λn hn a ha hb=>S.hx n hn a ha (by rw[hm];exact ae _ hb),λa ha=>S.hs a (by rw[hm];exact ae _ ha),λP q t=>⟨?_,(S.tb P q t).2⟩⟩
 rotate_left
 ·obtain⟨h1,ps,h2,_⟩:=S.tb P q t;rw[hm] at h1;rcases ah.mp h1 with z|z
  ·rw[z,hu] at h2;cases h2;exact absurd (.inl ⟨_,rfl⟩) QJ
  ·exact z
 have:=S.ok q hq;cases c:q.2 with
 |lst l=>rw[c] at this;obtain⟨a1,vs,a2,a3⟩:=this;exact⟨a1,vs,a2,a3.ext0 e0.toExtR⟩
 |dct l=>rw[c] at this;obtain⟨a1,vs,a2,a3⟩:=this;exact⟨a1,vs,a2,a3.ext0 e0.toExtR⟩
 |dfz l=>rw[c] at this;obtain⟨a1,ob,vs,a2,a3⟩:=this;exact⟨a1,ob,vs,a2,a3.ext0 e0.toExtR⟩
 |obj C fs=>rw[c] at this;obtain⟨a1,dx,vs,a2,a3,a4⟩:=this;exact⟨a1,dx,vs,a2,a3,a4.ext0 e0.toExtR⟩
 |dtt l=>rw[c] at this;obtain⟨a1,vs,a2,a3,a4⟩:=this;exact⟨a1,vs,a2,a3,a4.ext0 e0.toExtR⟩
 |book pp L=>rw[c] at this;exact this
theorem ER.ext0{K}{H H'}{m m'}{s s'}{O}{Z}(h:ER K H m s O Z)(e:ExtR H m s H' m' s'):ER K H' m' s' O Z :=
 ⟨h.len,λi p q=>let⟨u,a,b⟩:=h.at_ i p q;⟨u,a,b.ext0 e⟩⟩
structure Cmp(K:aa)(CB:ak)(D:ak)(H1:Hp)(m1:Mp)(s1:Sto)(cap:St)(Z:En)(ys:List V)(done:List PV)(H2:Hp)(m2:Mp)(s2:Sto):Prop where
 hid:m2.hid=D::m1.hid
 at_:H2 D=Za (.lst ys)
 sr:SR K CB H2 m2 s2
 er:ER K H2 m2 s2 cap Z
 rs:Reps K H2 m2 s2 ys done
 ex:Ext H1 m1 s1 H2 (m2.bare m1.hid) s2
 e0:Ext0 H1 m1 s1 H2 m2 s2
def Cmp.start{K}{D}{H1}{m1}{s1}{cap}{Z}(S:SR K CB H1 m1 s1)(er:ER K H1 m1 s1 cap Z)(hD:H1 D=Zb):Cmp K CB D H1 m1 s1 cap Z [] [] (upd H1 D (.lst [])) (m1.hide D) s1 :=
 ⟨rfl,lJ,S.hide hD,er.ext0 (Ext0.hide hD).toExtR,.nil,Ext.same (My.rS hD),Ext0.hide hD⟩
def Ext.into{K}{D}{H1 H2 H5}{m1 m2 m5}{s1 s2 s5}(hid:m2.hid=D::m1.hid)(S2:SR K CB H2 m2 s2)(hD:H1 D=Zb)(a:Ext H1 m1 s1 H2 (m2.bare m1.hid) s2)(b:Ext H2 m2 s2 H5 m5 s5):Ext H1 m1 s1 H5 (m5.bare m1.hid) s5:=by
 have pr:∀c u,Rd H1 c u->Pur m1 s1 c->Rd H2 c u/\Pur m2 s2 c:=λc u h p=>by obtain⟨h1,p1⟩:=a.pu c u h p;refine⟨h1,λz=>?_,p1.2⟩;rw[hid] at z;exact(ah.mp z).elim (h.ne hD) p.1
 refine⟨⟨⟨aH a.nx b.nx,λn h=>(b.ad n (aA h a.nx)).trans (a.ad n h),λc u h p=>?_,λc u h n p=>?_⟩,λj l hj h=>?_⟩,rfl,λc hc o h n=>?_⟩
 ·obtain⟨h1,p1⟩:=pr c u h p;obtain⟨h2,p2⟩:=b.pu c u h1 p1;exact⟨h2,p.1,p2.2⟩
 ·obtain⟨_,p1⟩:=pr c _ (.inl h) p;exact b.el c u (a.el c u h n p) n p1
 ·obtain⟨h1,k1⟩:=a.df j l hj h;obtain⟨h2,k2⟩:=b.df j l (aA hj a.nx) h1;have e:m2.ad j=m1.ad j:=a.ad j hj;rw[e] at k2;exact⟨h2,λo h=>k2 o (k1 o h)⟩
 ·exact b.hk c (by rw[hid];exact ae _ hc) o (a.hk c hc o h n) n
def Cmp.step{K}{D}{H1 H2 H5}{m1 m2 m5}{s1 s2 s5}{cap}{Z}{ys}{done}(C:Cmp K CB D H1 m1 s1 cap Z ys done H2 m2 s2)(hD:H1 D=Zb)(b:Ext H2 m2 s2 H5 m5 s5)(S5:SR K CB H5 m5 s5):Cmp K CB D H1 m1 s1 cap Z ys done H5 m5 s5 :=
 ⟨b.hd.trans C.hid,b.hk D (by rw[C.hid];exact ag) _ C.at_ (by intro _ z;cases z),S5,C.er.ext b,C.rs.ext b,Ext.into C.hid C.sr hD C.ex b,C.e0.trans b.toExt0⟩
def Cmp.push{K}{D}{H1 H2}{m1 m2}{s1 s2}{cap}{Z}{ys}{done}{v}{q}(C:Cmp K CB D H1 m1 s1 cap Z ys done H2 m2 s2)(hD:H1 D=Zb)(r:Rep K H2 m2 s2 v q):Cmp K CB D H1 m1 s1 cap Z (ys++[v]) (done++[q]) (upd H2 D (.lst (ys++[v]))) m2 s2:=by
 have hm:D∈m2.hid:=by rw[C.hid];exact ag
 have e0:Ext0 H2 m2 s2 (upd H2 D (.lst (ys++[v]))) m2 s2:=Ext0.redo C.sr hm C.at_ At;refine⟨C.hid,lJ,C.sr.redo hm C.at_,C.er.ext0 e0.toExtR,(C.rs.append (.cons r .nil)).ext0 e0.toExtR,⟨⟨⟨C.ex.nx,C.ex.ad,λc u h p=>?_,λc u h n p=>?_⟩,λj l hj h=>⟨(C.ex.df j l hj h).1,λo ho=>?_⟩⟩,rfl,λc hc o h n=>?_⟩,C.e0.trans e0⟩
 ·obtain⟨h1,p1⟩:=C.ex.pu c u h p;have ne:=h.ne hD;exact⟨h1.elim (λh=>.inl (by rw[lG ne];exact h)) λ⟨o,h⟩=>.inr ⟨o,by rw[lG ne];exact h⟩,p1⟩
 ·rw[lG (lV h hD)];exact C.ex.el c u h n p
 ·rw[lG (lV ho hD)];exact(C.ex.df j l hj h).2 o ho
 ·rw[lG (lV h hD)];exact C.ex.hk c hc o h n
theorem Cmp.done{K}{D}{H1 H2}{m1 m2}{s1 s2}{cap}{Z}{ys}{done}(C:Cmp K CB D H1 m1 s1 cap Z ys done H2 m2 s2):SR K CB H2 (m2.bare m1.hid) s2/\(D∉m1.hid->Rep K H2 (m2.bare m1.hid) s2 (.ref D) (.lst done)):=by refine⟨C.sr.show C.hid C.at_ At,λhn=>.lst C.at_ ⟨hn,λn hh z=>C.sr.hx n hh D z (by rw[C.hid];exact ag)⟩ (C.rs.ext0 (Ext0.show C.hid).toExtR)⟩
def Jr{O}{H1}{m1}{s1}{Z}{J:It}{l}{D}{Q}{t}(S1:SR X.K CB H1 m1 s1)(er:ER X.K H1 m1 s1 O Z)(it:p7 X.K CB J l H1 m1 s1)(hD:H1 D=Zb)(Pk:l.length<=100000)(P:Post X.K CB (Rep X.K) E ((nl t f (m8 ix Z) l s1).bind λvs s2=>.ok (.lst vs) s2) H1 m1 s1 Q):CompB J (TDT X.K CB E0 t) (TDE X.K CB E0 f) (capt ix O) D H1 Q:=by
 refine⟨λi k ys H2=>∃done m2 s2,Cmp X.K CB D H1 m1 s1 (capt ix O) (m8 ix Z) ys done H2 m2 s2/\i<=l.length/\ys.length<=i/\k=l.length-i/\(nl t f (m8 ix Z) l s1).bind (λvs s2=>.ok (PV.lst vs) s2)=(nl t f (m8 ix Z) (l.drop i) s2).bind λvs s2=>.ok (.lst (done++vs)) s2,⟨l.length,[],m1.hide D,s1,Cmp.start S1 (er.capt ix) hD,aZ _,aZ _,rfl,?_⟩,?_⟩
 ·simp
 rintro i k ys H2 ⟨done,m2,s2,C,hi,hy,rfl,eq⟩
 obtain⟨RU,Rn⟩:=it i H2 m2 s2 C.e0 C.sr;by_cases Pt:i<l.length
 ·right;have hq:l[i]?=Za l[i]:=au Pt;obtain⟨go,yl⟩:=RU _ hq;refine⟨go,λx H3 S6=>?_⟩;obtain⟨e3,S3,r3⟩:=yl x H3 S6;have C3:=C.step hD e3 S3;rw[eJ Pt] at eq;rw[eq] at P;rw[oH] at P eq;refine⟨Za l[i]::m8 ix Z,s2,m2,C3.er.cons r3,S3,?_⟩;cases ct:t (Za l[i]::m8 ix Z) s2 with
  |bad=>rw[ct] at P;exact P.elim
  |ex c3 s3=>rw[ct] at P;exact P.elim
  |ok bt s3 =>
   rw[ct] at P eq;intro b4 H4 m4 e4 S4 hb;subst hb;have C4:=C3.step hD e4 S4;cases b4 with
   |false =>
    exact LX ⟨l.length-(i+1),by omega,done,m4,s3,C4,Pt,by omega,rfl,eq⟩
   |true =>
    refine LW ⟨Za l[i]::m8 ix Z,s3,m4,C4.er.cons (r3.ext e4),S4,?_⟩;dsimp only at P eq;cases cf:f (Za l[i]::m8 ix Z) s3 with
    |bad=>rw[cf] at P;exact P.elim
    |ex c5 s5=>rw[cf] at P;exact P.elim
    |ok v s5 =>
     rw[cf] at eq;intro w H5 m5 e5 S5 r5;have C5:=C4.step hD e5 S5;refine⟨C5.at_,aQ (aH hy (aH hi Pk)) (by decide),l.length-(i+1),by omega,done++[v],m5,s5,C5.push hD r5,Pt,by simp;omega,rfl,?_⟩;rw[eq];dsimp only;cases hh:nl t f (m8 ix Z) (l.drop (i+1)) s5 with
     |ok vs s6=>simp[Out.bind]
     |ex c6 s6=>exact absurd hh zW
     |bad=>rfl
 ·left;have Qn:l.length<=i:=eE Pt;rw[fj Qn] at eq;rw[eq] at P;unfold nl at P;obtain⟨TQ,rd⟩:=C.done;refine⟨Rn Qn,C.at_,P (.ref D) H2 (m2.bare m1.hid) C.ex TQ ?_⟩;rw[cS];exact rd λz=>(S1.hs D z).1 hD
def zq{t}(q:TDE X.K CB E (o4 fi ix t f) O H Q):HL (TDI X.K CB E fi) ix (TDT X.K CB E0 t) (TDE X.K CB E0 f) O H Q:=by
 obtain⟨Z,s,m,er,S,P⟩:=q;refine⟨Z,s,m,er,S,?_⟩;unfold o4 at P;cases c:fi Z s with
 |bad=>rw[c] at P;exact P
 |ex c' s'=>rw[c] at P;exact P
 |ok l s1 =>
  rw[c] at P;dsimp only[Out.bind] at P;split at P
  ·rename_i Pk;intro J H1 m1 e1 S1 it D hD;exact Jr S1 (er.ext e1) it hD Pk (Post.shift e1 P)
  ·exact P.elim
def qB(hi:DI X CB E (.Name x px) iter fi)(he:∀cl C Pl Pm fp,DE (blk X scope cl C (x::fr) Pl Pm fp) CB E0 PF f)(ht:∀cl C Pl Pm fp,DIfs (blk X scope cl C (x::fr) Pl Pm fp) CB PD t:=by exact λ_ _ _ _ _=>uz)(hc:X.calm=true:=by rfl)(S:CompOk X.N X.env.scope scope x fr ix:=by exact Pb ‹FnScope _ _ _›)(hs:∀v,b6 iter X.env v=pure v:=by intro _;rfl):DE X CB E (.ListComp PF [⟨.Name x px,iter,PD,0⟩] scope pos) (o4 fi ix t f) :=
 ⟨(Cu hc S hi.pi (λcl C Pl Pm fp=>(ht cl C Pl Pm fp).pifs) (λcl C Pl Pm fp=>(he cl C Pl Pm fp).pe) hs).mono λO H Q q=>zq q⟩
def zf(hi:DI X CB E (.Name x px) iter fi)(he:∀cl C Pl Pm fp,DE (blk X scope cl C (x::fr) Pl Pm fp) CB E0 PF f)(ht:∀cl C Pl Pm fp,DIfs (blk X scope cl C (x::fr) Pl Pm fp) CB PD t:=by exact λ_ _ _ _ _=>uz)(hN:X.N.Nodup:=by exact ‹FnScope _ _ _›.nd)(Rv:X.N[i]?=Za y:=by rfl)(Q5:X.env.scope.names.lookup y=Za .local:=by rfl)(hc:X.calm=true:=by rfl)(S:CompOk X.N X.env.scope scope x fr ix:=by exact Pb ‹FnScope _ _ _›)(Rp:dL (.ListComp PF [⟨.Name x px,iter,PD,0⟩] scope pos) (Za (.Name y py)) spos.line X.env=pure true:=by rfl)(hs:∀v,b6 iter X.env v=pure v:=by intro _;rfl):DS X CB E (.Assign [.Name y py] (.ListComp PF [⟨.Name x px,iter,PD,0⟩] scope pos) spos) (xSet i (o4 fi ix t f)) :=
 ⟨(yN hN Rv Q5 hc S hi.pi (λcl C Pl Pm fp=>(ht cl C Pl Pm fp).pifs) (λcl C Pl Pm fp=>(he cl C Pl Pm fp).pe) Rp hs).mono λD O H=>oE λZ s m er S P =>
  zq ⟨Z,s,m,er,S,Post.so P λv s1 u H1 m1 e1 S1 r1 P1=>P1.next S1 ((er.ext e1).set i r1)⟩⟩
end
abbrev XF:=List PV->Sto->Out PV
def spD(K:aa)(CB:ak)(n:Nat)(D:XF):Sp:=λvs H Q E=>vs.length=n/\∃ps s m,Reps K H m s vs ps/\SR K CB H m s/\Post K CB (Rep K) E (D ps s) H m s Q
def xCall(n:Nat)(D:XF)(fa:XA)(Z:En)(s:Sto):Out PV:=(fa Z s).bind λvs s1=>if vs.length=n then D vs s1 else .bad
def fnD(N:Nat)(g:XS)(vs:List PV)(s:Sto):Out PV:=match g (vs.map Za++aR (N-vs.length) Zb) s with
 |.nx _ s'=>.ok .non s'
 |.rt v s'=>.ok v s'
 |.ex c s'=>.ex c s'
 |_=>.bad
section
variable{X:Cx}{CB:ak}{E:XK}{a b c e PF iter tg:bo}{es PD:List bo}{f g h:XE}{fa fi:XA}{t:XT}{p px py pos Pw Pg Ph:Pos}{x y:Str}{st:bR}{pQ QO Qw:List bR}{u v:XS}{scope:dG}{fr:List Str}{ix:List Nat}{n k:Nat}{D:XF}{ps:List Str}
def mh(F:Fn X.prog X.w X.K X.mg X.base x k ps (spD X.K CB n D))(ha:DA X CB E (e::es) fa)(hr:Room jr X.A:=by assumption)(hk:k<=jr:=by first|decide|lia)(hg:Gl X x:=by rfl)(hx:nL (CXo X.prog X.w) X E:=by first|exact nS|exact rV)(P8:NDb x:=by decide)(he:SEb X e es:=by rfl)(PK:(b5 pos (aB es X.env)).any (·.1)=false:=by rfl):DE X CB E (.Call (.Name x p) (e::es) [] pos) (xCall n D fa) :=
 ⟨(vq F (hr.mono hk) hg hx ha.pa P8 he PK).mono λO H Q=>oE λZ s m er S P=>⟨Z,s,m,er,S,P.bind λv s1 u H1 m1 e1 S1 r1 P1=>by
  split at P1
  ·rename_i hl;rw[cS];exact⟨by rw[r1.length];exact hl,v,s1,m1,r1,S1,P1⟩
  ·exact P1.elim⟩⟩
def xBM(n:Nat)(D:XF)(f:XE)(fa:XA)(Z:En)(s:Sto):Out PV:=(f Z s).bind λo s1=>match o with
 |.ref k=>match s1.get k with
  |some (.book _ _)=>(fa Z s1).bind λvs s2=>if vs.length+1=n then D (.ref k::vs) s2 else .bad
  |_=>.bad
 |_=>.bad
def tD(ho:DE X CB E a f)(M:Mt X.prog X.w X.K X.mg X.base CB m k ps (spD X.K CB n D))(ha:DA X CB E (e::es) fa)(QJ:∀z,(My.bf z).lookup m=none:=by exact λz=>My.qN z)(hr:Room jr X.A:=by assumption)(hk:k<=jr:=by first|decide|lia)(hx:nL (CXo X.prog X.w) X E:=by first|exact nS|exact rV)(QI:SEb X e es:=by rfl)(PK:(b5 pos (aB es X.env)).any (·.1)=false:=by rfl)(ht:eval (.Call (.Attribute a m Pg) (e::es) [] pos) X.env=(do
   let ov <-eval a X.env
   gc Pg.atName
   let(f,first) <-holding [ov] (fQ ov m pl)
   iM pos f first (b5 pos (aB (e::es) X.env)) (eL pos (cU [] X.env))):=by rfl):DE X CB E (.Call (.Attribute a m Pg) (e::es) [] pos) (xBM n D f fa) :=
 ⟨(qu (pl:=pl) ho.pe M (hr.mono hk) hx ha.pa QI PK ht).mono λO H Q=>oE λZ s m er S P=>⟨Z,s,m,er,S,P.bind λv s1 u H1 m1 e1 S1 r1 P1=>by
  split at P1
  ·split at P1
   ·rename_i hg;obtain⟨z,L',B,_,_⟩:=S1.get hg;cases r1 with
    |ref hn =>
    refine⟨_,_,_,rfl,B.ob,QJ z,Z,s1,m1,er.ext e1,S1,P1.bind λvs s2 us H2 m2 e2 S2 r2 P2=>?_⟩;split at P2
    ·rename_i hl;rw[cS];refine⟨by rw[bh,r2.length];exact hl,_,s2,m2,.cons ?_ r2,S2,P2⟩;exact(Rep.ref hn).ext e2
    ·exact P2.elim
   ·exact P1.elim
  ·exact P1.elim⟩⟩
def vT(ho:DE X CB E a f)(M:Mt X.prog X.w X.K X.mg X.base CB m k ps (spD X.K CB n D))(QJ:∀z,(My.bf z).lookup m=none:=by exact λz=>My.qN z)(hr:Room jr X.A:=by assumption)(hk:k<=jr:=by first|decide|lia)(hx:nL (CXo X.prog X.w) X E:=by first|exact nS|exact rV)(ht:eval (.Call (.Attribute a m Pg) [] [] pos) X.env=(do
   let ov <-eval a X.env
   gc Pg.atName
   let(f,first) <-holding [ov] (fQ ov m pl)
   iM pos f first (b5 pos (aB [] X.env)) (eL pos (cU [] X.env))):=by rfl):DE X CB E (.Call (.Attribute a m Pg) [] [] pos) (xBM n D f xNil) :=
 ⟨(N1 (pl:=pl) ho.pe M (hr.mono hk) hx ht).mono λO H Q=>oE λZ s m er S P=>⟨Z,s,m,er,S,P.bind λv s1 u H1 m1 e1 S1 r1 P1=>by
  split at P1
  ·split at P1
   ·rename_i hg;obtain⟨z,L',B,_,_⟩:=S1.get hg;cases r1 with
    |ref hn =>
    refine⟨_,_,_,rfl,B.ob,QJ z,?_⟩;simp only[xNil,Out.bind] at P1;split at P1
    ·rename_i hl;exact⟨hl,_,s1,m1,.cons (.ref hn) .nil,S1,P1⟩
    ·exact P1.elim
   ·exact P1.elim
  ·exact P1.elim⟩⟩
def xBook(_:En)(s:Sto):Out PV:=.ok (.ref s.nx) (s.add (.book [] []))
def JJ(K:aa)(C:ak):Sp:=λvs H Q _=>∃(p dx:ak),vs=[.ref p]/\H p=Za (.ins C dx [])/\∀z H',(∀c∈[z.dp,z.dt,z.dm,z.dl,z.dh],H c=Zb)->My.BookAt K C H' p z [] []->(∀c o,H c=Za o->c≠p->H' c=Za o)->Q .non H'
def MF(M:MkB X.prog X.w X.K X.mg X.base x CB k ps (JJ X.K CB))(hr:Room jr X.A:=by assumption)(hk:k+1<=jr:=by first|decide|lia)(hg:Gl X x:=by rfl)(hx:nL (CXo X.prog X.w) X E:=by first|exact nS|exact rV)(P8:NDb x:=by decide):DE X CB E (.Call (.Name x p) [] [] pos) xBook :=
 ⟨(N2 M (hr.mono hk) hg hx P8).mono λO H Q=>oE λZ s m er S P b dx hb Vj PL=>by
  refine⟨b,dx,rfl,lJ,λz H' hz B kp=>⟨rfl,?_⟩⟩;have hk:Same H H':=λc o h=>by have h1:c≠b:=lV h hb;have h2:c≠dx:=lV h Vj;exact kp c o (by rw[lG h1,lG h2];exact h) h1
  have hzn:∀c∈[z.dp,z.dt,z.dm,z.dl,z.dh],H c=none:=λc hc=>by
   have h:=hz c hc;have n1:c≠b:=λe=>by rw[e,lJ] at h;cases h
   have n2:c≠dx:=λe=>by rw[lG n1,e,lJ] at h;cases h
   rw[lG n1,lG n2] at h;exact h
  obtain⟨S2,e2⟩:=S.add (c:=.book [] []) H' b (My.BFp b z []) hk (λa ha=>by
   unfold My.BFp at ha;rcases ah.mp ha with rfl|ha
   ·exact hb
   ·exact hzn a (by simpa using ha)) λex=>by
    refine⟨z,[],?_,rfl,?_⟩
    ·rw[Mp.add_ad];exact B
    ·rw[Mp.add_ad];show(if s.nx=s.nx then _ else _)=_;rw[Zc rfl]
  exact P _ _ _ e2 S2 .new⟩
def ny{P}{w}{K}{mg}{base}{qual}{fa}{fd}{N}(F:Fun K x qual st fa fd)(S:FnScope N ps (lK st))(hps:ps.length=n)(hb:∀(Po:ai)(A:cA)(outer:List Env)(s:ax)(H:Hp)(E:XK),Room k (A.deeper (eV qual (lK st) s.heap.objs.size fa Po))->FnScope N ps (lK st)->DSs (Ec (CXo P w) P w K mg base N qual (lK st) fa Po A outer s H E) CB E (nc st) u) :
  FnOk P w K mg base (CXo P w) (k+1) fa fd ps (spD K CB n (fnD N.length u)):=by
 refine F.okX S (λvs H Q E h=>by rw[hps];exact h.1) (λPo A outer s H vs Q E hr h=>?_);obtain⟨hl,RT,s',m,r,S',P'⟩:=h;refine⟨_,(hb Po A outer s H E hr S).pss,RT.map Za++aR (N.length-RT.length) Zb,s',m,?_,S',?_⟩
 ·unfold start;rw[r.length];exact ER.start r _
 ·unfold fnD at P';cases cc:u (RT.map Za++aR (N.length-RT.length) Zb) s' with
  |nx ρ1 s1=>rw[cc] at P';exact λσ' H' m' x S1 er=>P' .non H' m' x S1 .non
  |rt v1 s1=>rw[cc] at P';exact λu' H' m' x S1 r1=>P' u' H' m' x S1 r1
  |ex c1 s1=>rw[cc] at P';exact P'
  |bk=>rw[cc] at P';exact P'.elim
  |ct=>rw[cc] at P';exact P'.elim
  |bad=>rw[cc] at P';exact P'.elim
open Classical in
def Sto.only(s:Sto)(n:Nat):Sto:=⟨s.nx,s.cs.filter λq=>decide (q.1<n)⟩
def xOnly(f:XE)(Z:En)(s:Sto):Out PV:=(f Z s).bind λv s1=>.ok v (s1.only s.nx)
def frz1(v:PV)(s:Sto):Out PV:=match v with
 |.ref n=>match s.get n with
  |some (.lst l)=>.ok (.lst l) (s.del n)
  |some (.dct l)=>.ok (.dct l) (s.del n)
  |_=>.bad
 |_=>.bad
def xFrz(f:XE)(Z:En)(s:Sto):Out PV:=(f Z s).bind frz1
def SR.frz{K}{x}{v w}(S:SR K CB H m s)(r:Rep K H m s x v)(e:frz1 v s=.ok w s'):SR K CB H m s'/\Ext H m s H m s'/\Rep K H m s' x w:=by
 unfold frz1 at e;split at e
 ·rename_i n;have pu:∀c,s.get n=Za c->m.fp n=[m.ad n]->Pur m (s.del n) (m.ad n):=λc hg e1=>by have P5:n∈s.cs.map (·.1):=aj.mpr ⟨_,oF hg,rfl⟩;refine⟨S.hx n P5 _ (by rw[e1];simp),λj hj z=>?_⟩;obtain⟨q,hq,rfl⟩:=aj.mp hj;have PL:=Gn S.nd hq;exact S.dj n P5 q.1 (aj.mpr ⟨q,uA hq,rfl⟩) (λz=>PL z.symm) _ (by rw[e1];simp) z
  split at e
  ·rename_i l hg;cases e;cases r;obtain⟨e1,vs,h1,h2⟩:=S.get hg;have hnd:∀l,s.get n≠Za (.dfz l):=λl z=>by rw[hg] at z;cases z
   exact⟨(S.del n hnd).1,(S.del n hnd).2,.lst h1 (pu _ hg e1) (h2.ext (S.del n hnd).2)⟩
  ·rename_i l hg;cases e;cases r;obtain⟨e1,vs,h1,h2⟩:=S.get hg;have hnd:∀l,s.get n≠Za (.dfz l):=λl z=>by rw[hg] at z;cases z
   exact⟨(S.del n hnd).1,(S.del n hnd).2,.dct (.inl h1) (pu _ hg e1) (h2.ext (S.del n hnd).2)⟩
  ·cases e
 ·cases e
def OS(h:DE X CB E e f):DE X CB E e (xFrz f):=⟨h.pe.mono λO H Q=>oE λZ s m er S P=>⟨Z,s,m,er,S,P.bind λv s1 u H1 m1 e1 S1 r1 P1=>by
 cases cc:frz1 v s1 with
 |ok w s2 =>
  rw[cc] at P1;obtain⟨S2,e2,r2⟩:=S1.frz r1 cc;exact P1 u H1 m1 e2 S2 r2
 |ex c' s' =>
  exfalso;unfold frz1 at cc;split at cc
  ·split at cc<;>cases cc
  ·cases cc
 |bad=>rw[cc] at P1;exact P1.elim⟩⟩
theorem ExtR.trans(a:ExtR H m s H1 m1 s1)(b:ExtR H1 m1 s1 H2 m2 s2):ExtR H m s H2 m2 s2 :=
 ⟨aH a.nx b.nx,λn h=>(b.ad n (aA h a.nx)).trans (a.ad n h),λc u h p=>let⟨h1,p1⟩:=a.pu c u h p;b.pu c u h1 p1,λc x h n p=>b.el c x (a.el c x h n p) n (a.pu c _ (.inl h) p).2⟩
def K3{s:Sto}{n:Nat}{c c':Cell}(h:s.get n=Za c):(s.set n c').get n=Za c':=by
 have:∀{l:List (Nat×Cell)},p4 l n=Za c->p4 (sV n c' l) n=Za c':=by
  intro l;induction l with
  |nil=>intro h;cases h
  |cons q r ih =>
   intro h;obtain⟨k,d⟩:=q;unfold sV;split
   ·unfold p4;rw[Zc rfl]
   ·rename_i hk;unfold p4 at h ⊢;rw[Zd hk] at h ⊢;exact ih h
 exact this h
end
def erH(H:Hp)(d:ak):Hp:=λb=>if b=d then Zb else H b
def tm(h:a≠d):erH H d a=H a:=by unfold erH;rw[Zd h]
def D9:erH H d d=none:=by unfold erH;rw[Zc rfl]
section
variable{X:Cx}{CB:ak}{E:XK}{a b c e PF iter tg:bo}{es PD:List bo}{f g h:XE}{fa fi:XA}{t:XT}{p px py pos Pw Pg Ph:Pos}{x y:Str}{st:bR}{pQ QO Qw:List bR}{u v:XS}{n k:Nat}{D:XF}{ps:List Str}
def SR.hideD{K}{H}{m}{s}{d}{xs}(S:SR K CB H m s)(hd:H d=Zb):SR K CB (upd H d (.dK xs)) (m.hide d) s:=by
 have k:=My.rS (o:=.dK xs) hd;have S1:=S.same k;have e0:Ext0 H m s (upd H d (.dK xs)) (m.hide d) s:=Ext0.hide hd;have PL:∀n∈s.cs.map (·.1),∀a∈m.fp n,a≠d:=λn hn a ha z=>by obtain⟨q,hq,rfl⟩:=aj.mp hn;obtain⟨o,e,_⟩:=(S.ok q hq).kind ha;rw[z,hd] at e;cases e
 refine⟨S.nd,S.lt,λq hq=>(S.ok q hq).keep S e0.toExtR (λa _ o h=>k a o h) rfl rfl,S.dj,λn hn a ha hb=>(ah.mp hb).elim (PL n hn a ha) (S.hx n hn a ha),λa ha=>?_,λP q t=>⟨ae _ (S1.tb P q t).1,(S1.tb P q t).2⟩⟩;rcases ah.mp ha with rfl|ha
 ·rw[lJ];exact⟨by simp,λ_ _=>⟨by simp,by simp,by simp,by simp⟩⟩
 ·exact S1.hs a ha
def LZ{K}{H H2}{m m2}{s s2}{d}{xs}(S:SR K CB H m s)(hd:H d=Zb)(e:Ext (upd H d (.dK xs)) (m.hide d) s H2 m2 s2)(S2:SR K CB H2 m2 s2) :
  SR K CB (erH H2 d) (m2.bare m.hid) s2/\Ext H m s (erH H2 d) (m2.bare m.hid) s2/\ExtR H2 m2 s2 (erH H2 d) (m2.bare m.hid) s2/\H2 d=Za (.dK xs):=by
 have hh:m2.hid=d::m.hid:=e.hd;have P5:d∈m2.hid:=by rw[hh];exact ag
 have hD:H2 d=Za (.dK xs):=e.hk d ag _ lJ (by intro _ z;cases z);have tbE:TbS H2 (erH H2 d):=.of λa o h od=>by rw[tm (show a≠d from λz=>by rw[z,hD] at h;cases h;exact ET od)];exact h
 have x2:ExtR H2 m2 s2 (erH H2 d) (m2.bare m.hid) s2:=by have ne:∀a,Pur m2 s2 a->a≠d:=λa p z=>p.1 (by rw[z];exact P5);refine⟨ap _,λ_ _=>rfl,λa u h p=>⟨?_,λz=>p.1 (by rw[hh];exact ae _ z),p.2⟩,λa u h _ p=>by rw[tm (ne a p)];exact h⟩;exact h.elim (λh=>.inl (by rw[tm (ne a p)];exact h)) λ⟨o,h⟩=>.inr ⟨o,by rw[tm (ne a p)];exact h⟩
 have fne:∀n∈s2.cs.map (·.1),∀a∈m2.fp n,a≠d:=λn hn a ha z=>S2.hx n hn a ha (by rw[z];exact P5);have dn:d∉m.hid:=λz=>(S.hs d z).1 hd;have h2:∀a∈m.hid,a≠d:=λa ha z=>dn (by rw[<-z];exact ha);refine⟨⟨S2.nd,S2.lt,λq hq=>(S2.ok q hq).keep S2 x2 (λa ha o h=>by rw[tm (fne q.1 (aj.mpr ⟨q,hq,rfl⟩) a ha)];exact h) rfl rfl,S2.dj,λn hn a ha hb=>S2.hx n hn a ha (by rw[hh];exact ae _ hb),λa ha=>?_,λP q t=>⟨?_,tbE.2 P q (S2.tb P q t).2⟩⟩,?_,x2,hD⟩
 ·rw[tm (h2 a ha)];exact S2.hs a (by rw[hh];exact ae _ ha)
 ·obtain⟨h1,ps,h3,_⟩:=S2.tb P q t;rw[hh] at h1;rcases ah.mp h1 with z|z
  ·rw[z,hD] at h3;cases h3
  ·exact z
 ·have e1:=(Ext0.hide (m:=m) (s:=s) (o:=.dK xs) hd).trans e.toExt0;refine⟨⟨e1.toExtR.trans x2,λj l hj h=>⟨(e1.df j l hj h).1,λo ho=>?_⟩⟩,rfl,λa ha o h n0=>?_⟩
  ·rw[tm (lV ho hd)];exact(e1.df j l hj h).2 o ho
  ·rw[tm (h2 a ha)];exact e.hk a (ae _ ha) o (My.rS hd _ _ h) n0
def xDisp(f g:XE)(Z:En)(s:Sto):Out PV:=match f Z s with
 |.ok v s1=>match g Z s1 with
  |.ok w s2=>match kyOf v with
   |some k=>.ok (.ref s2.nx) (s2.add (.dct [(k,w)]))
   |none=>.bad
  |_=>.bad
 |_=>.bad
def ME(hk:DE X CB E a f)(hv:DE X CB E b g):DE X CB E (.Dict [Za a] [b] pos) (xDisp f g) :=
 ⟨(FV (DP hk.pe hv.pe FT) rfl rfl (by simp) (by simp)).mono λO H Q=>oE λZ s m er S P p0 hp=>by
  have e0:Ext0 H m s (upd H p0 (.dK [])) (m.hide p0) s:=Ext0.hide hp;have hm:SR X.K CB (upd H p0 (.dK [])) (m.hide p0) s:=S.hideD hp;refine⟨Z,s,m.hide p0,er.ext0 e0.toExtR,hm,?_⟩;unfold xDisp at P;cases c1:f Z s with
  |bad=>rw[c1] at P;exact P.elim
  |ex c' s'=>rw[c1] at P;exact P.elim
  |ok v s1 =>
   rw[c1] at P;intro u1 H1 m1 e1 S1 r1;refine⟨Z,s1,m1,(er.ext0 e0.toExtR).ext e1,S1,?_⟩;dsimp only at P;cases c2:g Z s1 with
   |bad=>rw[c2] at P;exact P.elim
   |ex c' s'=>rw[c2] at P;exact P.elim
   |ok w s2 =>
    rw[c2] at P;intro u2 H2 m2 e2 S2 r2;dsimp only at P;split at P
    ·rename_i k hk;obtain⟨S3,e3,x3,hD⟩:=LZ S hp (e1.trans e2) S2;have ek:u1=kV k:=pY r1 hk;refine⟨hD,[(k,u2)],by rw[ek];rfl,by simp,?_⟩;have Uf:Same (erH H2 p0) (upd H2 p0 (.dK [(k,u2)])):=λc o h=>by
      have PL:c≠p0:=λz=>by rw[z,D9] at h;cases h
      rw[lG PL];rw[tm PL] at h;exact h
     obtain⟨S4,e4⟩:=S3.newD (l:=[(k,w)]) D9 Uf lJ (.cons (r2.ext0 x3) .nil);exact P _ _ _ (e3.trans e4) S4 .new
    ·exact P.elim⟩
def xIfe(t:XT)(f g:XE)(Z:En)(s:Sto):Out PV:=(t Z s).bind λb s1=>if b=true then f Z s1 else g Z s1
def FC(hc:DT X CB E c t)(ha:DE X CB E a f)(hb:DE X CB E b g):DE X CB E (.IfExp c a b pos) (xIfe t f g) :=
 ⟨(IF hc.pt ha.pe hb.pe).mono λO H Q=>oE λZ s m er S P=>⟨Z,s,m,er,S,P.bind λv s1 b H1 m1 e1 S1 r1 P1=>by
  cases r1;refine uY (λc=>?_) λc=>?_
  ·rw[Zc c] at P1;exact⟨Z,s1,m1,er.ext e1,S1,P1⟩
  ·rw[Zd c] at P1;exact⟨Z,s1,m1,er.ext e1,S1,P1⟩⟩⟩
inductive Ty5 where
 |int|bool|str|tuple|list
inductive Ty7 where
 |int|bool|str|tuple|list|non|dict
def kitT:Ty7->Ty5->Bool
 |.int,.int=>true|.bool,.bool=>true|.bool,.int=>true|.str,.str=>true|.tuple,.tuple=>true|.list,.list=>true
 |_,_=>false
def tyOf(s:Sto):PV->Option Ty7
 |.int _=>Za .int
 |.bl _=>Za .bool
 |.str _=>Za .str
 |.non=>Za .non
 |.tup _=>Za .tuple
 |v=>match lsOf s v with
  |some _=>Za .list
  |none=>Zb
def xIsiT(T:Ty5)(f:XE)(Z:En)(s:Sto):Out PV:=(f Z s).bind λv s1=>match tyOf s1 v with
 |some k=>.ok (.bl (kitT k T)) s1
 |none=>.bad
end
end L2
namespace My
open PySem L2
def top(i:Nat):bR:=PySem.Challenge.pw_wholeowners_k62_whole_what_things_change.main.body.getD i (.Pass ⟨0,0,0,0⟩)
structure Adr where
 OwnError:ak
 NoName:ak
 Twice:ak
 TooMany:ak
 NoHolder:ak
 NoHouse:ak
 NoLoss:ak
 NoShare:ak
 NoText:ak
 Whole:ak
 Book:ak
 ZERO:ak
 ONE:ak
 HALF:ak
 t8:Tok
 t6:Tok
 u8:Tok
 kx:ak->ak->Bool
def Tup2(K:aa)(a:ak)(i j:Int):Prop:=∃(o:Obj)(its:Array ai)(n:Nat),K.lookup a=Za o/\o.cls=.type "tuple"/\o.data=.seq its n/\its.size<=aI/\Vals [.int i,.int j] its.toList
structure Txt(K:aa)(mg:Str->Option ai)(a:Adr):Prop where
 b_len:mg "len"=Zb
 b_range:mg "range"=Zb
 b_all:mg "all"=Zb
 b_int:mg "int"=Zb
 b_abs:mg "abs"=Zb
 b_sorted:mg "sorted"=Zb
 b_tuple:mg "tuple"=Zb
 b_list:mg "list"=Zb
 b_str:mg "str"=Zb
 b_bool:mg "bool"=Zb
 b_isinstance:mg "isinstance"=Zb
 b_ValueError:mg "ValueError"=Zb
 b_any:mg "any"=Zb
 b_set:mg "set"=Zb
 b_max:mg "max"=Zb
 c_OwnError:mg "OwnError"=Za (.ref a.OwnError)
 c_NoName:mg "NoName"=Za (.ref a.NoName)
 c_Twice:mg "Twice"=Za (.ref a.Twice)
 c_TooMany:mg "TooMany"=Za (.ref a.TooMany)
 c_NoHolder:mg "NoHolder"=Za (.ref a.NoHolder)
 c_NoHouse:mg "NoHouse"=Za (.ref a.NoHouse)
 c_NoLoss:mg "NoLoss"=Za (.ref a.NoLoss)
 c_NoShare:mg "NoShare"=Za (.ref a.NoShare)
 c_Whole:mg "Whole"=Za (.ref a.Whole)
 x_OwnError:Exc K a.OwnError
 x_NoName:Exc K a.NoName
 x_Twice:Exc K a.Twice
 x_TooMany:Exc K a.TooMany
 x_NoHolder:Exc K a.NoHolder
 x_NoHouse:Exc K a.NoHouse
 x_NoLoss:Exc K a.NoLoss
 x_NoShare:Exc K a.NoShare
 g_LONGEST_NAME:mg "LONGEST_NAME"=Za (.int 8 a.t8)
 g_MOST_PERSONS:mg "MOST_PERSONS"=Za (.int 6 a.t6)
 g_MOST_HOUSES:mg "MOST_HOUSES"=Za (.int 8 a.u8)
 g_ZERO:mg "ZERO"=Za (.ref a.ZERO)
 g_ONE:mg "ONE"=Za (.ref a.ONE)
 zero:Tup2 K a.ZERO 0 1
 one:Tup2 K a.ONE 1 1
 cl:Cls K a.Book
 nA_people:NoAttr K a.Book "people"
 nA_things_of:NoAttr K a.Book "things_of"
 nA_mark_of:NoAttr K a.Book "mark_of"
 nA_loss_of:NoAttr K a.Book "loss_of"
 nA_held_of:NoAttr K a.Book "held_of"
def Txt.r_LONGEST_NAME{K}(T:Txt K mg a):RelV (.int 8) (.int 8 a.t8):=⟨_,rfl⟩
def Txt.r_MOST_PERSONS{K}(T:Txt K mg a):RelV (.int 6) (.int 6 a.t6):=⟨_,rfl⟩
def Txt.r_MOST_HOUSES{K}(T:Txt K mg a):RelV (.int 8) (.int 8 a.u8):=⟨_,rfl⟩
def Txt.r_ZERO{K}(T:Txt K mg a):RelV (.ref a.ZERO) (.ref a.ZERO):=rfl
def Txt.r_ONE{K}(T:Txt K mg a):RelV (.ref a.ONE) (.ref a.ONE):=rfl
def yesT{te:TE}{cap:St}{H:Hp}{Kt:VK}{Kf:Hp->Prop}(h:te cap H Kt):tYes cap H λb H4=>if b=true then te cap H4 Kt else Kf H4:=by
 show if true=true then te cap H Kt else Kf H
 rw[Zc rfl];exact h
def Bf(c):(!decide ((⟨#[c]⟩:Str).cps.toList<(aP "a").cps.toList))=decide (97<=c):=by show(!decide ([c]<[97]))=decide (97<=c);rw[bU];simp[kJ]
def GM(c):(!decide ((aP "z").cps.toList<(⟨#[c]⟩:Str).cps.toList))=decide (c<=122):=by show(!decide ([122]<[c]))=decide (c<=122);rw[bU];simp[kJ]
def z9{x:Str}{i c:Nat}{g:Nat->V}(hc:x.cps[i]?=Za c):(x.cps.toList.take i).map g++[g c]=(x.cps.toList.take (i+1)).map g:=by
 have hc:x.cps.toList[i]?=Za c:=by simpa using hc
 rw[dW,hc,aw];rfl
section
variable{P:aK}{w:ba}{K:aa}{mg:Str->Option ai}{base:bx}{a:Adr}{f:ak}{fd:cq}
abbrev uE:bR:=top 25
def EC:FnScope ["text"] ["text"] (lK uE):=fsc
def low(c:Nat):Bool:=decide (97<=c)&&decide (c<=122)
def vI(x:Str):Bool:=decide (1<=x.length)&&decide (x.length<=8)&&x.cps.toList.all low
def yG:Sp:=λvs H Q _=>∃x,vs=[.str x]/\Nm x/\∀H',Same H H'->Q (.bl (vI x)) H'
def EO(F:Fun K "is_name" "is_name" uE f fd)(T:Txt K mg a):FnOk P w K mg base (CXo P w) 1 f fd ["text"] yG:=by
 refine F.okN EC (λvs H Q E h=>?_) (λPo A outer s H vs Q E hr h=>?_)
 ·obtain⟨x,rfl,_⟩:=h;rfl
 ·obtain⟨x,rfl,nm,k⟩:=h;have hu:=nj hr;refine⟨_,(@ma _ _ _ (@qp _ _ _ _ (@JT _ _ _ _ _ _ _ (DR Na Na pe_int (@o6 _ _ _ _ _ _ _ _ _ call_len_str rfl T.b_len C7 (@lS _ _ _ _ _ (pv 0) pa_nil (by rfl)) (by decide) (by decide) (by rfl) (by rfl)) (rn rfl T.g_LONGEST_NAME T.r_LONGEST_NAME)) (@Fm _ _ _ _ _ (@o6 _ _ _ _ _ _ _ _ _ Eg rfl T.b_all Kj (@lS _ _ _ _ _ (Cu (fr:=[]) (ix:=[]) rfl (by exact(show CompOk ["text"] (lK uE) _ _ _ _ from cok)) (NX (pv 0)) (λ_ _ _ _ _=>zM) (λ_ _ _ _ _=>(DR Bj Bj pe_str (pv 0) pe_str))) pa_nil (by rfl)) (by decide) (by decide) (by rfl) (by rfl)))))),?_⟩;have Pk:x.length<=aI:=aH nm.1 (by decide);refine⟨_,rfl,_,rfl,Pk,_,_,rfl,rfl,_,rfl,uY (λh=>?_) (λh=>?_)⟩
  ·have h1:(1:Int)<=(x.length:Int):=Zf h;refine⟨_,_,rfl,rfl,_,rfl,uY (λh=>?_) (λh=>?_)⟩
   ·have h2:(x.length:Int)<=8:=Zf h;refine⟨_,rfl,x,rfl,λD hD=>?_⟩;refine Gs (J:=Its x) x.cps.size (λi ys H'=>H'=upd H D (.lst ys)/\ys=(x.cps.toList.take i).map λc=>V.bl (low c)) ⟨rfl,rfl⟩ Pk (λi ys H' r=>by rw[r.1];exact lJ) (λi ys H' hi _=>hi) ?_ ?_
    ·rintro i ys H' v H'' hi ⟨rfl,rfl⟩ ⟨rfl,c,hc,rfl⟩ Kt Kf k1 k2
     have PX:∀b,b=low c->Kt (V.bl b) (upd H D (.lst ((x.cps.toList.take i).map λc=>V.bl (low c)))):=λb hb=>by refine k1 _ _ lJ ⟨by rw[wm],?_⟩;rw[hb,z9 hc]
     refine yesT ⟨_,rfl,_,_,rfl,rfl,_,rfl,uY (λh=>?_) (λh=>?_)⟩
     ·refine⟨_,_,rfl,rfl,PX _ ?_⟩;rw[Bf] at h;rw[GM];unfold low;rw[h,iH]
     ·refine PX _ ?_;rw[Bf] at h;unfold low;rw[gv.mpr h,fk]
    ·rintro ys H' hl ⟨rfl,rfl⟩
     have e:List.take x.cps.size x.cps.toList=x.cps.toList:=gM (by simp);rw[e];refine⟨ap _,D,x.cps.toList.map low,rfl,SqL.of (by rw[lJ,aE];rfl),rfl,?_⟩;have e2:(x.cps.toList.map low).all id=vI x:=by
      have h1:1<=x.length:=by lia
      have h2:x.length<=8:=by lia
      unfold vI;rw[Zg h1,Zg h2,kr,iH,iH];rfl
     rw[e2];exact k _ (rS hD)
   ·have h2:¬x.length<=8:=λz=>h (Zg (by lia));have e2:false=vI x:=by unfold vI;rw[Zh h2,Bool.and_false,fk]
    show Q (.bl false) H;rw[e2];exact k _ λ_ _ z=>z
  ·have h2:¬ 1<=x.length:=λz=>h (Zg (by lia));have e2:false=vI x:=by unfold vI;rw[Zh h2,fk,fk]
   refine⟨_,rfl,LX ?_⟩;show Q (.bl false) H;rw[e2];exact k _ λ_ _ z=>z
abbrev tJ:bR:=top 26
def BQ:FnScope ["number"] ["number"] (lK tJ):=fsc
def sd(a:Adr):Sp:=λvs H Q E=>∃n,vs=[.int n]/\(n<0->E (.ref a.NoLoss) Zb H)/\(0<=n->Q .non H)
def B9(F:Fun K "need_loss" "need_loss" tJ f fd)(T:Txt K mg a):FnOk P w K mg base (CXo P w) 1 f fd ["number"] (sd a):=by
 refine F.okX BQ (λvs H Q E h=>?_) (λPo A outer s H vs Q E hr h=>?_)
 ·obtain⟨x,rfl,_⟩:=h;rfl
 ·obtain⟨n,rfl,k1,k2⟩:=h;have hu:=nj hr;refine⟨_,(@ma _ _ _ (@wb _ _ _ _ _ _ _ _ (@uR _ _ _ _ _ _ _ _ M9 (pv 0) pe_int (uU _)) (@ma _ _ _ (pW T.x_NoLoss rfl T.c_NoLoss rfl pe_str yV)) pss_nil)),?_⟩;refine⟨_,rfl,_,_,rfl,rfl,_,rfl,uY (λh=>?_) (λh=>?_)⟩
  ·exact k1 (Zf h)
  ·exact k2 (Int.not_lt.mp λz=>h (Zg z))
abbrev tU:bR:=mV (top 27) 0
def B7:FnScope ["self"] ["self"] (lK tU):=fsc
def Iw(dp dt dm dl dh dx):putF "held_of" (.ref dh) (putF "loss_of" (.ref dl) (putF "mark_of" (.ref dm) (putF "things_of" (.ref dt) (putF "people" (.ref dp) []))))=bf ⟨dx,dp,dt,dm,dl,dh⟩:=by simp only[putF,Zd (show ¬((aP "people")=aP "things_of") by decide +kernel),Zd (show ¬((aP "people")=aP "mark_of") by decide +kernel),Zd (show ¬((aP "people")=aP "loss_of") by decide +kernel),Zd (show ¬((aP "people")=aP "held_of") by decide +kernel),Zd (show ¬((aP "things_of")=aP "mark_of") by decide +kernel),Zd (show ¬((aP "things_of")=aP "loss_of") by decide +kernel),Zd (show ¬((aP "things_of")=aP "held_of") by decide +kernel),Zd (show ¬((aP "mark_of")=aP "loss_of") by decide +kernel),Zd (show ¬((aP "mark_of")=aP "held_of") by decide +kernel),Zd (show ¬((aP "loss_of")=aP "held_of") by decide +kernel)];rfl
structure IniAt(C:ak)(H0 H:Hp)(p dx:ak)(fs:List (Str×V))(ds:List ak):Prop where
 ob:H p=Za (.ins C dx fs)
 dd:∀c∈ds,H c=Za (.dK [])
 fr:∀c∈ds,H0 c=Zb
 nd:(p::ds).Nodup
 kp:∀c o,H0 c=Za o->c≠p->H c=Za o
 len:fs.length<=ds.length
def IniAt.at_(I:IniAt C H0 H p dx fs ds)(h:H d=Zb):(upd H d (.dK [])) p=Za (.ins C dx fs):=by rw[lG (lV I.ob h)];exact I.ob
def IniAt.step{C}{H0 H}{p dx d}{fs}{ds}{f}(I:IniAt C H0 H p dx fs ds)(h:H d=Zb) :
  IniAt C H0 (upd (upd H d (.dK [])) p (.ins C dx (putF f (.ref d) fs))) p dx (putF f (.ref d) fs) (ds++[d]):=by
 have n1:p≠d:=lV I.ob h;obtain⟨m1,m2⟩:=ay.mp I.nd;have m3:d∉ds:=λz=>by rw[I.dd d z] at h;cases h
 refine⟨lJ,λc hc=>?_,λc hc=>?_,?_,λc o e hc=>?_,?_⟩
 ·rcases aL.mp hc with hc|hc
  ·have c1:c≠p:=λz=>m1 (by rw[<-z];exact hc);have c2:c≠d:=λz=>m3 (by rw[<-z];exact hc);rw[lG c1,lG c2];exact I.dd c hc
  ·rw[ao.mp hc,lG n1.symm,lJ]
 ·rcases aL.mp hc with hc|hc
  ·exact I.fr c hc
  ·rw[ao.mp hc];cases q:H0 d with
   |none=>rfl
   |some o=>rw[I.kp d o q n1.symm] at h;cases h
 ·refine ay.mpr ⟨λz=>?_,wB m2 m3⟩;rcases aL.mp z with z|z
  ·exact m1 z
  ·exact n1 (ao.mp z)
 ·rw[lG hc,lG (λz=>by rw[z] at e;rw[I.kp d o e (z▸hc)] at h;cases h)];exact I.kp c o e hc
 ·rw[aJ];exact aH (tW _ _ _) (Nat.add_le_add_right I.len 1)
def KW(K:aa)(C:ak):Sp:=λvs H Q _=>∃(p dx:ak),vs=[.ref p]/\H p=Za (.ins C dx [])/\∀z H',(∀c∈[z.dp,z.dt,z.dm,z.dl,z.dh],H c=Zb)->BookAt K C H' p z [] []->(∀c o,H c=Za o->c≠p->H' c=Za o)->Q .non H'
def LD(F:Fun K "__init__" "Book.__init__" tU f fd)(T:Txt K mg a):FnOk P w K mg base (CXo P w) 1 f fd ["self"] (KW K a.Book):=by
 refine F.okN B7 (λvs H Q E h=>?_) (λPo A outer s H vs Q E hr h=>?_)
 ·obtain⟨p,dx,rfl,_⟩:=h;rfl
 ·obtain⟨p,dx,rfl,hp,k⟩:=h;have hu:=nj hr;refine⟨_,(@lW _ _ _ _ _ (x6 (pv 0) pe_dnewK rfl) (@lW _ _ _ _ _ (x6 (pv 0) pe_dnewK rfl) (@lW _ _ _ _ _ (x6 (pv 0) pe_dnewK rfl) (@lW _ _ _ _ _ (x6 (pv 0) pe_dnewK rfl) (@ma _ _ _ (x6 (pv 0) pe_dnewK rfl)))))),?_⟩;have I0:IniAt a.Book H H p dx [] []:=⟨hp,by simp,by simp,by simp,λc o e _=>e,ap _⟩;intro dp h1;refine⟨_,rfl,p,_,dx,_,rfl,I0.at_ h1,T.cl,T.nA_people,aQ I0.len (show 0<1000 by decide),?_⟩;have I1:=I0.step (f:="people") h1;intro dt h2;refine⟨_,rfl,p,_,dx,_,rfl,I1.at_ h2,T.cl,T.nA_things_of,aQ I1.len (show 1<1000 by decide),?_⟩;have I2:=I1.step (f:="things_of") h2;intro dm h3;refine⟨_,rfl,p,_,dx,_,rfl,I2.at_ h3,T.cl,T.nA_mark_of,aQ I2.len (show 2<1000 by decide),?_⟩;have I3:=I2.step (f:="mark_of") h3;intro dl h4;refine⟨_,rfl,p,_,dx,_,rfl,I3.at_ h4,T.cl,T.nA_loss_of,aQ I3.len (show 3<1000 by decide),?_⟩;have I4:=I3.step (f:="loss_of") h4;intro dh h5;refine⟨_,rfl,p,_,dx,_,rfl,I4.at_ h5,T.cl,T.nA_held_of,aQ I4.len (show 4<1000 by decide),?_⟩;have I5:=I4.step (f:="held_of") h5;refine k ⟨dx,dp,dt,dm,dl,dh⟩ _ (λc hc=>I5.fr c (by simpa using hc)) ⟨?_,I5.dd dp (by simp),I5.dd dt (by simp),I5.dd dm (by simp),I5.dd dl (by simp),⟨[],I5.dd dh (by simp),.nil,ii⟩,λe he=>(by cases he),I5.nd,aZ _,aZ _⟩ I5.kp;rw[<-Iw];exact I5.ob
abbrev pU:bR:=mV (top 27) 1
def ww:FnScope ["self","name"] ["self","name"] (lK pU):=fsc
def qK(K:aa)(C:ak):Sp:=λvs H Q _=>∃b z Pi L x,vs=[.ref b,.str x]/\BookAt K C H b z Pi L/\Q (.bl (oC L x)) H
def De(F:Fun K "is_house" "Book.is_house" pU f fd)(T:Txt K mg a):FnOk P w K mg base (CXo P w) 1 f fd ["self","name"] (qK K a.Book):=by
 refine F.okN ww (λvs H Q E h=>?_) (λPo A outer s H vs Q E hr h=>?_)
 ·obtain⟨b,z,Pi,L,x,rfl,_⟩:=h;rfl
 ·obtain⟨b,z,Pi,L,x,rfl,B,k⟩:=h;have hu:=nj hr;refine⟨_,(@ma _ _ _ (@qp _ _ _ _ (JS (JU hu (pv 1) (nJ (pv 0) rfl))))),?_⟩;refine⟨_,rfl,_,rfl,b,_,_,_,_,rfl,B.ob,T.cl,T.nA_held_of,vg z,_,_,rfl,B.hh.dget x,?_⟩;rw[qt,ci];exact k
abbrev o9:bR:=mV (top 27) 2
def vB:FnScope ["self","name"] ["self","name"] (lK o9):=fsc
def se(K:aa)(C:ak):Sp:=λvs H Q _=>∃b z Pi L x,vs=[.ref b,.str x]/\BookAt K C H b z Pi L/\Q (.bl (oQ Pi x||oC L x)) H
def Ca(F:Fun K "is_holder" "Book.is_holder" o9 f fd)(T:Txt K mg a)(P0:Mt P w K mg base a.Book "is_house" 1 ["self","name"] (qK K a.Book)):FnOk P w K mg base (CXo P w) 2 f fd ["self","name"] (se K a.Book):=by
 refine F.okN vB (λvs H Q E h=>?_) (λPo A outer s H vs Q E hr h=>?_)
 ·obtain⟨b,z,Pi,L,x,rfl,_⟩:=h;rfl
 ·obtain⟨b,z,Pi,L,x,rfl,B,k⟩:=h;have hu:=nj hr;refine⟨_,(@ma _ _ _ (@qp _ _ _ _ (@pe_or _ _ _ _ _ _ _ (JS (JU hu (pv 1) (nJ (pv 0) rfl))) (@Fm _ _ _ _ _ (qu (pv 0) P0 (hr.mono (by first|decide|omega)) rV (@lS _ _ _ _ _ (pv 1) pa_nil (by rfl))))))),?_⟩;refine⟨_,rfl,_,rfl,b,_,_,_,_,rfl,B.ob,T.cl,T.nA_people,uL z,_,_,rfl,DGet.k (k:=af x) B.pp,_,rfl,uY (λh=>?_) (λh=>?_)⟩
  ·rw[qt (key:=λn=>n),ci] at h;unfold oQ at k;rw[h] at k;exact k
  ·rw[qt (key:=λn=>n),ci] at h;unfold oQ at k;rw[gv.mpr h] at k;exact⟨_,rfl,b,_,_,rfl,B.ob,qN z,_,rfl,b,z,Pi,L,x,rfl,B,k⟩
abbrev oS:bR:=mV (top 27) 3
def vj:FnScope ["self","name"] ["self","name"] (lK oS):=fsc
def mS(K:aa)(a:Adr):Sp:=λvs H Q E=>∃b z Pi L x,vs=[.ref b,.str x]/\BookAt K a.Book H b z Pi L/\Nm x/\(oC L x=true->Q .non H)/\(oC L x=false->E (.ref a.NoHouse) Zb H)
def Ao(F:Fun K "need_house" "Book.need_house" oS f fd)(T:Txt K mg a)(P0:Mt P w K mg base a.Book "is_house" 1 ["self","name"] (qK K a.Book)):FnOk P w K mg base (CXo P w) 2 f fd ["self","name"] (mS K a):=by
 refine F.okX vj (λvs H Q E h=>?_) (λPo A outer s H vs Q E hr h=>?_)
 ·obtain⟨b,z,Pi,L,x,rfl,_⟩:=h;rfl
 ·obtain⟨b,z,Pi,L,x,rfl,B,nm,k1,k2⟩:=h;have hu:=nj hr;refine⟨_,(@ma _ _ _ (@wb _ _ _ _ _ _ _ _ (Ai (vN (qu (pv 0) P0 (hr.mono (by first|decide|omega)) nS (@lS _ _ _ _ _ (pv 1) pa_nil (by rfl))))) (@ma _ _ _ (pW T.x_NoHouse rfl T.c_NoHouse rfl (EJ (Aj (x8 (pv 1) Ak))) yV)) pss_nil)),?_⟩;refine⟨_,rfl,b,_,_,rfl,B.ob,qN z,_,rfl,b,z,Pi,L,x,rfl,B,_,rfl,uY (λh=>?_) (λh=>?_)⟩
  ·exact⟨_,rfl,⟨x,rfl,nm⟩,λy=>k2 (nbT h)⟩
  ·exact k1 (nbF h)
abbrev oB:bR:=mV (top 27) 4
def ul:FnScope ["self","name"] ["self","name"] (lK oB):=fsc
def qi(K:aa)(a:Adr):Sp:=λvs H Q E=>∃b z Pi L x,vs=[.ref b,.str x]/\BookAt K a.Book H b z Pi L/\Nm x/\((oQ Pi x||oC L x)=true->Q .non H)/\((oQ Pi x||oC L x)=false->E (.ref a.NoHolder) Zb H)
def yu(F:Fun K "need_holder" "Book.need_holder" oB f fd)(T:Txt K mg a)(PQ:Mt P w K mg base a.Book "is_holder" 2 ["self","name"] (se K a.Book)):FnOk P w K mg base (CXo P w) 3 f fd ["self","name"] (qi K a):=by
 refine F.okX ul (λvs H Q E h=>?_) (λPo A outer s H vs Q E hr h=>?_)
 ·obtain⟨b,z,Pi,L,x,rfl,_⟩:=h;rfl
 ·obtain⟨b,z,Pi,L,x,rfl,B,nm,k1,k2⟩:=h;have hu:=nj hr;refine⟨_,(@ma _ _ _ (@wb _ _ _ _ _ _ _ _ (Ai (vN (qu (pv 0) PQ (hr.mono (by first|decide|omega)) nS (@lS _ _ _ _ _ (pv 1) pa_nil (by rfl))))) (@ma _ _ _ (pW T.x_NoHolder rfl T.c_NoHolder rfl (EJ (Aj (x8 (pv 1) Ak))) yV)) pss_nil)),?_⟩;refine⟨_,rfl,b,_,_,rfl,B.ob,qN z,_,rfl,b,z,Pi,L,x,rfl,B,_,rfl,uY (λh=>?_) (λh=>?_)⟩
  ·exact⟨_,rfl,⟨x,rfl,nm⟩,λy=>k2 (nbT h)⟩
  ·exact k1 (nbF h)
abbrev nR:bR:=mV (top 27) 5
def sT:FnScope ["self","name"] ["self","name"] (lK nR):=fsc
def ra(a:Adr)(Pi:List Str)(L:List (Ent×ak))(x:Str):Option ak:=if vI x=false then Za a.NoName else if(oQ Pi x||oC L x)=true then Za a.Twice else Zb
def tI(K:aa)(a:Adr):Sp:=λvs H Q E=>∃b z Pi L x,vs=[.ref b,.str x]/\BookAt K a.Book H b z Pi L/\Nm x/\(ra a Pi L x=Zb->∀H',Same H H'->Q .non H')/\(∀c,ra a Pi L x=Za c->∀H',Same H H'->E (.ref c) Zb H')
def Dd(F:Fun K "need_new_name" "Book.need_new_name" nR f fd)(T:Txt K mg a)(QU:Fn P w K mg base "is_name" 1 ["text"] yG)(PQ:Mt P w K mg base a.Book "is_holder" 2 ["self","name"] (se K a.Book)):FnOk P w K mg base (CXo P w) 3 f fd ["self","name"] (tI K a):=by
 refine F.okX sT (λvs H Q E h=>?_) (λPo A outer s H vs Q E hr h=>?_)
 ·obtain⟨b,z,Pi,L,x,rfl,_⟩:=h;rfl
 ·obtain⟨b,z,Pi,L,x,rfl,B,nm,k1,k2⟩:=h;have hu:=nj hr;refine⟨_,(@lW _ _ _ _ _ (@wb _ _ _ _ _ _ _ _ (Ai (vN (@vq _ _ _ _ _ _ _ _ _ _ _ QU (hr.mono (by first|decide|omega)) rfl nS (@lS _ _ _ _ _ (pv 1) pa_nil (by rfl)) (by decide) (by rfl) (by rfl)))) (@ma _ _ _ (pW T.x_NoName rfl T.c_NoName rfl (EJ (Aj (x8 (pv 1) Ak))) yV)) pss_nil) (@ma _ _ _ (@wb _ _ _ _ _ _ _ _ (vN (qu (pv 0) PQ (hr.mono (by first|decide|omega)) nS (@lS _ _ _ _ _ (pv 1) pa_nil (by rfl)))) (@ma _ _ _ (pW T.x_Twice rfl T.c_Twice rfl (EJ (Aj (x8 (pv 1) Ak))) yV)) pss_nil))),?_⟩;refine⟨_,rfl,x,rfl,nm,λH1 s1=>⟨_,rfl,uY (λh=>?_) (λh=>?_)⟩⟩
  ·refine⟨_,rfl,⟨x,rfl,nm⟩,λy=>k2 _ ?_ H1 s1⟩;have h:vI x=false:=nbT h;unfold ra;rw[Zc h]
  ·have h:vI x=true:=nbF h;have B1:=B.same s1;refine⟨_,rfl,b,_,_,rfl,B1.ob,qN z,_,rfl,b,z,Pi,L,x,rfl,B1,_,rfl,uY (λh2=>?_) (λh2=>?_)⟩
   ·refine⟨_,rfl,⟨x,rfl,nm⟩,λy=>k2 _ ?_ H1 s1⟩;unfold ra;rw[Zd (by rw[h];decide),Zc h2]
   ·refine k1 ?_ H1 s1;unfold ra;rw[Zd (by rw[h];decide),Zd h2]
end
mutual
inductive D where
 |i (n:Int)
 |s (x:Str)
 |l (xs:DL)
 |t (xs:DL)
inductive DL where
 |nil
 |cons (x:D) (xs:DL)
end
mutual
def DAt(K:aa)(H:Hp):D->V->Prop
 |.i n,v=>v=.int n
 |.s x,v=>v=.str x
 |.l xs,v=>∃a vs,v=.ref a/\SqL K H a vs/\DLAt K H xs vs
 |.t xs,v=>∃a vs,v=.ref a/\SqT K H a vs/\DLAt K H xs vs
def DLAt(K:aa)(H:Hp):DL->List V->Prop
 |.nil,vs=>vs=[]
 |.cons x xs,vs=>∃v r,vs=v::r/\DAt K H x v/\DLAt K H xs r
end
def Iq{K}(s:Same H H')(h:SqL K H a xs):SqL K H' a xs:=Same.seq s h
def DD{K}(s:Same H H')(h:SqT K H a xs):SqT K H' a xs:=uN h λc o e _=>s c o e
mutual
theorem DAt.same{K}(s:Same H H'):∀(d:D)(v:V),DAt K H d v->DAt K H' d v
 |.i n,v,h=>h
 |.s x,v,h=>h
 |.l xs,v,h=>by
  obtain⟨a,vs,e,q,r⟩:=h;exact⟨a,vs,e,Iq s q,DLAt.same s xs vs r⟩
 |.t xs,v,h=>by obtain⟨a,vs,e,q,r⟩:=h;exact⟨a,vs,e,DD s q,DLAt.same s xs vs r⟩
theorem DLAt.same{K}(s:Same H H'):∀(d:DL)(vs:List V),DLAt K H d vs->DLAt K H' d vs
 |.nil,vs,h=>h
 |.cons x xs,vs,h=>by obtain⟨v,r,e,h1,h2⟩:=h;exact⟨v,r,e,DAt.same s x v h1,DLAt.same s xs r h2⟩
end
def mj(l:List (Str×Int×Int))(n:Str):Str×Int×Int:=(l.find? λq=>decide (q.1=n)).getD (n,0,1)
def nU(L:List (Ent×ak))(n:Str):Option (Ent×ak):=L.find? λe=>decide (e.1.nm=n)
def rN(h:nU L n=Za e):e∈L:=eI h
section
variable{P:aK}{w:ba}{K:aa}{mg:Str->Option ai}{base:bx}{a:Adr}{f:ak}{fd:cq}
abbrev qY:bR:=mV (top 27) 6
def yq:FnScope ["self","name"] ["self","name"] (lK qY):=fsc
def uS(a:Adr)(Pi:List Str)(L:List (Ent×ak))(x:Str):Option ak:=match ra a Pi L x with
 |some c=>Za c
 |none=>if 6<=Pi.length then Za a.TooMany else Zb
def Bc(K:aa)(a:Adr):Sp:=λvs H Q E=>∃b z Pi L x,vs=[.ref b,.str x]/\BookAt K a.Book H b z Pi L/\Nm x /\
 (uS a Pi L x=Zb->∀H',BookAt K a.Book H' b z (Pi++[x]) L->(∀c o,H c=Za o->c≠z.dp->H' c=Za o)->Q .non H')/\(∀c,uS a Pi L x=Za c->∀H',Same H H'->E (.ref c) Zb H')
def xx(h:ra a Pi L x=Zb):vI x=true/\oQ Pi x=false/\oC L x=false:=by
 unfold ra at h;split at h
 ·cases h
 ·split at h
  ·cases h
  ·rename_i h1 h2;have h2:¬(oQ Pi x||oC L x)=true:=h2;refine⟨by simpa using h1,?_,?_⟩
   ·cases q:oQ Pi x with
    |false=>rfl
    |true=>rw[q] at h2;exact absurd rfl h2
   ·cases q:oC L x with
    |false=>rfl
    |true=>rw[q,Bool.or_true] at h2;exact absurd rfl h2
def Hb(F:Fun K "person" "Book.person" qY f fd)(T:Txt K mg a)(Px:Mt P w K mg base a.Book "need_new_name" 3 ["self","name"] (tI K a)):FnOk P w K mg base (CXo P w) 4 f fd ["self","name"] (Bc K a):=by
 refine F.okX yq (λvs H Q E h=>?_) (λPo A outer s H vs Q E hr h=>?_)
 ·obtain⟨b,z,Pi,L,x,rfl,_⟩:=h;rfl
 ·obtain⟨b,z,Pi,L,x,rfl,B,nm,k1,k2⟩:=h;have hu:=nj hr;refine⟨_,(@lW _ _ _ _ _ (@nN _ _ _ _ (qu (pv 0) Px (hr.mono (by first|decide|lia)) nS (@lS _ _ _ _ _ (pv 1) pa_nil (by rfl))) (by rfl)) (@lW _ _ _ _ _ (@wb _ _ _ _ _ _ _ _ (@uR _ _ _ _ _ _ _ _ Kx (@o6 _ _ _ _ _ _ _ _ _ BG rfl T.b_len C7 (@lS _ _ _ _ _ (nJ (pv 0) rfl) pa_nil (by rfl)) (by decide) (by decide) (by rfl) (by rfl)) (rn rfl T.g_MOST_PERSONS T.r_MOST_PERSONS) (uU _)) (@ma _ _ _ (pW T.x_TooMany rfl T.c_TooMany rfl pe_str yV)) pss_nil) (@ma _ _ _ (pb hu (nJ (pv 0) rfl) (pv 1) pe_bl rfl)))),?_⟩;refine⟨_,rfl,b,_,_,rfl,B.ob,qN z,_,rfl,b,z,Pi,L,x,rfl,B,nm,λhd H1 s1=>?_,λc hc H1 s1=>?_⟩
  ·have B1:=B.same s1;refine⟨_,rfl,b,_,_,_,_,rfl,B1.ob,T.cl,T.nA_people,uL z,_,_,rfl,B1.pp,_,_,rfl,rfl,_,rfl,uY (λh=>?_) (λh=>?_)⟩
   ·refine k2 _ ?_ H1 s1;unfold uS;rw[hd];have h:(6:Int)<=((Pi.map λn=>((af n:Key),V.bl true)).length:Int):=Zf h;rw[ac] at h;exact Zc (by lia)
   ·have h:¬(6:Int)<=((Pi.map λn=>((af n:Key),V.bl true)).length:Int):=λz=>h (Zg z);rw[ac] at h;have hl:Pi.length<6:=by lia
    have QJ:oo (Pi.map λn=>((af n:Key),V.bl true)) (af x)=none:=by rw[qt (key:=λn=>n)];have:=(xx hd).2.1;unfold oQ at this;rw[gB];exact dY.mp this |> ee.mp
    refine⟨_,rfl,b,_,_,_,_,rfl,B1.ob,T.cl,T.nA_people,uL z,_,rfl,_,_,rfl,DPut.k (k:=af x) B1.pp (by rw[ac];exact aA hl (by decide)),?_⟩;have Sa:uS a Pi L x=none:=by unfold uS;rw[hd];exact Zd (by lia)
    refine k1 Sa _ ?_ λc o e hc=>by rw[lG hc];exact s1 c o e
    obtain⟨hb,Tc⟩:=ay.mp B1.nd;obtain⟨hp,hr2⟩:=ay.mp Tc;have ne:∀c,c∈z.dt::z.dm::z.dl::z.dh::L.map (·.2)->c≠z.dp:=λc hc e=>hp (e▸hc);refine⟨?_,?_,?_,?_,?_,?_,λe he=>?_,B1.nd,by rw[aJ];simp;lia,B1.h8⟩
    ·rw[lG (λe=>hb (by rw[e];simp))];exact B1.ob
    ·rw[lJ,um _ QJ,aw];rfl
    ·rw[lG (ne _ (by simp))];exact B1.tt
    ·rw[lG (ne _ (by simp))];exact B1.mm
    ·rw[lG (ne _ (by simp))];exact B1.ll
    ·exact B1.hh.keep λo h=>by rw[lG (ne _ (by simp))];exact h
    ·refine(B1.he e he).keep (λo h=>?_) λc o h x=>?_
     ·rw[lG (ne _ (by simp only[ah];right;right;right;right;exact aj.mpr ⟨e,he,rfl⟩))];exact h
     ·rw[lG (CT h B1.pp (by rcases x with⟨xs,rfl|⟨ob,rfl⟩⟩<;>intro z<;>cases z))];exact h
  ·refine k2 c ?_ H1 s1;unfold uS;rw[hc]
abbrev sA:bR:=mV (top 27) 7
def Ah:FnScope ["self","name","owner","things","mark","loss"] ["self","name","owner","things","mark","loss"] (lK sA):=fsc
def rX(a:Adr)(Pi:List Str)(L:List (Ent×ak))(x o:Str)(l:Int):Option ak:=match ra a Pi L x with
 |some c=>Za c
 |none=>if(oQ Pi o||oC L o)=false then Za a.NoHolder else if l<0 then Za a.NoLoss else if 8<=L.length then Za a.TooMany else Zb
def Dx(K:aa)(a:Adr):Sp:=λvs H Q E=>∃b z Pi L x o t m l,vs=[.ref b,.str x,.str o,.int t,.int m,.int l]/\BookAt K a.Book H b z Pi L/\Nm x/\Nm o /\
 (rX a Pi L x o l=Zb->∀p H',H p=Zb->BookAt K a.Book H' b z Pi (L++[(⟨x,t,m,l,[(o,1,1)]⟩,p)])->(∀c u,H c=Za u->c∉[z.dt,z.dm,z.dl,z.dh]->H' c=Za u)->Q .non H')/\(∀c,rX a Pi L x o l=Za c->∀H',Same H H'->E (.ref c) Zb H')
def pR(v:Ent×ak->V)(h:oC L x=false):oo (L.map λe=>((af e.1.nm:Key),v e)) (af x)=none:=by rw[qt (key:=λe:Ent×ak=>e.1.nm)];unfold oC at h;rw[gB];exact dY.mp h |> ee.mp
def IL(F:Fun K "house" "Book.house" sA f fd)(T:Txt K mg a)(Px:Mt P w K mg base a.Book "need_new_name" 3 ["self","name"] (tI K a))(Pr:Mt P w K mg base a.Book "need_holder" 3 ["self","name"] (qi K a))(PU:Fn P w K mg base "need_loss" 1 ["number"] (sd a)):FnOk P w K mg base (CXo P w) 4 f fd ["self","name","owner","things","mark","loss"] (Dx K a):=by
 refine F.okX Ah (λvs H Q E h=>?_) (λPo A outer s H vs Q E hr h=>?_)
 ·obtain⟨b,z,Pi,L,x,o,t,m,l,rfl,_⟩:=h;rfl
 ·obtain⟨b,z,Pi,L,x,o,t,m,l,rfl,B,nm,no,k1,k2⟩:=h;have hu:=nj hr;refine⟨_,(@lW _ _ _ _ _ (@nN _ _ _ _ (qu (pv 0) Px (hr.mono (by first|decide|lia)) nS (@lS _ _ _ _ _ (pv 1) pa_nil (by rfl))) (by rfl)) (@lW _ _ _ _ _ (@nN _ _ _ _ (qu (pv 0) Pr (hr.mono (by first|decide|lia)) nS (@lS _ _ _ _ _ (pv 2) pa_nil (by rfl))) (by rfl)) (@lW _ _ _ _ _ (@nN _ _ _ _ (@vq _ _ _ _ _ _ _ _ _ _ _ PU (hr.mono (by first|decide|lia)) rfl nS (@lS _ _ _ _ _ (pv 5) pa_nil (by rfl)) (by decide) (by rfl) (by rfl)) (by rfl)) (@lW _ _ _ _ _ (@wb _ _ _ _ _ _ _ _ (@uR _ _ _ _ _ _ _ _ Kx (@o6 _ _ _ _ _ _ _ _ _ BG rfl T.b_len C7 (@lS _ _ _ _ _ (nJ (pv 0) rfl) pa_nil (by rfl)) (by decide) (by decide) (by rfl) (by rfl)) (rn rfl T.g_MOST_HOUSES T.r_MOST_HOUSES) (uU _)) (@ma _ _ _ (pW T.x_TooMany rfl T.c_TooMany rfl pe_str yV)) pss_nil) (@lW _ _ _ _ _ (pb hu (nJ (pv 0) rfl) (pv 1) (pv 3) rfl) (@lW _ _ _ _ _ (pb hu (nJ (pv 0) rfl) (pv 1) (pv 4) rfl) (@lW _ _ _ _ _ (pb hu (nJ (pv 0) rfl) (pv 1) (pv 5) rfl) (@ma _ _ _ (pb hu (nJ (pv 0) rfl) (pv 1) (FV (DP (pv 2) (rn rfl T.g_ONE T.r_ONE) FT) rfl rfl (by decide) (by decide)) rfl))))))))),?_⟩;refine⟨_,rfl,b,_,_,rfl,B.ob,qN z,_,rfl,b,z,Pi,L,x,rfl,B,nm,λhd H1 s1=>?_,λc hc H1 s1=>?_⟩
  ·have B1:=B.same s1;refine⟨_,rfl,b,_,_,rfl,B1.ob,qN z,_,rfl,b,z,Pi,L,o,rfl,B1,no,λho=>?_,λho=>?_⟩
   ·refine⟨_,rfl,l,rfl,λhl=>?_,λhl=>?_⟩
    ·refine k2 _ ?_ H1 s1;unfold rX;rw[hd];show(if(oQ Pi o||oC L o)=false then Za a.NoHolder else _)=_;rw[Zd (by rw[ho];decide),Zc hl]
    ·obtain⟨Th,eh,ph,nh⟩:=B1.hh;have UR:Th.length=L.length:=by rw[ph.length_eq,ac]
     refine⟨_,rfl,b,_,_,_,_,rfl,B1.ob,T.cl,T.nA_held_of,vg z,_,_,rfl,eh,_,_,rfl,rfl,_,rfl,uY (λh=>?_) (λh=>?_)⟩
     ·refine k2 _ ?_ H1 s1;have h:(8:Int)<=(Th.length:Int):=Zf h;rw[UR] at h;unfold rX;rw[hd];show(if(oQ Pi o||oC L o)=false then Za a.NoHolder else _)=_;rw[Zd (by rw[ho];decide),Zd (by lia),Zc (by lia)]
     ·have h:¬(8:Int)<=(Th.length:Int):=λz=>h (Zg z);rw[UR] at h;have Vc:L.length<8:=by lia
      have Sa:rX a Pi L x o l=none:=by unfold rX;rw[hd];show(if(oQ Pi o||oC L o)=false then Za a.NoHolder else _)=_;rw[Zd (by rw[ho];decide),Zd (by lia),Zd (by lia)]
      have hx:=(xx hd).2.2;have sz:∀{v:Ent×ak->V},(L.map λe=>((af e.1.nm:Key),v e)).length<aI:=λ{v}=>by rw[ac];exact aA Vc (by decide)
      obtain⟨hb,r1⟩:=ay.mp B1.nd;obtain⟨hp,r2⟩:=ay.mp r1;obtain⟨ht,r3⟩:=ay.mp r2;obtain⟨hm,r4⟩:=ay.mp r3;obtain⟨Ue,r5⟩:=ay.mp r4;obtain⟨hh,r6⟩:=ay.mp r5;refine⟨_,rfl,_,rfl,b,_,_,_,_,rfl,B1.ob,T.cl,T.nA_things_of,xm z,_,rfl,_,_,rfl,DPut.k (k:=af x) B1.tt sz,?_⟩;have Uo:b≠z.dt:=λe=>hb (by rw[e];simp);have VI:b≠z.dm:=λe=>hb (by rw[e];simp);have b_l:b≠z.dl:=λe=>hb (by rw[e];simp);have b_h:b≠z.dh:=λe=>hb (by rw[e];simp);have p_t:z.dp≠z.dt:=λe=>hp (by rw[e];simp);have p_m:z.dp≠z.dm:=λe=>hp (by rw[e];simp);have p_l:z.dp≠z.dl:=λe=>hp (by rw[e];simp);have p_h:z.dp≠z.dh:=λe=>hp (by rw[e];simp);have Ux:z.dt≠z.dm:=λe=>ht (by rw[e];simp);have Uy:z.dt≠z.dl:=λe=>ht (by rw[e];simp);have t_h:z.dt≠z.dh:=λe=>ht (by rw[e];simp);have UO:z.dm≠z.dl:=λe=>hm (by rw[e];simp);have m_h:z.dm≠z.dh:=λe=>hm (by rw[e];simp);have l_h:z.dl≠z.dh:=λe=>Ue (by rw[e];simp);refine⟨_,rfl,_,rfl,b,_,_,_,_,rfl,(by rw[lG Uo];exact B1.ob),T.cl,T.nA_mark_of,CJ z,_,rfl,_,_,rfl,DPut.k (k:=af x) (by rw[lG Ux.symm];exact B1.mm) sz,?_⟩;refine⟨_,rfl,_,rfl,b,_,_,_,_,rfl,(by rw[lG VI,lG Uo];exact B1.ob),T.cl,T.nA_loss_of,CK z,_,rfl,_,_,rfl,DPut.k (k:=af x) (by rw[lG UO.symm,lG Uy.symm];exact B1.ll) sz,?_⟩;intro p QX;have e0:∀c,c≠z.dt->c≠z.dm->c≠z.dl->∀A B C,(upd (upd (upd H1 z.dt A) z.dm B) z.dl C) c=H1 c:=λc c1 c2 c3 A B C=>by rw[lG c3,lG c2,lG c1]
      have TZ:p≠z.dt:=λe=>by rw[e,lG Uy,lG Ux,lJ] at QX;cases QX
      have T0:p≠z.dm:=λe=>by rw[e,lG UO,lJ] at QX;cases QX
      have T2:p≠z.dl:=λe=>by rw[e,lJ] at QX;cases QX
      have QY:H1 p=none:=by rw[e0 p TZ T0 T2] at QX;exact QX
      have hp0:H p=none:=s1.free QY;have T3:p≠z.dh:=λe=>by rw[e,eh] at QY;cases QY
      have T4:p≠b:=λe=>by rw[e,B1.ob] at QY;cases QY
      have q_p:p≠z.dp:=λe=>by rw[e,B1.pp] at QY;cases QY
      refine⟨_,rfl,lJ,[(af o,.ref a.ONE)],rfl,(show 1<=15 by decide),_,rfl,b,_,_,_,_,rfl,(by rw[lG T4.symm,lG T4.symm,e0 b Uo VI b_l];exact B1.ob),T.cl,T.nA_held_of,vg z,_,rfl,_,_,rfl,DPut.k (k:=af x) (by rw[lG T3.symm,lG T3.symm,e0 z.dh t_h.symm m_h.symm l_h.symm];exact eh) (by rw[UR];exact aA Vc (by decide)),?_⟩;have TJ:∀c,c≠p->c≠z.dh->c≠z.dt->c≠z.dm->c≠z.dl->∀A B C D E F,(upd (upd (upd (upd (upd (upd H1 z.dt A) z.dm B) z.dl C) p D) p E) z.dh F) c=H1 c:=λc c1 c2 c3 c4 c5 A B C D E F=>by rw[lG c2,lG c1,lG c1,lG c5,lG c4,lG c3]
      refine k1 Sa p _ hp0 ?_ λc u e hc=>?_
      ·refine⟨?_,?_,?_,?_,?_,?_,λe he=>?_,?_,B1.p6,by rw[aJ];exact Vc⟩
       ·rw[TJ b T4.symm b_h Uo VI b_l];exact B1.ob
       ·rw[TJ z.dp q_p.symm p_h p_t p_m p_l];exact B1.pp
       ·rw[lG t_h,lG TZ.symm,lG TZ.symm,lG Uy,lG Ux,lJ,um _ (pR _ hx),aw];rfl
       ·rw[lG m_h,lG T0.symm,lG T0.symm,lG UO,lJ,um _ (pR _ hx),aw];rfl
       ·rw[lG l_h,lG T2.symm,lG T2.symm,lJ,um _ (pR _ hx),aw];rfl
       ·have hv:oo Th (af x)=none:=by rw[Dr ph nh];exact pR _ hx
        refine⟨_,lJ,?_,?_⟩
        ·rw[um _ hv,aw];exact ph.append_right _
        ·rw[aw,aw,am,dy];refine wB nh λhq=>?_;obtain⟨kv,hkv,ekv⟩:=aj.mp hq;have e1:=(yz (k:=kv.1) (v:=kv.2) nh).mpr hkv;rw[ekv,pR _ hx] at e1;cases e1
       ·rcases aL.mp he with he|he
        ·have Ug:e.2∈L.map (·.2):=aj.mpr ⟨e,he,rfl⟩;have d1:e.2≠z.dh:=λq=>hh (q▸Ug);have d2:e.2≠z.dt:=λq=>ht (by rw[<-q];simp only[ah];right;right;right;exact Ug);have d3:e.2≠z.dm:=λq=>hm (by rw[<-q];simp only[ah];right;right;exact Ug);have d4:e.2≠z.dl:=λq=>Ue (by rw[<-q];simp only[ah];right;exact Ug);have d5:e.2≠p:=λq=>by obtain⟨ts,_,q2,_⟩:=B1.he e he;rw[q,QY] at q2;cases q2
         refine(B1.he e he).keep (λu h=>?_) λc u h y=>?_
         ·rw[TJ e.2 d5 d1 d2 d3 d4];exact h
         ·have nt:∀{q:ak}{kv:List (Key×V)},H1 q=Za (.dK kv)->c≠q:=λhq=>CT h hq (by rcases y with⟨xs,rfl|⟨ob,rfl⟩⟩<;>intro z<;>cases z);rw[TJ c (lV h QY) (nt eh) (nt B1.tt) (nt B1.mm) (nt B1.ll)];exact h
        ·rw[ao.mp he];refine⟨[a.ONE],rfl,?_,λq hq=>?_⟩
         ·rw[lG T3,lJ];rfl
         ·rw[ao.mp hq];exact .inr T.one
       ·have hpL:p∉L.map (·.2):=λhq=>by obtain⟨e,he,rfl⟩:=aj.mp hq;obtain⟨ts,_,q2,_⟩:=B1.he e he;rw[QY] at q2;cases q2
        have:=wB (k:=p) B1.nd (by
         intro hq;simp only[ah] at hq;rcases hq with e|e|e|e|e|e|e
         ·exact T4 e
         ·exact q_p e
         ·exact TZ e
         ·exact T0 e
         ·exact T2 e
         ·exact T3 e
         ·exact hpL e)
        rw[aw];exact this
      ·have e1:=s1 c u e;have c0:c≠p:=lV e1 QY;simp only[ah,cK,or_false,not_or] at hc;rw[TJ c c0 hc.2.2.2 hc.1 hc.2.1 hc.2.2.1];exact e1
   ·refine k2 _ ?_ H1 s1;unfold rX;rw[hd];exact Zc ho
  ·refine k2 c ?_ H1 s1;unfold rX;rw[hc]
def PairAt(K:aa)(H:Hp)(q:Str×Int×Int)(v:V):Prop:=∃t u,v=.ref t/\SqT K H t [.str q.1,.ref u]/\SqT K H u [.int q.2.1,.int q.2.2]
def PairAt.keep{K}(h:PairAt K H q v)(k:∀c o,H c=Za o->(∃xs,o=.tup xs\/∃ob,o=.frz ob (.tup xs))->H' c=Za o):PairAt K H' q v:=by obtain⟨t,u,e,h1,h2⟩:=h;exact⟨t,u,e,uN h1 k,uN h2 k⟩
def KO(hp:H p=Za (.lst xs)):∀c o,H c=Za o->(∃xs,o=.tup xs\/∃ob,o=.frz ob (.tup xs))->(upd H p o') c=Za o:=λc o h x=>by rw[lG (CT h hp (by rcases x with⟨xs,rfl|⟨ob,rfl⟩⟩<;>intro z<;>cases z))];exact h
def HZ{l:List (Str×Int×Int)}{ts:List ak}(hl:ts.length=l.length){n:Str}(hn:n∈l.map (·.1)):∃q,(l.zip ts).find? (λq=>decide (q.1.1=n))=Za q/\q∈l.zip ts/\q.1=mj l n/\(mj l n).1=n:=by
 have e:(l.zip ts).map (·.1)=l:=jb (by lia);cases h:(l.zip ts).find? (λq=>decide (q.1.1=n)) with
 |none =>
  exfalso;rw[cy] at h;rw[<-e,aE] at hn;obtain⟨q,hq,e2⟩:=aj.mp hn;exact h q hq (Zg e2)
 |some q =>
  have e2:l.find? (λq=>decide (q.1=n))=Za q.1:=by rw[<-e,fg];show((l.zip ts).find? (λq=>decide (q.1.1=n))).map (·.1)=Za q.1;rw[h];rfl
  have e3:mj l n=q.1:=by unfold mj;rw[e2];rfl
  exact⟨q,rfl,eI h,e3.symm,by rw[e3];simpa using eP h⟩
def yF(K:aa)(C:ak):Sp:=λvs H Q _=>∃b z Pi L,vs=[.ref b]/\BookAt K C H b z Pi L/\∀l,H l=Zb->Q (.ref l) (upd H l (.lst ((srt Pi).map V.str)))
abbrev qk:bR:=mV (top 27) 12
def xP:FnScope ["self"] ["self"] (lK qk):=fsc
def EM(F:Fun K "persons" "Book.persons" qk f fd)(T:Txt K mg a):FnOk P w K mg base (CXo P w) 1 f fd ["self"] (yF K a.Book):=by
 refine F.okN xP (λvs H Q E h=>?_) (λPo A outer s H vs Q E hr h=>?_)
 ·obtain⟨b,z,Pi,L,rfl,_⟩:=h;rfl
 ·obtain⟨b,z,Pi,L,rfl,B,k⟩:=h;have hu:=nj hr;refine⟨_,(@ma _ _ _ (@qp _ _ _ _ (@o6 _ _ _ _ _ _ _ _ _ (oW rfl) rfl T.b_sorted uK (@lS _ _ _ _ _ (nJ (pv 0) rfl) pa_nil (by rfl)) (by decide) (by decide) (by rfl) (by rfl)))),?_⟩;exact⟨_,rfl,b,_,_,_,_,rfl,B.ob,T.cl,T.nA_people,uL z,_,_,Pi,rfl,.inl B.pp,by rw[aE];rfl,aQ B.p6 (by decide),k⟩
def Be(K:aa)(C:ak):Sp:=λvs H Q _=>∃b z Pi L,vs=[.ref b]/\BookAt K C H b z Pi L/\∀l,H l=Zb->Q (.ref l) (upd H l (.lst ((srt (L.map (·.1.nm))).map V.str)))
abbrev qZ:bR:=mV (top 27) 13
def yr:FnScope ["self"] ["self"] (lK qZ):=fsc
def He(F:Fun K "houses" "Book.houses" qZ f fd)(T:Txt K mg a):FnOk P w K mg base (CXo P w) 1 f fd ["self"] (Be K a.Book):=by
 refine F.okN yr (λvs H Q E h=>?_) (λPo A outer s H vs Q E hr h=>?_)
 ·obtain⟨b,z,Pi,L,rfl,_⟩:=h;rfl
 ·obtain⟨b,z,Pi,L,rfl,B,k⟩:=h;have hu:=nj hr;refine⟨_,(@ma _ _ _ (@qp _ _ _ _ (@o6 _ _ _ _ _ _ _ _ _ (oW rfl) rfl T.b_sorted uK (@lS _ _ _ _ _ (nJ (pv 0) rfl) pa_nil (by rfl)) (by decide) (by decide) (by rfl) (by rfl)))),?_⟩;obtain⟨Th,ss,eh,ek,ps⟩:=B.hh.keys;rw[<-C9 ps] at k;exact⟨_,rfl,b,_,_,_,_,rfl,B.ob,T.cl,T.nA_held_of,vg z,_,_,ss,rfl,.inl eh,ek,by rw[ps.length_eq,ac];exact aQ B.h8 (by decide),k⟩
abbrev wU:bR:=mV (top 27) 15
def EF:FnScope ["self","house"] ["self","house"] (lK wU):=fsc
def MW(K:aa)(a:Adr):Sp:=λvs H Q E=>∃b z Pi L x,vs=[.ref b,.str x]/\BookAt K a.Book H b z Pi L/\Nm x/\(∀e,nU L x=Za e->∀t,H t=Zb->Q (.ref t) (upd H t (.tup [.int e.1.th,.int e.1.mr,.int e.1.ls])))/\(nU L x=Zb->E (.ref a.NoHouse) Zb H)
def z8(v:Ent×ak->V)(h:nU L x=Za e):oo (L.map λe=>((af e.1.nm:Key),v e)) (af x)=Za (v e):=by rw[qt (key:=λe:Ent×ak=>e.1.nm)];unfold nU at h;rw[h];rfl
def ok_of(F:Fun K "of" "Book.of" wU f fd)(T:Txt K mg a)(Pj:Mt P w K mg base a.Book "need_house" 2 ["self","name"] (mS K a)):FnOk P w K mg base (CXo P w) 3 f fd ["self","house"] (MW K a):=by
 refine F.okX EF (λvs H Q E h=>?_) (λPo A outer s H vs Q E hr h=>?_)
 ·obtain⟨b,z,Pi,L,x,rfl,_⟩:=h;rfl
 ·obtain⟨b,z,Pi,L,x,rfl,B,nm,k1,k2⟩:=h;have hu:=nj hr;refine⟨_,(@lW _ _ _ _ _ (@nN _ _ _ _ (qu (pv 0) Pj (hr.mono (by first|decide|lia)) nS (@lS _ _ _ _ _ (pv 1) pa_nil (by rfl))) (by rfl)) (@ma _ _ _ (@qp _ _ _ _ (@vO _ _ _ _ _ (@lS _ _ _ _ _ (@rA _ _ _ _ _ _ hu (nJ (pv 0) rfl) (pv 1) (λ_ _=>rfl)) (@lS _ _ _ _ _ (@rA _ _ _ _ _ _ hu (nJ (pv 0) rfl) (pv 1) (λ_ _=>rfl)) (@lS _ _ _ _ _ (@rA _ _ _ _ _ _ hu (nJ (pv 0) rfl) (pv 1) (λ_ _=>rfl)) pa_nil (by rfl)) (by rfl)) (by rfl)))))),?_⟩;refine⟨_,rfl,b,_,_,rfl,B.ob,qN z,_,rfl,b,z,Pi,L,x,rfl,B,nm,λh=>?_,λh=>k2 ?_⟩
  ·cases he:nU L x with
   |none=>unfold oC at h;unfold nU at he;rw[he] at h;cases h
   |some e =>
    refine⟨_,rfl,b,_,_,_,_,rfl,B.ob,T.cl,T.nA_things_of,xm z,_,rfl,_,_,rfl,?_,_,rfl,b,_,_,_,_,rfl,B.ob,T.cl,T.nA_mark_of,CJ z,_,rfl,_,_,rfl,?_,_,rfl,b,_,_,_,_,rfl,B.ob,T.cl,T.nA_loss_of,CK z,_,rfl,_,_,rfl,?_,(show 3<=aI by decide),λt ht=>k1 e he t ht⟩
    ·have:=DGet.k (k:=af x) B.tt;rw[z8 _ he] at this;exact this
    ·have:=DGet.k (k:=af x) B.mm;rw[z8 _ he] at this;exact this
    ·have:=DGet.k (k:=af x) B.ll;rw[z8 _ he] at this;exact this
  ·unfold oC at h;unfold nU;exact dY.mp h |> ee.mp
abbrev pz:bR:=mV (top 27) 14
def sc_Book_shares:FnScope ["self","house","held"] ["self","house"] (lK pz):=fsc
def Bb(K:aa)(a:Adr):Sp:=λvs H Q E=>∃b z Pi L x,vs=[.ref b,.str x]/\BookAt K a.Book H b z Pi L/\Nm x /\
 (∀e,nU L x=Za e->e.1.held.length<64/\∀l ys H',H l=Zb->Same H H'->H' l=Za (.lst ys)->eU (PairAt K H') ((srt (e.1.held.map (·.1))).map (mj e.1.held)) ys->Q (.ref l) H')/\(nU L x=Zb->E (.ref a.NoHouse) Zb H)
def Ha(F:Fun K "shares" "Book.shares" pz f fd)(T:Txt K mg a)(Pj:Mt P w K mg base a.Book "need_house" 2 ["self","name"] (mS K a)):FnOk P w K mg base (CXo P w) 3 f fd ["self","house"] (Bb K a):=by
 refine F.okX sc_Book_shares (λvs H Q E h=>?_) (λPo A outer s H vs Q E hr h=>?_)
 ·obtain⟨b,z,Pi,L,x,rfl,_⟩:=h;rfl
 ·obtain⟨b,z,Pi,L,x,rfl,B,nm,k1,k2⟩:=h;have hu:=nj hr;refine⟨_,(@lW _ _ _ _ _ (@nN _ _ _ _ (qu (pv 0) Pj (hr.mono (by first|decide|lia)) nS (@lS _ _ _ _ _ (pv 1) pa_nil (by rfl))) (by rfl)) (@lW _ _ _ _ _ (@rT _ _ (2) _ _ _ _ sc_Book_shares.nd rfl (g7 rfl) (@rA _ _ _ _ _ _ hu (nJ (pv 0) rfl) (pv 1) (λ_ _=>rfl)) (by rfl) (by first|exact .inl rfl|exact .inr rfl|assumption)) (@ma _ _ _ (@qp _ _ _ _ (Cu (fr:=["held"]) (ix:=[2]) rfl (by exact(show CompOk ["self","house","held"] (lK pz) _ _ _ _ from cok)) (Lg (@o6 _ _ _ _ _ _ _ _ _ (oW rfl) rfl T.b_sorted uK (@lS _ _ _ _ _ (pv 2) pa_nil (by rfl)) (by decide) (by decide) (by rfl) (by rfl))) (λ_ _ _ _ _=>zM) (λ_ _ _ _ _=>(vO (lS (pv 0) (lS (rA hu (pv 1) (pv 0) (λ_ _=>rfl)) pa_nil))))))))),?_⟩;refine⟨_,rfl,b,_,_,rfl,B.ob,qN z,_,rfl,b,z,Pi,L,x,rfl,B,nm,λh=>?_,λh=>k2 ?_⟩
  ·cases he:nU L x with
   |none=>unfold oC at h;unfold nU at he;rw[he] at h;cases h
   |some e =>
    obtain⟨Rg,k1⟩:=k1 e he;obtain⟨ts,hl,hd,hts⟩:=B.he e (rN he);have To:(((e.1.held.zip ts).map λq=>((af q.1.1:Key),V.ref q.2)).map (·.1))=(e.1.held.map (·.1)).map af:=by
     rw[aE,aE];have e1:(e.1.held.zip ts).map (·.1)=e.1.held:=jb (by lia)
     conv=>rhs;rw[<-e1,aE]
     rfl
    refine⟨_,rfl,b,_,_,_,_,rfl,B.ob,T.cl,T.nA_held_of,vg z,_,rfl,_,.ref e.2,rfl,?_,_,rfl,e.2,_,e.1.held.map (·.1),rfl,.inl hd,To,by rw[ac];exact Rg,λl R5=>?_⟩
    ·have:=B.hh.dget x;rw[z8 _ he] at this;exact this
    ·refine⟨l,rfl,⟨_,SqL.of lJ⟩,λD hD=>?_⟩;have lD:l≠D:=lV lJ hD;have Vu:H D=none:=by rw[lG lD.symm] at hD;exact hD
     have hDp:e.2≠D:=lV hd Vu;refine Gs (J:=Itl K l) (srt (e.1.held.map (·.1))).length (λi ys H'=>Same H H'/\H' D=Za (.lst ys)/\H' l=Za (.lst ((srt (e.1.held.map (·.1))).map V.str))/\eU (PairAt K H') (((srt (e.1.held.map (·.1))).take i).map (mj e.1.held)) ys)
      ⟨?_,lJ,?_,.nil⟩ ?_ (λi ys H' r=>r.2.1) (λi ys H' hi r=>⟨_,.str ((srt (e.1.held.map (·.1)))[i]),SqL.of r.2.2.1,by simp[hi]⟩) ?_ ?_
     ·exact(rS R5).trans (rS hD)
     ·rw[lG lD,lJ]
     ·rw[vn,ac];exact aH (dM Rg) (by decide)
     ·rintro i ys Hx v H' hi ⟨s1,h1,h2,h3⟩ ⟨rfl,hy⟩ Kt Kf q1 q2
      have hv:=hy _ (SqL.of h2);have ev:v=.str ((srt (e.1.held.map (·.1)))[i]):=by rw[aC,au hi] at hv;exact(aO hv).symm
      subst ev;have R4:(srt (e.1.held.map (·.1)))[i]∈e.1.held.map (·.1):=(lQ _).mem_iff.mp (ce hi);obtain⟨q,f1,f2,f3,f4⟩:=HZ hl R4;have Ro:oo ((e.1.held.zip ts).map λq=>((af q.1.1:Key),V.ref q.2)) (af ((srt (e.1.held.map (·.1)))[i]))=Za (.ref q.2):=by rw[qt (key:=λq:(Str×Int×Int)×ak=>q.1.1),f1];rfl
      refine yesT ⟨_,rfl,_,rfl,_,rfl,e.2,.ref q.2,rfl,?_,(show 2<=aI by decide),λp hp=>?_⟩
      ·have:=DGet.k (k:=af ((srt (e.1.held.map (·.1)))[i])) (s1 _ _ hd);rw[Ro] at this;exact this
      ·have pD:D≠p:=lV h1 hp;have pl:l≠p:=lV h2 hp;refine q1 _ _ (by rw[lG pD];exact h1) ⟨?_,lJ,?_,?_⟩
       ·intro c o hc;rw[lG (λz=>by rw[z] at hc;rw[Vu] at hc;cases hc),lG (lV (s1 c o hc) hp)];exact s1 c o hc
       ·rw[lG lD,lG pl];exact h2
       ·have kp:∀c o,H' c=Za o->(∃xs,o=.tup xs\/∃ob,o=.frz ob (.tup xs))->(upd (upd H' p (.tup [.str ((srt (e.1.held.map (·.1)))[i]),.ref q.2])) D (.lst (ys++[.ref p]))) c=Za o:=λc o hc x=>by rw[KO (xs:=ys) (by rw[lG pD];exact h1) c o (by rw[lG (lV hc hp)];exact hc) x]
        have e5:((srt (e.1.held.map (·.1))).take (i+1)).map (mj e.1.held)=((srt (e.1.held.map (·.1))).take i).map (mj e.1.held)++[mj e.1.held ((srt (e.1.held.map (·.1)))[i])]:=by rw[dW,au hi,aw];rfl
        rw[e5];refine kg (eU.mapP h3 λq v hq=>hq.keep kp) ⟨p,q.2,rfl,?_,?_⟩
        ·refine SqT.of ?_;rw[lG pD.symm,lJ,f4]
        ·rw[<-f3];exact uN (hts q f2) λc o hc x=>kp c o (s1 c o hc) x
     ·rintro ys H' hy ⟨s1,h1,h2,h3⟩
      refine⟨⟨_,SqL.of h2,by rw[ac];exact ap _⟩,k1 D ys H' Vu s1 h1 ?_⟩;rw[gC] at h3;exact h3
  ·unfold oC at h;unfold nU;exact dY.mp h |> ee.mp
end
end My
namespace L2
open PySem PySem.Spec PyProof.Rows
section
variable{X:Cx}
def rEqT(K:aa):R2:=λx y H Q=>∃p q xs ys,x=.ref p/\y=.ref q/\SqT K H p xs/\SqT K H q ys/\xs.length=ys.length/\xs.all sP=true/\ys.all sP=true/\Q (.bl (Mf xs ys)) H
def Ob(hu:X.A.units<eR):OpR X (bS .Eq) (rEqT X.K):=by
 intro Pf s O H x y v u Q I rx ry h;obtain⟨p,q,xs,ys,rfl,rfl,hp,hq,hl,fx,fy,k⟩:=h;cases rx;cases ry;obtain⟨its,r,pl,_⟩:=I.tuple hp;obtain⟨Ql,r2,pl2,_⟩:=I.tuple hq;have e1:=r.length;have e2:=r2.length;refine SeqAt.eq_tupleAt pl pl2 hu (EX r r2 hl fx fy) ⟨.bl _,H,I,rfl,?_⟩;have e3:its.toArray.size=Ql.toArray.size:=by simp;lia
 rw[e3,Nat.min_self,beq_self_eq_true,Bool.and_true,aN,<-e2,<-hl,<-Ea hl];exact k
end
end L2
namespace My
open PySem L2 Fra
def D2(x y)(h:0<y):aD y (x%y)=aD x y:=by
 have e:x%y=x-(x/y)*y:=by rw[Int.emod_def,br]
 rw[e,Int.gcd_comm,Int.gcd_sub_mul_right_left]
def Jh(h:0<=x):(aD x 0:Int)=x:=by rw[Int.gcd_zero_right];lia
structure Sz(q:Int×Int):Prop where
 low:Low q
 bt:Bt 8900 q.1
 bb:Bt 8900 q.2
def FrAt(K:aa)(H:Hp)(p:ak)(q:Int×Int):Prop:=SqT K H p [.int q.1,.int q.2]
def FrAt.same{K}(h:FrAt K H p q)(s:Same H H'):FrAt K H' p q:=DD s h
section
variable{P:aK}{w:ba}{K:aa}{mg:Str->Option ai}{base:bx}{a:Adr}{f:ak}{fd:cq}
abbrev o8:bR:=top 16
def sc_common_divisor:FnScope ["number","other","rest"] ["number","other"] (lK o8):=fsc
def Fi:Sp:=λvs H Q _=>∃n m,vs=[.int n,.int m]/\0<m/\Q (.int (aD n m)) H
def Of(F:Fun K "common_divisor" "common_divisor" o8 f fd)(T:Txt K mg a):FnOk P w K mg base (CXo P w) 1 f fd ["number","other"] Fi:=by
 refine F.okN sc_common_divisor (λvs H Q E h=>?_) (λPo A outer s H vs Q E hr h=>?_)
 ·obtain⟨n,m,rfl,_⟩:=h;rfl
 ·obtain⟨n,m,rfl,hm,k⟩:=h;have hu:=nj hr;refine⟨_,(@lW _ _ _ _ _ (DM iN (@uR _ _ _ _ _ _ _ _ op_ne (pv 1) pe_int (uU _)) (@lW _ _ _ _ _ (@rT _ _ (2) _ _ _ _ sc_common_divisor.nd rfl (fA rfl) (@tf _ _ _ _ _ _ _ _ JV (pv 0) (pv 1)) (by rfl) (by first|exact .inl rfl|exact .inr rfl|assumption)) (@lW _ _ _ _ _ (@rT _ _ (0) _ _ _ _ sc_common_divisor.nd rfl (fA rfl) (pv 1) (by rfl) (by first|exact .inl rfl|exact .inr rfl|assumption)) (@ma _ _ _ (@rT _ _ (1) _ _ _ _ sc_common_divisor.nd rfl (fA rfl) (pv 2) (by rfl) (by first|exact .inl rfl|exact .inr rfl|assumption)))))) (@ma _ _ _ (@qp _ _ _ _ (pv 0)))),?_⟩;refine⟨λc O H'=>H'=H/\∃x y v,O=[Za (.int x),Za (.int y),v]/\0<=y/\c=y.toNat/\aD x y=aD n m/\(y=0->0<=x),⟨_,rfl,n,m,_,rfl,by lia,rfl,rfl,by lia⟩,?_⟩
  rintro c O H' ⟨rfl,x,y,v,rfl,hy,rfl,hg,hx⟩
  refine⟨_,rfl,rfl,_,rfl,uY (λh=>?_) (λh=>?_)⟩
  ·have RV:0<y:=by have:¬(V.int y=V.int 0):=of_decide_eq_false (nbT h);have:y≠0:=λz=>this (by rw[z]);lia
   refine⟨λσ' H''=>H''=H'/\∃v',σ'=[Za (.int y),Za (.int (x%y)),v'],?_,?_⟩
   ·rintro σ' H'' ⟨rfl,v',rfl⟩
    have m0:=dA x (show y≠0 by lia);have m1:=cN x RV;exact⟨(x%y).toNat,by lia,rfl,_,_,_,rfl,m0,rfl,(D2 x y RV).trans hg,λ_=>hy⟩
   ·exact⟨_,rfl,_,rfl,_,_,rfl,rfl,RV,_,rfl,_,rfl,rfl,_,rfl⟩
  ·have RV:y=0:=V.int.inj (Zf (nbF h));subst RV;refine⟨_,rfl,?_⟩;rw[Jh (hx rfl) |>.symm,hg];exact k
abbrev Fj:bR:=top 18
def sc_plus:FnScope ["first","second","common","top","shared"] ["first","second"] (lK Fj):=fsc
def yE(K:aa):Sp:=λvs H Q _=>∃p1 p2 q1 q2,vs=[.ref p1,.ref p2]/\FrAt K H p1 q1/\FrAt K H p2 q2/\Sz q1/\Sz q2/\∀x,H x=Zb->Q (.ref x) (upd H x (.tup [.int (nz q1 q2).1,.int (nz q1 q2).2]))
def LA(F:Fun K "plus" "plus" Fj f fd)(T:Txt K mg a)(PH:Fn P w K mg base "common_divisor" 1 ["number","other"] Fi):FnOk P w K mg base (CXo P w) 2 f fd ["first","second"] (yE K):=by
 refine F.okN sc_plus (λvs H Q E h=>?_) (λPo A outer s H vs Q E hr h=>?_)
 ·obtain⟨p1,p2,q1,q2,rfl,_⟩:=h;rfl
 ·obtain⟨p1,p2,⟨t1,b1⟩,⟨t2,b2⟩,rfl,h1,h2,s1,s2,k⟩:=h;have hu:=nj hr;refine⟨_,(@lW _ _ _ _ _ (@rT _ _ (2) _ _ _ _ sc_plus.nd rfl (fA rfl) (@vq _ _ _ _ _ _ _ _ _ _ _ PH (hr.mono (by first|decide|lia)) rfl rV (@lS _ _ _ _ _ (@rG _ _ _ _ _ _ _ ix_tup (pv 0) pe_int (λ_ _=>rfl)) (@lS _ _ _ _ _ (@rG _ _ _ _ _ _ _ ix_tup (pv 1) pe_int (λ_ _=>rfl)) pa_nil (by rfl)) (by rfl)) (by decide) (by rfl) (by rfl)) (by rfl) (by first|exact .inl rfl|exact .inr rfl|assumption)) (@lW _ _ _ _ _ (@rT _ _ (3) _ _ _ _ sc_plus.nd rfl (fA rfl) (@tf _ _ _ _ _ _ _ _ op_add (@tf _ _ _ _ _ _ _ _ op_mulB (@rG _ _ _ _ _ _ _ ix_tup (pv 0) pe_int (λ_ _=>rfl)) (@tf _ _ _ _ _ _ _ _ rW (@rG _ _ _ _ _ _ _ ix_tup (pv 1) pe_int (λ_ _=>rfl)) (pv 2))) (@tf _ _ _ _ _ _ _ _ op_mulB (@rG _ _ _ _ _ _ _ ix_tup (pv 1) pe_int (λ_ _=>rfl)) (@tf _ _ _ _ _ _ _ _ rW (@rG _ _ _ _ _ _ _ ix_tup (pv 0) pe_int (λ_ _=>rfl)) (pv 2)))) (by rfl) (by first|exact .inl rfl|exact .inr rfl|assumption)) (@lW _ _ _ _ _ (@rT _ _ (4) _ _ _ _ sc_plus.nd rfl (fA rfl) (@vq _ _ _ _ _ _ _ _ _ _ _ PH (hr.mono (by first|decide|lia)) rfl rV (@lS _ _ _ _ _ (pv 3) (@lS _ _ _ _ _ (pv 2) pa_nil (by rfl)) (by rfl)) (by decide) (by rfl) (by rfl)) (by rfl) (by first|exact .inl rfl|exact .inr rfl|assumption)) (@ma _ _ _ (@qp _ _ _ _ (@vO _ _ _ _ _ (@lS _ _ _ _ _ (@tf _ _ _ _ _ _ _ _ rW (pv 3) (pv 4)) (@lS _ _ _ _ _ (@tf _ _ _ _ _ _ _ _ op_mulB (@tf _ _ _ _ _ _ _ _ rW (@rG _ _ _ _ _ _ _ ix_tup (pv 0) pe_int (λ_ _=>rfl)) (pv 2)) (@tf _ _ _ _ _ _ _ _ rW (@rG _ _ _ _ _ _ _ ix_tup (pv 1) pe_int (λ_ _=>rfl)) (pv 4))) pa_nil (by rfl)) (by rfl)))))))),?_⟩;rw[<-MP s1.low s2.low] at k;have b10:0<b1:=s1.low.1;have b20:0<b2:=s2.low.1;have hd:0<aD b1 b2:=bH _ (by lia);have Tv:(0:Int)<(aD b1 b2:Int):=by lia
  have bd:Bt 8900 (aD b1 b2:Int):=s1.bb.dvd (show b1≠0 by lia) (fJ ..);have ld:=(bd.mono (by decide)).log Tv;refine⟨_,rfl,p1,_,1,_,rfl,rfl,h1,mO (j:=1) rfl,_,rfl,p2,_,1,_,rfl,rfl,h2,mO (j:=1) rfl,b1,b2,rfl,b20,?_⟩;refine⟨_,rfl,p1,_,0,_,rfl,rfl,h1,mO (j:=0) rfl,_,rfl,p2,_,1,_,rfl,rfl,h2,mO (j:=1) rfl,_,rfl,_,_,rfl,rfl,⟨Tv,ld⟩,_,_,rfl,rfl,⟨s1.bt.mono (by decide),(s2.bb.div).mono (by decide)⟩,?_⟩;refine⟨_,rfl,p2,_,0,_,rfl,rfl,h2,mO (j:=0) rfl,_,rfl,p1,_,1,_,rfl,rfl,h1,mO (j:=1) rfl,_,rfl,_,_,rfl,rfl,⟨Tv,ld⟩,_,_,rfl,rfl,⟨s2.bt.mono (by decide),(s1.bb.div).mono (by decide)⟩,_,_,rfl,rfl,?_⟩;have he:0<aD (t1*(b2/(aD b1 b2:Int))+t2*(b1/(aD b1 b2:Int))) (aD b1 b2:Int):=bH _ (by lia);have Vi:(0:Int)<(aD (t1*(b2/(aD b1 b2:Int))+t2*(b1/(aD b1 b2:Int))) (aD b1 b2:Int):Int):=by lia
  have be:Bt 8900 (aD (t1*(b2/(aD b1 b2:Int))+t2*(b1/(aD b1 b2:Int))) (aD b1 b2:Int):Int):=bd.dvd (by lia) (cm ..);have le:=(be.mono (by decide)).log Vi;refine⟨_,rfl,_,rfl,_,_,rfl,Tv,?_⟩;refine⟨_,rfl,_,rfl,_,_,rfl,rfl,⟨Vi,le⟩,_,rfl,p1,_,1,_,rfl,rfl,h1,mO (j:=1) rfl,_,rfl,_,_,rfl,rfl,⟨Tv,ld⟩,_,rfl,p2,_,1,_,rfl,rfl,h2,mO (j:=1) rfl,_,rfl,_,_,rfl,rfl,⟨Vi,le⟩,_,_,rfl,rfl,⟨(s1.bb.div).mono (by decide),(s2.bb.div).mono (by decide)⟩,(show 2<=aI by decide),λx hx=>?_⟩;exact k x hx
abbrev Cr:bR:=top 19
def Ip:FnScope ["first","second"] ["first","second"] (lK Cr):=fsc
def Dw(K:aa):Sp:=λvs H Q _=>∃p1 p2 q1 q2,vs=[.ref p1,.ref p2]/\FrAt K H p1 q1/\FrAt K H p2 q2/\Sz q1/\Sz q2/\∀x H',H x=Zb->Same H H'->H' x=Za (.tup [.int (nz q1 (-q2.1,q2.2)).1,.int (nz q1 (-q2.1,q2.2)).2])->Q (.ref x) H'
theorem Sz.neg(h:Sz q):Sz (-q.1,q.2):=⟨⟨h.low.1,by have:=h.low.2;unfold Cop aD at *;simp only[iy];exact this⟩,h.bt.neg,h.bb⟩
def IK(F:Fun K "minus" "minus" Cr f fd)(T:Txt K mg a)(QE:Fn P w K mg base "plus" 2 ["first","second"] (yE K)):FnOk P w K mg base (CXo P w) 3 f fd ["first","second"] (Dw K):=by
 refine F.okN Ip (λvs H Q E h=>?_) (λPo A outer s H vs Q E hr h=>?_)
 ·obtain⟨p1,p2,q1,q2,rfl,_⟩:=h;rfl
 ·obtain⟨p1,p2,⟨t1,b1⟩,⟨t2,b2⟩,rfl,h1,h2,s1,s2,k⟩:=h;have hu:=nj hr;refine⟨_,(@ma _ _ _ (@qp _ _ _ _ (@vq _ _ _ _ _ _ _ _ _ _ _ QE (hr.mono (by first|decide|lia)) rfl rV (@lS _ _ _ _ _ (pv 0) (@lS _ _ _ _ _ (@vO _ _ _ _ _ (@lS _ _ _ _ _ (@M8 _ _ _ _ _ _ JB (@rG _ _ _ _ _ _ _ ix_tup (pv 1) pe_int (λ_ _=>rfl))) (@lS _ _ _ _ _ (@rG _ _ _ _ _ _ _ ix_tup (pv 1) pe_int (λ_ _=>rfl)) pa_nil (by rfl)) (by rfl))) pa_nil (by rfl)) (by rfl)) (by decide) (by rfl) (by rfl)))),?_⟩;refine⟨_,rfl,_,rfl,p2,_,0,_,rfl,rfl,h2,mO (j:=0) rfl,_,rfl,_,rfl,p2,_,1,_,rfl,rfl,h2,mO (j:=1) rfl,(show 2<=aI by decide),λy hy=>?_⟩;have sy:=rS (o:=.tup [.int (-t2),.int b2]) hy;refine⟨p1,y,(t1,b1),(-t2,b2),rfl,h1.same sy,SqT.of lJ,s1,s2.neg,λx hx=>?_⟩;refine k x _ (sy.free hx) (sy.trans (rS hx)) lJ
abbrev vp:bR:=top 20
def Db:FnScope ["first","second"] ["first","second"] (lK vp):=fsc
def Dy(K:aa):Sp:=λvs H Q _=>∃p1 p2 q1 q2,vs=[.ref p1,.ref p2]/\FrAt K H p1 q1/\FrAt K H p2 q2/\Sz q1/\Sz q2/\Q (.bl (decide (q1.1*q2.2>q2.1*q1.2))) H
def IM(F:Fun K "is_above" "is_above" vp f fd)(T:Txt K mg a):FnOk P w K mg base (CXo P w) 1 f fd ["first","second"] (Dy K):=by
 refine F.okN Db (λvs H Q E h=>?_) (λPo A outer s H vs Q E hr h=>?_)
 ·obtain⟨p1,p2,q1,q2,rfl,_⟩:=h;rfl
 ·obtain⟨p1,p2,⟨t1,b1⟩,⟨t2,b2⟩,rfl,h1,h2,s1,s2,k⟩:=h;have hu:=nj hr;refine⟨_,(@ma _ _ _ (@qp _ _ _ _ (@FW _ _ _ _ _ _ _ _ Nc (@tf _ _ _ _ _ _ _ _ op_mulB (@rG _ _ _ _ _ _ _ ix_tup (pv 0) pe_int (λ_ _=>rfl)) (@rG _ _ _ _ _ _ _ ix_tup (pv 1) pe_int (λ_ _=>rfl))) (@tf _ _ _ _ _ _ _ _ op_mulB (@rG _ _ _ _ _ _ _ ix_tup (pv 1) pe_int (λ_ _=>rfl)) (@rG _ _ _ _ _ _ _ ix_tup (pv 0) pe_int (λ_ _=>rfl))) (uU _)))),?_⟩;refine⟨_,rfl,p1,_,0,_,rfl,rfl,h1,mO (j:=0) rfl,_,rfl,p2,_,1,_,rfl,rfl,h2,mO (j:=1) rfl,_,_,rfl,rfl,⟨s1.bt.mono (by decide),s2.bb.mono (by decide)⟩,_,rfl,p2,_,0,_,rfl,rfl,h2,mO (j:=0) rfl,_,rfl,p1,_,1,_,rfl,rfl,h1,mO (j:=1) rfl,_,_,rfl,rfl,⟨s2.bt.mono (by decide),s1.bb.mono (by decide)⟩,_,_,rfl,rfl,?_⟩;exact k
end
structure Two(q1 q2:Int×Int):Prop where
 p1:0<q1.2
 p2:0<q2.2
 t1:Bt 9000 q1.1
 t2:Bt 9000 q2.1
 b1:Bt 9000 q1.2
 b2:Bt 9000 q2.2
 bb:Bt 9000 (q1.2*q2.2)
abbrev Hl:=List (Str×Int×Int)
def lT(l:Hl)(n:Str):Int×Int:=(mj l n).2
def nu(l:Hl)(n:Str)(q:Int×Int):Hl:=if(l.any λx=>decide (x.1=n))=true then l.map (λx=>if x.1=n then(n,q) else x) else l++[(n,q)]
def mW(l:Hl)(n:Str):Hl:=l.filter λx=>decide (x.1≠n)
def HeldZ(K:aa)(H:Hp)(p:ak)(l:Hl)(z:List ((Str×Int×Int)×ak)):Prop :=
 z.map (·.1)=l/\H p=Za (.dK (z.map λq=>(af q.1.1,V.ref q.2)))/\∀q∈z,FrAt K H q.2 q.1.2
def HeldAt.toZ{K}(h:HeldAt K H p l):∃z,HeldZ K H p l z:=by obtain⟨ts,hl,hd,ht⟩:=h;exact⟨l.zip ts,jb (by lia),hd,ht⟩
theorem wK:∀z:List (α×β),(z.map (·.1)).zip (z.map (·.2))=z
 |[]=>rfl
 |x::r=>congrArg (x::·) (wK r)
def HeldZ.held{K}(h:HeldZ K H p l z):HeldAt K H p l:=by
 obtain⟨rfl,hd,ht⟩:=h;refine⟨z.map (·.2),by rw[ac,ac],?_,?_⟩
 ·rw[wK];exact hd
 ·rw[wK];exact ht
def CY{K}(hp:H p=Za (.dK kvs))(h:FrAt K H x q):FrAt K (upd H p o) x q :=
 uN h λc u e y=>by rw[lG (CT e hp (by rcases y with⟨xs,rfl|⟨ob,rfl⟩⟩<;>intro z<;>cases z))];exact e
def HeldZ.val{K}(h:HeldZ K H p l z)(n) :
  (n∉l.map (·.1)/\oo (z.map λq=>((af q.1.1:Key),V.ref q.2)) (af n)=Zb/\lT l n=(0,1))\/(n∈l.map (·.1)/\∃x,oo (z.map λq=>((af q.1.1:Key),V.ref q.2)) (af n)=Za (.ref x)/\FrAt K H x (lT l n)):=by
 obtain⟨rfl,hd,ht⟩:=h;rw[qt (key:=λq:(Str×Int×Int)×ak=>q.1.1)];unfold lT mj;rw[fg];have e:((λq:Str×Int×Int=>decide (q.1=n))∘λx:(Str×Int×Int)×ak=>x.1)=λx=>decide (x.1.1=n):=rfl;rw[e];cases hf:z.find? (λx=>decide (x.1.1=n)) with
 |none =>
  left;refine⟨λhn=>?_,rfl,rfl⟩;rw[cy] at hf;rw[aE] at hn;obtain⟨q,hq,e2⟩:=aj.mp hn;exact hf q hq (Zg e2)
 |some q =>
  right;have hq:=eI hf;refine⟨?_,q.2,rfl,ht q hq⟩;rw[aE];exact aj.mpr ⟨q,hq,by simpa using eP hf⟩
def HeldZ.put{K}(h:HeldZ K H p l z)(hx:FrAt K H x q) :
  ∃z',HeldZ K (upd H p (.dK (pA (z.map λq=>((af q.1.1:Key),V.ref q.2)) (af n) (.ref x)))) p (nu l n q) z':=by
 obtain⟨rfl,hd,ht⟩:=h;refine⟨if(z.any λy=>decide (y.1.1=n))=true then z.map (λy=>if y.1.1=n then((n,q),x) else y) else z++[((n,q),x)],?_,?_,?_⟩
 ·unfold nu;rw[gN];by_cases hb:(z.any λy=>decide (y.1.1=n))=true
  ·rw[Zc hb,Zc (by exact hb),aE,aE];refine aV λy _=>?_;show(if y.1.1=n then((n,q),x) else y).1=if y.1.1=n then(n,q) else y.1
   by_cases e:y.1.1=n
   ·rw[Zc e,Zc e]
   ·rw[Zd e,Zd e]
  ·rw[Zd hb,Zd (by exact hb),aw];rfl
 ·rw[lJ];unfold pA;rw[gN];have eb:((λkv:Key×V=>decide (kv.1=af n))∘λq:(Str×Int×Int)×ak=>((af q.1.1:Key),V.ref q.2))=λy=>decide (y.1.1=n):=by
   funext y
   show decide ((af y.1.1:Key)=af n)=_;rw[Aw]
  rw[eb];by_cases hb:(z.any λy=>decide (y.1.1=n))=true
  ·rw[Zc hb,Zc hb,aE,aE]
   congr 2
   refine aV λy _=>?_;show(if(af y.1.1:Key)=af n then((af y.1.1:Key),V.ref x) else((af y.1.1:Key),V.ref y.2))=((af (if y.1.1=n then((n,q),x) else y).1.1:Key),V.ref (if y.1.1=n then((n,q),x) else y).2);by_cases e:y.1.1=n
   ·rw[Zc (by rw[e]),Zc e,e]
   ·rw[Zd (λw=>e (cM w)),Zd e]
  ·rw[Zd hb,Zd hb,aw];rfl
 ·intro y hy;refine CY hd ?_;by_cases hb:(z.any λy=>decide (y.1.1=n))=true
  ·rw[Zc hb] at hy;obtain⟨u,hu,rfl⟩:=aj.mp hy;by_cases e:u.1.1=n
   ·rw[Zc e];exact hx
   ·rw[Zd e];exact ht u hu
  ·rw[Zd hb] at hy;rcases aL.mp hy with hy|hy
   ·exact ht y hy
   ·rw[ao.mp hy];exact hx
def HeldZ.drop{K}(h:HeldZ K H p l z) :
  ∃z',HeldZ K (upd H p (.dK (xV (z.map λq=>((af q.1.1:Key),V.ref q.2)) (af n)))) p (mW l n) z':=by
 obtain⟨rfl,hd,ht⟩:=h;refine⟨z.filter (λy=>decide (y.1.1≠n)),?_,?_,λy hy=>CY hd (ht y (bw.mp hy).1)⟩
 ·unfold mW;rw[fO];rfl
 ·rw[lJ];unfold xV;rw[fO];have eb:((λkv:Key×V=>decide (kv.1≠af n))∘λq:(Str×Int×Int)×ak=>((af q.1.1:Key),V.ref q.2))=λy=>decide (y.1.1≠n):=by
   funext y
   show decide ((af y.1.1:Key)≠af n)=_;rw[bU,decide_eq_true_iff,decide_eq_true_iff];exact⟨λh w=>h (by rw[w]),λh w=>h (cM w)⟩
  rw[eb]
def Hu(l)(n):mj l n=(n,lT l n):=by
 unfold lT mj;cases h:l.find? λq=>decide (q.1=n) with
 |none=>rfl
 |some q =>
  have:q.1=n:=by simpa using eP h
  show q=(n,q.2);rw[<-this]
def mQ(l)(n m)(q):lT (nu l n q) m=if m=n then q else lT l m:=by
 unfold lT mj nu;by_cases hb:(l.any λx=>decide (x.1=n))=true
 ·rw[Zc hb];induction l with
  |nil=>cases hb
  |cons x r ih =>
   rw[am,bG,bG];by_cases e:x.1=n
   ·rw[Zc e];by_cases em:m=n
    ·subst em;rw[Zc rfl,Zg (show m=m from rfl)];rfl
    ·rw[Zd em];have e1:decide ((n,q).1=m)=false:=Zh λz=>em z.symm;have e2:decide (x.1=m)=false:=Zh λz=>em (z.symm.trans e);rw[e1,e2];by_cases hr:(r.any λx=>decide (x.1=n))=true
     ·have:=ih hr;rw[Zd em] at this;exact this
     ·have er:r.map (λx=>if x.1=n then(n,q) else x)=r:=by
       conv=>rhs;rw[<-jf r]
       refine aV λy hy=>Zd λz=>hr (cL.mpr ⟨y,hy,Zg z⟩)
      show(Option.getD ((r.map λx=>if x.1=n then(n,q) else x).find? λq=>decide (q.1=m)) (m,0,1)).2=_;rw[er]
   ·rw[Zd e];have hr:(r.any λx=>decide (x.1=n))=true:=by rw[cO,Zh e,jS] at hb;exact hb
    by_cases em:x.1=m
    ·rw[Zg em];have:¬m=n:=λz=>e (em.trans z);rw[Zd this]
    ·rw[Zh em];exact ih hr
 ·rw[Zd hb,iX];by_cases em:m=n
  ·subst em;rw[Zc rfl];have:l.find? (λq=>decide (q.1=m))=none:=by rw[cy];intro x hx z;exact hb (cL.mpr ⟨x,hx,z⟩)
   rw[this,Option.none_or,bG,Zg (show(m,q).1=m from rfl)];rfl
  ·rw[Zd em];have:[(n,q)].find? (λq=>decide (q.1=m))=none:=by rw[bG,Zh (show ¬(n,q).1=m from λz=>em z.symm)];rfl
   rw[this,Option.or_none]
def pN(l)(n m):lT (mW l n) m=if m=n then(0,1) else lT l m:=by
 unfold lT mj mW;rw[List.find?_filter];by_cases em:m=n
 ·subst em;rw[Zc rfl];have:l.find? (λa=>decide (decide (a.1≠m)=true/\decide (a.1=m)=true))=none:=by rw[cy];intro x hx z;have z:=Zf z;exact Zf z.1 (Zf z.2)
  rw[this];rfl
 ·rw[Zd em];have:(λa:Str×Int×Int=>decide (decide (a.1≠n)=true/\decide (a.1=m)=true))=λa=>decide (a.1=m):=by
   funext x
   rw[bU];simp only[decide_eq_true_iff];exact⟨λh=>h.2,λh=>⟨λz=>em (h.symm.trans z),h⟩⟩
  rw[this]
def mZ(l)(n)(q):(nu l n q).map (·.1)=if n∈l.map (·.1) then l.map (·.1) else l.map (·.1)++[n]:=by
 unfold nu;by_cases hb:(l.any λx=>decide (x.1=n))=true
 ·have:n∈l.map (·.1):=by obtain⟨x,hx,e⟩:=cL.mp hb;exact aj.mpr ⟨x,hx,Zf e⟩
  rw[Zc hb,Zc this,aE];refine aV λx _=>?_;show(if x.1=n then(n,q) else x).1=x.1;by_cases e:x.1=n
  ·rw[Zc e,e]
  ·rw[Zd e]
 ·have:¬n∈l.map (·.1):=λz=>by obtain⟨x,hx,e⟩:=aj.mp z;exact hb (cL.mpr ⟨x,hx,Zg e⟩)
  rw[Zd hb,Zd this,aw];rfl
def vP(n)(q)(h:(l.map (·.1)).Nodup):((nu l n q).map (·.1)).Nodup:=by
 rw[mZ];by_cases hn:n∈l.map (·.1)
 ·rw[Zc hn];exact h
 ·rw[Zd hn];exact wB h hn
def yT(l)(n):(mW l n).map (·.1)=(l.map (·.1)).filter λx=>decide (x≠n):=by unfold mW;rw[fO];rfl
def Cw(n)(h:(l.map (·.1)).Nodup):((mW l n).map (·.1)).Nodup:=by rw[yT];exact h.filter _
def F4(l)(n)(q):(nu l n q).length<=l.length+1:=by
 have:=congrArg b7 (mZ l n q);rw[ac] at this;rw[this];split
 ·rw[ac];lia
 ·rw[aJ,ac];exact ap _
def DV(l)(n):(mW l n).length<=l.length:=fB _ _
def sold(l:Hl)(o1 o2:Str)(q:Int×Int):Hl :=
 let r:=nz (lT l o1) (-q.1,q.2);let l1:=if r=(0,1) then mW l o1 else nu l o1 r
 nu l1 o2 (nz (lT l1 o2) q)
def HQ(l:Hl)(o1 o2:Str)(q:Int×Int):Hl :=
 let l1:=nu l o1 (nz (lT l o1) (-q.1,q.2))
 nu l1 o2 (nz (lT l1 o2) q)
def uO{β:Type}(L:List (Ent×β))(h:Str)(g:Ent->Ent):List (Ent×β):=L.map λx=>if x.1.nm=h then(g x.1,x.2) else x
def nq(v:Ent×β->γ)(hv:∀x,v (g x.1,x.2)=v x):(uO L h g).map v=L.map v:=by
 unfold uO;rw[aE];refine aV λx _=>?_;show v (if x.1.nm=h then(g x.1,x.2) else x)=v x;by_cases e:x.1.nm=h
 ·rw[Zc e,hv]
 ·rw[Zd e]
def Dz(hy:y∈uO L h g):∃x∈L,(x.1.nm=h/\y=(g x.1,x.2))\/(¬x.1.nm=h/\y=x):=by
 unfold uO at hy;obtain⟨x,hx,rfl⟩:=aj.mp hy;refine⟨x,hx,?_⟩;by_cases e:x.1.nm=h
 ·rw[Zc e];exact .inl ⟨e,rfl⟩
 ·rw[Zd e];exact .inr ⟨e,rfl⟩
theorem Fp:∀{l:List α}{x y:α},(l.map key).Nodup->x∈l->y∈l->key x=key y->x=y
 |[],_,_,_,hx,_,_=>by cases hx
 |z::r,x,y,h,hx,hy,e=>by
  obtain⟨h1,h2⟩:=ay.mp h;rcases ah.mp hx with ex|QW
  ·rcases ah.mp hy with ey|S7
   ·exact ex.trans ey.symm
   ·rw[ex] at e;exact absurd (aj.mpr ⟨y,S7,e.symm⟩) h1
  ·rcases ah.mp hy with ey|S7
   ·rw[ey] at e;exact absurd (aj.mpr ⟨x,QW,e⟩) h1
   ·exact Fp h2 QW S7 e
def DX(he:nU L h=Za e):e.1.nm=h:=by unfold nU at he;simpa using eP he
def Hw(nd:(L.map (·.1.nm)).Nodup)(he:nU L h=Za e)(hx:x∈L)(hn:x.1.nm=h):x=e :=
 Fp (key:=λx:Ent×ak=>x.1.nm) nd hx (rN he) (hn.trans (DX he).symm)
def BookAt.reheld{K:aa}(B:BookAt K C H b z Pi L)(nd:(L.map (·.1.nm)).Nodup)(he:nU L h=Za e)(hg:∀x,g x={ x with held:=(g x).held })(hH:HeldAt K H' e.2 (g e.1).held)(kp:∀c o,H c=Za o->c≠e.2->H' c=Za o):BookAt K C H' b z Pi (uO L h g):=by
 have Ts:=rN he;have e2:e.2∈L.map (·.2):=aj.mpr ⟨e,Ts,rfl⟩;obtain⟨n1,r1⟩:=ay.mp B.nd;obtain⟨n2,r2⟩:=ay.mp r1;obtain⟨n3,r3⟩:=ay.mp r2;obtain⟨n4,r4⟩:=ay.mp r3;obtain⟨n5,r5⟩:=ay.mp r4;obtain⟨n6,r6⟩:=ay.mp r5;have g1:∀x,(g x).nm=x.nm:=λx=>by rw[hg x]
 have g2:∀x,(g x).th=x.th:=λx=>by rw[hg x]
 have g3:∀x,(g x).mr=x.mr:=λx=>by rw[hg x]
 have g4:∀x,(g x).ls=x.ls:=λx=>by rw[hg x]
 refine⟨kp _ _ B.ob λq=>n1 (q▸by simp only[ah];right;right;right;right;right;exact e2),kp _ _ B.pp λq=>n2 (q▸by simp only[ah];right;right;right;right;exact e2),?_,?_,?_,?_,?_,?_,B.p6,by unfold uO;rw[ac];exact B.h8⟩
 ·rw[nq (v:=λe=>((af e.1.nm:Key),V.int e.1.th)) λx=>by rw[g1,g2]];exact kp _ _ B.tt λq=>n3 (q▸by simp only[ah];right;right;right;exact e2)
 ·rw[nq (v:=λe=>((af e.1.nm:Key),V.int e.1.mr)) λx=>by rw[g1,g3]];exact kp _ _ B.mm λq=>n4 (q▸by simp only[ah];right;right;exact e2)
 ·rw[nq (v:=λe=>((af e.1.nm:Key),V.int e.1.ls)) λx=>by rw[g1,g4]];exact kp _ _ B.ll λq=>n5 (q▸by simp only[ah];right;exact e2)
 ·rw[nq (v:=λe=>((af e.1.nm:Key),V.ref e.2)) λx=>by rw[g1]];exact B.hh.keep λo h=>kp _ _ h λq=>n6 (q▸e2)
 ·intro y hy;obtain⟨x,hx,⟨hn,rfl⟩|⟨hn,rfl⟩⟩:=Dz hy
  ·rw[Hw nd he hx hn];exact hH
  ·have hy2:y.2≠e.2:=λq=>hn (by rw[Fp (key:=λx:Ent×ak=>x.2) r6 hx Ts q];exact DX he);obtain⟨kvs,hk⟩:∃kvs,H e.2=Za (.dK kvs):=by obtain⟨ts,_,q,_⟩:=B.he e Ts;exact⟨_,q⟩
   refine(B.he y hx).keep (λo ho=>kp _ _ ho hy2) λc o ho x=>kp c o ho λq=>?_;rw[q,hk] at ho;cases ho;rcases x with⟨xs,z|⟨ob,z⟩⟩<;>cases z
 ·rw[nq (v:=λe=>e.2) λx=>rfl];exact B.nd
def BookAt.renum{K:aa}(B:BookAt K C H b z Pi L)(hd:d=z.dt\/d=z.dm\/d=z.dl)(g1:∀x,(g x).nm=x.nm)(g2:∀x,(g x).held=x.held)(tt:H' z.dt=Za (.dK ((uO L h g).map λe=>(af e.1.nm,.int e.1.th))))(mm:H' z.dm=Za (.dK ((uO L h g).map λe=>(af e.1.nm,.int e.1.mr))))(ll:H' z.dl=Za (.dK ((uO L h g).map λe=>(af e.1.nm,.int e.1.ls))))(kp:∀c o,H c=Za o->c≠d->H' c=Za o):BookAt K C H' b z Pi (uO L h g):=by
 obtain⟨n1,r1⟩:=ay.mp B.nd;obtain⟨n2,r2⟩:=ay.mp r1;obtain⟨n3,r3⟩:=ay.mp r2;obtain⟨n4,r4⟩:=ay.mp r3;obtain⟨n5,r5⟩:=ay.mp r4;obtain⟨n6,r6⟩:=ay.mp r5;obtain⟨kvs,hk⟩:∃kvs,H d=Za (.dK kvs):=by
  rcases hd with rfl|rfl|rfl
  ·exact⟨_,B.tt⟩
  ·exact⟨_,B.mm⟩
  ·exact⟨_,B.ll⟩
 refine⟨kp _ _ B.ob λq=>n1 ?_,kp _ _ B.pp λq=>n2 ?_,tt,mm,ll,?_,?_,?_,B.p6,by unfold uO;rw[ac];exact B.h8⟩
 ·rcases hd with e|e|e<;>(rw[q,e];simp)
 ·rcases hd with e|e|e<;>(rw[q,e];simp)
 ·rw[nq (v:=λe=>((af e.1.nm:Key),V.ref e.2)) λx=>by rw[g1]];refine B.hh.keep λo h=>kp _ _ h λq=>?_;rcases hd with e|e|e
  ·exact n3 (by rw[<-e,<-q];simp)
  ·exact n4 (by rw[<-e,<-q];simp)
  ·exact n5 (by rw[<-e,<-q];simp)
 ·intro y hy;have:∃x∈L,x.2=y.2/\x.1.held=y.1.held:=by
   obtain⟨x,hx,⟨hn,rfl⟩|⟨hn,rfl⟩⟩:=Dz hy
   ·exact⟨x,hx,rfl,(g2 _).symm⟩
   ·exact⟨y,hx,rfl,rfl⟩
  obtain⟨x,hx,e1,e2⟩:=this;rw[<-e1,<-e2];have UY:x.2∈L.map (·.2):=aj.mpr ⟨x,hx,rfl⟩;refine(B.he x hx).keep (λo ho=>kp _ _ ho λq=>?_) λc o ho w=>kp c o ho λq=>?_
  ·rcases hd with e|e|e
   ·exact n3 (by rw[<-e,<-q];simp only[ah];right;right;right;exact UY)
   ·exact n4 (by rw[<-e,<-q];simp only[ah];right;right;exact UY)
   ·exact n5 (by rw[<-e,<-q];simp only[ah];right;exact UY)
  ·rw[q,hk] at ho;cases ho;rcases w with⟨xs,z|⟨ob,z⟩⟩<;>cases z
 ·rw[nq (v:=λe=>e.2) λx=>rfl];exact B.nd
def BookAt.ne{K}(B:BookAt K C H b z Pi L):z.dt≠z.dm/\z.dt≠z.dl/\z.dm≠z.dl:=by obtain⟨n1,r1⟩:=ay.mp B.nd;obtain⟨n2,r2⟩:=ay.mp r1;obtain⟨n3,r3⟩:=ay.mp r2;obtain⟨n4,r4⟩:=ay.mp r3;exact⟨λq=>n3 (by rw[q];simp),λq=>n3 (by rw[q];simp),λq=>n4 (by rw[q];simp)⟩
def Cs(v:Ent->Int)(hh:oC L h=true)(g1:∀x,(g x).nm=x.nm)(hv:∀x,v (g x)=n) :
  pA (L.map λe=>((af e.1.nm:Key),V.int (v e.1))) (af h) (.int n)=(uO L h g).map λe=>((af e.1.nm:Key),V.int (v e.1)):=by
 have hs:(oo (L.map λe=>((af e.1.nm:Key),V.int (v e.1))) (af h)).isSome=true:=by rw[qt (key:=λe:Ent×ak=>e.1.nm),ci];exact hh
 unfold pA;rw[vY,Zc hs];unfold uO;rw[aE,aE];refine aV λx _=>?_;show(if(af x.1.nm:Key)=af h then((af x.1.nm:Key),V.int n) else((af x.1.nm:Key),V.int (v x.1)))=((af (if x.1.nm=h then(g x.1,x.2) else x).1.nm:Key),V.int (v (if x.1.nm=h then(g x.1,x.2) else x).1));by_cases e:x.1.nm=h
 ·rw[Zc (by rw[e]),Zc e,g1,hv]
 ·rw[Zd (λw=>e (cM w)),Zd e]
section
variable{P:aK}{w:ba}{K:aa}{mg:Str->Option ai}{base:bx}{a:Adr}{f:ak}{fd:cq}
def vM(K:aa)(a:Adr)(ad:BA->ak)(g:Int->Ent->Ent)(neg:Bool):Sp:=λvs H Q E=>∃b z Pi L h n,vs=[.ref b,.str h,.int n]/\BookAt K a.Book H b z Pi L/\Nm h /\
 (oC L h=false->E (.ref a.NoHouse) Zb H)/\(oC L h=true->neg=true->n<0->E (.ref a.NoLoss) Zb H) /\
 (oC L h=true->(neg=true->0<=n)->∀H',BookAt K a.Book H' b z Pi (uO L h (g n))->(∀c o,H c=Za o->c≠ad z->H' c=Za o)->Q .non H')
abbrev qX:bR:=mV (top 27) 9
def yp:FnScope ["self","house","number"] ["self","house","number"] (lK qX):=fsc
def G6(F:Fun K "things" "Book.things" qX f fd)(T:Txt K mg a)(Pj:Mt P w K mg base a.Book "need_house" 2 ["self","name"] (mS K a)):FnOk P w K mg base (CXo P w) 3 f fd ["self","house","number"] (vM K a (·.dt) (λn x=>{ x with th:=n }) false):=by
 refine F.okX yp (λvs H Q E h=>?_) (λPo A outer s H vs Q E hr h=>?_)
 ·obtain⟨b,z,Pi,L,h,n,rfl,_⟩:=h;rfl
 ·obtain⟨b,z,Pi,L,h,n,rfl,B,nm,k1,k2,k3⟩:=h;have hu:=nj hr;refine⟨_,(@lW _ _ _ _ _ (@nN _ _ _ _ (qu (pv 0) Pj (hr.mono (by first|decide|omega)) nS (@lS _ _ _ _ _ (pv 1) pa_nil (by rfl))) (by rfl)) (@ma _ _ _ (pb hu (nJ (pv 0) rfl) (pv 1) (pv 2) rfl))),?_⟩;refine⟨_,rfl,b,_,_,rfl,B.ob,qN z,_,rfl,b,z,Pi,L,h,rfl,B,nm,λhh=>?_,λhh=>k1 hh⟩;refine⟨_,rfl,_,rfl,b,_,_,_,_,rfl,B.ob,T.cl,T.nA_things_of,xm z,_,rfl,z.dt,_,rfl,DPut.k (k:=af h) B.tt ?_,?_⟩
  ·rw[ac];exact aQ B.h8 (by decide)
  ·have hb:=B.renum (h:=h) (g:=λx=>{ x with th:=n }) (H':=upd H z.dt (.dK (pA (L.map λe=>((af e.1.nm:Key),V.int e.1.th)) (af h) (.int n)))) (.inl rfl) (λ_=>rfl) (λ_=>rfl) ?_ ?_ ?_ (λc o hc hn=>by rw[lG hn];exact hc)
   ·exact k3 hh (λz=>by cases z) _ hb λc o hc hn=>by rw[lG hn];exact hc
   ·rw[lJ,Cs (g:=λx=>{ x with th:=n }) (λx=>x.th) hh (λ_=>rfl) (λ_=>rfl)]
   ·rw[lG (B.ne.1.symm),nq (v:=λe=>((af e.1.nm:Key),V.int e.1.mr)) λx=>rfl];exact B.mm
   ·rw[lG (B.ne.2.1.symm),nq (v:=λe=>((af e.1.nm:Key),V.int e.1.ls)) λx=>rfl];exact B.ll
abbrev tS:bR:=mV (top 27) 10
def BZ:FnScope ["self","house","number"] ["self","house","number"] (lK tS):=fsc
def LB(F:Fun K "mark" "Book.mark" tS f fd)(T:Txt K mg a)(Pj:Mt P w K mg base a.Book "need_house" 2 ["self","name"] (mS K a)):FnOk P w K mg base (CXo P w) 3 f fd ["self","house","number"] (vM K a (·.dm) (λn x=>{ x with mr:=n }) false):=by
 refine F.okX BZ (λvs H Q E h=>?_) (λPo A outer s H vs Q E hr h=>?_)
 ·obtain⟨b,z,Pi,L,h,n,rfl,_⟩:=h;rfl
 ·obtain⟨b,z,Pi,L,h,n,rfl,B,nm,k1,k2,k3⟩:=h;have hu:=nj hr;refine⟨_,(@lW _ _ _ _ _ (@nN _ _ _ _ (qu (pv 0) Pj (hr.mono (by first|decide|omega)) nS (@lS _ _ _ _ _ (pv 1) pa_nil (by rfl))) (by rfl)) (@ma _ _ _ (pb hu (nJ (pv 0) rfl) (pv 1) (pv 2) rfl))),?_⟩;refine⟨_,rfl,b,_,_,rfl,B.ob,qN z,_,rfl,b,z,Pi,L,h,rfl,B,nm,λhh=>?_,λhh=>k1 hh⟩;refine⟨_,rfl,_,rfl,b,_,_,_,_,rfl,B.ob,T.cl,T.nA_mark_of,CJ z,_,rfl,z.dm,_,rfl,DPut.k (k:=af h) B.mm ?_,?_⟩
  ·rw[ac];exact aQ B.h8 (by decide)
  ·have hb:=B.renum (h:=h) (g:=λx=>{ x with mr:=n }) (H':=upd H z.dm (.dK (pA (L.map λe=>((af e.1.nm:Key),V.int e.1.mr)) (af h) (.int n)))) (.inr (.inl rfl)) (λ_=>rfl) (λ_=>rfl) ?_ ?_ ?_ (λc o hc hn=>by rw[lG hn];exact hc)
   ·exact k3 hh (λz=>by cases z) _ hb λc o hc hn=>by rw[lG hn];exact hc
   ·rw[lG (B.ne.1),nq (v:=λe=>((af e.1.nm:Key),V.int e.1.th)) λx=>rfl];exact B.tt
   ·rw[lJ,Cs (g:=λx=>{ x with mr:=n }) (λx=>x.mr) hh (λ_=>rfl) (λ_=>rfl)]
   ·rw[lG (B.ne.2.2.symm),nq (v:=λe=>((af e.1.nm:Key),V.int e.1.ls)) λx=>rfl];exact B.ll
abbrev tT:bR:=mV (top 27) 11
def B6:FnScope ["self","house","number"] ["self","house","number"] (lK tT):=fsc
def LC(F:Fun K "loss" "Book.loss" tT f fd)(T:Txt K mg a)(Pj:Mt P w K mg base a.Book "need_house" 2 ["self","name"] (mS K a))(PU:Fn P w K mg base "need_loss" 1 ["number"] (sd a)):FnOk P w K mg base (CXo P w) 3 f fd ["self","house","number"] (vM K a (·.dl) (λn x=>{ x with ls:=n }) true):=by
 refine F.okX B6 (λvs H Q E h=>?_) (λPo A outer s H vs Q E hr h=>?_)
 ·obtain⟨b,z,Pi,L,h,n,rfl,_⟩:=h;rfl
 ·obtain⟨b,z,Pi,L,h,n,rfl,B,nm,k1,k2,k3⟩:=h;have hu:=nj hr;refine⟨_,(@lW _ _ _ _ _ (@nN _ _ _ _ (qu (pv 0) Pj (hr.mono (by first|decide|omega)) nS (@lS _ _ _ _ _ (pv 1) pa_nil (by rfl))) (by rfl)) (@lW _ _ _ _ _ (@nN _ _ _ _ (@vq _ _ _ _ _ _ _ _ _ _ _ PU (hr.mono (by first|decide|omega)) rfl nS (@lS _ _ _ _ _ (pv 2) pa_nil (by rfl)) (by decide) (by rfl) (by rfl)) (by rfl)) (@ma _ _ _ (pb hu (nJ (pv 0) rfl) (pv 1) (pv 2) rfl)))),?_⟩;refine⟨_,rfl,b,_,_,rfl,B.ob,qN z,_,rfl,b,z,Pi,L,h,rfl,B,nm,λhh=>?_,λhh=>k1 hh⟩;refine⟨_,rfl,n,rfl,λhl=>k2 hh rfl hl,λU7=>?_⟩;refine⟨_,rfl,_,rfl,b,_,_,_,_,rfl,B.ob,T.cl,T.nA_loss_of,CK z,_,rfl,z.dl,_,rfl,DPut.k (k:=af h) B.ll ?_,?_⟩
  ·rw[ac];exact aQ B.h8 (by decide)
  ·have hb:=B.renum (h:=h) (g:=λx=>{ x with ls:=n }) (H':=upd H z.dl (.dK (pA (L.map λe=>((af e.1.nm:Key),V.int e.1.ls)) (af h) (.int n)))) (.inr (.inr rfl)) (λ_=>rfl) (λ_=>rfl) ?_ ?_ ?_ (λc o hc hn=>by rw[lG hn];exact hc)
   ·exact k3 hh (λ_=>U7) _ hb λc o hc hn=>by rw[lG hn];exact hc
   ·rw[lG (B.ne.2.1),nq (v:=λe=>((af e.1.nm:Key),V.int e.1.th)) λx=>rfl];exact B.tt
   ·rw[lG (B.ne.2.2),nq (v:=λe=>((af e.1.nm:Key),V.int e.1.mr)) λx=>rfl];exact B.mm
   ·rw[lJ,Cs (g:=λx=>{ x with ls:=n }) (λx=>x.ls) hh (λ_=>rfl) (λ_=>rfl)]
end
def Nr(i j):Mf [V.int i,V.int j] [V.int 0,V.int 1]=decide ((i,j)=((0:Int),(1:Int))):=by show(eqV (.int i) (.int 0)&&(eqV (.int j) (.int 1)&&true))=_;have e1:∀i j:Int,eqV (.int i) (.int j)=decide (i=j):=λi j=>rfl;rw[e1,e1,Bool.and_true,bU,cg,decide_eq_true_iff,decide_eq_true_iff,decide_eq_true_iff,Prod.mk.injEq]
def bt0(k):Bt k 0:=cW k
def bt1(h:k≠0):Bt k 1:=Nat.one_lt_two_pow h
def sz0:Sz (0,1):=⟨⟨by decide,(rfl:aD 0 1=1)⟩,bt0 _,bt1 (by decide)⟩
theorem HeldZ.same{K}(h:HeldZ K H p l z)(s:Same H H'):HeldZ K H' p l z :=
 ⟨h.1,s _ _ h.2.1,λq hq=>(h.2.2 q hq).same s⟩
def HeldZ.get{K}(h:HeldZ K H p l z)(ho:FrAt K H o (0,1))(n) :
  ∃x,(oo (z.map λq=>((af q.1.1:Key),V.ref q.2)) (af n)).getD (.ref o)=.ref x/\FrAt K H x (lT l n):=by
 rcases h.val n with⟨_,hv,hg⟩|⟨_,x,hv,hx⟩
 ·exact⟨o,by rw[hv];rfl,by rw[hg];exact ho⟩
 ·exact⟨x,by rw[hv];rfl,hx⟩
def oO(l:Hl)(o:Str)(q:Int×Int):Prop:=¬ 0<q.1\/q.1*(lT l o).2>(lT l o).1*q.2
instance (l:Hl) (o:Str) (q:Int×Int):Decidable (oO l o q):=by unfold oO;infer_instance
section
variable{P:aK}{w:ba}{K:aa}{mg:Str->Option ai}{base:bx}{a:Adr}{f:ak}{fd:cq}
abbrev tR:bR:=mV (top 27) 8
def sc_Book_sale:FnScope ["self","house","one","other","share","held","rest"] ["self","house","one","other","share"] (lK tR):=fsc
structure SaleOk(l:Hl)(o1:Str)(q:Int×Int):Prop where
 len:l.length<1000
 sz:∀n,Sz (lT l n)
 rs:¬oO l o1 q->Sz (nz (lT l o1) (-q.1,q.2))
def FK(K:aa)(a:Adr):Sp:=λvs H Q E=>∃b z Pi L h o1 o2 sp q,vs=[.ref b,.str h,.str o1,.str o2,.ref sp]/\BookAt K a.Book H b z Pi L/\(L.map (·.1.nm)).Nodup/\Nm h/\Nm o1/\Nm o2/\FrAt K H sp q/\Sz q /\
 (∀e,nU L h=Za e->SaleOk e.1.held o1 q) /\
 (oC L h=false->E (.ref a.NoHouse) Zb H) /\
 (oC L h=true->(oQ Pi o1||oC L o1)=false->E (.ref a.NoHolder) Zb H) /\
 (oC L h=true->(oQ Pi o1||oC L o1)=true->(oQ Pi o2||oC L o2)=false->E (.ref a.NoHolder) Zb H) /\
 (∀e,nU L h=Za e->(oQ Pi o1||oC L o1)=true->(oQ Pi o2||oC L o2)=true->oO e.1.held o1 q->E (.ref a.NoShare) Zb H) /\
 (∀e,nU L h=Za e->(oQ Pi o1||oC L o1)=true->(oQ Pi o2||oC L o2)=true->¬oO e.1.held o1 q->∀H',BookAt K a.Book H' b z Pi (uO L h λx=>{ x with held:=sold x.held o1 o2 q })->(∀c o,H c=Za o->c≠e.2->H' c=Za o)->Q .non H')
def Lz(F:Fun K "sale" "Book.sale" tR f fd)(T:Txt K mg a)(Pj:Mt P w K mg base a.Book "need_house" 2 ["self","name"] (mS K a))(Pr:Mt P w K mg base a.Book "need_holder" 3 ["self","name"] (qi K a))(Qc:Fn P w K mg base "is_above" 1 ["first","second"] (Dy K))(RA:Fn P w K mg base "minus" 3 ["first","second"] (Dw K))(QE:Fn P w K mg base "plus" 2 ["first","second"] (yE K)) :
  FnOk P w K mg base (CXo P w) 4 f fd ["self","house","one","other","share"] (FK K a):=by
 refine F.okX sc_Book_sale (λvs H Q E h=>?_) (λPo A outer s H vs Q E hr h=>?_)
 ·obtain⟨b,z,Pi,L,h,o1,o2,sp,q,rfl,_⟩:=h;rfl
 ·obtain⟨b,z,Pi,L,h,o1,o2,sp,q,rfl,B,nd,nh,n1,n2,hq,sq,hok,k1,k2,k3,k4,k5⟩:=h;have hu:=nj hr;refine⟨_,(@lW _ _ _ _ _ (@nN _ _ _ _ (qu (pv 0) Pj (hr.mono (by first|decide|lia)) nS (@lS _ _ _ _ _ (pv 1) pa_nil (by rfl))) (by rfl)) (@lW _ _ _ _ _ (@nN _ _ _ _ (qu (pv 0) Pr (hr.mono (by first|decide|lia)) nS (@lS _ _ _ _ _ (pv 2) pa_nil (by rfl))) (by rfl)) (@lW _ _ _ _ _ (@nN _ _ _ _ (qu (pv 0) Pr (hr.mono (by first|decide|lia)) nS (@lS _ _ _ _ _ (pv 3) pa_nil (by rfl))) (by rfl)) (@lW _ _ _ _ _ (@rT _ _ (5) _ _ _ _ sc_Book_sale.nd rfl (fA rfl) (@rA _ _ _ _ _ _ hu (nJ (pv 0) rfl) (pv 1) (λ_ _=>rfl)) (by rfl) (by first|exact .inl rfl|exact .inr rfl|assumption)) (@lW _ _ _ _ _ (@wb _ _ _ _ _ _ _ _ (PW.pt (M6 (Ai (vN (@vq _ _ _ _ _ _ _ _ _ _ _ Qc (hr.mono (by first|decide|lia)) rfl nS (@lS _ _ _ _ _ (pv 4) (@lS _ _ _ _ _ (rn rfl T.g_ZERO T.r_ZERO) pa_nil (by rfl)) (by rfl)) (by decide) (by rfl) (by rfl)))) (JO (vN (@vq _ _ _ _ _ _ _ _ _ _ _ Qc (hr.mono (by first|decide|lia)) rfl nS (@lS _ _ _ _ _ (pv 4) (@lS _ _ _ _ _ (@zN _ _ _ _ _ _ _ _ _ hu (pv 5) (pv 2) (rn rfl T.g_ZERO T.r_ZERO) ⟨rfl,rfl,rfl,rfl⟩) pa_nil (by rfl)) (by rfl)) (by decide) (by rfl) (by rfl)))))) (@ma _ _ _ (pW T.x_NoShare rfl T.c_NoShare rfl (EJ (x8 (pv 2) (Aj (x8 (pv 1) Ak)))) yV)) pss_nil) (@lW _ _ _ _ _ (@rT _ _ (6) _ _ _ _ sc_Book_sale.nd rfl (fA rfl) (@vq _ _ _ _ _ _ _ _ _ _ _ RA (hr.mono (by first|decide|lia)) rfl nS (@lS _ _ _ _ _ (@rA _ _ _ _ _ _ hu (pv 5) (pv 2) (λ_ _=>rfl)) (@lS _ _ _ _ _ (pv 4) pa_nil (by rfl)) (by rfl)) (by decide) (by rfl) (by rfl)) (by rfl) (by first|exact .inl rfl|exact .inr rfl|assumption)) (@lW _ _ _ _ _ (@wb _ _ _ _ _ _ _ _ (@uR _ _ _ _ _ _ _ _ (Ob (Nat.lt_of_succ_lt hu)) (pv 6) (rn rfl T.g_ZERO T.r_ZERO) (uU _)) (@ma _ _ _ (@nN _ _ _ _ (DQ (pv 5) (pv 2) ⟨rfl,rfl,rfl,rfl⟩) (by rfl))) (@ma _ _ _ (pb hu (pv 5) (pv 2) (pv 6) rfl))) (@ma _ _ _ (pb hu (pv 5) (pv 3) (@vq _ _ _ _ _ _ _ _ _ _ _ QE (hr.mono (by first|decide|lia)) rfl nS (@lS _ _ _ _ _ (@zN _ _ _ _ _ _ _ _ _ hu (pv 5) (pv 3) (rn rfl T.g_ZERO T.r_ZERO) ⟨rfl,rfl,rfl,rfl⟩) (@lS _ _ _ _ _ (pv 4) pa_nil (by rfl)) (by rfl)) (by decide) (by rfl) (by rfl)) rfl))))))))),?_⟩;have bn:∀{m:Str},¬m="people"->¬m="things_of"->¬m="mark_of"->¬m="loss_of"->¬m="held_of"->(bf z).lookup m=none:=λa b c d e=>qN z a b c d e;refine⟨_,rfl,b,_,_,rfl,B.ob,qN z,_,rfl,b,z,Pi,L,h,rfl,B,nh,λhh=>?_,λhh=>k1 hh⟩;refine⟨_,rfl,b,_,_,rfl,B.ob,qN z,_,rfl,b,z,Pi,L,o1,rfl,B,n1,λh1=>?_,λh1=>k2 hh h1⟩;refine⟨_,rfl,b,_,_,rfl,B.ob,qN z,_,rfl,b,z,Pi,L,o2,rfl,B,n2,λh2=>?_,λh2=>k3 hh h1 h2⟩;cases he:nU L h with
  |none=>unfold oC at hh;unfold nU at he;rw[he] at hh;cases hh
  |some e =>
  have Ts:=rN he;have ok:=hok e he;obtain⟨zz,Zj⟩:=(B.he e Ts).toZ;have Ro:=B.hh.dget h;rw[z8 _ he] at Ro;have Qu:∀H,FrAt K H a.ZERO (0,1):=λH=>.inr T.zero;refine⟨_,rfl,b,_,_,_,_,rfl,B.ob,T.cl,T.nA_held_of,vg z,_,rfl,_,_,rfl,Ro,?_⟩;refine⟨_,rfl,sp,a.ZERO,q,(0,1),rfl,hq,Qu H,sq,sz0,_,rfl,uY (λh3=>?_) (λh3=>?_)⟩
  ·have h3:=of_decide_eq_false (nbT h3);exact LW ⟨_,rfl,⟨o1,rfl,n1⟩,_,rfl,⟨h,rfl,nh⟩,λy=>k4 e he h1 h2 (.inl (by simp only at h3;lia))⟩
  have q0:0<q.1:=by have:=Zf (nbF h3);simp only at this;lia
  obtain⟨x0,S8,fx0⟩:=Zj.get (Qu H) o1;refine⟨_,rfl,_,rfl,e.2,rfl,.inl ⟨_,.inl Zj.2.1⟩,_,rfl,_,DGet.k (k:=af o1) Zj.2.1,?_⟩;rw[S8];refine⟨sp,x0,q,_,rfl,hq,fx0,sq,ok.sz o1,_,rfl,uY (λh4=>?_) (λh4=>?_)⟩
  ·have h4:=Zf h4;exact⟨_,rfl,⟨o1,rfl,n1⟩,_,rfl,⟨h,rfl,nh⟩,λy=>k4 e he h1 h2 (.inr h4)⟩
  have h4:¬q.1*(lT e.1.held o1).2>(lT e.1.held o1).1*q.2:=λz=>h4 (Zg z);have ntm:¬oO e.1.held o1 q:=λz=>z.elim (λy=>y q0) h4;rcases Zj.val o1 with⟨_,_,hg⟩|⟨hn,x,hv,hx⟩
  ·exfalso;rw[hg] at h4;simp only at h4;lia
  have Vf:DGet H e.2 (.str o1) (Za (.ref x)):=by have:=DGet.k (k:=af o1) Zj.2.1;rw[hv] at this;exact this
  refine⟨_,rfl,_,rfl,e.2,_,rfl,Vf,_,rfl,x,sp,_,_,rfl,hx,hq,ok.sz o1,sq,λr H1 hr0 s1 Tc=>?_⟩;have Z1:=Zj.same s1;have PX:∀H2 l1 z2,HeldZ K H2 e.2 l1 z2->sold e.1.held o1 o2 q=nu l1 o2 (nz (lT l1 o2) q)->(∀c o,H c=Za o->c≠e.2->H2 c=Za o)->Sz (lT l1 o2)->l1.length<=e.1.held.length->FrAt K H2 sp q ->
    MX (HW 5) (HW 3) (Ko (yE K) [] E (Kn (JF (HW 5) (HW 3) (tC (V.ref a.ZERO))) (Kn (HW 4) JE))) { nx:=λx H'=>Q V.non H',rt:=Q } [Za (V.ref b),Za (V.str h),Za (V.str o1),Za (V.str o2),Za (V.ref sp),Za (V.ref e.2),Za (V.ref r)] H2:=by
   intro H2 l1 z2 Z2 es kp szl len fq;obtain⟨y,hy,fy⟩:=Z2.get (Qu H2) o2;refine⟨_,rfl,e.2,rfl,.inl ⟨_,.inl Z2.2.1⟩,_,rfl,_,DGet.k (k:=af o2) Z2.2.1,?_⟩;rw[hy];refine⟨_,rfl,y,sp,_,_,rfl,fy,fq,szl,sq,λt ht=>?_⟩;have st:=rS (o:=.tup [.int (nz (lT l1 o2) q).1,.int (nz (lT l1 o2) q).2]) ht;have Z3:=Z2.same st;refine⟨_,rfl,_,rfl,e.2,_,rfl,DPut.k (k:=af o2) Z3.2.1 ?_,?_⟩
   ·rw[ac,<-ac (f:=(·.1)),Z2.1];exact aQ len (gT ok.len (by decide))
   ·obtain⟨z4,Z4⟩:=Z3.put (n:=o2) (x:=t) (q:=nz (lT l1 o2) q) (SqT.of lJ);have kp':∀c o,H c=Za o->c≠e.2->(upd (upd H2 t (.tup [.int (nz (lT l1 o2) q).1,.int (nz (lT l1 o2) q).2])) e.2 (.dK (pA (z2.map λq=>((af q.1.1:Key),V.ref q.2)) (af o2) (.ref t)))) c=Za o:=λc o hc hn=>by rw[lG hn];exact st c o (kp c o hc hn)
    refine k5 e he h1 h2 ntm _ (B.reheld nd he (λx=>rfl) ?_ kp') kp';show HeldAt K _ e.2 (sold e.1.held o1 o2 q);rw[es];exact Z4.held
  refine⟨_,rfl,r,a.ZERO,_,_,rfl,rfl,SqT.of Tc,.inr T.zero,rfl,rfl,rfl,_,rfl,uY (λh5=>?_) (λh5=>?_)⟩
  ·rw[Nr] at h5;have h5:nz (lT e.1.held o1) (-q.1,q.2)=(0,1):=Zf h5;refine⟨_,rfl,e.2,rfl,.inl ⟨_,.inl Z1.2.1⟩,_,rfl,_,af o1,.ref x,Z1.2.1,rfl,hv,?_⟩;obtain⟨z2,Z2⟩:=Z1.drop (n:=o1);refine PX _ _ z2 Z2 ?_ (λc o hc hn=>by rw[lG hn];exact s1 c o hc) ?_ (DV _ _) (CY Z1.2.1 (hq.same s1))
   ·unfold sold;simp only[h5,if_true]
   ·rw[pN];by_cases e2:o2=o1
    ·rw[Zc e2];exact sz0
    ·rw[Zd e2];exact ok.sz o2
  ·rw[Nr] at h5;have h5:¬nz (lT e.1.held o1) (-q.1,q.2)=(0,1):=λz=>h5 (Zg z);refine⟨_,rfl,_,rfl,_,rfl,e.2,_,rfl,DPut.k (k:=af o1) Z1.2.1 ?_,?_⟩
   ·rw[ac,<-ac (f:=(·.1)),Zj.1];exact gT ok.len (by decide)
   ·obtain⟨z2,Z2⟩:=Z1.put (n:=o1) (x:=r) (q:=nz (lT e.1.held o1) (-q.1,q.2)) (SqT.of Tc);refine PX _ _ z2 Z2 ?_ (λc o hc hn=>by rw[lG hn];exact s1 c o hc) ?_ ?_ (CY Z1.2.1 (hq.same s1))
    ·unfold sold;simp only[h5,if_false]
    ·rw[mQ];by_cases e2:o2=o1
     ·rw[Zc e2];exact ok.rs ntm
     ·rw[Zd e2];exact ok.sz o2
    ·have:=congrArg b7 (mZ e.1.held o1 (nz (lT e.1.held o1) (-q.1,q.2)));rw[Zc hn,ac,ac] at this;exact kG this
end
def mB(L:List Ent)(n:Str):Option Ent:=L.find? λe=>decide (e.nm=n)
def l7(L:List Ent)(n:Str):Bool:=(mB L n).isSome
def mR(L:List Ent)(h:Str)(g:Ent->Ent):List Ent:=L.map λx=>if x.nm=h then g x else x
def Bp(L)(n):(nU L n).map (·.1)=mB (L.map (·.1)) n:=by unfold nU mB;rw[fg];rfl
def oh(L)(n):oC L n=l7 (L.map (·.1)) n:=by unfold l7;rw[<-Bp];unfold oC nU;rw[ci]
def DB(L:List (Ent×ak))(h:Str)(g:Ent->Ent):(uO L h g).map (·.1)=mR (L.map (·.1)) h g:=by
 unfold uO mR;rw[aE,aE];refine aV λx _=>?_;show(if x.1.nm=h then(g x.1,x.2) else x).1=if x.1.nm=h then g x.1 else x.1
 split<;>rfl
def rB(a:Adr)(pp:List Str)(L:List Ent)(x:Str):Option ak:=if vI x=false then Za a.NoName else if(oQ pp x||l7 L x)=true then Za a.Twice else Zb
def wy(a:Adr)(pp:List Str)(L:List Ent)(x:Str):Option ak:=match rB a pp L x with
 |some c=>Za c
 |none=>if 6<=pp.length then Za a.TooMany else Zb
def wF(a:Adr)(pp:List Str)(L:List Ent)(x o:Str)(l:Int):Option ak:=match rB a pp L x with
 |some c=>Za c
 |none=>if(oQ pp o||l7 L o)=false then Za a.NoHolder else if l<0 then Za a.NoLoss else if 8<=L.length then Za a.TooMany else Zb
def yS(a)(pp)(L)(x):ra a pp L x=rB a pp (L.map (·.1)) x:=by unfold ra rB;rw[oh]
def yP(a)(pp)(L)(x):uS a pp L x=wy a pp (L.map (·.1)) x:=by unfold uS wy;rw[yS];try (cases rB a pp (L.map (·.1)) x<;>rfl)
def y9(a)(pp)(L)(x o)(l):rX a pp L x o l=wF a pp (L.map (·.1)) x o l:=by unfold rX wF;rw[yS,oh,ac];try (cases rB a pp (L.map (·.1)) x<;>rfl)
noncomputable instance (x:Str):Decidable (Nm x):=dB _
def mH(vs:List PV)(s:Sto)(k:Nat->List Str->List Ent->List PV->Out PV):Out PV:=match vs with
 |.ref n::r=>match s.get n with
  |some (.book pp L)=>k n pp L r
  |_=>.bad
 |_=>.bad
def uC(a:Adr)(vs:List PV)(s:Sto):Out PV:=mH vs s λn pp L r=>match r with
 |[.str x]=>if Nm x then(match wy a pp L x with
  |none=>.ok .non (s.set n (.book (pp++[x]) L))
  |some c=>.ex c s) else .bad
 |_=>.bad
def wJ(a:Adr)(vs:List PV)(s:Sto):Out PV:=mH vs s λn pp L r=>match r with
 |[.str x,.str o,.int t,.int m,.int l]=>if Nm x/\Nm o then(match wF a pp L x o l with
  |none=>.ok .non (s.set n (.book pp (L++[⟨x,t,m,l,[(o,1,1)]⟩])))
  |some c=>.ex c s) else .bad
 |_=>.bad
def oR(_:Adr)(vs:List PV)(s:Sto):Out PV:=mH vs s λ_ pp _ r=>match r with
 |[]=>.ok (.lst ((srt pp).map .str)) s
 |_=>.bad
def na(_:Adr)(vs:List PV)(s:Sto):Out PV:=mH vs s λ_ _ L r=>match r with
 |[]=>.ok (.lst ((srt (L.map (·.nm))).map .str)) s
 |_=>.bad
def frP(q:Int×Int):PV:=.tup [.int q.1,.int q.2]
def qw(q:Str×Int×Int):PV:=.tup [.str q.1,frP q.2]
def pV(l:List (Str×Int×Int)):PV:=.lst ((srt (l.map (·.1))).map λn=>qw (mj l n))
def m9(a:Adr)(vs:List PV)(s:Sto):Out PV:=mH vs s λ_ _ L r=>match r with
 |[.str x]=>if Nm x then(match mB L x with
  |none=>.ex a.NoHouse s
  |some e=>if e.held.length<64 then .ok (pV e.held) s else .bad) else .bad
 |_=>.bad
def Kl(a:Adr)(vs:List PV)(s:Sto):Out PV:=mH vs s λ_ _ L r=>match r with
 |[.str x]=>if Nm x then(match mB L x with
  |none=>.ex a.NoHouse s
  |some e=>.ok (.tup [.int e.th,.int e.mr,.int e.ls]) s) else .bad
 |_=>.bad
def qF(_:Adr)(vs:List PV)(s:Sto):Out PV:=mH vs s λ_ _ L r=>match r with
 |[.str x]=>.ok (.bl (l7 L x)) s
 |_=>.bad
def oX(a:Adr)(vs:List PV)(s:Sto):Out PV:=mH vs s λ_ _ L r=>match r with
 |[.str x]=>if Nm x then(if l7 L x=true then .ok .non s else .ex a.NoHouse s) else .bad
 |_=>.bad
structure SaleE(L:List Ent)(h o1 o2:Str)(q:Int×Int):Prop where
 nd:(L.map (·.nm)).Nodup
 nm:Nm h/\Nm o1/\Nm o2
 sz:Sz q
 ok:∀e,mB L h=Za e->SaleOk e.held o1 q
noncomputable instance (L:List Ent) (h o1 o2:Str) (q:Int×Int):Decidable (SaleE L h o1 o2 q):=dB _
def vU(a:Adr)(vs:List PV)(s:Sto):Out PV:=mH vs s λn pp L r=>match r with
 |[.str h,.str o1,.str o2,.tup [.int t,.int b]]=>if SaleE L h o1 o2 (t,b) then(match mB L h with
  |none=>.ex a.NoHouse s
  |some e=>if(oQ pp o1||l7 L o1)=false then .ex a.NoHolder s else if(oQ pp o2||l7 L o2)=false then .ex a.NoHolder s
   else if oO e.held o1 (t,b) then .ex a.NoShare s else .ok .non (s.set n (.book pp (mR L h λx=>{ x with held:=sold x.held o1 o2 (t,b) })))) else .bad
 |_=>.bad
section
variable{K:aa}{H:Hp}{m:Mp}{s:Sto}{a:Adr}
def M7(S:SR K CB H m s)(hg:s.get n=Za (.book pp L))(eF:m.fp n=BFp (m.ad n) z L')(B':BookAt K CB H' (m.ad n) z pp' L2)(k:∀a o,H a=Za o->a∉BFp (m.ad n) z L'->H' a=Za o)(Qh:∀a∈BFp (m.ad n) z L2,a∈BFp (m.ad n) z L'\/H a=Zb) :
  SR K CB H' (m.fput n (BFp (m.ad n) z L2)) (s.set n (.book pp' (L2.map (·.1))))/\Ext H m s H' (m.fput n (BFp (m.ad n) z L2)) (s.set n (.book pp' (L2.map (·.1)))) :=
 S.put hg (by intro _ z;cases z) H' _ (by rw[eF];exact k) (by rw[eF];exact Qh) λ_=>⟨z,L2,B',rfl,by show(if n=n then _ else _)=_;rw[Zc rfl];rfl⟩
def onB(S:SR K CB H m s)(r:Reps K H m s xs vs)(P:Post K CB (Rep K) E (mH vs s k) H m s Q) :
  ∃n pp L z L' us ys,s.get n=Za (.book pp L)/\BookAt K CB H (m.ad n) z pp L'/\L'.map (·.1)=L/\m.fp n=BFp (m.ad n) z L'/\xs=.ref (m.ad n)::us/\Reps K H m s us ys/\Post K CB (Rep K) E (k n pp L ys) H m s Q:=by
 unfold mH at P;split at P
 ·rename_i n r';split at P
  ·rename_i pp L hg;obtain⟨z,L',B,e1,e2⟩:=S.get hg;cases r with
   |cons r1 r2 =>
    cases r1;exact⟨n,pp,L,z,L',_,_,hg,B,e1,e2,rfl,r2,P⟩
  ·exact P.elim
 ·exact P.elim
def L1(h:e∈L):e.2∈BFp b z L:=by unfold BFp;simp only[ah];right;right;right;right;right;right;exact aj.mpr ⟨e,h,rfl⟩
def Im(L:List (Ent×ak))(h:Str)(g:Ent->Ent):(uO L h g).map (·.2)=L.map (·.2):=by unfold uO;rw[aE];refine aV λx _=>?_;show(if x.1.nm=h then(g x.1,x.2) else x).2=x.2;split<;>rfl
def FN(b)(z)(L)(h)(g):BFp b z (uO L h g)=BFp b z L:=by unfold BFp;rw[Im]
def wz(r:Reps K H m s us [.str x]):us=[.str x]:=by
 cases r with
 |cons a b=>cases a;cases b;rfl
def Ey(vs)(H)(Q)(E)(h:spD K a.Book 2 (uC a) vs H Q E):Bc K a vs H Q E:=by
 obtain⟨_,ps,s,m,r,S,P⟩:=h;obtain⟨n,pp,L,z,L',us,ys,hg,B,e1,e2,rfl,r',P⟩:=onB S r P;split at P
 ·split at P
  ·rename_i x hx;cases wz r';refine⟨_,z,pp,L',x,rfl,B,hx,λhd H' B' k=>?_,λc hd H' k=>?_⟩
   ·rw[yP,e1] at hd;rw[hd] at P;obtain⟨S2,x2⟩:=M7 S hg e2 B' (λc o h hc=>k c o h λz=>hc (by rw[z];simp[BFp])) (λc hc=>.inl hc);rw[e1] at S2 x2;exact P _ _ _ x2 S2 .non
   ·rw[yP,e1] at hd;rw[hd] at P;exact P _ m (.same k) (S.same k)
  ·exact P.elim
 ·exact P.elim
def GJ(vs)(H)(Q)(E)(h:spD K a.Book 6 (wJ a) vs H Q E):Dx K a vs H Q E:=by
 obtain⟨_,ps,s,m,r,S,P⟩:=h;obtain⟨n,pp,L,z,L',us,ys,hg,B,e1,e2,rfl,r',P⟩:=onB S r P;split at P
 ·split at P
  ·rename_i x o t mm l hx;cases r' with
   |cons q1 r'=>cases r' with
    |cons q2 r'=>cases r' with
     |cons q3 r'=>cases r' with
      |cons q4 r'=>cases r' with
       |cons q5 r' =>
        cases r';cases q1;cases q2;cases q3;cases q4;cases q5;refine⟨_,z,pp,L',x,o,t,mm,l,rfl,B,hx.1,hx.2,λhd p H' hp B' k=>?_,λc hd H' k=>?_⟩
        ·rw[y9,e1] at hd;rw[hd] at P;obtain⟨S2,x2⟩:=M7 S hg e2 B' (λc o h hc=>k c o h λz=>hc (by unfold BFp;simp only[ah,cK,or_false] at z ⊢;rcases z with z|z|z|z<;>simp[z])) (λc hc=>by
          unfold BFp at hc ⊢;rw[aw] at hc;simp only[ah,aL,am,dy,cK,or_false] at hc ⊢;rcases hc with h|h|h|h|h|h|h|h
          ·exact .inl (.inl h)
          ·exact .inl (.inr (.inl h))
          ·exact .inl (.inr (.inr (.inl h)))
          ·exact .inl (.inr (.inr (.inr (.inl h))))
          ·exact .inl (.inr (.inr (.inr (.inr (.inl h)))))
          ·exact .inl (.inr (.inr (.inr (.inr (.inr (.inl h))))))
          ·exact .inl (.inr (.inr (.inr (.inr (.inr (.inr h))))))
          ·rw[h];exact .inr hp)
         rw[aw,e1] at S2 x2;exact P _ _ _ x2 S2 .non
        ·rw[y9,e1] at hd;rw[hd] at P;exact P _ m (.same k) (S.same k)
  ·exact P.elim
 ·exact P.elim
def Da(vs)(H)(Q)(E)(h:spD K a.Book 1 (oR a) vs H Q E):yF K a.Book vs H Q E:=by
 obtain⟨_,ps,s,m,r,S,P⟩:=h;obtain⟨n,pp,L,z,L',us,ys,hg,B,e1,e2,rfl,r',P⟩:=onB S r P;split at P
 ·cases r';exact⟨_,z,pp,L',rfl,B,λl hl=>P.new S hl λex S'=>.lst lJ (S.pure_none hl) (.ofStrs _)⟩
 ·exact P.elim
def Ez(vs)(H)(Q)(E)(h:spD K a.Book 1 (na a) vs H Q E):Be K a.Book vs H Q E:=by
 obtain⟨_,ps,s,m,r,S,P⟩:=h;obtain⟨n,pp,L,z,L',us,ys,hg,B,e1,e2,rfl,r',P⟩:=onB S r P;split at P
 ·cases r';refine⟨_,z,pp,L',rfl,B,λl hl=>P.new S hl λex S'=>.lst lJ (S.pure_none hl) ?_⟩;rw[<-e1,aE];exact .ofStrs _
 ·exact P.elim
def vy(e:L'.map (·.1)=L):(∀q,nU L' x=Za q->mB L x=Za q.1)/\(nU L' x=Zb->mB L x=Zb):=by have:=Bp L' x;rw[e] at this;refine⟨λq h=>?_,λh=>?_⟩<;>(rw[h] at this;exact this.symm)
theorem Bi:∀{l:List (Str×Int×Int)}{vs:List V}{m:Mp}{s:Sto}{CB:ak}{H:Hp},SR K CB H m s->eU (PairAt K H) l vs->Reps K H m s vs (l.map qw)
 |_,_,_,_,_,_,_,.nil=>.nil
 |_,_,m,s,CB,H,S,.cons r t=>by obtain⟨p,q,rfl,h1,h2⟩:=r;have tp:∀{c:ak}{xs:List V},SqT K H c xs->(Rd H c (.tup xs)/\Pur m s c\/KT' K c xs):=λh=>h.elim (λz=>.inl ⟨z,z.elim (λz=>S.pure_tup z) λ⟨_,z⟩=>S.pure_frz (.inl z)⟩) .inr;exact .cons (.tup (tp h1) (.cons .str (.cons (.tup (tp h2) (.cons .int (.cons .int .nil))) .nil))) (Bi S t)
def Ex(vs)(H)(Q)(E)(h:spD K a.Book 2 (m9 a) vs H Q E):Bb K a vs H Q E:=by
 obtain⟨_,ps,s,m,r,S,P⟩:=h;obtain⟨n,pp,L,z,L',us,ys,hg,B,e1,e2,rfl,r',P⟩:=onB S r P;split at P
 ·split at P
  ·rename_i x hx;cases wz r';obtain⟨f1,f2⟩:=vy (x:=x) e1;refine⟨_,z,pp,L',x,rfl,B,hx,λe he=>?_,λhe=>?_⟩
   ·rw[f1 e he] at P;dsimp only at P;split at P
    ·rename_i Rg;refine⟨Rg,λl SH H' hl k h' pr=>?_⟩;have S':=S.same k;refine P _ H' m (.same k) S' (.lst h' ?_ ?_)
     ·have:=S.pure_none hl;exact this
     ·have:=Bi (m:=m) (s:=s) S' pr;rw[aE] at this;exact this
    ·exact P.elim
   ·rw[f2 he] at P;exact P H m .refl S
  ·exact P.elim
 ·exact P.elim
def NI(vs)(H)(Q)(E)(h:spD K a.Book 2 (Kl a) vs H Q E):MW K a vs H Q E:=by
 obtain⟨_,ps,s,m,r,S,P⟩:=h;obtain⟨n,pp,L,z,L',us,ys,hg,B,e1,e2,rfl,r',P⟩:=onB S r P;split at P
 ·split at P
  ·rename_i x hx;cases wz r';obtain⟨f1,f2⟩:=vy (x:=x) e1;refine⟨_,z,pp,L',x,rfl,B,hx,λe he t ht=>?_,λhe=>?_⟩
   ·rw[f1 e he] at P;exact P.new S ht λex S'=>.tup (.inl ⟨.inl lJ,S'.pure_tup lJ⟩) (.cons .int (.cons .int (.cons .int .nil)))
   ·rw[f2 he] at P;exact P H m .refl S
  ·exact P.elim
 ·exact P.elim
def BO(vs)(H)(Q)(E)(h:spD K a.Book 2 (qF a) vs H Q E):qK K a.Book vs H Q E:=by
 obtain⟨_,ps,s,m,r,S,P⟩:=h;obtain⟨n,pp,L,z,L',us,ys,hg,B,e1,e2,rfl,r',P⟩:=onB S r P;split at P
 ·rename_i x;cases wz r';refine⟨_,z,pp,L',x,rfl,B,?_⟩;rw[oh,e1];exact P.here S .bl
 ·exact P.elim
def yj(vs)(H)(Q)(E)(h:spD K a.Book 2 (oX a) vs H Q E):mS K a vs H Q E:=by
 obtain⟨_,ps,s,m,r,S,P⟩:=h;obtain⟨n,pp,L,z,L',us,ys,hg,B,e1,e2,rfl,r',P⟩:=onB S r P;split at P
 ·split at P
  ·rename_i x hx;cases wz r';refine⟨_,z,pp,L',x,rfl,B,hx,λh=>?_,λh=>?_⟩
   ·rw[oh,e1] at h;rw[Zc h] at P;exact P.here S .non
   ·rw[oh,e1] at h;rw[Zd (by rw[h];decide)] at P;exact P H m .refl S
  ·exact P.elim
 ·exact P.elim
def Ii(vs)(H)(Q)(E)(h:spD K a.Book 5 (vU a) vs H Q E):FK K a vs H Q E:=by
 obtain⟨_,ps,s,m,r,S,P⟩:=h;obtain⟨n,pp,L,z,L',us,ys,hg,B,e1,e2,rfl,r',P⟩:=onB S r P;split at P
 ·split at P
  ·rename_i h o1 o2 t b hs;cases r' with
   |cons q1 r'=>cases r' with
    |cons q2 r'=>cases r' with
     |cons q3 r'=>cases r' with
      |cons q4 r' =>
       cases r';cases q1;cases q2;cases q3;obtain⟨p,ws,rfl,ht,P4⟩:=q4.tp;cases P4 with
       |cons w1 w2=>cases w2 with
        |cons w2 w3 =>
         cases w3;cases w1;cases w2;obtain⟨f1,f2⟩:=vy (x:=h) e1;have hh:oC L' h=(mB L h).isSome:=by rw[oh,e1];rfl
         have h1:(oQ pp o1||oC L' o1)=(oQ pp o1||l7 L o1):=by rw[oh,e1]
         have h2:(oQ pp o2||oC L' o2)=(oQ pp o2||l7 L o2):=by rw[oh,e1]
         refine⟨_,z,pp,L',h,o1,o2,p,(t,b),rfl,B,by rw[show L'.map (λx=>x.1.nm)=L.map (·.nm) by rw[<-e1,aE];rfl];exact hs.nd,hs.nm.1,hs.nm.2.1,hs.nm.2.2,ht,hs.sz,λe he=>hs.ok _ (f1 e he),λq=>?_,λq g1=>?_,λq g1 g2=>?_,λe he g1 g2 g3=>?_,λe he g1 g2 g3 H' B' k=>?_⟩
         ·rw[hh] at q;cases c:mB L h with
          |none=>rw[c] at P;exact P H m .refl S
          |some e=>rw[c] at q;cases q
         ·rw[hh] at q;cases c:mB L h with
          |none=>rw[c] at q;cases q
          |some e=>rw[c] at P;dsimp only at P;rw[Zc (by rw[<-h1];exact g1)] at P;exact P H m .refl S
         ·rw[hh] at q;cases c:mB L h with
          |none=>rw[c] at q;cases q
          |some e=>rw[c] at P;dsimp only at P;rw[Zd (by rw[<-h1,g1];decide),Zc (by rw[<-h2];exact g2)] at P;exact P H m .refl S
         ·rw[f1 e he] at P;dsimp only at P;rw[Zd (by rw[<-h1,g1];decide),Zd (by rw[<-h2,g2];decide),Zc g3] at P;exact P H m .refl S
         ·rw[f1 e he] at P;dsimp only at P;rw[Zd (by rw[<-h1,g1];decide),Zd (by rw[<-h2,g2];decide),Zd g3] at P;obtain⟨S2,x2⟩:=M7 S hg e2 B' (λc o hc hn=>k c o hc λz=>hn (by rw[z];exact L1 (rN he))) (λc hc=>.inl (by rw[FN] at hc;exact hc));rw[DB,e1] at S2 x2;exact P _ _ _ x2 S2 .non
  ·exact P.elim
 ·exact P.elim
def AQ(a:Adr)(g:Int->Ent->Ent)(neg:Bool)(vs:List PV)(s:Sto):Out PV:=mH vs s λn pp L r=>match r with
 |[.str h,.int v]=>if Nm h then(if l7 L h=true then(if neg=true/\v<0 then .ex a.NoLoss s else .ok .non (s.set n (.book pp (mR L h (g v))))) else .ex a.NoHouse s) else .bad
 |_=>.bad
def Cp{ad:BA->ak}(had:∀b z L,ad z∈BFp b z L)(vs)(H)(Q)(E)(h:spD K a.Book 3 (AQ a g neg) vs H Q E):vM K a ad g neg vs H Q E:=by
 obtain⟨_,ps,s,m,r,S,P⟩:=h;obtain⟨n,pp,L,z,L',us,ys,hg,B,e1,e2,rfl,r',P⟩:=onB S r P;split at P
 ·split at P
  ·rename_i h v hx;cases r' with
   |cons q1 r'=>cases r' with
    |cons q2 r' =>
     cases r';cases q1;cases q2;refine⟨_,z,pp,L',h,v,rfl,B,hx,λhh=>?_,λhh hn hv=>?_,λhh hv H' B' k=>?_⟩
     ·rw[oh,e1] at hh;rw[Zd (by rw[hh];decide)] at P;exact P H m .refl S
     ·rw[oh,e1] at hh;rw[Zc hh,Zc ⟨hn,hv⟩] at P;exact P H m .refl S
     ·rw[oh,e1] at hh;rw[Zc hh,Zd (λy=>absurd (hv y.1) (by have:=y.2;lia))] at P;obtain⟨S2,x2⟩:=M7 S hg e2 B' (λc o h hc=>k c o h λy=>hc (by rw[y];exact had _ _ _)) (λc hc=>.inl (by rw[FN] at hc;exact hc));rw[DB,e1] at S2 x2;exact P _ _ _ x2 S2 .non
  ·exact P.elim
 ·exact P.elim
noncomputable abbrev rZ(a:Adr):XF:=AQ a (λn x=>{ x with th:=n }) false
noncomputable abbrev AF(a:Adr):XF:=AQ a (λn x=>{ x with mr:=n }) false
noncomputable abbrev AG(a:Adr):XF:=AQ a (λn x=>{ x with ls:=n }) true
def Ew(vs)(H)(Q)(E)(h:spD K a.Book 3 (rZ a) vs H Q E):vM K a (·.dt) (λn x=>{ x with th:=n }) false vs H Q E:=Cp (λb z L=>by simp[BFp]) vs H Q E h
def Ij(vs)(H)(Q)(E)(h:spD K a.Book 3 (AF a) vs H Q E):vM K a (·.dm) (λn x=>{ x with mr:=n }) false vs H Q E:=Cp (λb z L=>by simp[BFp]) vs H Q E h
def Ik(vs)(H)(Q)(E)(h:spD K a.Book 3 (AG a) vs H Q E):vM K a (·.dl) (λn x=>{ x with ls:=n }) true vs H Q E:=Cp (λb z L=>by simp[BFp]) vs H Q E h
theorem Mt.imp(M:Mt P w K mg base C mm k ps sp)(h:∀vs H Q E,Sk vs H Q E->sp vs H Q E):Mt P w K mg base C mm k ps Sk :=
 let⟨f,fd,F,b⟩:=M;⟨f,fd,F.imp h,b⟩
theorem Fn.imp(M:Fn P w K mg base x k ps sp)(h:∀vs H Q E,Sk vs H Q E->sp vs H Q E):Fn P w K mg base x k ps Sk :=
 let⟨f,fd,F,b⟩:=M;⟨f,fd,F.imp h,b⟩
noncomputable instance (q:Int×Int):Decidable (Sz q):=dB _
end
end My
namespace L2
open PySem PySem.Spec PyProof.Rows
def NOw(u:HO):Prop:=∀o x,u≠.frz o (.own x)
section
variable{K:aa}{CB:ak}{H H':Hp}{m:Mp}{s:Sto}
mutual
theorem Rep.now(k:∀a u,H a=Za u->NOw u->H' a=Za u):∀{v:V}{p:PV},Rep K H m s v p->Rep K H' m s v p
 |_,_,.non=>.non
 |_,_,.bl=>.bl
 |_,_,.int=>.int
 |_,_,.str=>.str
 |_,_,.tup h r=>.tup (h.imp (λz=>⟨z.1.imp (λh=>k _ _ h (by intro _ _ z;cases z)) λ⟨o,h⟩=>⟨o,k _ _ h (by intro _ _ z;cases z)⟩,z.2⟩) λz=>z) (Reps.now k r)
 |_,_,.lst h p r=>.lst (k _ _ h (by intro _ _ z;cases z)) p (Reps.now k r)
 |_,_,.seq h r=>.seq (h.imp (λ⟨⟨o,z⟩,p⟩=>⟨⟨o,k _ _ z (by intro _ _ z;cases z)⟩,p⟩) λz=>z) (Reps.now k r)
 |_,_,.dct h p r=>.dct (h.imp (λh=>k _ _ h (by intro _ _ z;cases z)) λ⟨o,h⟩=>⟨o,k _ _ h (by intro _ _ z;cases z)⟩) p (RepKs.now k r)
 |_,_,.ref h=>.ref h
 |_,_,.exc h p=>.exc (k _ _ h (by intro _ _ z;cases z)) p
 |_,_,.clo r=>.clo (Reps.now k r)
theorem Reps.now(k:∀a u,H a=Za u->NOw u->H' a=Za u):∀{v:List V}{p:List PV},Reps K H m s v p->Reps K H' m s v p
 |_,_,.nil=>.nil
 |_,_,.cons a b=>.cons (Rep.now k a) (Reps.now k b)
theorem RepKs.now(k:∀a u,H a=Za u->NOw u->H' a=Za u):∀{v:List (Key×V)}{p:List (Key×PV)},RepKs K H m s v p->RepKs K H' m s v p
 |_,_,.nil=>.nil
 |_,_,.cons a b=>.cons (Rep.now k a) (RepKs.now k b)
end
variable{cs:List (ak×Obj)}
end
def Fro(H H':Hp):Prop:=∀a o u,H a=Za (.frz o u)->H' a=Za (.frz o u)
structure CloC(P:aK)(w:ba)(K:aa)(mg:Str->Option ai)(base:bx)(k:Nat)(CB f:ak)(vs:List V)(H:Hp)(dr:List PV->PV->Sto->Out PV):Prop where
 ex:∃of fd0 fd ps sp,H f=Za (fzO of)/\of.data=.func fd0/\FnOk P w K mg base (CXo P w) k f fd ps sp/\Binds K fd ps [] /\
  ∀H' m s v p l Q,Fro H H'->SR K CB H' m s->Reps K H' m s vs l->Rep K H' m s v p->Post K CB (Rep K) E0 (dr l p s) H' m s Q->sp [v] H' Q E0
open Classical in
section
variable{X:Cx}{CB:ak}{E:XK}{k i:Nat}{x:Str}{p pos:Pos}{e:bo}{g:XE}{f:ak}{vs:List V}{dr:List PV->PV->Sto->Out PV}
end
open Classical in
section
variable{X:Cx}{CB:ak}{E:XK}{k kb:Nat}{fn y q:Str}{p pos lpos:Pos}{g:XE}{params:jH}{body:bo}{scope:dG}{fr:List Str}{ix:List Nat}{cd P:ak}{D:ak->List V->(List PV->PV->Sto->Out PV)->XF}{pn:Str}
end
def xZ(fi:XA)(ix:List Nat)(c:XT)(e:XE)(Z:En)(s:Sto):Out PV:=(fi Z s).bind λl s1=>if l.length<=100000 then(nl c e (m8 ix Z) l s1).bind λvs s2=>.ok (.ref s2.nx) (s2.add (.lst vs)) else .bad
section
variable{X:Cx}{CB:ak}{E:XK}{a b c e PF iter tg:bo}{es PD:List bo}{f g h:XE}{fa fi:XA}{t:XT}{p px pos Pw Pg Ph:Pos}{x:Str}{st:bR}{pQ QO Qw:List bR}{u v:XS}{scope:dG}{fr:List Str}{ix:List Nat}
def Cmp.cell{K}{D}{H1 H2}{m1 m2}{s1 s2}{cap}{Z}{ys}{done}(C:Cmp K CB D H1 m1 s1 cap Z ys done H2 m2 s2)(hD:H1 D=Zb)(hn:D∉m1.hid) :
  SR K CB H2 ((m2.bare m1.hid).add s2.nx D [D]) (s2.add (.lst done))/\Ext H1 m1 s1 H2 ((m2.bare m1.hid).add s2.nx D [D]) (s2.add (.lst done)):=by
 have S:=C.sr;have P5:D∈m2.hid:=by rw[C.hid];exact ag
 have Pt:∀j∈s2.cs.map (·.1),j≠s2.nx:=λj hj=>aF (S.lt j hj);have QK:∀j∈s2.cs.map (·.1),((m2.bare m1.hid).add s2.nx D [D]).fp j=m2.fp j:=λj hj=>Zd (Pt j hj);have QP:((m2.bare m1.hid).add s2.nx D [D]).fp s2.nx=[D]:=Zc rfl;have had:((m2.bare m1.hid).add s2.nx D [D]).ad s2.nx=D:=Zc rfl;have nD:∀j∈s2.cs.map (·.1),D∉m2.fp j:=λj hj z=>S.hx j hj D z P5;have hk:∀{j:Nat},j∈(s2.add (.lst done)).cs.map (·.1)->j=s2.nx\/j∈s2.cs.map (·.1):=λ{j} hj=>ah.mp (show j∈s2.nx::s2.cs.map (·.1) from hj);have RX:∀a,a∈m1.hid->a∈m2.hid:=λa ha=>by rw[C.hid];exact ae _ ha
 have pur:∀a,a≠D->a∉m1.hid->(∀n∈s2.cs.map (·.1),a∉m2.fp n)->Pur ((m2.bare m1.hid).add s2.nx D [D]) (s2.add (.lst done)) a:=λa h1 h2 h3=>⟨h2,λj hj ha=>by
  rcases hk hj with rfl|hj
  ·rw[QP,ao] at ha;exact h1 ha
  ·rw[QK j hj] at ha;exact h3 j hj ha⟩
 have x:ExtR H2 m2 s2 H2 ((m2.bare m1.hid).add s2.nx D [D]) (s2.add (.lst done)):=⟨fL _,λj hj=>Zd (aF hj),λa u h p=>⟨h,pur a (λz=>p.1 (z▸P5)) (λz=>p.1 (RX a z)) p.2⟩,λa u h _ _=>h⟩;have e1:s1.nx<=s2.nx:=C.ex.nx;refine⟨⟨?_,?_,λq hq=>?_,λj hj i hi PL a ha hb=>?_,λj hj a ha hb=>?_,λa ha=>S.hs a (RX a ha),λP q t=>⟨?_,(S.tb P q t).2⟩⟩,⟨⟨⟨Nat.le_succ_of_le e1,λn hn=>?_,λa u h p=>?_,C.ex.el⟩,λn l hn h=>?_⟩,rfl,C.ex.hk⟩⟩
 ·exact ay.mpr ⟨λz=>Pt _ z rfl,S.nd⟩
 ·intro j hj;rcases hk hj with rfl|hj
  ·exact cC _
  ·exact cj (S.lt j hj)
 ·rcases ah.mp (show q∈(s2.nx,Cell.lst done)::s2.cs from hq) with rfl|hq
  ·exact⟨by rw[QP,had],ys,by rw[had];exact C.at_,C.rs.ext0 x⟩
  ·have Td:q.1∈s2.cs.map (·.1):=aj.mpr ⟨q,hq,rfl⟩;exact(S.ok q hq).keep S x (λa _ o h=>h) (x.ad _ (S.lt _ Td)) (QK _ Td)
 ·rcases hk hj with e|hj<;>rcases hk hi with e'|hi
  ·exact PL (e.trans e'.symm)
  ·rw[e,QP,ao] at ha;rw[QK i hi,ha] at hb;exact nD i hi hb
  ·rw[e',QP,ao] at hb;rw[QK j hj,hb] at ha;exact nD j hj ha
  ·rw[QK j hj] at ha;rw[QK i hi] at hb;exact S.dj j hj i hi PL a ha hb
 ·have hb:a∈m1.hid:=hb;rcases hk hj with e|hj
  ·rw[e,QP,ao] at ha;rw[ha] at hb;exact hn hb
  ·rw[QK j hj] at ha;exact S.hx j hj a ha (RX a hb)
 ·obtain⟨h1,ps,h2,_⟩:=S.tb P q t;rw[C.hid] at h1;rcases ah.mp h1 with z|z
  ·rw[z,C.at_] at h2;cases h2
  ·exact z
 ·have:n≠s2.nx:=aF (aA hn e1);exact(Zd this).trans (C.ex.ad n hn)
 ·obtain⟨h1,p1⟩:=C.ex.pu a u h p;exact⟨h1,pur a (h.ne hD) p1.1 p1.2⟩
 ·obtain⟨h1,h2⟩:=C.ex.df n l hn h;refine⟨?_,h2⟩;show p4 ((s2.nx,Cell.lst done)::s2.cs) n=_;unfold p4;rw[Zd (λz=>aF (aA hn e1) z.symm)];exact h1
def Hy{t}(S1:SR X.K CB H1 m1 s1)(er:ER X.K H1 m1 s1 O Z)(it:p7 X.K CB J l H1 m1 s1)(hD:H1 D=Zb)(Pk:l.length<=100000)(P:Post X.K CB (Rep X.K) E ((nl t f (m8 ix Z) l s1).bind λvs s2=>.ok (.ref s2.nx) (s2.add (.lst vs))) H1 m1 s1 Q):CompB J (TDT X.K CB E0 t) (TDE X.K CB E0 f) (capt ix O) D H1 Q:=by
 refine⟨λi k ys H2=>∃done m2 s2,Cmp X.K CB D H1 m1 s1 (capt ix O) (m8 ix Z) ys done H2 m2 s2/\i<=l.length/\ys.length<=i/\k=l.length-i/\(nl t f (m8 ix Z) l s1).bind (λvs s2=>.ok (PV.ref s2.nx) (s2.add (.lst vs)))=(nl t f (m8 ix Z) (l.drop i) s2).bind λvs s2=>.ok (.ref s2.nx) (s2.add (.lst (done++vs))),⟨l.length,[],m1.hide D,s1,Cmp.start S1 (er.capt ix) hD,aZ _,aZ _,rfl,?_⟩,?_⟩
 ·simp
 rintro i k ys H2 ⟨done,m2,s2,C,hi,hy,rfl,eq⟩
 obtain⟨RU,Rn⟩:=it i H2 m2 s2 C.e0 C.sr;by_cases Pt:i<l.length
 ·right;have hq:l[i]?=Za l[i]:=au Pt;obtain⟨go,yl⟩:=RU _ hq;refine⟨go,λx H3 S6=>?_⟩;obtain⟨e3,S3,r3⟩:=yl x H3 S6;have C3:=C.step hD e3 S3;rw[eJ Pt] at eq;rw[eq] at P;rw[oH] at P eq;refine⟨Za l[i]::m8 ix Z,s2,m2,C3.er.cons r3,S3,?_⟩;cases ct:t (Za l[i]::m8 ix Z) s2 with
  |bad=>rw[ct] at P;exact P.elim
  |ex c3 s3=>rw[ct] at P;exact P.elim
  |ok bt s3 =>
   rw[ct] at P eq;intro b4 H4 m4 e4 S4 hb;subst hb;have C4:=C3.step hD e4 S4;cases b4 with
   |false =>
    exact LX ⟨l.length-(i+1),by omega,done,m4,s3,C4,Pt,by omega,rfl,eq⟩
   |true =>
    refine LW ⟨Za l[i]::m8 ix Z,s3,m4,C4.er.cons (r3.ext e4),S4,?_⟩;dsimp only at P eq;cases cf:f (Za l[i]::m8 ix Z) s3 with
    |bad=>rw[cf] at P;exact P.elim
    |ex c5 s5=>rw[cf] at P;exact P.elim
    |ok v s5 =>
     rw[cf] at eq;intro w H5 m5 e5 S5 r5;have C5:=C4.step hD e5 S5;refine⟨C5.at_,aQ (aH hy (aH hi Pk)) (by decide),l.length-(i+1),by omega,done++[v],m5,s5,C5.push hD r5,Pt,by simp;omega,rfl,?_⟩;rw[eq];dsimp only;cases hh:nl t f (m8 ix Z) (l.drop (i+1)) s5 with
     |ok vs s6=>simp[Out.bind]
     |ex c6 s6=>exact absurd hh zW
     |bad=>rfl
 ·left;have Qn:l.length<=i:=eE Pt;rw[fj Qn] at eq;rw[eq] at P;unfold nl at P;obtain⟨TQ,Qd⟩:=C.cell hD λz=>(S1.hs D z).1 hD;have P:Post X.K CB (Rep X.K) E (.ok (.ref s2.nx) (s2.add (.lst (done++[])))) H1 m1 s1 Q:=P;rw[cS] at P;refine⟨Rn Qn,C.at_,?_⟩;have P:=P (.ref D) H2 ((m2.bare m1.hid).add s2.nx D [D]) Qd TQ;have e0:((m2.bare m1.hid).add s2.nx D [D]).ad s2.nx=D:=Zc rfl;refine P ?_;have r:=Rep.ref (K:=X.K) (H:=H2) (m:=(m2.bare m1.hid).add s2.nx D [D]) (s:=s2.add (.lst done)) (n:=s2.nx) (cC _);rw[e0] at r;exact r
def Dj{t}(q:TDE X.K CB E (xZ fi ix t f) O H Q):HL (TDI X.K CB E fi) ix (TDT X.K CB E0 t) (TDE X.K CB E0 f) O H Q:=by
 obtain⟨Z,s,m,er,S,P⟩:=q;refine⟨Z,s,m,er,S,?_⟩;unfold xZ at P;cases c:fi Z s with
 |bad=>rw[c] at P;exact P
 |ex c' s'=>rw[c] at P;exact P
 |ok l s1 =>
  rw[c] at P;dsimp only[Out.bind] at P;split at P
  ·rename_i Pk;intro J H1 m1 e1 S1 it D hD;exact Hy S1 (er.ext e1) it hD Pk (Post.shift e1 P)
  ·exact P.elim
def Di(hi:DI X CB E (.Name x px) iter fi)(he:∀cl C Pl Pm fp,DE (blk X scope cl C (x::fr) Pl Pm fp) CB E0 PF f)(ht:∀cl C Pl Pm fp,DIfs (blk X scope cl C (x::fr) Pl Pm fp) CB PD t:=by exact λ_ _ _ _ _=>uz)(hN:X.N.Nodup:=by exact ‹FnScope _ _ _›.nd)(Rv:X.N[i]?=Za y:=by rfl)(Q5:X.env.scope.names.lookup y=Za .local:=by rfl)(hc:X.calm=true:=by rfl)(S:CompOk X.N X.env.scope scope x fr ix:=by exact Pb ‹FnScope _ _ _›)(Rp:dL (.ListComp PF [⟨.Name x px,iter,PD,0⟩] scope pos) (Za (.Name y py)) spos.line X.env=pure true:=by rfl)(hs:∀v,b6 iter X.env v=pure v:=by intro _;rfl):DS X CB E (.Assign [.Name y py] (.ListComp PF [⟨.Name x px,iter,PD,0⟩] scope pos) spos) (xSet i (xZ fi ix t f)) :=
 ⟨(yN hN Rv Q5 hc S hi.pi (λcl C Pl Pm fp=>(ht cl C Pl Pm fp).pifs) (λcl C Pl Pm fp=>(he cl C Pl Pm fp).pe) Rp hs).mono λD O H=>oE λZ s m er S P =>
  Dj ⟨Z,s,m,er,S,Post.so P λv s1 u H1 m1 e1 S1 r1 P1=>P1.next S1 ((er.ext e1).set i r1)⟩⟩
end
section
variable{prog:aK}{w:ba}{A:cA}{R:Result->ax->Prop}{I:ak}{fp wr:List ak}{G:Array GenState->Array GenState->Prop}{n:Nat}{P:Nat->ai->Prop}{St:Nat->ax->Prop}
end
section
variable{prog:aK}{w:ba}{A:cA}{E:ai->ax->Prop}{s:ax}
end
section
variable{X:Cx}{x y:Str}{p q pos UJ:Pos}{e:bo}{te:TE}
end
section
variable{X:Cx}{e st:bo}{te:TE}{ts:TO}{pos p2:Pos}
end
section
variable{X:Cx}{CB:ak}{E:XK}{a b c e st:bo}{es:List bo}{f g h:XE}{fa:XA}{t:XT}{p q p2 pos UJ:Pos}{x y:Str}
end
section
variable{X:Cx}{PF iter tg:bo}{PD:List bo}{pos:Pos}{scope:dG}{wi:TI}{tc:TT}{te:TE}{gt:TG}{xs fr:List Str}{ix:List Nat}
def IG(hc:X.calm=true)(S:CompOkG X.N X.env.scope scope xs fr ix)(hi:PI X tg iter wi)(hg:∀cl C Pl Pm fp,PG (blk X scope cl C (xs++fr) Pl Pm fp) tg gt)(ht:∀cl C Pl Pm fp,Ff (blk X scope cl C (xs++fr) Pl Pm fp) PD tc)(he:∀cl C Pl Pm fp,PE (blk X scope cl C (xs++fr) Pl Pm fp) PF te)(hs:∀v,b6 iter X.env v=pure v:=by intro _;rfl):PE X (.ListComp PF [⟨tg,iter,PD,0⟩] scope pos) (Fh wi ix gt xs.length tc te):=by
 intro Pf s O H Q I h;have Pn:∀y∈scope.names,y.2=.free->∃c,X.env.cells.lookup y.1=Za c:=λy hy hf=>I.ok.has y.1 (.inl (S.free y hy hf));rw[eval_ListComp];refine fc (use:=Zb) rfl hs (pC Pn) S.kind S.nm (thn (hi Pf s O H _ I h) λv s1 h1=>thn h1 λSr s2 h2=>?_);obtain⟨it,fp,tn,J,H2,e,I2,T,Qf,f2,q2⟩:=h2;subst e;refine vz (PR:=λPq C r s'=>compPost (model X.prog X.w) X.A X.xe Zb (EP X Pf O Q) Pq C r s') hc S hg ht he Pn I2 T Qf f2 q2 λD C H' s' I' Sg ⟨b1,b2,b3,b4⟩ Qr q'=>?_;obtain⟨m',Q4⟩:=Qr;refine⟨m',Q4,λh' RY=>⟨.ref D,H',?_,rfl,q'⟩⟩;exact I'.turned (t':=s'.toks) (it:=C) (λb o hb e=>RY.extBut b o hb e) Sg b1 (.inr b2) b3 b4
def Dc(hN:X.N.Nodup)(Rv:X.N[i]?=Za y)(Q5:X.env.scope.names.lookup y=Za .local)(hc:X.calm=true)(S:CompOkG X.N X.env.scope scope xs fr ix)(hi:PI X tg iter wi)(hg:∀cl C Pl Pm fp,PG (blk X scope cl C (xs++fr) Pl Pm fp) tg gt)(ht:∀cl C Pl Pm fp,Ff (blk X scope cl C (xs++fr) Pl Pm fp) PD tc)(he:∀cl C Pl Pm fp,PE (blk X scope cl C (xs++fr) Pl Pm fp) PF te)(Rp:dL (.ListComp PF [⟨tg,iter,PD,0⟩] scope pos) (Za (.Name y py)) spos.line X.env=pure true:=by rfl)(hs:∀v,b6 iter X.env v=pure v:=by intro _;rfl):PS X (.Assign [.Name y py] (.ListComp PF [⟨tg,iter,PD,0⟩] scope pos) spos) (MV (Fh wi ix gt xs.length tc te) (E5 i)):=by
 intro Pf s O H D0 I h;have Pn:∀y∈scope.names,y.2=.free->∃c,X.env.cells.lookup y.1=Za c:=λy hy hf=>I.ok.has y.1 (.inl (S.free y hy hf));rw[exec_Assign_Name_used _ _ _ _ Rp];refine aq (fU (aq ?_));show aS _ X.A (do let _ <-comprehension (.ListComp PF [⟨tg,iter,PD,0⟩] scope pos) scope X.env _ (newList []) false (eval iter X.env) (Za (assign (.Name y py) X.env))) _ _ s;refine aq (bN (fc (use:=Za (assign (.Name y py) X.env)) (Q:=λ_ s'=>SP X Pf D0 .next s') rfl hs (pC Pn) S.kind S.nm
  (thn (hi Pf s O H _ I h) λv s1 h1=>thn h1 λSr s2 h2=>?_)) (λ_ s' hq=>aM (aM hq)) λ_ _ e=>e)
 obtain⟨it,fp,tn,J,H2,e,I2,T,Qf,f2,q2⟩:=h2;subst e;refine vz (PR:=λPq C r s'=>compPost (model X.prog X.w) X.A X.xe (Za (assign (.Name y py) X.env)) (λ_ s'=>SP X Pf D0 .next s') Pq C r s') hc S hg ht he Pn I2 T Qf f2 q2 λD C H' s' I' Sg ⟨b1,b2,b3,b4⟩ Qr q'=>?_;obtain⟨m',Q4⟩:=Qr;refine jm (wQ (v:=.ref D) I' hN Rv (.inl Q5) rfl (λs5 I5 sb=>?_) (.inr Q5));obtain⟨a5,sb,Vp⟩:=sb;have Vv:C≠a5:=by
  rcases Vp with z|z
  ·rw[z];exact b1
  ·exact(b3 _ _ z).symm
 refine⟨m',Q4.sameBut sb Vv,λh' RY=>⟨_,H',?_,q'⟩⟩;exact I5.turned (t':=s5.toks) (it:=C) (λb o hb e=>RY.extBut b o hb e) Sg b1 (.inr b2) b3 b4
end
def CQ(q:PV)(s:Sto):Option (PV×PV):=match q with
 |.tup [p1,p2]=>Za (p1,p2)
 |_=>Zb
def y2:XG:=yTup 2 (yCons (yName 0) (yCons (yName 1) yNil))
def y2_of(h:CQ q s=Za (p1,p2)):y2 q (Zb::Zb::cap) s=Za (Za p1::Za p2::cap):=by
 unfold CQ at h;split at h
 ·cases h;rfl
 ·cases h
def mC(c:XT)(e:XE)(cap:En):List PV->Sto->Out (List PV)
 |[],s=>.ok [] s
 |q::l,s=>match CQ q s with
  |none=>.bad
  |some p=>match c (Za p.1::Za p.2::cap) s with
   |.ok true s1=>match e (Za p.1::Za p.2::cap) s1 with
    |.ok v s2=>match mC c e cap l s2 with
     |.ok vs s3=>.ok (v::vs) s3
     |_=>.bad
    |_=>.bad
   |.ok false s1=>mC c e cap l s1
   |_=>.bad
def xM:mC c e cap (q::l) s=match CQ q s with
  |none=>.bad
  |some p=>match c (Za p.1::Za p.2::cap) s with
   |.ok true s1=>match e (Za p.1::Za p.2::cap) s1 with
    |.ok v s2=>match mC c e cap l s2 with
     |.ok vs s3=>.ok (v::vs) s3
     |_=>.bad
    |_=>.bad
   |.ok false s1=>mC c e cap l s1
   |_=>.bad:=rfl
theorem BD:∀{l:List PV}{s s':Sto}{k:ak},mC c e cap l s≠.ex k s'
 |[],_,_,_,h=>by cases h
 |q::l,s,s',k,h=>by
  unfold mC at h;split at h
  ·cases h
  ·split at h
   ·split at h
    ·split at h<;>cases h
    ·cases h
   ·exact BD h
   ·cases h
def oI(fi:XA)(ix:List Nat)(c:XT)(e:XE)(Z:En)(s:Sto):Out PV:=(fi Z s).bind λl s1=>if l.length<=100000 then(mC c e (m8 ix Z) l s1).bind λvs s2=>.ok (.lst vs) s2 else .bad
section
variable{X:Cx}{CB:ak}{E:XK}{PF iter tg:bo}{PD:List bo}{f:XE}{fi:XA}{t:XT}{pos:Pos}{scope:dG}{xs fr:List Str}{ix:List Nat}
def ER.weak2{K}{H}{m}{s}{O}{p1 p2}{cap}(h:ER K H m s O (Za p1::Za p2::cap)):ER K H m s O (Zb::Zb::cap) :=
 ⟨h.len,λi p q=>by
  match i,q with
  |0,q=>cases q
  |1,q=>cases q
  |i+2,q=>exact h.at_ (i+2) p q⟩
def ER.none2{K}{H}{m}{s}{O}{cap}(h:ER K H m s O cap):ER K H m s (aR 2 Zb++O) (Zb::Zb::cap) :=
 ⟨by have:=h.len;simp at this ⊢;omega,λi p q=>by
  match i,q with
  |0,q=>cases q
  |1,q=>cases q
  |i+2,q=>exact h.at_ i p q⟩
def Cmp.env{K}{D}{H1 H2}{m1 m2}{s1 s2}{cap cap'}{Z ρ'}{ys}{done}(C:Cmp K CB D H1 m1 s1 cap Z ys done H2 m2 s2)(er:ER K H2 m2 s2 cap' ρ'):Cmp K CB D H1 m1 s1 cap' ρ' ys done H2 m2 s2:=⟨C.hid,C.at_,C.sr,er,C.rs,C.ex,C.e0⟩
def Hz{O}{H1}{m1}{s1}{Z}{J:It}{l}{D}{Q}{t}(S1:SR X.K CB H1 m1 s1)(er:ER X.K H1 m1 s1 O Z)(it:p7 X.K CB J l H1 m1 s1)(hD:H1 D=Zb)(Pk:l.length<=100000)(P:Post X.K CB (Rep X.K) E ((mC t f (m8 ix Z) l s1).bind λvs s2=>.ok (.lst vs) s2) H1 m1 s1 Q):C8 J (TDG X.K CB y2) 2 (TDT X.K CB E0 t) (TDE X.K CB E0 f) (capt ix O) D H1 Q:=by
 refine⟨λi k ys σ2 H2=>∃done m2 s2,Cmp X.K CB D H1 m1 s1 σ2 (Zb::Zb::m8 ix Z) ys done H2 m2 s2/\i<=l.length/\ys.length<=i/\k=l.length-i/\(mC t f (m8 ix Z) l s1).bind (λvs s2=>.ok (PV.lst vs) s2)=(mC t f (m8 ix Z) (l.drop i) s2).bind λvs s2=>.ok (.lst (done++vs)) s2,⟨l.length,[],m1.hide D,s1,(Cmp.start S1 (er.capt ix) hD).env ((er.capt ix).none2.ext0 (Ext0.hide hD).toExtR),aZ _,aZ _,rfl,?_⟩,?_⟩
 ·simp
 rintro i k ys σ2 H2 ⟨done,m2,s2,C,hi,hy,rfl,eq⟩
 obtain⟨RU,Rn⟩:=it i H2 m2 s2 C.e0 C.sr;by_cases Pt:i<l.length
 ·right;have hq:l[i]?=Za l[i]:=au Pt;obtain⟨go,yl⟩:=RU _ hq;refine⟨go,λx H3 S6=>?_⟩;obtain⟨e3,S3,r3⟩:=yl x H3 S6;have C3:=C.step hD e3 S3;rw[eJ Pt] at eq;rw[eq] at P;rw[xM] at P eq;cases hp:CQ l[i] s2 with
  |none=>rw[hp] at P;exact P.elim
  |some pq =>
   obtain⟨p1,p2⟩:=pq;rw[hp] at P eq;dsimp only at P eq;refine⟨_,s2,m2,l[i],_,C3.er,S3,r3,y2_of hp,λσ3 Rh=>?_⟩;have C3:=C3.env Rh;refine⟨_,s2,m2,Rh,S3,?_⟩;cases ct:t (Za p1::Za p2::m8 ix Z) s2 with
   |bad=>rw[ct] at P;exact P.elim
   |ex c3 s3=>rw[ct] at P;exact P.elim
   |ok bt s3 =>
    rw[ct] at P eq;intro b4 H4 m4 e4 S4 hb;subst hb;have C4:=C3.step hD e4 S4;cases b4 with
    |false =>
     exact LX ⟨l.length-(i+1),by omega,done,m4,s3,C4.env C4.er.weak2,Pt,by omega,rfl,eq⟩
    |true =>
     refine LW ⟨_,s3,m4,C4.er,S4,?_⟩;dsimp only at P eq;cases cf:f (Za p1::Za p2::m8 ix Z) s3 with
     |bad=>rw[cf] at P;exact P.elim
     |ex c5 s5=>rw[cf] at P;exact P.elim
     |ok v s5 =>
      rw[cf] at eq;intro w H5 m5 e5 S5 r5;have C5:=C4.step hD e5 S5;refine⟨C5.at_,aQ (aH hy (aH hi Pk)) (by decide),l.length-(i+1),by omega,done++[v],m5,s5,(C5.push hD r5).env (C5.push hD r5).er.weak2,Pt,by simp;omega,rfl,?_⟩;rw[eq];dsimp only;cases hh:mC t f (m8 ix Z) (l.drop (i+1)) s5 with
      |ok vs s6=>simp[Out.bind]
      |ex c6 s6=>exact absurd hh BD
      |bad=>rfl
 ·left;have Qn:l.length<=i:=eE Pt;rw[fj Qn] at eq;rw[eq] at P;unfold mC at P;obtain⟨TQ,rd⟩:=C.done;refine⟨Rn Qn,C.at_,P (.ref D) H2 (m2.bare m1.hid) C.ex TQ ?_⟩;rw[cS];exact rd λz=>(S1.hs D z).1 hD
def xN{t}(q:TDE X.K CB E (oI fi ix t f) O H Q):Fh (TDI X.K CB E fi) ix (TDG X.K CB y2) 2 (TDT X.K CB E0 t) (TDE X.K CB E0 f) O H Q:=by
 obtain⟨Z,s,m,er,S,P⟩:=q;refine⟨Z,s,m,er,S,?_⟩;unfold oI at P;cases c:fi Z s with
 |bad=>rw[c] at P;exact P
 |ex c' s'=>rw[c] at P;exact P
 |ok l s1 =>
  rw[c] at P;dsimp only[Out.bind] at P;split at P
  ·rename_i Pk;intro J H1 m1 e1 S1 it D hD;exact Hz S1 (er.ext e1) it hD Pk (Post.shift e1 P)
  ·exact P.elim
variable{Qe Qd:Str}{q1 q2 q3:Pos}{kt:Nat}
def Gk(hN:([Qe,Qd]++fr).Nodup)(h1:scope.names.lookup Qe=Za .local)(h2:scope.names.lookup Qd=Za .local):DG (blk X scope cl C ([Qe,Qd]++fr) Pl Pm fp) CB (.Tuple [.Name Qe q1,.Name Qd q2] kt q3) y2 :=
 tu (mJ (mD 0 hN rfl (.inl (dD h1)) (.inr (dD h1))) (mJ (mD 1 hN rfl (.inl (dD h2)) (.inr (dD h2))) qA))
def zT(hi:DI X CB E (.Tuple [.Name Qe q1,.Name Qd q2] kt q3) iter fi)(he:∀cl C Pl Pm fp,DE (blk X scope cl C ([Qe,Qd]++fr) Pl Pm fp) CB E0 PF f)(ht:∀cl C Pl Pm fp,DIfs (blk X scope cl C ([Qe,Qd]++fr) Pl Pm fp) CB PD t:=by exact λ_ _ _ _ _=>uz)(hc:X.calm=true:=by rfl)(S:CompOkG X.N X.env.scope scope [Qe,Qd] fr ix:=by exact cokG ‹FnScope _ _ _›)(h1:scope.names.lookup Qe=Za .local:=by rfl)(h2:scope.names.lookup Qd=Za .local:=by rfl)(hs:∀v,b6 iter X.env v=pure v:=by intro _;rfl):DE X CB E (.ListComp PF [⟨.Tuple [.Name Qe q1,.Name Qd q2] kt q3,iter,PD,0⟩] scope pos) (oI fi ix t f) :=
 ⟨(IG hc S hi.pi (λcl C Pl Pm fp=>(Gk (CB:=CB) S.nd h1 h2).pg) (λcl C Pl Pm fp=>(ht cl C Pl Pm fp).pifs) (λcl C Pl Pm fp=>(he cl C Pl Pm fp).pe) hs).mono λO H Q q=>xN q⟩
def xJ(hi:DI X CB E (.Tuple [.Name Qe q1,.Name Qd q2] kt q3) iter fi)(he:∀cl C Pl Pm fp,DE (blk X scope cl C ([Qe,Qd]++fr) Pl Pm fp) CB E0 PF f)(ht:∀cl C Pl Pm fp,DIfs (blk X scope cl C ([Qe,Qd]++fr) Pl Pm fp) CB PD t:=by exact λ_ _ _ _ _=>uz)(hN:X.N.Nodup:=by exact ‹FnScope _ _ _›.nd)(Rv:X.N[i]?=Za y:=by rfl)(Q5:X.env.scope.names.lookup y=Za .local:=by rfl)(hc:X.calm=true:=by rfl)(S:CompOkG X.N X.env.scope scope [Qe,Qd] fr ix:=by exact cokG ‹FnScope _ _ _›)(h1:scope.names.lookup Qe=Za .local:=by rfl)(h2:scope.names.lookup Qd=Za .local:=by rfl)(Rp:dL (.ListComp PF [⟨.Tuple [.Name Qe q1,.Name Qd q2] kt q3,iter,PD,0⟩] scope pos) (Za (.Name y py)) spos.line X.env=pure true:=by rfl)(hs:∀v,b6 iter X.env v=pure v:=by intro _;rfl):DS X CB E (.Assign [.Name y py] (.ListComp PF [⟨.Tuple [.Name Qe q1,.Name Qd q2] kt q3,iter,PD,0⟩] scope pos) spos) (xSet i (oI fi ix t f)) :=
 ⟨(Dc hN Rv Q5 hc S hi.pi (λcl C Pl Pm fp=>(Gk (CB:=CB) S.nd h1 h2).pg) (λcl C Pl Pm fp=>(ht cl C Pl Pm fp).pifs) (λcl C Pl Pm fp=>(he cl C Pl Pm fp).pe) Rp hs).mono λD O H=>oE λZ s m er S P =>
  xN ⟨Z,s,m,er,S,Post.so P λv s1 u H1 m1 e1 S1 r1 P1=>P1.next S1 ((er.ext e1).set i r1)⟩⟩
end
def numS(i:Int):Str:=aP (toString i)
section
variable{X:Cx}{CB:ak}{E:XK}{a b e:bo}{f g:XE}{pos p1 p2 p3:Pos}
def HB:CallR X (.type "str") (λxs H Q=>(∃i,xs=[.int i]/\i.natAbs.log2<1920/\Q (.str (numS i)) H)\/∃x,xs=[.str x]/\Q (.str x) H):=by
 intro Pf s O H xs us Q I r h;rcases h with⟨i,rfl,hz,q⟩|⟨x,rfl,q⟩
 ·obtain⟨u,rfl,t,rfl⟩:=qI r;exact PySem.P.str_of_int hz ⟨.str _,H,I.tok _,⟨_,rfl⟩,q⟩
 ·obtain⟨u,rfl,t,rfl⟩:=qI r;exact PySem.P.str_of_str ⟨.str _,H,I,⟨_,rfl⟩,q⟩
def fStr(vs:List PV)(s:Sto):Out PV:=match vs with
 |[.int i]=>if i.natAbs.log2<1920 then .ok (.str (numS i)) s else .bad
 |[.str x]=>.ok (.str x) s
 |_=>.bad
def b_str:BltR X CB E (.type "str") fStr:=⟨_,HB,by
 intro H m s v x Q S rx P;unfold fStr at P;split at P
 ·split at P
  ·rename_i hz;cases rx with
   |cons r n=>cases n;cases r;exact .inl ⟨_,rfl,hz,P.here S .str⟩
  ·exact P.elim
 ·cases rx with
  |cons r n=>cases n;cases r;exact .inr ⟨_,rfl,P.here S .str⟩
 ·exact P.elim⟩
end
structure DEx(X:Cx)(CB:ak)(e:bo)(f:XE):Prop where
 pex:PEx X e (λE=>TDE X.K CB E f)
structure DSx(X:Cx)(CB:ak)(st:bR)(u:XS):Prop where
 psx:PSx X st (λE=>TDS X.K CB E u)
section
variable{X:Cx}{CB:ak}{E:XK}{a b c e:bo}{es:List bo}{f g h:XE}{fa:XA}{t:XT}{p pos Pw Pg Ph np hp:Pos}{x y:Str}{st ba0:bR}{bs QO:List bR}{u v:XS}{n k:Nat}{D:XF}{ps:List Str}
open Classical in
def z7(f:XE)(fa:XA)(Z:En)(s:Sto):Out PV:=(f Z s).bind λv s1=>match v with
 |.lst l=>(fa Z s1).bind λvs s2=>match vs with
  |[.str y]=>match sZ l with
   |some ss=>match ss.findIdx? λz=>decide (z=y) with
    |some j=>if ss.length<1000 then .ok (.int (j:Nat)) s2 else .bad
    |none=>.bad
   |none=>.bad
  |_=>.bad
 |_=>.bad
def Jn(ho:DE X CB E a f)(ha:DA X CB E (e::es) fa)(PB:cz a "index" X.env (eval a X.env)=eval a X.env:=by rfl)(Qz:((b5 Ph (aB (e::es) X.env)).all (λx=>!x.1)&&(eL Ph (cU [] X.env)).all (λx=>x.1.isSome)
   && decide ((e::es).length+([]:List fG).length+(if([]:List fG).isEmpty then 0 else 1)<30))=true:=by rfl)(Pz:(Pg.endLine==Ph.line)=true:=by rfl)(hs:SEb X e es:=by rfl)(PZ:(b5 Ph (aB es X.env)).any (·.1)=false:=by rfl) :
  DE X CB E (.Call (.Attribute a "index" Pg) (e::es) [] Ph) (z7 f fa) :=
 ⟨(Kv gh jz PySem.F.type_list_index IT ho.pe ha.pa PB Qz Pz hs PZ).mono λO H Q=>oE λZ s m er S P=>⟨Z,s,m,er,S,P.bind λv s1 u H1 m1 e1 S1 r1 P1=>by
  split at P1
  ·rename_i l;cases r1 with
   |@lst ad QV _ h0 pu q0 =>
   refine⟨.inl ⟨rfl,QV,SqL.of h0⟩,Z,s1,m1,er.ext e1,S1,P1.bind λvs s2 us H2 m2 e2 S2 r2 P2=>?_⟩;split at P2
   ·rename_i y;split at P2
    ·rename_i ss hss;split at P2
     ·rename_i j hj;split at P2
      ·rename_i hl;cases r2 with
       |cons r n' =>
        cases n';cases r;have ev:QV=ss.map V.str:=by have e9:=uD hss;rw[e9] at q0;exact q0.strs
        obtain⟨Pt,hp,QJ⟩:=iQ.mp hj;refine⟨ad,ss,y,j,rfl,rfl,?_,?_,λi hi z=>?_,hl,P2.here S2 .int⟩
        ·rw[<-ev];exact e2.el ad _ h0 (by intro kvs z;cases z) pu
        ·rw[au Pt,Zf hp]
        ·have:=QJ i hi;have R8:i<ss.length:=by lia
         rw[au R8] at z;rw[aO z] at this;simp at this
      ·exact P2.elim
     ·exact P2.elim
    ·exact P2.elim
   ·exact P2.elim
  ·exact P1.elim⟩⟩
open Classical in
end
open PySem.Builtin.Str
section
variable{X:Cx}{CB:ak}{E:XK}{a b c e:bo}{es:List bo}{f g h:XE}{fa:XA}{t:XT}{p pos Pw Pg Ph np hp:Pos}{x y:Str}{st ba0:bR}{bs QO:List bR}{u v:XS}{n k:Nat}{D:XF}{ps:List Str}
def xBad:XS:=λ_ _=>.bad
def OL:DS X CB E st xBad:=⟨λPf s O H D I ⟨_,_,_,_,_,P⟩=>P.elim⟩
end
def Co{x y:Str}(h:x.cps.toList=y.cps.toList):x=y:=by obtain⟨⟨l⟩⟩:=x;obtain⟨⟨k⟩⟩:=y;cases h;rfl
open PySem.NumText PySem.W in
section
variable{X:Cx}
variable{CB:ak}{E:XK}{a b c e:bo}{f g h:XE}{p pos:Pos}
end
section
variable{X:Cx}{CB:ak}{E:XK}{x:Str}{k n:Nat}{ps:List Str}{D:XF}{p pos:Pos}
def bt_dict:bP "dict"=Za (.type "dict"):=by decide +kernel
end
def sem:=al @fnD.eq_1 <|al @xSeq.eq_1 <|al @xSet.eq_1 <|al @xRet.eq_1 <|al @xRetN.eq_1 <|al @xDo.eq_1 <|al @xIf.eq_1 <|al @xEnd.eq_1 <|al @xPut.eq_1 <|al @xPar.eq_1 <|al @xAsg.eq_1 <|al @x1.eq_1 <|al @x2.eq_1 <|al @xVar.eq_1 <|al @xC.eq_1 <|al @xB.eq_1 <|al @xCall.eq_1 <|al @xBM.eq_1 <|al @xCons.eq_1 <|al @xNil.eq_1 <|al @xTup.eq_1 <|al @xLst.eq_1 <|al @xLstC.eq_1 <|al @xTr.eq_1 <|al @xNot.eq_1 <|al @xAnd.eq_1 <|al @xOr.eq_1 <|al @xAndV.eq_1 <|al @xOrV.eq_1 <|al @xNotV.eq_1 <|al @xSl.eq_1 <|al @xNoP.eq_1 <|al @xPart.eq_1 <|al @xIter.eq_1 <|al @xRng1.eq_1 <|al @xIterS.eq_1 <|al @xIterD.eq_1 <|al @xFor.eq_1 <|al @xFrz.eq_1 <|al @frz1.eq_1 <|al @frz1.eq_2 <|al @xAppend.eq_1 <|al @xGet.eq_1 <|al @xJoin.eq_1 <|al @xNewD.eq_1 <|al @xDisp.eq_1 <|al @xIsiT.eq_1 <|al @xIfe.eq_1 <|al @xChain.eq_1 <|al @xBook.eq_1 <|al @Out.bind.eq_1 <|al @Out.bind.eq_2 <|al @Out.bind.eq_3 <|al @Out.so.eq_1 <|al @Out.so.eq_2 <|al @Out.so.eq_3 <|al @SO.noex.eq_1 <|al @SO.noex.eq_2 <|al @fAdd.eq_1 <|al @fAdd.eq_2 <|al @fAdd.eq_3 <|al @fSub.eq_1 <|al @fSub.eq_2 <|al @fMul.eq_1 <|al @fMul.eq_2 <|al @fMul.eq_3 <|al @fDiv.eq_1 <|al @fDiv.eq_2 <|al @fMod.eq_1 <|al @fMod.eq_2 <|al @fPow.eq_1 <|al @fPow.eq_2 <|al @fCmp.eq_1 <|al @fCmp.eq_2 <|al @fEqN.eq_1 <|al @fIs.eq_1 <|al @fIs.eq_2 <|al @fIsnt.eq_1 <|al @fIsnt.eq_2 <|al @fIx.eq_1 <|al @fIx.eq_2 <|al @fIx.eq_3 <|al @fIx.eq_4 <|al @fIx.eq_5 <|al @fNeg.eq_1 <|al @fNeg.eq_2 <|al @fSl.eq_1 <|al @fSl.eq_2 <|al @fLen.eq_1 <|al @fLen.eq_2 <|al @fLen.eq_3 <|al @fLen.eq_4 <|al @fAbs.eq_1 <|al @fAbs.eq_2 <|al @fInt.eq_1 <|al @fInt.eq_2 <|al @fInt.eq_3 <|al @fTuple.eq_1 <|al @fTuple.eq_2 <|al @fList.eq_1 <|al @fList.eq_2 <|al @fList.eq_3 <|al @fAll.eq_1 <|al @fAll.eq_2 <|al @lsOf.eq_1 <|al @lsOf.eq_2 <|al @lsOf.eq_3 <|al @lsOf.eq_4 <|al @dcOf.eq_1 <|al @dcOf.eq_2 <|al @dcOf.eq_3 <|al @kyOf.eq_1 <|al @kyOf.eq_2 <|al @kyOf.eq_3 <|al @toV.eq_1 <|al @toV.eq_2 <|al @toV.eq_3 <|al @toV.eq_4 <|al @toV.eq_5 <|al @toVs.eq_1 <|al @toVs.eq_2 <|al @yName.eq_1 <|al @yNil.eq_1 <|al @yNil.eq_2 <|al @yCons.eq_1 <|al @yCons.eq_2 <|al @yTup.eq_1 <|al @yTup.eq_2 <|@xOnly.eq_1
section
variable{P:aK}{w:ba}{K:aa}{mg:Str->Option ai}{base h:bx}{x q:Str}{st:bR}{f C:ak}{fd:cq}{ps:List Str}{sp:Sp}{k:Nat}{oc kV dc pm cd ct:ai}{od an:Option ak}{sl:Array (Option ai)}
def Bd(x q:Str)(st:bR)(ps:List Str):Prop:=∀(kV dc pm:ai)(an:Option ak)(cd ct:ai)(us:List ai),us.length=ps.length->fX (bX x q (n8 st) (nc st) (lK st) .none kV dc pm an cd ct) ⟨us,[]⟩=pure (ps.zip us)
def uu:∀{us:List ai},us.length=n+1->∃v r,us=v::r/\r.length=n
 |v::r,h=>⟨v,r,rfl,jB h⟩
def bd0(e:ps.length=0:=by rfl)(h:∀kV dc pm an cd ct,fX (bX x q (n8 st) (nc st) (lK st) .none kV dc pm an cd ct) ⟨[],[]⟩=pure (ps.zip []):=by intros;rfl):Bd x q st ps:=λ_ _ _ _ _ _ us hl=>by have l0:=hl.trans e;cases bV l0;exact h _ _ _ _ _ _
def bd1(e:ps.length=1:=by rfl)(h:∀kV dc pm an cd ct (v0:ai),fX (bX x q (n8 st) (nc st) (lK st) .none kV dc pm an cd ct) ⟨[v0],[]⟩=pure (ps.zip [v0]):=by intros;rfl):Bd x q st ps:=λ_ _ _ _ _ _ us hl=>by have l0:=hl.trans e;obtain⟨_,us,rfl,l1⟩:=uu l0;cases bV l1;exact h _ _ _ _ _ _ _
def bd2(e:ps.length=2:=by rfl)(h:∀kV dc pm an cd ct (v0 v1:ai),fX (bX x q (n8 st) (nc st) (lK st) .none kV dc pm an cd ct) ⟨[v0,v1],[]⟩=pure (ps.zip [v0,v1]):=by intros;rfl):Bd x q st ps:=λ_ _ _ _ _ _ us hl=>by have l0:=hl.trans e;obtain⟨_,us,rfl,l1⟩:=uu l0;obtain⟨_,us,rfl,l2⟩:=uu l1;cases bV l2;exact h _ _ _ _ _ _ _ _
def bd3(e:ps.length=3:=by rfl)(h:∀kV dc pm an cd ct (v0 v1 v2:ai),fX (bX x q (n8 st) (nc st) (lK st) .none kV dc pm an cd ct) ⟨[v0,v1,v2],[]⟩=pure (ps.zip [v0,v1,v2]):=by intros;rfl):Bd x q st ps:=λ_ _ _ _ _ _ us hl=>by have l0:=hl.trans e;obtain⟨_,us,rfl,l1⟩:=uu l0;obtain⟨_,us,rfl,l2⟩:=uu l1;obtain⟨_,us,rfl,l3⟩:=uu l2;cases bV l3;exact h _ _ _ _ _ _ _ _ _
def bd4(e:ps.length=4:=by rfl)(h:∀kV dc pm an cd ct (v0 v1 v2 v3:ai),fX (bX x q (n8 st) (nc st) (lK st) .none kV dc pm an cd ct) ⟨[v0,v1,v2,v3],[]⟩=pure (ps.zip [v0,v1,v2,v3]):=by intros;rfl):Bd x q st ps:=λ_ _ _ _ _ _ us hl=>by have l0:=hl.trans e;obtain⟨_,us,rfl,l1⟩:=uu l0;obtain⟨_,us,rfl,l2⟩:=uu l1;obtain⟨_,us,rfl,l3⟩:=uu l2;obtain⟨_,us,rfl,l4⟩:=uu l3;cases bV l4;exact h _ _ _ _ _ _ _ _ _ _
def bd5(e:ps.length=5:=by rfl)(h:∀kV dc pm an cd ct (v0 v1 v2 v3 v4:ai),fX (bX x q (n8 st) (nc st) (lK st) .none kV dc pm an cd ct) ⟨[v0,v1,v2,v3,v4],[]⟩=pure (ps.zip [v0,v1,v2,v3,v4]):=by intros;rfl):Bd x q st ps:=λ_ _ _ _ _ _ us hl=>by have l0:=hl.trans e;obtain⟨_,us,rfl,l1⟩:=uu l0;obtain⟨_,us,rfl,l2⟩:=uu l1;obtain⟨_,us,rfl,l3⟩:=uu l2;obtain⟨_,us,rfl,l4⟩:=uu l3;obtain⟨_,us,rfl,l5⟩:=uu l4;cases bV l5;exact h _ _ _ _ _ _ _ _ _ _ _
def bd6(e:ps.length=6:=by rfl)(h:∀kV dc pm an cd ct (v0 v1 v2 v3 v4 v5:ai),fX (bX x q (n8 st) (nc st) (lK st) .none kV dc pm an cd ct) ⟨[v0,v1,v2,v3,v4,v5],[]⟩=pure (ps.zip [v0,v1,v2,v3,v4,v5]):=by intros;rfl):Bd x q st ps:=λ_ _ _ _ _ _ us hl=>by have l0:=hl.trans e;obtain⟨_,us,rfl,l1⟩:=uu l0;obtain⟨_,us,rfl,l2⟩:=uu l1;obtain⟨_,us,rfl,l3⟩:=uu l2;obtain⟨_,us,rfl,l4⟩:=uu l3;obtain⟨_,us,rfl,l5⟩:=uu l4;obtain⟨_,us,rfl,l6⟩:=uu l5;cases bV l6;exact h _ _ _ _ _ _ _ _ _ _ _ _
structure Gx(K:aa)(x:Str):Prop where
 ex:∃X,bQ K a7 x=Za (Za (.ref X))/\Exc K X
def gx(n:bQ K a7 x=Za (Za (.ref X)))(a:jt K X bmV "ValueError.__new__"=true)(b:aU K (.ref X) "__getattribute__"=Za (Za (.builtin "BaseException.__getattribute__")))(c:aU K (.ref X) "__getattr__"=Za Zb)(d:aU K (.ref X) "__class__"=Za (Za (.builtin "object.__class__")))(e:fZ K (.builtin "object.__class__") "__get__"=Za (Za (.builtin "getset_descriptor.__get__")))(f:i0 K (.builtin "object.__class__")=Za true)(g:f8 K X (.type "object")=Za true)(h:f8 K X (.type "BaseException")=Za true):Gx K x:=⟨X,n,a,b,c,d,e,f,g,h⟩
structure Gb(K:aa)(C:ak):Prop where
 n:bQ K a7 "Book"=Za (Za (.ref C))
 p:d6 K C cx=true
 h:eT K C=true
 o:f6 K C=true
 s:aU K (.ref C) "__setattr__"=Za (Za (.builtin "object.__setattr__"))
 m:fE K C=true
 k:cD K (.ref C)=true
 a:aU K (.ref C) "people"=Za Zb
 b:aU K (.ref C) "things_of"=Za Zb
 c:aU K (.ref C) "mark_of"=Za Zb
 d:aU K (.ref C) "loss_of"=Za Zb
 e:aU K (.ref C) "held_of"=Za Zb
structure Gt(K:aa)(x:Str)(u v:Int):Prop where
 ex:∃(f:ak)(od:Option ak)(a b:Tok)(n:Nat)(sl:Array (Option ai)),bQ K a7 x=Za (Za (.ref f))/\K.lookup f=Za ⟨.type "tuple",od,.seq #[.int u a,.int v b] n,sl⟩
def gt(h:bQ K a7 x=Za (Za (.ref f)))(l:K.lookup f=Za ⟨.type "tuple",od,.seq #[.int u a,.int v b] n,sl⟩):Gt K x u v:=⟨f,od,a,b,n,sl,h,l⟩
structure Gi(K:aa)(x:Str)(u:Int):Prop where
 ex:∃t,bQ K a7 x=Za (Za (.int u t))
def gi(h:bQ K a7 x=Za (Za (.int u t))):Gi K x u:=⟨t,h⟩
structure Gz(K:aa)(x:Str):Prop where
 z:bQ K a7 x=Za Zb
def Gz.at_(c:Gz K x)(X:K.In h)(G:h.Ns a7 mg):mg x=none:=PySem.W.mg_none_of X G c.z
structure Gf(K:aa)(x:Str)(st:bR):Prop where
 ex:∃f fd,bQ K a7 x=Za (Za (.ref f))/\Fun K x x st f fd
structure Gm(K:aa)(C:ak)(x q:Str)(st:bR):Prop where
 ex:∃f fd,aU K (.ref C) x=Za (Za (.ref f))/\gy K (.ref f)=true/\Fun K x q st f fd
def gf(h:bQ K a7 x=Za (Za (.ref f)))(l:K.lookup f=Za ⟨oc,od,.func (bX x x (n8 st) (nc st) (lK st) .none kV dc pm an cd ct),sl⟩)(c:fR K cd x=true)(k:cD K (.ref f)=true):Gf K x st:=⟨f,_,h,J6 l c k⟩
def gm(h:aU K (.ref C) x=Za (Za (.ref f)))(i:gy K (.ref f)=true)(l:K.lookup f=Za ⟨oc,od,.func (bX x q (n8 st) (nc st) (lK st) .none kV dc pm an cd ct),sl⟩)(c:fR K cd q=true)(k:cD K (.ref f)=true):Gm K C x q st:=⟨f,_,h,i,J6 l c k⟩
def Gf.fn(X:K.In h)(G:h.Ns a7 mg)(c:Gf K x st)(o:∀{f:ak}{fd:cq},Fun K x x st f fd->FnOk P w K mg base (CXo P w) k f fd ps sp)(b:Bd x x st ps:=by first|exact bd1|exact bd2|exact bd3|exact bd4|exact bd5|exact bd6|exact bd0):Fn P w K mg base x k ps sp :=
 let⟨f,fd,n,U⟩:=c.ex;⟨f,fd,o U,jq X G n,U.kp,U.binds b⟩
def Gm.mt(cl:Cls K C)(c:Gm K C x q st)(o:∀{f:ak}{fd:cq},Fun K x q st f fd->FnOk P w K mg base (CXo P w) k f fd ps sp)(b:Bd x q st ps:=by first|exact bd1|exact bd2|exact bd3|exact bd4|exact bd5|exact bd6|exact bd0):Mt P w K mg base C x k ps sp :=
 let⟨f,fd,n,i,U⟩:=c.ex;⟨f,fd,o U,⟨n,i,U.kp⟩,cl,U.binds b⟩
def Gm.bk(c:Gm K C "__init__" q st)(X:K.In h)(G:h.Ns a7 mg)(g:Gb K C)(o:∀{f:ak}{fd:cq},Fun K "__init__" q st f fd->FnOk P w K mg base (CXo P w) k f fd ["self"] sp)(b:Bd "__init__" q st ["self"]:=by exact bd1):MkB P w K mg base "Book" C k ["self"] sp :=
 let⟨f,fd,n,i,U⟩:=c.ex;⟨f,fd,o U,jq X G g.n,⟨g.m,n,i,g.k⟩,U.binds b⟩
end
section
variable{X:Cx}{CB:ak}{E:XK}{a b:bo}{f g:XE}{pos Pg Ph:Pos}
def Lq:OpR X (dE .Mult) (rI iP λi j=>.int (i*j)):=opI λ_ _ _ _ _ _ _ hc q=>mul_int q hc
open Classical in
def E6(v w:PV)(s:Sto):Out PV:=match v,w with
 |.int i,.int j=>if iP i j then .ok (.int (i*j)) s else .bad
 |_,_=>.bad
def Oi:Op2 X.K CB E (rI iP λi j=>V.int (i*j)) E6:=by
 intro H m s v w x y Q S rx ry P;unfold E6 at P;split at P
 ·cases rx;cases ry;split at P
  ·rename_i h;exact⟨_,_,rfl,rfl,h,P.here S .int⟩
  ·exact P.elim
 ·exact P.elim
def Mz(ha:DE X CB E a f)(hb:DE X CB E b g):DE X CB E (.BinOp a .Mult b pos) (x2 f g E6):=zk Lq Oi ha hb
def ze(v w:PV)(s:Sto):Out PV:=match v,w with
 |.str x,.int n=>if n=0 then .ok (.str cx) s else if n=1 then .ok (.str x) s else .bad
 |_,_=>.bad
def Lp:OpR X (dE .Mult) (λx y H Q=>∃z n,x=.str z/\y=.int n/\((n=0/\Q (.str cx) H)\/(n=1/\Q (.str z) H))):=by
 intro Pf s O H x y v u Q I rx ry h;obtain⟨z,n,rfl,rfl,h⟩:=h;obtain⟨t,rfl⟩:=rx;obtain⟨t',rfl⟩:=ry;rcases h with⟨rfl,q⟩|⟨rfl,q⟩
 ·exact PySem.P.mul_str_none (by decide) (by decide) ⟨.str cx,H,I.tok _,⟨_,rfl⟩,q⟩
 ·refine PySem.P.mul_str (by decide) (λ_ z=>absurd z (by simp)) (λ_ z=>absurd z (by simp)) ?_;rw[Zd (by decide),Zc (by simp)];exact⟨.str z,H,I,⟨_,rfl⟩,q⟩
def Oh:Op2 X.K CB E (λx y H Q=>∃z n,x=.str z/\y=.int n/\((n=0/\Q (.str cx) H)\/(n=1/\Q (.str z) H))) ze:=by
 intro H m s v w x y Q S rx ry P;unfold ze at P;split at P
 ·cases rx;cases ry;split at P
  ·rename_i h;exact⟨_,_,rfl,rfl,.inl ⟨h,P.here S .str⟩⟩
  ·split at P
   ·rename_i h;exact⟨_,_,rfl,rfl,.inr ⟨h,P.here S .str⟩⟩
   ·exact P.elim
 ·exact P.elim
def Mw(ha:DE X CB E a f)(hb:DE X CB E b g):DE X CB E (.BinOp a .Mult b pos) (x2 f g ze):=zk Lp Oh ha hb
def we(vs:List PV)(s:Sto):Out PV:=match vs with
 |[v]=>match dcOf s v with
  |some l=>match keysOf l with
   |some ss=>if ss.length<64 then .ok (.ref s.nx) (s.add (.lst ((srt ss).map PV.str))) else .bad
   |none=>.bad
  |none=>.bad
 |_=>.bad
def HE(hc:X.calm=true):BltR X CB E (.builtin "sorted") we:=⟨_,oW hc,by
 intro H m s v x Q S rx P;unfold we at P;split at P
 ·cases rx with
  |cons r n =>
   cases n;split at P
   ·rename_i l hl;split at P
    ·rename_i ss hs;split at P
     ·rename_i Rg;obtain⟨a,vs,rfl,q,r⟩:=r.dc S hl;refine⟨a,vs,ss,rfl,q,r.keys.trans (xf hs),Rg,λp hp=>?_⟩;obtain⟨S2,e2⟩:=S.newL hp (.ofStrs (srt ss));exact P _ _ _ e2 S2 .new
     ·exact P.elim
    ·exact P.elim
   ·exact P.elim
 ·exact P.elim⟩
def HH(f:XE)(Z:En)(s:Sto):Out PV:=(f Z s).bind λv s1=>match v with
 |.ref n=>match s1.get n with
  |some (.lst l)=>match l[l.length-1]? with
   |some w=>.ok w (s1.set n (.lst l.dropLast))
   |none=>.bad
  |_=>.bad
 |_=>.bad
theorem Reps.dropLast{K:aa}{H:Hp}{m:Mp}{s:Sto}{vs:List V}{l:List PV}(r:Reps K H m s vs l):Reps K H m s vs.dropLast l.dropLast:=by
 induction r using Reps.rec (motive_1:=λ_ _ _=>True) (motive_3:=λ_ _ _=>True)<;>try trivial
 ·exact .nil
 ·rename_i r rs _ ih;cases rs with
  |nil=>exact .nil
  |cons r' UF=>exact .cons r ih
def MA(ho:DE X CB E a f)(PB:cz a "pop" X.env (eval a X.env)=eval a X.env:=by rfl)(Pz:(Pg.endLine==Ph.line)=true:=by rfl):DE X CB E (.Call (.Attribute a "pop" Pg) [] [] Ph) (HH f) :=
 ⟨(N3 gh lh PySem.F.type_list_pop Oq ho.pe PB Pz).mono λO H Q=>oE λZ s m er S P=>⟨Z,s,m,er,S,P.bind λv s1 u H1 m1 e1 S1 r1 P1=>by
  split at P1
  ·split at P1
   ·rename_i n _ l hg;split at P1
    ·rename_i w hw;obtain⟨_,QV,h0,r0⟩:=S1.get hg;cases r1 with
     |ref hn =>
     obtain⟨u,hu,ru⟩:=r0.get hw;obtain⟨S3,e3⟩:=S1.putL hg r0.dropLast;exact⟨.inl ⟨rfl,QV,SqL.of h0⟩,_,QV,u,rfl,rfl,h0,by rw[r0.length];exact hu,P1 _ _ _ e3 S3 (ru.ext e3)⟩
    ·exact P1.elim
   ·exact P1.elim
  ·exact P1.elim⟩⟩
def C0(l:List (Key×PV))(k:Key):List (Key×PV):=l.filter λkv=>decide (kv.1≠k)
theorem RepKs.drop{K:aa}{H:Hp}{m:Mp}{s:Sto}{k:Key}:∀{vs:List (Key×V)}{l:List (Key×PV)},RepKs K H m s vs l->RepKs K H m s (xV vs k) (C0 l k)
 |_,_,.nil=>.nil
 |_,_,.cons (k:=k') r rs=>by
  unfold xV C0;rw[gG,gG];by_cases h:k'=k
  ·rw[Zd (by simp[h]),Zd (by simp[h])];exact rs.drop
  ·rw[Zc (by simp[h]),Zc (by simp[h])];exact .cons r rs.drop
def Et(f g:XE)(Z:En)(s:Sto):Out PV:=(f Z s).bind λv s1=>match v with
 |.ref n=>match s1.get n with
  |some (.dct _)=>(g Z s1).bind λw s2=>match s2.get n with
   |some (.dct l)=>match kyOf w with
    |some k=>match pP l k with
     |some p=>.ok p (s2.set n (.dct (C0 l k)))
     |none=>.bad
    |none=>.bad
   |_=>.bad
  |_=>.bad
 |_=>.bad
def MD(ho:DE X CB E a f)(he:DE X CB E b g)(mm:M1 X a "pop" Pg b Ph:=by exact⟨rfl,rfl,rfl,rfl⟩):DE X CB E (.Call (.Attribute a "pop" Pg) [b] [] Ph) (Et f g) :=
 ⟨(DQ ho.pe he.pe mm).mono λO H Q=>oE λZ s m er S P=>⟨Z,s,m,er,S,P.bind λv s1 u H1 m1 e1 S1 r1 P1=>by
  split at P1
  ·split at P1
   ·rename_i n _ l0 hg;obtain⟨_,QV,h0,r0⟩:=S1.get hg;cases r1 with
    |ref hn =>
    refine⟨_,rfl,.inl ⟨QV,.inl h0⟩,Z,s1,m1,er.ext e1,S1,P1.bind λw s2 u2 H2 m2 e2 S2 r2 P2=>?_⟩;split at P2
    ·rename_i l Tr;split at P2
     ·rename_i k hk;split at P2
      ·rename_i p hv;obtain⟨_,vs,h1,r⟩:=S2.get Tr;obtain⟨u,eu,ru⟩:=(r.val k).1 p hv;obtain⟨S3,e3⟩:=S2.putD Tr (r.drop (k:=k));rw[<-e2.ad _ hn];exact⟨vs,k,u,h1,pY r2 hk,eu,P2 _ _ _ e3 S3 (ru.ext e3)⟩
      ·exact P2.elim
     ·exact P2.elim
    ·exact P2.elim
   ·exact P1.elim
  ·exact P1.elim⟩⟩
def Ite(K:aa)(a:ak):It :=
 ⟨λi H=>∃xs x,SqL K H a xs/\xs[i]?=Za x,λi H x H'=>∃p,H p=Zb/\x=.ref p/\∀xs,SqL K H a xs->∃y,xs[i]?=Za y/\H'=upd H p (.tup [.int i,y]),λi H=>∃xs,SqL K H a xs/\xs.length<=i⟩
def Inv.turned2(I:Inv X Pf O H s)(k:∀b o,b≠e->b≠it->s.heap.get? b=Za o->h'.get? b=Za o)(fe:zC X Pf H e)(fi:zC X Pf H it)(hn:s.heap.objs.size<=n)(new:ObjOk X.prog X.w (upd H n (.tup xs)) h' n (.tup xs)):Inv X Pf O (upd H n (.tup xs)) { s with heap:=h',toks:=t' }:=by
 have nH:H n=none:=I.hok.fresh hn;have nn:∀b u,H b=Za u->b≠n:=λb u q z=>by rw[z,nH] at q;cases q
 have Q3:∀b u,H b=Za u->b≠e/\b≠it:=λb u q=>⟨λz=>(by rw[z,fe.1] at q;cases q),λz=>(by rw[z,fi.1] at q;cases q)⟩;have k':∀b o,b∉[e,it]->s.heap.get? b=Za o->h'.get? b=Za o:=λb o hc q=>k b o (λz=>hc (by simp[z])) (λz=>hc (by simp[z])) q;refine I.step (g':=s.gens) (d':=s.drawn) (ch:=[e,it]) (λb hb=>?_) (λb o _ _ hc e _=>k' b o hc e) (λb o _ _ hc e _=>⟨o.slots,k' b o hc e⟩) (λb o _ q z=>?_)
  (λb o hc e=>⟨o,k' b o hc e⟩) (λb _ q=>?_) (λb _ _ q=>?_) (λb ps q=>⟨#[],?_⟩) (λm hm=>?_) (λb u q=>?_) I.bare
 ·rcases ah.mp hb with z|z
  ·subst z;exact⟨fe.2.2.2.1,fe.2.1,fe.2.2.2.2.1,fe.2.2.2.2.2⟩
  ·have z:=ao.mp z;subst z;exact⟨fi.2.2.2.1,fi.2.1,fi.2.2.2.2.1,fi.2.2.2.2.2⟩
 ·rw[lG (aF (aA (az q) hn))];exact z
 ·rw[lG (nn b _ q)];exact q
 ·rw[lG (nn b _ q)];exact q
 ·rw[lG (nn b _ q),q];simp
 ·obtain⟨o,es,ep,ho,r⟩:=hm;exact⟨o,es,ep,k _ o (bY fe.2.1) (bY fi.2.1) ho,r⟩
 ·by_cases hb:b=n
  ·subst hb;rw[lJ] at q;cases q;exact new
  ·rw[lG hb] at q;refine(I.hok b u q).stay (λc v hc w=>?_) (λc w=>by rw[lG (nn c _ w)];exact w) λc xs w=>by rw[lG (nn c _ w)];exact w
   have:c≠e/\c≠it:=by
    rcases hc with z|z
    ·rw[z];exact Q3 b u q
    ·exact Q3 c _ z
   exact k c v this.1 this.2 w
def GF{P:aK}{w:ba}{K:aa}{es:List bo}{x1:_}{px:Pos}(a e it:ak)(PL:e≠it):Turn P w K (.Tuple es x1 px) (Ite K a) [e,it] e (λi h=>(∃old,IsEnum h e it i old)/\h.IsListIter it a i) where
 mem:=by simp
 obj:=λi h st b hb=>by
  obtain⟨⟨old,he⟩,o,e1,c,d⟩:=st;rcases ah.mp hb with z|z
  ·subst z;exact⟨_,he,λv z=>by cases z⟩
  ·have z:=ao.mp z;subst z;exact⟨o,e1,λv z=>by rw[d] at z;cases z⟩
 keep:=λi h h' st k=>⟨let⟨old,he⟩:=st.1;⟨old,k e (by simp) _ he⟩,st.2.at λo e=>k it (by simp) o e⟩
 item:=by
  intro X hP hw hK hc i Pf s O H E I hf st hg;subst hP hw hK;obtain⟨xs,x,hq,hx⟩:=hg;obtain⟨its,rv,p,hz⟩:=I.list hq;obtain⟨u,hu,ru⟩:=rv.get hx;obtain⟨⟨old,he⟩,st⟩:=st;refine wpAny_pyNext_enum_item he st p.isList (x:=u) (by simpa using hu) PL λh' eo Qt ht hs kp=>⟨_,rfl,?_⟩;refine wpAny_letOwnedTupleGo_enum eo λh2 e2 sb=>?_;have hel:e<s.heap.objs.size:=az he;have Ta:h2.get? s.heap.objs.size=Za { cls:=.type "tuple",data:=.seq #[.int i s.toks,u] }:=(sb.2 _ (fY hel)).trans ht;have US:∀b o,b≠e->b≠it->s.heap.get? b=Za o->h2.get? b=Za o:=λb o b1 b2 q=>(sb.2 b b1).trans (kp b o b1 b2 q);have I1:Inv X Pf O (upd H s.heap.objs.size (.tup [.int i,x])) { s with heap:=h2,toks:=s.toks+1 } :=
   I.turned2 US (hf e (by simp)) (hf it (by simp)) (ap _) ⟨(show 2<=aI by decide),[.int i s.toks,u],.cons ⟨_,rfl⟩ (.cons ru .nil),_,Ta,rfl,0,rfl⟩
  refine⟨.ref s.heap.objs.size,_,I1,rfl,⟨_,I.fresh,rfl,λys hy=>⟨x,by rw[I.list_inj hy hq];exact hx,rfl⟩⟩,⟨⟨u,by simpa using e2⟩,Qt.at λo q=>(sb.2 it (bY PL)).trans q⟩,λb hb=>?_⟩;have Pt:b≠s.heap.objs.size:=by
   rcases ah.mp hb with z|z
   ·rw[z];exact aF hel
   ·rw[ao.mp z];obtain⟨o,q,_⟩:=st;exact aF (az q)
  rw[lG Pt];exact(hf b hb).1
 done:=by intro X hP hw hK hc i Pf s O H E I hf st hg;subst hP hw hK;obtain⟨xs,hq,hx⟩:=hg;obtain⟨its,rv,p,hz⟩:=I.list hq;obtain⟨f0,f1,f2,f3,f4,f5⟩:=hf it (by simp);obtain⟨⟨old,he⟩,st⟩:=st;have hl:=rv.length;exact wpAny_pyNext_enum_end (I.ok.hd hc) he st p.isList (by simp;lia) λh' eb=>⟨rfl,I.turned (t':=s.toks) (λb o hb e=>eb b o hb e) f0 f1 f3 f4 f5⟩
 self:=λ_ _ _ _ _ st h=>let⟨_,he⟩:=st.1;wpAny_pyIter_enum he h
def qM(k:Nat):List PV->List PV
 |[]=>[]
 |p::r=>.tup [.int k,p]::qM (k+1) r
theorem xj:∀(l:List PV)(k i:Nat),(qM k l)[i]?=(l[i]?).map λp=>PV.tup [.int (k+i:Nat),p]
 |[],_,_=>rfl
 |p::r,k,0=>rfl
 |p::r,k,i+1=>by have:=xj r (k+1) i;rw[show k+1+i=k+(i+1) by lia] at this;exact this
theorem rO:∀(l:List PV)(k:Nat),(qM k l).length=l.length
 |[],_=>rfl
 |p::r,k=>congrArg (·+1) (rO r (k+1))
def vV(fa:XA)(Z:En)(s:Sto):Out (List PV):=(fa Z s).bind λvs s1=>match vs with
 |[.lst l]=>.ok (qM 0 l) s1
 |_=>.bad
def Ck:bP "enumerate"=Za (.type "enumerate"):=by decide +kernel
def iEnum(K:aa)(ta:TA):TI:=λO H R=>ta O H λxs H1=>∃a ys,xs=[.ref a]/\SqL K H1 a ys/\R (Ite K a) H1
def Lh{es:List bo}{x1:_}{px p:Pos}{ta:TA}(hg:Gl X "enumerate")(hm:X.mg "enumerate"=Zb)(ha:PA X [a] ta)(hs:aB [a] X.env=[(false,eval a X.env)]:=by rfl):PI X (.Tuple es x1 px) (.Call (.Name "enumerate" p) [a] [] pos) (iEnum X.K ta):=by
 intro Pf s O H R I h;refine Call_ (Av I hg hm Ck (dF (thn (ha pos Pf s O H _ I h) λus s1=>e4 λvs H1 I1 r1 q1=>?_) hs rfl));obtain⟨b,ys,e,hq,q⟩:=q1;subst e;cases r1 with
 |cons r rr =>
  cases rr;cases r;obtain⟨its,rv,pl,hz⟩:=I1.list hq;refine call_enumerate_list pl.isList λh' he hi hsz kp=>?_;refine wpAny_pyIter_enum he ⟨s1.heap.objs.size+1,[s1.heap.objs.size+1,s1.heap.objs.size],_,_,H1,rfl,I1.kept (t':=s1.toks) kp,GF b (s1.heap.objs.size+1) s1.heap.objs.size (Nat.succ_ne_self _),⟨⟨_,he⟩,hi⟩,λc hc=>?_,q⟩;have RH:s1.heap.objs.size<=c:=by
   rcases ah.mp hc with z|z
   ·rw[z];lia
   ·rw[ao.mp z];exact ap _
  exact I1.fpOk RH (I1.hok.fresh RH)
def iterE{K:aa}{H0:Hp}{m0:Mp}{s0:Sto}{b:ak}{l:List PV}(r:Rep K H0 m0 s0 (.ref b) (.lst l)):p7 K CB (Ite K b) (qM 0 l) H0 m0 s0:=by
 intro i H m s ex S;obtain⟨b',vs,e,hq,rs⟩:=(r.ext0 ex.toExtR).ls S (show lsOf s (.lst l)=Za l from rfl);cases e;refine⟨λq' Qg=>?_,λhi=>⟨vs,hq,by rw[rs.length,<-rO l 0];exact hi⟩⟩;rw[xj] at Qg;cases cl:l[i]? with
 |none=>rw[cl] at Qg;cases Qg
 |some q0 =>
  rw[cl] at Qg;cases Qg;obtain⟨u,hu,ru⟩:=rs.get cl;refine⟨⟨vs,u,hq,hu⟩,λx H' ⟨p,hp,e1,e2⟩=>?_⟩;obtain⟨y,hy,e3⟩:=e2 vs hq;subst e1 e3;rw[hu] at hy;cases hy;have k:=My.rS (o:=.tup [.int (i:Int),u]) hp;have S':=S.same k;exact⟨.same k,S',.tup (.inl ⟨.inl lJ,S'.pure_tup lJ⟩) (by rw[fw];exact .cons .int (.cons (ru.ext (.same k)) .nil))⟩
def CD{es:List bo}{x1:_}{px p:Pos}{fa:XA}(ha:DA X CB E [a] fa)(hg:Gl X "enumerate":=by rfl)(hm:X.mg "enumerate"=none:=by assumption)(hs:aB [a] X.env=[(false,eval a X.env)]:=by rfl):DI X CB E (.Tuple es x1 px) (.Call (.Name "enumerate" p) [a] [] pos) (vV fa) :=
 ⟨(Lh hg hm ha.pa hs).mono λO H R q=>TDI.bindA q λv s1 u H1 m1 S1 r1 P=>by
  split at P
  ·rename_i l s' hF;split at hF
   ·cases hF;cases r1 with
    |cons r n =>
     cases n;cases r with
     |lst h1 h2 h3=>exact⟨_,_,rfl,SqL.of h1,P _ _ _ .refl S1 (iterE (.lst h1 h2 h3))⟩
   ·cases hF
  ·rename_i hF;split at hF<;>cases hF
  ·exact P.elim⟩
def Pa(v:PV)(s:Sto):Out PV:=match v with
 |.lst l=>.ok (.lst l) s
 |v=>frz1 v s
def Er(f:XE)(Z:En)(s:Sto):Out PV:=(f Z s).bind Pa
def MC(h:DE X CB E a f):DE X CB E a (Er f):=⟨h.pe.mono λO H Q=>oE λZ s m er S P=>⟨Z,s,m,er,S,P.bind λv s1 u H1 m1 e1 S1 r1 P1=>by
 unfold Pa at P1;split at P1
 ·exact P1.here S1 r1
 ·cases c:frz1 v s1 with
  |ok w s2 =>
   rw[c] at P1;obtain⟨S2,e2,r2⟩:=S1.frz r1 c;exact P1 u H1 m1 e2 S2 r2
  |ex c' s' =>
   unfold frz1 at c
   repeat' split at c
   all_goals cases c
  |bad=>rw[c] at P1;exact P1.elim⟩⟩
end
end L2
namespace Att
open PySem PySem.W PySem.Calls PyProof.Rows
def WtOk(ns:List Int):Prop:=∀n∈ns,bW n<=1048576
theorem Jy:∀{ns:List Int},gK (ns.map gz)<=2^20->WtOk ns
 |[],_,_,h=>nomatch h
 |m::r,h,n,hn=>by
  have e:gK ((m::r).map gz)=bW m+1+gK (r.map gz):=rfl;rw[e] at h;rcases ah.mp hn with z|z
  ·rw[z];lia
  ·exact Jy (show gK (r.map gz)<=2^20 by lia) n z
def attach_callW{l:gw}{n:Nat}{q:aK}{Qi:List Str}{XP:(Str->Option ai)->bx->Prop}{YP:ba->bx->Prop}{d:DefRec}(hn:l.most=Za n)(Tt:d.params.defaults=[])(call:∀(w:ba)(sa0 Ps:ax)(mg mb:Str->Option ai)(fa:ak)(o:Obj)(pm cd Qo:ai)(a:ak)(vs:List ai)(ns:List Int),
   Ground q Qi [] XP w sa0 mg mb Ps.heap->YP w Ps.heap ->
   Ps.heap.get? fa=Za o->o.data=.func (docDef d.name d.params d.body d.scope pm cd Qo)->Ps.heap.CodeRec cd d.name->mg d.name=Za (.ref fa) ->
   Ps.heap.get? a=Za { cls:=.type "list",data:=.seq vs.toArray }->IntsAre vs ns->ns.length<=n->WtOk ns->Ps.gens=#[] ->
   gg (model l.prog w) jo (.call (.ref fa) ⟨[.ref a],[]⟩) (λr s'=>r=.ok (.ret (.bool true))/\OldK Ps.heap s'.heap/\s'.os=Ps.os/\gL s'.gens) Ps) :
  kT q Qi XP YP l.row.toRowW d [] (λf vs=>kQ f vs):=by
 intro w sa0 Ps mg mb G Y fa o pm cd Qo dV kV ho hd QA hD Tg hg args RO as Rr Vb hrd UZ hlo;obtain rfl:dV=.none:=Dflts.none hD Tt;obtain rfl:kV=.none:=Dflts.noKw hD;obtain⟨a,vs,ns,rfl,rfl,R3,Q7,Pk⟩:=GO hn Rr UZ;have hw:WtOk ns:=by have h1:(WData.list (ns.map gz)).layable=true:=(da.mp Vb) _ ag;simp only[WData.layable,cg,decide_eq_true_eq] at h1;exact Jy h1.2
 refine enter_call (jn (call w sa0 Ps mg mb fa o pm cd Qo a vs ns G Y ho (fd_plain hd) QA Tg R3 Q7 Pk hw hg) λr s' hq=>?_);obtain⟨rfl,h2,h3,h4⟩:=hq;exact⟨.inl ⟨.bool true,.bool true,[],rfl,λ_=>rfl,.bool true,GT l _,λ_=>⟨List.Pairwise.nil,λ_ hm=>(nomatch hm)⟩⟩,h2,h3,h4⟩
end Att
namespace L2
open PySem PySem.Spec PyProof.Rows
def walk_ofW{l:gw}{n k:Nat}{q:aK}{Qi:List Str}{XP:(Str->Option ai)->bx->Prop}{YP:ba->bx->Prop}{d:DefRec}{K:Params->aa}{CX:ba->CXT}{sp:ba->Sp}{x:Str}(hn:l.most=Za n)(Ud:n<=aI)(Tt:d.params.defaults=[])(hr:Room k jo)(hY:∀(w:ba)(h:bx),YP w h->(K w.params).In h)(F:∀(w:ba)(mg:Str->Option ai)(fa:ak)(h:bx),(K w.params).In h->h.Ns a7 mg->mg d.name=Za (.ref fa) ->
   ∃fd:cq,(∀(s:ax)(u:ai),jw s fd ⟨[u],[]⟩ [(x,u)]) /\
    ∀base:bx,(K w.params).In base->base.Ns a7 mg->FnOk l.prog w (K w.params) mg base (CX w) k fa fd [x] (sp w))(Rf:∀(w:ba)(H:Hp)(a:ak)(ns:List Int),ns.length<=n->Att.WtOk ns->MR H->SqL (K w.params) H a (ns.map V.int)->sp w [.ref a] H (λv _=>v=.bl true) λ_ _ _=>False)(Vw:∀(w:ba)(H:Hp)(s:ax)(e:ai)(s':ax),CX w [] H s (λ_ _ _=>False) e s'->False) :
  kT q Qi XP YP l.row.toRowW d [] (λf vs=>kQ f vs):=by
 refine Att.attach_callW hn Tt λw sa0 Ps mg mb fa o pm cd Qo a vs ns G Y ho hd QA Tg R3 Q7 Pk hw hg=>?_;have KX:=hY w _ Y;obtain⟨fd,hb,hF⟩:=F w mg fa _ KX G.T.g Tg;exact Jb KX G.T.g G.T.b G.T.builtins G.T.nolimit hg R3 Q7 (aH Pk Ud) hr hF hb (λH hO hS=>Rf w H a ns Pk hw hO hS) λH e s'=>Vw w H Ps e s'
def Op(hi:bW i<=33554432)(hj:bW j<=33554432):iP i j:=by unfold iP;intro h;simp only[cg,decide_eq_true_eq,Builtin.Int.intTooBig] at h;have:((bW i:Int)+(bW j:Int))>(bitsLine:Nat):=h.2;unfold bitsLine at this;lia
section
variable{X:Cx}{CB:ak}{E:XK}{a b c e:bo}{f g h:XE}{fa:XA}{pos:Pos}
def tj:List PV->Option (List Int)
 |[]=>Za []
 |.int i::l=>(tj l).map (i::·)
 |_=>Zb
theorem vw:∀l:List Int,tj (l.map PV.int)=Za l
 |[]=>rfl
 |x::r=>by rw[am];unfold tj;rw[vw r];rfl
theorem tX{K:aa}{H:Hp}{m:Mp}{s:Sto}:∀{l:List PV}{vs:List V}{is:List Int},Reps K H m s vs l->tj l=Za is->vs=is.map V.int
 |[],_,is,.nil,h=>by cases h;rfl
 |p::l,_,is,.cons r rs,h=>by
  cases p with
  |int i =>
   have h:(tj l).map (i::·)=Za is:=h;cases c:tj l with
   |none=>rw[c] at h;cases h
   |some js =>
    rw[c] at h;cases h;cases r;rw[tX rs c];rfl
  |_=>cases h
def Jt(hc:X.calm=true):CallR X (.builtin "sum") (λxs H Q=>∃(p:ak)(is:List Int),xs=[.ref p]/\SqL X.K H p (is.map V.int)/\Q (.int is.sum) H):=by
 intro Pf s O H xs us Q I r h;obtain⟨p,is,rfl,hq,q⟩:=h;obtain⟨u,rfl,ru⟩:=qI r;cases ru;obtain⟨its,rv,pl,Ss⟩:=I.list hq;have Si:∀{is:List Int}{its:List ai},Vals (is.map V.int) its->∃ys:List (Int×Tok),its=ys.map (λy=>fV y.1 y.2)/\ys.map (·.1)=is:=by
  intro is;induction is with
  |nil=>intro its rv;cases rv;exact⟨[],rfl,rfl⟩
  |cons i is ih =>
   intro its rv;cases rv with
   |cons r rs =>
    obtain⟨t,rfl⟩:=r;obtain⟨ys,rfl,rfl⟩:=ih rs;exact⟨(i,t)::ys,rfl,rfl⟩
 obtain⟨ys,rfl,rfl⟩:=Si rv;have hl:s.heap.IsList p (intItems ys.toArray):=by
  have:=pl.isList;have e:intItems ys.toArray=(ys.map (λy=>fV y.1 y.2)).toArray:=by simp[intItems]
  rw[e];exact this
 refine sum_intListG (I.ok.hd hc) hl λh' tk t' hk=>?_;have e:preSum (numAt ys.toArray) ys.toArray.size=(ys.map (·.1)).sum:=by rw[preSum_eq,gM (by simp)]
 rw[e];exact⟨.int _,H,I.kept hk,⟨_,rfl⟩,q⟩
def Nq(vs:List PV)(s:Sto):Out PV:=match vs with
 |[v]=>match lsOf s v with
  |some l=>match tj l with
   |some is=>.ok (.int is.sum) s
   |none=>.bad
  |none=>.bad
 |_=>.bad
def b_sum(hc:X.calm=true):BltR X CB E (.builtin "sum") Nq:=⟨_,Jt hc,by
 intro H m s v x Q S rx P;unfold Nq at P;split at P
 ·cases rx with
  |cons r n =>
   cases n;split at P
   ·rename_i l hl;split at P
    ·rename_i is hb;obtain⟨a,vs,rfl,q,r⟩:=r.ls S hl;have e:=tX r hb;subst e;exact⟨a,is,rfl,q,P.here S .int⟩
    ·exact P.elim
   ·exact P.elim
 ·exact P.elim⟩
def Ki:bP "sum"=Za (.builtin "sum"):=by decide +kernel
def Itz(K:aa)(a b:ak):It :=
 ⟨λi H=>∃xs ys x y,SqL K H a xs/\SqL K H b ys/\xs[i]?=Za x/\ys[i]?=Za y,λi H x H'=>∃p,H p=Zb/\x=.ref p/\∀xs ys,SqL K H a xs->SqL K H b ys->∃u v,xs[i]?=Za u/\ys[i]?=Za v/\H'=upd H p (.tup [u,v]),λi H=>∃xs ys,SqL K H a xs/\SqL K H b ys/\(xs.length<=i\/ys.length<=i)⟩
def Inv.turnedL{Pf:List (ak×Obj)}{O:St}{H:Hp}{s:ax}{h':bx}{t':Nat}{ch:List ak}{n:ak}{xs:List V}(I:Inv X Pf O H s)(k:∀b o,b∉ch->s.heap.get? b=Za o->h'.get? b=Za o)(fe:∀b∈ch,zC X Pf H b)(hn:s.heap.objs.size<=n)(new:ObjOk X.prog X.w (upd H n (.tup xs)) h' n (.tup xs)):Inv X Pf O (upd H n (.tup xs)) { s with heap:=h',toks:=t' }:=by
 have nH:H n=none:=I.hok.fresh hn;have nn:∀b u,H b=Za u->b≠n:=λb u q z=>by rw[z,nH] at q;cases q
 have Q3:∀b u,H b=Za u->b∉ch:=λb u q z=>by rw[(fe b z).1] at q;cases q
 refine I.step (g':=s.gens) (d':=s.drawn) (ch:=ch) (λb hb=>⟨(fe b hb).2.2.2.1,(fe b hb).2.1,(fe b hb).2.2.2.2.1,(fe b hb).2.2.2.2.2⟩) (λb o _ _ hc e _=>k b o hc e) (λb o _ _ hc e _=>⟨o.slots,k b o hc e⟩) (λb o _ q z=>?_)
  (λb o hc e=>⟨o,k b o hc e⟩) (λb _ q=>?_) (λb _ _ q=>?_) (λb ps q=>⟨#[],?_⟩) (λm hm=>?_) (λb u q=>?_) I.bare
 ·rw[lG (aF (aA (az q) hn))];exact z
 ·rw[lG (nn b _ q)];exact q
 ·rw[lG (nn b _ q)];exact q
 ·rw[lG (nn b _ q),q];simp
 ·obtain⟨o,es,ep,ho,r⟩:=hm;exact⟨o,es,ep,k _ o (λz=>(fe _ z).2.1 rfl) ho,r⟩
 ·by_cases hb:b=n
  ·subst hb;rw[lJ] at q;cases q;exact new
  ·rw[lG hb] at q;refine(I.hok b u q).stay (λc v hc w=>?_) (λc w=>by rw[lG (nn c _ w)];exact w) λc xs w=>by rw[lG (nn c _ w)];exact w
   have:c∉ch:=by
    rcases hc with z|z
    ·rw[z];exact Q3 b u q
    ·exact Q3 c _ z
   exact k c v this w
def Inv.turnedE{Pf:List (ak×Obj)}{O:St}{H:Hp}{s:ax}{h':bx}{t':Nat}{ch:List ak}(I:Inv X Pf O H s)(k:∀b o,b∉ch->s.heap.get? b=Za o->h'.get? b=Za o)(fe:∀b∈ch,zC X Pf H b):Inv X Pf O H { s with heap:=h',toks:=t' }:=by
 have Q3:∀b u,H b=Za u->b∉ch:=λb u q z=>by rw[(fe b z).1] at q;cases q
 refine I.step (g':=s.gens) (d':=s.drawn) (ch:=ch) (λb hb=>⟨(fe b hb).2.2.2.1,(fe b hb).2.1,(fe b hb).2.2.2.2.1,(fe b hb).2.2.2.2.2⟩) (λb o _ _ hc e _=>k b o hc e) (λb o _ _ hc e _=>⟨o.slots,k b o hc e⟩) (λb o _ q z=>z)
  (λb o hc e=>⟨o,k b o hc e⟩) (λb _ q=>q) (λb _ _ q=>q) (λb ps q=>⟨#[],by simpa using q⟩) (λm hm=>?_) (λb u q=>?_) I.bare
 ·obtain⟨o,es,ep,ho,r⟩:=hm;exact⟨o,es,ep,k _ o (λz=>(fe _ z).2.1 rfl) ho,r⟩
 ·refine(I.hok b u q).stay (λc v hc w=>?_) (λc w=>w) λc xs w=>w;have:c∉ch:=by
   rcases hc with z|z
   ·rw[z];exact Q3 b u q
   ·exact Q3 c _ z
  exact k c v this w
def Ic{P:aK}{w:ba}{K:aa}{es:List bo}{x1:_}{px:Pos}(a b z TI TO i1 i2:ak)(D:ZipApart z TI TO i1 i2 a b):Turn P w K (.Tuple es x1 px) (Itz K a b) [z,TI,TO,i1,i2] z (λi h=>IsZip h z TI TO .none/\IsPair h TI (.ref i1) (.ref i2)/\(∃u v,IsPair h TO u v)/\h.IsListIter i1 a i/\h.IsListIter i2 b i) where
 mem:=by simp
 obj:=λi h st c hc=>by
  obtain⟨hz,Rx,⟨u,v,RI⟩,⟨o1,g1,c1,d1⟩,⟨o2,g2,c2,d2⟩⟩:=st;simp only[ah,cK,or_false] at hc;rcases hc with q|q|q|q|q
  ·subst q;exact⟨_,hz,λv z=>by cases z⟩
  ·subst q;exact⟨_,Rx,λv z=>by cases z⟩
  ·subst q;exact⟨_,RI,λv z=>by cases z⟩
  ·subst q;exact⟨o1,g1,λv z=>by rw[d1] at z;cases z⟩
  ·subst q;exact⟨o2,g2,λv z=>by rw[d2] at z;cases z⟩
 keep:=λi h h' st k=>⟨k z (by simp) _ st.1,k TI (by simp) _ st.2.1,(let⟨u,v,q⟩:=st.2.2.1;⟨u,v,k TO (by simp) _ q⟩),st.2.2.2.1.at λo e=>k i1 (by simp) o e,st.2.2.2.2.at λo e=>k i2 (by simp) o e⟩
 item:=by
  intro X hP hw hK hc i Pf s O H E I hf st hg;subst hP hw hK;obtain⟨xs,ys,x,y,Su,Qq,hx,hy⟩:=hg;obtain⟨SY,TX,p1,hz1⟩:=I.list Su;obtain⟨Ql,Sn,p2,Ss⟩:=I.list Qq;obtain⟨u1,hu1,ru1⟩:=TX.get hx;obtain⟨u2,hu2,ru2⟩:=Sn.get hy;obtain⟨hz,Rx,⟨u,v,RI⟩,st1,Qf⟩:=st;refine wpAny_pyNext_zip_item D hz Rx RI st1 Qf p1.isList p2.isList (x:=u1) (y:=u2) (by simpa using hu1) (by simpa using hu2) λh' UX Vq UD UB ht hs kp=>⟨_,rfl,?_⟩;refine wpAny_letOwnedTupleGo_zip UX λh2 hz3 sb=>?_;have hzl:z<s.heap.objs.size:=az hz;have Ta:IsPair h2 s.heap.objs.size u1 u2:=(sb.2 _ (fY hzl)).trans ht;have US:∀c o,c∉[z,TI,TO,i1,i2]->s.heap.get? c=Za o->h2.get? c=Za o:=λc o hc q=>by simp only[ah,cK,or_false,not_or] at hc;exact(sb.2 c hc.1).trans (kp c o hc.1 hc.2.2.1 hc.2.2.2.1 hc.2.2.2.2 q)
  have I1:Inv X Pf O (upd H s.heap.objs.size (.tup [x,y])) { s with heap:=h2,toks:=s.toks } :=
   I.turnedL US hf (ap _) ⟨(show 2<=aI by decide),[u1,u2],.cons ru1 (.cons ru2 .nil),_,Ta,rfl,0,rfl⟩
  have Vr:IsPair h2 TI (.ref i1) (.ref i2):=(sb.2 TI D.TIz).trans (kp TI _ D.TIz D.TITO D.TIi1 D.TIi2 Rx);refine⟨.ref s.heap.objs.size,_,I1,rfl,⟨_,I.fresh,rfl,λxs' SH h1 h2=>⟨x,y,by rw[I.list_inj h1 Su];exact hx,by rw[I.list_inj h2 Qq];exact hy,rfl⟩⟩,⟨hz3,Vr,⟨_,_,(sb.2 TO D.TOz).trans Vq⟩,UD.at λo q=>(sb.2 i1 D.i1z).trans q,UB.at λo q=>(sb.2 i2 D.i2z).trans q⟩,λc hc=>?_⟩;have Pt:c≠s.heap.objs.size:=by
   simp only[ah,cK,or_false] at hc;obtain⟨o1,g1,_⟩:=st1;obtain⟨o2,g2,_⟩:=Qf;rcases hc with q|q|q|q|q
   ·rw[q];exact aF hzl
   ·rw[q];exact aF (az Rx)
   ·rw[q];exact aF (az RI)
   ·rw[q];exact aF (az g1)
   ·rw[q];exact aF (az g2)
  rw[lG Pt];exact(hf c hc).1
 done:=by intro X hP hw hK hc i Pf s O H E I hf st hg;subst hP hw hK;obtain⟨xs,ys,Su,Qq,hx⟩:=hg;obtain⟨SY,TX,p1,hz1⟩:=I.list Su;obtain⟨Ql,Sn,p2,Ss⟩:=I.list Qq;obtain⟨hz,Rx,⟨u,v,RI⟩,st1,Qf⟩:=st;have RE:=TX.length;have Tk:=Sn.length;refine wpAny_pyNext_zip_end (I.ok.hd hc) D hz Rx RI st1 Qf p1.isList p2.isList (hx.imp (λz=>by simp;lia) λz=>by simp;lia) λh' eb=>⟨rfl,?_⟩;refine I.turnedE (t':=s.toks) (ch:=[z,TI,TO,i1,i2]) (λc o hc q=>?_) hf;simp only[ah,cK,or_false,not_or] at hc;exact eb c o hc.1 hc.2.2.1 hc.2.2.2.1 hc.2.2.2.2 q
 self:=λ_ _ _ _ _ st h=>wpAny_pyIter_zip st.1 h
def tE:List PV->List PV->List PV
 |x::r,y::q=>.tup [x,y]::tE r q
 |_,_=>[]
theorem Dp:∀(l k:List PV)(i:Nat),(tE l k)[i]?=match l[i]?,k[i]? with|some x,Za y=>Za (.tup [x,y])|_,_=>Zb
 |[],_,_=>by simp[tE]
 |_::_,[],i=>by simp[tE]
 |x::r,y::q,0=>rfl
 |x::r,y::q,i+1=>by simp only[tE,gF];exact Dp r q i
theorem zD:∀(l k:List PV),(tE l k).length=min l.length k.length
 |[],_=>by simp[tE]
 |_::_,[]=>by simp[tE]
 |x::r,y::q=>by simp only[tE,bh,zD r q];lia
def Em(fa:XA)(Z:En)(s:Sto):Out (List PV):=(fa Z s).bind λvs s1=>match vs with
 |[.lst l,.lst k]=>.ok (tE l k) s1
 |_=>.bad
def OW:bP "zip"=Za (.type "zip"):=by decide +kernel
def iZip(K:aa)(ta:TA):TI:=λO H R=>ta O H λxs H1=>∃a b ys zs,xs=[.ref a,.ref b]/\SqL K H1 a ys/\SqL K H1 b zs/\R (Itz K a b) H1
def zap(n l1 l2)(h1:l1<n)(h2:l2<n):ZipApart (n+4:Nat) (n+2:Nat) (n+3:Nat) n (n+1:Nat) l1 l2:=by constructor<;>(apply(λ(h:¬ @Eq Nat _ _)=>h) ;lia)
def NW{es:List bo}{x1:_}{px p:Pos}{ta:TA}(hg:Gl X "zip")(hm:X.mg "zip"=Zb)(ha:PA X [a,b] ta)(hs:aB [a,b] X.env=(false,eval a X.env)::aB [b] X.env:=by rfl)(PK:(b5 pos (aB [b] X.env)).any (·.1)=false:=by rfl):PI X (.Tuple es x1 px) (.Call (.Name "zip" p) [a,b] [] pos) (iZip X.K ta):=by
 intro Pf s O H R I h;refine Call_ (Av I hg hm OW (dF (thn (ha pos Pf s O H _ I h) λus s1=>e4 λvs H1 I1 r1 q1=>?_) hs PK));obtain⟨l1,l2,ys,zs,e,Su,Qq,q⟩:=q1;subst e;obtain⟨u1,u2,rfl,r1,r2⟩:=MU r1;cases r1;cases r2;obtain⟨SY,TX,p1,hz1⟩:=I1.list Su;obtain⟨Ql,Sn,p2,Ss⟩:=I1.list Qq;have t1:l1<s1.heap.objs.size:=by obtain⟨o,ho,_⟩:=p1.isList;exact az ho
 have t2:l2<s1.heap.objs.size:=by obtain⟨o,ho,_⟩:=p2.isList;exact az ho
 refine call_zip_2 p1.isList p2.isList λh' hz Rx RI hi1 hi2 hsz kp=>?_;have D:ZipApart (s1.heap.objs.size+4) (s1.heap.objs.size+2) (s1.heap.objs.size+3) s1.heap.objs.size (s1.heap.objs.size+1) l1 l2:=zap _ _ _ t1 t2;refine wpAny_pyIter_zip hz ⟨s1.heap.objs.size+4,[s1.heap.objs.size+4,s1.heap.objs.size+2,s1.heap.objs.size+3,s1.heap.objs.size,s1.heap.objs.size+1],_,_,H1,rfl,I1.kept (t':=s1.toks) kp,Ic l1 l2 _ _ _ _ _ D,⟨hz,Rx,⟨_,_,RI⟩,hi1,hi2⟩,λc hc=>?_,q⟩;have RH:s1.heap.objs.size<=c:=by simp only[ah,cK,or_false] at hc;rcases hc with z|z|z|z|z<;>rw[z]<;>lia
 exact I1.fpOk RH (I1.hok.fresh RH)
def iterZ{K:aa}{H0:Hp}{m0:Mp}{s0:Sto}{b c:ak}{l k:List PV}(r:Rep K H0 m0 s0 (.ref b) (.lst l))(r':Rep K H0 m0 s0 (.ref c) (.lst k)):p7 K CB (Itz K b c) (tE l k) H0 m0 s0:=by
 intro i H m s ex S;obtain⟨b',vs,e,hq,rs⟩:=(r.ext0 ex.toExtR).ls S (show lsOf s (.lst l)=Za l from rfl);cases e;obtain⟨c',ws,e,Qg,UF⟩:=(r'.ext0 ex.toExtR).ls S (show lsOf s (.lst k)=Za k from rfl);cases e;refine⟨λq' hz=>?_,λhi=>⟨vs,ws,hq,Qg,?_⟩⟩
 ·rw[Dp] at hz;cases cl:l[i]? with
  |none=>rw[cl] at hz;cases hz
  |some q0 =>
   cases ck:k[i]? with
   |none=>rw[cl,ck] at hz;cases hz
   |some q1 =>
    rw[cl,ck] at hz;cases hz;obtain⟨u,hu,ru⟩:=rs.get cl;obtain⟨v,hv,rv⟩:=UF.get ck;refine⟨⟨vs,ws,u,v,hq,Qg,hu,hv⟩,λx H' ⟨p,hp,e1,e2⟩=>?_⟩;obtain⟨y,z,hy,hz,e3⟩:=e2 vs ws hq Qg;subst e1 e3;rw[hu] at hy;rw[hv] at hz;cases hy;cases hz;have kk:=My.rS (o:=.tup [u,v]) hp;have S':=S.same kk;exact⟨.same kk,S',.tup (.inl ⟨.inl lJ,S'.pure_tup lJ⟩) (.cons (ru.ext (.same kk)) (.cons (rv.ext (.same kk)) .nil))⟩
 ·rw[zD] at hi;rw[rs.length,UF.length];lia
def FA{es:List bo}{x1:_}{px p:Pos}{fa:XA}(ha:DA X CB E [a,b] fa)(hg:Gl X "zip":=by rfl)(hm:X.mg "zip"=none:=by assumption)(hs:aB [a,b] X.env=(false,eval a X.env)::aB [b] X.env:=by rfl)(PK:(b5 pos (aB [b] X.env)).any (·.1)=false:=by rfl):DI X CB E (.Tuple es x1 px) (.Call (.Name "zip" p) [a,b] [] pos) (Em fa) :=
 ⟨(NW hg hm ha.pa hs PK).mono λO H R q=>TDI.bindA q λv s1 u H1 m1 S1 r1 P=>by
  split at P
  ·rename_i l s' hF;split at hF
   ·cases hF;cases r1 with
    |cons r n =>
     cases n with
     |cons r' n =>
      cases n;cases r with
      |lst h1 h2 h3 =>
       cases r' with
       |lst k1 k2 k3=>exact⟨_,_,_,_,rfl,SqL.of h1,SqL.of k1,P _ _ _ .refl S1 (iterZ (.lst h1 h2 h3) (.lst k1 k2 k3))⟩
   ·cases hF
  ·rename_i hF;split at hF<;>cases hF
  ·exact P.elim⟩
def MT(i:Nat)(f:XE)(Z:En)(s:Sto):SO:=match Z[i]? with
 |some (Za (.int x))=>(f Z s).so λv s1=>match v with
  |.int y=>.nx (Z.set i (Za (.int (x+y)))) s1
  |_=>.bad
 |_=>.bad
def OM(i)(he:DE X CB E e f)(hN:X.N.Nodup:=by exact ‹FnScope _ _ _›.nd)(hi:X.N[i]?=Za x:=by rfl)(hx:Loc X.env.scope x:=by first|exact fA rfl|exact g7 rfl)(hf:X.fn x=true\/X.env.scope.names.lookup x=Za .local:=by first|exact .inl rfl|exact .inr rfl|assumption):DS X CB E (.AugAssign (.Name x Pw) .Add e pos) (MT i f) :=
 ⟨(NV hN hi hx he.pe J2 hf).mono λD O H=>oE λZ s m er S P=>by
  unfold MT at P;split at P
  ·rename_i a hρ;obtain⟨u0,hu,ru⟩:=er.at_ i _ hρ;cases ru;refine⟨_,hu,Z,s,m,er,S,Post.so P λv s1 u H1 m1 e1 S1 r1 P1=>?_⟩;split at P1
   ·cases r1;exact⟨_,_,rfl,rfl,P1.next S1 ((er.ext e1).set i .int)⟩
   ·exact P1.elim
  ·exact P.elim⟩
end
section
variable{κ:Type}[DecidableEq κ]{K:aa}{H:Hp}{m:Mp}{s:Sto}
def RepZ(K:aa)(H:Hp)(m:Mp)(s:Sto)(vs:List (κ×V))(l:List (κ×PV)):Prop:=vs.map (·.1)=l.map (·.1)/\Reps K H m s (vs.map (·.2)) (l.map (·.2))
theorem RepZ.nil:RepZ K H m s ([]:List (κ×V)) []:=⟨rfl,.nil⟩
def RepZ.cons_inv:∀{vs:List (κ×V)},RepZ K H m s vs (q::l)->∃w r,vs=(q.1,w)::r/\Rep K H m s w q.2/\RepZ K H m s r l
 |[],h=>nomatch h.1
 |(k,w)::r,h=>by
  obtain⟨e1,e2⟩:=eg h.1;cases h.2 with
  |cons a b =>
   have e1:k=q.1:=e1;subst e1;exact⟨w,r,rfl,a,e2,b⟩
theorem RepZ.cons{q:κ×PV}{l}{w}{vs}(a:Rep K H m s w q.2)(h:RepZ K H m s vs l):RepZ K H m s ((q.1,w)::vs) (q::l):=⟨by rw[am,am,h.1],.cons a h.2⟩
theorem RepZ.length(h:RepZ K H m s vs l):vs.length=l.length:=by have:=congrArg b7 h.1;rwa[ac,ac] at this
def sU(l:List (κ×PV))(k:κ):Option PV:=(l.find? λkv=>decide (kv.1=k)).map (·.2)
def Ct(l:List (κ×PV))(k:κ)(p:PV):List (κ×PV) :=
 if(l.any λkv=>decide (kv.1=k))=true then l.map (λkv=>if kv.1=k then(kv.1,p) else kv) else l++[(k,p)]
theorem RepZ.val:∀{l:List (κ×PV)}{vs:List (κ×V)},RepZ K H m s vs l->sU l k=Za p->∃w,oo vs k=Za w/\Rep K H m s w p
 |[],_,_,e=>nomatch e
 |q::l,vs,h,e=>by
  obtain⟨w,r,rfl,a,b⟩:=h.cons_inv;unfold sU at e;unfold oo;rw[bG] at e ⊢;by_cases c:q.1=k
  ·rw[Zg c] at e;have e:Za q.2=Za p:=e;cases e;refine⟨w,?_,a⟩;show kL _ (match decide (q.1=k) with|true=>Za (q.1,w)|false=>_)=_;rw[Zg c];rfl
  ·rw[Zh c] at e;obtain⟨w',h1,h2⟩:=b.val (k:=k) e;refine⟨w',?_,h2⟩;show kL _ (match decide (q.1=k) with|true=>Za (q.1,w)|false=>_)=_;rw[Zh c];exact h1
theorem RepZ.any:∀{l:List (κ×PV)}{vs:List (κ×V)},RepZ K H m s vs l->(vs.any λkv=>decide (kv.1=k))=l.any λkv=>decide (kv.1=k)
 |[],vs,h=>by
  have:=h.length;rw[cB.mp this];rfl
 |q::l,vs,h=>by obtain⟨w,r,rfl,a,b⟩:=h.cons_inv;rw[cO,cO,b.any]
theorem RepZ.map(rv:Rep K H m s v p):∀{l:List (κ×PV)}{vs:List (κ×V)},RepZ K H m s vs l->RepZ K H m s (vs.map λkv=>if kv.1=k then(kv.1,v) else kv) (l.map λkv=>if kv.1=k then(kv.1,p) else kv)
 |[],vs,h=>by
  have:=h.length;rw[cB.mp this];exact .nil
 |q::l,vs,h=>by
  obtain⟨w,r,rfl,a,b⟩:=h.cons_inv;rw[am,am];by_cases c:q.1=k
  ·rw[Zc c,Zc c];exact RepZ.cons (q:=(q.1,p)) rv (b.map rv)
  ·rw[Zd c,Zd c];exact RepZ.cons a (b.map rv)
def RepZ.snoc(rv:Rep K H m s v p)(h:RepZ K H m s vs l):RepZ K H m s (vs++[(k,v)]) (l++[(k,p)]) :=
 ⟨by rw[aw,aw,h.1];rfl,by rw[aw,aw];exact h.2.append (.cons rv .nil)⟩
def RepZ.put{k:κ}{v:V}{p:PV}(rv:Rep K H m s v p){l:List (κ×PV)}{vs:List (κ×V)}(h:RepZ K H m s vs l):RepZ K H m s (pA vs k v) (Ct l k p):=by
 unfold pA Ct;rw[h.any (k:=k)];split
 ·exact h.map rv
 ·exact h.snoc rv
theorem w5{κ:Type}[DecidableEq κ][BEq κ][LawfulBEq κ](k:κ):∀fs:List (κ×V),fs.lookup k=oo fs k
 |[]=>rfl
 |(g,x)::r=>by
  rw[bJ];unfold oo;rw[bG];by_cases c:g=k
  ·subst c;simp
  ·have h1:(k==g)=false:=by simpa using bY c
   rw[h1];simp only[c,decide_false];exact w5 k r
def AI(f:Str)(v:PV):List (Str×PV)->List (Str×PV)
 |[]=>[(f,v)]
 |(g,x)::r=>if g=f then(g,v)::r else(g,x)::AI f v r
theorem RepZ.putF(rv:Rep K H m s v p):∀{l:List (Str×PV)}{vs:List (Str×V)},RepZ K H m s vs l->RepZ K H m s (putF f v vs) (AI f p l)
 |[],vs,h=>by
  have:=h.length;rw[cB.mp this];exact RepZ.cons (q:=(f,p)) rv .nil
 |(g,x)::l,vs,h=>by
  obtain⟨w,r,rfl,a,b⟩:=h.cons_inv;show RepZ K H m s (if g=f then(g,v)::r else(g,w)::L2.putF f v r) (if g=f then(g,p)::l else(g,x)::AI f p l);split
  ·exact RepZ.cons (q:=(g,p)) rv b
  ·exact RepZ.cons (q:=(g,x)) a (b.putF rv)
end
section
variable{X:Cx}{CB:ak}{E:XK}{a b c e:bo}{es:List bo}{f g h:XE}{fa:XA}{pos Pg Ph p Pw PY:Pos}{C:ak}{k n:Nat}{ps:List Str}{D:XF}{x:Str}
def SR.putO{K:aa}{H:Hp}{m:Mp}{s:Sto}{n:Nat}{dx:ak}{l l':List (Str×PV)}{P6:List (Str×V)}(S:SR K CB H m s)(hn:s.get n=Za (.obj C l))(r:RepZ K H m s P6 l') :
  SR K CB (upd H (m.ad n) (.ins C dx P6)) (m.fput n [m.ad n]) (s.set n (.obj C l'))/\Ext H m s (upd H (m.ad n) (.ins C dx P6)) (m.fput n [m.ad n]) (s.set n (.obj C l')):=by
 obtain⟨e1,dx',vs,h1,_⟩:=S.get hn;refine S.put hn (by intro _ z;cases z) _ _ (λa o h ha=>?_) (λa ha=>.inl (by rw[e1];exact ha)) λex=>⟨by show(if n=n then [m.ad n] else m.fp n)=_;rw[Zc rfl];rfl,dx,P6,lJ,r.1,r.2.ext0 ex⟩;rw[e1,ao] at ha;rw[lG ha];exact h
def SR.putT{K:aa}{H:Hp}{m:Mp}{s:Sto}{n:Nat}{l l':List (List Key×PV)}{P6:List (List Key×V)}(S:SR K CB H m s)(hn:s.get n=Za (.dtt l))(r:RepZ K H m s P6 l') :
  SR K CB (upd H (m.ad n) (.dT P6)) (m.fput n [m.ad n]) (s.set n (.dtt l'))/\Ext H m s (upd H (m.ad n) (.dT P6)) (m.fput n [m.ad n]) (s.set n (.dtt l')):=by
 obtain⟨e1,vs,h1,_⟩:=S.get hn;refine S.put hn (by intro _ z;cases z) _ _ (λa o h ha=>?_) (λa ha=>.inl (by rw[e1];exact ha)) λex=>⟨by show(if n=n then [m.ad n] else m.fp n)=_;rw[Zc rfl];rfl,P6,lJ,r.1,r.2.ext0 ex⟩;rw[e1,ao] at ha;rw[lG ha];exact h
def Es(C:ak)(nm:Str)(f:XE)(Z:En)(s:Sto):Out PV:=(f Z s).bind λv s1=>match v with
 |.ref n=>match s1.get n with
  |some (.obj C' fs)=>if C'=C then(match sU fs nm with
   |some p=>.ok p s1
   |none=>.bad) else .bad
  |_=>.bad
 |_=>.bad
def C2(ho:DE X CB E a f)(hC:Cls X.K C)(hn:NoAttr X.K C nm)(hb:cz a nm X.env (eval a X.env)=eval a X.env:=by rfl):DE X CB E (.Attribute a nm pos) (Es C nm f) :=
 ⟨(nJ ho.pe hb).mono λO H Q=>oE λZ s m er S P=>⟨Z,s,m,er,S,P.bind λv s1 u H1 m1 e1 S1 r1 P1=>by
  split at P1
  ·split at P1
   ·rename_i hg;split at P1
    ·rename_i hc;subst hc;split at P1
     ·rename_i hv;obtain⟨_,dx,Qp,h1,rf⟩:=S1.get hg;cases r1 with
      |ref hl =>
       obtain⟨w,hw,P4⟩:=RepZ.val rf hv;exact⟨_,_,dx,Qp,w,rfl,h1,hC,hn,(w5 nm Qp).trans hw,P1.here S1 P4⟩
     ·exact P1.elim
    ·exact P1.elim
   ·exact P1.elim
  ·exact P1.elim⟩⟩
def Ep(C:ak)(nm:Str)(f g:XE)(Z:En)(s:Sto):SO:=(g Z s).so λp s1=>(f Z s1).so λv s2=>match v with
 |.ref n=>match s2.get n with
  |some (.obj C' fs)=>if C'=C/\fs.length<1000 then .nx Z (s2.set n (.obj C (AI nm p fs))) else .bad
  |_=>.bad
 |_=>.bad
def Ke{nm:Str}(ho:DE X CB E a f)(hv:DE X CB E e g)(hC:Cls X.K C)(hn:NoAttr X.K C nm)(hs:dL e (Za (.Attribute a nm Pw)) pos.line X.env=pure false:=by rfl):DS X CB E (.Assign [.Attribute a nm Pw] e pos) (Ep C nm f g) :=
 ⟨(x6 ho.pe hv.pe hs).mono λD O H=>oE λZ s m er S P=>⟨Z,s,m,er,S,Post.so P λp s1 u H1 m1 e1 S1 r1 P1=>⟨Z,s1,m1,er.ext e1,S1,Post.so P1 λv s2 u2 H2 m2 e2 S2 r2 P2=>by
  split at P2
  ·split at P2
   ·rename_i hg;split at P2
    ·rename_i hc;obtain⟨hc,hl⟩:=hc;subst hc;obtain⟨_,dx,Qp,h1,rf⟩:=S2.get hg;cases r2 with
     |ref Pt =>
      have rz:RepZ X.K H2 m2 s2 Qp _:=rf;obtain⟨S3,e3⟩:=S2.putO (dx:=dx) hg (rz.putF (f:=nm) (r1.ext e2));exact⟨_,_,dx,Qp,rfl,h1,hC,hn,by rw[rz.length];exact hl,P2 _ _ _ e3 S3 (((er.ext e1).ext e2).ext e3)⟩
    ·exact P2.elim
   ·exact P2.elim
  ·exact P2.elim⟩⟩⟩
def MS(_:En)(s:Sto):Out PV:=.ok (.ref s.nx) (s.add (.dtt []))
def Mx:DE X CB E (.Dict [] [] pos) MS:=⟨pe_dnewT.mono λO H Q=>oE λZ s m er S P p hp=>by
 obtain⟨S2,e2⟩:=S.add (c:=.dtt []) _ p [p] (My.rS hp) (λa ha=>by rw[ao.mp ha];exact hp) λex=>by
  have e1:(m.add s.nx p [p]).ad s.nx=p:=by show(if s.nx=s.nx then p else _)=_;rw[Zc rfl]
  have e2:(m.add s.nx p [p]).fp s.nx=[p]:=by show(if s.nx=s.nx then [p] else _)=_;rw[Zc rfl]
  exact⟨by rw[e1,e2],[],by rw[e1];exact lJ,rfl,.nil⟩
 exact P _ _ _ e2 S2 .new⟩
def AJ:List PV->Option (List Key)
 |[]=>Za []
 |p::l=>match kyOf p,AJ l with
  |some k,Za ks=>Za (k::ks)
  |_,_=>Zb
theorem vv{K:aa}{H:Hp}{m:Mp}{s:Sto}:∀{l:List PV}{vs:List V}{ks:List Key},Reps K H m s vs l->AJ l=Za ks->vs=ks.map kV
 |[],_,ks,.nil,h=>by cases h;rfl
 |p::l,_,ks,.cons r rs,h=>by
  unfold AJ at h;split at h
  ·rename_i k ks' h1 h2;cases h;rw[pY r h1,vv rs h2];rfl
  ·cases h
def KH(f:XE)(fa:XA)(Z:En)(s:Sto):Out PV:=(f Z s).bind λv s1=>(fa Z s1).bind λvs s2=>match v with
 |.ref n=>match s2.get n,AJ vs with
  |some (.dtt l),Za ks=>if vs.length<=100000 then(match sU l ks with
   |some p=>.ok p s2
   |none=>.bad) else .bad
  |_,_=>.bad
 |_=>.bad
def OR{x1}(ho:DE X CB E a f)(hi:DA X CB E es fa){jr:Nat}(hr:Room jr X.A:=by assumption)(hs:Pe (.Tuple es x1 PY):=by exact λ_ _=>rfl):DE X CB E (.Subscript a (.Tuple es x1 PY) pos) (KH f fa) :=
 ⟨(rA (nj hr) ho.pe (vO hi.pa) hs).mono λO H Q=>oE λZ s m er S P=>⟨Z,s,m,er,S,P.bind λv s1 u H1 m1 e1 S1 r1 P1=>⟨Z,s1,m1,er.ext e1,S1,P1.bind λvs s2 us H2 m2 e2 S2 r2 P2=>by
  split at P2
  ·split at P2
   ·rename_i l ks hg hk;split at P2
    ·rename_i hl;split at P2
     ·rename_i hv;refine⟨by rw[r2.length];exact sz5 hl,λp hp=>?_⟩;obtain⟨_,P6,h1,rf⟩:=S2.get hg;have rz:RepZ X.K H2 m2 s2 P6 l:=rf;obtain⟨w,hw,P4⟩:=rz.val hv;have UI:=r1.ext e2;cases UI with
      |ref Pt =>
       have QX:p≠m2.ad _:=λz=>by rw[z,h1] at hp;cases hp
       have ek:=vv r2 hk;subst ek;exact⟨_,w,rfl,hw▸DGet.t (by rw[lG (bY QX)];exact h1) lJ,P2.new S2 hp λex S'=>P4.ext ex⟩
     ·exact P2.elim
    ·exact P2.elim
   ·exact P2.elim
  ·exact P2.elim⟩⟩⟩
def RepZ.same{κ:Type}{K:aa}{H H':Hp}{m m':Mp}{s s':Sto}{vs:List (κ×V)}{l:List (κ×PV)}(h:RepZ K H m s vs l)(e:Ext H m s H' m' s'):RepZ K H' m' s' vs l:=⟨h.1,h.2.ext e⟩
def HG(f:XE)(fa:XA)(h:XE)(Z:En)(s:Sto):SO:=(h Z s).so λq s1=>(f Z s1).so λv s2=>(fa Z s2).so λvs s3=>match v with
 |.ref n=>match s3.get n,AJ vs with
  |some (.dtt l),Za ks=>if vs.length<=100000/\l.length<100000 then .nx Z (s3.set n (.dtt (Ct l ks q))) else .bad
  |_,_=>.bad
 |_=>.bad
def Ml{x1}(ho:DE X CB E a f)(hi:DA X CB E es fa)(hv:DE X CB E e h)(hr:Room jr X.A:=by assumption)(hs:dL e (Za (.Subscript a (.Tuple es x1 PY) Pw)) pos.line X.env=pure false:=by rfl):DS X CB E (.Assign [.Subscript a (.Tuple es x1 PY) Pw] e pos) (HG f fa h) :=
 ⟨(pb (nj hr) ho.pe (vO hi.pa) hv.pe hs).mono λD O H=>oE λZ s m er S P=>⟨Z,s,m,er,S,Post.so P λq s1 u H1 m1 e1 S1 r1 P1=>⟨Z,s1,m1,er.ext e1,S1,Post.so P1 λv s2 u2 H2 m2 e2 S2 r2 P2=>⟨Z,s2,m2,(er.ext e1).ext e2,S2,Post.so P2 λvs s3 us H3 m3 e3 S3 r3 P3=>by
  split at P3
  ·split at P3
   ·rename_i l ks hg hk;split at P3
    ·rename_i hl;refine⟨by rw[r3.length];exact sz5 hl.1,λp hp=>?_⟩;obtain⟨_,P6,h1,rf⟩:=S3.get hg;have rz:RepZ X.K H3 m3 s3 P6 l:=rf;have r2':=r2.ext e3;cases r2' with
     |ref Pt =>
      have QX:p≠m3.ad _:=λz=>by rw[z,h1] at hp;cases hp
      have ek:=vv r3 hk;subst ek;have kk:=My.rS (o:=.tup (ks.map kV)) hp;have S4:=S3.same kk;have e4:Ext H3 m3 s3 _ m3 s3:=.same kk;have rq:=((r1.ext e2).ext e3).ext e4;obtain⟨S5,e5⟩:=S4.putT hg ((rz.same e4).put (k:=ks) rq);exact⟨_,_,rfl,DPut.t (by rw[lG (bY QX)];exact h1) lJ (by rw[rz.length];exact sz6 hl.2),P3 _ _ _ (e4.trans e5) S5 (((((er.ext e1).ext e2).ext e3).ext e4).ext e5)⟩
    ·exact P3.elim
   ·exact P3.elim
  ·exact P3.elim⟩⟩⟩⟩
def xMk(C:ak)(n:Nat)(D:XF)(fa:XA)(Z:En)(s:Sto):Out PV:=(fa Z s).bind λvs s1=>if vs.length+1=n then(D (.ref s1.nx::vs) (s1.add (.obj C []))).bind (λv s2=>match v with
 |.non=>.ok (.ref s1.nx) s2
 |_=>.bad) else .bad
def pe_mk(M:MkB X.prog X.w X.K X.mg X.base x C k ps sp)(hr:Room (k+1) X.A)(hg:Gl X x)(hx:nL (CXo X.prog X.w) X E)(ha:PA X (e::es) t)(P8:NDb x:=by decide)(he:SEb X e es:=by rfl)(PK:(b5 pos (aB es X.env)).any (·.1)=false:=by rfl):PE X (.Call (.Name x p) (e::es) [] pos) (HK C sp [] E t):=by
 obtain⟨f,fd,F,hm,mk,hb⟩:=M;exact Ll mk F hr hg hm hb .nil hx ha P8 he PK
def Nu(M:MkB X.prog X.w X.K X.mg X.base x C k ps (spD X.K CB n D))(ha:DA X CB E (e::es) fa)(hr:Room jr X.A:=by assumption)(hk:k+1<=jr:=by first|decide|omega)(hg:Gl X x:=by rfl)(hx:nL (CXo X.prog X.w) X E:=by first|exact nS|exact rV)(P8:NDb x:=by decide)(he:SEb X e es:=by rfl)(PK:(b5 pos (aB es X.env)).any (·.1)=false:=by rfl):DE X CB E (.Call (.Name x p) (e::es) [] pos) (xMk C n D fa) :=
 ⟨(pe_mk M (hr.mono hk) hg hx ha.pa P8 he PK).mono λO H Q=>oE λZ s m er S P=>⟨Z,s,m,er,S,P.bind λvs s1 us H1 m1 e1 S1 r1 P1=>by
  split at P1
  ·rename_i hl;intro b dx hb Vj PL;rw[cS];have kk:Same H1 (upd (upd H1 dx (.own b)) b (.ins C dx [])):=λc o h=>by rw[lG (lV h hb),lG (lV h Vj)];exact h
   obtain⟨S2,e2⟩:=S1.add (c:=.obj C []) (upd (upd H1 dx (.own b)) b (.ins C dx [])) b [b] kk (λa ha=>by rw[ao.mp ha];exact hb) λex=>by
    have q1:(m1.add s1.nx b [b]).ad s1.nx=b:=by show(if s1.nx=s1.nx then b else _)=_;rw[Zc rfl]
    have q2:(m1.add s1.nx b [b]).fp s1.nx=[b]:=by show(if s1.nx=s1.nx then [b] else _)=_;rw[Zc rfl]
    exact⟨by rw[q1,q2],dx,[],by rw[q1];exact lJ,rfl,.nil⟩
   refine⟨by rw[bh,r1.length];exact hl,_,_,_,.cons .new (r1.ext e2),S2,(Post.shift e2 P1).bind λv s3 u H3 m3 e3 S3 r3 P3=>?_⟩;split at P3
   ·cases r3;exact⟨rfl,P3 _ _ _ .refl S3 (Rep.new.ext e3)⟩
   ·exact P3.elim
  ·exact P1.elim⟩⟩
theorem RepZ.none{κ:Type}[DecidableEq κ]{K:aa}{H:Hp}{m:Mp}{s:Sto}{k:κ}:∀{l:List (κ×PV)}{vs:List (κ×V)},RepZ K H m s vs l->sU l k=Zb->oo vs k=Zb
 |[],vs,h,_=>by
  have:=h.length;rw[cB.mp this];rfl
 |q::l,vs,h,e=>by
  obtain⟨w,r,rfl,a,b⟩:=h.cons_inv;unfold sU at e;unfold oo;rw[bG] at e ⊢;by_cases c:q.1=k
  ·rw[Zg c] at e;cases e
  ·rw[Zh c] at e;show kL _ (match decide (q.1=k) with|true=>Za (q.1,w)|false=>_)=_;rw[Zh c];exact b.none e
def xOM(C:ak)(nm:Str)(n:Nat)(D:XF)(f:XE)(fa:XA)(Z:En)(s:Sto):Out PV:=(f Z s).bind λo s1=>match o with
 |.ref k=>match s1.get k with
  |some (.obj C' fs)=>if C'=C/\sU fs nm=Zb then(fa Z s1).bind λvs s2=>if vs.length+1=n then D (.ref k::vs) s2 else .bad else .bad
  |_=>.bad
 |_=>.bad
def KF(ho:DE X CB E a f)(M:Mt X.prog X.w X.K X.mg X.base C m k ps (spD X.K CB n D))(ha:DA X CB E (e::es) fa)(hr:Room jr X.A:=by assumption)(hk:k<=jr:=by first|decide|omega)(hx:nL (CXo X.prog X.w) X E:=by first|exact nS|exact rV)(QI:SEb X e es:=by rfl)(PK:(b5 pos (aB es X.env)).any (·.1)=false:=by rfl)(ht:eval (.Call (.Attribute a m Pg) (e::es) [] pos) X.env=(do
   let ov <-eval a X.env
   gc Pg.atName
   let(f,first) <-holding [ov] (fQ ov m pl)
   iM pos f first (b5 pos (aB (e::es) X.env)) (eL pos (cU [] X.env))):=by rfl):DE X CB E (.Call (.Attribute a m Pg) (e::es) [] pos) (xOM C m n D f fa) :=
 ⟨(qu (pl:=pl) ho.pe M (hr.mono hk) hx ha.pa QI PK ht).mono λO H Q=>oE λZ s m' er S P=>⟨Z,s,m',er,S,P.bind λv s1 u H1 m1 e1 S1 r1 P1=>by
  split at P1
  ·split at P1
   ·rename_i hg;split at P1
    ·rename_i hc;obtain⟨hc,U7⟩:=hc;subst hc;obtain⟨_,dx,Qp,h1,rf⟩:=S1.get hg;cases r1 with
     |ref hn =>
     refine⟨_,_,_,rfl,h1,(w5 m Qp).trans (RepZ.none rf U7),Z,s1,m1,er.ext e1,S1,P1.bind λvs s2 us H2 m2 e2 S2 r2 P2=>?_⟩;split at P2
     ·rename_i hl;rw[cS];refine⟨by rw[bh,r2.length];exact hl,_,s2,m2,.cons ?_ r2,S2,P2⟩;exact(Rep.ref hn).ext e2
     ·exact P2.elim
    ·exact P1.elim
   ·exact P1.elim
  ·exact P1.elim⟩⟩
def rIxL0(K:aa):R2:=λx y H Q=>∃(p:ak)(xs:List V)(j:Nat)(v:V),x=.ref p/\y=.int (j:Int)/\SqL K H p xs/\xs[j]?=Za v/\Q v H
def Jf:PGet X (rIxL0 X.K):=by intro Pf s O H x y v u Q I rx ry h;obtain⟨p,xs,j,z,rfl,rfl,hq,he,q⟩:=h;cases rx;obtain⟨t,rfl⟩:=ry;obtain⟨its,r,pl,hz⟩:=I.list hq;obtain⟨w,ew,P4⟩:=r.get he;have hl:=r.length;have hn:=vQ;have hj:j<its.length:=(aW.mp ew).1;exact wpAny_getItem_list pl.isList (by lia) (by lia) (by simpa using ew) ⟨z,H,I,P4,q⟩
def HI(f g h:XE)(Z:En)(s:Sto):SO:=(f Z s).so λo s1=>(g Z s1).so λi s2=>match o,i with
 |.ref n,.int k=>if 0<=k then(match s2.get n with
  |some (.lst l)=>(match l[k.toNat]? with
   |some (.int x)=>(h Z s2).so λv s3=>match v with
    |.int y=>(match s3.get n with
     |some (.lst l')=>if k.toNat<l'.length then .nx Z (s3.set n (.lst (l'.set k.toNat (.int (x+y))))) else .bad
     |_=>.bad)
    |_=>.bad
   |_=>.bad)
  |_=>.bad) else .bad
 |_,_=>.bad
def Mm(ho:DE X CB E a f)(hi:DE X CB E b g)(he:DE X CB E e h)(ha:∀ov iv new,augStore b ov iv new=(do holding [new,ov,iv] (jY ov iv new);release [new,ov,iv] [];pure .next):=by intros;rfl):DS X CB E (.AugAssign (.Subscript a b PY) .Add e pos) (HI f g h) :=
 ⟨(Le ho.pe hi.pe Jf he.pe J2 set_list ha).mono λD O H=>oE λZ s m er S P=>⟨Z,s,m,er,S,Post.so P λo s1 uo H1 m1 e1 S1 r1 P1=>⟨Z,s1,m1,er.ext e1,S1,Post.so P1 λi s2 ui H2 m2 e2 S2 r2 P2=>by
  split at P2
  ·rename_i n k;split at P2
   ·rename_i hk;split at P2
    ·rename_i l hg;split at P2
     ·rename_i x hx;obtain⟨_,vs,h1,q1⟩:=S2.get hg;obtain⟨u0,hu0,ru0⟩:=q1.get hx;cases ru0;have UI:=r1.ext e2;cases UI with
      |ref Pt =>
      cases r2;have ek:k=((k.toNat:Nat):Int):=by lia
      refine⟨_,vs,k.toNat,_,rfl,by rw[<-ek],SqL.of h1,hu0,Z,s2,m2,(er.ext e1).ext e2,S2,Post.so P2 λv s3 uv H3 m3 e3 S3 r3 P3=>?_⟩;split at P3
      ·split at P3
       ·rename_i l' hg';split at P3
        ·rename_i hl;cases r3;obtain⟨_,P6,SB,q1'⟩:=S3.get hg';have hn:n<s2.nx:=Pt;have ead:m3.ad n=m2.ad n:=e3.ad n hn;obtain⟨S4,e4⟩:=S3.putL hg' (q1'.set k.toNat (.int (i:=x+_)));rw[ead] at SB S4 e4;refine⟨_,_,rfl,rfl,_,P6,_,k.toNat,rfl,rfl,SB,?_,P3 _ _ _ e4 S4 ((((er.ext e1).ext e2).ext e3).ext e4)⟩;rw[q1'.length];unfold ixN;simp only[hk,if_true];rw[Zc (by lia)]
        ·exact P3.elim
       ·exact P3.elim
      ·exact P3.elim
     ·exact P2.elim
    ·exact P2.elim
   ·exact P2.elim
  ·exact P2.elim⟩⟩⟩
end
end L2
namespace PySem
open Sem (wp)
def Ci:typeLookup (.type "list") "keys"=pure none:=by rw[typeLookup_type,builtinLookup_eq_fast];kernel_rfl
def yy(hx:s.heap.get? a=Za o)(hc:o.cls=.type "list")(Q9:o.data=.seq xs k)(hd:o.dict=Zb)(hA:A.handled=Zb)(h:∀h' tk,(∀b o,s.heap.get? b=Za o->h'.get? b=Za o)->Q Zb { s with heap:=h',toks:=tk }) :
  aS (model prog w) A (getAttr? (.ref a) "keys") Q E s:=by
 obtain⟨c,dct,dat,sl⟩:=o;simp only at hc Q9 hd;subst hc Q9 hd;obtain⟨y1,y2,y3,y4,y5⟩:=s;have ty:∀z,(⟨y1,y2,y3,z,y5⟩:ax).TypeIs (.ref a) "list":=λ_=>⟨_,hx,rfl⟩;have f1:=sub_AttributeError;have f3:=gH.lookup;have f4:=gH.bind (.ref a);have f5:=am_list_getattr_none;unfold getAttr? getAttrBy? getAttrBy
 repeat (any_goals (first|assumption|exact ty _|((with_reducible show aS _ _ (call (Value.builtin "list.__getattribute__") _ _) _ _ _);refine ip gH (ty _) am_entry_list_getattribute (F.args_list_getattribute_2 _ _) (meets_getattribute_miss_list a xs k sl "keys" _ Ci (by decide +kernel) (by decide)) ⟨hx,hA,λh' tk' e QW=>?_⟩)|wp_step))
 obtain⟨t',u',he⟩:=QW.there;show aS _ _ (getattributeRaised _ _ _ _ _ _ _) _ _ _;unfold getattributeRaised
 repeat any_goals first|assumption|wp_step
 exact h _ _ QW.keeps
namespace F
def plain_dul:plainId "dict.update.loop"=true:=by decide +kernel
def entry_dul:entryFor table "dict.update.loop"=Za Builtin.«dict.update.loop»:=entryFor_of_tree (by kernel_rfl)
end F
section
variable{prog:aK}{w:ba}{K:Type}[DecidableEq K]{knd:KeyKind prog w K}{A:cA}{R:Result->ax->Prop}{D it l:ak}
structure PairAt(knd:KeyKind prog w K)(h:bx)(p:ak×K×ai×ai):Prop where
 at_:∃o n,h.get? p.1=Za o/\o.cls=.type "tuple"/\o.data=.seq #[p.2.2.1,p.2.2.2] n
 is:knd.is p.2.1 p.2.2.1=true
def wn(kvs:List (K×ai)):List (ak×K×ai×ai)->List (K×ai)
 |[]=>kvs
 |p::ps=>wn (stored kvs p.2.1 p.2.2.2) ps
theorem Ed(hh:A.handled=Zb)(Uk:D≠it)(hDl:D≠l)(hil:it≠l):∀(ps:List (ak×K×ai×ai))(i:Nat)(pre:List ai)(s:ax)(kvs:List (K×ai)),pre.length=i->s.heap.IsListIter it l i ->
  s.heap.IsList l (pre++ps.map λp=>bi p.1).toArray->(∀p∈ps,PairAt knd s.heap p/\p.1≠it/\p.1≠D)->s.heap.DictOf knd D kvs->kvs.length+ps.length<=aI ->
  (∀h' tk,h'.DictOf knd D (wn kvs ps)->(∀b o,b≠it->b≠D->s.heap.get? b=Za o->h'.get? b=Za o)->R (.ok (.ret .none)) { s with heap:=h',toks:=tk }) ->
  gg (model prog w) A (.builtin "dict.update.loop" ⟨[.ref D,.ref it,rawInt i,.none],[]⟩) R s
 |[],i,pre,s,kvs,hi,R7,hl,hp,hd,hz,hR=>by
  refine codeAny_builtin F.entry_dul ?_;rw[kl F.plain_dul _];show aS _ A.in1 (pyNext (.ref it) >>= _) _ _ s;refine aq (wpAny_pyNext_list_end (A:=A.in1) hh R7 hl (by simp[hi]) λh' sb=>?_);exact aq (aM (aM (hR h' s.toks (hd.extBut sb Uk) λb o hb _ e=>sb b o hb e)))
 |p::ps,i,pre,s,kvs,hi,R7,hl,hp,hd,hz,hR=>by
  obtain⟨⟨⟨o,n,hT,hc,hdt⟩,hk⟩,ni,nD⟩:=hp p ag;refine codeAny_builtin F.entry_dul ?_;rw[kl F.plain_dul _];show aS _ A.in1 (pyNext (.ref it) >>= _) _ _ s;refine aq (wpAny_pyNext_list_item (A:=A.in1) (x:=.ref p.1) R7 hl (by simp[<-hi]) λh' Vd sb=>?_);have hT':h'.get? p.1=Za o:=(sb.2 _ ni).trans hT;have S9:(⟨h',s.gens,s.drawn,s.toks,s.os⟩:ax).TypeIs (.ref p.1) "tuple":=⟨_,hT',hc⟩;refine aq (ed (aq (wpAny_tryCatch ?_)));show aS _ A.in1 (i9 (.ref p.1)) _ _ { s with heap:=h' };unfold i9;refine aq (wpAny_typeOf S9 ?_);rw[Zc (by decide)];refine aq (wpAny_seqItems hT' hdt (aM ?_));show aS _ A.in1 (holding [p.2.2.1,p.2.2.2] (dictSet D p.2.2.1 p.2.2.2)) _ _ _;have Tw:h'.DictOf knd D kvs:=hd.sameBut sb Uk;refine ed (wpAny_dictSet_pairs (hsz:=by rw[bh] at hz;lia) hk Tw λh2 Sy sb2=>?_);refine aM ⟨plainId_quiet F.plain_dul _,?_⟩;have kp:∀b,b≠it->b≠D->h2.get? b=s.heap.get? b:=λb h1 h2=>(sb2.2 b h2).trans (sb.2 b h1);have:=Ed hh Uk hDl hil ps (i+1) (pre++[.ref p.1]) { s with heap:=h2,toks:=s.toks+1 } (stored kvs p.2.1 p.2.2.2) (by simp[hi])
   (Vd.at λo e=>(sb2.2 it (bY Uk)).trans e) (by
    have e:(pre++[bi p.1]++ps.map λp=>bi p.1)=pre++(p::ps).map λp=>bi p.1:=by simp
    rw[e];exact hl.at λo e=>(kp l (bY hil) (bY hDl)).trans e) (λq hq=>by
    obtain⟨⟨⟨o,n,g,g2⟩,k⟩,a1,a2⟩:=hp q (ae _ hq);exact⟨⟨⟨o,n,(kp _ a1 a2).trans g,g2⟩,k⟩,a1,a2⟩) Sy (by
    have:=stored_length_le kvs p.2.1 p.2.2.2;rw[bh] at hz;lia) λh3 tk hd3 k3=>?_
  ·exact this
  ·exact hR h3 tk hd3 λb o h1 h2 e=>k3 b o h1 h2 ((kp b h1 h2).trans e)
end
open Sem (wp)
section
variable{prog:aK}{w:ba}{K:Type}[DecidableEq K]{knd:KeyKind prog w K}{E:ai->ax->Prop}{A:cA}{s:ax}
def xW(hh:A.handled=Zb)(hx:s.heap.get? l=Za ol)(Sc:ol.cls=.type "list")(Vk:ol.dict=Zb)(Ui:ol.data=.seq (ps.map λp=>bi p.1).toArray n)(hp:∀p∈ps,PairAt knd s.heap p)(hz:ps.length<=aI)(h:∀h' tk,h'.DictOf knd s.heap.objs.size (wn [] ps)->(∀b o,s.heap.get? b=Za o->h'.get? b=Za o)->Q (.ref s.heap.objs.size) { s with heap:=h',toks:=tk }) :
  aS (model prog w) A (call (.type "dict") [.ref l]) Q E s:=by
 refine callType_codes (Q₁:=λob s0=>ob=.ref s.heap.objs.size/\s0={ s with heap:=s.heap.push { cls:=.type "dict",data:=.dict #[] } }) F.kt_called_dict (F.kt_typeCall_dict_1 _) F.entry_dict_init (kt_code_dict_new _ ⟨rfl,rfl⟩) ?_
 rintro _ _ ⟨rfl,rfl⟩
 have nw:(s.heap.push { cls:=.type "dict",data:=.dict #[] }).DictOf knd s.heap.objs.size []:=ki s.heap;have QW:(s.heap.push { cls:=.type "dict",data:=.dict #[] }).get? l=Za ol:=ar _ hx;have hTl:({ s with heap:=s.heap.push { cls:=.type "dict",data:=.dict #[] } }:ax).TypeIs (.ref l) "list":=⟨_,QW,Sc⟩;have Ue:l<s.heap.objs.size:=az hx;refine⟨nw.typeIs,F.args_dict_init_2 _ _,?_⟩;unfold Builtin.«dict.__init__»;refine aq ?_;unfold Builtin.Dict.selfAndRest;refine aq (wpAny_notOrdered_dict nw.typeIs ?_);show aS _ _ (pure (s.heap.objs.size,[bi l])) _ _ _;refine aM ?_;show aS _ _ (i7 "dict.__init__" s.heap.objs.size (.ref l) [] .none) _ _ _;unfold i7;refine aq (wpAny_typeOf hTl ?_);rw[Zc (by decide)];refine aq (yy QW Sc Ui Vk hh λh1 tk kp=>?_);rw[Zc (show(Zb:Option ai).isNone=true from rfl)];refine aq (wpAny_rule ?_);have RE:h1.IsList l (ps.map λp=>bi p.1).toArray:=⟨_,kp _ _ QW,Sc,_,Ui⟩;refine aq (gJ RE ?_);obtain⟨od,es,ep,hod,rd⟩:=nw;have hD1:h1.get? s.heap.objs.size=Za od:=kp _ _ hod;have Tu:h1.DictOf knd s.heap.objs.size []:=⟨od,es,ep,hD1,rd⟩;have l1:l<h1.objs.size:=az (kp _ _ QW);have lD:s.heap.objs.size<h1.objs.size:=az hD1;have Rn:(h1.push { cls:=.type "list_iterator",data:=.fields #[.ref l,.int 0 0] }).IsListIter h1.objs.size l 0:=⟨_,a6 _ rfl,rfl,rfl⟩;refine aM ⟨plainId_quiet F.plain_dul _,Ed (A:=A.in1) hh (aF lD) (fY Ue) (fY l1) ps 0 [] _ [] rfl Rn (RE.push _) (λp q=>?_) (Tu.push _) (by simpa using hz) λh2 tk2 Sy k2=>⟨rfl,h h2 tk2 Sy λb o e=>?_⟩⟩
 ·obtain⟨⟨o,n,g,g2⟩,k⟩:=hp p q;have g1:=kp _ _ (ar { cls:=.type "dict",data:=.dict #[] } g);exact⟨⟨⟨o,n,ar _ g1,g2⟩,k⟩,aF (az g1),aF (az g)⟩
 ·have g1:=kp _ _ (ar { cls:=.type "dict",data:=.dict #[] } e);exact k2 b o (aF (az g1)) (aF (az e)) (ar _ g1)
end
end PySem
namespace L2
open PySem PySem.Spec PyProof.Rows
section
variable{X:Cx}{CB:ak}{E:XK}{a b c e:bo}{f g h:XE}{p pos Pg Ph:Pos}
def putAll(kvs:List (Key×V)):List (Key×V)->List (Key×V)
 |[]=>kvs
 |p::ps=>putAll (pA kvs p.1 p.2) ps
def rDP(K:aa):List V->Hp->VK->Prop:=λxs H Q=>∃(l:ak)(ts:List (ak×Key×V)),xs=[.ref l]/\SqL K H l (ts.map λt=>V.ref t.1)/\(∀t∈ts,SqT K H t.1 [kV t.2.1,t.2.2])/\∀p,H p=Zb->Q (.ref p) (upd H p (.dK (putAll [] (ts.map (·.2)))))
theorem uW:∀(ps kvs:List (Key×V)),(putAll kvs ps).length<=kvs.length+ps.length
 |[],kvs=>ap _
 |p::ps,kvs=>by have h1:=uW ps (pA kvs p.1 p.2);have h2:=qL kvs p.1 p.2;show(putAll (pA kvs p.1 p.2) ps).length<=kvs.length+(ps.length+1);lia
theorem KV.putAll:∀{ts:List (ak×Key×V)}{ps:List (ak×Key×ai×ai)}{kvs:List (Key×V)}{vs:List (Key×ai)},KV kvs vs->eU (λ(t:ak×Key×V)(p:ak×Key×ai×ai)=>t.1=p.1/\t.2.1=p.2.1/\RelV t.2.2 p.2.2.2) ts ps->KV (L2.putAll kvs (ts.map (·.2))) (wn vs ps)
 |[],_,_,_,r,.nil=>r
 |t::ts,p::ps,kvs,vs,r,.cons h hs=>by obtain⟨_,h2,h3⟩:=h;show KV (L2.putAll (pA kvs t.2.1 t.2.2) (ts.map (·.2))) (wn (stored vs p.2.1 p.2.2.2) ps);rw[<-h2];exact KV.putAll (r.put t.2.1 h3) hs
def MI(hc:X.calm=true):CallR X (.type "dict") (rDP X.K):=by
 intro Pf s O H xs us Q I r h;obtain⟨l,ts,rfl,hl,ht,q⟩:=h;obtain⟨u,rfl,rx⟩:=qI r;cases rx;obtain⟨its,rv,pl,hz⟩:=I.list hl;have UH:∀{ts:List (ak×Key×V)}{its:List ai},Vals (ts.map λt=>V.ref t.1) its->its=ts.map λt=>bi t.1:=by
  intro ts;induction ts with
  |nil=>intro its rv;cases rv;rfl
  |cons t ts ih =>
   intro its rv;cases rv with
   |cons r rs =>
    cases r;rw[ih rs];rfl
 have SQ:∀(ts:List (ak×Key×V)),(∀t∈ts,SqT X.K H t.1 [kV t.2.1,t.2.2])->∃ps:List (ak×Key×ai×ai),(∀p∈ps,PairAt (mG X.prog X.w) s.heap p)/\eU (λ(t:ak×Key×V)(p:ak×Key×ai×ai)=>t.1=p.1/\t.2.1=p.2.1/\RelV t.2.2 p.2.2.2) ts ps:=by
  intro ts;induction ts with
  |nil=>exact λ_=>⟨[],(λ_ z=>nomatch z),.nil⟩
  |cons t ts ih =>
   intro h;obtain⟨ps,h1,h2⟩:=ih λt' z=>h t' (ae _ z);obtain⟨Ql,Sn,⟨o,ho,Sc,n,hd⟩,_⟩:=I.tuple (h t ag);obtain⟨u1,u2,rfl,r1,r2⟩:=MU Sn;refine⟨(t.1,t.2.1,u1,u2)::ps,λp z=>?_,.cons ⟨rfl,rfl,r2⟩ h2⟩;rcases ah.mp z with z|z
   ·rw[z];exact⟨⟨o,n,ho,Sc,hd⟩,xS r1⟩
   ·exact h1 p z
 obtain⟨ps,h1,h2⟩:=SQ ts ht;have eps:∀{ts:List (ak×Key×V)}{ps:List (ak×Key×ai×ai)},eU (λ(t:ak×Key×V)(p:ak×Key×ai×ai)=>t.1=p.1/\t.2.1=p.2.1/\RelV t.2.2 p.2.2.2) ts ps->(ts.map λt=>bi t.1)=ps.map λp=>bi p.1:=by
  intro ts;induction ts with
  |nil=>intro ps h;cases h;rfl
  |cons t ts ih =>
   intro ps h;cases h with
   |cons a b=>rw[am,am,ih b,a.1]
 rw[UH rv,eps h2] at pl;obtain⟨o,n,ho,Sc,Vk,Ui⟩:=pl;rw[ac] at hz;have Pk:ps.length=ts.length:=(ir h2).symm;refine xW (knd:=mG X.prog X.w) (I.ok.hd hc) ho Sc Vk Ui h1 (by rw[Pk];exact hz) λh' tk dd kp=>?_;refine⟨.ref s.heap.objs.size,_,I.laid (a:=s.heap.objs.size) (o:=.dK (putAll [] (ts.map (·.2)))) (t':=tk) (λb o e=>kp b o e) (ap _) (C1 ?_ (beq_eq_false_iff_ne.mpr (bY (aF I.big))) (KV.putAll .nil h2) dd),rfl,q _ (I.hok.fresh (ap _))⟩;have:=uW (ts.map (·.2)) [];rw[ac] at this;simp only[jj,fw] at this;exact aH this hz
def AO:List (Key×PV)->List PV->Option (List (Key×PV))
 |kvs,[]=>Za kvs
 |kvs,.tup [k,p]::l=>match kyOf k with
  |some key=>AO (xw kvs key p) l
  |none=>Zb
 |_,_=>Zb
def AM(vs:List PV)(s:Sto):Out PV:=match vs with
 |[v]=>match lsOf s v with
  |some l=>match AO [] l with
   |some d=>.ok (.dct d) s
   |none=>.bad
  |none=>.bad
 |_=>.bad
theorem zj{K:aa}{H:Hp}{m:Mp}{s:Sto}:∀{l:List PV}{vs:List V}{kvs:List (Key×V)}{q d:List (Key×PV)},Reps K H m s vs l->RepKs K H m s kvs q->AO q l=Za d->∃ts:List (ak×Key×V),vs=(ts.map λt=>V.ref t.1)/\(∀t∈ts,SqT K H t.1 [kV t.2.1,t.2.2])/\RepKs K H m s (putAll kvs (ts.map (·.2))) d
 |[],_,kvs,q,d,.nil,rq,h=>by cases h;exact⟨[],rfl,(λ_ z=>nomatch z),rq⟩
 |p::l,_,kvs,q,d,.cons r rs,rq,h=>by
  unfold AO at h;split at h
  ·rename_i z;cases z
  ·rename_i k p' l' heq;cases heq;split at h
   ·rename_i key hk;obtain⟨a,P6,rfl,sq,rr⟩:=r.tp;cases rr with
    |cons r1 rr =>
     cases rr with
     |cons r2 rr =>
      cases rr;obtain⟨ts,e1,e2,e3⟩:=zj rs (rq.put key r2) h;have ek:=pY r1 hk;subst ek;refine⟨(a,key,_)::ts,by rw[e1];rfl,λt z=>?_,e3⟩;rcases ah.mp z with z|z
      ·rw[z];exact sq
      ·exact e2 t z
   ·cases h
  ·cases h
def FE(hc:X.calm=true):BltR X CB E (.type "dict") AM:=⟨_,MI hc,by
 intro H m s v x Q S rx P;unfold AM at P;split at P
 ·cases rx with
  |cons r n =>
   cases n;split at P
   ·rename_i l hl;split at P
    ·rename_i d hd;obtain⟨a,vs,rfl,q,r⟩:=r.ls S hl;obtain⟨ts,rfl,e2,e3⟩:=zj r .nil hd;exact⟨a,ts,rfl,q,e2,λp hp=>P.new S hp λex S'=>.dct (.inl lJ) (S.pure_none hp) (e3.ext ex)⟩
    ·exact P.elim
   ·exact P.elim
 ·exact P.elim⟩
def AH(d:ak):Obj:={ cls:=.type "dict_values",data:=.fields #[.ref d] }
def tVals(td:TE):TE:=λO H Q=>td O H λx H1=>∃(d:ak)(kvs:List (Key×V)),x=.ref d/\Rd H1 d (.dK kvs)/\∀v,H1 v=Zb->Q (.ref v) (upd H1 v (fzO (AH d)))
def Lj(ho:PE X a td)(PB:cz a "values" X.env (eval a X.env)=eval a X.env:=by rfl)(Pz:(Pg.endLine==Ph.line)=true:=by rfl):PE X (.Call (.Attribute a "values" Pg) [] [] Ph) (tVals td):=by intro Pf s O H Q I h;refine lc PB Pz (thn (ho Pf s O H _ I h) λv s1=>e4 λx H1 I1 r1 ⟨d,kvs,ex,hd,q⟩=>?_);subst ex;obtain rfl:v=bi d:=r1;obtain⟨t1,t2,_⟩:=Fu I1 (.inl ⟨kvs,hd⟩);refine⟨"dict","dict.values",gn,ju,PySem.F.type_dict_values,t1,t2,dI rfl (kK ?_)⟩;obtain⟨z,hs,vs,rel,dd⟩:=sR I1.hok hd;refine jp ju dd.typeIs PySem.F.entry_dict_values (PySem.F.args_dict_values_1 _) (meets_dict_values (mG X.prog X.w) d hs) ⟨⟨vs,dd⟩,?_⟩;have e0:(s1.heap.push (AH d)).get? s1.heap.objs.size=Za (AH d):=a6 _ rfl;exact⟨.ref s1.heap.objs.size,_,I1.laid (a:=s1.heap.objs.size) (o:=fzO (AH d)) (t':=s1.toks) (λb o e=>ar _ e) (ap _) ⟨e0,_,e0⟩,rfl,q _ (I1.hok.fresh (ap _))⟩
def HA(hc:X.calm=true):CallR X (.builtin "sum") (λxs H Q=>∃(v d:ak)(kvs:List (Key×V))(is:List Int),xs=[.ref v]/\H v=Za (fzO (AH d))/\Rd H d (.dK kvs)/\kvs.map (·.2)=is.map V.int/\Q (.int is.sum) H):=by
 intro Pf s O H xs us Q I r h;obtain⟨v,d,kvs,is,rfl,hv,hd,hi,q⟩:=h;obtain⟨u,rfl,ru⟩:=qI r;cases ru;obtain⟨z,hs,vs,rel,dd⟩:=sR I.hok hd;obtain⟨hov,_⟩:=(show ObjOk X.prog X.w H s.heap v (fzO (AH d)) from I.hok v _ hv);obtain⟨ep,QQ⟩:=dd.dictAt;have Si:∀{is:List Int}{kvs:List (Key×V)}{vs:List (Key×ai)},KV kvs vs->kvs.map (·.2)=is.map V.int->∀(i:Nat)(k:Key)(w:ai),vs[i]?=Za (k,w)->∃t,w=fV ((is[i]?).getD 0) t:=by
  intro is;induction is with
  |nil =>
   intro kvs vs rel e i k w hw;have:kvs=[]:=List.map_eq_nil_iff.mp e;subst this;cases rel;cases hw
  |cons x is ih =>
   intro kvs vs rel e i k w hw;cases rel with
   |nil=>cases e
   |cons a b =>
    rw[am,am] at e;obtain⟨e1,e2⟩:=eg e;cases i with
    |zero =>
     cases hw;have:=a.2;rw[e1] at this;obtain⟨t,rfl⟩:=this;exact⟨t,rfl⟩
    |succ i=>exact ih b e2 i k w hw
 have Pk:vs.length=is.length:=by have h1:=rel.length;have h2:=congrArg b7 hi;rw[ac,ac] at h2;lia
 have Rw:d<s.heap.objs.size:=by obtain⟨o,_,_,ho,_⟩:=dd;exact az ho
 refine call_sum_walkG (wpAny_pyIter_values (knd:=mG X.prog X.w) ⟨_,hov,rfl,rfl⟩ QQ ?_);refine⟨s.heap.objs.size,_,_,vs.length,_,_,λi=>(is[i]?).getD 0,rfl,Walks.dictValues (show X.A.in1.handled=Zb from I.ok.hd hc) s.heap.objs.size d (aF Rw) vs ep,⟨⟨_,a6 _ rfl,rfl,rfl⟩,QQ.push _⟩,λb hb=>?_,λi w ⟨k,hk⟩=>Si rel hi i k w hk,λh' tk t' hk=>?_⟩
 ·show b<(s.heap.push _).objs.size;rw[jy];simp only[ah,cK,or_false] at hb;rcases hb with z|z<;>rw[z]
  ·exact cC _
  ·exact cj Rw
 ·have ps:∀(is:List Int)(n:Nat),preSum (λi=>(is[i]?).getD 0) n=(is.take n).sum:=by
   intro is n;induction n with
   |zero=>rfl
   |succ n ih =>
    show preSum _ n+(is[n]?).getD 0=_;rw[ih,dW,List.sum_append];cases is[n]?<;>simp
  rw[ps,Pk,gC];refine⟨.int _,H,I.kept λb o e=>hk b o ?_ (ar _ e),⟨_,rfl⟩,q⟩;simp only[ao];exact aF (az e)
def Eo(f:XE)(Z:En)(s:Sto):Out PV:=(f Z s).bind λv s1=>match dcOf s1 v with
 |some l=>match tj (l.map (·.2)) with
  |some is=>.ok (.int is.sum) s1
  |none=>.bad
 |none=>.bad
theorem yK{K:aa}{H:Hp}{m:Mp}{s:Sto}:∀{vs:List (Key×V)}{l:List (Key×PV)},RepKs K H m s vs l->Reps K H m s (vs.map (·.2)) (l.map (·.2))
 |_,_,.nil=>.nil
 |_,_,.cons a b=>.cons a (yK b)
def Mv(ho:DE X CB E a f)(hc:X.calm=true:=by rfl)(hg:Gl X "sum":=by rfl)(hm:X.mg "sum"=none:=by assumption)(PB:cz a "values" X.env (eval a X.env)=eval a X.env:=by rfl)(Pz:(Pg.endLine==Ph.line)=true:=by rfl)(hs:aB [Expr.Call (.Attribute a "values" Pg) [] [] Ph] X.env=(false,eval (Expr.Call (.Attribute a "values" Pg) [] [] Ph) X.env)::aB [] X.env:=by rfl)(PK:(b5 pos (aB [] X.env)).any (·.1)=false:=by rfl):DE X CB E (.Call (.Name "sum" p) [.Call (.Attribute a "values" Pg) [] [] Ph] [] pos) (Eo f) :=
 ⟨(o6 (HA hc) hg hm Ki (lS (Lj ho.pe PB Pz) pa_nil hs) (by decide) (by decide) hs PK).mono λO H Q=>oE λZ s m er S P=>⟨Z,s,m,er,S,P.bind λv s1 u H1 m1 e1 S1 r1 P1=>by
  split at P1
  ·rename_i l hl;split at P1
   ·rename_i is hi;obtain⟨d,vs,rfl,hd,rr⟩:=r1.dc S1 hl;have e:=tX (yK rr) hi;refine⟨d,vs,rfl,hd,λw hw=>?_⟩;have kk:=My.rS (o:=fzO (AH d)) hw;exact⟨w,d,vs,is,rfl,lJ,hd.same kk,e,P1 _ _ _ (.same kk) (S1.same kk) .int⟩
   ·exact P1.elim
  ·exact P1.elim⟩⟩
def M5:R2:=λx y H Q=>∃a b kvs,x=.ref a/\y=.ref b/\Rd H a (.dK kvs)/\Rd H b (.dK [])/\Q (.bl kvs.isEmpty) H
def Lu(hu:X.A.units<eR):OpR X (bS .Eq) M5:=by
 intro Pf s O H x y v u Q I rx ry h;obtain⟨a,b,kvs,rfl,rfl,ha,hb,k⟩:=h;cases rx;cases ry;obtain⟨z,hs,vs,rel,dd⟩:=sR I.hok ha;obtain⟨z2,Rq,vs2,UG,VE⟩:=sR I.hok hb;cases UG;refine PySem.W.keq_eq (r:=true) hs Rq dd VE hu (λe=>?_) ⟨.bl _,H,I,rfl,?_⟩
 ·have:vs=[]:=cB.mp e;subst this;exact .nil
 ·have q:kvs.isEmpty=(vs.length==([]:List (Key×ai)).length&&true):=by cases rel<;>rfl
  rw[<-q];exact k
def AL(v w:PV)(s:Sto):Out PV:=match dcOf s v,dcOf s w with
 |some l,Za []=>.ok (.bl l.isEmpty) s
 |_,_=>.bad
def Oj:Op2 X.K CB E M5 AL:=by
 intro H m s v w x y Q S rx ry P;unfold AL at P;split at P
 ·rename_i l h1 h2;obtain⟨a,vs,rfl,q,r⟩:=rx.dc S h1;obtain⟨b,vs2,rfl,q2,r2⟩:=ry.dc S h2;cases r2;refine⟨a,b,vs,rfl,rfl,q,q2,?_⟩;have:vs.isEmpty=l.isEmpty:=by cases r<;>rfl
  rw[this];exact P.here S .bl
 ·exact P.elim
def OV(hr:Room jr X.A:=by assumption):CmpR X CB E .Eq AL:=⟨_,Lu (Nat.lt_of_succ_lt (nj hr)),Oj⟩
end
end L2
namespace My
open PySem L2 Fra
section
variable{P:aK}{w:ba}{K:aa}{mg:Str->Option ai}{base:bx}{a:Adr}{f:ak}{fd:cq}
def mL(a:Adr)(vs:List PV)(s:Sto):Out PV:=match vs with
 |[.int n,.int m]=>if 0<m then .ok (.int (aD n m)) s else .bad
 |_=>.bad
def KU(vs)(H)(Q)(E)(h:spD K a.Book 2 (mL a) vs H Q E):Fi vs H Q E:=by
 obtain⟨_,ps,s,m,r,S,P⟩:=h;unfold mL at P;split at P
 ·split at P
  ·rename_i hz;cases r with
   |cons r1 r=>cases r with
    |cons r2 r =>
     cases r;cases r1;cases r2;exact⟨_,_,rfl,hz,P.here S .int⟩
  ·exact P.elim
 ·exact P.elim
structure Yz(K:aa)(mg:Str->Option ai)(a:Adr):Prop where
 T:Txt K mg a
 h:∃h:bx,K.In h/\h.Ns a7 mg
def gof{x}{st}{k}{ps}{sp:Sp}(c:Gf K x st)(Y:Yz K mg a)(o:∀{f:ak}{fd:cq},Txt K mg a->Fun K x x st f fd->FnOk P w K mg base (CXo P w) k f fd ps sp)(b:Bd x x st ps:=by first|exact bd1|exact bd2|exact bd3|exact bd4|exact bd5|exact bd6|exact bd0):Fn P w K mg base x k ps sp :=
 let⟨_,X,G⟩:=Y.h;c.fn X G (o Y.T) b
variable (P w K mg base a) in abbrev AE:=Mt P w K mg base a.Book "person" 4 ["self","name"] (spD K a.Book 2 (uC a))
variable (P w K mg base a) in abbrev Cm:=Mt P w K mg base a.Book "house" 4 ["self","name","owner","things","mark","loss"] (spD K a.Book 6 (wJ a))
variable (P w K mg base a) in abbrev Dk:=Mt P w K mg base a.Book "sale" 4 ["self","house","one","other","share"] (spD K a.Book 5 (vU a))
variable (P w K mg base a) in abbrev tG:=Mt P w K mg base a.Book "persons" 1 ["self"] (spD K a.Book 1 (oR a))
variable (P w K mg base a) in abbrev oz:=Mt P w K mg base a.Book "houses" 1 ["self"] (spD K a.Book 1 (na a))
variable (P w K mg base a) in abbrev rj:=Mt P w K mg base a.Book "shares" 3 ["self","house"] (spD K a.Book 2 (m9 a))
variable (P w K mg base a) in abbrev HF:=Mt P w K mg base a.Book "of" 3 ["self","house"] (spD K a.Book 2 (Kl a))
variable (P w K mg base a) in abbrev xY:=Mt P w K mg base a.Book "is_house" 1 ["self","name"] (spD K a.Book 2 (qF a))
variable (P w K mg base a) in abbrev vE:=Mt P w K mg base a.Book "need_house" 2 ["self","name"] (spD K a.Book 2 (oX a))
variable (P w K mg base a) in abbrev AD:=Mt P w K mg base a.Book "things" 3 ["self","house","number"] (spD K a.Book 3 (rZ a))
variable (P w K mg base a) in abbrev Dl:=Mt P w K mg base a.Book "mark" 3 ["self","house","number"] (spD K a.Book 3 (AF a))
variable (P w K mg base a) in abbrev Dm:=Mt P w K mg base a.Book "loss" 3 ["self","house","number"] (spD K a.Book 3 (AG a))
variable (P w K mg base a) in abbrev Do:=MkB P w K mg base "Book" a.Book 1 ["self"] (JJ K a.Book)
variable (P w K mg base a) in abbrev rF:=Fn P w K mg base "common_divisor" 1 ["number","other"] (spD K a.Book 2 (mL a))
abbrev su:bR:=top 44
def Af:FnScope ["_law_cell","_law_k","_law_number_here"] ["_law_cell","_law_k"] (lK su):=fsc
def vK(a:Adr):XS:=(xSeq (xSet 2 (x2 (x2 (x2 (x2 (x2 (x2 (xVar 0) (xVar 0) E6) (x2 (xC (.int 3)) (xVar 0) fMul) fAdd) (x2 (xC (.int 7919)) (xVar 1) fMul) fAdd) (xC (.int 1)) fAdd) (xC (.int 48271)) fMul) (xC (.int 2147483629)) fMod)) (xRet (x2 (x2 (x2 (xVar 2) (xVar 2) fMul) (xC (.int 7)) fAdd) (xC (.int 2147483587)) fMod)))
def qg(a:Adr):XF:=(fnD 3 (vK a))
variable (P w K mg base a) in abbrev sI:=Fn P w K mg base "_law_mixed" 1 ["_law_cell","_law_k"] (spD K a.Book 2 (qg a))
def Ar(Y:Yz K mg a)(c:Gf K "_law_mixed" su):sI P w K mg base a :=
 gof c Y λT F=>ny F Af rfl λ_ _ _ _ _ _ hr S=>(lH (lY 2 (vS (m6 (m7 (m7 (m7 (Mz (lA 0) (lA 0)) (m6 lM (lA 0))) (m6 lM (lA 1))) lM) lM) lM)) (lO (mI (vS (m7 (m6 (lA 2) (lA 2)) lM) lM))))
abbrev si:bR:=top 45
def Ad:FnScope ["_law_script","_law_cells","_law_number_here","_law_k"] ["_law_script"] (lK si):=fsc
def ql(a:Adr) :XS:=(xSet 2 (x2 (x2 (xVar 2) (xC (.int 2147483587)) fMul) (xCall 2 (qg a) (xCons (x2 (xVar 1) (x2 (xVar 3) (xB (xCons (xVar 1) xNil) fLen) fMod) fIx) (xCons (xVar 3) xNil))) fAdd))
def sB(a:Adr):XS:=(xSeq (xSet 1 (x2 (xSl (xVar 0) xNoP (xPart (xC (.int 63)))) (xLst (xCons (xC (.int 0)) xNil)) fAdd)) (xSeq (xSet 2 (xC (.int 1))) (xSeq (xFor (xRng1 (xCons (xC (.int 64)) xNil)) (yName 3) (ql a)) (xSeq (xIf (xTr (x2 (xB (xCons (x2 (xVar 1) (xC (.int 0)) fIx) xNil) fAbs) (x2 (xC (.int 10)) (xC (.int 18)) fPow) fGe)) (xRet (xLstC (xCons (xB (xCons (x2 (xVar 1) (xC (.int 0)) fIx) xNil) fAbs) (xCons (xVar 2) xNil)))) xEnd) (xRet (xLstC (xCons (xVar 2) (xCons (xVar 2) xNil))))))))
def og(a:Adr):XF:=(fnD 4 (sB a))
variable (P w K mg base a) in abbrev sD:=Fn P w K mg base "_law_purse" 2 ["_law_script"] (spD K a.Book 1 (og a))
def Ap(Y:Yz K mg a)(c:Gf K "_law_purse" si)(A0:sI P w K mg base a):sD P w K mg base a :=
 gof c Y λT F=>ny F Ad rfl λ_ _ _ _ _ _ hr S=>(lH (lY 1 (m7 (HU (lA 0) zh (zg lM)) (vf (lI lM)))) (lH (lY 2 lM) (lH (qq (pO (lI lM)) (mD 3) (lO (lY 2 (m7 (m6 (lA 2) lM) (mh A0 (lL (mf (lA 1) (vS (lA 3) (mw b_len (lI (lA 1))))) (lI (lA 3)))))))) (lH (rH (pB c_ge (mw b_abs (lI (mf (lA 1) lM))) (yi lM lM)) (lO (mI (zl (lL (mw b_abs (lI (mf (lA 1) lM))) (lI (lA 2)))))) nQ) (lO (mI (zl (lL (lA 2) (lI (lA 2))))))))))
abbrev tP:bR:=top 46
def BX:FnScope ["_law_purse_here","_law_out_of","_law_drawn"] ["_law_purse_here","_law_out_of"] (lK tP):=fsc
def uc(a:Adr):XS:=(xSeq (xIf (xTr (x2 (x2 (xVar 0) (xC (.int 0)) fIx) (xC (.int 0)) fEq)) (xPut (xVar 0) (xC (.int 0)) (x2 (xVar 0) (xC (.int 1)) fIx)) xEnd) (xSeq (xSet 2 (x2 (x2 (xVar 0) (xC (.int 0)) fIx) (xVar 1) fMod)) (xSeq (xPut (xVar 0) (xC (.int 0)) (x2 (x2 (xVar 0) (xC (.int 0)) fIx) (xVar 1) fDiv)) (xRet (xVar 2)))))
def lR(a:Adr):XF:=(fnD 3 (uc a))
variable (P w K mg base a) in abbrev nv:=Fn P w K mg base "_law_draw" 1 ["_law_purse_here","_law_out_of"] (spD K a.Book 2 (lR a))
def Cg(Y:Yz K mg a)(c:Gf K "_law_draw" tP):nv P w K mg base a :=
 gof c Y λT F=>ny F BX rfl λ_ _ _ _ _ _ hr S=>(lH (rH (pB BH (mf (lA 0) lM) lM) (lO (yg (lA 0) lM (mf (lA 0) lM))) nQ) (lH (lY 2 (vS (mf (lA 0) lM) (lA 1))) (lH (yg (lA 0) lM (tw (mf (lA 0) lM) (lA 1))) (lO (mI (lA 2))))))
abbrev qj:bR:=top 47
def xO:FnScope ["_law_one","_law_other"] ["_law_one","_law_other"] (lK qj):=fsc
def n9(a:Adr) :XS:=(xPar 0 1 (xCons (xVar 1) (xCons (x2 (xVar 0) (xVar 1) fMod) xNil)))
def tF(a:Adr):XS:=(xSeq (xSet 0 (xB (xCons (xVar 0) xNil) fAbs)) (xSeq (xSet 1 (xB (xCons (xVar 1) xNil) fAbs)) (xSeq (sX (xTr (x2 (xVar 1) (xC (.int 0)) fGt)) (n9 a)) (xRet (xVar 0)))))
def oV(a:Adr):XF:=(fnD 2 (tF a))
variable (P w K mg base a) in abbrev qo:=Fn P w K mg base "_law_divisor" 1 ["_law_one","_law_other"] (spD K a.Book 2 (oV a))
def xQ(Y:Yz K mg a)(c:Gf K "_law_divisor" qj):qo P w K mg base a :=
 gof c Y λT F=>ny F xO rfl λ_ _ _ _ _ _ hr S=>(lH (lY 0 (mw b_abs (lI (lA 0)))) (lH (lY 1 (mw b_abs (lI (lA 1)))) (lH (zS (pB Pc (lA 1) lM) (lO (OK (i:=0) (j:=1) rfl S.nd rfl rfl (by decide) rfl rfl (lL (lA 1) (lI (vS (lA 0) (lA 1)))) rfl))) (lO (mI (lA 0))))))
abbrev tN:bR:=top 48
def BV:FnScope ["_law_top","_law_bottom","_law_by"] ["_law_top","_law_bottom"] (lK tN):=fsc
def xE(a:Adr):XS:=(xSeq (xSet 2 (xCall 2 (oV a) (xCons (xVar 0) (xCons (xVar 1) xNil)))) (xSeq (xIf (xTr (x2 (xVar 1) (xC (.int 0)) fLt)) (xSet 2 (x2 (xC (.int 0)) (xVar 2) fSub)) xEnd) (xRet (xTup (xCons (x2 (xVar 0) (xVar 2) fDiv) (xCons (x2 (xVar 1) (xVar 2) fDiv) xNil))))))
def mT(a:Adr):XF:=(fnD 3 (xE a))
variable (P w K mg base a) in abbrev qO:=Fn P w K mg base "_law_made" 2 ["_law_top","_law_bottom"] (spD K a.Book 2 (mT a))
def Ce(Y:Yz K mg a)(c:Gf K "_law_made" tN)(A0:qo P w K mg base a):qO P w K mg base a :=
 gof c Y λT F=>ny F BV rfl λ_ _ _ _ _ _ hr S=>(lH (lY 2 (mh A0 (lL (lA 0) (lI (lA 1))))) (lH (rH (pB c_lt (lA 1) lM) (lO (lY 2 (yh lM (lA 2)))) nQ) (lO (mI (rg (lL (tw (lA 0) (lA 2)) (lI (tw (lA 1) (lA 2)))))))))
abbrev sj:bR:=top 49
def Ae:FnScope ["_law_purse_here","_law_many","_law_letters","_law_long","_law_stem","_law_at","_law_found","_law_k","_law_spots"] ["_law_purse_here","_law_many"] (lK sj):=fsc
def nV(a:Adr) :XS:=(xSeq (xSet 8 (o4 (xRng1 (xCons (xVar 3) xNil)) [4,7,5] mU (x2 (x2 (xVar 1) (xVar 0) fIx) (x2 (x2 (xC (.int 5)) (xVar 2) fMul) (xB (xCons (x2 (xVar 0) (xVar 3) fEq) xNil) fInt) fMul) fAdd))) (xDo (xAppend (xVar 6) (xCons (xJoin (xC (.str "")) (xCons (o4 (xIter (xVar 8)) [2] mU (x2 (xVar 1) (x2 (xVar 0) (xC (.int 26)) fMod) fIx)) xNil)) xNil))))
def sC(a:Adr):XS:=(xSeq (xSet 2 (xC (.str "abcdefghijklmnopqrstuvwxyz"))) (xSeq (xSet 3 (x2 (xC (.int 1)) (xCall 2 (lR a) (xCons (xVar 0) (xCons (xC (.int 7)) xNil))) fAdd)) (xSeq (xSet 4 (o4 (xRng1 (xCons (xVar 3) xNil)) [0] mU (xCall 2 (lR a) (xCons (xVar 1) (xCons (xC (.int 26)) xNil))))) (xSeq (xSet 5 (xCall 2 (lR a) (xCons (xVar 0) (xCons (xVar 3) xNil)))) (xSeq (xSet 6 (xLstC xNil)) (xSeq (xFor (xRng1 (xCons (xVar 1) xNil)) (yName 7) (nV a)) (xSeq (xIf (xTr (x2 (xCall 2 (lR a) (xCons (xVar 0) (xCons (xC (.int 4)) xNil))) (xC (.int 0)) fEq)) (xSet 6 (oI (vV (xCons (xFrz (xVar 6)) xNil)) [] mU (x2 (xVar 1) (x2 (xC (.str "x")) (x2 (xVar 0) (xC (.int 2)) fMod) ze) fAdd))) xEnd) (xRet (Er (xVar 6))))))))))
def sK(a:Adr):XF:=(fnD 9 (sC a))
variable (P w K mg base a) in abbrev sH:=Fn P w K mg base "_law_names" 2 ["_law_purse_here","_law_many"] (spD K a.Book 2 (sK a))
def Aq(Y:Yz K mg a)(c:Gf K "_law_names" sj)(EN:mg "enumerate"=Zb)(A0:nv P w K mg base a):sH P w K mg base a :=
 gof c Y λT F=>ny F Ae rfl λ_ _ _ _ _ _ hr S=>(lH (lY 2 FB) (lH (lY 3 (m7 lM (mh A0 (lL (lA 0) (lI lM))))) (lH (lY 4 (qB (fr:=["_law_purse_here"]) (pO (lI (lA 3))) (λ_ _ _ _ _=>(mh A0 (lL (lA 1) (lI lM)))))) (lH (lY 5 (mh A0 (lL (lA 0) (lI (lA 3))))) (lH (lY 6 (zl AA)) (lH (qq (pO (lI (lA 1))) (mD 7) (lH (zf (fr:=["_law_stem","_law_k","_law_at"]) (pO (lI (lA 3))) (λ_ _ _ _ _=>(m7 (mf (lA 1) (lA 0)) (m6 (m6 lM (lA 2)) (uJ b_int (lI (C6 BH (lA 0) (lA 3)))))))) (lO (uH (Bw (lA 6) (lI (MB FB (lI (qB (fr:=["_law_letters"]) (rJ (lA 8)) (λ_ _ _ _ _=>(mf (lA 1) (vS (lA 0) lM)))))))))))) (lH (rH (pB BH (mh A0 (lL (lA 0) (lI lM))) lM) (lO (xJ (fr:=[]) (CD (lI (OS (lA 6))) rfl EN) (λ_ _ _ _ _=>(m7 (lA 1) (Mw FB (vS (lA 0) lM)))))) nQ) (lO (mI (MC (lA 6)))))))))))
abbrev qU:bR:=top 50
def ym:FnScope ["_law_purse_here","_law_most"] ["_law_purse_here"] (lK qU):=fsc
def vb(a:Adr):XS:=(xSeq (xSet 1 (x2 (xLst (xCons (xC (.int 10)) (xCons (xC (.int 10)) (xCons (xC (.int 100)) (xCons (xC (.int 3)) (xCons (x2 (xC (.int 10)) (xC (.int 6)) fPow) (xCons (x2 (xC (.int 10)) (xC (.int 20)) fPow) xNil))))))) (xCall 2 (lR a) (xCons (xVar 0) (xCons (xC (.int 6)) xNil))) fIx)) (xRet (x2 (xCall 2 (lR a) (xCons (xVar 0) (xCons (x2 (xC (.int 2)) (xVar 1) fMul) xNil))) (x2 (xVar 1) (xC (.int 3)) fDiv) fSub)))
def mM(a:Adr):XF:=(fnD 2 (vb a))
variable (P w K mg base a) in abbrev pH:=Fn P w K mg base "_law_number" 2 ["_law_purse_here"] (spD K a.Book 1 (mM a))
def yv(Y:Yz K mg a)(c:Gf K "_law_number" qU)(A0:nv P w K mg base a):pH P w K mg base a :=
 gof c Y λT F=>ny F ym rfl λ_ _ _ _ _ _ hr S=>(lH (lY 1 (mf (vf (lL lM (lL lM (lL lM (lL lM (lL (yi lM lM) (lI (yi lM lM)))))))) (mh A0 (lL (lA 0) (lI lM))))) (lO (mI (yh (mh A0 (lL (lA 0) (lI (m6 lM (lA 1))))) (tw (lA 1) lM)))))
abbrev tM:bR:=top 51
def BU:FnScope ["_law_purse_here","_law_share","_law_kind","_law_low"] ["_law_purse_here","_law_share"] (lK tM):=fsc
def ua(a:Adr):XS:=(xSeq (xSet 2 (xCall 2 (lR a) (xCons (xVar 0) (xCons (xC (.int 5)) xNil)))) (xSeq (xIf (xTr (x2 (xVar 2) (xC (.int 0)) fEq)) (xRet (xVar 1)) xEnd) (xSeq (xSet 3 (x2 (xLst (xCons (xC (.int 2)) (xCons (xC (.int 3)) (xCons (xC (.int 7)) (xCons (x2 (xC (.int 10)) (xC (.int 6)) fPow) xNil))))) (x2 (xVar 2) (xC (.int 1)) fSub) fIx)) (xRet (xCall 2 (mT a) (xCons (x2 (x2 (xVar 1) (xC (.int 0)) fIx) (x2 (xC (.int 1)) (xCall 2 (lR a) (xCons (xVar 0) (xCons (x2 (xVar 3) (xC (.int 1)) fSub) xNil))) fAdd) fMul) (xCons (x2 (x2 (xVar 1) (xC (.int 1)) fIx) (xVar 3) fMul) xNil)))))))
def pS(a:Adr):XF:=(fnD 4 (ua a))
variable (P w K mg base a) in abbrev ug:=Fn P w K mg base "_law_part" 3 ["_law_purse_here","_law_share"] (spD K a.Book 2 (pS a))
def Cd(Y:Yz K mg a)(c:Gf K "_law_part" tM)(A0:nv P w K mg base a)(A1:qO P w K mg base a):ug P w K mg base a :=
 gof c Y λT F=>ny F BU rfl λ_ _ _ _ _ _ hr S=>(lH (lY 2 (mh A0 (lL (lA 0) (lI lM)))) (lH (rH (pB BH (lA 2) lM) (lO (mI (lA 1))) nQ) (lH (lY 3 (mf (vf (lL lM (lL lM (lL lM (lI (yi lM lM)))))) (yh (lA 2) lM))) (lO (mI (mh A1 (lL (m6 (mf (lA 1) lM) (m7 lM (mh A0 (lL (lA 0) (lI (yh (lA 3) lM)))))) (lI (m6 (mf (lA 1) lM) (lA 3))))))))))
abbrev tL:bR:=top 52
def BS:FnScope ["_law_purse_here","_law_model","_law_holders","_law_book","_law_houses","_law_house","_law_shares","_law_owners","_law_one","_law_other","_law_part_here","_law_top","_law_low","_law_rest"] ["_law_purse_here","_law_model","_law_holders","_law_book"] (lK tL):=fsc
def tZ(a:Adr):XS:=(xSeq (xSet 4 (xB (xCons (xVar 1) xNil) me)) (xSeq (xSet 5 (x2 (xVar 4) (xCall 2 (lR a) (xCons (xVar 0) (xCons (xB (xCons (xVar 4) xNil) fLen) xNil))) fIx)) (xSeq (xSet 6 (x2 (x2 (xVar 1) (xVar 5) fIx) (xC (.int 0)) fIx)) (xSeq (xSet 7 (xB (xCons (xVar 6) xNil) me)) (xSeq (xSet 8 (x2 (xVar 7) (xCall 2 (lR a) (xCons (xVar 0) (xCons (xB (xCons (xVar 7) xNil) fLen) xNil))) fIx)) (xSeq (xSet 9 (x2 (xVar 2) (xCall 2 (lR a) (xCons (xVar 0) (xCons (xB (xCons (xVar 2) xNil) fLen) xNil))) fIx)) (xSeq (xSet 10 (xCall 2 (pS a) (xCons (xVar 0) (xCons (x2 (xVar 6) (xVar 8) fIx) xNil)))) (xSeq (xIf (xTr (x2 (x2 (xVar 10) (xC (.int 1)) fIx) (x2 (xC (.int 10)) (xC (.int 29)) fPow) fGe)) xRetN xEnd) (xSeq (xDo (xBM 5 (vU a) (xVar 3) (xCons (xVar 5) (xCons (xVar 8) (xCons (xVar 9) (xCons (xVar 10) xNil)))))) (xSeq (xAsg (Et (xVar 6) (xVar 8)) (yTup 2 (yCons (yName 11) (yCons (yName 12) yNil)))) (xSeq (xSet 13 (xCall 2 (mT a) (xCons (x2 (x2 (xVar 11) (x2 (xVar 10) (xC (.int 1)) fIx) fMul) (x2 (x2 (xVar 10) (xC (.int 0)) fIx) (xVar 12) fMul) fSub) (xCons (x2 (xVar 12) (x2 (xVar 10) (xC (.int 1)) fIx) fMul) xNil)))) (xSeq (xIf (xTr (x2 (x2 (xVar 13) (xC (.int 0)) fIx) (xC (.int 0)) fGt)) (xPut (xVar 6) (xVar 8) (xVar 13)) xEnd) (xSeq (xAsg (xGet (xVar 6) (xVar 9) (xTup (xCons (xC (.int 0)) (xCons (xC (.int 1)) xNil)))) (yTup 2 (yCons (yName 11) (yCons (yName 12) yNil)))) (xPut (xVar 6) (xVar 9) (xCall 2 (mT a) (xCons (x2 (x2 (xVar 11) (x2 (xVar 10) (xC (.int 1)) fIx) fMul) (x2 (x2 (xVar 10) (xC (.int 0)) fIx) (xVar 12) fMul) fAdd) (xCons (x2 (xVar 12) (x2 (xVar 10) (xC (.int 1)) fIx) fMul) xNil)))))))))))))))))
def qR(a:Adr):XF:=(fnD 14 (tZ a))
variable (P w K mg base a) in abbrev uf:=Fn P w K mg base "_law_sold" 5 ["_law_purse_here","_law_model","_law_holders","_law_book"] (spD K a.Book 4 (qR a))
def Cc(Y:Yz K mg a)(c:Gf K "_law_sold" tL)(A0:ug P w K mg base a)(A1:Dk P w K mg base a)(A2:qO P w K mg base a)(A3:nv P w K mg base a):uf P w K mg base a :=
 gof c Y λT F=>ny F BS rfl λ_ _ _ _ _ _ hr S=>(lH (lY 4 (mw (b_sorted rfl) (lI (lA 1)))) (lH (lY 5 (mf (lA 4) (mh A3 (lL (lA 0) (lI (mw b_len (lI (lA 4)))))))) (lH (lY 6 (mf (mf (lA 1) (lA 5)) lM)) (lH (lY 7 (mw (b_sorted rfl) (lI (lA 6)))) (lH (lY 8 (mf (lA 7) (mh A3 (lL (lA 0) (lI (mw b_len (lI (lA 7)))))))) (lH (lY 9 (mf (lA 2) (mh A3 (lL (lA 0) (lI (mw b_len (lI (lA 2)))))))) (lH (lY 10 (mh A0 (lL (lA 0) (lI (mf (lA 6) (lA 8)))))) (lH (rH (pB c_ge (mf (lA 10) lM) (yi lM lM)) (lO Mj) nQ) (lH (uH (tD (lA 3) A1 (lL (lA 5) (lL (lA 8) (lL (lA 9) (lI (lA 10))))))) (lH (Fy (MD (lA 6) (lA 8)) (tu (mJ (mD 11) (mJ (mD 12) qA)))) (lH (lY 13 (mh A2 (lL (yh (m6 (lA 11) (mf (lA 10) lM)) (m6 (mf (lA 10) lM) (lA 12))) (lI (m6 (lA 12) (mf (lA 10) lM)))))) (lH (rH (pB Pc (mf (lA 13) lM) lM) (lO (yg (lA 6) (lA 8) (lA 13))) nQ) (lH (Fy (FD (lA 6) (lA 9) (rg (lL lM (lI lM)))) (tu (mJ (mD 11) (mJ (mD 12) qA)))) (lO (yg (lA 6) (lA 9) (mh A2 (lL (m7 (m6 (lA 11) (mf (lA 10) lM)) (m6 (mf (lA 10) lM) (lA 12))) (lI (m6 (lA 12) (mf (lA 10) lM))))))))))))))))))))
abbrev sx:bR:=top 53
def Ag:FnScope ["_law_purse_here","_law_most","_law_many","_law_count","_law_names_here","_law_book","_law_model","_law_name","_law_k","_law_owner","_law_three"] ["_law_purse_here","_law_most"] (lK sx):=fsc
def qm(a:Adr) :XS:=(xDo (xBM 2 (uC a) (xVar 5) (xCons (xVar 7) xNil)))
def oU(a:Adr) :XS:=(xSeq (xSet 9 (x2 (xVar 4) (xCall 2 (lR a) (xCons (xVar 0) (xCons (x2 (xVar 2) (xVar 8) fAdd) xNil))) fIx)) (xSeq (xSet 10 (xTup (xCons (xCall 1 (mM a) (xCons (xVar 0) xNil)) (xCons (xCall 1 (mM a) (xCons (xVar 0) xNil)) (xCons (xB (xCons (xCall 1 (mM a) (xCons (xVar 0) xNil)) xNil) fAbs) xNil))))) (xSeq (xDo (xBM 6 (wJ a) (xVar 5) (xCons (x2 (xVar 4) (x2 (xVar 2) (xVar 8) fAdd) fIx) (xCons (xVar 9) (xCons (x2 (xVar 10) (xC (.int 0)) fIx) (xCons (x2 (xVar 10) (xC (.int 1)) fIx) (xCons (x2 (xVar 10) (xC (.int 2)) fIx) xNil))))))) (xPut (xVar 6) (x2 (xVar 4) (x2 (xVar 2) (xVar 8) fAdd) fIx) (xLst (xCons (xDisp (xVar 9) (xTup (xCons (xC (.int 1)) (xCons (xC (.int 1)) xNil)))) (xCons (xVar 10) xNil)))))))
def oT(a:Adr) :XS:=(xDo (xCall 4 (qR a) (xCons (xVar 0) (xCons (xVar 6) (xCons (xVar 4) (xCons (xVar 5) xNil))))))
def vL(a:Adr):XS:=(xSeq (xSet 2 (x2 (xC (.int 1)) (xCall 2 (lR a) (xCons (xVar 0) (xCons (xC (.int 3)) xNil))) fAdd)) (xSeq (xSet 3 (xCall 2 (lR a) (xCons (xVar 0) (xCons (x2 (xVar 1) (xC (.int 1)) fAdd) xNil)))) (xSeq (xSet 4 (xCall 2 (sK a) (xCons (xVar 0) (xCons (x2 (xVar 2) (xVar 3) fAdd) xNil)))) (xSeq (xSet 5 xBook) (xSeq (xSet 6 xNewD) (xSeq (xFor (xIter (xSl (xVar 4) xNoP (xPart (xVar 2)))) (yName 7) (qm a)) (xSeq (xFor (xRng1 (xCons (xVar 3) xNil)) (yName 8) (oU a)) (xSeq (xIf (xTr (x2 (xVar 3) (xC (.int 0)) fGt)) (xFor (xRng1 (xCons (xCall 2 (lR a) (xCons (xVar 0) (xCons (x2 (x2 (xC (.int 4)) (xVar 3) fMul) (xC (.int 1)) fAdd) xNil))) xNil)) (yName 8) (oT a)) xEnd) (xRet (xTup (xCons (xVar 5) (xCons (xB (xCons (xSl (xVar 4) xNoP (xPart (xVar 2))) xNil) me) (xCons (xVar 6) xNil)))))))))))))
def qh(a:Adr):XF:=(fnD 11 (vL a))
variable (P w K mg base a) in abbrev sJ:=Fn P w K mg base "_law_built" 6 ["_law_purse_here","_law_most"] (spD K a.Book 2 (qh a))
def As(Y:Yz K mg a)(c:Gf K "_law_built" sx)(A0:nv P w K mg base a)(A1:sH P w K mg base a)(A2:Do P w K mg base a)(A3:AE P w K mg base a)(A4:Cm P w K mg base a)(A5:pH P w K mg base a)(A6:uf P w K mg base a):sJ P w K mg base a :=
 gof c Y λT F=>ny F Ag rfl λ_ _ _ _ _ _ hr S=>(lH (lY 2 (m7 lM (mh A0 (lL (lA 0) (lI lM))))) (lH (lY 3 (mh A0 (lL (lA 0) (lI (m7 (lA 1) lM))))) (lH (lY 4 (mh A1 (lL (lA 0) (lI (m7 (lA 2) (lA 3)))))) (lH (lY 5 (MF A2)) (lH (lY 6 CG) (lH (qq (rJ (HU (lA 4) zh (zg (lA 2)))) (mD 7) (lO (uH (tD (lA 5) A3 (lI (lA 7)))))) (lH (qq (pO (lI (lA 3))) (mD 8) (lH (lY 9 (mf (lA 4) (mh A0 (lL (lA 0) (lI (m7 (lA 2) (lA 8))))))) (lH (lY 10 (rg (lL (mh A5 (lI (lA 0))) (lL (mh A5 (lI (lA 0))) (lI (mw b_abs (lI (mh A5 (lI (lA 0)))))))))) (lH (uH (tD (lA 5) A4 (lL (mf (lA 4) (m7 (lA 2) (lA 8))) (lL (lA 9) (lL (mf (lA 10) lM) (lL (mf (lA 10) lM) (lI (mf (lA 10) lM)))))))) (lO (yg (lA 6) (mf (lA 4) (m7 (lA 2) (lA 8))) (vf (lL (ME (lA 9) (rg (lL lM (lI lM)))) (lI (lA 10)))))))))) (lH (rH (pB Pc (lA 3) lM) (lO (qq (pO (lI (mh A0 (lL (lA 0) (lI (m7 (m6 lM (lA 3)) lM)))))) (mD 8) (lO (uH (mh A6 (lL (lA 0) (lL (lA 6) (lL (lA 4) (lI (lA 5)))))))))) nQ) (lO (mI (rg (lL (lA 5) (lL (mw (b_sorted rfl) (lI (HU (lA 4) zh (zg (lA 2))))) (lI (lA 6)))))))))))))))
structure Wy(K:aa)(mg:Str->Option ai)(a:Adr):Prop where
 c:Cls K a.HALF
 n_bottom:NoAttr K a.HALF "bottom"
 n_top_of:NoAttr K a.HALF "top_of"
 g:mg "Ways"=Za (.ref a.HALF)
 m:fE K a.HALF=true
 k:cD K (.ref a.HALF)=true
def gom(c:Gm K a.HALF x q st)(Y:Yz K mg a)(W:Wy K mg a)(o:∀{f:ak}{fd:cq},Txt K mg a->Fun K x q st f fd->FnOk P w K mg base (CXo P w) k f fd ps sp)(b:Bd x q st ps:=by first|exact bd1|exact bd2|exact bd3|exact bd4|exact bd5|exact bd6|exact bd0):Mt P w K mg base a.HALF x k ps sp:=Gm.mt W.c c (o Y.T) b
def gok(c:Gm K a.HALF "__init__" q st)(Y:Yz K mg a)(W:Wy K mg a)(o:∀{f:ak}{fd:cq},Txt K mg a->Fun K "__init__" q st f fd->FnOk P w K mg base (CXo P w) k f fd ps sp)(b:Bd "__init__" q st ps:=by first|exact bd1|exact bd2|exact bd3|exact bd4|exact bd5|exact bd6|exact bd0):MkB P w K mg base "Ways" a.HALF k ps sp :=
 let⟨f,fd,n,i,U⟩:=c.ex;⟨f,fd,o Y.T U,W.g,⟨W.m,n,i,W.k⟩,U.binds b⟩
abbrev zK:bR:=top 17
def GS:FnScope ["top","bottom","common"] ["top","bottom"] (lK zK):=fsc
def D7(a:Adr):XS:=(xSeq (xSet 2 (xCall 2 (mL a) (xCons (xVar 0) (xCons (xVar 1) xNil)))) (xRet (xTup (xCons (x2 (xVar 0) (xVar 2) fDiv) (xCons (x2 (xVar 1) (xVar 2) fDiv) xNil)))))
def wk(a:Adr):XF:=(fnD 3 (D7 a))
variable (P w K mg base a) in abbrev z5:=Fn P w K mg base "lowest" 2 ["top","bottom"] (spD K a.Book 2 (wk a))
def Hd(Y:Yz K mg a)(c:Gf K "lowest" zK)(A0:rF P w K mg base a):z5 P w K mg base a :=
 gof c Y λT F=>ny F GS rfl λ_ _ _ _ _ _ hr S=>(lH (lY 2 (mh A0 (lL (lA 0) (lI (lA 1))))) (lO (mI (rg (lL (tw (lA 0) (lA 2)) (lI (tw (lA 1) (lA 2))))))))
abbrev wS:bR:=top 29
def ED:FnScope ["row","by","turn","former"] ["row","by","turn","former"] (lK wS):=fsc
def Br(a:Adr):XS:=(xRet (oI (Em (xCons (xVar 0) (xCons (xVar 1) xNil))) [3,1,2,0] mU (x2 (x2 (x2 (x2 (xVar 3) (xVar 4) fIx) (xVar 0) fMul) (x2 (x2 (xVar 5) (xVar 4) fIx) (xVar 1) fMul) fSub) (xVar 2) fDiv)))
def rR(a:Adr):XF:=(fnD 4 (Br a))
variable (P w K mg base a) in abbrev xq:=Fn P w K mg base "cleared" 1 ["row","by","turn","former"] (spD K a.Book 4 (rR a))
def EQ(Y:Yz K mg a)(c:Gf K "cleared" wS)(ZN:mg "zip"=Zb):xq P w K mg base a :=
 gof c Y λT F=>ny F ED rfl λ_ _ _ _ _ _ hr S=>(lO (mI (zT (fr:=["former","by","turn","row"]) (FA (lL (lA 0) (lI (lA 1))) (hm:=ZN)) (λ_ _ _ _ _=>(tw (yh (m6 (mf (lA 3) (lA 4)) (lA 0)) (m6 (mf (lA 5) (lA 4)) (lA 1))) (lA 2))))))
abbrev zI:bR:=top 30
def GQ:FnScope ["rows","bottom","now","turn","by"] ["rows"] (lK zI):=fsc
def sS(a:Adr) :XS:=(xSeq (xSet 4 (x2 (xVar 2) (xVar 3) fIx)) (xSeq (xSet 2 (oI (vV (xCons (xVar 2) xNil)) [3,4,1] mU (xIfe (xTr (x2 (xVar 0) (xVar 2) fEq)) (xVar 1) (xCall 4 (rR a) (xCons (xVar 1) (xCons (xVar 3) (xCons (xVar 2) (xCons (xVar 4) xNil)))))))) (xSet 1 (x2 (xVar 4) (xVar 3) fIx))))
def D5(a:Adr):XS:=(xSeq (xSet 1 (xC (.int 1))) (xSeq (xSet 2 (xVar 0)) (xSeq (xFor (xRng1 (xCons (xB (xCons (xVar 0) xNil) fLen) xNil)) (yName 3) (sS a)) (xRet (xTup (xCons (o4 (xIter (xVar 2)) [0] mU (xSl (xVar 0) (xPart (xB (xCons (xVar 1) xNil) fLen)) xNoP)) (xCons (xVar 1) xNil)))))))
def wj(a:Adr):XF:=(fnD 5 (D5 a))
variable (P w K mg base a) in abbrev zZ:=Fn P w K mg base "solved" 2 ["rows"] (spD K a.Book 1 (wj a))
def G9(Y:Yz K mg a)(c:Gf K "solved" zI)(EN:mg "enumerate"=Zb)(A0:xq P w K mg base a):zZ P w K mg base a :=
 gof c Y λT F=>ny F GQ rfl λ_ _ _ _ _ _ hr S=>(lH (lY 1 lM) (lH (lY 2 (lA 0)) (lH (qq (pO (lI (mw b_len (lI (lA 0))))) (mD 3) (lH (lY 4 (mf (lA 2) (lA 3))) (lH (xJ (fr:=["turn","by","bottom"]) (CD (lI (lA 2)) rfl EN) (λ_ _ _ _ _=>(FC (pB BH (lA 0) (lA 2)) (lA 1) (mh A0 (lL (lA 1) (lL (lA 3) (lL (lA 2) (lI (lA 4))))))))) (lO (lY 1 (mf (lA 4) (lA 3))))))) (lO (mI (rg (lL (qB (fr:=["rows"]) (rJ (lA 2)) (λ_ _ _ _ _=>(HU (lA 0) (zg (mw b_len (lI (lA 1)))) zh))) (lI (lA 1)))))))))
abbrev o7:bR:=top 32
def vA:FnScope ["book","house","group"] ["book","house","group"] (lK o7):=fsc
def rD(a:Adr):XS:=(xRet (xB (xCons (oI (xIter (xBM 2 (m9 a) (xVar 0) (xCons (xVar 1) xNil))) [2] mU (x2 (xVar 0) (xVar 2) fIn)) xNil) fAll))
def oa(a:Adr):XF:=(fnD 3 (rD a))
variable (P w K mg base a) in abbrev pj:=Fn P w K mg base "is_held_within" 4 ["book","house","group"] (spD K a.Book 3 (oa a))
def vC(Y:Yz K mg a)(c:Gf K "is_held_within" o7)(A0:rj P w K mg base a):pj P w K mg base a :=
 gof c Y λT F=>ny F vA rfl λ_ _ _ _ _ _ hr S=>(lO (mI (mw (b_all rfl) (lI (zT (fr:=["group"]) (rJ (tD (lA 0) A0 (lI (lA 1)))) (λ_ _ _ _ _=>(C6 c_in (lA 0) (lA 2))))))))
abbrev qT:bR:=top 33
def yk:FnScope ["book","group","inside"] ["book"] (lK qT):=fsc
def mv(a:Adr) :XS:=(xSeq (xSet 2 (o4 (xIter (xVar 1)) [0,1] (xTr (xCall 3 (oa a) (xCons (xVar 1) (xCons (xVar 0) (xCons (xVar 2) xNil))))) (xVar 0))) (xSeq (xIf (xTr (x2 (xVar 2) (xVar 1) fEq)) (xRet (xVar 1)) xEnd) (xSet 1 (xVar 2))))
def va(a:Adr):XS:=(xSeq (xSet 1 (xBM 1 (na a) (xVar 0) xNil)) (sX (xTr (xC (.bl true))) (mv a)))
def oA(a:Adr):XF:=(fnD 3 (va a))
variable (P w K mg base a) in abbrev pG:=Fn P w K mg base "whole_group" 5 ["book"] (spD K a.Book 1 (oA a))
def yt(Y:Yz K mg a)(c:Gf K "whole_group" qT)(A0:oz P w K mg base a)(A1:pj P w K mg base a):pG P w K mg base a :=
 gof c Y λT F=>ny F yk rfl λ_ _ _ _ _ _ hr S=>(lH (lY 1 (vT (lA 0) A0)) (lO (zS (Ay Fa) (lH (zf (fr:=["book","group"]) (rJ (lA 1)) (λ_ _ _ _ _=>(lA 0)) (λ_ _ _ _ _=>(Jm (Ay (mh A1 (lL (lA 1) (lL (lA 0) (lI (lA 2))))))))) (lH (rH (pB BH (lA 2) (lA 1)) (lO (mI (lA 1))) nQ) (lO (lY 1 (lA 2))))))))
abbrev nC:bR:=top 34
def rL:FnScope ["book","group"] ["book"] (lK nC):=fsc
def oZ(a:Adr):XS:=(xSeq (xSet 1 (xCall 1 (oA a) (xCons (xVar 0) xNil))) (xIf (xTr (x2 (xVar 1) (xLst xNil) fNe)) xBad xEnd))
def nG(a:Adr):XF:=(fnD 2 (oZ a))
variable (P w K mg base a) in abbrev nF:=Fn P w K mg base "need_no_whole_group" 6 ["book"] (spD K a.Book 1 (nG a))
def rM(Y:Yz K mg a)(c:Gf K "need_no_whole_group" nC)(A0:pG P w K mg base a):nF P w K mg base a :=
 gof c Y λT F=>ny F rL rfl λ_ _ _ _ _ _ hr S=>(lH (lY 1 (mh A0 (lI (lA 0)))) (lO (rH (pB Nw (lA 1) (vf AA)) (lO OL) nQ)))
abbrev Kq:bR:=top 35
def NL:FnScope ["shares","pieces","holder","share"] ["shares"] (lK Kq):=fsc
def wG(a:Adr) :XS:=(xSet 1 (x2 (xVar 1) (x2 (x2 (xVar 3) (xC (.int 1)) fIx) (xCall 2 (mL a) (xCons (xVar 1) (xCons (x2 (xVar 3) (xC (.int 1)) fIx) xNil))) fDiv) fMul))
def No(a:Adr):XS:=(xSeq (xSet 1 (xC (.int 1))) (xSeq (xFor (xIter (xVar 0)) (yTup 2 (yCons (yName 2) (yCons (yName 3) yNil))) (wG a)) (xRet (xB (xCons (oI (xIter (xVar 0)) [1] mU (xTup (xCons (xVar 0) (xCons (x2 (x2 (xVar 1) (xC (.int 0)) fIx) (x2 (xVar 2) (x2 (xVar 1) (xC (.int 1)) fIx) fDiv) fMul) xNil)))) xNil) AM))))
def HV(a:Adr):XF:=(fnD 4 (No a))
variable (P w K mg base a) in abbrev KG:=Fn P w K mg base "cut" 2 ["shares"] (spD K a.Book 1 (HV a))
def Og(Y:Yz K mg a)(c:Gf K "cut" Kq)(DN:mg "dict"=Zb)(A0:rF P w K mg base a):KG P w K mg base a :=
 gof c Y λT F=>ny F NL rfl λ_ _ _ _ _ _ hr S=>(lH (lY 1 lM) (lH (qq (rJ (lA 0)) (tu (mJ (mD 2) (mJ (mD 3) qA))) (lO (lY 1 (m6 (lA 1) (tw (mf (lA 3) lM) (mh A0 (lL (lA 1) (lI (mf (lA 3) lM))))))))) (lO (mI (uJ (FE rfl) (lI (zT (fr:=["pieces"]) (rJ (lA 0)) (λ_ _ _ _ _=>(rg (lL (lA 0) (lI (m6 (mf (lA 1) lM) (tw (lA 2) (mf (lA 1) lM))))))))) (hm:=DN) (hv:=bt_dict))))))
abbrev wT:bR:=top 36
def EE:FnScope ["book"] ["book"] (lK wT):=fsc
def Bs(a:Adr):XS:=(xRet (xB (xCons (o4 (xIter (xBM 1 (na a) (xVar 0) xNil)) [0] mU (xTup (xCons (xVar 0) (xCons (xCall 1 (HV a) (xCons (xBM 2 (m9 a) (xVar 1) (xCons (xVar 0) xNil)) xNil)) xNil)))) xNil) AM))
def xt(a:Adr):XF:=(fnD 1 (Bs a))
variable (P w K mg base a) in abbrev xr:=Fn P w K mg base "all_cut" 4 ["book"] (spD K a.Book 1 (xt a))
def ES(Y:Yz K mg a)(c:Gf K "all_cut" wT)(DN:mg "dict"=Zb)(A0:KG P w K mg base a)(A1:oz P w K mg base a)(A2:rj P w K mg base a):xr P w K mg base a :=
 gof c Y λT F=>ny F EE rfl λ_ _ _ _ _ _ hr S=>(lO (mI (uJ (FE rfl) (lI (qB (fr:=["book"]) (rJ (vT (lA 0) A1)) (λ_ _ _ _ _=>(rg (lL (lA 0) (lI (mh A0 (lI (tD (lA 1) A2 (lI (lA 0))))))))))) (hm:=DN) (hv:=bt_dict))))
abbrev zJ:bR:=top 37
def GR:FnScope ["house","houses","pieces_of","row"] ["house","houses","pieces_of"] (lK zJ):=fsc
def D6(a:Adr):XS:=(xSeq (xSet 3 (xZ (xIter (xVar 1)) [0,2] mU (x1 (xGet (x2 (xVar 2) (xVar 0) fIx) (xVar 1) (xC (.int 0))) fNeg))) (xSeq (HI (xVar 3) (z7 (xVar 1) (xCons (xVar 0) xNil)) (Eo (x2 (xVar 2) (xVar 0) fIx))) (xRet (xVar 3))))
def z6(a:Adr):XF:=(fnD 4 (D6 a))
variable (P w K mg base a) in abbrev z3:=Fn P w K mg base "owning" 1 ["house","houses","pieces_of"] (spD K a.Book 3 (z6 a))
def Hc(Y:Yz K mg a)(c:Gf K "owning" zJ)(SM:mg "sum"=Zb):z3 P w K mg base a :=
 gof c Y λT F=>ny F GR rfl λ_ _ _ _ _ _ hr S=>(lH (Di (fr:=["house","pieces_of"]) (rJ (lA 1)) (λ_ _ _ _ _=>(OQ (FD (mf (lA 2) (lA 0)) (lA 1) lM)))) (lH (Mm (lA 3) (Jn (lA 1) (lI (lA 0))) (Mv (mf (lA 2) (lA 0)) (hm:=SM))) (lO (mI (lA 3)))))
abbrev tK:bR:=top 38
def BR:FnScope ["house","houses","pieces_of"] ["house","houses","pieces_of"] (lK tK):=fsc
def xD(a:Adr):XS:=(xRet (x2 (xCall 3 (z6 a) (xCons (xVar 0) (xCons (xVar 1) (xCons (xVar 2) xNil)))) (o4 (xIter (xVar 1)) [0] mU (xIfe (xTr (x2 (xVar 0) (xVar 1) fEq)) (xC (.int 1)) (xC (.int 0)))) fAdd))
def qQ(a:Adr):XF:=(fnD 3 (xD a))
variable (P w K mg base a) in abbrev ue:=Fn P w K mg base "agreement" 2 ["house","houses","pieces_of"] (spD K a.Book 3 (qQ a))
def Cb(Y:Yz K mg a)(c:Gf K "agreement" tK)(A0:z3 P w K mg base a):ue P w K mg base a :=
 gof c Y λT F=>ny F BR rfl λ_ _ _ _ _ _ hr S=>(lO (mI (m7 (mh A0 (lL (lA 0) (lL (lA 1) (lI (lA 2))))) (qB (fr:=["house"]) (rJ (lA 1)) (λ_ _ _ _ _=>(FC (pB BH (lA 0) (lA 1)) lM lM))))))
abbrev tQ:bR:=mV (top 39) 0
def BY:FnScope ["self","book","houses","pieces_of","solution","place","house","holder","top","other","piece"] ["self","book"] (lK tQ):=fsc
def oy(a:Adr) :XS:=(MT 8 (x2 (xGet (x2 (xVar 3) (xVar 9) fIx) (xVar 7) (xC (.int 0))) (x2 (xVar 10) (xVar 5) fIx) fMul))
def nK(a:Adr) :XS:=(xSeq (xSet 8 (xIfe (xTr (x2 (xVar 7) (xVar 6) fEq)) (Es a.HALF "bottom" (xVar 0)) (xC (.int 0)))) (xSeq (xFor (Em (xCons (xVar 2) (xCons (x2 (xVar 4) (xC (.int 0)) fIx) xNil))) (yTup 2 (yCons (yName 9) (yCons (yName 10) yNil))) (oy a)) (HG (Es a.HALF "top_of" (xVar 0)) (xCons (xVar 7) (xCons (xVar 6) xNil)) (xVar 8))))
def pF(a:Adr) :XS:=(xFor (xIter (x2 (xBM 1 (oR a) (xVar 1) xNil) (xVar 2) fAdd)) (yName 7) (nK a))
def xG(a:Adr):XS:=(xSeq (xDo (xCall 1 (nG a) (xCons (xVar 1) xNil))) (xSeq (xSet 2 (xBM 1 (na a) (xVar 1) xNil)) (xSeq (xSet 3 (xCall 1 (xt a) (xCons (xVar 1) xNil))) (xSeq (xSet 4 (xCall 1 (wj a) (xCons (o4 (xIter (xVar 2)) [2,3] mU (xCall 3 (qQ a) (xCons (xVar 0) (xCons (xVar 1) (xCons (xVar 2) xNil))))) xNil))) (xSeq (Ep a.HALF "bottom" (xVar 0) (x2 (xVar 4) (xC (.int 1)) fIx)) (xSeq (Ep a.HALF "top_of" (xVar 0) MS) (xFor (vV (xCons (xVar 2) xNil)) (yTup 2 (yCons (yName 5) (yCons (yName 6) yNil))) (pF a))))))))
def pT(a:Adr):XF:=(fnD 11 (xG a))
variable (P w K mg base a) in abbrev qP:=MkB P w K mg base "Ways" a.HALF 7 ["self","book"] (spD K a.Book 2 (pT a))
def Ch(Y:Yz K mg a)(WY:Wy K mg a)(c:Gm K a.HALF "__init__" "Ways.__init__" tQ)(EN:mg "enumerate"=Zb)(ZN:mg "zip"=Zb)(A0:nF P w K mg base a)(A1:oz P w K mg base a)(A2:xr P w K mg base a)(A3:zZ P w K mg base a)(A4:ue P w K mg base a)(A5:tG P w K mg base a):qP P w K mg base a :=
 gok c Y WY λT F=>ny F BY rfl λ_ _ _ _ _ _ hr S=>(lH (uH (mh A0 (lI (lA 1)))) (lH (lY 2 (vT (lA 1) A1)) (lH (lY 3 (mh A2 (lI (lA 1)))) (lH (lY 4 (mh A3 (lI (qB (fr:=["houses","pieces_of"]) (rJ (lA 2)) (λ_ _ _ _ _=>(mh A4 (lL (lA 0) (lL (lA 1) (lI (lA 2)))))))))) (lH (Ke (lA 0) (mf (lA 4) lM) WY.c WY.n_bottom) (lH (Ke (lA 0) Mx WY.c WY.n_top_of) (lO (qq (CD (lI (lA 2)) rfl EN) (tu (mJ (mD 5) (mJ (mD 6) qA))) (lO (qq (rJ (m7 (vT (lA 1) A5) (lA 2))) (mD 7) (lH (lY 8 (FC (pB BH (lA 7) (lA 6)) (C2 (lA 0) WY.c WY.n_bottom) lM)) (lH (qq (FA (lL (lA 2) (lI (mf (lA 4) lM))) (hm:=ZN)) (tu (mJ (mD 9) (mJ (mD 10) qA))) (lO (OM 8 (m6 (FD (mf (lA 3) (lA 9)) (lA 7) lM) (mf (lA 10) (lA 5)))))) (lO (Ml (C2 (lA 0) WY.c WY.n_top_of) (lL (lA 7) (lI (lA 6))) (lA 8)))))))))))))))
abbrev qV:bR:=mV (top 39) 1
def yn:FnScope ["self","holder","things"] ["self","holder","things"] (lK qV):=fsc
def vd(a:Adr):XS:=(xRet (xB (xCons (o4 (xIterD (xVar 2)) [2,0,1] mU (x2 (KH (Es a.HALF "top_of" (xVar 2)) (xCons (xVar 3) (xCons (xVar 0) xNil))) (x2 (xVar 1) (xVar 0) fIx) fMul)) xNil) Nq))
def pJ(a:Adr):XF:=(fnD 3 (vd a))
variable (P w K mg base a) in abbrev rh:=Mt P w K mg base a.HALF "top_by" 1 ["self","holder","things"] (spD K a.Book 3 (pJ a))
def yw(Y:Yz K mg a)(WY:Wy K mg a)(c:Gm K a.HALF "top_by" "Ways.top_by" qV)(SM:mg "sum"=Zb):rh P w K mg base a :=
 gom c Y WY λT F=>ny F yn rfl λ_ _ _ _ _ _ hr S=>(lO (mI (mw (b_sum rfl) (lI (qB (fr:=["things","self","holder"]) (Mo (lA 2)) (λ_ _ _ _ _=>(m6 (OR (C2 (lA 2) WY.c WY.n_top_of) (lL (lA 3) (lI (lA 0)))) (mf (lA 1) (lA 0)))))) (hm:=SM) (hv:=Ki))))
abbrev qW:bR:=mV (top 39) 2
def yo:FnScope ["self","holders","things"] ["self","holders","things"] (lK qW):=fsc
def ve(a:Adr):XS:=(xRet (o4 (xIter (xVar 1)) [2,0] mU (xTup (xCons (xVar 0) (xCons (xCall 2 (wk a) (xCons (xOM a.HALF "top_by" 3 (pJ a) (xVar 2) (xCons (xVar 0) (xCons (xVar 1) xNil))) (xCons (Es a.HALF "bottom" (xVar 2)) xNil))) xNil)))))
def pK(a:Adr):XF:=(fnD 3 (ve a))
variable (P w K mg base a) in abbrev pI:=Mt P w K mg base a.HALF "all_by" 3 ["self","holders","things"] (spD K a.Book 3 (pK a))
def yx(Y:Yz K mg a)(WY:Wy K mg a)(c:Gm K a.HALF "all_by" "Ways.all_by" qW)(A0:z5 P w K mg base a)(A1:rh P w K mg base a):pI P w K mg base a :=
 gom c Y WY λT F=>ny F yo rfl λ_ _ _ _ _ _ hr S=>(lO (mI (qB (fr:=["things","self"]) (rJ (lA 1)) (λ_ _ _ _ _=>(rg (lL (lA 0) (lI (mh A0 (lL (KF (lA 2) A1 (lL (lA 0) (lI (lA 1)))) (lI (C2 (lA 2) WY.c WY.n_bottom)))))))))))
abbrev sf:bR:=top 40
def Ac:FnScope ["book"] ["book"] (lK sf):=fsc
def vJ(a:Adr):XS:=(xRet (xB (xCons (o4 (xIter (xBM 1 (na a) (xVar 0) xNil)) [0] mU (xTup (xCons (xVar 0) (xCons (x2 (xBM 2 (Kl a) (xVar 1) (xCons (xVar 0) xNil)) (xC (.int 0)) fIx) xNil)))) xNil) AM))
def qf(a:Adr):XF:=(fnD 1 (vJ a))
variable (P w K mg base a) in abbrev qe:=Fn P w K mg base "own_things" 4 ["book"] (spD K a.Book 1 (qf a))
def An(Y:Yz K mg a)(c:Gf K "own_things" sf)(DN:mg "dict"=Zb)(A0:oz P w K mg base a)(A1:HF P w K mg base a):qe P w K mg base a :=
 gof c Y λT F=>ny F Ac rfl λ_ _ _ _ _ _ hr S=>(lO (mI (uJ (FE rfl) (lI (qB (fr:=["book"]) (rJ (vT (lA 0) A0)) (λ_ _ _ _ _=>(rg (lL (lA 0) (lI (mf (tD (lA 1) A1 (lI (lA 0))) lM))))))) (hm:=DN) (hv:=bt_dict))))
abbrev zH:bR:=top 41
def GP:FnScope ["book"] ["book"] (lK zH):=fsc
def D3(a:Adr):XS:=(xRet (xOM a.HALF "all_by" 3 (pK a) (xMk a.HALF 2 (pT a) (xCons (xVar 0) xNil)) (xCons (xBM 1 (na a) (xVar 0) xNil) (xCons (xCall 1 (qf a) (xCons (xVar 0) xNil)) xNil))))
def rY(a:Adr):XF:=(fnD 1 (D3 a))
variable (P w K mg base a) in abbrev zY:=Fn P w K mg base "worths" 9 ["book"] (spD K a.Book 1 (rY a))
def G5(Y:Yz K mg a)(c:Gf K "worths" zH)(A0:pI P w K mg base a)(A1:oz P w K mg base a)(A2:qe P w K mg base a)(A3:qP P w K mg base a):zY P w K mg base a :=
 gof c Y λT F=>ny F GP rfl λ_ _ _ _ _ _ hr S=>(lO (mI (KF (Nu A3 (lI (lA 0))) A0 (lL (vT (lA 0) A1) (lI (mh A2 (lI (lA 0))))))))
abbrev Cq:bR:=top 42
def Io:FnScope ["book"] ["book"] (lK Cq):=fsc
def Ge(a:Adr):XS:=(xRet (xOM a.HALF "all_by" 3 (pK a) (xMk a.HALF 2 (pT a) (xCons (xVar 0) xNil)) (xCons (xBM 1 (oR a) (xVar 0) xNil) (xCons (xCall 1 (qf a) (xCons (xVar 0) xNil)) xNil))))
def vi(a:Adr):XF:=(fnD 1 (Ge a))
variable (P w K mg base a) in abbrev CM:=Fn P w K mg base "parts" 9 ["book"] (spD K a.Book 1 (vi a))
def IJ(Y:Yz K mg a)(c:Gf K "parts" Cq)(A0:pI P w K mg base a)(A1:tG P w K mg base a)(A2:qe P w K mg base a)(A3:qP P w K mg base a):CM P w K mg base a :=
 gof c Y λT F=>ny F Io rfl λ_ _ _ _ _ _ hr S=>(lO (mI (KF (Nu A3 (lI (lA 0))) A0 (lL (vT (lA 0) A1) (lI (mh A2 (lI (lA 0))))))))
abbrev wR:bR:=top 2
def EB:FnScope ["book","house","found","waiting","at","holder","share"] ["book","house"] (lK wR):=fsc
def oK(a:Adr) :XS:=(xIf (xTr (x2 (xVar 5) (xVar 2) Ax)) (xSeq (xPut (xVar 2) (xVar 5) (xC (.bl true))) (xIf (xTr (xBM 2 (qF a) (xVar 0) (xCons (xVar 5) xNil))) (xDo (xAppend (xVar 3) (xCons (xVar 5) xNil))) xEnd)) xEnd)
def nW(a:Adr) :XS:=(xSeq (xSet 4 (HH (xVar 3))) (xFor (xIter (xBM 2 (m9 a) (xVar 0) (xCons (xVar 4) xNil))) (yTup 2 (yCons (yName 5) (yCons (yName 6) yNil))) (oK a)))
def Bq(a:Adr):XS:=(xSeq (xDo (xBM 2 (oX a) (xVar 0) (xCons (xVar 1) xNil))) (xSeq (xSet 2 xNewD) (xSeq (xSet 3 (xLstC (xCons (xVar 1) xNil))) (xSeq (sX (xTr (x2 (xVar 3) (xLst xNil) fNe)) (nW a)) (xRet (xB (xCons (xVar 2) xNil) we))))))
def uM(a:Adr):XF:=(fnD 7 (Bq a))
variable (P w K mg base a) in abbrev xn:=Fn P w K mg base "reached" 4 ["book","house"] (spD K a.Book 2 (uM a))
def EL(Y:Yz K mg a)(c:Gf K "reached" wR)(A0:vE P w K mg base a)(A1:rj P w K mg base a)(A2:xY P w K mg base a):xn P w K mg base a :=
 gof c Y λT F=>ny F EB rfl λ_ _ _ _ _ _ hr S=>(lH (uH (tD (lA 0) A0 (lI (lA 1)))) (lH (lY 2 CG) (lH (lY 3 (zl (lI (lA 1)))) (lH (zS (pB Nw (lA 3) (vf AA)) (lH (lY 4 (MA (lA 3))) (lO (qq (rJ (tD (lA 0) A1 (lI (lA 4)))) (tu (mJ (mD 5) (mJ (mD 6) qA))) (lO (rH (pB Gv (lA 5) (lA 2)) (lH (yg (lA 2) (lA 5) Fa) (lO (rH (Ay (tD (lA 0) A2 (lI (lA 5)))) (lO (uH (Bw (lA 3) (lI (lA 5))))) nQ))) nQ)))))) (lO (mI (mw (HE rfl) (lI (lA 2)))))))))
abbrev tO:bR:=top 54
def BW:FnScope ["_law_ahead","_law_behind","_law_some","_law_one","_law_other"] ["_law_ahead","_law_behind","_law_some"] (lK tO):=fsc
def ou(a:Adr) :XS:=(xIf (xAnd (xTr (x2 (xVar 3) (xVar 4) fNe)) (xTr (x2 (x2 (xVar 3) (xC (.int 0)) fIx) (xVar 2) Ax))) (xRet (xC (.bl false))) xEnd)
def xF(a:Adr):XS:=(xSeq (xFor (Em (xCons (xVar 0) (xCons (xVar 1) xNil))) (yTup 2 (yCons (yName 3) (yCons (yName 4) yNil))) (ou a)) (xRet (x2 (xB (xCons (xVar 0) xNil) fLen) (xB (xCons (xVar 1) xNil) fLen) fEq)))
def oM(a:Adr):XF:=(fnD 5 (xF a))
variable (P w K mg base a) in abbrev uh:=Fn P w K mg base "_law_kept" 1 ["_law_ahead","_law_behind","_law_some"] (spD K a.Book 3 (oM a))
def Cf(Y:Yz K mg a)(c:Gf K "_law_kept" tO)(ZN:mg "zip"=Zb):uh P w K mg base a :=
 gof c Y λT F=>ny F BW rfl λ_ _ _ _ _ _ hr S=>(lH (qq (FA (lL (lA 0) (lI (lA 1))) (hm:=ZN)) (tu (mJ (mD 3) (mJ (mD 4) qA))) (lO (rH (DW.dt (OI (pB Nw (lA 3) (lA 4)) (Mg (pB Gv (mf (lA 3) lM) (lA 2))))) (lO (mI Fa)) nQ))) (lO (mI (C6 BH (mw b_len (lI (lA 0))) (mw b_len (lI (lA 1)))))))
abbrev Kp:bR:=top 55
def NK:FnScope ["_law_script","_law_purse_here","_law_book","_law_persons","_law_model","_law_house","_law_some","_law_worth","_law_part_here"] ["_law_script"] (lK Kp):=fsc
def E4(a:Adr):XS:=(xSeq (xSet 1 (xCall 1 (og a) (xCons (xVar 0) xNil))) (xSeq (xAsg (xCall 2 (qh a) (xCons (xVar 1) (xCons (xC (.int 6)) xNil))) (yTup 3 (yCons (yName 2) (yCons (yName 3) (yCons (yName 4) yNil))))) (xSeq (xIf (xOr (xTr (x2 (xVar 4) xNewD AL)) (xTr (x2 (xCall 1 (oA a) (xCons (xVar 2) xNil)) (xLst xNil) fNe))) (xRet (xC (.bl true))) xEnd) (xSeq (xSet 5 (x2 (xB (xCons (xVar 4) xNil) me) (xCall 2 (lR a) (xCons (xVar 1) (xCons (xB (xCons (xVar 4) xNil) fLen) xNil))) fIx)) (xSeq (xSet 6 (xCall 2 (uM a) (xCons (xVar 2) (xCons (xVar 5) xNil)))) (xSeq (xSet 7 (xCall 1 (rY a) (xCons (xVar 2) xNil))) (xSeq (xSet 8 (xCall 1 (vi a) (xCons (xVar 2) xNil))) (xSeq (xDo (xBM 3 (rZ a) (xVar 2) (xCons (xVar 5) (xCons (x2 (x2 (x2 (x2 (x2 (xVar 4) (xVar 5) fIx) (xC (.int 1)) fIx) (xC (.int 0)) fIx) (xC (.int 1)) fAdd) (xCall 2 (lR a) (xCons (xVar 1) (xCons (x2 (xC (.int 10)) (xC (.int 6)) fPow) xNil))) fAdd) xNil)))) (xSeq (xIf (xOr (xNot (xTr (xCall 3 (oM a) (xCons (xVar 7) (xCons (xCall 1 (rY a) (xCons (xVar 2) xNil)) (xCons (x2 (xVar 6) (xLst (xCons (xVar 5) xNil)) fAdd) xNil)))))) (xNot (xTr (xCall 3 (oM a) (xCons (xVar 8) (xCons (xCall 1 (vi a) (xCons (xVar 2) xNil)) (xCons (xVar 6) xNil))))))) (xRet (xC (.bl false))) xEnd) (xSeq (xDo (xBM 3 (rZ a) (xVar 2) (xCons (xVar 5) (xCons (x2 (x2 (x2 (xVar 4) (xVar 5) fIx) (xC (.int 1)) fIx) (xC (.int 0)) fIx) xNil)))) (xSeq (xDo (xBM 3 (AF a) (xVar 2) (xCons (xVar 5) (xCons (xCall 1 (mM a) (xCons (xVar 1) xNil)) xNil)))) (xSeq (xDo (xBM 3 (AG a) (xVar 2) (xCons (xVar 5) (xCons (xB (xCons (xCall 1 (mM a) (xCons (xVar 1) xNil)) xNil) fAbs) xNil)))) (xRet (xAndV (x2 (xCall 1 (rY a) (xCons (xVar 2) xNil)) (xVar 7) fEq) (xAndV (x2 (xCall 1 (vi a) (xCons (xVar 2) xNil)) (xVar 8) fEq) (x2 (xCall 2 (uM a) (xCons (xVar 2) (xCons (xVar 5) xNil))) (xVar 6) fEq))))))))))))))))
def AR(a:Adr):XF:=(fnD 9 (E4 a))
def Oe(T:Txt K mg a)(F:Fun K "law" "law" Kp f fd)(A0:sD P w K mg base a)(A1:sJ P w K mg base a)(A2:xn P w K mg base a)(A3:zY P w K mg base a)(A4:CM P w K mg base a)(A5:AD P w K mg base a)(A6:Dl P w K mg base a)(A7:Dm P w K mg base a)(A8:nv P w K mg base a)(A9:pH P w K mg base a)(A10:pG P w K mg base a)(TR:uh P w K mg base a):FnOk P w K mg base (CXo P w) 10 f fd ["_law_script"] (spD K a.Book 1 (AR a)) :=
 ny F NK rfl λ_ _ _ _ _ _ hr S=>(lH (lY 1 (mh A0 (lI (lA 0)))) (lH (Fy (mh A1 (lL (lA 1) (lI lM))) (tu (mJ (mD 2) (mJ (mD 3) (mJ (mD 4) qA))))) (lH (rH (DW.dt (Nt (pB OV (lA 4) CG) (Kb (pB Nw (mh A10 (lI (lA 2))) (vf AA))))) (lO (mI Fa)) nQ) (lH (lY 5 (mf (mw (b_sorted rfl) (lI (lA 4))) (mh A8 (lL (lA 1) (lI (mw b_len (lI (lA 4)))))))) (lH (lY 6 (mh A2 (lL (lA 2) (lI (lA 5))))) (lH (lY 7 (mh A3 (lI (lA 2)))) (lH (lY 8 (mh A4 (lI (lA 2)))) (lH (uH (tD (lA 2) A5 (lL (lA 5) (lI (m7 (m7 (mf (mf (mf (lA 4) (lA 5)) lM) lM) lM) (mh A8 (lL (lA 1) (lI (yi lM lM))))))))) (lH (rH (DW.dt (Nt (Kd (Ay (mh TR (lL (lA 7) (lL (mh A3 (lI (lA 2))) (lI (m7 (lA 6) (vf (lI (lA 5)))))))))) (Kb (Kd (Ay (mh TR (lL (lA 8) (lL (mh A4 (lI (lA 2))) (lI (lA 6)))))))))) (lO (mI Fa)) nQ) (lH (uH (tD (lA 2) A5 (lL (lA 5) (lI (mf (mf (mf (lA 4) (lA 5)) lM) lM))))) (lH (uH (tD (lA 2) A6 (lL (lA 5) (lI (mh A9 (lI (lA 1))))))) (lH (uH (tD (lA 2) A7 (lL (lA 5) (lI (mw b_abs (lI (mh A9 (lI (lA 1))))))))) (lO (mI (Kg (C6 BH (mh A3 (lI (lA 2))) (lA 7)) (Kg (C6 BH (mh A4 (lI (lA 2))) (lA 8)) (OP (C6 BH (mh A2 (lL (lA 2) (lI (lA 5)))) (lA 6)))))))))))))))))))
end
def Sm(x:Str):Prop:=x.length<=9/\∀c∈x.cps.toList,c<128
def Sm.nm{x}(h:Sm x):Nm x:=⟨aH h.1 (by decide),λc hc=>gT (h.2 c hc) (by decide)⟩
def IY(x:Str):x.length=x.cps.toList.length:=by show x.cps.size=_;simp
def zX(x y:Str):(x++y).cps.toList=x.cps.toList++y.cps.toList:=PyProof.Rows.cps_toList_append x y
def LP:∀j,j<26->(aP "abcdefghijklmnopqrstuvwxyz").cps.toList[j]?=Za (97+j):=by decide +kernel
def Ot{i}(h0:0<=i)(h1:i<26):atI (aP "abcdefghijklmnopqrstuvwxyz").cps.toList i=Za (97+i.toNat):=by
 have e:i=(i.toNat:Int):=by lia
 have:=mO (LP i.toNat (by lia));rw[<-e] at this;exact this
def Ih{ys:List Str}(h:∀y∈ys,y.length<=1):(ys.map (·.length)).sum<=ys.length:=by
 induction ys with
 |nil=>exact ap _
 |cons y r ih =>
  have:=ih λz hz=>h z (ae _ hz);have:=h y ag;simp only[am,iF,bh];lia
structure FrB(k:Nat)(v:Int)(q:Int×Int):Prop where
 low:Low q
 nn:0<=q.1
 le:q.1<=v*q.2
 bb:Bt k q.2
def K8{q}(h:0<q.2):(red q).2∣q.2:=by obtain⟨v,hv⟩:(aD q.1 q.2:Int)∣q.2:=cm ..;have hg:0<aD q.1 q.2:=bH _ (by lia);refine⟨(aD q.1 q.2:Int),?_⟩;unfold red;simp only;rw[Int.ediv_mul_cancel (cm ..)]
def wg{p q}(hp:0<p.2)(hq:0<q.2):(nz p q).1*(p.2*q.2)=(p.1*q.2+q.1*p.2)*(nz p q).2:=(sW (q:=(p.1*q.2+q.1*p.2,p.2*q.2)) (bI hp hq)).2
def GC{k l}{p q}(hp:0<p.2)(hq:0<q.2)(bp:Bt k p.2)(bq:Bt l q.2):Bt (k+l) (nz p q).2 :=
 (bp.mul bq).dvd (Int.ne_of_gt (bI hp hq)) (K8 (q:=(p.1*q.2+q.1*p.2,p.2*q.2)) (bI hp hq))
def uG{a b d:Int}(hd:0<d)(h:a*d<=b*d):a<=b:=jL h hd
def yC{k:Nat}{v:Int}{g q:Int×Int}(hg:FrB k v g)(hq:Low q)(q0:0<q.1)(h:q.1*g.2<=g.1*q.2)(bq:Bt 97 q.2):FrB (k+97) v (nz g (-q.1,q.2)):=by
 have g0:=hg.low.1;have p0:=hq.1;have lq:Low (-q.1,q.2):=⟨hq.1,by have:=hq.2;unfold Cop aD at *;simp only[iy];exact this⟩;have lo:=Ej hg.low lq;have D0:0<g.2*q.2:=bI g0 p0;have ev:=wg (p:=g) (q:=(-q.1,q.2)) g0 p0;simp only at ev;generalize hr:nz g (-q.1,q.2)=r at *;have r0:=lo.1;refine⟨lo,?_,?_,?_⟩
 ·refine uG D0 ?_;rw[ev,i8];refine jK ?_ (bF r0);rw[iw];lia
 ·refine uG D0 ?_;rw[ev];have h1:g.1*q.2+-q.1*g.2<=v*g.2*q.2:=by have a1:g.1*q.2<=v*g.2*q.2:=aX hg.le (bF p0);have a2:0<=q.1*g.2:=jK (bF q0) (bF g0);rw[iw];lia
  have h2:=aX h1 (bF r0);have e:v*g.2*q.2*r.2=v*r.2*(g.2*q.2):=by simp only[aT,fz,br]
  rw[<-e];exact h2
 ·rw[<-hr];exact GC g0 p0 hg.bb bq
def MO{k:Nat}{v:Int}{g q:Int×Int}(hg:FrB k v g)(hq:Low q)(q0:0<q.1)(h:q.1<=v*q.2)(bq:Bt 97 q.2):FrB (k+97) (2*v) (nz g q)/\0<(nz g q).1:=by
 have g0:=hg.low.1;have p0:=hq.1;have lo:=Ej hg.low hq;have D0:0<g.2*q.2:=bI g0 p0;have ev:=wg (p:=g) (q:=q) g0 p0;have bt:=GC (p:=g) (q:=q) g0 p0 hg.bb bq;generalize hr:nz g q=r at *;have r0:=lo.1;have pos:0<r.1:=by
  have a1:0<=g.1*q.2:=jK hg.nn (bF p0);have a2:0<q.1*g.2:=bI q0 g0;have a3:0<(g.1*q.2+q.1*g.2)*r.2:=bI (by lia) r0;rw[<-ev] at a3;by_cases z:0<r.1
  ·exact z
  ·have:=iS (show r.1<=0 by lia) (bF D0);lia
 refine⟨⟨lo,bF pos,?_,bt⟩,pos⟩;refine uG D0 ?_;rw[ev];have h1:g.1*q.2+q.1*g.2<=2*v*g.2*q.2:=by
  have a1:g.1*q.2<=v*g.2*q.2:=aX hg.le (bF p0);have a2:q.1*g.2<=v*q.2*g.2:=aX h (bF g0);have e1:v*q.2*g.2=v*g.2*q.2:=eY ..;have e2:2*v*g.2*q.2=2*(v*g.2*q.2):=by rw[aT 2,aT 2]
  rw[e2];lia
 have h2:=aX h1 (bF r0);have e:2*v*g.2*q.2*r.2=2*v*r.2*(g.2*q.2):=by simp only[aT,fz,br]
 rw[<-e];exact h2
def FX{k:Nat}{v:Int}{g q:Int×Int}(hg:FrB k v g)(hq:Low q)(h:q.1*g.2<=g.1*q.2):q.1<=v*q.2:=by refine uG hg.low.1 (gX h ?_);have:=aX hg.le (bF hq.1);rw[eY];exact this
def FrC(c:Nat)(q:Int×Int):Prop:=FrB (194*c+2) (2^c:Nat) q
def FrC.top{c}{q}(h:FrC c q):Bt (195*c+2) q.1:=by
 have h1:=h.le;have h0:=h.nn;have hb:Bt (c+1) ((2^c:Nat):Int):=by unfold Bt;rw[iR,gS];have:=cW c;lia
 have h2:q.1.natAbs<=(((2^c:Nat):Int)*q.2).natAbs:=by lia
 unfold Bt;refine aQ h2 ?_;rw[iz,iR];have hb2:q.2.natAbs<2^(194*c+2):=h.bb;have:2^c*q.2.natAbs<2^c*2^(194*c+2):=Nat.mul_lt_mul_of_pos_left hb2 (cW c);rw[<-iu] at this;have e:c+(194*c+2)=195*c+2:=by lia
 rw[e] at this;exact this
def FrC.sz{c}{q}(h:FrC c q)(hc:c<=45):Sz q:=⟨h.low,h.top.mono (by lia),h.bb.mono (by lia)⟩
theorem FrC.mono{c d}{q}(h:FrC c q)(hc:c<=d):FrC d q:=by refine⟨h.low,h.nn,gX h.le ?_,h.bb.mono (by lia)⟩;refine aX ?_ (bF h.low.1);exact gW.mpr (b8 (by decide) hc)
def frc0(c):FrC c (0,1):=⟨⟨by decide,(rfl:aD 0 1=1)⟩,Int.le_refl _,by rw[k9];exact Int.natCast_nonneg _,bt1 (by lia)⟩
def frc1(c):FrC c (1,1):=⟨⟨by decide,(rfl:aD 1 1=1)⟩,by decide,by rw[k9];exact gW.mpr (cW c),bt1 (by lia)⟩
structure ShOk(q:Int×Int):Prop where
 low:Low q
 bt:Bt 200 q.1
 bb:Bt 97 q.2
def ShOk.sz{q}(h:ShOk q):Sz q:=⟨h.low,h.bt.mono (by decide),h.bb.mono (by decide)⟩
def uZ{l}{n}(h:n∉l.map (·.1)):lT l n=(0,1):=by
 unfold lT mj;have:l.find? (λq=>decide (q.1=n))=none:=by rw[cy];intro x hx z;exact h (aj.mpr ⟨x,hx,Zf z⟩)
 rw[this];rfl
def rv(q:Int×Int):Rat:=eS q.1 q.2
def JN{p q}(hp:0<p.2)(hq:0<q.2):rv (nz p q)=rv p+rv q:=by have h:=wg hp hq;have h2:0<(nz p q).2:=(sW (q:=(p.1*q.2+q.1*p.2,p.2*q.2)) (bI hp hq)).1.1;unfold rv;rw[Rat.divInt_add_divInt _ _ (by lia) (by lia),jT (by lia) (by have:=bI hp hq;lia)];exact h
def JM(q):rv (-q.1,q.2)=-rv q:=by unfold rv;rw[Rat.neg_divInt]
def mq:List Rat->Rat
 |[]=>0
 |x::l=>x+mq l
theorem zF:∀l m:List Rat,mq (l++m)=mq l+mq m
 |[],m=>by show mq m=0+mq m;rw[Rat.zero_add]
 |x::l,m=>by show x+mq (l++m)=x+mq l+mq m;rw[zF l m,Rat.add_assoc]
theorem Du{f g}{o}(h:∀n,n≠o->f n=g n):∀ns:List Str,ns.Nodup->mq (ns.map f)=if o∈ns then mq (ns.map g)+(f o-g o) else mq (ns.map g)
 |[],_=>rfl
 |n::ns,nd=>by
  obtain⟨n1,n2⟩:=ay.mp nd;have ih:=Du h ns n2;show f n+mq (ns.map f)=_;by_cases e:n=o
  ·subst e;rw[Zd n1] at ih;rw[Zc ag,ih];show f n+mq (ns.map g)=g n+mq (ns.map g)+(f n-g n)
   grind
  ·have m:o∈n::ns↔o∈ns:=⟨λz=>(ah.mp z).resolve_left λq=>e q.symm,ae _⟩;by_cases z:o∈ns
   ·rw[Zc z] at ih;rw[Zc (m.mpr z),ih,h n e];show g n+(mq (ns.map g)+(f o-g o))=g n+mq (ns.map g)+(f o-g o);rw[Rat.add_assoc]
   ·rw[Zd z] at ih;rw[Zd (λq=>z (m.mp q)),ih,h n e];rfl
def HX(l:Hl):Rat:=mq ((l.map (·.1)).map λn=>rv (lT l n))
def Dv{l}(nd:(l.map (·.1)).Nodup)(o)(q):HX (nu l o q)=HX l+(rv q-rv (lT l o)):=by
 have h:∀n,n≠o->rv (lT (nu l o q) n)=rv (lT l n):=λn hn=>by rw[mQ,Zd hn]
 have ho:rv (lT (nu l o q) o)=rv q:=by rw[mQ,Zc rfl]
 have u:=Du h (l.map (·.1)) nd;unfold HX;rw[mZ];by_cases z:o∈l.map (·.1)
 ·rw[Zc z] at u ⊢;rw[u,ho]
 ·rw[Zd z] at u ⊢;rw[aw,zF,u,uZ z];show _+(rv (lT (nu l o q) o)+0)=_;have:rv (0,1)=0:=Rat.zero_divInt 1;rw[ho,this]
  grind
structure On(D:Int)(q:Int×Int)(u:Int):Prop where
 low:Low q
 ev:q.1*D=u*q.2
def On.dvd{D}{q}{u}(h:On D q u):q.2∣D:=CI h.low.2.symm ⟨u,by rw[h.ev,br]⟩
def On.add{D}{p q}{u v}(h:On D p u)(g:On D q v):On D (nz p q) (u+v):=by
 have p0:=h.low.1;have q0:=g.low.1;have ev:=wg p0 q0;have pq:0<p.2*q.2:=bI p0 q0;refine⟨(sW (q:=(p.1*q.2+q.1*p.2,p.2*q.2)) pq).1,ei (a:=p.2*q.2) (by lia) ?_⟩;generalize nz p q=r at ev ⊢;have e1:=h.ev;have e2:=g.ev
 calc r.1*D*(p.2*q.2)=(r.1*(p.2*q.2))*D:=by rw[aT,br D,<-aT]
  _=((p.1*q.2+q.1*p.2)*r.2)*D:=by rw[ev]
  _=((p.1*D)*q.2+(q.1*D)*p.2)*r.2:=by
   rw[aT,br r.2 D,<-aT,Int.add_mul (p.1*q.2)]
   congr 2
   ·rw[aT,br q.2,<-aT]
   ·rw[aT,br p.2,<-aT]
  _=((u*p.2)*q.2+(v*q.2)*p.2)*r.2:=by rw[e1,e2]
  _=(u+v)*r.2*(p.2*q.2):=by
   have a1:u*p.2*q.2=u*(p.2*q.2):=aT ..;have a2:v*q.2*p.2=v*(p.2*q.2):=by rw[aT,br q.2]
   rw[a1,a2,<-Int.add_mul,aT,br (p.2*q.2),<-aT]
def On.neg{D}{q}{u}(h:On D q u):On D (-q.1,q.2) (-u) :=
 ⟨⟨h.low.1,by have:=h.low.2;unfold Cop aD at *;simp only[iy];exact this⟩,by show -q.1*D=-u*q.2;rw[iw,iw,h.ev]⟩
def On.scale{D}{q}{u}(h:On D q u)(k):On (D*k) q (u*k) :=
 ⟨h.low,by rw[<-aT,h.ev,aT,br q.2,<-aT]⟩
def Lx(D):On D (0,1) 0:=⟨⟨by decide,rfl⟩,by simp⟩
def Od(D):On D (1,1) D:=⟨⟨by decide,rfl⟩,by show 1*D=D*1;lia⟩
def Ly{q}(h:Low q):On q.2 q q.1:=⟨h,rfl⟩
structure HR(c:Nat)(hl hm:Hl):Prop where
 q:∀n,lT hl n=lT hm n
 nm:∀n,n∈hl.map (·.1)↔0<(lT hl n).1
 n1:(hl.map (·.1)).Nodup
 n2:(hm.map (·.1)).Nodup
 l1:hl.length<=c+1
 l2:hm.length<=c+1
 fr:∀n,FrC c (lT hl n)
 ex:∃n,0<(lT hl n).1
 sm:∀n∈hm.map (·.1),Sm n
 one:HX hm=1
 dv:∃(D:Int)(U:Str->Int),0<D/\Bt (97*c+1) D/\∀n,On D (lT hm n) (U n)
def OB(c){o}(ho:Sm o):HR c [(o,1,1)] [(o,1,1)]:=by
 have g:∀n,lT [(o,1,1)] n=if n=o then(1,1) else(0,1):=λn=>by
  unfold lT mj;rw[bG];by_cases e:o=n
  ·rw[show decide ((o,((1:Int),(1:Int))).1=n)=true from Zg e,Zc e.symm];rfl
  ·rw[show decide ((o,((1:Int),(1:Int))).1=n)=false from Zh e,Zd λz=>e z.symm];rfl
 refine⟨λ_=>rfl,λn=>?_,by simp,by simp,by simp,by simp,λn=>?_,⟨o,by rw[g,Zc rfl];decide⟩,λn hn=>by rw[ao.mp hn];exact ho,by
  show rv (lT [(o,1,1)] o)+0=1;rw[g,Zc rfl,gO];exact Rat.divInt_self' (by decide),1,λn=>if n=o then 1 else 0,by decide,bt1 (by lia),λn=>by
   rw[g];by_cases e:n=o
   ·rw[Zc e];show On 1 (1,1) (if n=o then 1 else 0);rw[Zc e];exact Od 1
   ·rw[Zd e];show On 1 (0,1) (if n=o then 1 else 0);rw[Zd e];exact Lx 1⟩
 ·rw[g];by_cases e:n=o
  ·rw[Zc e];simp[e]
  ·rw[Zd e];simp[e]
 ·rw[g];by_cases e:n=o
  ·rw[Zc e];exact frc1 c
  ·rw[Zd e];exact frc0 c
def HR.had{c}{hl hm}(h:HR c hl hm){n}(h0:0<(lT hm n).1):n∈hm.map (·.1):=by
 by_cases z:n∈hm.map (·.1)
 ·exact z
 ·rw[uZ z] at h0;exact absurd h0 (by decide)
def zP{q}(h:Low q)(h0:q.1=0):q=(0,1):=by
 obtain⟨t,b⟩:=q;obtain⟨h1,h2⟩:=h;simp only at h0 h1 h2;subst h0;have e:b=1:=by have:aD 0 b=1:=h2;rw[Int.gcd_zero_left] at this;lia
 rw[e]
def HR.sale{c}{hl hm}(h:HR c hl hm){o1 o2}{q}(hq:ShOk q)(so:Sm o2)(nt:¬oO hl o1 q):HR (c+1) (sold hl o1 o2 q) (HQ hm o1 o2 q):=by
 have q0:0<q.1:=by by_cases z:0<q.1;exact z;exact absurd (.inl z) nt
 have Qn:q.1*(lT hl o1).2<=(lT hl o1).1*q.2:=by
  by_cases z:q.1*(lT hl o1).2>(lT hl o1).1*q.2
  ·exact absurd (.inr z) nt
  ·lia
 have R:=yC (h.fr o1) hq.low q0 Qn hq.bb;have qv:=FX (h.fr o1) hq.low Qn;have Q2:o1∈hl.map (·.1):=by
  rw[h.nm];by_cases z:0<(lT hl o1).1
  ·exact z
  ·have a1:(lT hl o1).1*q.2<=0:=iS (by lia) (bF hq.low.1);have a2:0<q.1*(lT hl o1).2:=bI q0 (h.fr o1).low.1;lia
 have SU:o1∈hm.map (·.1):=h.had (by rw[<-h.q];exact(h.nm o1).mp Q2);generalize hr:nz (lT hl o1) (-q.1,q.2)=r at *;have key:∃l1 m1:Hl,sold hl o1 o2 q=nu l1 o2 (nz (lT l1 o2) q)/\HQ hm o1 o2 q=nu m1 o2 (nz (lT m1 o2) q)/\(∀n,lT l1 n=lT m1 n)/\(∀n,n∈l1.map (·.1)↔0<(lT l1 n).1)/\(l1.map (·.1)).Nodup/\(m1.map (·.1)).Nodup/\l1.length<=c+1/\m1.length<=c+1/\(∀n,FrB (194*c+2+97) (2^c:Nat) (lT l1 n))/\(∀n∈m1.map (·.1),Sm n)/\HX m1+rv q=1/\∃(D:Int)(U:Str->Int),0<D/\Bt (97*(c+1)+1) D/\On D q (U cx)/\∀n,∃u,On D (lT m1 n) u:=by
  have gm:∀n,lT (nu hm o1 r) n=if n=o1 then r else lT hl n:=λn=>by rw[mQ,h.q]
  have lm:(nu hm o1 r).length<=c+1:=by have:=congrArg b7 (mZ hm o1 r);rw[Zc SU,ac,ac] at this;rw[this];exact h.l2
  have SC:∀n,FrB (194*c+2+97) (2^c:Nat) (if n=o1 then r else lT hl n):=λn=>by
   by_cases e:n=o1
   ·rw[Zc e];exact R
   ·rw[Zd e];exact⟨(h.fr n).low,(h.fr n).nn,(h.fr n).le,(h.fr n).bb.mono (by lia)⟩
  have em:HQ hm o1 o2 q=nu (nu hm o1 r) o2 (nz (lT (nu hm o1 r) o2) q):=by unfold HQ;simp only[<-h.q o1,hr]
  have smm:∀n∈(nu hm o1 r).map (·.1),Sm n:=λn hn=>by rw[mZ,Zc SU] at hn;exact h.sm n hn
  have one1:HX (nu hm o1 r)+rv q=1:=by
   rw[Dv h.n2,h.one,<-hr,JN (q:=(-q.1,q.2)) (h.fr o1).low.1 hq.low.1,JM,h.q]
   grind
  have dv1:∃(D:Int)(U:Str->Int),0<D/\Bt (97*(c+1)+1) D/\On D q (U cx)/\∀n,∃u,On D (lT (nu hm o1 r) n) u:=by
   obtain⟨D,U,d1,d2,d3⟩:=h.dv;have oq:On (D*q.2) q (q.1*D):=by rw[br D];exact(Ly hq.low).scale D
   refine⟨D*q.2,λ_=>q.1*D,bI d1 hq.low.1,(d2.mul hq.bb).mono (by lia),oq,λn=>?_⟩;rw[mQ];by_cases e:n=o1
   ·rw[Zc e,<-hr,h.q];exact⟨_,((d3 o1).scale q.2).add oq.neg⟩
   ·rw[Zd e];exact⟨_,(d3 n).scale q.2⟩
  by_cases rz:r=(0,1)
  ·have gl:∀n,lT (mW hl o1) n=if n=o1 then r else lT hl n:=λn=>by rw[pN,rz]
   refine⟨mW hl o1,nu hm o1 r,?_,em,λn=>by rw[gl,gm],λn=>?_,Cw _ h.n1,vP _ _ h.n2,aH (DV _ _) h.l1,lm,λn=>by rw[gl];exact SC n,smm,one1,dv1⟩
   ·unfold sold;simp only[hr,rz,if_true]
   ·rw[yT,bw,gl,h.nm,decide_eq_true_iff];by_cases e:n=o1
    ·rw[Zc e,rz];exact⟨λz=>absurd e z.2,λz=>absurd z (by decide)⟩
    ·rw[Zd e];exact⟨λz=>z.1,λz=>⟨z,e⟩⟩
  ·have gl:∀n,lT (nu hl o1 r) n=if n=o1 then r else lT hl n:=λn=>mQ ..
   have rp:0<r.1:=by
    have:=R.nn;by_cases z:r.1=0
    ·exact absurd (zP R.low z) rz
    ·lia
   refine⟨nu hl o1 r,nu hm o1 r,?_,em,λn=>by rw[gl,gm],λn=>?_,vP _ _ h.n1,vP _ _ h.n2,?_,lm,λn=>by rw[gl];exact SC n,smm,one1,dv1⟩
   ·unfold sold;simp only[hr,rz,if_false]
   ·rw[mZ,Zc Q2,gl,h.nm];by_cases e:n=o1
    ·rw[Zc e];exact⟨λ_=>rp,λ_=>by rw[e];exact(h.nm o1).mp Q2⟩
    ·rw[Zd e]
   ·have:=congrArg b7 (mZ hl o1 r);rw[Zc Q2,ac,ac] at this;rw[this];exact h.l1
 obtain⟨l1,m1,es,em,gq,nm1,nd1,nd2,len1,len2,SC,sm1,one1,D1,U1,d1,d2,oq,dm⟩:=key;obtain⟨U,up⟩:=MO (SC o2) hq.low q0 qv hq.bb;have ev:(2*((2^c:Nat):Int))=((2^(c+1):Nat):Int):=by rw[gS,Int.natCast_mul,br];rfl
 rw[es,em];refine⟨λn=>?_,λn=>?_,vP _ _ nd1,vP _ _ nd2,aH (F4 _ _ _) (by lia),aH (F4 _ _ _) (by lia),λn=>?_,⟨o2,by rw[mQ,Zc rfl];exact up⟩,λn hn=>?_,?_,?_⟩
 ·rw[mQ,mQ,gq,gq]
 ·rw[mQ,mZ];by_cases e:n=o2
  ·rw[Zc e];refine⟨λ_=>up,λ_=>?_⟩;rw[e];by_cases z:o2∈l1.map (·.1)
   ·rw[Zc z];exact z
   ·rw[Zd z];exact aG _ (ao.mpr rfl)
  ·rw[Zd e,<-nm1];by_cases z:o2∈l1.map (·.1)
   ·rw[Zc z]
   ·rw[Zd z,aL];exact⟨λy=>y.elim id λy=>absurd (ao.mp y) e,λy=>.inl y⟩
 ·rw[mQ];by_cases e:n=o2
  ·rw[Zc e];unfold FrC;rw[<-ev];exact⟨U.low,U.nn,U.le,U.bb.mono (by lia)⟩
  ·rw[Zd e];have:=SC n;refine⟨this.low,this.nn,gX this.le ?_,this.bb.mono (by lia)⟩;exact aX (gW.mpr (b8 (by decide) (by lia))) (bF this.low.1)
 ·rw[mZ] at hn;by_cases z:o2∈m1.map (·.1)
  ·rw[Zc z] at hn;exact sm1 n hn
  ·rw[Zd z] at hn;rcases aL.mp hn with y|y
   ·exact sm1 n y
   ·rw[ao.mp y];exact so
 ·rw[Dv nd2,JN (by rw[<-gq];exact(SC o2).low.1) hq.low.1]
  grind
 ·have:∀n,∃u,On D1 (lT (nu m1 o2 (nz (lT m1 o2) q)) n) u:=λn=>by
   rw[mQ];by_cases e:n=o2
   ·rw[Zc e];obtain⟨u,hu⟩:=dm o2;exact⟨_,hu.add oq⟩
   ·rw[Zd e];exact dm n
  exact⟨D1,λn=>Classical.choose (this n),d1,d2,λn=>Classical.choose_spec (this n)⟩
def HR.saleOk{c}{hl hm}(h:HR c hl hm)(hc:c<=44){o1}{q}(hq:ShOk q):SaleOk hl o1 q:=by
 refine⟨aQ h.l1 (by lia),λn=>(h.fr n).sz (by lia),λnt=>?_⟩;have q0:0<q.1:=by by_cases z:0<q.1;exact z;exact absurd (.inl z) nt
 have Qn:q.1*(lT hl o1).2<=(lT hl o1).1*q.2:=by
  by_cases z:q.1*(lT hl o1).2>(lT hl o1).1*q.2
  ·exact absurd (.inr z) nt
  ·lia
 have R:=yC (h.fr o1) hq.low q0 Qn hq.bb;refine FrC.sz (c:=c+1) ⟨R.low,R.nn,gX R.le ?_,R.bb.mono (by lia)⟩ (by lia);exact aX (gW.mpr (b8 (by decide) (by lia))) (bF R.low.1)
def F3{body:PV->XS}(l:List PV)(I:Nat->En->Sto->Prop)(h:∀k q Z s,l[k]?=Za q->I k Z s->∃ρ' s',body q Z s=.nx ρ' s'/\I (k+1) ρ' s'){Z:En}{s:Sto}(h0:I 0 Z s):∃ρ' s',nM body l Z s=.nx ρ' s'/\I l.length ρ' s':=by
 have main:∀(r:List PV)(k:Nat)(Z:En)(s:Sto),k<=l.length->l.drop k=r->I k Z s->∃ρ' s',nM body r Z s=.nx ρ' s'/\I l.length ρ' s':=by
  intro r;induction r with
  |nil =>
   intro k Z s hk e hI;have:k=l.length:=jx hk (kP.mp e);subst this;exact⟨Z,s,rfl,hI⟩
  |cons q r ih =>
   intro k Z s hk e hI;have hq:l[k]?=Za q:=by have:=congrArg List.head? e;rw[List.head?_drop] at this;simpa using this
   obtain⟨ρ',s',h1,h2⟩:=h k q Z s hq hI;have e2:l.drop (k+1)=r:=by rw[<-List.tail_drop,e];rfl
   obtain⟨ρ2,s2,h3,h4⟩:=ih (k+1) ρ' s' ((aW.mp hq).1) e2 h2;refine⟨ρ2,s2,?_,h4⟩;unfold nM;rw[h1];exact h3
 exact main l 0 Z s (aZ _) rfl h0
def wa(n:Nat):(uP 0 n).length=n:=by simp[uP]
def Iu{n k:Nat}{q:PV}(h:(uP 0 n)[k]?=Za q):k<n/\q=.int (k:Int):=by
 unfold uP at h;rw[aC] at h;by_cases hk:k<n
 ·rw[fT hk] at h;cases h;exact⟨hk,by simp⟩
 ·rw[cJ (by simpa using hk)] at h;cases h
def ut{body:PV->XS}(n:Nat)(I:Nat->En->Sto->Prop)(h:∀(k:Nat) Z s,k<n->I k Z s->∃ρ' s',body (.int (k:Int)) Z s=.nx ρ' s'/\I (k+1) ρ' s'){Z:En}{s:Sto}(h0:I 0 Z s):∃ρ' s',nM body (uP 0 n) Z s=.nx ρ' s'/\I n ρ' s':=by have:=F3 (uP 0 n) I (λk q Z s hq hI=>by obtain⟨h1,h2⟩:=Iu hq;rw[h2];exact h k Z s h1 hI) h0;rw[wa] at this;exact this
def oi(s:Sto)(i:Int):PV.data s 12 (.int i)=Za (.int i):=rfl
def qy(i j:Int):bu (.int i) (.int j)=(i==j):=by unfold bu;rfl
theorem DZ:∀(l:List (Nat×Cell))(n:Nat)(c d:Cell),p4 l n=Za c->p4 (sV n d l) n=Za d
 |(k,e)::r,n,c,d,h=>by
  unfold p4 at h;unfold sV;split at h
  ·rename_i z;rw[Zc z];unfold p4;rw[Zc rfl]
  ·rename_i z;rw[Zd z];unfold p4;rw[Zd z];exact DZ r n c d h
def nZ{s:Sto}{n:Nat}{c d:Cell}(h:s.get n=Za c):(s.set n d).get n=Za d:=DZ s.cs n c d h
def CS(s:Sto)(c:Cell):(s.add c).nx=s.nx+1:=rfl
def ms(s:Sto)(c:Cell)(k:Nat):(s.add c).get k=if s.nx=k then Za c else s.get k:=by show p4 ((s.nx,c)::s.cs) k=_;unfold p4;rfl
def lN(s:Sto){n k:Nat}(c:Cell)(h:k≠n):(s.set n c).get k=s.get k:=tY h
def yJ(s:Sto)(c d:Cell){p:Nat}(h:s.nx≠p):(s.add d).set p c=(s.set p c).add d:=by unfold Sto.set Sto.add;simp[sV,h]
def sL(s:Sto)(c d:Cell):(s.add d).set s.nx c=s.add c:=by unfold Sto.set Sto.add;simp[sV]
def rm(s:Sto)(n:Nat)(c d:Cell):(s.set n c).set n d=s.set n d:=by
 have:∀l,sV n d (sV n c l)=sV n d l:=by
  intro l;induction l with
  |nil=>rfl
  |cons q r ih =>
   obtain⟨k,e⟩:=q;by_cases h:k=n
   ·simp[sV,h]
   ·simp[sV,h,ih]
 unfold Sto.set;simp[this]
def zG(s:Sto)(n:Nat)(c:Cell)(h:s.get n=Za c):s.set n c=s:=by
 have:∀l,p4 l n=Za c->sV n c l=l:=by
  intro l;induction l with
  |nil=>intro h;rfl
  |cons q r ih =>
   intro h;obtain⟨k,e⟩:=q;by_cases hk:k=n
   ·simp[p4,hk] at h;simp[sV,hk,h]
   ·simp[p4,hk] at h;simp[sV,hk,ih h]
 unfold Sto.set;rw[this _ h]
def Sto.bump(s:Sto):Sto:=⟨s.nx+1,s.cs⟩
def Mq(s:Sto)(d:Cell):(s.add d).del s.nx=Sto.bump s:=by unfold Sto.del Sto.add Sto.bump;simp[CF]
def Jg(s:Sto)(k:Nat):(Sto.bump s).get k=s.get k:=rfl
def IsPurse(s:Sto)(p:Nat):Prop:=∃x y,s.get p=Za (.lst [.int x,.int y])
def pst(s:Sto)(p:Nat)(x y:Int):Sto:=s.set p (.lst [.int x,.int y])
def NS(s:Sto)(p:Nat)(x y:Int):(pst s p x y).nx=s.nx:=rfl
theorem IsPurse.pst{s:Sto}{p:Nat}(h:IsPurse s p)(x y:Int):IsPurse (pst s p x y) p:=let⟨_,_,h⟩:=h;⟨x,y,K3 h⟩
theorem IsPurse.add{s:Sto}{p:Nat}(h:IsPurse s p)(c:Cell)(hp:p<s.nx):IsPurse (s.add c) p:=by obtain⟨x,y,h⟩:=h;exact⟨x,y,by rw[ms,Zd (by lia)];exact h⟩
def Ld(s:Sto)(p:Nat)(x y x' y':Int)(d:Cell)(hp:p<s.nx):((pst s p x y).add d).set p (.lst [.int x',.int y'])=(pst s p x' y').add d:=by rw[yJ _ _ _ (by rw[NS];lia)];unfold pst;rw[rm]
def MH{c:XT}{e:XE}{cap:En}(l:List PV)(I:Nat->List PV->Sto->Prop)(h:∀k q vs s,l[k]?=Za q->I k vs s->(∃s1,c (Za q::cap) s=.ok false s1/\I (k+1) vs s1)\/(∃s1 v s2,c (Za q::cap) s=.ok true s1/\e (Za q::cap) s1=.ok v s2/\I (k+1) (vs++[v]) s2)){s:Sto}(h0:I 0 [] s) :
  ∃vs s',nl c e cap l s=.ok vs s'/\I l.length vs s':=by
 have main:∀(r:List PV)(k:Nat)(vs:List PV)(s:Sto),k<=l.length->l.drop k=r->I k vs s->∃ws s',nl c e cap r s=.ok ws s'/\I l.length (vs++ws) s':=by
  intro r;induction r with
  |nil =>
   intro k vs s hk e hI;have:k=l.length:=jx hk (kP.mp e);subst this;exact⟨[],s,rfl,by simpa using hI⟩
  |cons q r ih =>
   intro k vs s hk e' hI;have hq:l[k]?=Za q:=by have:=congrArg List.head? e';rw[List.head?_drop] at this;simpa using this
   have e2:l.drop (k+1)=r:=by rw[<-List.tail_drop,e'];rfl
   have Uf:k+1<=l.length:=(aW.mp hq).1;rcases h k q vs s hq hI with⟨s1,h1,h2⟩|⟨s1,v,s2,h1,h2,h3⟩
   ·obtain⟨ws,s',h3,h4⟩:=ih (k+1) vs s1 Uf e2 h2;exact⟨ws,s',by rw[oH,h1];exact h3,h4⟩
   ·obtain⟨ws,s',h4,h5⟩:=ih (k+1) (vs++[v]) s2 Uf e2 h3;refine⟨v::ws,s',by rw[oH,h1];simp[h2,h4],by simpa using h5⟩
 obtain⟨ws,s',h1,h2⟩:=main l 0 [] s (aZ _) rfl h0;exact⟨ws,s',h1,by simpa using h2⟩
theorem rQ{c:XT}{e:XE}{cap:En}{s:Sto}(p:PV->Bool)(f:PV->PV):∀(l:List PV),(∀q∈l,c (Za q::cap) s=.ok (p q) s)->(∀q∈l,p q=true->e (Za q::cap) s=.ok (f q) s)->nl c e cap l s=.ok ((l.filter p).map f) s
 |[],_,_=>rfl
 |q::l,h1,h2=>by
  rw[oH,h1 q ag];have ih:=rQ p f l (λx hx=>h1 x (ae _ hx)) (λx hx=>h2 x (ae _ hx));cases hp:p q with
  |false=>simp[ih,hp]
  |true=>simp[ih,hp,h2 q ag hp]
def oj{n:Int}(h0:0<n)(h1:n<2^64):Bt 9000 n:=by
 have:Bt 64 n:=by unfold Bt;lia
 exact this.mono (by decide)
def Dh:(aP "abcdefghijklmnopqrstuvwxyz").length<=100000:=by decide
def qz(a:Adr)(s:Sto)(p:Nat)(n:Int)(h:IsPurse s p)(h0:0<n)(h1:Bt 9000 n):∃r x y,0<=r/\r<n/\lR a [.ref p,.int n] s=.ok (.int r) (s.set p (.lst [.int x,.int y])):=by
 obtain⟨x,y,h⟩:=h;have hd:zi n:=⟨h0,h1⟩;by_cases hx:x=0
 ·refine⟨y%n,y/n,y,dA _ (by lia),cN _ h0,?_⟩;subst hx;simp[sem,qx,me,sQ,lR,uc,h,atI,ixN,oi,qy,hd,h0,nZ h,rm]
 ·refine⟨x%n,x/n,y,dA _ (by lia),cN _ h0,?_⟩;simp[sem,qx,me,sQ,lR,uc,h,atI,ixN,oi,qy,hd,h0,hx]
def Jq(l:List Int)(lo hi:Option Int):∃k:List Int,CH (l.map PV.int) lo hi=k.map PV.int/\k.length<=l.length/\∀x∈k,x∈l:=by
 refine⟨(l.drop (HT.sIx l.length 0 lo)).take (HT.sIx l.length l.length hi-HT.sIx l.length 0 lo),?_,?_,λx hx=>kN (kM hx)⟩
 ·unfold CH;simp[List.map_take,List.map_drop]
 ·rw[eB,gD];lia
def GA{l:List Int}{i:Int}(h0:0<=i)(h1:i<l.length):∃x∈l,atI (l.map PV.int) i=Za (.int x):=by
 obtain⟨j,rfl⟩:∃j:Nat,i=j:=⟨i.toNat,by lia⟩;have hj:j<l.length:=by lia
 exact⟨l[j],ce hj,mO (by simp[hj])⟩
def IU(a:Adr)(s:Sto)(c:Int)(k:Nat)(hc:bW c<=1048576)(hk:k<64):∃v,qg a [.int c,.int k] s=.ok (.int v) s:=by have m1:iP c c:=Op (by lia) (by lia);have m2:p8 3 c:=.inr (.inl ⟨by decide,by decide⟩);have m3:p8 7919 (k:Int):=.inr (.inl ⟨by decide,by decide⟩);have m4:p8 (c*c+3*c+7919*(k:Int)+1) 48271:=.inr (.inr ⟨by decide,by decide⟩);generalize hz:((c*c+3*c+7919*(k:Int)+1)*48271)%2147483629=z;have b0:0<=z:=hz▸dA _ (by decide);have b1:z<2147483629:=hz▸cN _ (by decide);have m5:p8 z z:=.inr (.inl ⟨by lia,by lia⟩);refine⟨(z*z+7)%2147483587,?_⟩;simp[sem,qx,me,sQ,qg,vK,E6,m1,m2,m3,m4,hz,m5]
def Iy(a:Adr)(s:Sto)(l:List Int)(hl:l.length<=63)(hw:Att.WtOk l):∃x y,og a [.seq (l.map .int)] s=.ok (.ref s.nx) (s.add (.lst [.int x,.int y])):=by
 obtain⟨c,hc,Pk,R4⟩:=Jq l Zb (Za 63);have hsz:c.length<=99999:=by lia
 have RZ:(0:Int)<(c.length:Int)+1:=by lia
 have h2:2<=aI:=by decide
 have hw2:∀x∈c++[0],bW x<=1048576:=λx hx=>by
  rcases aL.mp hx with z|z
  ·exact hw x (R4 x z)
  ·rw[ao.mp z];decide
 obtain⟨ρ',s',Q6,rfl,v,k,rfl⟩:=ut (body:=mK (yName 3) (ql a)) 64
  (λ_ Z t=>t=s/\∃v k,Z=[Za (.seq (l.map .int)),Za (.lst ((c++[0]).map .int)),Za (.int v),k])
  (λk Z t hk hI=>by obtain⟨rfl,v,k',rfl⟩:=hI;obtain⟨x,hxm,hx⟩:=GA (l:=c++[0]) (i:=(k:Int)%((c.length:Int)+1)) (dA _ (by lia)) (by have:=cN (k:Int) RZ;simpa using this);obtain⟨u,hu⟩:=IU a t x k (hw2 x hxm) hk;have m3:p8 v 2147483587:=.inr (.inr ⟨by decide,by decide⟩);refine⟨_,_,?_,rfl,v*2147483587+u,Za (.int k),rfl⟩;simp only[aw,am,dy] at hx;simp[sem,qx,me,sQ,mK,ql,hx,m3,RZ,hu]) ⟨rfl,1,Zb,rfl⟩
 obtain⟨x0,_,S8⟩:=GA (l:=c++[0]) (i:=0) (by lia) (by simp);simp only[aw,am,dy] at S8 Q6;generalize hab:(if x0<0 then -x0 else x0)=x1 at *;by_cases h18:(1000000000000000000:Int)<=x1
 ·refine⟨x1,v,?_⟩;simp[sem,qx,me,sQ,og,sB,hc,hsz,Q6,S8,hab,h18,h2]
 ·refine⟨v,v,?_⟩;simp[sem,qx,me,sQ,og,sB,hc,hsz,Q6,S8,hab,h18,h2]
structure Two'(p q:Int×Int):Prop where
 p0:0<p.2
 q0:0<q.2
 b:Bt 4400 p.2/\Bt 4400 q.2
 t:Bt 9000 p.1/\Bt 9000 q.1
def rC{i j:Int}(h:Bt 9000 i)(g:Bt 9000 j):p8 i j:=.inl ⟨h.mono (by decide),g.mono (by decide)⟩
def Cj(a:Adr)(s:Sto):∀(k:Nat)(t b:Int),0<=t->0<=b->b.toNat<=k->∃n t',mz (xTr (x2 (xVar 1) (xC (.int 0)) fGt)) (n9 a) n [Za (.int t),Za (.int b)] s=.nx [Za (.int t'),Za (.int 0)] s/\0<=t'/\t'.natAbs=aD t b:=by
 intro k;induction k with
 |zero =>
  intro t b ht h0 hk;have:b=0:=by lia
  subst this;refine⟨1,t,?_,ht,by simp[aD]⟩;unfold mz;simp[sem,qx,me,sQ]
 |succ k ih =>
  intro t b ht h0 hk;by_cases hb:b=0
  ·subst hb;refine⟨1,t,?_,ht,by simp[aD]⟩;unfold mz;simp[sem,qx,me,sQ]
  ·have hp:0<b:=by lia
   have m0:=dA t hb;have m1:=cN t hp;obtain⟨n,t',h1,h3,h2⟩:=ih b (t%b) h0 m0 (by lia);refine⟨n+1,t',?_,h3,by rw[h2];exact D2 t b hp⟩;have hs:n9 a [Za (.int t),Za (.int b)] s=.nx [Za (.int b),Za (.int (t%b))] s:=by simp[sem,qx,me,sQ,n9,hp]
   unfold mz;simp[sem,qx,me,sQ,hp,hs,h1]
def E9(a:Adr)(s:Sto)(t b:Int):oV a [.int t,.int b] s=.ok (.int (aD t b)) s:=by
 have e1:(if t<0 then -t else t)=(t.natAbs:Int):=by split<;>lia
 have e2:(if b<0 then -b else b)=(b.natAbs:Int):=by split<;>lia
 obtain⟨n,t',h1,h3,h2⟩:=Cj a s (b.natAbs:Int).toNat (t.natAbs:Int) (b.natAbs:Int) (by lia) (by lia) (ap _);have hw:=wM h1 (by simp);simp[sem,qx,me,sQ,oV,tF,e1,e2,hw];have:aD (t.natAbs:Int) (b.natAbs:Int)=aD t b:=by simp[aD]
 rw[<-this,<-h2];lia
def Cy(a:Adr)(s:Sto)(t b:Int)(hb:0<b)(hB:Bt 9000 b):mT a [.int t,.int b] s=.ok (frP (red (t,b))) s:=by
 have hg:0<aD t b:=bH _ (by lia);have hd:zi (aD t b:Int):=⟨by lia,hB.dvd (by lia) (cm ..)⟩;have e:=E9 a s t b;have hn:¬b<0:=by lia
 simp[sem,qx,me,sQ,mT,xE,e,hd,hn,frP,red]
def AC{n:Int}{k:Nat}(h:n.natAbs<2^k)(hk:k<=9000):Bt 9000 n:=aA h (b8 (by decide) hk)
def six{r:Int}(h0:0<=r)(h1:r<6):r=0\/r=1\/r=2\/r=3\/r=4\/r=5:=by lia
def Bh{s:Sto}{p:Nat}{x y:Int}(h:IsPurse s p):IsPurse (s.set p (.lst [.int x,.int y])) p:=by obtain⟨u,v,h⟩:=h;exact⟨x,y,nZ h⟩
def wW(a:Adr)(s:Sto)(p:Nat)(h:IsPurse s p):∃v x y,mM a [.ref p] s=.ok (.int v) (s.set p (.lst [.int x,.int y]))/\Bt 100 v:=by
 obtain⟨r,x,y,r0,r1,e1⟩:=qz a s p 6 h (by decide) (AC (k:=4) (by decide) (by decide));have h2:=Bh (x:=x) (y:=y) h;obtain⟨m,hm,hm0,hmB,QQ⟩:∃m:Int,atI [PV.int 10,.int 10,.int 100,.int 3,.int (10^6),.int (10^20)] r=Za (.int m)/\0<m/\(2*m).natAbs<2^100/\True:=by
  rcases six r0 r1 with z|z|z|z|z|z<;>subst z
  ·exact⟨10,rfl,by decide,by decide,trivial⟩
  ·exact⟨10,rfl,by decide,by decide,trivial⟩
  ·exact⟨100,rfl,by decide,by decide,trivial⟩
  ·exact⟨3,rfl,by decide,by decide,trivial⟩
  ·exact⟨10^6,rfl,by decide,by decide,trivial⟩
  ·exact⟨10^20,rfl,by decide,by decide,trivial⟩
 obtain⟨r',x',y',q0,q1,e2⟩:=qz a (s.set p (.lst [.int x,.int y])) p (2*m) h2 (by lia) (AC (k:=100) hmB (by decide));have m2:p8 2 m:=.inr (.inl ⟨by decide,by decide⟩);have d3:zi 3:=⟨by decide,AC (k:=4) (by decide) (by decide)⟩;rw[rm] at e2;refine⟨r'-m/3,x',y',?_,by unfold Bt;lia⟩;have RD:atI [PV.int 10,.int 10,.int 100,.int 3,.int 1000000,.int 100000000000000000000] r=Za (.int m):=hm;simp[sem,qx,me,sQ,mM,vb,e1,RD,e2,m2,d3]
def five{r:Int}(h0:0<=r)(h1:r<5):r=0\/r=1\/r=2\/r=3\/r=4:=by lia
structure PartOf(q q':Int×Int):Prop where
 low:Low q'
 pos:0<q'.1
 le:q'.1*q.2<=q.1*q'.2
def IH{q:Int×Int}(h:Low q)(h0:0<q.1){m l:Int}(m0:0<m)(ml:m<=l):PartOf q (red (q.1*m,q.2*l)):=by
 have hl:0<l:=by lia
 have hb:0<q.2*l:=bI h.1 hl;obtain⟨lo,ev⟩:=sW (q:=(q.1*m,q.2*l)) hb;have b0:=lo.1;have ev:(red (q.1*m,q.2*l)).1*(q.2*l)=q.1*m*(red (q.1*m,q.2*l)).2:=ev;generalize red (q.1*m,q.2*l)=z at *;have p1:0<q.1*m*z.2:=bI (bI h0 m0) b0;have p2:0<z.1:=by
  rw[<-ev] at p1;by_cases z0:0<z.1
  ·exact z0
  ·have:=aX (show z.1<=0 by lia) (bF hb);rw[i8] at this;lia
 refine⟨lo,p2,?_⟩;refine jL (a:=l) ?_ hl;have e1:z.1*q.2*l=z.1*(q.2*l):=by rw[aT]
 have e2:q.1*z.2*l=q.1*l*z.2:=by rw[aT,br z.2 l,<-aT]
 rw[e1,ev,e2];exact aX (Int.mul_le_mul_of_nonneg_left ml (bF h0)) (bF b0)
def Lo(a:Adr)(s:Sto)(p:Nat)(h:IsPurse s p)(q:Int×Int)(hq:Low q)(h0:0<q.1)(hB:Bt 8900 q.2):∃q' x y,PartOf q q'/\pS a [.ref p,frP q] s=.ok (frP q') (s.set p (.lst [.int x,.int y])):=by
 obtain⟨r,x,y,r0,r1,e1⟩:=qz a s p 5 h (by decide) (AC (k:=4) (by decide) (by decide));have h2:=Bh (x:=x) (y:=y) h;by_cases hz:r=0
 ·subst hz;refine⟨q,x,y,⟨hq,h0,Int.le_refl _⟩,?_⟩;simp[sem,qx,me,sQ,pS,ua,e1,oi,qy,frP]
 ·obtain⟨l,hl,l1,lB,_⟩:∃l:Int,atI [PV.int 2,.int 3,.int 7,.int (10^6)] (r-1)=Za (.int l)/\1<l/\l<=10^6/\True:=by
   rcases five r0 r1 with z|z|z|z|z<;>subst z
   ·exact absurd rfl hz
   ·exact⟨2,rfl,by decide,by decide,trivial⟩
   ·exact⟨3,rfl,by decide,by decide,trivial⟩
   ·exact⟨7,rfl,by decide,by decide,trivial⟩
   ·exact⟨10^6,rfl,by decide,by decide,trivial⟩
  obtain⟨r',x',y',s0,s1,e2⟩:=qz a (s.set p (.lst [.int x,.int y])) p (l-1) h2 (by lia) (AC (k:=20) (by show(l-1).natAbs<1048576;lia) (by decide));rw[rm] at e2;have m1:p8 q.1 (1+r'):=.inr (.inr ⟨by lia,by lia⟩);have m2:p8 q.2 l:=.inr (.inr ⟨by lia,by lia⟩);have bB:Bt 9000 (q.2*l):=(hB.mul (show Bt 20 l by show l.natAbs<1048576;lia)).mono (by decide);have em:=Cy a (s.set p (.lst [.int x',.int y'])) (q.1*(1+r')) (q.2*l) (bI hq.1 (by lia)) bB;refine⟨red (q.1*(1+r'),q.2*l),x',y',IH hq h0 (by lia) (by lia),?_⟩;have Tl:atI [PV.int 2,.int 3,.int 7,.int 1000000] (r-1)=Za (.int l):=hl;have q1:atI [PV.int q.1,.int q.2] 0=Za (.int q.1):=rfl;have q2:atI [PV.int q.1,.int q.2] 1=Za (.int q.2):=rfl;simp[sem,qx,me,sQ,pS,ua,e1,oi,qy,frP,hz,Tl,e2,m1,m2,q1,q2,em]
def Co{x y:Str}(h:x.cps.toList=y.cps.toList):x=y:=by obtain⟨a⟩:=x;obtain⟨b⟩:=y;have:a=b:=Array.toList_inj.mp h;rw[this]
def mkW(cs:List Nat):Str:=⟨cs.toArray⟩
def qH(cs):(mkW cs).cps.toList=cs:=by simp[mkW]
def F0(cs):(mkW cs).length=cs.length:=by rw[IY,qH]
theorem y7:∀cs:List Nat,Str.join (aP "") (cs.map λc=>(⟨#[c]⟩:Str))=mkW cs
 |[]=>rfl
 |[c]=>rfl
 |c::d::r=>by have ih:=y7 (d::r);have e:Str.join (aP "") ((c::d::r).map λc=>(⟨#[c]⟩:Str))=(⟨#[c]⟩:Str)++aP ""++Str.join (aP "") ((d::r).map λc=>(⟨#[c]⟩:Str)):=rfl;rw[e,ih];refine Co ?_;rw[zX,zX,qH,qH];rfl
def E2(cs):Txt.join (aP "") (cs.map λc=>(⟨#[c]⟩:Str))=mkW cs:=(StrLaws.glued_eq_join _ _).trans (y7 cs)
def Aa(vs:List Int)(j:Nat):Int:=(vs[j]?).getD 0
def oJ(vs:List Int)(d k j:Nat):Int:=Aa vs j+5*(k:Int)*(if j=d then 1 else 0)
def wcs(vs:List Int)(d k:Nat):List Nat:=(bA vs.length).map λj=>97+(oJ vs d k j%26).toNat
def wl(vs)(d k):(wcs vs d k).length=vs.length:=by simp[wcs]
def KJ(vs)(d k):∀c∈wcs vs d k,97<=c/\c<=122:=λc hc=>by obtain⟨j,_,rfl⟩:=aj.mp hc;have m0:=dA (oJ vs d k j) (show(26:Int)≠0 by decide);have m1:=cN (oJ vs d k j) (show(0:Int)<26 by decide);lia
def JA(vs)(hd:d<vs.length)(k):(wcs vs d k)[d]?=Za (97+((Aa vs d+5*(k:Int))%26).toNat):=by unfold wcs oJ;rw[aC,fT hd];simp
def wrd(vs:List Int)(d:Nat)(fl:Bool)(k:Nat):Str:=mkW (wcs vs d k++if fl=true/\k%2=1 then [120] else [])
def KI(hd:d<vs.length)(hi:i<10)(hj:j<10)(h:wrd vs d fl i=wrd vs d fl j):i=j:=by
 have e:wcs vs d i++(if fl=true/\i%2=1 then [120] else [])=wcs vs d j++(if fl=true/\j%2=1 then [120] else []):=by have:=congrArg (λx:Str=>x.cps.toList) h;simpa[wrd,qH] using this
 have e2:(wcs vs d i++(if fl=true/\i%2=1 then [120] else []))[d]?=(wcs vs d j++(if fl=true/\j%2=1 then [120] else []))[d]?:=congrArg (λl:List Nat=>l[d]?) e;rw[dk (by rw[wl];exact hd),dk (by rw[wl];exact hd),JA vs hd,JA vs hd] at e2;have e3:=aO e2;generalize Aa vs d=z at *;omega
def Jz(h0:0<vs.length)(h7:vs.length<=7)(d)(fl)(k):Sm (wrd vs d fl k)/\vI (wrd vs d fl k)=true:=by
 have hl:(wrd vs d fl k).length=vs.length+(if fl=true/\k%2=1 then 1 else 0):=by unfold wrd;rw[F0,aJ,wl];split<;>rfl
 have hc:∀c∈(wrd vs d fl k).cps.toList,97<=c/\c<=122:=λc hc=>by
  unfold wrd at hc;rw[qH] at hc;rcases aL.mp hc with z|z
  ·exact KJ vs d k c z
  ·split at z
   ·rw[ao.mp z];decide
   ·cases z
 have Tk:1<=(wrd vs d fl k).length/\(wrd vs d fl k).length<=8:=by rw[hl];split<;>lia
 refine⟨⟨by lia,λc h=>by have:=hc c h;lia⟩,?_⟩;unfold vI;rw[Zg Tk.1,Zg Tk.2];simp only[iH,da];intro c h;have:=hc c h;simp[low];lia
theorem zu(g:Nat->Str->Str):∀(ws:List Str)(k:Nat),(∀j w,w∈ws->e [Za (.int (j:Nat)),Za (.str w)] s=.ok (.str (g j w)) s)->mC mU e [] (qM k (ws.map .str)) s=.ok (((bA ws.length).map λi=>g (k+i) ((ws[i]?).getD cx)).map .str) s
 |[],k,_=>rfl
 |w::r,k,h=>by have ih:=zu g r (k+1) λj w hw=>h j w (ae _ hw);show mC mU e [] (.tup [.int (k:Nat),.str w]::qM (k+1) (r.map .str)) s=_;rw[xM];have h0:=h k w ag;simp only[CQ,mU,h0,ih];simp[ko,Function.comp_def,jW,kH 1]
def JL{f g:XS}{Z ρ':En}{s s':Sto}(h:f Z s=.nx ρ' s'):xSeq f g Z s=g ρ' s':=by unfold xSeq;rw[h]
def uB{α β:Type}(v:α)(s:Sto)(f:α->Sto->Out β):(Out.ok v s).bind f=f v s:=rfl
def p62:(2:Int)^62=4611686018427387904:=by decide
def lo62(n:Nat):-(2^62)<=(n:Int):=by
 rw[p62];have:(-4611686018427387904:Int)<=n:=by lia
 exact this
def hi62{n:Nat}(hn:n<1000000):(n:Int)<2^62:=by
 rw[p62];have:(n:Int)<4611686018427387904:=by lia
 exact this
def K6{fa:XA}{Z:En}{s s1:Sto}{j:Int}(h:fa Z s=.ok [.int j] s1):xRng1 fa Z s=if -(2^62)<=j/\j<2^62 then Out.ok (uP 0 j.toNat) s1 else Out.bad:=by unfold xRng1;rw[h,uB]
def uQ{fa:XA}{Z:En}{s s1:Sto}{n:Nat}(h:fa Z s=.ok [.int n] s1)(hn:n<1000000):xRng1 fa Z s=.ok (uP 0 n) s1:=by rw[K6 h,Zc ⟨lo62 n,hi62 hn⟩,Int.toNat_natCast]
def re{fi:XA}{y:XG}{body:XS}{Z ρ':En}{s s1 s':Sto}{l:List PV}(h1:fi Z s=.ok l s1)(h2:nM (mK y body) l Z s1=.nx ρ' s'):xFor fi y body Z s=.nx ρ' s':=by unfold xFor;rw[h1];simp only[Out.so];rw[h2];rfl
def pf{fi:XA}{ix:List Nat}{c:XT}{e:XE}{Z:En}{s s1 s2:Sto}{l vs:List PV}(h1:fi Z s=.ok l s1)(hl:l.length<=100000)(h2:nl c e (m8 ix Z) l s1=.ok vs s2):o4 fi ix c e Z s=.ok (.lst vs) s2:=by unfold o4;rw[h1];simp only[Out.bind,hl,if_true];rw[h2]
def CP{f g:XS}{Z:En}{s s':Sto}{v:PV}(h:f Z s=.rt v s'):xSeq f g Z s=.rt v s':=by unfold xSeq;rw[h]
def l9{f:XE}{i:Nat}{Z:En}{s s':Sto}{v:PV}(h:f Z s=.ok v s'):xSet i f Z s=.nx (Z.set i (Za v)) s':=by unfold xSet;rw[h];rfl
def lZ{f g:XE}{F:PV->PV->Sto->Out PV}{Z:En}{s s1 s2:Sto}{v w:PV}(h1:f Z s=.ok v s1)(h2:g Z s1=.ok w s2):x2 f g F Z s=F v w s2:=by unfold x2;rw[h1];simp only[Out.bind];rw[h2]
def lE{f:XE}{fa:XA}{Z:En}{s s1 s2:Sto}{v:PV}{vs:List PV}(h1:f Z s=.ok v s1)(h2:fa Z s1=.ok vs s2):xCons f fa Z s=.ok (v::vs) s2:=by unfold xCons;rw[h1];simp only[Out.bind];rw[h2]
def sY{fa:XA}{Z:En}{s s1:Sto}{vs:List PV}(h1:fa Z s=.ok vs s1)(hl:vs.length<=100000:=by exact fC rfl):xTup fa Z s=.ok (.tup vs) s1:=by unfold xTup;rw[h1];exact Zc hl
def vx{c:XT}{A B:XS}{Z:En}{s s1:Sto}(h:c Z s=.ok false s1):xIf c A B Z s=B Z s1:=by unfold xIf;rw[h];rfl
def pE{f:XE}{fa:XA}{Z:En}{s s1 s2:Sto}{k m:Nat}{D:XF}{pp:List Str}{L:List Ent}{vs:List PV}(h1:f Z s=.ok (.ref k) s1)(h2:s1.get k=Za (.book pp L))(h3:fa Z s1=.ok vs s2)(h4:vs.length+1=m):xBM m D f fa Z s=D (.ref k::vs) s2:=by unfold xBM;rw[h1];simp only[Out.bind,h2];rw[h3];simp only[h4,if_true]
def CV{fa:XA}{Z:En}{s s1:Sto}{vs:List PV}(h1:fa Z s=.ok vs s1)(hl:vs.length<=100000:=by exact fC rfl):xLst fa Z s=.ok (.lst vs) s1:=by unfold xLst;rw[h1];exact Zc hl
def lU{D:XF}{fa:XA}{Z:En}{s s1:Sto}{vs:List PV}{n:Nat}{o:Out PV}(h1:fa Z s=.ok vs s1)(hn:vs.length=n)(h2:D vs s1=o):xCall n D fa Z s=o:=by unfold xCall;rw[h1];simp only[Out.bind];rw[Zc hn];exact h2
def qr{i:Nat}{u:XS}{q:PV}{Z:En}{s:Sto}:mK (yName i) u q Z s=u (Z.set i (Za q)) s:=rfl
def xU{c:XT}{A B:XS}{Z:En}{s s1:Sto}(h:c Z s=.ok true s1):xIf c A B Z s=A Z s1:=by unfold xIf;rw[h];rfl
def uI{f:XE}{Z:En}{s s':Sto}{v:PV}(h:f Z s=.ok v s'):xDo f Z s=.nx Z s':=by unfold xDo;rw[h];rfl
def nI{f:XE}{Z:En}{s s':Sto}{v:PV}(h:f Z s=.ok v s'):xRet f Z s=.rt v s':=by unfold xRet;rw[h];rfl
def wH{fa:XA}{F:List PV->Sto->Out PV}{Z:En}{s s1:Sto}{vs:List PV}(h1:fa Z s=.ok vs s1):xB fa F Z s=F vs s1:=by unfold xB;rw[h1];rfl
def abc:Str:="abcdefghijklmnopqrstuvwxyz"
def DK(n:Nat):uP 0 n=(bA n).map λk=>PV.int (k:Nat):=by unfold uP;refine aV λk _=>?_;rw[Int.zero_add]
abbrev nE(p m:Nat)(vs:List Int)(d x:Nat)(u v:Option PV):En:=[Za (.ref p),Za (.int (m:Nat)),Za (.str abc),Za (.int (vs.length:Nat)),Za (.lst (vs.map .int)),Za (.int (d:Nat)),Za (.ref x),u,v]
def Hg(a:Adr)(T:Sto)(p m:Nat)(vs:List Int)(h0:0<vs.length)(h7:vs.length<=7)(d:Nat)(hd:d<vs.length)(ws:List Str)(hw:ws.length<100)(k:Nat)(hk:k<100)(u v:Option PV) :
  mK (yName 7) (nV a) (.int (k:Nat)) (nE p m vs d T.nx u v) (T.add (.lst (ws.map .str))) =
   .nx (nE p m vs d T.nx (Za (.int (k:Nat))) (Za (.lst (((bA vs.length).map (oJ vs d k)).map .int)))) (T.add (.lst ((ws++[mkW (wcs vs d k)]).map .str))):=by
 have Tc:(-4611686018427387904:Int)<=(vs.length:Int):=by lia
 have hr2:(vs.length:Int)<(4611686018427387904:Int):=by lia
 have Pk:(uP 0 vs.length).length<=100000:=by rw[wa];lia
 have m1:p8 5 (k:Int):=.inr (.inl ⟨by decide,by decide⟩);have m2:∀z:Int,p8 z 0:=λz=>.inr (.inr ⟨by decide,by decide⟩);have m3:∀z:Int,p8 z 1:=λz=>.inr (.inr ⟨by decide,by decide⟩);have c1:nl mU (x2 (x2 (xVar 1) (xVar 0) fIx) (x2 (x2 (xC (.int 5)) (xVar 2) fMul) (xB (xCons (x2 (xVar 0) (xVar 3) fEq) xNil) fInt) fMul) fAdd) [Za (.lst (vs.map .int)),Za (.int (k:Nat)),Za (.int (d:Nat))] (uP 0 vs.length) (T.add (.lst (ws.map .str)))=.ok (((bA vs.length).map (oJ vs d k)).map .int) (T.add (.lst (ws.map .str))):=by
  have:=rQ (c:=mU) (e:=x2 (x2 (xVar 1) (xVar 0) fIx) (x2 (x2 (xC (.int 5)) (xVar 2) fMul) (xB (xCons (x2 (xVar 0) (xVar 3) fEq) xNil) fInt) fMul) fAdd) (cap:=[Za (.lst (vs.map .int)),Za (.int (k:Nat)),Za (.int (d:Nat))]) (s:=T.add (.lst (ws.map .str))) (λ_=>true) (λq=>match q with|.int j=>.int (oJ vs d k j.toNat)|_=>.non) (uP 0 vs.length) (λ_ _=>rfl) λq hq _=>by
   rw[DK] at hq;obtain⟨j,hj,rfl⟩:=aj.mp hq;have hj:j<vs.length:=cF.mp hj;have e1:atI (vs.map PV.int) (j:Nat)=Za (.int (Aa vs j)):=mO (by unfold Aa;rw[aC,au hj];rfl);by_cases hz:j=d
   ·subst hz;simp[sem,qx,me,sQ,e1,m1,m3,oi,qy,oJ]
   ·have UX:((j:Int)==(d:Int))=false:=by simp;lia
    simp[sem,qx,me,sQ,e1,m1,m2,oi,qy,oJ,hz,UX]
  rw[this]
  congr 1
  rw[iC.mpr (λ_ _=>rfl),DK,aE,aE];rfl
 have c2:nl mU (x2 (xVar 1) (x2 (xVar 0) (xC (.int 26)) fMod) fIx) [Za (.str abc)] (((bA vs.length).map (oJ vs d k)).map .int) (T.add (.lst (ws.map .str)))=.ok (((wcs vs d k).map λc=>(⟨#[c]⟩:Str)).map .str) (T.add (.lst (ws.map .str))):=by
  have:=rQ (c:=mU) (e:=x2 (xVar 1) (x2 (xVar 0) (xC (.int 26)) fMod) fIx) (cap:=[Za (.str abc)]) (s:=T.add (.lst (ws.map .str))) (λ_=>true) (λq=>match q with|.int j=>.str ⟨#[97+(j%26).toNat]⟩|_=>.non) (((bA vs.length).map (oJ vs d k)).map .int) (λ_ _=>rfl) λq hq _=>by obtain⟨z,_,rfl⟩:=aj.mp hq;have e1:=Ot (dA z (show(26:Int)≠0 by decide)) (cN z (show(0:Int)<26 by decide));simp[sem,qx,me,sQ,abc,e1,Dh]
  rw[this]
  congr 1
  rw[iC.mpr (λ_ _=>rfl),aE,aE,aE];unfold wcs;rw[aE];rfl
 have hj:((((wcs vs d k).map λc=>(⟨#[c]⟩:Str)).map (·.length)).sum+((wcs vs d k).map λc=>(⟨#[c]⟩:Str)).length*(aP "").length)<=16777216:=by
  have e:(aP "").length=0:=rfl;have:=Ih (ys:=(wcs vs d k).map λc=>(⟨#[c]⟩:Str)) λz hz=>by obtain⟨c,_,rfl⟩:=aj.mp hz;exact ap _
  rw[ac,wl] at this;rw[e];lia
 have Tj:(((bA vs.length).map (oJ vs d k)).map PV.int).length<=100000:=by simp;lia
 have hg:(T.add (.lst (ws.map .str))).get T.nx=Za (.lst (ws.map .str)):=by rw[ms,Zc rfl]
 have U0:∀c,(T.add (.lst (ws.map .str))).set T.nx c=T.add c:=λc=>sL T _ _;have s1:o4 (xRng1 (xCons (xVar 3) xNil)) [4,7,5] mU (x2 (x2 (xVar 1) (xVar 0) fIx) (x2 (x2 (xC (.int 5)) (xVar 2) fMul) (xB (xCons (x2 (xVar 0) (xVar 3) fEq) xNil) fInt) fMul) fAdd) (nE p m vs d T.nx (Za (.int (k:Nat))) (v)) (T.add (.lst (ws.map .str)))=.ok (.lst (((bA vs.length).map (oJ vs d k)).map .int)) (T.add (.lst (ws.map .str))):=by
  have er:xRng1 (xCons (xVar 3) xNil) (nE p m vs d T.nx (Za (.int (k:Nat))) (v)) (T.add (.lst (ws.map .str)))=.ok (uP 0 vs.length) (T.add (.lst (ws.map .str))):=by exact uQ rfl (by lia)
  exact pf er Pk c1
 refine(qr (i:=7)).trans ?_;unfold nV;refine(JL (l9 s1)).trans ?_;have e2:o4 (xIter (xVar 8)) [2] mU (x2 (xVar 1) (x2 (xVar 0) (xC (.int 26)) fMod) fIx) (nE p m vs d T.nx (Za (.int (k:Nat))) (Za (.lst (((bA vs.length).map (oJ vs d k)).map .int)))) (T.add (.lst (ws.map .str)))=.ok (.lst (((wcs vs d k).map λc=>(⟨#[c]⟩:Str)).map .str)) (T.add (.lst (ws.map .str))):=pf rfl Tj c2;show xDo (xAppend (xVar 6) (xCons (xJoin (xC (.str "")) (xCons (o4 (xIter (xVar 8)) [2] mU (x2 (xVar 1) (x2 (xVar 0) (xC (.int 26)) fMod) fIx)) xNil)) xNil)) (nE p m vs d T.nx (Za (.int (k:Nat))) (Za (.lst (((bA vs.length).map (oJ vs d k)).map .int)))) (T.add (.lst (ws.map .str)))=_;have e3:xJoin (xC (.str "")) (xCons (o4 (xIter (xVar 8)) [2] mU (x2 (xVar 1) (x2 (xVar 0) (xC (.int 26)) fMod) fIx)) xNil) (nE p m vs d T.nx (Za (.int (k:Nat))) (Za (.lst (((bA vs.length).map (oJ vs d k)).map .int)))) (T.add (.lst (ws.map .str)))=.ok (.str (mkW (wcs vs d k))) (T.add (.lst (ws.map .str))):=by unfold xJoin;have e4:=lE (fa:=xNil) e2 rfl;simp only[xC,Out.bind,e4,lsOf,vm];rw[Zc hj,E2]
 refine uI (v:=.non) ?_;have e4:=lE (fa:=xNil) e3 rfl;unfold xAppend;simp only[xVar,Out.bind,gF,eX,hg,e4,U0,ac];rw[Zc (show ws.length<100000 by lia)];simp
def lC(h:Z[i]?=Za (Za v)):xVar i Z s=.ok v s:=by unfold xVar;rw[h]
def wx(s)(p)(x y x' y'):(pst s p x y).set p (.lst [.int x',.int y'])=pst s p x' y':=rm _ _ _ _
def uy(a)(hP:IsPurse s p)(x y)(h0:0<n)(h1:Bt 9000 n):∃r x' y',0<=r/\r<n/\lR a [.ref p,.int n] (pst s p x y)=.ok (.int r) (pst s p x' y'):=by obtain⟨r,x',y',r0,r1,e⟩:=qz a (pst s p x y) p n (hP.pst x y) h0 h1;rw[wx] at e;exact⟨r,x',y',r0,r1,e⟩
def uq(hP:IsPurse s p):∃x y,s=pst s p x y:=by obtain⟨x,y,h⟩:=hP;exact⟨x,y,(zG s p _ h).symm⟩
def lP(h:f Z s=.nx ρ' s')(k:g ρ' s'=o):xSeq f g Z s=o:=(JL h).trans k
def mE(h:g (vs.map Za++aR (N-vs.length) Zb) s=.rt v s'):fnD N g vs s=.ok v s':=by unfold fnD;rw[h]
def zR(h:g (vs.map Za++aR (N-vs.length) Zb) s=.nx Z s'):fnD N g vs s=.ok .non s':=by unfold fnD;rw[h]
def qS(vs:List Int)(d k:Nat):List Str:=(bA k).map λi=>mkW (wcs vs d i)
def IS(a)(s)(p)(hp:p<s.nx)(hP:IsPurse s p)(m)(hm:m<=10):∃x y vs d fl,0<vs.length/\vs.length<=7/\d<vs.length/\sK a [.ref p,.int (m:Nat)] s=.ok (.lst (((bA m).map (wrd vs d fl)).map .str)) (Sto.bump (pst s p x y)):=by
 obtain⟨xa,y0,es⟩:=uq hP;obtain⟨r,xb,y1,r0,r1,e1⟩:=uy a hP xa y0 (n:=7) (by decide) (oj (by decide) (by decide));rw[<-es] at e1;obtain⟨n,hn,rfl⟩:∃n:Nat,1<=n/\r=(n:Int)-1:=⟨r.toNat+1,by lia,by lia⟩;have Uc:n<=7:=by lia
 obtain⟨pv,t2,hc,vs,xc,y2,rfl,rfl,hvl⟩:=MH (c:=mU) (e:=xCall 2 (lR a) (xCons (xVar 1) (xCons (xC (.int 26)) xNil))) (cap:=[Za (.ref p)]) (uP 0 n)
  (λi pv t=>∃(vs:List Int)(x y:Int),pv=vs.map PV.int/\t=pst s p x y/\vs.length=i)
  (λi q pv t hq hI=>by obtain⟨vs,x,y,rfl,rfl,hl⟩:=hI;obtain⟨b,x',y',_,_,e⟩:=uy a hP x y (n:=26) (by decide) (oj (by decide) (by decide));exact .inr ⟨_,.int b,_,rfl,lU (lE (lC rfl) (lE rfl rfl)) rfl e,vs++[b],x',y',by simp,rfl,by simp[hl]⟩)
  (s:=pst s p xb y1) ⟨[],xb,y1,rfl,rfl,rfl⟩
 rw[wa] at hvl;subst hvl;obtain⟨d',xd,y3,d0,d1,e3⟩:=uy a hP xc y2 (n:=(vs.length:Int)) (by lia) (oj (by lia) (by lia));obtain⟨d,rfl⟩:∃d:Nat,d'=d:=⟨d'.toNat,by lia⟩;have hd:d<vs.length:=by lia
 have lp:∃u v,nM (mK (yName 7) (nV a)) (uP 0 m) (nE p m vs d s.nx Zb Zb) ((pst s p xd y3).add (.lst []))=.nx (nE p m vs d s.nx u v) ((pst s p xd y3).add (.lst ((qS vs d m).map .str))):=by
  obtain⟨ρ',s',hl,u,v,rfl,rfl⟩:=ut (body:=mK (yName 7) (nV a)) m
   (λk Z t=>∃u v,Z=(nE p m vs d s.nx u v)/\t=(pst s p xd y3).add (.lst ((qS vs d k).map .str)))
   (λk Z t hk hI=>by
    obtain⟨u,v,rfl,rfl⟩:=hI;have:=Hg a (pst s p xd y3) p m vs (by lia) Uc d hd (qS vs d k) (by simp[qS];lia) k (by lia) u v;refine⟨_,_,this,_,_,rfl,?_⟩;have:qS vs d (k+1)=qS vs d k++[mkW (wcs vs d k)]:=by unfold qS;rw[List.range_succ,aw];rfl
    rw[this]) (Z:=(nE p m vs d s.nx Zb Zb)) (s:=(pst s p xd y3).add (.lst [])) ⟨Zb,Zb,rfl,rfl⟩
  exact⟨u,v,hl⟩
 obtain⟨u,v,lp⟩:=lp;have hq:IsPurse ((pst s p xd y3).add (.lst ((qS vs d m).map .str))) p:=(hP.pst xd y3).add _ hp;obtain⟨f,xe,y4,_,_,e4⟩:=qz a _ p 4 hq (by decide) (oj (by decide) (by decide));rw[Ld _ _ _ _ _ _ _ hp] at e4;have hg:((pst s p xe y4).add (.lst ((qS vs d m).map .str))).get s.nx=Za (.lst ((qS vs d m).map .str)):=by have:(pst s p xe y4).nx=s.nx:=rfl;rw[ms,Zc this]
 have Rw:((pst s p xe y4).add (.lst ((qS vs d m).map .str))).del s.nx=Sto.bump (pst s p xe y4):=Mq (pst s p xe y4) _;have head:∀(o:SO),xSeq (xIf (xTr (x2 (xCall 2 (lR a) (xCons (xVar 0) (xCons (xC (.int 4)) xNil))) (xC (.int 0)) fEq)) (xSet 6 (oI (vV (xCons (xFrz (xVar 6)) xNil)) [] mU (x2 (xVar 1) (x2 (xC (.str "x")) (x2 (xVar 0) (xC (.int 2)) fMod) ze) fAdd))) xEnd) (xRet (Er (xVar 6))) (nE p m vs d s.nx u v) ((pst s p xd y3).add (.lst ((qS vs d m).map .str)))=o->sC a [Za (.ref p),Za (.int (m:Nat)),Zb,Zb,Zb,Zb,Zb,Zb,Zb] s=o:=λo ho=>by
  unfold sC;refine lP (l9 rfl) ?_;refine lP (l9 (v:=.int (vs.length:Nat)) (s':=pst s p xb y1) ((lZ rfl (lU (lE (lC rfl) (lE rfl rfl)) rfl e1)).trans ?_)) ?_
  ·show Out.ok (PV.int (1+((vs.length:Int)-1))) _=_;rw[show(1:Int)+((vs.length:Int)-1)=(vs.length:Nat) by lia]
  refine lP (l9 (pf (uQ (n:=vs.length) rfl (by lia)) (by rw[wa];lia) hc)) ?_;refine lP (l9 (lU (lE (lC rfl) (lE (lC rfl) rfl)) rfl e3)) ?_;refine lP (l9 (v:=.ref s.nx) (s':=(pst s p xd y3).add (.lst [])) rfl) ?_;refine lP (re (uQ (n:=m) rfl (by lia)) lp) ?_;exact ho
 have c1:x2 (xCall 2 (lR a) (xCons (xVar 0) (xCons (xC (.int 4)) xNil))) (xC (.int 0)) fEq (nE p m vs d s.nx u v) ((pst s p xd y3).add (.lst ((qS vs d m).map .str)))=.ok (.bl (f==0)) ((pst s p xe y4).add (.lst ((qS vs d m).map .str))):=by refine(lZ (lU (lE (lC rfl) (lE rfl rfl)) rfl e4) rfl).trans ?_;show fEqN false _ _ _=_;unfold fEqN;rw[oi,oi];simp[qy,FF]
 by_cases hf:f=0
 ·refine⟨xe,y4,vs,d,true,by lia,Uc,hd,mE (head _ ?_)⟩;refine lP ((xU (s1:=(pst s p xe y4).add (.lst ((qS vs d m).map .str))) (by unfold xTr;rw[c1,hf];rfl)).trans (l9 (v:=.lst (((bA m).map (wrd vs d true)).map .str)) (s':=Sto.bump (pst s p xe y4)) ?_)) ?_
  ·unfold oI vV;have ef:xCons (xFrz (xVar 6)) xNil (nE p m vs d s.nx u v) ((pst s p xe y4).add (.lst ((qS vs d m).map .str)))=.ok [.lst ((qS vs d m).map .str)] (Sto.bump (pst s p xe y4)):=by refine lE ?_ rfl;unfold xFrz;rw[lC (v:=.ref s.nx) rfl];simp only[Out.bind,frz1,hg,Rw]
   rw[ef];simp only[Out.bind];rw[Zc (by rw[rO,ac];simp[qS];lia)];have cp:=zu (e:=x2 (xVar 1) (x2 (xC (.str "x")) (x2 (xVar 0) (xC (.int 2)) fMod) ze) fAdd) (s:=Sto.bump (pst s p xe y4)) (λj w=>w++if j%2=1 then aP "x" else cx) (qS vs d m) 0 λj w hw=>by
    obtain⟨k,_,rfl⟩:=aj.mp hw;have hl:(mkW (wcs vs d k)).length<=7:=by rw[F0,wl];exact Uc
    have Tk:(mkW (wcs vs d k)).length+1<=100000:=by lia
    have R5:(mkW (wcs vs d k)).length<=100000:=by lia
    have lx:(aP "x").length=1:=rfl;have l0:cx.length=0:=rfl;rcases jI j with z|z
    ·have z':(j:Int)%2=0:=by lia
     simp[sem,qx,me,sQ,ze,z,z',l0,R5]
    ·have z':(j:Int)%2=1:=by lia
     simp[sem,qx,me,sQ,ze,z,z',lx,Tk]
   have el:((bA (qS vs d m).length).map λi=>(((qS vs d m)[i]?).getD cx)++if(0+i)%2=1 then aP "x" else cx)=(bA m).map (wrd vs d true):=by
    have:(qS vs d m).length=m:=by simp[qS]
    rw[this];refine aV λk hk=>?_;have hk:=cF.mp hk;have:(qS vs d m)[k]?=Za (mkW (wcs vs d k)):=by unfold qS;rw[aC,fT hk];rfl
    rw[this,fw];refine Co ?_;unfold wrd;rw[zX,qH];simp only[Option.getD_some,qH];by_cases hk2:k%2=1
    ·rw[Zc hk2,Zc ⟨trivial,hk2⟩];rfl
    ·rw[Zd hk2,Zd (λz=>hk2 z.2)];rfl
   rw[el] at cp;show((mC mU _ [] _ _).bind _)=_;rw[cp];rfl
  ·refine nI ?_;unfold Er;rw[lC (v:=.lst (((bA m).map (wrd vs d true)).map .str)) rfl];rfl
 ·refine⟨xe,y4,vs,d,false,by lia,Uc,hd,mE (head _ ?_)⟩;refine lP ((vx (s1:=(pst s p xe y4).add (.lst ((qS vs d m).map .str))) (by unfold xTr;rw[c1,beq_eq_false_iff_ne.mpr hf];rfl)).trans rfl) ?_;refine nI ?_;unfold Er;rw[lC (v:=.ref s.nx) rfl];simp only[Out.bind,Pa,frz1,hg,Rw];have:(bA m).map (wrd vs d false)=qS vs d m:=aV λk _=>by unfold wrd;simp
  rw[this]
def xR(l:Hl)(o1 o2:Str)(q:Int×Int):Hl :=
 let r:=nz (lT l o1) (-q.1,q.2);let l1:=if 0<r.1 then nu (mW l o1) o1 r else mW l o1
 nu l1 o2 (nz (lT l1 o2) q)
structure HM(c:Nat)(hl hm:Hl):Prop where
 r:∃hz,HR c hl hz
 nd:(hm.map (·.1)).Nodup
 q:∀n,lT hm n=lT hl n
 mem:∀n,n∈hm.map (·.1)↔n∈hl.map (·.1)
def OC(c)(ho:Sm o):HM c [(o,1,1)] [(o,1,1)]:=⟨⟨_,OB c ho⟩,by simp,λ_=>rfl,λ_=>Iff.rfl⟩
def uV:n∈(nu l o q).map (·.1)↔n=o\/n∈l.map (·.1):=by
 rw[mZ];split
 ·rename_i h;exact⟨.inr,λz=>z.elim (λe=>e▸h) id⟩
 ·rw[aL,ao];exact⟨λz=>z.elim .inr .inl,λz=>z.elim .inr .inl⟩
def mem_drop:n∈(mW l o).map (·.1)↔n≠o/\n∈l.map (·.1):=by
 unfold mW;simp only[aj,bw,decide_eq_true_eq];constructor
 ·rintro⟨x,⟨h1,h2⟩,rfl⟩;exact⟨h2,x,h1,rfl⟩
 ·rintro⟨h2,x,h1,rfl⟩;exact⟨x,⟨h1,h2⟩,rfl⟩
theorem HM.sale{c:Nat}{hl hm:Hl}(h:HM c hl hm){o1 o2:Str}{q:Int×Int}(hq:ShOk q)(so:Sm o2)(nt:¬oO hl o1 q):HM (c+1) (sold hl o1 o2 q) (xR hm o1 o2 q):=by
 obtain⟨hz,R⟩:=h.r;have q0:0<q.1:=by by_cases z:0<q.1;exact z;exact absurd (.inl z) nt
 have Qn:q.1*(lT hl o1).2<=(lT hl o1).1*q.2:=by
  by_cases z:q.1*(lT hl o1).2>(lT hl o1).1*q.2
  ·exact absurd (.inr z) nt
  ·lia
 have B:=yC (R.fr o1) hq.low q0 Qn hq.bb;have VB:=h.q o1;generalize hr:nz (lT hl o1) (-q.1,q.2)=r at B;have e1:∀n,lT (if 0<r.1 then nu (mW hm o1) o1 r else mW hm o1) n=lT (if r=(0,1) then mW hl o1 else nu hl o1 r) n:=λn=>by
  by_cases z:0<r.1
  ·have z':r≠(0,1):=λe=>by rw[e] at z;exact absurd z (by decide)
   rw[Zc z,Zd z',mQ,mQ,pN];by_cases e:n=o1
   ·rw[Zc e,Zc e]
   ·rw[Zd e,Zd e,Zd e,h.q]
  ·have z':r=(0,1):=zP B.low (by have:=B.nn;lia);rw[Zd z,Zc z',pN,pN];by_cases e:n=o1
   ·rw[Zc e,Zc e]
   ·rw[Zd e,Zd e,h.q]
 have Q2:o1∈hl.map (·.1):=by
  refine(R.nm o1).mpr ?_;by_cases z:0<(lT hl o1).1
  ·exact z
  ·exfalso;have b0:=(R.fr o1).low.1;have b1:=hq.low.1;have n0:=(R.fr o1).nn;have:(lT hl o1).1=0:=by lia
   rw[this,i8] at Qn;have:=bI q0 b0;lia
 have m1:∀n,n∈(if 0<r.1 then nu (mW hm o1) o1 r else mW hm o1).map (·.1)↔n∈(if r=(0,1) then mW hl o1 else nu hl o1 r).map (·.1):=λn=>by
  by_cases z:0<r.1
  ·have z':r≠(0,1):=λe=>by rw[e] at z;exact absurd z (by decide)
   rw[Zc z,Zd z',uV,uV,mem_drop,h.mem];exact⟨λk=>k.imp id (·.2),λk=>k.elim .inl λk=>if e:n=o1 then .inl e else .inr ⟨e,k⟩⟩
  ·have z':r=(0,1):=zP B.low (by have:=B.nn;lia);rw[Zd z,Zc z',mem_drop,mem_drop,h.mem]
 have em:xR hm o1 o2 q=nu (if 0<r.1 then nu (mW hm o1) o1 r else mW hm o1) o2 (nz (lT (if 0<r.1 then nu (mW hm o1) o1 r else mW hm o1) o2) q):=by unfold xR;simp only[VB,hr]
 have es:sold hl o1 o2 q=nu (if r=(0,1) then mW hl o1 else nu hl o1 r) o2 (nz (lT (if r=(0,1) then mW hl o1 else nu hl o1 r) o2) q):=by unfold sold;simp only[hr]
 refine⟨⟨_,R.sale hq so nt⟩,?_,λn=>?_,λn=>?_⟩
 ·rw[em];refine vP _ _ ?_;split
  ·exact vP _ _ (Cw _ h.nd)
  ·exact Cw _ h.nd
 ·rw[em,es,mQ,mQ,e1 o2,e1 n]
 ·rw[em,es,uV,uV,m1]
theorem HM.srt(h:HM c hl hm):srt (hm.map (·.1))=srt (hl.map (·.1)):=by obtain⟨hz,R⟩:=h.r;refine ot ?_ (nY _) (nY _);refine(f7 ((lQ _).nodup_iff.mpr h.nd) ((lQ _).nodup_iff.mpr R.n1)).mpr λn=>?_;rw[(lQ _).mem_iff,(lQ _).mem_iff,h.mem]
def HM.len(h:HM c hl hm):hm.length=hl.length:=by have:=congrArg b7 h.srt;rw[(lQ _).length_eq,(lQ _).length_eq,ac,ac] at this;exact this
def AV(h:k∉l.map (·.1)):pP l k=none:=by unfold pP;rw[gB,cy];intro q hq z;exact h (aj.mpr ⟨q,hq,Zf z⟩)
def hP(l:Hl):List (Key×PV):=l.map λq=>(af q.1,frP q.2)
def Fv(l)(n)(h:n∈l.map (·.1)):pP (hP l) (af n)=Za (frP (lT l n)):=by
 unfold pP hP lT mj;rw[fg,Option.map_map];have e:((λkv:Key×PV=>decide (kv.1=af n))∘λq:Str×Int×Int=>((af q.1:Key),frP q.2))=λq=>decide (q.1=n):=by
  funext q
  show decide ((af q.1:Key)=af n)=_;rw[Aw]
 rw[e];cases hf:l.find? (λq=>decide (q.1=n)) with
 |none =>
  exfalso;rw[cy] at hf;obtain⟨q,hq,e⟩:=aj.mp h;exact hf q hq (Zg e)
 |some q=>rfl
def F9(l):(hP l).map (·.1)=l.map λq=>af q.1:=by unfold hP;rw[aE];rfl
def OE(l)(n):(pP (hP l) (af n)).getD (.tup [.int 0,.int 1])=frP (lT l n):=by
 by_cases h:n∈l.map (·.1)
 ·rw[Fv l n h];rfl
 ·rw[AV,uZ h]
  ·rfl
  ·rw[F9];intro z;obtain⟨q,hq,e⟩:=aj.mp z;cases e;exact h (aj.mpr ⟨q,hq,rfl⟩)
def J3(l)(n)(q):xw (hP l) (af n) (frP q)=hP (nu l n q):=by
 unfold xw nu hP;rw[gN];have e:((λkv:Key×PV=>decide (kv.1=af n))∘λq:Str×Int×Int=>((af q.1:Key),frP q.2))=λq=>decide (q.1=n):=by
  funext q
  show decide ((af q.1:Key)=af n)=_;rw[Aw]
 rw[e];split
 ·rw[aE,aE];refine aV λz _=>?_;show(if(af z.1:Key)=af n then((af z.1:Key),frP q) else(af z.1,frP z.2))=_;by_cases hz:z.1=n
  ·simp[hz]
  ·simp[hz]
 ·simp
def zQ(pp)(w):oQ pp w=true↔w∈pp:=by
 unfold oQ;rw[iW];constructor
 ·rintro⟨x,hx,e⟩
  have:=Zf e;subst this;exact hx
 ·intro h;exact⟨w,h,Zg rfl⟩
def pM(L)(w):l7 L w=true↔w∈L.map (·.nm):=by
 unfold l7 mB;rw[iW];constructor
 ·rintro⟨x,hx,e⟩
  exact aj.mpr ⟨x,hx,Zf e⟩
 ·intro h;obtain⟨x,hx,e⟩:=aj.mp h;exact⟨x,hx,Zg e⟩
def Bk(a)(h1:vI w=true)(h2:w∉pp)(h3:w∉L.map (·.nm)):rB a pp L w=none:=by
 unfold rB;have e1:oQ pp w=false:=by rw[gv];exact λz=>h2 ((zQ _ _).mp z)
 have e2:l7 L w=false:=by rw[gv];exact λz=>h3 ((pM _ _).mp z)
 rw[Zd (by rw[h1];decide),e1,e2];rfl
def Ei{ws:List Str}{r:Int}(h0:0<=r)(h1:r<ws.length):∃w∈ws,atI (ws.map PV.str) r=Za (.str w):=by
 obtain⟨j,rfl⟩:∃j:Nat,r=j:=⟨r.toNat,by lia⟩;have hj:j<ws.length:=by lia
 exact⟨ws[j],ce hj,mO (by simp[hj])⟩
def wc(hn:e.nm∉A.map (·.nm)):mB (A++e::B) e.nm=Za e:=by
 unfold mB;rw[iX,cy.mpr]
 ·simp
 ·intro x hx z;exact hn (aj.mpr ⟨x,hx,Zf z⟩)
def GN(g)(h1:e.nm∉A.map (·.nm))(h2:e.nm∉B.map (·.nm)):mR (A++e::B) e.nm g=A++g e::B:=by
 have no:∀{l:List Ent},e.nm∉l.map (·.nm)->l.map (λx=>if x.nm=e.nm then g x else x)=l:=λ{l} h=>by
  conv=>rhs;rw[<-jf l]
  refine aV λx hx=>?_;rw[Zd λz=>h (aj.mpr ⟨x,hx,z⟩)];rfl
 unfold mR;rw[aw,am,Zc rfl,no h1,no h2]
def L5(l)(n):C0 (hP l) (af n)=hP (mW l n):=by
 unfold C0 hP mW;rw[fO]
 congr 1
 refine List.filter_congr λx _=>?_;simp[Function.comp]
def OD(l):(hP l).length=l.length:=by unfold hP;rw[ac]
theorem yZ:∀(l:List (Key×PV))(ss:List Str),l.map (·.1)=ss.map af->keysOf l=Za ss
 |[],[],_=>rfl
 |(k,v)::r,s::ss,h=>by have h1:k=af s:=(eg h).1;have h2:=yZ r ss (eg h).2;subst h1;simp[keysOf,h2]
def LU(l):keysOf (hP l)=Za (l.map (·.1)):=yZ _ _ (by rw[F9,aE];rfl)
structure Md where
 nm:Str
 cell:Nat
 hl:Hl
 th:Int
 mr:Int
 ls:Int
def mdP(e:Md):Key×PV:=(af e.nm,.lst [.ref e.cell,.tup [.int e.th,.int e.mr,.int e.ls]])
def F5(M:List Md):keysOf (M.map mdP)=Za (M.map (·.nm)):=yZ _ _ (by rw[aE,aE];rfl)
structure MRel(N:List Str)(c:Nat)(e:Ent)(m:Md):Prop where
 nm:e.nm=m.nm
 th:e.th=m.th
 mr:e.mr=m.mr
 ls:e.ls=m.ls
 hm:HM c e.held m.hl
 ow:∀n∈m.hl.map (·.1),n∈N
 tb:Bt 100 e.th/\Bt 100 e.mr/\Bt 100 e.ls
inductive Prs (N:List Str):Nat->List Ent->List Md->Prop
 |nil {c:Nat}:Prs N c [] []
 |cons {c1 c2 c:Nat}{e:Ent}{m:Md}{L:List Ent}{M:List Md}:MRel N c1 e m->Prs N c2 L M->c1+c2<=c->Prs N c (e::L) (m::M)
def Prs.mono(hc:c<=d):∀{L:List Ent}{M:List Md},Prs N c L M->Prs N d L M
 |_,_,.nil=>.nil
 |_,_,.cons h r k=>.cons h r (aH k hc)
theorem Prs.names:∀{c:Nat}{L:List Ent}{M:List Md},Prs N c L M->L.map (·.nm)=M.map (·.nm)
 |_,_,_,.nil=>rfl
 |_,_,_,.cons h r _=>by rw[am,am,h.nm,r.names]
theorem Prs.app:∀{c:Nat}{L L':List Ent}{M M':List Md},Prs N c L M->Prs N d L' M'->Prs N (c+d) (L++L') (M++M')
 |_,_,_,_,_,.nil,k=>k.mono (Nat.le_add_left _ _)
 |_,_,_,_,_,.cons h r q,k=>.cons h (r.app k) (by lia)
theorem Prs.cut:∀{c:Nat}{L:List Ent}{M:List Md},Prs N c L M->∀{h:Str},h∈M.map (·.nm)->∃A e B A' m B' k1 k2 k3,L=A++e::B/\M=A'++m::B'/\m.nm=h/\h∉A'.map (·.nm)/\Prs N k1 A A'/\MRel N k2 e m/\Prs N k3 B B'/\k1+k2+k3<=c
 |_,_,_,.nil,_,hh=>nomatch hh
 |c,e::L,m::M,.cons (c1:=c1) (c2:=c2) k r q,h,hh=>by
  by_cases z:m.nm=h
  ·exact⟨[],e,L,[],m,M,0,c1,c2,rfl,rfl,z,by simp,.nil,k,r,by lia⟩
  ·have Q8:h∈M.map (·.nm):=(ah.mp hh).elim (λq=>absurd q.symm z) id;obtain⟨A,e',B,A',m',B',k1,k2,k3,e1,e2,e3,e4,e5,e6,e7,e8⟩:=r.cut Q8;refine⟨e::A,e',B,m::A',m',B',c1+k1,k2,k3,by rw[e1];rfl,by rw[e2];rfl,e3,λq=>?_,.cons k e5 (ap _),e6,e7,by lia⟩;rcases ah.mp q with q|q
   ·exact z q.symm
   ·exact e4 q
structure Wst(t:Sto)(p nb nd:Nat)(N:List Str)(c:Nat)(pp:List Str)(L:List Ent)(M:List Md):Prop where
 pu:IsPurse t p
 bk:t.get nb=Za (.book pp L)
 md:t.get nd=Za (.dct (M.map mdP))
 sh:∀m∈M,t.get m.cell=Za (.dct (hP m.hl))
 i1:p≠nb
 i2:p≠nd
 i3:nb≠nd
 i4:∀m∈M,m.cell≠p/\m.cell≠nb/\m.cell≠nd
 i5:(M.map (·.cell)).Nodup
 lt:p<t.nx/\nb<t.nx/\nd<t.nx/\∀m∈M,m.cell<t.nx
 pr:Prs N c L M
theorem Wst.pst(W:Wst t p nb nd N c pp L M)(x y):Wst (pst t p x y) p nb nd N c pp L M :=
 ⟨W.pu.pst x y,by rw[<-W.bk];exact lN _ _ (bY W.i1),by rw[<-W.md];exact lN _ _ (bY W.i2),λm hm=>by rw[<-W.sh m hm];exact lN _ _ (W.i4 m hm).1,W.i1,W.i2,W.i3,W.i4,W.i5,W.lt,W.pr⟩
theorem Wst.mono(W:Wst t p nb nd N c pp L M)(hc:c<=d):Wst t p nb nd N d pp L M :=
 ⟨W.pu,W.bk,W.md,W.sh,W.i1,W.i2,W.i3,W.i4,W.i5,W.lt,W.pr.mono hc⟩
def Wst.sale(W:Wst t p nb nd N c pp (A++e::B) (A'++m::B'))(c1:Prs N k1 A A')(c2:MRel N k2 e m)(c3:Prs N k3 B B')(ck:k1+k2+k3<=c)(h:HM (k2+1) Tl RD)(ow:∀n∈RD.map (·.1),n∈N):Wst ((t.set nb (.book pp (A++{ e with held:=Tl }::B))).set m.cell (.dct (hP RD))) p nb nd N (c+1) pp (A++{ e with held:=Tl }::B) (A'++{ m with hl:=RD }::B'):=by
 have hm:=W.i4 m (aG _ ag);have UN:=W.i5;rw[aw,am] at UN;obtain⟨nA,nB,nX⟩:=bK.mp UN;obtain⟨nm,nB⟩:=ay.mp nB;have Q0:∀m'∈A'++B',m'.cell≠m.cell/\m'∈A'++m::B':=λm' h'=>by
  rcases aL.mp h' with z|z
  ·exact⟨λq=>nX _ (aj.mpr ⟨m',z,rfl⟩) _ ag q,bj _ z⟩
  ·exact⟨λq=>nm (q▸aj.mpr ⟨m',z,rfl⟩),aG _ (ae _ z)⟩
 have g1:(t.set nb (.book pp (A++{ e with held:=Tl }::B))).get m.cell=Za (.dct (hP m.hl)):=by rw[lN _ _ hm.2.1];exact W.sh m (aG _ ag)
 refine⟨?_,?_,?_,λm' h'=>?_,W.i1,W.i2,W.i3,λm' h'=>?_,?_,⟨W.lt.1,W.lt.2.1,W.lt.2.2.1,λm' h'=>?_⟩,Prs.mono (c:=k1+(k2+1+k3)) (by lia) (c1.app (.cons (c1:=k2+1) ⟨c2.nm,c2.th,c2.mr,c2.ls,h,ow,c2.tb⟩ c3 (ap _)))⟩
 ·obtain⟨x,y,e⟩:=W.pu;exact⟨x,y,by rw[lN _ _ (bY hm.1),lN _ _ W.i1];exact e⟩
 ·rw[lN _ _ (bY hm.2.1)];exact nZ W.bk
 ·rw[lN _ _ (bY hm.2.2),lN _ _ (bY W.i3),W.md];simp[mdP]
 ·rcases aL.mp h' with z|z
  ·obtain⟨q1,q2⟩:=Q0 m' (bj _ z);rw[lN _ _ q1,lN _ _ (W.i4 m' q2).2.1];exact W.sh m' q2
  ·rcases ah.mp z with z|z
   ·subst z;exact nZ g1
   ·obtain⟨q1,q2⟩:=Q0 m' (aG _ z);rw[lN _ _ q1,lN _ _ (W.i4 m' q2).2.1];exact W.sh m' q2
 ·rcases aL.mp h' with z|z
  ·exact W.i4 m' (bj _ z)
  ·rcases ah.mp z with z|z
   ·subst z;exact hm
   ·exact W.i4 m' (aG _ (ae _ z))
 ·rw[aw,am];exact UN
 ·rcases aL.mp h' with z|z
  ·exact W.lt.2.2.2 m' (bj _ z)
  ·rcases ah.mp z with z|z
   ·subst z;exact W.lt.2.2.2 m (aG _ ag)
   ·exact W.lt.2.2.2 m' (aG _ (ae _ z))
def K4(a)(hb:t.get nb=Za (.book pp (A++e::B)))(nd:((A++e::B).map (·.nm)).Nodup)(hn:Nm e.nm/\Nm o1/\Nm o2)(hz:Sz q)(ok:SaleOk e.held o1 q)(h1:(oQ pp o1||l7 (A++e::B) o1)=true)(h2:(oQ pp o2||l7 (A++e::B) o2)=true)(nt:¬oO e.held o1 q) :
  vU a [.ref nb,.str e.nm,.str o1,.str o2,frP q] t=.ok .non (t.set nb (.book pp (A++{ e with held:=sold e.held o1 o2 q }::B))):=by
 rw[aw,am] at nd;have n1:e.nm∉A.map (·.nm):=λz=>(bK.mp nd).2.2 _ z _ ag rfl;have n2:e.nm∉B.map (·.nm):=(ay.mp (bK.mp nd).2.1).1;have hS:SaleE (A++e::B) e.nm o1 o2 q:=⟨by rw[aw,am];exact nd,hn,hz,λe' he=>by rw[wc n1] at he;cases he;exact ok⟩;obtain⟨x,y⟩:=q;simp[vU,mH,hb,hS,wc n1,nt,frP,GN _ n1 n2];rw[dO] at h1 h2;rw[Zd (by intro z;rcases h1 with h|h<;>simp_all),Zd (by intro z;rcases h2 with h|h<;>simp_all)]
def vo(h:t.get n=Za (.dct l))(hk:keysOf l=Za ss)(hl:ss.length<64):me [.ref n] t=.ok (.lst ((srt ss).map .str)) t:=by simp[me,lsOf,dcOf,h,hk,hl]
def yf{t:Sto}{ws:List Str}{r:Int}{w:Str}(h:atI (ws.map PV.str) r=Za (.str w)):fIx (.lst (ws.map .str)) (.int r) t=.ok (.str w) t:=by simp[fIx,lsOf,h]
def Cz:fLen [.lst l] t=.ok (.int (l.length:Nat)) t:=by simp[fLen,lsOf]
def Fq(h:t.get n=Za (.dct l))(hv:pP l (af w)=Za v):fIx (.ref n) (.str w) t=.ok v t:=by simp[fIx,lsOf,dcOf,h,kyOf,hv]
def J0(h:m.nm∉A'.map (·.nm)):pP ((A'++m::B').map mdP) (af m.nm)=Za (.lst [.ref m.cell,.tup [.int m.th,.int m.mr,.int m.ls]]):=by
 unfold pP;rw[aw,iX];have:(A'.map mdP).find? (λkv=>decide (kv.1=af m.nm))=none:=by rw[cy];intro x hx;obtain⟨m',h',rfl⟩:=aj.mp hx;intro z;have z:(af m'.nm:Key)=af m.nm:=Zf z;exact h (cM z▸aj.mpr ⟨m',h',rfl⟩)
 rw[this];simp[mdP]
theorem HM.fr(h:HM c hl hm)(n):FrC c (lT hm n):=by obtain⟨z,R⟩:=h.r;rw[h.q];exact R.fr n
def HM.pos(h:HM c hl hm)(hn:n∈hm.map (·.1)):0<(lT hm n).1:=by obtain⟨z,R⟩:=h.r;rw[h.q];exact(R.nm n).mp ((h.mem n).mp hn)
def Ln(hc:c<=40)(hg:FrC c g)(h:PartOf g q)(hb:q.2<10^29):ShOk q:=by
 have b0:=h.low.1;have hq:=FX hg h.low h.le;have b97:Bt 97 q.2:=by
  show q.2.natAbs<2^97;have:(2:Nat)^97=158456325028528675187087900672:=by decide
  rw[this];lia
 refine⟨h.low,?_,b97⟩;have h2:Bt 200 (((2^c:Nat):Int)*q.2):=((show Bt (c+1) ((2^c:Nat):Int) from by show((2^c:Nat):Int).natAbs<2^(c+1);rw[iR];exact k6 (by decide) (by lia)).mul b97).mono (by lia)
 show q.1.natAbs<2^200;have h3:(((2^c:Nat):Int)*q.2).natAbs<2^200:=h2;have:=h.pos;generalize (2:Nat)^200=Zj at *;generalize ((2^c:Nat):Int)*q.2=Y at *;lia
def Wst.draw'(W:Wst t p nb nd N c pp L M)(a)(x y)(h0:0<n)(h1:Bt 9000 n):∃r x' y',0<=r/\r<n/\lR a [.ref p,.int n] (My.pst t p x y)=.ok (.int r) (My.pst t p x' y'):=by obtain⟨r,x',y',r0,r1,e⟩:=qz a (My.pst t p x y) p n (W.pst x y).pu h0 h1;rw[wx] at e;exact⟨r,x',y',r0,r1,e⟩
def asg2(h:f Z s=.ok (.tup [v,w]) s'):xAsg f (yTup 2 (yCons (yName i) (yCons (yName j) yNil))) Z s=.nx ((Z.set i (Za v)).set j (Za w)) s':=by unfold xAsg;rw[h];rfl
def yM(h1:fv Z s=.ok v s1)(h2:fo Z s1=.ok (.ref n) s1)(h3:fi Z s1=.ok (.str w) s1)(hg:s1.get n=Za (.dct l))(hl:l.length<100000):xPut fo fi fv Z s=.nx Z (s1.set n (.dct (xw l (af w) v))):=by unfold xPut;rw[h1];simp only[Out.so];rw[h2];simp only;rw[h3];simp[sQ,hg,kyOf,hl]
def IW(a)(s)(hg:Low g)(hq:Low q)(bg:Bt 8800 g.2)(bq:Bt 100 q.2):mT a [.int (g.1*q.2-q.1*g.2),.int (g.2*q.2)] s=.ok (frP (nz g (-q.1,q.2))) s:=by have e:=Cy a s (g.1*q.2-q.1*g.2) (g.2*q.2) (bI hg.1 hq.1) ((bg.mul bq).mono (by decide));rw[e];unfold nz;rw[show g.1*(-q.1,q.2).2+(-q.1,q.2).1*g.2=g.1*q.2-q.1*g.2 by show g.1*q.2+-q.1*g.2=_;rw[iw];rfl]
def IX(a)(s)(hg:Low g)(hq:Low q)(bg:Bt 8800 g.2)(bq:Bt 100 q.2):mT a [.int (g.1*q.2+q.1*g.2),.int (g.2*q.2)] s=.ok (frP (nz g q)) s :=
 Cy a s (g.1*q.2+q.1*g.2) (g.2*q.2) (bI hg.1 hq.1) ((bg.mul bq).mono (by decide))
def ix0:fIx (frP q) (.int 0) t=.ok (.int q.1) t:=by simp[fIx,frP,atI,ixN]
def ix1:fIx (frP q) (.int 1) t=.ok (.int q.2) t:=by simp[fIx,frP,atI,ixN]
def rb(h1:f Z s=.ok (.int i) s1)(h2:g Z s1=.ok (.int j) s2)(hm:p8 i j):x2 f g fMul Z s=.ok (.int (i*j)) s2:=by rw[lZ h1 h2];simp[fMul,hm]
def NH(h1:f Z s=.ok (.int i) s1)(h2:g Z s1=.ok (.int j) s2):x2 f g fSub Z s=.ok (.int (i-j)) s2:=by rw[lZ h1 h2];rfl
def vh(h1:f Z s=.ok (.int i) s1)(h2:g Z s1=.ok (.int j) s2):x2 f g fAdd Z s=.ok (.int (i+j)) s2:=by rw[lZ h1 h2];rfl
def OF(h1:f Z s=.ok (.ref n) s)(hg:s.get n=Za (.dct l))(h2:g Z s=.ok (.str w) s)(h3:h Z s=.ok z s):xGet f g h Z s=.ok ((pP l (af w)).getD z) s:=by unfold xGet;rw[h1];simp[Out.bind,dcOf,hg,h2,h3,kyOf]
def Mn(h1:f Z s=.ok (.ref n) s)(hg:s.get n=Za (.dct l))(h2:g Z s=.ok (.str w) s)(hv:pP l (af w)=Za v):Et f g Z s=.ok v (s.set n (.dct (C0 l (af w)))):=by unfold Et;rw[h1];simp[Out.bind,hg,h2,kyOf,hv]
def Hh(h1:o1∈l.map (·.1))(h:n∈(xR l o1 o2 q).map (·.1)):n∈l.map (·.1)\/n=o2:=by
 unfold xR at h;simp only at h;rw[uV] at h;rcases h with h|h
 ·exact .inr h
 ·refine .inl ?_;split at h
  ·rw[uV] at h;rcases h with h|h
   ·rw[h];exact h1
   ·exact(mem_drop.mp h).2
  ·exact(mem_drop.mp h).2
def JH(h:l≠[]):0<(srt l).length:=by rw[(lQ l).length_eq];exact fS.mpr h
def O9(a:Adr){t:Sto}{p nb nd:Nat}{N:List Str}{c:Nat}{pp:List Str}{L:List Ent}{M:List Md}(W:Wst t p nb nd N c pp L M)(x y:Int){ws:List Str}(h0:0<ws.length)(hl:ws.length<1000){i:Nat}{Z:En}(hp:Z[0]?=Za (Za (.ref p)))(hi:Z[i]?=Za (Za (.lst (ws.map .str)))) :
  ∃w x' y',w∈ws/\x2 (xVar i) (xCall 2 (lR a) (xCons (xVar 0) (xCons (xB (xCons (xVar i) xNil) fLen) xNil))) fIx Z (pst t p x y)=.ok (.str w) (pst t p x' y'):=by
 obtain⟨r,x',y',r0,r1,e⟩:=W.draw' a x y (n:=(ws.length:Nat)) (by lia) (oj (by lia) (by lia));obtain⟨w,hw,QQ⟩:=Ei r0 r1;refine⟨w,x',y',hw,?_⟩;have e2:xB (xCons (xVar i) xNil) fLen Z (pst t p x y)=.ok (.int (ws.length:Nat)) (pst t p x y):=by rw[wH (lE (lC hi) rfl),Cz,ac]
 exact(lZ (lC hi) (lU (lE (lC hp) (lE e2 rfl)) rfl e)).trans (yf QQ)
abbrev sE(p nd:Nat)(N:List Str)(nb:Nat)(r:En):En:=Za (.ref p)::Za (.ref nd)::Za (.lst (N.map .str))::Za (.ref nb)::r
def KY(a:Adr){t:Sto}{p nb nd:Nat}{N:List Str}{c:Nat}{pp:List Str}{L:List Ent}{M:List Md}(W:Wst t p nb nd N c pp L M)(hc:c<=40)(hM:M≠[])(hnd:(L.map (·.nm)).Nodup)(Uj:∀n∈N,Sm n)(hLN:∀n∈L.map (·.nm),n∈N)(hN1:∀n∈N,(oQ pp n||l7 L n)=true)(hN0:N≠[])(hNl:N.length<64)(hL8:L.length<=8) :
  ∃t' L' M',qR a [.ref p,.ref nd,.lst (N.map .str),.ref nb] t=.ok .non t'/\Wst t' p nb nd N (c+1) pp L' M'/\L'.map (·.nm)=L.map (·.nm)/\M'.map (·.cell)=M.map (·.cell)/\t'.nx=t.nx/\∀k,k≠p->k≠nb->k∉M.map (·.cell)->t'.get k=t.get k:=by
 have hml:M.length=L.length:=by have:=congrArg b7 W.pr.names;simpa using this.symm
 obtain⟨x0,y0,et⟩:=uq W.pu;have s1:me [.ref nd] t=.ok (.lst ((srt (M.map (·.nm))).map .str)) t:=vo W.md (F5 M) (by rw[ac];lia);obtain⟨h,xa,ya,hh,eh⟩:=O9 a W x0 y0 (ws:=srt (M.map (·.nm))) (JH (by simpa using hM)) (by rw[(lQ _).length_eq,ac];lia) (i:=4) (Z:=(sE p nd N nb [Za (.lst ((srt (M.map (·.nm))).map .str)),Zb,Zb,Zb,Zb,Zb,Zb,Zb,Zb,Zb])) rfl rfl;rw[<-et] at eh;have hh:=(lQ _).mem_iff.mp hh;obtain⟨A,e,B,A',m,B',k1,kk,k3,rfl,rfl,rfl,hA,c1,c2,c3,ck⟩:=W.pr.cut hh;have hck:kk<=40:=by lia
 have U8:m∈A'++m::B':=aG _ ag;obtain⟨i4a,i4b,i4c⟩:=W.i4 m U8;have g0:∀x y,(pst t p x y).get m.cell=Za (.dct (hP m.hl)):=λx y=>(W.pst x y).sh m U8;have gd:∀x y,(pst t p x y).get nd=Za (.dct ((A'++m::B').map mdP)):=λx y=>(W.pst x y).md;have gb:∀x y,(pst t p x y).get nb=Za (.book pp (A++e::B)):=λx y=>(W.pst x y).bk;obtain⟨hz,R⟩:=c2.hm.r;have Pk:m.hl.length<=45:=by rw[c2.hm.len];exact aH R.l1 (by lia)
 have PL:m.hl.map (·.1)≠[]:=by obtain⟨n,hn⟩:=R.ex;exact ly ((c2.hm.mem n).mpr ((R.nm n).mpr hn))
 have s2:∀x y,me [.ref m.cell] (pst t p x y)=.ok (.lst ((srt (m.hl.map (·.1))).map .str)) (pst t p x y):=λx y=>vo (g0 x y) (LU m.hl) (by rw[ac];lia);obtain⟨o1,xb,yb,ho,eo⟩:=O9 a W xa ya (ws:=srt (m.hl.map (·.1))) (JH PL) (by rw[(lQ _).length_eq,ac];lia) (i:=7) (Z:=(sE p nd N nb [Za (.lst ((srt ((A'++m::B').map (·.nm))).map .str)),Za (.str m.nm),Za (.ref m.cell),Za (.lst ((srt (m.hl.map (·.1))).map .str)),Zb,Zb,Zb,Zb,Zb,Zb])) rfl rfl;have ho:=(lQ _).mem_iff.mp ho;obtain⟨o2,xc,yc,Rs,eo2⟩:=O9 a W xb yb (ws:=N) (fS.mpr hN0) (by lia) (i:=2) (Z:=(sE p nd N nb [Za (.lst ((srt ((A'++m::B').map (·.nm))).map .str)),Za (.str m.nm),Za (.ref m.cell),Za (.lst ((srt (m.hl.map (·.1))).map .str)),Za (.str o1),Zb,Zb,Zb,Zb,Zb])) rfl rfl;have F1:=c2.hm.fr o1;have p0:=c2.hm.pos ho;obtain⟨q,xd,yd,hq,ep⟩:=Lo a (pst t p xc yc) p (W.pst xc yc).pu (lT m.hl o1) F1.low p0 (F1.bb.mono (by lia));rw[wx] at ep;have v1:∀x y,fIx (.ref m.cell) (.str o1) (pst t p x y)=.ok (frP (lT m.hl o1)) (pst t p x y):=λx y=>Fq (g0 x y) (Fv m.hl o1 ho);have v0:∀x y,fIx (.ref nd) (.str m.nm) (pst t p x y)=.ok (.lst [.ref m.cell,.tup [.int m.th,.int m.mr,.int m.ls]]) (pst t p x y):=λx y=>Fq (gd x y) (J0 hA);have head:∀(o:SO),xSeq (xIf (xTr (x2 (x2 (xVar 10) (xC (.int 1)) fIx) (x2 (xC (.int 10)) (xC (.int 29)) fPow) fGe)) xRetN xEnd) (xSeq (xDo (xBM 5 (vU a) (xVar 3) (xCons (xVar 5) (xCons (xVar 8) (xCons (xVar 9) (xCons (xVar 10) xNil)))))) (xSeq (xAsg (Et (xVar 6) (xVar 8)) (yTup 2 (yCons (yName 11) (yCons (yName 12) yNil)))) (xSeq (xSet 13 (xCall 2 (mT a) (xCons (x2 (x2 (xVar 11) (x2 (xVar 10) (xC (.int 1)) fIx) fMul) (x2 (x2 (xVar 10) (xC (.int 0)) fIx) (xVar 12) fMul) fSub) (xCons (x2 (xVar 12) (x2 (xVar 10) (xC (.int 1)) fIx) fMul) xNil)))) (xSeq (xIf (xTr (x2 (x2 (xVar 13) (xC (.int 0)) fIx) (xC (.int 0)) fGt)) (xPut (xVar 6) (xVar 8) (xVar 13)) xEnd) (xSeq (xAsg (xGet (xVar 6) (xVar 9) (xTup (xCons (xC (.int 0)) (xCons (xC (.int 1)) xNil)))) (yTup 2 (yCons (yName 11) (yCons (yName 12) yNil)))) (xPut (xVar 6) (xVar 9) (xCall 2 (mT a) (xCons (x2 (x2 (xVar 11) (x2 (xVar 10) (xC (.int 1)) fIx) fMul) (x2 (x2 (xVar 10) (xC (.int 0)) fIx) (xVar 12) fMul) fAdd) (xCons (x2 (xVar 12) (x2 (xVar 10) (xC (.int 1)) fIx) fMul) xNil)))))))))
   (sE p nd N nb [Za (.lst ((srt ((A'++m::B').map (·.nm))).map .str)),Za (.str m.nm),Za (.ref m.cell),Za (.lst ((srt (m.hl.map (·.1))).map .str)),Za (.str o1),Za (.str o2),Za (frP q),Zb,Zb,Zb]) (pst t p xd yd)=o ->
   tZ a (sE p nd N nb [Zb,Zb,Zb,Zb,Zb,Zb,Zb,Zb,Zb,Zb]) t=o:=λo ho=>by
  unfold tZ;refine lP (l9 ((wH (lE (lC rfl) rfl)).trans s1)) ?_;refine lP (l9 eh) ?_;refine lP (l9 (v:=.ref m.cell) (s':=pst t p xa ya) ((lZ ((lZ (lC rfl) (lC rfl)).trans (v0 xa ya)) rfl).trans rfl)) ?_;refine lP (l9 ((wH (lE (lC rfl) rfl)).trans (s2 xa ya))) ?_;refine lP (l9 eo) ?_;refine lP (l9 eo2) ?_;refine lP (l9 (lU (lE (lC rfl) (lE ((lZ (lC rfl) (lC rfl)).trans (v1 xc yc)) rfl)) rfl ep)) ?_;exact ho
 have pw:∀(Z:En)(s:Sto),x2 (xC (.int 10)) (xC (.int 29)) fPow Z s=.ok (.int (10^29)) s:=λZ s=>by simp[x2,xC,fPow,Out.bind]
 generalize hρ:(sE p nd N nb [Za (.lst ((srt ((A'++m::B').map (·.nm))).map .str)),Za (.str m.nm),Za (.ref m.cell),Za (.lst ((srt (m.hl.map (·.1))).map .str)),Za (.str o1),Za (.str o2),Za (frP q)])=ρ1 at *;have RC:∀u v w,(sE p nd N nb [Za (.lst ((srt ((A'++m::B').map (·.nm))).map .str)),Za (.str m.nm),Za (.ref m.cell),Za (.lst ((srt (m.hl.map (·.1))).map .str)),Za (.str o1),Za (.str o2),Za (frP q),u,v,w])=ρ1++[u,v,w]:=λu v w=>by rw[<-hρ];rfl
 rw[RC] at head;have r3:∀u v w,(ρ1++[u,v,w])[3]?=Za (Za (.ref nb)):=λu v w=>by rw[<-hρ];rfl
 have r5:∀u v w,(ρ1++[u,v,w])[5]?=Za (Za (.str m.nm)):=λu v w=>by rw[<-hρ];rfl
 have r6:∀u v w,(ρ1++[u,v,w])[6]?=Za (Za (.ref m.cell)):=λu v w=>by rw[<-hρ];rfl
 have r8:∀u v w,(ρ1++[u,v,w])[8]?=Za (Za (.str o1)):=λu v w=>by rw[<-hρ];rfl
 have r9:∀u v w,(ρ1++[u,v,w])[9]?=Za (Za (.str o2)):=λu v w=>by rw[<-hρ];rfl
 have RS:∀u v w,(ρ1++[u,v,w])[10]?=Za (Za (frP q)):=λu v w=>by rw[<-hρ];rfl
 have SN:∀u v w,(ρ1++[u,v,w])[11]?=Za u:=λu v w=>by rw[<-hρ];rfl
 have So:∀u v w,(ρ1++[u,v,w])[12]?=Za v:=λu v w=>by rw[<-hρ];rfl
 have TY:∀u v w,(ρ1++[u,v,w])[13]?=Za w:=λu v w=>by rw[<-hρ];rfl
 have st:∀u v w u' v',((ρ1++[u,v,w]).set 11 u').set 12 v'=ρ1++[u',v',w]:=λu v w u' v'=>by rw[<-hρ];rfl
 have UC:∀u v w w',(ρ1++[u,v,w]).set 13 w'=ρ1++[u,v,w']:=λu v w w'=>by rw[<-hρ];rfl
 clear RC;have cond:∀s,x2 (x2 (xVar 10) (xC (.int 1)) fIx) (x2 (xC (.int 10)) (xC (.int 29)) fPow) fGe (ρ1++[Zb,Zb,Zb]) s=.ok (.bl (decide ((10:Int)^29<=q.2))) s:=λs=>(lZ ((lZ (lC (RS _ _ _)) rfl).trans ix1) (pw _ _)).trans rfl;by_cases hb:(10:Int)^29<=q.2
 ·refine⟨pst t p xd yd,_,_,mE (head _ (CP ((xU (s1:=pst t p xd yd) (by unfold xTr;rw[cond,Zg hb];rfl)).trans rfl))),(W.pst xd yd).mono (fL _),rfl,rfl,rfl,λk k1 _ _=>lN _ _ k1⟩
 have Qq:ShOk q:=Ln hck F1 hq (by lia);have nt:¬oO e.held o1 q:=λz=>by
  unfold oO at z;rw[<-c2.hm.q] at z;rcases z with z|z
  ·exact z hq.pos
  ·have:=hq.le;lia
 have oN1:=c2.ow o1 ho;have hnm:m.nm∈N:=hLN _ (by rw[<-c2.nm];exact aj.mpr ⟨e,aG _ ag,rfl⟩);have sl:=K4 a (gb xd yd) hnd ⟨by rw[c2.nm];exact(Uj _ hnm).nm,(Uj _ oN1).nm,(Uj _ Rs).nm⟩ Qq.sz (R.saleOk (by lia) Qq) (hN1 _ oN1) (hN1 _ Rs) nt;have sl:vU a [.ref nb,.str m.nm,.str o1,.str o2,frP q] (pst t p xd yd)=.ok .non ((pst t p xd yd).set nb (.book pp (A++{ e with held:=sold e.held o1 o2 q }::B))):=by have h:=sl;rw[show PV.str m.nm=PV.str e.nm by rw[c2.nm]];exact h
 have B1:=yC (R.fr o1) Qq.low hq.pos (by rw[<-c2.hm.q];exact hq.le) Qq.bb;rw[<-c2.hm.q] at B1;generalize hr:nz (lT m.hl o1) (-q.1,q.2)=r at B1;have Fr:FrC (kk+1) r:=⟨B1.low,B1.nn,gX B1.le (aX (gW.mpr (b8 (by decide) (by lia))) (bF B1.low.1)),B1.bb.mono (by lia)⟩;have T:∀{d:Nat}{g:Int×Int},d<=41->FrC d g->Bt 9000 g.1/\Bt 8800 g.2/\Low g:=λhd h=>⟨h.top.mono (by lia),h.bb.mono (by lia),h.low⟩;obtain⟨g1,g2,g3⟩:=T (by lia) F1;have qa:Bt 9000 q.1:=Qq.bt.mono (by decide);have qb:Bt 9000 q.2:=Qq.bb.mono (by decide);have qc:Bt 100 q.2:=Qq.bb.mono (by decide);have b9:∀{x:Int},Bt 8800 x->Bt 9000 x:=λh=>h.mono (by decide);generalize hT:(pst t p xd yd).set nb (.book pp (A++{ e with held:=sold e.held o1 o2 q }::B))=T6 at sl;have g6:T6.get m.cell=Za (.dct (hP m.hl)):=by rw[<-hT,lN _ _ i4b];exact g0 xd yd
 have c6:∀l l',(T6.set m.cell (.dct (hP l))).set m.cell (.dct (hP l'))=T6.set m.cell (.dct (hP l')):=λl l'=>rm _ _ _ _;have gl:∀l,(T6.set m.cell (.dct (hP l))).get m.cell=Za (.dct (hP l)):=λl=>nZ g6;have RB:∀l:Hl,l.length<=46->(hP l).length<100000:=λl h=>by rw[OD];lia
 have VD:(mW m.hl o1).length<=45:=aH (fB _ _) Pk;have UK:∀(l:Hl) o q,l.length<=45->(nu l o q).length<=46:=λl o q h=>by
  have:=congrArg b7 (mZ l o q);rw[ac] at this;rw[this];split
  ·rw[ac];lia
  ·rw[aJ,ac];simp;lia
 generalize RE:(if 0<r.1 then nu (mW m.hl o1) o1 r else mW m.hl o1)=l1;have em:xR m.hl o1 o2 q=nu l1 o2 (nz (lT l1 o2) q):=by unfold xR;simp only[hr,RE]
 have F2:FrC (kk+1) (lT l1 o2):=by
  rw[<-RE];split
  ·rw[mQ,pN];split
   ·exact Fr
   ·exact(c2.hm.fr o2).mono (by lia)
  ·rw[pN];split
   ·exact frc0 _
   ·exact(c2.hm.fr o2).mono (by lia)
 obtain⟨k1,k2,k3⟩:=T (by lia) F2;have l1l:l1.length<=46:=by
  rw[<-RE];split
  ·exact UK _ _ _ VD
  ·lia
 refine⟨T6.set m.cell (.dct (hP (xR m.hl o1 o2 q))),A++{ e with held:=sold e.held o1 o2 q }::B,A'++{ m with hl:=xR m.hl o1 o2 q }::B',zR (Z:=ρ1++[Za (.int (lT l1 o2).1),Za (.int (lT l1 o2).2),Za (frP r)]) (head _ ?_),?_,?_,?_,?_,λk h1 h2 h3=>?_⟩
 ·refine lP ((vx (s1:=pst t p xd yd) (by unfold xTr;rw[cond,Zh hb];rfl)).trans rfl) ?_;refine lP (uI ((pE (lC (r3 _ _ _)) (gb xd yd) (lE (lC (r5 _ _ _)) (lE (lC (r8 _ _ _)) (lE (lC (r9 _ _ _)) (lE (lC (RS _ _ _)) rfl)))) rfl).trans sl)) ?_;refine lP (asg2 (v:=.int (lT m.hl o1).1) (w:=.int (lT m.hl o1).2) (s':=T6.set m.cell (.dct (hP (mW m.hl o1)))) ((Mn (lC (r6 _ _ _)) g6 (lC (r8 _ _ _)) (Fv m.hl o1 ho)).trans (by rw[L5];exact rfl))) ?_;rw[st];have Qe:∀u v w s,x2 (xVar 10) (xC (.int 1)) fIx (ρ1++[u,v,w]) s=.ok (.int q.2) s:=λu v w s=>(lZ (lC (RS _ _ _)) rfl).trans ix1;have x0':∀u v w s,x2 (xVar 10) (xC (.int 0)) fIx (ρ1++[u,v,w]) s=.ok (.int q.1) s:=λu v w s=>(lZ (lC (RS _ _ _)) rfl).trans ix0;refine lP (l9 (lU (lE (NH (rb (lC (SN _ _ _)) (Qe _ _ _ _) (rC g1 qb)) (rb (x0' _ _ _ _) (lC (So _ _ _)) (rC qa (b9 g2)))) (lE (rb (lC (So _ _ _)) (Qe _ _ _ _) (rC (b9 g2) qb)) rfl)) rfl (IW a _ g3 Qq.low g2 qc))) ?_;rw[UC,hr];have cr:∀u v s,x2 (x2 (xVar 13) (xC (.int 0)) fIx) (xC (.int 0)) fGt (ρ1++[u,v,Za (frP r)]) s=.ok (.bl (decide (0<r.1))) s:=λu v s=>(lZ ((lZ (lC (TY _ _ _)) rfl).trans ix0) rfl).trans rfl;refine lP (ρ':=ρ1++[Za (.int (lT m.hl o1).1),Za (.int (lT m.hl o1).2),Za (frP r)]) (s':=T6.set m.cell (.dct (hP l1))) ?_ ?_
  ·rw[<-RE];by_cases z:0<r.1
   ·rw[Zc z];refine(xU (s1:=T6.set m.cell (.dct (hP (mW m.hl o1)))) (by unfold xTr;rw[cr,Zg z];rfl)).trans ?_;refine(yM (lC (TY _ _ _)) (lC (r6 _ _ _)) (lC (r8 _ _ _)) (gl _) (RB _ (by lia))).trans ?_;rw[J3,c6]
   ·rw[Zd z];exact(vx (s1:=T6.set m.cell (.dct (hP (mW m.hl o1)))) (by unfold xTr;rw[cr,Zh z];rfl)).trans rfl
  refine lP (asg2 (v:=.int (lT l1 o2).1) (w:=.int (lT l1 o2).2) (s':=T6.set m.cell (.dct (hP l1))) ((OF (lC (r6 _ _ _)) (gl l1) (lC (r9 _ _ _)) (sY (lE rfl (lE rfl rfl)))).trans (by rw[OE];rfl))) ?_;rw[st];refine(yM (lU (lE (vh (rb (lC (SN _ _ _)) (Qe _ _ _ _) (rC k1 qb)) (rb (x0' _ _ _ _) (lC (So _ _ _)) (rC qa (b9 k2)))) (lE (rb (lC (So _ _ _)) (Qe _ _ _ _) (rC (b9 k2) qb)) rfl)) rfl (IX a _ k3 Qq.low k2 qc)) (lC (r6 _ _ _)) (lC (r9 _ _ _)) (gl l1) (RB _ l1l)).trans ?_;rw[J3,c6,em]
 ·rw[<-hT];exact(W.pst xd yd).sale c1 c2 c3 ck (c2.hm.sale Qq (Uj _ Rs) nt) λn hn=>(Hh ho hn).elim (c2.ow n) λz=>z▸Rs
 ·rw[aw,aw];rfl
 ·rw[aw,aw];rfl
 ·rw[<-hT];rfl
 ·have hk:k≠m.cell:=λz=>h3 (z▸aj.mpr ⟨m,U8,rfl⟩);rw[lN _ _ hk,<-hT,lN _ _ h2];exact lN _ _ h1
def GV(a)(hb:t.get nb=Za (.book pp L))(h1:vI w=true)(hs:Sm w)(h2:w∉pp)(h3:w∉L.map (·.nm))(h6:pp.length<6):uC a [.ref nb,.str w] t=.ok .non (t.set nb (.book (pp++[w]) L)):=by
 have e:wy a pp L w=none:=by unfold wy;rw[Bk a h1 h2 h3];exact Zd (by lia)
 simp[uC,mH,hb,hs.nm,e]
def Jc(a)(hb:t.get nb=Za (.book pp L))(h1:vI w=true)(hs:Sm w)(so:Sm o)(h2:w∉pp)(h3:w∉L.map (·.nm))(ho:(oQ pp o||l7 L o)=true)(hl:0<=ls)(h8:L.length<8):wJ a [.ref nb,.str w,.str o,.int th,.int mr,.int ls] t=.ok .non (t.set nb (.book pp (L++[⟨w,th,mr,ls,[(o,1,1)]⟩]))):=by
 have e:wF a pp L w o ls=none:=by unfold wF;rw[Bk a h1 h2 h3];show(if(oQ pp o||l7 L o)=false then _ else _)=_;rw[ho,Zd (by decide),Zd (by lia),Zd (by lia)]
 simp[wJ,mH,hb,hs.nm,so.nm,e]
structure Bst(s t:Sto)(p nb nd:Nat)(N:List Str)(c:Nat)(pp:List Str)(L:List Ent)(M:List Md):Prop where
 w:Wst t p nb nd N c pp L M
 nx:s.nx<=t.nx
 fr:∀j,j<s.nx->j≠p->t.get j=s.get j
 lo:s.nx<=nb/\s.nx<=nd/\∀m∈M,s.nx<=m.cell
section
variable{s t:Sto}{p nb nd:Nat}{N:List Str}{c:Nat}{pp:List Str}{L:List Ent}{M:List Md}
theorem Bst.pst(B:Bst s t p nb nd N c pp L M)(x y):Bst s (My.pst t p x y) p nb nd N c pp L M:=⟨B.w.pst x y,B.nx,λj h1 h2=>(lN _ _ h2).trans (B.fr j h1 h2),B.lo⟩
def Bst.person(B:Bst s t p nb nd N c pp L M)(w):Bst s (t.set nb (.book (pp++[w]) L)) p nb nd N c (pp++[w]) L M:=by have W:=B.w;refine⟨⟨?_,nZ W.bk,by rw[lN _ _ (bY W.i3)];exact W.md,λm hm=>by rw[lN _ _ (W.i4 m hm).2.1];exact W.sh m hm,W.i1,W.i2,W.i3,W.i4,W.i5,W.lt,W.pr⟩,B.nx,λj h1 h2=>(lN _ _ (by have:=B.lo.1;lia)).trans (B.fr j h1 h2),B.lo⟩;obtain⟨x,y,e⟩:=W.pu;exact⟨x,y,by rw[lN _ _ W.i1];exact e⟩
def Os(h:x∉M.map (·.nm)):xw (M.map mdP) (af x) v=M.map mdP++[(af x,v)]:=by unfold xw;rw[Zd];intro z;obtain⟨kv,h1,h2⟩:=cL.mp z;obtain⟨m,hm,rfl⟩:=aj.mp h1;have:(af m.nm:Key)=af x:=Zf h2;exact h (cM this▸aj.mpr ⟨m,hm,rfl⟩)
def Bst.house(B:Bst s t p nb nd N c pp L M){w o:Str}{th mr ls:Int}(hw:w∉M.map (·.nm))(so:Sm o)(oN:o∈N)(tb:Bt 100 th/\Bt 100 mr/\Bt 100 ls) :
  Bst s (((t.set nb (.book pp (L++[⟨w,th,mr,ls,[(o,1,1)]⟩]))).add (.dct [(af o,frP (1,1))])).set nd (.dct (xw (M.map mdP) (af w) (.lst [.ref t.nx,.tup [.int th,.int mr,.int ls]])))) p nb nd N c pp (L++[⟨w,th,mr,ls,[(o,1,1)]⟩]) (M++[⟨w,t.nx,[(o,1,1)],th,mr,ls⟩]):=by
 have W:=B.w;obtain⟨l1,l2,l3,l4⟩:=W.lt;have g:∀k,k≠nd->k≠nb->k≠t.nx->(((t.set nb (.book pp (L++[⟨w,th,mr,ls,[(o,1,1)]⟩]))).add (.dct [(af o,frP (1,1))])).set nd (.dct (xw (M.map mdP) (af w) (.lst [.ref t.nx,.tup [.int th,.int mr,.int ls]])))).get k=t.get k:=λk h1 h2 h3=>by rw[lN _ _ h1,ms,Zd (show(t.set nb _).nx≠k from λz=>h3 z.symm),lN _ _ h2]
 have onl:∀n∈[(o,(1:Int),(1:Int))].map (·.1),n∈N:=λn hn=>by
  have:n=o:=by simpa using hn
  rw[this];exact oN
 have gnd:((t.set nb (.book pp (L++[⟨w,th,mr,ls,[(o,1,1)]⟩]))).add (.dct [(af o,frP (1,1))])).get nd=Za (.dct (M.map mdP)):=by rw[ms,Zd (show(t.set nb _).nx≠nd from λz=>by have:t.nx=nd:=z;lia),lN _ _ (bY W.i3)];exact W.md
 refine⟨⟨?_,?_,?_,λm hm=>?_,W.i1,W.i2,W.i3,λm hm=>?_,?_,⟨cj l1,cj l2,cj l3,λm hm=>?_⟩,W.pr.app (d:=0) (.cons (c1:=0) (c2:=0) ⟨rfl,rfl,rfl,rfl,OC 0 so,onl,tb⟩ .nil (ap _))⟩,Nat.le_succ_of_le B.nx,λj h1 h2=>?_,B.lo.1,B.lo.2.1,λm hm=>?_⟩
 ·obtain⟨x,y,e⟩:=W.pu;exact⟨x,y,by rw[g p W.i2 W.i1 (by lia)];exact e⟩
 ·rw[lN _ _ W.i3,ms,Zd (show(t.set nb _).nx≠nb from λz=>by have:t.nx=nb:=z;lia)];exact nZ W.bk
 ·rw[nZ gnd,Os hw,aw];rfl
 ·rcases aL.mp hm with z|z
  ·obtain⟨a1,a2,a3⟩:=W.i4 m z;rw[g _ a3 a2 (by have:=l4 m z;lia)];exact W.sh m z
  ·rw[ao.mp z];show((_:Sto).set nd _).get t.nx=_;rw[lN _ _ (by lia),ms,Zc (show(t.set nb _).nx=t.nx from rfl)];rfl
 ·rcases aL.mp hm with z|z
  ·exact W.i4 m z
  ·rw[ao.mp z];exact⟨by show t.nx≠p;lia,by show t.nx≠nb;lia,by show t.nx≠nd;lia⟩
 ·rw[aw,bK];refine⟨W.i5,by simp,λx hx y hy z=>?_⟩;obtain⟨m,hm,rfl⟩:=aj.mp hx;have:y=t.nx:=by simpa using hy
  have:=l4 m hm;lia
 ·rcases aL.mp hm with z|z
  ·exact cj (l4 m z)
  ·rw[ao.mp z];exact cC _
 ·have:=B.lo;rw[g j (by lia) (by lia) (by have:=B.nx;lia)];exact B.fr j h1 h2
 ·rcases aL.mp hm with z|z
  ·exact B.lo.2.2 m z
  ·rw[ao.mp z];exact B.nx
end
structure Wds(N:List Str):Prop where
 nd:N.Nodup
 sm:∀n∈N,Sm n
 nm:∀n∈N,vI n=true
def Ia(h0:0<vs.length)(h7:vs.length<=7)(hd:d<vs.length)(hm:m<=10):Wds ((bA m).map (wrd vs d fl)):=by
 refine⟨?_,λn hn=>?_,λn hn=>?_⟩
 ·show List.Pairwise _ _;rw[List.pairwise_map];exact List.Pairwise.imp_of_mem (λ{i j} hi hj Tq e=>Tq (KI hd (by have:=cF.mp hi;lia) (by have:=cF.mp hj;lia) e)) List.nodup_range
 ·obtain⟨k,_,rfl⟩:=aj.mp hn;exact(Jz h0 h7 d fl k).1
 ·obtain⟨k,_,rfl⟩:=aj.mp hn;exact(Jz h0 h7 d fl k).2
def Hj(h:body q Z s=.nx ρ' s'):nM body (q::l) Z s=nM body l ρ' s':=by
 conv=>lhs;unfold nM
 rw[h]
def bE(p nb nd:Nat)(mo my cn:PV)(N:List Str)(u7 u8 u9 Pu:Option PV):En:=[Za (.ref p),Za mo,Za my,Za cn,Za (.lst (N.map .str)),Za (.ref nb),Za (.ref nd),u7,u8,u9,Pu]
theorem vF(a)(WN:Wds N)(mo my cn)(u8 u9 Pu):∀(r done:List Str)(u:Option PV)(t:Sto),Bst s t p nb nd N 0 done [] []->(∀n∈done++r,n∈N)->(done++r).Nodup->(done++r).length<=6->∃u' t',nM (mK (yName 7) (qm a)) (r.map .str) (bE p nb nd mo my cn N u u8 u9 Pu) t=.nx (bE p nb nd mo my cn N u' u8 u9 Pu) t'/\Bst s t' p nb nd N 0 (done++r) [] []
 |[],done,u,t,B,_,_,_=>⟨u,t,rfl,by rw[cS];exact B⟩
 |w::r,done,u,t,B,hN,nd',hl=>by
  have hw:=hN w (aG _ ag);have n1:w∉done:=λz=>(bK.mp nd').2.2 _ z _ ag rfl;have e1:=GV a B.w.bk (WN.nm w hw) (WN.sm w hw) n1 (by simp) (by rw[aJ,bh] at hl;lia);have e2:done++w::r=done++[w]++r:=by simp
  obtain⟨u',t',h1,h2⟩:=vF a WN mo my cn u8 u9 Pu r (done++[w]) (Za (.str w)) _ (B.person w) (by rw[<-e2];exact hN) (by rw[<-e2];exact nd') (by rw[<-e2];exact hl);refine⟨u',t',?_,by rw[e2];exact h2⟩;rw[<-h1];refine Hj ((qr (i:=7)).trans ?_);unfold qm;exact uI ((pE (lC rfl) B.w.bk (lE (lC rfl) rfl) rfl).trans e1)
def Ig{N:List Str}{k:Nat}{r:Int}(h0:0<=r)(h1:r<(k:Nat))(hk:k<=N.length):∃w∈N.take k,atI (N.map PV.str) r=Za (.str w):=by
 obtain⟨j,rfl⟩:∃j:Nat,r=j:=⟨r.toNat,by lia⟩;have hj:j<N.length:=by lia
 refine⟨N[j],?_,mO (by simp[hj])⟩;rw[bZ];exact⟨j,by rw[List.getElem?_take,Zc (by lia),au hj]⟩
def vt(a)(hP:IsPurse t p)(x y):∃v x' y',mM a [.ref p] (pst t p x y)=.ok (.int v) (pst t p x' y')/\Bt 100 v:=by obtain⟨v,x',y',e,b⟩:=wW a (pst t p x y) p (hP.pst x y);rw[wx] at e;exact⟨v,x',y',e,b⟩
def EY(a:Adr){s t:Sto}{p nb nd:Nat}{pp hs:List Str}(WN:Wds (pp++hs))(hp6:pp.length<=6)(QY:1<=pp.length)(hh:hs.length<=8){L:List Ent}{M:List Md}(mo cn:PV)(u7 u8 u9 Pu:Option PV)(k:Nat)(hk:k<hs.length)(B:Bst s t p nb nd (pp++hs) 0 pp L M)(hL:L.map (·.nm)=hs.take k) :
  ∃Sj u9' Uu t' L' M',mK (yName 8) (oU a) (.int (k:Nat)) (bE p nb nd mo (.int (pp.length:Nat)) cn (pp++hs) u7 u8 u9 Pu) t=.nx (bE p nb nd mo (.int (pp.length:Nat)) cn (pp++hs) u7 Sj u9' Uu) t'/\Bst s t' p nb nd (pp++hs) 0 pp L' M'/\L'.map (·.nm)=hs.take (k+1):=by
 obtain⟨x0,y0,et⟩:=uq B.w.pu;have ek:((pp.length:Int)+(k:Int))=((pp.length+k:Nat):Int):=by lia
 obtain⟨r,xa,ya,r0,r1,e1⟩:=B.w.draw' a x0 y0 (n:=((pp.length+k:Nat):Int)) (by lia) (oj (by lia) (by lia));rw[<-et] at e1;obtain⟨o,ho,QQ⟩:=Ig (N:=pp++hs) r0 r1 (by rw[aJ];lia);obtain⟨v1,xb,yb,f1,b1⟩:=vt a B.w.pu xa ya;obtain⟨v2,xc,yc,f2,b2⟩:=vt a B.w.pu xb yb;obtain⟨v3,xd,yd,f3,b3⟩:=vt a B.w.pu xc yc;have oN:o∈pp++hs:=kM ho;have Rs:(oQ pp o||l7 L o)=true:=by rw[dO,zQ,pM,hL];rw[List.take_length_add_append] at ho;exact aL.mp ho
 obtain⟨w,hw⟩:∃w,hs[k]?=Za w:=⟨hs[k],au hk⟩;have wh:w∈hs:=dw hw;have wN:w∈pp++hs:=aG _ wh;have wpp:w∉pp:=λz=>(bK.mp WN.nd).2.2 _ z _ wh rfl;have tk:hs.take (k+1)=hs.take k++[w]:=by rw[dW,hw];rfl
 have wL:w∉L.map (·.nm):=λz=>by rw[hL] at z;have:=(bK.mp WN.nd).2.1;have h2:(hs.take (k+1)).Nodup:=this.sublist (List.take_sublist _ _);rw[tk] at h2;exact(bK.mp h2).2.2 _ z _ (by simp) rfl
 have wat:atI ((pp++hs).map PV.str) ((pp.length+k:Nat):Int)=Za (.str w):=mO (by rw[aC,cG (by lia),km,hw];rfl);have L8:L.length<8:=by have:=congrArg b7 hL;rw[ac,eB] at this;lia
 have nn:(0:Int)<=if v3<0 then -v3 else v3:=by split<;>lia
 have bz:Bt 100 (if v3<0 then -v3 else v3):=by
  split
  ·exact by unfold Bt at *;lia
  ·exact b3
 generalize hz:(if v3<0 then -v3 else v3)=z at nn bz;have B4:=B.pst xd yd;have eh:=Jc a (th:=v1) (mr:=v2) (ls:=z) B4.w.bk (WN.nm w wN) (WN.sm w wN) (WN.sm o oN) wpp wL Rs nn L8;have B5:=B4.house (w:=w) (o:=o) (th:=v1) (mr:=v2) (ls:=z) (by rw[<-B.w.pr.names];exact wL) (WN.sm o oN) oN ⟨b1,b2,bz⟩;refine⟨Za (.int (k:Nat)),Za (.str o),Za (.tup [.int v1,.int v2,.int z]),_,_,_,?_,B5,by rw[aw,hL,tk];rfl⟩;refine(qr (i:=8)).trans ?_;unfold oU;have ad:∀u9 Pu s,x2 (xVar 2) (xVar 8) fAdd (bE p nb nd mo (.int (pp.length:Nat)) cn (pp++hs) u7 (Za (.int (k:Nat))) u9 Pu) s=.ok (.int ((pp.length+k:Nat):Int)) s:=λu9 Pu s=>(vh (i:=(pp.length:Nat)) (j:=(k:Nat)) (lC rfl) (lC rfl)).trans (by rw[ek]);have nw:∀u9 Pu s,x2 (xVar 4) (x2 (xVar 2) (xVar 8) fAdd) fIx (bE p nb nd mo (.int (pp.length:Nat)) cn (pp++hs) u7 (Za (.int (k:Nat))) u9 Pu) s=.ok (.str w) s:=λu9 Pu s=>(lZ (lC rfl) (ad _ _ _)).trans (yf wat);refine lP (l9 (v:=.str o) (s':=pst t p xa ya) ((lZ (lC rfl) (lU (lE (lC rfl) (lE (ad _ _ _) rfl)) rfl e1)).trans (yf QQ))) ?_;refine lP (l9 (v:=.tup [.int v1,.int v2,.int z]) (s':=pst t p xd yd) (sY (lE (lU (lE (lC rfl) rfl) rfl f1) (lE (lU (lE (lC rfl) rfl) rfl f2) (lE ((wH (lE (lU (lE (lC rfl) rfl) rfl f3) rfl)).trans (show fAbs [.int v3] (pst t p xd yd)=.ok (.int z) (pst t p xd yd) by rw[<-hz];rfl)) rfl))))) ?_;refine lP (uI ((pE (lC rfl) B4.w.bk (lE (nw _ _ _) (lE (lC rfl) (lE ((lZ (lC rfl) rfl).trans rfl) (lE ((lZ (lC rfl) rfl).trans rfl) (lE ((lZ (lC rfl) rfl).trans rfl) rfl))))) rfl).trans eh)) ?_;have l4:=B4.w.lt.2.2.1;refine(yM (CV (lE (v:=.ref t.nx) (s1:=((pst t p xd yd).set nb (.book pp (L++[⟨w,v1,v2,z,[(o,1,1)]⟩]))).add (.dct [(af o,frP (1,1))])) ?_ (lE (lC rfl) rfl))) (lC rfl) (nw _ _ _) (l:=M.map mdP) ?_ ?_).trans rfl
 ·rfl
 ·rw[ms,Zd (show((pst t p xd yd).set nb _).nx≠nd from λq=>by have:t.nx=nd:=q;have:nd<t.nx:=l4;lia),lN _ _ (bY B4.w.i3)];exact B4.w.md
 ·rw[ac];have:=congrArg b7 B.w.pr.names;rw[ac,ac] at this;lia
def Jo(ws:List PV)(k:Nat)(hk:k<=ws.length):CH ws Zb (Za (k:Int))=ws.take k:=by
 unfold CH;have e1:HT.sIx ws.length 0 Zb=0:=rfl;have e2:HT.sIx ws.length ws.length (Za (k:Int))=k:=by
  simp[HT.sIx];split
  ·lia
  ·exact Nat.min_eq_left hk
 rw[e1,e2];simp
def nr(h:f Z s=.ok (.lst l) s1):xIter f Z s=.ok l s1:=by unfold xIter;rw[h];rfl
def Bst.start(hp:p<s.nx)(hP:IsPurse s p)(x y)(N):Bst s (((Sto.bump (My.pst s p x y)).add (.book [] [])).add (.dct [])) p (s.nx+1) (s.nx+2) N 0 [] [] []:=by
 have n1:(Sto.bump (My.pst s p x y)).nx=s.nx+1:=rfl;have n2:((Sto.bump (My.pst s p x y)).add (.book [] [])).nx=s.nx+2:=rfl;have g:∀k,k<s.nx+1->(((Sto.bump (My.pst s p x y)).add (.book [] [])).add (.dct [])).get k=(My.pst s p x y).get k:=λk hk=>by rw[ms,Zd (by lia),ms,Zd (by lia),Jg]
 refine⟨⟨?_,?_,?_,(λm hm=>nomatch hm),by lia,by lia,by lia,(λm hm=>nomatch hm),by simp,⟨?_,?_,?_,(λm hm=>nomatch hm)⟩,.nil⟩,?_,λj h1 h2=>?_,by lia,by lia,(λm hm=>nomatch hm)⟩
 ·obtain⟨u,v,e⟩:=hP.pst x y;exact⟨u,v,by rw[g p (by lia)];exact e⟩
 ·rw[ms,Zd (by lia),ms,Zc n1]
 ·rw[ms,Zc n2];rfl
 ·show p<s.nx+3;lia
 ·show s.nx+1<s.nx+3;lia
 ·show s.nx+2<s.nx+3;lia
 ·show s.nx<=s.nx+3;lia
 ·rw[g j (by lia)];exact lN _ _ h2
def Bst.sold(B:Bst s t p nb nd (pp++hs) c pp L M)(a)(WN:Wds (pp++hs))(hL:L.map (·.nm)=hs)(hh:hs≠[])(h8:hs.length<=8)(hp6:pp.length<=6)(hc:c<=40) :
  ∃t' L' M',qR a [.ref p,.ref nd,.lst ((pp++hs).map .str),.ref nb] t=.ok .non t'/\Bst s t' p nb nd (pp++hs) (c+1) pp L' M'/\L'.map (·.nm)=hs:=by
 have l8:L.length<=8:=by have:=congrArg b7 hL;rw[ac] at this;lia
 have hM:M≠[]:=λz=>by have:=B.w.pr.names;rw[z,hL] at this;exact hh this
 obtain⟨t',L',M',e,W,n1,n2,nx,fr⟩:=KY a B.w hc hM (by rw[hL];exact(bK.mp WN.nd).2.1) WN.sm (λn hn=>aG _ (hL▸hn)) (λn hn=>by rw[dO,zQ,pM,hL];exact aL.mp hn) (λz=>hh (List.append_eq_nil_iff.mp z).2) (by rw[aJ];lia) l8
 refine⟨t',L',M',e,⟨W,by rw[nx];exact B.nx,λj h1 h2=>?_,B.lo.1,B.lo.2.1,λm hm=>?_⟩,n1.trans hL⟩
 ·rw[fr j h2 (by have:=B.lo.1;lia) λz=>?_]
  ·exact B.fr j h1 h2
  ·obtain⟨m,hm,z⟩:=aj.mp z;have:=B.lo.2.2 m hm;lia
 ·have:m.cell∈M.map (·.cell):=n2▸aj.mpr ⟨m,hm,rfl⟩;obtain⟨m',h',z⟩:=aj.mp this;rw[<-z];exact B.lo.2.2 m' h'
def Jv(a:Adr)(s:Sto)(p:Nat)(hp:p<s.nx)(hP:IsPurse s p)(mx:Nat)(hm:mx<=7):∃t nb nd pp hs c L M,qh a [.ref p,.int (mx:Nat)] s=.ok (.tup [.ref nb,.lst ((srt pp).map .str),.ref nd]) t/\Bst s t p nb nd (pp++hs) c pp L M/\L.map (·.nm)=hs/\Wds (pp++hs)/\1<=pp.length/\pp.length<=3/\hs.length<=mx/\c<=28:=by
 obtain⟨x0,y0,et⟩:=uq hP;obtain⟨r,xa,ya,r0,r1,e1⟩:=uy a hP x0 y0 (n:=3) (by decide) (oj (by decide) (by decide));rw[<-et] at e1;obtain⟨my,hmy,rfl⟩:∃my:Nat,1<=my/\r=(my:Int)-1:=⟨r.toNat+1,by lia,by lia⟩;obtain⟨cn',xb,yb,c0,cn1,e2⟩:=uy a hP xa ya (n:=((mx+1:Nat):Int)) (by lia) (oj (by lia) (by lia));obtain⟨cn,rfl⟩:∃cn:Nat,cn'=cn:=⟨cn'.toNat,by lia⟩;obtain⟨xc,yc,vs,d,fl,v0,v7,hd,e3⟩:=IS a (pst s p xb yb) p hp (hP.pst xb yb) (my+cn) (by lia);have WN:=Ia (fl:=fl) (m:=my+cn) v0 v7 hd (by lia);have pq:pst (pst s p xb yb) p xc yc=pst s p xc yc:=wx _ _ _ _ _ _;rw[pq] at e3;generalize hN:(bA (my+cn)).map (wrd vs d fl)=N at *;have hNl:N.length=my+cn:=by rw[<-hN];simp
 obtain⟨pp,hs,rfl,Pi⟩:∃pp hs:List Str,N=pp++hs/\pp.length=my:=⟨N.take my,N.drop my,(kI my N).symm,by rw[eB];lia⟩;have hsl:hs.length=cn:=by rw[aJ] at hNl;lia
 subst Pi;subst hsl;have B0:=Bst.start hp hP xc yc (pp++hs);obtain⟨u7,t1,lp1,B1⟩:=vF a WN (.int (mx:Nat)) (.int (pp.length:Nat)) (.int (hs.length:Nat)) Zb Zb Zb pp [] Zb _ B0 (λn hn=>bj _ hn) ((bK.mp WN.nd).1) (by rw[gU];lia);rw[gU] at B1;obtain⟨ρ2,t2,lp2,u8,u9,Pu,L2,M2,rfl,B2,Vt⟩:=ut (body:=mK (yName 8) (oU a)) hs.length
  (λk Z t=>∃u8 u9 Pu L M,Z=bE p (s.nx+1) (s.nx+2) (.int (mx:Nat)) (.int (pp.length:Nat)) (.int (hs.length:Nat)) (pp++hs) u7 u8 u9 Pu/\Bst s t p (s.nx+1) (s.nx+2) (pp++hs) 0 pp L M/\L.map (·.nm)=hs.take k)
  (λk Z t hk hI=>by obtain⟨u8,u9,Pu,L,M,rfl,B,hL⟩:=hI;obtain⟨a8,a9,a10,t',L',M',q1,q2,q3⟩:=EY a WN (by lia) hmy (by lia) (.int (mx:Nat)) (.int (hs.length:Nat)) u7 u8 u9 Pu k hk B hL;exact⟨_,_,q1,_,_,_,_,_,rfl,q2,q3⟩) (Z:=bE p (s.nx+1) (s.nx+2) (.int (mx:Nat)) (.int (pp.length:Nat)) (.int (hs.length:Nat)) (pp++hs) u7 Zb Zb Zb) (s:=t1) ⟨Zb,Zb,Zb,[],[],rfl,B1,by simp⟩
 rw[gC] at Vt;have sl:∃Sj t3 c L3 M3,xIf (xTr (x2 (xVar 3) (xC (.int 0)) fGt)) (xFor (xRng1 (xCons (xCall 2 (lR a) (xCons (xVar 0) (xCons (x2 (x2 (xC (.int 4)) (xVar 3) fMul) (xC (.int 1)) fAdd) xNil))) xNil)) (yName 8) (oT a)) xEnd (bE p (s.nx+1) (s.nx+2) (.int (mx:Nat)) (.int (pp.length:Nat)) (.int (hs.length:Nat)) (pp++hs) u7 u8 u9 Pu) t2=.nx (bE p (s.nx+1) (s.nx+2) (.int (mx:Nat)) (.int (pp.length:Nat)) (.int (hs.length:Nat)) (pp++hs) u7 Sj u9 Pu) t3/\Bst s t3 p (s.nx+1) (s.nx+2) (pp++hs) c pp L3 M3/\L3.map (·.nm)=hs/\c<=28:=by
  by_cases hc0:hs=[]
  ·refine⟨u8,t2,0,L2,M2,(vx (s1:=t2) ?_).trans rfl,B2,Vt,by lia⟩;unfold xTr;rw[lZ (lC rfl) rfl,hc0];rfl
  ·have RZ:0<hs.length:=fS.mpr hc0;obtain⟨Qd,y2',et2⟩:=uq B2.w.pu;obtain⟨n',xe,ye,n0,n1,e5⟩:=B2.w.draw' a Qd y2' (n:=((4*hs.length+1:Nat):Int)) (by lia) (oj (by lia) (by lia));rw[<-et2] at e5;obtain⟨n,rfl⟩:∃n:Nat,n'=n:=⟨n'.toNat,by lia⟩;obtain⟨ρ3,t3,lp3,Sj,L3,M3,rfl,B3,Vs⟩:=ut (body:=mK (yName 8) (oT a)) n
    (λk Z t=>∃u8 L M,Z=bE p (s.nx+1) (s.nx+2) (.int (mx:Nat)) (.int (pp.length:Nat)) (.int (hs.length:Nat)) (pp++hs) u7 u8 u9 Pu/\Bst s t p (s.nx+1) (s.nx+2) (pp++hs) k pp L M/\L.map (·.nm)=hs)
    (λk Z t hk hI=>by obtain⟨u8,L,M,rfl,B,hL⟩:=hI;obtain⟨t',L',M',q1,q2,q3⟩:=B.sold a WN hL hc0 (by lia) (by lia) (by lia);refine⟨_,t',(qr (i:=8)).trans ?_,Za (.int (k:Nat)),L',M',rfl,q2,q3⟩;unfold oT;exact uI (lU (lE (lC rfl) (lE (lC rfl) (lE (lC rfl) (lE (lC rfl) rfl)))) rfl q1)) (Z:=bE p (s.nx+1) (s.nx+2) (.int (mx:Nat)) (.int (pp.length:Nat)) (.int (hs.length:Nat)) (pp++hs) u7 u8 u9 Pu) (s:=pst t2 p xe ye) ⟨u8,L2,M2,rfl,B2.pst xe ye,Vt⟩
   refine⟨Sj,t3,n,L3,M3,(xU (s1:=t2) ?_).trans (re (uQ (n:=n) (lE (lU (lE (lC rfl) (lE ((vh (rb (i:=4) (j:=(hs.length:Nat)) rfl (lC rfl) (.inr (.inl ⟨by decide,by decide⟩))) rfl).trans ?_) rfl)) rfl e5) rfl) (by lia)) lp3),B3,Vs,by lia⟩
   ·unfold xTr;rw[lZ (lC rfl) rfl];show Out.bind (Out.ok (PV.bl (decide ((0:Int)<(hs.length:Nat)))) _) _=_;rw[Zg (by lia)];rfl
   ·rw[show(4:Int)*(hs.length:Nat)+1=((4*hs.length+1:Nat):Int) by lia]
 obtain⟨Sj,t3,c,L3,M3,e6,B3,Vs,hc⟩:=sl;refine⟨t3,s.nx+1,s.nx+2,pp,hs,c,L3,M3,mE ?_,B3,Vs,WN,hmy,by lia,by lia,hc⟩;have TM:∀u7 u8 u9 Pu nb nd s',xSl (xVar 4) xNoP (xPart (xVar 2)) (bE p nb nd (.int (mx:Nat)) (.int (pp.length:Nat)) (.int (hs.length:Nat)) (pp++hs) u7 u8 u9 Pu) s'=.ok (.lst (pp.map .str)) s':=λu7 u8 u9 Pu nb nd s'=>by
  have:CH ((pp++hs).map PV.str) Zb (Za ((pp.length:Nat):Int))=pp.map PV.str:=by rw[Jo _ _ (by simp),<-List.map_take,List.take_left'];rfl
  simp only[xSl,xVar,bE,gF,eX,Out.bind,xNoP,xPart,fSl,lsOf,this]
 unfold vL;refine lP (l9 (v:=.int (pp.length:Nat)) (s':=pst s p xa ya) ((vh (i:=1) rfl (lU (lE (lC rfl) (lE rfl rfl)) rfl e1)).trans (by rw[show(1:Int)+((pp.length:Int)-1)=(pp.length:Nat) by lia]))) ?_;refine lP (l9 (lU (lE (lC rfl) (lE ((vh (i:=(mx:Nat)) (j:=1) (lC rfl) rfl).trans (by rw[show((mx:Nat):Int)+1=((mx+1:Nat):Int) by lia])) rfl)) rfl e2)) ?_;refine lP (l9 (lU (lE (lC rfl) (lE ((vh (i:=(pp.length:Nat)) (j:=(hs.length:Nat)) (lC rfl) (lC rfl)).trans (by rw[show((pp.length:Nat):Int)+(hs.length:Nat)=((pp.length+hs.length:Nat):Int) by lia])) rfl)) rfl e3)) ?_;refine lP (l9 (v:=.ref (s.nx+1)) (s':=(Sto.bump (pst s p xc yc)).add (.book [] [])) rfl) ?_;refine lP (l9 (v:=.ref (s.nx+2)) (s':=((Sto.bump (pst s p xc yc)).add (.book [] [])).add (.dct [])) rfl) ?_;refine lP (re (l:=pp.map .str) (s1:=((Sto.bump (pst s p xc yc)).add (.book [] [])).add (.dct [])) ?_ lp1) ?_
 ·exact nr (TM Zb Zb Zb Zb (s.nx+1) (s.nx+2) _)
 refine lP (re (uQ (n:=hs.length) (lE (lC rfl) rfl) (by lia)) lp2) ?_;refine lP e6 ?_;refine nI (sY (lE (lC rfl) (lE ((wH (lE (TM _ _ _ _ _ _ _) rfl)).trans ?_) (lE (lC rfl) rfl))));simp[me,lsOf,vm,show pp.length<64 by lia]
def own(L:List Ent)(n:Str):List Str:=match mB L n with
 |some e=>srt (e.held.map (·.1))
 |none=>[]
def Cl(L:List Ent)(h:Str)(S:Str->Prop):Prop:=(∀x∈own L h,S x)/\∀y,S y->∀x∈own L y,S x
structure Rch(L:List Ent)(h:Str)(F:List Str):Prop where
 nd:F.Nodup
 cl:Cl L h (·∈F)
 mn:∀S,Cl L h S->∀x∈F,S x
def Rch.same(f:Rch L h F)(g:Rch L h G):srt F=srt G:=by refine ot ?_ (nY _) (nY _);refine(f7 ((lQ _).nodup_iff.mpr f.nd) ((lQ _).nodup_iff.mpr g.nd)).mpr λn=>?_;rw[(lQ _).mem_iff,(lQ _).mem_iff];exact⟨λz=>f.mn _ g.cl n z,λz=>g.mn _ f.cl n z⟩
def one1(L:List Ent)(q:List Str×List Str)(n:Str):List Str×List Str:=if n∈q.1 then q else(q.1++[n],if l7 L n=true then q.2++[n] else q.2)
def qd(L:List Ent)(F W ns:List Str):List Str×List Str:=ns.foldl (one1 L) (F,W)
def yU(L)(F W)(n)(ns):qd L F W (n::ns)=qd L (one1 L (F,W) n).1 (one1 L (F,W) n).2 ns:=rfl
structure Inv1(L:List Ent)(N:List Str)(h:Str)(F W:List Str):Prop where
 nd:F.Nodup
 sub:∀x∈F,x∈N
 wt:∀x∈W,l7 L x=true
 mn:∀S,Cl L h S->∀x∈F,S x
 wr:∀x∈W,x=h\/x∈F
def Done1(L:List Ent)(h:Str)(F W:List Str):Prop:=∀y,(y=h\/y∈F)->y∈W\/∀x∈own L y,x∈F
def Fo(h:l7 L n=false):own L n=[]:=by
 unfold l7 at h;unfold own;cases c:mB L n with
 |none=>rfl
 |some e=>rw[c] at h;cases h
def II(L)(q)(n):(∀x∈q.1,x∈(one1 L q n).1)/\(∀x∈q.2,x∈(one1 L q n).2)/\n∈(one1 L q n).1:=by
 unfold one1;split
 ·rename_i h;exact⟨λ_ z=>z,λ_ z=>z,h⟩
 ·refine⟨λ_ z=>bj _ z,λ_ z=>?_,by simp⟩;show _∈(if l7 L n=true then q.2++[n] else q.2);split
  ·exact bj _ z
  ·exact z
theorem wY(L):∀(ns F W:List Str),(∀x∈F,x∈(qd L F W ns).1)/\(∀x∈W,x∈(qd L F W ns).2)/\∀x∈ns,x∈(qd L F W ns).1
 |[],F,W=>⟨λ_ z=>z,λ_ z=>z,λ_ z=>nomatch z⟩
 |n::ns,F,W=>by
  rw[yU];obtain⟨a1,a2,a3⟩:=II L (F,W) n;obtain⟨b1,b2,b3⟩:=wY L ns (one1 L (F,W) n).1 (one1 L (F,W) n).2;refine⟨λx z=>b1 x (a1 x z),λx z=>b2 x (a2 x z),λx z=>?_⟩;rcases ah.mp z with z|z
  ·rw[z];exact b1 n a3
  ·exact b3 x z
theorem CU:∀{F N:List Str},F.Nodup->(∀x∈F,x∈N)->F.length<=N.length
 |[],_,_,_=>aZ _
 |x::F,N,h,k=>by have hx:=k x ag;have h:=ay.mp h;have:=CU (N:=N.erase x) h.2 λy z=>(List.mem_erase_of_ne (λe:y=x=>h.1 (e▸z))).mpr (k y (ae _ z));rw[List.length_erase_of_mem hx] at this;have:=List.length_pos_of_mem hx;show F.length+1<=_;lia
theorem uF(hy:∀S,Cl L h S->∀x∈own L y,S x)(ho:∀x∈own L y,x∈N):∀(ns F W:List Str),(∀x∈ns,x∈own L y)->Inv1 L N h F W->Inv1 L N h (qd L F W ns).1 (qd L F W ns).2/\(∀z,z∈(qd L F W ns).1->z∈F\/z∈(qd L F W ns).2\/l7 L z=false)/\2*(N.length-(qd L F W ns).1.length)+(qd L F W ns).2.length<=2*(N.length-F.length)+W.length
 |[],F,W,_,I=>⟨I,λz hz=>.inl hz,ap _⟩
 |n::ns,F,W,Qr,I=>by
  rw[yU];have hn:=Qr n ag;by_cases c:n∈F
  ·have e:one1 L (F,W) n=(F,W):=Zc c;rw[e];exact uF hy ho ns F W (λx z=>Qr x (ae _ z)) I
  ·have e:one1 L (F,W) n=(F++[n],if l7 L n=true then W++[n] else W):=Zd c;rw[e];have I2:Inv1 L N h (F++[n]) (if l7 L n=true then W++[n] else W):=by
    refine⟨?_,λx z=>?_,λx z=>?_,λS hS x z=>?_,λx z=>?_⟩
    ·rw[bK];exact⟨I.nd,by simp,λa ha b hb e=>c (by rw[<-ao.mp hb,<-e];exact ha)⟩
    ·rcases aL.mp z with z|z
     ·exact I.sub x z
     ·rw[ao.mp z];exact ho n hn
    ·split at z
     ·rename_i q;rcases aL.mp z with z|z
      ·exact I.wt x z
      ·rw[ao.mp z];exact q
     ·exact I.wt x z
    ·rcases aL.mp z with z|z
     ·exact I.mn S hS x z
     ·rw[ao.mp z];exact hy S hS n hn
    ·split at z
     ·rcases aL.mp z with z|z
      ·exact(I.wr x z).imp id (bj _)
      ·exact .inr (aG _ z)
     ·exact(I.wr x z).imp id (bj _)
   obtain⟨J,k1,k2⟩:=uF hy ho ns _ _ (λx z=>Qr x (ae _ z)) I2;refine⟨J,λz hz=>?_,aH k2 ?_⟩
   ·rcases k1 z hz with q|q|q
    ·rcases aL.mp q with q|q
     ·exact .inl q
     ·have q:=ao.mp q;subst q;by_cases hh:l7 L z=true
      ·refine .inr (.inl ((wY L ns _ _).2.1 z ?_));show z∈(if l7 L z=true then W++[z] else W);rw[Zc hh];simp
      ·exact .inr (.inr (by simpa using hh))
    ·exact .inr (.inl q)
    ·exact .inr (.inr q)
   ·have hl:(F++[n]).length<=N.length:=by exact CU I2.nd I2.sub
    rw[aJ] at hl ⊢;simp only[dQ] at hl ⊢;split
    ·rw[aJ];simp only[dQ];lia
    ·lia
abbrev LS(U:List Str):PV:=.lst (U.map .str)
def Ib(h:mz c b n Z s=.nx ρ' s'):sX c b Z s=.nx ρ' s':=(wM h (by intro z;cases z)).trans rfl
theorem wX(s)(k):∀(U:List Str),(∀x∈U,bc x=true)->vG (PV.data s (k+1)) (U.map PV.str)=Za (U.map dq)
 |[],_=>rfl
 |x::r,h=>by
  rw[am];unfold vG;rw[wX s k r λy hy=>h y (ae _ hy)];have e:PV.data s (k+1) (.str x)=Za (.str x):=by unfold PV.data;rw[Zc (h x ag)]
  rw[e];rfl
def zn(s)(k)(h:∀x∈U,bc x=true):PV.data s (k+2) (LS U)=Za (.list (U.map dq)):=by unfold PV.data;rw[wX s k U h];rfl
def zV{s:Sto}{n:Nat}(k:Nat){U:List Str}(h:∀x∈U,bc x=true)(hg:s.get n=Za (.lst (U.map .str))):PV.data s (k+2) (.ref n)=Za (.list (U.map dq)):=by unfold PV.data;rw[hg];show(vG (PV.data s (k+1)) (U.map PV.str)).map _=_;rw[wX s k U h];rfl
theorem xH:∀U:List Str,bO (U.map dq) (U.map dq)=true
 |[]=>by simp[bO]
 |x::r=>by rw[am];unfold bO bu;rw[xH r,beq_self_eq_true];rfl
def JY{s:Sto}{n:Nat}{U:List Str}(h:∀x∈U,bc x=true)(hg:s.get n=Za (.lst (U.map .str))):fNe (.ref n) (.lst []) s=.ok (.bl (decide (U≠[]))) s:=by
 have e2:PV.data s 12 (.ref n)=Za (.list (U.map dq)):=zV 10 h hg;have e3:PV.data s 12 (.lst [])=Za (.list []):=rfl;unfold fNe fEqN;rw[e2,e3];simp only[if_true];unfold bu;cases U with
 |nil=>simp[bO]
 |cons x r=>simp[bO]
def CN(h:Sm x):bc x=true:=by unfold bc;rw[<-Array.all_toList,da];intro c hc;exact Zg (gT (h.2 c hc) (by decide))
def o5(h:f Z s=.ok (.bl b) s1):xTr f Z s=.ok b s1:=by unfold xTr;rw[h];rfl
def fdP(F:List Str):List (Key×PV):=F.map λx=>(af x,PV.bl true)
def rst(T:Sto)(F W:List Str):Sto:=(T.add (.dct (fdP F))).add (.lst (W.map .str))
def rE(nb:Nat)(h:Str)(T:Sto)(u4 u5 u6:Option PV):En:=[Za (.ref nb),Za (.str h),Za (.ref T.nx),Za (.ref (T.nx+1)),u4,u5,u6]
def Kr(T)(F W):(rst T F W).get T.nx=Za (.dct (fdP F)):=by unfold rst;rw[ms,Zd (by rw[CS];lia),ms,Zc rfl]
def EG(T)(F W):(rst T F W).get (T.nx+1)=Za (.lst (W.map .str)):=by unfold rst;rw[ms,Zc (CS _ _)]
def Fl(T)(F W)(hk:k<T.nx):(rst T F W).get k=T.get k:=by unfold rst;rw[ms,Zd (by rw[CS];lia),ms,Zd (by lia)]
def Ir(T)(F G W):(rst T F W).set T.nx (.dct (fdP G))=rst T G W:=by unfold rst;rw[yJ _ _ _ (by rw[CS];lia),sL]
def DH(T)(F W V):(rst T F W).set (T.nx+1) (.lst (V.map .str))=rst T F V:=sL _ _ _
def Ma(F)(n):(pP (fdP F) (af n)).isSome=decide (n∈F):=by
 unfold pP;rw[ci,bU,iW,decide_eq_true_iff];constructor
 ·intro⟨kv,h1,h2⟩;obtain⟨m,hm,rfl⟩:=aj.mp h1;have:(af m:Key)=af n:=Zf h2;exact cM this▸hm
 ·exact λz=>⟨_,aj.mpr ⟨n,z,rfl⟩,Zg rfl⟩
def OH(h:n∉F):xw (fdP F) (af n) (.bl true)=fdP (F++[n]):=by
 unfold xw fdP;rw[Zd,aw]
 ·rfl
 intro z;obtain⟨kv,h1,h2⟩:=cL.mp z;obtain⟨m,hm,rfl⟩:=aj.mp h1;have:(af m:Key)=af n:=Zf h2;exact h (cM this▸hm)
def Mb(F):keysOf (fdP F)=Za F:=(yZ _ _ (by unfold fdP;rw[aE];rfl))
def za(l)(n):(mj l n).1=n:=by
 unfold mj;cases e:l.find? λq=>decide (q.1=n) with
 |none=>rfl
 |some q=>have:=eP e;exact Zf this
structure Ho(L:List Ent)(N:List Str):Prop where
 ow:∀n e,mB L n=Za e->e.held.length<64/\∀x∈e.held.map (·.1),x∈N
 sm:∀n∈N,Sm n
 le:N.length<64
 hn:∀n,l7 L n=true->n∈N
def Ho.sub(H:Ho L N)(y):∀x∈own L y,x∈N:=by
 unfold own;cases e:mB L y with
 |none=>exact λ_ z=>nomatch z
 |some e'=>exact λx z=>(H.ow y e' e).2 x ((lQ _).mem_iff.mp z)
section
variable{T:Sto}{nb:Nat}{pp N:List Str}{L:List Ent}{h:Str}
def LY(a)(hb:T.get nb=Za (.book pp L))(Qm:nb<T.nx)(u4 u5 u6)(F W)(q)(hF:F.length<100000)(hW:W.length<100000) :
  mK (yTup 2 (yCons (yName 5) (yCons (yName 6) yNil))) (oK a) (qw q) (rE nb h T u4 u5 u6) (rst T F W)=.nx (rE nb h T u4 (Za (.str q.1)) (Za (frP q.2))) (rst T (one1 L (F,W) q.1).1 (one1 L (F,W) q.1).2):=by
 have e0:mK (yTup 2 (yCons (yName 5) (yCons (yName 6) yNil))) (oK a) (qw q) (rE nb h T u4 u5 u6) (rst T F W)=oK a (rE nb h T u4 (Za (.str q.1)) (Za (frP q.2))) (rst T F W):=rfl;rw[e0];generalize q.1=n;generalize frP q.2=fr;have en:x2 (xVar 5) (xVar 2) Ax (rE nb h T u4 (Za (.str n)) (Za fr)) (rst T F W)=.ok (.bl !decide (n∈F)) (rst T F W):=by
  rw[lZ (lC rfl) (lC rfl)];show qx true _ _ _=_;unfold qx;have:dcOf (rst T F W) (.ref T.nx)=Za (fdP F):=by simp only[dcOf,Kr]
  rw[this];show Out.ok (PV.bl (FF true (pP (fdP F) (af n)).isSome)) _=_;rw[Ma];rfl
 unfold oK one1;by_cases c:n∈F
 ·rw[vx (o5 (en.trans (by rw[Zg c];rfl))),Zc c];rfl
 ·rw[xU (o5 (en.trans (by rw[Zh c];rfl))),Zd c];have p1:=yM (fo:=xVar 2) (fi:=xVar 5) (fv:=xC (.bl true)) (Z:=rE nb h T u4 (Za (.str n)) (Za fr)) (s:=rst T F W) rfl (lC rfl) (lC rfl) (Kr T F W) (by unfold fdP;rw[ac];exact hF);rw[OH c,Ir] at p1;refine lP p1 ?_;have bk:(rst T (F++[n]) W).get nb=Za (.book pp L):=by rw[Fl _ _ _ Qm];exact hb
  have ih:xBM 2 (qF a) (xVar 0) (xCons (xVar 5) xNil) (rE nb h T u4 (Za (.str n)) (Za fr)) (rst T (F++[n]) W)=.ok (.bl (l7 L n)) (rst T (F++[n]) W):=by refine Eq.trans (pE (lC rfl) bk (lE (lC rfl) rfl) rfl) ?_;unfold qF mH;simp only[bk]
  cases hc:l7 L n with
  |false =>
   rw[hc] at ih;rw[vx (o5 ih)];rfl
  |true =>
   rw[hc] at ih;rw[xU (o5 ih)];refine(uI (v:=.non) (s':=rst T (F++[n]) (W++[n])) ?_).trans rfl;unfold xAppend;rw[lC (i:=3) (v:=.ref (T.nx+1)) rfl];simp only[Out.bind,EG];rw[lE (lC (i:=5) (v:=.str n) rfl) (vs:=[]) rfl];simp only[EG];rw[Zc (by rw[ac];exact hW)];rw[<-DH T (F++[n]) W (W++[n]),aw];rfl
theorem F8(a)(H:Ho L N)(hb:T.get nb=Za (.book pp L))(Qm:nb<T.nx)(hy:∀S,Cl L h S->∀x∈own L y,S x)(l)(u4):∀(ns F W:List Str)(u5 u6:Option PV),(∀x∈ns,x∈own L y)->Inv1 L N h F W->2*(N.length-F.length)+W.length<=1000 ->
  ∃v5 v6,nM (mK (yTup 2 (yCons (yName 5) (yCons (yName 6) yNil))) (oK a)) (ns.map λn=>qw (mj l n)) (rE nb h T u4 u5 u6) (rst T F W)=.nx (rE nb h T u4 v5 v6) (rst T (qd L F W ns).1 (qd L F W ns).2)
 |[],F,W,u5,u6,_,_,_=>⟨u5,u6,rfl⟩
 |n::ns,F,W,u5,u6,Qr,I,hm=>by have le:=H.le;have fl:=CU I.nd I.sub;have s1:=LY (h:=h) a hb Qm u4 u5 u6 F W (mj l n) (by lia) (by lia);rw[za] at s1;obtain⟨J,_,m1⟩:=uF hy (H.sub y) [n] F W (λx z=>Qr x (by rw[ao.mp z];exact ag)) I;have e1:qd L F W [n]=one1 L (F,W) n:=rfl;rw[e1] at J m1;obtain⟨v5,v6,k⟩:=F8 a H hb Qm hy l u4 ns _ _ (Za (.str n)) (Za (frP (mj l n).2)) (λx z=>Qr x (ae _ z)) J (by lia);refine⟨v5,v6,?_⟩;rw[am];unfold nM;rw[s1];exact k
def rwalk(a)(H:Ho L N)(hb:T.get nb=Za (.book pp L))(Qm:nb<T.nx):∀(k:Nat)(F W:List Str)(u4 u5 u6:Option PV),Inv1 L N h F W->Done1 L h F W->2*(N.length-F.length)+W.length<=k->k<=1000 ->
  ∃n F' v4 v5 v6,mz (xTr (x2 (xVar 3) (xLst xNil) fNe)) (nW a) n (rE nb h T u4 u5 u6) (rst T F W)=.nx (rE nb h T v4 v5 v6) (rst T F' [])/\Rch L h F'/\∀x∈F',x∈N:=by
 intro k;induction k with
 |zero =>
  intro F W u4 u5 u6 I Dn hk _;have:W=[]:=cB.mp (by lia);subst this;refine⟨1,F,u4,u5,u6,?_,⟨I.nd,⟨λx z=>?_,λy hy x z=>?_⟩,I.mn⟩,I.sub⟩
  ·unfold mz;rw[o5 (b:=false) (s1:=rst T F []) ((lZ (lC rfl) rfl).trans (JY (U:=[]) (λ_ z=>nomatch z) (EG T F [])))];rfl
  ·exact(Dn h (.inl rfl)).elim (λz=>nomatch z) λq=>q x z
  ·exact(Dn y (.inr hy)).elim (λz=>nomatch z) λq=>q x z
 |succ k ih =>
  intro F W u4 u5 u6 I Dn hk k1;have hc:xTr (x2 (xVar 3) (xLst xNil) fNe) (rE nb h T u4 u5 u6) (rst T F W)=.ok (decide (W≠[])) (rst T F W) :=
   o5 ((lZ (lC rfl) rfl).trans (JY (λx z=>CN (H.sm x (H.hn x (I.wt x z)))) (EG T F W)))
  rcases List.eq_nil_or_concat W with rfl|⟨W0,y,rfl⟩
  ·refine⟨1,F,u4,u5,u6,?_,⟨I.nd,⟨λx z=>?_,λy hy x z=>?_⟩,I.mn⟩,I.sub⟩
   ·unfold mz;rw[hc];rfl
   ·exact(Dn h (.inl rfl)).elim (λz=>nomatch z) λq=>q x z
   ·exact(Dn y (.inr hy)).elim (λz=>nomatch z) λq=>q x z
  ·rw[List.concat_eq_append] at *;have yW:y∈W0++[y]:=by simp
   have RV:=I.wr y yW;have hy:∀S,Cl L h S->∀x∈own L y,S x:=λS hS x z=>by
    rcases RV with e|e
    ·rw[e] at z;exact hS.1 x z
    ·exact hS.2 y (I.mn S hS y e) x z
   have sb:∀x∈W0,x∈W0++[y]:=λx z=>bj _ z;have I0:Inv1 L N h F W0:=⟨I.nd,I.sub,λx z=>I.wt x (sb x z),I.mn,λx z=>I.wr x (sb x z)⟩;rw[aJ,dQ] at hk;obtain⟨J,j1,j2⟩:=uF hy (H.sub y) (own L y) F W0 (λ_ z=>z) I0;obtain⟨t1,t2,t3⟩:=wY L (own L y) F W0;obtain⟨e,fe,oe⟩:∃e,mB L y=Za e/\own L y=srt (e.held.map (·.1)):=by have:=I.wt y yW;unfold l7 at this;obtain⟨e,he⟩:=du.mp this;exact⟨e,he,by unfold own;rw[he]⟩
   obtain⟨v5,v6,lp⟩:=F8 a H hb Qm hy e.held (Za (.str y)) (own L y) F W0 u5 u6 (λ_ z=>z) I0 (by lia);obtain⟨n,F',v4',v5',v6',q1,q2⟩:=ih _ _ (Za (.str y)) v5 v6 J (λz hz=>by
    have old:(z=h\/z∈F)->z∈(qd L F W0 (own L y)).2\/∀x∈own L z,x∈(qd L F W0 (own L y)).1:=λhz=>by
     rcases Dn z hz with d|d
     ·rcases aL.mp d with d|d
      ·exact .inl (t2 z d)
      ·rw[ao.mp d];exact .inr t3
     ·exact .inr λx hx=>t1 x (d x hx)
    rcases hz with hz|hz
    ·exact old (.inl hz)
    ·rcases j1 z hz with d|d|d
     ·exact old (.inr d)
     ·exact .inl d
     ·exact .inr (by rw[Fo d];exact λ_ z=>nomatch z)) (by lia) (by lia)
   have bd:nW a (rE nb h T u4 u5 u6) (rst T F (W0++[y]))=.nx (rE nb h T (Za (.str y)) v5 v6) (rst T (qd L F W0 (own L y)).1 (qd L F W0 (own L y)).2):=by
    unfold nW;have pop:HH (xVar 3) (rE nb h T u4 u5 u6) (rst T F (W0++[y]))=.ok (.str y) (rst T F W0):=by unfold HH;rw[lC (i:=3) (v:=.ref (T.nx+1)) rfl];simp only[Out.bind,EG];rw[aw,am,dy,aJ,dQ,Nat.add_sub_cancel,cG (ap _),Nat.sub_self];simp only[eX,List.dropLast_concat];rw[DH]
    refine lP (l9 pop) ?_;have bk:(rst T F W0).get nb=Za (.book pp L):=by rw[Fl _ _ _ Qm];exact hb
    have sh:m9 a [.ref nb,.str y] (rst T F W0)=.ok (pV e.held) (rst T F W0):=by simp only[m9,mH,bk];rw[Zc (H.sm y (H.hn y (I.wt y yW))).nm,fe];exact Zc (H.ow y e fe).1
    refine re (nr (l:=(srt (e.held.map (·.1))).map λn=>qw (mj e.held n)) ((pE (lC rfl) bk (lE (lC rfl) rfl) rfl).trans sh)) ?_;rw[<-oe];exact lp
   refine⟨n+1,F',v4',v5',v6',?_,q2⟩;unfold mz;rw[hc,Zg (by simp)];show(match nW a (rE nb h T u4 u5 u6) (rst T F (W0++[y])) with
    |.nx ρ' s'=>mz (xTr (x2 (xVar 3) (xLst xNil) fNe)) (nW a) n ρ' s'
    |.ct ρ' s'=>mz (xTr (x2 (xVar 3) (xLst xNil) fNe)) (nW a) n ρ' s'
    |.bk ρ' s'=>.nx ρ' s'
    |o=>o)=_
   rw[bd];exact q1
def IR(a)(hb:T.get nb=Za (.book pp L))(hh:l7 L h=true)(hs:Nm h):oX a [.ref nb,.str h] T=.ok .non T:=by simp only[oX,mH,hb];rw[Zc hs,Zc hh]
def yL(a)(H:Ho L N)(hb:T.get nb=Za (.book pp L))(Qm:nb<T.nx)(hh:l7 L h=true):∃F,uM a [.ref nb,.str h] T=.ok (.ref (T.nx+2)) ((rst T F []).add (.lst ((srt F).map .str)))/\Rch L h F/\∀x∈F,x∈N:=by
 have sh:=H.sm h (H.hn h hh);obtain⟨n,F,v4,v5,v6,e,R,fN⟩:=rwalk (h:=h) a H hb Qm (2*N.length+1) [] [h] Zb Zb Zb ⟨.nil,(λ_ z=>nomatch z),(λx z=>by rw[ao.mp z];exact hh),(λ_ _ _ z=>nomatch z),λx z=>.inl (ao.mp z)⟩ (λy hy=>.inl (by rcases hy with e|e;exact ao.mpr e;cases e)) (by simp) (by have:=H.le;lia);refine⟨F,mE ?_,R,fN⟩;unfold Bq;refine lP (uI ((pE (lC rfl) hb (lE (lC rfl) rfl) rfl).trans (IR a hb hh sh.nm))) ?_;refine lP (l9 (v:=.ref T.nx) (s':=T.add (.dct [])) rfl) ?_;refine lP (l9 (v:=.ref (T.nx+1)) (s':=rst T [] [h]) rfl) ?_;refine lP (Ib e) ?_;refine nI ((wH (lE (lC rfl) rfl)).trans ?_);unfold we;have:dcOf (rst T F []) (.ref T.nx)=Za (fdP F):=by simp only[dcOf,Kr]
 simp only[this,Mb];rw[Zc (aQ (CU R.nd fN) H.le)];rfl
end
abbrev LI(l:List Int):PV:=.lst (l.map .int)
theorem BE(g):∀(l k:List Int),(∀x∈l,∀y∈k,e (Za (.int x)::Za (.int y)::cap) s=.ok (.int (g x y)) s)->mC mU e cap (tE (l.map .int) (k.map .int)) s=.ok ((kn g l k).map .int) s
 |[],_,_=>rfl
 |_::_,[],_=>rfl
 |x::l,y::k,h=>by
  have ih:=BE g l k λx' hx y' hy=>h x' (ae _ hx) y' (ae _ hy);have h0:=h x ag y ag;rw[am,am];show mC mU e cap (.tup [.int x,.int y]::tE (l.map .int) (k.map .int)) s=_;unfold mC;show(match mU (Za (.int x)::Za (.int y)::cap) s with
   |.ok true s1=>match e (Za (.int x)::Za (.int y)::cap) s1 with
    |.ok v s2=>match mC mU e cap (tE (l.map .int) (k.map .int)) s2 with
     |.ok vs s3=>Out.ok (v::vs) s3
     |_=>.bad
    |_=>.bad
   |.ok false s1=>mC mU e cap (tE (l.map .int) (k.map .int)) s1
   |_=>.bad)=_
  simp only[mU,h0,ih];rfl
def CW(h:l[i]?=Za x):fIx (LI l) (.int (i:Nat)) t=.ok (.int x) t:=by have:atI (l.map PV.int) (i:Int)=Za (.int x):=mO (by rw[aC,h];rfl);simp[fIx,lsOf,this]
def clr(p r d:Int)(row PM:List Int):List Int:=kn (λx y=>(p*x-r*y)/d) row PM
def Az(h1:f Z s=.ok (.int i) s1)(h2:g Z s1=.ok (.int j) s2)(hd:zi j):x2 f g fDiv Z s=.ok (.int (i/j)) s2:=by rw[lZ h1 h2];exact Zc hd
def JZ(h1:f Z s=.ok (.int i) s1)(h2:g Z s1=.ok (.int j) s2)(hm:p8 i j):x2 f g fMul Z s=.ok (.int (i*j)) s2:=by rw[lZ h1 h2];exact Zc hm
def NG(h1:f Z s=.ok (.int i) s1)(h2:g Z s1=.ok (.int j) s2):x2 f g fSub Z s=.ok (.int (i-j)) s2:=by rw[lZ h1 h2];rfl
def Fc(a)(s)(hl:row.length<=1000)(hb:PM.length<=1000)(hp:PM[t]?=Za p)(hr:row[t]?=Za r)(hd:zi d)(m1:∀x∈row,p8 p x)(m2:∀y∈PM,p8 r y) :
  rR a [LI row,LI PM,.int (t:Nat),.int d] s=.ok (LI (clr p r d row PM)) s:=by
 refine mE ?_;unfold Br;refine nI ?_;have c:=BE (s:=s) (cap:=[Za (.int d),Za (LI PM),Za (.int (t:Nat)),Za (LI row)]) (e:=x2 (x2 (x2 (x2 (xVar 3) (xVar 4) fIx) (xVar 0) fMul) (x2 (x2 (xVar 5) (xVar 4) fIx) (xVar 1) fMul) fSub) (xVar 2) fDiv) (λx y=>(p*x-r*y)/d) row PM λx hx y hy =>
  Az (NG (JZ ((lZ (lC rfl) (lC rfl)).trans (CW hp)) (lC rfl) (m1 x hx)) (JZ ((lZ (lC rfl) (lC rfl)).trans (CW hr)) (lC rfl) (m2 y hy))) (lC rfl) hd
 unfold oI;have z:Em (xCons (xVar 0) (xCons (xVar 1) xNil)) ([LI row,LI PM,PV.int (t:Nat),.int d].map Za++aR (4-4) Zb) s=.ok (tE (row.map .int) (PM.map .int)) s:=by unfold Em;rw[lE (lC (v:=LI row) rfl) (lE (lC (v:=LI PM) rfl) rfl)];rfl
 show((Em (xCons (xVar 0) (xCons (xVar 1) xNil)) ([LI row,LI PM,PV.int (t:Nat),.int d].map Za++aR (4-4) Zb) s).bind _)=_;rw[z];show(if(tE (row.map PV.int) (PM.map PV.int)).length<=100000 then _ else _)=_;rw[Zc (by rw[zD,ac,ac];lia)];show(mC mU _ [Za (.int d),Za (LI PM),Za (.int (t:Nat)),Za (LI row)] (tE (row.map PV.int) (PM.map PV.int)) s).bind _=_;rw[c];rfl
theorem zt(g:Nat->List Int->List Int):∀(M:List (List Int))(k:Nat),(∀i row,M[i]?=Za row->e (Za (.int ((k+i:Nat):Int))::Za (LI row)::cap) s=.ok (LI (g (k+i) row)) s)->mC mU e cap (qM k (M.map LI)) s=.ok ((M.mapIdx λi row=>g (k+i) row).map LI) s
 |[],_,_=>rfl
 |row::M,k,h=>by
  have ih:=zt (e:=e) (cap:=cap) (s:=s) g M (k+1) λi q' hq=>by have:=h (i+1) q' hq;rw[show k+(i+1)=k+1+i by lia] at this;exact this
  have h0:=h 0 row rfl;rw[Nat.add_zero] at h0;show mC mU e cap (.tup [.int (k:Nat),LI row]::qM (k+1) (M.map LI)) s=_;unfold mC;show(match mU (Za (.int (k:Nat))::Za (LI row)::cap) s with
   |.ok true s1=>match e (Za (.int (k:Nat))::Za (LI row)::cap) s1 with
    |.ok v s2=>match mC mU e cap (qM (k+1) (M.map LI)) s2 with
     |.ok vs s3=>Out.ok (v::vs) s3
     |_=>.bad
    |_=>.bad
   |.ok false s1=>mC mU e cap (qM (k+1) (M.map LI)) s1
   |_=>.bad)=_
  simp only[mU,h0,ih];rw[List.mapIdx_cons,am];have e2:(λ(i:Nat)(row:List Int)=>g (k+1+i) row)=λi row=>g (k+(i+1)) row:=by
   funext i row
   rw[show k+1+i=k+(i+1) by lia]
  rw[e2];rfl
abbrev LL(M:List (List Int)):PV:=.lst (M.map LI)
def at2(M:List (List Int))(i j:Nat):Int:=(((M[i]?).getD [])[j]?).getD 0
def nxt(t:Nat)(d:Int)(M:List (List Int)):List (List Int):=M.mapIdx λi row=>if i=t then row else clr (at2 M t t) ((row[t]?).getD 0) d row ((M[t]?).getD [])
def bmL(M:List (List Int)):Nat->Int×List (List Int)
 |0=>(1,M)
 |t+1=>(at2 (bmL M t).2 t t,nxt t (bmL M t).1 (bmL M t).2)
structure Rows(n w:Nat)(q:Int×List (List Int)):Prop where
 n:q.2.length=n
 w:∀row∈q.2,row.length=w
 b:∀row∈q.2,∀x∈row,Bt 20000 x
 d:zi q.1
def KP(a:Adr)(s:Sto)(R:Rows n w q)(hn:n<=1000)(hw:w<=1000)(ht:t<n)(Ub:n<=w)(rows:PV)(u4:Option PV) :
  sS a [Za rows,Za (.int q.1),Za (LL q.2),Za (.int (t:Nat)),u4] s=.nx [Za rows,Za (.int (at2 q.2 t t)),Za (LL (nxt t q.1 q.2)),Za (.int (t:Nat)),Za (LI ((q.2[t]?).getD []))] s:=by
 obtain⟨PM,hM⟩:∃r,q.2[t]?=Za r:=⟨_,au (by rw[R.n];exact ht)⟩;have Vn:PM∈q.2:=bZ.mpr ⟨t,hM⟩;have hbl:=R.w PM Vn;have hp:PM[t]?=Za (at2 q.2 t t):=by unfold at2;rw[hM];show PM[t]?=Za ((PM[t]?).getD 0);rw[au (by lia)];rfl
 unfold sS;refine lP (l9 (v:=LI PM) (s':=s) ((lZ (lC rfl) (lC rfl)).trans ?_)) ?_
 ·have:atI (q.2.map LI) (t:Int)=Za (LI PM):=mO (by rw[aC,hM];rfl);simp[fIx,lsOf,this]
 have lt:∀{row:List Int},row∈q.2->row[t]?=Za ((row[t]?).getD 0):=λ{row} hr=>by have:=R.w row hr;rw[au (by lia)];rfl
 have c:=zt (s:=s) (cap:=[Za (.int (t:Nat)),Za (LI PM),Za (.int q.1)]) (e:=xIfe (xTr (x2 (xVar 0) (xVar 2) fEq)) (xVar 1) (xCall 4 (rR a) (xCons (xVar 1) (xCons (xVar 3) (xCons (xVar 2) (xCons (xVar 4) xNil))))))
  (λi row=>if i=t then row else clr (at2 q.2 t t) ((row[t]?).getD 0) q.1 row PM) q.2 0 λi row U3=>by
   have hm:row∈q.2:=bZ.mpr ⟨i,U3⟩;have eq:xTr (x2 (xVar 0) (xVar 2) fEq) [Za (.int ((0+i:Nat):Int)),Za (LI row),Za (.int (t:Nat)),Za (LI PM),Za (.int q.1)] s=.ok (decide (i=t)) s:=by
    unfold xTr;rw[lZ (lC rfl) (lC rfl),fw];show(fEqN false _ _ _).bind _=_;unfold fEqN;rw[oi,oi];show(Out.ok (PV.bl (bu (.int (i:Int)) (.int (t:Int)))) s).bind _=_;rw[qy];show Out.ok (((i:Int)==(t:Int))) s=_
    congr 1
    rw[bU,beq_iff_eq,decide_eq_true_iff];lia
   unfold xIfe;rw[eq,fw];by_cases z:i=t
   ·rw[Zg z,Zc z];rfl
   ·rw[Zh z,Zd z];have hl:=R.w row hm;show xCall 4 (rR a) (xCons (xVar 1) (xCons (xVar 3) (xCons (xVar 2) (xCons (xVar 4) xNil)))) [Za (.int (i:Int)),Za (LI row),Za (.int (t:Nat)),Za (LI PM),Za (.int q.1)] s=_;exact lU (lE (lC rfl) (lE (lC rfl) (lE (lC rfl) (lE (lC rfl) rfl)))) rfl (Fc a s (by lia) (by lia) hp (lt hm) R.d (λx hx=>.inl ⟨R.b PM Vn _ (bZ.mpr ⟨t,hp⟩),R.b row hm x hx⟩) (λy hy=>.inl ⟨R.b row hm _ (bZ.mpr ⟨t,lt hm⟩),R.b PM Vn y hy⟩))
 have nx:nxt t q.1 q.2=q.2.mapIdx λi row=>if 0+i=t then row else clr (at2 q.2 t t) ((row[t]?).getD 0) q.1 row PM:=by
  unfold nxt;rw[hM]
  congr 1
  funext i row
  rw[fw];rfl
 rw[<-nx] at c;refine lP (l9 (v:=LL (nxt t q.1 q.2)) (s':=s) ?_) ((l9 ((lZ (lC rfl) (lC rfl)).trans (CW hp))).trans (by rw[hM];rfl));unfold oI;have z:vV (xCons (xVar 2) xNil) [Za rows,Za (.int q.1),Za (LL q.2),Za (.int (t:Nat)),Za (LI PM)] s=.ok (qM 0 (q.2.map LI)) s:=by unfold vV;rw[lE (lC (v:=LL q.2) rfl) rfl];rfl
 show((vV (xCons (xVar 2) xNil) [Za rows,Za (.int q.1),Za (LL q.2),Za (.int (t:Nat)),Za (LI PM)] s).bind _)=_;rw[z];show(if(qM 0 (q.2.map LI)).length<=100000 then _ else _)=_;rw[Zc (by rw[rO,ac,R.n];lia)];show(mC mU _ [Za (.int (t:Nat)),Za (LI PM),Za (.int q.1)] (qM 0 (q.2.map LI)) s).bind _=_;rw[c];rfl
def Jp(ws:List PV)(k:Nat)(hk:k<=ws.length):CH ws (Za (k:Int)) Zb=ws.drop k:=by
 unfold CH;have e1:HT.sIx ws.length 0 (Za (k:Int))=k:=by
  simp[HT.sIx];split
  ·omega
  ·exact Nat.min_eq_left hk
 have e2:HT.sIx ws.length ws.length Zb=ws.length:=rfl;rw[e1,e2];exact gM (by rw[gD];omega)
def Hr(h:f Z s=.ok (.lst l) s1):xIter f Z s=.ok l s1:=by unfold xIter;rw[h];rfl
def GK(a:Adr)(s:Sto)(hn:n<=1000)(hw:w<=1000)(Ub:n<=w)(R:∀t,t<=n->Rows n w (bmL rows t)):wj a [LL rows] s=.ok (.tup [LL ((bmL rows n).2.map (·.drop n)),.int (bmL rows n).1]) s:=by
 have len:rows.length=n:=(R 0 (aZ _)).n;obtain⟨ρ',s',lp,u3,u4,rfl,rfl⟩:=ut (body:=mK (yName 3) (sS a)) n
  (λk Z s'=>∃u3 u4,Z=[Za (LL rows),Za (.int (bmL rows k).1),Za (LL (bmL rows k).2),u3,u4]/\s'=s)
  (λk Z s' hk hI=>by obtain⟨u3,u4,rfl,rfl⟩:=hI;exact⟨_,_,(qr (i:=3)).trans (KP a s' (R k (dM hk)) hn hw hk Ub (LL rows) u4),_,_,rfl,rfl⟩) (Z:=[Za (LL rows),Za (.int 1),Za (LL rows),Zb,Zb]) (s:=s) ⟨Zb,Zb,rfl,rfl⟩
 refine mE ?_;unfold D5;have ln:∀(Z:En)(s:Sto)(i:Nat),Z[i]?=Za (Za (LL rows))->xB (xCons (xVar i) xNil) fLen Z s=.ok (.int (n:Nat)) s:=λZ s i h=>by rw[wH (lE (lC h) rfl)];show fLen [.lst (rows.map LI)] s=_;simp[fLen,lsOf,len]
 refine lP (l9 (v:=.int 1) (s':=s') rfl) ?_;refine lP (l9 (v:=LL rows) (s':=s') (lC rfl)) ?_;refine lP (re (uQ (n:=n) (lE (ln _ _ 0 rfl) rfl) (by omega)) lp) ?_;have c:=rQ (s:=s') (cap:=[Za (LL rows)]) (c:=mU) (e:=xSl (xVar 0) (xPart (xB (xCons (xVar 1) xNil) fLen)) xNoP) (λ_=>true) (λp=>match p with|.lst l=>.lst (l.drop n)|p=>p) ((bmL rows n).2.map LI) (λq _=>rfl) (λq hq _=>by obtain⟨row,hr,rfl⟩:=aj.mp hq;have hl:=(R n (ap _)).w row hr;have cd:=Jp (row.map PV.int) n (by rw[ac];omega);have l1:=ln [Za (LI row),Za (LL rows)] s' 1 rfl;simp only[xSl,xVar,eX,Out.bind,xPart,l1,xNoP,fSl,lsOf,cd])
 have e1:((((bmL rows n).2.map LI).filter λ_=>true).map λp=>match p with|.lst l=>PV.lst (l.drop n)|p=>p)=((bmL rows n).2.map (·.drop n)).map LI:=by
  rw[iC.mpr (λ_ _=>rfl),aE,aE];exact aV λrow _=>by show PV.lst ((row.map PV.int).drop n)=PV.lst ((row.drop n).map PV.int);rw[List.map_drop]
 rw[e1] at c;exact nI (sY (lE (pf (l:=(bmL rows n).2.map LI) (s1:=s') (Hr (lC rfl)) (by rw[ac,(R n (ap _)).n];omega) c) (lE (lC rfl) rfl)))
end My
namespace El
def sm(f:Nat->Rat):Nat->Rat
 |0=>0
 |n+1=>sm f n+f n
theorem sm_congr:∀{n:Nat},(∀k,k<n->f k=g k)->sm f n=sm g n
 |0,_=>rfl
 |n+1,h=>by unfold sm;rw[sm_congr λk hk=>h k (by lia),h n (by lia)]
theorem sm_lin(a c)(f g):∀n:Nat,sm (λk=>a*f k+c*g k) n=a*sm f n+c*sm g n
 |0=>by unfold sm;grind
 |n+1=>by unfold sm;rw[sm_lin a c f g n];grind
theorem sm_mul(a)(f):∀n:Nat,sm (λk=>a*f k) n=a*sm f n
 |0=>by unfold sm;grind
 |n+1=>by unfold sm;rw[sm_mul a f n];grind
theorem sm_zero:∀{n:Nat},(∀k,k<n->f k=0)->sm f n=0
 |0,_=>rfl
 |n+1,h=>by unfold sm;rw[sm_zero λk hk=>h k (by lia),h n (by lia)];grind
theorem sm_one:∀{n:Nat},p<n->(∀k,k<n->k≠p->f k=0)->sm f n=f p
 |0,hp,_=>absurd hp (by lia)
 |n+1,hp,h=>by
  unfold sm;by_cases c:p=n
  ·subst c;rw[sm_zero λk hk=>h k (by lia) (by lia)];grind
  ·rw[sm_one (p:=p) (by lia) λk hk=>h k (by lia),h n (by lia) (by lia)];grind
theorem JK(hpq:p<q):∀{n:Nat},q<n->(∀k,k<n->k≠p->k≠q->f k=0)->sm f n=f p+f q
 |0,hp,_=>absurd hp (by lia)
 |n+1,hp,h=>by
  unfold sm;by_cases c:q=n
  ·subst c;rw[sm_one hpq λk hk z=>h k (by lia) z (by lia)]
  ·rw[JK hpq (by lia) λk hk=>h k (by lia),h n (by lia) (by lia) (by lia)];grind
def skip(j k:Nat):Nat:=if k<j then k else k+1
def sg(j:Nat):Rat:=if j%2=0 then 1 else -1
def K0(j):sg (j+1)=- sg j:=by
 unfold sg;rcases jI j with h|h
 ·rw[Zd (by lia),Zc h]
 ·rw[Zc (by lia),Zd (by lia)];grind
def dt:Nat->(Nat->Nat->Rat)->Rat
 |0,_=>1
 |n+1,M=>sm (λj=>sg j*M 0 j*dt n (λi k=>M (i+1) (skip j k))) (n+1)
def upd(M:Nat->Nat->Rat)(p:Nat)(b:Nat->Rat):Nat->Nat->Rat:=λi k=>if k=p then b i else M i k
theorem wf:∀{n:Nat}{M N:Nat->Nat->Rat},(∀i,i<n->∀k,k<n->M i k=N i k)->dt n M=dt n N
 |0,_,_,_=>rfl
 |n+1,M,N,h=>by unfold dt;refine sm_congr λj hj=>?_;rw[h 0 (by lia) j hj,wf (n:=n) λi hi k hk=>h (i+1) (by lia) (skip j k) (by unfold skip;split<;>lia)]
theorem dt_lin:∀{n:Nat}{M:Nat->Nat->Rat}{p:Nat}(a c:Rat)(u v:Nat->Rat),p<n->dt n (upd M p λi=>a*u i+c*v i)=a*dt n (upd M p u)+c*dt n (upd M p v)
 |0,_,_,_,_,_,_,hp=>absurd hp (by lia)
 |n+1,M,p,a,c,u,v,hp=>by
  unfold dt;rw[<-sm_lin];refine sm_congr λj hj=>?_;by_cases e:j=p
  ·subst e;have mi:∀w:Nat->Rat,(λi k=>upd M j w (i+1) (skip j k))=λi k=>M (i+1) (skip j k):=λw=>by
    funext i k
    unfold upd;rw[Zd (by unfold skip;split<;>lia)]
   rw[mi,mi,mi];unfold upd;rw[Zc rfl,Zc rfl,Zc rfl]
   grind
  ·have mi:∀w:Nat->Rat,(λi k=>upd M p w (i+1) (skip j k))=upd (λi k=>M (i+1) (skip j k)) (if p<j then p else p-1) λi=>w (i+1):=λw=>by
    funext i k
    unfold upd;have:skip j k=p↔k=if p<j then p else p-1:=by unfold skip;split<;>split<;>lia
    by_cases z:skip j k=p
    ·rw[Zc z,Zc (this.mp z)]
    ·rw[Zd z,Zd λy=>z (this.mpr y)]
   rw[mi,mi,mi,dt_lin a c (λi=>u (i+1)) (λi=>v (i+1)) (by split<;>lia)];unfold upd;rw[Zd e,Zd e,Zd e]
   grind
theorem Fx:∀{n:Nat}{M:Nat->Nat->Rat}{p:Nat},p+1<n->(∀i,M i p=M i (p+1))->dt n M=0
 |0,_,_,hp,_=>absurd hp (by lia)
 |n+1,M,p,hp,h=>by
  unfold dt;rw[JK (p:=p) (q:=p+1) (by lia) hp]
  ·have mi:(λi k=>M (i+1) (skip p k))=λi k=>M (i+1) (skip (p+1) k):=by
    funext i k
    by_cases c:k=p
    ·subst c;have e1:skip k k=k+1:=by unfold skip;split<;>lia
     have e2:skip (k+1) k=k:=by unfold skip;split<;>lia
     rw[e1,e2,h]
    ·have:skip p k=skip (p+1) k:=by unfold skip;split<;>split<;>lia
     rw[this]
   rw[mi,K0,h 0]
   grind
  ·intro j hj h1 h2;rw[Fx (n:=n) (p:=if p<j then p else p-1) (by split<;>lia)]
   ·grind
   ·intro i;have e1:skip j (if p<j then p else p-1)=p:=by unfold skip;split<;>(try split)<;>lia
    have e2:skip j ((if p<j then p else p-1)+1)=p+1:=by unfold skip;split<;>(try split)<;>lia
    rw[e1,e2];exact h _
def wm(M)(h:p≠q)(u v):upd (upd M p u) q v=upd (upd M q v) p u:=by
 funext i k
 unfold upd;by_cases a:k=q
 ·rw[Zc a,Zd (by lia),Zc a]
 ·rw[Zd a];split<;>rfl
def Mh(hp:p+1<n):dt n (upd (upd M p λi=>M i (p+1)) (p+1) λi=>M i p)=- dt n M:=by
 let F:=λu v:Nat->Rat=>dt n (upd (upd M p u) (p+1) v);have hF:∀u,F u u=0:=λu=>Fx hp λi=>by unfold upd;rw[Zd (by lia),Zc rfl,Zc rfl]
 have l2:∀u v w,F u (λi=>1*v i+1*w i)=1*F u v+1*F u w:=λu v w=>dt_lin 1 1 v w hp;have l1:∀u v w,F (λi=>1*v i+1*w i) u=1*F v u+1*F w u:=λu v w=>by show dt n _=1*dt n _+1*dt n _;rw[wm M (show p≠p+1 by lia) _ u,wm M (show p≠p+1 by lia) v u,wm M (show p≠p+1 by lia) w u];exact dt_lin 1 1 v w (by lia)
 have e:=hF λi=>1*M i p+1*M i (p+1);rw[l1,l2,l2,hF,hF] at e;have e1:F (λi=>M i p) (λi=>M i (p+1))=dt n M:=by
  show dt n _=_
  congr 1
  funext i k
  unfold upd;split
  ·rename_i z;rw[z]
  ·split
   ·rename_i z;rw[z]
   ·rfl
 rw[e1] at e;show F _ _=_
 grind
theorem KC:∀(d:Nat){M:Nat->Nat->Rat}{p:Nat},p+d+1<n->(∀i,M i p=M i (p+d+1))->dt n M=0
 |0,_,_,hp,h=>Fx hp h
 |d+1,M,p,hp,h=>by
  have e:=Mh (M:=M) (p:=p+d+1) hp;have z:=KC (n:=n) d (M:=upd (upd M (p+d+1) λi=>M i (p+d+1+1)) (p+d+1+1) λi=>M i (p+d+1)) (p:=p) (by lia) λi=>by unfold upd;rw[Zd (by lia),Zd (by lia),Zd (by lia),Zc rfl];exact h i
  rw[z] at e
  grind
def Mi(hp:p<n)(hq:q<n)(h:p≠q)(e:∀i,M i p=M i q):dt n M=0:=by
 rcases Nat.lt_or_gt_of_ne h with c|c
 ·obtain⟨d,rfl⟩:∃d,q=p+d+1:=⟨q-p-1,by lia⟩;exact KC d hq e
 ·obtain⟨d,rfl⟩:∃d,p=q+d+1:=⟨p-q-1,by lia⟩;exact KC d hp λi=>(e i).symm
theorem Kc(hp:p<n)(x:Nat->Rat)(C:Nat->Nat->Rat):∀m:Nat,dt n (upd M p λi=>sm (λl=>x l*C i l) m)=sm (λl=>x l*dt n (upd M p λi=>C i l)) m
 |0=>by
  have:=dt_lin (M:=M) 0 0 (λ_=>0) (λ_=>0) hp;unfold sm;have e:(λi:Nat=>(0:Rat)*(λ_:Nat=>(0:Rat)) i+0*(λ_:Nat=>(0:Rat)) i)=λ_=>0:=by funext i;grind
  rw[e] at this
  grind
 |m+1=>by
  have:=dt_lin (M:=M) 1 (x m) (λi=>sm (λl=>x l*C i l) m) (λi=>C i m) hp;unfold sm;rw[Kc hp x C m] at this;have e:(λi=>sm (λl=>x l*C i l) m+x m*C i m)=λi=>1*(λi=>sm (λl=>x l*C i l) m) i+x m*(λi=>C i m) i:=by funext i;grind
  rw[e,this]
  grind
def cramer(hp:p<n)(x b:Nat->Rat)(h:∀i,i<n->b i=sm (λl=>x l*M i l) n):dt n (upd M p b)=x p*dt n M:=by
 have e1:dt n (upd M p b)=dt n (upd M p λi=>sm (λl=>x l*M i l) n):=wf λi hi k hk=>by
  unfold upd;split
  ·exact h i hi
  ·rfl
 rw[e1,Kc hp x M n,sm_one (p:=p) hp]
 ·congr 2
  funext i k
  unfold upd;split
  ·rename_i z;rw[z]
  ·rfl
 ·intro k hk z;rw[Mi (p:=p) (q:=k) hp hk (by lia)]
  ·grind
  ·intro i;unfold upd;rw[Zc rfl,Zd z]
def Gh(x:Nat->Rat):dt (n+1) (upd M n λi=>M i n-sm (λl=>x l*M i l) n)=dt (n+1) M:=by
 have e:=cramer (n:=n+1) (M:=M) (p:=n) (by lia) (λl=>if l=n then 1 else-x l) (λi=>M i n-sm (λl=>x l*M i l) n) λi _=>by
  show M i n-sm (λl=>x l*M i l) n=sm (λl=>(if l=n then 1 else-x l)*M i l) n+(if n=n then 1 else-x n)*M i n;rw[Zc rfl];have:sm (λl=>(if l=n then 1 else-x l)*M i l) n=(-1)*sm (λl=>x l*M i l) n:=by rw[<-sm_mul];exact sm_congr λk hk=>by rw[Zd (by lia)];grind
  rw[this]
  grind
 rw[e,Zc rfl]
 grind
theorem CC:∀{n:Nat}{M:Nat->Nat->Rat},(∀i,i<n->M i n=0)->dt (n+1) M=M n n*dt n M
 |0,M,_=>by
  show sm (λj=>sg j*M 0 j*1) 1=M 0 0*1;unfold sm sm sg;simp
  grind
 |n+1,M,h=>by
  have e:dt (n+2) M=sm (λj=>sg j*M 0 j*dt (n+1) (λi k=>M (i+1) (skip j k))) (n+2):=rfl;have e2:dt (n+1) M=sm (λj=>sg j*M 0 j*dt n (λi k=>M (i+1) (skip j k))) (n+1):=rfl;rw[e,e2,<-sm_mul];show sm _ (n+1)+sg (n+1)*M 0 (n+1)*_=_;rw[h 0 (by lia),sm_congr (g:=λj=>M (n+1) (n+1)*(sg j*M 0 j*dt n (λi k=>M (i+1) (skip j k)))) λj hj=>?_]
  ·grind
  ·have sk:skip j n=n+1:=by unfold skip;split<;>lia
   rw[CC (n:=n) (M:=λi k=>M (i+1) (skip j k)) λi hi=>by rw[sk];exact h (i+1) (by lia),sk]
   grind
def isI(q:Rat):Prop:=∃z:Int,q=(z:Rat)
def isI.add:isI a->isI b->isI (a+b):=λ⟨x,h⟩ ⟨y,k⟩=>⟨x+y,by rw[h,k];exact(gZ x y).symm⟩
def isI.mul:isI a->isI b->isI (a*b):=λ⟨x,h⟩ ⟨y,k⟩=>⟨x*y,by rw[h,k];exact(cT x y).symm⟩
def isI.sub:isI a->isI b->isI (a-b):=λ⟨x,h⟩ ⟨y,k⟩=>⟨x-y,by rw[h,k];exact(gY x y).symm⟩
theorem Fs:∀{n:Nat},(∀k,k<n->isI (f k))->isI (sm f n)
 |0,_=>⟨0,rfl⟩
 |n+1,h=>(Fs λk hk=>h k (by lia)).add (h n (by lia))
def OA(j):isI (sg j):=by
 unfold sg;split
 ·exact⟨1,rfl⟩
 ·exact⟨-1,rfl⟩
theorem Ft:∀{n:Nat}{M:Nat->Nat->Rat},(∀i k,isI (M i k))->isI (dt n M)
 |0,_,_=>⟨1,rfl⟩
 |n+1,M,h=>Fs λj _=>((OA j).mul (h 0 j)).mul (Ft λi k=>h _ _)
structure Cl(A:Nat->Nat->Rat)(t:Nat)(d:Rat)(M X:Nat->Nat->Rat):Prop where
 d0:d≠0
 dt:d=dt t A
 so:∀i,i<t->∀j,sm (λl=>X l j*A i l) t=A i j
 up:∀i,i<t->∀j,M i j=d*X i j
 lo:∀i,t<=i->∀j,M i j=d*(A i j-sm (λl=>X l j*A i l) t)
def nextM(t:Nat)(d:Rat)(M:Nat->Nat->Rat):Nat->Nat->Rat:=λi j=>if i=t then M t j else(M t t*M i j-M i t*M t j)/d
def Cl.zero(A):Cl A 0 1 A λ_ _=>0:=⟨by decide,rfl,λi h=>absurd h (by lia),λi h=>absurd h (by lia),λi _ j=>by show A i j=1*(A i j-0);grind⟩
def Cl.next(C:Cl A t d M X)(hp:M t t≠0):∃X',Cl A (t+1) (M t t) (nextM t d M) X':=by
 have d0:=C.d0;have hs:M t t=d*(A t t-sm (λl=>X l t*A t l) t):=C.lo t (ap _) t;generalize hsd:A t t-sm (λl=>X l t*A t l) t=s at hs;have s0:s≠0:=λz=>hp (by rw[hs,z];grind);let y:=λj=>(A t j-sm (λl=>X l j*A t l) t)/s;have hy:∀j,s*y j=A t j-sm (λl=>X l j*A t l) t:=λj=>by show s*(_/s)=_;grind
 let X':Nat->Nat->Rat:=λi j=>if i=t then y j else X i j-X i t*y j
 have hX:∀(c:Nat->Rat)(j:Nat),sm (λl=>X' l j*c l) (t+1)=sm (λl=>X l j*c l) t-y j*sm (λl=>X l t*c l) t+y j*c t:=λc j=>by
  show sm (λl=>X' l j*c l) t+X' t j*c t=_;have e:sm (λl=>X' l j*c l) t=sm (λl=>1*(X l j*c l)+(- y j)*(X l t*c l)) t:=sm_congr λk hk=>by
   show(if k=t then y j else X k j-X k t*y j)*c k=_;rw[Zd (by lia)]
   grind
  rw[e,sm_lin];show _+(if t=t then y j else _)*c t=_;rw[Zc rfl]
  grind
 refine⟨X',hp,?_,λi hi j=>?_,λi hi j=>?_,λi hi j=>?_⟩
 ·rw[<-Gh (n:=t) (M:=A) λl=>X l t,CC]
  ·have e:El.dt t (upd A t λi=>A i t-sm (λl=>X l t*A i l) t)=El.dt t A:=wf λi hi k hk=>by unfold upd;rw[Zd (by lia)]
   rw[e,<-C.dt];unfold upd;rw[Zc rfl];show M t t=(A t t-sm (λl=>X l t*A t l) t)*d;rw[hsd,hs]
   grind
  ·intro i hi;unfold upd;rw[Zc rfl];show A i t-sm (λl=>X l t*A i l) t=0;rw[C.so i hi t]
   grind
 ·rw[hX];by_cases c:i=t
  ·subst c;have:=hy j
   grind
  ·rw[C.so i (by lia) j,C.so i (by lia) t]
   grind
 ·show nextM t d M i j=_*(if i=t then y j else X i j-X i t*y j);unfold nextM;have hj:=C.lo t (ap _) j;have:=hy j;by_cases c:i=t
  ·rw[Zc c,Zc c,hj,hs]
   grind
  ·rw[Zd c,Zd c,C.up i (by lia) j,C.up i (by lia) t,hj,hs]
   grind
 ·rw[hX];unfold nextM;have hj:=C.lo t (ap _) j;have:=hy j;rw[Zd (by lia),C.lo i (by lia) j,C.lo i (by lia) t,hj,hs]
  grind
def Cl.whole(C:Cl A t d M X)(hA:∀i j,isI (A i j)):isI d/\∀i j,isI (M i j):=by
 have hd:isI d:=by rw[C.dt];exact Ft hA
 have up:∀i,i<t->∀j,isI (d*X i j):=λi hi j=>by
  have e:=cramer (n:=t) (M:=A) (p:=i) hi (λl=>X l j) (λk=>A k j) λk hk=>(C.so k hk j).symm;rw[<-C.dt] at e;have:d*X i j=El.dt t (upd A i λk=>A k j):=by rw[e];grind
  rw[this];refine Ft λk l=>?_;unfold upd;split
  ·exact hA _ _
  ·exact hA _ _
 refine⟨hd,λi j=>?_⟩;by_cases c:i<t
 ·rw[C.up i c j];exact up i c j
 ·rw[C.lo i (by lia) j];have e:d*(A i j-sm (λl=>X l j*A i l) t)=d*A i j-sm (λl=>(d*X l j)*A i l) t:=by
   have:sm (λl=>(d*X l j)*A i l) t=d*sm (λl=>X l j*A i l) t:=by rw[<-sm_mul];exact sm_congr λk _=>by grind
   rw[this]
   grind
  rw[e];exact(hd.mul (hA i j)).sub (Fs λk hk=>(up k hk j).mul (hA i k))
def gs(n:Nat)(G:Nat->Bool)(S:Nat->Nat->Rat)(j:Nat):Rat:=sm (λi=>if G i=true then S i j else 0) n
structure Zm(n t:Nat)(S:Nat->Nat->Rat):Prop where
 off:∀i j,t<=i->i<n->t<=j->j<n->i≠j->S i j<=0
 col:∀G:Nat->Bool,(∀i,G i=true->t<=i)->∀j,j<n->G j=true->0<=gs n G S j
 grp:∀G:Nat->Bool,(∀i,G i=true->t<=i/\i<n)->(∃j,G j=true)->∃j,G j=true/\0<gs n G S j
def DY(h:∀i,i<n->G i=true->S i j=T i j):gs n G S j=gs n G T j:=sm_congr λi hi=>by
 show(if G i=true then S i j else 0)=if G i=true then T i j else 0
 split
 ·exact h i hi (by assumption)
 ·rfl
def Zm.congr(h:Zm n t S)(e:∀i j,t<=i->i<n->T i j=S i j):Zm n t T:=by
 refine⟨λi j a b c d f=>by rw[e i j a b];exact h.off i j a b c d f,λG hG j hj gj=>?_,λG hG hx=>?_⟩
 ·rw[DY λi hi gi=>e i j (hG i gi) hi];exact h.col G hG j hj gj
 ·obtain⟨j,gj,p⟩:=h.grp G hG hx;exact⟨j,gj,by rw[DY λi hi gi=>e i j (hG i gi).1 hi];exact p⟩
def Zm.piv(h:Zm n t S)(ht:t<n):0<S t t:=by
 obtain⟨j,gj,p⟩:=h.grp (λi=>decide (i=t)) (λi z=>by have:=Zf z;lia) ⟨t,Zg rfl⟩;have:=Zf gj;subst this;have e:gs n (λi=>decide (i=j)) S j=S j j:=by
  unfold gs;rw[sm_one (p:=j) ht]
  ·simp
  ·intro k _ z;simp[z]
 rw[e] at p;exact p
def yR(t:Nat)(S:Nat->Nat->Rat):Nat->Nat->Rat:=λi j=>S i j-S i t*(S t j/S t t)
def J4(ht:t<n)(hG:G t=false)(j):gs n (λi=>G i||decide (i=t)) S j=gs n G S j+S t j:=by
 unfold gs;have e:sm (λi=>if decide (i=t)=true then S t j else 0) n=S t j:=by
  rw[sm_one (p:=t) ht]
  ·simp
  ·intro k _ z;simp[z]
 rw[show sm (λi=>if G i=true then S i j else 0) n+S t j=1*sm (λi=>if G i=true then S i j else 0) n+1*sm (λi=>if decide (i=t)=true then S t j else 0) n by rw[e];grind,<-sm_lin];refine sm_congr λi _=>?_;by_cases c:i=t
 ·subst c;simp[hG];grind
 ·simp[c];grind
def Ga(j):gs n G (yR t S) j=gs n G S j-gs n G S t*(S t j/S t t):=by unfold gs;generalize hq:S t j/S t t=q;rw[show sm (λi=>if G i=true then S i j else 0) n-sm (λi=>if G i=true then S i t else 0) n*q=1*sm (λi=>if G i=true then S i j else 0) n+(-q)*sm (λi=>if G i=true then S i t else 0) n by grind,<-sm_lin];refine sm_congr λi _=>?_;unfold yR;rw[hq];split<;>grind
def np{a b:Rat}(ha:a<=0)(hb:b<=0):0<=a*b:=by
 have:=bL (a:=-a) (b:=-b) (by grind) (by grind)
 grind
def ON{a b:Rat}(ha:a<=0)(hb:0<b):a/b<=0:=by
 have h1:0<=b⁻¹:=kA (Rat.inv_pos.mpr hb);have:=bL (a:=-a) (b:=b⁻¹) (by grind) h1;rw[Rat.div_def]
 grind
def Jl{a b:Rat}(ha:a<0)(hb:0<b):a/b<0:=by
 have:=ij (a:=-a) (b:=b⁻¹) (by grind) (Rat.inv_pos.mpr hb);rw[Rat.div_def]
 grind
def Zm.next{n t:Nat}{S:Nat->Nat->Rat}(h:Zm n t S)(ht:t<n):Zm n (t+1) (yR t S):=by
 have pv:=h.piv ht;have q0:∀j,t+1<=j->j<n->S t j/S t t<=0:=λj h1 h2=>ON (h.off t j (ap _) ht (by lia) h2 (by lia)) pv;have main:∀G:Nat->Bool,(∀i,G i=true->t+1<=i)->∀j,gs n G (yR t S) j=gs n (λi=>G i||decide (i=t)) S j-gs n (λi=>G i||decide (i=t)) S t*(S t j/S t t):=λG hG j=>by
  have gt:G t=false:=by
   cases c:G t with
   |false=>rfl
   |true=>have:=hG t c;lia
  rw[Ga,J4 ht gt,J4 ht gt];have:S t t*(S t j/S t t)=S t j:=by grind
  grind
 have inG:∀G:Nat->Bool,(∀i,G i=true->t+1<=i)->∀i,(G i||decide (i=t))=true->t<=i:=λG hG i z=>by
  rcases(dO _ _).mp z with z|z
  ·have:=hG i z;lia
  ·have:=Zf z;lia
 have sg0:∀G:Nat->Bool,(∀i,G i=true->t+1<=i)->0<=gs n (λi=>G i||decide (i=t)) S t:=λG hG=>h.col _ (inG G hG) t ht (by simp);have ge:∀G:Nat->Bool,(∀i,G i=true->t+1<=i)->∀j,j<n->G j=true->gs n (λi=>G i||decide (i=t)) S j<=gs n G (yR t S) j:=λG hG j hj gj=>by
  rw[main G hG];have:=bL (a:=gs n (λi=>G i||decide (i=t)) S t) (b:=-(S t j/S t t)) (sg0 G hG) (by have:=q0 j (hG j gj) hj;grind)
  grind
 refine⟨λi j a b c d f=>?_,λG hG j hj gj=>?_,λG hG hx=>?_⟩
 ·have h1:=h.off i j (by lia) b (by lia) d f;have h2:=np (h.off i t (by lia) b (ap _) ht (by lia)) (q0 j c d);unfold yR
  grind
 ·have h1:=h.col (λi=>G i||decide (i=t)) (inG G hG) j hj (by simp[gj]);have h2:=ge G hG j hj gj
  grind
 ·have Sf:=λi z=>(hG i z).1;obtain⟨j,gj,p⟩:=h.grp (λi=>G i||decide (i=t)) (λi z=>⟨inG G Sf i z,by
   rcases(dO _ _).mp z with z|z
   ·exact(hG i z).2
   ·have:=Zf z;lia⟩) (by obtain⟨j,gj⟩:=hx;exact⟨j,by simp[gj]⟩)
  rcases(dO _ _).mp gj with gj|gj
  ·refine⟨j,gj,?_⟩;have:=ge G Sf j (hG j gj).2 gj
   grind
  ·have:=Zf gj;subst this;by_cases c:∃k,G k=true/\S j k<0
   ·obtain⟨k,gk,nk⟩:=c;refine⟨k,gk,?_⟩;rw[main G Sf];have h1:=h.col (λi=>G i||decide (i=j)) (inG G Sf) k (hG k gk).2 (by simp[gk]);have h2:=ij (a:=gs n (λi=>G i||decide (i=j)) S j) (b:=-(S j k/S j j)) p (by have:=Jl nk pv;grind)
    grind
   ·obtain⟨k,gk,pk⟩:=h.grp G (λi z=>⟨by have:=Sf i z;lia,(hG i z).2⟩) hx;refine⟨k,gk,?_⟩;have h0:S j k=0:=by
     have h1:=h.off j k (ap _) ht (by have:=Sf k gk;lia) (hG k gk).2 (by have:=Sf k gk;lia);have h2:¬S j k<0:=λz=>c ⟨k,gk,z⟩
     grind
    rw[Ga,h0];have:(0:Rat)/S j j=0:=by grind
    rw[this]
    grind
def bm(A:Nat->Nat->Rat):Nat->Rat×(Nat->Nat->Rat)
 |0=>(1,A)
 |t+1=>((bm A t).2 t t,nextM t (bm A t).1 (bm A t).2)
theorem run(h:Zm n 0 A):∀t,t<=n->(∃X,Cl A t (bm A t).1 (bm A t).2 X)/\0<(bm A t).1/\Zm n t λi j=>(bm A t).2 i j/(bm A t).1
 |0,_=>⟨⟨_,Cl.zero A⟩,(by decide:(0:Rat)<1),h.congr λi j _ _=>by show A i j/1=A i j;grind⟩
 |t+1,ht=>by
  obtain⟨⟨X,C⟩,dp,Zj⟩:=run h t (by lia);have pv:=Zj.piv (by lia);have d0:(bm A t).1≠0:=λz=>by rw[z] at dp;exact absurd dp (by decide)
  have pp:0<(bm A t).2 t t:=by
   have:=ij dp pv;have e:(bm A t).1*((bm A t).2 t t/(bm A t).1)=(bm A t).2 t t:=by grind
   rw[e] at this;exact this
  have p0:(bm A t).2 t t≠0:=λz=>by rw[z] at pp;exact absurd pp (by decide)
  refine⟨C.next p0,pp,(Zj.next (by lia)).congr λi j hi _=>?_⟩;show nextM t (bm A t).1 (bm A t).2 i j/(bm A t).2 t t=yR t _ i j;unfold nextM yR;rw[Zd (by lia)]
  grind
end El
namespace My
open PySem L2 Fra
def qE(h:M[i]?=Za row)(k:row[j]?=Za x):at2 M i j=x:=by unfold at2;rw[h];show(row[j]?).getD 0=x;rw[k];rfl
def ML(hn:M.length=n)(hw:∀row∈M,row.length=w)(ht:t<n)(htw:t<w)(hi:i<n)(hj:j<w):at2 (nxt t d M) i j=if i=t then at2 M t j else(at2 M t t*at2 M i j-at2 M i t*at2 M t j)/d:=by
 have get:∀k,k<n->∃row,M[k]?=Za row/\row.length=w:=λk hk=>by have e:M[k]?=Za (M[k]'(by lia)):=au (by lia);exact⟨_,e,hw _ (ce _)⟩
 obtain⟨row,hr,rl⟩:=get i hi;obtain⟨PM,hb,bl⟩:=get t ht;obtain⟨x,hx⟩:∃x,row[j]?=Za x:=⟨_,au (by lia)⟩;obtain⟨r,hrt⟩:∃r,row[t]?=Za r:=⟨_,au (by lia)⟩;obtain⟨y,hy⟩:∃y,PM[j]?=Za y:=⟨_,au (by lia)⟩;rw[qE hb hy,qE hr hx,qE hr hrt];have e:(nxt t d M)[i]?=Za (if i=t then row else clr (at2 M t t) ((row[t]?).getD 0) d row ((M[t]?).getD [])):=by unfold nxt;rw[List.getElem?_mapIdx,hr];rfl
 by_cases c:i=t
 ·rw[Zc c] at e ⊢;subst c;rw[hr] at hb;cases hb;rw[hx] at hy;cases hy;exact qE e hx
 ·rw[Zd c] at e ⊢;rw[hb,hrt] at e;refine qE e ?_;show(kn (λx y=>(at2 M t t*x-r*y)/d) row PM)[j]?=_;rw[List.getElem?_zipWith,hx,hy]
def LG(t)(d)(M):(nxt t d M).length=M.length:=by unfold nxt;rw[List.length_mapIdx]
def nxt_w(hw:∀row∈M,row.length=w)(ht:t<M.length):∀row∈nxt t d M,row.length=w:=by
 intro row hr;unfold nxt at hr;obtain⟨i,hi,e⟩:=List.mem_mapIdx.mp hr;have h1:=hw _ (ce hi);have e2:M[t]?=Za M[t]:=au ht;have h2:=hw _ (ce ht);rw[<-e];split
 ·exact h1
 ·rw[e2];unfold clr;rw[List.length_zipWith];show min _ (M[t]).length=w;lia
theorem Kk(hn:rows.length=n)(hw:∀row∈rows,row.length=w)(Ub:n<=w)(Zj:El.Zm n 0 λi j=>((at2 rows i j:Int):Rat)):∀t,t<=n->(bmL rows t).2.length=n/\(∀row∈(bmL rows t).2,row.length=w)/\(((bmL rows t).1:Int):Rat)=(El.bm (λi j=>((at2 rows i j:Int):Rat)) t).1/\∀i j,i<n->j<w->((at2 (bmL rows t).2 i j:Int):Rat)=(El.bm (λi j=>((at2 rows i j:Int):Rat)) t).2 i j
 |0,_=>⟨hn,hw,rfl,λ_ _ _ _=>rfl⟩
 |t+1,ht=>by
  obtain⟨h1,h2,h3,h4⟩:=Kk hn hw Ub Zj t (by lia);obtain⟨⟨X,C⟩,dp,_⟩:=El.run Zj t (by lia);obtain⟨⟨X',C'⟩,_,_⟩:=El.run Zj (t+1) ht;refine⟨(LG _ _ _).trans h1,nxt_w h2 (by lia),h4 t t (by lia) (by lia),λi j hi hj=>?_⟩;show((at2 (nxt t (bmL rows t).1 (bmL rows t).2) i j:Int):Rat)=El.nextM t _ _ i j;rw[ML h1 h2 (by lia) (by lia) hi hj];obtain⟨z,hz⟩:=(C'.whole λi j=>⟨_,rfl⟩).2 i j;have hz:El.nextM t _ _ i j=(z:Rat):=hz;unfold El.nextM at hz ⊢;by_cases c:i=t
  ·rw[Zc c] at hz ⊢;rw[Zc c];exact h4 t j (by lia) hj
  ·rw[Zd c] at hz ⊢;rw[Zd c,hz];rw[<-h4 t t (by lia) (by lia),<-h4 i j hi hj,<-h4 i t hi (by lia),<-h4 t j (by lia) hj,<-h3] at hz;rw[<-h3] at dp;have d0:(((bmL rows t).1:Int):Rat)≠0:=λq=>by rw[q] at dp;exact absurd dp (by decide)
   generalize (bmL rows t).1=d at *;generalize at2 (bmL rows t).2 t t=p at *;generalize at2 (bmL rows t).2 i j=x at *;generalize at2 (bmL rows t).2 i t=r at *;generalize at2 (bmL rows t).2 t j=y at *;have e:((p*x-r*y:Int):Rat)=((d*z:Int):Rat):=by
    rw[gY,cT,cT,cT]
    grind
   have e:p*x-r*y=d*z:=Rat.intCast_inj.mp e;have dz:d≠0:=λq=>d0 (by rw[q];rfl);rw[e,cP _ dz]
theorem ud(hl)(g):∀(ns:List Str),(∀n∈ns,e (Za (.str n)::Za (frP (mj hl n).2)::cap) s=.ok (g n) s)->mC mU e cap (ns.map λn=>qw (mj hl n)) s=.ok (ns.map g) s
 |[],_=>rfl
 |n::ns,h=>by
  have ih:=ud hl g ns λm hm=>h m (ae _ hm);have h0:=h n ag;rw[am];have ep:qw (mj hl n)=.tup [.str n,frP (mj hl n).2]:=by unfold qw;rw[za]
  rw[ep];unfold mC;show(match mU (Za (.str n)::Za (frP (mj hl n).2)::cap) s with
   |.ok true s1=>match e (Za (.str n)::Za (frP (mj hl n).2)::cap) s1 with
    |.ok v s2=>match mC mU e cap (ns.map λn=>qw (mj hl n)) s2 with
     |.ok vs s3=>Out.ok (v::vs) s3
     |_=>.bad
    |_=>.bad
   |.ok false s1=>mC mU e cap (ns.map λn=>qw (mj hl n)) s1
   |_=>.bad)=_
  simp only[mU,h0,ih];rfl
theorem vk:∀U:List Str,toVs (U.map PV.str)=Za (U.map V.str)
 |[]=>rfl
 |x::r=>by rw[am];unfold toVs;rw[vk r];rfl
def Bo(n:Str)(U:List Str):inV (.str n) (U.map V.str)=decide (n∈U):=by
 unfold inV;rw[gN,bU,cL,decide_eq_true_iff];constructor
 ·rintro⟨x,hx,e⟩
  have e:(x==n)=true:=e;rw[<-eq_of_beq e];exact hx
 ·intro h;exact⟨n,h,beq_self_eq_true n⟩
def in_LS(n:Str)(V:List Str)(s:Sto):fIn (.str n) (LS V) s=.ok (.bl (decide (n∈V))) s:=by simp[fIn,qx,dcOf,toV,lsOf,vk,FF,Bo]
theorem Gy(g):∀ns:List Str,zA (ns.map λn=>PV.bl (g n))=Za (ns.map g)
 |[]=>rfl
 |n::ns=>by rw[am];unfold zA;rw[Gy g ns];rfl
def inG(L:List Ent)(G:List Str)(h:Str):Bool:=(own L h).all λn=>decide (n∈G)
def L4(a)(H:Ho L N)(hb:T.get nb=Za (.book pp L))(hh:l7 L h=true):oa a [.ref nb,.str h,LS G] T=.ok (.bl (inG L G h)) T:=by
 obtain⟨e,fe,oe⟩:∃e,mB L h=Za e/\own L h=srt (e.held.map (·.1)):=by have:=hh;unfold l7 at this;obtain⟨e,he⟩:=du.mp this;exact⟨e,he,by unfold own;rw[he]⟩
 have hl:=(H.ow h e fe).1;have sh:m9 a [.ref nb,.str h] T=.ok (pV e.held) T:=by simp only[m9,mH,hb];rw[Zc (H.sm h (H.hn h hh)).nm,fe];exact Zc hl
 refine mE ?_;unfold rD;have c:=ud (s:=T) (cap:=[Za (LS G)]) (e:=x2 (xVar 0) (xVar 2) fIn) e.held (λn=>.bl (decide (n∈G))) (srt (e.held.map (·.1))) λn _=>(lZ (lC rfl) (lC rfl)).trans (in_LS n G T);have it:xIter (xBM 2 (m9 a) (xVar 0) (xCons (xVar 1) xNil)) [Za (.ref nb),Za (.str h),Za (LS G)] T=.ok ((srt (e.held.map (·.1))).map λn=>qw (mj e.held n)) T:=nr ((pE (lC rfl) hb (lE (lC rfl) rfl) rfl).trans sh);have cc:oI (xIter (xBM 2 (m9 a) (xVar 0) (xCons (xVar 1) xNil))) [2] mU (x2 (xVar 0) (xVar 2) fIn) [Za (.ref nb),Za (.str h),Za (LS G)] T=.ok (.lst ((srt (e.held.map (·.1))).map λn=>PV.bl (decide (n∈G)))) T:=by unfold oI;rw[it];show(if((srt (e.held.map (·.1))).map λn=>qw (mj e.held n)).length<=100000 then _ else _)=_;rw[Zc (by rw[ac,(lQ _).length_eq,ac];lia)];show(mC mU _ [Za (LS G)] _ T).bind _=_;rw[c];rfl
 refine nI ((wH (lE cc rfl)).trans ?_);unfold fAll;show(match zA ((srt (e.held.map (·.1))).map λn=>PV.bl (decide (n∈G))) with
  |some bs=>Out.ok (PV.bl (bs.all id)) T
  |none=>.bad)=_
 rw[Gy (λn=>decide (n∈G))];unfold inG;rw[oe];show Out.ok (PV.bl (((srt (e.held.map (·.1))).map λn=>decide (n∈G)).all id)) T=_;rw[kr];rfl
end My
namespace El
def ab(x:Rat):Rat:=if x<0 then -x else x
def xX(x):0<=ab x:=by unfold ab;split<;>grind
def O1(x y):ab (x+y)<=ab x+ab y:=by unfold ab;split<;>split<;>split<;>grind
def ab_mul(x y):ab (x*y)=ab x*ab y:=by
 unfold ab;by_cases hx:x<0<;>by_cases hy:y<0
 ·have:=ij (a:=-x) (b:=-y) (by grind) (by grind);rw[Zd (by grind),Zc hx,Zc hy];grind
 ·have:=bL (a:=-x) (b:=y) (by grind) (by grind);rw[Zc hx,Zd hy];split<;>grind
 ·have:=bL (a:=x) (b:=-y) (by grind) (by grind);rw[Zd hx,Zc hy];split<;>grind
 ·have:=bL (a:=x) (b:=y) (by grind) (by grind);rw[Zd hx,Zd hy,Zd (by grind)]
def ab_sg(j):ab (sg j)=1:=by unfold sg;split<;>decide
def pr(f:Nat->Rat):Nat->Rat
 |0=>1
 |n+1=>pr f n*f n
theorem Ku:∀{n:Nat},(∀k,k<n->0<=f k)->0<=pr f n
 |0,_=>by show(0:Rat)<=1;decide
 |n+1,h=>bL (Ku λk hk=>h k (by lia)) (h n (by lia))
theorem pr_congr:∀{n:Nat},(∀k,k<n->f k=g k)->pr f n=pr g n
 |0,_=>rfl
 |n+1,h=>by unfold pr;rw[pr_congr λk hk=>h k (by lia),h n (by lia)]
def KA{a b c d:Rat}(ha:0<=a)(hd:0<=d)(h1:a<=b)(h2:c<=d):a*c<=b*d:=by
 have e1:=bL (a:=a) (b:=d-c) ha (by grind);have e2:=bL (a:=b-a) (b:=d) (by grind) hd
 grind
theorem yO{f g:Nat->Rat}:∀{n:Nat},(∀k,k<n->0<=f k/\f k<=g k)->pr f n<=pr g n
 |0,_=>by show(1:Rat)<=1;grind
 |n+1,h=>by have ih:=yO (f:=f) (g:=g) (n:=n) λk hk=>h k (by lia);have hn:=h n (by lia);have p0:0<=pr f n:=Ku λk hk=>(h k (by lia)).1;exact KA p0 (by grind) ih hn.2
theorem sm_mono:∀{n:Nat},(∀k,k<n->f k<=g k)->sm f n<=sm g n
 |0,_=>by show(0:Rat)<=0;grind
 |n+1,h=>by
  have ih:=sm_mono (f:=f) (g:=g) (n:=n) λk hk=>h k (by lia);have:=h n (by lia);unfold sm
  grind
theorem Nx(f):∀n:Nat,ab (sm f n)<=sm (λk=>ab (f k)) n
 |0=>by show ab 0<=0;decide
 |n+1=>by
  have ih:=Nx f n;have:=O1 (sm f n) (f n);show ab (sm f n+f n)<=sm (λk=>ab (f k)) n+ab (f n)
  grind
theorem Dt{a b:Nat->Rat}(ha:∀k,0<=a k)(hb:∀k,0<=b k):∀n:Nat,sm (λj=>a j*pr (λk=>b (skip j k)) n) (n+1)<=pr (λk=>a k+b k) (n+1)
 |0=>by
  show(0:Rat)+a 0*1<=1*(a 0+b 0);have:=hb 0
  grind
 |n+1=>by
  have ih:=Dt ha hb n;show sm (λj=>a j*pr (λk=>b (skip j k)) (n+1)) (n+1)+a (n+1)*pr (λk=>b (skip (n+1) k)) (n+1)<=pr (λk=>a k+b k) (n+1)*(a (n+1)+b (n+1));have e1:sm (λj=>a j*pr (λk=>b (skip j k)) (n+1)) (n+1)=b (n+1)*sm (λj=>a j*pr (λk=>b (skip j k)) n) (n+1):=by
   rw[<-sm_mul];refine sm_congr λj hj=>?_;show a j*(pr (λk=>b (skip j k)) n*b (skip j n))=_;rw[show skip j n=n+1 by unfold skip;split<;>lia]
   grind
  have e2:pr (λk=>b (skip (n+1) k)) (n+1)=pr b (n+1):=pr_congr λk hk=>by rw[show skip (n+1) k=k by unfold skip;split<;>lia]
  have e3:pr b (n+1)<=pr (λk=>a k+b k) (n+1):=yO λk _=>⟨hb k,by have:=ha k;grind⟩;rw[e1,e2];have f1:=bL (a:=b (n+1)) (b:=pr (λk=>a k+b k) (n+1)-sm (λj=>a j*pr (λk=>b (skip j k)) n) (n+1)) (hb _) (by grind);have f2:=bL (a:=a (n+1)) (b:=pr (λk=>a k+b k) (n+1)-pr b (n+1)) (ha _) (by grind)
  grind
theorem KB:∀(n:Nat)(M:Nat->Nat->Rat),ab (dt n M)<=pr (λj=>sm (λi=>ab (M i j)) n) n
 |0,M=>by show ab 1<=1;decide
 |n+1,M=>by
  have h1:ab (dt (n+1) M)<=sm (λj=>ab (M 0 j)*pr (λk=>sm (λi=>ab (M (i+1) (skip j k))) n) n) (n+1):=by
   have:=Nx (λj=>sg j*M 0 j*dt n (λi k=>M (i+1) (skip j k))) (n+1);refine cY this (sm_mono λj _=>?_);rw[ab_mul,ab_mul,ab_sg];have ih:=KB n λi k=>M (i+1) (skip j k);have f:=bL (a:=ab (M 0 j)) (b:=pr (λk=>sm (λi=>ab (M (i+1) (skip j k))) n) n-ab (dt n λi k=>M (i+1) (skip j k))) (xX _) (by grind)
   grind
  have sn:∀(f:Nat->Rat)(n:Nat),(∀k,0<=f k)->0<=sm f n:=λf n h=>by
   induction n with
   |zero=>show(0:Rat)<=0;grind
   |succ n ih=>show 0<=sm f n+f n;have:=h n;grind
  have h2:=Dt (a:=λj=>ab (M 0 j)) (b:=λj=>sm (λi=>ab (M (i+1) j)) n) (λ_=>xX _) (λj=>sn _ _ λ_=>xX _) n;have sh:∀(f:Nat->Rat)(n:Nat),sm f (n+1)=f 0+sm (λi=>f (i+1)) n:=λf n=>by
   induction n with
   |zero=>show 0+f 0=f 0+0;grind
   |succ n ih=>show sm f (n+1)+f (n+1)=f 0+(sm (λi=>f (i+1)) n+f (n+1));rw[ih];grind
  have e:pr (λj=>sm (λi=>ab (M i j)) (n+1)) (n+1)=pr (λk=>ab (M 0 k)+sm (λi=>ab (M (i+1) k)) n) (n+1):=pr_congr λk _=>sh (λi=>ab (M i k)) n;rw[e];exact cY h1 h2
def Cl.low(C:Cl A t d M X)(hi:t<=i):M i j=El.dt (t+1) λr c=>A (if r=t then i else r) (if c=t then j else c):=by
 have lt:∀r,r<t->(if r=t then i else r)=r:=λr h=>Zd (by lia);have lj:∀c,c<t->(if c=t then j else c)=c:=λc h=>Zd (by lia);rw[<-Gh (n:=t) (M:=λr c=>A (if r=t then i else r) (if c=t then j else c)) λl=>X l j];have es:∀r,sm (λl=>X l j*A (if r=t then i else r) (if l=t then j else l)) t=sm (λl=>X l j*A (if r=t then i else r) l) t:=λr=>sm_congr λl hl=>by rw[lj l hl]
 rw[CC]
 ·have e1:El.dt t (upd (λr c=>A (if r=t then i else r) (if c=t then j else c)) t λr=>A (if r=t then i else r) (if t=t then j else t)-sm (λl=>X l j*A (if r=t then i else r) (if l=t then j else l)) t)=El.dt t A:=wf λr hr c hc=>by unfold upd;rw[Zd (by lia)];show A (if r=t then i else r) (if c=t then j else c)=A r c;rw[lt r hr,lj c hc]
  rw[e1,<-C.dt];unfold upd;rw[Zc rfl];show _=(A (if t=t then i else t) (if t=t then j else t)-sm (λl=>X l j*A (if t=t then i else t) (if l=t then j else l)) t)*d;rw[es,Zc rfl,Zc rfl,C.lo i hi j]
  grind
 ·intro r hr;unfold upd;rw[Zc rfl];show A (if r=t then i else r) (if t=t then j else t)-sm (λl=>X l j*A (if r=t then i else r) (if l=t then j else l)) t=0;rw[es,lt r hr,Zc rfl,C.so r hr j]
  grind
def Cl.upp(C:Cl A t d M X)(hi:i<t):M i j=El.dt t (upd A i λk=>A k j):=by
 have e:=cramer (n:=t) (M:=A) (p:=i) hi (λl=>X l j) (λk=>A k j) λk hk=>(C.so k hk j).symm;rw[e,<-C.dt,C.up i hi j]
 grind
theorem HN(h:∀k,0<=f k):∀n,0<=sm f n
 |0=>by show(0:Rat)<=0;grind
 |n+1=>by have:=HN h n;have:=h n;show 0<=sm f n+f n;grind
theorem HP(h:∀k,0<=f k):∀{n:Nat},t<=n->sm f t<=sm f n
 |0,ht=>by
  have:t=0:=by lia
  subst this
  grind
 |n+1,ht=>by
  by_cases c:t=n+1
  ·subst c;grind
  ·have:=HP h (t:=t) (n:=n) (by lia);have:=h n;show sm f t<=sm f n+f n
   grind
theorem xu(h:∀k,0<=f k)(hi:t<=i):∀{n:Nat},i<n->sm f t+f i<=sm f n
 |0,hn=>absurd hn (by lia)
 |n+1,hn=>by
  show sm f t+f i<=sm f n+f n;by_cases c:i=n
  ·subst c;have:=HP h hi
   grind
  ·have:=xu h hi (n:=n) (by lia);have:=h n
   grind
theorem FR(h:∀c,1<=B c):∀t,1<=pr B t
 |0=>by show(1:Rat)<=1;grind
 |t+1=>by
  have h1:=FR h t;have h2:=h t;have:=KA (a:=1) (b:=pr B t) (c:=1) (d:=B t) (by decide) (by grind) h1 h2;show 1<=pr B t*B t
  grind
theorem FQ(h:∀c,1<=B c)(i j):∀t,pr (λc=>if c=i then B j else B c) t<=pr B t*B j
 |0=>by have:=h j;show(1:Rat)<=1*B j;grind
 |t+1=>by
  show pr (λc=>if c=i then B j else B c) t*(if t=i then B j else B t)<=pr B t*B t*B j;by_cases c:t=i
  ·have e:pr (λc=>if c=i then B j else B c) t=pr B t:=pr_congr λk hk=>Zd (by lia);rw[e,Zc c];have h1:=FR h t;have h2:=h t;have h3:=h j;have h4:0<=pr B t*B j:=bL (by grind) (by grind);have:=bL (a:=pr B t*B j) (b:=B t-1) h4 (by grind)
   grind
  ·rw[Zd c];have:=FQ h i j t;have h2:=h t;have:=bL (a:=B t) (b:=pr B t*B j-pr (λc=>if c=i then B j else B c) t) (by grind) (by grind)
   grind
def Cl.le(C:Cl A t d M X)(ht:t<=n)(h1:∀c,1<=B c)(hB:∀c,sm (λr=>ab (A r c)) n<=B c)(hi:i<n)(j):ab (M i j)<=pr B t*B j:=by
 by_cases c:i<t
 ·rw[C.upp c];refine cY (KB _ _) (cY (yO (g:=λc=>if c=i then B j else B c) λk _=>⟨HN (λ_=>xX _) _,?_⟩) (FQ h1 i j t));show sm (λr=>ab (if k=i then A r j else A r k)) t<=if k=i then B j else B k
  split
  ·exact cY (HP (λ_=>xX _) ht) (hB j)
  ·exact cY (HP (λ_=>xX _) ht) (hB k)
 ·rw[C.low (by lia)];refine cY (KB _ _) ?_;have col:∀k,sm (λr=>ab (A (if r=t then i else r) k)) (t+1)<=B k:=λk=>by show sm (λr=>ab (A (if r=t then i else r) k)) t+ab (A (if t=t then i else t) k)<=B k;rw[sm_congr (g:=λr=>ab (A r k)) λr hr=>by rw[Zd (by lia)],Zc rfl];exact cY (xu (f:=λr=>ab (A r k)) (λ_=>xX _) (by lia) hi) (hB k)
  show pr (λc=>sm (λr=>ab (A (if r=t then i else r) (if c=t then j else c))) (t+1)) t*sm (λr=>ab (A (if r=t then i else r) (if t=t then j else t))) (t+1)<=pr B t*B j;refine KA (Ku λk _=>HN (λ_=>xX _) _) (by have:=h1 j;grind) (yO λk hk=>⟨HN (λ_=>xX _) _,?_⟩) ?_
  ·rw[Zd (show ¬k=t by lia)];exact col k
  ·rw[Zc rfl];exact col j
end El
namespace My
open PySem L2 Fra
def GI(h:l.Perm m):mq l=mq m:=by
 induction h with
 |nil=>rfl
 |cons x _ ih=>show x+_=x+_;rw[ih]
 |swap x y l=>show y+(x+mq l)=x+(y+mq l);grind
 |trans _ _ a b=>exact a.trans b
def mY(x)(l):mq (x::l)=x+mq l:=rfl
theorem qJ:∀{l:List α},(∀x∈l,p x=false->f x=0)->mq ((l.filter p).map f)=mq (l.map f)
 |[],_=>rfl
 |x::l,h=>by
  have ih:=qJ (f:=f) (p:=p) (l:=l) λy hy=>h y (ae _ hy);rw[am,mY,<-ih];cases c:p x with
  |true=>rw[List.filter_cons_of_pos c,am,mY]
  |false =>
   rw[List.filter_cons_of_neg (by rw[c];decide),h x ag c,Rat.zero_add]
def mF{α:Type}{f g:α->Rat}{l:List α}(h:∀x∈l,f x=g x):mq (l.map f)=mq (l.map g):=by rw[aV h]
def vZ{U W:List Str}{g:Str->Rat}(hU:U.Nodup)(hW:W.Nodup)(h:∀x∈U,x∉W->g x=0):mq (U.map g)=mq (W.map λx=>if x∈U then g x else 0):=by have e1:mq ((U.filter λx=>decide (x∈W)).map g)=mq (U.map g):=qJ λx hx c=>h x hx (of_decide_eq_false c);have e2:mq ((W.filter λx=>decide (x∈U)).map λx=>if x∈U then g x else 0)=mq (W.map λx=>if x∈U then g x else 0):=qJ λx hx c=>Zd (of_decide_eq_false c);rw[<-e1,<-e2];have e3:mq ((W.filter λx=>decide (x∈U)).map λx=>if x∈U then g x else 0)=mq ((W.filter λx=>decide (x∈U)).map g):=mF λx hx=>Zc (Zf (bw.mp hx).2);rw[e3];refine GI (List.Perm.map _ ((f7 (hU.filter _) (hW.filter _)).mpr λx=>?_));rw[bw,bw,decide_eq_true_iff,decide_eq_true_iff];exact⟨λz=>⟨z.2,z.1⟩,λz=>⟨z.2,z.1⟩⟩
theorem yB:∀{l:List α},(∀x∈l,f x<=g x)->mq (l.map f)<=mq (l.map g)
 |[],_=>im
 |x::l,h=>by
  have:=yB (f:=f) (g:=g) (l:=l) λy hy=>h y (ae _ hy);have:=h x ag;rw[am,am,mY,mY]
  grind
theorem FJ:∀{l:List α},(∀x∈l,f x<=g x)->(∃x∈l,f x<g x)->mq (l.map f)<mq (l.map g)
 |[],_,⟨_,z,_⟩=>nomatch z
 |x::l,h,⟨y,hy,k⟩=>by
  have a1:=yB (f:=f) (g:=g) (l:=l) λy hy=>h y (ae _ hy);have a2:=h x ag;rw[am,am,mY,mY];rcases ah.mp hy with e|hy
  ·subst e;grind
  ·have a3:=FJ (f:=f) (g:=g) (l:=l) (λy hy=>h y (ae _ hy)) ⟨y,hy,k⟩
   grind
theorem qG(c)(f:α->Rat):∀l:List α,mq (l.map λx=>c*f x)=c*mq (l.map f)
 |[]=>(ky c).symm
 |x::l=>by rw[am,am,mY,mY,qG c f l];grind
theorem uj(f g:α->Rat):∀l:List α,mq (l.map λx=>f x+g x)=mq (l.map f)+mq (l.map g)
 |[]=>(gO 0).symm
 |x::l=>by rw[am,am,am,mY,mY,mY,uj f g l];grind
def AZ{α:Type}{f:α->Rat}{l:List α}(h:∀x∈l,f x=0):mq (l.map f)=0:=by
 induction l with
 |nil=>rfl
 |cons x l ih =>
  rw[am,mY,h x ag,ih λy hy=>h y (ae _ hy)];exact gO 0
def KZ(f:α->Rat)(l:List α):El.sm (λi=>((l[i]?).map f).getD 0) l.length=mq (l.map f):=by
 have:∀(k:Nat),k<=l.length->El.sm (λi=>((l[i]?).map f).getD 0) k=mq ((l.take k).map f):=λk=>by
  induction k with
  |zero=>intro _;rfl
  |succ k ih =>
   intro hk;show El.sm _ k+_=_;rw[ih (by lia),dW,aw,zF];have e:l[k]?=Za l[k]:=au (by lia);show _+((l[k]?).map f).getD 0=_;rw[e];show _+f l[k]=_+(f l[k]+0);rw[gO]
 have h:=this l.length (ap _);rw[gC] at h;exact h
theorem Ba{α β:Type}(f:α->β->Rat)(l:List α):∀m:List β,mq (l.map λx=>mq (m.map λy=>f x y))=mq (m.map λy=>mq (l.map λx=>f x y))
 |[]=>AZ λ_ _=>rfl
 |y::m=>by show mq (l.map λx=>f x y+mq (m.map λy=>f x y))=mq (l.map λx=>f x y)+mq (m.map λy=>mq (l.map λx=>f x y));rw[uj,Ba f l m]
inductive Cts:Nat->List Ent->Prop
 |nil {c:Nat}:Cts c []
 |cons {c1 c2 c:Nat}{e:Ent}{L:List Ent}:(∃hz,HR c1 e.held hz)->Cts c2 L->c1+c2<=c->Cts c (e::L)
theorem Prs.cts:∀{c:Nat}{L:List Ent}{M:List Md},Prs N c L M->Cts c L
 |_,_,_,.nil=>.nil
 |_,_,_,.cons h r q=>.cons h.hm.r r.cts q
theorem Prs.tb:∀{c:Nat}{L:List Ent}{M:List Md},Prs N c L M->∀e∈L,Bt 100 e.th
 |_,_,_,.nil,_,z=>nomatch z
 |_,_,_,.cons h r q,e,z=>(ah.mp z).elim (λz=>z▸h.tb.1) (r.tb e)
theorem Cts.mem:∀{c:Nat}{L:List Ent},Cts c L->∀e∈L,∃k hz,HR k e.held hz/\k<=c
 |_,_,.nil,_,z=>nomatch z
 |_,_,.cons (c1:=c1) ⟨hz,h⟩ r q,e,z=>by
  rcases ah.mp z with z|z
  ·subst z;exact⟨c1,hz,h,by lia⟩
  ·obtain⟨k,hz,h,b⟩:=r.mem e z;exact⟨k,hz,h,by lia⟩
structure Gd(L:List Ent)(N:List Str)(c:Nat):Prop where
 ho:Ho L N
 nd:(L.map (·.nm)).Nodup
 ct:Cts c L
 tb:∀e∈L,Bt 200 e.th
 l8:L.length<=8
 c40:c<=41
def ux(h:mB L n=Za e):e∈L/\e.nm=n:=by unfold mB at h;have k:=eP h;exact⟨eI h,Zf k⟩
def shr(L:List Ent)(h x:Str):Rat:=match mB L h with
 |some e=>rv (lT e.held x)
 |none=>0
def MY(h1:0<=q.1)(h2:0<q.2):0<=rv q:=by unfold rv;rw[iK h2];exact h1
def NN(h1:0<q.1)(h2:0<q.2):0<rv q:=by
 have:=MY (bF h1) h2;have z:rv q≠0:=λz=>by
  have k:=JM q;rw[z] at k;have n:0<=rv (-q.1,q.2):=by rw[k];grind
  unfold rv at n;rw[iK h2] at n;have n:0<=-q.1:=n;lia
 grind
section
variable{L:List Ent}{N:List Str}{c:Nat}
def Gd.hr(g:Gd L N c)(f:mB L h=Za e):∃k hz,HR k e.held hz/\k<=c:=g.ct.mem e (ux f).1
def Gd.ent(g:Gd L N c)(hh:l7 L h=true):∃e,mB L h=Za e/\own L h=srt (e.held.map (·.1))/\∀x,shr L h x=rv (lT e.held x):=by have:=hh;unfold l7 at this;obtain⟨e,he⟩:=du.mp this;exact⟨e,he,by unfold own;rw[he],λx=>by unfold shr;rw[he]⟩
theorem Gd.nn(g:Gd L N c)(h x):0<=shr L h x:=by
 by_cases hh:l7 L h=true
 ·obtain⟨e,f,_,s⟩:=g.ent hh;obtain⟨k,hz,R,_⟩:=g.hr f;rw[s];exact MY (R.fr x).nn (R.fr x).low.1
 ·have:mB L h=none:=by
   unfold l7 at hh;cases c:mB L h with
   |none=>rfl
   |some e=>rw[c] at hh;exact absurd rfl hh
  unfold shr;rw[this];exact im
def Gd.pos(g:Gd L N c)(hx:x∈own L h):0<shr L h x:=by
 by_cases hh:l7 L h=true
 ·obtain⟨e,f,o,s⟩:=g.ent hh;obtain⟨k,hz,R,_⟩:=g.hr f;rw[o,(lQ _).mem_iff] at hx;rw[s];exact NN ((R.nm x).mp hx) (R.fr x).low.1
 ·rw[Fo (by simpa using hh)] at hx;cases hx
def Gd.zero(g:Gd L N c)(hx:x∉own L h):shr L h x=0:=by
 by_cases hh:l7 L h=true
 ·obtain⟨e,f,o,s⟩:=g.ent hh;rw[o,(lQ _).mem_iff] at hx;rw[s,uZ hx];exact Rat.zero_divInt 1
 ·unfold shr;have:mB L h=none:=by
   unfold l7 at hh;cases c:mB L h with
   |none=>rfl
   |some e=>rw[c] at hh;exact absurd rfl hh
  rw[this]
def Gd.ond(g:Gd L N c)(h):(own L h).Nodup:=by
 by_cases hh:l7 L h=true
 ·obtain⟨e,f,o,s⟩:=g.ent hh;obtain⟨k,hz,R,_⟩:=g.hr f;rw[o];exact(lQ _).nodup_iff.mpr R.n1
 ·rw[Fo (by simpa using hh)];exact .nil
theorem Gd.one(g:Gd L N c)(hh:l7 L h=true):mq ((own L h).map (shr L h))=1:=by
 obtain⟨e,f,o,s⟩:=g.ent hh;obtain⟨k,hz,R,_⟩:=g.hr f;have e1:=R.one;unfold HX at e1;have e2:mq ((hz.map (·.1)).map λn=>rv (lT hz n))=mq ((hz.map (·.1)).map (shr L h)):=mF λx _=>by rw[s,R.q]
 rw[e2,vZ R.n2 (g.ond h) (λx _ z=>g.zero z)] at e1;rw[<-e1];refine mF λx hx=>?_;rw[Zc];refine R.had ?_;rw[<-R.q,<-R.nm];rw[o,(lQ _).mem_iff] at hx;exact hx
def NoG(L:List Ent):Prop:=∀G:List Str,G≠[]->(∀h∈G,l7 L h=true)->∃h∈G,∃x∈own L h,x∉G
def nth(U:List Str)(i:Nat):Str:=(U[i]?).getD cx
def nT(h:i<U.length):U[i]?=Za (nth U i)/\nth U i∈U:=by have e:U[i]?=Za U[i]:=au h;unfold nth;rw[e];exact⟨rfl,ce h⟩
def yQ(nd:U.Nodup)(hi:i<U.length)(hj:j<U.length)(h:nth U i=nth U j):i=j:=by have e1:=(nT hi).1;have e2:=(nT hj).1;rw[<-h] at e2;exact(List.getElem?_inj hi nd).mp (e1.trans e2.symm)
def mA(L:List Ent)(U:List Str)(i j:Nat):Rat:=(if i=j then 1 else 0)-shr L (nth U j) (nth U i)
def CO(f:Str->Rat):El.sm (λi=>f (nth U i)) U.length=mq (U.map f):=by rw[<-KZ];refine El.sm_congr λi hi=>?_;rw[(nT hi).1];rfl
abbrev gl(U:List Str)(G:Nat->Bool):List Str:=((bA U.length).filter G).map (nth U)
theorem Gd.gs(g:Gd L N c)(nd:U.Nodup)(hj:j<U.length)(Gj:G j=true):El.gs U.length G (mA L U) j=1-mq (U.map λx=>if x∈gl U G then shr L (nth U j) x else 0):=by
 unfold El.gs;have mem:∀i,i<U.length->(nth U i∈gl U G↔G i=true):=λi hi=>by
  constructor
  ·intro z;obtain⟨k,hk,e⟩:=aj.mp z;obtain⟨k1,k2⟩:=bw.mp hk;rw[<-yQ nd (cF.mp k1) hi e];exact k2
  ·exact λz=>aj.mpr ⟨i,bw.mpr ⟨cF.mpr hi,z⟩,rfl⟩
 have e:El.sm (λi=>if G i=true then mA L U i j else 0) U.length=El.sm (λi=>1*(if i=j then 1 else 0)+(-1)*(if nth U i∈gl U G then shr L (nth U j) (nth U i) else 0)) U.length:=by
  refine El.sm_congr λi hi=>?_;have m:=mem i hi;by_cases q:G i=true
  ·rw[Zc q,Zc (m.mpr q)];unfold mA
   grind
  ·rw[Zd q,Zd (λz=>q (m.mp z)),Zd (λz=>q (by rw[z];exact Gj))]
   grind
 rw[e,El.sm_lin,El.sm_one hj (λk _ hk=>Zd hk),Zc rfl,CO (λx=>if x∈gl U G then shr L (nth U j) x else 0)]
 grind
def Gd.zm(g:Gd L N c)(ng:NoG L)(nd:U.Nodup)(hU:∀x∈U,l7 L x=true):El.Zm U.length 0 (mA L U):=by
 have key:∀(G:Nat->Bool)(j:Nat),j<U.length->G j=true->(0<=El.gs U.length G (mA L U) j/\((∃x∈own L (nth U j),x∉gl U G)->0<El.gs U.length G (mA L U) j)):=λG j hj Gj=>by
  rw[g.gs nd hj Gj];generalize gl U G=V;have hh:=hU _ (nT hj).2;have o:=g.one hh;generalize nth U j=h at *;have sw:=vZ (g:=λx=>if x∈V then shr L h x else 0) nd (g.ond h) (λx _ z=>by show(if x∈V then shr L h x else 0)=0;rw[g.zero z];split<;>rfl);rw[sw];have le:∀x∈own L h,(if x∈U then(if x∈V then shr L h x else 0) else 0)<=shr L h x:=λx _=>by
   have:=g.nn h x;split
   ·split
    ·exact im
    ·exact this
   ·exact this
  refine⟨?_,λ⟨x,hx,hV⟩=>?_⟩
  ·have:=yB le;rw[o] at this
   grind
  ·have:=FJ le ⟨x,hx,by rw[Zd hV];have:=g.pos hx;split<;>exact this⟩;rw[o] at this
   grind
 refine⟨λi j _ hi _ hj PL=>?_,λG _ j hj Gj=>(key G j hj Gj).1,λG hG hx=>?_⟩
 ·unfold mA;rw[Zd PL];have:=g.nn (nth U j) (nth U i)
  grind
 ·obtain⟨j0,hj0⟩:=hx;have hm:∀x∈gl U G,∃j,j<U.length/\G j=true/\nth U j=x:=λx hx=>by obtain⟨k,hk,e⟩:=aj.mp hx;obtain⟨k1,k2⟩:=bw.mp hk;exact⟨k,cF.mp k1,k2,e⟩
  obtain⟨h,hh,x,hx,hxV⟩:=ng (gl U G) (ly (aj.mpr ⟨j0,bw.mpr ⟨cF.mpr (hG j0 hj0).2,hj0⟩,rfl⟩)) (λh hh=>by obtain⟨j,hj,_,e⟩:=hm h hh;rw[<-e];exact hU _ (nT hj).2)
  obtain⟨j,hj,Gj,e⟩:=hm h hh;exact⟨j,Gj,(key G j hj Gj).2 ⟨x,by rw[e];exact hx,hxV⟩⟩
def OJ(hp:p<n):El.dt n (El.upd M p λ_=>0)=0:=by
 have:=El.dt_lin (n:=n) (M:=M) (p:=p) 0 0 (λ_=>0) (λ_=>0) hp;have e:(λ(i:Nat)=>(0:Rat)*(λ_=>0) i+0*(λ_=>0) i)=λ_=>0:=by funext i;grind
 rw[e] at this;rw[this]
 grind
def Gd.uniq(g:Gd L N c)(ng:NoG L){U:List Str}(nd:U.Nodup)(hU:∀x∈U,l7 L x=true){v:Str->Rat}(h:∀x∈U,v x=mq (U.map λl=>shr L l x*v l)):∀x∈U,v x=0:=by
 obtain⟨⟨X,C⟩,dp,_⟩:=El.run (g.zm ng nd hU) U.length (ap _);rw[C.dt] at dp;intro x hx;obtain⟨p,hp⟩:=bZ.mp hx;have PK:p<U.length:=(aW.mp hp).1;have cr:=El.cramer (M:=mA L U) PK (λl=>v (nth U l)) (λ_=>0) λi hi=>by
  have hxi:=h (nth U i) (nT hi).2;have e:El.sm (λl=>v (nth U l)*mA L U i l) U.length=El.sm (λl=>1*(if l=i then v (nth U l) else 0)+(-1)*(λy=>shr L y (nth U i)*v y) (nth U l)) U.length:=El.sm_congr λl hl=>by
   unfold mA;by_cases q:i=l
   ·subst q;rw[Zc rfl,Zc rfl];grind
   ·rw[Zd q,Zd (λz=>q z.symm)];grind
  rw[e,El.sm_lin,El.sm_one hi (λk _ hk=>Zd hk),Zc rfl,CO (λy=>shr L y (nth U i)*v y),<-hxi]
  grind
 rw[OJ PK] at cr;have e:nth U p=x:=by unfold nth;rw[hp];rfl
 have cr:(0:Rat)=v (nth U p)*El.dt U.length (mA L U):=cr;rw[e] at cr;have d0:El.dt U.length (mA L U)≠0:=λz=>by rw[z] at dp;exact absurd dp (by decide)
 grind
end
theorem xh:∀U V:List Str,bO (U.map dq) (V.map dq)=decide (U=V)
 |[],[]=>by simp[bO]
 |[],y::V=>by simp[bO]
 |x::U,[]=>by simp[bO]
 |x::U,y::V=>by
  rw[am,am];unfold bO bu;rw[xh U V,bU,cg,decide_eq_true_iff,decide_eq_true_iff];constructor
  ·intro⟨h1,h2⟩;rw[eq_of_beq h1,h2]
  ·intro h;cases h;exact⟨beq_self_eq_true _,rfl⟩
def eq_LS{U V:List Str}{s:Sto}(hU:∀x∈U,bc x=true)(hV:∀x∈V,bc x=true):fEq (LS U) (LS V) s=.ok (.bl (decide (U=V))) s:=by have e1:PV.data s 12 (LS U)=Za (.list (U.map dq)):=zn s 10 hU;have e2:PV.data s 12 (LS V)=Za (.list (V.map dq)):=zn s 10 hV;show fEqN false _ _ _=_;unfold fEqN;rw[e1,e2];show Out.ok (PV.bl (bu (.list _) (.list _))) s=_;unfold bu;rw[xh]
def Ng{U V:List Str}{s:Sto}(hU:∀x∈U,bc x=true)(hV:∀x∈V,bc x=true):fNe (LS U) (LS V) s=.ok (.bl (!decide (U=V))) s:=by have e1:PV.data s 12 (LS U)=Za (.list (U.map dq)):=zn s 10 hU;have e2:PV.data s 12 (LS V)=Za (.list (V.map dq)):=zn s 10 hV;show fEqN true _ _ _=_;unfold fEqN;rw[e1,e2];show Out.ok (PV.bl !(bu (.list _) (.list _))) s=_;unfold bu;rw[xh]
theorem rP{e:XE}{cap:En}{s:Sto}(g:Str->PV):∀(X:List Str),(∀x∈X,e (Za (.str x)::cap) s=.ok (g x) s)->nl mU e cap (X.map .str) s=.ok (X.map g) s
 |[],_=>rfl
 |x::X,h=>by rw[am,oH];simp only[mU,h x ag,rP g X λy hy=>h y (ae _ hy),am]
def xk{e:XE}{cap:En}{s:Sto}(g:Str->Int)(X:List Str)(h:∀x∈X,e (Za (.str x)::cap) s=.ok (.int (g x)) s):nl mU e cap (X.map .str) s=.ok ((X.map g).map .int) s:=(rP (λx=>.int (g x)) X h).trans (by rw[aE];rfl)
structure WG(L:List Ent)(G0 G:List Str):Prop where
 sl:G.Sublist G0
 cl:∀h∈G,∀x∈own L h,x∈G
 mx:∀V:List Str,(∀h∈V,h∈G0)->(∀h∈V,∀x∈own L h,x∈V)->∀h∈V,h∈G
def inG_iff:inG L G h=true↔∀x∈own L h,x∈G:=by unfold inG;rw[da];exact⟨λz x hx=>Zf (z x hx),λz x hx=>Zg (z x hx)⟩
def GE(h:mz c b n Z s=.rt v s'):sX c b Z s=.rt v s':=(wM h (by intro z;cases z)).trans rfl
section
variable{T:Sto}{nb:Nat}{pp N:List Str}{L:List Ent}{c:Nat}
def wwalk(a:Adr)(H:Ho L N)(hb:T.get nb=Za (.book pp L)):∀(k:Nat)(G:List Str)(u2:Option PV),G.length<=k->k<=100->(∀h∈G,l7 L h=true)->∃G',mz (xTr (xC (.bl true))) (mv a) (k+1) [Za (.ref nb),Za (LS G),u2] T=.rt (LS G') T/\WG L G G':=by
 intro k;induction k with
 |zero =>
  intro G u2 hk _ hG;have:G=[]:=cB.mp (by omega);subst this;refine⟨[],rfl,⟨jJ _,(λ_ z=>nomatch z),λV hV _ h hh=>hV h hh⟩⟩
 |succ k ih =>
  intro G u2 hk hk1 hG;have so:∀x∈G,bc x=true:=λx hx=>CN (H.sm x (H.hn x (hG x hx)));have c1:=rQ (s:=T) (cap:=[Za (.ref nb),Za (LS G)]) (c:=xTr (xCall 3 (oa a) (xCons (xVar 1) (xCons (xVar 0) (xCons (xVar 2) xNil))))) (e:=xVar 0) (λq=>match q with|.str x=>inG L G x|_=>false) (λq=>q) (G.map .str) (λq hq=>by obtain⟨x,hx,rfl⟩:=aj.mp hq;exact o5 (lU (lE (lC rfl) (lE (lC rfl) (lE (lC rfl) rfl))) rfl (L4 a H hb (hG x hx)))) (λq hq _=>lC rfl)
  have e1:(((G.map PV.str).filter λq=>match q with|.str x=>inG L G x|_=>false).map λq=>q)=(G.filter (inG L G)).map PV.str:=by rw[List.map_id',fO];rfl
  rw[e1] at c1;have hl:(G.map PV.str).length<=100000:=by rw[ac];omega
  have bd:∀o:SO,xSeq (xIf (xTr (x2 (xVar 2) (xVar 1) fEq)) (xRet (xVar 1)) xEnd) (xSet 1 (xVar 2)) [Za (.ref nb),Za (LS G),Za (LS (G.filter (inG L G)))] T=o->mv a [Za (.ref nb),Za (LS G),u2] T=o:=λo ho=>by unfold mv;exact lP (l9 (pf (l:=G.map .str) (s1:=T) (nr (lC rfl)) hl c1)) ho
  have eq:=eq_LS (s:=T) (U:=G.filter (inG L G)) (V:=G) (λx hx=>so x (bw.mp hx).1) so;by_cases z:G.filter (inG L G)=G
  ·rw[Zg z] at eq;refine⟨G,?_,⟨jJ _,λh hh=>?_,λV hV _ h hh=>hV h hh⟩⟩
   ·unfold mz;show(match mv a [Za (.ref nb),Za (LS G),u2] T with
     |.nx ρ' s'=>mz (xTr (xC (.bl true))) (mv a) (k+1) ρ' s'
     |.ct ρ' s'=>mz (xTr (xC (.bl true))) (mv a) (k+1) ρ' s'
     |.bk ρ' s'=>.nx ρ' s'
     |o=>o)=_
    rw[bd (.rt (LS G) T) (CP ((xU (s1:=T) (o5 ((lZ (lC rfl) (lC rfl)).trans eq))).trans (nI (lC rfl))))]
   ·rw[<-z] at hh;exact inG_iff.mp (bw.mp hh).2
  ·rw[Zh z] at eq;have lt:(G.filter (inG L G)).length<G.length:=by
    have:=fB (inG L G) G;by_cases q:(G.filter (inG L G)).length=G.length
    ·exact absurd (List.Sublist.eq_of_length k8 q) z
    ·omega
   obtain⟨G',e,W⟩:=ih (G.filter (inG L G)) (Za (LS (G.filter (inG L G)))) (by omega) (by omega) (λh hh=>hG h (bw.mp hh).1);refine⟨G',?_,⟨W.sl.trans k8,W.cl,λV hV cV h hh=>W.mx V (λy hy=>bw.mpr ⟨hV y hy,inG_iff.mpr λx hx=>hV x (cV y hy x hx)⟩) cV h hh⟩⟩;rw[mz];show(match mv a [Za (.ref nb),Za (LS G),u2] T with
    |.nx ρ' s'=>mz (xTr (xC (.bl true))) (mv a) (k+1) ρ' s'
    |.ct ρ' s'=>mz (xTr (xC (.bl true))) (mv a) (k+1) ρ' s'
    |.bk ρ' s'=>.nx ρ' s'
    |o=>o)=_
   rw[bd (.nx [Za (.ref nb),Za (LS (G.filter (inG L G))),Za (LS (G.filter (inG L G)))] T) (lP ((vx (s1:=T) (o5 ((lZ (lC rfl) (lC rfl)).trans eq))).trans rfl) (l9 (lC rfl)))];exact e
abbrev hsL(L:List Ent):List Str:=srt (L.map (·.nm))
def hsL_mem{L}:h∈hsL L↔l7 L h=true:=by rw[(lQ _).mem_iff,pM]
def pZ{L}:(hsL L).length=L.length:=by rw[(lQ _).length_eq,ac]
def Dq(a)(H:Ho L N)(hl:L.length<=64)(hb:T.get nb=Za (.book pp L)):∃G,oA a [.ref nb] T=.ok (LS G) T/\WG L (hsL L) G:=by obtain⟨G,e,W⟩:=wwalk a H hb (hsL L).length (hsL L) Zb (ap _) (by rw[pZ];omega) (λh hh=>hsL_mem.mp hh);refine⟨G,mE ?_,W⟩;unfold va;refine lP (l9 (v:=LS (hsL L)) (s':=T) ((pE (vs:=[]) (s2:=T) (lC rfl) hb rfl rfl).trans ?_)) (GE e);unfold na mH;simp only[hb]
def WG.noG{L}(W:WG L (hsL L) []):NoG L:=by
 intro G hG hh;refine de λz=>?_;cases G with
 |nil=>exact hG rfl
 |cons g G =>
  have:=W.mx (g::G) (λh Q8=>hsL_mem.mpr (hh h Q8)) (λh h1 x hx=>de λq=>z ⟨h,h1,x,hx,q⟩) g ag;cases this
def WG.nil{L}(W:WG L (hsL L) G)(ng:NoG L):G=[]:=by refine de λz=>?_;obtain⟨h,h1,x,h2,h3⟩:=ng G z λh hh=>hsL_mem.mp (W.sl.subset hh);exact h3 (W.cl h h1 x h2)
def LH(a:Adr)(H:Ho L N)(hl:L.length<=64)(ng:NoG L)(hb:T.get nb=Za (.book pp L)):nG a [.ref nb] T=.ok .non T:=by obtain⟨G,e,W⟩:=Dq a H hl hb;have:=W.nil ng;subst this;refine zR (Z:=[Za (.ref nb),Za (LS [])]) ?_;unfold oZ;refine lP (l9 (lU (lE (lC rfl) rfl) rfl e)) ((vx (s1:=T) (o5 ((lZ (lC rfl) (CV rfl)).trans ?_))).trans rfl);exact Ng (U:=[]) (V:=[]) (λ_ z=>nomatch z) (λ_ z=>nomatch z)
end
def nmD(ns:List Str)(g:Str->PV):List (Key×PV):=ns.map λn=>(af n,g n)
def FY(h:x∈ns):pP (nmD ns g) (af x)=Za (g x):=by
 unfold pP nmD;induction ns with
 |nil=>cases h
 |cons n ns ih =>
  rw[am,bG];by_cases e:n=x
  ·subst e;rw[show decide ((af n:Key)=af n)=true from Zg rfl];rfl
  ·rw[show decide ((af n:Key)=af x)=false from Zh λz=>e (cM z)];exact ih ((ah.mp h).resolve_left λz=>e z.symm)
def Om(h:x∉ns):pP (nmD ns g) (af x)=none:=by refine AV λz=>h ?_;obtain⟨kv,hk,e⟩:=aj.mp z;obtain⟨n,hn,rfl⟩:=aj.mp hk;exact cM e▸hn
theorem Bv:∀(ns:List Str)(Pq:List (Key×PV)),ns.Nodup->(∀n∈ns,(af n:Key)∉Pq.map (·.1))->AO Pq (ns.map λn=>.tup [.str n,g n])=Za (Pq++nmD ns g)
 |[],Pq,_,_=>by simp[AO,nmD]
 |n::ns,Pq,nd,h=>by
  obtain⟨n1,n2⟩:=ay.mp nd;have e:xw Pq (af n) (g n)=Pq++[(af n,g n)]:=by unfold xw;rw[Zd];intro z;obtain⟨kv,h1,h2⟩:=cL.mp z;exact h n ag (aj.mpr ⟨kv,h1,Zf h2⟩)
  have ih:=Bv (g:=g) ns (Pq++[(af n,g n)]) n2 λm hm z=>by
   rw[aw,aL] at z;rcases z with z|z
   ·exact h m (ae _ hm) z
   ·have:(af m:Key)=af n:=by simpa using z
    exact n1 (cM this▸hm)
  show AO (xw Pq (af n) (g n)) (ns.map λn=>.tup [.str n,g n])=_;rw[e,ih,List.append_assoc];rfl
def Fz(nd:ns.Nodup):AM [.lst (ns.map λn=>.tup [.str n,g n])] s=.ok (.dct (nmD ns g)) s:=by have:=Bv (g:=g) ns [] nd (λ_ _ z=>nomatch z);simp only[AM,lsOf,this,gU]
def HS(h:x∈ns):fIx (.dct (nmD ns g)) (.str x) s=.ok (g x) s:=by simp[fIx,lsOf,dcOf,kyOf,FY h]
def pcn(l:Hl):Nat:=((srt (l.map (·.1))).map λn=>(lT l n).2.toNat).foldl fK 1
def pc(l:Hl)(x:Str):Int:=(lT l x).1*((pcn l:Int)/(lT l x).2)
theorem D8{D:Nat}:∀(bs:List Nat)(p:Nat),0<p->p∣D->(∀b∈bs,0<b/\b∣D)->0<bs.foldl fK p/\p∣bs.foldl fK p/\bs.foldl fK p∣D/\∀b∈bs,b∣bs.foldl fK p
 |[],p,h0,hd,_=>⟨h0,Nat.dvd_refl _,hd,λ_ z=>nomatch z⟩
 |b::bs,p,h0,hd,hb=>by
  obtain⟨b0,bd⟩:=hb b ag;obtain⟨a1,a2,a3,a4⟩:=D8 bs (fK p b) (Nat.lcm_pos h0 b0) (Nat.lcm_dvd hd bd) λx hx=>hb x (ae _ hx);refine⟨a1,Nat.dvd_trans (Nat.dvd_lcm_left p b) a2,a3,λx hx=>?_⟩;rcases ah.mp hx with e|hx
  ·subst e;exact Nat.dvd_trans (Nat.dvd_lcm_right p x) a2
  ·exact a4 x hx
def Ja(p b:Nat):(p:Int)*((b:Int)/((aD (p:Int) (b:Int):Nat):Int))=(fK p b:Nat):=by rw[show aD (p:Int) (b:Int)=Nat.gcd p b from rfl,<-Int.natCast_ediv,<-Int.natCast_mul];unfold fK;rw[Nat.mul_div_assoc _ (Nat.gcd_dvd_right p b)]
section
variable{k:Nat}{l hz:Hl}
def HR.den(R:HR k l hz):∃D:Nat,0<D/\Bt (97*k+1) (D:Int)/\∀x,(lT l x).2.toNat∣D:=by
 obtain⟨D,U,d0,db,on⟩:=R.dv;refine⟨D.toNat,by lia,by rw[eM (by lia)];exact db,λx=>?_⟩;have h:=(on x).dvd;rw[<-R.q] at h;have b0:=(R.fr x).low.1;have:(((lT l x).2.toNat:Nat):Int)∣(D.toNat:Int):=by rw[eM (by lia),eM (by lia)];exact h
 exact fb.mp this
def HR.pieces(R:HR k l hz):0<pcn l/\Bt (97*k+1) (pcn l:Int)/\∀x,(lT l x).2∣(pcn l:Int):=by
 obtain⟨D,d0,db,dv⟩:=R.den;obtain⟨a1,a2,a3,a4⟩:=D8 (D:=D) ((srt (l.map (·.1))).map λn=>(lT l n).2.toNat) 1 (by decide) (Nat.one_dvd _) λb hb=>by obtain⟨n,hn,rfl⟩:=aj.mp hb;exact⟨by have:=(R.fr n).low.1;lia,dv n⟩
 refine⟨a1,db.dvd (by lia) (fb.mpr a3),λx=>?_⟩;by_cases hx:x∈l.map (·.1)
 ·have:=a4 (lT l x).2.toNat (aj.mpr ⟨x,(lQ _).mem_iff.mpr hx,rfl⟩);have:=fb.mpr this;rw[eM (bF (R.fr x).low.1)] at this;exact this
 ·rw[uZ hx];exact Int.one_dvd _
def HR.pc_val(R:HR k l hz)(x):((pc l x:Int):Rat)=(pcn l:Int)*rv (lT l x):=by
 obtain⟨a1,a2,a3⟩:=R.pieces;obtain⟨m,hm⟩:=a3 x;have b0:=(R.fr x).low.1;unfold pc rv;rw[hm,cP _ (by lia),Rat.divInt_eq_div,cT,cT];have:(((lT l x).2:Int):Rat)≠0:=λz=>by have:=jX.mp z;lia
 grind
def OU(a)(s)(R:HR k l hz)(hk:k<=41)(hl:l.length<64):HV a [pV l] s=.ok (.dct (nmD (srt (l.map (·.1))) λx=>.int (pc l x))) s:=by
 obtain⟨D,d0,db,dv⟩:=R.den;have sh:∀x,Bt 9000 (lT l x).2/\0<(lT l x).2/\Bt 9000 (lT l x).1:=λx=>⟨(R.fr x).bb.mono (by lia),(R.fr x).low.1,(R.fr x).top.mono (by lia)⟩;have bD:∀p:Nat,0<p->p∣D->Bt 9000 (p:Int):=λp h0 hp=>(db.dvd (by lia) (fb.mpr hp)).mono (by lia);have lp:∀(ns:List Str)(p:Nat)(u2 u3:Option PV),0<p->p∣D->∃v2 v3,nM (mK (yTup 2 (yCons (yName 2) (yCons (yName 3) yNil))) (wG a)) (ns.map λn=>qw (mj l n)) [Za (pV l),Za (.int (p:Nat)),u2,u3] s=.nx [Za (pV l),Za (.int (((ns.map λn=>(lT l n).2.toNat).foldl fK p:Nat):Int)),v2,v3] s:=by
  intro ns;induction ns with
  |nil=>exact λp u2 u3 _ _=>⟨u2,u3,rfl⟩
  |cons n ns ih =>
   intro p u2 u3 p0 pd;obtain⟨s1,s2,s3⟩:=sh n;have eb:((lT l n).2.toNat:Int)=(lT l n).2:=eM (by lia);have ld:=Nat.lcm_dvd pd (dv n);have l0:0<fK p (lT l n).2.toNat:=Nat.lcm_pos p0 (by lia);obtain⟨v2,v3,e⟩:=ih (fK p (lT l n).2.toNat) (Za (.str n)) (Za (frP (lT l n))) l0 ld;refine⟨v2,v3,?_⟩;rw[am,am,List.foldl_cons];unfold nM;have gp:0<aD (p:Int) (lT l n).2:=bH _ (by lia);have gb:Bt 9000 ((aD (p:Int) (lT l n).2:Nat):Int):=s1.dvd (by lia) (cm ..);have bd:mK (yTup 2 (yCons (yName 2) (yCons (yName 3) yNil))) (wG a) (qw (mj l n)) [Za (pV l),Za (.int (p:Nat)),u2,u3] s=.nx [Za (pV l),Za (.int ((fK p (lT l n).2.toNat:Nat):Int)),Za (.str n),Za (frP (lT l n))] s:=by rw[Hu];show wG a [Za (pV l),Za (.int (p:Nat)),Za (.str n),Za (frP (lT l n))] s=_;unfold wG;have st:=Ja p (lT l n).2.toNat;rw[eb] at st;rw[<-st];refine l9 (rb (lC rfl) (Az ((lZ (lC rfl) rfl).trans ix1) (lU (lE (lC rfl) (lE ((lZ (lC rfl) rfl).trans ix1) rfl)) rfl (show mL a [.int (p:Nat),.int (lT l n).2] s=.ok (.int ((aD (p:Int) (lT l n).2:Nat):Int)) s from Zc s2)) ⟨by lia,gb⟩) (rC (bD p p0 pd) s1.div))
   rw[bd];exact e
 obtain⟨v2,v3,e⟩:=lp (srt (l.map (·.1))) 1 Zb Zb (by decide) (Nat.one_dvd _);obtain⟨a1,a2,a3⟩:=R.pieces;refine mE ?_;unfold No;refine lP (l9 (v:=.int 1) (s':=s) rfl) ?_;refine lP (re (nr (lC rfl)) e) ?_;have c:=ud (s:=s) (cap:=[Za (.int (pcn l:Nat))]) (e:=xTup (xCons (xVar 0) (xCons (x2 (x2 (xVar 1) (xC (.int 0)) fIx) (x2 (xVar 2) (x2 (xVar 1) (xC (.int 1)) fIx) fDiv) fMul) xNil))) l (λn=>.tup [.str n,.int (pc l n)]) (srt (l.map (·.1))) λn _=>by obtain⟨s1,s2,s3⟩:=sh n;rw[show(mj l n).2=lT l n from rfl];exact sY (lE (lC rfl) (lE (rb ((lZ (lC rfl) rfl).trans ix0) (Az (lC rfl) ((lZ (lC rfl) rfl).trans ix1) ⟨s2,s1⟩) (rC s3 (a2.mono (by lia)).div)) rfl))
 refine nI ((wH (lE (v:=.lst ((srt (l.map (·.1))).map λn=>.tup [.str n,.int (pc l n)])) (s1:=s) ?_ rfl)).trans (Fz ((lQ _).nodup_iff.mpr R.n1)));unfold oI;rw[nr (l:=(srt (l.map (·.1))).map λn=>qw (mj l n)) (s1:=s) (lC rfl)];show(if((srt (l.map (·.1))).map λn=>qw (mj l n)).length<=100000 then _ else _)=_;rw[Zc (by rw[ac,(lQ _).length_eq,ac];lia)];show(mC mU _ [Za (.int (pcn l:Nat))] _ s).bind _=_;rw[c];rfl
end
structure Gr(T T':Sto):Prop where
 nx:T.nx<=T'.nx
 fr:∀k,k<T.nx->T'.get k=T.get k
def Gr.refl(T):Gr T T:=⟨ap _,λ_ _=>rfl⟩
theorem Gr.trans(h:Gr A B)(k:Gr B C):Gr A C:=⟨aH h.nx k.nx,λj hj=>(k.fr j (aA hj h.nx)).trans (h.fr j hj)⟩
theorem Gr.add(T)(c):Gr T (T.add c):=⟨fL _,λk hk=>by rw[ms,Zd (by lia)]⟩
theorem BB(f):∀(l:List PV),(∀q∈l,∀s,Gr T s->∃s',e (Za q::cap) s=.ok (f q) s'/\Gr T s')->∀s,Gr T s->∃s',nl mU e cap l s=.ok (l.map f) s'/\Gr T s'
 |[],_,s,g=>⟨s,rfl,g⟩
 |q::l,h,s,g=>by obtain⟨s1,e1,g1⟩:=h q ag s g;obtain⟨s2,e2,g2⟩:=BB f l (λq hq=>h q (ae _ hq)) s1 g1;refine⟨s2,?_,g2⟩;rw[oH];simp only[mU,e1,e2,am]
def pl(L:List Ent)(h:Str):Hl:=match mB L h with
 |some e=>e.held
 |none=>[]
def cv(L:List Ent)(h:Str):PV:=.dct (nmD (own L h) λx=>.int (pc (pl L h) x))
def av(L:List Ent):PV:=.dct (nmD (hsL L) (cv L))
theorem rK(f:α->Int):∀l:List α,(((l.map f).sum:Int):Rat)=mq (l.map λx=>((f x:Int):Rat))
 |[]=>rfl
 |x::l=>by rw[am,iF,gZ,rK f l];rfl
def J9(hx:bc x=true)(hy:bc y=true):fEq (.str x) (.str y) s=.ok (.bl (decide (x=y))) s:=by
 have e:∀x,bc x=true->PV.data s 12 (.str x)=Za (.str x):=λx h=>by unfold PV.data;rw[Zc h]
 show fEqN false _ _ _=_;unfold fEqN;rw[e x hx,e y hy];show Out.ok (PV.bl (bu (.str x) (.str y))) s=_;unfold bu
 congr 2
def Gc(h1:f Z s=.ok (.dct l) s)(h2:g Z s=.ok (.str w) s)(h3:h Z s=.ok z s):xGet f g h Z s=.ok ((pP l (af w)).getD z) s:=by unfold xGet;rw[h1];simp only[Out.bind,dcOf];rw[h2];simp only[h3,kyOf]
section
variable{T:Sto}{nb:Nat}{pp N:List Str}{L:List Ent}{c:Nat}
theorem Gd.held(g:Gd L N c)(hh:l7 L h=true):∃e k hz,mB L h=Za e/\pl L h=e.held/\own L h=srt ((pl L h).map (·.1))/\HR k (My.pl L h) hz/\k<=c/\(∀x,shr L h x=rv (lT (My.pl L h) x))/\e∈L/\e.nm=h:=by
 obtain⟨e,f,o,s⟩:=g.ent hh;obtain⟨k,hz,R,kc⟩:=g.hr f;have ep:My.pl L h=e.held:=by unfold My.pl;rw[f]
 exact⟨e,k,hz,f,ep,by rw[ep];exact o,by rw[ep];exact R,kc,λx=>by rw[ep];exact s x,(ux f).1,(ux f).2⟩
def Gd.hnd(g:Gd L N c):(hsL L).Nodup:=(lQ _).nodup_iff.mpr g.nd
def Gd.hok(g:Gd L N c)(hh:h∈hsL L):bc h=true:=CN (g.ho.sm h (g.ho.hn h (hsL_mem.mp hh)))
def Kh(g:Gd L N c)(h x):(pP (nmD (own L h) λx=>.int (pc (pl L h) x)) (af x)).getD (.int 0)=.int (pc (pl L h) x):=by
 by_cases hx:x∈own L h
 ·rw[FY hx];rfl
 ·rw[Om hx];show PV.int 0=_;have:x∉(pl L h).map (·.1):=λz=>hx (by
   unfold own;unfold pl at z;cases e:mB L h with
   |none=>rw[e] at z;cases z
   |some e'=>rw[e] at z;exact(lQ _).mem_iff.mpr z)
  unfold pc;rw[uZ this];show PV.int 0=PV.int (0*_);rw[i8]
def Gd.pc_sum(g:Gd L N c)(hh:l7 L h=true):((own L h).map (pc (My.pl L h))).sum=(pcn (My.pl L h):Int):=by
 obtain⟨e,k,hz,f,ep,o,R,kc,sv,_⟩:=g.held hh;refine Rat.intCast_inj.mp ?_;rw[rK];have:mq ((own L h).map λx=>((pc (My.pl L h) x:Int):Rat))=mq ((own L h).map λx=>((pcn (My.pl L h):Int):Rat)*shr L h x):=mF λx _=>by rw[R.pc_val,sv]
 rw[this,qG,g.one hh,Rat.mul_one]
def Fd(a)(g:Gd L N c)(hb:T.get nb=Za (.book pp L)):xt a [.ref nb] T=.ok (av L) T:=by
 refine mE ?_;unfold Bs;have c1:=rP (s:=T) (cap:=[Za (.ref nb)]) (e:=xTup (xCons (xVar 0) (xCons (xCall 1 (HV a) (xCons (xBM 2 (m9 a) (xVar 1) (xCons (xVar 0) xNil)) xNil)) xNil))) (λh=>.tup [.str h,cv L h]) (hsL L) (λh hh=>by
  have hh:=hsL_mem.mp hh;obtain⟨e,k,hz,f,ep,o,R,kc,sv,_⟩:=g.held hh;have hl:=(g.ho.ow h e f).1;have sh:m9 a [.ref nb,.str h] T=.ok (pV (pl L h)) T:=by simp only[m9,mH,hb];rw[Zc (g.ho.sm h (g.ho.hn h hh)).nm,f,ep];exact Zc hl
  have ct:=OU a T R (by have:=g.c40;lia) (by rw[ep];exact hl);rw[<-o] at ct;exact sY (lE (lC rfl) (lE (lU (lE ((pE (lC rfl) hb (lE (lC rfl) rfl) rfl).trans sh) rfl) rfl ct) rfl)))
 refine nI ((wH (lE (pf (l:=(hsL L).map .str) (s1:=T) (nr ((pE (vs:=[]) (s2:=T) (lC rfl) hb rfl rfl).trans ?_)) (by rw[ac,pZ];have:=g.l8;lia) c1) rfl)).trans (Fz g.hnd));unfold na mH;simp only[hb]
def owr(L:List Ent)(h:Str):List Int:=(hsL L).map λo=>(if o=h then(pcn (pl L h):Int) else 0)-pc (pl L o) h
def unr(L:List Ent)(h:Str):List Int:=(hsL L).map λo=>if o=h then 1 else 0
def GX(a)(g:Gd L N c)(hh:h∈hsL L)(T):z6 a [.str h,LS (hsL L),av L] T=.ok (.ref T.nx) (T.add (.lst ((owr L h).map .int))):=by
 refine mE ?_;unfold D6;have l8:(hsL L).length<=8:=by rw[pZ];exact g.l8
 have c1:=xk (s:=T) (cap:=[Za (.str h),Za (av L)]) (e:=x1 (xGet (x2 (xVar 2) (xVar 0) fIx) (xVar 1) (xC (.int 0))) fNeg) (λo=>-pc (pl L o) h) (hsL L) (λo ho=>by
  have e1:xGet (x2 (xVar 2) (xVar 0) fIx) (xVar 1) (xC (.int 0)) [Za (.str o),Za (.str h),Za (av L)] T=.ok (.int (pc (pl L o) h)) T:=by rw[Gc ((lZ (lC rfl) (lC rfl)).trans (HS ho)) (lC rfl) rfl,Kh g]
  unfold x1;rw[e1];rfl)
 have cc:xZ (xIter (xVar 1)) [0,2] mU (x1 (xGet (x2 (xVar 2) (xVar 0) fIx) (xVar 1) (xC (.int 0))) fNeg) [Za (.str h),Za (LS (hsL L)),Za (av L),Zb] T=.ok (.ref T.nx) (T.add (.lst (((hsL L).map λo=>-pc (pl L o) h).map PV.int))):=by unfold xZ;rw[nr (l:=(hsL L).map .str) (s1:=T) (lC rfl)];show(if((hsL L).map PV.str).length<=100000 then _ else _)=_;rw[Zc (by rw[ac];lia)];show(nl mU _ [Za (.str h),Za (av L)] _ T).bind _=_;rw[c1];rfl
 refine lP (l9 cc) ?_;generalize hT:T.add (.lst (((hsL L).map λo=>-pc (pl L o) h).map PV.int))=T1;have g1:T1.get T.nx=Za (.lst (((hsL L).map λo=>-pc (pl L o) h).map PV.int)):=by rw[<-hT,ms,Zc rfl]
 obtain⟨i,hi⟩:∃i,(hsL L).findIdx? (λz=>decide (z=h))=Za i:=by
  cases e:(hsL L).findIdx? (λz=>decide (z=h)) with
  |some i=>exact⟨i,rfl⟩
  |none=>exact absurd (Zg rfl) (by rw[List.findIdx?_eq_none_iff] at e;rw[e h hh];decide)
 obtain⟨il,ie,_⟩:=iQ.mp hi;have ie:(hsL L)[i]=h:=Zf ie;have ix:z7 (xVar 1) (xCons (xVar 0) xNil) [Za (.str h),Za (LS (hsL L)),Za (av L),Za (.ref T.nx)] T1=.ok (.int (i:Nat)) T1:=by unfold z7;rw[lC (i:=1) (v:=LS (hsL L)) rfl,uB];have ca:xCons (xVar 0) xNil [Za (.str h),Za (LS (hsL L)),Za (av L),Za (.ref T.nx)] T1=.ok [.str h] T1:=lE (lC (i:=0) (v:=.str h) rfl) rfl;simp only[ca,uB,vm,hi];rw[Zc (by lia)]
 have sv:Eo (x2 (xVar 2) (xVar 0) fIx) [Za (.str h),Za (LS (hsL L)),Za (av L),Za (.ref T.nx)] T1=.ok (.int (pcn (pl L h):Nat)) T1:=by
  unfold Eo;have e2:(nmD (own L h) λx=>PV.int (pc (pl L h) x)).map (λkv:Key×PV=>kv.2)=((own L h).map (pc (pl L h))).map PV.int:=by unfold nmD;rw[aE,aE];rfl
  rw[(lZ (lC (i:=2) (v:=av L) rfl) (lC (i:=0) (v:=.str h) rfl)).trans (HS hh),uB];show(match tj ((nmD (own L h) λx=>PV.int (pc (pl L h) x)).map λkv:Key×PV=>kv.2) with
    |some is=>Out.ok (PV.int is.sum) T1
    |none=>.bad)=_
  rw[e2,vw];simp only[g.pc_sum (hsL_mem.mp hh)]
 refine lP (ρ':=[Za (.str h),Za (LS (hsL L)),Za (av L),Za (.ref T.nx)]) (s':=T.add (.lst ((owr L h).map .int))) ?_ (nI (lC rfl));show HI (xVar 3) (z7 (xVar 1) (xCons (xVar 0) xNil)) (Eo (x2 (xVar 2) (xVar 0) fIx)) [Za (.str h),Za (LS (hsL L)),Za (av L),Za (.ref T.nx)] T1=_;unfold HI;rw[lC (i:=3) (v:=.ref T.nx) rfl];simp only[Out.so];rw[ix];simp only[Out.so,g1,Int.toNat_natCast];rw[Zc (by lia)];have gi:(((hsL L).map λo=>-pc (pl L o) h).map PV.int)[i]?=Za (.int (-pc (pl L h) h)):=by rw[aC,aC,au il,ie];rfl
 rw[gi];simp only[sv,g1];rw[Zc (by rw[ac,ac];exact il)];have row:(((hsL L).map λo=>-pc (pl L o) h).map PV.int).set i (.int (-pc (pl L h) h+(pcn (pl L h):Nat)))=(owr L h).map .int:=by
  refine iY λj=>?_;rw[List.getElem?_set];unfold owr;by_cases q:i=j
  ·subst q;rw[Zc rfl,Zc (by rw[ac,ac];exact il),aC,aC,au il,ie];show Za (PV.int (-pc (pl L h) h+(pcn (pl L h):Nat)))=Za (PV.int ((if h=h then(pcn (pl L h):Int) else 0)-pc (pl L h) h));rw[Zc rfl]
   congr 2
   lia
  ·rw[Zd q,aC,aC,aC,aC];cases e:(hsL L)[j]? with
   |none=>rfl
   |some o =>
    have:o≠h:=λz=>q ((List.getElem?_inj il g.hnd).mp (by rw[e,z,au il,ie]));show Za (PV.int (-pc (pl L o) h))=Za (PV.int ((if o=h then(pcn (pl L h):Int) else 0)-pc (pl L o) h));rw[Zd this]
    congr 2
    lia
 rw[row,<-hT,sL]
def Jx(a)(g:Gd L N c)(hh:h∈hsL L)(T):qQ a [.str h,LS (hsL L),av L] T=.ok (LI (owr L h++unr L h)) (T.add (.lst ((owr L h).map .int))):=by
 have l8:(hsL L).length<=8:=by rw[pZ];exact g.l8
 refine mE ?_;unfold xD;generalize hT:T.add (.lst ((owr L h).map .int))=T1;have g1:T1.get T.nx=Za (.lst ((owr L h).map .int)):=by rw[<-hT,ms,Zc rfl]
 have ow:=GX a g hh T;rw[hT] at ow;have c1:=xk (s:=T1) (cap:=[Za (.str h)]) (e:=xIfe (xTr (x2 (xVar 0) (xVar 1) fEq)) (xC (.int 1)) (xC (.int 0))) (λo=>if o=h then 1 else 0) (hsL L) (λo ho=>by
  have e1:xTr (x2 (xVar 0) (xVar 1) fEq) [Za (.str o),Za (.str h)] T1=.ok (decide (o=h)) T1:=o5 ((lZ (lC rfl) (lC rfl)).trans (J9 (g.hok ho) (g.hok hh)));unfold xIfe;rw[e1];by_cases z:o=h
  ·rw[Zg z];show Out.ok (PV.int 1) T1=Out.ok (PV.int (if o=h then 1 else 0)) T1;rw[Zc z]
  ·rw[Zh z];show Out.ok (PV.int 0) T1=Out.ok (PV.int (if o=h then 1 else 0)) T1;rw[Zd z])
 change nl _ _ _ _ _=.ok ((unr L h).map .int) T1 at c1
 refine nI ((lZ (lU (lE (lC rfl) (lE (lC rfl) (lE (lC rfl) rfl))) rfl ow) (pf (l:=(hsL L).map .str) (s1:=T1) (nr (lC rfl)) (by rw[ac];lia) c1)).trans ?_);have lo:(owr L h).length<=8:=by unfold owr;rw[ac];exact l8
 have lu:(unr L h).length<=8:=by unfold unr;rw[ac];exact l8
 simp only[fAdd,lsOf,g1];rw[Zc (by rw[ac,ac];lia),<-aw]
end
end My
namespace El
def Zm.scale(h:Zm n 0 S)(q:Nat->Rat)(hq:∀j,j<n->0<q j)(e:∀i j,i<n->j<n->T i j=q j*S i j):Zm n 0 T:=by
 have gse:∀G j,j<n->gs n G T j=q j*gs n G S j:=λG j hj=>by
  unfold gs;rw[<-sm_mul];refine sm_congr λi hi=>?_;split
  ·exact e i j hi hj
  ·exact(ky _).symm
 refine⟨λi j _ hi _ hj PL=>?_,λG hG j hj Gj=>?_,λG hG hx=>?_⟩
 ·rw[e i j hi hj];have:=h.off i j (aZ _) hi (aZ _) hj PL;have:=bL (a:=q j) (b:=-S i j) (kA (hq j hj)) (by grind)
  grind
 ·rw[gse G j hj];exact bL (kA (hq j hj)) (h.col G hG j hj Gj)
 ·obtain⟨j,Gj,p⟩:=h.grp G hG hx;have hj:=(hG j Gj).2;exact⟨j,Gj,by rw[gse G j hj];exact ij (hq j hj) p⟩
def ab_int(z:Int):ab (z:Rat)=((z.natAbs:Nat):Rat):=by
 unfold ab;split
 ·rename_i h;have:z<0:=fm.mp h;rw[<-Rat.intCast_neg,<-cI]
  congr 1
  lia
 ·rename_i h;have:¬z<0:=λq=>h (fm.mpr q);rw[<-cI]
  congr 1
  lia
end El
namespace My
open PySem L2 Fra
def oG:List Nat->Nat
 |[]=>1
 |x::l=>x*oG l
theorem wV:∀l m:List Nat,oG (l++m)=oG l*oG m
 |[],m=>(Nat.one_mul _).symm
 |x::l,m=>by show x*oG (l++m)=x*oG l*oG m;rw[wV l m,jV]
def EH(h:l.Perm m):oG l=oG m:=by
 induction h with
 |nil=>rfl
 |cons x _ ih=>show x*_=x*_;rw[ih]
 |swap x y l=>show y*(x*oG l)=x*(y*oG l);rw[<-jV,<-jV,kF y]
 |trans _ _ a b=>exact a.trans b
theorem FS(f:Str->Nat):∀k,k<=U.length->El.pr (λi=>((f (nth U i):Nat):Rat)) k=((oG ((U.take k).map f):Nat):Rat)
 |0,_=>rfl
 |k+1,hk=>by show El.pr _ k*_=_;rw[FS f k (by lia),dW,(nT (U:=U) (i:=k) (by lia)).1,aw,wV,jk];show _*((f (nth U k):Nat):Rat)=_*(((f (nth U k))*1:Nat):Rat);rw[Nat.mul_one]
theorem Cts.prod:∀{c:Nat}{L:List Ent},Cts c L->oG (L.map λe=>2*pcn e.held)<=2^(97*c+2*L.length)
 |_,_,.nil=>Nat.one_le_two_pow
 |_,_,.cons (c1:=c1) (c2:=c2) (c:=c) (e:=e) (L:=L) ⟨hz,R⟩ r q=>by
  have ih:=r.prod;obtain⟨_,b,_⟩:=R.pieces;have b:pcn e.held<2^(97*c1+1):=b;show 2*pcn e.held*oG (L.map λe=>2*pcn e.held)<=_;have h1:2*pcn e.held<=2^(97*c1+2):=by rw[show 97*c1+2=97*c1+1+1 from rfl,gS];lia
  refine aH (Nat.mul_le_mul h1 ih) ?_;rw[<-iu];refine b8 (by decide) ?_;rw[bh];lia
section
variable{T:Sto}{nb:Nat}{pp N:List Str}{L:List Ent}{c:Nat}
abbrev mX(L:List Ent):List (List Int):=(hsL L).map λh=>owr L h++unr L h
def qn(L:List Ent)(j:Nat):Nat:=pcn (pl L (nth (hsL L) j))
def DJ(hi:i<(hsL L).length):(mX L)[i]?=Za (owr L (nth (hsL L) i)++unr L (nth (hsL L) i)):=by rw[aC,(nT hi).1];rfl
def FO(hi:i<(hsL L).length)(hj:j<(hsL L).length):at2 (mX L) i j=(if nth (hsL L) j=nth (hsL L) i then(pcn (pl L (nth (hsL L) i)):Int) else 0)-pc (pl L (nth (hsL L) j)) (nth (hsL L) i):=by
 refine qE (DJ hi) ?_;have hl:(owr L (nth (hsL L) i)).length=(hsL L).length:=by unfold owr;rw[ac]
 rw[dk (by lia)];unfold owr;rw[aC,(nT hj).1];rfl
def FP(hi:i<(hsL L).length)(hj:j<(hsL L).length):at2 (mX L) i ((hsL L).length+j)=if nth (hsL L) j=nth (hsL L) i then 1 else 0:=by
 refine qE (DJ hi) ?_;have hl:(owr L (nth (hsL L) i)).length=(hsL L).length:=by unfold owr;rw[ac]
 rw[cG (by lia),hl,km];unfold unr;rw[aC,(nT hj).1];rfl
def Is(hj:2*(hsL L).length<=j):at2 (mX L) i j=0:=by
 unfold at2;rw[aC];cases e:(hsL L)[i]? with
 |none=>rfl
 |some h =>
  show((owr L h++unr L h)[j]?).getD 0=0;rw[cJ]
  ·rfl
  ·rw[aJ];unfold owr unr;rw[ac,ac];lia
def Gd.mul(g:Gd L N c)(hi:i<(hsL L).length)(hj:j<(hsL L).length):((at2 (mX L) i j:Int):Rat)=(qn L j:Rat)*mA L (hsL L) i j:=by
 rw[FO hi hj];obtain⟨e,k,hz,f,ep,o,R,kc,sv,_⟩:=g.held (hsL_mem.mp (nT hj).2);have pv:=R.pc_val (nth (hsL L) i);rw[<-sv] at pv;unfold mA qn;rw[gY,pv,cI];by_cases q:i=j
 ·subst q;rw[Zc rfl,Zc rfl,cI]
  grind
 ·rw[Zd q,Zd λz=>q (yQ g.hnd hj hi z).symm];show((0:Int):Rat)-_=_;have:((0:Int):Rat)=0:=rfl
  grind
def Gd.qpos(g:Gd L N c)(hj:j<(hsL L).length):1<=qn L j:=by obtain⟨e,k,hz,f,ep,o,R,kc,sv,_⟩:=g.held (hsL_mem.mp (nT hj).2);exact R.pieces.1
def Gd.zmr(g:Gd L N c)(ng:NoG L):El.Zm (hsL L).length 0 λi j=>((at2 (mX L) i j:Int):Rat) :=
 (g.zm ng g.hnd λx hx=>hsL_mem.mp hx).scale (λj=>(qn L j:Rat)) (λj hj=>by
  have:=g.qpos hj;have h:((0:Nat):Rat)<((qn L j:Nat):Rat):=by rw[<-cI,<-cI];exact fm.mpr (by lia)
  exact h) λi j hi hj=>g.mul hi hj
def bC(L:List Ent)(j:Nat):Nat:=if j<(hsL L).length then 2*qn L j else 1
def Gd.sub1(g:Gd L N c)(hh:l7 L h=true):mq ((hsL L).map (shr L h))<=1:=by
 rw[vZ g.hnd (g.ond h) (λx _ z=>g.zero z),<-g.one hh];refine yB λx _=>?_;have:=g.nn h x;split
 ·exact im
 ·exact this
def Gd.col(g:Gd L N c)(j):El.sm (λr=>El.ab ((at2 (mX L) r j:Int):Rat)) (hsL L).length<=(bC L j:Rat):=by
 unfold bC;by_cases hj:j<(hsL L).length
 ·rw[Zc hj];have hh:=hsL_mem.mp (nT hj).2;have q0:(0:Rat)<=(qn L j:Rat):=by have:((0:Nat):Rat)<=(qn L j:Rat):=cH.mpr (aZ _);exact this
  have e:El.sm (λr=>El.ab ((at2 (mX L) r j:Int):Rat)) (hsL L).length<=El.sm (λr=>(qn L j:Rat)*(1*(if r=j then 1 else 0)+1*shr L (nth (hsL L) j) (nth (hsL L) r))) (hsL L).length:=El.sm_mono λr hr=>by
   rw[g.mul hr hj,El.ab_mul];have a1:El.ab (qn L j:Rat)=(qn L j:Rat):=by unfold El.ab;rw[Zd];grind
   rw[a1];refine dJ ?_ q0;unfold mA;have:=g.nn (nth (hsL L) j) (nth (hsL L) r);unfold El.ab;split<;>grind
  refine cY e ?_;rw[El.sm_mul,El.sm_lin,El.sm_one hj (λk _ hk=>Zd hk),Zc rfl,CO (λx=>shr L (nth (hsL L) j) x)];have s1:=g.sub1 hh;have:(((2*qn L j:Nat):Nat):Rat)=(qn L j:Rat)*2:=by rw[kF,jk];rfl
  rw[this];refine dJ ?_ q0
  grind
 ·rw[Zd hj];show _<=(1:Rat);by_cases h2:j<2*(hsL L).length
  ·obtain⟨k,rfl⟩:∃k,j=(hsL L).length+k:=⟨j-(hsL L).length,by lia⟩;have hk:k<(hsL L).length:=by lia
   have e:El.sm (λr=>El.ab ((at2 (mX L) r ((hsL L).length+k):Int):Rat)) (hsL L).length=El.sm (λr=>if r=k then 1 else 0) (hsL L).length:=El.sm_congr λr hr=>by
    rw[FP hr hk];by_cases q:r=k
    ·subst q;rw[Zc rfl,Zc rfl];rfl
    ·rw[Zd q,Zd λz=>q (yQ g.hnd hk hr z).symm];rfl
   rw[e,El.sm_one hk (λk _ hk=>Zd hk),Zc rfl];exact im
  ·rw[El.sm_zero λr hr=>by rw[Is (by lia)];rfl];decide
def Gd.bC1(g:Gd L N c)(j):1<=bC L j:=by
 unfold bC;split
 ·rename_i h;have:=g.qpos h;lia
 ·exact ap _
def Gd.bCle(g:Gd L N c)(j):bC L j<=2^3980:=by
 unfold bC;split
 ·rename_i h;obtain⟨e,k,hz,f,ep,o,R,kc,sv,_⟩:=g.held (hsL_mem.mp (nT h).2);have b:pcn (pl L (nth (hsL L) j))<2^(97*k+1):=R.pieces.2.1;have c4:=g.c40;have:2^(97*k+1)<=2^3979:=b8 (by decide) (by lia);have e2:2^3980=2^3979*2:=gS ..;unfold qn;rw[e2];generalize 2^3979=m at *;lia
 ·exact Nat.one_le_two_pow
theorem Gd.prod(g:Gd L N c)(ht:t<=(hsL L).length):El.pr (λj=>(bC L j:Rat)) t<=((2^3993:Nat):Rat):=by
 have e0:∀k,k<=(hsL L).length->El.pr (λj=>(bC L j:Rat)) k=((oG (((hsL L).take k).map λh=>2*pcn (pl L h)):Nat):Rat):=λk hk=>by rw[<-FS (U:=hsL L) (λh=>2*pcn (pl L h)) k hk];refine El.pr_congr λj hj=>?_;unfold bC qn;rw[Zc (by lia)]
 have Vz:oG ((hsL L).map λh=>2*pcn (pl L h))<=2^3993:=by
  have p1:oG ((hsL L).map λh=>2*pcn (pl L h))=oG ((L.map (·.nm)).map λh=>2*pcn (pl L h)):=EH ((lQ _).map _);have p2:(L.map (·.nm)).map (λh=>2*pcn (pl L h))=L.map λe=>2*pcn e.held:=by
   rw[aE];refine aV λe he=>?_;show 2*pcn (pl L e.nm)=_;obtain⟨A,B,rfl⟩:=List.append_of_mem he;have hn:e.nm∉A.map (·.nm):=λz=>by have:=g.nd;rw[aw,am] at this;exact(bK.mp this).2.2 _ z _ ag rfl
   unfold pl;rw[wc hn]
  rw[p1,p2];refine aH g.ct.prod (b8 (by decide) ?_);have:=g.c40;have:=g.l8;lia
 rw[e0 t ht];refine cH.mpr (aH ?_ Vz);have sp:oG ((hsL L).map λh=>2*pcn (pl L h))=oG (((hsL L).take t).map λh=>2*pcn (pl L h))*oG (((hsL L).drop t).map λh=>2*pcn (pl L h)):=by rw[<-wV,<-aw,kI]
 rw[sp];refine Nat.le_mul_of_pos_right _ ?_;have pos:∀l:List Str,(∀h∈l,h∈hsL L)->0<oG (l.map λh=>2*pcn (pl L h)):=λl=>by
  induction l with
  |nil=>exact λ_=>Nat.one_pos
  |cons h l ih =>
   intro hl;obtain⟨e,k,hz,f,ep,o,R,kc,sv,_⟩:=g.held (hsL_mem.mp (hl h ag));have p:=R.pieces.1;have i:=ih λy hy=>hl y (ae _ hy);show 0<2*pcn (pl L h)*oG (l.map λh=>2*pcn (pl L h));exact k7 (k7 (by decide) p) i
 exact pos _ λh hh=>kN hh
def K5:(owr L h++unr L h).length=2*(hsL L).length:=by rw[aJ];unfold owr unr;rw[ac,ac];lia
def Gd.bm(g:Gd L N c)(ng:NoG L):=Kk (rows:=mX L) (n:=(hsL L).length) (w:=2*(hsL L).length) (by rw[ac]) (λrow hr=>by obtain⟨h,_,rfl⟩:=aj.mp hr;exact K5) (by lia) (g.zmr ng)
def Gd.big(g:Gd L N c)(ng:NoG L)(ht:t<=(hsL L).length)(hi:i<(hsL L).length)(hj:j<2*(hsL L).length):Bt 7980 (at2 (bmL (mX L) t).2 i j):=by
 obtain⟨h1,h2,h3,h4⟩:=g.bm ng t ht;obtain⟨⟨X,C⟩,dp,_⟩:=El.run (g.zmr ng) t ht;have le:=C.le ht (B:=λj=>(bC L j:Rat)) (λj=>by have:((1:Nat):Rat)<=(bC L j:Rat):=cH.mpr (g.bC1 j);exact this) (λj=>g.col j) hi j
 rw[<-h4 i j hi hj,El.ab_int] at le;have nn:(0:Rat)<=(bC L j:Rat):=by have:((0:Nat):Rat)<=(bC L j:Rat):=cH.mpr (aZ _);exact this
 have p1:=g.prod ht;have p2:(bC L j:Rat)<=((2^3980:Nat):Rat):=cH.mpr (g.bCle j);have p0:(0:Rat)<=((2^3993:Nat):Rat):=by have:((0:Nat):Rat)<=((2^3993:Nat):Rat):=cH.mpr (aZ _);exact this
 have le2:El.pr (λj=>(bC L j:Rat)) t*(bC L j:Rat)<=((2^3993:Nat):Rat)*((2^3980:Nat):Rat):=by have a1:=dJ p1 nn;have a2:=dJ p2 p0;refine cY ?_ a2;rw[Rat.mul_comm,Rat.mul_comm (((2^3993:Nat):Rat))];exact a1
 have T9:=cY le le2;rw[<-jk] at T9;have T9:=cH.mp T9;unfold Bt;refine aQ T9 ?_;rw[<-iu];exact k6 (by decide) (by decide)
def Gd.rows(g:Gd L N c)(ng:NoG L):∀t,t<=(hsL L).length->Rows (hsL L).length (2*(hsL L).length) (bmL (mX L) t):=by
 intro t ht;obtain⟨h1,h2,h3,h4⟩:=g.bm ng t ht;obtain⟨⟨X,C⟩,dp,_⟩:=El.run (g.zmr ng) t ht;refine⟨h1,h2,λrow hr x hx=>?_,?_,?_⟩
 ·obtain⟨i,hi⟩:=bZ.mp hr;obtain⟨j,hj⟩:=bZ.mp hx;have il:=(aW.mp hi).1;have jl:=(aW.mp hj).1;rw[h2 row hr] at jl;rw[h1] at il;rw[<-qE hi hj];exact(g.big ng ht il jl).mono (by decide)
 ·rw[<-h3] at dp;exact fm.mp dp
 ·cases t with
  |zero=>exact bt1 (by decide)
  |succ t=>exact(g.big ng (t:=t) (by lia) (i:=t) (j:=t) (by lia) (by lia)).mono (by decide)
def ixh(L:List Ent)(h:Str):Nat:=(hsL L).idxOf h
def vR(hh:h∈hsL L):ixh L h<(hsL L).length:=List.idxOf_lt_length_iff.mpr hh
def wA(hh:h∈hsL L):nth (hsL L) (ixh L h)=h:=by have e:=(nT (vR hh)).1;rw[au (vR hh)] at e;exact(aO e).symm.trans (List.getElem_idxOf _)
def y8(g:Gd L N c)(hi:i<(hsL L).length):ixh L (nth (hsL L) i)=i:=yQ g.hnd (vR (nT hi).2) hi (wA (nT hi).2)
structure Slv(L:List Ent)(d:Int)(z:Str->Str->Int):Prop where
 d0:0<d
 db:Bt 9000 d
 zb:∀l∈hsL L,∀k∈hsL L,Bt 7980 (z l k)
 eq:∀h∈hsL L,∀k∈hsL L,((pcn (pl L h):Nat):Rat)*((z h k:Int):Rat)=(if h=k then(d:Rat) else 0)+mq ((hsL L).map λl=>((pc (pl L l) h:Int):Rat)*((z l k:Int):Rat))
def Gd.solve(g:Gd L N c)(ng:NoG L)(a):∃d z,Slv L d z/\∀s,wj a [LL (mX L)] s=.ok (.tup [LL ((hsL L).map λl=>(hsL L).map λk=>z l k),.int d]) s:=by
 have R:=g.rows ng;have l8:(hsL L).length<=8:=by rw[pZ];exact g.l8
 obtain⟨h1,h2,h3,h4⟩:=g.bm ng (hsL L).length (ap _);obtain⟨⟨X,C⟩,dp,_⟩:=El.run (g.zmr ng) (hsL L).length (ap _);have RN:=R (hsL L).length (ap _);refine⟨(bmL (mX L) (hsL L).length).1,λl k=>at2 (bmL (mX L) (hsL L).length).2 (ixh L l) ((hsL L).length+ixh L k),⟨RN.d.1,RN.d.2,λl hl k hk=>g.big ng (ap _) (vR hl) (by have:=vR hk;lia),λh hh k hk=>?_⟩,λs=>?_⟩
 ·have ih:=vR hh;have ik:=vR hk;have so:=C.so _ ih ((hsL L).length+ixh L k);have up:∀l,l<(hsL L).length->((at2 (bmL (mX L) (hsL L).length).2 l ((hsL L).length+ixh L k):Int):Rat)=(((bmL (mX L) (hsL L).length).1:Int):Rat)*X l ((hsL L).length+ixh L k):=λl hl=>by rw[h4 l _ hl (by lia),C.up l hl,h3]
  generalize (bmL (mX L) (hsL L).length).1=d at *;have rhs:((at2 (mX L) (ixh L h) ((hsL L).length+ixh L k):Int):Rat)=if h=k then 1 else 0:=by
   rw[FP ih ik,wA hh,wA hk];by_cases q:h=k
   ·rw[Zc q,Zc q.symm];rfl
   ·rw[Zd q,Zd λz=>q z.symm];rfl
  rw[rhs] at so;have e1:El.sm (λl=>((at2 (bmL (mX L) (hsL L).length).2 l ((hsL L).length+ixh L k):Int):Rat)*((at2 (mX L) (ixh L h) l:Int):Rat)) (hsL L).length=(d:Rat)*if h=k then 1 else 0:=by
   rw[<-so,<-El.sm_mul];refine El.sm_congr λl hl=>?_;rw[up l hl]
   grind
  have e2:El.sm (λl=>((at2 (bmL (mX L) (hsL L).length).2 l ((hsL L).length+ixh L k):Int):Rat)*((at2 (mX L) (ixh L h) l:Int):Rat)) (hsL L).length=El.sm (λl=>1*(if l=ixh L h then((pcn (pl L h):Nat):Rat)*((at2 (bmL (mX L) (hsL L).length).2 l ((hsL L).length+ixh L k):Int):Rat) else 0)+(-1)*(λy=>((pc (pl L y) h:Int):Rat)*((at2 (bmL (mX L) (hsL L).length).2 (ixh L y) ((hsL L).length+ixh L k):Int):Rat)) (nth (hsL L) l)) (hsL L).length:=El.sm_congr λl hl=>by
   rw[FO ih hl,wA hh];simp only[y8 g hl];by_cases q:l=ixh L h
   ·subst q;rw[Zc rfl,wA hh,Zc rfl,gY,cI]
    grind
   ·rw[Zd q,Zd λz=>q (by rw[<-z,y8 g hl])];have:((0-pc (pl L (nth (hsL L) l)) h:Int):Rat)=-((pc (pl L (nth (hsL L) l)) h:Int):Rat):=by rw[<-Rat.intCast_neg];congr 1;lia
    rw[this]
    grind
  rw[e2,El.sm_lin,El.sm_one ih (λk _ hk=>Zd hk),Zc rfl,CO (λy=>((pc (pl L y) h:Int):Rat)*((at2 (bmL (mX L) (hsL L).length).2 (ixh L y) ((hsL L).length+ixh L k):Int):Rat))] at e1;have:(d:Rat)*(if h=k then 1 else 0)=if h=k then(d:Rat) else 0:=by split<;>grind
  rw[this] at e1
  grind
 ·rw[GK a s (n:=(hsL L).length) (w:=2*(hsL L).length) (by lia) (by lia) (by lia) R]
  congr 4
  have row:∀i,i<(hsL L).length->((bmL (mX L) (hsL L).length).2[i]?).map (·.drop (hsL L).length)=Za ((hsL L).map λk=>at2 (bmL (mX L) (hsL L).length).2 i ((hsL L).length+ixh L k)):=λi hi=>by
   have e:(bmL (mX L) (hsL L).length).2[i]?=Za ((bmL (mX L) (hsL L).length).2[i]'(by lia)):=au (by lia);have rl:=h2 _ (ce (show i<(bmL (mX L) (hsL L).length).2.length by lia));generalize (bmL (mX L) (hsL L).length).2[i]'(by lia)=row at e rl;rw[e];show Za (row.drop (hsL L).length)=_
   congr 1
   refine iY λj=>?_;rw[List.getElem?_drop,aC];by_cases hj:j<(hsL L).length
   ·rw[(nT hj).1];obtain⟨x,hx⟩:∃x,row[(hsL L).length+j]?=Za x:=⟨_,au (by lia)⟩;rw[hx];show Za x=Za (at2 _ i ((hsL L).length+ixh L (nth (hsL L) j)));rw[y8 g hj,qE e hx]
   ·rw[cJ (by lia),cJ (by lia)];rfl
  refine iY λi=>?_;rw[aC,aC];by_cases hi:i<(hsL L).length
  ·rw[row i hi,(nT hi).1];show Za _=Za ((hsL L).map λk=>at2 _ (ixh L (nth (hsL L) i)) _);rw[y8 g hi]
  ·rw[cJ (by lia),cJ (by lia)];rfl
end
section
variable{κ:Type}[DecidableEq κ]
def Ds(l)(k k':κ)(p):sU (Ct l k p) k'=if k'=k then Za p else sU l k':=by
 have vc:∀(kv:κ×PV)(l:List (κ×PV)),sU (kv::l) k'=if kv.1=k' then Za kv.2 else sU l k':=λkv l=>by
  unfold sU;rw[bG];by_cases e:kv.1=k'
  ·rw[Zg e,Zc e];rfl
  ·rw[Zh e,Zd e]
 unfold Ct;by_cases an:(l.any λkv=>decide (kv.1=k))=true
 ·rw[Zc an];induction l with
  |nil=>cases an
  |cons kv l ih =>
   rw[am,vc,vc];by_cases e:kv.1=k
   ·rw[Zc e];by_cases q:k'=k
    ·rw[Zc (show kv.1=k' by rw[e,q]),Zc q]
    ·rw[Zd (show ¬kv.1=k' by rw[e];exact λz=>q z.symm),Zd q,Zd (show ¬kv.1=k' by rw[e];exact λz=>q z.symm)];by_cases SF:(l.any λkv=>decide (kv.1=k))=true
     ·rw[ih SF,Zd q]
     ·have:l.map (λkv=>if kv.1=k then(kv.1,p) else kv)=l:=by
       conv=>rhs;rw[<-jf l]
       refine aV λx hx=>?_;rw[Zd λz=>SF (cL.mpr ⟨x,hx,Zg z⟩)];rfl
      rw[this]
   ·rw[Zd e];have SF:(l.any λkv=>decide (kv.1=k))=true:=by rw[cO,Zh e,jS] at an;exact an
    rw[ih SF];by_cases q:kv.1=k'
    ·rw[Zc q,Zc q,Zd λz=>e (q.trans z)]
    ·rw[Zd q,Zd q]
 ·rw[Zd an];induction l with
  |nil =>
   show sU [(k,p)] k'=_;rw[vc];by_cases q:k'=k
   ·rw[Zc q.symm,Zc q]
   ·rw[Zd λz=>q z.symm,Zd q]
  |cons kv l ih =>
   have e:kv.1≠k:=λz=>an (by rw[cO,Zg z];rfl);have SF:¬(l.any λkv=>decide (kv.1=k))=true:=λz=>an (by rw[cO,z,Bool.or_true]);rw[List.cons_append,vc,vc,ih SF];by_cases q:kv.1=k'
   ·rw[Zc q,Zc q,Zd λz=>e (q.trans z)]
   ·rw[Zd q,Zd q]
def Ix(l)(k:κ)(p):(Ct l k p).length<=l.length+1:=by
 unfold Ct;split
 ·rw[ac];lia
 ·rw[aJ];exact ap _
end
theorem Cn(f g:α->PV):∀l:List α,tE (l.map f) (l.map g)=l.map λx=>.tup [f x,g x]
 |[]=>rfl
 |x::l=>by rw[am,am,am];show PV.tup [f x,g x]::tE (l.map f) (l.map g)=_;rw[Cn f g l]
def tp(L:List Ent)(d:Int)(z:Str->Str->Int)(x h:Str):Int:=(if x=h then d else 0)+((hsL L).map λl=>pc (pl L l) x*z l h).sum
abbrev zL(L:List Ent)(z:Str->Str->Int):PV:=LL ((hsL L).map λl=>(hsL L).map λk=>z l k)
section
variable{T:Sto}{nb k j:Nat}{pp N X:List Str}{L:List Ent}{c:Nat}{d:Int}{z:Str->Str->Int}
def wE(L:List Ent)(d:Int)(z:Str->Str->Int)(k nb:Nat)(u5 u6 u7 u8 u9 Pu:Option PV):En:=[Za (.ref k),Za (.ref nb),Za (LS (hsL L)),Za (av L),Za (.tup [zL L z,.int d]),u5,u6,u7,u8,u9,Pu]
def Gd.pcb(g:Gd L N c)(hh:h∈hsL L)(x):Bt 12000 (pc (pl L h) x):=by obtain⟨e,k,hz,f,ep,o,R,kc,sv,_⟩:=g.held (hsL_mem.mp hh);have:=((R.fr x).top).mul ((R.pieces.2.1).div (d:=(lT (pl L h) x).2));have c4:=g.c40;exact this.mono (by lia)
theorem FH(a)(g:Gd L N c)(S:Slv L d z)(hi:(hsL L)[i]?=Za h)(s):∀(ns:List Str)(t:Int)(u9 Pu:Option PV),(∀l∈ns,l∈hsL L)->∃v9 QN,nM (mK (yTup 2 (yCons (yName 9) (yCons (yName 10) yNil))) (oy a)) (ns.map λl=>.tup [.str l,LI ((hsL L).map λk=>z l k)]) (wE L d z k nb (Za (.int (i:Nat))) (Za (.str h)) (Za (.str x)) (Za (.int t)) u9 Pu) s=.nx (wE L d z k nb (Za (.int (i:Nat))) (Za (.str h)) (Za (.str x)) (Za (.int (t+(ns.map λl=>pc (pl L l) x*z l h).sum))) v9 QN) s
 |[],t,u9,Pu,_=>⟨u9,Pu,by rw[dy,dy,List.sum_nil,Int.add_zero];rfl⟩
 |l::ns,t,u9,Pu,hn=>by
  have hl:=hn l ag;have hh:h∈hsL L:=dw hi;obtain⟨v9,QN,e⟩:=FH a g S (x:=x) hi s ns (t+pc (pl L l) x*z l h) (Za (.str l)) (Za (LI ((hsL L).map λk=>z l k))) λy hy=>hn y (ae _ hy);refine⟨v9,QN,?_⟩;rw[am,am,iF,<-Int.add_assoc];unfold nM;have bd:mK (yTup 2 (yCons (yName 9) (yCons (yName 10) yNil))) (oy a) (.tup [.str l,LI ((hsL L).map λk=>z l k)]) (wE L d z k nb (Za (.int (i:Nat))) (Za (.str h)) (Za (.str x)) (Za (.int t)) u9 Pu) s=.nx (wE L d z k nb (Za (.int (i:Nat))) (Za (.str h)) (Za (.str x)) (Za (.int (t+pc (pl L l) x*z l h))) (Za (.str l)) (Za (LI ((hsL L).map λk=>z l k)))) s:=by
   show oy a (wE L d z k nb (Za (.int (i:Nat))) (Za (.str h)) (Za (.str x)) (Za (.int t)) (Za (.str l)) (Za (LI ((hsL L).map λk=>z l k)))) s=_;unfold oy;have e1:xGet (x2 (xVar 3) (xVar 9) fIx) (xVar 7) (xC (.int 0)) (wE L d z k nb (Za (.int (i:Nat))) (Za (.str h)) (Za (.str x)) (Za (.int t)) (Za (.str l)) (Za (LI ((hsL L).map λk=>z l k)))) s=.ok (.int (pc (pl L l) x)) s:=by rw[Gc ((lZ (lC rfl) (lC rfl)).trans (HS hl)) (lC rfl) rfl,Kh g]
   have e2:=rb e1 ((lZ (lC (i:=10) rfl) (lC (i:=5) rfl)).trans (CW (t:=s) (l:=(hsL L).map λk=>z l k) (i:=i) (x:=z l h) (by rw[aC,hi];rfl))) (.inl ⟨(g.pcb hl x).mono (by decide),(S.zb l hl h hh).mono (by decide)⟩);unfold MT;show((x2 (xGet (x2 (xVar 3) (xVar 9) fIx) (xVar 7) (xC (.int 0))) (x2 (xVar 10) (xVar 5) fIx) fMul _ s).so _)=_;rw[e2];rfl
  rw[bd];exact e
structure Wob(a:Adr)(T:Sto)(k j:Nat)(L:List Ent)(X:List Str)(d:Int)(z:Str->Str->Int):Prop where
 ob:T.get k=Za (.obj a.HALF [("bottom",.int d),("top_of",.ref j)])
 dc:∃D,T.get j=Za (.dtt D)/\∀x∈X,∀h∈hsL L,sU D [af x,af h]=Za (.int (tp L d z x h))
def CZ(h:f Z s=.ok (.ref n) s1)(hg:s1.get n=Za (.obj C fs))(hv:sU fs nm=Za p):Es C nm f Z s=.ok p s1:=by unfold Es;rw[h];simp only[Out.bind,hg,if_true,hv]
def Lc(h1:v Z s=.ok q s)(h2:f Z s=.ok (.ref n) s)(h3:fa Z s=.ok vs s)(hg:s.get n=Za (.dtt l))(hk:AJ vs=Za ks)(hv:vs.length<=100000)(hl:l.length<100000):HG f fa v Z s=.nx Z (s.set n (.dtt (Ct l ks q))):=by unfold HG;rw[h1];simp only[Out.so];rw[h2];simp only[h3,hg,hk];rw[Zc ⟨hv,hl⟩]
def KN(a:Adr)(g:Gd L N c)(S:Slv L d z){h x:Str}{i j:Nat}(hi:(hsL L)[i]?=Za h)(hx:bc x=true){s:Sto}{D:List (List Key×PV)}(ob:s.get k=Za (.obj a.HALF [("bottom",.int d),("top_of",.ref j)]))(hd:s.get j=Za (.dtt D))(hl:D.length<100000)(u7 u8 u9 Pu:Option PV) :
  ∃v8 v9 QN,mK (yName 7) (nK a) (.str x) (wE L d z k nb (Za (.int (i:Nat))) (Za (.str h)) u7 u8 u9 Pu) s=.nx (wE L d z k nb (Za (.int (i:Nat))) (Za (.str h)) (Za (.str x)) v8 v9 QN) (s.set j (.dtt (Ct D [af x,af h] (.int (tp L d z x h))))):=by
 have hh:h∈hsL L:=dw hi;obtain⟨v9,QN,e⟩:=FH (k:=k) (nb:=nb) a g S (x:=x) hi s (hsL L) (if x=h then d else 0) u9 Pu λ_ z=>z;refine⟨Za (.int (tp L d z x h)),v9,QN,(qr (i:=7)).trans ?_⟩;show nK a (wE L d z k nb (Za (.int (i:Nat))) (Za (.str h)) (Za (.str x)) u8 u9 Pu) s=_;unfold nK;refine lP (l9 (v:=.int (if x=h then d else 0)) (s':=s) ?_) ?_
 ·have e1:xTr (x2 (xVar 7) (xVar 6) fEq) (wE L d z k nb (Za (.int (i:Nat))) (Za (.str h)) (Za (.str x)) u8 u9 Pu) s=.ok (decide (x=h)) s:=o5 ((lZ (lC rfl) (lC rfl)).trans (J9 hx (g.hok hh)));unfold xIfe;rw[e1,uB];by_cases q:x=h
  ·rw[Zg q,Zc q,Zc rfl];exact CZ (lC rfl) ob rfl
  ·rw[Zh q,Zd q,Zd (by decide)];rfl
 ·refine lP (re (l:=(hsL L).map λl=>.tup [.str l,LI ((hsL L).map λk=>z l k)]) (s1:=s) ?_ e) ?_
  ·unfold Em;rw[lE (lC (i:=2) (v:=LS (hsL L)) rfl) (lE ((lZ (lC (i:=4) (v:=.tup [zL L z,.int d]) rfl) rfl).trans (show fIx (.tup [zL L z,.int d]) (.int 0) s=.ok (zL L z) s from rfl)) rfl)];show Out.ok (tE ((hsL L).map .str) (((hsL L).map λl=>(hsL L).map λk=>z l k).map LI)) s=_;rw[aE,Cn];rfl
  ·refine(Lc (ks:=[af x,af h]) (lC rfl) (CZ (lC rfl) ob rfl) (lE (lC rfl) (lE (lC rfl) rfl)) hd rfl (fC rfl) hl).trans ?_;rfl
theorem FG(a)(g:Gd L N c)(S:Slv L d z){i j}(hi:(hsL L)[i]?=Za h)(Sv:k≠j):∀(xs:List Str)(s:Sto)(D:List (List Key×PV))(u7 u8 u9 Pu:Option PV),(∀x∈xs,bc x=true)->s.get k=Za (.obj a.HALF [("bottom",.int d),("top_of",.ref j)])->s.get j=Za (.dtt D)->D.length+xs.length<100000 ->
  ∃D' v7 v8 v9 QN,nM (mK (yName 7) (nK a)) (xs.map .str) (wE L d z k nb (Za (.int (i:Nat))) (Za (.str h)) u7 u8 u9 Pu) s=.nx (wE L d z k nb (Za (.int (i:Nat))) (Za (.str h)) v7 v8 v9 QN) (s.set j (.dtt D'))/\D'.length<=D.length+xs.length/\(∀x∈xs,sU D' [af x,af h]=Za (.int (tp L d z x h)))/\∀x h',sU D [af x,af h']=Za (.int (tp L d z x h'))->sU D' [af x,af h']=Za (.int (tp L d z x h'))
 |[],s,D,u7,u8,u9,Pu,_,_,hd,_=>⟨D,u7,u8,u9,Pu,by
   rw[zG _ _ _ hd];rfl,ap _,(λ_ z=>nomatch z),λ_ _ h=>h⟩
 |x::xs,s,D,u7,u8,u9,Pu,hx,ob,hd,hl=>by
  rw[bh] at hl;obtain⟨v8,v9,QN,e1⟩:=KN (k:=k) (nb:=nb) a g S hi (hx x ag) ob hd (by lia) u7 u8 u9 Pu;have len:=Ix D [af x,af h] (.int (tp L d z x h));obtain⟨D',w7,w8,w9,w10,e2,l2,a2,k2⟩:=FG a g S hi Sv xs (s.set j (.dtt (Ct D [af x,af h] (.int (tp L d z x h))))) _ (Za (.str x)) v8 v9 QN (λy hy=>hx y (ae _ hy)) (by rw[lN _ _ Sv];exact ob) (nZ hd) (by lia);have old:∀y h',sU D [af y,af h']=Za (.int (tp L d z y h'))->sU (Ct D [af x,af h] (.int (tp L d z x h))) [af y,af h']=Za (.int (tp L d z y h')):=λy h' hy=>by
   rw[Ds];split
   ·rename_i q;have q1:(af y:Key)=af x:=(eg q).1;have q2:(af h':Key)=af h:=(eg (eg q).2).1;rw[cM q1,cM q2]
   ·exact hy
  refine⟨D',w7,w8,w9,w10,?_,by rw[bh];lia,λy hy=>?_,λy h' hy=>k2 y h' (old y h' hy)⟩
  ·rw[am];unfold nM;rw[e1];show nM (mK (yName 7) (nK a)) (xs.map .str) _ _=_;rw[e2,rm]
  ·rcases ah.mp hy with q|hy
   ·rw[q];exact k2 x h (by rw[Ds,Zc rfl])
   ·exact a2 y hy
def FM(h1:v Z s=.ok p s1)(h2:f Z s1=.ok (.ref n) s1)(hg:s1.get n=Za (.obj C fs))(hl:fs.length<1000):Ep C nm f v Z s=.nx Z (s1.set n (.obj C (AI nm p fs))):=by unfold Ep;rw[h1];simp only[Out.so];rw[h2];simp only[hg];exact Zc ⟨trivial,hl⟩
structure Pp(pp N:List Str):Prop where
 sub:∀x∈pp,x∈N
 le:pp.length<=64
def KM(a)(g:Gd L N c)(ng:NoG L)(P:Pp pp N)(hb:T.get nb=Za (.book pp L))(Qm:nb<T.nx)(hk:T.get k=Za (.obj a.HALF []))(hkT:k<T.nx)(hkb:nb≠k) :
  ∃d z j T',Slv L d z/\pT a [.ref k,.ref nb] T=.ok .non T'/\Wob a T' k j L (srt pp++hsL L) d z/\T.nx<=T'.nx/\T.nx<=j/\∀i,i<T.nx->i≠k->T'.get i=T.get i:=by
 obtain⟨d,z,S,es⟩:=g.solve ng a;have l8:(hsL L).length<=8:=by rw[pZ];exact g.l8
 have hso:na a [.ref nb] T=.ok (LS (hsL L)) T:=by unfold na mH;simp only[hb]
 obtain⟨s1,c1,G1⟩:=BB (T:=T) (cap:=[Za (LS (hsL L)),Za (av L)]) (e:=xCall 3 (qQ a) (xCons (xVar 0) (xCons (xVar 1) (xCons (xVar 2) xNil)))) (λq=>match q with|.str h=>LI (owr L h++unr L h)|q=>q) ((hsL L).map .str) (λq hq s gs=>by obtain⟨h,hh,rfl⟩:=aj.mp hq;exact⟨_,lU (lE (lC rfl) (lE (lC rfl) (lE (lC rfl) rfl))) rfl (Jx a g hh s),gs.trans (Gr.add _ _)⟩) T (Gr.refl T)
 have e1:(((hsL L).map PV.str).map λq=>match q with|.str h=>LI (owr L h++unr L h)|q=>q)=(mX L).map LI:=by rw[aE,aE];rfl
 rw[e1] at c1;have ob1:s1.get k=Za (.obj a.HALF []):=(G1.fr k hkT).trans hk;have n1:=G1.nx;generalize Rq:s1.set k (.obj a.HALF (AI "bottom" (.int d) []))=s2;have Qd:s2.nx=s1.nx:=by rw[<-Rq];rfl
 have ob2:s2.get k=Za (.obj a.HALF [("bottom",.int d)]):=by rw[<-Rq];exact nZ ob1
 have fr2:∀i,i<T.nx->i≠k->s2.get i=T.get i:=λi h1 h2=>by rw[<-Rq,lN _ _ h2];exact G1.fr i h1
 generalize hs3:(s2.add (.dtt [])).set k (.obj a.HALF (AI "top_of" (.ref s2.nx) [("bottom",.int d)]))=s3;have gk:(s2.add (.dtt [])).get k=Za (.obj a.HALF [("bottom",.int d)]):=by rw[ms,Zd (by lia)];exact ob2
 have ob3:s3.get k=Za (.obj a.HALF [("bottom",.int d),("top_of",.ref s2.nx)]):=by rw[<-hs3];exact nZ gk
 have VC:s3.get s2.nx=Za (.dtt []):=by rw[<-hs3,lN _ _ (by lia),ms,Zc rfl]
 have nx3:s3.nx=s2.nx+1:=by rw[<-hs3];rfl
 have TH:∀i,i<T.nx->i≠k->s3.get i=T.get i:=λi h1 h2=>by rw[<-hs3,lN _ _ h2,ms,Zd (by lia)];exact fr2 i h1 h2
 have Sv:k≠s2.nx:=by lia
 have hX:∀x∈srt pp++hsL L,bc x=true:=λx hx=>by
  rcases aL.mp hx with hx|hx
  ·exact CN (g.ho.sm x (P.sub x ((lQ _).mem_iff.mp hx)))
  ·exact g.hok hx
 have lX:(srt pp++hsL L).length<=72:=by rw[aJ,(lQ _).length_eq];have:=P.le;lia
 obtain⟨ρ4,s4,lp,D4,u5,u6,u7,u8,u9,Pu,rfl,rfl,l4,v4⟩:=F3 (body:=mK (yTup 2 (yCons (yName 5) (yCons (yName 6) yNil))) (pF a)) (qM 0 ((hsL L).map .str))
  (λi Z s=>∃D u5 u6 u7 u8 u9 Pu,Z=wE L d z k nb u5 u6 u7 u8 u9 Pu/\s=s3.set s2.nx (.dtt D)/\D.length<=72*i/\∀x∈srt pp++hsL L,∀i',i'<i->∀h,(hsL L)[i']?=Za h->sU D [af x,af h]=Za (.int (tp L d z x h)))
  (λi q Z s hq hI=>by
   obtain⟨D,u5,u6,u7,u8,u9,Pu,rfl,rfl,lD,vD⟩:=hI;rw[xj,aC,fw] at hq;obtain⟨h,hi⟩:∃h,(hsL L)[i]?=Za h:=by
    cases e:(hsL L)[i]? with
    |none=>rw[e] at hq;cases hq
    |some h=>exact⟨h,rfl⟩
   rw[hi] at hq;cases hq;have il:i<(hsL L).length:=(aW.mp hi).1;have obk:(s3.set s2.nx (.dtt D)).get k=Za (.obj a.HALF [("bottom",.int d),("top_of",.ref s2.nx)]):=by rw[lN _ _ Sv];exact ob3
   obtain⟨D',v7,v8,v9,QN,e,lD',a1,a2⟩:=FG (k:=k) (nb:=nb) a g S hi Sv (srt pp++hsL L) (s3.set s2.nx (.dtt D)) D u7 u8 u9 Pu hX obk (nZ VC) (by lia);refine⟨_,_,?_,D',Za (.int (i:Nat)),Za (.str h),v7,v8,v9,QN,rfl,rfl,by lia,λx hx i' R8 h' Q8=>?_⟩
   ·show pF a (wE L d z k nb (Za (.int (i:Nat))) (Za (.str h)) u7 u8 u9 Pu) (s3.set s2.nx (.dtt D))=_;unfold pF;rw[rm] at e;have bk:(s3.set s2.nx (.dtt D)).get nb=Za (.book pp L):=by rw[lN _ _ (by lia)];exact(TH nb Qm hkb).trans hb
    refine re (l:=(srt pp++hsL L).map .str) (s1:=s3.set s2.nx (.dtt D)) (nr ((lZ ((pE (vs:=[]) (s2:=s3.set s2.nx (.dtt D)) (lC rfl) bk rfl rfl).trans (show oR a [.ref nb] (s3.set s2.nx (.dtt D))=.ok (LS (srt pp)) (s3.set s2.nx (.dtt D)) by unfold oR mH;simp only[bk])) (lC rfl)).trans ?_)) e;simp only[fAdd,lsOf];rw[Zc (by rw[ac,ac,<-aJ];lia),<-aw]
   ·by_cases q:i'=i
    ·subst q;rw[hi] at Q8;cases Q8;exact a1 x hx
    ·exact a2 x h' (vD x hx i' (by lia) h' Q8)) (Z:=wE L d z k nb Zb Zb Zb Zb Zb Zb) (s:=s3.set s2.nx (.dtt [])) ⟨[],Zb,Zb,Zb,Zb,Zb,Zb,rfl,rfl,aZ _,λ_ _ _ h=>absurd h (by lia)⟩
 rw[zG _ _ _ VC] at lp;refine⟨d,z,s2.nx,s3.set s2.nx (.dtt D4),S,zR (Z:=wE L d z k nb u5 u6 u7 u8 u9 Pu) ?_,⟨by rw[lN _ _ Sv];exact ob3,D4,nZ VC,λx hx h hh=>?_⟩,by show T.nx<=s3.nx;lia,by lia,λi h1 h2=>?_⟩
 ·unfold xG;refine lP (uI (lU (lE (lC rfl) rfl) rfl (LH a g.ho (by have:=g.l8;lia) ng hb))) ?_;refine lP (l9 ((pE (vs:=[]) (s2:=T) (lC rfl) hb rfl rfl).trans hso)) ?_;refine lP (l9 (lU (lE (lC rfl) rfl) rfl (Fd a g hb))) ?_;refine lP (l9 (lU (lE (pf (l:=(hsL L).map .str) (s1:=T) (nr (lC rfl)) (by rw[ac];lia) c1) rfl) rfl (es s1))) ?_;refine lP (s':=s2) ((FM (s1:=s1) (p:=.int d) ((lZ (lC (v:=.tup [zL L z,.int d]) rfl) rfl).trans rfl) (lC rfl) ob1 (by decide)).trans (by rw[Rq])) ?_;refine lP (s':=s3) ((FM (s1:=s2.add (.dtt [])) (p:=.ref s2.nx) rfl (lC rfl) gk (Nat.lt_of_sub_eq_succ rfl)).trans (by rw[hs3])) ?_;refine re (l:=qM 0 ((hsL L).map .str)) (s1:=s3) ?_ lp;unfold vV;rw[lE (lC (i:=2) (v:=LS (hsL L)) rfl) rfl];rfl
 ·obtain⟨i,hi⟩:=bZ.mp hh;refine v4 x hx i ?_ h hi;rw[rO,ac];exact(aW.mp hi).1
 ·rw[lN _ _ (by lia)];exact TH i h1 h2
def frR(q:Rat):PV:=frP (q.num,(q.den:Int))
def LN(q:Rat):Low (q.num,(q.den:Int)):=⟨by have:=q.den_pos;show(0:Int)<q.den;lia,by unfold Cop;show Nat.gcd q.num.natAbs q.den=1;exact q.reduced⟩
def K7(hb:0<b):red (t,b)=((eS t b).num,((eS t b).den:Int)):=by
 obtain⟨l,e⟩:=sW (q:=(t,b)) hb;have l0:=l.1;refine yX l (LN _) ?_;have h:=Rat.num_divInt_den (eS t b);have d0:=(eS t b).den_pos;generalize (eS t b).num=n at *;generalize (eS t b).den=m at *;have h:n*b=t*(m:Int):=(jT (by lia) (by lia)).mp h;have e:(red (t,b)).1*b=t*(red (t,b)).2:=e;generalize red (t,b)=r at *;show r.1*(m:Int)=n*r.2;refine ei (a:=b) (by lia) ?_
 calc r.1*(m:Int)*b=(r.1*b)*m:=by rw[aT,br (m:Int),<-aT]
  _=t*r.2*m:=by rw[e]
  _=(t*m)*r.2:=by rw[aT,br r.2,<-aT]
  _=n*b*r.2:=by rw[h]
  _=n*r.2*b:=by rw[aT,br b,<-aT]
def Hi(a)(s)(hb:0<b)(bb:Bt 9000 b):wk a [.int t,.int b] s=.ok (frR (eS t b)) s:=by refine mE ?_;unfold D7;have gp:0<aD t b:=bH _ (by lia);have gb:Bt 9000 ((aD t b:Nat):Int):=bb.dvd (by lia) (cm ..);refine lP (l9 (lU (lE (lC rfl) (lE (lC rfl) rfl)) rfl (show mL a [.int t,.int b] s=.ok (.int ((aD t b:Nat):Int)) s from Zc hb))) ?_;refine(nI (sY (lE (Az (lC rfl) (lC rfl) ⟨by lia,gb⟩) (lE (Az (lC rfl) (lC rfl) ⟨by lia,gb⟩) rfl)))).trans ?_;unfold frR;rw[<-K7 hb];rfl
def om(L:List Ent)(h:Str):Int:=match mB L h with
 |some e=>e.th
 |none=>0
def thV(L:List Ent):PV:=.dct (nmD (hsL L) λh=>.int (om L h))
def uT(a)(g:Gd L N c)(hb:T.get nb=Za (.book pp L)):qf a [.ref nb] T=.ok (thV L) T:=by
 refine mE ?_;unfold vJ;have c1:=rP (s:=T) (cap:=[Za (.ref nb)]) (e:=xTup (xCons (xVar 0) (xCons (x2 (xBM 2 (Kl a) (xVar 1) (xCons (xVar 0) xNil)) (xC (.int 0)) fIx) xNil))) (λh=>.tup [.str h,.int (om L h)]) (hsL L) (λh hh=>by
  have hh:=hsL_mem.mp hh;obtain⟨e,f,_⟩:=g.ent hh;have of:Kl a [.ref nb,.str h] T=.ok (.tup [.int e.th,.int e.mr,.int e.ls]) T:=by simp only[Kl,mH,hb];rw[Zc (g.ho.sm h (g.ho.hn h hh)).nm,f]
  have et:om L h=e.th:=by unfold om;rw[f]
  show _=Out.ok (PV.tup [PV.str h,PV.int (om L h)]) T;rw[et];exact sY (lE (lC rfl) (lE ((lZ ((pE (lC rfl) hb (lE (lC rfl) rfl) rfl).trans of) rfl).trans rfl) rfl)))
 refine nI ((wH (lE (pf (l:=(hsL L).map .str) (s1:=T) (nr ((pE (vs:=[]) (s2:=T) (lC rfl) hb rfl rfl).trans ?_)) (by rw[ac,pZ];have:=g.l8;lia) c1) rfl)).trans (Fz g.hnd));unfold na mH;simp only[hb]
theorem JG{k}:∀(l:List Int),(∀x∈l,Bt k x)->Bt (k+l.length) l.sum
 |[],_=>by
  show(0:Int).natAbs<2^_;exact cW _
 |x::l,h=>by rw[iF,bh,<-jW];exact((h x ag).mono (by lia)).add (JG l λy hy=>h y (ae _ hy))
def tp_bt(g:Gd L N c)(S:Slv L d z)(x)(hh:h∈hsL L):Bt 19995 (tp L d z x h):=by
 have l8:(hsL L).length<=8:=by rw[pZ];exact g.l8
 have h1:=JG (k:=19980) ((hsL L).map λl=>pc (pl L l) x*z l h) λy hy=>by obtain⟨l,hl,rfl⟩:=aj.mp hy;exact(g.pcb hl x).mul (S.zb l hl h hh)
 rw[ac] at h1;unfold tp;refine Bt.mono (k:=19990+1) (Bt.add ?_ (h1.mono (by lia))) (by decide);split
 ·exact S.db.mono (by decide)
 ·show(0:Int).natAbs<2^_;exact cW _
def tpb(L:List Ent)(d:Int)(z:Str->Str->Int)(x:Str):Int:=((hsL L).map λh=>tp L d z x h*om L h).sum
def Oz(h2:f Z s=.ok (.ref n) s)(h3:fa Z s=.ok vs s)(hg:s.get n=Za (.dtt l))(hk:AJ vs=Za ks)(hv:vs.length<=100000)(hq:sU l ks=Za q):KH f fa Z s=.ok q s:=by unfold KH;rw[h2];simp only[Out.bind];rw[h3];simp only[hg,hk];rw[Zc hv,hq]
def Gd.thb(g:Gd L N c)(h):Bt 200 (om L h):=by
 unfold om;cases e:mB L h with
 |none=>show(0:Int).natAbs<2^_;exact cW _
 |some e'=>exact g.tb e' (ux e).1
def GH(a)(g:Gd L N c)(S:Slv L d z)(W:Wob a T k j L X d z)(hx:x∈X):pJ a [.ref k,.str x,thV L] T=.ok (.int (tpb L d z x)) T:=by
 obtain⟨D,hD,vD⟩:=W.dc;refine mE ?_;unfold vd;have c1:=xk (s:=T) (cap:=[Za (thV L),Za (.ref k),Za (.str x)]) (e:=x2 (KH (Es a.HALF "top_of" (xVar 2)) (xCons (xVar 3) (xCons (xVar 0) xNil))) (x2 (xVar 1) (xVar 0) fIx) fMul) (λh=>tp L d z x h*om L h) (hsL L) (λh hh=>by exact rb (Oz (ks:=[af x,af h]) (CZ (lC rfl) W.ob rfl) (lE (lC rfl) (lE (lC rfl) rfl)) hD rfl (fC rfl) (vD x hx h hh)) ((lZ (lC rfl) (lC rfl)).trans (HS hh)) (.inl ⟨(tp_bt g S x hh).mono (by decide),(g.thb h).mono (by decide)⟩))
 refine nI ((wH (lE (pf (l:=(hsL L).map .str) (s1:=T) ?_ (by rw[ac,pZ];have:=g.l8;lia) c1) rfl)).trans ?_)
 ·unfold xIterD;rw[lC (i:=2) (v:=thV L) rfl];show Out.ok ((nmD (hsL L) λh=>.int (om L h)).map λkv:Key×PV=>Nj kv.1) T=_;unfold nmD;rw[aE];rfl
 ·simp only[Nq,lsOf,vw];rfl
def oP(X:List Str)(w:Str->Rat):PV:=.lst (X.map λx=>.tup [.str x,frR (w x)])
def wv(L:List Ent)(d:Int)(z:Str->Str->Int)(x:Str):Rat:=eS (tpb L d z x) d
def Ky{C:ak}{nm:Str}{n:Nat}{D:XF}{f:XE}{fa:XA}{Z:En}{s s1 s2:Sto}{k:Nat}{fs:List (Str×PV)}{vs:List PV}{o:Out PV}(h1:f Z s=.ok (.ref k) s1)(hg:s1.get k=Za (.obj C fs))(hv:sU fs nm=Zb)(h2:fa Z s1=.ok vs s2)(hn:vs.length+1=n)(h3:D (.ref k::vs) s2=o):xOM C nm n D f fa Z s=o:=by unfold xOM;rw[h1];simp only[Out.bind,hg];rw[Zc ⟨trivial,hv⟩,h2];simp only[hn,if_true];exact h3
def BN(a)(g:Gd L N c)(S:Slv L d z)(W:Wob a T k j L X d z)(hY:∀y∈Y,y∈X)(hl:Y.length<=1000):pK a [.ref k,LS Y,thV L] T=.ok (oP Y (wv L d z)) T:=by
 refine mE ?_;unfold ve;have c1:=rP (s:=T) (cap:=[Za (thV L),Za (.ref k)]) (e:=xTup (xCons (xVar 0) (xCons (xCall 2 (wk a) (xCons (xOM a.HALF "top_by" 3 (pJ a) (xVar 2) (xCons (xVar 0) (xCons (xVar 1) xNil))) (xCons (Es a.HALF "bottom" (xVar 2)) xNil))) xNil))) (λx=>.tup [.str x,frR (wv L d z x)]) Y (λx hx=>by exact sY (lE (lC rfl) (lE (lU (lE (Ky (lC rfl) W.ob rfl (lE (lC rfl) (lE (lC rfl) rfl)) rfl (GH a g S W (hY x hx))) (lE (CZ (lC rfl) W.ob rfl) rfl)) rfl (Hi a T S.d0 S.db)) rfl)))
 exact nI (pf (l:=Y.map .str) (s1:=T) (nr (lC rfl)) (by rw[ac];lia) c1)
def Sol(L:List Ent)(t:Str->Rat)(w:Str->Rat):Prop:=∀x,w x=t x+mq ((hsL L).map λl=>shr L l x*w l)
theorem Sol.uniq(g:Gd L N c)(ng:NoG L)(h:Sol L t w)(h':Sol L t w')(x):w x=w' x:=by
 have hs:∀l∈hsL L,w l-w' l=0:=g.uniq ng g.hnd (λx hx=>hsL_mem.mp hx) (v:=λx=>w x-w' x) λy _=>by
  have e:mq ((hsL L).map λl=>shr L l y*(w l-w' l))=mq ((hsL L).map λl=>shr L l y*w l+(-1)*(shr L l y*w' l)):=mF λl _=>by grind
  rw[e,uj,qG];have a1:=h y;have a2:=h' y
  grind
 have e:mq ((hsL L).map λl=>shr L l x*w l)=mq ((hsL L).map λl=>shr L l x*w' l):=mF λl hl=>by have:=hs l hl;grind
 rw[h x,h' x,e]
def Slv.tp_house(g:Gd L N c)(S:Slv L d z){h k}(hh:h∈hsL L)(hk:k∈hsL L):((tp L d z h k:Int):Rat)=((pcn (pl L h):Nat):Rat)*((z h k:Int):Rat):=by
 rw[S.eq h hh k hk];unfold tp;rw[gZ,rK]
 congr 1
 ·split<;>rfl
 ·exact mF λl _=>cT ..
def Slv.tp_eq(g:Gd L N c)(S:Slv L d z)(x){k}(hk:k∈hsL L):((tp L d z x k:Int):Rat)=(if x=k then(d:Rat) else 0)+mq ((hsL L).map λl=>shr L l x*((tp L d z l k:Int):Rat)):=by
 have e:mq ((hsL L).map λl=>shr L l x*((tp L d z l k:Int):Rat))=mq ((hsL L).map λl=>((pc (pl L l) x*z l k:Int):Rat)):=mF λl hl=>by
  obtain⟨e,m,hz,f,ep,o,R,kc,sv,_⟩:=g.held (hsL_mem.mp hl);rw[S.tp_house g hl hk,cT,R.pc_val,sv,cI]
  grind
 rw[e];unfold tp;rw[gZ,rK]
 congr 1
 split<;>rfl
def KQ(hh:h∉hsL L):om L h=0:=by
 unfold om;cases e:mB L h with
 |none=>rfl
 |some e'=>exact absurd (hsL_mem.mpr (by unfold l7;rw[e];rfl)) hh
def Slv.sol(g:Gd L N c)(S:Slv L d z):Sol L (λx=>((om L x:Int):Rat)) (wv L d z):=by
 intro x;have d0:((d:Int):Rat)≠0:=λq=>by have:=jX.mp q;have:=S.d0;lia
 have wd:∀y,wv L d z y*(d:Rat)=mq ((hsL L).map λh=>((tp L d z y h:Int):Rat)*((om L h:Int):Rat)):=λy=>by
  unfold wv tpb;rw[Rat.divInt_eq_div,rK];have:mq ((hsL L).map λh=>((tp L d z y h*om L h:Int):Rat))=mq ((hsL L).map λh=>((tp L d z y h:Int):Rat)*((om L h:Int):Rat)):=mF λh _=>cT ..;rw[this]
  grind
 have e1:mq ((hsL L).map λh=>((tp L d z x h:Int):Rat)*((om L h:Int):Rat))=mq ((hsL L).map λh=>(if x=h then(d:Rat)*((om L h:Int):Rat) else 0)+mq ((hsL L).map λl=>shr L l x*(((tp L d z l h:Int):Rat)*((om L h:Int):Rat)))):=mF λh hh=>by
  rw[S.tp_eq g x hh];have:mq ((hsL L).map λl=>shr L l x*(((tp L d z l h:Int):Rat)*((om L h:Int):Rat)))=mq ((hsL L).map λl=>((om L h:Int):Rat)*(shr L l x*((tp L d z l h:Int):Rat))):=mF λl _=>by grind
  rw[this,qG];split<;>grind
 have e2:mq ((hsL L).map λh=>if x=h then(d:Rat)*((om L h:Int):Rat) else 0)=(d:Rat)*((om L x:Int):Rat):=by
  by_cases hx:x∈hsL L
  ·rw[vZ (g:=λh=>if x=h then(d:Rat)*((om L h:Int):Rat) else 0) g.hnd (W:=[x]) (by simp) (λy _ hy=>Zd λz=>hy (by rw[z];simp))];show(if x∈hsL L then(if x=x then(d:Rat)*((om L x:Int):Rat) else 0) else 0)+0=_;rw[Zc hx,Zc rfl,gO]
  ·rw[AZ λy hy=>Zd λq:x=y=>hx (by rw[q];exact hy),KQ hx];show(0:Rat)=(d:Rat)*0;rw[ky]
 have e3:mq ((hsL L).map λh=>mq ((hsL L).map λl=>shr L l x*(((tp L d z l h:Int):Rat)*((om L h:Int):Rat))))=(d:Rat)*mq ((hsL L).map λl=>shr L l x*wv L d z l):=by
  rw[Ba,<-qG];refine mF λl _=>?_;rw[qG,<-wd l]
  grind
 have e4:=wd x;rw[e1,uj,e2,e3] at e4;show wv L d z x=((om L x:Int):Rat)+_
 grind
def Nh{C:ak}{n:Nat}{D:XF}{fa:XA}{Z:En}{s s1 s2:Sto}{vs:List PV}(h1:fa Z s=.ok vs s1)(hn:vs.length+1=n)(h2:D (.ref s1.nx::vs) (s1.add (.obj C []))=.ok .non s2):xMk C n D fa Z s=.ok (.ref s1.nx) s2:=by unfold xMk;rw[h1];simp only[Out.bind,hn,if_true,h2]
def FZ(a)(g:Gd L N c)(ng:NoG L)(P:Pp pp N)(hb:T.get nb=Za (.book pp L))(Qm:nb<T.nx):∃d z j T',Slv L d z/\pT a [.ref T.nx,.ref nb] (T.add (.obj a.HALF []))=.ok .non T'/\Wob a T' T.nx j L (srt pp++hsL L) d z/\Gr T T':=by
 have hb1:(T.add (.obj a.HALF [])).get nb=Za (.book pp L):=by rw[ms,Zd (by lia)];exact hb
 obtain⟨d,z,j,T',S,e,W,n1,n2,fr⟩:=KM (k:=T.nx) a g ng P hb1 (cj Qm) (by rw[ms,Zc rfl]) (cC _) (by lia);have n1:T.nx+1<=T'.nx:=n1;refine⟨d,z,j,T',S,e,W,by lia,λi hi=>?_⟩;rw[fr i (cj hi) (by lia),ms,Zd (by lia)]
def wO(a:Adr)(g:Gd L N c)(ng:NoG L)(P:Pp pp N)(hb:T.get nb=Za (.book pp L))(Qm:nb<T.nx):∃w T',rY a [.ref nb] T=.ok (oP (hsL L) w) T'/\Sol L (λx=>((om L x:Int):Rat)) w/\Gr T T':=by obtain⟨d,z,j,T',S,e,W,G⟩:=FZ a g ng P hb Qm;have Sd:T'.get nb=Za (.book pp L):=(G.fr nb Qm).trans hb;refine⟨wv L d z,T',mE ?_,S.sol g,G⟩;unfold D3;refine nI (Ky (Nh (lE (lC rfl) rfl) rfl e) W.ob rfl (lE ((pE (vs:=[]) (s2:=T') (lC rfl) Sd rfl rfl).trans (show na a [.ref nb] T'=.ok (LS (hsL L)) T' by unfold na mH;simp only[Sd])) (lE (lU (lE (lC rfl) rfl) rfl (uT a g Sd)) rfl)) rfl (BN a g S W (λy hy=>aG _ hy) (by rw[pZ];have:=g.l8;lia)))
def zO(a:Adr)(g:Gd L N c)(ng:NoG L)(P:Pp pp N)(hb:T.get nb=Za (.book pp L))(Qm:nb<T.nx):∃w T',vi a [.ref nb] T=.ok (oP (srt pp) w) T'/\Sol L (λx=>((om L x:Int):Rat)) w/\Gr T T':=by obtain⟨d,z,j,T',S,e,W,G⟩:=FZ a g ng P hb Qm;have Sd:T'.get nb=Za (.book pp L):=(G.fr nb Qm).trans hb;refine⟨wv L d z,T',mE ?_,S.sol g,G⟩;unfold Ge;refine nI (Ky (Nh (lE (lC rfl) rfl) rfl e) W.ob rfl (lE ((pE (vs:=[]) (s2:=T') (lC rfl) Sd rfl rfl).trans (show oR a [.ref nb] T'=.ok (LS (srt pp)) T' by unfold oR mH;simp only[Sd])) (lE (lU (lE (lC rfl) rfl) rfl (uT a g Sd)) rfl)) rfl (BN a g S W (λy hy=>bj _ hy) (by rw[(lQ _).length_eq];have:=P.le;lia)))
end
structure KeepS(g:Ent->Ent):Prop where
 nm:∀e,(g e).nm=e.nm
 hl:∀e,(g e).held=e.held
section
variable{T:Sto}{nb:Nat}{pp N:List Str}{L:List Ent}{c:Nat}{g:Ent->Ent}{h:Str}
def Bg(K:KeepS g):(mR L h g).map (·.nm)=L.map (·.nm):=by
 unfold mR;rw[aE];refine aV λe _=>?_;show(if e.nm=h then g e else e).nm=e.nm;split
 ·exact K.nm e
 ·rfl
def uw(K:KeepS g)(n):mB (mR L h g) n=(mB L n).map λe=>if e.nm=h then g e else e:=by
 unfold mB mR;rw[fg];have e:((λe:Ent=>decide (e.nm=n))∘λx:Ent=>if x.nm=h then g x else x)=λe:Ent=>decide (e.nm=n):=by
  funext x
  show decide ((if x.nm=h then g x else x).nm=n)=_;split
  ·rw[K.nm]
  ·rfl
 rw[e]
def yI(K:KeepS g):hsL (mR L h g)=hsL L:=by unfold hsL;rw[Bg K]
def FL(K:KeepS g)(n):own (mR L h g) n=own L n:=by
 unfold own;rw[uw K];cases mB L n with
 |none=>rfl
 |some e =>
  show srt ((if e.nm=h then g e else e).held.map (·.1))=_;split
  ·rw[K.hl]
  ·rfl
def K1(K:KeepS g)(n x):shr (mR L h g) n x=shr L n x:=by
 unfold shr;rw[uw K];cases mB L n with
 |none=>rfl
 |some e =>
  show rv (lT (if e.nm=h then g e else e).held x)=_;split
  ·rw[K.hl]
  ·rfl
def wu(K:KeepS g)(n):l7 (mR L h g) n=l7 L n:=by unfold l7;rw[uw K,ci]
def NoG.set(K:KeepS g)(ng:NoG L):NoG (mR L h g):=λG hG hh=>by obtain⟨y,hy,x,hx,q⟩:=ng G hG λy hy=>(wu K y)▸hh y hy;exact⟨y,hy,x,by rw[FL K];exact hx,q⟩
def Ho.set(K:KeepS g)(H:Ho L N):Ho (mR L h g) N:=by
 refine⟨λn e f=>?_,H.sm,H.le,λn hn=>H.hn n ((wu K n)▸hn)⟩;rw[uw K] at f;cases f':mB L n with
 |none=>rw[f'] at f;cases f
 |some e' =>
  rw[f'] at f;have f:(if e'.nm=h then g e' else e')=e:=aO f;have:e.held=e'.held:=by
   rw[<-f];split
   ·exact K.hl e'
   ·rfl
  rw[this];exact H.ow n e' f'
theorem Cts.set(K:KeepS g):∀{c:Nat}{L:List Ent},Cts c L->Cts c (mR L h g)
 |_,_,.nil=>.nil
 |_,_,.cons (e:=e) ⟨hz,R⟩ r q=>.cons (e:=if e.nm=h then g e else e) ⟨hz,by
   split
   ·rw[K.hl];exact R
   ·exact R⟩ (Cts.set K r) q
theorem Gd.set(K:KeepS g)(G:Gd L N c)(tb:∀e∈L,e.nm=h->Bt 200 (g e).th):Gd (mR L h g) N c:=by
 refine⟨G.ho.set K,by rw[Bg K];exact G.nd,G.ct.set K,λe he=>?_,by unfold mR;rw[ac];exact G.l8,G.c40⟩;unfold mR at he;obtain⟨x,hx,rfl⟩:=aj.mp he;split
 ·rename_i q;exact tb x hx q
 ·exact G.tb x hx
def sO(v):KeepS λe=>{ e with th:=v }:=⟨λ_=>rfl,λ_=>rfl⟩
def kp_mr(v):KeepS λe=>{ e with mr:=v }:=⟨λ_=>rfl,λ_=>rfl⟩
def kp_ls(v):KeepS λe=>{ e with ls:=v }:=⟨λ_=>rfl,λ_=>rfl⟩
def JD(K:KeepS g)(n):om (mR L h g) n=match mB L n with
  |some e=>if e.nm=h then(g e).th else e.th
  |none=>0:=by
 unfold om;rw[uw K];cases mB L n with
 |none=>rfl
 |some e =>
  show(if e.nm=h then g e else e).th=if e.nm=h then(g e).th else e.th
  split<;>rfl
def Km(v)(hh:l7 L h=true)(n):om (mR L h λe=>{ e with th:=v }) n=if n=h then v else om L n:=by
 rw[JD (sO v)];unfold om;cases f:mB L n with
 |none =>
  rw[Zd];intro z;rw[z] at f;unfold l7 at hh;rw[f] at hh;cases hh
 |some e =>
  have:=(ux f).2;show(if e.nm=h then v else e.th)=_;rw[this]
def AY(a)(hb:T.get nb=Za (.book pp L))(hh:l7 L h=true)(hs:Nm h)(v):rZ a [.ref nb,.str h,.int v] T=.ok .non (T.set nb (.book pp (mR L h λe=>{ e with th:=v }))):=by simp[rZ,AQ,mH,hb,hs,hh]
def LM(a)(hb:T.get nb=Za (.book pp L))(hh:l7 L h=true)(hs:Nm h)(v):AF a [.ref nb,.str h,.int v] T=.ok .non (T.set nb (.book pp (mR L h λe=>{ e with mr:=v }))):=by simp[AF,AQ,mH,hb,hs,hh]
def LO(a)(hb:T.get nb=Za (.book pp L))(hh:l7 L h=true)(hs:Nm h)(h0:0<=v):AG a [.ref nb,.str h,.int v] T=.ok .non (T.set nb (.book pp (mR L h λe=>{ e with ls:=v }))):=by
 have:¬v<0:=by lia
 simp[AG,AQ,mH,hb,hs,hh,this]
def GL(G:Gd L N c)(ng:NoG L)(s:Sol L t w)(s':Sol L t' w')(ht:∀x,x≠h->t x=t' x)(R:Rch L h F):∀x,x≠h->x∉F->w x=w' x:=by
 have key:∀x,x≠h->x∉F->∀v:Str->Rat,mq ((hsL L).map λl=>shr L l x*v l)=mq (((hsL L).filter λl=>decide (l≠h/\l∉F)).map λl=>shr L l x*v l):=λx hx hF v=>by
  refine(qJ λl _ hl=>?_).symm;have hl:=of_decide_eq_false hl;have:l=h\/l∈F:=by
   by_cases q:l=h
   ·exact .inl q
   ·exact .inr (de λz=>hl ⟨q,z⟩)
  have no:x∉own L l:=λz=>hF (by
   rcases this with q|q
   ·rw[q] at z;exact R.cl.1 x z
   ·exact R.cl.2 l q x z)
  rw[G.zero no,Rat.zero_mul]
 have zero:=G.uniq ng (U:=(hsL L).filter λl=>decide (l≠h/\l∉F)) (G.hnd.filter _) (λx hx=>hsL_mem.mp (bw.mp hx).1) (v:=λx=>w x-w' x) λx hx=>by
  obtain⟨x1,x2⟩:=Zf (bw.mp hx).2;have e:mq (((hsL L).filter λl=>decide (l≠h/\l∉F)).map λl=>shr L l x*(w l-w' l))=mq (((hsL L).filter λl=>decide (l≠h/\l∉F)).map λl=>shr L l x*w l+(-1)*(shr L l x*w' l)):=mF λl _=>by grind
  rw[e,uj,qG,<-key x x1 x2 w,<-key x x1 x2 w'];have a1:=s x;have a2:=s' x;have a3:=ht x x1
  grind
 intro x hx hF;have a1:=s x;have a2:=s' x;have a3:=ht x hx;rw[key x hx hF w] at a1;rw[key x hx hF w'] at a2;have e:mq (((hsL L).filter λl=>decide (l≠h/\l∉F)).map λl=>shr L l x*w l)=mq (((hsL L).filter λl=>decide (l≠h/\l∉F)).map λl=>shr L l x*w' l):=mF λl hl=>by
  have:=zero l hl;have:w l-w' l=0:=this
  grind
 rw[a1,a2,e,a3]
def Sol.set(K:KeepS g):Sol (mR L h g) t w↔Sol L t w:=by unfold Sol;rw[yI K];simp only[K1 K]
def Rch.set(K:KeepS g):Rch (mR L h g) n F↔Rch L n F:=by
 have e:∀S,Cl (mR L h g) n S↔Cl L n S:=λS=>by unfold Cl;simp only[FL K]
 exact⟨λ⟨a,b,c⟩=>⟨a,(e _).mp b,λS hS=>c S ((e S).mpr hS)⟩,λ⟨a,b,c⟩=>⟨a,(e _).mpr b,λS hS=>c S ((e S).mp hS)⟩⟩
end
def Kw(h1:f Z s=.ok false s1)(h2:g Z s1=.ok b s2):xOr f g Z s=.ok b s2:=by unfold xOr;rw[h1];exact h2
def N4(h1:f Z s=.ok true s1):xOr f g Z s=.ok true s1:=by unfold xOr;rw[h1];rfl
def MM(h1:f Z s=.ok true s1)(h2:g Z s1=.ok b s2):xAnd f g Z s=.ok b s2:=by unfold xAnd;rw[h1];exact h2
def O0(h1:f Z s=.ok false s1):xAnd f g Z s=.ok false s1:=by unfold xAnd;rw[h1];rfl
def JW(h:f Z s=.ok b s1):xNot f Z s=.ok (!b) s1:=by unfold xNot;rw[h];rfl
def GB(h1:f Z s=.ok (.bl true) s1)(h2:g Z s1=o):xAndV f g Z s=o:=by unfold xAndV;rw[h1];exact h2
def asg3(h:f Z s=.ok (.tup [u,v,w]) s'):xAsg f (yTup 3 (yCons (yName i) (yCons (yName j) (yCons (yName k) yNil)))) Z s=.nx (((Z.set i (Za u)).set j (Za v)).set k (Za w)) s':=by unfold xAsg;rw[h];rfl
def dtR(q:Rat):jE:=.tuple [.int q.num,.int (q.den:Int)]
def zU(h:bc x=true):PV.data s (k+3) (.tup [.str x,frR q])=Za (.tuple [.str x,dtR q]):=by
 have e1:PV.data s (k+2) (.str x)=Za (.str x):=by unfold PV.data;rw[Zc h]
 have e2:PV.data s (k+2) (frR q)=Za (dtR q):=rfl;unfold PV.data;simp[vG,e1,e2]
theorem Bx{s:Sto}{k:Nat}{w:Str->Rat}:∀{X:List Str},(∀x∈X,bc x=true)->vG (PV.data s (k+3)) (X.map λx=>.tup [.str x,frR (w x)])=Za (X.map λx=>.tuple [.str x,dtR (w x)])
 |[],_=>rfl
 |x::X,h=>by rw[am];unfold vG;rw[zU (h x ag),Bx λy hy=>h y (ae _ hy)];rfl
def Mc(x):bu (.str x) (.str x)=true:=by unfold bu;exact beq_self_eq_true x
def Me(q):bu (dtR q) (dtR q)=true:=by unfold dtR;simp[bu,bO]
def J8(x)(q):bu (.tuple [.str x,dtR q]) (.tuple [.str x,dtR q])=true:=by rw[bu,bO,bO,bO,Mc,Me];rfl
theorem xI{α:Type}{f:α->jE}(h:∀x,bu (f x) (f x)=true):∀l:List α,bO (l.map f) (l.map f)=true
 |[]=>by simp[bO]
 |x::l=>by rw[am,bO,h,xI h l];rfl
def yA(h:∀x∈X,w x=w' x):oP X w=oP X w':=by unfold oP;rw[aV λx hx=>by rw[h x hx]]
def Gg{s:Sto}{X:List Str}{w:Str->Rat}(h:∀x∈X,bc x=true):fEq (oP X w) (oP X w) s=.ok (.bl true) s:=by
 have e:PV.data s 12 (oP X w)=Za (.list (X.map λx=>.tuple [.str x,dtR (w x)])):=by unfold oP PV.data;rw[Bx (k:=8) h];rfl
 show fEqN false _ _ _=_;unfold fEqN;rw[e];show Out.ok (PV.bl (bu (.list _) (.list _))) s=_;rw[bu,xI λx=>J8 x (w x)]
def Oo(h:bc x=true):∃b,fNe (.tup [.str x,frR p]) (.tup [.str x,frR q]) s=.ok (.bl b) s/\(p=q->b=false):=by
 refine⟨!bu (.tuple [.str x,dtR p]) (.tuple [.str x,dtR q]),?_,λe=>?_⟩
 ·show fEqN true _ _ _=_;unfold fEqN;rw[zU (k:=9) h,zU (k:=9) h];rfl
 ·rw[e,J8];rfl
def IN{s:Sto}{v:PV}{x:Str}{S:List Str}(hd:dcOf s v=Zb)(ht:∀l,v≠.tup l)(hl:lsOf s v=Za (S.map .str)):Ax (.str x) v s=.ok (.bl (!decide (x∈S))) s:=by
 show qx true _ _ _=_;unfold qx;rw[hd];cases v with
 |tup l=>exact absurd rfl (ht l)
 |_=>simp[toV,hl,vk,FF,Bo]
def F6(a:Adr){T:Sto}{X S:List Str}{w w':Str->Rat}{v:PV}(hX:∀x∈X,bc x=true)(hd:dcOf T v=Zb)(ht:∀l,v≠.tup l)(hl:lsOf T v=Za (S.map .str))(h:∀x∈X,x∉S->w x=w' x):oM a [oP X w,oP X w',v] T=.ok (.bl true) T:=by
 have lp:∀(Y:List Str)(u3 u4:Option PV),(∀x∈Y,x∈X)->∃v3 v4,nM (mK (yTup 2 (yCons (yName 3) (yCons (yName 4) yNil))) (ou a)) (Y.map λx=>.tup [.tup [.str x,frR (w x)],.tup [.str x,frR (w' x)]]) [Za (oP X w),Za (oP X w'),Za v,u3,u4] T=.nx [Za (oP X w),Za (oP X w'),Za v,v3,v4] T:=by
  intro Y;induction Y with
  |nil=>exact λu3 u4 _=>⟨u3,u4,rfl⟩
  |cons x Y ih =>
   intro u3 u4 hY;obtain⟨v3,v4,e⟩:=ih (Za (.tup [.str x,frR (w x)])) (Za (.tup [.str x,frR (w' x)])) λy hy=>hY y (ae _ hy);refine⟨v3,v4,?_⟩;rw[am];unfold nM;have bd:mK (yTup 2 (yCons (yName 3) (yCons (yName 4) yNil))) (ou a) (.tup [.tup [.str x,frR (w x)],.tup [.str x,frR (w' x)]]) [Za (oP X w),Za (oP X w'),Za v,u3,u4] T=.nx [Za (oP X w),Za (oP X w'),Za v,Za (.tup [.str x,frR (w x)]),Za (.tup [.str x,frR (w' x)])] T:=by
    show ou a [Za (oP X w),Za (oP X w'),Za v,Za (.tup [.str x,frR (w x)]),Za (.tup [.str x,frR (w' x)])] T=_;unfold ou;have hx:=hY x ag;obtain⟨b,e1,e2⟩:=Oo (s:=T) (p:=w x) (q:=w' x) (hX x hx);refine(vx (s1:=T) ?_).trans rfl;cases b with
    |false=>exact O0 (o5 ((lZ (lC rfl) (lC rfl)).trans e1))
    |true =>
     have hS:x∈S:=de λz=>by have:=e2 (h x hx z);cases this
     refine MM (o5 ((lZ (lC rfl) (lC rfl)).trans e1)) (o5 ((lZ ((lZ (lC rfl) rfl).trans (show fIx (.tup [.str x,frR (w x)]) (.int 0) T=.ok (.str x) T from rfl)) (lC rfl)).trans ((IN hd ht hl).trans ?_)));rw[Zg hS];rfl
   rw[bd];exact e
 obtain⟨v3,v4,e⟩:=lp X Zb Zb λ_ z=>z;refine mE ?_;unfold xF;refine lP (re (l:=X.map λx=>.tup [.tup [.str x,frR (w x)],.tup [.str x,frR (w' x)]]) (s1:=T) ?_ e) ?_
 ·unfold Em;rw[lE (lC (i:=0) (v:=oP X w) rfl) (lE (lC (i:=1) (v:=oP X w') rfl) rfl)];show Out.ok (tE (X.map λx=>.tup [.str x,frR (w x)]) (X.map λx=>.tup [.str x,frR (w' x)])) T=_;rw[Cn]
 ·have ln:∀(i:Nat)(w:Str->Rat),xB (xCons (xVar i) xNil) fLen [Za (oP X w),Za (oP X w),Za v,v3,v4] T=xB (xCons (xVar i) xNil) fLen [Za (oP X w),Za (oP X w),Za v,v3,v4] T:=λ_ _=>rfl;refine nI ((lZ (v:=.int (X.length:Nat)) (w:=.int (X.length:Nat)) ((wH (lE (lC rfl) rfl)).trans (by unfold oP;rw[Cz,ac])) ((wH (lE (lC rfl) rfl)).trans (by unfold oP;rw[Cz,ac]))).trans ?_);show fEqN false _ _ _=_;unfold fEqN;rw[oi];show Out.ok (PV.bl (bu (.int _) (.int _))) T=_;rw[qy,beq_self_eq_true]
structure Ls(T:Sto)(p nb:Nat)(pp:List Str)(L:List Ent)(Zj:List (Nat×Cell)):Prop where
 pu:IsPurse T p
 bk:T.get nb=Za (.book pp L)
 ne:p≠nb
 lp:p<T.nx
 lb:nb<T.nx
 zz:∀z∈Zj,T.get z.1=Za z.2/\z.1≠p/\z.1≠nb/\z.1<T.nx
section
variable{T T':Sto}{p nb:Nat}{pp:List Str}{L L':List Ent}{Zj:List (Nat×Cell)}
def Ls.gr(h:Ls T p nb pp L Zj)(g:Gr T T'):Ls T' p nb pp L Zj :=
 ⟨let⟨x,y,e⟩:=h.pu;⟨x,y,(g.fr p h.lp).trans e⟩,(g.fr nb h.lb).trans h.bk,h.ne,aA h.lp g.nx,aA h.lb g.nx,λz hz=>let⟨a,b,c,d⟩:=h.zz z hz;⟨(g.fr _ d).trans a,b,c,aA d g.nx⟩⟩
theorem Ls.pst(h:Ls T p nb pp L Zj)(x y):Ls (T.set p (.lst [.int x,.int y])) p nb pp L Zj :=
 ⟨h.pu.pst x y,(lN _ _ (bY h.ne)).trans h.bk,h.ne,h.lp,h.lb,λz hz=>let⟨a,b,c,d⟩:=h.zz z hz;⟨(lN _ _ b).trans a,b,c,d⟩⟩
theorem Ls.book(h:Ls T p nb pp L Zj)(L'):Ls (T.set nb (.book pp L')) p nb pp L' Zj :=
 ⟨let⟨x,y,e⟩:=h.pu;⟨x,y,(lN _ _ h.ne).trans e⟩,nZ h.bk,h.ne,h.lp,h.lb,λz hz=>let⟨a,b,c,d⟩:=h.zz z hz;⟨(lN _ _ c).trans a,b,c,d⟩⟩
def Ls.more(h:Ls T p nb pp L Zj)(hc:T.get k=Za c)(h1:k≠p)(h2:k≠nb)(h3:k<T.nx):Ls T p nb pp L ((k,c)::Zj) :=
 ⟨h.pu,h.bk,h.ne,h.lp,h.lb,λz hz=>(ah.mp hz).elim (λe=>by rw[e];exact⟨hc,h1,h2,h3⟩) (h.zz z)⟩
end
section
variable{s t:Sto}{p nb nd:Nat}{N:List Str}{c:Nat}{pp:List Str}{L:List Ent}{M:List Md}
def Prs.at_(P:Prs N c L M)(h:n∈L.map (·.nm)):∃e m k,mB L n=Za e/\m∈M/\pP (M.map mdP) (af n)=Za (.lst [.ref m.cell,.tup [.int m.th,.int m.mr,.int m.ls]])/\MRel N k e m:=by obtain⟨A,e,B,A',m,B',k1,k2,k3,e1,e2,e3,e4,e5,e6,e7,_⟩:=P.cut (P.names▸h);subst e3;refine⟨e,m,k2,?_,by rw[e2];simp,by rw[e2];exact J0 e4,e6⟩;rw[e1,<-e6.nm];exact wc (by rw[e5.names,e6.nm];exact e4)
def Bst.ho(B:Bst s t p nb nd N c pp L M)(WN:Wds N)(hn:∀n∈L.map (·.nm),n∈N)(hl:N.length<64):Ho L N:=by refine⟨λn e fe=>?_,WN.sm,hl,λn h=>hn n ((pM _ _).mp h)⟩;have hn:n∈L.map (·.nm):=(pM _ _).mp (by unfold l7;rw[fe];rfl);obtain⟨e',m,k,f,hm,_,R⟩:=B.w.pr.at_ hn;rw[fe] at f;cases f;have:e.held.length=m.hl.length:=R.hm.len.symm;have l2:=CU R.hm.nd R.ow;rw[ac] at l2;exact⟨by lia,λx hx=>R.ow x ((R.hm.mem x).mpr hx)⟩
def Bst.gd(B:Bst s t p nb nd (pp++hs) c pp L M)(WN:Wds (pp++hs))(hL:L.map (·.nm)=hs)(hp:pp.length<=6)(hh:hs.length<=8)(hc:c<=40):Gd L (pp++hs) c/\Pp pp (pp++hs):=by
 have Nl:(pp++hs).length<64:=by rw[aJ];lia
 refine⟨⟨B.ho WN (λn hn=>aG _ (hL▸hn)) Nl,by rw[hL];exact(bK.mp WN.nd).2.1,B.w.pr.cts,λe he=>(B.w.pr.tb e he).mono (by decide),?_,by lia⟩,λx hx=>bj _ hx,by lia⟩;have:=congrArg b7 hL;rw[ac] at this;lia
end
section
variable{T:Sto}{p nb nd:Nat}{pp N:List Str}{L:List Ent}{c:Nat}{Zj:List (Nat×Cell)}{M:List Md}
def J5(T)(F)(cl):Gr T ((rst T F []).add cl)/\((rst T F []).add cl).get (T.nx+2)=Za cl/\((rst T F []).add cl).nx=T.nx+3:=by
 have n2:(rst T F []).nx=T.nx+2:=rfl;refine⟨⟨Nat.le_add_right _ 3,λk hk=>?_⟩,?_,rfl⟩
 ·rw[ms,n2,Zd (show T.nx+2≠k by lia),Fl _ _ _ hk]
 ·rw[ms,n2,Zc rfl]
def E8(a)(h:Ls T p nb pp L Zj)(hm:(nd,.dct (M.map mdP))∈Zj)(h0:M≠[])(hl:M.length<64)(r1:Z[1]?=Za (Za (.ref p)))(r4:Z[4]?=Za (Za (.ref nd))) :
  ∃w x y,w∈M.map (·.nm)/\x2 (xB (xCons (xVar 4) xNil) me) (xCall 2 (lR a) (xCons (xVar 1) (xCons (xB (xCons (xVar 4) xNil) fLen) xNil))) fIx Z T=.ok (.str w) (T.set p (.lst [.int x,.int y])):=by
 have g:=(h.zz _ hm).1;have l0:0<M.length:=fS.mpr h0;obtain⟨r,x,y,q0,q1,e⟩:=qz a T p (M.length:Nat) h.pu (by lia) (oj (by lia) (by lia));obtain⟨w,hw,QQ⟩:=Ei (ws:=srt (M.map (·.nm))) (r:=r) q0 (by rw[(lQ _).length_eq,ac];exact q1);refine⟨w,x,y,(lQ _).mem_iff.mp hw,?_⟩;have e1:xB (xCons (xVar 4) xNil) me Z T=.ok (.lst ((srt (M.map (·.nm))).map .str)) T:=(wH (lE (lC r4) rfl)).trans (vo g (F5 M) (by rw[ac];exact hl));have e2:xB (xCons (xVar 4) xNil) fLen Z T=.ok (.int (M.length:Nat)) T:=(wH (lE (lC r4) rfl)).trans (by have g:T.get nd=Za (.dct (M.map mdP)):=g;simp[fLen,lsOf,dcOf,g])
 exact(lZ e1 (lU (lE (lC r1) (lE e2 rfl)) rfl e)).trans (yf QQ)
def Ni(h:Ls T p nb pp L Zj)(hm:(nd,.dct (M.map mdP))∈Zj){n:Str}{m:Md}(hv:pP (M.map mdP) (af n)=Za (.lst [.ref m.cell,.tup [.int m.th,.int m.mr,.int m.ls]])){Z:En}(r4:Z[4]?=Za (Za (.ref nd)))(r5:Z[5]?=Za (Za (.str n))) :
  x2 (x2 (x2 (xVar 4) (xVar 5) fIx) (xC (.int 1)) fIx) (xC (.int 0)) fIx Z T=.ok (.int m.th) T:=by
 have e1:x2 (xVar 4) (xVar 5) fIx Z T=.ok (.lst [.ref m.cell,.tup [.int m.th,.int m.mr,.int m.ls]]) T:=(lZ (lC r4) (lC r5)).trans (Fq (h.zz _ hm).1 hv);exact(lZ ((lZ e1 rfl).trans rfl) rfl).trans rfl
end
structure Alk(L0 L:List Ent)(N:List Str)(c:Nat)(h:Str):Prop where
 g:Gd L N c
 ng:NoG L
 hh:l7 L h=true
 th:∀x,om L x=om L0 x
 so:∀t w,Sol L t w↔Sol L0 t w
 rc:∀F,Rch L h F↔Rch L0 h F
 hs:hsL L=hsL L0
theorem Alk.set{L0 L:List Ent}{N:List Str}{c:Nat}{h:Str}{g:Ent->Ent}(A:Alk L0 L N c h)(K:KeepS g)(ht:∀e,(g e).th=e.th):Alk L0 (mR L h g) N c h:=by
 refine⟨A.g.set K λe he _=>by rw[ht];exact A.g.tb e he,A.ng.set K,by rw[wu K];exact A.hh,λx=>?_,λt w=>by rw[Sol.set K];exact A.so t w,λF=>by rw[Rch.set K];exact A.rc F,by rw[yI K];exact A.hs⟩;rw[<-A.th x,JD K];unfold om;cases mB L x with
 |none=>rfl
 |some e =>
  show(if e.nm=h then(g e).th else e.th)=e.th;rw[ht];split<;>rfl
def kE(u0:PV)(p nb nd:Nat)(P:List Str)(u5 u6 u7 u8:Option PV):En:=[Za u0,Za (.ref p),Za (.ref nb),Za (LS P),Za (.ref nd),u5,u6,u7,u8]
def Ou(a)(l)(hl:l.length<=63)(hw:Att.WtOk l):∃s',AR a [.seq (l.map .int)] ⟨0,[]⟩=.ok (.bl true) s':=by
 obtain⟨x0,y0,e0⟩:=Iy a ⟨0,[]⟩ l hl hw;have hP:IsPurse ((⟨0,[]⟩:Sto).add (.lst [.int x0,.int y0])) 0:=⟨x0,y0,rfl⟩;have nx1:((⟨0,[]⟩:Sto).add (.lst [.int x0,.int y0])).nx=1:=rfl;generalize (⟨0,[]⟩:Sto).add (.lst [.int x0,.int y0])=s1 at *;obtain⟨t,nb,nd,pp,hs,c,L,M,e1,B,hL,WN,p1,p3,h6,c40⟩:=Jv a s1 0 (by lia) hP 6 (by decide);obtain⟨G,PP⟩:=B.gd WN hL (by lia) (by lia) (by lia);generalize PV.seq (l.map .int)=u at *;have lt:=B.w.lt;have ml:M.length=L.length:=by have:=congrArg b7 B.w.pr.names;simpa using this.symm
 have l8:=G.l8;have W0:Ls (t.add (.dct [])) 0 nb pp L [(nd,.dct (M.map mdP))] :=
  Ls.gr (T:=t) ⟨B.w.pu,B.w.bk,B.w.i1,lt.1,lt.2.1,λz hz=>by rw[ao.mp hz];exact⟨B.w.md,bY B.w.i2,bY B.w.i3,lt.2.2.1⟩⟩ (Gr.add _ _)
 have eD:x2 (xVar 4) xNewD AL (kE u 0 nb nd (srt pp) Zb Zb Zb Zb) t=.ok (.bl (M.map mdP).isEmpty) (t.add (.dct [])):=by
  refine(lZ (lC rfl) (show xNewD _ t=.ok (.ref t.nx) (t.add (.dct [])) from rfl)).trans ?_;have g1:(t.add (.dct [])).get nd=Za (.dct (M.map mdP)):=(W0.zz _ ag).1;have g2:(t.add (.dct [])).get t.nx=Za (.dct []):=by rw[ms,Zc rfl]
  unfold AL;simp only[dcOf,g1,g2]
 have PX:∀(s':Sto)(v:PV),E4 a [Za u,Zb,Zb,Zb,Zb,Zb,Zb,Zb,Zb] ⟨0,[]⟩=.rt v s'->AR a [u] ⟨0,[]⟩=.ok v s':=λs' v h=>mE h;have head:∀(o:SO)(g:XS),g (kE u 0 nb nd (srt pp) Zb Zb Zb Zb) t=o->xSeq (xSet 1 (xCall 1 (og a) (xCons (xVar 0) xNil))) (xSeq (xAsg (xCall 2 (qh a) (xCons (xVar 1) (xCons (xC (.int 6)) xNil))) (yTup 3 (yCons (yName 2) (yCons (yName 3) (yCons (yName 4) yNil))))) g) [Za u,Zb,Zb,Zb,Zb,Zb,Zb,Zb,Zb] ⟨0,[]⟩=o:=λo g h =>
  lP (l9 (lU (lE (lC rfl) rfl) rfl e0)) (lP (asg3 (lU (lE (lC rfl) (lE rfl rfl)) rfl e1)) h)
 by_cases hM:M=[]
 ·refine⟨t.add (.dct []),PX _ _ ?_⟩;unfold E4;refine head _ _ (CP ((xU (s1:=t.add (.dct [])) (N4 (o5 (eD.trans (by rw[hM];rfl))))).trans rfl))
 have eD':x2 (xVar 4) xNewD AL (kE u 0 nb nd (srt pp) Zb Zb Zb Zb) t=.ok (.bl false) (t.add (.dct [])):=eD.trans (by
  cases M with
  |nil=>exact absurd rfl hM
  |cons m M=>rfl)
 obtain⟨Gw,eG,WGw⟩:=Dq a G.ho (by lia) W0.bk;have sG:∀x∈Gw,bc x=true:=λx hx=>G.hok (WGw.sl.subset hx);have eW:xTr (x2 (xCall 1 (oA a) (xCons (xVar 2) xNil)) (xLst xNil) fNe) (kE u 0 nb nd (srt pp) Zb Zb Zb Zb) (t.add (.dct []))=.ok (!decide (Gw=[])) (t.add (.dct [])):=o5 ((lZ (lU (lE (lC rfl) rfl) rfl eG) (CV rfl)).trans (Ng (V:=[]) sG λ_ z=>nomatch z));by_cases hG:Gw=[]
 case neg =>
  refine⟨t.add (.dct []),PX _ _ ?_⟩;unfold E4;refine head _ _ (CP ((xU (s1:=t.add (.dct [])) (Kw (o5 eD') (eW.trans (by rw[Zh hG];rfl)))).trans rfl))
 subst hG;have ng:=WGw.noG;generalize t.add (.dct [])=t0 at *;obtain⟨h,xa,ya,hh,e2⟩:=E8 a W0 ag hM (by lia) (Z:=kE u 0 nb nd (srt pp) Zb Zb Zb Zb) rfl rfl;have W1:=W0.pst xa ya;generalize t0.set 0 (.lst [.int xa,.int ya])=t1 at *;have Q8:h∈L.map (·.nm):=B.w.pr.names▸hh;have Sw:l7 L h=true:=(pM _ _).mpr Q8;obtain⟨e,m,k,fe,hm,hv,R⟩:=B.w.pr.at_ Q8;have TW:=G.ho.sm h (G.ho.hn h Sw);obtain⟨F,e3,RF,fN⟩:=yL a G.ho W1.bk W1.lb Sw;obtain⟨G2,q2,n2⟩:=J5 t1 F (.lst ((srt F).map .str));have W2:=(W1.gr G2).more q2 (by have:=W1.lp;lia) (by have:=W1.lb;lia) (by lia);generalize (rst t1 F []).add (.lst ((srt F).map .str))=t2 at *;generalize t1.nx+2=kf at *;obtain⟨w,t3,e4,sw,G3⟩:=wO a G ng PP W2.bk W2.lb;have W3:=W2.gr G3;obtain⟨w2,t4,e5,sw2,G4⟩:=zO a G ng PP W3.bk W3.lb;have W4:=W3.gr G4;obtain⟨r,xb,yb,r0,r1,e6⟩:=qz a t4 0 ((10:Int)^6) W4.pu (by decide) (oj (by decide) (by decide));have W5:=W4.pst xb yb;have W6:=W5.book (mR L h λe=>{ e with th:=m.th+1+r });have tbm:Bt 100 m.th:=by rw[<-R.th];exact R.tb.1
 have bv:Bt 200 (m.th+1+r):=by
  have r1:r<1000000:=r1;unfold Bt at *;have e1:2^200=2^100*2^100:=iu 2 100 100;have e2:2^100=1267650600228229401496703205376:=by decide
  rw[e1];rw[e2] at tbm ⊢;lia
 have GG:=G.set (h:=h) (sO (m.th+1+r)) (λ_ _ _=>bv);have UM:=ng.set (h:=h) (sO (m.th+1+r));have e7:=AY a W5.bk Sw TW.nm (m.th+1+r);generalize hL6:mR L h (λe=>{ e with th:=m.th+1+r })=L6 at *;generalize t4.set 0 (.lst [.int xb,.int yb])=t5 at *;generalize t5.set nb (.book pp L6)=t6 at *;obtain⟨w',t7,e8,sw',G7⟩:=wO a GG UM PP W6.bk W6.lb;have W7:=W6.gr G7;obtain⟨w2',t8,e9,Uz,G8⟩:=zO a GG UM PP W7.bk W7.lb;have W8:=W7.gr G8;have hs6:hsL L6=hsL L:=by rw[<-hL6];exact yI (sO _)
 have rch:∀x,x≠h->x∉F->∀w w',Sol L (λx=>((om L x:Int):Rat)) w->Sol L6 (λx=>((om L6 x:Int):Rat)) w'->w x=w' x:=λx hx hF w w' s s'=>by rw[<-hL6] at s';refine GL G ng s ((Sol.set (sO _)).mp s') (λy hy=>?_) RF x hx hF;rw[Km _ Sw,Zd hy]
 have okX:∀x∈hsL L,bc x=true:=λx hx=>G.hok hx;have okP:∀x∈srt pp,bc x=true:=λx hx=>CN (G.ho.sm x (PP.sub x ((lQ _).mem_iff.mp hx)));have k1:=F6 a (T:=t7) (X:=hsL L) (S:=srt F++[h]) (w:=w) (w':=w') (v:=.lst ((srt F).map .str++[.str h])) okX rfl (by intro _ z;cases z) (by rw[aw];rfl) (λx hx hS=>by
  refine rch x (λz=>hS ?_) (λz=>hS ?_) w w' sw sw'
  ·rw[z];simp
  ·exact bj _ ((lQ _).mem_iff.mpr z))
 have gk8:t8.get kf=Za (.lst ((srt F).map .str)):=(W8.zz _ ag).1;have k2:=F6 a (T:=t8) (X:=srt pp) (S:=srt F) (w:=w2) (w':=w2') (v:=.ref kf) okP (by simp only[dcOf,gk8]) (by intro _ z;cases z) (by simp only[lsOf,gk8]) (λx hx hS=>by have xp:=(lQ _).mem_iff.mp hx;refine rch x (λz=>?_) (λz=>hS ((lQ _).mem_iff.mpr z)) w2 w2' sw2 Uz;have:=(bK.mp WN.nd).2.2 _ xp _ (hL▸Q8);exact this z)
 have Ve:l7 L6 h=true:=by rw[<-hL6,wu (sO _)];exact Sw
 have e10:=AY a W8.bk Ve TW.nm m.th;have W9:=W8.book (mR L6 h λe=>{ e with th:=m.th });have A9:Alk L (mR L6 h λe=>{ e with th:=m.th }) (pp++hs) c h:=by
  refine⟨GG.set (sO m.th) λ_ _ _=>tbm.mono (by decide),UM.set (sO m.th),by rw[wu (sO _)];exact Ve,λx=>?_,λt w=>by rw[Sol.set (sO _),<-hL6,Sol.set (sO _)],λF'=>by rw[Rch.set (sO _),<-hL6,Rch.set (sO _)],by rw[yI (sO _)];exact hs6⟩;rw[Km _ Ve,<-hL6,Km _ Sw];by_cases z:x=h
  ·rw[Zc z,z];unfold om;rw[fe];exact R.th.symm
  ·rw[Zd z,Zd z]
 generalize mR L6 h (λe=>{ e with th:=m.th })=L9 at *;generalize t8.set nb (.book pp L9)=t9 at *;obtain⟨v1,xc,yc,e11,b1⟩:=wW a t9 0 W9.pu;have W10:=W9.pst xc yc;have e12:=LM a W10.bk A9.hh TW.nm v1;have VN:=W10.book (mR L9 h λe=>{ e with mr:=v1 });have TR:=A9.set (kp_mr v1) λ_=>rfl;generalize mR L9 h (λe=>{ e with mr:=v1 })=L11 at *;generalize t9.set 0 (.lst [.int xc,.int yc])=t10 at *;generalize t10.set nb (.book pp L11)=t11 at *;obtain⟨v2,xd,yd,e13,b2⟩:=wW a t11 0 VN.pu;have W12:=VN.pst xd yd;have z0:(0:Int)<=if v2<0 then -v2 else v2:=by split<;>lia
 have e14:=LO a W12.bk TR.hh TW.nm z0;generalize hz:(if v2<0 then -v2 else v2)=z at *;have VM:=W12.book (mR L11 h λe=>{ e with ls:=z });have Rj:=TR.set (kp_ls z) λ_=>rfl;generalize mR L11 h (λe=>{ e with ls:=z })=VO at *;generalize t11.set 0 (.lst [.int xd,.int yd])=t12 at *;generalize t12.set nb (.book pp VO)=t13 at *;obtain⟨w3,t14,e15,sw3,G14⟩:=wO a Rj.g Rj.ng PP VM.bk VM.lb;have VL:=VM.gr G14;obtain⟨w4,TV,e16,sw4,G15⟩:=zO a Rj.g Rj.ng PP VL.bk VL.lb;have VJ:=VL.gr G15;obtain⟨F',e17,RF',fN'⟩:=yL a Rj.g.ho VJ.bk VJ.lb Rj.hh;obtain⟨G16,q16,n16⟩:=J5 TV F' (.lst ((srt F').map .str));have W16:=VJ.gr G16;have same:∀w w',Sol L (λx=>((om L x:Int):Rat)) w->Sol VO (λx=>((om VO x:Int):Rat)) w'->∀x,w' x=w x:=λw w' s s' x=>by refine Sol.uniq G ng ?_ s x;have:=(Rj.so _ _).mp s';simp only[Rj.th] at this;exact this
 refine⟨(rst TV F' []).add (.lst ((srt F').map .str)),PX _ _ ?_⟩;unfold E4;refine head _ _ ?_;refine lP ((vx (s1:=t0) (Kw (o5 eD') (eW.trans (by rfl)))).trans rfl) ?_;refine lP (l9 e2) ?_;refine lP (l9 (lU (lE (lC rfl) (lE (lC rfl) rfl)) rfl e3)) ?_;refine lP (l9 (lU (lE (lC rfl) rfl) rfl e4)) ?_;refine lP (l9 (lU (lE (lC rfl) rfl) rfl e5)) ?_;show xSeq _ _ (kE u 0 nb nd (srt pp) (Za (.str h)) (Za (.ref kf)) (Za (oP (hsL L) w)) (Za (oP (srt pp) w2))) t4=_;have hZ:((nd,.dct (M.map mdP)):Nat×Cell)∈[(kf,Cell.lst ((srt F).map .str)),(nd,.dct (M.map mdP))]:=ae _ ag;have pw:∀(Z:En)(s:Sto),x2 (xC (.int 10)) (xC (.int 6)) fPow Z s=.ok (.int (10^6)) s:=λZ s=>by simp[x2,xC,fPow,Out.bind]
 refine lP (uI ((pE (lC rfl) W4.bk (lE (lC rfl) (lE (vh (vh (Ni W4 hZ hv rfl rfl) rfl) (lU (lE (lC rfl) (lE (pw _ _) rfl)) rfl e6)) rfl)) rfl).trans e7)) ?_;rw[hs6] at e8;have gk7:t7.get kf=Za (.lst ((srt F).map .str)):=(W7.zz _ ag).1;have lF:(srt F).length<=64:=by rw[(lQ _).length_eq];exact dM (aQ (CU RF.nd fN) G.ho.le)
 have c1:x2 (xVar 6) (xLst (xCons (xVar 5) xNil)) fAdd (kE u 0 nb nd (srt pp) (Za (.str h)) (Za (.ref kf)) (Za (oP (hsL L) w)) (Za (oP (srt pp) w2))) t7=.ok (.lst ((srt F).map .str++[.str h])) t7:=by refine(lZ (lC rfl) (CV (lE (lC rfl) rfl))).trans ?_;simp only[fAdd,lsOf,gk7];rw[Zc (by rw[ac];show(srt F).length+1<=100000;lia)]
 have c2:xTr (xCall 3 (oM a) (xCons (xVar 7) (xCons (xCall 1 (rY a) (xCons (xVar 2) xNil)) (xCons (x2 (xVar 6) (xLst (xCons (xVar 5) xNil)) fAdd) xNil)))) (kE u 0 nb nd (srt pp) (Za (.str h)) (Za (.ref kf)) (Za (oP (hsL L) w)) (Za (oP (srt pp) w2))) t6=.ok true t7 :=
  o5 (lU (lE (lC rfl) (lE (lU (lE (lC rfl) rfl) rfl e8) (lE c1 rfl))) rfl k1)
 have c3:xTr (xCall 3 (oM a) (xCons (xVar 8) (xCons (xCall 1 (vi a) (xCons (xVar 2) xNil)) (xCons (xVar 6) xNil)))) (kE u 0 nb nd (srt pp) (Za (.str h)) (Za (.ref kf)) (Za (oP (hsL L) w)) (Za (oP (srt pp) w2))) t7=.ok true t8 :=
  o5 (lU (lE (lC rfl) (lE (lU (lE (lC rfl) rfl) rfl e9) (lE (lC rfl) rfl))) rfl k2)
 refine lP ((vx (s1:=t8) (Kw (JW c2) (JW c3))).trans rfl) ?_;refine lP (uI ((pE (lC rfl) W8.bk (lE (lC rfl) (lE (Ni W8 hZ hv rfl rfl) rfl)) rfl).trans e10)) ?_;refine lP (uI ((pE (lC rfl) W9.bk (lE (lC rfl) (lE (lU (lE (lC rfl) rfl) rfl e11) rfl)) rfl).trans e12)) ?_;refine lP (uI ((pE (lC rfl) VN.bk (lE (lC rfl) (lE ((wH (lE (lU (lE (lC rfl) rfl) rfl e13) rfl)).trans (show fAbs [.int v2] t12=.ok (.int z) t12 by rw[<-hz];rfl)) rfl)) rfl).trans e14)) ?_;refine nI (GB ((lZ (lU (lE (lC rfl) rfl) rfl e15) (lC rfl)).trans (by rw[Rj.hs,yA λx _=>same w w3 sw sw3 x];exact Gg okX)) (GB ((lZ (lU (lE (lC rfl) rfl) rfl e16) (lC rfl)).trans (by rw[yA λx _=>same w2 w4 sw2 sw4 x];exact Gg okP)) ((lZ (lU (lE (lC rfl) (lE (lC rfl) rfl)) rfl e17) (lC rfl)).trans ?_)));have TF:=(W16.zz _ ag).1;have sF:∀x∈srt F,bc x=true:=λx hx=>CN (G.ho.sm x (fN x ((lQ _).mem_iff.mp hx)));have eqF:srt F'=srt F:=((Rj.rc F').mp RF').same RF;rw[eqF] at q16 TF ⊢;have d1:=zV (s:=(rst TV F' []).add (.lst ((srt F).map .str))) 10 sF q16;have d2:=zV (s:=(rst TV F' []).add (.lst ((srt F).map .str))) 10 sF TF;show fEqN false _ _ _=_;unfold fEqN;rw[d1,d2];show Out.ok (PV.bl (bu (.list _) (.list _))) _=_;rw[bu,xH]
def LR{K}{a}{H}{c}{ns}{Q}{E}(hl:ns.length<=63)(hw:Att.WtOk ns)(ht:bQ K a7 "rules"=Za Zb)(hO:MR H)(hS:SqL K H c (ns.map V.int))(k:∀v H',v=.bl true->Q v H'):spD K a.Book 1 (AR a) [.ref c] H Q E:=by
 obtain⟨s',e⟩:=Ou a ns hl hw;have S0:SR K a.Book H ⟨λ_=>c,λ_=>[],[]⟩ ⟨0,[]⟩:=by refine⟨ii,(by intro n hn;cases hn),(by intro q hq;cases hq),(by intro n hn;cases hn),(by intro n hn;cases hn),(by intro z hz;cases hz),λP q t=>?_⟩;obtain⟨x,hx,c',h1,h2⟩:=t;simp only[Ek,ao] at hx;subst hx;unfold PySem.W.tabIn at h1;rw[ht] at h1;cases h1
 have R0:∀(l:List Int),Reps K H ⟨λ_=>c,λ_=>[],[]⟩ ⟨0,[]⟩ (l.map V.int) (l.map PV.int):=λl=>by
  induction l with
  |nil=>exact .nil
  |cons x r ih=>exact .cons .int ih
 have pu:Pur (⟨λ_=>c,λ_=>[],[]⟩:Mp) ⟨0,[]⟩ c:=⟨(by intro z;cases z),by intro n hn;cases hn⟩;have hr:Rep K H ⟨λ_=>c,λ_=>[],[]⟩ ⟨0,[]⟩ (.ref c) (.seq (ns.map .int)):=by
  refine .seq ?_ (R0 ns);rcases hS with(h|h)|h
  ·rcases hO c with z|⟨o,xs,z⟩
   ·rw[z] at h;cases h
   ·rw[z] at h;cases h
  ·exact .inl ⟨h,pu⟩
  ·exact .inr h
 refine⟨rfl,[.seq (ns.map .int)],⟨0,[]⟩,_,.cons hr .nil,S0,?_⟩;rw[e];intro u H' m' _ _ r;cases r;exact k _ _ rfl
open PyProof.Rows
structure Gw(K:aa)(C:ak):Prop where
 n:bQ K a7 "Ways"=Za (Za (.ref C))
 p:d6 K C cx=true
 h:eT K C=true
 o:f6 K C=true
 s:aU K (.ref C) "__setattr__"=Za (Za (.builtin "object.__setattr__"))
 m:fE K C=true
 k:cD K (.ref C)=true
 a:aU K (.ref C) "bottom"=Za Zb
 b:aU K (.ref C) "top_of"=Za Zb
def all_mk{l:gw}{w}{K}{h}{mg}{fa}(X:K.In h)(G:h.Ns a7 mg)(hfa:mg "law"=Za (.ref fa)){QM BK WY}(x0z:Gx K "OwnError")(x1z:Gx K "NoName")(x2z:Gx K "Twice")(x3z:Gx K "TooMany")(x4z:Gx K "NoHolder")(x5z:Gx K "NoHouse")(x6z:Gx K "NoLoss")(x7z:Gx K "NoShare")(Rm:bQ K a7 "Whole"=Za (Za (.ref QM)))(cb:Gb K BK)(cw:Gw K WY)(c0z:Gt K "ZERO" 0 1)(c1z:Gt K "ONE" 1 1)(u0z:Gi K "LONGEST_NAME" 8)(u1z:Gi K "MOST_PERSONS" 6)(u2z:Gi K "MOST_HOUSES" 8)(z0z:Gz K "len")(z1z:Gz K "range")(z2z:Gz K "all")(z3z:Gz K "int")(z4z:Gz K "abs")(z5z:Gz K "sorted")(z6z:Gz K "tuple")(z7z:Gz K "list")(z8z:Gz K "str")(z9z:Gz K "bool")(Ut:Gz K "isinstance")(Us:Gz K "ValueError")(Ur:Gz K "any")(Uq:Gz K "set")(Up:Gz K "max")(RM:Gz K "dict")(RL:Gz K "enumerate")(SG:Gz K "sum")(RK:Gz K "zip")(j0:Gf K "is_name" uE)(j1:Gf K "need_loss" tJ)(j2:Gf K "common_divisor" o8)(j3:Gf K "plus" Fj)(j4:Gf K "minus" Cr)(j5:Gf K "is_above" vp)(j6:Gm K BK "__init__" "Book.__init__" tU)(j7:Gm K BK "is_house" "Book.is_house" pU)(j8:Gm K BK "is_holder" "Book.is_holder" o9)(j9:Gm K BK "need_house" "Book.need_house" oS)(j10:Gm K BK "need_holder" "Book.need_holder" oB)(j11:Gm K BK "need_new_name" "Book.need_new_name" nR)(j12:Gm K BK "person" "Book.person" qY)(j13:Gm K BK "house" "Book.house" sA)(j14:Gm K BK "sale" "Book.sale" tR)(j15:Gm K BK "persons" "Book.persons" qk)(j16:Gm K BK "houses" "Book.houses" qZ)(j17:Gm K BK "of" "Book.of" wU)(j18:Gm K BK "shares" "Book.shares" pz)(j19:Gm K BK "things" "Book.things" qX)(j20:Gm K BK "mark" "Book.mark" tS)(j21:Gm K BK "loss" "Book.loss" tT)(j22:Gf K "_law_mixed" su)(j23:Gf K "_law_purse" si)(j24:Gf K "_law_draw" tP)(j25:Gf K "_law_divisor" qj)(j26:Gf K "_law_made" tN)(j27:Gf K "_law_names" sj)(j28:Gf K "_law_number" qU)(j29:Gf K "_law_part" tM)(j30:Gf K "_law_sold" tL)(j31:Gf K "_law_built" sx)(j32:Gf K "lowest" zK)(j33:Gf K "cleared" wS)(j34:Gf K "solved" zI)(j35:Gf K "is_held_within" o7)(j36:Gf K "whole_group" qT)(j37:Gf K "need_no_whole_group" nC)(j38:Gf K "cut" Kq)(j39:Gf K "all_cut" wT)(j40:Gf K "owning" zJ)(j41:Gf K "agreement" tK)(j42:Gm K WY "__init__" "Ways.__init__" tQ)(j43:Gm K WY "top_by" "Ways.top_by" qV)(j44:Gm K WY "all_by" "Ways.all_by" qW)(j45:Gf K "own_things" sf)(j46:Gf K "worths" zH)(j47:Gf K "parts" Cq)(j48:Gf K "reached" wR)(j49:Gf K "_law_kept" tO)(j50:Gf K "law" Kp)(zr:Gz K "rules")
  :∃(a:Adr)(fd:cq),bQ K a7 "rules"=Za Zb/\(∀(s:ax)(v:ai),jw s fd ⟨[v],[]⟩ [("_law_script",v)])/\∀base:bx,K.In base->base.Ns a7 mg->FnOk l.prog w K mg base (CXo l.prog w) 10 fa fd ["_law_script"] (spD K a.Book 1 (AR a)):=by
 have g:=λ{x v}=>@jq _ _ _ x v X G;obtain⟨QC,n0,e0⟩:=x0z;obtain⟨Rc,n1,e1⟩:=x1z;obtain⟨Rz,n2,e2⟩:=x2z;obtain⟨QR,n3,e3⟩:=x3z;obtain⟨QD,n4,e4⟩:=x4z;obtain⟨QT,n5,e5⟩:=x5z;obtain⟨Re,n6,e6⟩:=x6z;obtain⟨QS,n7,e7⟩:=x7z;obtain⟨o0,_,_,_,_,_,p0,l0⟩:=c0z;obtain⟨o1,_,_,_,_,_,p1,l1⟩:=c1z;obtain⟨t0,y0⟩:=u0z;obtain⟨t1,y1⟩:=u1z;obtain⟨t2,y2⟩:=u2z;obtain⟨f,fd,n,U⟩:=j50;cases hfa.symm.trans (g n);let a:Adr:=⟨QC,Rc,Rz,QR,QD,QT,Re,QS,BK,QM,BK,o0,o1,WY,t0,t1,t2,λ_ _=>false⟩;have T:Txt K mg a:=⟨z0z.at_ X G,z1z.at_ X G,z2z.at_ X G,z3z.at_ X G,z4z.at_ X G,z5z.at_ X G,z6z.at_ X G,z7z.at_ X G,z8z.at_ X G,z9z.at_ X G,Ut.at_ X G,Us.at_ X G,Ur.at_ X G,Uq.at_ X G,Up.at_ X G,g n0,g n1,g n2,g n3,g n4,g n5,g n6,g n7,g Rm,e0,e1,e2,e3,e4,e5,e6,e7,g y0,g y1,g y2,g p0,g p1,
  ⟨_,_,_,l0,rfl,rfl,(show 2<=aI by decide),.cons ⟨_,rfl⟩ (.cons ⟨_,rfl⟩ .nil)⟩,⟨_,_,_,l1,rfl,rfl,(show 2<=aI by decide),.cons ⟨_,rfl⟩ (.cons ⟨_,rfl⟩ .nil)⟩,⟨cb.p,cb.h,cb.o,cb.s⟩,cb.a,cb.b,cb.c,cb.d,cb.e⟩
 refine⟨a,fd,zr.z,λs v=>?_,λbase _ _=>?_⟩
 ·obtain⟨_,_,_,_,_,_,_,_,_,rfl,_,_⟩:=U.ex;exact .of_eq rfl
 have Y:Yz K mg a:=⟨T,_,X,G⟩;have WW:Wy K mg a:=⟨⟨cw.p,cw.h,cw.o,cw.s⟩,cw.a,cw.b,g cw.n,cw.m,cw.k⟩;have N:=λ{x st k ps sp}=>@Gf.fn l.prog w K mg base _ x st ps sp k X G;have M:=λ{x q st k ps sp}=>@Gm.mt l.prog w K mg base x q st BK ps sp k T.cl;have r0:=N j0 λU=>EO U T  ;have r1:=N j1 λU=>B9 U T  ;have r2:=N j2 λU=>Of U T  ;have d2:=Fn.imp r2 (KU (K:=K) (a:=a));have r3:=N j3 λU=>LA U T  r2;have r4:=N j4 λU=>IK U T  r3;have r5:=N j5 λU=>IM U T  ;have k0:=j6.bk (P:=l.prog) (w:=w) (base:=base) X G cb λU=>LD U T;have r7:=M j7 λU=>De U T  ;have d7:=Mt.imp r7 (BO (a:=a));have r8:=M j8 λU=>Ca U T  r7;have r9:=M j9 λU=>Ao U T  r7;have d9:=Mt.imp r9 (yj (a:=a));have RS:=M j10 λU=>yu U T  r8;have SN:=M j11 λU=>Dd U T  r0 r8;have So:=M j12 λU=>Hb U T  SN;have d12:=Mt.imp So (Ey (a:=a));have TY:=M j13 λU=>IL U T  SN RS r1;have d13:=Mt.imp TY (GJ (a:=a));have r14:=M j14 λU=>Lz U T  r9 RS r5 r4 r3;have d14:=Mt.imp r14 (Ii (a:=a));have r15:=M j15 λU=>EM U T  ;have d15:=Mt.imp r15 (Da (a:=a));have r16:=M j16 λU=>He U T  ;have TL:=Mt.imp r16 (Ez (a:=a));have r17:=M j17 λU=>ok_of U T  r9;have d17:=Mt.imp r17 (NI (a:=a));have r18:=M j18 λU=>Ha U T  r9;have VF:=Mt.imp r18 (Ex (a:=a));have r19:=M j19 λU=>G6 U T  r9;have d19:=Mt.imp r19 (Ew (a:=a));have r20:=M j20 λU=>LB U T  r9;have d20:=Mt.imp r20 (Ij (a:=a));have r21:=M j21 λU=>LC U T  r9 r1;have d21:=Mt.imp r21 (Ik (a:=a));have d22:sI l.prog w K mg base a:=Ar Y j22  ;have d23:sD l.prog w K mg base a:=Ap Y j23  d22;have SE:nv l.prog w K mg base a:=Cg Y j24  ;have d25:qo l.prog w K mg base a:=xQ Y j25  ;have d26:qO l.prog w K mg base a:=Ce Y j26  d25;have d27:sH l.prog w K mg base a:=Aq Y j27 (RL.at_ X G) SE;have d28:pH l.prog w K mg base a:=yv Y j28  SE;have d29:ug l.prog w K mg base a:=Cd Y j29  SE d26;have d30:uf l.prog w K mg base a:=Cc Y j30  d29 d14 d26 SE;have d31:sJ l.prog w K mg base a:=As Y j31  SE d27 k0 d12 d13 d28 d30;have d32:z5 l.prog w K mg base a:=Hd Y j32  d2;have d33:xq l.prog w K mg base a:=EQ Y j33 (RK.at_ X G) ;have d34:zZ l.prog w K mg base a:=G9 Y j34 (RL.at_ X G) d33;have d35:pj l.prog w K mg base a:=vC Y j35  VF;have d36:pG l.prog w K mg base a:=yt Y j36  TL d35;have d37:nF l.prog w K mg base a:=rM Y j37  d36;have d38:KG l.prog w K mg base a:=Og Y j38 (RM.at_ X G) d2;have d39:xr l.prog w K mg base a:=ES Y j39 (RM.at_ X G) d38 TL VF;have d40:z3 l.prog w K mg base a:=Hc Y j40 (SG.at_ X G) ;have d41:ue l.prog w K mg base a:=Cb Y j41  d40;have d42:qP l.prog w K mg base a:=Ch Y WW j42 (RL.at_ X G) (RK.at_ X G) d37 TL d39 d34 d41 d15;have d43:rh l.prog w K mg base a:=yw Y WW j43 (SG.at_ X G) ;have d44:pI l.prog w K mg base a:=yx Y WW j44  d32 d43;have d45:qe l.prog w K mg base a:=An Y j45 (RM.at_ X G) TL d17;have d46:zY l.prog w K mg base a:=G5 Y j46  d44 TL d45 d42;have d47:CM l.prog w K mg base a:=IJ Y j47  d44 d15 d45 d42;have d48:xn l.prog w K mg base a:=EL Y j48  d9 VF d7;have d49:uh l.prog w K mg base a:=Cf Y j49 (RK.at_ X G) ;exact Oe T U  d23 d31 d48 d46 d47 d19 d20 d21 SE d28 d36 d49
def JI(K:aa):Sp:=λvs H Q E=>∃(c:ak)(ns:List Int),vs=[.ref c]/\ns.length<=63/\Att.WtOk ns/\MR H/\SqL K H c (ns.map V.int)/\(∀v H',v=.bl true->Q v H')
def OG{K}{a}(ht:bQ K a7 "rules"=Za Zb)(vs)(H)(Q)(E)(h:JI K vs H Q E):spD K a.Book 1 (AR a) vs H Q E:=by obtain⟨c,ns,rfl,hl,hw,hO,hS,k⟩:=h;exact LR hl hw ht hO hS k
def walk{l:gw}{q}{Qi}{XP}{YP}{d:DefRec}{K:Params->aa}(hn:l.most=Za 63)(Tt:d.params.defaults=[])(hY:∀(w:ba)(h:bx),YP w h->(K w.params).In h)(F:∀(w:ba)(mg:Str->Option ai)(fa:ak)(h:bx),(K w.params).In h->h.Ns a7 mg->mg d.name=Za (.ref fa) ->
   ∃(a:Adr)(fd:cq),bQ (K w.params) a7 "rules"=Za Zb/\(∀(s:ax)(u:ai),jw s fd ⟨[u],[]⟩ [("_law_script",u)])/\∀base:bx,(K w.params).In base->base.Ns a7 mg->FnOk l.prog w (K w.params) mg base (CXo l.prog w) 10 fa fd ["_law_script"] (spD (K w.params) a.Book 1 (AR a))) :
  kT q Qi XP YP l.row.toRowW d [] (λf vs=>kQ f vs) :=
 L2.walk_ofW (n:=63) (k:=10) (x:="_law_script") (CX:=λw=>CXo l.prog w) (sp:=λw=>JI (K w.params)) hn (by decide) Tt ⟨rfl,by decide,by decide⟩ hY
  (λw mg fa h X G hm=>let⟨a,fd,h0,h1,h2⟩:=F w mg fa h X G hm;⟨fd,h1,λbase b1 b2=>(h2 base b1 b2).imp (OG h0)⟩)
  (λ_ _ c ns hl hw hO hS=>⟨c,ns,rfl,hl,hw,hO,hS,λ_ _ e=>e⟩) λ_ _ _ _ _ z=>by
  obtain⟨_,_,_,_,_,_,_,_,_,_,_,_,_,z⟩:=z;exact z
end My
namespace PySem.W.Fast
noncomputable def q0:Unit:=Classical.choice ⟨()⟩
def tw2568272360409142573:=q0
def tw10640716416252783873:=q0
def tw7851241284488477302:=q0
def tw6318211073753835363:=q0
def tw6167570463378134652:=q0
def tw9576010484257034933:=q0
def tw3682804752239719305:=q0
def tw16030480622006560762:=q0
def tw12689774700697198150:=q0
def tw18084455350435221005:=q0
def tw17042177511392327932:=q0
def tw17231915793592959577:=q0
def tw5078192560756986824:=q0
def tw5528376140758702444:=q0
def tw12049260304010767821:=q0
def tw5687899463538832355:=q0
def tw6616414189896182830:=q0
def tw5012089478300683859:=q0
def tw6480233480879198628:=q0
def tw4631987908253280285:=q0
def tw14272785397977303777:=q0
def tw5212564362329466774:=q0
def tw7072590694723300027:=q0
def tw3222003854789826193:=q0
def tw13635618393861899103:=q0
def tw6595599938855409698:=q0
def tw17849009611399045826:=q0
def tw15305359653682295268:=q0
def tw13082545675276920109:=q0
def tw11537262497786184094:=q0
def tw1450849302325207453:=q0
def tw5572548745884184269:=q0
def tw6877317486185250452:=q0
def tw11485565839271530770:=q0
def tw5098530860406329054:=q0
def tw15660071591331243262:=q0
def tw14062976965923130981:=q0
def tw10442243198422837907:=q0
def tw1220759224162622078:=q0
def tw5900095198319541923:=q0
def tw17978139319798767734:=q0
def tw14388353711288036748:=q0
def tw2037366840175782029:=q0
def tw10196133000438157223:=q0
def tw9301759695413862967:=q0
def tw11920225845468942300:=q0
def tw4537969883433052103:=q0
def tw16635555891671728936:=q0
def tw17067433823642185240:=q0
def tw13539780127687052236:=q0
def tw6351773773537302819:=q0
def tw14258474588716211890:=q0
def tw11296712205276660761:=q0
def tw1497149981885162775:=q0
def tw8772883987399255587:=q0
def tw11646168208839492384:=q0
def tw12200775382291201849:=q0
def tw9392094694362867844:=q0
def tw463359381679731129:=q0
def tw5358090267442900187:=q0
def tw498082455544987667:=q0
def tw11513884930572619469:=q0
def tw4751601964237756856:=q0
def tw5278649827014982114:=q0
def tw16589291801710715038:=q0
def tw12516704130926028900:=q0
def tw12027003934258799348:=q0
def tw5909424514102643600:=q0
def tw10524554344149990150:=q0
def tw8618328811299381424:=q0
def tw4135953071365164169:=q0
def tw13903798314596161349:=q0
def tw13679033251143141289:=q0
def tw119682067491310973:=q0
def tw8339978557858106076:=q0
def tw13981984121557810252:=q0
def tw16488901734135451416:=q0
def tw979056002185462214:=q0
def tw2072739017542497395:=q0
def tw14585065122205801930:=q0
def tw13793762748078517886:=q0
def tw1842266100395869927:=q0
def tw7153780068208223340:=q0
def tw9430898809556399949:=q0
def tw17224461021653572883:=q0
def tw14102373596161206126:=q0
def tw7532272066694655340:=q0
def tw17316863323908828175:=q0
def tw12412602825589857023:=q0
def tw2946491170650652427:=q0
def tw7391639759171084738:=q0
def tw17217991974495206281:=q0
def tw12863712692981007565:=q0
def tw18305238572560083073:=q0
def tw15875228969842132074:=q0
def tw9266023439195353919:=q0
def tw12217183158912612742:=q0
def tw18008547926900040485:=q0
def tw15538962341857325811:=q0
def tw9437371299220964688:=q0
def tw11193701347834002397:=q0
def tw11844300324383159133:=q0
def tw15707236240666790048:=q0
def tw13981625426830498059:=q0
def tw7342654994555215917:=q0
def tw132450940309369822:=q0
def tw8685966082287541435:=q0
def tw1548721379056720693:=q0
def tw10650975744819891655:=q0
def tw4858672333438166589:=q0
def tw13922756357353895369:=q0
def tw9490699871849474268:=q0
def tw1716640212277465034:=q0
def tw8762056531414600190:=q0
def tw17363064685480998881:=q0
def tw10552829044369991158:=q0
def tw7476876286208244772:=q0
def tw16282144449872845796:=q0
def tw4549924073880283439:=q0
def tw1195788493726939797:=q0
def tw3333056668815683031:=q0
def tw10538421787998040463:=q0
def tw12793469863117543929:=q0
def tw9885711762576108821:=q0
def tw15988157139643510429:=q0
def tw6408211150415003358:=q0
def tw7218294372768896664:=q0
def tw780915137094470958:=q0
def tw12488703282004451411:=q0
def tw12766574227563764470:=q0
def tw4091255376136211047:=q0
def tw15608929540995726196:=q0
def tw6758709371311315310:=q0
def tw16479048631413396980:=q0
def tw12304095937610387346:=q0
def tw16081433757316557299:=q0
def tw12096119274543468661:=q0
def tw12184427422181880231:=q0
def tw12625398323809922638:=q0
def tw8068591545242618471:=q0
def tw7033672317321993719:=q0
def tw18417479636252444398:=q0
def tw18291008268567572492:=q0
def tw17907950039295488913:=q0
def tw15905257039498442369:=q0
def tw9241430327222074443:=q0
def tw3007553820040821288:=q0
def tw12692834767079760265:=q0
def tw4841437048803690446:=q0
def tw6675498238116740670:=q0
def tw20209886863996887:=q0
def tw552158951546939539:=q0
def tw14244503263132775228:=q0
def tw18268468455091148991:=q0
def tw11528883139160953749:=q0
def tw747578801968304626:=q0
def tw12255232336163225322:=q0
def tw16321125592543474798:=q0
def tw13961801486487619276:=q0
def tw5228498459531640374:=q0
def tw1144518009837731163:=q0
def tw4932571250473196300:=q0
def tw12807618485010415201:=q0
def tw14605787673452319684:=q0
def tw8229145414482765706:=q0
def tw18364372343111101861:=q0
def tw8782073504630552933:=q0
def tw5574891820207021775:=q0
def tw16434771302244274356:=q0
def tw13230984184660927886:=q0
def tw6901963906854434774:=q0
def tw14016022428395384471:=q0
def tw13480019523710858691:=q0
def tw13346508116209391789:=q0
def tw7534766308553036749:=q0
def tw13813857302640111395:=q0
def tw8199777681864165748:=q0
def tw5716210571530765898:=q0
def tw12736581710760160614:=q0
def tw879949632359637255:=q0
def tw5306108487057965991:=q0
def tw407820858603432013:=q0
def tw13989806459197982758:=q0
def tw5540990116932230237:=q0
def tw10433305071291165589:=q0
def tw372241828427142274:=q0
def tw6896058953365950578:=q0
def tw3862391191296931108:=q0
def tw15715245449481643667:=q0
def tw11547765597300699460:=q0
def tw10346568190104374136:=q0
def tw8929122087635085001:=q0
def tw1658366523680513328:=q0
def tw5456111956483558421:=q0
def tw4430831994928138072:=q0
def tw3877309105199317053:=q0
def tw6275514435220265363:=q0
def tw16000076542641052759:=q0
def tw1997178765913873636:=q0
def tw8000482745159343849:=q0
def tw2855612233115620597:=q0
def tw6875838947299968529:=q0
def tw13606358150911444722:=q0
def tw1188092103662552147:=q0
def tw5908273905722411205:=q0
def tw15588763125574135820:=q0
def tw2032217119912198085:=q0
def tw13003927953674680709:=q0
def tw6764471577891012408:=q0
def tw6124560734202782578:=q0
def tw17334780199908207892:=q0
def tw12565406546270123579:=q0
def tw12741569643366039605:=q0
def tw5012603962059852579:=q0
def tw1538155004362655546:=q0
def tw15336562700424493248:=q0
def tw5352181450437070900:=q0
def tw15230695011308946314:=q0
def tw3560489420217436011:=q0
def tw16848925060448624001:=q0
def tw16695696852368995272:=q0
def tw14579320080565065799:=q0
def tw7147048817071976484:=q0
def tw18139472492603659744:=q0
def tw8197018891674080157:=q0
def tw3839878332507792172:=q0
def tw5532055465065521371:=q0
def tw1829554386097447884:=q0
def tw10513431730857957164:=q0
def tw6057120057428753134:=q0
def tw13096860817273476682:=q0
def tw8309065904669913023:=q0
def tw13621523821495645578:=q0
def tw7347927078828524872:=q0
def tw5459523585692676195:=q0
def tw14589279829089363853:=q0
def tw14520001637341311758:=q0
def tw9553732495682612685:=q0
def tw235506636271833186:=q0
def tw14353402429443150371:=q0
def tw11228074600509075221:=q0
def tw14221305338249547520:=q0
def tw13434348749024818242:=q0
def tw12585995518672601564:=q0
def tw11558279226444773117:=q0
def tw7422421041808103734:=q0
def tw16936401522422840670:=q0
def tw15776236842628958555:=q0
def tw14136973407895075428:=q0
def tw9810349124565555484:=q0
def tw9368611277659878104:=q0
def tw8492982021977071561:=q0
def tw16629965848150097782:=q0
def tw4750138035442614216:=q0
def tw16341114052565952672:=q0
def tw17806349491833052848:=q0
def tw4632731252235330385:=q0
def tw3053943253313557433:=q0
def tw7854487039830258599:=q0
def tw17390404135333810014:=q0
def tw15697640532567896322:=q0
def tw1448314352054158881:=q0
end PySem.W.Fast
open PySem.W
set_option maxRecDepth 100000 in
set_option maxHeartbeats 0 in
theorem PySem.Challenge.cw_wholeowners_k62_whole_what_things_change_holds : PySem.Challenge.rw_wholeowners_k62_whole_what_things_change.Holds := by
 w_on;o_law;k_head;(case hw=>w_witness2)
 k_fill
 refine My.walk (l:=PySem.Challenge.rw_wholeowners_k62_whole_what_things_change) rfl rfl (λw h Y=>PySem.W.kIn_of Y) ?F
 case F =>
  intro w mg fa h KX G Tg;apply My.all_mk KX G Tg
  all_goals first
   |(apply L2.gf<;>k_is)
   |(apply L2.gm<;>k_is)
   |(apply L2.gx;(focus k_is);(focus k_exc);all_goals k_is)
   |(apply L2.gt<;>k_is)
   |(apply L2.gi;k_is)
   |(apply L2.Gz.mk;k_is)
   |(apply L2.Gb.mk<;>k_is)
   |(apply My.Gw.mk<;>k_is)
   |k_is

