import PyProof.Rows.All
import Wide.All
import OpenK.AllK
import Wide.FinOn
import Lean
import PyProof.EqAt
import PyProof.EqKinds
import PyProof.TupleCall
import PyProof.NeKinds
import PyProof.NsDelKeeps
import KE.KRevSl
import PyProof.StrWalks
import PyProof.ConsumeWalk
import PyProof.SumWalk
import PyProof.Rows.SortStr
import PyProof.SumWalkG
import PyProof.StrCalls2
import PyProof.StrLawsIdx
import PyProof.WalkInts
import PyProof.StrOps2
import PyProof.SliceStr2
import PyProof.Draws
import PyProof.EnumMake
import PyProof.Rows.SetFrom
import PyProof.SetRoads
import PyProof.WalksMore
import PyProof.ListRange
import PyProof.TupleOfSeq
import PyProof.TupleOfGen
import PyProof.Rows.SortShell
import PyProof.ZipIter
import PyProof.DictStraight
import PyProof.TupleKey
import PyProof.DictRoadsH
import PyProof.DictTruth
import PyProof.Rows.TupTab
import KE.KTabLook
import PyProof.FString
import PyProof.CallStr
import KE.KIntText
import PyProof.Rows.Range3
import PyProof.DictRoads
import PyProof.Rows.StrNews2
import KE.KDictOf
import KE.KMinKey
import PyProof.AttrMissHeap
import PyProof.FactsAll.zip
import KE.KDictSum
import PySem.Challenge.RW_worldfind_k63_whole_quarrels
set_option Elab.async false
set_option linter.all false
set_option maxRecDepth 100000
set_option compiler.extract_closed false
set_option genSizeOf false
set_option genInjectivity false
set_option backward.eqns.nonrecursive false
set_option tactic.hygienic false
set_option bootstrap.genMatcherCode false
noncomputable section
open List renaming length_map->Aa,getElem?_eq_some_iff->Aa0,getElem?_eq_getElem->Aa1,mem_cons_of_mem->Aa3,mem_cons_self->Aa4,length_append->Aa5,range->Aa6,replicate->Aa7,length_cons->Aa9,mem_append_right->Ab,map_cons->Ab2,mem_cons->Ab5,mem_range->Ab6,mem_map->Ab7,getElem?_set_self->Ab8,getElem?_map->Ab9,getElem?_append_left->Ac2,mem_of_getElem?->Ac3,mem_append->Ac6,size_toArray->Ac7,mem_singleton->Ac8,getD_eq_getElem?_getD->Ac9,lookup_cons->Ad,all_eq_true->Ad0,mem_append_left->Ad1,length_take->Ad2,getElem?_set_ne->Ad3,map_append->Ad4,length_set->Ad5,any_eq_true->Ad8,map_map->Ad9,length_range->Ae1,filterMap_cons->Ae2,getElem?_append_right->Ae3,length_nil->Ae4,set_set->Ae8,length_drop->Ae9,length_replicate->Af,append_nil->Af0,nil_append->Af3,isEmpty_iff->Af4,append_assoc->Af6,map_nil->Af9,replicate_succ->Ag1,not_mem_nil->Ag2,take_of_length_le->Ah0,nodup_cons->Ah2,mem_filter->Ah3,any_cons->Ah6,nodup_append->Ai0,range_succ_eq_map->Ai2,length_singleton->Ai6,length_filter_le->Ai7,contains_iff_mem->Ai8,lookup->Aj0,drop_eq_getElem_cons->Aj1,getElem?_take_of_lt->Aj4,map_congr_left->Aj6,getElem?_replicate->Aj7,getElem_mem->Aj9,eq_nil_of_length_eq_zero->Ak,flatMap_cons->Ak6,range'_succ->Al0,filter_cons->Al1,mem_map_of_mem->Al2,getElem_of_mem->Al3,pairwise_cons->Al9,foldl_cons->Am,all_cons->Am0,take_succ_eq_append_getElem->Am1,range'->Am3,any_eq_false->Am4,take_append_of_le_length->An0,range_eq_range'->An1,length_zip->An3,mem_filterMap->An6,filterMap_map->An7,all_map->An8,set_eq_of_length_le->Ao4,sum_cons->Ao6,map_take->Ao7,length_eq_zero_iff->Ao8,take_length->Ap,take_append_drop->Ap3,getElem?_eq_none->Ap4,filter_map->Ap5,mem_of_mem_take->Aq1,map_filterMap->Aq7,map_drop->Aq8,filter_append->Aq9,any_map->Ar3,cons_append->Ar6,take_left'->TZ,contains_cons->T3,pairwise_singleton->Uk,filter_cons_of_neg->Um,of_mem_zip->Uo,range_succ->Uv,sum_append->Uw,drop_of_length_le->UG,drop_eq_nil_of_le->UH,getElem?_toArray->UJ,drop_zero->UO,filterMap_append->UQ,take_set->UZ,take_succ_cons->U9,take_replicate->Va,getElem?_range->Vb,filter_sublist->Vc,getElem?_drop->Vh,zip_cons_cons->Vj,take_sublist->Vq,flatten_cons->Vs,ext_getElem?->Vx,pairwise_map->Vy,map_fst_zip->VI,map_snd_zip->VL,any_toArray->VM,drop_length->VN,nodup_range->VP,flatMap_def->VQ,mem_flatMap->VS,countP_map->VX,lookup_nil->V3,count_cons->V7,all_append->V8,foldl_map->V9,take_zero->Ya,le_trans->Yc,map_id->Yk
open Bool renaming and_eq_true->Aa2,false_ne_true->Ac0,or_eq_true->Ae5,true_and->Ae7,false_and->Af7,not_eq_true'->Ag5,and_false->Ai,and_eq_true_iff->Aj3,or_eq_true_iff->Al4,or_true->Al6,not_false->Am7,not_true->An2,true_or->Ao0,false_eq_true->Ao1,eq_false_iff->Ar1,not_eq_true->Ar7,noConfusion->Ar8,or_false->UW,false_or->UX,and_true->UY,eq_iff_iff->V5,and_self->Yb,or_assoc->Yd
open PySem.Heap renaming get?_push_of_some->Aa8,lt_size->Ac,get?_push_size->Ac4,SameBut->Ah4,size_push->Ak0,get?_update_self->Ak5,get?_update_other->Am2,FlyingW->Ap6,get?_update_ne->Aq5,get?_none_of_le->UR
open Nat renaming le_refl->Ab0,lt_of_lt_of_le->Ab3,le_trans->Ab4,ne_of_lt->Ac1,pow_le_pow_right->Ad6,two_pow_pos->Ae,testBit_two_pow->Ae6,le_succ->Af1,lt_succ_self->Af5,testBit_or->Af8,le_of_lt->Ag,zero_le->Ag0,and_two_pow_sub_one_eq_mod->Ag3,zero_testBit->Ag4,mul_le_mul->Ag8,testBit_two_pow_sub_one->Ag9,not_lt_zero->Ah5,testBit_mod_two_pow->Ah7,testBit_div_two_pow->Ah8,testBit_and->Ai1,lt_of_le_of_lt->Ai9,min_eq_left->Aj5,lt_irrefl->Aj8,mod_lt->Ak2,testBit_lt_two_pow->Ak3,le_succ_of_le->Ak9,eq_of_testBit_eq->Al,testBit_two_pow_self->Al8,or_lt_two_pow->Am5,lt_succ_of_lt->Am6,zero_add->Am9,le_of_eq->An,div_add_mod->An5,ne_of_gt->Ao2,add_sub_cancel_left->Ao9,sub_self->Ap8,mul_comm->Ap9,not_le->Aq0,pow_lt_pow_right->Aq3,mul_le_mul_right->Aq4,sub_le->Ar2,lt_or_ge->Ar4,add_comm->Ar5,le_add_left->Fk,le_of_lt_succ->On,succ_le_succ->Pv,le_of_not_lt->SC,le_add_right->Tv,sub_lt_sub_left->TH,mod_two_eq_zero_or_one->T6,and_le_left->Ut,pow_pos->UF,add_le_add->UP,succ_mul->Vk,sub_add_cancel->Vl,succ_le_of_lt->Vz,succ_sub_one->VH,min_eq_right->VO,testBit_zero->VR,and_le_right->VU,testBit_xor->V4,lt_trans->Yf,min_self->Yg,sub_zero->Yh,pow_add->Yl,add_mul->Ym
open PySem.W renaming Frag->Ab1,kia_one->Ag6,emptyDict->Ak4,keepIn->Ak8,instObj->Al5,findIn->An4,plainGet->Ao3,cellsFrom_some->Ao5,lookIn->Ap1,kitOne->Ap2,plainGet_of->Ap7,callWith_K->Aq2,kitx_list->Aq6,findObj_own->U0,looks_clsIn->U1,kitx_tuple->Ve,set_plain->Vo,any_some->VE
open Int renaming toNat_natCast->Ac5,ofNat->Ad7,eq_ofNat_of_zero_le->Ah9,fdiv_eq_ediv_of_nonneg->An9,emod_nonneg->Aq,natCast_nonneg->Ar,emod_lt_of_pos->Ar0,fmod_eq_emod_of_nonneg->T4,natCast_mul->Uq,toNat_of_nonneg->U5,natCast_pow->V6,ediv_one->Ye,ne_of_gt->Yi,one_mul->Yj
open Option renaming some->Ae0,bind_some->Af2,bind_eq_some_iff->Ag7,map_eq_some_iff->Ah,isNone_iff_eq_none->Ai5,isSome_iff_exists->Aj2,map_some->Al7,getD_some->Am8,getD_none->VT
open Array renaming length_toList->Ah1,getElem?_eq_getElem->Aj,getElem?_eq_none->Ak1,getElem?_toList->Ap0
open Classical renaming choose_spec->Ai3,byContradiction->Ai4,choose->Ak7,propDecidable->Ao
open Decidable renaming decide->u9
open Option renaming some->y0,none->u0
open Bool renaming true->k9,false->y9
open Array renaming size->Array.j,toList->Array.u
open Bool renaming toNat->Bool.j
open Eq renaming trans->Eq.j,symm->Eq.u
open False renaming elim->False.j
open Iff renaming trans->Iff.j,mp->Iff.u,mpr->Iff.w
open Int renaming toNat->Int.j,natAbs->Int.u
open List renaming length->List.e,map->List.j,lookup->List.u,toArray->List.w,contains->List.x,set->List.y,take->List.A,filterMap->List.B,any->List.C,drop->List.G,getD->List.I,filter->List.L,Nodup->List.M,all->List.N,flatten->List.T,isEmpty->List.U,flatMap->List.X,foldl->List.Z,zip->List.a1,Pairwise->List.a2,Perm->List.a4
open List.Perm renaming trans->List.Perm.j,length_eq->List.Perm.u,eq_of_pairwise->Ue
open List.Sublist renaming length_le->List.Sublist.j
open Nat renaming testBit->Nat.j
open Option renaming map->Option.j,bind->Option.u,isSome->Option.w,isNone->Option.x
open Or renaming elim->Or.j,inl->Or.u,inr->Or.w,resolve_left->Or.x,resolve_right->Or.y
open PyProof.Rows.IntsAre renaming length->PyProof.Rows.IntsAre.e
open PyProof.Rows.IsTup renaming typeIs->PyProof.Rows.IsTup.Y
open PySem.Around renaming handled->PySem.Around.j,in1->PySem.Around.u,units->PySem.Around.w,deeper->PySem.Around.x,under_plainId->Te
open PySem.Code renaming builtin->PySem.Code.u,quiet_builtin->TL
open PySem.Comprehension renaming target->PySem.Comprehension.j
open PySem.Const renaming str->PySem.Const.u
open PySem.Data renaming cell->PySem.Data.u,seq->PySem.Data.j,fields->PySem.Data.w,dict->PySem.Data.x
open PySem.Env renaming scope->PySem.Env.j,cells->PySem.Env.u,locals->PySem.Env.w,kindOf->PySem.Env.x
open PySem.Expr renaming Name->PySem.Expr.j,Attribute->PySem.Expr.u,Subscript->PySem.Expr.w,Constant->PySem.Expr.x,Call->PySem.Expr.y,ListComp->PySem.Expr.A,BoolOp->PySem.Expr.B,Compare->PySem.Expr.C,Tuple->PySem.Expr.G,UnaryOp->PySem.Expr.I
open PySem.FuncData renaming scope->PySem.FuncData.j,params->PySem.FuncData.u
open PySem.Heap renaming get?->PySem.Heap.j,objs->PySem.Heap.u,push->PySem.Heap.w,update->PySem.Heap.x,FunFrames->PySem.Heap.y,IsCell->PySem.Heap.A,IsList->PySem.Heap.B,UpToSlots->PySem.Heap.C
open PySem.NameKind renaming cell->PySem.NameKind.u,free->PySem.NameKind.y
open PySem.Obj renaming dict->PySem.Obj.x,data->PySem.Obj.j
open PySem.Paired renaming cons->PySem.Paired.j,nil->PySem.Paired.u
open PySem.PlainL renaming isList->PySem.PlainL.K
open PySem.Pos renaming endLine->PySem.Pos.j,line->PySem.Pos.u
open PySem.Scope renaming names->PySem.Scope.j,kind->PySem.Scope.u
open PySem.ScopeKind renaming function->PySem.ScopeKind.j
open PySem.Shared renaming heap->PySem.Shared.j,toks->PySem.Shared.u,gens->PySem.Shared.w
open PySem.Slot renaming lookup->PySem.Slot.u
open PySem.Stmt renaming Assign->PySem.Stmt.j
open PySem.Str renaming length->PySem.Str.e,cps->PySem.Str.j,ofString_eq_toList->UE
open PySem.Value renaming int->PySem.Value.p,ref->PySem.Value.j,builtin->PySem.Value.u,type->PySem.Value.w,none->PySem.Value.x,bool->PySem.Value.y
open PySem.W.Looks renaming andThen->PySem.W.Looks.a6
open PySem.World renaming params->PySem.World.u
open PySem renaming wpAny_bind->AC,wpAny_pure->FS,wpAny_holding->Pi,wpAny_mono->PP,mem_of_lookup->SB,wpAny_truthy_bool->SZ,wpAny_ite_split->S1,wpAny_Call_Name_kw->S3,codeAny_mono->S5,wpAny_call_entry->S7,wpAny_passesOwn->S8,codeAny_builtin->S9,wpAny_pyIter_list->Ta,codeAny_call_builtin->Tc,sizeLine_eq->Tf,wpAny_getItem_str_slice->Ti,wpAny_standAt->Tj,wpAny_execs_nil->To,wpAny_call->Tp,wpAny_of_eq->Tq,wpAny_newObj_type->Ts,wpAny_loadPart_at->Tt,call_meets->Tu,strKind_is->Tw,wpAny_askSetting->Tz,plainId_quiet->TF,wpAny_callSpecial?_slot->TN,wpAny_setState_of->TR,plainObj_wpAny_Assign_Attribute->TV,post_val_or_str->TY,wpAny_tryCatch->T1,wpAny_attempt->T5,typeIs_str->T8,wpAny_execs_cons->T9,concat_meets->Ua,noFill_tuple_add->Uc,wpAny_typeOf->Ud,pushCells_keeps->Up,codeAny_of_tree->Ur,wpAny_updateSeq->Us,wpAny_letGo->UD,wpAny_isTrue_Compare1->UI,builtinLookup_eq_fast->UK,isSubtype_type->UL,wpAny_setField->UM,seq_tuple_add->UU,wpAny_isSubtype_exc->U7,wpAny_setEntries_of->U8,seqIndex_neg->Vf,wpAny_assign_Name->Vm,wpAny_Assign_Name->Vn,wpAny_sequenceKey->Vr,list_append->Vt,wpAny_pyIter_enum->Vu,wpAny_storeSet_of->Vv,wpAny_pyIter_slot->Vw,wpAny_field->VA,seqIndex_of->VB,wpAny_alloc->VC,wpAny_point->VD,wpAny_lookBehind->VF,pastItsLine_dict->VG,wpAny_isInstance->VJ,wpAny_Name->VV,typeIs_int->VW,intKind_is->VZ,typeLookup_type->V1
open PyProof.Rows renaming callWith_type1->P3,slot_tuple_getitem->S4,callWith_builtin1->TX,boot_isinstance->Uu,subscriptTail_builtinR->Uy,Constant_none->UT,tupleItemsOf_->UV
open Function renaming comp_def->Re
open PySem.F renaming plain_min_loop->S2,plainAttrs_list->S6,args_tuple_add_2->TJ,entry_tuple_add->TM,slot_tuple_add->TU,slot_list_append->Ug,type_list_append->Uh,slot_list_index->Ul,slot_str_split->UA,entry_min_loop->UC,slot_set_iter->UN,args_list_append_2->US,entry_list_append->U4,slot_list_append->Vg,plain_set_new->V0,slot_int_rmul->V2
open PySem.Calls renaming Name_function_global->TB,spliced_cons->T2,spliced_nil->T7,loadGlobal_global->Ui,callWith_builtin->Uz,Constant_str->Vd
open PyProof.Rows.F renaming plain_set_update_loop->TQ,entry_set_update_loop->Uj
open PyProof renaming noPylong_small->Ux
open PySem.Heap.Ns1 renaming of_empty->Vp
open PySem.Heap.Ns renaming of_isNs->VY
def Da:=@if_pos
def Do:=@of_decide_eq_true
def FB:=@decide_eq_true
def FM:=@if_neg
def IR:=@decide_eq_false
def L2:=@decide_eq_true_eq
def Os:=@if_true
def SL:=@decide_eq_false_iff_not
def Tg:=@beq_self_eq_true
def Th:=@and_self
def TK:=@if_false
def UB:=@decide_true
def Vi:=@decide_false
def Y5{p:Prop}(h:p:=by decide):p:=h
def Y6{p:Prop}(h:p:=by lia):p:=h
def Y7{p:Prop}(h:p:=by simp):p:=h
def Y8{a b c:Nat}(h:a<=b:=by assumption)(g:b<=c:=by decide):a<=c:=Nat.le_trans h g
namespace Lake
open PySem PySem.Spec PyProof.Rows
inductive V where
|au|bl (b:Bool)|int (i:Int)|str (x:Str)|ref (a:Addr)|ty (n:String)
 deriving DecidableEq
open Lake renaming V.int->Lake.V.p,V.ref->Lake.V.j,V.str->Lake.V.u,V.bl->Lake.V.I
def RelV:V->Value->Prop
|.au,u=>u=Value.none
|.I b,u=>u=Value.bool b
|.p i,u=>∃t,u=Value.int i t
|.u x,u=>∃t,u=Value.str x t
|.j a,u=>u=Value.ref a
|.ty n,u=>u=Value.type n
abbrev Vals:List V->List Value->Prop:=Paired RelV
theorem Vals.length (r:Vals xs us):xs.e=us.e:=Paired.length r
open Lake renaming Vals.length->Lake.Vals.e
theorem Vals.get:∀{xs}{us}{i:Nat}{x},Vals xs us->xs[i]?=y0 x->∃u,us[i]?=y0 u/\RelV x u
|_,_,_,_,.u,e=>by simp at e
|_,_,0,_,.j r _,e=>by simp at e;subst e;exact⟨_,rfl,r⟩
|_,_,i+1,x,.j _ t,e=>by obtain⟨u,b,a⟩:=Vals.get t (by simpa using e);exact⟨u,by simpa using b,a⟩
theorem Vals.set (r:RelV x u):∀{xs}{us} i,Vals xs us->Vals (xs.y i x) (us.y i u)
|_,_,_,.u=>.u
|_,_,0,.j _ t=>.j r t
|_,_,i+1,.j q t=>.j q<|Vals.set r i t
theorem Vals.append:∀{xs ys}{us ws},Vals xs us->Vals ys ws->Vals (xs++ys) (us++ws)
|_,_,_,_,.u,s=>s
|_,_,_,_,.j r t,s=>.j r<|Vals.append t s
theorem Vals.take:∀{xs}{us}(n),Vals xs us->Vals (xs.A n) (us.A n)
|_,_,0,_=>.u
|_,_,_+1,.u=>.u
|_,_,n+1,.j r t=>.j r<|Vals.take n t
theorem Vals.drop:∀{xs}{us}(n),Vals xs us->Vals (xs.G n) (us.G n)
|_,_,0,r=>r
|_,_,_+1,.u=>.u
|_,_,n+1,.j _ t=>Vals.drop n t
def b8:Option V->Option Value->Prop
|some v,y0 u=>RelV v u
|none,none=>True
|_,_=>False
def KV{a:Type}:List (a×V)->List (a×Value)->Prop:=Paired λ(p:a×V)(q:a×Value)=>p.1=q.1/\RelV p.2 q.2
inductive HO where
|lst (xs:List V)
|tup (xs:List V)
|dK (kvs:List<|Str×V)
|ins (C dx:Addr)(fs:List<|Str×V)
|own (x:Addr)
|xd (fs:List<|Str×V)
|eR (o:Obj)(u:HO)
|ext (φ:Heap->Prop)
open Lake renaming HO.tup->Lake.HO.w,HO.own->Lake.HO.j,HO.lst->Lake.HO.x,HO.ins->Lake.HO.u
abbrev Hp:=Addr->Option HO
noncomputable def aH(H:Hp)(a:Addr)(o:HO):Hp:=λb=>if b=a then y0 o else H b
def Zb:aH H a o a=y0 o:=by unfold aH;rw[Da rfl]
def Za(h:b≠a):aH H a o b=H b:=by unfold aH;rw[FM h]
def Jb{H:Hp}(h:H a=y0 o)(h':H b=u0):a≠b:=by intro e;subst e;rw[h]at h';cases h'
def dW(h:Heap)(a:Addr)(b:Array Value):Prop:=∃o,h.j a=some o/\o.cls=.w "tuple"/\o.x=none/\∃n,o.j=.j b n
def dW.is (p:dW h a u8):IsTup h a u8:=let⟨o,e,c,_,n,d⟩:=p;⟨o,e,c,n,d⟩
theorem dW.lt (p:dW h a u8):a<h.u.j:=p.is.lt
def dW.new (h:Heap)(u8):dW (h.w {cls:=.w "tuple",data:=.j u8}) h.u.j u8:=⟨_,Ac4 _ rfl,rfl,rfl,_,rfl⟩
section
variable(P:Program)(w:World)
def aS(H:Hp)(h:Heap)(a:Addr):HO->Prop
|.x xs=>xs.e<=sizeLine/\∃(b:List Value)(n:Nat),Vals xs b/\h.j a=y0 {cls:=.w "list",data:=.j b.w n}
|.w xs=>xs.e<=sizeLine/\∃b:List Value,Vals xs b/\dW h a b.w
|.dK kvs=>kvs.e<=sizeLine/\(a==sysModules)=y9/\∃vs,KV kvs vs/\h.DictOf (PySem.strKind P w) a vs
|.u C dx fs=>H dx=y0 (.j a)/\fs.e<=1000/\dx≠a/\h.j a=y0 (Al5 C dx)∧
  ∃mA,h.Ns1 dx mA/\(∀f,b8 (fs.u f)<|mA f)/\PySem.Within mA (fs.j (·.1))
|.j _=>∃o,h.j a=y0 o
|.xd fs=>∃mA,h.Ns1 a mA/\∀f,b8 (fs.u f)<|mA f
|.eR o u=>h.j a=y0 o/\aS H h a u
|.ext c=>c h/\(∃o,h.j a=y0 o)/\∀h1 h2:Heap,c h1->(∀o,h1.j a=y0 o->h2.j a=y0 o)->c h2
def dh(H:Hp)(h:Heap):Prop:=∀a o,H a=y0 o->aS P w H h a o
end
section
variable{P:Program}{w:World}{H H':Hp}{h h':Heap}{a:Addr}{o:HO}
theorem aS.lt (x:aS P w H h a o):a<h.u.j:=by
 cases o with
|lst b=>obtain⟨_,_,_,_,e⟩:=x;exact Ac e
|tup b=>obtain⟨_,_,_,p⟩:=x;exact p.lt
|dK c=>obtain⟨_,_,_,_,o,_,_,e,_⟩:=x;exact Ac e
|ins C d fs=>obtain⟨_,_,_,e,_⟩:=x;exact Ac e
|own y=>obtain⟨_,e⟩:=x;exact Ac e
|xd fs=>obtain⟨_,⟨_,_,_,e,_⟩,_⟩:=x;exact Ac e
|eR f u=>obtain⟨e,_⟩:=x;exact Ac e
|ext g=>obtain⟨_,⟨_,e⟩,_⟩:=x;exact Ac e
def aS.dz (x:aS P w H h a o)(k:∀b u,(b=a\/H b=y0 (.j a))->h.j b=y0 u->h'.j b=y0 u)
 (v:∀b,H b=y0 (.j a)->H' b=y0 (.j a))(F:∀b xs,H b=y0 (.w xs)->H' b=y0 (.w xs)):aS P w H' h' a o:=by
 induction o with
|lst xs=>obtain⟨z,f,n,r,e⟩:=x;exact⟨z,f,n,r,k _ _ (.u rfl) e⟩
|tup xs=>obtain⟨z,f,r,g,e,c⟩:=x;exact⟨z,f,r,g,k _ _ (.u rfl) e,c⟩
|dK A=>obtain⟨z,y,t,r,g,j,i,e,c⟩:=x;exact⟨z,y,t,r,g,j,i,k _ _ (.u rfl) e,c⟩
|ins C D fs=>obtain⟨d,z,ne,e,m,⟨l,j,i,e2,c⟩,r⟩:=x;exact⟨v _ d,z,ne,k _ _ (.u rfl) e,m,⟨l,j,i,k _ _ (.w d) e2,c⟩,r⟩
|own y=>obtain⟨g,e⟩:=x;exact⟨g,k _ _ (.u rfl) e⟩
|xd fs=>obtain⟨m,⟨l,j,i,e,c⟩,r⟩:=x;exact⟨m,⟨l,j,i,k _ _ (.u rfl) e,c⟩,r⟩
|eR g u B=>obtain⟨e,q⟩:=x;exact⟨k _ _ (.u rfl) e,B q⟩
|ext E=>obtain⟨p,⟨o,e⟩,s⟩:=x;exact⟨s _ _ p λo q=>k _ _ (.u rfl) q,⟨o,k _ _ (.u rfl) e⟩,s⟩
theorem dh.lt (x:dh P w H h)(e:H a=y0 o):a<h.u.j:=(x a o e).lt
def dh.fresh (x:dh P w H h)(e:h.u.j<=a):H a=none:=by
 cases q:H a with
|none=>rfl
|some u=>exact absurd (Ab3 (x.lt q) e)<|Aj8 _
def dh.kept (x:dh P w H h)(k:∀b u,h.j b=y0 u->h'.j b=y0 u):dh P w H h':=λa o e=>
 (x a o e).dz (λb u _ q=>k b u q) (λ_ q=>q) λ_ _ q=>q
def dh.laid (x:dh P w H h)(k:∀b u,h.j b=y0 u->h'.j b=y0 u)(g:h.u.j<=a)(new:aS P w (aH H a o) h' a o):dh P w (aH H a o) h':=λb u e=>by
 have d:=x.fresh g;by_cases f:b=a
 .subst f;rw[Zb]at e;cases e;exact new
 .rw[Za f]at e;exact(x b u e).dz (λc v _ q=>k c v q) (λc q=>by rwa [Za<|Jb q d]) λc i q=>by rwa [Za<|Jb q d]
end
def Rd(H:Hp)(a:Addr)(u:HO):Prop:=H a=y0 u\/∃o,H a=y0 (.eR o u)
def Rd.ok (r:Rd H a u)(x:dh P w H h):aS P w H h a u:=by
 obtain r|⟨o,r⟩:=r
 .exact x a u r
 .obtain⟨_,q⟩:=x a _ r;exact q
def og:Option HO->Prop
|some (.x _)=>True
|some (.dK _)=>True
|some (.u _ _ _)=>True
|some (.ext _)=>True
|_=>False
section
variable{P:Program}{w:World}{H:Hp}{h h':Heap}{x e:Addr}{o':HO}
def dh.write (ok:dh P w H h)(j:og<|H x)(n:e=x\/H e=y0 (.j x))(k:∀b u,b≠e->h.j b=y0 u->h'.j b=y0 u)(m:∃u,h'.j e=y0 u)
 (new:aS P w (aH H x o') h' x o'):dh P w (aH H x o') h':=λb u q=>by
 have d:∀c y,H c=y0 (.j y)->c≠x:=λc y r z=>by subst z;rw[r]at j;exact j
 have f:∀c i,H c=y0 (.w i)->c≠x:=λc i r z=>by subst z;rw[r]at j;exact j
 by_cases g:b=x
 .subst g;rw[Zb]at q;cases q;exact new
 .rw[Za g]at q;by_cases a:b=e
  .have o:H b=y0 (.j x):=by
    obtain z|z:=n
    .exact absurd (a.j z) g
    .rwa [a]
   rw[q]at o;cases o;obtain⟨v,p⟩:=m;exact⟨v,by rw[a];exact p⟩
  .refine(ok b u q).dz (λc v l r=>k c v ?_ r) (λc r=>by rwa [Za<|d c b r]) λc i r=>by rwa [Za<|f c i r]
   obtain rfl|l:=l
   .exact a
   .rintro rfl;obtain z|z:=n
    .exact d c b l z
    .rw[l]at z;cases z;exact g rfl
end
structure Un(fs ex:List Addr)(H H':Hp)(h h':Heap):Prop where
 keep:∀b o,h.j b=y0 o->H b=u0->b∉fs->b∉ex->h'.j b=y0 o
 slot:∀b o,h.j b=y0 o->H b=u0->b∈fs->b∉ex->∃sl,h'.j b=y0 {o with slots:=sl}
 free:∀b o,h.j b=y0 o->H b=u0->b∉ex->H' b=u0
 there:∀b o,h.j b=y0 o->b∉ex->∃o',h'.j b=y0 o'
 dq:∀b xs,H b=y0 (.w xs)->H' b=y0 (.w xs)
 c8:∀b o u,H b=y0 (.eR o u)->H' b=y0 (.eR o u)
open Lake renaming Un.free->Lake.Un.y,Un.keep->Lake.Un.w,Un.slot->Lake.Un.u,Un.there->Lake.Un.j
section
variable{fs fs' ex ex':List Addr}{H H1 H2:Hp}{h h1 h2 h':Heap}{a x e:Addr}{o:HO}
def Un.any (u:Un fs ex H H1 h h1)(q:h.j b=y0 ob)(n:H b=u0)(c:b∉ex):∃sl,h1.j b=y0 {ob with slots:=sl}:=by
 by_cases a:b∈fs
 .exact u.u b ob q n a c
 .exact⟨ob.slots,u.w b ob q n a c⟩
def Un.kept (k:∀b u,h.j b=y0 u->h'.j b=y0 u):Un fs ex H H h h':=
 ⟨λb a q _ _ _=>k b a q,λb a q _ _ _=>⟨a.slots,k b a q⟩,λ_ _ _ n _=>n,λb a q _=>⟨a,k b a q⟩,λ_ _ q=>q,λ_ _ _ q=>q⟩
def Un.refl:Un fs ex H H h h:=Un.kept λ_ _ q=>q
def Un.laid (k:∀b u,h.j b=y0 u->h'.j b=y0 u)(d:h.u.j<=a)(c:H a=u0):Un fs ex H (aH H a o) h h' where
 keep:=λb u q _ _ _=>k b u q
 slot:=λb u q _ _ _=>⟨u.slots,k b u q⟩
 free:=λb u q n _=>by rw[Za<|Ac1<|Ab3 (Ac q) d];exact n
 there:=λb u q _=>⟨u,k b u q⟩
 dq:=λb e q=>by rw[Za<|Jb q c];exact q
 c8:=λb u e q=>by rw[Za<|Jb q c];exact q
def Un.write (c:og<|H x)(l:e=x\/H e=y0 (.j x))(k:∀b u,b≠e->h.j b=y0 u->h'.j b=y0 u)(d:∃u,h'.j e=y0 u):Un fs ex H (aH H x o) h h':=by
 have i:∀b,H b=u0->b≠x:=λb n z=>by subst z;rw[n]at c;exact c
 have f:∀b,H b=u0->b≠e:=λb n z=>by
  subst z;obtain r|r:=l
  .exact i b n r
  .rw[n]at r;cases r
 have g:∀b u,H b=y0 u->¬og (y0 u)->b≠x:=λb u q nm z=>by subst z;rw[q]at c;exact nm c
 refine⟨λb u q n _ _=>k b u (f b n) q,λb u q n _ _=>⟨u.slots,k b u (f b n) q⟩,λb u q n _=>by rw[Za<|i b n];exact n,λb u q _=>?_,
  λb j q=>by rw[Za<|g b _ q λz=>z];exact q,λb u j q=>by rw[Za<|g b _ q λz=>z];exact q⟩
 by_cases a:b=e
 .subst a;exact d
 .exact⟨u,k b u a q⟩
end
noncomputable def eU(h:Heap)(H:Hp):List Addr:=(Aa6 h.u.j).L λa=>(H a).w
def kG(h:Heap)(H:Hp):Heap:=PySem.W.hideAll h<|eU h H
def SJ(h)(H):(kG h H).u.j=h.u.j:=PySem.W.hideAll_size _ _
def FI(e:h.j b=y0 o)(n:H b=u0):(kG h H).j b=y0 o:=
 PySem.W.hideAll_get _ e λa=>by have q:=(Ah3.u a).2;rw[n]at q;simp at q
def E7(e:(kG h H).j b=y0 o):h.j b=y0 o/\H b=none:=by
 have a:=PySem.W.of_hideAll (eU h H) e;refine⟨a,?_⟩;cases q:H b with
|none=>rfl
|some x=>have z:(kG h H).j b=none:=PySem.W.hideAll_none (eU h H)<|Ah3.w ⟨Ab6.w<|Ac a,by simp[q]⟩;rw[z]at e;cases e
noncomputable def K3(g h:Heap)(L:Addr):List<|Addr×Obj:=(Aa6 h.u.j).B λa=>if a=L\/(g.j a).w=k9 then u0 else(h.j a).j λo=>(a,o)
def rest(g h:Heap)(L d:Addr):List<|Addr×Obj:=(K3 g h L).L λp=>u9<|p.1≠d
structure Mod(K:Ab1)(mg:Str->Option Value)(base:Heap):Prop where
 kI:K.In base
 glob:base.Ns mainGlobals mg
 blt:∃mb,base.Ns builtinsNs mb/\∀x:Str,x≠"__name__"->mb x=bootBuiltins x
 nolimit:base.NoLimit
structure Cx where
 prog:Program
 w:World
 K:Ab1
 mg:Str->Option Value
 base:Heap
 A:Around
 N:List Str
 s₀:Shared
 H₀:Hp
 env:Env
 outer:List Env
 stack:List Env
 ex:List Addr
 fn:Str->Bool
 calm:Bool
 pn:List<|Addr×Obj
 xe:Value->Shared->Prop
open Lake renaming Cx.env->Lake.Cx.j,Cx.prog->Lake.Cx.u,Cx.base->Lake.Cx.x,Cx.stack->Lake.Cx.B,Cx.xe->Lake.Cx.C,Cx.outer->Lake.Cx.G,Cx.mg->Lake.Cx.I
noncomputable def cg(l:List Env):List Addr:=l.B (·.frame)
abbrev Cx.fs (X:Cx):List Addr:=cg X.G
def nB(sc:Scope)(x:Str):Prop:=sc.j.u x=y0 .local\/sc.j.u x=y0 .u\/sc.j.u x=y0 .y
def lT(sc:Scope)(x:Str):Prop:=sc.j.u x=y0 .local\/sc.j.u x=y0 .u
def A4(env:Env)(h:Heap)(m:Str->Option Value)(x:Str)(u:Value):Prop:=
 (env.x x=y0 .local/\m x=y0 u)\/((env.x x=y0 .u\/env.x x=y0 .y)/\∃c,env.u.u x=y0 c/\h.A c (y0 u))
structure Cx.Ok (X:Cx):Prop where
 mod:Mod X.K X.I X.x
 kind:X.j.j.u=.j
 glob:X.j.globals=mainGlobals
 blt:X.j.builtins=builtinsNs
 above:X.s₀.j.u.j<=X.j.w
 inj:∀x y c,X.j.u.u x=y0 c->X.j.u.u y=y0 c->x=y
 has:∀x,(X.j.x x=y0 .u\/X.j.x x=y0 .y)->∃c,X.j.u.u x=y0 c
 lR:∀x c,X.fn x=k9->X.j.u.u x=y0 c->X.s₀.j.u.j<=c
 hd:X.calm=k9->X.A.j=u0
 frames:X.A.frames=y0 X.B
 hG:X.B=X.G\/(X.B=X.j::X.G/\X.j.frame=y0 X.j.w)
 ni:∀b∈X.ex,b≠X.j.w/\∀x c,X.j.u.u x=y0 c->c≠b
 bs:∀b o,X.x.j b=y0 o->X.s₀.j.j b=y0 o/\X.H₀ b=u0
 g7:X.x.u.j<=X.s₀.j.u.j
 fU:∀b o,X.x.j b=y0 o->b∉X.ex
 fY:∀b∈X.ex,b∉X.fs
 cQ:X.s₀.j.y X.x X.G
 ik:∀b∈X.fs,X.H₀ b=u0
open Lake renaming Cx.Ok.kind->Lake.Cx.Ok.u,Cx.Ok.above->Lake.Cx.Ok.w
structure Inv(X:Cx)(pins:List<|Addr×Obj)(U:List<|Option V)(H:Hp)(s:Shared):Prop where
 ok:X.Ok
 os:s.os=X.s₀.os
 bare:AllBare s.w
 base:Un X.fs X.ex X.H₀ H X.s₀.j s.j
 loc:∃m,s.j.Ns X.j.w m/\∀(i:Nat)(x:Str)(v:V),X.N[i]?=y0 x->U[i]?=y0 (y0 v)->nB X.j.j x->∃u,RelV v u/\A4 X.j s.j m x u
 cell:∀x c,X.j.u.u x=y0 c->∃v,s.j.A c v
 free:H X.j.w=u0
 bI:∀x c,X.j.u.u x=y0 c->H c=u0
 pin:∀p∈X.pn++pins,s.j.j p.1=y0 p.2/\H p.1=u0/\p.1≠X.j.w/\p.1∉X.fs/\∀v,p.2.j≠.u v
 aT:dh X.u X.w H s.j
 len:U.e=X.N.e
open Lake renaming Inv.ok->Lake.Inv.j,Inv.base->Lake.Inv.x,Inv.cell->Lake.Inv.u,Inv.free->Lake.Inv.y,Inv.aT->Lake.Inv.I,Inv.pin->Lake.Inv.N,Inv.bare->Lake.Inv.T,Inv.loc->Lake.Inv.Z
section
variable{X:Cx}{pins:List<|Addr×Obj}{U:List<|Option V}{H H':Hp}{s:Shared}{h':Heap}
def Cx.Ok.sx (ok:X.Ok)(e:X.x.j b=y0 o):b∉X.fs:=λa=>by have:=(ok.cQ.mem a).1;rw[e]at this;cases this
theorem Inv.bs (I:Inv X pins U H s):∀b o,X.x.j b=y0 o->s.j.j b=y0 o/\H b=none:=λb o e=>
 ⟨I.x.w b o (I.j.bs b o e).1 (I.j.bs b o e).2 (I.j.sx e)<|I.j.fU b o e,I.x.y b o (I.j.bs b o e).1 (I.j.bs b o e).2<|I.j.fU b o e⟩
def Inv.bk (I:Inv X pins U H s):∀b o,X.x.j b=y0 o->s.j.j b=y0 o:=λb o e=>(I.bs b o e).1
theorem Inv.mod (I:Inv X pins U H s):Mod X.K X.I X.x:=I.j.mod
def Inv.bQ (I:Inv X pins U H s):X.K.In s.j:=I.j.mod.kI.keeps I.bk
theorem Inv.lt (I:Inv X pins U H s):X.j.w<s.j.u.j:=let⟨_,a,_⟩:=I.Z;a.lt
def Inv.sz (I:Inv X pins U H s):X.s₀.j.u.j<=s.j.u.j:=Ab4 I.j.w<|Ag I.lt
def Inv.rN (I:Inv X pins U H s)(h:s.j.u.j<=a):a∉X.fs:=λb=>by obtain⟨_,o,c,_⟩:=I.j.cQ.mem b;exact absurd (Ab3 (Ac c)<|Ab4 I.sz h)<|Aj8 _
def Inv.iu (I:Inv X pins U H s):∀x c,X.j.u.u x=y0 c->c≠X.j.w:=λx c e z=>by obtain⟨v,o,d,f⟩:=I.u x c e;obtain⟨m,⟨g,h,i,b,a,_⟩,_⟩:=I.Z;rw[z,b]at d;cases d;rw[a]at f;cases f
theorem Inv.cQ (I:Inv X pins U H s):s.j.y X.x X.G:=by
 have all:∀l,(∀b∈cg l,b∈X.fs)->X.s₀.j.y X.x l->s.j.y X.x l:=by
  intro l;induction l with
|nil=>intro _ _;trivial
|cons h r n=>rintro f⟨j,⟨L,o,c,k,m,i⟩,g⟩;have a:=f L (by unfold cg;rw[Ae2,c];exact Aa4);obtain⟨sl,e⟩:=I.x.u L o m (I.j.ik L a) a λz=>I.j.fY L z a;exact⟨j,⟨L,_,c,k,e,i⟩,n (λb d=>f b<|by unfold cg;rw[Ae2,c];exact Aa3 _ d) g⟩
 exact all X.G (λ_ d=>d) I.j.cQ
theorem Inv.stack (I:Inv X pins U H s):s.j.y X.x X.B:=by
 obtain e|⟨e,b⟩:=I.j.hG
 .rw[e];exact I.cQ
 .rw[e];obtain⟨m,a,_⟩:=I.Z;refine .cons (by rw[I.j.u];decide) b a ?_ I.cQ;exact UR<|Ab4 I.j.g7 I.j.w
def Inv.d5 (I:Inv X pins U H s):∀b∈cg X.B,b∈X.j.w::X.fs:=λb a=>by
 obtain e|⟨e,c⟩:=I.j.hG
 .rw[e]at a;exact Aa3 _ a
 .rw[e]at a;unfold cg at a
  rwa [Ae2,c]at a
def Inv.cR (I:Inv X pins U H s):∀b∈cg X.B,H b=none:=λb a=>by
 rcases Ab5.u (I.d5 b a)with e|a
 .rw[e];exact I.y
 .obtain⟨_,o,c,_⟩:=I.j.cQ.mem a;exact I.x.y b o c (I.j.ik b a) λz=>I.j.fY b z a
def Inv.step {ch:List Addr}(I:Inv X pins U H s)
 (j:∀b∈ch,(b∈X.ex\/X.s₀.j.u.j<=b)/\b≠X.j.w/\(∀x c,X.j.u.u x=y0 c->c≠b)/\∀p∈X.pn++pins,p.1≠b)
 (keep:∀b o,b≠X.j.w->b∉X.fs->b∉ch->s.j.j b=y0 o->H b=u0->h'.j b=y0 o)
 (w:∀b o,b≠X.j.w->b∈X.fs->b∉ch->s.j.j b=y0 o->H b=u0->∃sl,h'.j b=y0 {o with slots:=sl})(f:∀b o,b∉ch->s.j.j b=y0 o->H b=u0->H' b=u0)
 (there:∀b o,b∉ch->s.j.j b=y0 o->∃o',h'.j b=y0 o')
 (D:∀b xs,H b=y0 (.w xs)->H' b=y0 (.w xs))(B:∀b o u,H b=y0 (.eR o u)->H' b=y0 (.eR o u))
 (ns:∀m,s.j.Ns X.j.w m->h'.Ns X.j.w m)(F:dh X.u X.w H' h')(M:AllBare g'):
 Inv X pins U H' {s with heap:=h',gens:=g',drawn:=d',toks:=t'}:=by
 have C:∀b o,X.s₀.j.j b=y0 o->b≠X.j.w:=λb o e=>Ac1<|Ab3 (Ac e) I.j.w;have t:∀b o,X.s₀.j.j b=y0 o->b∉X.ex->b∉ch:=λb o e a y=>by
  obtain z|z:=(j b y).1
  .exact a z
  .exact absurd (Ab3 (Ac e) z)<|Aj8 _
 have g:∀x c,X.j.u.u x=y0 c->∀v,s.j.A c v->h'.A c v:=by
  rintro x c e v ⟨o,A,E⟩;have h:=λz=>(j c z).2.2.1 x c e rfl;by_cases L:c∈X.fs
  .obtain⟨sl,q⟩:=w c o (I.iu x c e) L h A<|I.bI x c e;exact⟨_,q,E⟩
  .exact⟨o,keep c o (I.iu x c e) L h A<|I.bI x c e,E⟩
 refine⟨I.j,I.os,M,⟨λb o e n y a=>keep b o (C b o e) y (t b o e a) (I.x.w b o e n y a)<|I.x.y b o e n a,λb o e n y a=>?_,λb o e n a=>?_,λb o e a=>?_,λb xs e=>D b xs<|I.x.dq b xs e,λb o xs e=>B b o xs<|I.x.c8 b o xs e⟩,?_,λx c e=>?_,?_,λx c e=>?_,λp J=>?_,F,I.len⟩
 .obtain⟨sl,e1⟩:=I.x.u b o e n y a;obtain⟨G,e2⟩:=w b _ (C b o e) y (t b o e a) e1<|I.x.y b o e n a;exact⟨G,e2⟩
 .obtain⟨o',e1⟩:=I.x.j b o e a;exact f b o' (t b o e a) e1<|I.x.y b o e n a
 .obtain⟨o',e1⟩:=I.x.j b o e a;exact there b o' (t b o e a) e1
 .obtain⟨m,N,P⟩:=I.Z;refine⟨m,ns m N,λi x v e1 e2 O=>?_⟩;obtain⟨u,r,l⟩:=P i x v e1 e2 O;refine⟨u,r,?_⟩;obtain l|⟨k,c,e,z⟩:=l
  .exact .u l
  .exact .w ⟨k,c,e,g x c e _ z⟩
 .obtain⟨v,z⟩:=I.u x c e;exact⟨v,g x c e v z⟩
 .obtain⟨m,⟨o,_,_,A,_⟩,_⟩:=I.Z;exact f _ o (λz=>(j _ z).2.1 rfl) A I.y
 .obtain⟨v,o,A,E⟩:=I.u x c e;exact f c o (λz=>(j c z).2.2.1 x c e rfl) A<|I.bI x c e
 .obtain⟨e,n,ne,K,d⟩:=I.N p J;have h:=λz=>(j p.1 z).2.2.2 p J rfl;exact⟨keep p.1 p.2 ne K h e n,f p.1 p.2 h e n,ne,K,d⟩
def Inv.un (I:Inv X pins U H s)(u:Un X.fs [] H H' s.j h')(c:dh X.u X.w H' h'):Inv X pins U H' {s with heap:=h',toks:=t'}:=by obtain⟨m,⟨o,t,q,h,r⟩,_⟩:=id I.Z;obtain⟨sl,i⟩:=u.any h I.y Y7;exact I.step (ch:=[]) (λ_ z=>nomatch z) (λb o _ d _ e n=>u.w b o e n d Y7) (λb o _ d _ e n=>u.u b o e n d Y7) (λb o _ e n=>u.y b o e n Y7) (λb o _ e=>u.j b o e Y7) u.dq u.c8 (λp k=>by obtain⟨l,f,g,a,j⟩:=k;rw[h]at a;cases a;exact⟨_,f,g,i,j⟩) c I.T
def Inv.call (I:Inv X pins U H s)(u:Un (cg X.B) ch H H' s.j h')(h:dh X.u X.w H' h')(v:AllBare g')
 (f:∀b∈ch,(b∈X.ex\/X.s₀.j.u.j<=b)/\b≠X.j.w/\(∀x c,X.j.u.u x=y0 c->c≠b)/\∀p∈X.pn++pins,p.1≠b):
 Inv X pins U H' {s with heap:=h',gens:=g',drawn:=d',toks:=t'}:=by
 obtain⟨m,⟨o,B,A,k,r⟩,_⟩:=id I.Z;obtain⟨sl,g⟩:=u.any k I.y λz=>(f _ z).2.1 rfl;exact I.step f (λb o g q a e n=>u.w b o e n (λz=>(Ab5.u<|I.d5 b z).j g q) a) (λb o _ _ a e n=>u.any e n a) (λb o a e n=>u.y b o e n a) (λb o a e=>u.j b o e a) u.dq u.c8 (λy t=>by obtain⟨w,i,j,d,l⟩:=t;rw[k]at d;cases d;exact⟨_,i,j,g,l⟩) h v
def Inv.d9 {ch:List Addr}(I:Inv X pins U H s)(k:∀b o,b∉ch->s.j.j b=y0 o->h'.j b=y0 o)(d:∀b∈ch,H b=u0/\b≠X.j.w/\(b∈X.ex\/X.s₀.j.u.j<=b)/\(∀x c,X.j.u.u x=y0 c->c≠b)/\∀p∈X.pn++pins,p.1≠b):Inv X pins U H {s with heap:=h',toks:=t'}:=by
 have f:∀b u,H b=y0 u->b∉ch:=λb u q z=>by rw[(d b z).1]at q;cases q
 refine I.step (λb g=>⟨(d b g).2.2.1,(d b g).2.1,(d b g).2.2.2⟩) (λb o _ _ a e _=>k b o a e) (λb o _ _ a e _=>⟨o.slots,k b o a e⟩) (λ_ _ _ _ n=>n)
  (λb o a e=>⟨o,k b o a e⟩) (λ_ _ e=>e) (λ_ _ _ e=>e) (λm h=>?_) (λb u q=>?_) I.T
 .obtain⟨o,l,i,j,r⟩:=h;exact⟨o,l,i,k _ o (λz=>(d _ z).2.1 rfl) j,r⟩
 .refine(I.I b u q).dz (λc v a t=>k c v ?_ t) (λ_ q=>q) λ_ _ q=>q;obtain z|z:=a
  .rw[z];exact f b u q
  .exact f c _ z
def Inv.turned (I:Inv X pins U H s)(k:∀b o,b≠it->s.j.j b=y0 o->h'.j b=y0 o)(d:H it=u0)(g:it≠X.j.w)
 (h1:it∈X.ex\/X.s₀.j.u.j<=it)(f:∀x c,X.j.u.u x=y0 c->c≠it)(e:∀p∈X.pn++pins,p.1≠it):Inv X pins U H {s with heap:=h',toks:=t'}:=I.d9 (ch:=[it]) (λb o a=>k b o<|by simpa using a) λb a=>by rw[Ac8.u a];exact⟨d,g,h1,f,e⟩
def Inv.tok (I:Inv X pins U H s)(t):Inv X pins U H {s with toks:=t}:=I.un Un.refl I.I
theorem Inv.kept (I:Inv X pins U H s)(k:∀b u,s.j.j b=y0 u->h'.j b=y0 u):Inv X pins U H {s with heap:=h',toks:=t'}:=I.un (Un.kept k)<|I.I.kept k
theorem Inv.laid (I:Inv X pins U H s)(k:∀b u,s.j.j b=y0 u->h'.j b=y0 u)(c:s.j.u.j<=a)(new:aS X.u X.w (aH H a o) h' a o):
 Inv X pins U (aH H a o) {s with heap:=h',toks:=t'}:=I.un (Un.laid k c<|I.I.fresh c)<|I.I.laid k c new
theorem Inv.write (I:Inv X pins U H s)(d:og<|H x)(c:e=x\/H e=y0 (.j x))(k:∀b u,b≠e->s.j.j b=y0 u->h'.j b=y0 u)(a:∃u,h'.j e=y0 u)
 (new:aS X.u X.w (aH H x o) h' x o):Inv X pins U (aH H x o) {s with heap:=h',toks:=t'}:=I.un (Un.write d c k a)<|I.I.write d c k a new
def Inv.bX (I:Inv X pins U H s)(h:∀p∈pins',s.j.j p.1=y0 p.2/\H p.1=u0/\p.1≠X.j.w/\p.1∉X.fs/\∀v,p.2.j≠.u v):Inv X pins' U H s:=
 ⟨I.j,I.os,I.T,I.x,I.Z,I.u,I.y,I.bI,λp a=>(Ac6.u a).j (λz=>I.N p<|Ad1 _ z)<|h p,I.I,I.len⟩
def WX{N:List Str}(c:N.M){i j:Nat}(a:N[i]?=y0 x)(b:N[j]?=y0 x):i=j:=by obtain⟨d,e2⟩:=Aa0.u b;exact(List.getElem_inj c).u<|(Aa0.u a).2.j e2.u
def So(I:Inv X pins U H s)(hN:X.N.M)(N:X.N[i]?=y0 x)(t:lT X.j.j x)(r:RelV v u)
 (h:∀s',Inv X pins (U.y i<|y0 v) H s'->(∃a,Ah4 a s.j s'.j/\(a=X.j.w\/X.j.u.u x=y0 a))->Q () s')(hf:X.fn x=k9\/X.j.j.j.u x=y0 .local:=by first|exact .inl rfl|exact .inr rfl|assumption):wpAny M A (storeName X.j x u) Q E s:=by
 obtain⟨m,Y,hl⟩:=id I.Z;have O:i<U.e:=by rw[I.len];exact(Aa0.u N).1
 have iu:=I.iu;have g:∀{a}{G},(∃o,s.j.j a=y0 o/\H a=u0)->Ah4 a s.j G->dh X.u X.w H G:=λ{a G} ha f b ob e=>by
  obtain⟨_,_,w⟩:=ha;refine(I.I b ob e).dz (λc P l q=>(f.2 c ?_).j q) (λ_ q=>q) λ_ _ q=>q;rintro rfl;rcases l with rfl|l
  .rw[w]at e;cases e
  .rw[w]at l;cases l
 rcases t with B|B
 .refine wpAny_storeName_local B Y (λG Z f=>?_) (by rw[I.j.u];rfl);obtain⟨oL,_,_,hoL,_⟩:=id Y;refine h _ ⟨I.j,I.os,I.T,⟨λb o e n C t=>(f.2 b<|Ac1<|Ab3 (Ac e) I.j.w).j<|I.x.w b o e n C t,λb o e n C t=>?_,I.x.y,λb o e t=>?_,I.x.dq,I.x.c8⟩,⟨_,Z,λj y T e1 e2 e3=>?_⟩,λy c e=>?_,I.y,I.bI,λp hp=>?_,g ⟨oL,hoL,I.y⟩ f,by simpa using I.len⟩ ⟨_,f,.u rfl⟩
  .obtain⟨sl,e1⟩:=I.x.u b o e n C t;exact⟨sl,(f.2 b<|Ac1<|Ab3 (Ac e) I.j.w).j e1⟩
  .obtain⟨S,e1⟩:=I.x.j b o e t;exact⟨S,(f.2 b<|Ac1<|Ab3 (Ac e) I.j.w).j e1⟩
  .by_cases F:j=i
   .subst F;rw[N]at e1;cases e1;rw[Ab8 O]at e2;cases e2;exact⟨u,r,.u ⟨B,by simp⟩⟩
   .rw[Ad3<|Ne.symm F]at e2;obtain⟨W,V,q⟩:=hl j y T e1 e2 e3;refine⟨W,V,?_⟩;rcases q with⟨k,e⟩|⟨k,c,e,z⟩
    .refine .u ⟨k,?_⟩;have:y≠x:=λe=>F<|WX hN e1<|e▸N;simp[this,e]
    .exact .w ⟨k,c,e,z.sameBut f<|iu y c e⟩
  .obtain⟨P,z⟩:=I.u y c e;exact⟨P,z.sameBut f<|iu y c e⟩
  .obtain⟨e,n,ne,nf,d⟩:=I.N p hp;exact⟨(f.2 p.1 ne).j e,n,ne,nf,d⟩
 .have D:X.fn x=true:=by
   rcases hf with z|z
   .exact z
   .rw[z]at B;cases B
  obtain⟨c,l⟩:=I.j.has x<|.u B;obtain⟨P,z⟩:=I.u x c l;refine wpAny_storeName_cell I.j.u B l z<|λG K f=>?_;obtain⟨oc,J,hocd⟩:=id z;refine h {s with heap:=G} ⟨I.j,I.os,I.T,⟨λb o e n C t=>(f.2 b<|Ac1<|Ab3 (Ac e)<|I.j.lR x c D l).j<|I.x.w b o e n C t,λb o e n C t=>?_,I.x.y,λb o e t=>?_,I.x.dq,I.x.c8⟩,⟨m,Y.sameBut f<|Ne.symm<|iu x c l,λj y T e1 e2 e3=>?_⟩,λy R e=>?_,I.y,I.bI,λp hp=>?_,g ⟨oc,J,I.bI x c l⟩ f,by simpa using I.len⟩ ⟨c,f,.w l⟩
  .obtain⟨sl,e1⟩:=I.x.u b o e n C t;exact⟨sl,(f.2 b<|Ac1<|Ab3 (Ac e)<|I.j.lR x c D l).j e1⟩
  .obtain⟨S,e1⟩:=I.x.j b o e t;exact⟨S,(f.2 b<|Ac1<|Ab3 (Ac e)<|I.j.lR x c D l).j e1⟩
  .by_cases F:j=i
   .subst F;rw[N]at e1;cases e1;rw[Ab8 O]at e2;cases e2;exact⟨u,r,.w ⟨.u B,c,l,K⟩⟩
   .rw[Ad3<|Ne.symm F]at e2;obtain⟨W,V,q⟩:=hl j y T e1 e2 e3;refine⟨W,V,?_⟩;rcases q with q|⟨k,R,e,z'⟩
    .exact .u q
    .refine .w ⟨k,R,e,z'.sameBut f ?_⟩;rintro rfl;exact F<|WX hN e1<|I.j.inj _ _ _ e l▸N
  .by_cases L:R=c
   .subst L;exact⟨_,K⟩
   .obtain⟨w2,z2⟩:=I.u y R e;exact⟨w2,z2.sameBut f L⟩
  .obtain⟨e,n,ne,nf,d⟩:=I.N p hp;refine⟨(f.2 p.1 ?_).j e,n,ne,nf,d⟩;intro q;rw[q,J]at e;exact d P<|by rwa [←(Ae0.inj e)]
def Zv(I:Inv X pins U H s)(d:X.N.M)(c:X.N[i]?=y0 x)(b:lT X.j.j x)(r:RelV v u)
 (h:∀s',Inv X pins (U.y i<|y0 v) H s'->Q () s')(e:X.fn x=k9\/X.j.j.j.u x=y0 .local:=by first|exact .inl rfl|exact .inr rfl|assumption):wpAny M A (storeName X.j x u) Q E s:=
 So I d c b r (λs' a _=>h s' a) e
def Inv.kn (I:Inv X pins U H s)(f:s'.os=s.os)(u:Un (cg X.B) ch H H' s.j s'.j)(d:dh X.u X.w H' s'.j)(g:AllBare s'.w)
 (a:∀b∈ch,(b∈X.ex\/X.s₀.j.u.j<=b)/\b≠X.j.w/\(∀x c,X.j.u.u x=y0 c->c≠b)/\∀p∈X.pn++pins,p.1≠b):Inv X pins U H' s':=by
 obtain⟨k,l,j,h,i⟩:=s';have e:=f;subst e;exact I.call u d g a
end
open Lake renaming Inv.turned->Lake.Inv.C
abbrev XK:=Value->Option Addr->Hp->Prop
abbrev St:=List<|Option V
abbrev VK:=V->Hp->Prop
abbrev TE:=St->Hp->VK->Prop
abbrev TT:=St->Hp->(Bool->Hp->Prop)->Prop
abbrev TA:=St->Hp->(List V->Hp->Prop)->Prop
structure gy where
 nx:St->Hp->Prop
 rt:VK
 bk:St->Hp->Prop:=λ_ _=>False
 ct:St->Hp->Prop:=λ_ _=>False
abbrev TS:=gy->St->Hp->Prop
def EP(X:Cx)(a:List<|Addr×Obj)(U:St)(Q:VK)(u:Value)(b:Shared):Prop:=∃v H',Inv X a U H' b/\RelV v u/\Q v H'
def TP(X:Cx)(a:List<|Addr×Obj)(U:St)(Q:Bool->Hp->Prop)(b:Bool)(c:Shared):Prop:=∃H',Inv X a U H' c/\Q b H'
def AP(X:Cx)(a:List<|Addr×Obj)(U:St)(Q:List V->Hp->Prop)(c:List Value)(b:Shared):Prop:=∃vs H',Inv X a U H' b/\Vals vs c/\Q vs H'
def SP(X:Cx)(a:List<|Addr×Obj)(D:gy)(f:Flow)(c:Shared):Prop:=
 match f with
|.next=>∃b H',Inv X a b H' c/\D.nx b H'
|.brk=>∃b H',Inv X a b H' c/\D.bk b H'
|.cont=>∃b H',Inv X a b H' c/\D.ct b H'
|.ret u=>∃v b H',Inv X a b H' c/\RelV v u/\D.rt v H'
def PE(X:Cx)(e:Expr)(t:TE):Prop:=
 ∀(pins:List<|Addr×Obj)(s:Shared)(U:St)(H:Hp)(Q:VK),Inv X pins U H s->t U H Q->wpAny (model X.u X.w) X.A (eval e X.j) (EP X pins U Q) X.C s
def PT(X:Cx)(e:Expr)(t:TT):Prop:=
 ∀(pins:List<|Addr×Obj)(s:Shared)(U:St)(H:Hp)(Q:Bool->Hp->Prop),Inv X pins U H s->t U H Q->wpAny (model X.u X.w) X.A (isTrue e X.j<|eval e X.j) (TP X pins U Q) X.C s
def PW(X:Cx)(e:Expr)(t:TT):Prop:=
 ∀(a:Sem Value)(pins:List<|Addr×Obj)(s:Shared)(U:St)(H:Hp)(Q:Bool->Hp->Prop),Inv X pins U H s->t U H Q->wpAny (model X.u X.w) X.A (isTrue e X.j a) (TP X pins U Q) X.C s
def PW.pt (h:PW X e t):PT X e t:=h _
def PA(X:Cx)(es:List Expr)(t:TA):Prop:=
 ∀(pos:Pos)(pins:List<|Addr×Obj)(s:Shared)(U:St)(H:Hp)(Q:List V->Hp->Prop),Inv X pins U H s->t U H Q->wpAny (model X.u X.w) X.A (spliced<|backTo pos<|starEach es X.j) (AP X pins U Q) X.C s
def PS(X:Cx)(st:Stmt)(t:TS):Prop:=
 ∀(pins:List<|Addr×Obj)(s:Shared)(U:St)(H:Hp)(D:gy),Inv X pins U H s->t D U H->wpAny (model X.u X.w) X.A (exec st X.j) (SP X pins D) X.C s
def dj(X:Cx)(st:List Stmt)(t:TS):Prop:=
 ∀(pins:List<|Addr×Obj)(s:Shared)(U:St)(H:Hp)(D:gy),Inv X pins U H s->t D U H->wpAny (model X.u X.w) X.A (execs st X.j) (SP X pins D) X.C s
def aN(h:wpAny M A t Q E s)(b:∀a s,Q a s->Q' a s):wpAny M A t Q' E s:=PP h b λ_ _ x=>x
section
variable{X:Cx}
def bin(o:PE X a ta)(k:PE X b tb){R:V->V->Hp->Prop}(I:Inv X pins U H s)(h:ta U H λx H1=>tb U H1 λy H2=>R x y H2)
 {f:Value->Value->Sem α}
 (e:∀v u M x y H2,Inv X pins U H2 M->RelV x v->RelV y u->R x y H2->wpAny (model X.u X.w) X.A (f v u) Q X.C M):
 wpAny (model X.u X.w) X.A (eval a X.j) (λv j=>wpAny (model X.u X.w) X.A (eval b X.j) (λu L=>wpAny (model X.u X.w) X.A (f v u) Q X.C L) X.C j) X.C s:=by
 exact aN (o pins s U H _ I h)<|by rintro v g⟨x,H1,c,i,m⟩;exact aN (k pins g U H1 _ c m)<|by rintro u M⟨y,H2,n,d,l⟩;exact e v u M x y H2 n i d l
def ny(i:Nat):TE:=λU H Q=>∃v,U[i]?=y0 (y0 v)/\Q v H
def tC(v:V):TE:=λ_ H Q=>Q v H
def zC(q:X.N[i]?=some x)(k:nB X.j.j x)(f:(x==("__debug__":Str))=false:=by decide)(g:(x==("__classdict__":Str))=false:=by decide):PE X (.j x pos)<|ny i:=by
 intro d s U H Q I h;obtain⟨v,e,h⟩:=h;obtain⟨m,o,p⟩:=I.Z;obtain⟨u,r,l⟩:=p i x v q e k;have fin:EP X d U Q u s:=⟨v,H,I,r,h⟩;obtain⟨b,n⟩|⟨b,c,j,a⟩:=l
 .exact VV (wpAny_loadName_local I.j.u b o n fin) f
 .obtain b|b:=b
  .exact VV (wpAny_loadName_cell I.j.u b j a fin) f
  .exact VV (wpAny_loadName_free I.j.u b j a fin g) f
def OV{i j pos}:PE X (.x (.int i) j pos)<|tC<|.p i:=λ_ _ _ H _ I h=>wpAny_Constant_int ⟨.p i,H,I.tok _,⟨_,rfl⟩,h⟩
def Ld{b j pos}:PE X (.x (.bool b) j pos)<|tC<|.I b:=λ_ _ _ H _ I h=>Constant_bool ⟨.I b,H,I,rfl,h⟩
def FG{j pos}:PE X (.x .none j pos)<|tC .au:=λ_ _ _ H _ I h=>UT ⟨.au,H,I,rfl,h⟩
def p5{x j pos}:PE X (.x (.u x) j pos)<|tC<|.u x:=λ_ _ _ H _ I h=>Vd ⟨.u x,H,I.tok _,⟨_,rfl⟩,h⟩
def Gl(X:Cx)(x:Str):Prop:=X.j.x x=y0 .globalImplicit
def wK(I:Inv X pins U H s)(c:Gl X x)(b:X.I x=y0 u)(h:Q u s)
 (a:(x==("__debug__":Str))=false:=by decide):wpAny (model X.u X.w) X.A (eval (.j x pos) X.j) Q E s:=
 TB I.j.u c (Ui (by rw[I.j.glob];exact I.mod.glob.keeps I.bk) b h) a
def Qx(I:Inv X pins U H s)(f:Gl X x)(e:X.I x=u0)(a:bootBuiltins x=y0 u)(h:Q u s)
 (b:x≠"__name__":=by decide)(c:(x==("__debug__":Str))=false:=by decide):wpAny (model X.u X.w) X.A (eval (.j x pos) X.j) Q E s:=by
 obtain⟨i,g,d⟩:=I.mod.blt;exact TB I.j.u f (Calls.loadGlobal_builtin (by rw[I.j.glob];exact I.mod.glob.keeps I.bk) e (by rw[I.j.blt];exact g.keeps I.bk) ((d x b).j a) h) c
def sM(c:Gl X x)(b:X.I x=some u)(r:RelV v u)(a:(x==("__debug__":Str))=false:=by decide):PE X (.j x pos)<|tC v:=
 λ_ _ _ H _ I h=>wK I c b ⟨v,H,I,r,h⟩ a
def rA(e:Gl X x)(d:X.I x=none)(a:bootBuiltins x=some u)(r:RelV v u)(b:x≠"__name__":=by decide)(c:(x==("__debug__":Str))=false:=by decide):PE X (.j x pos)<|tC v:=
 λ_ _ _ H _ I h=>Qx I e d a ⟨v,H,I,r,h⟩ b c
variable{a b:Expr}{ta tb:TE}{pos:Pos}
def PC(X:Cx)(e:CmpOp)(a b:Expr)(t:TE):Prop:=
 ∀(pins:List<|Addr×Obj)(s:Shared)(U:St)(H:Hp)(Q:VK),Inv X pins U H s->t U H Q→
  wpAny (model X.u X.w) X.A (eval a X.j) (λv c=>wpAny (model X.u X.w) X.A (eval b X.j) (λu d=>wpAny (model X.u X.w) X.A (compareOp e v u) (EP X pins U Q) X.C d) X.C c) X.C s
def Dt(b)(h:op≠.In)(a:op≠.NotIn):behindInMarks op b=false:=by
 have e1:(op==CmpOp.In)=false:=by cases op<;>first|rfl|exact absurd rfl h
 have e2:(op==CmpOp.NotIn)=false:=by cases op<;>first|rfl|exact absurd rfl a
 cases b<;>simp[behindInMarks,e1,e2]
def Fj(a:TE):TE:=λU H Q=>a U H λx H1=>Q (.I<|u9<|x=.au) H1
def HH(a:TE):TE:=λU H Q=>a U H λx H1=>Q (.I<|!u9 (x=.au)) H1
def RelV.eF (r:RelV x v):(v==Value.none)=u9 (x=.au):=by
 cases x with
|int _=>obtain⟨t,rfl⟩:=r;rfl
|str _=>obtain⟨t,rfl⟩:=r;rfl
|_=>cases r;rfl
def yA{j pos'}(f:PE X a ta):PC X .Is a (.x .none j pos')<|Fj ta:=by intro b s U H Q I h;refine aN (f b s U H _ I h) ?_;rintro v i ⟨x,d,e,c,g⟩;exact UT<|is_none_gen ⟨.I _,d,e,by rw[c.eF];rfl,g⟩
def Cw{j pos'}(f:PE X a ta):PC X .IsNot a (.x .none j pos')<|HH ta:=by intro b s U H Q I h;refine aN (f b s U H _ I h) ?_;rintro v i ⟨x,d,e,c,g⟩;exact UT<|isnot_none_gen ⟨.I _,d,e,by rw[c.eF];rfl,g⟩
def tB(t:TE):TT:=λU H Q=>t U H λx H1=>∃c,x=.I c/\Q c H1
def vJ(h:PC X op a b t)(h1:behindInMarks op b=false:=by first|exact Dt _ Y5<|by decide|rfl):PE X (.C a [op] [b] pos) t:=λc s U H Q I d=>wpAny_Compare1 (h c s U H Q I d) h1
def BQ(h:PC X op a b t)(h1:behindInMarks op b=false:=by first|exact Dt _ Y5<|by decide|rfl):PT X (.C a [op] [b] pos)<|tB t:=by intro e s U H Q I l;refine UI (aN (h e s U H _ I l) λv n h1=>aN h1 λu o k=>aN k ?_) h1;rintro c m⟨x,j,f,g,i⟩;obtain⟨d,rfl,q⟩:=i;cases g;exact SZ ⟨j,f,q⟩
variable{tA tB':TT}{rest:List Expr}
def ID(t u:TT):TT:=λU H Q=>t U H λc H1=>if c=k9 then u U H1 Q else Q y9 H1
def Ry(t u:TT):TT:=λU H Q=>t U H λc H1=>if c=k9 then Q k9 H1 else u U H1 Q
def HB(t:TT):TT:=λU H Q=>t U H λc H1=>Q (!c) H1
def Mb(d:PT X a tA):PW X (.B .And [a] pos) tA:=by
 intro f b s U H Q I h;refine isTrue_and<|aN (d b s U H Q I h) λc g e=>?_;cases c with
|true=>exact isTrue_and_nil e
|false=>exact e
def HI(d:PT X a tA):PW X (.B .Or [a] pos) tA:=by
 intro f b s U H Q I h;refine isTrue_or<|aN (d b s U H Q I h) λc g e=>?_;cases c with
|false=>exact isTrue_or_nil e
|true=>exact e
def Oy(k:PT X a tA)(i:PW X (.B .And (b::rest) pos) tB'):PW X (.B .And (a::b::rest) pos)<|ID tA tB':=by
 intro j d s U H Q I h;refine isTrue_and<|aN (k d s U H _ I h) ?_;rintro c l ⟨e,f,g⟩;cases c with
|true=>exact i j d l U e Q f g
|false=>exact⟨e,f,g⟩
def Pz(k:PT X a tA)(i:PW X (.B .Or (b::rest) pos) tB'):PW X (.B .Or (a::b::rest) pos)<|Ry tA tB':=by
 intro j d s U H Q I h;refine isTrue_or<|aN (k d s U H _ I h) ?_;rintro c l ⟨e,f,g⟩;cases c with
|true=>exact⟨e,f,g⟩
|false=>exact i j d l U e Q f g
def Oz(e:PT X a tA):PT X (.I .Not a pos)<|HB tA:=λb s U H Q I h=>isTrue_not<|e b s U H (λc d=>Q (!c) d) I h
def uL{op}(h:PE X a t):PE X (.B op [a] pos) t:=λb s U H Q I c=>BoolOp_one<|h b s U H Q I c
end
def bu(K:Ab1)(H:Hp)(a:Addr)(xs:List V):Prop:=
 Rd H a (.x xs)∨
  ∃(o:Obj)(b:Array Value)(n:Nat),K.u a=some o/\o.cls=.w "list"/\o.x=none/\o.j=.j b n/\b.j<=sizeLine/\Vals xs b.u
def de(K:Ab1)(H:Hp)(a:Addr)(xs:List V):Prop:=
 Rd H a (.w xs)∨
  ∃(o:Obj)(b:Array Value)(n:Nat),K.u a=y0 o/\o.cls=.w "tuple"/\o.j=.j b n/\b.j<=sizeLine/\Vals xs b.u
noncomputable def oX:Value->Option V
|.x=>y0 .au
|.y b=>y0<|.I b
|.p i _=>y0<|.p i
|.str x _=>y0<|.u x
|.j a=>y0<|.j a
|.w n=>y0<|.ty n
|_=>u0
def RelV.abs (r:RelV x u):oX u=y0 x:=by
 cases x with
|int _=>obtain⟨t,rfl⟩:=r;rfl
|str _=>obtain⟨t,rfl⟩:=r;rfl
|_=>cases r;rfl
theorem RelV.inj (r:RelV x u)(q:RelV y u):x=y:=Ae0.inj<|r.abs.u.j q.abs
theorem Vals.inj:∀{xs ys}{us},Vals xs us->Vals ys us->xs=ys
|_,_,_,.u,.u=>rfl
|_,_,_,.j r t,.j b a=>by rw[r.inj b,Vals.inj t a]
section
variable{X:Cx}{pins:List<|Addr×Obj}{U:St}{H:Hp}{s:Shared}{a:Addr}{xs ys:List V}
def bu.of {K:Ab1}(h:H a=y0 (.x xs)):bu K H a xs:=.u<|.u h
def Inv.list (I:Inv X pins U H s)(h:bu X.K H a xs):∃j:List Value,Vals xs j/\PlainL s.j a j.w/\xs.e<=sizeLine:=by
 obtain h|⟨o,j,n,f,b,d,c,g,r⟩:=h
 .obtain⟨z,j,n,r,e⟩:=h.ok I.I;exact⟨j,r,⟨_,n,e,rfl,rfl,rfl⟩,z⟩
 .refine⟨j.u,r,⟨o,n,I.bQ a o f,b,d,by simpa using c⟩,?_⟩;have e:=r.e;simp[Ah1]at e;lia
def Inv.tuple (I:Inv X pins U H s)(h:de X.K H a xs):∃j:List Value,Vals xs j/\IsTup s.j a j.w/\xs.e<=sizeLine:=by
 obtain h|⟨o,j,n,d,b,c,f,r⟩:=h
 .obtain⟨z,j,r,p⟩:=h.ok I.I;exact⟨j,r,p.is,z⟩
 .refine⟨j.u,r,⟨o,I.bQ a o d,b,n,by simpa using c⟩,?_⟩;have e:=r.e;simp[Ah1]at e;lia
def Inv.eH (I:Inv X pins U H s)(h:bu X.K H a xs)(h':bu X.K H a ys):xs=ys:=by
 obtain⟨c,r,⟨o,n,e,_,_,d⟩,_⟩:=I.list h;obtain⟨b,i,⟨k,l,g,_,_,f⟩,_⟩:=I.list h';rw[e]at g;cases g;rw[d]at f;injection f with j _
 have:c=b:=by simpa using congrArg Array.toList j
 subst this;exact r.inj i
def Inv.fW (I:Inv X pins U H s)(h:de X.K H a xs)(h':de X.K H a ys):xs=ys:=by
 obtain⟨c,r,⟨o,e,_,n,d⟩,_⟩:=I.tuple h;obtain⟨b,i,⟨k,g,_,l,f⟩,_⟩:=I.tuple h';rw[e]at g;cases g;rw[d]at f;injection f with j _
 have:c=b:=by simpa using congrArg Array.toList j
 subst this;exact r.inj i
end
noncomputable abbrev Cx.dR (X:Cx)(E:Value->Shared->Prop):Cx:={X with xe:=E}
abbrev Cx.et (X:Cx):Cx:=X.dR λ_ _=>False
theorem Cx.Ok.dR {X:Cx}(ok:X.Ok)(E:Value->Shared->Prop):(X.dR E).Ok:=
 ⟨ok.mod,ok.u,ok.glob,ok.blt,ok.w,ok.inj,ok.has,ok.lR,ok.hd,ok.frames,ok.hG,ok.ni,ok.bs,ok.g7,ok.fU,ok.fY,ok.cQ,ok.ik⟩
def Cx.Ok.dc {X:Cx}(ok:(X.dR E).Ok):X.Ok:=
 ⟨ok.mod,ok.u,ok.glob,ok.blt,ok.w,ok.inj,ok.has,ok.lR,ok.hd,ok.frames,ok.hG,ok.ni,ok.bs,ok.g7,ok.fU,ok.fY,ok.cQ,ok.ik⟩
section
variable{X:Cx}{pins:List<|Addr×Obj}{U:St}{H:Hp}{s:Shared}{E:Value->Shared->Prop}
theorem Inv.dR (I:Inv X pins U H s)(E):Inv (X.dR E) pins U H s:=⟨I.j.dR E,I.os,I.T,I.x,I.Z,I.u,I.y,I.bI,I.N,I.I,I.len⟩
theorem Inv.dc (I:Inv (X.dR E) pins U H s):Inv X pins U H s:=⟨I.j.dc,I.os,I.T,I.x,I.Z,I.u,I.y,I.bI,I.N,I.I,I.len⟩
theorem SP.dc (h:SP (X.dR E) pins D f s'):SP X pins D f s':=by
 cases f with
|ret u=>obtain⟨v,b,a,I,r,q⟩:=h;exact⟨v,b,a,I.dc,r,q⟩
|_=>obtain⟨b,a,I,q⟩:=h;exact⟨b,a,I.dc,q⟩
end
section
variable{X:Cx}{st:Stmt}{rest:List Stmt}{t u:TS}{e:Expr}{te:TE}{pos:Pos}
def FT:TS:=λD U H=>D.nx U H
def Of(t u:TS):TS:=λD U H=>t {D with nx:=u D} U H
def NG:dj X [] FT:=λ_ _ U H _ I h=>To ⟨U,H,I,h⟩
def Iw(h1:PS X st t)(d:dj X rest u):dj X (st::rest)<|Of t u:=by
 intro a s U H D I h;refine T9<|aN (h1 a s U H {D with nx:=u D} I h) λf g q=>?_;cases f with
|next=>obtain⟨c,b,e,q⟩:=q;exact d a g c b D e q
|_=>exact q
def Pk(h1:PS X st t):dj X [st] t:=by
 intro a s U H D I h;refine T9<|aN (h1 a s U H D I h) λf b q=>?_;cases f with
|next=>exact To q
|_=>exact q
def Inv.quiet (I:Inv X pins U H s):interactive X.j=false:=by simp[interactive,I.j.u]
def NF(a:TE):TS:=λD U H=>a U H λ_ H1=>D.nx U H1
def xX(f:PE X e te)(d:swapsWith e u0 pos.u X.j=pure false:=by rfl):PS X (.Expr e pos)<|NF te:=λa s U H D I h=>wpAny_Expr_any (aN (f a s U H _ I h)<|by rintro v j⟨x,b,c,i,g⟩;exact⟨U,b,c,g⟩) I.quiet d
def RG(a:TE):TS:=λD U H=>a U H D.rt
def yj(f:PE X e te):PS X (.Return (y0 e) pos)<|RG te:=λa s U H D I h=>wpAny_Return_some<|aN (f a s U H _ I h)<|by rintro v i⟨x,c,d,b,g⟩;exact⟨x,U,c,d,b,g⟩
def RF(c:TT)(t u:TS):TS:=λD U H=>c U H λb H1=>if b=k9 then t D U H1 else u D U H1
def Nm(k:PT X c tc)(m:dj X a t)(l:dj X b u):PS X (.If c a b pos)<|RF tc t u:=by
 intro e s U H D I h;refine wpAny_If<|aN (k e s U H _ I h) ?_;rintro d i ⟨f,g,j⟩;cases d with
|true=>exact m e i U f D g j
|false=>exact l e i U f D g j
end
abbrev TG:=V->St->Hp->(St->Hp->Prop)->Prop
abbrev m1:=List V->St->Hp->(St->Hp->Prop)->Prop
def PG(X:Cx)(a:Expr)(t:TG):Prop:=
 ∀(pins:List<|Addr×Obj)(s:Shared)(U:St)(H:Hp)(v:V)(u:Value)(Q:St->Hp->Prop),Inv X pins U H s->RelV v u->t v U H Q→
  wpAny (model X.u X.w) X.A (assign a X.j u) (λ_ s'=>∃b H',Inv X pins b H' s'/\Q b H') X.C s
def nD(X:Cx)(b:List Expr)(t:m1):Prop:=
 ∀(pins:List<|Addr×Obj)(s:Shared)(U:St)(H:Hp)(vs:List V)(us:List Value)(Q:St->Hp->Prop),Inv X pins U H s->Vals vs us->t vs U H Q→
  wpAny (model X.u X.w) X.A (assignInOrder ((assignEach b X.j).j (·.2)) us) (λ_ s'=>∃a H',Inv X pins a H' s'/\Q a H') X.C s
abbrev ym:=V->V->V->Hp->(Hp->Prop)->Prop
def sJ(X:Cx)(t:ym):Prop:=
 ∀(pins:List<|Addr×Obj)(s:Shared)(U:St)(H:Hp)(o i v:V)(a b u:Value)(Q:Hp->Prop),Inv X pins U H s->RelV o a->RelV i b->RelV v u->t o i v H Q→
  wpAny (model X.u X.w) X.A (setItem a b u) (λ_ s'=>∃H',Inv X pins U H' s'/\Q H') X.C s
section
variable{X:Cx}{pos:Pos}
def qP(i:Nat):TG:=λv U H Q=>Q (U.y i<|y0 v) H
def r9(e:X.N.M)(d:X.N[i]?=y0 x)(c:lT X.j.j x)(f:X.fn x=k9\/X.j.j.j.u x=y0 .local:=by first|exact .inl rfl|exact .inr rfl|assumption):PG X (.j x pos)<|qP i:=λa s U H v u Q I r h=>Vm<|Zv I e d c r (λg b=>⟨_,H,b,h⟩) f
def LL:m1:=λvs U H Q=>vs=[]/\Q U H
def PZ(t:TG)(u:m1):m1:=λvs U H Q=>∃v r,vs=v::r/\t v U H λa H'=>u r a H' Q
def Dx:nD X [] LL:=by intro a s U H b c Q I r h;obtain⟨e,h⟩:=h;subst e;cases r;exact assignInOrder_nil ⟨U,H,I,h⟩
def QV(h1:PG X e t)(j:nD X es u)
 (g:(assignEach (e::es) X.j).j (·.2)=assign e X.j::(assignEach es X.j).j (·.2):=by rfl):nD X (e::es)<|PZ t u:=by
 intro a s U H l m Q I r h;obtain⟨v,n,e1,h⟩:=h;subst e1;cases r with
|cons r k=>rw[g];exact assignInOrder_cons<|aN (h1 a s U H _ _ _ I r h)<|by rintro _ d⟨c,i,b,f⟩;exact j a d c i _ _ Q b k f
def D5(K:Ab1)(n:Nat)(t:m1):TG:=λv U H Q=>∃a xs,v=.j a/\de K H a xs/\xs.e=n/\t xs U H Q
def yH(q:X.calm=k9)(h:nD X es t)
 (j:(assignEach es X.j).e=n:=by rfl)(d:(assignEach es X.j).findIdx? (·.1)=none:=by rfl):PG X (.G es k pos)<|D5 X.K n t:=by
 intro c s U H v u Q I r f;obtain⟨a,i,e1,g,w,f⟩:=f;subst e1;cases r;obtain⟨l,rv,p,x⟩:=I.tuple g;exact assign_Tuple_tuple (I.j.hd q) p (by simp[j,←w,rv.e]) d λy m=>h c _ U H i _ Q (I.kept λb o e=>m b o (Ac1<|Ac e) e) (by simpa using rv) f
def Ie(b c:TE)(t:ym):TG:=λv U H Q=>b U H λo H1=>c U H1 λi H2=>t o i v H2 λa=>Q U a
def o7(l:PE X o to)(g:PE X i ti)(m:sJ X t)
 (C:∀v,assign (.w o i pos) X.j v=(do
   let j←holding [v]<|eval o X.j;let L←holding [v,j]<|eval i X.j
   standAt pos
   holding [v,j,L]<|setItem j L v
   release [v,j,L] []):=by intro _;rfl):PG X (.w o i pos)<|Ie to ti t:=by
 intro a s U H v u Q I r h;rw[C];exact AC<|Pi<|aN (l a s U H _ I h)<|by rintro j d⟨x,q,b,e,k⟩;exact AC<|Pi<|aN (g a d U q _ b k)<|by rintro L A⟨y,w,z,c,f⟩;exact AC<|Tj<|AC<|Pi<|aN (m a A U w x y v j L u _ z e c r f)<|by rintro _ D⟨p,B,n⟩;exact wpAny_release ⟨U,p,B,n⟩
def hI(a:TE)(g:TG):TS:=λD U H=>a U H λx H1=>g x U H1 D.nx
def m8(c:PE X e te)(i:PG X tg g)(k:swapsWithSole [tg] e pos.u X.j=pure false:=by rfl)(m:swappedStores [tg] e X.j=pure none:=by rfl)
 (h1:(assignEach [tg] X.j).j (·.2)=[assign tg X.j]:=by rfl):PS X (.j [tg] e pos)<|hI te g:=by
 intro a s U H D I h;refine wpAny_Assign_stores (aN (c a s U H _ I h) ?_) k m;rintro v d⟨x,l,b,f,j⟩;rw[h1];exact aN (i a d U l x v _ b f j) λ_ n q=>q
def OT(o:X.N.M)(g:X.N[i]?=y0 x)(k:lT X.j.j x)(c:PE X e te)(l:swapsWith e (y0<|.j x pos') pos.u X.j=pure false:=by rfl)(d:X.fn x=k9\/X.j.j.j.u x=y0 .local:=by first|exact .inl rfl|exact .inr rfl|assumption):
 PS X (.j [.j x pos'] e pos)<|hI te<|qP i:=λa s U H D I h=>Vn (aN (c a s U H _ I h)<|by rintro v p⟨y,m,b,f,j⟩;exact Zv b o g k f (λq n=>⟨_,m,n,j⟩) d) l
end
section
variable{X:Cx}{pos:Pos}
def H9(c:TT)(tb:TS):TS:=λD U H=>∃W:Nat->St->Hp->Prop,(∃m,W m U H)/\∀m U H,W m U H→
 c U H λb H1=>if b=k9 then∃N:St->Hp->Prop,(∀d H',N d H'->∃a,a<m/\W a d H')/\tb {D with nx:=N,ct:=N,bk:=D.nx} U H1 else D.nx U H1
def MP(r:PassesOwn (model X.u X.w) X.A X.j X.C)(E:PT X c tc)(A:dj X body tb):PS X (.While c body [] pos)<|H9 tc tb:=by
 rintro a s U H D I⟨W,⟨C,B⟩,e⟩;refine wpAny_While<|codeAny_whileLoop (λn F=>∃w q,Inv X a w q F/\W n w q) ?_ C ⟨U,H,I,B⟩;rintro n z ⟨h,t,y,J⟩;refine S8 r<|aN (E a z h t _ y<|e n h t J) ?_;rintro b G ⟨u,v,i⟩;cases b with
|true=>
  obtain⟨N,x,i⟩:=i;refine S8 r<|aN (A a G h u _ v i) λf K m=>?_;cases f with
 |next=>obtain⟨d,g,p,o⟩:=m;obtain⟨j,l,k⟩:=x d g o;exact⟨j,l,d,g,p,k⟩
 |cont=>obtain⟨d,g,p,o⟩:=m;obtain⟨j,l,k⟩:=x d g o;exact⟨j,l,d,g,p,k⟩
 |_=>exact m
|false=>exact To ⟨h,u,v,i⟩
end
structure It where
 go:Nat->Hp->Prop
 gr:Nat->Hp->V->Hp->Prop
 stop:Nat->Hp->Prop
def bJ(X:Cx)(a:List<|Addr×Obj)(H:Hp)(b:Addr):Prop:=
 H b=u0/\b≠X.j.w/\b∉X.fs/\(b∈X.ex\/X.s₀.j.u.j<=b)/\(∀x c,X.j.u.u x=y0 c->c≠b)/\∀p∈X.pn++a,p.1≠b
def Inv.eE (I:Inv X pins U H s)(a:s.j.u.j<=b)(d:H' b=u0):bJ X pins H' b:=by refine⟨d,Ao2<|Ab3 I.lt a,I.rN a,.w<|Ab4 I.sz a,λx c e z=>?_,λp f z=>absurd (Ab3 (Ac (I.N p f).1)<|by simp_all)<|Aj8 _⟩;obtain⟨v,q⟩:=I.u x c e;exact absurd (Ab3 q.lt<|by simp_all)<|Aj8 _
structure nN(P:Program)(w:World)(K:Ab1)(tg:Expr)(J:It)(fp:List Addr)(it:Addr)(tn:Nat->Heap->Prop):Prop where
 mem:it∈fp
 obj:∀i h,tn i h->∀b∈fp,∃o,h.j b=y0 o/\∀v,o.j≠.u v
 keep:∀i h h',tn i h->(∀b∈fp,∀o,h.j b=y0 o->h'.j b=y0 o)->tn i h'
 item:∀(X:Cx),X.u=P->X.w=w->X.K=K->X.calm=k9->∀(i:Nat)(pins:List<|Addr×Obj)(s:Shared)(U:St)(H:Hp)(E:Value->Shared->Prop),Inv X pins U H s->(∀b∈fp,bJ X pins H b)->tn i s.j->J.go i H→
  wpAny (model P w) X.A (pyNext<|.j it) (λr s1=>∃u,r=y0 u∧
   wpAny (model P w) X.A (letOwnedTupleGo tg (.j it) u) (λ_ s2=>∃x H',Inv X pins U H' s2/\RelV x u/\J.gr i H x H'/\tn (i+1) s2.j/\∀b∈fp,H' b=u0) E s1) E s
 done:∀(X:Cx),X.u=P->X.w=w->X.K=K->X.calm=k9->∀(i:Nat)(pins:List<|Addr×Obj)(s:Shared)(U:St)(H:Hp)(E:Value->Shared->Prop),Inv X pins U H s->(∀b∈fp,bJ X pins H b)->tn i s.j->J.stop i H→
  wpAny (model P w) X.A (pyNext<|.j it) (λr s1=>r=u0/\Inv X pins U H s1) E s
 self:∀(A:Around)(i:Nat)(s:Shared)(Q:Value->Shared->Prop)(E:Value->Shared->Prop),tn i s.j->Q (.j it) s->wpAny (model P w) A (pyIter<|.j it) Q E s
abbrev TI:=St->Hp->(It->Hp->Prop)->Prop
def AS(X:Cx)(a:List<|Addr×Obj)(U:St)(f:Expr)(R:It->Hp->Prop)(c:Value)(e:Shared):Prop:=
 ∃(d:Addr)(fp:List Addr)(tn:Nat->Heap->Prop)(J:It)(H':Hp),c=.j d/\Inv X a U H' e/\nN X.u X.w X.K f J fp d tn/\tn 0 e.j/\(∀b∈fp,bJ X a H' b)/\R J H'
def PI(X:Cx)(c a:Expr)(b:TI):Prop:=
 ∀(pins:List<|Addr×Obj)(s:Shared)(U:St)(H:Hp)(R:It->Hp->Prop),Inv X pins U H s->b U H R→
  wpAny (model X.u X.w) X.A (eval a X.j) (λv d=>wpAny (model X.u X.w) X.A (pyIter v) (AS X pins U c R) X.C d) X.C s
def pI(c:s.j.j it=y0 o)(b:o.cls=.w n)(d:o.j=.w vs)
 (e:["enumerate","zip","dict_itemiterator","dict_reverseitemiterator","odict_iterator","itertools.zip_longest","itertools.pairwise"].x n=false)(a:Q () s):wpAny M A (letOwnedTupleGo tg (.j it) u) Q E s:=by
 cases tg<;>first
|exact FS a
|(cases u<;>first
|exact FS a
      | (refine AC<|wpAny_load c ?_
         rw[b,d];show wpAny M A (if _=k9 then _ else _) Q E s;rw[FM Y6];exact FS a))
noncomputable def mB(K:Ab1)(a:Addr):It:=
 ⟨λi H=>∃xs x,bu K H a xs/\xs[i]?=y0 x,λi H x H'=>H'=H/\∀xs,bu K H a xs->xs[i]?=y0 x,λi H=>∃xs,bu K H a xs/\xs.e<=i⟩
noncomputable def mG(K:Ab1)(a:Addr):It:=
 ⟨λi H=>∃xs x,de K H a xs/\xs[i]?=y0 x,λi H x H'=>H'=H/\∀xs,de K H a xs->xs[i]?=y0 x,λi H=>∃xs,de K H a xs/\xs.e<=i⟩
noncomputable def o3(a:Int)(n:Nat):It:=⟨λi _=>i<n,λi H x H'=>H'=H/\x=.p (a+i),λi _=>n<=i⟩
def Lr{K:Ab1}(a it):nN P w K tg (mB K a) [it] it<|λi h=>h.IsListIter it a i where
 mem:=by simp
 obj:=λi h f b j=>by
  have e:=by simpa using j
  subst e;obtain⟨o,e,c,d⟩:=f;exact⟨o,e,λv z=>by rw[d]at z;cases z⟩
 keep:=λi h r f k=>f.at λo e=>k it Y7 o e
 item:=by intro X q J C M i g s U H E I m f t;subst q J C;obtain⟨Q,x,n,F⟩:=t;obtain⟨D,rv,p,O⟩:=I.list n;obtain⟨u,S,V⟩:=rv.get F;obtain⟨L,y,W,A,G,B⟩:=m it Y7;refine wpAny_pyNext_list_item f p.K (by simpa using S) λr l Y=>?_;have N:Inv X g U H {s with heap:=r}:=I.C (λb o j e=>(Y.2 b j).j e) L y A G B;obtain⟨o,e,c,d⟩:=id l;exact⟨u,rfl,pI e c d Y5 ⟨x,H,N,V,⟨rfl,λZ R=>by rw[I.eH R n];exact F⟩,l,λb j=>(m b j).1⟩⟩
 done:=by intro X q J C M i g s U H E I m f t;subst q J C;obtain⟨Q,n,F⟩:=t;obtain⟨D,rv,p,O⟩:=I.list n;obtain⟨L,y,W,A,G,B⟩:=m it Y7;have hl:=rv.e;exact wpAny_pyNext_list_end (I.j.hd M) f p.K (by simp;lia) λr T=>⟨rfl,I.C (λb o j e=>T b o j e) L y A G B⟩
 self:=λ_ _ _ _ _ f h=>wpAny_pyIter_listiter f h
def EY{K:Ab1}(a it):nN P w K tg (mG K a) [it] it<|λi h=>h.IsTupleIter it a i where
 mem:=by simp
 obj:=λi h f b j=>by
  have e:=by simpa using j
  subst e;obtain⟨o,e,c,d⟩:=f;exact⟨o,e,λv z=>by rw[d]at z;cases z⟩
 keep:=λi h r f k=>f.at λo e=>k it Y7 o e
 item:=by intro X q J C M i g s U H E I m f t;subst q J C;obtain⟨Q,x,n,F⟩:=t;obtain⟨D,rv,p,O⟩:=I.tuple n;obtain⟨u,S,V⟩:=rv.get F;obtain⟨L,y,W,A,G,B⟩:=m it Y7;refine wpAny_pyNext_tuple_item f (p) (by simpa using S) λr l Y=>?_;have N:Inv X g U H {s with heap:=r}:=I.C (λb o j e=>(Y.2 b j).j e) L y A G B;obtain⟨o,e,c,d⟩:=id l;exact⟨u,rfl,pI e c d Y5 ⟨x,H,N,V,⟨rfl,λZ R=>by rw[I.fW R n];exact F⟩,l,λb j=>(m b j).1⟩⟩
 done:=by intro X q J C M i g s U H E I m f t;subst q J C;obtain⟨Q,n,F⟩:=t;obtain⟨D,rv,p,O⟩:=I.tuple n;obtain⟨L,y,W,A,G,B⟩:=m it Y7;have hl:=rv.e;exact wpAny_pyNext_tuple_end (I.j.hd M) f (p) (by simp;lia) λr T=>⟨rfl,I.C (λb o j e=>T b o j e) L y A G B⟩
 self:=λ_ _ _ _ _ f h=>wpAny_pyIter_tupleiter f h
def Rn{K:Ab1}(it)(lo)(n):nN P w K tg (o3 lo n) [it] it<|λi h=>IsRangeIter h it (lo+(i:Nat)*1) ((n:Int)-(i:Nat)) 1 where
 mem:=by simp
 obj:=λi h a b d=>by
  have e:=by simpa using d
  subst e;exact⟨_,a,λv z=>by have G:=z;cases G⟩
 keep:=λi h j a k=>k it Y7 _ a
 item:=by intro X y B A u i c s U H E I g a l;subst y B A;obtain⟨x,m,L,p,r,q⟩:=g it Y7;have W:=Walks.range (prog:=X.u) (w:=X.w) (I.j.hd u) it lo 1 n;refine W.item i s _ _ l a λv j M F f C=>?_;obtain⟨t,rfl⟩:=F;have D:Inv X c U H {s with heap:=j,toks:=M}:=I.C (λb o d e=>C b o (by simpa using d) e) x m p r q;refine⟨_,rfl,pI f rfl rfl Y5 ⟨.p<|lo+i,H,D,⟨t,?_⟩,⟨rfl,rfl⟩,f,λb d=>(g b d).1⟩⟩;rw[Int.mul_one]
 done:=by intro X y B A u i c s U H E I g a l;obtain⟨x,m,L,p,r,q⟩:=g it Y7;exact wpAny_pyNext_range_end (I.j.hd u) a (by have:n<=i:=l;lia) λj J=>⟨rfl,I.C (λb o d e=>J b o d e) x m p r q⟩
 self:=λ_ _ _ _ _ a h=>wpAny_pyIter_rangeiter a h
section
variable{X:Cx}{tg:Expr}
def N8{a c:Int}(I:Inv X pins U H s)(h1:-(2^62)<=a)(h:a<2^62)(g:-(2^62)<=c)(i:c<2^62)
 (q:R (o3 a (c-a).j) H):wpAny (model X.u X.w) X.A (pyIter<|.j s.j.u.j) (AS X pins U tg R) E {s with heap:=s.j.w {cls:=.w "range",data:=.w #[.p a t,.p c u,.p 1 v]},toks:=tk}:=by
 refine wpAny_pyIter_range (IsRange.new ..) (small_one h1 h g i) ?_;have d:Inv X pins U H {s with heap:=s.j.w {cls:=.w "range",data:=.w #[.p a t,.p c u,.p 1 v]},toks:=tk}:=I.kept fun b o e=>Aa8 _ e;refine⟨(s.j.w {cls:=.w "range",data:=.w #[.p a t,.p c u,.p 1 v]}).u.j,[(s.j.w {cls:=.w "range",data:=.w #[.p a t,.p c u,.p 1 v]}).u.j],_,_,H,rfl,
  d.kept λb o e=>Aa8 _ e,Rn _ a (c-a).j,?_,λb f=>?_,q⟩
 .have e1:a+(0:Nat)*1=a:=by simp
  have e2:(c-a).j-(0:Nat)=Builtin.Range.rangeSize a c 1:=by rw[rangeSize_one];split<;>lia
  rw[e1,e2];exact Ac4 _ rfl
 .have e:b=(s.j.w {cls:=.w "range",data:=.w #[.p a t,.p c u,.p 1 v]}).u.j:=by simpa using f
  subst e;exact d.eE (Ab0 _)<|d.I.fresh<|Ab0 _
def Sm(a:TA):TI:=λU H R=>a U H λvs H1=>∃j:Int,vs=[.p j]/\-(2^62)<=j/\j<2^62/\R (o3 0 j.j) H1
def SI(k:Gl X "range")(i:X.I "range"=none)(n:PA X [a] ta)(l:starEach [a] X.j=[(false,eval a X.j)]:=by rfl):PI X tg (.y (.j "range" p) [a] [] pos)<|Sm ta:=by
 intro b s U H R I h;refine Call_<|Qx I k i boot_range<|P3 (aN (n pos b s U H _ I h) ?_) l rfl;rintro v o⟨u,w,d,f,c⟩;obtain⟨j,e,c,g,q⟩:=c;subst e;cases f with
|cons r m=>cases m;obtain⟨t,rfl⟩:=r;exact call_range_1<|N8 d Y5 Y5 c g<|by simp_all
def IF(c:TI)(g:TG)(tb:TS):TS:=λD U H=>c U H λJ H1=>∃W:Nat->Nat->St->Hp->Prop,(∃m,W 0 m U H1)/\∀i m U H,W i m U H→
 (J.stop i H/\D.nx U H)\/(J.go i H/\∃N:St->Hp->Prop,(∀b H',N b H'->∃a,a<m/\W (i+1) a b H')/\∀x H',J.gr i H x H'->g x U H' λd H2=>tb {D with nx:=N,ct:=N,bk:=D.nx} d H2)
noncomputable def j9(a:List Addr)(h:Heap):List<|Addr×Obj:=a.B λb=>(h.j b).j λo=>(b,o)
def Jg(a:b∈fp)(e:h.j b=y0 o):(b,o)∈j9 fp h:=An6.w ⟨b,a,by rw[e];rfl⟩
def j2(d:p∈j9 fp h):p.1∈fp/\h.j p.1=y0 p.2:=by
 obtain⟨b,a,e⟩:=An6.u d;cases q:h.j b with
|none=>rw[q]at e;cases e
|some o=>rw[q]at e;have c:=Ae0.inj e;subst c;exact⟨a,q⟩
def Inv.pinned (I:Inv X pins U H s)(k:∀b∈fp,bJ X pins H b)(f:∀b∈fp,∃o,s.j.j b=y0 o/\∀v,o.j≠.u v):Inv X (pins++j9 fp s.j) U H s:=
 I.bX λp g=>(Ac6.u g).j (λz=>I.N p<|Ab _ z) λz=>by obtain⟨a,e⟩:=j2 z;obtain⟨j,h,i,_⟩:=k p.1 a;obtain⟨o,c,d⟩:=f p.1 a;rw[e]at c;cases c;exact⟨e,j,h,i,d⟩
def Inv.bT (I:Inv X (pins++pl) U H s):Inv X pins U H s:=I.bX λp a=>I.N p<|Ab _<|Ad1 _ a
def MZ(B:PassesOwn (model X.u X.w) X.A X.j X.C)(Z:X.calm=k9)(hi:PI X tg iter wi)(hg:PG X tg g)(j:dj X body tb)
 (hs:∀x,foldedSetIterable iter X.j x=pure x:=by intro _;rfl):PS X (.For tg iter body [] pos)<|IF wi g tb:=by
 intro a s U H D I h;refine wpAny_For (aN (hi a s U H _ I h) λv s1 h1=>aN h1 λitv s2 h2=>?_) hs;obtain⟨it,K,tn,J,H2,e,I2,T,Q,V,W,⟨m0,w0⟩,E⟩:=h2;subst e;have c:∀{l},(∀b∈K,l b=u0)->∀b∈K,bJ X a l b:=λhn b j=>⟨hn b j,(V b j).2⟩;refine codeAny_forLoop_any (λn Y=>∃i F l,Inv X a F l Y/\tn i Y.j/\(∀b∈K,l b=u0)/\W i n F l) ?_ m0 ⟨0,U,H2,I2,Q,λb j=>(V b j).1,w0⟩;rintro n R ⟨i,A,G,I3,C,z,w3⟩;obtain⟨stop,qn⟩|⟨go,N,hN,step⟩:=E i n A G w3
 .refine S8 B<|aN (T.done X rfl rfl rfl Z i a R A G X.C I3 (c z) C stop) ?_;rintro r s4 ⟨L,I4⟩;subst L;exact To ⟨A,G,I4,qn⟩
 .refine S8 B<|aN (T.item X rfl rfl rfl Z i a R A G X.C I3 (c z) C go) ?_;rintro r s4 ⟨u,L,h4⟩;subst L;refine S8 B<|aN h4 ?_;rintro _ s5 ⟨x,S,I5,r5,y5,t,O⟩;refine S8 B<|aN (hg _ s5 A S x u _ (I5.pinned (c O)<|T.obj _ _ t) r5<|step x S y5) ?_;rintro _ s6⟨U6,H6,I6,q6⟩;refine S8 B<|aN (j _ s6 U6 H6 _ I6 q6) λf P y=>?_;have w:∀{p}{k},Inv X _ p k P->N p k->∃m,m<n/\∃i F l,Inv X a F l P/\tn i P.j/\(∀b∈K,l b=u0)/\W i m F l:=λ{p k} q M=>by obtain⟨m',hm,w7⟩:=hN p k M;refine⟨m',hm,i+1,p,k,q.bT,T.keep _ _ _ t λb j o e=>(q.N _<|Ab _<|Ab _<|Jg j e).1,λb j=>?_,w7⟩;obtain⟨o,e,d⟩:=T.obj _ _ t b j;exact(q.N _<|Ab _<|Ab _<|Jg j e).2.1
  cases f with
|brk=>obtain⟨p,k,q,y⟩:=y;exact⟨p,k,q.bT,y⟩
|ret v=>obtain⟨x7,p,k,q,r7,y⟩:=y;exact⟨x7,p,k,q.bT,r7,y⟩
|_=>obtain⟨p,k,q,M⟩:=y;exact w q M
end
abbrev R2:=V->V->Hp->VK->Prop
def cn(X:Cx)(f:Value->Value->Sem Value)(r:R2):Prop:=
 ∀(pins:List<|Addr×Obj)(s:Shared)(U:St)(H:Hp)(x y:V)(v u:Value)(Q:VK),Inv X pins U H s->RelV x v->RelV y u->r x y H Q→
  wpAny (model X.u X.w) X.A (f v u) (EP X pins U Q) X.C s
def oh(X:Cx)(f:Value->Sem Value)(r:V->Hp->VK->Prop):Prop:=
 ∀(pins:List<|Addr×Obj)(s:Shared)(U:St)(H:Hp)(x:V)(v:Value)(Q:VK),Inv X pins U H s->RelV x v->r x H Q→
  wpAny (model X.u X.w) X.A (f v) (EP X pins U Q) X.C s
def zr(X:Cx)(f:Value)(r:List V->Hp->VK->Prop):Prop:=
 ∀(pins:List<|Addr×Obj)(s:Shared)(U:St)(H:Hp)(xs:List V)(us:List Value)(Q:VK),Inv X pins U H s->Vals xs us->r xs H Q→
  wpAny (model X.u X.w) X.A (call f us) (EP X pins U Q) X.C s
def Ft(X:Cx)(r:V->Hp->(Bool->Hp->Prop)->Prop):Prop:=
 ∀(pins:List<|Addr×Obj)(s:Shared)(U:St)(H:Hp)(x:V)(v:Value)(Q:Bool->Hp->Prop),Inv X pins U H s->RelV x v->r x H Q→
  wpAny (model X.u X.w) X.A (truthy v) (TP X pins U Q) X.C s
def mL(r:R2)(a tb:TE):TE:=λU H Q=>a U H λx H1=>tb U H1 λy H2=>r x y H2 Q
def PF(r:V->Hp->VK->Prop)(a:TE):TE:=λU H Q=>a U H λx H1=>r x H1 Q
def rI(C:Int->Int->Prop)(g:Int->Int->V):R2:=λx y H Q=>∃i j,x=.p i/\y=.p j/\C i j/\Q (g i j) H
def gw(g:Int->Int->V):R2:=λx y H Q=>∃i j,x=.p i/\y=.p j/\Q (g i j) H
def rU(g:Int->V):V->Hp->VK->Prop:=λx H Q=>∃i,x=.p i/\Q (g i) H
section
variable{X:Cx}{a b c:Expr}{ta tb tc:TE}{pos:Pos}
def pd(o:PE X a ta)(k:PE X b tb){R:V->V->Hp->Prop}(I:Inv X pins U H s)
 (h:ta U H λx H1=>tb U H1 λy H2=>R x y H2){f:Value->Value->Sem Value}
 (e:∀v u M x y H2,Inv X pins U H2 M->RelV x v->RelV y u->R x y H2->wpAny (model X.u X.w) X.A (f v u) Q X.C M):
 wpAny (model X.u X.w) X.A (eval a X.j) (λv j=>wpAny (model X.u X.w) X.A (eval b X.j) (λu L=>wpAny (model X.u X.w) X.A (f v u) Q X.C L) X.C j) X.C s:=by
 exact aN (o pins s U H _ I h)<|by rintro v g⟨x,H1,c,i,m⟩;exact aN (k pins g U H1 _ c m)<|by rintro u M⟨y,H2,n,d,l⟩;exact e v u M x y H2 n i d l
def IM(g:cn X (binaryOp op) r)(l:PE X a ta)(e:PE X b tb):PE X (.BinOp a op b pos)<|mL r ta tb:=λc s U H Q I h=>wpAny_BinOp<|pd l e I h λv u k x y i j f d q=>g c k U i x y v u Q j f d q
def uq(f:oh X (unaryOp op) r)(g:PE X a ta):PE X (.I op a pos)<|PF r ta:=λb s U H Q I h=>UnaryOp_<|aN (g b s U H _ I h)<|by rintro v i⟨x,d,e,c,j⟩;exact f b i U d x v Q e c j
def mj{g:Int->Int->Int}
 (a:∀i j t u s Q E,C i j->Q (.p (g i j) s.u) {s with toks:=s.u+1}->wpAny (model X.u X.w) X.A (f (.p i t)<|.p j u) Q E s):
 cn X f<|rI C λi j=>.p<|g i j:=by
 rintro b s U H x y v u Q I d c⟨i,j,rfl,rfl,h,q⟩;obtain⟨t,rfl⟩:=d;obtain⟨e,rfl⟩:=c;exact a i j t e s _ _ h ⟨.p _,H,I.tok _,⟨_,rfl⟩,q⟩
def mN{g:Int->Int->Int}
 (a:∀i j t u s Q E,Q (.p (g i j) s.u) {s with toks:=s.u+1}->wpAny (model X.u X.w) X.A (f (.p i t)<|.p j u) Q E s):
 cn X f<|gw λi j=>.p<|g i j:=by
 rintro b s U H x y v u Q I d c⟨i,j,rfl,rfl,q⟩;obtain⟨t,rfl⟩:=d;obtain⟨e,rfl⟩:=c;exact a i j t e s _ _ ⟨.p _,H,I.tok _,⟨_,rfl⟩,q⟩
def oo{g:Int->Int->Bool}
 (a:∀i j t u s Q E,Q (.y<|g i j) s->wpAny (model X.u X.w) X.A (f (.p i t)<|.p j u) Q E s):
 cn X f<|gw λi j=>.I<|g i j:=by
 rintro b s U H x y v u Q I d c⟨i,j,rfl,rfl,q⟩;obtain⟨t,rfl⟩:=d;obtain⟨e,rfl⟩:=c;exact a i j t e s _ _ ⟨.I _,H,I,rfl,q⟩
def AK(i j:Int):Prop:=0<j/\j<1073741824
def ue(i j:Int):Prop:=0<=j/\j<=1000000/\i.u<2^64
def kT(i j:Int):Prop:=(-(2^64)<i/\i<2^64)\/(-(2^64)<j/\j<2^64)
def kT.ok (h:kT i j):IntMulOk i j:=by
 obtain⟨b,a⟩|⟨b,a⟩:=h
 .exact .of_left<|intBits_le_64 b a
 .exact .of_right<|intBits_le_64 b a
def Py(k):(0:Int)<=2^k:=by exact Ar _
def PQ:cn X (binaryOp .Add)<|gw λi j=>.p<|i+j:=mN λ_ _ _ _ _ _ _ q=>add_int q
def P8:cn X (binaryOp .Sub)<|gw λi j=>.p<|i-j:=mN λ_ _ _ _ _ _ _ q=>sub_int q
def D2:cn X (binaryOp .Mult)<|rI kT λi j=>.p<|i*j:=mj λ_ _ _ _ _ _ _ a q=>mul_int q a.ok
def HA:cn X (binaryOp .FloorDiv)<|rI AK λi j=>.p<|i/j:=mj λi j _ _ _ _ _ a q=>by have b:=a.1;have c:=a.2;exact floordiv_int Y6 (by rwa [An9 i Y6])<|.u<|Ux Y6
def Ic:cn X (binaryOp .Mod)<|rI (λ_ j=>0<j) λi j=>.p<|i%j:=mj λi j _ _ _ _ _ a q=>by have b:=a;exact mod_int' Y6<|by rwa [T4 i Y6]
def K6:cn X (binaryOp .Pow)<|rI ue λi j=>.p<|i^j.j:=mj λ_ _ _ _ _ _ _ a q=>pow_int_small a.1 a.2.1 a.2.2 q
def Ob:cn X (binaryOp .LShift)<|rI ue λi j=>.p<|i*2^j.j:=mj λ_ _ _ _ _ _ _ a q=>lshift_int_small a.1 a.2.1 a.2.2 q
def PM:cn X (binaryOp .RShift)<|rI (λ_ j=>0<=j) λi j=>.p<|i/2^j.j:=mj λi j _ _ _ _ _ a q=>
 rshift_int a<|by rwa [An9 i<|Py _]
def La:cn X (binaryOp .BitAnd)<|gw λi j=>.p<|Builtin.bitAnd i j:=mN λ_ _ _ _ _ _ _ q=>and_int q
def Lf:cn X (binaryOp .BitOr)<|gw λi j=>.p<|Builtin.bitOr i j:=mN λ_ _ _ _ _ _ _ q=>or_int q
def Ny:cn X (binaryOp .BitXor)<|gw λi j=>.p<|Builtin.bitXor i j:=mN λ_ _ _ _ _ _ _ q=>xor_int q
def A0{g:Int->Int}
 (a:∀i t s Q E,Q (.p (g i) s.u) {s with toks:=s.u+1}->wpAny (model X.u X.w) X.A (f<|.p i t) Q E s):
 oh X f<|rU λi=>.p<|g i:=by
 rintro b s U H x v Q I c⟨i,rfl,q⟩;obtain⟨t,rfl⟩:=c;exact a i t s _ _ ⟨.p _,H,I.tok _,⟨_,rfl⟩,q⟩
def IX:oh X (unaryOp .USub)<|rU λi=>.p<|-i:=A0 λ_ _ _ _ _ q=>neg_int q
def NT:oh X (unaryOp .Invert)<|rU λi=>.p<|Builtin.bitNot i:=A0 λ_ _ _ _ _ q=>invert_int q
end
section
variable{X:Cx}{a b c:Expr}{ta tb tc:TE}{pos:Pos}
def oG(I:Inv X pins U H s)(q:Q (.I k) H)(e:k=k'):EP X pins U Q (.y k') s:=by subst e;exact⟨.I k,H,I,rfl,q⟩
def Ec:cn X (compareOp .Lt)<|gw λi j=>.I<|u9<|i<j:=oo λ_ _ _ _ _ _ _ q=>lt_int q
def Ng:cn X (compareOp .LtE)<|gw λi j=>.I<|u9<|i<=j:=oo λ_ _ _ _ _ _ _ q=>le_int q
def Ow:cn X (compareOp .Gt)<|gw λi j=>.I<|u9<|j<i:=oo λ_ _ _ _ _ _ _ q=>gt_int q
def LY:cn X (compareOp .GtE)<|gw λi j=>.I<|u9<|j<=i:=oo λ_ _ _ _ _ _ _ q=>ge_int q
def yQ(i:cn X (compareOp op) r)(m:PE X a ta)(e:PE X b tb)(f:behindInMarks op b=y9):PE X (.C a [op] [b] pos)<|mL r ta tb:=λc s U H Q I h=>wpAny_Compare1 (pd m e I h λv u l x y j k g d q=>i c l U j x y v u Q k g d q) f
def Dw(t:TE):TT:=λU H Q=>t U H λx H'=>∃k,x=.I k/\Q k H'
def C7(p:cn X (compareOp op) r)(F:PE X a ta)(l:PE X b tb)(n:behindInMarks op b=y9):PT X (.C a [op] [b] pos)<|Dw<|mL r ta tb:=by intro d s U H Q I h;refine UI (aN (F d s U H _ I h) ?_) n;rintro v i⟨x,w,f,j,o⟩;refine aN (l d i U w _ f o) ?_;rintro u D⟨y,A,C,g,m⟩;refine aN (p d D U A x y v u _ C j g m) ?_;rintro c G⟨z,t,E,B,k,e,q⟩;subst e;cases B;exact SZ ⟨t,E,q⟩
def pZ(r r':R2)(d tb e:TE):TE:=λU H Q=>d U H λx H1=>tb U H1 λy H2=>r x y H2 λz a=>∃k,z=.I k∧
 (if k=k9 then e U a λc b=>r' y c b Q else Q (.I y9) a)
def LS(K:cn X (compareOp op) r)(g:cn X (compareOp op') r')(T:PE X a ta)(C:PE X b tb)(M:PE X c tc)
 (F:lastMarks [op,op'] [b,c]=false:=by with_unfolding_all rfl):PE X (.C a [op,op'] [b,c] pos)<|pZ r r' ta tb tc:=by
 intro f s U H Q I h;refine Compare_chain (aN (T f s U H _ I h) ?_) F;rintro v A⟨x,N,p,B,J⟩;refine chain_link<|aN (C f A U N _ p J) ?_;rintro u S⟨y,O,R,i,D⟩;refine aN (K f S U O x y v u _ R B i D) ?_;rintro d n⟨z,l,m,P,k,e,j⟩;subst e;cases P;refine SZ ?_;cases k with
|false=>exact ite_ff ⟨.I y9,l,m,rfl,j⟩
|true=>exact ite_tt<|chain_last<|aN (M f n U l _ m j)<|by rintro w G⟨E,L,t,o,q⟩;exact g f G U L y E u w Q t i o q
def EX(N:cn X (compareOp op) r)(g:cn X (compareOp op') r')(ha:PE X a ta)(E:PE X b tb)(S:PE X c tc)
 (J:lastMarks [op,op'] [b,c]=false:=by with_unfolding_all rfl):PT X (.C a [op,op'] [b,c] pos)<|Dw<|pZ r r' ta tb tc:=by
 intro f s U H Q I h;refine isTrue_chain (aN (ha f s U H _ I h) ?_) J;rintro v B⟨x,T,q,D,L⟩;refine test_link<|aN (E f B U T _ q L) ?_;rintro u Z⟨y,V,Y,i,F⟩;refine aN (N f Z U V x y v u _ Y D i F) ?_;rintro d n⟨z,l,m,W,k,e,j⟩;subst e;cases W;refine SZ ?_;cases k with
|false=>obtain⟨k',p,P⟩:=j;cases p;exact ite_ff ⟨l,m,P⟩
|true=>refine ite_tt<|test_last<|aN (S f n U l _ m j) ?_;rintro A K⟨G,O,w,o,t⟩;refine aN (g f K U O y G u A _ w i o t) ?_;rintro d' s5 ⟨z2,C,M,R,k2,e2,q5⟩;subst e2;cases R;exact SZ ⟨C,M,q5⟩
def l7(K:Ab1)(x:V)(H:Hp)(k:Bool):Prop:=
 match x with
|.au=>k=y9
|.I b=>k=b
|.p i=>k=(i !=0)
|_=>False
def jS:(sizeLine:Nat)<2^63:=by rw[Tf];decide
def n5:Ft X<|λx H Q=>∃k,l7 X.K x H k/\Q k H:=by
 rintro c s U H x v Q I a⟨k,e,q⟩;cases x with
|au=>cases a;cases e;exact truthy_none ⟨H,I,q⟩
|bl b=>cases a;cases e;exact SZ ⟨H,I,q⟩
|int i=>obtain⟨t,rfl⟩:=a;cases e;exact PySem.P.truthy_int ⟨H,I,q⟩
|_=>exact e.j
def N3(l:PE X a ta)(d:∀j,isTrue a X.j j=(do let v←j;standAt a.pos;holding [v]<|truthy v)):
 PT X a<|λU H Q=>ta U H λx H'=>∃k,l7 X.K x H' k/\Q k H':=λb s U H Q I h=>isTrue_plain (aN (l b s U H _ I h)<|by rintro v e⟨x,i,c,f,g⟩;exact n5 b e U i x v Q c f g)<|d _
def Hw:cn X (binaryOp .Add)<|λx y H Q=>∃i j,x=.u i/\y=.u j/\i.e+j.e<=sizeLine/\Q (.u<|i++j) H:=by rintro a s U H x y v u Q I d b⟨i,j,rfl,rfl,c,q⟩;obtain⟨t,rfl⟩:=d;obtain⟨e,rfl⟩:=b;exact add_str (λe f=>⟨.u _,H,I.tok _,⟨_,rfl⟩,q⟩) c
def zP(r:Vals [x] us):∃u,us=[u]/\RelV x u:=by
 cases r with
|cons b a=>cases a;exact⟨_,rfl,b⟩
def mm(r:Vals [x,y] us):∃u j,us=[u,j]/\RelV x u/\RelV y j:=by
 cases r with
|cons a d=>
  cases d with
|cons c b=>cases b;exact⟨_,_,rfl,a,c⟩
def Q8:zr X (.w "int")<|fun xs H Q=>(∃i,xs=[.p i]/\Q (.p i) H)\/∃k,xs=[.I k]/\Q (.p<|if k then 1 else 0) H:=by
 intro a s U H xs c Q I r h;obtain⟨i,rfl,q⟩|⟨k,rfl,q⟩:=h
 .obtain⟨u,rfl,t,rfl⟩:=zP r;exact call_int_int ⟨.p i,H,I,⟨_,rfl⟩,q⟩
 .obtain⟨u,rfl,b⟩:=zP r;cases b;exact call_int_bool ⟨.p _,H,I.tok _,⟨_,rfl⟩,q⟩
def D0:zr X (.u "divmod")<|fun xs H Q=>∃i j,xs=[.p i,.p j]/\AK i j/\∀p,H p=none->Q (.j p) (aH H p<|.w [.p (i/j),.p (i%j)]):=by rintro a s U H xs f Q I r⟨i,j,rfl,⟨d,h⟩,q⟩;obtain⟨u,c,rfl,⟨t,rfl⟩,⟨g,rfl⟩⟩:=mm r;refine divmod_int Y6 ?_<|.u<|Ux Y6;rw[An9 i Y6,T4 i Y6];refine⟨.j s.j.u.j,_,?_,rfl,q _<|I.I.fresh<|Ab0 _⟩;refine I.laid (λb o e=>Aa8 _ e) (Ab0 _) ⟨by simp only[Aa9,Ae4];decide,[.p _ s.u,.p _ (s.u+1)],.j ⟨_,rfl⟩<|.j ⟨_,rfl⟩ .u,?_⟩;exact⟨_,Ac4 s.j rfl,rfl,rfl,0,rfl⟩
end
structure fc(h:Heap)(x dx C:Addr)(mA:Str->Option Value):Prop where
 obj:h.j x=y0 (Al5 C dx)
 ns:h.Ns1 dx mA
 ne:dx≠x
set_option tactic.hygienic true in
def Q1{h:Heap}(n:h.Ns1 dx mA):∃j,h.j dx=y0 j/\∀name,Ap1 name j=y0 (mA name):=by
 obtain⟨o,c,m,l,d,i,_,g⟩:=n;refine⟨o,l,λname=>?_⟩;have e:=g name;unfold nsFind findBy at e;rw[←Array.find?_toList]at e;unfold Ap1;rw[d];dsimp only;split
 .rename_i y q;rw[q]at e;exact congrArg y0 e
 .rename_i q;rw[q]at e;have a:c.u.C (·.refKey)=false:=by rw[Am4];intro y k;obtain⟨z,t,b⟩:=i y<|Array.mem_toList_iff.u k;simp[DictEntry.refKey,b]
  have f:¬c.u.C (·.refKey)=true:=by rw[a];exact Ac0
  rw[FM f];exact congrArg y0 e
def fc.look (I:fc h x dx C mA):∃j,PySem.W.InstAt h x (Al5 C dx) C (y0 j)/\∀name,Ap1 name j=y0 (mA name):=
 let⟨j,a,b⟩:=Q1 I.ns
 ⟨j,⟨I.obj,rfl,rfl,a⟩,b⟩
section
variable{prog:Program}{w:World}{A:Around}{E:Value->Shared->Prop}{s:Shared}{K:Ab1}{x dx C f:Addr}{mA:Str->Option Value}{name:Str}{v:Value}
def Ff(X:K.In s.j)(I:fc s.j x dx C mA)(d:Ao3 K C name=k9)(e:PySem.W.hasDictIn K C=k9)
 (f:An4 K (.j C) name=y0 u0)(b:mA name=y0 v)(a:PySem.W.handedIn v=k9)(h:Q v {s with toks:=s.u+1}):
 wpAny (model prog w) A (getAttr (.j x) name expr) Q E s:=by
 obtain⟨g,J,c⟩:=I.look;exact PySem.W.get_value X J (Ap7 d).1 (U0 e f rfl<|by rw[c,b]) a h
def ND(X:K.In s.j)(I:fc s.j x dx C mA)(a:Ao3 K C name=k9)
 (e:An4 K (.j C) name=y0 (y0<|.j f))(g:PySem.W.isFn K (.j f)=k9)(b:mA name=u0)(h:Q (.j f,[.j x]) s):
 wpAny (model prog w) A (getMethod (.j x) name pl) Q E s:=by
 obtain⟨d,J,c⟩:=I.look;exact PySem.W.method_fn X J (Ap7 a).1 (Ap7 a).2 e (beq_iff_eq.u g) (by show(Ap1 name d).j _=y0 y9;rw[c,b];rfl) h
def My(X:K.In s.j)(I:fc s.j x dx C mA)
 (m:PySem.W.findIn K (.j C) "__setattr__"=some (some<|.u "object.__setattr__"))(l:PySem.W.plainOver K C=true)(n:PySem.W.takerIn K C name=some none)(k:PySem.W.hasDictIn K C=true)
 (q:PySem.Within mA ns)(j:ns.e<=sizeLine)
 (h:∀h',fc h' x dx C (λy=>if y=name then y0 v else mA y)->Ah4 dx s.j h'->Q () {s with heap:=h',toks:=s.u+2}):
 wpAny (model prog w) A (setAttr (.j x) name v) Q E s:=by
 obtain⟨r,J,u⟩:=I.look;refine Vo X J m<|PySem.W.osa_open X J l n λb=>?_;obtain⟨cd,p,g⟩:=VE k;refine AC<|FS<|AC<|AC<|wpAny_loadPart I.obj<|AC<|PySem.W.Looks.here (U1 X p) ?_;rw[g];refine FS<|AC<|FS<|AC<|wpAny_nsSet1 I.ns λh' c a=>?_;obtain⟨t,i,o,f,e,d⟩:=c.count<|PySem.Within.cons name v q;refine AC<|VF f (by rw[e];exact VG<|Ab4 d<|by rw[Aa9];exact Pv ‹_›) ?_;exact FS<|h _ ⟨(a.2 _<|Ne.symm I.ne).j I.obj,c,I.ne⟩ a
def Hl(X:K.In s.j)(b:PySem.W.makesIn K C=k9)
 (c:PySem.W.findIn K (.j C) "__init__"=some (some<|.j f))(e:PySem.W.typeIn K (.j f)=some (.w "function"))
 (h:codeAny (model prog w) (A.under<|.u "type.__call__" ⟨.j C::vs,kw⟩) (.call (.j f) ⟨.j (s.j.u.j+1)::vs,kw⟩) (PySem.W.InitBack (s.j.u.j+1) R)
   {s with heap:=(s.j.w Ak4).w<|Al5 C s.j.u.j}):
 codeAny (model prog w) A (.call (.j C) ⟨vs,kw⟩) R s:=by
 obtain⟨j,g,d,t,i⟩:=s;exact PySem.W.make_core (PySem.W.makes_of X b) (PySem.W.looks_findIn X c) (λa=>PySem.W.bind_fn X a e) (.u rfl) h
end
noncomputable def a0(f:Str)(v:V):List (Str×V)->List (Str×V)
|[]=>[(f,v)]
|(g,x)::r=>if g=f then(g,v)::r else(g,x)::a0 f v r
theorem zO(f g)(v):∀fs:List<|Str×V,(a0 f v fs).u g=if g=f then y0 v else fs.u g
|[]=>by
  show Aj0 g [(f,v)]=_;by_cases h:g=f
  .have a:=beq_iff_eq.w h;simp only[Aj0,a,Da h]
  .have a:=beq_eq_false_iff_ne.w h;simp only[Aj0,a,FM h]
|(k,x)::r=>by
  have c:=zO f g v r;rw[show a0 f v ((k,x)::r)=(if k=f then(k,v)::r else(k,x)::a0 f v r)from rfl];by_cases b:k=f
  .rw[Da b];by_cases h:g=k
   .have a:=beq_iff_eq.w h;simp only[Aj0,a,Da<|h.j b]
   .have a:=beq_eq_false_iff_ne.w h;simp only[Aj0,a,FM<|λe:g=f=>h<|e.j b.u]
  .rw[FM b];by_cases h:g=k
   .have a:=beq_iff_eq.w h;simp only[Aj0,a,FM<|λe:g=f=>b<|h.u.j e]
   .have a:=beq_eq_false_iff_ne.w h;simp only[Aj0,a];exact c
theorem ZJ(f)(v):∀fs:List<|Str×V,f∈(a0 f v fs).j (·.1)/\∀g,g∈fs.j (·.1)->g∈(a0 f v fs).j (·.1)
|[]=>⟨by simp[a0],λg h=>by simp at h⟩
|(k,x)::r=>by
  obtain⟨i1,i2⟩:=ZJ f v r;rw[show a0 f v ((k,x)::r)=(if k=f then(k,v)::r else(k,x)::a0 f v r)from rfl];by_cases a:k=f
  .rw[Da a];subst a;exact⟨by simp,λg h=>by simpa using h⟩
  .rw[FM a];refine⟨?_,λg h=>?_⟩
   .rw[Ab2];exact Aa3 _ i1
   .rw[Ab2]at h⊢;rcases Ab5.u h with e|e
    .exact Ab5.w<|.u e
    .exact Aa3 _<|i2 g e
theorem ZN(f)(v):∀fs:List<|Str×V,(a0 f v fs).e<=fs.e+1
|[]=>by simp[a0]
|(k,x)::r=>by
  have b:=ZN f v r;rw[show a0 f v ((k,x)::r)=(if k=f then(k,v)::r else(k,x)::a0 f v r)from rfl];by_cases a:k=f
  .rw[Da a,Aa9,Aa9];exact Af1 _
  .rw[FM a,Aa9,Aa9];exact Pv ‹_›
def b8.some_of (r:b8 (y0 v) o):∃u,o=y0 u/\RelV v u:=by
 cases o with
|none=>exact(r).j
|some u=>exact⟨u,rfl,r⟩
def b8.none_of (r:b8 u0 o):o=none:=by
 cases o with
|none=>rfl
|some u=>exact(r).j
def Q6(r:RelV v u):PySem.W.handedIn u=true:=by
 cases v with
|int i=>obtain⟨t,e⟩:=(r);cases e;rfl
|str x=>obtain⟨t,e⟩:=(r);cases e;rfl
|_=>cases(r);rfl
section
variable{P:Program}{w:World}{H H':Hp}{h h':Heap}{a C dx:Addr}{fs fs':List<|Str×V}
def ZV(b:dh P w H h)(e:H a=y0 (.u C dx fs)):∃mA,fc h a dx C mA/\(∀f,b8 (fs.u f)<|mA f)/\PySem.Within mA (fs.j (·.1))/\fs.e<=1000/\H dx=y0 (.j a):=by obtain⟨d,z,ne,c,mA,n,r,q⟩:=(show aS P w H h a (.u C dx fs)from b a _ e);exact⟨mA,⟨c,n,ne⟩,r,q,z,d⟩
end
structure dy(K:Ab1)(C:Addr):Prop where
 pg:Ao3 K C Str.empty=k9
 hd:PySem.W.hasDictIn K C=k9
 po:PySem.W.plainOver K C=k9
 sa:PySem.W.findIn K (.j C) "__setattr__"=some (some<|.u "object.__setattr__")
def dy.get {K:Ab1}(c:dy K C)(f):Ao3 K C f=true:=c.pg
def cu(K:Ab1)(C:Addr)(f:Str):Prop:=An4 K (.j C) f=y0 u0
def cu.mQ {K:Ab1}(n:cu K C f):PySem.W.takerIn K C f=y0 none:=by unfold PySem.W.takerIn;rw[show An4 K _ f=y0 u0 from n];rfl
structure oV(K:Ab1)(C:Addr)(m:Str)(f:Addr):Prop where
 at_:An4 K (.j C) m=y0 (y0<|.j f)
 fn:PySem.W.isFn K (.j f)=k9
 kp:Ak8 K (.j f)=k9
section
variable{X:Cx}{pins:List<|Addr×Obj}{U:St}{H:Hp}{s:Shared}{a C dx:Addr}{fs:List<|Str×V}{f:Str}{v:V}{A:Around}{E:Value->Shared->Prop}
def LW(I:Inv X pins U H s)(e:H a=y0 (.u C dx fs))(c:dy X.K C)(n:cu X.K C f)(l:fs.u f=y0 v)
 (h:∀u s',Inv X pins U H s'->RelV v u->Q u s'):wpAny (model X.u X.w) A (getAttr (.j a) f b) Q E s:=by
 obtain⟨i,O,r,_,_,_⟩:=ZV I.I e;obtain⟨u,g,d⟩:=b8.some_of (by rw[←l];exact r f);exact Ff I.bQ O (c.get f) c.hd n g (Q6 d)<|h u _ (I.tok _) d
def Rw(I:Inv X pins U H s)(e:H a=y0 (.u C dx fs))(c:dy X.K C)(k:oV X.K C m g)(l:fs.u m=u0)
 (h:Q (.j g,[.j a]) s):wpAny (model X.u X.w) A (getMethod (.j a) m pl) Q E s:=by
 obtain⟨d,O,r,_,_,_⟩:=ZV I.I e;have b:=b8.none_of (by rw[←l];exact r m);exact ND I.bQ O (c.get m) k.at_ k.fn b h
def LP(I:Inv X pins U H s)(e:H a=y0 (.u C dx fs))(c:dy X.K C)(n:cu X.K C f)(B:fs.e<1000)(x:RelV y u)
 (h:∀s',Inv X pins U (aH H a<|.u C dx<|a0 f y fs) s'->Q () s'):wpAny (model X.u X.w) A (setAttr (.j a) f u) Q E s:=by
 obtain⟨v,O,r,i,_,j⟩:=ZV I.I e;refine My I.bQ O c.sa c.po n.mQ c.hd i (by rw[Aa,Tf];exact Y8) λp d w=>h _ ?_;have l:∃o,p.j dx=y0 o:=let⟨o,_,_,k,_⟩:=d.ns;⟨o,k⟩;refine I.write (by rw[e];exact True.intro) (.w j) (λb q m z=>(w.2 b m).j z) l ?_;refine⟨by rw[Za O.ne];exact j,?_,O.ne,d.obj,_,d.ns,λg=>?_,λg t=>?_⟩
 .have:=ZN f y fs;exact Ab4 ‹_› ‹_›
 .show b8 _ _;rw[zO];by_cases q:g=f
  .rwa [Da q,Da q]
  .rw[FM q,FM q];exact r g
 .by_cases q:g=f
  .rw[q];exact(ZJ f y fs).1
  .refine(ZJ f y fs).2 g<|i g λz=>t ?_;show(if g=f then y0 u else v g)=u0
   rwa [FM q]
def Inv.made (I:Inv X pins U H s):Inv X pins U (aH (aH H s.j.u.j<|.j<|s.j.u.j+1) (s.j.u.j+1)<|.u C s.j.u.j [])
 {s with heap:=(s.j.w Ak4).w<|Al5 C s.j.u.j}:=by
 have e1:(s.j.w Ak4).j s.j.u.j=y0 Ak4:=Ac4 s.j rfl;have e2:=by
  have:=Ac4 (s.j.w Ak4) (o:=Al5 C s.j.u.j) rfl
  rwa [Ak0]at this
 refine(I.laid (o:=.j<|s.j.u.j+1) (t':=s.u) (λb u q=>Aa8 _ q) (Ab0 _) ⟨_,e1⟩).laid (λb u q=>Aa8 _ q) (An<|Ak0 _ _) ?_;have ne:s.j.u.j≠s.j.u.j+1:=Ac1<|Af5 _;refine⟨by rw[Za ne,Zb],Ag0 _,ne,e2,λ_=>u0,(Vp<|⟨Ak4,#[],_,e1,rfl,(λe a=>absurd a Y7),λ_=>rfl⟩).at λo q=>Aa8 _ q,λ_=>True.intro,λy c=>absurd rfl c⟩
def vK(a:attributeBase e f env (eval e env)=eval e env)
 (h:wpAny (model prog w) A (eval e env) (λo j=>wpAny (model prog w) A (getAttr o f k9) Q E j) E s):wpAny (model prog w) A (eval (.u e f pos) env) Q E s:=
 Attribute_any_ h<|by rw[arm_eval_Attribute,a]
end
def RE(K:Ab1)(b:TE)(f:Str):TE:=λU H Q=>b U H λx H1=>∃a C dx fs v,x=.j a/\H1 a=y0 (.u C dx fs)/\dy K C/\cu K C f/\fs.u f=y0 v/\Q v H1
def ML(K:Ab1)(c b:TE)(f:Str):TS:=λD U H=>b U H λy H1=>c U H1 λx H2=>∃a C dx fs,x=.j a/\H2 a=y0 (.u C dx fs)/\dy K C/\cu K C f/\fs.e<1000∧
 D.nx U (aH H2 a<|.u C dx<|a0 f y fs)
section
variable{X:Cx}{o e value:Expr}{f:Str}{pos pos' tpos:Pos}{ta tv:TE}
def HC(g:PE X e ta)(j:attributeBase e f X.j (eval e X.j)=eval e X.j):PE X (.u e f pos)<|RE X.K ta f:=by intro b s U H Q I h;refine vK j<|aN (g b s U H _ I h) ?_;rintro u r ⟨x,o,d,k,a,C,t,fs,v,ex,i,c,n,l,q⟩;subst ex;obtain rfl:u=Value.ref a:=k;exact LW d i c n l λw y p m=>⟨v,o,p,m,q⟩
def ud(z:PE X o ta)(i:PE X value tv)(p:swapsWith value (y0<|.u o f pos') pos.u X.j=pure y9):PS X (.j [.u o f pos'] value pos)<|ML X.K ta tv f:=by intro b s U H D I h;refine TV (aN (i b s U H _ I h) ?_) p;rintro u e⟨y,r,d,j,q⟩;refine aN (z b e U r _ d q) ?_;rintro v F⟨x,E,t,m,a,C,B,fs,ex,g,c,n,l,k⟩;subst ex;obtain rfl:v=Value.ref a:=m;exact LP t g c n l j λA w=>⟨U,_,w,k⟩
end
section
variable{X:Cx}{pins:List<|Addr×Obj}{U:St}{H:Hp}{s:Shared}{A:Around}{E:Value->Shared->Prop}{Q:Value->Shared->Prop}{c:Value}{b:Bool}
inductive ic(K:Ab1)(H:Hp):V->Value->Prop where
|au:ic K H .au<|.w "NoneType"
|bl (x:Bool):ic K H (.I x)<|.w "bool"
|int (i:Int):ic K H (.p i)<|.w "int"
|str (x:Str):ic K H (.u x)<|.w "str"
|lst {a:Addr}{xs:List V}(e:H a=y0 (.x xs)):ic K H (.j a)<|.w "list"
|eR {a:Addr}{o:Obj}{xs:List V}(e:H a=y0 (.eR o<|.x xs)):ic K H (.j a)<|.w "list"
|tup {a:Addr}{xs:List V}(e:H a=y0 (.w xs)):ic K H (.j a)<|.w "tuple"
|dK {a:Addr}{kvs:List<|Str×V}(e:H a=y0 (.dK kvs)):ic K H (.j a)<|.w "dict"
|ins {a C dx:Addr}{fs:List<|Str×V}(e:H a=some (.u C dx fs))(cl:dy K C)(ha:PySem.W.findIn K (.j C) "__class__"=some (some<|.u "object.__class__"))
  (hn:PySem.W.specialIn K (.u "object.__class__") "__get__"=some (some<|.u "getset_descriptor.__get__"))(htk:PySem.W.takesIn K (.u "object.__class__")=some true)
  (hm:PySem.W.mroIn K C (.w "object")=some true):ic K H (.j a)<|.j C
def qj(I:Inv X pins U H s)(f:RelV x u)(ty:ic X.K H x t)(e:Ap2 X.K t c=y0 b)(h:∀tk,Q (.y b) {s with toks:=tk}):
 wpAny (model X.u X.w) A (call (.u "isinstance") [u,c]) Q E s:=by
 cases ty with
|au=>cases(show u=Value.none from f);exact Ag6 PySem.W.kitx_none I.bQ True.intro e (λz=>nomatch z) h
|bl y=>cases(show u=Value.bool y from f);exact Ag6 PySem.W.kitx_bool I.bQ True.intro e (λz=>nomatch z) h
|int i=>obtain⟨t,q⟩:=(show∃t,u=Value.int i t from f);cases q;exact Ag6 PySem.W.kitx_int I.bQ True.intro e (λz=>nomatch z) h
|str y=>obtain⟨t,q⟩:=(show∃t,u=Value.str y t from f);cases q;exact Ag6 PySem.W.kitx_str I.bQ True.intro e (λz=>nomatch z) h
|@lst a j d=>cases(show u=Value.ref a from f);obtain⟨_,_,n,_,g⟩:=(show aS X.u X.w H s.j a (.x j)from I.I a _ d);exact Ag6 Aq6 I.bQ ⟨_,g,rfl⟩ e (λz=>nomatch z) h
|@eR a w j d=>cases(show u=Value.ref a from f);obtain⟨_,_,_,n,_,g⟩:=(show aS X.u X.w H s.j a (.eR w _)from I.I a _ d);exact Ag6 Aq6 I.bQ ⟨_,g,rfl⟩ e (λz=>nomatch z) h
|@tup a j d=>cases(show u=Value.ref a from f);obtain⟨_,_,_,p⟩:=(show aS X.u X.w H s.j a (.w j)from I.I a _ d);obtain⟨o,g,m,_⟩:=p;exact Ag6 Ve I.bQ ⟨o,g,m⟩ e (λz=>nomatch z) h
|@dK a l d=>cases(show u=Value.ref a from f);obtain⟨_,_,F,_,p⟩:=(show aS X.u X.w H s.j a (.dK l)from I.I a _ d);obtain⟨o,N,L,g,m,_⟩:=p;exact Ag6 PySem.W.kitx_dict I.bQ ⟨o,g,m.1⟩ e (λz=>nomatch z) h
|@ins a C G fs d r D B k v=>cases(show u=Value.ref a from f);obtain⟨M,O,_⟩:=ZV I.I d;obtain⟨K,J,_⟩:=O.look;exact Ag6 (PySem.W.kitx_own (r.get _) r.hd D B k v) I.bQ J e (λz=>nomatch z) h
end
structure ba(k:Nat)(A:Around):Prop where
 hd:4<=k->A.j=u0
 dp:A.depth+k+5<recursionLimit
 un:A.w+16*k+200<cLine
def ba.mono (r:ba k A)(h:j<=k):ba j A:=⟨λq=>r.hd<|Ab4 q h,by have:=r.dp;lia,by have:=r.un;lia⟩
theorem ba.deeper (r:ba (k+1) A)(env):ba k<|A.x env:=
 ⟨λq=>r.hd<|Ak9 q,by have:=r.dp;show A.depth+1+k+5<_;lia,by have:=r.un;show A.w+3+16*k+200<_;lia⟩
theorem ba.in1 (r:ba (k+1) A):ba k A.u:=
 ⟨λq=>r.hd<|Ak9 q,by have:=r.dp;exact Ag ‹_›,by have:=r.un;lia⟩
def Sj{A:Around}:(A.under<|.u "type.__call__" ⟨.j C::us,kw⟩).depth=A.depth+1:=by
 first|rfl|simp[guardIds]
def Sq{A:Around}:(A.under<|.u "type.__call__" ⟨.j C::us,kw⟩).w=A.w+1:=by
 first|rfl|simp[Code.isFrame]
def ba.make (r:ba (k+1) A)(C)(us)(kw):ba k<|A.under<|.u "type.__call__" ⟨.j C::us,kw⟩:=
 ⟨λq=>r.hd<|Ak9 q,by have:=r.dp;rw[Sj];lia,by have:=r.un;rw[Sq];lia⟩
theorem ba.depth (r:ba k A):A.depth<recursionLimit:=by have:=r.dp;lia
def rO:TA:=λ_ H Q=>Q [] H
def rL(a:TE)(tr:TA):TA:=λU H Q=>a U H λx H1=>tr U H1 λxs H2=>Q (x::xs) H2
section
variable{X:Cx}{e:Expr}{es:List Expr}{te:TE}{t:TA}{pos:Pos}
def ql:PA X [] rO:=λ_ _ _ _ H Q I h=>T7 ⟨[],H,I,.u,h⟩
def Ze(q:PE X e te)(d:PA X es t)(m:starEach (e::es) X.j=(y9,eval e X.j)::starEach es X.j:=by rfl):PA X (e::es)<|rL te t:=by intro b a s U H Q I h;rw[m];exact T2<|aN (q a s U H _ I h)<|by rintro u g⟨x,n,c,i,l⟩;exact aN (d b a g U n _ c l)<|by rintro r v⟨k,o,p,f,j⟩;exact⟨x::k,o,p,.j i f,j⟩
def NB(t:TA):TE:=λU H Q=>t U H λxs H1=>xs.e<=sizeLine/\∀p,H1 p=u0->Q (.j p) (aH H1 p<|.w xs)
def K7(t:TA):TE:=λU H Q=>t U H λxs H1=>xs.e<=sizeLine/\∀p,H1 p=u0->Q (.j p) (aH H1 p<|.x xs)
def Ip{x1}(h:PA X es t):PE X (.G es x1 pos)<|NB t:=by intro a s U H Q I f;refine wpAny_Tuple_spliced<|aN (h pos a s U H _ I f) λi d ⟨g,j,c,r,z,q⟩=>⟨by rw[←r.e];exact z,?_⟩;refine⟨.j d.j.u.j,aH j d.j.u.j<|.w g,c.laid (λb u e=>Aa8 _ e) (Ab0 _) ?_,rfl,q _<|c.I.fresh<|Ab0 _⟩;exact⟨z,i,r,⟨_,Ac4 _ rfl,rfl,rfl,_,rfl⟩⟩
def IQ(h:PA X es t):PE X (.List es pos)<|K7 t:=by intro a s U H Q I f;refine wpAny_List_spliced<|aN (h pos a s U H _ I f) λi d ⟨g,j,c,r,z,q⟩=>⟨by rw[←r.e];exact z,?_⟩;refine⟨.j d.j.u.j,aH j d.j.u.j<|.x g,c.laid (λb u e=>Aa8 _ e) (Ab0 _) ?_,rfl,q _<|c.I.fresh<|Ab0 _⟩;exact⟨z,i,0,r,Ac4 _ rfl⟩
end
abbrev Sp:=List V->Hp->VK->XK->Prop
abbrev ig:=List Env->Hp->Shared->XK->Value->Shared->Prop
structure dO(P:Program)(w:World)(K:Ab1)(mg:Str->Option Value)(base:Heap)(A:Around)(outer:List Env)(s:Shared)(H:Hp):Prop where
 frames:A.frames=y0 outer
 mod:Mod K mg base
 bs:∀b o,base.j b=y0 o->s.j.j b=y0 o/\H b=u0
 g7:base.u.j<=s.j.u.j
 cQ:s.j.y base outer
 ik:∀b∈cg outer,H b=u0
 aT:dh P w H s.j
 bare:AllBare s.w
def CE(a:List Env)(P:Program)(w:World)(H:Hp)(s:Shared)(Q:VK)(u:Value)(b:Shared):Prop:=
 ∃v H',b.os=s.os/\AllBare b.w/\Un (cg a) [] H H' s.j b.j/\dh P w H' b.j/\RelV v u/\Q v H'
def CR(c:ig)(a:List Env)(P:Program)(w:World)(H:Hp)(s:Shared)(Q:VK)(E:XK)(r:Result)(b:Shared):Prop:=
 match r with
|.ok (.ret u)=>CE a P w H s Q u b
|.ok _=>False
|.error e=>c a H s E e b
structure bx(P:Program)(w:World)(K:Ab1)(mg:Str->Option Value)(base:Heap)(CX:ig)(k:Nat)(f:Addr)(fd:FuncData)(ps:List Str)(sp:Sp):Prop where
 len:∀vs H Q E,sp vs H Q E->vs.e=ps.e
 run:∀(A:Around)(outer:List Env)(s:Shared)(H:Hp)(args:Args)(us:List Value)(vs:List V)(Q:VK)(E:XK),ba k A->dO P w K mg base A outer s H->BindsTo s fd args (ps.a1 us)->Vals vs us->sp vs H Q E→
  codeAny (model P w) A (.call (.j f) args) (CR CX outer P w H s Q E) s
def dO.make {K:Ab1}(e:dO P w K mg base A outer s H)(C)(a:List Value)(b:List<|Str×Value):
 dO P w K mg base (A.under<|.u "type.__call__" ⟨.j C::a,b⟩) outer s H:=⟨by first|exact e.frames|(simpa[pushEnvs]using e.frames),e.mod,e.bs,e.g7,e.cQ,e.ik,e.aT,e.bare⟩
theorem dO.in1 {K:Ab1}(e:dO P w K mg base A outer s H):
 dO P w K mg base A.u outer s H:=⟨e.frames,e.mod,e.bs,e.g7,e.cQ,e.ik,e.aT,e.bare⟩
section
variable{X:Cx}{pins:List<|Addr×Obj}{U:St}{H:Hp}{s s':Shared}
def Inv.gN (I:Inv X pins U H s):dO X.u X.w X.K X.I X.x X.A X.B s H:=
 ⟨I.j.frames,I.j.mod,I.bs,Ab4 I.j.g7 I.sz,I.stack,I.cR,I.I,I.T⟩
def Inv.after (I:Inv X pins U H s)(h:CE X.B X.u X.w H s Q u s'):EP X pins U Q u s':=by obtain⟨v,f,i,a,un,e,r,q⟩:=h;obtain⟨j,g,d,t,c⟩:=s';obtain rfl:c=s.os:=i;exact⟨v,f,I.call un e a<|λb z=>absurd z Y7,r,q⟩
end
def FW(b:Sp)(a:List V)(E:XK)(t:TA):TE:=λU H Q=>t U H λvs H1=>b (vs++a) H1 Q E
def HX(C:Addr)(m:Str)(c:Sp)(b:List V)(E:XK)(d:TE)(t:TA):TE:=λU H Q=>d U H λx H1=>∃a dx fs,x=.j a/\H1 a=y0 (.u C dx fs)/\fs.u m=u0∧
 t U H1 λvs H2=>c (x::(vs++b)) H2 Q E
def NX(C:Addr)(b:Sp)(a:List V)(E:XK)(t:TA):TE:=λU H Q=>t U H λvs H1=>∀x dx,H1 x=u0->H1 dx=u0->dx≠x→
 b (.j x::(vs++a)) (aH (aH H1 dx<|.j x) x<|.u C dx []) (λv H2=>v=.au/\Q (.j x) H2) E
def Binds(K:Ab1)(a:FuncData)(ps:List Str)(ds:List Value):Prop:=
 ∀(s:Shared)(us:List Value),K.In s.j->(us++ds).e=ps.e->BindsTo s a ⟨us,[]⟩ (ps.a1<|us++ds)
def Binds.all {K:Ab1}(h:∀us:List Value,us.e=ps.e->bindArgs fd ⟨us,[]⟩=pure (ps.a1 us)):Binds K fd ps []:=λs us _ a=>by rw[Af0]at a⊢;exact .of_eq<|h us a
def QN(a:ig)(X:Cx)(E:XK):Prop:=∀(pins:List<|Addr×Obj)(U:St)(H:Hp)(s:Shared)(e:Value)(s':Shared),Inv X pins U H s->a X.B H s E e s'->X.C e s'
section
variable{X:Cx}{CX:ig}{k:Nat}{f C:Addr}{fd:FuncData}{ps:List Str}{sp:Sp}{dvs:List V}{ds:List Value}{E:XK}{x m:Str}{p pos apos:Pos}{e o:Expr}{es:List Expr}{ta:TE}{t:TA}
def B7(F:bx X.u X.w X.K X.I X.x CX k f fd ps sp)(i:ba k X.A)(c:Binds X.K fd ps ds)(l:Vals dvs ds)(j:QN CX X E)
 (I:Inv X pins U H s)(r:Vals vs us)(h:sp (vs++dvs) H Q E):wpAny (model X.u X.w) X.A (call (.j f) us) (EP X pins U Q) X.C s:=by
 have b:=r.append l;refine Tp<|S5 (F.run X.A X.B s H ⟨us,[]⟩ (us++ds) (vs++dvs) Q E i I.gN (c s us I.bQ<|by rw[←b.e];exact F.len _ _ _ _ h) b h) λr g a=>?_;cases r with
|error e=>exact j pins U H s e g I a
|ok d=>
  cases d with
|ret u=>exact I.after a
|_=>exact False.elim a
def Hf(F:bx X.u X.w X.K X.I X.x CX k f fd ps sp)(g:ba k X.A)(n:Gl X x)(m:X.I x=y0 (.j f))(o:Ak8 X.K (.j f)=k9)(l:Binds X.K fd ps ds)(j:Vals dvs ds)(u:QN CX X E)
 (v:PA X (e::es) t)(b:(x==("__debug__":Str))=false:=by decide)(i:starEach (e::es) X.j=(false,eval e X.j)::starEach es X.j:=by rfl)(c:(backTo pos<|starEach es X.j).C (·.1)=false:=by rfl):
 PE X (.y (.j x p) (e::es) [] pos)<|FW sp dvs E t:=λa s U H Q I h=>S3<|wK I n m (Aq2 I.j.mod.kI o (aN (v pos a s U H _ I h)<|by rintro z w⟨y,A,d,r,q⟩;exact⟨d.bQ,B7 F g l j u d r q⟩) i c) b
def RS(w:PE X o ta)(c:dy X.K C)(n:oV X.K C m f)(F:bx X.u X.w X.K X.I X.x CX k f fd ps sp)(v:ba k X.A)(B:Binds X.K fd ps ds)(y:Vals dvs ds)(J:QN CX X E)(N:PA X (e::es) t)
 (d:starEach (e::es) X.j=(y9,eval e X.j)::starEach es X.j:=by rfl)(g:(backTo pos<|starEach es X.j).C (·.1)=false:=by rfl)
 (K:eval (.y (.u o m apos) (e::es) [] pos) X.j=(do
   let L←eval o X.j
   standAt apos.atName
   let(f,first)←holding [L]<|getMethod L m pl
   callWith pos f first (backTo pos<|starEach (e::es) X.j)<|backToKw pos<|keywordEach [] X.j):=by rfl):
 PE X (.y (.u o m apos) (e::es) [] pos)<|HX C m sp dvs E ta t:=by
 intro b s U H Q I h;refine PySem.W.methodCall_KW (aN (w b s U H _ I h) ?_) K;rintro u z⟨x,M,i,G,a,O,fs,ex,A,l,q⟩;subst ex;obtain rfl:u=Value.ref a:=G;exact Rw i A c n l<|Aq2 I.j.mod.kI n.kp (aN (N pos b z U M _ i q)<|by rintro P S⟨j,R,p,r,D⟩;exact⟨p.bQ,B7 (vs:=.j a::j) F v B y J p (.j rfl r) D⟩) d g
structure Mk(K:Ab1)(C f:Addr):Prop where
 makes:PySem.W.makesIn K C=k9
 init:PySem.W.findIn K (.j C) "__init__"=some (some<|.j f)
 fn:PySem.W.isFn K (.j f)=k9
 kp:Ak8 K (.j C)=k9
def ES(M:Mk X.K C f)(F:bx X.u X.w X.K X.I X.x CX k f fd ps sp)(g:ba (k+1) X.A)(l:Binds X.K fd ps ds)(i:Vals dvs ds)
 (n:QN CX X E)(I:Inv X pins U H s)(r:Vals vs us)
 (h:∀x dx,H x=u0->H dx=u0->dx≠x->sp (.j x::(vs++dvs)) (aH (aH H dx<|.j x) x<|.u C dx []) (λv H2=>v=.au/\Q (.j x) H2) E):
 wpAny (model X.u X.w) X.A (call (.j C) us) (EP X pins U Q) X.C s:=by
 have d:=h _ s.j.u.j (I.I.fresh<|Af1 _) (I.I.fresh<|Ab0 _)<|Ac1<|Af5 _;have b:=Inv.made (C:=C) I;have c:Vals (V.ref (s.j.u.j+1)::(vs++dvs)) _:=.j rfl<|r.append i;have t:=by have e:=c.e;rw[F.len _ _ _ _ d]at e;exact e.u
 refine Tp<|Hl I.bQ M.makes M.init (beq_iff_eq.u M.fn)<|S5 (F.run _ X.B _ _ ⟨Value.ref _::us,[]⟩ _ _ _ E (g.make C us [])
  (b.gN.make C us []) (l _ _ b.bQ t) c d) λr q a=>?_
 cases r with
|error e=>exact n pins U _ _ e q b a
|ok p=>
  cases p with
|ret u=>obtain⟨v,m,w,rv,j,o⟩:=b.after a;subst j;exact⟨rv,⟨V.ref _,m,w,rfl,o⟩⟩
|_=>exact False.elim a
def KU(M:Mk X.K C f)(F:bx X.u X.w X.K X.I X.x CX k f fd ps sp)(g:ba (k+1) X.A)(n:Gl X x)(m:X.I x=y0 (.j C))(l:Binds X.K fd ps ds)(j:Vals dvs ds)(o:QN CX X E)
 (u:PA X (e::es) t)(b:(x==("__debug__":Str))=false:=by decide)(i:starEach (e::es) X.j=(false,eval e X.j)::starEach es X.j:=by rfl)(c:(backTo pos<|starEach es X.j).C (·.1)=false:=by rfl):
 PE X (.y (.j x p) (e::es) [] pos)<|NX C sp dvs E t:=λa s U H Q I h=>S3<|wK I n m (Aq2 I.j.mod.kI M.kp (aN (u pos a s U H _ I h)<|by rintro y v⟨w,z,d,r,q⟩;exact⟨d.bQ,ES M F g l j o d r q⟩) i c) b
end
def PK(X:Cx)(a:List Keyword)(t:TA):Prop:=
 ∀(pos:Pos)(pins:List<|Addr×Obj)(s:Shared)(U:St)(H:Hp)(Q:List V->Hp->Prop),Inv X pins U H s->t U H Q->wpAny (model X.u X.w) X.A (evalAll ((backToKw pos<|keywordEach a X.j).j (·.2))) (AP X pins U Q) X.C s
section
variable{X:Cx}{CX:ig}{k:Nat}{f C:Addr}{fd:FuncData}{ps ks:List Str}{sp:Sp}{E:XK}{x m:Str}{p pos apos kpos:Pos}{e o:Expr}{es:List Expr}{kws:List Keyword}{te ta:TE}{t tk:TA}{nm:Option Str}
def DT:PK X [] rO:=λ_ _ _ _ H Q I h=>wpAny_evalAll_nil ⟨[],H,I,.u,h⟩
def N1(p:PE X e te)(d:PK X kws t):PK X (⟨nm,e,kpos⟩::kws)<|rL te t:=λb a s U H Q I h=>wpAny_evalAll_cons<|AC<|aN (p a s U H _ I h)<|by rintro u g⟨x,m,c,i,l⟩;exact AC<|Tj<|FS<|aN (d b a g U m _ c l)<|by rintro q r⟨k,n,o,f,j⟩;exact⟨x::k,n,o,.j i f,j⟩
variable{g:List Value->List Value->List Value}{gV:List V->List V->List V}
end
structure qE(N P:List Str)(sc:Scope):Prop where
 kind:sc.u=.j
 co:sc.isCoroutine=y9
 gen:sc.isGenerator=y9
 nd:N.M
 pre:N.A P.e=P
 par:∀x∈P,sc.j.u x=y0 .local\/sc.j.u x=y0 .u
 kM:∀y∈sc.j,y.2≠.y
theorem J4{a:Str->Option NameKind}:∀{j}{m},(∀v,(x,v)∉j)->bindL a j m x=m x
|[],_,_=>rfl
|(n,v)::r,m,h=>by
  unfold bindL;rw[J4 λw b=>h w<|Aa3 _ b];split
  .have:x≠n:=by rintro rfl;exact h v Aa4
   simp[this]
  .rfl
theorem J5{a:Str->Option NameKind}:∀{j}{m},(∀v,(x,v)∉j)->bindC a j m x=m x
|[],_,_=>rfl
|(n,v)::r,m,h=>by
  unfold bindC;rw[J5 λw b=>h w<|Aa3 _ b];split
  .rfl
  .have:x≠n:=by rintro rfl;exact h v Aa4
   simp[this]
theorem Q3{a:Str->Option NameKind}:∀{P:List Str}{vs}{i:Nat}{m},P.M->P[i]?=y0 x->vs[i]?=y0 v->a x=y0 .local→
 bindL a (P.a1 vs) m x=y0 v
|[],_,_,_,_,h,_,_=>by simp at h
|_::_,[],_,_,_,_,h,_=>by simp at h
|p::P,w::vs,0,m,nd,c,b,d=>by simp at c b;subst c;subst b;show bindL a ((p,w)::P.a1 vs) m p=_;unfold bindL;rw[J4 λv e=>(Ah2.u nd).1 (Uo e).1,Da d];simp
|p::P,w::vs,i+1,m,nd,c,b,d=>by unfold bindL;exact Q3 (Ah2.u nd).2 (by simpa using c) (by simpa using b) d
theorem X7{a:Str->Option NameKind}:∀{P:List Str}{vs}{i:Nat}{m},P.M->P[i]?=y0 x->vs[i]?=y0 v->a x≠y0 .local→
 bindC a (P.a1 vs) m x=y0 v
|[],_,_,_,_,h,_,_=>by simp at h
|_::_,[],_,_,_,_,h,_=>by simp at h
|p::P,w::vs,0,m,nd,c,b,d=>by simp at c b;subst c;subst b;show bindC a ((p,w)::P.a1 vs) m p=_;unfold bindC;rw[J5 λv e=>(Ah2.u nd).1 (Uo e).1,FM d];simp
|p::P,w::vs,i+1,m,nd,c,b,d=>by unfold bindC;exact X7 (Ah2.u nd).2 (by simpa using c) (by simpa using b) d
noncomputable def start(N:List Str)(vs:List V):St:=vs.j y0++Aa7 (N.e-vs.e) u0
noncomputable def eW(CX:ig)(P:Program)(w:World)(K:Ab1)(mg:Str->Option Value)(base:Heap)(N:List Str)(k7:Str)(scope:Scope)(f:Addr)(cd:Value)(A:Around)(outer:List Env)(s:Shared)(H:Hp)(E:XK):Cx where
 prog:=P
 w:=w
 K:=K
 mg:=mg
 base:=base
 A:=A.x<|envOfC k7 scope s.j.u.j f cd
 N:=N
 s₀:=s
 H₀:=H
 env:=envOfC k7 scope s.j.u.j f cd
 outer:=outer
 stack:=envOfC k7 scope s.j.u.j f cd::outer
 ex:=[]
 calm:=A.j.x
 fn:=λ_=>k9
 pn:=[]
 xe:=λe s'=>wpAny (model P w) (A.x<|envOfC k7 scope s.j.u.j f cd) (leaving (envOfC k7 scope s.j.u.j f cd) e) (λ_ s''=>CX outer H s E e s'') (λe' s''=>CX outer H s E e' s'') s'
def yp{sc:Scope}(h:sc.j.u x=y0 .u):∃c,(cellsFrom n sc.j []).u x=y0 c:=by exact Aj2.u<|Ao5 sc.j n []<|.u h
def Ly{K:Ab1}
 (S:qE N ps scope)(e0:dO P w K mg base A outer s H)(hl:vs.e=ps.e)(r:Vals vs us)
 (x:InCallC s s.j.u.j (bindL (envOfC k7 scope s.j.u.j f cd).x (ps.a1 us) λ_=>u0) (cellsFrom (s.j.u.j+1) scope.j []) (bindC (envOfC k7 scope s.j.u.j f cd).x (ps.a1 us) λ_=>u0) s1):
 Inv (eW CX P w K mg base N k7 scope f cd A outer s H E) [] (start N vs) H s1:=by
 have hpl:ps.e<=N.e:=by have:=congrArg List.length S.pre;rw[Ad2]at this;lia
 obtain⟨h1,tk,rfl,hk⟩:=x.done;have noA:∀b:Addr,b∉(eW CX P w K mg base N k7 scope f cd A outer s H E).ex:=λb z=>absurd (show b∈[]from z) Y7;refine⟨⟨e0.mod,S.kind,rfl,rfl,Ab0 _,λy z c h1 h2=>?_,λy hy=>?_,λy c _ h=>?_,Ai5.u,Around.frames_deeper e0.frames,.w ⟨rfl,rfl⟩,λb z=>absurd z<|noA b,e0.bs,e0.g7,λb _ _=>noA b,λb z=>absurd z<|noA b,e0.cQ,e0.ik⟩,
  rfl,e0.bare,Un.kept hk,⟨_,x.toInCall.ns,λi y v h1 h2 h3=>?_⟩,λy c h=>⟨_,x.cell y c h⟩,e0.aT.fresh<|Ab0 _,λy c h=>?_,λp hp=>absurd (show p∈[]from hp) Y7,e0.aT.kept hk,?_⟩
 .exact name_of_addr x.apart (SB h1)<|SB h2
 .have hy:=hy;obtain hy|hy:=hy
  .exact yp hy
  .exact absurd rfl<|S.kM _<|SB hy
 .exact Ag<|x.above y c<|SB h
 .have hi:i<vs.e:=by
   unfold start at h2;by_cases hi:i<vs.e
   .exact hi
   .rw[Ae3<|by simpa using hi]at h2;rw[Aj7]at h2;split at h2<;>cases h2
  obtain⟨u,hu,rv⟩:=r.get<|by
    unfold start at h2;rw[Ac2<|by simpa using hi,Ab9]at h2;cases e:vs[i]? with
|none=>rw[e]at h2;cases h2
|some a=>rw[e]at h2;cases h2;rfl
  have hp:ps[i]?=y0 y:=by
   rwa [←S.pre,Aj4 Y6]
  have ndP:ps.M:=by rw[←S.pre];exact S.nd.sublist<|Vq _ _
  refine⟨u,rv,?_⟩;rcases S.par y (Ac3 hp)with k|k
  .exact .u ⟨k,Q3 ndP hp hu k⟩
  .obtain⟨c,e⟩:=yp k;refine .w ⟨.u k,c,e,?_⟩;have q:=x.cell y c e
   rwa [X7 ndP hp hu<|by show scope.j.u y≠_;rw[k];decide]at q
 .exact e0.aT.fresh<|Ag<|x.above y c<|SB h
 .unfold start;show _=N.e;rw[Aa5,Aa,Af];lia
def Fz{K:Ab1}{dV kV doc pm cdv ct oc:Value}
 (lk:K.u f=y0 ⟨oc,od,.func<|PySem.W.fnOf name k7 params body scope dV kV doc pm an cdv ct,osl⟩)(hcd:PySem.W.codeIn K cdv k7=k9)(S:qE N ps scope)
 (len:∀vs H Q E,sp vs H Q E->vs.e=ps.e)
 (hbody:∀A outer s H vs Q E,ba k (A.x<|envOfC k7 scope s.j.u.j f cdv)->sp vs H Q E→
   ∃t,dj (eW CX P w K mg base N k7 scope f cdv A outer s H E) body t/\t {nx:=λ_ H'=>Q .au H',rt:=Q} (start N vs) H):
 bx P w K mg base CX (k+1) f (PySem.W.fnOf name k7 params body scope dV kV doc pm an cdv ct) ps sp:=by
 refine⟨len,λA outer s H args us vs Q E hr e0 hb r hsp=>?_⟩;have KX:=e0.mod.kI.keeps λb o e=>(e0.bs b o e).1;have hkind:∀y∈ps.a1 us,scope.j.u y.1=y0 .local\/(scope.j.u y.1=y0 .u/\((cellsFrom (s.j.u.j+1) scope.j []).u y.1).w=k9):=by
  rintro⟨n,v⟩ hy;rcases S.par n (Uo hy).1 with q|q
  .exact .u q
  .exact .w ⟨q,Ao5 _ _ _<|.u q⟩
 refine codeAny_call_function hr.depth (KX _ _ lk) rfl S.co S.gen rfl (PySem.W.codeRec_of KX hcd)<|hb _ _ _ _<|wpAny_newFunctionEnv_cells S.kind hkind λenv he s1 x=>?_;subst he;refine⟨(e0.mod.nolimit.keeps λb o e=>(e0.bs b o e).1).keeps x.toInCall.keep,codeAny_func ?_⟩;obtain⟨t,ht,hq⟩:=hbody A outer s H vs Q E (hr.deeper _) hsp;refine PP (ht [] s1 (start N vs) H _ (Ly S e0 (len _ _ _ _ hsp) r x) hq) (λfl s' hs=>?_) λe s' hs=>hs;have fin:∀{U'}{H'}{v}{u},Inv (eW CX P w K mg base N k7 scope f cdv A outer s H E) [] U' H' s'->RelV v u->Q v H'->CE outer P w H s Q u s':=
  λ{U' H' v u} J rv q=>⟨v,H',J.os,J.T,J.x,J.I,rv,q⟩
 cases fl with
|ret u=>obtain⟨v,U',H',J,rv,q⟩:=hs;exact fin J rv q
|next=>obtain⟨U',H',J,q⟩:=hs;exact fin (v:=V.au) J rfl q
|brk=>obtain⟨_,_,_,q⟩:=hs;exact False.elim q
|cont=>obtain⟨_,_,_,q⟩:=hs;exact False.elim q
section
variable{X:Cx}{x:Str}{p pos:Pos}{e:Expr}{es:List Expr}{t:TA}{id T:String}{r:List V->Hp->VK->Prop}
def r4(r:List V->Hp->VK->Prop)(t:TA):TE:=λU H Q=>t U H λvs H1=>r vs H1 Q
def QI(u:zr X (.u id) r)(m:Gl X x)(l:X.I x=none)(i:bootBuiltins x=some (.u id))(w:PA X (e::es) t)(o:x≠"__name__":=by decide)(b:(x==("__debug__":Str))=false:=by decide)
 (f:starEach (e::es) X.j=(y9,eval e X.j)::starEach es X.j:=by rfl)(c:(backTo pos<|starEach es X.j).C (·.1)=false:=by rfl):PE X (.y (.j x p) (e::es) [] pos)<|r4 r t:=λa s U H Q I h=>S3<|Qx I m l i (TX (aN (w pos a s U H _ I h)<|by rintro q g⟨k,v,d,j,n⟩;exact u a g U v k q Q d j n) f c) o b
def XB(u:zr X (.w T) r)(m:Gl X x)(l:X.I x=none)(i:bootBuiltins x=some (.w T))(w:PA X (e::es) t)(o:x≠"__name__":=by decide)(b:(x==("__debug__":Str))=false:=by decide)
 (f:starEach (e::es) X.j=(y9,eval e X.j)::starEach es X.j:=by rfl)(c:(backTo pos<|starEach es X.j).C (·.1)=false:=by rfl):PE X (.y (.j x p) (e::es) [] pos)<|r4 r t:=λa s U H Q I h=>S3<|Qx I m l i (P3 (aN (w pos a s U H _ I h)<|by rintro q g⟨k,v,d,j,n⟩;exact u a g U v k q Q d j n) f c) o b
end
end Lake
namespace HT
open PySem PyProof.Rows
section
variable{prog:Program}{w:World}{A:Around}{E:Value->Shared->Prop}{s:Shared}
def iD(u:IsTup s.j t vs.w)(r:IsTup s.j b ws.w)(l:vs≠[])
 (h1:ws=[]->Q (.j t) s)(x:ws≠[]->Q (.j s.j.u.j) {s with heap:=s.j.w {cls:=.w "tuple",data:=.j (vs++ws).w}})
 (p:vs.e+ws.e<=sizeLine):wpAny (model prog w) A (binaryOp .Add (.j t)<|.j b) Q E s:=by
 obtain⟨⟨L,dd,j,sl⟩,f,v,n,q⟩:=id u;obtain⟨⟨o,c,g,d⟩,a,k,m,h⟩:=id r;subst v q k h;have e:vs.w++ws.w=(vs++ws).w:=by simp
 by_cases i:ws=[]
 .exact Ua ⟨_,f,rfl⟩ ⟨_,a,rfl⟩ Uc UU TU TM (TJ _ _)
   (tuple_addW1 t b vs.w ws.w n m dd c sl d (by simpa using l)<|by simp[i]) ⟨f,a,h1 i⟩
 .refine Ua ⟨_,f,rfl⟩ ⟨_,a,rfl⟩ Uc UU TU TM (TJ _ _)
   (tuple_addW2 t b vs.w ws.w n m dd c sl d (by simpa using l) (by simp_all)<|by simp_all) ⟨f,a,?_⟩
  rw[e];exact x i
def a8(n d:Nat):Option Int->Nat
|none=>d
|some v=>if v<0 then(v+(n:Int)).j else min v.j n
def DR(n d)(b:d<=n)(o):a8 n d o<=n:=by
 cases o with
|none=>exact b
|some v=>
  show(if v<0 then(v+n).j else min v.j n)<=n;by_cases a:v<0
  .rw[Da a];lia
  .rw[FM a];exact Nat.min_le_right _ _
def um(v)(n d:Nat):(if v<0 then max (v+(n:Int)) 0 else min v (n:Int))=((a8 n d<|y0 v:Nat):Int):=by
 show(if v<0 then max _ 0 else min v n)=(((if v<0 then(v+(n:Int)).j else min v.j n)));by_cases a:v<0
 .simp only[Da a];lia
 .simp[FM a];lia
def NR(a b)(n:Nat):Builtin.Slice.sliceAdjust a b 1 (n:Int)=(((a8 n 0 a:Nat):Int),((a8 n n b:Nat):Int)):=by
 have c:¬(1<0):=by decide
 refine Prod.ext ?_ ?_
 .cases a with
|none=>rfl
|some v=>exact um v n 0
 .cases b with
|none=>rfl
|some v=>exact um v n n
def HK(i j:Nat):Builtin.Slice.slicePlaces (i:Int) (j:Int) 1=j-i:=by unfold Builtin.Slice.slicePlaces;have a:1>0:=Ab0 _;simp[Ye];split<;>lia
def XS(p:IsPart v o)(h:Q o s):wpAny (model prog w) A (Builtin.Slice.slicePartIndex v) Q E s:=by
 cases p with
|none=>exact slicePart_none h
|int i t=>exact slicePart_int h
def bU{a d:Option Int}{Q:Int×Int×Nat->Shared->Prop}(g:s.j.IsSliceOf sl vl vu .x)(pl:IsPart vl a)(e:IsPart vu d)
 (h:Q (((a8 n 0 a:Nat):Int),1,a8 n n d-a8 n 0 a) s):wpAny (model prog w) A (Builtin.Slice.sliceApplied (.j sl)<|pure (n:Int)) Q E s:=by
 obtain⟨i,c,f,b⟩:=id g;refine AC<|AC<|VA c b (x:=vl) rfl<|AC<|VA c b (x:=vu) rfl<|AC<|VA c b rfl<|FS<|AC<|slicePart_none ?_;refine AC<|XS pl<|AC<|XS e<|AC<|FS ?_;show wpAny _ _ (match Builtin.Slice.sliceAdjust a d 1 (n:Int)with|(a,d)=>pure (a,(1:Int),Builtin.Slice.slicePlaces a d 1)) _ _ s;rw[NR a d n];show wpAny _ _ (pure _) _ _ s;rw[HK];exact FS h
def D7(xs:Array Value)(i k:Nat):((Aa6 k).B λ(m:Nat)=>xs[((i:Int)+(m:Int)*1).j]?).w=((xs.u.G i).A k).w:=by
 have e:(λ(m:Nat)=>xs[(i+(m:Int)*1).j]?)=λm=>xs[i+m]?:=by
  funext m;have:(i+(m:Int)*1).j=i+m:=by lia
  rw[this]
 rw[e];have:=pick_run xs i k;rw[An7]at this;have e2:((λx=>xs[x]?)∘λx=>i+x)=λm=>xs[i+m]?:=rfl;rw[e2]at this;rw[this]
def cK{a c:Option Int}(d:IsTup s.j t u8)(i:s.j.IsSliceOf sl vl vu .x)(pl:IsPart vl a)(n:IsPart vu c)
 (m:¬(a8 u8.j 0 a=0/\a8 u8.j u8.j c=u8.j))
 (h:Q (.j s.j.u.j) {s with heap:=s.j.w {cls:=.w "tuple",data:=.j ((u8.u.G<|a8 u8.j 0 a).A<|a8 u8.j u8.j c-a8 u8.j 0 a).w}})
 (k:u8.j<=sizeLine):wpAny (model prog w) A (getItem (.j t)<|.j sl) Q E s:=by
 have b:=by show((u8.u.G<|a8 u8.j 0 a).A<|a8 u8.j u8.j c-a8 u8.j 0 a).w.j<=sizeLine;rw[Ac7,Ad2,Ae9,Ah1];lia
 have r:a8 u8.j u8.j c<=u8.j:=DR _ _ (Ab0 _) c;obtain⟨j,e,g,l⟩:=id i;unfold getItem
 try with_reducible refine Pi ?_
 refine AC<|Vr d.Y rfl ?_;refine AC<|TN d.Y S4
 <|S7 S4 d.Y entry_tuple_getitem ?_<|args_tuple_getitem _ _
 show wpAny _ _ (Builtin.Tuple.tupleItemsOf _>>=_) _ _ s;refine AC<|UV d<|AC<|Ud (⟨j,e,g⟩) ?_;refine AC<|bU i pl n ?_;have f:¬((((a8 u8.j 0 a:Nat):Int)==0&&(1:Int)==1&&(a8 u8.j u8.j c-a8 u8.j 0 a)==u8.j)=k9):=by intro q;rw[Aa2,Aa2]at q;have p:=eq_of_beq q.1.1;have o:=eq_of_beq q.2;exact m ⟨by lia,by lia⟩
 show wpAny _ _ (if _=k9 then _ else _) _ _ s;rw[FM f,D7]
 first
|exact AC _
|exact AC<|Ts (AC<|FS<|FS ⟨_,rfl,FS h⟩) b
|exact AC _
|exact AC _
end
end HT
namespace Lake
open Lake renaming Vals.length->Lake.Vals.e,V.int->Lake.V.p,V.ref->Lake.V.j,V.str->Lake.V.u,HO.lst->Lake.HO.x,Cx.prog->Lake.Cx.u,Inv.tuple->Lake.Inv.A,Inv.list->Lake.Inv.G,Inv.laid->Lake.Inv.L,dh.fresh->Lake.dh.Q
open PySem PySem.Spec PyProof.Rows
abbrev TO:=St->Hp->(Option Int->Hp->Prop)->Prop
def PO(X:Cx)(e:Option Expr)(t:TO):Prop:=
 ∀(pins:List<|Addr×Obj)(s:Shared)(U:St)(H:Hp)(Q:Option Int->Hp->Prop),Inv X pins U H s->t U H Q→
  wpAny (model X.u X.w) X.A (evalPart e X.env) (λu s'=>∃o H',Inv X pins U H' s'/\IsPart u o/\Q o H') X.xe s
def EA:TO:=λ_ H Q=>Q u0 H
def DJ(t:TE):TO:=λU H Q=>t U H λx H1=>∃i,x=.p i/\Q (y0 i) H1
def RY:∀{us},Vals (ns.j V.int) us->IntsAre us ns:=by
 induction ns with
|nil=>intro us r;cases r;exact .nil
|cons n ns b=>
  intro us r;cases r with
|cons a c=>obtain⟨t,e⟩:=a;subst e;exact .cons n t<|b c
section
variable{X:Cx}{e:Expr}{te:TE}{lo hi:Option Expr}{tl th:TO}{pos p2:Pos}
def vC:PO X u0 EA:=λa s U H Q I h=>FS ⟨u0,H,I,.none,h⟩
def JW(h:PE X e te):PO X (y0 e)<|DJ te:=by intro a s U H Q I g;refine aN (h a s U H _ I g) ?_;rintro u j ⟨x,f,b,c,d⟩;obtain⟨i,rfl,q⟩:=d;obtain⟨t,rfl⟩:=c;exact⟨y0 i,f,b,.int i t,q⟩
def g9(X:Cx)(r:V->Option Int->Option Int->Hp->VK->Prop):Prop:=
 ∀(pins:List<|Addr×Obj)(s:Shared)(U:St)(H:Hp)(x:V)(v a b:Value)(lo hi:Option Int)(sl:Addr)(Q:VK),Inv X pins U H s->RelV x v->s.j.IsSliceOf sl a b .x->IsPart a lo->IsPart b hi->r x lo hi H Q→
  ∃T id,typeLookup (.w T) "__getitem__"=pure (some<|.u id)/\s.TypeIs v T/\wpAny (model X.u X.w) X.A (getItem v<|.j sl) (EP X pins U Q) X.xe s
def g9.or (h:g9 X r)(h':g9 X r'):g9 X<|λx lo hi H Q=>r x lo hi H Q\/r' x lo hi H Q:=by
 intro a s U H x v b e lo hi sl Q I c d pl f q;obtain q|q:=q
 .exact h a s U H x v b e lo hi sl Q I c d pl f q
 .exact h' a s U H x v b e lo hi sl Q I c d pl f q
def Ml(r:V->Option Int->Option Int->Hp->VK->Prop)(c:TE)(b th:TO):TE:=λU H Q=>c U H λx H1=>b U H1 λl H2=>th U H2 λu a=>r x l u a Q
def QW(j:g9 X r)(k:PE X e te)(E:PO X lo tl)(t:PO X hi th):PE X (.w e (.Slice lo hi u0 p2) pos)<|Ml r te tl th:=by intro a s U H Q I h;refine Subscript_<|aN (k a s U H _ I h) ?_;rintro v m⟨x,B,i,n,w⟩;refine wpAny_Slice<|aN (E a m U B _ i w) ?_;rintro d F⟨l,C,D,pl,o⟩;refine aN (t a F U C _ D o) ?_;rintro f c⟨u,A,J,G,y⟩;refine FS ?_;obtain⟨T,id,g,z,p⟩:=j a {c with heap:=c.j.w {cls:=.w "slice",data:=.w #[d,f,.x]}} U A x v d f l u c.j.u.j Q (J.kept fun b K q=>Aa8 _ q) n (Heap.IsSliceOf.new ..) pl G y;exact tail_any z g p<|by with_unfolding_all rfl
noncomputable def mZ(xs:List V)(a b:Option Int):List V:=(xs.G<|HT.a8 xs.e 0 a).A<|HT.a8 xs.e xs.e b-HT.a8 xs.e 0 a
def zM(xs)(lo hi):(mZ xs lo hi).e<=xs.e:=by unfold mZ;rw[Ad2,Ae9];lia
def rb(K:Ab1):V->Option Int->Option Int->Hp->VK->Prop:=λx lo hi H Q=>∃a xs,x=.j a/\de K H a xs∧
 ¬(HT.a8 xs.e 0 lo=0/\HT.a8 xs.e xs.e hi=xs.e)/\∀p,H p=u0->Q (.j p) (aH H p<|.tup<|mZ xs lo hi)
def M4:g9 X<|rb X.K:=by
 rintro f s U H x v o t h j sl Q I k l pl n⟨a,e,rfl,m,u,q⟩;cases k;obtain⟨d,r,g,i⟩:=I.A m;have c:d.w.j=e.e:=by rw[Ac7];exact r.e.u
 refine⟨"tuple",_,PyProof.Rows.slot_tuple_getitem.u,g.Y,HT.cK g l pl n (by rwa [c]) ?_<|by rwa [c]⟩;rw[c];refine⟨.j s.j.u.j,_,I.L (λb p q=>Aa8 _ q) (Ab0 _) ?_,rfl,q _<|I.aT.Q<|Ab0 _⟩;exact⟨Ab4 (zM e h j) i,_,(r.drop _).take _,dW.new _ _⟩
def MR(K:Ab1):R2:=λx y H Q=>∃a b xs ys,x=.j a/\y=.j b/\de K H a xs/\de K H b ys/\xs≠[]/\xs.e+ys.e<=sizeLine∧
 (ys=[]->Q (.j a) H)/\(ys≠[]->∀p,H p=u0->Q (.j p) (aH H p<|.tup<|xs++ys))
def Vals.d3 (r:Vals xs us):us=[]↔xs=[]:=by
 cases r with
|_=>simp
def M8:cn X (binaryOp .Add)<|MR X.K:=by rintro e s U H x y v u Q I m h⟨a,b,t,B,rfl,rfl,r,i,p,k,l,j⟩;cases m;cases h;obtain⟨o,d,g,_⟩:=I.A r;obtain⟨f,c,n,_⟩:=I.A i;refine HT.iD g n (λz=>p<|d.d3.u z) (λz=>⟨.j a,H,I,rfl,l<|c.d3.u z⟩) (λz=>⟨.j s.j.u.j,_,I.L (λb A q=>Aa8 _ q) (Ab0 _) ?_,rfl,j (λw=>z<|c.d3.w w) _<|I.aT.Q<|Ab0 _⟩) (by rwa [←d.e,←c.e]);exact⟨by rw[Aa5];exact k,_,d.append c,dW.new _ _⟩
end
noncomputable def ef(n:Nat)(i:Int):Option Nat:=if 0<=i then(if i<n then y0 i.j else u0)else if-(n:Int)<=i then y0 (i+n).j else u0
def aW{a:Type}(xs:List a)(i:Int):Option a:=(ef xs.e i).u λj=>xs[j]?
def vX(h:ef n i=y0 j):seqIndex? i n=y0 j/\j<n/\-(n:Int)<=i/\i<n:=by
 unfold ef at h;by_cases b:0<=i
 .rw[Da b]at h;by_cases a:i<n
  .rw[Da a]at h;have e:=Ae0.inj h;exact⟨by rw[VB b a,e],by lia,by lia,a⟩
  .rw[FM a]at h;cases h
 .rw[FM b]at h;by_cases a:-n<=i
  .rw[Da a]at h;exact⟨by rw[Vf Y6 a,(Ae0.inj h)],by lia,a,by lia⟩
  .rw[FM a]at h;cases h
def sE(h:aW xs i=y0 v):∃j,seqIndex? i xs.e=y0 j/\xs[j]?=y0 v/\j<xs.e/\-(xs.e:Int)<=i/\i<xs.e:=by
 unfold aW at h;cases e:ef xs.e i with
|none=>rw[e]at h;cases h
|some j=>rw[e]at h;obtain⟨c,b,a,d⟩:=vX e;exact⟨j,c,h,b,a,d⟩
def ze{j:Nat}(h:xs[j]?=y0 v):aW xs (j:Int)=y0 v:=by
 have a:=(Aa0.u h).1;have e:ef xs.e j=y0 j:=by unfold ef;rw[Da<|Ar _,Da Y6];simp
 unfold aW;rwa [e]
def yS(b:Expr):Prop:=∀o i,subscripted b y9 o i=operate [o,i] (getItem o i)
def hV(X:Cx)(r:R2):Prop:=
 ∀(value a:Expr)(pins:List<|Addr×Obj)(s:Shared)(U:St)(H:Hp)(x y:V)(v u:Value)(Q:VK),Inv X pins U H s->RelV x v->RelV y u->r x y H Q→
  subscripted a y9 v u=operate [v,u] (getItem v u)->wpAny (model X.u X.w) X.A (subscriptTail value a v u) (EP X pins U Q) X.xe s
def iG(X:Cx)(id:String)(r:V->List V->Hp->VK->Prop):Prop:=
 ∀(pins:List<|Addr×Obj)(s:Shared)(U:St)(H:Hp)(x:V)(xs:List V)(v:Value)(us:List Value)(Q:VK),Inv X pins U H s->RelV x v->Vals xs us->r x xs H Q→
  wpAny (model X.u X.w) X.A (call (.u id)<|v::us) (EP X pins U Q) X.xe s
section
variable{X:Cx}{a b:Expr}{ta tb:TE}{pos:Pos}
def hV.or (h:hV X r)(h':hV X r'):hV X<|λx y H Q=>r x y H Q\/r' x y H Q:=by
 intro a b c s U H x y v u Q I e d q f;obtain q|q:=q
 .exact h a b c s U H x y v u Q I e d q f
 .exact h' a b c s U H x y v u Q I e d q f
def rr(d:hV X r)(m:PE X a ta)(f:PE X b tb)(i:yS b):PE X (.w a b pos)<|mL r ta tb:=λc s U H Q I h=>Subscript_<|pd m f I h λv u l x y j k g e q=>d a b c l U j x y v u Q k g e q<|i _ _
def zev(K:Ab1):R2:=λx y H Q=>∃p xs i v,x=.j p/\y=.p i/\bu K H p xs/\aW xs i=y0 v/\Q v H
def vc(K:Ab1):R2:=λx y H Q=>∃p xs i v,x=.j p/\y=.p i/\de K H p xs/\aW xs i=y0 v/\Q v H
def yT:R2:=λx y H Q=>∃z i c,x=.u z/\y=.p i/\z.e<=sizeLine/\aW z.j.u i=y0 c/\Q (.u ⟨#[c]⟩) H
def iw:hV X<|zev X.K:=by
 intro c g a s U H x y v u Q I C B h l;obtain⟨p,G,i,z,rfl,rfl,o,m,q⟩:=h;cases C;obtain⟨t,rfl⟩:=B;obtain⟨d,r,pl,F⟩:=I.G o;obtain⟨j,b,E,K,n,A⟩:=sE m;obtain⟨w,ew,f⟩:=r.get E;have D:=r.e;have J:=jS;have fin:EP X a U Q w s:=⟨z,H,I,f,q⟩;by_cases k:0<=i
 .have e:=by rw[VB k A]at b;exact Ae0.inj b
  exact item_listR pl.K k Y6 (by rw[e];simpa using ew) fin l
 .have e:(i+d.w.j).j=j:=by rw[Vf Y6 n]at b;rw[Ac7,←D];exact Ae0.inj b
  exact Uy pl.K.typeIs slot_list_getitem.u
   (wpAny_getItem_list_neg pl.K Y6 (by simp_all) Y6 (by rw[e];simpa using ew) ⟨rfl,fin⟩) l
def ae:hV X<|vc X.K:=by
 intro a c d s U H x y v u Q I k g h m;obtain⟨p,D,i,z,rfl,rfl,f,e,q⟩:=h;cases k;obtain⟨t,rfl⟩:=g;obtain⟨l,r,pl,C⟩:=I.A f;obtain⟨j,A,n,F,o,B⟩:=sE e;obtain⟨w,ew,b⟩:=r.get n;have E:=jS;exact Uy pl.Y slot_tuple_getitem.u
  (getItem_tuple pl Y6 Y6 (by rwa [Ac7,←r.e]) (by simpa using ew) ⟨rfl,(⟨z,H,I,b,q⟩)⟩) m
def rD:hV X yT:=by
 intro a b e s U H x y v u Q I m l h n;obtain⟨z,i,c,rfl,rfl,r,f,q⟩:=h;obtain⟨t,rfl⟩:=m;obtain⟨A,rfl⟩:=l;obtain⟨j,d,p,B,g,k⟩:=sE f;have o:z.j.u.e=z.e:=by simp[Str.length]
 rw[o]at d g k;have w:=jS;exact tail_any (T8 s z t) slot_str_getitem.u (getItem_str (by have e1:u9 (i< -(2^63:Int))=false:=IR Y6;have e2:u9 (i>=2^63)=false:=IR Y6;rw[e1,e2,UW]) (by rw[d];simpa using p) ⟨.u ⟨#[c]⟩,H,I.tok _,⟨_,rfl⟩,q⟩) n
def Lu(K:Ab1):R2:=λx y H Q=>zev K x y H Q\/vc K x y H Q\/yT x y H Q
def OH:hV X<|Lu X.K:=iw.or<|ae.or rD
def Fw(a:List Value)(n j)(u):Obj.mapSeq (·.setIfInBounds j u) {cls:=.w "list",data:=.j a.w n}={cls:=.w "list",data:=.j (a.y j u).w n}:=by simp[Obj.mapSeq]
theorem Inv.lst (I:Inv X pins U H s)(h:H p=y0 (.x xs)):
 ∃j n,Vals xs j/\s.j.j p=y0 {cls:=.w "list",data:=.j j.w n}/\xs.e<=sizeLine:=by
 obtain⟨z,j,n,r,e⟩:=I.aT p _ h;exact⟨j,n,r,e,z⟩
def Inv.la {c a:List Value}(I:Inv X pins U H s)(h:H p=y0 (.x xs))
 (i:s.j.j p=y0 {cls:=.w "list",data:=.j c.w n})(d:f {cls:=.w "list",data:=.j c.w n}={cls:=.w "list",data:=.j a.w n'})(r:Vals ys a)(j:ys.e<=sizeLine)(t):
 Inv X pins U (aH H p<|.x ys) {s with heap:=s.j.x p f,toks:=t}:=by
 have e:(s.j.x p f).j p=y0 {cls:=.w "list",data:=.j a.w n'}:=by rw[Ak5 f i<|by rw[d]<;>rfl,d]
 refine I.write (by rw[h];trivial) (.u rfl) (λb u g q=>(Am2 _ _<|Ne.symm g).j q) ⟨_,e⟩ ?_;exact⟨j,a,n',r,e⟩
def FU:V->V->V->Hp->(Hp->Prop)->Prop:=λo i v H Q=>∃p xs k j,o=.j p/\i=.p k/\H p=y0 (.x xs)/\ef xs.e k=y0 j/\Q (aH H p<|.x<|xs.y j v)
def ZY:sJ X FU:=by
 rintro f s U H o i v F A u Q I l x rv⟨p,C,k,j,rfl,rfl,g,w,q⟩;cases l;obtain⟨t,rfl⟩:=x;obtain⟨a,n,r,d,B⟩:=I.lst g;obtain⟨b,E,y,m⟩:=vX w;have z:=r.e;have D:=jS;have h:=
  I.la g d (Fw a n j u) (r.set rv j) (by simp_all) s.u
 by_cases e:0<=k
 .have c:=by rw[VB e m]at b;exact Ae0.inj b
  exact PySem.W.ki_setAt d e Y6 (by simp_all)<|by rw[c];exact⟨_,h,q⟩
 .have c:(k+a.w.j).j=j:=by rw[Vf Y6 y]at b;rw[Ac7,←z];exact Ae0.inj b
  exact PySem.W.ki_setBack d Y6 (by simp_all) Y6<|by rw[c];exact⟨_,h,q⟩
def Eo(lo hi)(n):(sliceBounds lo hi u0 n).1=((HT.a8 n 0 lo:Nat):Int)/\(sliceBounds lo hi u0 n).2.1=((HT.a8 n n hi:Nat):Int)/\(sliceBounds lo hi u0 n).2.2=1:=by
 refine⟨?_,?_,rfl⟩
 .cases lo with
|none=>simp[sliceBounds,HT.a8]
|some i=>
   simp[sliceBounds,HT.a8,Os];by_cases h:i<0
   .simp[h,Os]<;>lia
   .simp[h,TK]<;>lia
 .cases hi with
|none=>simp[sliceBounds,HT.a8]
|some i=>
   simp[sliceBounds,HT.a8,Os];by_cases h:i<0
   .simp[h,Os]<;>lia
   .simp[h,TK]<;>lia
def xY(a:List Value)(lo hi):slicePick a.w lo hi u0=((a.G<|HT.a8 a.e 0 lo).A<|HT.a8 a.e a.e hi-HT.a8 a.e 0 lo).w:=by obtain⟨c,b,d⟩:=Eo lo hi a.w.j;unfold slicePick;rw[c,b,d];simp only[sliceRange_one,pick_run,Ac7]<;>rfl
def pM(K:Ab1):V->Option Int->Option Int->Hp->VK->Prop:=λx lo hi H Q=>∃a xs,x=.j a/\bu K H a xs/\∀p,H p=u0->Q (.j p) (aH H p<|.x<|mZ xs lo hi)
def iq:g9 X<|pM X.K:=by rintro d s U H x v o t f i sl Q I j l pl n⟨a,h,rfl,m,q⟩;cases j;obtain⟨k,r,e,g⟩:=I.G m;have c:=r.e;refine⟨"list",_,slot_list_getitem.u,e.K.typeIs,wpAny_getItem_list_slice e.K l pl n .none Y7 ?_<|by simp_all⟩;rw[xY,←c];refine⟨.j s.j.u.j,_,I.L (λb p q=>Aa8 _ q) (Ab0 _) ?_,rfl,q _<|I.aT.Q<|Ab0 _⟩;exact⟨Ab4 (zM h f i) g,_,0,(r.drop _).take _,Ac4 _ rfl⟩
noncomputable def MQ:V->V->Bool
|.au,.au=>k9
|.bl a,.bl b=>a==b
|.bl a,.p b=>(if a then 1 else 0)==b
|.p a,.bl b=>a==(if b then 1 else 0)
|.p a,.p b=>a==b
|.u a,.u b=>a==b
|_,_=>y9
def pG(x:V)(xs:List V):Bool:=xs.C λy=>MQ y x
def J9:zr X (.u "len")<|fun xs H Q=>∃p ys,xs=[.j p]/\(bu X.K H p ys\/de X.K H p ys)/\Q (.p ys.e) H:=by
 rintro e s U H xs i Q I r⟨p,ys,rfl,b,q⟩;obtain⟨u,rfl,g⟩:=zP r;cases g;have h:=jS;obtain b|b:=b
 .obtain⟨d,c,pl,f⟩:=I.G b;have a:=c.e;exact Calls.call_len_list pl.K (by simp[Ac7]<;>lia) ⟨.p ys.e,H,I.tok _,⟨s.u+1,by rw[Ac7,a]⟩,q⟩
 .obtain⟨d,c,pl,f⟩:=I.A b;have a:=c.e;exact len_tuple pl (by simp[Ac7]<;>lia) ⟨.p ys.e,H,I.tok _,⟨s.u+1,by rw[Ac7,a]⟩,q⟩
def Z0:zr X (.u "len")<|fun xs H Q=>∃z,xs=[.u z]/\z.e<=sizeLine/\Q (.p z.e) H:=by rintro a s U H xs d Q I r⟨z,rfl,c,q⟩;obtain⟨u,rfl,t,rfl⟩:=zP r;have b:=jS;exact len_str Y6 ⟨.p z.e,H,I.tok _,⟨_,rfl⟩,q⟩
def W5:zr X (.w "list")<|fun xs H Q=>∃p ys,xs=[.j p]/\(bu X.K H p ys\/de X.K H p ys)/\∀l,H l=none->Q (.j l) (aH H l<|.x ys):=by
 rintro j s U H xs w Q I r⟨p,ys,rfl,g,q⟩;obtain⟨u,rfl,v⟩:=zP r;cases v;have fin:∀a,Vals ys a->ys.e<=sizeLine->∀b d,_→
  b.j s.j.u.j=some {cls:=.w "list",dict:=none,data:=.j a.w d,slots:=#[]}->EP X j U Q _ {s with heap:=b}:=fun a c i b d f e=>
  ⟨.j s.j.u.j,_,I.L f (Ab0 _)<|show aS X.u X.w _ b _ (.x ys)from⟨i,a,d,c,e⟩,rfl,q _<|I.aT.Q<|Ab0 _⟩
 obtain g|g:=g
 .obtain⟨a,c,pl,i⟩:=I.G g;have h:=c.e;obtain⟨o,m,t,n,k⟩:=pl.K;exact call_list_seq p (.u rfl) m t k (λb d f e=>fin a c i b d f e)<|by simp_all
 .obtain⟨a,c,pl,i⟩:=I.A g;have h:=c.e;obtain⟨o,m,t,n,k⟩:=pl;exact call_list_seq p (.w rfl) m t k (λb d f e=>fin a c i b d f e)<|by simp_all
def qh:zr X (.w "tuple")<|fun xs H Q=>∃p ys,xs=[.j p]/\((bu X.K H p ys/\∀l,H l=none->Q (.j l) (aH H l<|.tup ys))\/(de X.K H p ys/\Q (.j p) H)):=by
 intro a s U H xs v Q I r h;obtain⟨p,ys,rfl,h⟩:=h;obtain⟨u,rfl,n⟩:=zP r;cases n;obtain⟨f,q⟩|⟨f,q⟩:=h
 .obtain⟨c,d,pl,k⟩:=I.G f;have j:=d.e;refine call_tuple_list pl.K (λg m=>?_) (by simp_all);have i:Inv X a U H {s with heap:=g}:=I.kept m;have t:Inv X a U _ {s with heap:=g.w {cls:=.w "tuple",data:=.j c.w}}:=
   i.L (λb o e=>Aa8 _ e) (Ab0 _)<|show aS X.u X.w _ _ _ (.tup ys)from⟨k,c,d,dW.new _ _⟩
  exact⟨.j g.u.j,_,t,rfl,q _<|i.aT.Q<|Ab0 _⟩
 .obtain⟨c,d,pl,k⟩:=I.A f;exact call_tuple_same pl ⟨.j p,H,I,rfl,q⟩
def sP(K:Ab1)(T:String)(x:V)(H:Hp):Prop:=match x with
|.u _=>T="str"
|.p _=>T="int"
|.j p=>(T="list"/\∃xs,bu K H p xs)\/(T="tuple"/\∃o,K.u p=some o/\o.cls=.w "tuple"/\o.x=none)
|_=>False
def nU(I:Inv X pins U H s)(r:RelV x v)(ty:sP X.K T x H):
 s.TypeIs v T/\∀a,v=.j a->∃j,s.j.j a=y0 j/\j.x=none:=by
 cases x with
|str z=>obtain⟨t,rfl⟩:=r;cases(ty);exact⟨T8 s z t,λ_ e=>nomatch e⟩
|int i=>obtain⟨t,rfl⟩:=r;cases(ty);exact⟨VW s i t,λ_ e=>nomatch e⟩
|ref p=>
  cases r;obtain⟨rfl,k,f⟩|⟨rfl,o,d,h,b⟩:=ty
  .obtain⟨g,_,pl,_⟩:=I.G f;refine⟨pl.K.typeIs,λa e=>?_⟩;cases e;obtain⟨o,n,e,c,b,_⟩:=pl;exact⟨o,e,b⟩
  .refine⟨⟨o,I.bQ p o d,h⟩,λa e=>?_⟩;cases e;exact⟨o,I.bQ _ o d,b⟩
|_=>exact False.elim ty
def PL(K:Ab1)(T:String)(r:V->List V->Hp->VK->Prop)(a:TE):TE:=λU H Q=>a U H λx H1=>sP K T x H1/\r x [] H1 Q
abbrev A9:=V->Hp->Prop
def oQ(X:Cx)(T:String)(ty:A9):Prop:=∀(pins:List<|Addr×Obj)(s:Shared)(U:St)(H:Hp)(x:V)(v:Value),Inv X pins U H s->RelV x v->ty x H->s.TypeIs v T/\∀a,v=.j a->∃b,s.j.j a=y0 b/\b.x=u0
def BN(ty:A9)(r:V->List V->Hp->VK->Prop)(a:TE)(t:TA):TE:=λU H Q=>a U H λx H1=>ty x H1/\t U H1 λxs H2=>r x xs H2 Q
abbrev SY(K:Ab1)(T:String):=BN<|sP K T
variable{o e:Expr}{es:List Expr}{to:TE}{t:TA}{name:Str}{apos cpos:Pos}{T id:String}{r:V->List V->Hp->VK->Prop}
def HW(l:PlainAttrs T)(d:Slot T name id)(e:typeOf (.u id)=pure (.w "method_descriptor"))(k:iG X id r)(n:PE X o to)
 (b:attributeBase o name X.env (eval o X.env)=eval o X.env:=by rfl)(c:(apos.j==cpos.u)=true:=by rfl):PE X (.y (.u o name apos) [] [] cpos)<|PL X.K T r to:=by
 intro a s U H Q I h;refine wpAny_Call_method0_late b c<|aN (n a s U H _ I h) ?_;rintro v i ⟨x,p,f,g,ty,m⟩;obtain⟨j,q⟩:=nU f g ty;exact⟨T,id,l,d,e,j,q,Uz rfl<|PySem.evalArgs_none<|k a i U p x [] v [] Q f g .u m⟩
end
def Vals.one:∀{x}{us},Vals [x] us->∃u,us=[u]/\RelV x u
|_,_,.j r .u=>⟨_,rfl,r⟩
theorem Vals.rep (h:Vals xs us):∀k:Nat,Vals (Aa7 k xs).T (Aa7 k us).T
|0=>.u
|k+1=>by exact Vals.append h<|Vals.rep h k
theorem vQ(its):∀k (a:List Value),
 List.foldl (λL j=>L++j) a.w (Aa7 k its.w)=(a++(Aa7 k its).T).w
|0,a=>by simp
|k+1,a=>by
  have e:a.w++its.w=(a++its).w:=by simp
  have e2:(a++its)++(Aa7 k its).T=a++(Aa7 (k+1) its).T:=by rw[Ag1,Vs,Af6]
  rw[←e2,←vQ its k<|a++its,←e,Ag1,Am]
section
variable{X:Cx}{pins:List<|Addr×Obj}{U:St}{H:Hp}{s:Shared}{l b:Addr}{xs ys zs:List V}
def Inv.nH {b a:List Value}(I:Inv X pins U H s)(g:H l=y0 (.x xs))
 (e:s.j.j l=y0 {cls:=.w "list",data:=.j b.w n})(i:f b.w=a.w)(c:Vals ys a)(h:ys.e<=sizeLine):
 Inv X pins U (aH H l<|.x ys) {s with heap:=s.j.x l<|Obj.mapSeq f,toks:=t'}:=by
 have q:=PySem.IsL.update e f;rw[i]at q;refine I.write (by rw[g];exact trivial) (.u rfl) (λk u d j=>(Am2 s.j _<|Ne.symm d).j j) ⟨_,q⟩ ?_;exact⟨h,a,_,c,q⟩
def Inv.mK (I:Inv X pins U H s)(a:Vals ys its)(b:ys.e<=sizeLine):
 Inv X pins U (aH H s.j.u.j<|.x ys) {s with heap:=s.j.w {cls:=.w "list",data:=.j its.w},toks:=t'}:=
 I.L (λ_ _ q=>Aa8 _ q) (Ab0 _) ⟨b,its,0,a,Ac4 _ rfl⟩
theorem Inv.fresh (I:Inv X pins U H s):H s.j.u.j=none:=I.aT.Q<|Ab0 _
def Inv.kQ (I:Inv X pins U H s)(a:H l=y0 (.x xs)):xs.e<=sizeLine/\∃j n,Vals xs j/\xs.e=j.e/\s.j.j l=y0 {cls:=.w "list",data:=.j j.w n}:=by obtain⟨z,j,n,r,e⟩:=I.aT l _ a;exact⟨z,j,n,r,r.e,e⟩
def Bz(h:n<=sizeLine):Builtin.List.listTooLong n=false:=by exact IR<|Nat.not_lt.2 ‹_›
end
section
variable{X:Cx}
def P5:V->List V->Hp->VK->Prop:=λx vs H Q=>∃l xs y,x=.j l/\vs=[y]/\H l=y0 (.x xs)/\xs.e<sizeLine/\Q .au (aH H l<|.x<|xs++[y])
def ya:iG X "list.append" P5:=by rintro b s U H x g v j Q I d rv⟨l,i,y,rfl,rfl,c,h,q⟩;cases d;obtain⟨u,rfl,f⟩:=rv.one;obtain⟨z,a,n,r,k,e⟩:=I.kQ c;refine Tu Vg ⟨_,e,rfl⟩ U4 (US _ _) (Vt l a.w n u<|by simp_all) ⟨e,⟨.au,_,I.nH c e Y7 (r.append<|.j f .u) ?_,rfl,q⟩⟩;rw[Aa5,Ai6];exact Y8
def DX:V->List V->Hp->VK->Prop:=λx vs H Q=>∃l b xs zs,x=.j l/\vs=[.j b]/\H l=y0 (.x xs)/\H b=y0 (.x zs)/\xs.e+zs.e<=sizeLine/\Q .au (aH H l<|.x<|xs++zs)
def RN:iG X "list.extend" DX:=by
 rintro f s U H x p v A Q I j rv⟨l,b,w,y,rfl,rfl,g,i,t,q⟩;cases j;obtain⟨u,rfl,k⟩:=rv.one;cases k;obtain⟨z,c,n,r,B,e⟩:=I.kQ g;obtain⟨C,a,m,h,o,e2⟩:=I.kQ i;have d:c.w.j+a.w.j<=sizeLine:=by rw[Ac7,Ac7];lia
 refine Tu F.slot_list_extend ⟨_,e,rfl⟩ F.entry_list_extend (F.args_list_extend_2 _ _)
  (AutoSeq1.list_extend_list_list_0 l c.w n b a.w m (by rw[Bz d,Ai];exact Ac0) (by rw[Ac7];exact Ab4 (Tv _ _) ‹_›)<|Ak9 ‹_›) ⟨e,e2,?_⟩
 refine⟨.au,_,I.nH g e Y7 (r.append h) ?_,rfl,q⟩;rw[Aa5];exact Y8
def FY(xs:List α)(k):(Aa7 k xs).T.e=k*xs.e:=by simp
end
end Lake
namespace Att
open PySem PySem.W PySem.Calls PyProof.Rows
def qM:∀ns vs,WellAll P h vs (ns.j WData.int)->IntsAre vs ns:=by
 intro ns;induction ns with
|nil=>intro vs w;cases w;exact .nil
|cons n ns c=>
  intro vs w;cases w with
|cons a b=>cases a;exact .cons _ _<|c _ b
def PR{l:OpenLaw}(j:l.most=y0 n)
 (b:l.row.toRowW.claim.pre args=k9)(g:WellAll P h vals args):
 ∃a vs ns,vals=[Value.ref a]/\args=[WData.list (ns.j WData.int)]/\h.j a=y0 {cls:=.w "list",data:=.j vs.w}/\IntsAre vs ns/\ns.e<=n:=by
 obtain⟨d,r,rfl,i,s⟩:=hasAllW_cons<|(pre_splitW b).1;obtain rfl:=hasAllW_nil s;obtain⟨u,rfl,p⟩:=hasW_list i;obtain⟨ns,rfl⟩:=items_int p;cases g with
|cons t o=>
  cases o;cases t with
|list k c=>exact⟨_,_,ns,rfl,rfl,k,qM ns _ c,(by
    have e:=by
     have e:=(holds_andW<|(pre_splitW b).2).1
     rwa [j]at e
    have f:=condW_of e<|w_not<|w_lt w_lit<|w_len_list<|w_arg rfl;refine SC λq=>?_;have m:=‹_›
    first
|(rw[FB m]at f;exact absurd f Y5)
|(simp at f;omega))⟩
def Eb(l:OpenLaw)(args):l.row.toRowW.claim.post args (.bool k9) args=true:=
 postW_of
  (show WShape.has [] _ .bool=k9 by first|rfl|decide|simp[WShape.armsAll])
  (show(WTm.eq .res _).value [] {args:=args,res:=y0 _,after:=args}=y0 (.bool _)from w_eq_bool (w_res rfl) w_lit) rfl
def eL{l:OpenLaw}
 (D:l.most=y0 n)(m:d.params.defaults=[])
 (call:∀w L j mg V O o W cd M a vs ns,
   Ground q loose [] XP w L mg V j.j->YP w j.j→
   j.j.j O=y0 o->o.j=.func (docDef d.name d.params d.body d.scope W cd M)->j.j.CodeRec cd d.name->mg d.name=y0 (.j O)→
   j.j.j a=y0 {cls:=.w "list",data:=.j vs.w}->IntsAre vs ns->ns.e<=n->j.w=#[]→
   codeAny (model l.prog w) callerA (.call (.j O) ⟨[.j a],[]⟩) (λr s'=>r=.ok (.ret<|.y k9)/\OldK j.j s'.j/\s'.os=j.os/\AllBare s'.w) j):
 WalkO q loose XP YP l.row.toRowW d []<|λf vs=>PySem.call f vs:=by
 intro w L j mg V G Y O o W cd M J E F v k t h C u p K g s B i z;obtain rfl:J=.x:=Dflts.none t m;obtain rfl:E=.x:=Dflts.noKw t;obtain⟨a,vs,ns,rfl,rfl,e,b,c⟩:=PR D g i;refine enter_call<|S5 (call w L j mg V O o W cd M a vs ns G Y F (fd_plain v) k h e b c C) λr s' y=>?_;obtain⟨rfl,I,H,x⟩:=y;exact⟨.u ⟨.y k9,.bool k9,[],rfl,λ_=>rfl,.bool k9,Eb l _,λ_=>⟨List.Pairwise.nil,λ_ A=>(nomatch A)⟩⟩,I,H,x⟩
end Att
namespace Lake
open PySem PySem.Spec PyProof.Rows
theorem X0:∀{vs}{ns},IntsAre vs ns->Vals (ns.j V.int) vs
|_,_,.nil=>.u
|_,_,.cons n t h=>.j ⟨t,rfl⟩<|X0 h
def su(H:Hp):Prop:=∀b,H b=u0\/∃o xs,H b=y0 (.eR o<|.lst xs)
def DC{K:Ab1}
 (N:K.In s₁.j)(y:s₁.j.Ns mainGlobals mg)(c:s₁.j.Ns builtinsNs mb)(I:∀x:Str,x≠"__name__"->mb x=bootBuiltins x)(l:s₁.j.NoLimit)(Z:s₁.w=#[])
 (D:s₁.j.j a=y0 {cls:=.w "list",data:=.j vs.w})(O:IntsAre vs ns)(S:ns.e<=sizeLine)(T:ba k callerA)
 (F:∀base:Heap,K.In base->base.Ns mainGlobals mg->bx P w K mg base CX k fa fd [x] sp)(i:∀s u,BindsTo s fd ⟨[u],[]⟩ [(x,u)])
 (M:∀H:Hp,su H->bu K H a (ns.j V.int)->sp [.ref a] H (λv _=>v=.bl k9) λ_ _ _=>False)
 (L:∀H e s',CX [] H s₁ (λ_ _ _=>False) e s'->False):
 codeAny (model P w) callerA (.call (.j fa) ⟨[.j a],[]⟩) (λr s'=>r=.ok (.ret<|.y k9)/\OldK s₁.j s'.j/\s'.os=s₁.os/\AllBare s'.w) s₁:=by
 have rv:=X0 O;have g:∀H:Hp,su H->bu K H a (ns.j V.int)->dh P w H s₁.j->(∀b,H b≠u0->b=a)->(H a≠u0->K.u a=u0)→
  codeAny (model P w) callerA (.call (.j fa) ⟨[.j a],[]⟩) (λr s'=>r=.ok (.ret<|.y k9)/\OldK s₁.j s'.j/\s'.os=s₁.os/\AllBare s'.w) s₁:=by
  intro H R X n Q hK;have bF:∀{b}{o},s₁.j.j b=y0 o->H b=u0->(kG s₁.j H).j b=y0 o:=FI;have E:∀{b}{o}{C}{B},s₁.j.j b=y0 o->o.j=.x C B->H b=none:=λ{b o C B} e d=>by
   cases q:H b with
|none=>rfl
|some u=>have G:=Q b (by rw[q];simp);subst G;rw[D]at e;cases e;cases d
  have f:∀{b}{m},s₁.j.Ns b m->(kG s₁.j H).Ns b m:=λ{b m} ⟨o,C,B,e,d,r⟩=>⟨o,C,B,bF e<|E e d,d,r⟩;have j:=λb o e=>bF (N b o e)<|by
   cases q:H b with
|none=>rfl
|some u=>have G:=Q b (by rw[q];simp);subst G;rw[hK<|by rw[q];simp]at e;cases e
  have hM:Mod K mg<|kG s₁.j H:=⟨j,f y,⟨mb,f c,I⟩,let⟨mc,Y,h2⟩:=l;⟨mc,f Y,h2⟩⟩;refine S5 ((F _ j<|f y).run callerA [] s₁ H ⟨[.j a],[]⟩ [.j a] [.ref a] _ _ T (⟨rfl,hM,λb o e=>E7 e,An<|SJ _ _,trivial,λb c=>absurd (show b∈([]:List Addr)from c) Y7,n,.of_eq Z⟩) (i s₁<|.j a) (.j rfl .u)<|M H R X) λr s' h=>?_;cases r with
|error e=>exact(L H e s' h).j
|ok fl=>
   cases fl with
|ret u=>
    obtain⟨v,H',W,t,un,A,U,q⟩:=h;have q':v=.bl true:=q;subst q';obtain rfl:u=Value.bool true:=U;refine⟨rfl,OldK.of_keep λb o e=>?_,W,t⟩;cases q:H b with
 |none=>exact un.keep b o e q (λz=>absurd (show b∈([]:List Addr)from z) Y7) Y7
 |some u=>
     rcases R b with z|⟨ob,xs,z⟩
     .rw[q]at z;cases z
     .have z2:=un.c8 b ob _ z;have e1:=(n b _ z).1;rw[e]at e1;cases e1;exact(A b _ z2).1
|_=>exact False.elim h
 cases J:K.u a with
|some o=>have e:=N a o J;rw[D]at e;cases e;refine g (λ_=>u0) (λ_=>.u rfl) (.w ⟨_,vs.w,_,J,rfl,rfl,rfl,by rw[Ac7,O.e];exact S,by simpa using rv⟩) (λb u z=>by have p:(none:Option HO)=y0 u:=z;cases p) (λb z=>absurd rfl z) λz=>absurd rfl z
|none=>
  refine g (fun b=>if b=a then some (.eR {cls:=.w "list",data:=.j vs.w}<|.lst<|ns.j V.int)else none) (fun b=>?_) (.u<|.w ⟨{cls:=.w "list",data:=.j vs.w},Da rfl⟩) (fun b u z=>?_) (fun b z=>?_) fun _=>J
  .by_cases c:b=a
   .exact .w ⟨_,_,Da c⟩
   .exact .u<|FM c
  .by_cases c:b=a
   .have p:=(Da c).u.j z;cases p;subst c;exact⟨D,by rw[Aa];exact S,vs,_,rv,D⟩
   .have p:=(FM c).u.j z;cases p
  .by_cases c:b=a
   .exact c
   .exact absurd (FM c) z
def iI{l:PySem.W.OpenLaw}{K:Params->Ab1}{A:World->ig}{B:World->Sp}
 (O:l.most=y0 n)(p:n<=sizeLine)(r:d.params.defaults=[])(E:ba k callerA)
 (D:∀w h,YP w h->(K w.u).In h)
 (F:∀w mg j h,(K w.u).In h->h.Ns mainGlobals mg->mg d.name=y0 (.j j)→
   ∃fd:FuncData,(∀s u,BindsTo s fd ⟨[u],[]⟩ [(x,u)])∧
    ∀base:Heap,(K w.u).In base->base.Ns mainGlobals mg->bx l.prog w (K w.u) mg base (A w) k j fd [x] (B w))
 (y:∀w H a (ns:List Int),ns.e<=n->su H->bu (K w.u) H a (ns.j V.int)->B w [.ref a] H (λv _=>v=.bl k9) λ_ _ _=>False)
 (t:∀w H s e s',A w [] H s (λ_ _ _=>False) e s'->False):
 PySem.W.WalkO q loose XP YP l.row.toRowW d []<|λf vs=>PySem.call f vs:=by
 refine Att.eL O r λw C g mg R j o T cd J a vs ns G Y U S N m i c b M=>?_;have z:=D w _ Y;obtain⟨fd,L,Q⟩:=F w mg j _ z G.T.g m;exact DC z G.T.g G.T.b G.T.builtins G.T.nolimit M i c (Ab4 b p) E Q L (λH P I=>y w H a ns b P I) λH e s'=>t w H g e s'
noncomputable def F2(s:Stmt):Arguments:=match s with
|.FunctionDef _ a _ _ _ _ _ _ _ _=>a
|_=>{posonlyargs:=[],args:=[],vararg:=u0,kwonlyargs:=[],kw_defaults:=[],kwarg:=u0,defaults:=[]}
noncomputable def XD(s:Stmt):List Stmt:=match s with
|.FunctionDef _ _ b _ _ _ _ _ _ _=>b
|_=>[]
noncomputable def Qi(s:Stmt):Scope:=match s with
|.FunctionDef _ _ _ _ _ _ sc _ _ _=>sc
|_=>{kind:=.j,names:=[],isGenerator:=y9,isCoroutine:=y9}
abbrev oi:ig:=λ_ _ _ _ _ _=>False
abbrev E0:XK:=λ_ _ _=>False
structure kN(K:Ab1)(x k7:Str)(st:Stmt)(f:Addr)(fd:FuncData):Prop where
 ex:∃(oc:Value)(od:Option Addr)(kV doc pm:Value)(an:Option Addr)(cdv ct:Value)(osl:Array<|Option Value),
  fd=PySem.W.fnOf x k7 (F2 st) (XD st) (Qi st) .x kV doc pm an cdv ct/\K.u f=y0 ⟨oc,od,.func fd,osl⟩/\PySem.W.codeIn K cdv k7=k9
 kp:Ak8 K (.j f)=k9
def Jr(h:n<=1000):n<sizeLine:=Ai9 h Y5
section
variable{X:Cx}
def pv(i)(d:X.N[i]?=some x:=by rfl)(c:nB X.env.j x:=by first|exact Or.inl rfl|exact Or.inr<|Or.inl rfl|exact Or.inr<|Or.inr rfl)(b:(x==("__debug__":Str))=false:=by decide)
 (a:(x==("__classdict__":Str))=false:=by decide):PE X (.j x pos)<|ny i:=zC d c b a
end
def r6{A B:Prop}(h:B):if y9=k9 then A else B:=by exact h
def sS{A B:Prop}(h:A):if k9=k9 then A else B:=by exact h
end Lake
set_option maxHeartbeats 4000000
namespace Lake
open Lake renaming Vals.length->Lake.Vals.e,V.int->Lake.V.p,V.ref->Lake.V.j,V.str->Lake.V.u,Inv.ok->Lake.Inv.j,Inv.base->Lake.Inv.x,Inv.list->Lake.Inv.G,Inv.kept->Lake.Inv.M,Inv.pin->Lake.Inv.N,HO.lst->Lake.HO.x,Cx.env->Lake.Cx.j,Cx.prog->Lake.Cx.u,Cx.stack->Lake.Cx.B,Cx.calm->Lake.Cx.y,dh.fresh->Lake.dh.Q,Un.there->Lake.Un.j
open PySem PySem.Spec PyProof.Rows
noncomputable def zg(env:Env)(a:List<|Str×Addr)(y:Str×NameKind):List<|Str×Addr:=
 if y.2==.y then(match env.u.u y.1 with|some c=>(y.1,c)::a|none=>a)else a
def xW(a:Scope)(env:Env):List<|Str×Addr:=a.j.Z (zg env) []
theorem yR:∀(a:List<|Str×NameKind) j,(∀y∈a,y.2=.y->∃c,env.u.u y.1=y0 c)→
 (do
   let mut cs:=j
   for (name,kind) in a do
    if kind==.y then cs:=(name,←cellOf env name)::cs
   return cs:Sem<|List<|Str×Addr)=pure (a.Z (zg env) j)
|[],j,_=>by simp
|(n,k)::r,j,h=>by
  have f:=λcs=>yR r cs λy i=>h y<|Aa3 _ i;by_cases d:k=.y
  .subst d;obtain⟨c,b⟩:=h (n,.y) Aa4 rfl;have b:=b;have e:zg env j (n,.y)=(n,c)::j:=by show(if(NameKind.free==NameKind.free)=k9 then(match env.u.u n with|some c=>(n,c)::j|none=>j)else j)=_;rw[Da<|show(NameKind.free==NameKind.free)=k9 from rfl,b]
   rw[Am,e,←f];simp[cellOf,b]
  .have g:(k==NameKind.free)=false:=by simpa using d
   have e:zg env j (n,k)=j:=by show(if(k==NameKind.free)=k9 then _ else j)=_;rw[g,FM Ac0]
   rw[Am,e,←f];simp[d]
def XU(h:∀y∈scope.j,y.2=.y->∃c,env.u.u y.1=y0 c):closureFor scope env=pure (xW scope env):=
 yR scope.j [] h
theorem JJ:∀(a:List<|Str×NameKind) cs,(∀x c,cs.u x=y0 c->env.u.u x=y0 c)->∀x c,(a.Z (zg env) cs).u x=y0 c->env.u.u x=y0 c
|[],_,h=>h
|(n,k)::r,cs,h=>by
  refine JJ r (zg env cs (n,k)) λx c e=>?_;unfold zg at e;split at e
  .split at e
   .rename_i f d;rw[Ad]at e;cases b:x==n with
|true=>
     rw[b]at e;have:x=n:=by simpa using b
     subst this;cases e;exact d
|false=>rw[b]at e;exact h x c e
   .exact h x c e
  .exact h x c e
theorem AJ(b:env.u.u x=y0 c):∀(a:List<|Str×NameKind) cs,((x,.y)∈a\/∃j,cs.u x=y0 j)->∃j,(a.Z (zg env) cs).u x=y0 j
|[],cs,h=>h.j (λz=>absurd z Y7) id
|(n,k)::r,cs,h=>by
  refine AJ b r (zg env cs (n,k)) ?_;have grow:(∃j,cs.u x=y0 j)->∃j,(zg env cs (n,k)).u x=y0 j:=by
   rintro⟨j,e⟩;unfold zg;split
   .split
    .rw[Ad];cases x==n with
|true=>exact⟨_,rfl⟩
|false=>exact⟨j,e⟩
    .exact⟨j,e⟩
   .exact⟨j,e⟩
  rcases h with h|h
  .rcases Ab5.u h with h|h
   .cases h;refine .w ⟨c,?_⟩;show Aj0 x (if(NameKind.free==NameKind.free)=k9 then(match env.u.u x with|some c=>(x,c)::cs|none=>cs)else cs)=_;rw[Da<|show(NameKind.free==NameKind.free)=k9 from rfl,b];simp
   .exact .u h
  .exact .w<|grow h
def W0(I:Nat->Shared->Prop)
 (i:∀n s,I n s->wpAny (model prog w) A (pyNext it) (λr j=>match r with
|none=>R (.ok .next) j
|some v=>wpAny (model prog w) A (letOwnedTupleGo tg it v) (λ_ M=>wpAny (model prog w) A (assign tg env v) (λ_ V=>
    wpAny (model prog w) A (forIn ifs k9 λc r=>if r=k9 then do let ok←isTrue c env<|eval c env;pure (ForInStep.yield ok)else pure (ForInStep.yield r)) (λok L=>
     if ok=k9 then wpAny (model prog w) A (eval elt env) (λx W=>
      wpAny (model prog w) A (call (.u "list.append") [acc,x]) (fun _ O=>∃m,m<n/\I m O) (notedBy (model prog w) A env fun e s'=>R (.error e) s') W) (notedBy (model prog w) A env fun e s'=>R (.error e) s') L
     else∃m,m<n/\I m L) (notedBy (model prog w) A env λe s'=>R (.error e) s') V) (notedBy (model prog w) A env λe s'=>R (.error e) s') M) (notedBy (model prog w) A env λe s'=>R (.error e) s') j) (notedBy (model prog w) A env λe s'=>R (.error e) s') s)
 (n)(h:I n s):codeAny (model prog w) A (.compLoop (.A elt [⟨tg,iter,ifs,0⟩] scope pos) 0 it acc env) R s:=by
 refine codeAny_loop rfl I (λn s o=>wpAny_noted ?_) n h;rw[compTurn_list];refine AC<|Tj<|AC<|PP (i n s o) (λr j d=>?_) λ_ _ a=>a;cases r with
|none=>exact FS d
|some v=>
  refine AC<|PP d (λ_ M f=>AC<|PP f (λ_ V g=>AC<|PP g (λok L b=>?_) λ_ _ a=>a) λ_ _ a=>a) λ_ _ a=>a;cases ok with
|false=>exact FS ⟨rfl,b⟩
|true=>exact AC<|AC<|PP b (λx W k=>AC<|PP k (λ_ O l=>FS<|FS ⟨rfl,l⟩) λ_ _ a=>a) λ_ _ a=>a
theorem tG:∀j n L,(x,NameKind.cell)∉j->(cellsFrom n j L).u x=L.u x
|[],_,_,_=>rfl
|(y,k)::r,n,L,h=>by
  unfold cellsFrom;split
  .rename_i a;have a:=by simpa using a
   subst a;rw[tG r (n+1) _ λz=>h<|Aa3 _ z,Ad];cases b:x==y with
|true=>
    have:x=y:=by simpa using b
    subst this;exact absurd Aa4 h
|false=>rfl
  .exact tG r n L λz=>h<|Aa3 _ z
theorem tq:∀j (h:Heap) L M,(L.u x=y0 c->M\/(h.A c u0/\(x,NameKind.cell)∈j\/h.A c u0/\M))->∀lo,lo<=h.u.j→
 (cellsFrom h.u.j j L).u x=y0 c->L.u x=y0 c\/(lo<=c/\(x,NameKind.cell)∈j/\(pushCells h j).A c u0)
|[],_,_,_,_,_,_,e=>.u e
|(y,k)::r,h,L,M,m,lo,d,e=>by
  unfold cellsFrom at e;unfold pushCells;split at e
  .rename_i a;rw[Da a];have a:=by simpa using a
   subst a;have e:(cellsFrom (h.w {cls:=.w "cell",data:=.u none}).u.j r<|(y,h.u.j)::L).u x=some c:=by rw[Ak0];exact e
   rcases tq r (h.w {cls:=.w "cell",data:=.u none}) _ True (fun _=>.u trivial) lo (by rw[Ak0];exact Ak9 ‹_›) e with q|⟨g,f,l⟩
   .rw[Ad]at q;cases i:x==y with
|true=>
     rw[i]at q;have:x=y:=by simpa using i
     subst this;cases q;exact .w ⟨d,List.mem_cons_self,(show(h.w {cls:=.w "cell",data:=.u none}).A h.u.j none from⟨_,Ac4 _ rfl,rfl⟩).keeps fun b o e=>Up r _ b o e⟩
|false=>rw[i]at q;exact .u q
   .exact .w ⟨g,Aa3 _ f,l⟩
  .rename_i a;rw[FM a];rcases tq r h L True (λ_=>.u trivial) lo d e with q|⟨g,f,l⟩
   .exact .u q
   .exact .w ⟨g,Aa3 _ f,l⟩
theorem tE:∀(L)(n)(j),(∀x c,j.u x=y0 c->c<n)->(∀x y c,j.u x=y0 c->j.u y=y0 c->x=y)→
 ∀x y c,(cellsFrom n L j).u x=y0 c->(cellsFrom n L j).u y=y0 c->x=y
|[],_,_,_,a=>a
|(z,k)::r,n,j,b,a=>by
  unfold cellsFrom;split
  .have look:∀x c,((z,n)::j).u x=y0 c->(x=z/\c=n)\/(j.u x=y0 c):=λx c e=>by
    rw[Ad]at e;cases d:x==z with
|true=>rw[d]at e;cases e;exact .u ⟨by simpa using d,rfl⟩
|false=>rw[d]at e;exact .w e
   refine tE r (n+1) _ (λx c e=>?_) λx y c e1 e2=>?_
   .rcases look x c e with⟨_,q⟩|q
    .exact q▸Af5 n
    .exact Am6<|b x c q
   .rcases look x c e1 with⟨f,i⟩|p<;>rcases look y c e2 with⟨h,g⟩|q
    .rw[f,h]
    .exact absurd (i▸b y c q)<|Aj8 _
    .exact absurd (g▸b x c p)<|Aj8 _
    .exact a x y c p q
  .exact tE r n j b a
theorem xS:∀(a:List<|Str×NameKind) cs,(a.Z (zg env) cs).u x=y0 c->cs.u x=y0 c\/(x,NameKind.free)∈a
|[],_,h=>.u h
|(y,k)::r,cs,h=>by
  rcases xS r _ h with q|q
  .unfold zg at q;split at q
   .rename_i b;have b:=by simpa using b
    subst b;split at q
    .rw[Ad]at q;cases d:x==y with
|true=>
      have:x=y:=by simpa using d
      subst this;exact .w Aa4
|false=>rw[d]at q;exact .u q
    .exact .u q
   .exact .u q
  .exact .w<|Aa3 _ q
noncomputable abbrev kP(env:Env)(l:List<|Str×NameKind):=l.j λ(n,k)=>if(k==NameKind.free&&env.j.u==ScopeKind.function&&env.x n==y0 NameKind.cell)then(n,NameKind.cell)else(n,k)
theorem rl{env:Env}{x}:∀l,(kP env l).u x=(l.u x).j λk=>if(k==NameKind.free&&env.j.u==ScopeKind.function&&env.x x==y0 NameKind.cell)then .u else k
|[]=>rfl
|(n,k)::r=>by
  have b:=@rl env x r;rw[kP,Ab2];by_cases q:(k==NameKind.free&&env.j.u==ScopeKind.function&&env.x n==y0 NameKind.cell)=k9
  .simp only[q,Os,Ad];cases a:x==n with
|true=>cases eq_of_beq a;simp only[Al7,q,Os]
|false=>exact b
  .simp only[q,Ao1,TK,Ad];cases a:x==n with
|true=>cases eq_of_beq a;simp only[Al7,q,Ao1,TK]
|false=>exact b
def OQ{env:Env}{names x}(h:(kP env names).u x=y0 .u\/(kP env names).u x=y0 .y):(x,.y)∈names\/(x,.u)∈names:=by
 rw[rl]at h;cases q:names.u x with
|none=>simp[q]at h
|some k=>have:=SB q;rw[q]at h;cases k<;>simp_all
theorem yf:∀{a:List<|Str×NameKind}{x}{k L},(a.j Prod.fst).M->(x,k)∈a->(x,L)∈a->k=L
|(y,j)::r,x,k,L,nd,c,b=>by
  rw[Ab2,Ah2]at nd;rcases Ab5.u c with e1|e1<;>rcases Ab5.u b with e2|e2
  .cases e1;cases e2;rfl
  .cases e1;exact absurd (Ab7.w ⟨_,e2,rfl⟩) nd.1
  .cases e2;exact absurd (Ab7.w ⟨_,e1,rfl⟩) nd.1
  .exact yf nd.2 e1 e2
theorem sf:∀{a:List<|Str×NameKind}{x}{k},(a.j Prod.fst).M->(x,k)∈a->a.u x=y0 k
|(y,j)::r,x,k,nd,h=>by
  rw[Ab2,Ah2]at nd;rw[Ad];rcases Ab5.u h with e|e
  .cases e;simp
  .have:(x==y)=false:=by
    cases b:x==y with
|false=>rfl
|true=>
     have:x=y:=by simpa using b
     subst this;exact absurd (Ab7.w ⟨_,e,rfl⟩) nd.1
   rw[this];exact sf nd.2 e
def iV(a:Scope)(C:Addr)(env:Env):List<|Str×Addr:=cellsFrom (C+1) a.j<|xW a env
def xD
 (d:Q (newEnv scope s.j.u.j globals (cellsFrom (s.j.u.j+1) scope.j cl) k7 u0 .x (y0 env) builtinsNs) {s with heap:=pushCells (s.j.w {cls:=.w "dict",data:=.x #[]}) scope.j}):
 wpAny M A (newFunctionEnv scope globals cl [] k7 u0 .x<|y0 env) Q E s:=by
 simp only[newFunctionEnv,Option.isSome_some,Os];refine AC<|VC ?_;refine AC<|wpAny_layCells _ (λname a b=>by cases c:a==NameKind.cell<;>simp[c]) _ _ _ _ ?_;rw[show({s with heap:=s.j.w {cls:=.w "dict",data:=.x #[]}}:Shared).j.u.j=s.j.u.j+1 from Ak0 ..];exact AC<|FS<|FS d
noncomputable def Xc(X:Cx)(N:List Str)(a:Scope)(C:Addr)(b:List Addr)(s:Shared)(H:Hp):Cx where
 prog:=X.u
 w:=X.w
 K:=X.K
 mg:=X.mg
 base:=X.base
 A:=X.A
 N:=N
 s₀:=s
 H₀:=H
 env:=compEnvC a (iV a C X.j) C X.j
 outer:=X.B
 stack:=X.B
 ex:=b
 fn:=λx=>u9<|a.j.u x=y0 .u
 calm:=X.y
 pn:=[]
 xe:=λ_ _=>False
def cM(X:Cx):List Nat->List Str->Prop
|[],[]=>True
|j::js,x::xs=>X.N[j]?=y0 x/\(X.j.x x=y0 .u\/X.j.x x=y0 .y)/\cM X js xs
|_,_=>False
theorem cM.get {U:St}:∀{ax}{xs}{i:Nat}{x}{v},cM X ax xs->xs[i]?=y0 x->(ax.j λj=>(U[j]?).join)[i]?=y0 (y0 v)→
 ∃j:Nat,X.N[j]?=y0 x/\U[j]?=y0 (y0 v)/\(X.j.x x=y0 .u\/X.j.x x=y0 .y)
|[],[],_,_,_,_,e,_=>by simp at e
|[],_::_,_,_,_,h,_,_=>h.j
|_::_,[],_,_,_,h,_,_=>h.j
|j::js,c::xs,0,x,v,h,e1,e2=>by
  obtain⟨a,b,_⟩:=h;simp at e1;subst e1;refine⟨j,a,?_,b⟩;have e2:y0 ((U[j]?).join)=y0 (y0 v):=by simpa using e2
  have e2:=Ae0.inj e2;cases q:U[j]? with
 |none=>rw[q]at e2;cases e2
 |some z=>rw[q]at e2;have:z=y0 v:=e2;rw[this]
|j::js,c::xs,i+1,x,v,h,e1,e2=>cM.get h.2.2 (by simpa using e1)<|by simpa using e2
theorem cM.length:∀{ax}{xs},cM X ax xs->ax.e=xs.e
|[],[],_=>rfl
|[],_::_,h=>h.j
|_::_,[],h=>h.j
|_::_,_::_,h=>congrArg (·+1)<|cM.length h.2.2
noncomputable def nI(k:Nat)(ax:List Nat)(U:St):St:=Aa7 k u0++ax.j λ(j:Nat)=>(U[j]?).join
def fN(X:Cx)(a:List Expr)(t:TT):Prop:=
 ∀(pins:List<|Addr×Obj)(s:Shared)(U:St)(H:Hp)(Q:Bool->Hp->Prop),Inv X pins U H s->t U H Q→
  wpAny (model X.u X.w) X.A (forIn a k9 λc r=>if r=k9 then do let ok←isTrue c X.j<|eval c X.j;pure (ForInStep.yield ok)else pure (ForInStep.yield r)) (TP X pins U Q) X.xe s
def Pj:TT:=λ_ H Q=>Q k9 H
def qW:fN X [] Pj:=λ_ _ _ H _ I h=>wpAny_tests_nil ⟨H,I,h⟩
def JV(h:PT X c t):fN X [c] t:=λa s U H Q I b=>wpAny_tests_one<|h a s U H Q I b
def uz(J:It)(g:TG)(k:TT)(j:TE)(e:St)(l:Hp)(Q:VK):Prop:=∃W:Nat->Nat->List V->St->Hp->Prop,(∃m,W 0 m [] e l)/\∀i m ys τ H,W i m ys τ H→
 (J.stop i H/\ys.e<=sizeLine/\∀D,H D=u0->Q (.j D) (aH H D<|.x ys))∨
 (J.go i H/\ys.e<sizeLine/\∃N:List V->St->Hp->Prop,(∀c d H',N c d H'->∃f,f<m/\W (i+1) f c d H')∧
   ∀x H',J.gr i H x H'->g x τ H' λa H2=>k a H2 λb h=>if b=k9 then j a h λy n=>N (ys++[y]) a n else N ys a h)
abbrev lV(a:Type):=Addr->List Addr->Shared->Hp->a
def mR(k:Nat)(ax:List Nat)(a:TI)(g:lV TG)(c:lV TT)(b:lV TE):TE:=λU H Q=>a U H λJ H1=>∀C fp s,uz J (g C fp s H1) (c C fp s H1) (b C fp s H1) (nI k ax U) H1 Q
def Inv.gv (I:Inv X pins U H s)(j:H D=u0)(h1:D≠X.j.w)(h:∀x c,X.j.u.u x=y0 c->c≠D)(i:∀p∈X.pn++pins,p.1≠D)(a:∀b u,X.s₀.j.j b=y0 u->b≠D)
 (new:aS X.u X.w (aH H D o) s.j D o):Inv X pins U (aH H D o) s:=by
 have up:∀b u,H b=y0 u->aH H D o b=y0 u:=λb u q=>by rwa [Za<|Jb q j]
 refine⟨I.j,I.os,I.bare,⟨I.x.keep,I.x.slot,λb u e n l=>?_,I.x.j,λb f q=>up b _<|I.x.dq b f q,λb u v q=>up b _<|I.x.c8 b u v q⟩,I.loc,I.cell,?_,λx c q=>?_,λp g=>?_,λb u q=>?_,I.len⟩
 .rw[Za<|a b u e];exact I.x.free b u e n l
 .rw[Za<|Ne.symm h1];exact I.free
 .rw[Za<|h x c q];exact I.bI x c q
 .obtain⟨k,a2,a3⟩:=I.N p g;exact⟨k,by rw[Za<|i p g];exact a2,a3⟩
 .by_cases d:b=D
  .subst d;rw[Zb]at q;cases q;exact new
  .rw[Za d]at q;exact(I.aT b u q).dz (λ_ _ _ z=>z) (λc z=>up c _ z) λc f z=>up c _ z
def Inv.adopt (I:Inv X pins U H s)(a:bJ X pins H D)(f:X.s₀.j.u.j<=D)
 (e:s.j.j D=y0 {cls:=.w "list",data:=.j its.w n})(r:Vals ys its)(c:ys.e<=sizeLine):Inv X pins U (aH H D<|.x ys) s:=let⟨d,i,_,_,h,g⟩:=a
 I.gv d i h g (λb o q z=>by rw[z]at q;exact absurd (Ab3 (Ac q) f)<|Aj8 _) ⟨c,its,n,r,e⟩
def Wp{env:Env}{names x}(h:names.u x=y0 .y):(kP env names).u x=y0 .u\/(kP env names).u x=y0 .y:=by
 rw[rl,h,Al7];split
 .exact .u rfl
 .exact .w rfl
structure nj(X:Cx)(scope:Scope)(N:List Str)(k:Nat)(ax:List Nat):Prop where
 kind:scope.u=.j
 nd:(scope.j.j Prod.fst).M
 names:∀y∈scope.j,y.2=.local->scope.j.u y.1=y0 .local
 free:∀y∈scope.j,y.2=.y->X.j.x y.1=y0 .u\/X.j.x y.1=y0 .y
 lN:∀x∈N.G k,scope.j.u x=y0 .y
 ax:cM X ax<|N.G k
 le:k<=N.e
section
variable{X:Cx}{elt tg iter:Expr}{ifs:List Expr}{scope:Scope}{pos p0:Pos}{N:List Str}{k:Nat}{ax:List Nat}{wi:TI}{g:lV TG}{tc:lV TT}{te:lV TE}
def Pw(ok:nj X scope N k ax)(a:Inv X pins U H2 s2)(G:∀b∈fp,bJ X pins H2 b)(O:∀b∈fp,b<s2.j.u.j)
 (s:s2.j.u.j<=C)(K:h₁.Ns C m)(f:∀b o,s2.j.j b=y0 o->h₁.j b=y0 o)
 (d:∀x c,(iV scope C X.j).u x=y0 c->(xW scope X.j).u x=y0 c\/(C+1<=c/\(x,NameKind.cell)∈scope.j/\h₁.A c u0)):
 Inv (Xc X N scope C fp s2 H2) [] (nI k ax U) H2 {s2 with heap:=h₁,toks:=tk}:=by
 have sub:∀x c,(xW scope X.j).u x=y0 c->X.j.u.u x=y0 c:=JJ scope.j [] λx c e=>by simp at e
 have E:∀x,(x,NameKind.free)∈scope.j->∃c,(xW scope X.j).u x=y0 c:=λx F=>by obtain⟨c,w⟩:=a.j.has x<|ok.free _ F rfl;exact AJ w scope.j []<|.u F
 have lt:∀x c,(xW scope X.j).u x=y0 c->c<C+1:=λx c e=>by obtain⟨v,o,D,_⟩:=a.cell x c<|sub x c e;exact Nat.lt_succ_of_le<|Ab4 (Ag<|Ac D) s
 have keep:∀x c,(x,NameKind.free)∈scope.j->(xW scope X.j).u x=y0 c->(iV scope C X.j).u x=y0 c:=λx c F e=>by
  unfold iV
  rwa [tG scope.j _ _ λz=>by cases yf ok.nd F z]
 have A:∀x,_∈scope.j\/(x,NameKind.cell)∈scope.j->∃c,(iV scope C X.j).u x=y0 c:=λx n=>by
  rcases n with n|n
  .obtain⟨c,w⟩:=E x n;exact⟨c,keep x c n w⟩
  .exact Aj2.u<|Ao5 scope.j _ _<|.u<|sf ok.nd n
 refine⟨⟨a.j.mod,ok.kind,a.j.glob,a.j.blt,s,(tE scope.j _ _ lt λx y c J H=>a.j.inj x y c (sub x c J)<|sub y c H),λx n=>A x<|OQ n,λx c t e=>?_,a.j.hd,a.j.frames,.u rfl,λb h=>⟨?_,λx c e=>?_⟩,
  a.bs,Ab4 a.j.g7 a.sz,λb o e h=>?_,λb h z=>(Ab5.u<|a.d5 b z).j (G b h).2.1 (G b h).2.2.1,a.stack,a.cR⟩,
  rfl,a.bare,Un.kept f,⟨m,K,λi x v e1 e2 Z=>?_⟩,λx c e=>?_,a.aT.Q s,λx c e=>?_,λp R=>absurd (show p∈([]:List _)from R) Y7,a.aT.kept f,?_⟩
 .have t:=Do t;rcases d x c e with q|q
  .rcases xS scope.j [] q with z|z
   .simp at z
   .have:=sf ok.nd z;rw[t]at this;cases this
  .exact Ab4 s<|Ab4 (Af1 C) q.1
 .show b≠C;exact Ac1<|Ab3 (O b h) s
 .rcases d x c e with q|q
  .exact(G b h).2.2.2.2.1 x c<|sub x c q
  .exact Ne.symm<|Ac1<|Ab3 (O b h)<|Ab4 s<|Ab4 (Af1 C) q.1
 .rcases(G b h).2.2.2.1 with z|z
  .exact a.j.fU b o e z
  .have J:=Ac e;have H:=a.j.g7;exact absurd (Ab3 J<|Ab4 H z)<|Aj8 _
 .have g:k<=i:=by
   by_cases g:i<k
   .have e2:(Aa7 k u0++ax.j λ(j:Nat)=>(U[j]?).join)[i]?=y0 _:=e2;rw[Ac2<|by simpa using g,Aj7,Da g]at e2;cases e2
   .lia
  have B:(N.G k)[i-k]?=y0 x:=by
   rwa [Vh,show k+(i-k)=i by lia]
  obtain⟨j,Q,T,M⟩:=ok.ax.get B<|by
    have e2:(Aa7 k u0++ax.j λ(j:Nat)=>(U[j]?).join)[i]?=y0 _:=e2
    rwa [Ae3<|by simpa using g,Af]at e2
  obtain⟨W,Y,S⟩:=a.loc;obtain⟨u,r,l⟩:=S j x v Q T<|.w<|M.j (λz=>.u z) λz=>.w z;refine⟨u,r,.w ?_⟩;have t:=ok.lN x<|Ac3 B;refine⟨Wp t,?_⟩;obtain⟨c,w⟩:=E x<|SB t;refine⟨c,keep x c (SB t) w,?_⟩;rcases l with⟨P,_⟩|⟨_,V,L,o,D,I⟩
  .rcases M with z|z<;>(rw[P]at z;cases z)
  .have d:=sub x c w;rw[L]at d;cases d;exact⟨o,f _ o D,I⟩
 .rcases d x c e with q|q
  .obtain⟨v,o,D,I⟩:=a.cell x c<|sub x c q;exact⟨v,o,f c o D,I⟩
  .exact⟨u0,q.2.2⟩
 .rcases d x c e with q|q
  .exact a.bI x c<|sub x c q
  .exact a.aT.Q<|Ab4 s<|Ab4 (Af1 C) q.1
 .show(Aa7 k u0++ax.j λ(j:Nat)=>(U[j]?).join).e=N.e;have H:=ok.le;rw[Aa5,Af,Aa,ok.ax.length,Ae9];lia
def uQ(use)(hc:X.y=k9)(ok:nj X scope N k ax)(hi:PI X tg iter wi)
 (hg:∀C fp s H,PG (Xc X N scope C fp s H) tg<|g C fp s H)(ht:∀C fp s H,fN (Xc X N scope C fp s H) ifs<|tc C fp s H)(he:∀C fp s H,PE (Xc X N scope C fp s H) elt<|te C fp s H)
 (hs:∀x,foldedSetIterable iter X.j x=pure x)
 (I:Inv X pins U H s)(h:mR k ax wi g tc te U H Q)
 (fin:∀(D C:Addr)(oC:Obj)(m:Str->Option Value)(H4:Hp)(s4:Shared),Inv X (pins++[(C,oC)]) U H4 s4->bJ X pins H4 C->Q (.j D) H4->(∀h:Heap,h.j C=y0 oC->h.Ns C m)→
   compPost (model X.u X.w) X.A X.xe use Q' (.j D) C (.ok .next) s4):
 wpAny (model X.u X.w) X.A (comprehension (.A elt [⟨tg,iter,ifs,0⟩] scope pos) scope X.j p0 (newList []) y9 (eval iter X.j) use) Q' X.xe s:=by
 refine wpAny_comprehension_free rfl hs (XU λy hy hf=>I.j.has y.1<|ok.free y hy hf) ok.kind ok.names<|aN (hi pins s U H _ I h) λv s1 h1=>aN h1 λitv s2 h2=>?_;obtain⟨it,fp,tn,J,H2,e,I2,T,st2,f2,hW⟩:=h2;subst e;refine Ts<|xD ?_;dsimp only;generalize hHp:s2.j.w {cls:=.w "list",dict:=none,data:=.j ([]:List Value).w}=HP;have hCs:HP.u.j=s2.j.u.j+1:=by rw[←hHp,Ak0]
 generalize hDD:s2.j.u.j=D at hCs⊢;have hlk:∀x c,(iV scope HP.u.j X.j).u x=some c->(xW scope X.j).u x=some c\/(HP.u.j+1<=c/\(x,NameKind.cell)∈scope.j/\(pushCells (HP.w {cls:=.w "dict",data:=.x #[]}) scope.j).A c none):=fun x c e=>by
  refine tq scope.j _ _ True (λ_=>.u trivial) _ (by rw[Ak0];exact Ab0 _) ?_
  rwa [Ak0]
 generalize hh1:pushCells _ scope.j=h₁ at hlk⊢;have hns₁:h₁.Ns HP.u.j λ_=>none:=by rw[←hh1];exact(Heap.Ns.new HP _).keeps<|Up _ _
 have hk1:∀b o,HP.j b=y0 o->h₁.j b=y0 o:=λb o e=>by rw[←hh1];exact Up _ _ b o<|Aa8 _ e
 generalize hCC:HP.u.j=C at hCs hns₁ hlk⊢;have hDC:D≠C:=by rw[hCs];exact Ac1<|Af5 _
 have hle:s2.j.u.j<=C:=by rw[hDD,hCs];exact Af1 _
 have hleD:s2.j.u.j<=D:=An hDD;have fo:∀b∈fp,b<D:=λb hb=>by obtain⟨o,eo,_⟩:=T.obj _ _ st2 b hb;rw[←hDD];exact Ac eo
 have old:∀b o,s2.j.j b=y0 o->h₁.j b=y0 o:=λb o e=>by exact hk1 b o<|hHp▸Aa8 _ e
 obtain⟨W,⟨m0,w0⟩,turn⟩:=hW C fp s2;have I3:Inv _ [] _ H2 {s2 with heap:=h₁,toks:=s2.u}:=
  Pw ok I2 f2 (λb hb=>by rw[hDD];exact fo b hb) hle hns₁ old hlk
 have st3:tn 0 h₁:=T.keep _ _ _ st2 λb _ o e=>old b o e;have FD:∀{H':Hp},H' D=u0->bJ X pins H' D:=λhn=>I2.eE hleD hn;have sub:∀x c,(xW scope X.j).u x=y0 c->X.j.u.u x=y0 c:=JJ scope.j [] λx c e=>by simp at e
 have hDst:D∉cg X.B:=λz=>(Ab5.u<|I2.d5 D z).j (FD (H':=λ_=>u0) rfl).2.1 (FD (H':=λ_=>u0) rfl).2.2.1;have hDc:∀x c,(iV scope C X.j).u x=y0 c->c≠D:=λx c e=>by
  rcases hlk x c e with q|q
  .exact(FD (H':=λ_=>u0) rfl).2.2.2.2.1 x c<|sub x c q
  .exact Ne.symm<|Ac1<|Ab3 (by rw[hCs];exact Am6<|Af5 _) q.1
 have loop:∀s₃:Shared,s₃={s2 with heap:=h₁,toks:=s2.u}→
  codeAny (model X.u X.w) X.A (.compLoop (.A elt [⟨tg,iter,ifs,0⟩] scope pos) 0 (.j it) (.j D)<|compEnvC scope (iV scope C X.j) C X.j)
   (compPost (model X.u X.w) X.A X.xe use Q' (.j D) C) s₃:=by
  rintro s₃ rfl;refine W0 (λn s'=>∃i ys its kk τ H',Inv (Xc X N scope C fp s2 H2) [] τ H' s'/\tn i s'.j/\(∀b∈fp,H' b=u0)/\H' D=u0/\s'.j.j D=y0 {cls:=.w "list",data:=.j (its:List Value).w kk}/\Vals ys its/\W i n ys τ H') ?_ m0 ⟨0,[],[],0,_,H2,I3,st3,λb hb=>(f2 b hb).1,I2.aT.Q hleD,(by refine hk1 _ _ ?_;rw[←hHp,←hDD];exact Ac4 _ rfl),.u,w0⟩;rintro n s3 ⟨i,ys,its,kk,τ,H3,I3,st3,fr3,hD3,eD3,rv3,w3⟩;have IP:Inv (Xc X N scope C fp s2 H2) [(D,{cls:=.w "list",data:=.j its.w kk})] τ H3 s3:=I3.bX fun p hp=>by
   have e:p=(D,{cls:=.w "list",data:=.j its.w kk}):=by simpa using hp
   subst e;exact⟨eD3,hD3,hDC,hDst,λv z=>by cases z⟩
  have fpok:∀{H':Hp},(∀b∈fp,H' b=u0)->∀b∈fp,bJ (Xc X N scope C fp s2 H2) [(D,{cls:=.w "list",data:=.j its.w kk})] H' b:=fun{H'} hn b hb=>by
   refine⟨hn b hb,I3.j.ni b hb|>.1,I3.j.fY b hb,.u hb,I3.j.ni b hb|>.2,λp hp=>?_⟩;have e:p=(D,{cls:=.w "list",data:=.j its.w kk}):=by have hp:p∈([]:List<|Addr×Obj)++[(D,{cls:=.w "list",data:=.j its.w kk})]:=hp;simpa using hp
   rw[e];exact Ne.symm<|Ac1<|fo b hb
  rcases turn i n ys τ H3 w3 with⟨stop,hz,q⟩|⟨go,hz,NN,hN,step⟩
  .refine aN (T.done (Xc X N scope C fp s2 H2) rfl rfl rfl hc i _ s3 τ H3 _ IP (fpok fr3) st3 stop) ?_;rintro r s4 ⟨hr,I4⟩;subst hr;have I5:Inv X pins U H3 s4:=I2.kn I4.os I4.x I4.aT I4.bare<|λb hb=>⟨(f2 b hb).2.2.2.1,(f2 b hb).2.1,(f2 b hb).2.2.2.2.1,(f2 b hb).2.2.2.2.2⟩;have I6:=I5.adopt (FD hD3) (Ab4 I2.sz hleD) ((I4.N _<|Ab _ Aa4).1) rv3 hz;obtain⟨m,⟨oC,es,ep,hoC,hdC,hr⟩,_⟩:=I4.loc;have fC:bJ X pins (aH H3 D<|.x ys) C:=(λhn=>I2.eE hle hn) (by rw[Za<|Ne.symm hDC];exact I4.free);have I7:Inv X (pins++[(C,oC)]) U (aH H3 D<|.x ys) s4:=I6.bX λp hp=>(Ac6.u hp).j (λz=>I6.N p<|Ab _ z) λz=>by
    have e:p=(C,oC):=by simpa using z
    subst e;exact⟨hoC,fC.1,fC.2.1,fC.2.2.1,λv z=>by rw[hdC]at z;cases z⟩
   exact fin D C oC m _ s4 I7 fC (q D hD3) λh e=>⟨oC,es,ep,e,hdC,hr⟩
  .refine aN (T.item (Xc X N scope C fp s2 H2) rfl rfl rfl hc i _ s3 τ H3 _ IP (fpok fr3) st3 go) ?_;rintro r s4 ⟨u,hr,h4⟩;subst hr;refine aN h4 ?_;rintro _ s5 ⟨x,H5,I5,r5,y5,st5,fr5⟩;have I5':=I5.pinned (fpok fr5)<|T.obj _ _ st5;refine PP (hg C fp s2 H2 _ s5 τ H5 x u _ I5' r5<|step x H5 y5) ?_ λ_ _ z=>False.elim z;rintro _ s6⟨U6,H6,I6,q6⟩;refine PP (ht C fp s2 H2 _ s6 U6 H6 _ I6 q6) ?_ λ_ _ z=>False.elim z;rintro b s7⟨H7,I7,q7⟩;have hp5:∀b∈fp,∃o,s5.j.j b=y0 o:=λb hb=>let⟨o,e,_⟩:=T.obj _ _ st5 b hb;⟨o,e⟩;cases b with
|false=>rw[FM Ac0]at q7⊢;obtain⟨m',hm,w7⟩:=hN _ _ _ q7;refine⟨m',hm,i+1,ys,its,kk,U6,H7,I7.bX λp hp=>absurd hp Y7,T.keep _ _ _ st5 λb hb o e=>(I7.N (b,o)<|Ab _<|Ab _<|Jg hb e).1,λb hb=>?_,(I7.N _<|Ab _<|Ad1 _ Aa4).2.1,(I7.N _<|Ab _<|Ad1 _ Aa4).1,rv3,w7⟩;obtain⟨o,e⟩:=hp5 b hb;exact(I7.N (b,o)<|Ab _<|Ab _<|Jg hb e).2.1
|true=>
    rw[Da rfl]at q7⊢;refine PP (he C fp s2 H2 _ s7 U6 H7 _ I7 q7) ?_ λ_ _ z=>False.elim z;rintro y s8⟨yv,H8,I8,r8,q8⟩;have pD:=I8.N _<|Ab _<|Ad1 _ Aa4;have eD8:s8.j.j D=y0 {cls:=.w "list",data:=.j its.w kk}:=pD.1;have hD8:H8 D=none:=pD.2.1;have u7:=rv3.e;refine Tu Vg ⟨_,eD8,rfl⟩ U4 (US _ _) (Vt D its.w kk y<|by rw[Ac7];lia) ⟨eD8,?_⟩;obtain⟨m',hm,w8⟩:=hN _ _ _ q8;have e9:=PySem.IsL.update eD8 (·.push y);rw[show its.w.push y=(its++[y]).w by simp]at e9;have I9:Inv (Xc X N scope C fp s2 H2) (j9 fp s5.j) U6 H8 {s8 with heap:=s8.j.x D (Obj.mapSeq (·.push y)),toks:=s8.u}:=
     (I8.bX λp hp=>I8.N p<|Ab _<|Ab _ hp).turned (λb o hb e=>(Am2 s8.j (Obj.mapSeq (·.push y))<|Ne.symm hb).j e) hD8 hDC (.w hleD) hDc λp hp=>by have hp:p∈([]:List<|Addr×Obj)++j9 fp s5.j:=hp;have:=fo p.1 (j2<|by simpa using hp).1;exact Ac1 this
    refine⟨m',hm,i+1,ys++[yv],its++[y],_,U6,H8,I9.bX λp hp=>absurd hp Y7,T.keep _ _ _ st5 λb hb o e=>(I9.N (b,o)<|Ab _<|Jg hb e).1,λb hb=>?_,hD8,e9,rv3.append<|.j r8 .u,w8⟩;obtain⟨o,e⟩:=hp5 b hb;exact(I9.N (b,o)<|Ab _<|Jg hb e).2.1
 exact codeAny_compStart_list (loop _ rfl)<|T.self _ 0 _ _ _ st3<|loop _ rfl
def yW(ok:nj X scope N k ax)(i:PI X tg iter wi)
 (j:∀C fp s H,PG (Xc X N scope C fp s H) tg<|g C fp s H)(n:∀C fp s H,fN (Xc X N scope C fp s H) ifs<|tc C fp s H)(f:∀C fp s H,PE (Xc X N scope C fp s H) elt<|te C fp s H)
 (o:X.y=true:=by rfl)(l:∀x,foldedSetIterable iter X.j x=pure x:=by intro _;rfl):PE X (.A elt [⟨tg,iter,ifs,0⟩] scope pos)<|mR k ax wi g tc te:=λe s U H Q I h=>uQ u0 o ok i j n f l I h λD C r m p u d a q c=>⟨m,c _ (d.N _<|Ab _<|Ab _ Aa4).1,λt b=>⟨.j D,p,(d.bT).turned b.extBut a.1 a.2.1 a.2.2.2.1 a.2.2.2.2.1 a.2.2.2.2.2,rfl,q⟩⟩
def ZS(n:X.N.M)(f:X.N[i]?=y0 x)(A:lT X.j.j x)(ok:nj X scope N k ax)(w:PI X tg iter wi)
 (y:∀C fp s H,PG (Xc X N scope C fp s H) tg<|g C fp s H)(B:∀C fp s H,fN (Xc X N scope C fp s H) ifs<|tc C fp s H)(p:∀C fp s H,PE (Xc X N scope C fp s H) elt<|te C fp s H)
 (c:swapsWith (.A elt [⟨tg,iter,ifs,0⟩] scope p0) (y0<|.j x pos') pos.u X.j=pure true:=by rfl)
 (E:X.y=true:=by rfl)(z:∀x,foldedSetIterable iter X.j x=pure x:=by intro _;rfl)(r:X.fn x=k9\/X.j.j.j.u x=y0 .local:=by first|exact .inl rfl|exact .inr rfl|assumption):
 PS X (.j [.j x pos'] (.A elt [⟨tg,iter,ifs,0⟩] scope p0) pos)<|hI (mR k ax wi g tc te)<|qP i:=by
 intro j s U H D I h;rw[exec_Assign_Name_used _ _ _ _ c];exact AC<|Tj<|AC<|AC<|PP (uQ _ E ok w y B p z I h λu C J m F L o a q d=>Vm<|Zv o n f A (v:=.j u) rfl (λG l=>⟨m,d _ (l.N _<|Ab _<|Ab _ Aa4).1,λK b=>⟨_,F,(l.bT).turned b.extBut a.1 a.2.1 a.2.2.2.1 a.2.2.2.2.1 a.2.2.2.2.2,q⟩⟩) r) (λ_ M t=>FS<|FS t) λ_ _ e=>e
end
open PySem PySem.Spec PySem.Calls PySem.W PyProof.Rows
structure my(K:Frag)(C:Addr):Prop where
 ga:findIn K (.j C) "__getattribute__"=some (some<|.u "BaseException.__getattribute__")
 gn:findIn K (.j C) "__getattr__"=some none
 cl:findIn K (.j C) "__class__"=some (some<|.u "object.__class__")
 get:specialIn K (.u "object.__class__") "__get__"=some (some<|.u "getset_descriptor.__get__")
 set:takesIn K (.u "object.__class__")=some true
 obj:mroIn K C (.w "object")=some true
 bas:mroIn K C (.w "BaseException")=some true
 slf:kitCls K (.j C) (.j C)=y0 k9
 cls:(clsIn K C).w=k9
def ExcAt(h:Heap)(x C:Addr):Prop:=∃o,h.j x=y0 o/\o.cls=.j C
def ExcAt.type (e:ExcAt h x C):Looks M h (typeOf<|.j x)<|.j C:=by obtain⟨o,b,a⟩:=e;rw[←a];exact(Looks.ld b).a6 Looks.now
section
variable{prog:Program}{w:World}{A:Around}{E:Value->Shared->Prop}{s:Shared}{K:Frag}{x C:Addr}
def RQ(X:K.In s.j)(I:ExcAt s.j x C)(Z:my K C)(a:R (.ok<|.ret<|.j C) s):
 codeAny (model prog w) A (.call (.u "getset_descriptor.__get__") ⟨[.u "object.__class__",.j x,tp],[]⟩) R s:=by
 obtain⟨e,b,dd,d,g⟩:=s;have f:=I.type (M:=model prog w);have c:=looks_mroIn (M:=model prog w) X Z.obj;refine Tc KF.slot_gs.plain KF.entry_gs<|KF.slot_gs.check _ _ _ _ _ _ _ _ KF.type_class (KF.args_gs _ _ _) ?_;unfold Builtin.«getset_descriptor.__get__»Builtin.Getset_descriptor.descrGet;rw[dga_obj];refine AC<|FS ?_;unfold Builtin.Getset_descriptor.descrGetter Builtin.Getset_descriptor.descrCheckInstance Builtin.Getset_descriptor.descrNameAndClass isInstance;simp only[KF.owner_class]
 repeat lk
 refine⟨TL _<|by decide+kernel,S9 KF.entry_class ?_⟩;unfold Builtin.«object.__class__»shownTypeOf
 repeat lk
 exact a
def Q7(X:K.In s.j)(I:ExcAt s.j x C)(Z:my K C)(k:Q (y0<|.j C) {s with toks:=s.u+1}):
 wpAny (model prog w) A (getAttr? (.j x) "__class__") Q E s:=by
 obtain⟨a,d,dd,p,c⟩:=s;have f:=I.type (M:=model prog w);have o:=looks_findIn (M:=model prog w) X Z.ga;have Le:=looks_specialIn (M:=model prog w) X Z.get;have n:=looks_takesIn (M:=model prog w) X Z.set;have l:=looks_mroIn (M:=model prog w) X Z.bas;have b:Looks (model prog w) a (Builtin.ObjectAttr.find (.j x) (.j C) "__class__")<|.bind (.u "getset_descriptor.__get__")<|.u "object.__class__":=by unfold Builtin.ObjectAttr.find;refine(looks_findIn (M:=model prog w) X Z.cl).a6<|Looks.andThen (show Looks (model prog w) a (Builtin.ObjectAttr.getOf<|some<|.u "object.__class__")<|some<|.u "getset_descriptor.__get__"from Le) ?_;unfold Builtin.ObjectAttr.dataDescriptor?;exact Looks.andThen (n.a6 Looks.now)<|Looks.tag Looks.now
 have h:∀A i Q E t,Q (.done<|.ret<|.j C) ⟨a,d,dd,t,c⟩→
  wpAny _ A (Builtin.«object.__getattribute__» ⟨[.j x,.str "__class__" i],[]⟩) Q E ⟨a,d,dd,t,c⟩:=fun A i Q E t g=>by
  unfold Builtin.«object.__getattribute__»;refine AC<|Tq rfl ?_;dsimp only;refine AC<|Tq rfl<|AC<|f.at<|AC<|b.at ?_;show wpAny _ _ (Builtin.ObjectAttr.bindTo _ _ _ _) _ _ _;unfold Builtin.ObjectAttr.bindTo;dsimp only;exact AC<|Pi<|Tp<|RQ X I Z<|FS g
 have kO:∀A e Q E t,Q () ⟨a,d,dd,t,c⟩→
  wpAny (model prog w) A (checkBuiltinCall "BaseException.__getattribute__" ⟨[.j x,e],[]⟩) Q E ⟨a,d,dd,t,c⟩:=fun A e Q E t g=>by
  have j:builtinKind "BaseException.__getattribute__"=some .slot:=by decide+kernel
  have m:splitId "BaseException.__getattribute__"=some ("BaseException","__getattribute__"):=by decide+kernel
  simp only[checkBuiltinCall,j,m];refine AC<|(f.a6 l:Looks (model prog w) a (isInstance (.j x)<|.w "BaseException") true).at ?_;rw[FM Y5];exact Tq (F.args_bexc_ga (.j x) e) g
 unfold getAttr? getAttrBy? getAttrBy;refine AC<|wpAny_mkText<|AC<|T5<|Pi<|AC<|f.at<|AC<|o.at ?_;show wpAny _ _ (getAttrByItsOwn _ _ _ _ _ _) _ _ _;unfold getAttrByItsOwn hookBefore;refine AC<|(looks_findIn X Z.gn).at<|AC<|T5<|Pi ?_;show wpAny _ _ (boundAndCalled (.u "BaseException.__getattribute__") (.j x) _) _ _ _;unfold boundAndCalled;refine AC<|Tq (F.excAttr_ValueError.ga.bind _)<|Tp<|Tc F.excAttr_ValueError.ga.plain F.entry_bexc_ga<|kO _ _ _ _ _<|h _ _ _ _ _ ?_;show wpAny _ _ (handedOut<|.j C) _ _ _;exact handed_on rfl<|FS k
end
def XX{K:Frag}(Z:my K C):KitX K (.j x) (.j C)<|λh=>ExcAt h x C where
 ty:=λ_ _ _ I=>I.type
 it:=λM h X _=>(kit_cls X Z.slf).2.1
 ne:=λh f dd d n sl X a=>by
  rw[Ar1];intro q;have e:=Value.ref.inj<|beq_iff_eq.u q;subst e;have z:=Z.cls;cases b:K.u C with
|none=>simp[clsIn,b]at z
|some o=>have c:=X C o b;rw[a]at c;cases c;simp[clsIn,b]at z
 ca:=λX I k=>Q7 X I Z k
noncomputable def iX(x C:Addr)(a:Option Addr):HO:=.ext λh=>∃o,h.j x=y0 o/\o.cls=.j C/\notCls o=k9/\∀dx,a=y0 dx->o.x=y0 dx
def Sa(e:h.j x=y0 o)(d:o.cls=.j C)(c:notCls o=k9)(f:∀dx,od=y0 dx->o.x=y0 dx):aS P w H h x<|iX x C od:=
 ⟨⟨o,e,d,c,f⟩,⟨o,e⟩,by rintro i g⟨o,a,b⟩k;exact⟨o,k o a,b⟩⟩
def uo(K:Frag):List V->Hp->VK->Prop:=λxs H Q=>∃x C a b,my K C/\H x=y0 (iX x C a)∧
 ((∃(D:Addr),xs=[.j x,.j D]/\kitOne K (.j C) (.j D)=y0 b)\/(∃(T:String),xs=[.j x,.ty T]/\kitOne K (.j C) (.w T)=y0 b)∨
   ∃(t:Addr)(ds:List Addr),xs=[.j x,.j t]/\H t=y0 (.tup<|ds.j V.ref)/\kitAny K (.j C) (ds.j Value.ref)=y0 b)/\Q (.bl b) H
theorem W6:∀{ds:List Addr}{us},Vals (ds.j V.ref) us->us=ds.j Value.ref
|[],_,.u=>rfl
|_::_,_,.j r t=>by cases r;rw[W6 t];rfl
def Ij:zr X (.u "isinstance")<|uo X.K:=by
 rintro h s U H B F Q I r⟨x,C,E,b,Z,l,p,q⟩;have ex:ExcAt s.j x C:=let⟨o,a,b,_⟩:=(I.aT x _ l).1;⟨o,a,b⟩;obtain⟨D,rfl,e⟩|⟨T,rfl,e⟩|⟨t,w,rfl,m,e⟩:=p
 .obtain⟨u,g,rfl,d,c⟩:=mm r;cases d;cases c;exact kia_one (XX Z) I.bQ ex e (λz=>nomatch z) λf=>⟨.bl b,H,I.tok f,rfl,q⟩
 .obtain⟨u,g,rfl,d,c⟩:=mm r;cases d;cases c;exact kia_one (XX Z) I.bQ ex e (λz=>nomatch z) λf=>⟨.bl b,H,I.tok f,rfl,q⟩
 .obtain⟨u,g,rfl,d,c⟩:=mm r;cases d;cases c;obtain⟨_,k,rv,o,j,v,_,n,i⟩:=I.aT t _ m;rw[W6 rv]at i;obtain⟨y,A,G,sl⟩:=o;subst v i;exact kia_tup (XX Z) I.bQ ex j e (λz=>nomatch z) λf=>⟨.bl b,H,I.tok f,rfl,q⟩
def iA(o b:Obj):Prop:=b.x=o.x/\∀vs,o.j=.w vs->∃a,b.j=.w a/\a[2]?=vs[2]?
def iA.refl (o):iA o o:=⟨rfl,λa e=>⟨a,e,rfl⟩⟩
theorem iA.trans (x:iA a b)(y:iA b c):iA a c:=⟨y.1.j x.1,λd e=>by obtain⟨v1,e1,g⟩:=x.2 d e;obtain⟨v2,e2,f⟩:=y.2 v1 e1;exact⟨v2,e2,f.j g⟩⟩
def DK(h h':Heap):Prop:=∀b o,h.j b=y0 o->∃o',h'.j b=y0 o'/\iA o o'
theorem DK.refl (h):DK h h:=λ_ o e=>⟨o,e,.refl o⟩
theorem DK.trans (x:DK a b)(y:DK b c):DK a c:=λi o e=>
 let⟨d,e1,h⟩:=x i o e;let⟨g,e2,f⟩:=y i d e1
 ⟨g,e2,h.trans f⟩
def gF(h:Heap)(x:Addr):Prop:=∃o vs,h.j x=y0 o/\o.j=.w vs/\vs[2]?=y0 .x
def gF.dk (c:gF h x)(d:DK h h'):gF h' x:=by obtain⟨o,e,e1,e2,g⟩:=c;obtain⟨b,f,k⟩:=d x o e1;obtain⟨a,j,i⟩:=k.2 e e2;exact⟨b,a,f,j,i.j g⟩
def CY(a:Option Addr)(H:Hp):Prop:=∀dx,a=y0 dx->∃p,H dx=y0 (.xd [p])
def KD{b:Type}:Sem b->Prop
|.pure _=>True
|.raise _=>True
|.unsupported _=>True
|.finish _=>True
|.register _ _=>True
|.rule _ k=>KD<|k ()
|.at _ k=>KD<|k ()
|.load _ _ k=>∀o,KD<|k o
|.update _ _ f k=>(∀o,iA o (f o)/\(o.isFreed=y9->(f o).isFreed=y9))/\KD (k ())
|.alloc _ k=>∀a,KD<|k a
|.loadIfAlive _ k=>∀o,KD<|k o
|.point _ k=>KD<|k ()
|.fresh k=>∀t,KD<|k t
|.ask k=>∀t,KD<|k t
|.handled _ k=>∀t,KD<|k t
|.stack k=>∀t,KD<|k t
|.thread k=>∀t,KD<|k t
|_=>False
theorem KD.bind (c:∀a,KD<|f a)(h:KD m):KD<|m.bind f:=by
 induction m with
|pure a=>exact c a
|raise _=>exact trivial
|unsupported _=>exact trivial
|finish _=>exact trivial
|register _ _=>exact trivial
|rule _ k b=>exact b () h
|«at»_ k b=>exact b () h
|load _ _ k b=>exactλo=>b o<|h o
|update _ _ _ k b=>exact⟨h.1,b () h.2⟩
|alloc _ k b=>exactλo=>b o<|h o
|loadIfAlive _ k b=>exactλo=>b o<|h o
|point _ k b=>exact b () h
|fresh k b=>exactλo=>b o<|h o
|ask k b=>exactλo=>b o<|h o
|handled _ k b=>exactλo=>b o<|h o
|stack k b=>exactλo=>b o<|h o
|thread k b=>exactλo=>b o<|h o
|_=>exact False.elim h
theorem DK.push (h)(o):DK h<|h.w o:=λb u e=>⟨u,Aa8 _ e,.refl u⟩
theorem DK.update (h)(a)(c:∀o,iA o (f o)/\(o.isFreed=y9->(f o).isFreed=y9)):DK h<|h.x a f:=λb u e=>by
 by_cases q:a=b
 .subst q;exact⟨f u,Ak5 f e<|(c u).2 (Heap.get?_some_iff.u e).2,(c u).1⟩
 .exact⟨u,by rw[Am2 _ _ q];exact e,.refl u⟩
def P9:∀{p}{s},KD t->DK h0 s.j->Sem.wp M Y t Q E p s→
 Sem.wp M Y t (λa p s'=>Q a p s'/\DK h0 s'.j) (λe p s'=>E e p s'/\DK h0 s'.j) p s:=by
 induction t with
|pure a=>exactλk d h=>⟨h,d⟩
|raise _=>exactλk d h=>⟨h,d⟩
|unsupported _=>exactλk d h=>h
|finish _=>exactλk d h=>h
|register _ _=>exactλk d h=>h
|rule _ t b=>exactλk d h=>b () k d h
|«at»_ t b=>exactλk d h=>b () k d h
|load _ _ t b=>exactλk d ⟨o,e,h⟩=>⟨o,e,b o (k o) d h⟩
|update a _ f t b=>exactλk d ⟨e,h⟩=>⟨e,b () k.2 (d.trans<|DK.update _ _ k.1) h⟩
|alloc o t b=>exactλk d h=>b _ (k _) (d.trans<|DK.push _ _) h
|loadIfAlive _ t b=>exactλk d h=>b _ (k _) d h
|point _ t b=>exactλk d h=>b () k d h
|fresh t b=>exactλk d h=>b _ (k _) d h
|ask t b=>exactλk d h=>b _ (k _) d h
|handled _ t b=>exactλk d h=>b _ (k _) d h
|stack t b=>exactλk d h=>b _ (k _) d h
|thread t b=>exactλk d h=>b _ (k _) d h
|_=>exact False.elim
def zU(k:KD t)(h:wpAny M A t Q E s):
 wpAny M A t (λa s'=>Q a s'/\DK s.j s'.j) (λe s'=>E e s'/\DK s.j s'.j) s:=λY p b=>P9 k (DK.refl _)<|h Y p b
def Sx(v):KD<|fieldsOf v:=by
 cases v<;>first|exact trivial|skip
 refine KD.bind (λo=>?_) λ_=>trivial;split<;>exact trivial
def ZI(v)(i):KD<|field v i:=by refine KD.bind (λo=>?_)<|Sx v;split<;>exact trivial
def lA{c:Bool}(e:KD a)(d:KD b):KD<|if c then a else b:=by cases c<;>assumption
def Qy(v:Value)(i:Nat)(x:Value)(a:i≠2):KD<|setField v i x:=by
 cases v<;>first|exact trivial|skip
 refine KD.bind (λo=>?_) λ_=>trivial;split
 .split
  .refine⟨λo=>?_,trivial⟩;obtain⟨c,d,b,sl⟩:=o;cases b<;>first|exact⟨.refl _,λz=>z⟩|exact⟨⟨rfl,λf e=>by cases e;exact⟨_,rfl,Array.getElem?_setIfInBounds_ne a⟩⟩,λz=>z⟩
  .exact trivial
 .exact trivial
def ZU(f)(b):KD<|entryPlaceOf f b:=by refine KD.bind (λo=>?_) λ_=>trivial;split<;>exact trivial
def R6(a b c d e)(p):KD<|EntryCells.newEntry a b c d e p:=by
 have f:∀g:Array Value,KD<|if g.j>sizeLine+2 then do
  unsupported "record:memory"
  else newObjAsIs (Value.type "traceback") (Data.fields g):=fun g=>by
  split
  .exact trivial
  .unfold newObjAsIs;exactλ_=>trivial
 exact f _
theorem Dg:∀l:List Env,KD<|readyFrames l
|[]=>trivial
|env::outer=>by
  unfold readyFrames;split
  .refine KD.bind (λo=>?_) λ_=>trivial;refine lA trivial ?_;refine KD.bind (λi=>?_) ?_
   .refine KD.bind (λb=>?_) ?_
    .refine KD.bind (λ_=>Dg outer) ⟨λo=>⟨⟨rfl,λa e=>⟨a,e,rfl⟩⟩,λz=>?_⟩,trivial⟩;obtain⟨c,d,f,sl⟩:=o;cases f<;>exact z
    .unfold keptBack;split
     .refine lA trivial ?_;refine KD.bind (λ_=>trivial) ?_;exactλ_=>trivial
     .exact trivial
   .unfold behindIsImport;refine lA trivial<|lA trivial ?_;exact KD.bind (λ_=>trivial)<|ZI _ _
  .exact trivial
def ME(env):KD<|PySem.frameOf env:=by
 refine KD.bind (λl=>?_) λ_=>trivial;refine KD.bind (λo=>?_) ?_
 .split<;>exact trivial
 .unfold frameObject;split
  .exact trivial
  .exact KD.bind (λ_=>trivial)<|Dg _
def vZ(e)(env):KD<|noteFrame e env:=by
 unfold noteFrame;split
 .refine KD.bind (λf=>?_)<|ZI _ _;have d:KD (do setField e 1<|←EntryCells.newEntry f (←PySem.frameOf env) .x (rawInt ‹Addr›) .x<|←entryPlaceOf ‹Addr›<|f !=.x):=
   KD.bind (λa=>KD.bind (λb=>KD.bind (λc=>Qy _ _ _ Y5)<|R6 _ _ _ _ _ _)<|ZU _ _)<|ME env
  exact lA (KD.bind (λx=>lA trivial<|KD.bind (λ_=>d)<|Qy _ _ _ Y5)<|ZI _ _) d
 .exact trivial
def jO(e:Value)(f:Option Addr):KD<|setFlight e f:=by exact KD.bind (λx=>lA (Qy _ _ _ Y5) trivial)<|ZI _ _
def QP(env)(e):KD<|leaving env e:=KD.bind (λ_=>jO e u0)<|vZ e env
def aS.there (x:aS P w H h a o):∃u,h.j a=y0 u:=by
 cases o with
|lst b=>exact⟨_,x.2.choose_spec.choose_spec.2⟩
|tup b=>obtain⟨_,_,_,u,e,_⟩:=x;exact⟨u,e⟩
|dK c=>obtain⟨_,_,_,_,u,_,_,e,_⟩:=x;exact⟨u,e⟩
|ins C d fs=>obtain⟨_,_,_,e,_⟩:=x;exact⟨_,e⟩
|own y=>exact x
|xd fs=>obtain⟨_,⟨u,_,_,e,_⟩,_⟩:=x;exact⟨u,e⟩
|eR f u=>exact⟨_,x.1⟩
|ext g=>exact x.2.1
def cJ(P:Program)(w:World):ig:=λouter H s E e s'=>∃(x C t:Addr)(B:Heap)(H':Hp)(a:Option Addr),e=.j x/\s'.os=s.os/\AllBare s'.w∧
 Ap6 B outer x (.j C) (.j t) s'.j/\Un (cg outer) [] H H' s.j s'.j/\dh P w H' s'.j∧
 (∀b o,s'.j.j b=y0 o->((∃u,H' b=y0 u)\/∃u,s.j.j b=y0 u)->b∉cg outer->B.j b=y0 o)/\s.j.j x=u0/\((∀dx,a=y0 dx->∃o,s'.j.j x=y0 o/\o.x=y0 dx)/\(CY a H'->gF s'.j x))/\E (.j C) a H'
noncomputable def g6(C t:Addr)(a:Option Addr):Obj:={cls:=.j C,dict:=a,data:=.w #[.j t,.x,.x,.x,.y y9,.x]}
section
variable{P:Program}{w:World}{K:Frag}{mg:Str->Option Value}{base:Heap}{N:List Str}{k7:Str}{scope:Scope}{f:Addr}{cd:Value}{A:Around}{outer:List Env}{s:Shared}{H:Hp}{E:XK}
def O3{pins:List<|Addr×Obj}{U:St}{H1:Hp}{s2:Shared}{e C t:Addr}{od:Option Addr}(I:Inv (eW (cJ P w) P w K mg base N k7 scope f cd A outer s H E) pins U H1 s2)
 {oe:Obj}{vs:Array Value}(he:s2.j.j e=y0 oe)(hc:oe.cls=.j C)(hod:oe.x=od)(hdt:oe.j=.w vs)(v0:vs[0]?=y0 (.j t))(v1:vs[1]?=y0 .x)(v2:CY od H1->vs[2]?=y0 .x)(new:s.j.j e=u0)(h0:H1 e=u0)(q:E (.j C) od H1):(eW (cJ P w) P w K mg base N k7 scope f cd A outer s H E).xe (.j e) s2:=by
 have ff:s2.j.y base _:=I.stack;have free:∀b∈cg _,H1 b=none:=I.cR;have fe:e∉cg _:=λhm=>by obtain⟨_,o,ho,nf⟩:=ff.mem hm;rw[he]at ho;cases ho;exact nf _ hdt
 refine PP (zU (QP _ _)<|wpAny_leaving_firstW (E:=λ_ _=>False)
  (Q:=λ_ s'=>Heap.LeftW (hideAll s2.j<|e::cg (envOfC k7 scope s.j.u.j f cd::outer)) (envOfC k7 scope s.j.u.j f cd::outer) e (.j C) (.j t) s2.j s'.j/\s'={s2 with heap:=s'.j})
  I.j.frames (funFrames_hide ff λenv he a ha=>Aa3 _<|An6.w ⟨env,he,ha⟩) rfl he (λb o z=>of_hideAll _ z) (hideAll_none _<|Aa4 ..) hdt v1 v0 λh' hL=>⟨by rw[←hc];exact hL,rfl⟩) (λ_ s' ⟨⟨hL,hs⟩,dk⟩=>?_)<|λ_ _ z=>z.1.j
 obtain⟨k1,k2,k3,x4⟩:=hL;obtain⟨h2,g2,d2,t2,o2⟩:=s';simp only[Shared.mk.injEq]at hs;obtain⟨-,rfl,rfl,rfl,rfl⟩:=hs;have fV:∀b o,s2.j.j b=y0 o->b≠e->b∉cg _->(hideAll s2.j<|e::cg (envOfC k7 scope s.j.u.j f cd::outer)).j b=y0 o:=λb o z ne n=>hideAll_get _ z (by rw[Ab5];exactλq=>q.j ne n);have toH:∀b o,s2.j.j b=y0 o->b≠e->b∉cg (envOfC k7 scope s.j.u.j f cd::outer)->h2.j b=y0 o:=λb o z ne n=>k1 b o<|fV b o z ne n;have slotH:∀b o,b∈cg (envOfC k7 scope s.j.u.j f cd::outer)->s2.j.j b=y0 o->∃sl,h2.j b=y0 {o with slots:=sl}:=λb o hb z=>by obtain⟨_,o',z',nf⟩:=ff.mem hb;rw[z]at z';cases z';exact x4 b o z nf
 have cut:∀b,b∉cg outer->b≠s.j.u.j->b∉cg (envOfC k7 scope s.j.u.j f cd::outer):=λb n1 n2 hb=>by
  rcases Ab5.u (show b∈s.j.u.j::cg outer from hb)with z|z
  .exact n2 z
  .exact n1 z
 have old:∀b o,s.j.j b=y0 o->b≠s.j.u.j:=λb o z=>Ac1<|Ac z;have olde:∀b o,s.j.j b=y0 o->b≠e:=λb o z q=>by rw[q,new]at z;cases z
 have eU:∀b u,H1 b=y0 u->b≠e/\b∉cg (envOfC k7 scope s.j.u.j f cd::outer):=λb u z=>⟨λq=>(by rw[q,h0]at z;cases z),λhb=>(by rw[free b hb]at z;cases z)⟩;refine⟨e,C,t,_,H1,od,rfl,I.os,I.bare,⟨k1,hideAll_none _<|Aa4 ..,k2.2.2,k3⟩,⟨λb o z n hb hx=>toH b o (I.x.keep b o z n hb hx) (olde b o z)<|cut b hb<|old b o z,λb o z n hb hx=>?_,I.x.free,λb o z hx=>?_,I.x.dq,I.x.c8⟩,λb u z=>?_,λb o z hc hb=>?_,new,⟨λdx z=>?_,λz=>gF.dk ⟨oe,vs,he,hdt,v2 z⟩ dk⟩,q⟩
 .obtain⟨sl,z1⟩:=I.x.slot b o z n hb hx;obtain⟨sl2,z2⟩:=slotH b _ (Aa3 _ hb) z1;exact⟨sl2,z2⟩
 .obtain⟨o',z1⟩:=I.x.j b o z hx;by_cases hb:b∈cg (envOfC k7 scope s.j.u.j f cd::outer)
  .obtain⟨sl,z2⟩:=slotH b o' hb z1;exact⟨_,z2⟩
  .exact⟨o',toH b o' z1 (olde b o z) hb⟩
 .refine(I.aT b u z).dz (λc v hc z1=>?_) (λ_ z1=>z1) λ_ _ z1=>z1;rcases hc with rfl|hc
  .exact toH c v z1 (eU c u z).1 (eU c u z).2
  .exact toH c v z1 (eU c _ hc).1 (eU c _ hc).2
 .have two:∃o2,s2.j.j b=y0 o2/\b≠e/\b∉cg (envOfC k7 scope s.j.u.j f cd::outer):=by
   rcases hc with⟨u,hu⟩|⟨u,hu⟩
   .obtain⟨o2,z2⟩:=(I.aT b u hu).there;exact⟨o2,z2,eU b u hu⟩
   .obtain⟨o2,z2⟩:=I.x.j b u hu (by show b∉([]:List Addr);simp);exact⟨o2,z2,olde b u hu,cut b hb<|old b u hu⟩
  obtain⟨o2,z2,nb⟩:=two;have z3:=toH b o2 z2 nb.1 nb.2;rw[show h2.j b=y0 o from z]at z3;cases z3;exact fV b _ z2 nb.1 nb.2
 .obtain⟨o',e1,e2⟩:=dk e _ he;exact⟨o',e1,e2.1.j<|hod.j z⟩
end
noncomputable abbrev n6:List Value:=[.w "ValueError",.w "Exception",.w "BaseException",.w "object"]
noncomputable def tN(x:Frag->Addr->Bool)(K:Frag)(C:Addr):Bool:=match K.u C with
|some ⟨t,_,.cls cd,l⟩=>u9 (t=.w "type"/\cd.mro=.j C::cd.mro.tail/\l=#[l.getD 0 none,l.getD 1 none,l.getD 2 none,l.getD 3 none,some (.u "ValueError.__new__"),l.getD 5 none]/\cd.hasDel=false)&&(tailIn K n6 cd.mro.tail&&(nsOkIn K cd.ns&&x K cd.ns))
|_=>y9
set_option tactic.hygienic true in
def z0{K:Frag}(X:K.In h)(q:tN x K C=k9):
 ∃Z O nm M bs L V sub W j dd k0 k1 k2 k3 k5,h.j C=some (excClassObj nm M C O bs Z L V sub W j dd k0 k1 k2 k3 k5 "ValueError.__new__")/\nsOkIn K O=true/\x K O=true/\OwnTail h n6 Z:=by
 unfold tN at q;split at q;next t dd cd l f=>
  simp only[Aa2,L2]at q;obtain⟨⟨rfl,b,g,e1⟩,e2,d,e⟩:=q;obtain⟨nm,bs,a,c,M,L,V,sub,W,j,k⟩:=cd;dsimp only at b e1 e2 d e;generalize a.tail=i at b e2;subst e1 b;rw[g]at f;exact⟨i,c,nm,M,bs,L,V,sub,W,j,dd,_,_,_,_,_,X _ _ f,d,e,tail_of_in X e2⟩
 next=>cases q
section
variable{P:Program}{w:World}{K:Frag}{mg:Str->Option Value}{base:Heap}{N:List Str}{k7:Str}{scope:Scope}{f:Addr}{cd:Value}{A:Around}{outer:List Env}{s:Shared}{H:Hp}{E:XK}
def kN.Ax {st:Stmt}(F:kN K x k7 st f fd)(S:qE N ps<|Qi st)(len:∀vs H Q E,sp vs H Q E->vs.e=ps.e)
 (a:∀j A outer s H vs Q E,ba k (A.x<|envOfC k7 (Qi st) s.j.u.j f j)->sp vs H Q E→
   ∃t,dj (eW (cJ P w) P w K mg base N k7 (Qi st) f j A outer s H E) (XD st) t/\t {nx:=λ_ H'=>Q .au H',rt:=Q} (start N vs) H):bx P w K mg base (cJ P w) (k+1) f fd ps sp:=by
 obtain⟨oc,m,n,g,l,i,j,o,h,rfl,d,b⟩:=F.ex;exact Fz d b S len λA outer s H vs Q E e c=>a j A outer s H vs Q E e c
def E1:PassesOwn (model P w) (A.x<|envOfC k7 scope s.j.u.j f cd) (envOfC k7 scope s.j.u.j f cd) (eW (cJ P w) P w K mg base N k7 scope f cd A outer s H E).xe:=
 PassesOwn.leaving
end
section
variable{X:Cx}{pins:List<|Addr×Obj}{U:St}{H:Hp}{s:Shared}
def Inv.iC (I:Inv X pins U H s)(d:Ah4 X.j.w s.j h')(l:h'.Ns X.j.w m')
 (q:∀(i:Nat)(x:Str)(v:V),X.N[i]?=y0 x->U'[i]?=y0 (y0 v)->nB X.j.j x->∃u,RelV v u/\A4 X.j h' m' x u)(len:U'.e=X.N.e):Inv X pins U' H {s with heap:=h',toks:=t'}:=by
 have a:∀b o,X.s₀.j.j b=y0 o->b≠X.j.w:=λb o e=>Ac1<|Ab3 (Ac e) I.j.above;refine⟨I.j,I.os,I.bare,⟨λb o e n j h=>(d.2 b<|a b o e).j<|I.x.keep b o e n j h,λb o e n j h=>?_,I.x.free,λb o e h=>?_,I.x.dq,I.x.c8⟩,⟨m',l,q⟩,λy c e=>?_,I.free,I.bI,λp m=>?_,λb u e=>?_,len⟩
 .obtain⟨sl,e1⟩:=I.x.slot b o e n j h;exact⟨sl,(d.2 b<|a b o e).j e1⟩
 .obtain⟨k,e1⟩:=I.x.j b o e h;exact⟨k,(d.2 b<|a b o e).j e1⟩
 .obtain⟨v,z⟩:=I.cell y c e;exact⟨v,z.sameBut d<|I.iu y c e⟩
 .obtain⟨e,n,ne,r⟩:=I.N p m;exact⟨(d.2 p.1 ne).j e,n,ne,r⟩
 .refine(I.aT b u e).dz (λc v f z=>(d.2 c ?_).j z) (λ_ z=>z) λ_ _ z=>z;intro g;obtain f|f:=f
  .rw[←f,g,I.free]at e;cases e
  .rw[g,I.free]at f;cases f
def Hi(I:Inv X pins U H s)(B:X.N.M)(p:X.N[i]?=y0 n)(q:X.j.j.j.u n=y0 .local)
 (h:∀s',Inv X pins (U.y i u0) H s'->Q () s'):wpAny M A (do bindName X.j n .x;unbindBehindTheSuite X.j n hp) Q E s:=by
 have o:(X.j.j.u==.class||(X.j.j.u==.module&&X.j.w !=X.j.globals))=false:=by rw[I.j.kind];rfl
 have x:X.j.x n=y0 .local:=q;have g:i<U.e:=by rw[I.len];exact(Aa0.u p).1
 refine AC<|wpAny_bindName<|Zv I B p (.u q) (v:=.au) rfl (λG t=>?_)<|.w q;obtain⟨m,D,a⟩:=t.loc;have d:(m n).w=true:=by
  obtain⟨u,_,l⟩:=a i n .au p (Ab8 g)<|.u q;obtain⟨_,e⟩|⟨z,_⟩:=l
  .rw[e];rfl
  .rcases z with z|z<;>(rw[x]at z;cases z)
 refine wpAny_onRaise<|AC<|VD<|AC ?_;unfold deleteName;simp only[x,o];refine AC<|wpAny_nsDel_keeps D λJ v w f=>?_;rw[d];refine FS<|VD<|h _ ?_;refine t.iC f w (λj y C e1 e2 F=>?_) (by rw[Ad5];exact I.len);have b:j≠i:=λz=>by subst z;rw[Ab8 g]at e2;cases e2
 rw[Ad3<|Ne.symm b]at e2;obtain⟨u,r,l⟩:=a j y C e1 (by rwa [Ad3<|Ne.symm b]) F;refine⟨u,r,?_⟩;obtain⟨k,e⟩|⟨k,c,e,z⟩:=l
 .refine .u ⟨k,?_⟩;have:y≠n:=λe=>b<|WX B e1<|e▸p;simp[this,e]
 .exact .w ⟨k,c,e,z.sameBut f<|t.iu y c e⟩
end
def EI{K:Frag}(X:K.In s.j)(I:ExcAt s.j x C)(z:kitCls K (.j C) (.j W)=some true)(b:mroIn K W (.w "BaseException")=some true)(e:Q true s):
 wpAny (model prog w) A (excMatches (.j x)<|.j W) Q E s:=by
 obtain⟨a,f,dd,h,k⟩:=s;obtain⟨d,c,j⟩:=kit_cls X z;have Le:=I.type (M:=model prog w);have g:Looks (model prog w) a (isInstance _ _) false:=d.a6<|Looks.of_pure tc_notTuple;have i:Looks _ a (isExcClass _) true:=c.a6<|looks_mroIn X b
 repeat lk
 exact e
def ua{l f:Shared}(k:Inv X pins U H1 l)(q:f.os=l.os)(g:AllBare f.w)(un:Un (cg X.B) [] H1 H' l.j f.j)(m:dh X.u X.w H' f.j)
 (comp:∀b o,f.j.j b=y0 o->((∃u,H' b=y0 u)\/∃u,l.j.j b=y0 u)->b∉cg X.B->B.j b=y0 o)(i:Ap6 B X.B x (.j C) (.j t) h6)(sm:f.j.C h6):Inv X pins U H' {f with heap:=h6}:=by
 have eU:∀c u,H' c=y0 u->c∉cg X.B:=λc u z d=>by obtain⟨_,o,e,_⟩:=k.stack.mem d;have:=un.free c o e (k.cR c d) Y7;rw[this]at z;cases z
 refine k.kn q ⟨λb o e n a h=>i.1 b o<|comp b o (un.keep b o e n a h) (.w ⟨o,e⟩) a,λb o e n a h=>?_,un.free,λb o e h=>?_,un.dq,un.c8⟩ (λb u e=>?_) g λb a=>absurd a Y7
 .obtain⟨sl,e1⟩:=un.slot b o e n a h;obtain⟨_,j,e2,s⟩:=k.stack.mem a;rw[e]at e2;cases e2;obtain⟨p,w⟩:=sm b _ e1 s;exact⟨p,w⟩
 .obtain⟨j,e1⟩:=un.j b o e h;by_cases a:b∈cg X.B
  .obtain⟨_,r,e2,_⟩:=i.2.2.1.mem a;exact⟨r,e2⟩
  .exact⟨j,i.1 b j<|comp b j e1 (.w ⟨o,e⟩) a⟩
 .refine(m b u e).dz (λc v d z=>?_) (λ_ z=>z) λ_ _ z=>z;obtain rfl|d:=d
  .exact i.1 c v<|comp c v z (.u ⟨u,e⟩)<|eU c u e
  .exact i.1 c v<|comp c v z (.u ⟨_,d⟩)<|eU c _ d
def tY{R:Heap->Prop}(k:KD t)(h:∀j:Unit->Shared->Prop,(∀h',R h'->j () {s with heap:=h'})->wpAny M A t j E s)(g:∀h',R h'->DK s.j h'->Q () {s with heap:=h'}):wpAny M A t Q E s:=
 PP (zU k<|h (λ_ a=>∃h',a={s with heap:=h'}/\R h') λh' r=>⟨h',rfl,r⟩) (λ_ a ⟨⟨h',e,r⟩,dk⟩=>by subst e;exact g h' r dk)<|λ_ _ z=>z.1
def QZ(K):PySem.W.kitOne K (.w "list") (.w "list")=some true:=by kernel_rfl
def bx.calm {K:Frag}(F:bx P w K mg base (cJ P w) k f fd ps sp)
 (h:∀vs H Q E,sp0 vs H Q E->sp vs H Q (λ_ _ _=>False)):bx P w K mg base oi k f fd ps sp0:=by
 refine⟨λvs H Q E q=>F.len vs H Q _<|h _ _ _ _ q,λA a s H b j vs Q E d e i g l=>S5 (F.run A a s H b j vs Q _ d e i g<|h _ _ _ _ l) λres r c=>?_⟩;cases res with
|ok n=>
  cases n with
 |_=>exact c
|error o=>obtain⟨x,C,t,B,p,_,_,_,_,_,_,_,_,_,_,m⟩:=c;exact m
def Hb:bootBuiltins "ValueError"=some (.w "ValueError"):=by decide+kernel
section
variable{X:Cx}
def Vals.kH (r:Vals xs us){i:Nat}(h:us[i]?=y0 u):∃x,xs[i]?=y0 x/\RelV x u:=by
 have d:=r.e;have e:=(Aa0.u h).1;have a:i<xs.e:=by lia
 obtain⟨f,b,c⟩:=r.get<|Aa1 a;rw[h]at b;cases b;exact⟨_,Aa1 a,c⟩
def MU(bs:List Bool):(Aa6 bs.e).N (λi=>bs.I i y9)=bs.N id:=by
 induction bs with
|nil=>rfl
|cons b bs a=>rw[Aa9,Ai2,Am0,An8,Am0,←a];rfl
def HU(bs:List Bool):(Aa6 bs.e).C (λi=>bs.I i y9)=bs.C id:=by
 induction bs with
|nil=>rfl
|cons b bs a=>rw[Aa9,Ai2,Ah6,Ar3,Ah6,←a];rfl
def Br{bs:List Bool}(r:Vals (bs.j V.bl) its):TruthOf P w A (λi v=>its.w[i]?=y0 v)<|λi=>bs.I i y9:=by
 intro i v s Q E d g;obtain⟨x,a,f⟩:=r.kH (by simpa using d);rw[Ab9]at a;cases c:bs[i]? with
|none=>rw[c]at a;cases a
|some b=>
  rw[c]at a;cases a;cases f;refine SZ ?_;have e:bs.I i y9=b:=by rw[Ac9,c];rfl
  rwa [←e]
def Io(m:X.y=k9):zr X (.u "all")<|fun xs H Q=>∃p,∃bs:List Bool,xs=[.j p]/\bu X.K H p (bs.j V.bl)/\Q (.bl<|bs.N id) H:=by rintro c s U H xs v Q I r⟨p,bs,rfl,g,q⟩;obtain⟨u,rfl,k⟩:=zP r;cases k;obtain⟨d,rv,pl,t⟩:=I.G g;have a:=rv.e;rw[Aa]at a;refine call_all_walk<|Ta pl.K ?_;refine⟨s.j.u.j,_,_,_,_,_,λi=>bs.I i y9,rfl,Walks.list (A:=X.A.u) (I.j.hd m) _ p (by obtain⟨o,l,_⟩:=pl.K;exact Ac1<|Ac l) d.w,⟨⟨_,Ac4 _ rfl,rfl,rfl⟩,pl.K.at λo e=>Aa8 _ e⟩,Br rv,λh n j=>?_⟩;have f:Inv X c U H {s with heap:=h,toks:=n}:=I.M λb o e=>j b o (by simp;exact Ac1<|Ac e)<|Aa8 _ e;refine⟨.bl _,H,f,?_,q⟩;show _=_;rw[Ac7,←a,MU]
def Mo(m:X.y=k9):zr X (.u "any")<|fun xs H Q=>∃p,∃bs:List Bool,xs=[.j p]/\bu X.K H p (bs.j V.bl)/\Q (.bl<|bs.C id) H:=by rintro c s U H xs v Q I r⟨p,bs,rfl,g,q⟩;obtain⟨u,rfl,k⟩:=zP r;cases k;obtain⟨d,rv,pl,t⟩:=I.G g;have a:=rv.e;rw[Aa]at a;refine call_any_walk<|Ta pl.K ?_;refine⟨s.j.u.j,_,_,_,_,_,λi=>bs.I i y9,rfl,Walks.list (A:=X.A.u) (I.j.hd m) _ p (by obtain⟨o,l,_⟩:=pl.K;exact Ac1<|Ac l) d.w,⟨⟨_,Ac4 _ rfl,rfl,rfl⟩,pl.K.at λo e=>Aa8 _ e⟩,Br rv,λh n j=>?_⟩;have f:Inv X c U H {s with heap:=h,toks:=n}:=I.M λb o e=>j b o (by simp;exact Ac1<|Ac e)<|Aa8 _ e;refine⟨.bl _,H,f,?_,q⟩;show _=_;rw[Ac7,←a,HU]
noncomputable def hX:List Int->Int
|[]=>0
|i::r=>i+hX r
theorem Q4:∀(xs)(x),hX (xs++[x])=hX xs+x
|[],x=>by simp[hX]
|y::a,x=>by show y+hX (a++[x])=y+hX a+x;rw[Q4 a x];lia
theorem ZK(ns:List Int):∀j,j<=ns.e->preSum (λi=>ns.I i 0) j=hX (ns.A j)
|0,_=>rfl
|j+1,h=>by rw[preSum,ZK ns j<|Ag ‹_›,List.take_succ,Aa1<|‹_›];show _=hX (ns.A j++[ns[j]]);rw[Q4,Ac9,Aa1<|‹_›];rfl
end
section
variable{X:Cx}
theorem zF:∀{j}{us},Vals (j.j V.str) us->StrsAre us j
|[],us,r=>by cases r;exact .nil
|z::j,us,r=>by
  cases r with
|cons h t=>obtain⟨k,rfl⟩:=h;exact .cons _ _<|zF t
theorem Bc:∀{us}{j},StrsAre us j->Vals (j.j V.str) us
|_,_,.nil=>.u
|_,_,.cons _ _ h=>.j ⟨_,rfl⟩<|Bc h
def Q9:zr X (.u "sorted")<|fun xs H Q=>∃p,∃L:List Str,xs=[.j p]/\bu X.K H p (L.j V.str)/\L.e<64/\∀j,j.a4 L->sortedS j=true->∀l,H l=none->Q (.j l) (aH H l<|.x<|j.j V.str):=by rintro g s U H xs t Q I r⟨p,L,rfl,i,n,q⟩;obtain⟨u,rfl,m⟩:=zP r;cases m;obtain⟨d,rv,pl,f⟩:=I.G i;have a:=rv.e;rw[Aa]at a;refine sorted_strs pl.K (zF rv) Y6 λc j k a2 a3=>?_;obtain⟨e,h⟩:=sortedAll_at s.j d c;refine⟨.j _,_,I.laid (λb o e=>sortedAll_old e) (Af1 _)<|show aS X.u X.w _ _ _ (.x _)from⟨by rw[Aa];exact(by rw[a2.u];rw[Aa]at f;exact f),c.u,e,Bc k,by simpa[seqObj]using h⟩,rfl,q j a2 a3 _<|I.aT.Q<|Af1 _⟩
end
section
variable{X:Cx}
noncomputable def ku(x:Str)(n:Nat):Str:=⟨(Aa7 n x.j).Z (·++·) #[]⟩
theorem X8:∀n (a b:Array α),((Aa7 n a).Z (·++·) b).u=b.u++(Aa7 n a.u).T
|0,a,b=>by simp
|n+1,a,b=>by rw[Ag1,Am,X8 n,Ag1,Vs];simp
def wL(x)(n):(ku x n).j.u=(Aa7 n x.j.u).T:=by unfold ku;rw[X8];simp
def Ox(x)(n):(ku x n).e=x.e*n:=by show(ku x n).j.j=x.j.j*n;rw[←Ah1,wL];simp[Ap9]
def CI{a b:Str}(h:a.j.u=b.j.u):a=b:=by cases a;cases b;simp[Str.mk.injEq];exact Array.toList_inj.u h
def D8:cn X (binaryOp .Mult)<|λx y H Q=>∃z k,x=.u z/\y=.p k/\0<=k/\k<=1000/\z.e*k.j<=1000000/\Q (.u<|ku z k.j) H:=by
 rintro pins s U H x y v u Q I rx ry⟨z,k,rfl,rfl,h0,h1,hl,q⟩;obtain⟨t,rfl⟩:=rx;obtain⟨t',rfl⟩:=ry;have hsz:(ku z k.j).e<=sizeLine:=by rw[Ox];exact Ab4 hl Y5
 refine P.mul_str (by
  have a:¬k< -(2^63:Int):=by lia
  have b:¬k>=2^63:=by lia
  rw[IR a,IR b];rfl) (λc1 c2=>?_) (λc1 c2=>?_) ?_
 .have hk:=‹_›;have:(2:Int)^63-1>=(z.e:Int)*k:=by
   have e:((z.e*k.j:Nat):Int)=(z.e:Int)*k:=by rw[Uq,U5 h0]
   have:=hl;lia
  have:=Int.le_ediv_of_mul_le (c:=k) (by omega)<|‹_›;lia
 .unfold Builtin.Str.tooLong
  exact IR<|by have:sizeLine>=1000000:=by decide
               lia
 .by_cases c1:k<1
  .have hk:k=0:=by lia
   subst hk;rw[Da c1];exact⟨by decide,.u _,H,I.M λb o e=>e,⟨_,rfl⟩,q⟩
  .rw[FM c1];by_cases c2:(k==1||z.e==0)=k9
   .rw[Da c2];have e:ku z k.j=z:=by
     apply CI;rw[wL];obtain c|c:=Al4.u c2
     .have:k=1:=by simpa using c
      subst this;simp
     .have:z.j.u=[]:=by
       have c:z.e=0:=by simpa using c
       have c:z.j.j=0:=c;rw[←Ah1]at c;exact Ak c
      rw[this];simp
    rw[e]at q;exact⟨.u z,H,I,⟨t,rfl⟩,q⟩
   .rw[FM c2];exact⟨hsz,.u _,H,I.M λb o e=>e,⟨_,rfl⟩,q⟩
def IC:cn X (binaryOp .Add)<|λx y H Q=>∃a b ys,x=.j a/\y=.j b/\de X.K H a []/\de X.K H b ys/\Q (.j b) H:=by
 rintro j s U H x y v u Q I A r⟨a,b,ys,rfl,rfl,F,w,q⟩;cases A;cases r;obtain⟨C,t,o,_⟩:=I.tuple F;obtain⟨c,G,B,_⟩:=I.tuple w;cases t;obtain⟨⟨z,dd,l,sl⟩,k,D,n,p⟩:=id o;obtain⟨⟨m,e,f,h⟩,d,i,E,g⟩:=id B;subst D p i g;exact Ua ⟨_,k,rfl⟩ ⟨_,d,rfl⟩ Uc UU TU TM (TJ _ _)
  (tuple_addW0 a b _ c.w n E dd e sl h rfl) ⟨k,d,.j b,H,I,rfl,q⟩
def Fl(C:X.y=k9):zr X (.u "sum")<|fun xs H Q=>∃p,∃ns:List Int,xs=[.j p]/\bu X.K H p (ns.j V.int)/\Q (.p<|hX ns) H:=by
 rintro h s U H xs G Q I r⟨p,ns,rfl,l,q⟩;obtain⟨u,rfl,y⟩:=zP r;cases y;obtain⟨j,rv,pl,F⟩:=I.G l;have a:=rv.e;rw[Aa]at a;refine call_sum_walkG<|Ta pl.K ?_;have d:p<s.j.u.j:=by obtain⟨o,z,_⟩:=pl.K;exact Ac z
 have f:s.j.u.j<(s.j.w {cls:=.w "list_iterator",data:=.w #[.j p,.p 0 0]}).u.j:=Heap.lt_size<|Ac4 _ rfl;refine⟨s.j.u.j,_,_,_,_,_,λi=>ns.I i 0,rfl,Walks.list (A:=X.A.u) (I.j.hd C) _ p (Ac1 d) j.w,⟨⟨_,Ac4 _ rfl,rfl,rfl⟩,pl.K.at λo e=>Aa8 _ e⟩,λb c=>?_,λi v m=>?_,λn D B w=>?_⟩
 .simp[or_false]at c;obtain rfl|rfl:=c
  .exact f
  .exact Yf d f
 .obtain⟨x,g,E⟩:=rv.kH (by simpa using m);rw[Ab9]at g;cases c:ns[i]? with
|none=>rw[c]at g;cases g
|some b=>rw[c]at g;cases g;obtain⟨t,rfl⟩:=E;exact⟨t,by show Value.int b t=Value.int (ns.I i 0) t;rw[Ac9,c];rfl⟩
 .have k:Inv X h U H {s with heap:=n,toks:=D}:=I.M λb o e=>w b o (by simp;exact Ac1<|Ac e)<|Aa8 _ e;refine⟨.p _,H,k,⟨B,?_⟩,q⟩;rw[Ac7,←a,ZK ns _<|Ab0 _,Ap]
theorem zR:∀{ns}{j},Vals (ns.j V.int) j->∃ps:List<|Int×Tok,j=ps.j (λp=>.p p.1 p.2)/\ps.j (·.1)=ns
|[],j,r=>by cases r;exact⟨[],rfl,rfl⟩
|n::ns,j,r=>by
  cases r with
|cons h t=>obtain⟨k,rfl⟩:=h;obtain⟨ps,e1,e2⟩:=zR t;exact⟨(n,k)::ps,by rw[e1];rfl,by rw[←e2];rfl⟩
def zJ(lo)(d n)(a:d<=n):(match lo with|none=>(d:Int)|some i=>max 0<|min (if i<0 then i+n else i) n)=((HT.a8 n d lo:Nat):Int)/\HT.a8 n d lo<=n:=by
 cases lo with
|none=>exact⟨rfl,a⟩
|some i=>
  by_cases q:i<0
  .simp[HT.a8,q,Os];lia
  .simp[HT.a8,q,TK];lia
def j7(x:Str)(a b:Option Int):Builtin.Str.strSliceIndices a b 1 x.e=(Aa6<|HT.a8 x.e x.e b-HT.a8 x.e 0 a).j λk=>HT.a8 x.e 0 a+k:=by
 have e:Builtin.Str.strSliceIndices a b 1 x.e=sliceRange ((HT.a8 x.e 0 a)) ((HT.a8 x.e x.e b)) 1:=by rw[←(zJ a 0 x.e<|Ag0 _).1,←(zJ b x.e x.e<|Ab0 _).1];cases a<;>cases b<;>rfl
 rw[e];unfold sliceRange;simp only[show(1:Int)>0 by decide,Os,Ye,Yj];have e2:(if((HT.a8 x.e 0 a))<((HT.a8 x.e x.e b:Nat):Int)then((HT.a8 x.e x.e b))-((HT.a8 x.e 0 a:Nat):Int)+1-1 else 0).j=HT.a8 x.e x.e b-HT.a8 x.e 0 a:=by split<;>lia
 rw[e2];refine Aj6 λk _=>?_;exact VH _
noncomputable def mx(x:Str)(a b:Option Int):Str:=⟨((x.j.u.G<|HT.a8 x.e 0 a).A<|HT.a8 x.e x.e b-HT.a8 x.e 0 a).w⟩
def Ig(x)(lo hi):Txt.slice x lo hi=mx x lo hi:=by
 have c:=(zJ lo 0 x.e<|Ag0 _).2;have a:=(zJ hi x.e x.e<|Ab0 _).2;by_cases q:HT.a8 x.e 0 lo<=HT.a8 x.e x.e hi
 .have e:=StrLaws.sliceText_nat x q a;rw[show mx x lo hi=⟨((x.j.u.G _).A _).w⟩from rfl,←e];unfold Txt.slice StrLaws.sliceText;rw[j7 x lo hi,StrLaws.strSliceIndices_plain q a]
 .have b:HT.a8 x.e x.e hi-HT.a8 x.e 0 lo=0:=by lia
  unfold Txt.slice mx;rw[j7 x lo hi,b,FM<|by simp;lia];simp
def tj:V->Option Int->Option Int->Hp->VK->Prop:=λx lo hi H Q=>∃z,x=.u z/\z.e<=sizeLine/\Q (.u<|mx z lo hi) H
def sQ:g9 X tj:=by
 rintro a s U H x v n p g h sl Q I j c pl m⟨z,rfl,i,q⟩;obtain⟨t,rfl⟩:=j;refine⟨"str",_,F.slot_str_getitem.u,T8 _ _ _,?_⟩;have fin:∀f k,EP X a U Q (.str (Txt.slice z g h) f) {s with toks:=k}:=λf k=>by rw[Ig];exact⟨.u _,H,I.M (t':=k) λb o e=>e,⟨_,rfl⟩,q⟩
 have d:(Txt.slice z g h).e<=sizeLine:=Ab4 (Txt.slice_le z _ _) i;cases pl<;>cases m
 .exact Ti (l:=u0) (u:=u0) (st:=u0) c rfl<|TY ⟨d,fin⟩
 .exact Ti (l:=u0) (u:=y0 (_,_)) (st:=u0) c rfl<|TY ⟨d,fin⟩
 .exact Ti (l:=y0 (_,_)) (u:=u0) (st:=u0) c rfl<|TY ⟨d,fin⟩
 .exact Ti (l:=y0 (_,_)) (u:=y0 (_,_)) (st:=u0) c rfl<|TY ⟨d,fin⟩
end
open PySem PySem.Spec PyProof.Rows PySem.MeetsSeq
section
variable{X:Cx}
def HN{e:Nat->Bool}(k:IsTup s.j a u8)
 (m:∀i y,u8[i]?=y0 y->PySem.SeqAt.EqAt A.u s y x (e i))(r:j<u8.j)(d:e j=k9)(f:∀i,i<j->e i=y9)(h:∀t',Q (.p (j:Int) t') {s with toks:=s.u+1}):
 wpAny (model prog w) A (call (.u "tuple.index") [.j a,x]) Q E s:=by
 refine S7 F.slot_tuple_index k.Y F.entry_tuple_index (AC<|Tq (show PySem.selfAndSome "tuple.index" "index" 1 3 ⟨[.j a,x],[]⟩=pure (Value.ref a,[x])from rfl)<|AC<|UV k<|AC<|FS<|AC<|FS<|AC ?_)<|F.args_tuple_index_2 _ _;rw[Yg,Std.Legacy.Range.forIn_eq_forIn_range'];refine wpAny_forIn_list _ (λrest b g=>g=s/\b=(u0,())/\∃i,i<=j/\rest=Am3 i (u8.j-i)) _ ?_ ?_ _ _ ⟨rfl,rfl,0,Ag0 _,by simp⟩
 .rintro i rest b g ⟨rfl,rfl,i0,o,c⟩;have e1:u8.j-i0=(u8.j-(i0+1))+1:=by lia
  rw[e1,Al0]at c;injection c with n p
  subst n;have l:i<u8.j:=Ai9 ‹_› ‹_›;rw[Aj l];refine AC<|m i u8[i] (Aj l) prog w _ _ ?_;by_cases q:i=j
  .subst q;rw[d,Da rfl];exact AC<|AC<|wpAny_mkInt<|FS<|FS<|FS ⟨_,rfl,h _⟩
  .rw[f i Y6,FM Ac0];exact FS ⟨rfl,rfl,i+1,by lia,p⟩
 .rintro b g ⟨rfl,rfl,i0,o,c⟩;have e1:u8.j-i0=(u8.j-(i0+1))+1:=by lia
  rw[e1,Al0]at c;cases c
def jL{T id:String}(z:PlainAttrs T)(f:Slot T name id)(i:typeOf (.u id)=pure (.w "method_descriptor"))(E:oQ X T ty)(y:iG X id r)(B:PE X o to)(M:PA X (e::es) t)
 (b:attributeBase o name X.j (eval o X.j)=eval o X.j)
 (d:((backTo cpos<|starEach (e::es) X.j).N (λx=>!x.1)&&(backToKw cpos<|keywordEach [] X.j).N (λx=>x.1.w)
   &&u9 ((e::es).e+([]:List Keyword).e+(if([]:List Keyword).U then 0 else 1)<30))=k9)
 (c:(apos.j==cpos.u)=k9)(D:starEach (e::es) X.j=(y9,eval e X.j)::starEach es X.j)(g:(backTo cpos<|starEach es X.j).C (·.1)=y9):
 PE X (.y (.u o name apos) (e::es) [] cpos)<|BN ty r to t:=by
 intro a s U H Q I h;refine wpAny_Call_method_late b d c rfl<|aN (B a s U H _ I h) ?_;rintro v k ⟨x,n,j,l,F,A⟩;obtain⟨q,L⟩:=E a k U n x v j l F;refine⟨T,id,z,f,i,q,L,?_⟩;have m:=M cpos a k U n _ j A;rw[D]at m⊢;exact Uz (by assumption)<|Calls.evalArgs_plain<|aN m<|by rintro C K⟨u,G,J,p,w⟩;exact y a K U G x u v C Q J l p w
def Bq(K:PySem.W.Frag)(H:Hp)(a:Addr):Prop:=(∃xs,H a=some (.tup xs))\/∃o,K.u a=some o/\o.cls=.w "tuple"/\o.x=none
def OW:oQ X "tuple"<|fun x H=>∃a,x=.j a/\Bq X.K H a:=by
 intro f s U H x v I r h;obtain⟨a,rfl,h⟩:=h;cases r;obtain⟨l,h⟩|⟨o,g,k,i⟩:=h
 .obtain⟨_,j,_,o,e,c,d,n,m⟩:=I.aT a _ h;refine⟨⟨o,e,c⟩,λb z=>?_⟩;cases z;exact⟨o,e,d⟩
 .refine⟨⟨o,I.bQ a o g,k⟩,λb z=>?_⟩;cases z;exact⟨o,I.bQ _ o g,i⟩
def FJ:oQ X "str"<|fun x _=>∃z,x=.u z:=by rintro a s U H x v I r⟨z,rfl⟩;obtain⟨t,rfl⟩:=r;exact⟨T8 s z t,λ_ e=>nomatch e⟩
def uO:oQ X "list"<|fun x H=>∃a xs,x=.j a/\bu X.K H a xs:=by intro d s U H x v I r h;obtain⟨a,xs,rfl,h⟩:=h;cases r;obtain⟨g,_,pl,_⟩:=I.G h;refine⟨pl.K.typeIs,λb e=>?_⟩;cases e;obtain⟨o,n,e,c,f,_⟩:=pl;exact⟨o,e,f⟩
noncomputable def mv(x:Str):List Str->Option Nat
|[]=>u0
|y::ys=>if y=x then y0 0 else(mv x ys).j (·+1)
theorem ug:∀{L}{j},mv x L=y0 j->j<L.e/\L[j]?=y0 x/\∀i,i<j->∀y,L[i]?=y0 y->y≠x
|[],_,h=>by cases h
|y::g,j,h=>by
  unfold mv at h;split at h
  .rename_i q;cases h;exact⟨Nat.zero_lt_succ _,by simp[q],λi b=>absurd b<|Ah5 _⟩
  .rename_i q;obtain⟨k,e,rfl⟩:=Ah.u h;obtain⟨d,f,c⟩:=ug e;refine⟨Nat.succ_lt_succ d,by simpa using f,λi b z a=>?_⟩;cases i with
|zero=>simp at a;rw[←a];exact q
|succ i=>exact c i (On ‹_›) z<|by simpa using a
def O1(K:Ab1):V->List V->Hp->VK->Prop:=λx vs H Q=>∃a z j,∃b:List Str,x=.j a/\vs=[.u z]/\de K H a (b.j V.str)/\mv z b=y0 j/\Q (.p (j:Nat)) H
def HZ:iG X "tuple.index"<|O1 X.K:=by
 rintro m s U H x L v O Q I C rv⟨a,z,j,f,rfl,rfl,n,E,q⟩;cases C;obtain⟨u,rfl,D⟩:=rv.one;obtain⟨t,rfl⟩:=D;obtain⟨h,r,p,M⟩:=I.tuple n;obtain⟨K,J,F⟩:=ug E;have l:=r.e;have look:∀(i:Nat) y,h.w[i]?=y0 y->∃w d,f[i]?=y0 w/\y=Value.str w d:=λi y g=>by
  obtain⟨N,e1,e2⟩:=r.kH (by simpa using g);rw[Ab9]at e1;cases k:f[i]? with
|none=>rw[k]at e1;cases e1
|some b=>rw[k]at e1;cases e1;obtain⟨d,rfl⟩:=e2;exact⟨b,d,rfl,rfl⟩
 refine HN (e:=λi=>u9<|f[i]?=y0 z) p (λi y g=>?_) (by simp_all) (FB J) (λi B=>?_) λd=>⟨.p j,H,I.M λb o e=>e,⟨d,rfl⟩,q⟩
 .obtain⟨w,d,e,rfl⟩:=look i y g;have:=PySem.SeqAt.EqAt.str_str (A:=X.A.u) (s:=s) w d z t;have e2:u9 (f[i]?=y0 z)=(w==z):=by
   rw[e];by_cases q:w=z
   .subst q;simp
   .simp[q]
  rwa [e2]
 .have G:=‹_›;exact IR λc=>F i B z c rfl
def OD(K:Ab1):V->List V->Hp->VK->Prop:=λx vs H Q=>∃a n,∃ns:List Int,x=.j a/\vs=[.p n]/\bu K H a (ns.j V.int)/\Q (.p ((ns.count n:Nat):Int)) H
def P7:iG X "list.count"<|OD X.K:=by
 rintro c s U H x C v G Q I m rv⟨a,n,B,rfl,rfl,j,q⟩;cases m;obtain⟨u,rfl,z⟩:=rv.one;obtain⟨t,rfl⟩:=z;obtain⟨w,r,pl,D⟩:=I.G j;obtain⟨E,rfl,e2⟩:=zR r;obtain⟨⟨l,dd,g,sl⟩,f,A,k,h⟩:=id pl.K;subst A h;refine Tu F.slot_list_count ⟨_,f,rfl⟩ F.entry_list_count (F.args_list_count_2 _ _) (PySem.SeqAt.list_countAt a _ k dd sl _<|λy=>match y with|.p i _=>i==n|_=>y9) ⟨f,λy d=>?_,?_⟩
 .simp only[List.mem_toArray,Ab7]at d;obtain⟨p,_,rfl⟩:=d;exact PySem.SeqAt.EqAt.int_int p.1 p.2 n t
 .refine⟨.p _,H,I.M λb o e=>e,⟨s.u,?_⟩,q⟩;rw[←e2,List.count_eq_countP,VX];simp only[VX];rfl
end
def xP:bootBuiltins "enumerate"=some (.w "enumerate"):=by decide+kernel
section
variable{prog:Program}{w:World}{A:Around}{E:Value->Shared->Prop}{s:Shared}
noncomputable abbrev gB(led:Bool):Obj:={cls:=.w "set",dict:=none,data:=.set #[] 0<|.fresh 0 0 led}
end
def Lq(h:ItemsOf (λi v=>∃t,v=Value.int (0+(i:Int)*1) t) acc n):Vals ((Aa6 n).j λ(i:Nat)=>V.int (i:Int)) acc.u:=by
 have d:∀a k m,a.e=m->(∀j v,a[j]?=y0 v->∃t,v=Value.int (k+j:Nat) t)->Vals ((Am3 k m).j λ(i:Nat)=>V.int i) a:=by
  intro a;induction a with
|nil=>intro k m b _;cases b;exact .u
|cons x a f=>intro k m b c;cases b;refine .j (c 0 x rfl)<|f _ _ rfl λj v g=>?_;obtain⟨t,e⟩:=c (j+1) v (by simp_all);exact⟨t,by rw[e];congr 1;lia⟩
 rw[An1];refine d acc.u 0 n (by rw[Ah1];exact h.1) λj v g=>?_;obtain⟨t,e⟩:=h.2 j v (by simp_all);exact⟨t,by rw[e];congr 1;lia⟩
section
variable{X:Cx}
def M5:bootBuiltins "range"=some (.w "range"):=by decide+kernel
end
def ZL{d f:Option Int}(a:IsTup s.j t vs)(e:s.j.IsSliceOf sl vl vu .x)(pl:IsPart vl d)(g:IsPart vu f)
 (k:HT.a8 vs.j 0 d=0)(h1:HT.a8 vs.j vs.j f=vs.j)(h:Q (.j t) s):wpAny (model prog w) A (getItem (.j t)<|.j sl) Q E s:=by
 obtain⟨i,c,b,j⟩:=id e;unfold getItem
 try with_reducible refine Pi ?_
 refine AC<|Vr a.Y rfl<|AC<|TN a.Y S4
 <|S7 S4 a.Y PyProof.Rows.entry_tuple_getitem ?_<|PyProof.Rows.args_tuple_getitem _ _
 show wpAny _ _ (Builtin.Tuple.tupleItemsOf _>>=_) _ _ s;refine AC<|UV a<|AC<|Ud (⟨i,c,b⟩)<|AC<|HT.bU e pl g ?_;show wpAny _ _ (if _=k9 then _ else _) _ _ s;rw[Da<|by simp_all];exact AC<|AC<|Ud a.Y<|FS<|AC<|wpAny_rule<|FS ⟨_,rfl,FS h⟩
section
variable{X:Cx}
def rk(K:Ab1):V->Option Int->Option Int->Hp->VK->Prop:=λx lo hi H Q=>∃a xs,x=.j a/\de K H a xs/\HT.a8 xs.e 0 lo=0/\HT.a8 xs.e xs.e hi=xs.e/\Q (.j a) H
def LJ:g9 X<|rk X.K:=by
 rintro d s U H x v k t m p sl Q I g h pl j⟨a,f,rfl,i,o,l,q⟩;cases g;obtain⟨c,r,e,n⟩:=I.tuple i;have b:c.w.j=f.e:=by rw[Ac7];exact r.e.u
 exact⟨"tuple",_,PyProof.Rows.slot_tuple_getitem.u,e.Y,ZL e h pl j (by rwa [b]) (by rwa [b]) ⟨.j a,H,I,rfl,q⟩⟩
end
section
variable{X:Cx}
theorem pL:∀{us}{j},IntsAre us j->Vals (j.j V.int) us
|_,_,.nil=>.u
|_,_,.cons _ _ h=>.j ⟨_,rfl⟩<|pL h
end
section
variable{X:Cx}
def M1:bootBuiltins "list"=some (.w "list"):=by decide+kernel
def Ez(a:TA):TE:=λU H Q=>a U H λvs H1=>∃n:Nat,vs=[.p (n:Int)]/\n<=1000/\∀l,H1 l=u0->Q (.j l) (aH H1 l<|.x<|(Aa6 n).j λ(i:Nat)=>V.int (i:Int))
def Sz(D:X.y=true)(y:Gl X "list")(x:X.mg "list"=none)(k:Gl X "range")(j:X.mg "range"=none)(F:PA X [a] ta)(C:starEach [a] X.j=[(false,eval a X.j)]):
 PE X (.y (.j "list" p) [.y (.j "range" p2) [a] [] pos2] [] pos)<|Ez ta:=by
 intro d s U H Q I h;refine Call_<|Qx I y x M1<|P3 (T2<|Call_<|Qx I k j M5<|P3 (aN (F pos2 d s U H _ I h) ?_) C rfl) rfl rfl;rintro L m⟨G,N,g,v,B⟩;obtain⟨n,e,K,q⟩:=B;subst e;cases v with
|cons r E=>
  cases E;obtain⟨t,rfl⟩:=r;refine call_range_1<|T7 ?_;have i:Builtin.Range.rangeSize 0 n 1=n:=by unfold Builtin.Range.rangeSize;simp;lia
  refine call_list_range (g.j.hd D) (IsRange.new ..) (small_one Y5 Y5 (Ar _) Y6) i (Y8) λJ M l w A u f=>?_;have c:∀o:Obj,m.j.u.j<=(m.j.w o).u.j:=λo=>by rw[Ak0];exact Af1 _
  refine⟨.j _,_,g.laid (o:=.x _) (λb o z=>A b o<|Aa8 _ z) (c _) ⟨by rw[Aa,Ae1,Tf];exact Y8,l.u,w,(Lq f),by simpa using u⟩,rfl,q _<|g.aT.Q<|c _⟩
end
section
variable{X:Cx}{pins:List<|Addr×Obj}{U:St}{H:Hp}{s:Shared}{h':Heap}
def Inv.dr {ch:List Addr}(I:Inv X pins U H s)(k:∀b o,b∉ch->s.j.j b=y0 o->h'.j b=y0 o)(e:∀b∈ch,bJ X pins H b):Inv X pins U H {s with heap:=h',toks:=t'}:=I.d9 k λb a=>let⟨d,c,_,f⟩:=e b a;⟨d,c,f⟩
end
end Lake
set_option maxHeartbeats 8000000
namespace Lake
open Lake renaming V.ref->Lake.V.j,Inv.base->Lake.Inv.x,dh.fresh->Lake.dh.Q
open PySem PySem.Spec PyProof.Rows
section
variable{X:Cx}
def Lj:bootBuiltins "set"=some (.w "set"):=by decide+kernel
end
open Sem (wp)
abbrev WK:=Int×List Int×List Int
section
variable{X:Cx}{pins:List<|Addr×Obj}{U:St}{H:Hp}{s:Shared}{a b:Addr}{k:WK}{xs:List<|WK×Addr×Value}{r:Value}{A:Around}{E:Value->Shared->Prop}
def pb(I:Inv X pins U H s):sysModules<s.j.u.j:=by exact Yf Y5<|(I.mod.glob.keeps I.bk).lt
end
open PySem.AutoSeq1 (wpAny_loadPart')
open MeetsSeq MeetsSeq2 MeetsSeq3 SeqRoads2 PySem.SeqAt
open PySem PySem.Spec PyProof.Rows PyProof.Rows.KTD PyProof.V
section
variable{X:Cx}{pins:List<|Addr×Obj}{U:St}{H:Hp}{s:Shared}
theorem ZP{K:Type}[DecidableEq K]:∀(more a:List<|K×Value),((a++more).j (·.1)).M->merged a more=a++more
|[],a,_=>by simp[merged]
|p::more,a,h=>by
  have e:stored a p.1 p.2=a++[p]:=by unfold stored;rw[FM];intro z;obtain⟨b,c,e⟩:=Ad8.u z;rw[Ad4,Ai0]at h;exact h.2.2 b.1 (Al2 c) p.1 Y7<|Do e
  show merged (stored a p.1 p.2) more=_;rw[e,ZP more (a++[p])<|by simpa using h];simp
end
noncomputable def sA(K:Ab1)(a:Addr):It:=
 ⟨λi H=>∃xs x,bu K H a xs/\xs[i]?=y0 x,λi H x H'=>∃p y,H p=u0/\x=.j p/\H'=aH H p (.tup [.int (i:Int),y])/\∀xs,bu K H a xs->xs[i]?=y0 y,λi H=>∃xs,bu K H a xs/\xs.e=i⟩
def OI{K:Ab1}(a it e)(A:e≠it):nN P w K (.G elts x1 tp) (sA K a) [e,it] e<|λi h=>(∃j,IsEnum h e it (i:Int) j)/\h.IsListIter it a i where
 mem:=by simp
 obj:=λi h m b l=>by
  obtain⟨⟨j,q⟩,⟨o,q2,c,d⟩⟩:=m;rcases Ab5.u l with z|z
  .subst z;exact⟨_,q,λv z=>by cases z⟩
  .rw[Ac8.u z];exact⟨o,q2,λv z=>by rw[d]at z;cases z⟩
 keep:=λi h h' m k=>⟨let⟨j,q⟩:=m.1;⟨j,k e Y7 _ q⟩,let⟨o,q,r⟩:=m.2;⟨o,k it Y7 o q,r⟩⟩
 item:=by
  intro X R Z V hc i n s U H E I Q m hg;subst R Z V;obtain⟨⟨j,C⟩,f⟩:=m;obtain⟨xs,x,O,W⟩:=hg;obtain⟨g,rv,p,hz⟩:=I.list O;obtain⟨u,hu,ru⟩:=rv.get W;have D:=p.K;have B:a≠it:=λz=>by obtain⟨o,q,c,_⟩:=D;obtain⟨o',q',G,_⟩:=f;rw[z,q']at q;cases q;rw[c]at G;exact absurd G Y5
  have hae:a≠e:=λz=>by obtain⟨o,q,c,_⟩:=D;rw[z,C]at q;cases q;exact absurd (show Value.type "enumerate"=Value.type "list" from c) Y5
  obtain⟨f0,f1,f2,f3,f4,f5⟩:=Q e Y7;obtain⟨N,g1,g2,g3,g4,T⟩:=Q it Y7;have S:=by have:=Aa0.u hu;simpa using this.1
  have t:X.A.u.j=none:=I.ok.hd hc;refine wpAny_pyNext_enum_itemD (Draws.list t it a B g.w) C ⟨f,D⟩ S A (by simp[A,Ne.symm hae]) λy h1 L J ho Y hT hsz hk=>?_;have ey:y=u:=by rw[UJ]at J;rw[hu]at J;cases J;rfl
  subst ey;refine⟨_,rfl,wpAny_letOwnedTupleGo_enum ho λh2 he2 M=>?_⟩;have M:=M;have hep:=Ao2<|Ac C;have hn:=I.aT.Q<|Ab0 _;have I1:Inv X n U (aH H s.j.u.j<|.tup [.int (i:Int),x]) {s with heap:=s.j.w {cls:=.w "tuple",data:=.j #[.p i L,y]},toks:=L+1}:=by refine I.laid (λb o q=>Aa8 _ q) (Ab0 _) ⟨by simp only[Aa9,Ae4];rw[Tf];decide,[.p i L,y],.j ⟨_,rfl⟩<|.j ru .u,?_⟩;exact⟨_,Ac4 s.j rfl,rfl,rfl,_,rfl⟩
  have F:it<s.j.u.j:=by obtain⟨o,q,_⟩:=f;exact Ac q
  have ee:=Ac C;have I2:=I1.d9 (ch:=[e,it]) (t':=L+1) (λb o l q=>by
   have b1:b≠e:=λz=>l (by simp[z]);have b2:b≠it:=λz=>l (by simp[z]);refine(M.2 b b1).j ?_;rcases Heap.get?_push_cases (show(s.j.w {cls:=.w "tuple",data:=.j #[.p i L,y]}).j b=some o from q)with⟨z,z2⟩|z
   .rw[z,z2];exact hT
   .exact hk b o b1 b2 z) λb l=>by
   rcases Ab5.u l with z|z
   .rw[z,Za<|Ac1 ee];exact⟨f0,f1,f3,f4,f5⟩
   .rw[Ac8.u z,Za<|Ac1 F];exact⟨N,g1,g3,g4,T⟩
  refine⟨.j s.j.u.j,_,I2,rfl,⟨s.j.u.j,x,hn,rfl,rfl,λys J=>by rw[I.eH J O];exact W⟩,⟨⟨y,by simpa using he2⟩,?_⟩,λb l=>?_⟩
  .obtain⟨o,q,r⟩:=Y.1;exact⟨o,(M.2 it<|Ne.symm A).j q,r⟩
  .rcases Ab5.u l with z|z
   .rw[z,Za<|Ac1 ee];exact f0
   .rw[Ac8.u z,Za<|Ac1 F];exact N
 done:=by
  intro X R Z V hc i n s U H E I Q m hg;subst R Z V;obtain⟨⟨j,C⟩,f⟩:=m;obtain⟨xs,O,W⟩:=hg;obtain⟨g,rv,p,hz⟩:=I.list O;have D:s.j.B a g.w:=p.K;have B:a≠it:=λz=>by obtain⟨o,q,c,_⟩:=D;obtain⟨o',q',G,_⟩:=f;rw[z,q']at q;cases q;rw[c]at G;exact absurd G Y5
  obtain⟨N,g1,g2,g3,g4,T⟩:=Q it Y7;have hl:=rv.length;have t:X.A.u.j=none:=I.ok.hd hc;have hi:i=g.w.j:=by simp;lia
  subst hi;exact wpAny_pyNext_enum_endD (Draws.list t it a B g.w) C ⟨f,D⟩ λh' eb=>⟨rfl,I.turned (λb o l q=>eb b o l q) N g1 g3 g4 T⟩
 self:=λ_ _ _ _ _ m h=>Vu m.1.choose_spec h
def FH(K:Ab1)(b:TA):TI:=λU H R=>b U H λvs H1=>∃a xs,vs=[.j a]/\bu K H1 a xs/\R (sA K a) H1
def Sd(t:Gl X "enumerate")(o:X.mg "enumerate"=none)(B:PA X [a] ta)(x:starEach [a] X.env=[(false,eval a X.env)]:=by rfl):PI X (.G elts x1 tp) (.y (.j "enumerate" p) [a] [] pos)<|FH X.K ta:=by
 intro f s U H R I h;refine Call_<|Qx I t o xP<|P3 (aN (B pos f s U H _ I h) ?_) x rfl;rintro G g⟨C,y,d,m,v⟩;obtain⟨b,E,e,l,q⟩:=v;subst e;cases m with
|cons r A=>
  cases A;cases r;obtain⟨w,rv,pl,D⟩:=d.list l;refine call_enumerate_list pl.K λF j i k u=>Vu j ?_;refine⟨g.j.u.j+1,[g.j.u.j+1,g.j.u.j],_,_,y,rfl,d.kept u,OI b g.j.u.j _<|Nat.succ_ne_self _,⟨⟨_,by simpa using j⟩,i⟩,λc n=>?_,q⟩;obtain z|z:=Ab5.u n
  .rw[z];exact d.eE (Af1 _)<|d.aT.Q<|Af1 _
  .rw[Ac8.u z];exact d.eE (Ab0 _)<|d.aT.Q<|Ab0 _
open PySem PySem.Spec PySem.Calls PySem.W PyProof.Rows
def qZ:List Value->Bool
|[]=>y9
|x::r=>match x with
|.j _=>qZ r
|_=>x::r==n6
theorem Xt{P:List Value->Prop}(a:P n6)(h1:∀c r,P r->P (.j c::r)):∀{l},qZ l=k9->P l
|[],e=>by cases e
|x::r,e=>by
  unfold qZ at e;split at e
  .exact h1 _ _<|Xt a h1 e
  .rw[beq_iff_eq.u e];exact a
def j6(self)(e:qZ l=k9):refuseLoop self "__setattr__" l=pure ():=
 Xt (P:=fun l=>refuseLoop self "__setattr__" l=pure ()) (PySem.F.store_ValueError.passes self) (fun c r h=>by rwa [refuseLoop_ref]) e
def Z8(e:qZ l=true):l.x (.w "object")=true:=
 Xt (P:=λl=>l.x _=k9) (by decide+kernel) (λc r h=>by rw[T3,h,Al6]) e
def N4(e:qZ l=true):l.x (.w "BaseException")=true:=
 Xt (P:=λl=>l.x _=k9) (by decide+kernel) (λc r h=>by rw[T3,h,Al6]) e
def yZ(e:qZ l=k9):l.U=false:=
 Xt (P:=λl=>l.U=y9) rfl (λc r h=>rfl) e
def mz(K:Frag)(C:Addr):Bool:=(clsIn K C).any λcd=>qZ cd.mro&&cd.hasDict
def Bf{K:Frag}(h:mz K C=k9):∃cd,clsIn K C=y0 cd/\qZ cd.mro=k9/\cd.hasDict=true:=by obtain⟨cd,b,a⟩:=VE h;rw[Aa2]at a;exact⟨cd,b,a.1,a.2⟩
section
variable{prog:Program}{w:World}{A:Around}{E:Value->Shared->Prop}{s:Shared}{K:Frag}{x C t:Addr}{f:Str}{u:Value}
def NA(X:K.In s.j)(j:s.j.j x=some (g6 C t none))(H:mz K C=true)(J:findIn K (.j C) "__setattr__"=some (some<|.u "object.__setattr__"))(D:findIn K (.j C) f=some none)
 (h:∀h',(∀b o,b≠x->s.j.j b=y0 o->h'.j b=y0 o)->h'.j x=y0 (g6 C t<|y0 s.j.u.j)->h'.Ns1 s.j.u.j (λy=>if y=f then y0 u else u0)->Q () {s with heap:=h',toks:=s.u+2}):
 wpAny (model prog w) A (setAttr (.j x) f u) Q E s:=by
 obtain⟨cd,r,l,B⟩:=Bf H;have I:PySem.W.InstAt s.j x _ C none:=⟨j,rfl,rfl,trivial⟩;refine Vo X I J ?_;have g:=PySem.F.store_object;have sub:Looks (model prog w) s.j (isInstance _ _) true:=I.type.a6<|looks_mroIn X (by unfold mroIn;rw[r,Af2,FM<|by rw[yZ l];decide,Z8 l]);have F:Looks (model prog w) s.j (mroOf<|.j C) cd.mro:=(looks_clsIn X r).a6 .now;refine Tc g.slot.plain g.entry<|@check_slot _ _ _ {s with toks:=s.u+1} "object.__setattr__" "object" "__setattr__" _ [.str f s.u,u] [] _ g.kind g.split sub (g.args _ _ u) ?_;rw[osa_eq,refuse_eq];refine AC<|AC<|I.type.here (s:={s with toks:=s.u+1})<|AC<|F.here (s:={s with toks:=s.u+1}) ?_;rw[j6 _ l];refine FS<|AC<|I.type.here (s:={s with toks:=s.u+1})<|AC<|(looks_findIn X D).here (s:={s with toks:=s.u+1})<|AC<|FS ?_;have d:(s.j.w {cls:=.w "dict",data:=.x #[]}).j x=some _:=Aa8 _ j;have a:=Ac1<|Ac j;refine AC<|FS<|AC<|AC<|wpAny_loadPart j<|AC<|PySem.W.Looks.here (U1 X r) ?_;rw[B];have p:((s.j.w {cls:=.w "dict",data:=.x #[]}).x x fun o=>{o with dict:=some s.j.u.j}).j s.j.u.j=some {cls:=.w "dict",data:=.x #[]}:=
  (Aq5 _ _ _ _ a.symm).j<|Ac4 _ rfl
 have q:((s.j.w {cls:=.w "dict",data:=.x #[]}).x x fun o=>{o with dict:=some s.j.u.j}).Ns s.j.u.j<|fun _=>none:=
  ⟨_,#[],_,p,rfl,λe z=>absurd z Y7,λ_=>rfl⟩
 refine AC<|VC<|AC<|wpAny_update d<|FS<|AC<|FS<|AC<|wpAny_nsSet1 (Vp q) λh' c i=>?_;obtain⟨M,v,L,n,m,k⟩:=c.count<|PySem.Within.cons f u PySem.Within.nil;refine AC<|VF n (by rw[m];exact VG<|Ab4 k<|by rw[Aa9,Ae4,Tf];exact Fk _ _) ?_;exact FS<|h h' (λb o G e=>(i.2 b<|Ac1<|Ac e).j<|(Aq5 _ _ _ _ G).j<|Aa8 _ e) ((i.2 x a).j<|Ak5 _ d rfl) c
end
abbrev oP:Frag->Addr->Bool:=tN λ_ _=>k9
section
variable{prog:Program}{w:World}{A:Around}{E:Value->Shared->Prop}{h:Heap}{g:Array GenState}{d:Drawn}{t:Nat}{os:OsState}{K:Frag}{C fI:Addr}
def w9(h:Heap)(C:Addr)(rest:List Value):Heap:=(h.w {cls:=.w "tuple",data:=.j rest.w}).w<|g6 C h.u.j none
def wF{rest:List Value}(e:h.j b=y0 o):(w9 h C rest).j b=y0 o:=Aa8 _<|Aa8 _ e
def yt{rest:List Value}:(w9 h C rest).j (h.u.j+1)=y0 (g6 C h.u.j u0):=by
 have:=Ac4 (h.w {cls:=.w "tuple",data:=.j rest.w}) (o:=g6 C h.u.j none) rfl
 rwa [Ak0]at this
def O0{rest:List Value}{Q:Value->Shared->Prop}(X:K.In h)(u:oP K C=true)(q:findIn K (.j C) "__init__"=some (some<|.j fI))(l:typeIn K (.j fI)=some (.w "function"))(c:rest.e<=sizeLine)
 (m:wpAny (model prog w) (A.under<|.u "type.__call__" ⟨.j C::rest,[]⟩) (call (.j fI)<|.j (h.u.j+1)::rest) (fun r s'=>r=.x/\Q (.j<|h.u.j+1) s') E ⟨w9 h C rest,g,d,t,os⟩):
 wpAny (model prog w) A (call (.j C) rest) Q E ⟨h,g,d,t,os⟩:=by
 obtain⟨v,H,nm,G,bs,y,J,sub,M,n,dd,P,B,I,O,D,a,s,-,T⟩:=z0 X u;have R:=VY<|isNs_of_in X s;have F:=PySem.F.excBase_ValueError;have L:=tc_lookup;have N:=tc_bind<|.j C;have z:(⟨h,g,d,t,os⟩:Shared).TypeIs (.j C) "type":=⟨_,a,rfl⟩;refine Tp<|Ur ?_;show wpAny _ _ (callAny (.j C) _) _ _ _
 repeat (any_goals (first|assumption|with_reducible refine Tt a ?_|wp_step))
 refine⟨rfl,codeAny_call_builtin_at (TL _<|by decide+kernel) entry_typeCall<|wpAny_check_type_call_sub a ?_⟩
 repeat (first|with_reducible refine Tt a ?_|with_reducible refine wpAny_madeBy_exc a ?_|wp_step)
 refine codeAny_call_builtin_code (TL _ F.quiet)<|wpAny_check_new_subT F T a<|codeAny_exc_new_subT F T a ?_ c;show wpAny _ _ _ _ _ ⟨w9 h C rest,g,d,t,os⟩;have j:K.In<|w9 h C rest:=λb o e=>wF<|X b o e;have f:(w9 h C rest).j (h.u.j+1)=y0 {cls:=.j C,data:=.w #[.j h.u.j,.x,.x,.x,.y y9,.x]}:=yt;have i:(Value.ref C::v).x (.j C)=true:=by simp
 unfold isInstance
 repeat (first|with_reducible refine Tt f ?_|(with_reducible refine U7 (wF a) ?_;rw[i])|wp_step)
 show wpAny _ _ (typeLookup (.j C) _) _ _ _;refine(looks_findIn j q).at<|Pi<|AC<|(bind_fn j (.j<|h.u.j+1) l).at<|AC<|PP m (λr s' k=>?_) λ_ _ x=>x;obtain⟨rfl,p⟩:=k
 wp_walk
 exact p
end
noncomputable def gi(x C t:Addr)(a:Option Addr):HO:=.ext λh=>h.j x=y0 (g6 C t a)
def u3(e:h.j x=y0 (g6 C t od)):aS P w H h x<|gi x C t od:=⟨e,⟨_,e⟩,λ_ _ z k=>k _ z⟩
noncomputable def ly(H:Hp)(x:Addr):Hp:=λb=>if b=x then u0 else H b
def sT(h:b≠x):ly H x b=H b:=FM h
def uv:ly H x x=none:=Da rfl
section
variable{X:Cx}{pins:List<|Addr×Obj}{U:St}{H:Hp}{s:Shared}
def Inv.forget (I:Inv X pins U H s)(a:H x=y0 (.ext j)):Inv X pins U (ly H x) s:=by
 have ne:∀b o,H b=y0 o->(∀j,o≠.ext j)->ly H x b=y0 o:=λb o q n=>by rw[sT<|λe=>by rw[e,a]at q;cases q;exact n _ rfl];exact q
 have nn:∀b,H b=u0->ly H x b=none:=λb q=>by
  unfold ly;split
  .rfl
  .exact q
 refine⟨I.ok,I.os,I.bare,⟨I.x.keep,I.x.slot,λb u e n a=>nn b<|I.x.free b u e n a,I.x.there,λb f q=>ne b _ (I.x.dq b f q) (λ_ z=>by cases z),λb u v q=>ne b _ (I.x.c8 b u v q)<|λ_ z=>by cases z⟩,
  I.loc,I.cell,nn _ I.free,λy c q=>nn _<|I.bI y c q,λp h=>?_,λb u q=>?_,I.len⟩
 .obtain⟨g,a2,a3⟩:=I.pin p h;exact⟨g,nn _ a2,a3⟩
 .by_cases d:b=x
  .rw[d,uv]at q;cases q
  .rw[sT d]at q;exact(I.aT b u q).dz (λ_ _ _ z=>z) (λc z=>ne c _ z<|λ_ z=>by cases z) λc f z=>ne c _ z<|λ_ z=>by cases z
def Inv.stored (I:Inv X pins U H s)(j:H x=y0 (gi x C t u0))(p:RelV y u)(k:∀b o,b≠x->s.j.j b=y0 o->h'.j b=y0 o)
 (e:h'.j x=y0 (g6 C t<|y0 s.j.u.j))(m:h'.Ns1 s.j.u.j<|λz=>if z=f then y0 u else u0):
 Inv X pins U (aH (aH H s.j.u.j<|.xd [(f,y)]) x<|gi x C t<|y0 s.j.u.j) {s with heap:=h',toks:=t'}:=by
 have c:=(I.aT x _ j).1;have d:=Ac1<|Ac c;have n:(h'.x x λ_=>g6 C t u0).j x=y0 _:=Ak5 _ e rfl;have i:∀b,b≠x->(h'.x x λ_=>g6 C t u0).j b=h'.j b:=λb a=>Aq5 _ _ _ _ a;have l:=I.laid (o:=.xd [(f,y)]) (t':=t') (λb o q=>by
  by_cases a:b=x
  .subst a;rw[c]at q;cases q;exact n
  .rw[i b a];exact k b o a q) (Ab0 _) ⟨_,m.at λo q=>(by rwa [i _ d.symm]),λg=>by
   by_cases h:g=f
   .rw[Da h];subst h;show b8 (match g==g with|true=>y0 y|false=>u0) _
    rwa [Tg]
   .rw[FM h];show b8 (match g==f with|true=>y0 y|false=>u0) _;rw[beq_eq_false_iff_ne.w h];exact trivial⟩
 refine l.write (by rw[Za d,j];exact True.intro) (.u rfl) (λb o a q=>?_) ⟨_,e⟩<|u3 e;exact(i b a).u.j q
end
structure nz(K:Frag)(C:Addr)(f:Str):Prop where
 cls:oP K C=k9
 ov:mz K C=k9
 sa:findIn K (.j C) "__setattr__"=some (some<|.u "object.__setattr__")
 no:findIn K (.j C) f=y0 u0
 kp:keepIn K (.j C)=k9
def NP(K:Frag)(c b:TE)(f:Str):TS:=λD U H=>b U H λy H1=>c U H1 λx H2=>∃a C t,x=.j a/\H2 a=y0 (gi a C t u0)/\nz K C f/\∀dx,H2 dx=u0->dx≠a->D.nx U (aH (aH H2 dx<|.xd [(f,y)]) a<|gi a C t<|y0 dx)
def Fs(B:PE X o ta)(m:PE X value tv)(w:swapsWith value (y0<|.u o f pos') pos.u X.env=pure y9):PS X (.j [.u o f pos'] value pos)<|NP X.K ta tv f:=by intro b s U H D I h;refine TV (aN (m b s U H _ I h) ?_) w;rintro u l⟨y,z,j,n,q⟩;refine aN (B b l U z _ j q) ?_;rintro A G⟨x,F,g,v,a,C,t,ex,i,c,p⟩;subst ex;obtain rfl:A=Value.ref a:=v;have d:=(g.aT a _ i).1;exact NA g.bQ d c.ov c.sa c.no λE k e r=>⟨U,_,g.stored i n k e r,p _ (g.aT.Q<|Ab0 _)<|Ao2<|Ac d⟩
def Hd(K:Frag)(f:Str):Sp:=λvs H Q _=>∃a v C t,vs=[.j a,v]/\H a=y0 (gi a C t u0)/\nz K C f/\∀dx,H dx=u0->dx≠a->Q .au (aH (aH H dx<|.xd [(f,v)]) a<|gi a C t<|y0 dx)
structure Z4(K:Frag)(f:Str)(fI:Addr)(fd:FuncData)(ps:List Str):Prop where
 ex:∃x k7 st N n1 n2 p1 p2 p3 p4,kN K x k7 st fI fd/\ps=[n1,n2]/\N=[n1,n2]/\qE N ps (Qi st)/\XD st=[.j [.u (.j n1 p1) f p2] (.j n2 p3) p4]/\(n1==("__debug__":Str))=false/\(n2==("__debug__":Str))=false∧
  (n1==("__classdict__":Str))=false/\(n2==("__classdict__":Str))=false
 bd:Binds K fd ps []
 fn:typeIn K (.j fI)=y0 (.w "function")
def PY{K:Frag}(Z:Z4 K f fI fd ps):bx P w K mg base (cJ P w) 1 fI fd ps<|Hd K f:=by obtain⟨x,d,B,N,o,r,y,G,I,D,F,rfl,rfl,S,m,j,u,n,p⟩:=Z.ex;refine kN.Ax F S (λl H Q E ⟨a,v,C,t,e,_⟩=>by subst e;rfl) ?_;rintro h A b s H l Q E g ⟨a,v,C,t,e,k,c,q⟩;subst e;rw[m];exact⟨_,Pk<|Fs (zC (i:=0) rfl ((S.par o Y7).j .u λz=>.w<|.u z) j n) (zC (i:=1) rfl ((S.par r Y7).j .u λz=>.w<|.u z) u p) rfl,⟨v,rfl,.j a,rfl,a,C,t,rfl,k,c,q⟩⟩
def DE{M:Model}{A:Around}{E:Value->Shared->Prop}{s:Shared}{env:Env}{v:Sem Value}{K:Frag}{C:Addr}{Q:Flow->Shared->Prop}(n:oP K C=k9)(l:A.j=u0)
 (h:wpAny M A v (λv j=>∃e t L,v=.j e/\K.In j.j/\j.j.j e=y0 (g6 C t L)/\E (.j e) j) E s):wpAny M A (raiseStmt env (y0 v) u0) Q E s:=by
 refine AC<|PP h (λv j i=>?_) λ_ _ x=>x;obtain⟨e,t,L,rfl,X,f,p⟩:=i;obtain⟨o,z,nm,y,bs,q,D,sub,G,k,dd,J,u,B,H,w,c,m,-,T⟩:=z0 X n;have N:=VY<|isNs_of_in X m;have a:(Value.ref C::o).x (.w "BaseException")=true:=by rw[T3,T.hasType PySem.F.excBase_ValueError.hasBase,Bool.or_true]
 have b:j.j.j e=y0 {cls:=.j C,dict:=L,data:=.w #[.j t,.x,.x,.x,.y y9,.x]}:=f;obtain⟨F,g,d,I,r⟩:=j
 repeat (first|with_reducible refine Tt b ?_|with_reducible refine Tt c ?_|(with_reducible refine U7 c ?_;rw[a])|wp_step)
 exact wpAny_raiseNew_none l p
section
variable{P:Program}{w:World}{K:Frag}{mg:Str->Option Value}{base:Heap}{N:List Str}{k7:Str}{scope:Scope}{f:Addr}{cd:Value}{A:Around}{outer:List Env}{s:Shared}{H:Hp}{E:XK}
def Sf(f:dx≠e)(c:H2 e=u0):ly (aH (aH (aH H2 e<|gi e C t u0) dx<|.xd [p]) e<|gi e C t<|y0 dx) e=aH H2 dx (.xd [p]):=by
 funext b;by_cases d:b=e
 .rw[d,uv,Za<|Ne.symm f,c]
 .rw[sT d,Za d];by_cases a:b=dx
  .rw[a,Zb,Zb]
  .rw[Za a,Za a,Za d]
def Oo(g:nz K C fl)(m:findIn K (.j C) "__init__"=some (some<|.j fI))(Z:Z4 K fl fI fd ps)(i:ba 2 A')(h:Inv (eW (cJ P w) P w K mg base N k7 scope f cd A outer s H E) pins U H2 s2)(l:RelV v u)
 (n:∀H' s',Inv (eW (cJ P w) P w K mg base N k7 scope f cd A outer s H E) pins U H' s'->dO P w K mg base A' (envOfC k7 scope s.j.u.j f cd::outer) s' H')
 (k:∀s' dx,Inv (eW (cJ P w) P w K mg base N k7 scope f cd A outer s H E) pins U (aH (aH (aH H2 (s2.j.u.j+1)<|gi (s2.j.u.j+1) C s2.j.u.j u0) dx<|.xd [(fl,v)]) (s2.j.u.j+1)<|gi (s2.j.u.j+1) C s2.j.u.j<|y0 dx) s'->H2 dx=u0->dx≠s2.j.u.j+1->Q (.j<|s2.j.u.j+1) s'):
 wpAny (model P w) A' (call (.j C) [u]) Q EE s2:=by
 have d:=h.laid (h':=w9 s2.j C [u]) (t':=s2.u) (λb o z=>wF z) (Af1 _)<|u3 yt;refine O0 h.bQ g.cls m Z.fn (show 1<=sizeLine by rw[Tf];decide) ?_;have x:ps.e=2:=by obtain⟨_,_,_,_,_,_,_,_,_,_,_,rfl,_⟩:=Z.ex;rfl
 refine Tp<|S5 ((PY (P:=P) (w:=w) (mg:=mg) (base:=base) Z).run _ _ _ _ ⟨[.j _,u],[]⟩ [.j _,u] [.j _,v]
  (λe H'=>e=.au/\∃dx,H2 dx=u0/\dx≠s2.j.u.j+1/\H'=aH (aH _ dx _) _ (gi _ C s2.j.u.j<|y0 dx))
  (λ_ _ _=>False) (i.make C [u] []) ((n _ _ d).make C [u] []) (by
    have:=Z.bd ⟨w9 s2.j C [u],s2.w,s2.drawn,s2.u,s2.os⟩ [.j (s2.j.u.j+1),u] d.bQ<|by simp_all
    rwa [Af0]at this) (.j rfl<|.j l .u) ⟨_,v,C,s2.j.u.j,rfl,Zb,g,λdx z ne=>⟨rfl,dx,by rw[Za ne]at z;exact z,ne,rfl⟩⟩) λres s' a=>?_
 cases res with
|error r=>obtain⟨_,_,_,_,_,_,_,_,_,_,_,_,_,_,_,z⟩:=a;exact z.j
|ok c=>
  cases c with
|ret t=>obtain⟨e,H',j,rv,rfl,dx,p,q,rfl⟩:=d.after a;exact⟨rv,k s' dx j p q⟩
|_=>exact False.elim a
def yJ(C:Addr)(a:Str)(E:XK)(t:TA):TS:=λ_ U H=>t U H λvs H1=>∃v,vs=[v]/\∀dx,H1 dx=u0->E (.j C) (y0 dx) (aH H1 dx<|.xd [(a,v)])
def MF(J:A.j=none)(i:nz K C fl)(F:findIn K (.j C) "__init__"=some (some<|.j fI))(Z:Z4 K fl fI fd ps)(B:mg x=some (.j C))(G:Gl (eW (cJ P w) P w K mg base N k7 scope f cd A outer s H E) x)
 (m:ba 2<|A.x<|envOfC k7 scope s.j.u.j f cd)(S:PA (eW (cJ P w) P w K mg base N k7 scope f cd A outer s H E) [e] t)
 (n:starEach [e] (envOfC k7 scope s.j.u.j f cd)=(false,eval e<|envOfC k7 scope s.j.u.j f cd)::starEach [] (envOfC k7 scope s.j.u.j f cd):=by rfl)(o:(x==("__debug__":Str))=false:=by decide):
 PS (eW (cJ P w) P w K mg base N k7 scope f cd A outer s H E) (.Raise (y0<|.y (.j x np) [e] [] cpos) u0 pos)<|yJ C fl E t:=by
 intro b y U Q D I h;refine AC<|Tj<|DE i.cls J<|AC<|PP (S3<|wK I G B (callWith_K I.ok.mod.kI i.kp (aN (S cpos b y U Q _ I h) ?_) n rfl) o) (λv T O=>AC<|Tj<|FS O) λ_ _ x=>x;rintro M R⟨V,X,d,r,v,z,q⟩;refine⟨d.bQ,?_⟩;subst z;obtain⟨u,rfl,g⟩:∃u,M=[u]/\RelV v u:=by
  cases r with
|cons g p=>cases p;exact⟨_,rfl,g⟩
 refine Oo i F Z m d g (λ_ _ I=>I.gN) λW j c L l=>⟨_,R.j.u.j,y0 j,rfl,c.bQ,(c.aT _ _ Zb).1,?_⟩;have a:=d.aT.Q<|Af1 _;have k:=c.forget Zb;rw[Sf l a]at k;refine O3 k (c.aT _ _ Zb).1 rfl rfl rfl rfl rfl (λ_=>rfl) (UR<|Ab4 d.sz<|Af1 _) ?_<|q j L;rw[Za<|Ne.symm l,a]
end
section
variable{prog:Program}{w:World}{A:Around}{E:Value->Shared->Prop}{s:Shared}{K:Frag}{x C dx:Addr}{fl:Str}{u:Value}{ox:Obj}{mA:Str->Option Value}
def EJ(X:K.In s.j)(q:s.j.j x=y0 ox)(N:ox.cls=.j C)(J:notCls ox=k9)(v:ox.x=y0 dx)(o:s.j.Ns1 dx mA)(H:mA fl=y0 u)(G:handedIn u=k9)(L:mz K C=k9)(y:findIn K (.j C) fl=y0 u0)
 (l:findIn K (.j C) "__getattribute__"=some (some<|.u "BaseException.__getattribute__"))(F:findIn K (.j C) "__getattr__"=some none)
 (h:Q u {s with toks:=s.u+1}):wpAny (model prog w) A (getAttr (.j x) fl b) Q E s:=by
 obtain⟨cd,c,a,O⟩:=Bf L;obtain⟨m,g,d,t,r⟩:=s;dsimp only at X q o h;obtain⟨D,j,e⟩:=Q1 o;have I:PySem.W.InstAt m x ox C<|y0 D:=⟨q,N,J,by rw[v];exact j⟩;have i:findObj K C _ fl=y0 _:=U0 (by unfold hasDictIn;rwa [c]) y rfl (by rw[e,H]);have n:=I.type (M:=model prog w);have z:=looks_findIn (M:=model prog w) X l;have B:=looks_find (M:=model prog w) X I i;have sub:Looks (model prog w) m (isInstance (.j x)<|.w "BaseException") true:=I.type.a6<|looks_mroIn X (by unfold mroIn;rw[c,Af2,FM<|by rw[yZ a];decide,N4 a]);have p:=PySem.F.attrBase_ValueError;have P:=p.ga.bind<|.j x;have f:(b&&onTheHeap (Value.builtin "BaseException.__getattribute__"))=false:=by cases b<;>rfl
 unfold getAttr getAttrBy;refine AC<|wpAny_mkText<|Pi<|AC<|n.at<|AC<|z.at ?_;have k:(Value.builtin "BaseException.__getattribute__"==Value.builtin "object.__getattribute__")=false:=by decide+kernel
 dsimp only;rw[k,Ai,FM Y5];unfold getAttrByItsOwn hookBefore;refine AC<|(looks_findIn X F).at<|AC<|T5<|Pi ?_;unfold callGetattribute;rw[f,FM Y5]
 repeat (any_goals (first|assumption|wp_step))
 refine Tc p.ga.plain PySem.F.entry_bexc_ga<|@check_slot (model prog w) _ _ ⟨m,g,d,t+1,r⟩ "BaseException.__getattribute__" "BaseException" "__getattribute__" (.j x) [.str fl t] [] _ (by decide+kernel) (by decide+kernel) sub (PySem.F.args_bexc_ga (.j x)<|.str fl t)<|AC<|FS<|AC<|FS<|AC<|n.at<|AC<|B.at<|FS ?_;show wpAny _ _ (handedOut u) _ _ _;rw[handedOut_of G];exact FS h
end
structure mI(K:Frag)(C:Addr)(f:Str):Prop where
 ov:mz K C=k9
 no:findIn K (.j C) f=y0 u0
 ga:findIn K (.j C) "__getattribute__"=some (some<|.u "BaseException.__getattribute__")
 gh:findIn K (.j C) "__getattr__"=some none
def MT(K:Frag)(b:TE)(f:Str):TE:=λU H Q=>b U H λx H1=>∃a C dx v,x=.j a/\H1 a=y0 (iX a C<|y0 dx)/\(∃l,H1 dx=y0 (.xd<|(f,v)::l))/\mI K C f/\Q v H1
def Lx(p:PE X e ta)(z:attributeBase e f X.env (eval e X.env)=eval e X.env):PE X (.u e f pos)<|MT X.K ta f:=by intro b s U H Q I h;refine vK z<|aN (p b s U H _ I h) ?_;rintro u w ⟨x,J,d,E,a,C,i,v,ex,y,⟨l,n⟩,c,q⟩;subst ex;obtain rfl:u=Value.ref a:=E;obtain⟨o,F,G,D,t⟩:=(d.aT a _ y).1;obtain⟨j,A,r⟩:∃j,w.j.Ns1 i j/\∀g,b8 _ _:=d.aT i _ n;have m:=r f;rw[show Aj0 f _=y0 v by simp[Aj0]]at m;obtain⟨K,B,k⟩:=b8.some_of m;exact EJ d.bQ F G D (t i rfl) A B (Q6 k) c.ov c.no c.ga c.gh ⟨v,J,d.tok _,k,q⟩
end Lake
namespace Lake
open Lake renaming Vals.length->Lake.Vals.e,V.int->Lake.V.p,V.ref->Lake.V.j,Inv.ok->Lake.Inv.j,Cx.env->Lake.Cx.j,Cx.prog->Lake.Cx.u,Cx.stack->Lake.Cx.B,dh.fresh->Lake.dh.Q
open PySem PySem.Spec PyProof.Rows PySem.Builtin.Str
noncomputable def b5:Str:=⟨#[32]⟩
noncomputable def om(z:Str)(a:List Str):Bool:=!(u9 (z.e<b5.e)||u9 (strKind z<strKind b5))&&!(occurrences z b5 0 z.e<|z.e+1).U&&u9 (z.e<=1000)&&u9 (partsBetween z (occurrences z b5 0 z.e<|z.e+1) b5.e=a)&&u9 (a.e<=1000)
section
variable{X:Cx}
theorem X9:∀(ps)(t),Vals (ps.j V.str)<|strsFrom t ps
|[],_=>.u
|p::ps,t=>.j ⟨_,rfl⟩<|X9 ps<|t+1
def FZ:iG X "str.split"<|fun x vs H Q=>∃z j,x=.str z/\vs=[.str b5]/\om z j=true/\∀p,H p=none->Q (.j p) (aH H p<|.lst<|j.j V.str):=by rintro f s U H x vs v n Q I h rv⟨z,j,rfl,rfl,a,q⟩;obtain⟨t,rfl⟩:=h;obtain⟨u,rfl,i⟩:=rv.one;obtain⟨k,rfl⟩:=i;unfold om at a;simp only[Aa2,Ag5,L2]at a;obtain⟨⟨⟨⟨g,m⟩,l⟩,c⟩,d⟩:=a;refine Tu UA (T8 _ _ _) PySem.F.entry_str_split (PySem.F.args_str_split_2 _ _) (meets_str_split_sep z b5 t k g rfl m (Ag<|Jr l)<|by rw[c];exact(Ag<|Jr d)) ?_;rw[c];refine⟨.j s.j.u.j,_,?_,rfl,q _<|I.aT.Q<|Ab0 _⟩;exact I.laid (λb o e=>Aa8 _ e) (Ab0 _)<|show aS X.u X.w _ _ _ (.lst _)from⟨by rw[Aa];exact(Ag<|Jr d),strsFrom s.u j,0,X9 j s.u,Ac4 s.j rfl⟩
end
open PySem PySem.Spec PyProof.Rows
noncomputable abbrev dS:List (Str×V)->HO:=.dK
noncomputable def kq(a:List<|Str×V)(k:Str)(v:V):List<|Str×V:=if a.C (λp=>u9<|p.1=k)then a.j (λp=>if p.1=k then(p.1,v)else p)else a++[(k,v)]
theorem C3:∀{c:List<|Str×V}{vs},KV c vs->(vs.C λj=>j.1=k)=c.C λp=>u9<|p.1=k
|[],_,.u=>rfl
|p::c,(a,b)::vs,.j r t=>by obtain⟨e1,e2⟩:=r;rw[Ah6,Ah6,C3 t,←e1]
theorem oa:∀{c:List<|Str×V}{vs},KV c vs->b8 (c.u k) (valueAt vs k)
|[],_,.u=>trivial
|p::c,(a,b)::vs,.j r t=>by
  obtain⟨e1,e2⟩:=r;have d:=oa (k:=k) t;unfold valueAt at d⊢;rw[List.find?_cons,Ad,←e1];by_cases q:p.1=k
  .rw[beq_iff_eq.w q.u];simp only[q,UB];exact e2
  .rw[beq_eq_false_iff_ne.w λz=>q z.u];simp only[q,Vi];exact d
def Iy(d:RelV v u)(h:KV kvs vs):KV (kq kvs k v)<|stored vs k u:=by
 unfold kq stored;rw[C3 h];by_cases c:(kvs.C λp=>u9<|p.1=k)=k9
 .rw[Da c,Da c];clear c;induction kvs generalizing vs with
|nil=>cases h;exact .u
|cons p kvs e=>
   cases h with
|@cons _ q _ vs r t=>
    obtain⟨a,b⟩:=q;obtain⟨e1,e2⟩:=r;subst e1;refine .j ?_<|e t;by_cases q:p.1=k
    .subst q;simp only[Os];exact⟨trivial,d⟩
    .simp only[q,TK];exact⟨trivial,e2⟩
 .rw[FM c,FM c];exact Paired.snoc h ⟨rfl,d⟩
section
variable{X:Cx}{pins:List<|Addr×Obj}{U:St}{H:Hp}{s:Shared}{a:Addr}{k:Str}{kvs:List<|Str×V}{u r:Value}{A:Around}{E:Value->Shared->Prop}
def lh(I:Inv X pins U H s)(e:H a=y0 (dS kvs)):kvs.e<=sizeLine/\(a==sysModules)=y9/\∃vs,KV kvs vs/\s.j.DictOf (PySem.strKind X.u X.w) a vs:=by obtain⟨z,c,vs,b,dd⟩:=(show aS X.u X.w H s.j a (dS kvs)from I.aT a _ e);exact⟨z,c,vs,b,dd⟩
def HV(I:Inv X pins U H s)(e:H a=y0 (dS kvs))(d:RelV (.str k) u)(l:kvs.u k=y0 v)(h:∀j s',Inv X pins U H s'->RelV v j->Q j s'):wpAny (model X.u X.w) A (getItem (.j a) u) Q E s:=by obtain⟨z,i,g,c,dd⟩:=lh I e;obtain⟨t,rfl⟩:=d;obtain⟨j,f,b⟩:=b8.some_of (by rw[←l];exact oa c);exact wpAny_getItem_of (Tw _ _ k t) dd.mapOf f<|h j _ (I.tok _) b
def yV(r:b8 o q):q.w=o.w:=by
 cases o with
|none=>rw[b8.none_of r];rfl
|some v=>obtain⟨u,rfl,_⟩:=b8.some_of r;rfl
def Sv(I:Inv X pins U H s)(e:H a=y0 (dS kvs))(c:RelV (.str k) u)(h:∀s',Inv X pins U H s'->Q (.y (kvs.u k).w) s'):wpAny (model X.u X.w) A (compareOp .In u<|.j a) Q E s:=by obtain⟨z,d,f,b,dd⟩:=lh I e;obtain⟨t,rfl⟩:=c;refine wpAny_in_of (Tw _ _ k t) d dd.mapOf ?_;rw[yV<|oa b];exact h _<|I.tok _
def Hq(I:Inv X pins U H s)(e:H a=y0 (dS kvs))(c:RelV (.str k) u)(h:∀s',Inv X pins U H s'->Q (.y<|!(kvs.u k).w) s'):wpAny (model X.u X.w) A (compareOp .NotIn u<|.j a) Q E s:=by obtain⟨z,d,f,b,dd⟩:=lh I e;obtain⟨t,rfl⟩:=c;refine wpAny_notIn_of (Tw _ _ k t) d dd.mapOf ?_;rw[yV<|oa b];exact h _<|I.tok _
def DO(kvs)(k)(v):(kq kvs k v).e<=kvs.e+1:=by
 unfold kq;split
 .rw[Aa];exact Af1 _
 .simp
def Et(I:Inv X pins U H s)(e:H a=y0 (dS kvs))(l:RelV (.str k) u)(rv:RelV v r)(w:kvs.e<sizeLine)(h:∀s',Inv X pins U (aH H a<|dS<|kq kvs k v) s'->Q () s'):wpAny (model X.u X.w) A (setItem (.j a) u r) Q E s:=by
 obtain⟨z,g,m,b,dd⟩:=lh I e;obtain⟨t,rfl⟩:=l;have p:m.e<=sizeLine:=by rwa [←Paired.length b]
 refine wpAny_setItem_pairs (Tw _ _ k t) dd λn c o=>h _ ?_;have f:∃q,n.j a=y0 q:=let⟨q,_,_,j,_⟩:=c;⟨q,j⟩;refine I.write (by rw[e];exact True.intro) (.u rfl) (λi q d z=>(o.2 i d).j z) f ⟨?_,g,_,Iy rv b,c⟩;have:=DO kvs k v;exact Ab4 ‹_› ‹_›
def OG(I:Inv X pins U H s)(e:H a=y0 (dS kvs))(h:∀p s',H p=u0->Inv X pins U (aH H p<|dS kvs) s'->Q (.j p) s'):wpAny (model X.u X.w) A (call (.w "dict") [.j a]) Q E s:=by obtain⟨z,g,i,c,dd⟩:=lh I e;refine kt_call_dict g dd (by rwa [←Paired.length c]) λk d j=>h _ _ (I.aT.Q<|Ab0 _)<|I.laid (λb q f=>?_) (Ab0 _) ⟨z,beq_eq_false_iff_ne.w<|Ne.symm<|Ac1<|pb I,i,c,d⟩;exact(j.2 b<|Ac1<|Ac f).j<|Aa8 _ f
def Mv:TE:=λ_ H Q=>∀p,H p=u0->Q (.j p) (aH H p<|dS [])
def Mg:PE X (.Dict [] [] pos) Mv:=λa s U H Q I h=>
 wpAny_Dict_empty ⟨.j s.j.u.j,_,I.laid (o:=dS []) (λ_ _ q=>Aa8 _ q) (Ab0 _) ⟨Ag0 _,beq_eq_false_iff_ne.w<|Ne.symm<|Ac1<|pb I,[],.u,Heap.DictOf.new _⟩,rfl,h _<|I.aT.Q<|Ab0 _⟩
end
open PySem PySem.Spec PySem.Calls PySem.W PyProof.Rows
def pq:List TE->St->Hp->(List V->Hp->Prop)->Prop
|[],_,H,Q=>Q [] H
|t::a,U,H,Q=>t U H λv H1=>pq a U H1 λvs H2=>Q (v::vs) H2
section
variable{X:Cx}
def nL(X:Cx):List Str->List TE->List (Option Expr)->List Expr->Prop
|[],d,ks,vs=>d=[]/\ks=[]/\vs=[]
|x::r,d,ks,vs=>∃j p e t a b c,d=t::c/\ks=y0 (.x (.u x) j p)::a/\vs=e::b/\PE X e t/\nL X r c a b
theorem Du:∀{T}{L}{ks}{vs},nL X T L ks vs->ks.N (·.w)=k9/\ks.e=T.e/\vs.e=T.e
|[],_,_,_,z7=>by obtain⟨rfl,rfl,rfl⟩:=z7;exact⟨rfl,rfl,rfl⟩
|x::r,_,_,_,z7=>by obtain⟨j,p,e,t,f,b,g,rfl,rfl,rfl,_,ok⟩:=z7;obtain⟨a,d,c⟩:=Du ok;exact⟨by simpa using a,by simp[d],by simp[c]⟩
theorem xQ:∀{T}{O}{ks}{vs}{s}{H}{Q}{L},nL X T O ks vs->Inv X pins U H s->pq O U H Q→
 (∀ws H1 kvs us M,Inv X pins U H1 M->Carries (PySem.strKind X.u X.w) us kvs->KV (T.a1 ws) kvs->kvs.j (·.1)=T->Q ws H1->L us M)→
 wpAny (model X.u X.w) X.A (evalPairs<|pairTrees ks vs X.j pos) L X.xe s
|[],_,_,_,s,H,Q,L,z7,I,h,q=>by obtain⟨rfl,rfl,rfl⟩:=z7;exact pairTrees_nil_walk<|q [] H [] [] s I trivial .u rfl h
|x::r,_,_,_,s,H,Q,L,z7,I,h,q=>by
  obtain⟨j,p,e,t,w,k,y,rfl,rfl,rfl,d,ok⟩:=z7;exact pairTrees_cons_walk<|Vd<|aN (d pins _ U H _ (I.tok _) h) λu M ⟨v,H1,a,g,b⟩=>
   xQ ok a b λws l kvs us o n c f m i=>q (v::ws) l ((x,u)::kvs) _ o n ⟨Tw _ _ x _,rfl,c⟩ (.j ⟨rfl,g⟩ f) (by simp[m]) i
def EH(ok:nL X T ts ks vs)(r:T≠[])(j:T.e<=15)(v:T.M):
 PE X (.Dict ks vs pos)<|λU H Q=>∀p,H p=u0->pq ts U (aH H p<|dS []) λws H1=>H1 p=y0 (dS [])/\Q (.j p) (aH H1 p<|dS<|T.a1 ws):=by
 intro i s U H Q I h;obtain⟨u,a2,a3⟩:=Du ok;have g:=beq_eq_false_iff_ne.w<|Ne.symm<|Ac1<|pb I;refine wpAny_Dict_walk (knd:=PySem.strKind X.u X.w) u (a2.j a3.u) (λz=>r<|Ao8.u<|by simp_all) Y6 ?_;refine xQ ok (I.laid (o:=dS []) (fun _ _ q=>Aa8 {cls:=.w "dict",data:=.x #[]} q) (Ab0 _) ⟨Ag0 _,g,[],.u,Heap.DictOf.new _⟩) (h _<|I.aT.Q<|Ab0 _) fun ws H1 a A y e c f m q=>⟨a,c,?_,fun t dd w=>?_⟩
 .obtain⟨_,_,x,d,dd⟩:=lh e q.1;cases d;exact dd
 .rw[ZP a []<|by rw[Af3,m];exact v,Af3]at dd;have k:∃q,t.j s.j.u.j=y0 q:=let⟨q,_,_,n,_⟩:=dd;⟨q,n⟩;refine⟨.j s.j.u.j,_,e.write (o:=dS _) (by rw[q.1];exact True.intro) (.u rfl) (λl q b z=>(w.2 l b).j z) k ⟨?_,g,_,f,dd⟩,rfl,q.2⟩;rw[An3];have:=j;exact Ab4 (Nat.min_le_left _ _)<|Ab4 j Y5
end
open PySem PySem.Spec PySem.Calls PyProof.Rows
section
variable{X:Cx}
def Nj:iG X "int.bit_length"<|fun x xs H Q=>∃i:Int,x=.p i/\xs=[]/\Q (.p ((Builtin.Int.intBits i:Nat):Int)) H:=by rintro a s U H x xs v c Q I b rv⟨i,rfl,rfl,q⟩;obtain⟨t,rfl⟩:=b;cases rv;exact call_int_bit_length ⟨.p _,H,I.tok _,⟨_,rfl⟩,q⟩
end
def dJ(H H':Hp):Prop:=∀a o,H a=y0 o->H' a=y0 o
def dJ.refl:dJ H H:=λ_ _ h=>h
def dJ.trans (a:dJ H H1)(b:dJ H1 H2):dJ H H2:=λx o h=>b x o<|a x o h
def bu.le {K:Ab1}(h:bu K H a xs)(l:dJ H H'):bu K H' a xs:=by
 obtain h|h:=h
 .refine .u ?_;obtain h|⟨u,h⟩:=h
  .exact .u<|l _ _ h
  .exact .w ⟨u,l _ _ h⟩
 .exact .w h
noncomputable def gR(g:Int->Int):Int->List Int->Int
|b,[]=>b
|b,x::xs=>if g x<g b then gR g x xs else gR g b xs
def Z9{id:String}(b:(args.C (·.1)||kws.C (·.1.x))=y9)
 (h:wpAny M A (evalArgs (.u id) k9 args kws) (λa j=>wpAny M A (call (.u id) (first++a.pos) a.kw) Q E j) E s):
 wpAny M A (callWith pos (.u id) first args kws) Q E s:=by
 refine AC<|Pi<|PP h (λa j c=>AC<|Tj ?_) λ_ _ x=>x;simp only[b];exact AC<|FS<|AC<|PP c (λr d e=>AC<|Pi<|VD<|FS e) λ_ _ x=>x
section
variable{X:Cx}{pins:List<|Addr×Obj}{U:St}{H0:Hp}{q l S J:Addr}{is:List Int}{g:Int->Int}{R:Result->Shared->Prop}
def sd(X:Cx)(U:St)(a:Hp)(q:Addr)(is:List Int)(g:Int->Int):Prop:=∀(pins:List<|Addr×Obj)(s:Shared)(H:Hp)(n:Int)(t:Tok),n∈is->Inv X pins U H s->dJ a H→
 wpAny (model X.u X.w) X.A.u (call (.j q) [.p n t]) (EP X pins U λv H'=>v=.p (g n)/\dJ H H') (λ_ _=>False) s
def bJ.keep (h:bJ X pins H b)(n:H' b=u0):bJ X pins H' b:=⟨n,h.2⟩
def HE(T:sd X U H0 q is g)(o:n∈is)(I:Inv X pins U H s)(h:dJ H0 H)(fS:bJ X pins H S)(l:bJ X pins H J)(i:s.j.j S=y0 oS)(d:s.j.j J=y0 oJ)(dS:∀v,oS.j≠.u v)(p:∀v,oJ.j≠.u v)
 (k:∀t' s' H',Inv X pins U H' s'->dJ H0 H'->bJ X pins H' S->bJ X pins H' J->s'.j.j S=y0 oS->s'.j.j J=y0 oJ->Q (.p (g n) t') s'):
 wpAny (model X.u X.w) X.A.u (call (.j q) [.p n t]) Q E s:=by
 have j:=I.pinned (λb a=>by
  obtain rfl|a:=Ab5.u a
  .exact fS
  .rwa [Ac8.u a])<|λb a=>by
  obtain rfl|a:=Ab5.u a
  .exact⟨_,i,dS⟩
  .rw[Ac8.u a];exact⟨_,d,p⟩
 refine PP (T _ s H n t o j h) (λu s' m=>?_) λ_ _ z=>z.j;obtain⟨v,H',c,r,rfl,le⟩:=m;obtain⟨t',rfl⟩:=r;have f:=c.pin _<|Ab _<|Ab _<|Jg Y7 i;have e:=c.pin _<|Ab _<|Ab _<|Jg Y7 d;exact k t' s' H' c.bT (h.trans le) (fS.keep f.2.1) (l.keep e.2.1) f.1 e.1
def BS(g:Int->Int):Option Int->Array Value->Prop
|none,a=>a=#[]
|some n,a=>∃t u,a=#[.p n t,.p (g n) u]
set_option backward.eqns.nonrecursive true in
def oY(g:Int->Int):Option Int->List Int->Int
|none,n::r=>gR g n r
|some n,r=>gR g n r
|_,_=>0
set_option tactic.hygienic true in
def LX(hh:X.A.j=u0)(T:sd X U H0 q is g)(hl:bu X.K H0 l<|is.j .p)(L:l≠J)(E:S≠J):∀(rest:List Int)(j:Nat)(r:Option Int)(bs:Array Value)(c:Nat)(s:Shared)(H:Hp),is.G j=rest->j<=is.e->(r=u0->rest≠[])->Inv X pins U H s->dJ H0 H->bJ X pins H S->bJ X pins H J→
 s.j.j S=y0 (seqObj "list" bs c)->BS g r bs->s.j.IsListIter J l j->(∀t s' H',Inv X pins U H' s'->dJ H0 H'->R (.ok<|.ret<|.p (oY g r rest) t) s')->codeAny (model X.u X.w) X.A (.u "min.loop" ⟨[.j J,.j q,.j S],[]⟩) R s:=by
 have d:(toString "min"++toString ".loop":String)="min.loop":=by decide
 intro rest;induction rest with
|nil=>
  intro j r bs c s H hd hj hn I Z fS fJ eS a D hR;cases r with
 |none=>exact absurd rfl<|hn rfl
 |some C=>
  obtain⟨tv,tb,rfl⟩:=a;obtain⟨f,rv,pl,-⟩:=I.list<|hl.le Z;have il:f.e=is.e:=by rw[←rv.e,Aa]
  have W:=Walks.list (prog:=X.u) (w:=X.w) (A:=X.A.u) hh J l L f.w;refine S9 UC ?_;rw[Te S2 _];show wpAny _ X.A.u (seqItems? (.j S)>>=_) _ _ _;refine AC<|wpAny_seqItems eS rfl ?_;show wpAny _ X.A.u (tryCatch (pyNext<|.j J) _>>=_) _ _ _;refine AC<|T1<|W.done _ _ _ ⟨by rw[Ac7,il,←(Nat.le_antisymm hj<|List.drop_eq_nil_iff.u hd)];exact D,pl.K⟩ λh' tk' k=>?_;have F:=k S _ (by simpa using E) eS;have s1:=Ah4.update h' S<|Obj.mapSeq λ_=>(#[]:Array Value);show wpAny _ X.A.u (updateSeq S (λ_=>#[])>>=_) _ _ _;refine AC<|Us F rfl<|AC<|UD<|FS ?_;have I1:Inv X pins U H {s with heap:=h',toks:=tk'}:=I.dr (ch:=[J]) k λb a=>by rwa [Ac8.u a]
  exact hR _ _ _ (I1.dr (ch:=[S]) (λb o a e=>(s1.2 b<|by simpa using a).j e) λb a=>by rwa [Ac8.u a]) Z
|cons n rest ih=>
  intro j r bs c s H hd hj hn I Z fS fJ eS a D hR;obtain⟨f,rv,pl,-⟩:=I.list<|hl.le Z;have il:f.e=is.e:=by rw[←rv.e,Aa]
  have en:is[j]?=y0 n:=by have:=congrArg (·[0]?) hd;simpa using this
  have G:j<is.e:=(Aa0.u en).1;refine S9 UC ?_;rw[Te S2 _];show wpAny _ X.A.u (seqItems? (.j S)>>=_) _ _ _;refine AC<|wpAny_seqItems eS rfl ?_;show wpAny _ X.A.u (tryCatch (pyNext<|.j J) _>>=_) _ _ _;refine AC<|T1<|(Walks.list (prog:=X.u) (w:=X.w) (A:=X.A.u) hh J l L f.w).item j _ _ _ (by rwa [Ac7,il]) ⟨D,pl.K⟩ λv h' tk' hP Q k=>?_;obtain⟨u,hu,ru⟩:=rv.get (i:=j) (x:=.p n) (by rw[Ab9,en];rfl);obtain⟨tn,rfl⟩:=ru;obtain rfl:v=.p n tn:=by
   have:f[j]?=y0 v:=by simpa using hP
   rw[hu]at this;exact(Ae0.inj this).u
  obtain⟨oJ,hoJ,hoc,B⟩:=id Q.1;have F:h'.j S=y0 _:=k S _ (by simpa using E) eS;show wpAny _ X.A.u (tryCatch (holding [.p n tn]<|call (.j q) [.p n tn]) _>>=_) _ _ _;refine AC<|T1<|Pi<|HE T (Ac3 en) (I.dr (ch:=[J]) k λb a=>by rwa [Ac8.u a]) Z fS fJ F hoJ (λv z=>by cases z) (λv z=>by rw[B]at z;cases z) λy s2 H2 I2 M Y V m N=>?_;have O:is.G (j+1)=rest:=by have:=congrArg List.tail hd;simpa[List.tail_drop]using this
  have s1:=Ah4.update s2.j S<|Obj.mapSeq λ_=>#[.p n tn,.p (g n) y];obtain⟨c2,hc2⟩:∃c2,(s2.j.x S<|Obj.mapSeq fun _=>#[.p n tn,.p (g n) y]).j S=y0 (seqObj "list" #[.p n tn,.p (g n) y] c2):=⟨_,get?_update_seq m fun _=>#[.p n tn,.p (g n) y]⟩;have K:=λ(he:oY g r (n::rest)=oY g (y0 n) rest)=>ih (j+1) (y0 n) _ c2 {s2 with heap:=_} H2 O G (λz=>nomatch z) (I2.dr (ch:=[S]) (λb o a e=>(s1.2 b<|by simpa using a).j e) λb a=>by rwa [Ac8.u a]) M Y V hc2 ⟨_,_,rfl⟩ ⟨oJ,(s1.2 J E.symm).j N,hoc,B⟩ λt s' H' I' l'=>he▸hR t s' H' I' l';cases r with
|none=>cases a;show wpAny _ X.A.u (updateSeq S (λ_=>#[.p n tn,.p (g n) y])>>=_) _ _ _;refine AC<|Us m rfl ?_;rw[d];exact FS ⟨TF S2 _,K rfl⟩
|some C=>
   obtain⟨tv,tb,rfl⟩:=a;show wpAny _ X.A.u (tryCatch (holding [.p n tn,.p (g n) y]<|richCompare .Lt (.p (g n) y) (.p (g C) tb)>>=_) _>>=_) _ _ _;refine AC<|T1<|Pi<|AC<|CmpOf.ints_lt (prog:=X.u) (w:=X.w) (A:=X.A.u) (P:=λ(i:Nat) v=>∃t,v=.p (if i=0 then g n else g C) t) (λi=>if i=0 then g n else g C) (λi v h=>h) 0 1 _ _ _ _ _ ⟨y,rfl⟩ ⟨tb,rfl⟩<|AC<|Pi<|SZ ?_;refine AC<|UD<|FS ?_;show wpAny _ X.A.u (if u9 (g n<g C)=k9 then _ else _) _ _ _;by_cases p:g n<g C
   .rw[Da<|FB p];refine AC<|Us m rfl<|AC<|UD ?_;rw[d];exact FS ⟨TF S2 _,K<|Da p⟩
   .rw[FM<|by rw[IR p];exact Ac0];refine AC<|UD ?_;rw[d];refine FS ⟨TF S2 _,ih (j+1) (y0 C) _ c _ H2 O G (λz=>nomatch z) I2 M Y V m ⟨_,_,rfl⟩ ⟨oJ,N,hoc,B⟩ λt s' H' I' l'=>?_⟩;have:=hR t s' H' I' l'
    rwa [oY,gR,FM p]at this
def R1(j:X.A.j=u0){s:Shared}{H:Hp}{n:Int}{Q E:Value->Shared->Prop}(T:sd X U H q (n::is) g)(I:Inv X pins U H s)(h:bu X.K H l<|(n::is).j .p)(i:∀t s' H',Inv X pins U H' s'->dJ H H'->Q (.p (gR g n is) t) s'):
 wpAny (model X.u X.w) X.A (call (.u "min") [.j l] [(Str.ofString "key",.j q)]) Q E s:=by
 have a:(toString "min"++toString ".loop":String)="min.loop":=by decide
 obtain⟨k,rv,pl,-⟩:=I.list h;have c:=pl.K;obtain⟨m,f,_⟩:=id c;refine kmk_tree PySem.F.kind_min PySem.F.plain_min PySem.F.entry_min (kmk_min_key _ _) ?_;show wpAny _ X.A.u (Builtin.Builtins.bindParams "min" ["key","default"] 0 ⟨[],[(Str.ofString "key",.j q)]⟩>>=_) _ _ s;refine AC<|Tq (show Builtin.Builtins.bindParams "min" ["key","default"] 0 ⟨[],[(Str.ofString "key",.j q)]⟩=pure [some (.j q),none]from rfl)<|AC<|FS ?_;refine AC<|Ta c<|AC<|wpAny_newList ?_<|Ag0 _;rw[a];have d:(s.j.w {cls:=.w "list_iterator",data:=.w #[.j l,.p 0 0]}).u.j=s.j.u.j+1:=size_push' ..;exact FS ⟨TF S2 _,LX j T h (Ac1<|Ac f) (by rw[d];exact Ao2<|Af5 _) _ 0 u0 _ _ _ H rfl (Ag0 _) (λ_ z=>nomatch z) (I.kept λb u e=>Aa8 _<|Aa8 _ e) dJ.refl (I.eE (by rw[d];exact Af1 _)<|I.aT.Q<|by rw[d];exact Af1 _) (I.eE (Ab0 _)<|I.aT.Q<|Ab0 _) (Ac4 _ rfl) rfl ⟨_,Aa8 _<|Ac4 _ rfl,rfl,rfl⟩ i⟩
end
def D3(K:Ab1)(c:Sp)(E:XK)(b:TE):TE:=λU H Q=>b U H λx H1=>∃(l:Addr)(n:Int)(is:List Int)(g:Int->Int),x=.j l/\bu K H1 l ((n::is).j .p)/\(∀m∈n::is,∀H2,dJ H1 H2->c [.p m] H2 (λv a=>v=.p (g m)/\dJ H2 a) E)/\∀H2,dJ H1 H2->Q (.p<|gR g n is) H2
section
variable{X:Cx}{CX:ig}{k:Nat}{f:Addr}{fd:FuncData}{ps:List Str}{sp:Sp}{E:XK}{x fn:Str}{p p2 kp pos:Pos}{e:Expr}{te:TE}
def RB(hc:X.calm=true)(hg:Gl X x)(hm:X.mg x=none)(Y:bootBuiltins x=some (.u "min"))(F:bx X.u X.w X.K X.mg X.base CX k f fd ps sp)(P:ba (k+1) X.A)(z:Gl X fn)(C:X.mg fn=some (.j f))(Z:Binds X.K fd ps [])
 (hE:∀outer H s e s',¬CX outer H s E e s')(S:PE X e te)(hn:x≠"__name__":=by decide)(o:(x==("__debug__":Str))=false:=by decide)(A:(fn==("__debug__":Str))=false:=by decide)
 (B:starEach [e] X.j=(y9,eval e X.j)::starEach [] X.j:=by rfl):PE X (.y (.j x p) [e] [⟨y0<|Str.ofString "key",.j fn p2,kp⟩] pos)<|D3 X.K sp E te:=by
 intro a s U H Q I h;refine S3<|Qx I hg hm Y ?_ hn o;have hk:PK X [⟨y0<|Str.ofString "key",.j fn p2,kp⟩]<|rL (tC<|.j f) rO:=N1 (sM z C rfl A) DT;have L:=(Ze S ql B) pos a s U H (λj i=>match j with
|[v]=>∃l n is g,v=.j l/\bu X.K i l ((n::is).j .p)/\(∀m∈n::is,∀b,dJ i b->sp [.p m] b (λv H3=>v=.p (g m)/\dJ b H3) E)/\∀b,dJ i b->Q (.p<|gR g n is) b
|_=>False) I h
 .refine Z9 (by rw[B];rfl) ?_;rw[B]at L⊢;refine evalArgs_kw rfl<|aN L ?_;rintro us T ⟨j,i,J,W,M⟩;obtain⟨v,rfl⟩:∃v,j=[v]:=by
   match j,M with
|[v],_=>exact⟨v,rfl⟩
  obtain⟨l,n,is,g,rfl,hl,D,hQ⟩:=M;refine aN (hk pos a T U i (λO b=>O=[.j f]/\b=i) J ?_) λws s2 ⟨O,b,I2,rz,ez,R⟩=>?_
  .exact⟨rfl,rfl⟩
  subst ez R;obtain⟨u,rfl,ru⟩:=W.one;obtain⟨w,rfl,G⟩:=rz.one;obtain rfl:u=.j l:=ru;obtain rfl:w=.j f:=G;refine R1 (J.j.hd hc) (λa s H d t y I hH=>?_) I2 hl λt s' N I' l'=>⟨.p _,N,I',⟨_,rfl⟩,hQ N l'⟩;have c:=D d y H hH;have K:Vals [V.int d] [Value.int d t]:=.j ⟨_,rfl⟩ .u;refine Tp<|S5 (F.run X.A.u X.B s H ⟨[.p d t],[]⟩ [.p d t] [.p d] _ E P.in1 I.gN.in1 (Z s [.p d t] I.bQ<|by rw[Af0,←K.e];exact F.len _ _ _ _ c) K c) λr s' q=>?_;cases r with
|error e=>exact hE _ _ _ _ _ q
|ok fl=>
   cases fl with
|ret u=>exact I.after q
|_=>exact False.elim q
end
noncomputable def Cx.iM (X:Cx)(x:Addr):Cx:={X with A:=X.A.mark<|y0<|.j x,calm:=y9,xe:=λ_ _=>False}
section
variable{X:Cx}{pins:List<|Addr×Obj}{U:St}{H:Hp}{s:Shared}{x:Addr}
theorem Inv.iM (I:Inv X pins U H s)(x:Addr):Inv (X.iM x) pins U H s:=
 ⟨⟨I.j.mod,I.j.kind,I.j.glob,I.j.blt,I.j.above,I.j.inj,I.j.has,I.j.lR,(λz=>nomatch z),I.j.frames,I.j.hG,I.j.ni,I.j.bs,I.j.g7,I.j.fU,I.j.fY,I.j.cQ,I.j.ik⟩,I.os,I.bare,I.base,I.loc,I.cell,I.free,I.bI,I.pin,I.aT,I.len⟩
def Inv.mO (ok:X.Ok)(I:Inv (X.iM x) pins U H s):Inv X pins U H s:=⟨ok,I.os,I.bare,I.base,I.loc,I.cell,I.free,I.bI,I.pin,I.aT,I.len⟩
end
def kU(K:Frag)(W:Addr)(b:Nat)(th:TS)(D:gy)(U:St):XK:=λa d H2=>∃C,a=.j C/\my K C/\kitCls K (.j C) (.j W)=y0 k9∧
 ∀x,H2 x=u0->th {nx:=λc H'=>D.nx (c.y b u0) H',rt:=λ_ _=>False} (U.y b<|y0<|.j x) (aH H2 x<|iX x C d)
def mu(X:Cx)(a:List<|Addr×Obj)(D:gy)(f:List ExceptHandler)(b:Value)(d:Shared):Prop:=
 wpAny (model X.u X.w) X.A (noteFrame b X.j) (λ_ e=>wpAny (model X.u X.w) X.A (setFlight b u0) (λ_ c=>wpAny (model X.u X.w) X.A (handleBy b X.j f) (SP X a D) X.xe c) X.xe e) X.xe d
def Md
 (f:X.B=X.j::X.outer)(hf:X.j.frame=some X.j.w)(hex:X.ex=[])(hW:Gl X wx)(M:X.mg wx=some (.j W))(Q:mroIn X.K W (.w "BaseException")=some true)(hN:X.N.M)(F:X.N[ie]?=some n)(j:X.j.j.j.u n=some .local)
 (S:(wx==("__debug__":Str))=false)(hb:b≠[])(hS:∀x,dj (X.iM x) b th)
 (g:Inv X pins U H1 s1)(hq:cJ X.u X.w X.B H1 s1 (kU X.K W ie th D U) ev s'):mu X pins D [.ExceptHandler (y0<|.j wx wq) (y0 n) b hp] ev s':=by
 obtain⟨b0,b,rfl⟩:=List.exists_cons_of_ne_nil hb;obtain⟨x,C0,tt,B,L,od,rfl,os,h,P,un,i,comp,new,dic,C,hC,Z,kc,q2⟩:=hq;cases hC;refine tY (R:=λl=>Heap.HeldW B (X.j::X.outer) x (.j C0) (.j tt) X.j.w l/\s'.j.C l) (vZ _ _) (λQ' k=>wpAny_looks_onW (by rw[←f];exact g.j.frames) hf (by rwa [←f]) λl a b=>k l ⟨a,b⟩) ?_;rintro l ⟨E,s⟩ O;refine tY (R:=λr=>Ap6 B (X.j::X.outer) x (.j C0) (.j tt) r/\l.C r) (jO _ _) (λQ' k=>wpAny_landsW E λr a b=>k r ⟨a,b⟩) ?_;rintro r ⟨G,H⟩ Y;have I:=ua g os h un i comp (by rwa [f])<|s.trans H;refine wpAny_handleBy_cons (codeAny_handlers_test<|TB I.j.kind hW (Ui (by rw[I.j.glob];exact I.mod.glob.keeps I.bk) M ?_) S)<|λz=>nomatch z;refine EI I.bQ (G.there) kc Q<|codeAny_handlers_suite_as<|tY (R:=λw=>Ap6 B (X.j::X.outer) x (.j C0) (.j tt) w/\r.C w) (jO _ _) (λQ' k=>lands_againW G λw a b=>k w ⟨a,b⟩) ?_;rintro w ⟨K,N⟩ V;have A:L x=none:=by
  cases z:L x with
|none=>rfl
|some u=>
   obtain⟨o,e1⟩:=(i x u z).there;have nf:x∉cg X.B:=λhx=>by obtain⟨_,o2,e2,_⟩:=g.stack.mem hx;rw[new]at e2;cases e2
   have e3:=comp x o e1 (.u ⟨u,z⟩) nf;rw[P.2.1]at e3;cases e3
 have d:∀b o,s1.j.j b=y0 o->b≠x:=λb o z e=>by rw[e,new]at z;cases z
 obtain⟨o6,vs6,e6,c6,d6,_⟩:=K.first;refine Zv (by
   refine(ua g os h un i comp (by rwa [f])<|(s.trans H).trans N).gv A (λz=>?_) (λy c z=>?_) (λp hp=>?_) (λb u z=>?_)<|Sa e6 c6 (by unfold notCls;rw[d6]) λdx z=>?_
   .obtain⟨m,⟨o,_,_,t,_⟩,_⟩:=g.loc;exact d _ o t z.u
   .obtain⟨_,o,t,_⟩:=g.cell y c z;exact d c o t
   .exact d p.1 _ (g.pin p hp).1
   .obtain⟨o,t⟩:=g.base.there b u z (by rw[hex];simp);exact d b o t
   .obtain⟨o,e0,d0⟩:=dic.1 dx z;obtain⟨o',e1,d1⟩:=((O.trans Y).trans V) x o e0;have:=e6.u.j e1;cases this;exact d1.1.j d0) hN F (.u j) (v:=.j x) rfl (λs8 I8=>PP (hS x pins s8 _ _ _ (I8.iM x)<|q2 x A) (λP s9 z=>?_) λ_ _ z=>False.elim z)<|.w j
 cases P with
|next=>obtain⟨U',L,J,q⟩:=z;exact Hi (J.mO I8.j) hN F j λs10 T=>⟨_,_,T,q⟩
|ret u=>obtain⟨_,_,_,_,_,q⟩:=z;exact q.j
|brk=>obtain⟨_,_,_,q⟩:=z;exact q.j
|cont=>obtain⟨_,_,_,q⟩:=z;exact q.j
def gb(X:Cx)(d:List ExceptHandler)(a:List Stmt)(t:TS):Prop:=
 ∀(pins:List<|Addr×Obj)(s:Shared)(U:St)(H:Hp)(D:gy)(b:Flow->Shared->Prop),Inv X pins U H s->t D U H->(∀s c H',Inv X pins c H' s->D.nx c H'->b .next s)→
  wpAny (model X.u X.w) X.A (execs a X.j) b (mu X pins D d) s
def gb.imp {st:List Stmt}(h:gb X hs st t)(k:∀D U H,t' D U H->t D U H):gb X hs st t':=λa s U H D b I q c=>h a s U H D b I (k _ _ _ q) c
def D9(K:Frag)(W:Addr)(a:Nat)(th:TS)(b:Sp)(t:TA)(o:Option Nat):TS:=λD U H=>t U H λvs H1=>b vs H1 (λy H2=>D.nx (match o with|none=>U|some i=>U.y i<|y0 y) H2)<|kU K W a th D U
def dE(X:Cx)(c:List ExceptHandler)(o:Option Nat)(e:Expr)(t:TS):Prop:=
 ∀(pins:List<|Addr×Obj)(s:Shared)(U:St)(H:Hp)(D:gy)(b:Value->Shared->Prop),Inv X pins U H s->t D U H->(∀u a y H2,Inv X pins U H2 a->RelV y u->D.nx (match o with|none=>U|some i=>U.y i<|y0 y) H2->b u a)→
  wpAny (model X.u X.w) X.A (eval e X.j) b (mu X pins D c) s
def dE.imp (h:dE X hs o e t)(k:∀D U H,t' D U H->t D U H):dE X hs o e t':=λa s U H D c I q b=>h a s U H D c I (k _ _ _ q) b
def MY
 (M:∀a b,¬X.xe a b)(n:∀{pins}{D}{U}{H1}{j s'}{L},Inv X pins U H1 j->cJ X.u X.w X.B H1 j (kU X.K W ie th D U) L s'->mu X pins D hs L s')
 (F:bx X.u X.w X.K X.mg X.base (cJ X.u X.w) k f fd ps sp)(m:ba k X.A)(G:Gl X fx)(C:X.mg fx=y0 (.j f))
 (J:keepIn X.K (.j f)=true)(A:Binds X.K fd ps [])(O:PA X (e::es) t)(d:(fx==("__debug__":Str))=false)(v:starEach (e::es) X.j=(false,eval e X.j)::starEach es X.j)(l:(backTo cp<|starEach es X.j).C (·.1)=false):
 dE X hs o (.y (.j fx p) (e::es) [] cp)<|D9 X.K W ie th sp t o:=by
 intro pins s U H D Q I h E;refine S3<|wK I G C (callWith_K I.j.mod.kI J (PP (O cp pins s U H _ I h) ?_ λ_ _ z=>(M _ _ z).j) v l) d;rintro i j⟨x,H1,c,r,q⟩;refine⟨c.bQ,?_⟩;refine Tp<|S5 (F.run X.A X.B j H1 ⟨i,[]⟩ (i++[]) x _ _ m c.gN (A j i c.bQ<|by rw[Af0,←r.e];exact F.len _ _ _ _ q) (by rwa [Af0]) q) λres s' g=>?_;cases res with
|ok N=>
  cases N with
 |ret u=>obtain⟨y,P,K,w,B⟩:=c.after g;exact E _ _ _ _ K w B
 |_=>exact False.elim g
|error L=>exact n c g
def F0(h:dE X hs (y0 i) e t)(c:X.N.M)(j:X.N[i]?=y0 gx)(b:X.j.j.j.u gx=y0 .local)(k:swapsWith e (y0<|.j gx gp) aq.u X.j=pure y9):gb X hs [.j [.j gx gp] e aq] t:=λa s U H D o I q g=>
 T9<|Vn (h a s U H D _ I q λu r y p m d f=>Zv m c j (.u b) d (λn l=>To<|g _ _ _ l f)<|.w b) k
def PH(h1:gb X (d::hs) sts t):PS X (.Try sts (d::hs) [] [] pos) t:=λa s U H D I h=>wpAny_Try_except<|h1 a s U H D _ I h λf c b e q=>To ⟨c,b,e,q⟩
open PySem PySem.Spec PySem.Calls PySem.W PyProof.Rows Builtin
noncomputable def iY{b:Type}:List b->List (List b)
|[]=>[[]]
|a::l=>iY l++(iY l).j (a::·)
abbrev sm:List<|List Nat:=iY<|Aa6 7
noncomputable def dB(led:Bool)(ns:List Nat):SetTable:={mask:=if ns.e<5 then 7 else 31,place:=ns.w,dummies:=#[],finger:=0,led:=led,moves:=if ns.e<5 then 0 else 1,plain:=k9}
def fu(led:Bool)(ns:List Nat)(k:Nat):SetTable:={dB led ns with place:=(ns++[k]).w}
def kO(led:Bool)(ns:List Nat):Bool:=(Aa6 7).N λk=>!(sm.x<|ns++[k])||(u9 ((dB led ns).freeSlot k=y0 (k,y9))&&u9 (((dB led ns).put k).1=fu led ns k)&&u9 (((dB led ns).put k).2=ns.e)&&(ns.e<7)&&!ns.x k&&((fu led ns k).tooFull==u9 (ns.e=4))&&(if ns.e=4 then u9 ((fu led ns k).relaid ((ns++[k]).j Ad7).w 20=y0 (dB led<|ns++[k],#[0,1,2,3,4]))else u9 (fu led ns k=dB led (ns++[k]))))
def Oq:(sm.N λns=>kO k9 ns&&kO y9 ns)=true:=by decide+kernel
noncomputable def pY(ns:List Nat):Bool:=(Aa6 ns.e).N (λi=>u9 (SetTable.below ns.w (if i=0 then 0 else ns.I (i-1) 0+1)=i)&&sm.x (ns.A i)&&sm.x (ns.A<|i+1))&&u9 (SetTable.below ns.w (if ns.e=0 then 0 else ns.I (ns.e-1) 0+1)=ns.e)&&(ns.e<8)
def Ct:(sm.N pY)=true:=by decide+kernel
section
variable{led:Bool}{ns:List Nat}{k:Nat}
structure Nx(led:Bool)(ns:List Nat)(k:Nat):Prop where
 free:(dB led ns).freeSlot (k:Int)=y0 (k,y9)
 put:(dB led ns).put k=(fu led ns k,ns.e)
 len:ns.e<7
 new:k∉ns
 full:(fu led ns k).tooFull=u9 (ns.e=4)
 rel:ns.e=4->(fu led ns k).relaid ((ns++[k]).j Ad7).w 20=y0 (dB led<|ns++[k],#[0,1,2,3,4])
 same:ns.e≠4->fu led ns k=dB led (ns++[k])
def pH(h:ns++[k]∈sm):k<7:=by
 have:∀(l m:List Nat),m∈iY l->∀x∈m,x∈l:=by
  intro l;induction l with
|nil=>intro m h x b;rw[iY,Ac8]at h;subst h;exact b
|cons a l c=>
   intro m h x b;rw[iY,Ac6,Ab7]at h;obtain h|⟨d,h,rfl⟩:=h
   .exact Aa3 _<|c m h x b
   .obtain rfl|b:=Ab5.u b
    .exact Aa4
    .exact Aa3 _<|c d h x b
 exact Ab6.u<|this _ _ h k Y7
def nx(j:ns∈sm)(i:ns++[k]∈sm):Nx led ns k:=by
 have h:=Ad0.u Oq ns j;rw[Aa2]at h;have h:kO led ns=true:=by cases led;exact h.2;exact h.1
 have h:=Ad0.u h k<|Ab6.w<|pH i;rw[show sm.x _=k9 from Ai8.w i]at h;simp only[An2,UX,Aa2,L2]at h;obtain⟨⟨⟨⟨⟨⟨a,b⟩,c⟩,d⟩,e⟩,g⟩,f⟩:=h;refine⟨a,Prod.ext b c,d,by simpa using e,eq_of_beq g,λq=>?_,λq=>?_⟩
 .rw[Da q]at f;exact Do f
 .rw[FM q]at f;exact Do f
theorem qF:∀{l m:List α},l.Sublist m->l∈iY m
|_,_,.slnil=>by simp[iY]
|_,_,.cons a h=>Ad1 _<|qF h
|_,_,.cons₂ a h=>Ab _<|Al2<|qF h
end
noncomputable def zu(ns:List Nat)(vs:List Value):Array<|Int×Value:=((ns.j Ad7).a1 vs).w
abbrev kJ(led:Bool)(ns:List Nat)(vs:List Value)(ep:Nat):Obj:={cls:=.w "set",dict:=none,data:=.set (zu ns vs) ep<|dB led ns}
def mr(led:Bool)(h:Heap)(S:Addr)(ns:List Nat)(vs:List Value):Prop:=(∃ep,h.j S=y0 (kJ led ns vs ep))/\IntsAre vs (ns.j Ad7)
section
variable{led:Bool}{ns:List Nat}{vs:List Value}{k:Nat}
def wh(h:IntsAre vs<|ns.j Ad7):(zu ns vs).j=ns.e:=by have:=h.e;simp[zu,this]
def SW(h:IntsAre vs<|ns.j Ad7)(x:Value):(zu ns vs).push ((k:Int),x)=zu (ns++[k]) (vs++[x]):=by have:=h.e;unfold zu;rw[Ad4,List.zip_append<|by simp_all];simp
def Dk{vs:List Value}{a:List Int}{k:Int}{t:Tok}(h:IntsAre vs a):IntsAre (vs++[.p k t])<|a++[k]:=by
 induction h with
|nil=>exact .cons _ _ .nil
|cons n t _ b=>exact .cons _ _ b
def tM(led:Bool)(m:List Nat)(a:m.e<8):(dB led m).fits m.e=true:=by unfold SetTable.fits SetTable.fill dB;simp;split<;>lia
def SG(led)(m)(a:m.e=5):(dB led m).fits 5=true:=by rw[←a];exact tM led m Y6
def wQ:∀a,a<7->(Ad7 a)=hashInt (Ad7 a):=by decide
def D4{prog:Program}{w:World}(h:IntsAre vs<|ns.j Ad7)(c:∀n∈ns,n<7):ElemsOf (intKind prog w) (zu ns vs).u:=by
 unfold zu;generalize e:ns.j Ad7=i at h;induction h generalizing ns with
|nil=>intro x b;simp at b
|@cons n t l k j f=>
  cases ns with
|nil=>cases e
|cons a ns=>
   injection e with e1 e2
   intro x b;obtain rfl|b:=Ab5.u b
   .have g:=c a Aa4;refine⟨⟨n,VZ _ _ _ _,?_⟩,rfl⟩;rw[←e1];exact wQ a g
   .exact f (λz d=>c z<|Aa3 _ d) e2 x b
def Fv{prog:Program}{w:World}(h:IntsAre vs<|ns.j Ad7)(c:k∉ns):List.findIdx? (λe=>(intKind prog w).is (k:Int) e.2) (zu ns vs).u=none:=by
 rw[List.findIdx?_eq_none_iff];unfold zu;generalize e:ns.j Ad7=f at h;induction h generalizing ns with
|nil=>intro x b;simp at b
|@cons n t j i g d=>
  cases ns with
|nil=>cases e
|cons a ns=>
   injection e with e1 e2
   intro x b;obtain rfl|b:=Ab5.u b
   .rw[←e1];show Value.isInt k (.p a t)=y9;have:k≠a:=λz=>c (by simp[z]);simp[Value.isInt];lia
   .exact d (λz=>c<|Aa3 _ z) e2 x b
variable{prog:Program}{w:World}{A:Around}{E:Value->Shared->Prop}{s:Shared}
def C6{led:Bool}{h:Heap}{S:Addr}{es es':Array<|Int×Value}{ep:Nat}{t t':SetTable}(a:h.j S=some {cls:=.w "set",dict:=none,data:=.set es ep t}):
 (h.x S<|Obj.putSet es' t').j S=some {cls:=.w "set",dict:=none,data:=.set es' (ep+1) t'}:=by
 have:=Ak5 (Obj.putSet es' t') a (by rw[putSet_of es' t' rfl];rfl);rw[putSet_of es' t' rfl]at this;exact this
def Hk{m:List Nat}{f:List Value}{t:SetTable}{led:Bool}(j:IntsAre f<|m.j Ad7)(i:m.e=5)(k:t.relaid (m.j Ad7).w 20=y0 (dB led m,#[0,1,2,3,4])):
 relayAll t (zu m f) 20=(zu m f,dB led m,y9):=by
 have g:=wh j;have o:=j.e;have l:(zu m f).map (·.1)=(m.j Ad7).w:=by unfold zu;rw[List.map_toArray,VI<|by simp_all]
 unfold relayAll;rw[l,k];dsimp only;have n:#[0,1,2,3,4].filterMap ((zu m f)[·]?)=zu m f:=by
  rw[i]at g;generalize zu m f=h at g;obtain⟨h⟩:=h
  match h,g with
|[a,b,c,d,e],_=>rfl
 rw[n,g,i,SG led m i];rfl
def OA{S:Addr}{t:Tok}{Q:Bool->Shared->Prop}(C:mr led s.j S ns vs)(v:ns∈sm)(p:ns++[k]∈sm)(B:∀n∈ns,n<7)
 (o:∀h',Ah4 S s.j h'->mr led h' S (ns++[k]) (vs++[.p k t])->Q k9 {s with heap:=h'}):
 wpAny (model prog w) A (setAddHashed S (.p k t)<|(intKind prog w).hash k) Q E s:=by
 obtain⟨⟨D,i⟩,d⟩:=C;have x:=nx (led:=led) v p;have l:=wh d;have g:=D4 (prog:=prog) (w:=w) d B;have m:(dB led ns).fits (zu ns vs).j=true:=by rw[l];exact tM _ _<|by have:=x.len;exact Am6 ‹_›
 have f:(zu ns vs).j<scanBound:=by rw[l];have:=x.len;unfold scanBound;exact Y8
 have a:(zu (ns++[k])<|vs++[Value.int k t]).j=ns.e+1:=by rw[wh<|by rw[Ad4];exact Dk d];simp
 have b:IntsAre (vs++[Value.int k t])<|(ns++[k]).j Ad7:=by rw[Ad4];exact Dk d
 unfold setAddHashed setAddHashedIn;refine Pi<|AC<|TR i rfl m ?_;dsimp only;rw[byScan_of rfl f g];simp only[↓reduceIte];unfold setAddByScan;refine AC<|AC<|wpAny_rule<|AC<|wpAny_setScan_of (VZ _ _ _ _) i rfl m g ?_;rw[Fv d x.new];dsimp only;have y:(intKind prog w).hash (k:Int)=(k:Int):=(wQ k<|pH p).u;have r:layNew (dB led ns) (zu ns vs) ((intKind prog w).hash (k:Int)) (.p k t)=(zu (ns++[k])<|vs++[.p k t],fu led ns k,y9,y9):=by
  rw[y];unfold layNew;rw[x.free];dsimp only;rw[x.put];dsimp only;have z:SetTable.insertAt (zu ns vs) ns.e ((k:Int),Value.int k t)=zu (ns++[k]) (vs++[.p k t]):=by unfold SetTable.insertAt;rw[←l,←SW d];simp
  rw[z];have u:(fu led ns k).fits (zu (ns++[k])<|vs++[Value.int k t]).j=true:=by rw[a];unfold SetTable.fits SetTable.fill fu dB;have:=x.len;simp;split<;>exact Y8
  unfold SetTable.orStandIn;rw[u];rfl
 rw[r];dsimp only;refine AC<|FS ?_;rw[Da<|show(fu led ns k).plain=k9 from rfl,hashByValue_scannable 8<|show(Value.int k t).scannable=k9 from rfl];refine AC<|FS ?_;dsimp only[plainKind];simp only[↓reduceIte];have e:(zu (ns++[k])<|vs++[Value.int k t]).j<=sizeLine:=by rw[a,Tf];have:=x.len;exact Y8
 refine AC<|Vv i rfl ?_ e;have h:=C6 (led:=led) (es':=zu (ns++[k])<|vs++[Value.int k t]) (t':=fu led ns k) i;have j:=Ah4.update s.j S<|Obj.putSet (zu (ns++[k])<|vs++[Value.int k t])<|fu led ns k;rw[x.full];by_cases c:ns.e=4
 .have q:=Hk b (by rw[Aa5,c];rfl)<|x.rel c;rw[FB c,a,c,show SetTable.grown (4+1)=20 from rfl,q];simp only[Am7,Yb,↓reduceIte];exact AC<|FS<|AC<|Vv h rfl (FS<|FS<|o _ (j.trans<|Ah4.update _ S _) ⟨⟨_,C6 (led:=led) h⟩,b⟩) e
 .rw[IR c];simp only[Am7,Ai,Ao1,↓reduceIte];rw[x.same c]at h j⊢;exact FS<|FS<|o _ j ⟨⟨_,h⟩,b⟩
end
section
variable{ns:List Nat}
def rp(a:ns∈sm)(b:i<ns.e):ns.A i∈sm/\ns.A (i+1)∈sm/\SetTable.below ns.w (if i=0 then 0 else ns.I (i-1) 0+1)=i:=by have h:=Ad0.u Ct ns a;unfold pY at h;rw[Aa2,Aa2]at h;have h:=Ad0.u h.1.1 i<|Ab6.w b;rw[Aa2,Aa2]at h;exact⟨Ai8.u h.1.2,Ai8.u h.2,Do h.1.1⟩
def o9(a:ns∈sm):SetTable.below ns.w (if ns.e=0 then 0 else ns.I (ns.e-1) 0+1)=ns.e/\ns.e<8:=by have h:=Ad0.u Ct ns a;unfold pY at h;rw[Aa2,Aa2]at h;exact⟨Do h.1.2,Do h.2⟩
def RR(c:ns∈sm):∀n∈ns,n<7:=λn b=>by obtain⟨i,a,rfl⟩:=List.mem_iff_getElem.u b;have:=(rp c a).2.1;rw[Am1 a]at this;exact pH this
end
section
variable{prog:Program}{w:World}{A:Around}{R:Result->Shared->Prop}{I:Addr}{fp wr:List Addr}{G:Array GenState->Array GenState->Prop}{n:Nat}{P:Nat->Value->Prop}{St:Nat->Shared->Prop}
def Rr(W:WalksS prog w A.u I fp wr G ns.e P St)(S)(m:S∉fp)
 (p:∀i v,P i v->vs[i]?=y0 v)(q:ns∈sm)(K:IntsAre vs<|ns.j Ad7):
 ∀(k i:Nat)(s:Shared),ns.e-i=k->i<=ns.e->St i s->mr led s.j S (ns.A i) (vs.A i)→
  (∀s',Moved (S::wr) G s s'->mr led s'.j S ns vs->R (.ok<|.ret .x) s')→
  codeAny (model prog w) A (.u "set.update.loop" ⟨[.j S,.j I],[]⟩) R s:=by
 have u:S∉wr:=λh=>m<|W.sub _ h;have c:∀b∈wr,b∈S::wr:=λb l=>Aa3 _ l;have U:vs.e=ns.e:=by have:=K.e;rwa [Aa]at this
 intro k;induction k with
|zero=>
  intro i s Q O f B J;have C:i=ns.e:=by lia
  subst C;refine S9 Uj ?_;rw[Te TQ _];show wpAny _ A.u _ _ _ s;refine AC<|W.done s _ _ f λs' q=>?_;show wpAny _ A.u _ _ _ s';rw[Ap,Ah0 Y6]at B;exact FS<|J s' (q.mono c)<|by obtain⟨⟨D,H⟩,rest⟩:=B;exact⟨⟨D,q.heap S _ u H⟩,rest⟩
|succ k V=>
  intro i s Q O f B J;have a:i<ns.e:=by lia
  refine S9 Uj ?_;rw[Te TQ _];show wpAny _ A.u _ _ _ s;refine AC<|W.item i s _ _ a f λv s' M z r=>?_;have d:=p i v M;obtain⟨t,e⟩:=IntsAre.int_at K i v d;have N:(ns.j Ad7).I i 0=((ns[i]:Nat):Int):=by rw[Ac9,Ab9,Aa1 a];rfl
  rw[N]at e;subst e;have L:=rp q a;have e1:ns.A _=ns.A i++[ns[i]]:=Am1 a;have e2:vs.A (i+1)=vs.A i++[Value.int ((ns[i]:Nat):Int) t]:=by rw[Am1 Y6];rw[Aa1 Y6]at d;rw[Ae0.inj d]
  show wpAny _ A.u _ _ _ s';refine AC<|Pi ?_;unfold setAdd;refine Pi<|AC<|(intKind prog w).pyHash (k:=((ns[i]:Nat):Int)) (VZ _ _ _ _) ?_;refine OA (s:={s' with toks:=s'.u+1}) (by obtain⟨⟨D,H⟩,rest⟩:=B;exact⟨⟨D,r.heap S _ u H⟩,rest⟩) L.1 (e1▸L.2.1) (λn T=>RR q n<|Aq1 T) λX g x=>?_;rw[←e1,←e2]at x;refine FS ⟨TF TQ _,V _ _ Y6 a (W.frame _ s' _ _ z (Af1 _) λb l o e=>?_) x λE j y=>?_⟩
  .rw[g.2 b<|λh:b=S=>m<|by rw[←h];exact l];exact e
  .refine J E (Moved.trans W.gtrans ((r.mono c).then_heap (Af1 _) λb o l e=>?_) j) y;rw[g.2 b<|λh:b=S=>l<|by rw[h];exact Aa4];exact e
end
section
variable{prog:Program}{w:World}{A:Around}{E:Value->Shared->Prop}{s:Shared}
noncomputable abbrev eB(w:World):Bool:=w.u.followText "set-order"
def DU(a:Value){Q₁:Value->Shared->Prop}(h:Q₁ (.j s.j.u.j) {s with heap:=s.j.w<|gB<|!eB w}):
 codeAny (model prog w) A (.call (.u "set.__new__") ⟨[.w "set",a],[]⟩) (wants Q₁ E) s:=by
 refine Ur<|AC<|Tq (F.newCall_set_1 a)<|FS ⟨TF V0 _,S9 F.entry_set_new ?_⟩;rw[Te V0 _];unfold Builtin.«set.__new__»Builtin.Frozenset.newClass;have b:=sub_set_self;obtain⟨f,g,d,e,c⟩:=s;dsimp only
 wp_walk
 refine Tz<|FS ?_;dsimp only;simp only[newObj];exact AC<|VC<|FS<|FS h
set_option maxHeartbeats 8000000 in
theorem OL{b:Addr}{vs:Array Value}{ns:List Nat}{Q:Value->Shared->Prop}
 (hh:A.j=u0)(ht:s.j.B b vs)(U:IntsAre vs.u<|ns.j Ad7)(m:ns∈sm)
 (q:∀(h':Heap)(B:Nat),mr (!eB w) h' s.j.u.j ns vs.u→
   (∀c o,c<s.j.u.j->s.j.j c=y0 o->h'.j c=y0 o)->Q (.j s.j.u.j) {s with heap:=h',toks:=B}):
 wpAny (model prog w) A (call (.w "set") [.j b]) Q E s:=by
 obtain⟨c,tl,Z⟩:=F.called_set.mro;have N:=F.called_set.made;have P:=F.called_set.sub;refine Tp<|Ur ?_;show wpAny _ _ (callAny (.w "set") _) _ _ _;refine FS ⟨TL _<|by decide+kernel,S9 F.entry_type_call ?_⟩;rw[Around.under_plain (weight_type_call_type "set" [.j b] []) rfl];have h1:=F.called_set.notType;have h2:=F.called_set.canCreate;have hct:=F.typeCall_set_1<|.j b
 repeat (any_goals (first|assumption|wp_step))
 generalize p:(!eB w)=a at q;refine S5 (DU (.j b) (E:=E) (Q₁:=λV f=>V=.j s.j.u.j/\f={s with heap:=s.j.w<|gB a}) ⟨rfl,by rw[p]⟩) λr f D=>?_;cases r with
|error e=>exact D
|ok fl=>
  cases fl with
|ret V=>
   obtain⟨rfl,rfl⟩:=D;have S:(s.j.w<|gB a).j s.j.u.j=y0 (gB a):=Ac4 _ rfl;have hT:Shared.TypeIs {s with heap:=s.j.w<|gB a} (.j s.j.u.j) "set":=⟨_,S,rfl⟩;have hli:=F.called_set.init.u;have hbi:=F.called_set.init.bind<|.j s.j.u.j
   repeat (any_goals (first|assumption|wp_step))
   refine S5 (Tc (R:=wants (λr g=>r=.x/\∃h' B,g={s with heap:=h',toks:=B}∧
    mr a h' s.j.u.j ns vs.u∧
    (∀c o,c<s.j.u.j->s.j.j c=y0 o->h'.j c=y0 o)) E) F.called_set.init.plain F.entry_set_init<|check_set_init_1 hT ?_) λy g d=>?_
   .obtain⟨⟨c1,c2,c3,c4⟩,z,h,C,k⟩:=ht;replace h:c1=.w "list":=h;replace k:c3=.j vs C:=k;subst h;subst k;have n:(s.j.w<|gB a).j b=y0 {cls:=.w "list",dict:=c2,data:=.j vs C,slots:=c4}:=Aa8 _ z;have Y:=PySem.F.sub_list_set;have T:=PySem.F.sub_list_frozenset;have hne:(Value.type "list"==Value.type "dict")=false:=by decide
    have x:(s.j.w<|gB a).B b vs:=⟨_,n,rfl,C,rfl⟩;have O:vs.j=ns.e:=by have:=U.e;rw[Aa]at this;simpa using this
    unfold Builtin.«set.__init__»noKeywords Builtin.Frozenset.updateFrom;generalize M:pyIter=PI
    wp_walk
    subst M;refine Ta x<|AC<|wpAny_runValue ?_;have t:b<s.j.u.j:=Ac z;have K:A.u.u.u.j=none:=by simp[hh]
    have J:(s.j.w<|gB a).u.j=s.j.u.j+1:=Ak0 ..;have u:b≠(s.j.w<|gB a).u.j:=by rw[J];exact Ac1<|Am6 t
    have I:s.j.u.j∉[(s.j.w<|gB a).u.j,b]:=by rw[J];simp only[Ab5,Ag2,or_false,not_or];exact⟨Ac1<|Af5 _,Ao2 t⟩
    have W:=(Walks.list K _ b u vs).toS (prog:=prog) (w:=w);rw[O]at W;refine Rr (led:=a) (vs:=vs.u) W s.j.u.j
     I (λi v hv=>by rw[Ap0];exact hv) m U (ns.e-0) 0 _ Y6 (Ag0 _)
     ⟨⟨_,Ac4 _ rfl,rfl,rfl⟩,(x.push _)⟩ ?hS0 ?hR
    case hS0=>exact⟨⟨0,Aa8 _ S⟩,.nil⟩
    case hR=>
     intro s' m l;obtain⟨h',g',d',G,H⟩:=s';have eg:g'=s.w:=m.gens;have ed:d'=s.drawn:=m.drawn;have eo:H=s.os:=m.os;subst eg;subst ed;subst eo;show wpAny _ _ _ _ _ _;refine FS ?_;show wpAny _ _ (ret Value.none) _ _ _;refine FS ⟨rfl,h',G,rfl,l,λc o X e=>m.heap c o ?_<|Aa8 _<|Aa8 _ e⟩;simp only[Ab5,Ag2,or_false,not_or];exact⟨Ac1 X,by show c≠(s.j.w<|gB a).u.j;rw[J];exact Ac1<|Am6 X⟩
   .cases y with
 |error e=>exact d
 |ok j=>
     cases j with
 |ret r=>
      obtain⟨rfl,h',B,rfl,l,L⟩:=d
      repeat (any_goals (first|assumption|wp_step))
      exact q _ _ l L
 |_=>exact d.j
|_=>exact D.j
end
def bA:Slot "set_iterator" "__next__" "set_iterator.__next__":=
 .of (owner:="set_iterator") (n:="__next__") (by rw[V1,UK];kernel_rfl) (by decide+kernel) (by decide+kernel) (by decide+kernel)
  (by first|exact .u<|by decide+kernel|exact .inr Y7)<|by rw[UL];kernel_rfl
def WO:entryFor table "set_iterator.__next__"=some Builtin.«set_iterator.__next__»:=entryFor_of_tree<|by kernel_rfl
def wY(a):argsOk "set_iterator.__next__" ⟨[a],[]⟩:=by unfold argsOk;kernel_rfl
def wz:Slot "set_iterator" "__iter__" "set_iterator.__iter__":=
 .of (owner:="set_iterator") (n:="__iter__") (by rw[V1,UK];kernel_rfl) (by decide+kernel) (by decide+kernel) (by decide+kernel)
  (by first|exact .u<|by decide+kernel|exact .inr Y7)<|by rw[UL];kernel_rfl
def ZO:entryFor table "set_iterator.__iter__"=some Builtin.«dict_keyiterator.__iter__»:=
 entryFor_alias (id':="dict_keyiterator.__iter__") (by kernel_rfl) rfl (by decide+kernel)<|by kernel_rfl
def JT(a):argsOk "set_iterator.__iter__" ⟨[a],[]⟩:=by unfold argsOk;kernel_rfl
def jP:entryFor table "set.__iter__"=some Builtin.«frozenset.__iter__»:=
 entryFor_alias (id':="frozenset.__iter__") (by kernel_rfl) rfl (by decide+kernel)<|by kernel_rfl
def jX(a):argsOk "set.__iter__" ⟨[a],[]⟩:=by unfold argsOk;kernel_rfl
theorem jT:∀(l:List α) i h,(l[i]::l.eraseIdx i).a4 l
|a::l,0,_=>.refl _
|a::l,i+1,h=>(List.Perm.swap ..).j<|(jT l i<|Nat.lt_of_succ_lt_succ h).cons a
theorem Dm(f):∀n k left (a:Array α),left.e=n->(pickOrder.go f n k left a).u.a4 (a.u++left)
|0,k,left,a,h=>by rw[Ao8.u h];simp[pickOrder.go]
|n+1,k,left,a,h=>by have b:f k%left.e<left.e:=Ak2 _ Y6;unfold pickOrder.go;rw[Aa1 b];refine(Dm f n (k+1) _ _<|by rw[List.length_eraseIdx_of_lt b];lia).j ?_;rw[Array.toList_push,Af6];exact List.Perm.append_left _<|jT _ _ b
def FO(f)(xs:Array α):(pickOrder f xs).u.a4 xs.u:=by have:=Dm f xs.j 0 xs.u #[] Y7;simpa[pickOrder]using this
section
variable{prog:Program}{w:World}{A:Around}{E:Value->Shared->Prop}{s:Shared}{S I:Addr}{ns:List Nat}{vs:List Value}{ep:Nat}
def tS{led:Bool}(b:IntsAre vs<|ns.j Ad7)(a:ns∈sm):(dB led ns).fits (zu ns vs).j=true:=by rw[wh b];exact tM _ _ (o9 a).2
noncomputable def g0(w:World)(S:Addr)(ep:Nat)(ns:List Nat)(vs:List Value):Array<|Int×Value:=if eB w=k9 then pickOrder (w.u.setOrder S ep) (zu ns vs)else zu ns vs
def eC:(g0 w S ep ns vs).u.a4 (zu ns vs).u:=by
 unfold g0;split
 .exact FO _ _
 .exact .refl _
def jK(w:World)(ns:List Nat)(i:Nat):Nat:=if eB w=k9 then 0 else if i=0 then 0 else ns.I (i-1) 0+1
def dX(w:World)(h:Heap)(I S:Addr)(ns:List Nat)(ep i:Nat):Prop:=h.j I=y0 {cls:=.w "set_iterator",data:=.w #[.p (jK w ns i:Nat) 0,.p (i:Nat) 0,.j S,.p (ns.e:Nat) 0,.p (ep:Nat) 0]}
def dX.typeIs (h:dX w s.j I S ns ep i):s.TypeIs (.j I) "set_iterator":=⟨_,h,rfl⟩
open Lake renaming dX.typeIs->Lake.dX.Y
def NL{i:Nat}{R:Option (Value×Nat)->Shared->Prop}(j:s.j.j S=y0 (kJ (!eB w) ns vs ep))(g:IntsAre vs<|ns.j Ad7)(b:ns∈sm)(l:i<=ns.e)
 (h:R ((g0 w S ep ns vs)[i]?.j λe=>(e.2,jK w ns<|i+1)) s):wpAny (model prog w) A (setNext S (jK w ns i) i ep) R E s:=by
 have o:=wh g;have f:=tS (led:=!eB w) g b;unfold setNext;refine AC<|TR j rfl f ?_;dsimp only;unfold g0 jK at h;refine AC<|AC<|Tz<|FS ?_;by_cases a:eB w=k9
 .rw[Da a,Da a]at h;refine S1 (λ_=>S1 (λq=>absurd q Y7)<|λ_=>?_)<|λq=>absurd a q;refine AC ?_;unfold setWalk;refine AC<|TR j rfl f ?_;dsimp only;refine AC<|AC<|Tz<|FS<|S1 (λ_=>?_)<|λq=>absurd a q;refine AC<|Tz<|FS<|FS ?_
  rwa [show jK w ns i=0 from Da a]
 .have d:eB w=false:=Ar1.w a;rw[FM a,FM a,FM<|Nat.succ_ne_zero i,Nat.add_sub_cancel]at h;refine S1 (λq=>absurd q a)<|λ_=>S1 (λq=>absurd (show y9=k9 from q) Ac0)<|λ_=>?_;have n:(dB (!eB w) ns).led=true:=by rw[d];rfl
  refine AC<|S1 (λq=>?_)<|λ_=>FS ?_
  .rw[n]at q;exact absurd q Ac0
  .have m:jK w ns i=if i=0 then 0 else ns.I (i-1) 0+1:=FM a;have c:SetTable.below (dB (!eB w) ns).place (jK w ns i)=i:=by
    rw[m];rcases Ar4 i ns.e with q|q
    .exact(rp b q).2.2
    .have:i=ns.e:=by lia
     subst this;exact(o9 b).1
   rw[c];refine FS ?_;rcases Ar4 i ns.e with q|q
   .have k:i<(zu ns vs).j:=by lia
    have e2:(dB (!eB w) ns).place[i]?=y0 ns[i]:=by show ns.w[i]?=_;rw[UJ,Aa1 q]
    rw[Aj k,e2]
    rwa [Aj k,Ac9,Aa1 q]at h
   .rw[Ak1 Y6]
    rwa [Ak1 Y6]at h
def CF{h:Heap}(f:h.j I=some {cls:=.w "set_iterator",data:=.w #[a,b,c,d,e]}):(h.x I (Obj.mapFields (·.setIfInBounds k x))).j I=some {cls:=.w "set_iterator",data:=.w<|#[a,b,c,d,e].setIfInBounds k x}:=Heap.get?_update_self _ f rfl
def ph(a:IntsAre vs<|ns.j Ad7):(g0 w S ep ns vs).j=ns.e:=by rw[←Ah1,eC.u,Ah1,wh a]
def uy{i:Nat}{Q:Option Value->Shared->Prop}(o:A.j=u0)(c:dX w s.j I S ns ep i)(g:s.j.j S=y0 (kJ (!eB w) ns vs ep))(e:IntsAre vs<|ns.j Ad7)(j:ns∈sm)(f:i<=ns.e)
 (d:∀v h',(g0 w S ep ns vs)[i]?.j (·.2)=y0 v->dX w h' I S ns ep (i+1)->Ah4 I s.j h'->Q (y0 v) {s with heap:=h'})(n:i=ns.e->∀h',Heap.ExtBut I s.j h'->Q u0 {s with heap:=h'}):
 wpAny (model prog w) A (pyNext<|.j I) Q E s:=by
 have p:=ph (w:=w) (S:=S) (ep:=ep) e;unfold pyNext;refine AC<|T5<|TN (name:=Str.ofString "__next__") c.Y bA
 <|S7 bA c.Y WO ?_<|wY _
 unfold Builtin.«set_iterator.__next__»;refine AC<|FS<|AC<|wpAny_fieldsOf c rfl ?_;dsimp only;refine AC<|U8 g rfl (tS e j) ?_;rw[FM<|by rw[(wh e)];simp];show wpAny _ _ (setNext S (jK w ns i) i ep>>=_) _ _ s;refine AC<|NL g e j f ?_;by_cases l:i<ns.e
 .have q:i<(g0 w S ep ns vs).j:=by lia
  have d:=d (g0 w S ep ns vs)[i].2;rw[Aj q]at d⊢;dsimp only[Al7];refine AC<|UM c rfl Y7 ?_;have h:=CF (k:=0) (x:=rawInt (jK w ns<|i+1:Nat)) c;refine AC<|UM h rfl Y7 ?_;exact FS ⟨_,rfl,FS<|d _ rfl (CF (k:=1) (x:=rawInt<|(i:Int)+1) h)<|(Ah4.update ..).trans<|Ah4.update ..⟩
 rw[Ak1 Y6];dsimp only[Option.map_none];refine AC<|UM c rfl Y7 ?_;show wpAny _ _ (newExc (.w "StopIteration") []>>=_) _ _ _;refine AC ?_;simp only[newExc,newTuple];refine AC<|Ts ?_ (by size_fits);refine AC (m:=firstArgMember _ _)<|Tq (a:=Value.none) (by first|rfl|(simp only[firstArgMember];rfl)) ?_;refine Ts ?_ (by size_fits);simp only[raiseNew];refine AC<|wpAny_handled ?_;rw[show A.u.j=u0 from o];refine AC<|FS<|wpAny_throw ?_;refine AC<|VJ (T:="StopIteration") (b:=true) ⟨_,Ac4 _ rfl,rfl⟩ isSubtype_stop ?_;exact FS<|n Y6 _<|((Ah4.update ..).extBut.push _).push _
def DP(a:dX w s.j I S ns ep i)(h:Q (.j I) s):wpAny (model prog w) A (pyIter<|.j I) Q E s:=by exact Vw a.Y wz<|S7 wz a.Y ZO (FS ⟨_,rfl,"set_iterator",_,a.Y,bA.u,h⟩)<|JT _
noncomputable abbrev vM(S:Addr)(ns:List Nat)(ep:Nat):Obj:={cls:=.w "set_iterator",data:=.w #[.p 0 0,.p 0 0,.j S,.p (ns.e:Nat) 0,.p (ep:Nat) 0]}
def Hx{Q:Value->Shared->Prop}(a:s.j.j S=y0 (kJ (!eB w) ns vs ep))(d:IntsAre vs<|ns.j Ad7)(e:ns∈sm)
 (f:Q (.j s.j.u.j) {s with heap:=s.j.w<|vM S ns ep}):wpAny (model prog w) A (pyIter<|.j S) Q E s:=by
 have b:=tS (led:=!eB w) d e;have c:s.TypeIs (.j S) "set":=⟨_,a,rfl⟩;refine Vw c UN<|S7 UN c jP ?_<|jX _;unfold Builtin.«frozenset.__iter__»Builtin.Frozenset.slot0 slotArgs;simp only[List.isEmpty_nil,An2,Ao1,↓reduceIte,bind_assoc,Ae4,bne_self_eq_false];unfold Builtin.Frozenset.addrOf Builtin.Frozenset.sizeOf;refine AC<|FS ?_
 try dsimp only
 refine AC<|FS<|AC<|AC<|U8 a rfl b<|FS ?_;unfold setDrawn;refine AC<|AC<|TR a rfl b ?_;dsimp only;refine AC<|AC<|Tz<|FS<|FS ?_;refine S1 (λq=>?_)<|λ_=>?_
 .rw[Aa2]at q;exact absurd (show y9=k9 from q.2) Ac0
 refine AC<|FS<|AC<|wpAny_setEpoch_of a rfl b ?_;rw[(wh d)];refine AC<|Ts<|FS ⟨_,rfl,"set_iterator",_,⟨_,Ac4 _ rfl,rfl⟩,bA.u,?_⟩;exact f
def L8(c:s.TypeIs (.j S) "set")(h:Q false s):wpAny (model prog w) A (Builtin.List.listLengthHint<|.j S) Q E s:=by refine AC<|wpAny_specialOf c PySem.F.slot_set_len.u ?_;refine AC<|VJ (b:=k9) c (by rw[UL];kernel_rfl) ?_;exact S1 (λa=>absurd a Y5)<|λ_=>S1 (λ_=>AC<|Ud c<|FS h)<|λa=>absurd (by decide+kernel) a
def Ou(t:A.j=u0)(l:S≠I)(n:IntsAre vs<|ns.j Ad7)(q:ns∈sm):
 Walks prog w A I [I,S] [I] ns.e (λi v=>(g0 w S ep ns vs)[i]?.j (·.2)=y0 v)<|λi h=>dX w h I S ns ep i/\h.j S=y0 (kJ (!eB w) ns vs ep) where
 sub:=λb c=>by simp at c;simp[c]
 frame:=λ_ _ _ a r=>⟨r I Y7 _ a.1,r S Y7 _ a.2⟩
 item:=λi s Q E d a g=>uy t a.1 a.2 n q (Ag d) (λv m k f j=>g v m s.u k ⟨f,j.extBut S _ l a.2⟩ λb o c e=>j.extBut b o (λh=>c<|by simp[h]) e) λe=>absurd e<|Ac1 d
 done:=λs Q E a g=>uy t a.1 a.2 n q (Ab0 _) (λv _ k=>by rw[Ak1<|by rw[ph n];exact Ab0 _]at k;cases k) λ_ m p=>g m s.u λb o c e=>p b o (λh=>c<|by simp[h]) e
 self:=λ_ _ _ _ a g=>DP a.1 g
def SE(d:IntsAre vs<|ns.j Int.ofNat)(c:ns∈sm):PySem.W.KdlSrc prog w "set" S S ns.e (fun i v=>(g0 w S ep ns vs)[i]?.j (·.2)=some v)<|fun h=>h.j S=some (kJ (!eB w) ns vs ep) where
 type:=λ_ a=>⟨_,a,rfl⟩
 there:=λ_ a=>⟨Ac a,Ac a⟩
 keep:=λ_ _ a e=>e S (.u rfl) _ a
 notList:=by decide
 notTuple:=by decide
 hint:=λ_ _ _ _ a b=>L8 ⟨_,a,rfl⟩ b
 iter:=λA s f a=>⟨_,_,(λ_ _ b=>Hx a d c b),Ou f (Ac1<|Ac a) d c,⟨by show(s.j.w<|vM S ns ep).j s.j.u.j=_;rw[show jK w ns 0=0 by unfold jK;split<;>rfl];exact Ac4 _ rfl,Aa8 _ a⟩⟩
def Er(a:IntsAre vs<|ns.j Ad7):(zu ns vs).u.j (·.2)=vs:=by have:=a.e;unfold zu;rw[List.toList_toArray,VL<|by simp_all]
def IY(p:us.a4 vs)(h:IntsAre vs ms):∃j,IntsAre us j/\j.a4 ms:=by
 induction p generalizing ms with
|nil=>exact⟨ms,h,.refl _⟩
|cons x p i=>
  cases h with
 |cons n t h=>obtain⟨m,f,g⟩:=i h;exact⟨_,.cons _ _ f,g.cons _⟩
|swap x y l=>
  cases h with
 |cons n t h=>
   cases h with
 |cons k o h=>exact⟨_,.cons _ _<|.cons _ _ h,.swap ..⟩
|trans p q i1 i2=>obtain⟨m,a,b⟩:=i2 h;obtain⟨e,c,d⟩:=i1 a;exact⟨e,c,d.j b⟩
def F5{Q:Value->Shared->Prop}(u:A.j=u0)(z:s.j.j S=y0 (kJ (!eB w) ns vs ep))(g:IntsAre vs<|ns.j Ad7)(n:ns∈sm)
 (h:∀(h':Heap)(r:Nat)(j:List Value)(L:Addr)(d:Array Value)(a:List Int),(∀b o,s.j.j b=y0 o->h'.j b=y0 o)->L=h'.u.j->IntsAre d.u a->a.a4 (ns.j Int.ofNat)->a.a2 (·<=·)->Q (.j L) {s with heap:=sortedHeap (h'.w<|seqObj "list" j.w 0) L j d,toks:=r}):
 wpAny (model prog w) A (call (.u "sorted") [.j S]) Q E s:=by
 have D:=wh g;refine Calls.call_function_entry kind_sorted plain_sorted entry_sorted (args_sorted1 _) ?_;unfold Builtin.«sorted»;refine AC (m:=checkCount "sorted" 1 1 _)<|FS ?_;refine AC<|PySem.W.kdu_collect (SE g n) u z (by have:=(o9 n).2;rw[Tf];exact Ag<|Ab3 ‹_› Y5) λh' r c x f=>?_;have e:c.u=(g0 w S ep ns vs).u.j (·.2):=by
  refine Vx λi=>?_;rw[Ap0,Ab9,Ap0];cases q:c[i]? with
|some v=>exact(f.2 i v q).u
|none=>have:=Array.getElem?_eq_none_iff.u q;rw[f.1]at this;rw[Ak1<|by rw[ph g];exact this];rfl
 have p:c.u.a4 vs:=by rw[e];have:=(eC (w:=w) (S:=S) (ep:=ep) (ns:=ns) (vs:=vs)).map (·.2);rwa [Er g]at this
 obtain⟨C,i1,t⟩:=IY p g;have l:c.u.e<64:=by have:=p.u;have B:=g.e;rw[Aa]at B;have F:=(o9 n).2;lia
 generalize c.u=j at i1 l;refine AC<|wpAny_newList ?_;have k:(h'.w<|seqObj "list" j.w 0).j h'.u.j=some (seqObj "list" j.w 0):=Ac4 _ rfl;exact AC<|Pi<|S7 slot_list_sort ⟨_,k,rfl⟩ entry_list_sort (list_sort_tree k i1 l λd a y a2 a3=>⟨_,rfl,FS ⟨_,rfl,h h' r j _ d a x rfl y (a2.j t) a3⟩⟩)<|args_list_sort _
end
def LR:(sm.N λns=>u9 ((ns.j Ad7).a2 (·<=·)))=true:=by decide+kernel
def Fp(d:ns∈sm)(c:ns'.a4<|ns.j Ad7)(e:ns'.a2 (·<=·)):ns'=ns.j Ad7:=
 Ue (λa b _ _ x y=>Int.le_antisymm x y) e (Do<|Ad0.u LR ns d) c
section
variable{X:Cx}
def Z1:bootBuiltins "sorted"=some (.u "sorted"):=by decide+kernel
def Rb(K:Ab1)(b:TA):TE:=λU H Q=>b U H λvs H1=>∃a,∃ns:List Nat,vs=[.j a]/\bu K H1 a ((ns.j Ad7).j V.int)/\ns∈sm/\∀l,H1 l=u0->Q (.j l) (aH H1 l<|.lst<|(ns.j Ad7).j V.int)
def HY(v:X.calm=true)(E:Gl X "sorted")(D:X.mg "sorted"=none)(j:Gl X "set")(i:X.mg "set"=none)(T:PA X [a] ta)(N:starEach [a] X.j=[(false,eval a X.j)]):
 PE X (.y (.j "sorted" p) [.y (.j "set" p2) [a] [] pos2] [] pos)<|Rb X.K ta:=by
 intro g s U H Q I h;refine Call_<|Qx I E D Z1<|TX (T2<|Call_<|Qx I j i Lj<|P3 (aN (T pos2 g s U H _ I h) ?_) N rfl) rfl rfl;rintro K W⟨Y,H1,d,B,J⟩;obtain⟨l,w,e,A,m,q⟩:=J;subst e;cases B with
|cons r R=>cases R;cases r;obtain⟨M,rv,pl,C⟩:=d.list A;refine OL (d.j.hd v) pl.K (by simpa using(RY rv)) m λZ tk z F=>T7 ?_;obtain⟨⟨ep,u⟩,t⟩:=z;refine F5 (d.j.hd v) u t m λP S K L n O f x G a2 a3=>?_;subst x;obtain⟨e,y⟩:=sortedHeap_at<|Ac4 _ rfl;have c:=Ag<|Ac<|f _ _ u;have:=Fp m a2 a3;subst this;refine⟨.j P.u.j,_,d.laid (λb o e=>?_) c<|show aS X.u X.w _ _ _<|.lst ((w.j Ad7).j V.int)from⟨C,n.u,e,pL G,by simpa[seqObj]using y⟩,rfl,q _<|d.aT.Q c⟩;have e:=f b o<|F b o (Ac e) e;have k:=Ac e;rw[sortedHeap_old (Ac1 k)<|by rw[size_push'];exact Am6 k,Heap.get?_push_ne _ _ _<|Ac1 k];exact e
end
end Lake
set_option genSizeOfSpec false
namespace Lake.M
abbrev Tx:=List Nat
def BU:∃n:Nat,n=1000000:=⟨_,rfl⟩
noncomputable def bh:Nat:=Ak7 BU
def Gf:bh=1000000:=Ai3 BU
def Dr:∃n:Int,n=1073741824:=⟨_,rfl⟩
noncomputable def mF:Int:=Ak7 Dr
def GR:mF=1073741824:=Ai3 Dr
def Ay:∃n:Int,n=2^62:=⟨_,rfl⟩
noncomputable def fk:Int:=Ak7 Ay
def GL:fk=2^62:=Ai3 Ay
def yd:∃n:Int,n=2^64:=⟨_,rfl⟩
noncomputable def eN:Int:=Ak7 yd
def GZ:eN=2^64:=Ai3 yd
def C4:∃n:Int,n=1000000:=⟨_,rfl⟩
noncomputable def BP:Int:=Ak7 C4
def Kj:BP=1000000:=Ai3 C4
def uK:∃n:Nat,n=2^64:=⟨_,rfl⟩
noncomputable def l3:Nat:=Ak7 uK
def GE:l3=2^64:=Ai3 uK
set_option genInjectivity true
inductive D where
|au
|bl (b:Bool)
|int (i:Int)
|str (s:Tx)
|tup (xs:List D)
|lst (xs:List D)
|ref (r:Nat)
|err (c f:String)(d:D)
open M renaming D.int->Lake.M.D.p,D.ref->Lake.M.D.j,D.str->Lake.M.D.u,D.tup->Lake.M.D.w,D.lst->Lake.M.D.x,D.bl->Lake.M.D.I
inductive W where
|v (d:D)
|own (xs:List D)
|bor (xs:List D)
open M renaming W.own->Lake.M.W.j,W.bor->Lake.M.W.u
abbrev WK:=Int×List Int×List Int
inductive Cell where
|lst (xs:List D)
|aU (kvs:List<|Tx×D)
|obj (c:String)(fs:List<|String×D)
open M renaming Cell.lst->Lake.M.Cell.x
abbrev AH:=List Cell
abbrev Sl:=List<|Option W
inductive R(α:Type) where
|ok (a:α)(h:AH)
|exc (d:D)(h:AH)
|fail
open M renaming R.ok->Lake.M.R.j,R.fail->Lake.M.R.w
noncomputable def R.bind {c b:Type}:R c->(c->AH->R b)->R b
|.j a h,f=>f a h
|.exc d h,_=>.exc d h
|.w,_=>.w
open M renaming R.bind->Lake.M.R.u
inductive O where
|next (τ:Sl)(h:AH)
|ret (w:W)(h:AH)
|brk (τ:Sl)(h:AH)
|cont (τ:Sl)(h:AH)
|exc (d:D)(h:AH)
|fail
open M renaming O.fail->Lake.M.O.w,O.next->Lake.M.O.j,O.exc->Lake.M.O.x
noncomputable def O.seq:O->(Sl->AH->O)->O
|.j τ h,f=>f τ h
|o,_=>o
noncomputable def R.cF {b:Type}:R b->(b->AH->O)->O
|.j a h,f=>f a h
|.exc d h,_=>.x d h
|.w,_=>.w
open M renaming R.cF->Lake.M.R.y
section
variable{α β:Type}
@[simp]theorem R.ab (a)(h)(f:α->AH->R β):(R.ok a h).u f=f a h:=rfl
@[simp]theorem R.ay (a)(h)(f:α->AH->O):(R.ok a h).y f=f a h:=rfl
@[simp]theorem O.bR (τ)(h)(f):(O.next τ h).seq f=f τ h:=rfl
@[simp]theorem O.cS (w)(h)(f):(O.ret w h).seq f=.ret w h:=rfl
@[simp]theorem O.iL (d)(h)(f):(O.exc d h).seq f=.x d h:=rfl
end
set_option genInjectivity false
inductive Op where
|add|sub|mul|fdiv|mod|pow|shl|shr|band|bor|bxor
 deriving DecidableEq
inductive Cp where
|eq|ne|lt|le|gt|ge|mem|gu|dI|kX
 deriving DecidableEq
inductive Ty where
|au|bool|int|str|list|tuple
 deriving DecidableEq
inductive Mt where
|index|count|bM
 deriving DecidableEq
inductive Bi where
|len|int|list|tuple|sum|all|any|sorted|divmod|str|min|max|abs
 deriving DecidableEq
set_option genInjectivity false
mutual
inductive E where
|var (i:Nat)
|con (x:String)
|int (i:Int)
|bl (b:Bool)
|au
|str (s:Tx)
|tup (es:Es)
|lst (es:Es)
|bin (o:Op)(a b:E)
|cmp (o:Cp)(a b:E)
|chain (o p:Cp)(a b c:E)
|fR (neg:Bool)(a:E)
|neg (a:E)
|inv (a:E)
|not (a:E)
|and (a b:E)
|or (a b:E)
|call (f:String)(es:Es)
|bi (b:Bi)(es:Es)
|cC (a:E)(t:Ty)
|bW (a:E)(one:Bool)(ts:List String)
|ix (a b:E)
|sl (a lo hi:E)
|eV (a lo:E)
|eG (a hi:E)
|eA (a:E)
|comp (tg:List Nat)(one:Bool)(k:Nat)(ax:List Nat)(it:It)(k6:Bool)(c elt:E)
|bD (tg:List Nat)(one:Bool)(k:Nat)(ax:List Nat)(i:Nat)(k6:Bool)(c elt:E)
|dG
|fB (i:Nat)(a:E)
|c7 (neg:Bool)(a:E)(i:Nat)
|eY (i:Nat)
|gJ (k1:Tx)(a:E)(k2:Tx)(b:E)(k3:Tx)(c:E)(i:Nat)
|share (a:E)
|cH (a:E)
|sset (a:E)
|dH (s:Tx)(ts:List Tx)
|dN (m:Mt)(a:E)(es:Es)
|xf (i:Nat)(f:String)
|make (c q:String)(es:Es)
|aJ (a:E)(c f:String)
|bO (a:E)(c m q:String)(es:Es)
|fL (a:E)
|fM (f:String)(a:E)
inductive Es where
|nil
|cons (e:E)(es:Es)
inductive It where
|seq (e:E)
|ar (a:E)
|enum (e:E)
|cO (e:E)
end
set_option genInjectivity true
inductive Tb where
|sv (i:Nat)(f:String)(es:Es)
mutual
inductive S where
|set (i:Nat)(e:E)
|af (i:Nat)(e:E)
|ek (is:List Nat)(e:E)
|b7 (o k e:E)
|app (i:Nat)(e:E)
|ext (i:Nat)(e:E)
|cB (i:Nat)(k e:E)
|eJ (i:Nat)(k e:E)
|bY (i:Nat)(c f:String)(e:E)
|fq (a e:E)
|ex (e:E)
|ret (e:E)
|iff (c:E)(a b:Ss)
|kl (n:Nat)(c:E)(b:Ss)
|for (tg:List Nat)(one:Bool)(it:It)(b:Ss)
|gC (o k:E)(j:Nat)(e:E)
|gO (b:Tb)(c:String)(nm:Nat)(hb:Ss)
|bP (i:Nat)(c f:String)(e:E)
|eM (c f:String)(e:E)
|fg
inductive Ss where
|nil
|cons (s:S)(ss:Ss)
end
noncomputable section
mutual
@[simp,reducible]noncomputable def Gc:D->Bool
|.j _=>y9
|.w xs=>Gd xs
|.x xs=>Gd xs
|.err _ _ _=>y9
|_=>k9
@[simp,reducible]noncomputable def Gd:List D->Bool
|[]=>k9
|x::xs=>Gc x&&Gd xs
end
mutual
@[simp,reducible]noncomputable def dep:D->Nat
|.w xs=>GN xs+1
|.x xs=>GN xs+1
|_=>0
@[simp,reducible]noncomputable def GN:List D->Nat
|[]=>0
|x::xs=>max (dep x)<|GN xs
end
def Cell.pure (n:Nat):Cell->Bool
|.obj _ fs=>fs.N λp=>match p.2 with
 |.j r=>u9<|r<n
 |d=>Gc d
|_=>k9
def Gy(h:AH):Bool:=h.N<|Cell.pure h.e
@[simp,reducible]noncomputable def KM:D->D->Bool
|.x _,.x []=>k9
|.w _,.w []=>k9
|_,_=>y9
@[reducible]def Kh(a b:D):Bool:=Gc a&&Gc b&&(u9 (dep a<150)||KM a b)
mutual
@[simp]noncomputable def res(h:AH):D->D
|.j r=>match h[r]? with
 |some (.x xs)=>.x xs
 |_=>.j r
|.w xs=>.w<|GT h xs
|.x xs=>.x<|GT h xs
|d=>d
@[simp]noncomputable def GT(h:AH):List D->List D
|[]=>[]
|x::xs=>res h x::GT h xs
end
mutual
@[simp]noncomputable def cD:D->D->Bool
|.au,.au=>k9
|.I a,.I b=>a==b
|.p i,.p j=>i==j
|.I a,.p j=>(a.j:Int)==j
|.p i,.I b=>i==(b.j:Int)
|.u s,.u t=>s==t
|.w xs,.w ys=>GM xs ys
|.x xs,.x ys=>GM xs ys
|_,_=>y9
@[simp]noncomputable def GM:List D->List D->Bool
|[],[]=>k9
|x::xs,y::ys=>cD x y&&GM xs ys
|_,_=>y9
end
noncomputable def W.d:W->Option D
|.v d=>y0 d
|.j xs=>y0<|.x xs
|.u _=>u0
noncomputable def W.arg:W->W
|.j xs=>.u xs
|w=>w
@[simp]theorem W.cj (d):(W.v d).arg=.v d:=rfl
@[simp]theorem W.fE (xs):(W.own xs).arg=.u xs:=rfl
@[simp]theorem W.iy (xs):(W.bor xs).arg=.u xs:=rfl
def W.dd (h:AH):W->D
|.v d=>res h d
|.j xs=>.x<|GT h xs
|.u xs=>.x<|GT h xs
open M renaming W.dd->Lake.M.W.x
noncomputable def W.ck (h:AH):W->Option (List D)
|.v (.x xs)=>y0 xs
|.j xs=>y0 xs
|.u xs=>y0 xs
|.v (.j r)=>match h[r]? with
 |some (.x xs)=>y0 xs
 |_=>u0
|_=>u0
noncomputable def W.seq? (h:AH):W->Option (List D)
|.v (.w xs)=>y0 xs
|.v (.x xs)=>y0 xs
|.j xs=>y0 xs
|.u xs=>y0 xs
|.v (.j r)=>match h[r]? with
 |some (.x xs)=>y0 xs
 |_=>u0
|_=>u0
noncomputable def R.of {b:Type}(h:AH):Option b->R b
|some a=>.j a h
|none=>.w
@[simp]noncomputable abbrev aj(d:D)(h:AH):R W:=.j (.v d) h
noncomputable def GY(h:AH):W->Option Bool
|.v .au=>y0 y9
|.v (.I b)=>y0 b
|.v (.p i)=>y0<|i !=0
|_=>u0
@[simp]theorem R.ao (h)(a:α):R.of h (y0 a)=.j a h:=rfl
@[simp]theorem W.sg (d):(W.v d).d=y0 d:=rfl
@[simp]theorem W.gT (xs):(W.own xs).d=y0 (.x xs):=rfl
@[simp]theorem W.iK (h)(d):(W.v d).x h=res h d:=rfl
@[simp]theorem W.gG (h)(xs):(W.own xs).x h=.x (GT h xs):=rfl
@[simp]theorem W.lK (h)(xs):(W.bor xs).x h=.x (GT h xs):=rfl
@[simp]theorem W.m3 (h)(xs):(W.v<|.x xs).ck h=y0 xs:=rfl
@[simp]theorem GS(h)(b):GY h (.v<|.I b)=y0 b:=rfl
@[simp]theorem Dp(h)(i):GY h (.v<|.p i)=y0 (i !=0):=rfl
noncomputable def Kl(i j:Int):Option Int:=
 if 0<=i then(if 0<=j then y0 ((i.j&&&j.j:Nat):Int)else y0 ((i.j-(i.j&&&(-j-1).j):Nat):Int))else u0
noncomputable def lY(i j:Int):Option Int:=if 0<=i/\0<=j then y0 ((i.j|||j.j:Nat):Int)else u0
noncomputable def KG(i j:Int):Option Int:=if 0<=i/\0<=j then y0 ((i.j^^^j.j:Nat):Int)else u0
def Gj(o:Op)(i j:Int):Option Int:=match o with
|.add=>y0<|i+j
|.sub=>y0<|i-j
|.mul=>if(-(eN)<i/\i<eN)\/(-(eN)<j/\j<eN)then y0 (i*j)else u0
|.fdiv=>if 0<j/\j<mF then y0 (i/j)else u0
|.mod=>if 0<j then y0 (i%j)else u0
|.pow=>if 0<=j/\j<=BP/\i.u<l3 then y0 (i^j.j)else u0
|.shl=>if 0<=j/\j<=BP/\i.u<l3 then y0 (i*2^j.j)else u0
|.shr=>if 0<=j then y0 (i/2^j.j)else u0
|.band=>Kl i j
|.bor=>lY i j
|.bxor=>KG i j
noncomputable def W.int?:W->Option Int
|.v (.p i)=>y0 i
|_=>u0
open M renaming W.int?->Lake.M.W.w
noncomputable def W.eh:W->Option Tx
|.v (.u s)=>y0 s
|_=>u0
noncomputable def W.f9:W->Option (List D)
|.v (.w s)=>y0 s
|_=>u0
def KK(xs a:List D)(h:AH):R W:=if xs.e+a.e<=bh then .j (.j<|xs++a) h else .w
def KC(xs:List D)(j:Int)(h:AH):R W:=if-1000<=j/\j<=1000/\xs.e*j.j<=bh then .j (.j (Aa7 j.j xs).T) h else .w
def KO(a b:W)(h:AH):R W:=match a.eh,b.eh with
|some s,y0 t=>if s.e+t.e<=bh then aj (.u<|s++t) h else .w
|_,_=>match a.f9,b.f9 with
|some xs,y0 ys=>if xs.e+ys.e<=bh then aj (.w<|xs++ys) h else .w
|_,_=>match a.ck h,b.ck h with
|some xs,y0 ys=>KK xs ys h
|_,_=>.w
noncomputable def W.kg (h:AH):W->Option (List D)
|.j xs=>y0 xs
|.u xs=>y0 xs
|.v (.j r)=>match h[r]? with
 |some (.x xs)=>y0 xs
 |_=>u0
|_=>u0
def KN(a b:W)(h:AH):R W:=match a.eh,b.w with
|some s,y0 j=>if 0<=j/\j<=1000/\s.e*j.j<=bh then aj (.u (Aa7 j.j s).T) h else .w
|_,_=>match a.kg h,b.w with
|some xs,y0 j=>KC xs j h
|_,_=>.w
def GU(o:Op)(a b:W)(h:AH):R W:=match a.w,b.w with
|some i,y0 j=>(R.of h<|Gj o i j).u λk h=>aj (.p k) h
|_,_=>match o with
|.add=>KO a b h
|.mul=>KN a b h
|_=>.w
def inD(x:D)(xs:List D):Bool:=xs.C λy=>cD y x
@[simp,reducible]noncomputable def Kr:D->Bool
|.au=>k9
|.I _=>k9
|.p _=>k9
|.u _=>k9
|_=>y9
noncomputable def CD:D->Option (List D)
|.x ys=>y0 ys
|.w ys=>y0 ys
|_=>u0
def Ki(a b:W)(h:AH):Option Bool:=match CD (b.x h)with
|some ys=>if Gc (a.x h)&&Gd ys&&u9 (GN ys<140)then y0 (inD (a.x h) ys)else u0
|none=>u0
noncomputable def KH(o:Cp)(i j:Int):Option Bool:=match o with
|.lt=>y0<|u9<|i<j
|.le=>y0<|u9<|i<=j
|.gt=>y0<|u9<|j<i
|.ge=>y0<|u9<|j<=i
|_=>u0
noncomputable def Kw:W->W->Option Bool
|.v .au,.v (.I _)=>y0 y9
|.v (.I b),.v (.I c)=>y0<|b==c
|_,_=>u0
def Gp(o:Cp)(a b:W)(h:AH):Option Bool:=match o with
|.eq=>if Kh (a.x h) (b.x h)then y0 (cD (a.x h)<|b.x h)else u0
|.ne=>if Kh (a.x h) (b.x h)then y0 (!cD (a.x h) (b.x h))else u0
|.mem=>Ki a b h
|.gu=>(Ki a b h).j (!·)
|.dI=>Kw a b
|.kX=>(Kw a b).j (!·)
|o=>match a.w,b.w with
|some i,y0 j=>KH o i j
|_,_=>u0
noncomputable def ef(n:Nat)(i:Int):Option Nat:=if 0<=i then(if i<n then y0 i.j else u0)else if-(n:Int)<=i then y0 (i+n).j else u0
def aW{a:Type}(xs:List a)(i:Int):Option a:=(ef xs.e i).u λj=>xs[j]?
def cZ(a b:W)(h:AH):Option D:=match b.w with
|some i=>match a.eh with
 |some s=>if s.e<=bh then(aW s i).j λc=>.u [c]else u0
 |none=>(a.seq? h).u λxs=>aW xs i
|none=>u0
def a8(n d:Nat):Option Int->Nat
|none=>d
|some v=>if v<0 then(v+n).j else min v.j n
noncomputable def cut{b:Type}(xs:List b)(a c:Option Int):List b:=(xs.G<|a8 xs.e 0 a).A<|a8 xs.e xs.e c-a8 xs.e 0 a
def fG(a:W)(b c:Option Int)(h:AH):R W:=match a.eh with
|some s=>if s.e<=bh then aj (.u<|cut s b c) h else .w
|none=>match a.f9 with
|some xs=>aj (.w<|cut xs b c) h
|none=>match a.ck h with
|some xs=>.j (.j<|cut xs b c) h
|none=>.w
noncomputable def Km:List D->Option Int
|[]=>y0 0
|.p i::r=>(Km r).j (i+·)
|_::_=>u0
noncomputable def GK:List D->Option (List Int)
|[]=>y0 []
|.p i::r=>(GK r).j (i::·)
|_::_=>u0
noncomputable def GV:List D->Option (List Tx)
|[]=>y0 []
|.u s::r=>(GV r).j (s::·)
|_::_=>u0
noncomputable def LU:List Int->Option Int
|[]=>u0
|i::r=>y0<|r.Z (λa b=>if b>a then b else a) i
noncomputable def MA:List Int->Option Int
|[]=>u0
|i::r=>y0<|r.Z (λa b=>if b<a then b else a) i
noncomputable def Kd(x:Tx):List Tx->List Tx
|[]=>[x]
|y::ys=>if y<x then y::Kd x ys else x::y::ys
def GC:List Tx->List Tx
|[]=>[]
|x::xs=>Kd x<|GC xs
noncomputable def nJ{b:Type}:List b->List (List b)
|[]=>[[]]
|a::l=>nJ l++(nJ l).j (a::·)
def Bb:List<|List Int:=(nJ<|Aa6 7).j (·.j Ad7)
noncomputable def Ko(x:Tx):List Tx->Option Nat
|[]=>u0
|y::ys=>if y=x then y0 0 else(Ko x ys).j (·+1)
noncomputable def Kq:List D->Option (List Bool)
|[]=>y0 []
|.I b::r=>(Kq r).j (b::·)
|_::_=>u0
def sF(b:Bi)(w:W)(h:AH):R W:=match b with
|.len=>match w.eh with
 |some s=>if s.e<=bh then aj (.p s.e) h else .w
 |none=>(R.of h<|w.seq? h).u λxs h=>aj (.p xs.e) h
|.int=>match w with
 |.v (.p i)=>aj (.p i) h
 |.v (.I b)=>aj (.p (b.j:Int)) h
 |_=>.w
|.list=>(R.of h<|w.seq? h).u λxs h=>.j (.j xs) h
|.tuple=>(R.of h<|w.seq? h).u λxs h=>aj (.w xs) h
|.sum=>(R.of h<|(w.ck h).u λxs=>if xs.e<=bh then Km xs else u0).u λi h=>aj (.p i) h
|.all=>(R.of h<|(w.ck h).u Kq).u λbs h=>aj (.I<|bs.N id) h
|.any=>(R.of h<|(w.ck h).u Kq).u λbs h=>aj (.I<|bs.C id) h
|.max=>(R.of h<|((w.ck h).u GK).u LU).u λi h=>aj (.p i) h
|.min=>(R.of h<|((w.ck h).u GK).u MA).u λi h=>aj (.p i) h
|.sorted=>(R.of h<|(w.ck h).u GV).u λa h=>if a.e<64 then .j (.j<|(GC a).j .u) h else .w
|_=>.w
noncomputable def nF(m:Mt)(x:W)(h:AH):Bool:=match m with
|.index=>x.f9.w
|.count=>(x.ck h).w
|.bM=>(x.ck h).w
@[simp]theorem Bo(xs)(h):nF .index (.v<|.w xs) h=true:=rfl
noncomputable def Kn:Nat->List D->List D
|_,[]=>[]
|i,d::ds=>.w [.p (i:Int),d]::Kn (i+1) ds
def Kp(d:D):List D->Option Nat
|[]=>u0
|y::ys=>if cD y d=k9 then y0 0 else(Kp d ys).j (·+1)
def Ks(a b:W)(h:AH):Option Nat:=match b.x h with
|.x ys=>if(Gc (a.x h)&&Gd ys&&u9 (GN ys<140))&&u9 (ys.e<=bh)then Kp (a.x h) ys else u0
|_=>u0
def nq(m:Mt)(x:W)(ws:List W)(h:AH):R W:=match m,ws with
|.index,[w]=>(R.of h<|x.f9.u GV).u λa h=>(R.of h w.eh).u λt h=>(R.of h<|Ko t a).u λn h=>if a.e<=bh then aj (.p (n:Int)) h else .w
|.count,[w]=>(R.of h<|(x.ck h).u GK).u λis h=>(R.of h w.w).u λi h=>if is.e<=bh then aj (.p ((is.count i:Nat):Int)) h else .w
|.bM,[w]=>(R.of h<|Ks w x h).u λn h=>aj (.p (n:Int)) h
|_,_=>.w
def yO(b:Bi)(i j:Int)(h:AH):R W:=match b with
|.divmod=>if 0<j/\j<mF then aj (.w [.p (i/j),.p (i%j)]) h else .w
|.min=>aj (.p<|if j<i then j else i) h
|.max=>aj (.p<|if j>i then j else i) h
|_=>.w
def dY(b:Bi)(ws:List W)(h:AH):R W:=match ws with
|[w]=>sF b w h
|[v,w]=>(R.of h v.w).u λi h=>(R.of h w.w).u λj h=>yO b i j h
|_=>.w
@[simp]theorem GH(o)(i j)(h):GU o (.v<|.p i) (.v<|.p j) h=(R.of h<|Gj o i j).u λk h=>aj (.p k) h:=rfl
@[simp]theorem Qc(i j):Gj .add i j=y0 (i+j):=rfl
@[simp]theorem Zf(i j):Gj .sub i j=y0 (i-j):=rfl
@[simp]theorem RA(s u)(h):GU .add (.v<|.u s) (.v<|.u u) h=if s.e+u.e<=bh then aj (.u<|s++u) h else .w:=rfl
@[simp]theorem uX(s u)(h):GU .add (.v<|.w s) (.v<|.w u) h=if s.e+u.e<=bh then aj (.w<|s++u) h else .w:=rfl
@[simp]theorem Bh(s u)(h):GU .add (.j s) (.j u) h=if s.e+u.e<=bh then .j (.j<|s++u) h else .w:=rfl
@[simp]theorem m7(i j)(h):Gp .lt (.v<|.p i) (.v<|.p j) h=y0 (u9<|i<j):=rfl
@[simp]theorem mJ(i j)(h):Gp .le (.v<|.p i) (.v<|.p j) h=y0 (u9<|i<=j):=rfl
@[simp]theorem yP(i j)(h):Gp .gt (.v<|.p i) (.v<|.p j) h=y0 (u9<|j<i):=rfl
@[simp]theorem Oh(i j)(h):Gp .ge (.v<|.p i) (.v<|.p j) h=y0 (u9<|j<=i):=rfl
@[simp]theorem Sn(a b)(h):Gp .eq a b h=if Kh (a.x h) (b.x h)then y0 (cD (a.x h)<|b.x h)else none:=rfl
@[simp]theorem uF(a b)(h):Gp .ne a b h=if Kh (a.x h) (b.x h)then y0 (!cD (a.x h) (b.x h))else none:=rfl
@[simp]theorem int?_int(i):(W.v<|.p i).w=y0 i:=rfl
@[simp]theorem len_str(s)(h):dY .len [.v (.u s)] h=if s.e<=bh then aj (.p s.e) h else .w:=rfl
@[simp]theorem Zd(s)(h):dY .len [.v (.w s)] h=aj (.p s.e) h:=rfl
@[simp]theorem XN(s)(h):dY .len [.v (.x s)] h=aj (.p s.e) h:=rfl
@[simp]theorem int_int(i)(h):dY .int [.v (.p i)] h=aj (.p i) h:=rfl
@[simp]theorem uw(s)(h):dY .list [.v (.w s)] h=.j (.j s) h:=rfl
@[simp]theorem Qz(s)(h):dY .tuple [.j s] h=aj (.w s) h:=rfl
@[simp]theorem Li(s)(h):dY .tuple [.u s] h=aj (.w s) h:=rfl
@[simp]theorem Ll(s)(h):dY .all [.j s] h=(R.of h<|Kq s).u λbs h=>aj (.I<|bs.N id) h:=rfl
@[simp]theorem S0(s)(h):dY .any [.j s] h=(R.of h<|Kq s).u λbs h=>aj (.I<|bs.C id) h:=rfl
@[simp]theorem yl(s)(h):dY .sum [.j s] h=(R.of h<|if s.e<=bh then Km s else u0).u λi h=>aj (.p i) h:=rfl
@[simp]theorem DN(i j)(h):dY .divmod [.v (.p i),.v (.p j)] h=if 0<j/\j<mF then aj (.w [.p (i/j),.p (i%j)]) h else .w:=rfl
@[simp]theorem rD(s)(i)(h):cZ (.v<|.u s) (.v<|.p i) h=if s.e<=bh then(aW s i).j λc=>.u [c]else none:=rfl
@[simp]theorem ae(s)(i)(h):cZ (.v<|.w s) (.v<|.p i) h=aW s i:=rfl
@[simp]theorem Js(s)(i)(h):cZ (.v<|.x s) (.v<|.p i) h=aW s i:=rfl
@[simp]theorem zS(s)(i)(h):cZ (.j s) (.v<|.p i) h=aW s i:=rfl
@[simp]theorem Nz(s)(i)(h):cZ (.u s) (.v<|.p i) h=aW s i:=rfl
@[simp]theorem Cj(s)(lo hi)(h):fG (.v<|.x s) lo hi h=.j (.j<|cut s lo hi) h:=rfl
@[simp]theorem Hy(s)(lo hi)(h):fG (.u s) lo hi h=.j (.j<|cut s lo hi) h:=rfl
abbrev dy:=List<|String×String
noncomputable def G8(a:dy):Nat->String->List String
|0,_=>[]
|n+1,c=>c::match a.u c with
|some b=>G8 a n b
|none=>[]
noncomputable def PJ:W->Option Ty
|.v .au=>y0 .au
|.v (.I _)=>y0 .bool
|.v (.p _)=>y0 .int
|.v (.u _)=>y0 .str
|.v (.w _)=>y0 .tuple
|.v (.x _)=>y0 .list
|.j _=>y0 .list
|.u _=>y0 .list
|.v (.j _)=>u0
|.v (.err _ _ _)=>u0
noncomputable def Ty.le:Ty->Ty->Bool
|.bool,.int=>k9
|a,b=>u9<|a=b
def cC(t:Ty)(w:W):Option Bool:=(PJ w).j λu=>u.le t
@[simp]theorem D6(t)(i):cC t (.v<|.p i)=y0 (Ty.le .int t):=rfl
@[simp]theorem MV(t)(s):cC t (.v<|.w s)=y0 (Ty.le .tuple t):=rfl
@[simp]theorem Ty.iO (t):Ty.le t t=true:=by cases t<;>rfl
@[simp]theorem Ty.mM:Ty.le .int .tuple=false:=rfl
def bW(b:dy)(w:W)(a:List String):Option Bool:=match w with
|.v (.err c _ _)=>y0<|a.C (G8 b 8 c).x
|_=>u0
@[simp]noncomputable def Gm:Sl->Nat->Option W
|[],_=>u0
|x::_,0=>x
|_::r,n+1=>Gm r n
@[simp]noncomputable def GD:Sl->Nat->W->Sl
|[],_,_=>[]
|_::r,0,w=>y0 w::r
|x::r,n+1,w=>x::GD r n w
def Gi(τ:Sl)(i:Nat):Option W:=match Gm τ i with
|some (.j xs)=>y0<|.u xs
|o=>o
@[simp]theorem Kf(e:Gm τ i=y0 (.j xs)):Gi τ i=y0 (.u xs):=by simp[Gi,e]
@[simp]theorem Ku(e:Gm τ i=y0 (.v d)):Gi τ i=y0 (.v d):=by simp[Gi,e]
@[simp]theorem Ka(e:Gm τ i=y0 (.u xs)):Gi τ i=y0 (.u xs):=by simp[Gi,e]
@[simp]noncomputable def a9:List Nat->List D->Sl->Option Sl
|[],[],τ=>y0 τ
|i::is,d::ds,τ=>a9 is ds<|GD τ i<|.v d
|_,_,_=>u0
def Gr(a:List Nat)(one:Bool)(d:D)(τ:Sl):Option Sl:=match one with
|true=>match a with
 |[i]=>y0<|GD τ i<|.v d
 |_=>u0
|false=>match d with
|.w ds=>a9 a ds τ
|_=>u0
noncomputable def Gu(step:D->AH->R (Option D)):List D->AH->R (List D)
|[],h=>.j [] h
|d::ds,h=>match step d h with
|.j o h1=>match Gu step ds h1 with
 |.j r h2=>.j (match o with|some x=>x::r|none=>r) h2
 |_=>.w
|_=>.w
structure Fx where
 call:String->List W->AH->R W
 cl:dy
 con:List<|String×D
open M renaming Fx.call->Lake.M.Fx.j
noncomputable def Gz(h:AH):Option W->Option (Nat×List D)
|some (.v (.j r))=>match h[r]? with
 |some (.x xs)=>y0 (r,xs)
 |_=>u0
|_=>u0
noncomputable def G6(h:AH):Option W->Option (Nat×String×List (String×D))
|some (.v (.j r))=>match h[r]? with
 |some (.obj c fs)=>y0 (r,c,fs)
 |_=>u0
|_=>u0
noncomputable def a0(f:String)(d:D):List (String×D)->List (String×D)
|[]=>[(f,d)]
|(g,x)::r=>if g=f then(g,d)::r else(g,x)::a0 f d r
noncomputable def yE:W->Option (List D)
|.v (.x xs)=>y0 xs
|.j xs=>y0 xs
|_=>u0
noncomputable def GW(h:AH):Option W->Option (Nat×List (Tx×D))
|some (.v (.j r))=>match h[r]? with
 |some (.aU ks)=>y0 (r,ks)
 |_=>u0
|_=>u0
noncomputable def GG(a:List<|Tx×D)(k:Tx)(d:D):List<|Tx×D:=if a.C (λp=>u9<|p.1=k)then a.j (λp=>if p.1=k then(p.1,d)else p)else a++[(k,d)]
noncomputable def fB(w:W)(o:Option<|Nat×List (Tx×D))(h:AH):R W:=match w,o with
|.v (.u k),y0 (_,ks)=>match ks.u k with
 |some d=>aj d h
 |none=>.w
|_,_=>.w
noncomputable def c7(neg:Bool)(w:W)(o:Option<|Nat×List (Tx×D))(h:AH):R W:=match w,o with
|.v (.u k),y0 (_,ks)=>aj (.I<|if neg then !(ks.u k).w else(ks.u k).w) h
|_,_=>.w
noncomputable def gJ(T:List<|Tx×W)(o:Option W)(h:AH):R W:=match o with
|some (.v (.u k))=>match T.u k with
 |some (.v d)=>if Kr d then aj d h else .w
 |_=>.w
|_=>.w
noncomputable def Kk(i:Int):Nat:=if i=0 then 0 else Nat.log2 i.u+1
noncomputable def G9:R W->Option Int
|.j (.v (.p y)) []=>y0 y
|_=>u0
noncomputable def GX(key:Int->R W):Int->Int->List Int->Option Int
|b,_,[]=>y0 b
|b,a,x::xs=>(G9<|key x).u λk=>if k<a then GX key x k xs else GX key b a xs
set_option backward.eqns.nonrecursive true in
def Kc(key:Int->R W):Option (List Int)->Option Int
|some (x::xs)=>(G9<|key x).u λk=>GX key x k xs
|_=>u0
def Ky(r:Nat)(ds:List D)(f:List Nat)(one:Bool)(c:Sl)(cd:Sl->AH->R Bool)(e:Sl->AH->R W)(d:D)(h:AH):R<|Option D:=open Classical in if h[r]?=y0 (.x ds)then(match Gr f one d c with
|none=>.w
|some a=>(cd a h).u λb h=>match b with
|true=>(e a h).u λy h=>(R.of h y.d).u λy h=>.j (y0 y) h
|false=>.j u0 h)else .w
def KL(r:Nat)(ds a:List D)(h:AH):R W:=open Classical in if h[r]?=y0 (.x ds)then .j (.j a) h else .w
mutual
@[simp]noncomputable def eval(F:Fx):E->Sl->AH->R W
|.var i,τ,h=>match Gi τ i with
 |some w=>.j w h
 |none=>.w
|.con x,_,h=>match F.con.u x with
 |some d=>aj d h
 |none=>.w
|.int i,_,h=>aj (.p i) h
|.bl b,_,h=>aj (.I b) h
|.au,_,h=>aj .au h
|.str s,_,h=>aj (.u s) h
|.tup es,τ,h=>(Gw F es τ h).u λds h=>aj (.w ds) h
|.lst es,τ,h=>(Gw F es τ h).u λds h=>.j (.j ds) h
|.bin o a b,τ,h=>(eval F a τ h).u λx h=>(eval F b τ h).u λy h=>GU o x y h
|.cmp o a b,τ,h=>(eval F a τ h).u λx h=>(eval F b τ h).u λy h=>(R.of h<|Gp o x y h).u λc h=>aj (.I c) h
|.chain o p a b c,τ,h=>(eval F a τ h).u λx h=>(eval F b τ h).u λy h=>(R.of h<|Gp o x y h).u λt h=>match t with
 |true=>(eval F c τ h).u λz h=>(R.of h<|Gp p y z h).u λc h=>aj (.I c) h
 |false=>aj (.I y9) h
|.fR neg a,τ,h=>(eval F a τ h).u λx h=>match x with
 |.v .au=>aj (.I<|!neg) h
 |_=>aj (.I neg) h
|.neg a,τ,h=>(eval F a τ h).u λx h=>(R.of h x.w).u λi h=>aj (.p<|-i) h
|.inv a,τ,h=>(eval F a τ h).u λx h=>(R.of h x.w).u λi h=>aj (.p<|-i-1) h
|.not a,τ,h=>(eval F a τ h).u λx h=>(R.of h<|GY h x).u λc h=>aj (.I<|!c) h
|.and a b,τ,h=>(eval F a τ h).u λx h=>(R.of h<|GY h x).u λc h=>match c with
 |true=>eval F b τ h
 |false=>.j x h
|.or a b,τ,h=>(eval F a τ h).u λx h=>(R.of h<|GY h x).u λc h=>match c with
 |true=>.j x h
 |false=>eval F b τ h
|.call f es,τ,h=>(Gg F es τ h).u λws h=>F.j f (ws.j W.arg) h
|.bi b es,τ,h=>(Gg F es τ h).u λws h=>dY b ws h
|.cC a t,τ,h=>(eval F a τ h).u λx h=>(R.of h<|cC t x).u λc h=>aj (.I c) h
|.bW a _ ts,τ,h=>(eval F a τ h).u λx h=>(R.of h<|bW F.cl x ts).u λc h=>aj (.I c) h
|.ix a b,τ,h=>(eval F a τ h).u λx h=>(eval F b τ h).u λy h=>(R.of h<|cZ x y h).u λd h=>aj d h
|.sl a lo hi,τ,h=>(eval F a τ h).u λx h=>(eval F lo τ h).u λl h=>(R.of h l.w).u λl h=>(eval F hi τ h).u λu h=>(R.of h u.w).u λu h=>fG x (y0 l) (y0 u) h
|.eV a lo,τ,h=>(eval F a τ h).u λx h=>(eval F lo τ h).u λl h=>(R.of h l.w).u λl h=>fG x (y0 l) u0 h
|.eG a hi,τ,h=>(eval F a τ h).u λx h=>(eval F hi τ h).u λu h=>(R.of h u.w).u λu h=>fG x u0 (y0 u) h
|.eA a,τ,h=>(eval F a τ h).u λx h=>match Gz h (y0 x)with
 |some _=>aj (.I k9) h
 |none=>.w
|.comp tg one k ax it k6 c elt,τ,h=>(Gk F it τ h).u λds h=>
  if ds.e<=bh then
   (Gu (λd h=>match Gr tg one d (Aa7 k u0++ax.j λj=>Gi τ j)with
|none=>.w
|some τ'=>(if k6 then(eval F c τ' h).u λx h=>R.of h (GY h x)else .j k9 h).u λb h=>match b with
|true=>(eval F elt τ' h).u λy h=>(R.of h y.d).u λy h=>.j (y0 y) h
|false=>.j u0 h) ds h).u λys h=>.j (.j ys) h
  else .w
|.bD tg one k ax i k6 c elt,τ,h=>match Gz h (Gm τ i)with
 |some (r,ds)=>if ds.e<=bh then(Gu (Ky r ds tg one (Aa7 k u0++ax.j λj=>Gi τ j) (λτ' h=>if k6 then(eval F c τ' h).u λx h=>R.of h (GY h x)else .j k9 h)<|λτ' h=>eval F elt τ' h) ds h).u λys h=>KL r ds ys h else .w
 |none=>(R.bind (match Gi τ i with
|some w=>R.ok w h
|none=>.w) λw h=>match w with
|.v (.w xs)=>.j xs h
|.v (.x xs)=>.j xs h
|.j xs=>.j xs h
|.u xs=>.j xs h
|_=>.w).u λds h=>
   if ds.e<=bh then
    (Gu (λd h=>match Gr tg one d (Aa7 k u0++ax.j λj=>Gi τ j)with
|none=>.w
|some τ'=>(if k6 then(eval F c τ' h).u λx h=>R.of h (GY h x)else .j k9 h).u λb h=>match b with
|true=>(eval F elt τ' h).u λy h=>(R.of h y.d).u λy h=>.j (y0 y) h
|false=>.j u0 h) ds h).u λys h=>.j (.j ys) h
   else .w
|.dG,_,h=>aj (.j h.e)<|h++[.aU []]
|.fB i a,τ,h=>match GW h (Gm τ i)with
 |some _=>(eval F a τ h).u λx h=>fB x (GW h<|Gm τ i) h
 |none=>.w
|.c7 neg a i,τ,h=>(eval F a τ h).u λx h=>c7 neg x (GW h<|Gm τ i) h
|.gJ k1 a k2 b k3 c i,τ,h=>(eval F a τ h).u λx h=>(eval F b τ h).u λy h=>(eval F c τ h).u λz h=>gJ [(k1,x),(k2,y),(k3,z)] (Gm τ i) h
|.eY i,τ,h=>match GW h (Gm τ i)with
 |some (_,ks)=>aj (.j h.e)<|h++[.aU ks]
 |none=>.w
|.share a,τ,h=>(eval F a τ h).u λx h=>match x with
 |.j xs=>if Gd xs then aj (.j h.e) (h++[.x xs])else .w
 |_=>.w
|.cH a,τ,h=>(eval F a τ h).u λx h=>(R.of h x.w).u λn h=>if 0<=n/\n<=1000 then .j (.j<|(Aa6 n.j).j λ(i:Nat)=>.p (i:Int)) h else .w
|.dH _ ts,τ,h=>.j (.j<|ts.j .u) h
|.sset a,τ,h=>(eval F a τ h).u λx h=>(R.of h<|(x.ck h).u GK).u λis h=>if is∈Bb then .j (.j<|is.j .p) h else .w
|.dN m a es,τ,h=>(eval F a τ h).u λx h=>if nF m x h then(Gg F es τ h).u λws h=>nq m x ws h else .w
|.xf i f,τ,h=>match Gm τ i with
 |some (.v (.err _ g d))=>if g=f then .j (.v d) h else .w
 |_=>.w
|.make c q es,τ,h=>(Gg F es τ h).u λws h=>(F.j q (.v (.j h.e)::ws.j W.arg)<|h++[.obj c []]).u λw h'=>match w with
 |.v .au=>aj (.j h.e) h'
 |_=>.w
|.aJ a c f,τ,h=>(eval F a τ h).u λw h=>match G6 h (y0 w)with
 |some (_,c',fs)=>if c'=c then(R.of h<|fs.u f).u λd h=>aj d h else .w
 |none=>.w
|.bO a c m q es,τ,h=>(eval F a τ h).u λw h=>match G6 h (y0 w)with
 |some (r,c',fs)=>if c'=c/\(fs.u m).x=k9 then(Gg F es τ h).u λws h=>F.j q (.v (.j r)::ws.j W.arg) h else .w
 |none=>.w
|.fL a,τ,h=>(eval F a τ h).u λw h=>(R.of h w.w).u λi h=>aj (.p ((Kk i:Nat):Int)) h
|.fM f a,τ,h=>(eval F a τ h).u λw h=>(R.of h<|Kc (λx=>F.j f [.v (.p x)] [])<|(w.ck h).u GK).u λi h=>aj (.p i) h
@[simp]noncomputable def Gg(F:Fx):Es->Sl->AH->R (List W)
|.nil,_,h=>.j [] h
|.cons e es,τ,h=>(eval F e τ h).u λw h=>(Gg F es τ h).u λws h=>.j (w::ws) h
@[simp]noncomputable def Gw(F:Fx):Es->Sl->AH->R (List D)
|.nil,_,h=>.j [] h
|.cons e es,τ,h=>(eval F e τ h).u λw h=>(R.of h w.d).u λd h=>(Gw F es τ h).u λds h=>.j (d::ds) h
@[simp]noncomputable def Gk(F:Fx):It->Sl->AH->R (List D)
|.seq e,τ,h=>(eval F e τ h).u λw h=>match w with
 |.v (.w xs)=>.j xs h
 |.v (.x xs)=>.j xs h
 |.j xs=>.j xs h
 |.u xs=>.j xs h
 |_=>.w
|.ar a,τ,h=>(eval F a τ h).u λw h=>(R.of h w.w).u λn h=>if-(fk)<=n/\n<fk then .j ((Aa6 n.j).j λ(i:Nat)=>.p (i:Int)) h else .w
|.cO e,τ,h=>(eval F e τ h).u λw h=>(R.of h<|yE w).u λxs h=>.j (Kn 0 xs) h
|.enum e,τ,h=>(eval F e τ h).u λw h=>match w with
|.v (.w xs)=>.j (Kn 0 xs) h
|_=>.w
end
noncomputable def oZ:W->Option (List D)
|.v (.w xs)=>y0 xs
|.v (.x xs)=>y0 xs
|.j xs=>y0 xs
|_=>u0
noncomputable def mD:W->Option (List D)
|.v (.w xs)=>y0 xs
|.v (.x xs)=>y0 xs
|.u xs=>y0 xs
|_=>u0
@[simp]theorem KB(xs):oZ (.v<|.w xs)=y0 xs:=rfl
@[simp]theorem Kv(xs):oZ (.v<|.x xs)=y0 xs:=rfl
@[simp]theorem Ke(xs):oZ (.j xs)=y0 xs:=rfl
@[simp]theorem Kx(xs):mD (.v<|.w xs)=y0 xs:=rfl
@[simp]theorem Kz(xs):mD (.v<|.x xs)=y0 xs:=rfl
@[simp]theorem KA(xs):mD (.u xs)=y0 xs:=rfl
@[simp]noncomputable def GO:E->Option Nat
|.var i=>y0 i
|_=>u0
@[simp]def Gv(F:Fx)(it:It)(τ:Sl)(h:AH):R<|List D:=match it with
|.seq e=>match GO e with
 |some i=>R.of h<|(Gm τ i).u mD
 |none=>(eval F e τ h).u λw h=>R.of h<|oZ w
|it=>Gk F it τ h
noncomputable def Gq(c:D->Sl->Option Sl)(a:Sl->AH->O):List D->Sl->AH->O
|[],τ,h=>.j τ h
|d::ds,τ,h=>match c d τ with
|none=>.w
|some e=>match a e h with
|.j b h2=>Gq c a ds b h2
|.cont b h2=>Gq c a ds b h2
|.brk b h2=>.j b h2
|o=>o
noncomputable def GA(c:Sl->AH->R Bool)(a:Sl->AH->O):Nat->Sl->AH->O
|0,_,_=>.w
|n+1,τ,h=>(c τ h).y λb h1=>match b with
|false=>.j τ h1
|true=>match a τ h1 with
|.j d h2=>GA c a n d h2
|.cont d h2=>GA c a n d h2
|.brk d h2=>.j d h2
|o=>o
def Gn(F:Fx)(e:E)(τ:Sl)(h:AH):R Bool:=(eval F e τ h).u λx h=>R.of h<|GY h x
def GQ:D->Bool
|.err _ _ d=>Gc d
|_=>y9
def Kb(d:D)(n:Nat)(h:AH):AH:=if GQ d&&Gy (h.A n)then h.A n else h
def RL(w:W)(i:Nat)(τ:Sl)(h:AH):O:=match w with
|.v d=>.j (GD τ i<|.v d) h
|_=>.w
noncomputable def nO(call:String->List W->AH->R W)(b:Option Nat)(f:String)(τ:Sl):R (List W)->O
|.j a h=>match call f (a.j W.arg) h with
 |.j w h=>match b with
   |none=>.j τ h
   |some i=>RL w i τ h
 |.exc d h1=>.x d<|Kb d h.e h1
 |.w=>.w
|_=>.w
def KI(e:dy)(c:String)(nm:Nat)(b:Sl->AH->O)(τ:Sl)(d:D)(h:AH):O:=match bW e (.v d) [c]with
|some true=>match b (GD τ nm<|.v d) h with
 |.j a h'=>.j (a.y nm u0) h'
 |_=>.w
|_=>.w
def KJ(b:dy)(c:String)(nm:Nat)(a:Sl->AH->O)(τ:Sl):O->O
|.x d h=>KI b c nm a τ d h
|o=>o
noncomputable def gD:W->Option (D×D)
|.v (.w [a,b])=>y0 (a,b)
|_=>u0
def Kt(w b a:W)(τ:Sl)(h:AH):O:=match w,b,a with
|.v d,.v (.j r),.v (.p j)=>match h[r]? with
 |some (.x xs)=>match ef xs.e j with
   |some n=>if Kr d then .j τ (h.y r<|.x<|xs.y n d)else .w
   |none=>.w
 |_=>.w
|_,_,_=>.w
@[simp]def o5(F:Fx):Tb->Sl->AH->O
|.sv i f es,τ,h=>nO F.j (y0 i) f τ<|Gg F es τ h
mutual
@[simp]noncomputable def exec(F:Fx):S->Sl->AH->O
|.set i e,τ,h=>(eval F e τ h).y λw h=>match w with
 |.u _=>.w
 |w=>.j (GD τ i w) h
|.af i e,τ,h=>(eval F e τ h).y λw h=>match w.d with
 |some d=>.j (GD τ i<|.v d) h
 |none=>.w
|.ek is e,τ,h=>(eval F e τ h).y λw h=>match w with
 |.v (.w ds)=>match a9 is ds τ with
   |some τ'=>.j τ' h
   |none=>.w
 |_=>.w
|.gC o k j e,τ,h=>(eval F e τ h).y λw h=>match gD w with
 |some (d1,d2)=>(eval F o τ h).y λow h=>(eval F k τ h).y λkw h=>if Kr d2 then(match Kt (.v d1) ow kw τ h with
|.j τ h=>.j (GD τ j<|.v d2) h
|_=>.w)else .w
 |none=>.w
|.b7 o k e,τ,h=>(eval F e τ h).y λw h=>(eval F o τ h).y λow h=>(eval F k τ h).y λkw h=>Kt w ow kw τ h
|.app i e,τ,h=>match Gm τ i with
 |some (.j xs)=>(eval F e τ h).y λw h=>match w.d with
   |some d=>if xs.e<bh then .j (GD τ i<|.j<|xs++[d]) h else .w
   |none=>.w
 |_=>.w
|.ext i e,τ,h=>match Gm τ i with
 |some (.j xs)=>(eval F e τ h).y λw h=>match w with
   |.j ys=>if xs.e+ys.e<bh then .j (GD τ i<|.j<|xs++ys) h else .w
   |_=>.w
 |_=>.w
|.bY i c f e,τ,h=>(eval F e τ h).y λw h=>match w.d with
 |some d=>match G6 h (Gm τ i)with
   |some (r,c',fs)=>if c'=c/\Gc d=k9/\fs.e<100 then .j τ (h.y r<|.obj c<|a0 f d fs)else .w
   |none=>.w
 |none=>.w
|.eJ i k e,τ,h=>(eval F e τ h).y λw h=>match Gm τ i with
 |some (.j xs)=>(eval F k τ h).y λkw h=>match w,kw with
   |.v d,.v (.p j)=>(match ef xs.e j with
|some n=>.j (GD τ i<|.j<|xs.y n d) h
|none=>.w)
   |_,_=>.w
 |_=>.w
|.cB i k e,τ,h=>(eval F e τ h).y λw h=>match GW h (Gm τ i)with
 |some _=>(eval F k τ h).y λkw h=>match w,kw,GW h (Gm τ i)with
   |.v d,.v (.u t),y0 (r,ks)=>if ks.e<bh/\Gc d=k9 then .j τ (h.y r<|.aU<|GG ks t d)else .w
   |_,_,_=>.w
 |none=>.w
|.fq a e,τ,h=>(eval F a τ h).y λo h=>match Gz h (y0 o)with
 |some _=>(eval F e τ h).y λw h=>match w.d,Gz h (y0 o)with
   |some d,y0 (r,xs)=>if xs.e<bh/\Gc d=k9 then .j τ (h.y r<|.x<|xs++[d])else .w
   |_,_=>.w
 |none=>.w
|.ex e,τ,h=>(eval F e τ h).y λ_ h=>.j τ h
|.ret e,τ,h=>match GO e with
 |some i=>match Gm τ i with
   |some (.u _)=>.w
   |some w=>.ret w h
   |none=>.w
 |none=>(eval F e τ h).y λw h=>match w with
 |.u _=>.w
 |w=>.ret w h
|.iff c a b,τ,h=>(Gn F c τ h).y λt h=>match t with
 |true=>execs F a τ h
 |false=>execs F b τ h
|.kl n c b,τ,h=>GA (λτ h=>Gn F c τ h) (λτ h=>execs F b τ h) n τ h
|.for tg one it b,τ,h=>(Gv F it τ h).y λds h=>Gq (Gr tg one) (λτ h=>execs F b τ h) ds τ h
|.eM c f e,τ,h=>(Gw F (.cons e .nil) τ h).y λds h=>match ds with
 |[d]=>.x (.err c f d) h
 |_=>.w
|.gO b c nm hb,τ,h=>KJ F.cl c nm (λτ h=>execs F hb τ h) τ<|o5 F b τ h
|.bP i c f e,τ,h=>(eval F e τ h).y λw h=>match w with
 |.v d=>match G6 h (Gm τ i)with
   |some (r,c',fs)=>if c'=c/\fs.e<100 then .j τ (h.y r<|.obj c<|a0 f d fs)else .w
   |none=>.w
 |_=>.w
|.fg,_,_=>.w
@[simp]noncomputable def execs(F:Fx):Ss->Sl->AH->O
|.nil,τ,h=>.j τ h
|.cons s ss,τ,h=>(exec F s τ h).seq λτ h=>execs F ss τ h
end
structure Fn where
 ps:Nat
 n:Nat
 body:Ss
structure Prog where
 fns:List<|String×Fn
 cl:dy
 con:List<|String×D
def W.keep:W->Bool
|.v d=>Gc d
|.j xs=>Gd xs
|.u _=>k9
noncomputable def fin(n:Nat)(w:W)(h:AH):R W:=if h.e=n then .j w h else if w.keep&&Gy (h.A n)then .j w (h.A n)else .j w h
def Gx(n:Nat):O->R W
|.ret w h=>match w with
 |.u _=>.w
 |w=>fin n w h
|.j _ h=>fin n (.v .au) h
|.x d h=>.exc d h
|_=>.w
@[simp]theorem Ga(d)(h h':AH)(e:h'.e=h.e):Gx h.e (.ret (.v d) h')=.j (.v d) h':=by simp[Gx,fin,e]
@[simp]theorem Gs(xs)(h h':AH)(e:h'.e=h.e):Gx h.e (.ret (.j xs) h')=.j (.j xs) h':=by simp[Gx,fin,e]
@[simp]theorem GB(τ)(h h':AH)(e:h'.e=h.e):Gx h.e (.j τ h')=.j (.v .au) h':=by simp[Gx,fin,e]
@[simp]theorem G7(d)(n)(h):Gx n (.x d h)=.exc d h:=rfl
def run(F:Fx)(d:Fn)(ws:List W)(h:AH):R W:=if ws.e=d.ps then Gx h.e (execs F d.body (ws.j y0++Aa7 (d.n-d.ps) u0) h)else .w
def call(p:Prog):Nat->String->List W->AH->R W
|0,_,_,_=>.w
|k+1,f,a,h=>match p.fns.u f with
|some d=>run ⟨call p k,p.cl,p.con⟩ d a h
|none=>.w
def Gb(e:p.fns.u f=y0 d)(k)(ws)(h)(a:ws.e=d.ps):
 call p (k+1) f ws h=Gx h.e (execs ⟨call p k,p.cl,p.con⟩ d.body (ws.j y0++Aa7 (d.n-d.ps) u0) h):=by
 rw[call,e];simp[run,a]
end
end Lake.M
namespace Lake.MS
open Lake renaming V.int->Lake.V.p,V.ref->Lake.V.j,V.str->Lake.V.u,V.bl->Lake.V.I,HO.lst->Lake.HO.x,Cx.env->Lake.Cx.j,Cx.prog->Lake.Cx.u,Inv.base->Lake.Inv.x,Inv.list->Lake.Inv.G
open M renaming D.int->Lake.M.D.p,D.ref->Lake.M.D.j,D.str->Lake.M.D.u,D.tup->Lake.M.D.w,D.lst->Lake.M.D.x,D.bl->Lake.M.D.I,D.au->Lake.M.D.U,D.err->Lake.M.D.y,Es.cons->Lake.M.Es.j,Es.nil->Lake.M.Es.u,R.ok->Lake.M.R.j,R.bind->Lake.M.R.u,R.fail->Lake.M.R.w,Fx.call->Lake.M.Fx.j,W.own->Lake.M.W.j,W.bor->Lake.M.W.u,Cell.lst->Lake.M.Cell.x,O.fail->Lake.M.O.w,O.next->Lake.M.O.j,It.seq->Lake.M.It.j,E.comp->Lake.M.E.M,E.chain->Lake.M.E.a4,E.share->Lake.M.E.a5,Ty.list->Lake.M.Ty.G,Prog.fns->Lake.M.Prog.w
open PySem PySem.Spec
structure Ge where
 K:Ab1
 ca:String->Addr
 cl:M.dy
 own:List String
 ma:String->Addr
open Lake renaming MS.Ge.ca->Lake.MS.Ge.j
structure iP(Y:Ge)(c:String):Prop where
 k:my Y.K<|Y.j c
 own:∀t∈Y.own,Ap2 Y.K (.j<|Y.j c) (.j<|Y.j t)=y0 ((M.G8 Y.cl 8 c).x t)
 ve:PySem.W.kitOne Y.K (.j<|Y.j c) (.w "ValueError")=some ((M.G8 Y.cl 8 c).x "ValueError")
structure Gh where
 fz:Addr->Prop
 aO:Nat->Addr
 n:Nat
open Lake renaming MS.Gh.aO->Lake.MS.Gh.j,MS.Gh.fz->Lake.MS.Gh.w
def f7(Y:Ge)(G:Gh)(H:Hp)(a:Addr)(vs:List V):Prop:=(G.w a/\H a=y0 (.tup vs))∨
 ∃(o:Obj)(b:Array Value)(n:Nat),Y.K.u a=some o/\o.cls=.w "tuple"/\o.x=none/\o.j=.j b n/\b.j<=sizeLine/\Vals vs b.u
def vL(Y:Ge)(a:Addr)(vs:List V):Prop:=∃(o:Obj)(b:Array Value)(n:Nat),Y.K.u a=some o/\o.cls=.w "list"/\o.x=none/\o.j=.j b n/\b.j<=sizeLine/\Vals vs b.u
def kB(Y:Ge)(G:Gh)(H:Hp)(a:Addr)(vs:List V):Prop:=(G.w a/\Rd H a (.x vs))\/vL Y a vs
def f7.sq (h:f7 Y G H a vs):de Y.K H a vs:=h.j (λz=>.u<|.u z.2)<|by rintro⟨o,b,n,d,c,_,e⟩;exact .w ⟨o,b,n,d,c,e⟩
def f7.pl (h:f7 Y G H a vs):Bq Y.K H a:=h.j (λz=>.u ⟨_,z.2⟩)<|by rintro⟨o,_,_,d,c,b,_⟩;exact .w ⟨o,d,c,b⟩
def kB.sq (h:kB Y G H a vs):bu Y.K H a vs:=h.j (λz=>.u z.2) λz=>.w z
noncomputable def aL(s:M.Tx):Str:=⟨s.w⟩
mutual
def aD(Y:Ge)(G:Gh)(H:Hp):M.D->V->Prop
|.U,v=>v=.au
|.I b,v=>v=.I b
|.p i,v=>v=.p i
|.u s,v=>v=.u (aL s)
|.w ds,v=>∃a vs,v=.j a/\f7 Y G H a vs/\aa Y G H ds vs
|.x ds,v=>∃a vs,v=.j a/\kB Y G H a vs/\aa Y G H ds vs
|.j r,v=>r<G.n/\v=.j (G.j r)
|.y c f d,v=>∃x dx u,v=.j x/\G.w x/\G.w dx/\H x=y0 (iX x (Y.j c)<|y0 dx)/\(∃l,H dx=y0 (.xd<|(Str.ofString f,u)::l))/\iP Y c/\mI Y.K (Y.j c) (Str.ofString f)/\aD Y G H d u
def aa(Y:Ge)(G:Gh)(H:Hp):List M.D->List V->Prop
|[],vs=>vs=[]
|d::ds,vs=>∃v r,vs=v::r/\aD Y G H d v/\aa Y G H ds r
end
def bE(Y:Ge)(G:Gh)(H:Hp)(a:Addr):M.Cell->Prop
|.x xs=>M.Gd xs=k9/\∃vs,H a=y0 (.x vs)/\aa Y G H xs vs
|.aU ks=>M.Gd (ks.j (·.2))=k9/\∃us,H a=y0 (dS<|(ks.j λp=>aL p.1).a1 us)/\aa Y G H (ks.j (·.2)) us
|.obj c fs=>∃dx us,H a=y0 (.ins (Y.j c) dx<|(fs.j λp=>Str.ofString p.1).a1 us)/\aa Y G H (fs.j (·.2)) us
structure ah(Y:Ge)(G:Gh)(h:M.AH)(H:Hp):Prop where
 len:h.e=G.n
 any:∀r c,h[r]?=y0 c->¬G.w (G.j r)/\bE Y G H (G.j r) c
 inj:∀r s,r<G.n->s<G.n->G.j r=G.j s->r=s
 live:∀a,G.w a->∃o,H a=y0 o
open Lake renaming MS.ah.len->Lake.MS.ah.w,MS.ah.any->Lake.MS.ah.C,MS.ah.live->Lake.MS.ah.j
def dZ(G:Gh)(a:Addr):Prop:=∀r,r<G.n->G.j r≠a
structure Ext(G:Gh)(H:Hp)(G':Gh)(H':Hp):Prop where
 keep:∀a o,H a=y0 o->dZ G a->H' a=y0 o
 le:G.n<=G'.n
 aO:∀r,r<G.n->G'.j r=G.j r
 new:∀r,G.n<=r->r<G'.n->H (G'.j r)=u0
 fz:∀a,G.w a->G'.w a
 old:∀a,G'.w a->G.w a\/H a=u0
 cells:∀r,r<G.n->(∃o,H (G.j r)=y0 o)->∃o,H' (G.j r)=y0 o
open Lake renaming MS.Ext.cells->Lake.MS.Ext.u,MS.Ext.keep->Lake.MS.Ext.w
def ak(Y:Ge)(G:Gh)(H:Hp):M.W->V->Prop
|.v d,v=>aD Y G H d v
|.j xs,v=>∃a vs,v=.j a/\¬G.w a/\dZ G a/\H a=y0 (.x vs)/\aa Y G H xs vs
|.u xs,v=>∃a vs,v=.j a/\dZ G a/\Rd H a (.x vs)/\aa Y G H xs vs
noncomputable def eA:M.W->Bool
|.j _=>k9
|.u _=>k9
|_=>y9
structure av(Y:Ge)(G:Gh)(τ:M.Sl)(h:M.AH)(U:St)(H:Hp):Prop where
 len:τ.e=U.e
 slot:∀i w,M.Gm τ i=y0 w->∃v,U[i]?=y0 (y0 v)/\ak Y G H w v
 apart:∀i j xs w a,i≠j->M.Gm τ i=y0 (.j xs)->M.Gm τ j=y0 w->eA w=k9->U[i]?=y0 (y0<|.j a)->U[j]?≠y0 (y0<|.j a)
 heap:ah Y G h H
open Lake renaming MS.av.heap->Lake.MS.av.j,MS.av.slot->Lake.MS.av.u,MS.av.apart->Lake.MS.av.w
section
variable{Y:Ge}{G G' G1 G2:Gh}{H H' H1 H2:Hp}{h h':M.AH}{τ:M.Sl}{U:St}
def ah.cell (R:ah Y G h H)(r)(xs)(e:h[r]?=y0 (M.Cell.lst xs)):¬G.w (G.j r)/\∃vs,H (G.j r)=y0 (.x vs)/\aa Y G H xs vs:=⟨(R.C r _ e).1,(R.C r _ e).2.2⟩
def ah.pure (R:ah Y G h H)(r:Nat)(xs)(e:h[r]?=y0 (M.Cell.lst xs)):M.Gd xs=true:=(R.C r _ e).2.1
theorem ah.obj (R:ah Y G h H)(r)(c)(fs)(e:h[r]?=y0 (M.Cell.obj c fs)):¬G.w (G.j r)/\∃dx us,H (G.j r)=y0 (.ins (Y.j c) dx<|(fs.j λp=>Str.ofString p.1).a1 us)/\aa Y G H (fs.j (·.2)) us:=R.C r _ e
def ah.lt (R:ah Y G h H)(e:h[r]?=y0 c):r<G.n:=by rw[←R.w];exact(Aa0.u e).1
def ah.at(R:ah Y G h H)(a:i<G.n):∃c,h[i]?=y0 c:=⟨_,Aa1<|by rwa [R.w]⟩
def bE.there (z:bE Y G H a c):∃o,H a=y0 o:=by
 cases c with
|_=>obtain⟨_,_,z,_⟩:=z;exact⟨_,z⟩
def ah.pS (r:ah Y G h H)(a:i<G.n):¬G.w (G.j i):=let⟨_,e⟩:=r.at a;(r.C i _ e).1
def ah.off (r:ah Y G h H)(c:G.w a):dZ G a:=λi b z=>r.pS b<|z▸c
theorem ah.there (r:ah Y G h H)(a:i<G.n):∃o,H (G.j i)=y0 o:=let⟨_,e⟩:=r.at a;(r.C i _ e).2.there
def Ext.refl:Ext G H G H:=⟨λ_ _ e _=>e,Ab0 _,λ_ _=>rfl,λr b a=>absurd b<|Aq0.w a,λ_ z=>z,λ_ z=>.u z,λ_ _ z=>z⟩
theorem Ext.none (e:Ext G H G' H')(d:ah Y G h H)(z:H' a=u0):H a=none:=by
 cases q:H a with
|none=>rfl
|some o=>
  by_cases b:dZ G a
  .rw[e.w a o q b]at z;cases z
  .unfold dZ at b;have:∃r,r<G.n/\G.j r=a:=Ai4 λg=>b λr d z=>g ⟨r,d,z⟩;obtain⟨r,c,rfl⟩:=this;obtain⟨i,f⟩:=e.u r c ⟨o,q⟩;rw[z]at f;cases f
def Ext.off (e:Ext G H G' H')(f:H a=y0 o)(c:dZ G a):dZ G' a:=λr d z=>by
 by_cases b:r<G.n
 .rw[e.aO r b]at z;exact c r b z
 .have:=e.new r (Nat.not_lt.u b) d;rw[z,f]at this;cases this
def Ext.trans (b:Ext G H G1 H1)(f:ah Y G h H)(d:Ext G1 H1 G2 H2):Ext G H G2 H2 where
 keep:=λa o z e=>d.w a o (b.w a o z e)<|b.off z e
 le:=Ab4 b.le d.le
 aO:=λr c=>by rw[d.aO r<|Ab3 c b.le,b.aO r c]
 new:=λr i g=>by
  by_cases c:r<G1.n
  .rw[d.aO r c];exact b.new r i c
  .exact b.none f<|d.new r (Nat.not_lt.u c) g
 fz:=λa z=>d.fz a<|b.fz a z
 old:=λa z=>(d.old a z).j (λz=>b.old a z) λz=>.w<|b.none f z
 cells:=λr c z=>by
  have:=d.u r (Ab3 c b.le)<|by rw[b.aO r c];exact b.u r c z
  rwa [b.aO r c]at this
def Ext.rd (e:Ext G H G' H')(z:Rd H a u)(b:dZ G a):Rd H' a u:=z.j (λz=>.u<|e.w a _ z b)<|by rintro⟨o,z⟩;exact .w ⟨o,e.w a _ z b⟩
structure Mon(G:Gh)(H:Hp)(G':Gh)(H':Hp):Prop where
 keep:∀a o,G.w a->H a=y0 o->H' a=y0 o
 le:G.n<=G'.n
 aO:∀r,r<G.n->G'.j r=G.j r
 fz:∀a,G.w a->G'.w a
def Ext.mon (e:Ext G H G' H')(b:ah Y G h H):Mon G H G' H':=⟨λa o z q=>e.w a o q<|b.off z,e.le,e.aO,e.fz⟩
def Mon.rd (e:Mon G H G' H')(z:Rd H a u)(b:G.w a):Rd H' a u:=z.j (λz=>.u<|e.keep a _ b z)<|by rintro⟨o,z⟩;exact .w ⟨o,e.keep a _ b z⟩
mutual
theorem aD.mon (e:Mon G H G' H'):∀{d:M.D}{v:V},aD Y G H d v->aD Y G' H' d v
|.U,_,z=>z
|.I _,_,z=>z
|.p _,_,z=>z
|.u _,_,z=>z
|.w _,_,z7=>by obtain⟨a,vs,z1,z2,z3⟩:=z7;exact⟨a,vs,z1,z2.j (λz=>.u ⟨e.fz a z.1,e.keep a _ z.1 z.2⟩) λz=>.w z,aa.mon e z3⟩
|.x _,_,z7=>by obtain⟨a,vs,z1,z2,z3⟩:=z7;exact⟨a,vs,z1,z2.j (λz=>.u ⟨e.fz a z.1,e.rd z.2 z.1⟩) .w,aa.mon e z3⟩
|.j r,_,z7=>by obtain⟨z1,z2⟩:=z7;exact⟨Ab3 z1 e.le,by rw[e.aO r z1];exact z2⟩
|.y c f d,_,z7=>by obtain⟨x,dx,u,z1,z2,z3,z4,z5,z6,z7,z8⟩:=z7;exact⟨x,dx,u,z1,e.fz x z2,e.fz dx z3,e.keep x _ z2 z4,z5.imp λ_ z=>e.keep dx _ z3 z,z6,z7,aD.mon e z8⟩
 theorem aa.mon (e:Mon G H G' H'):∀{ds:List M.D}{vs:List V},aa Y G H ds vs->aa Y G' H' ds vs
|[],_,z=>z
|_::_,_,z7=>by obtain⟨v,r,z1,z2,z3⟩:=z7;exact⟨v,r,z1,aD.mon e z2,aa.mon e z3⟩
 end
theorem bE.mon (e:Mon G H G' H')(k:∀o,H a=y0 o->H' a=y0 o)(z:bE Y G H a c):bE Y G' H' a c:=by
 cases c with
|lst j=>obtain⟨g,h,b,d⟩:=z;exact⟨g,h,k _ b,d.mon e⟩
|aU l=>obtain⟨g,f,b,d⟩:=z;exact⟨g,f,k _ b,d.mon e⟩
|obj c fs=>obtain⟨i,f,b,d⟩:=z;exact⟨i,f,k _ b,d.mon e⟩
def aD.ext (e:Ext G H G' H')(a:ah Y G h H)(z:aD Y G H d v):aD Y G' H' d v:=z.mon<|e.mon a
def aa.ext (e:Ext G H G' H')(a:ah Y G h H)(z:aa Y G H d v):aa Y G' H' d v:=z.mon<|e.mon a
theorem ak.ext (e:Ext G H G' H')(j:ah Y G h H)(z:ak Y G H w v):ak Y G' H' w v:=by
 cases w with
|v d=>exact aD.ext e j z
|own k=>
  obtain⟨a,g,i,l,c,b,f⟩:=z;refine⟨a,g,i,λq=>?_,e.off b c,e.w a _ b c,aa.ext e j f⟩;obtain q|q:=e.old a q
  .exact l q
  .rw[b]at q;cases q
|bor k=>
  obtain⟨a,g,i,c,b,f⟩:=z;refine⟨a,g,i,?_,e.rd b c,aa.ext e j f⟩;obtain b|⟨o,b⟩:=b
  .exact e.off b c
  .exact e.off b c
theorem av.ext (s:av Y G τ h U H)(e:Ext G H G' H')(b:ah Y G' h' H'):av Y G' τ h' U H' where
 len:=s.len
 slot:=λi w z=>let⟨v,a,c⟩:=s.u i w z;⟨v,a,c.ext e s.j⟩
 apart:=s.w
 heap:=b
theorem aa.length:∀{ds}{vs},aa Y G H ds vs->ds.e=vs.e
|[],_,rfl=>rfl
|_::_,_,z7=>by obtain⟨_,_,rfl,_,z⟩:=z7;exact congrArg (·+1)<|aa.length z
theorem aa.get:∀{ds}{vs}{i:Nat}{d},aa Y G H ds vs->ds[i]?=y0 d->∃v,vs[i]?=y0 v/\aD Y G H d v
|[],_,_,_,_,e=>by simp at e
|_::_,_,0,_,z7,e=>by obtain⟨v,_,rfl,z,_⟩:=z7;simp at e;subst e;exact⟨v,rfl,z⟩
|_::_,_,i+1,_,z7,e=>by obtain⟨_,_,rfl,_,z⟩:=z7;obtain⟨v,b,a⟩:=aa.get z (by simpa using e);exact⟨v,by simpa using b,a⟩
theorem aa.append:∀{ds es}{vs us},aa Y G H ds vs->aa Y G H es us->aa Y G H (ds++es) (vs++us)
|[],_,_,_,rfl,z=>z
|_::_,_,_,_,z7,z=>by obtain⟨v,r,rfl,a,b⟩:=z7;exact⟨v,r++_,rfl,a,aa.append b z⟩
theorem aa.drop:∀{ds}{vs}(n),aa Y G H ds vs->aa Y G H (ds.G n) (vs.G n)
|_,_,0,z=>z
|[],_,_+1,rfl=>rfl
|_::_,_,n+1,z7=>by obtain⟨_,_,rfl,_,z⟩:=z7;exact aa.drop n z
theorem aa.take:∀{ds}{vs}(n),aa Y G H ds vs->aa Y G H (ds.A n) (vs.A n)
|_,_,0,_=>rfl
|[],_,_+1,rfl=>rfl
|_::_,_,n+1,z7=>by obtain⟨v,r,rfl,a,z⟩:=z7;exact⟨v,r.A n,rfl,a,aa.take n z⟩
theorem aa.set (z:aD Y G H d v):∀{ds}{vs} i,aa Y G H ds vs->aa Y G H (ds.y i d) (vs.y i v)
|[],_,_,rfl=>rfl
|_::_,_,0,z7=>by obtain⟨_,r,rfl,_,a⟩:=z7;exact⟨v,r,rfl,z,a⟩
|_::_,_,i+1,z7=>by obtain⟨u,r,rfl,b,a⟩:=z7;exact⟨u,r.y i v,rfl,b,aa.set z i a⟩
noncomputable def Gh.more (G:Gh)(a:Addr):Gh:={G with fz:=λb=>G.w b\/b=a}
open Lake renaming MS.Gh.more->Lake.MS.Gh.u
def Qt(o)(b:H p=u0):Ext G H G<|aH H p o where
 keep:=λa u z _=>by rw[Za<|Jb z b];exact z
 le:=Ab0 _
 aO:=λ_ _=>rfl
 new:=λr d c=>absurd d<|Aq0.w c
 fz:=λ_ z=>z
 old:=λ_ z=>.u z
 cells:=(by rintro r _⟨u,z⟩;exact⟨u,by rw[Za<|Jb z b];exact z⟩)
def Zk(o)(b:H p=u0):Ext G H (G.u p)<|aH H p o where
 keep:=λa u z _=>by rw[Za<|Jb z b];exact z
 le:=Ab0 _
 aO:=λ_ _=>rfl
 new:=λr d c=>absurd d<|Aq0.w c
 fz:=λ_ z=>.u z
 old:=λa z=>z.j .u λe=>.w<|e▸b
 cells:=(by rintro r _⟨u,z⟩;exact⟨u,by rw[Za<|Jb z b];exact z⟩)
def ah.new (r:ah Y G h H)(o)(b:H p=u0):ah Y G h<|aH H p o where
 len:=r.w
 any:=λi c z=>⟨(r.C i c z).1,(r.C i c z).2.mon ((Qt o b).mon r) λu q=>by rw[Za<|Jb q b];exact q⟩
 inj:=r.inj
 live:=λa z=>let⟨u,q⟩:=r.j a z;⟨u,by rw[Za<|Jb q b];exact q⟩
def ah.ij (r:ah Y G h H)(o)(b:H p=u0):ah Y (G.u p) h<|aH H p o where
 len:=r.w
 any:=λi c z=>by obtain⟨f,d⟩:=r.C i c z;obtain⟨u,g⟩:=d.there;exact⟨λq=>q.j f<|Jb g b,d.mon ((Zk o b).mon r) λu q=>by rw[Za<|Jb q b];exact q⟩
 inj:=r.inj
 live:=λa z=>z.j (λz=>let⟨u,q⟩:=r.j a z;⟨u,by rw[Za<|Jb q b];exact q⟩) λe=>⟨o,by rw[e];exact Zb⟩
def Wu(a):Mon G H (G.u a) H:=⟨λ_ _ _ z=>z,Ab0 _,λ_ _=>rfl,λ_ z=>.u z⟩
theorem Ext.more (e:Ext G H G1 H1)(c:H a=Option.none):Ext G H (G1.u a) H1:=
 ⟨e.w,e.le,e.aO,e.new,λb z=>.u<|e.fz b z,λb z=>z.j (λz=>e.old b z) λz=>.w<|z▸c,e.u⟩
theorem ah.more (r:ah Y G h H)(d:dZ G a)(f:∃o,H a=y0 o):ah Y (G.u a) h H where
 len:=r.w
 any:=λi c z=>⟨λq=>q.j (r.C i c z).1 λe=>d i (r.lt z) e,(r.C i c z).2.mon (Wu a) λ_ q=>q⟩
 inj:=r.inj
 live:=λb z=>z.j (λz=>r.j b z) λe=>e▸f
theorem ak.more (z:ak Y G H w v)(j:eA w=k9->v≠.j a):ak Y (G.u a) H w v:=by
 cases w with
|v d=>exact aD.mon (Wu a) z
|own k=>obtain⟨b,h,c,l,i,f,g⟩:=z;exact⟨b,h,c,λq=>q.j l λe=>j rfl<|e▸c,i,f,g.mon<|Wu a⟩
|bor k=>obtain⟨b,h,c,i,f,g⟩:=z;exact⟨b,h,c,i,f,g.mon<|Wu a⟩
theorem av.more (s:av Y G τ h U H)(b:dZ G a)(g:∃o,H a=y0 o)(d:∀i w,M.Gm τ i=y0 w->eA w=k9->U[i]?≠y0 (y0<|.j a)):av Y (G.u a) τ h U H where
 len:=s.len
 slot:=λi w z=>by obtain⟨v,c,f⟩:=s.u i w z;exact⟨v,c,f.more λq e=>d i w z q<|e▸c⟩
 apart:=s.w
 heap:=s.j.more b g
def aI(τ:M.Sl)(U:St)(H:Hp):M.W->V->Prop
|.v _,_=>True
|.j _,v=>∃a,v=.j a/\H a=u0
|.u _,v=>∃(i:Nat)(w:M.W),M.Gm τ i=y0 w/\eA w=k9/\U[i]?=y0 (y0 v)
def aI.back (e:Ext G H G1 H1)(f:ah Y G h H)(z:aI τ U H1 w v):aI τ U H w v:=by
 cases w with
|v d=>trivial
|own c=>obtain⟨a,b,g⟩:=z;exact⟨a,b,e.none f g⟩
|bor c=>exact z
def av.c9 (s:av Y G τ h U H)(e:M.Gm τ i=y0 w)(l:eA w=k9)(q:U[i]?=y0 (y0<|.j a)):∃o,H a=y0 o:=by
 obtain⟨v,f,g⟩:=s.u i w e;rw[q]at f;cases f;cases w with
|v d=>cases l
|own k=>obtain⟨b,j,f,_,_,c,_⟩:=g;cases f;exact⟨_,c⟩
|bor k=>
  obtain⟨b,j,f,_,c,_⟩:=g;cases f;obtain c|⟨o,c⟩:=c
  .exact⟨_,c⟩
  .exact⟨_,c⟩
def rK(Y:Ge)(E:XK)(d:M.D)(G:Gh)(H:Hp):Prop:=
 ∀c f a,d=.y c f a->iP Y c->mI Y.K (Y.j c) (Str.ofString f)->∀dx u,G.w dx->H dx=y0 (.xd [(Str.ofString f,u)])->aD Y G H a u->E (.j<|Y.j c) (y0 dx) H
def aw{b:Type}(Y:Ge)(E:XK)(G:Gh)(H:Hp)(r:M.R b)(P:b->M.AH->Gh->Hp->Prop):Prop:=match r with
|.j a h'=>∀G' H',Ext G H G' H'->ah Y G' h' H'->P a h' G' H'
|.exc d h'=>∀G' H',Ext G H G' H'->ah Y G' h' H'->rK Y E d G' H'
|.w=>False
def aw.on (p:aw Y E G H r P)(e:Ext G H G1 H1)(d:ah Y G h H):aw Y E G1 H1 r P:=by
 cases r with
|fail=>exact p
|_=>exactλf b c a=>p f b (e.trans d c) a
def tD(Y:Ge)(E:XK)(m:M.Sl->M.AH->M.R M.W):TE:=λU H Q=>∃G τ h,av Y G τ h U H/\aw Y E G H (m τ h) λw h' G' H'=>∀v,ak Y G' H' w v->aI τ U H w v->Q v H'
def cE(Y:Ge)(E:XK)(m:M.Sl->M.AH->M.R Bool):TT:=λU H Q=>∃G τ h,av Y G τ h U H/\aw Y E G H (m τ h) λb _ _ H'=>Q b H'
def Wa(b:ah Y G0 h0 H0)(a:Ext G0 H0 G H)(s:av Y G τ h U H)
 (p:aw Y E G0 H0 ((m τ h).u f) P)
 (k:∀w v h1 G1 H1,Ext G0 H0 G1 H1->Ext G H G1 H1->av Y G1 τ h1 U H1->ak Y G1 H1 w v->aI τ U H w v->aw Y E G0 H0 (f w h1) P->Q v H1):tD Y E m U H Q:=by
 refine⟨G,τ,h,s,?_⟩;cases q:m τ h with
|ok w h1=>rw[q]at p;exactλG1 H1 e g v c i=>k w v h1 G1 H1 (a.trans b e) e (s.ext e g) c i p
|exc d h1=>rw[q]at p;exact aw.on p a b
|fail=>rw[q]at p;exact p
def qU(c:ah Y G0 h0 H0)(a:Ext G0 H0 G H)(s:av Y G τ h U H)
 (p:aw Y E G0 H0 ((m τ h).u f) P)
 (k:∀b h1 G1 H1,Ext G0 H0 G1 H1->Ext G H G1 H1->av Y G1 τ h1 U H1->aw Y E G0 H0 (f b h1) P->Q b H1):cE Y E m U H Q:=by
 refine⟨G,τ,h,s,?_⟩;cases q:m τ h with
|ok w h1=>rw[q]at p;exactλG1 H1 e g=>k w h1 G1 H1 (a.trans c e) e (s.ext e g) p
|exc d h1=>rw[q]at p;exact aw.on p a c
|fail=>rw[q]at p;exact p
def lz(Y:Ge)(E:XK)(m:M.Sl->M.AH->M.R (List M.D)):TA:=λU H Q=>∃G τ h,av Y G τ h U H/\aw Y E G H (m τ h) λds _ G' H'=>∀vs,aa Y G' H' ds vs->Q vs H'
def bp(Y:Ge)(G:Gh)(H:Hp):List M.W->List V->Prop
|[],vs=>vs=[]
|w::a,vs=>∃v r,vs=v::r/\ak Y G H w v/\bp Y G H a r
theorem bp.ext (e:Ext G H G' H')(a:ah Y G h H):∀{ws}{vs},bp Y G H ws vs->bp Y G' H' ws vs
|[],_,z=>z
|_::_,_,z7=>by obtain⟨v,r,b,d,c⟩:=z7;exact⟨v,r,b,ak.ext e a d,bp.ext e a c⟩
theorem bp.length:∀{ws}{vs},bp Y G H ws vs->ws.e=vs.e
|[],_,rfl=>rfl
|_::_,_,z7=>by obtain⟨_,_,rfl,_,z⟩:=z7;exact congrArg (·+1)<|bp.length z
def gK(Y:Ge)(E:XK)(m:M.Sl->M.AH->M.R (List M.W)):TA:=λU H Q=>∃G τ h,av Y G τ h U H/\aw Y E G H (m τ h) λa _ G' H'=>∀vs,bp Y G' H' a vs->Q vs H'
def rR(b:ah Y G0 h0 H0)(a:Ext G0 H0 G H)(s:av Y G τ h U H)
 (p:aw Y E G0 H0 ((m τ h).u f) P)
 (k:∀ds vs h1 G1 H1,Ext G0 H0 G1 H1->Ext G H G1 H1->av Y G1 τ h1 U H1->aa Y G1 H1 ds vs->aw Y E G0 H0 (f ds h1) P->Q vs H1):lz Y E m U H Q:=by
 refine⟨G,τ,h,s,?_⟩;cases q:m τ h with
|ok w h1=>rw[q]at p;exactλG1 H1 e c vs z=>k w vs h1 G1 H1 (a.trans b e) e (s.ext e c) z p
|exc d h1=>rw[q]at p;exact aw.on p a b
|fail=>rw[q]at p;exact p
def Qs(b:ah Y G0 h0 H0)(a:Ext G0 H0 G H)(s:av Y G τ h U H)
 (p:aw Y E G0 H0 ((m τ h).u f) P)
 (k:∀ds vs h1 G1 H1,Ext G0 H0 G1 H1->Ext G H G1 H1->av Y G1 τ h1 U H1->bp Y G1 H1 ds vs->aw Y E G0 H0 (f ds h1) P->Q vs H1):gK Y E m U H Q:=by
 refine⟨G,τ,h,s,?_⟩;cases q:m τ h with
|ok w h1=>rw[q]at p;exactλG1 H1 e c vs z=>k w vs h1 G1 H1 (a.trans b e) e (s.ext e c) z p
|exc d h1=>rw[q]at p;exact aw.on p a b
|fail=>rw[q]at p;exact p
theorem aw.of (p:aw Y E G H ((M.R.of h o).u f) P):∃b,o=y0 b/\aw Y E G H (f b h) P:=by
 cases o with
|none=>exact p.j
|some b=>exact⟨b,rfl,p⟩
def aw.at(p:aw Y E G H (.j a h) P)(e:Ext G H G1 H1)(b:ah Y G1 h H1):P a h G1 H1:=p G1 H1 e b
def rQ(e:Ext G H G1 H1)(s:av Y G1 τ h U H1)(p:av Y G τ h' U H)(r:ak Y G1 H1 w v)(f:aI τ U H w v)(c:w.d=y0 d):
 ∃G2,Ext G H G2 H1/\av Y G2 τ h U H1/\aD Y G2 H1 d v/\Mon G1 H1 G2 H1:=by
 cases w with
|v y=>cases c;exact⟨G1,e,s,r,⟨λ_ _ _ z=>z,Ab0 _,λ_ _=>rfl,λ_ z=>z⟩⟩
|own n=>cases c;obtain⟨a,m,rfl,A,x,k,t⟩:=r;obtain⟨b,l,j⟩:=f;cases l;refine⟨G1.u a,e.more j,s.more x ⟨_,k⟩ λi w q u z=>?_,⟨a,m,rfl,.u ⟨.w rfl,.u k⟩,t.mon<|Wu a⟩,Wu a⟩;obtain⟨o,g⟩:=p.c9 q u z;rw[j]at g;cases g
|bor n=>cases c
end
open PySem PySem.Spec PyProof.Rows
mutual
def RV(hp:Heap):M.D->Value->Prop
|.U,u=>u=.x
|.I b,u=>u=.y b
|.p i,u=>∃t,u=.p i t
|.u s,u=>∃t,u=.str (aL s) t
|.w ds,u=>∃(a:Addr)(its:List Value),u=.j a/\IsTup hp a its.w/\cz hp ds its
|.x ds,u=>∃(a:Addr)(its:List Value),u=.j a/\hp.B a its.w/\cz hp ds its
|.j _,_=>False
|.y _ _ _,_=>False
def cz(hp:Heap):List M.D->List Value->Prop
|[],us=>us=[]
|d::ds,us=>∃u r,us=u::r/\RV hp d u/\cz hp ds r
end
theorem cz.length:∀{ds}{us},cz hp ds us->ds.e=us.e
|[],_,rfl=>rfl
|_::_,_,z7=>by obtain⟨_,_,rfl,_,z⟩:=z7;exact congrArg (·+1)<|cz.length z
open Lake renaming MS.cz.length->Lake.MS.cz.e
theorem cz.get:∀{ds}{us}{j:Nat}{u},cz hp ds us->us[j]?=y0 u->∃d,ds[j]?=y0 d/\RV hp d u
|[],_,_,_,rfl,e=>by simp at e
|d::_,_,0,_,z7,e=>by obtain⟨v,_,rfl,z,_⟩:=z7;simp at e;subst e;exact⟨d,rfl,z⟩
|_::_,_,j+1,_,z7,e=>by obtain⟨_,_,rfl,_,z⟩:=z7;obtain⟨v,b,a⟩:=cz.get z (by simpa using e);exact⟨v,by simpa using b,a⟩
section
variable{X:Cx}{Y:Ge}{G:Gh}{H:Hp}{h:M.AH}{pins:List<|Addr×Obj}{U:St}{s:Shared}
mutual
theorem aD.lQ (I:Inv X pins U H s)(hK:X.K=Y.K):∀{d:M.D}{x:V}{u:Value},aD Y G H d x->RelV x u->M.Gc d=k9->RV s.j d u
|.U,_,_,rfl,r,_=>r
|.I _,_,_,rfl,r,_=>r
|.p _,_,_,rfl,r,_=>r
|.u _,_,_,rfl,r,_=>r
|.w ds,_,_,⟨a,vs,rfl,z2,z3⟩,r,n=>by cases r;obtain⟨its,r1,p1,_⟩:=I.tuple<|hK▸z2.sq;exact⟨a,its,rfl,p1,aa.lQ I hK z3 r1<|by simpa[M.Gc]using n⟩
|.x ds,_,_,⟨a,vs,rfl,z2,z3⟩,r,n=>by cases r;obtain⟨its,r1,p1,_⟩:=I.G<|hK▸z2.sq;exact⟨a,its,rfl,p1.K,aa.lQ I hK z3 r1<|by simpa[M.Gc]using n⟩
|.j _,_,_,_,_,n=>by simp[M.Gc]at n
|.y _ _ _,_,_,_,_,n=>by simp[M.Gc]at n
theorem aa.lQ (I:Inv X pins U H s)(hK:X.K=Y.K):∀{ds:List M.D}{xs:List V}{us:List Value},aa Y G H ds xs->Vals xs us->M.Gd ds=k9->cz s.j ds us
|[],_,_,rfl,.u,_=>rfl
|d::ds,_,_,⟨v,r,rfl,z1,z2⟩,.j r1 r2,n=>by
  have n':M.Gc d=k9/\M.Gd ds=true:=by simpa[M.Gd]using n
  exact⟨_,_,rfl,aD.lQ I hK z1 r1 n'.1,aa.lQ I hK z2 r2 n'.2⟩
end
mutual
theorem aD.rv (I:Inv X pins U H s)(hK:X.K=Y.K)(hr:ah Y G h H):∀{d:M.D}{x:V}{u:Value},aD Y G H d x->RelV x u->M.Gc (M.res h d)=k9->RV s.j (M.res h d) u
|.U,_,_,rfl,r,_=>r
|.I _,_,_,rfl,r,_=>r
|.p _,_,_,rfl,r,_=>r
|.u _,_,_,rfl,r,_=>r
|.w ds,_,_,⟨a,vs,rfl,z2,z3⟩,r,n=>by cases r;obtain⟨its,r1,p1,_⟩:=I.tuple<|hK▸z2.sq;rw[M.res]at n⊢;exact⟨a,its,rfl,p1,aa.rv I hK hr z3 r1<|by simpa[M.Gc]using n⟩
|.x ds,_,_,⟨a,vs,rfl,z2,z3⟩,r,n=>by cases r;obtain⟨its,r1,p1,_⟩:=I.G<|hK▸z2.sq;rw[M.res]at n⊢;exact⟨a,its,rfl,p1.K,aa.rv I hK hr z3 r1<|by simpa[M.Gc]using n⟩
|.j i,_,_,⟨hi,e⟩,r,n=>by
  subst e;cases r;rw[M.res]at n⊢;cases q:h[i]? with
 |none=>rw[q]at n;simp[M.Gc]at n
 |some c=>
   cases c with
 |lst xs=>rw[q]at n;obtain⟨_,vs,z2,z3⟩:=hr.cell i xs q;obtain⟨its,r1,p1,_⟩:=I.G<|bu.of (K:=X.K) z2;exact⟨_,its,rfl,p1.K,aa.lQ I hK z3 r1<|by simpa[M.Gc]using n⟩
 |obj c fs=>rw[q]at n;simp[M.Gc]at n
 |aU ks=>rw[q]at n;simp[M.Gc]at n
|.y _ _ _,_,_,_,_,n=>by simp[M.res,M.Gc]at n
theorem aa.rv (I:Inv X pins U H s)(hK:X.K=Y.K)(hr:ah Y G h H):∀{ds:List M.D}{xs:List V}{us:List Value},aa Y G H ds xs->Vals xs us->M.Gd (M.GT h ds)=k9->cz s.j (M.GT h ds) us
|[],_,_,rfl,.u,_=>rfl
|d::ds,_,_,⟨v,r,rfl,z1,z2⟩,.j r1 r2,n=>by
  rw[M.GT]at n⊢;have n':M.Gc (M.res h d)=k9/\M.Gd (M.GT h ds)=true:=by simpa[M.Gd]using n
  exact⟨_,_,rfl,aD.rv I hK hr z1 r1 n'.1,aa.rv I hK hr z2 r2 n'.2⟩
end
theorem ak.rv (I:Inv X pins U H s)(j:X.K=Y.K)(i:ah Y G h H)(z:ak Y G H w x)(r:RelV x u)(n:M.Gc (w.dd h)=k9):RV s.j (w.dd h) u:=by
 cases w with
|v d=>exact aD.rv I j i z r n
|own l=>obtain⟨a,k,rfl,_,_,c,f⟩:=z;cases r;obtain⟨b,e,g,_⟩:=I.G<|bu.of c;exact⟨a,b,rfl,g.K,aa.rv I j i f e<|by simp_all⟩
|bor l=>obtain⟨a,k,rfl,_,c,f⟩:=z;cases r;obtain⟨b,e,g,_⟩:=I.G<|.u c;exact⟨a,b,rfl,g.K,aa.rv I j i f e<|by simp_all⟩
end
def WF(h:aL a=aL b):a=b:=by have:=congrArg Str.cps h;simpa[aL]using this
def W4{xs c:List Value}(h1:IsTup hp a xs.w)(d:IsTup hp a c.w):xs=c:=by obtain⟨o,e1,_,n,e⟩:=h1;obtain⟨f,e2,_,g,b⟩:=d;rw[e1]at e2;cases e2;rw[e]at b;cases b;rfl
def qT{c:Heap}{xs d:List Value}(h1:c.B a xs.w)(e:c.B a d.w):xs=d:=by obtain⟨o,e1,_,n,f⟩:=h1;obtain⟨g,e2,_,h,b⟩:=e;rw[e1]at e2;cases e2;rw[f]at b;cases b;rfl
def JH(h1:IsTup hp a xs)(d:hp.B a ys):False:=by obtain⟨o,e1,c,_⟩:=h1;obtain⟨e,e2,b,_⟩:=d;rw[e1]at e2;cases e2;rw[c]at b;exact absurd b Y5
mutual
theorem RV.inj {hp:Heap}:∀{d e:M.D}{u:Value},RV hp d u->RV hp e u->d=e
|.U,e,_,rfl,q=>by cases e<;>first|rfl|(simp[RV]at q)
|.I _,e,_,rfl,q=>by cases e<;>first|(simp[RV]at q;done)|(have q:=q;simp[RV]at q;try rw[q])
|.p _,e,_,z7,q=>by obtain⟨t,rfl⟩:=z7;cases e<;>first|(simp[RV]at q;done)|(have q:=q;simp[RV]at q;try rw[q])
|.u _,e,_,z7,q=>by
  obtain⟨t,rfl⟩:=z7;cases e with
 |str z=>
   obtain⟨t',q⟩:=q;injection q with q1 q2
   rw[WF q1]
 |_=>simp[RV]at q
|.w ds,e,_,z7,q=>by
  obtain⟨a,its,rfl,p,r⟩:=z7;cases e with
 |tup es=>obtain⟨b,its2,e,p2,r2⟩:=q;cases e;cases W4 p p2;rw[cz.inj r r2]
 |lst es=>obtain⟨b,its2,e,p2,r2⟩:=q;cases e;exact(JH p p2).j
 |_=>simp[RV]at q
|.x ds,e,_,z7,q=>by
  obtain⟨a,its,rfl,p,r⟩:=z7;cases e with
 |lst es=>obtain⟨b,its2,e,p2,r2⟩:=q;cases e;cases qT p p2;rw[cz.inj r r2]
 |tup es=>obtain⟨b,its2,e,p2,r2⟩:=q;cases e;exact(JH p2 p).j
 |_=>simp[RV]at q
|.j _,_,_,q,_=>q.j
|.y _ _ _,_,_,q,_=>q.j
theorem cz.inj {hp:Heap}:∀{d e:List M.D}{u:List Value},cz hp d u->cz hp e u->d=e
|[],e,_,rfl,q=>by
  cases e with
 |nil=>rfl
 |cons a b=>obtain⟨_,_,z,_⟩:=q;cases z
|d::ds,e,_,z7,q=>by
  obtain⟨u,r,rfl,z1,z2⟩:=z7;cases e with
|nil=>cases(show _::_=[]from q)
|cons a b=>obtain⟨_,_,z,y1,y2⟩:=q;cases z;rw[RV.inj z1 y1,cz.inj z2 y2]
end
mutual
theorem RV.refl {hp:Heap}:∀{d:M.D}{u:Value},RV hp d u->M.cD d d=k9
|.U,_,_=>rfl
|.I _,_,_=>by simp
|.p _,_,_=>by simp
|.u _,_,_=>by simp
|.w ds,_,z7=>by obtain⟨_,_,_,_,r⟩:=z7;rw[M.cD];exact cz.refl r
|.x ds,_,z7=>by obtain⟨_,_,_,_,r⟩:=z7;rw[M.cD];exact cz.refl r
|.j _,_,q=>q.j
|.y _ _ _,_,q=>q.j
theorem cz.refl {hp:Heap}:∀{d:List M.D}{u:List Value},cz hp d u->M.GM d d=k9
|[],_,_=>rfl
|d::ds,_,z7=>by obtain⟨_,_,_,z1,z2⟩:=z7;exact by rw[M.GM,RV.refl z1,cz.refl z2];rfl
 end
def lF(xs c:List M.D)(j:Nat):Bool:=match xs[j]?,c[j]? with
|some a,y0 b=>M.cD a b
|_,_=>k9
def XO(n)(e):(Aa6<|n+1).N e=(e 0&&(Aa6 n).N λj=>e<|j+1):=by rw[Ai2,Am0,An8];rfl
theorem sj:∀(xs ys),xs.e=ys.e->(Aa6 xs.e).N (lF xs ys)=M.GM xs ys
|[],[],_=>rfl
|[],_::_,h=>by simp at h
|_::_,[],h=>by simp at h
|x::xs,y::ys,h=>by rw[Aa9,XO,M.GM];have a:=sj xs ys (by simpa using h);rw[←a];rfl
theorem vq:∀(xs ys),M.GM xs ys=k9->xs.e=ys.e
|[],[],_=>rfl
|[],_::_,h=>by simp at h
|_::_,[],h=>by simp at h
|x::xs,y::ys,h=>by rw[M.GM,Aa2]at h;rw[Aa9,Aa9,vq xs ys h.2]
def u4(h:xs.e≠ys.e):M.GM xs ys=false:=by
 cases e:M.GM xs ys with
|false=>rfl
|true=>exact absurd (vq xs ys e) h
open SeqAt in
structure dP(A:Around)(s:Shared)(u v:Value)(b:Bool):Prop where
 rc:RcAt A s u v b
 ne:RcNeAt A s u v<|!b
 eq:EqAt A s u v b
section
open SeqAt
variable{A:Around}{s:Shared}
theorem XI:∀{ds}{j:Nat}{d},ds[j]?=y0 d->M.dep d<=M.GN ds
|[],_,_,e=>by simp at e
|x::a,0,d,e=>by simp at e;subst e;simp only[M.GN];lia
|x::a,j+1,d,e=>by have:=XI (by simpa using e);simp only[M.GN];lia
def Ce(b:Bool):((if b then(1:Int)else 0))=((b.j:Nat):Int):=by cases b<;>rfl
def N6(a b):(aL a==aL b)=(a==b):=by
 by_cases h:a=b
 .subst h;simp
 .have c:=λe=>h<|WF e;rw[beq_eq_false_iff_ne.w h,beq_eq_false_iff_ne.w c]
def J1(h:s.j.B l its.w)(f:s.j.B b its2.w)(i:cz s.j xs its)(m:cz s.j ys its2)(k:A.w<cLine)
 (t:∀(j:Nat) a c u v,xs[j]?=y0 a->ys[j]?=y0 c->RV s.j a u->RV s.j c v->EqAt A.u s u v (M.cD a c)):dP A s (.j l) (.j b)<|M.GM xs ys:=by
 have p:∀j w (z:j<its2.w.j),EqAt A.u s its.w[j] its2.w[j]<|lF xs ys j:=λj w z=>by
  obtain⟨a,n,r⟩:=i.get (j:=j) (u:=its.w[j]) Y7;obtain⟨c,q,x⟩:=m.get (j:=j) (u:=its2.w[j]) Y7;have:=t j a c _ _ n q r x;unfold lF
  rwa [n,q]
 have y:=i.e;have l2:=m.e;have two:RcAt A s (.j l) (.j b) (M.GM xs ys)/\RcNeAt A s (.j l) (.j b) (!M.GM xs ys):=by
  by_cases o:xs.e=ys.e
  .have d:its.w.j=its2.w.j:=by simp;lia
   have e:(Aa6 its.w.j).N (lF xs ys)=M.GM xs ys:=by rw[Ac7,←y];exact sj xs ys o
   have a:=RcAt.lists h f d k p;have c:=RcNeAt.lists h f d k p;rw[e]at a c;exact⟨a,c⟩
  .have d:(its.w.j !=its2.w.j)=true:=by simp;lia
   rw[u4 o];exact⟨RcAt.lists_lengths h f d k,RcNeAt.lists_lengths h f d k⟩
 refine⟨two.1,two.2,?_⟩;by_cases g:l=b
 .subst g;cases qT h f;cases cz.inj i m;rw[cz.refl i];exact EqAt.same _
 .exact EqAt.of_refs g two.1
def WS(k:IsTup s.j l its.w)(i:IsTup s.j b its2.w)(f:cz s.j xs its)(h:cz s.j ys its2)(o:A.w<cLine)
 (r:∀(j:Nat) a c u v,xs[j]?=y0 a->ys[j]?=y0 c->RV s.j a u->RV s.j c v->EqAt A.u s u v (M.cD a c)):dP A s (.j l) (.j b)<|M.GM xs ys:=by
 have n:∀j t (x:j<its2.w.j),EqAt A.u s its.w[j] its2.w[j]<|lF xs ys j:=λj t x=>by
  obtain⟨a,m,q⟩:=f.get (j:=j) (u:=its.w[j]) Y7;obtain⟨c,p,w⟩:=h.get (j:=j) (u:=its2.w[j]) Y7;have:=r j a c _ _ m p q w;unfold lF
  rwa [m,p]
 have e:((Aa6<|min its.w.j its2.w.j).N (lF xs ys)&&its.w.j==its2.w.j)=M.GM xs ys:=by
  rw[Ac7,Ac7,←f.e,←h.e];by_cases g:xs.e=ys.e
  .rw[←g,Yg,sj xs ys g];simp
  .rw[u4 g];simp[g]
 have a:=RcAt.tuples k i o n;have c:=RcNeAt.tuples k i o n;rw[e]at a c;refine⟨a,c,?_⟩;by_cases d:l=b
 .subst d;cases W4 k i;cases cz.inj f h;rw[cz.refl f];exact EqAt.same _
 .exact EqAt.of_refs d a
def dP.of (h:dP A s u v b)(e:b=b'):dP A s u v b':=e▸h
def ur:∀(n:Nat)(d e:M.D)(A:Around)(u v:Value),M.dep d<=n->A.w+n<cLine->RV s.j d u->RV s.j e v->dP A s u v (M.cD d e):=by
 intro n;induction n with
|zero=>
  intro d e A u v y K m f;have c:A.w<cLine:=Y8;cases d with
 |au=>
   cases(show u=.x from m);cases e with
   |au=>cases(show v=.x from f);exact⟨RcAt.none_none,RcNeAt.none_none,EqAt.same _⟩
   |bl b=>cases(show v=.y b from f);exact⟨RcAt.none_bool b,RcNeAt.none_bool b,EqAt.none_bool b⟩
   |int i=>obtain⟨t,rfl⟩:=f;exact⟨RcAt.none_int i t,RcNeAt.none_int i t,EqAt.none_int i t⟩
   |str z=>obtain⟨t,rfl⟩:=f;exact⟨RcAt.none_str _ t,RcNeAt.none_str _ t,EqAt.none_str _ t⟩
   |tup o=>obtain⟨a,k,rfl,p,_⟩:=f;exact⟨RcAt.none_tuple p c,RcNeAt.none_tuple p c,EqAt.none_tuple p c⟩
   |lst o=>obtain⟨a,k,rfl,p,_⟩:=f;exact⟨RcAt.none_list p c,RcNeAt.none_list p c,EqAt.none_list p c⟩
   |ref _=>exact f.j
   |err _ _ _=>exact f.j
 |bl x=>
   cases(show u=.y x from m);cases e with
   |au=>cases(show v=.x from f);exact⟨RcAt.bool_none x,RcNeAt.bool_none x,EqAt.bool_none x⟩
   |bl b=>cases(show v=.y b from f);exact⟨RcAt.bool_bool x b,RcNeAt.bool_bool x b,EqAt.bool_bool x b⟩
   |int i=>obtain⟨t,rfl⟩:=f;exact(dP.mk (RcAt.bool_int x i t) (RcNeAt.bool_int x i t)<|EqAt.bool_int x i t).of<|by rw[Ce];rfl
   |str z=>obtain⟨t,rfl⟩:=f;exact⟨RcAt.bool_str x _ t,RcNeAt.bool_str x _ t,EqAt.bool_str x _ t⟩
   |tup o=>obtain⟨a,k,rfl,p,_⟩:=f;exact⟨RcAt.bool_tuple x p c,RcNeAt.bool_tuple x p c,EqAt.bool_tuple x p c⟩
   |lst o=>obtain⟨a,k,rfl,p,_⟩:=f;exact⟨RcAt.bool_list x p c,RcNeAt.bool_list x p c,EqAt.bool_list x p c⟩
   |ref _=>exact f.j
   |err _ _ _=>exact f.j
 |int x=>
   obtain⟨g,rfl⟩:=m;cases e with
   |au=>cases(show v=.x from f);exact⟨RcAt.int_none x g,RcNeAt.int_none x g,EqAt.int_none x g⟩
   |bl b=>cases(show v=.y b from f);exact(dP.mk (RcAt.int_bool x g b) (RcNeAt.int_bool x g b)<|EqAt.int_bool x g b).of<|by rw[Ce];rfl
   |int i=>obtain⟨t,rfl⟩:=f;exact⟨RcAt.int_int x g i t,RcNeAt.int_int x g i t,EqAt.int_int x g i t⟩
   |str z=>obtain⟨t,rfl⟩:=f;exact⟨RcAt.int_str x g _ t,RcNeAt.int_str x g _ t,EqAt.int_str x g _ t⟩
   |tup o=>obtain⟨a,k,rfl,p,_⟩:=f;exact⟨RcAt.int_tuple x g p c,RcNeAt.int_tuple x g p c,EqAt.int_tuple x g p c⟩
   |lst o=>obtain⟨a,k,rfl,p,_⟩:=f;exact⟨RcAt.int_list x g p c,RcNeAt.int_list x g p c,EqAt.int_list x g p c⟩
   |ref _=>exact f.j
   |err _ _ _=>exact f.j
 |str x=>
   obtain⟨g,rfl⟩:=m;cases e with
   |au=>cases(show v=.x from f);exact⟨RcAt.str_none _ g,RcNeAt.str_none _ g,EqAt.str_none _ g⟩
   |bl b=>cases(show v=.y b from f);exact⟨RcAt.str_bool _ g b,RcNeAt.str_bool _ g b,EqAt.str_bool _ g b⟩
   |int i=>obtain⟨t,rfl⟩:=f;exact⟨RcAt.str_int _ g i t,RcNeAt.str_int _ g i t,EqAt.str_int _ g i t⟩
   |str z=>obtain⟨t,rfl⟩:=f;exact(dP.mk (RcAt.str_str _ g _ t) (RcNeAt.str_str _ g _ t)<|EqAt.str_str _ g _ t).of<|by rw[N6];rfl
   |tup o=>obtain⟨a,k,rfl,p,_⟩:=f;exact⟨RcAt.str_tuple _ g p c,RcNeAt.str_tuple _ g p c,EqAt.str_tuple _ g p c⟩
   |lst o=>obtain⟨a,k,rfl,p,_⟩:=f;exact⟨RcAt.str_list _ g p c,RcNeAt.str_list _ g p c,EqAt.str_list _ g p c⟩
   |ref _=>exact f.j
   |err _ _ _=>exact f.j
 |ref _=>exact m.j
 |err _ _ _=>exact m.j
 |_=>simp only[M.dep]at y;lia
|succ n B=>
  intro d e A u v y K m f;have c:A.w<cLine:=by lia
  cases d with
|tup G=>
   obtain⟨l,w,rfl,h,J⟩:=m;have r:M.GN G<=n:=by simp only[M.dep]at y;exact On ‹_›
   cases e with
 |au=>cases(show v=.x from f);exact⟨RcAt.tuple_none h c,RcNeAt.tuple_none h c,EqAt.tuple_none h c⟩
 |bl b=>cases(show v=.y b from f);exact⟨RcAt.tuple_bool b h c,RcNeAt.tuple_bool b h c,EqAt.tuple_bool b h c⟩
 |int i=>obtain⟨t,rfl⟩:=f;exact⟨RcAt.tuple_int i t h c,RcNeAt.tuple_int i t h c,EqAt.tuple_int i t h c⟩
 |str z=>obtain⟨t,rfl⟩:=f;exact⟨RcAt.tuple_str _ t h c,RcNeAt.tuple_str _ t h c,EqAt.tuple_str _ t h c⟩
 |tup o=>obtain⟨a,k,rfl,p,q⟩:=f;rw[M.cD];exact WS h p J q c λj F E I D e1 e2 C H=>(B F E A.u I D (Ab4 (XI e1) r) (by show A.w+1+n<cLine;lia) C H).eq
 |lst o=>obtain⟨a,k,rfl,p,_⟩:=f;exact⟨RcAt.tuple_list h p c,RcNeAt.tuple_list h p c,EqAt.tuple_list h p c⟩
 |ref _=>exact f.j
 |err _ _ _=>exact f.j
|lst G=>
   obtain⟨l,w,rfl,h,J⟩:=m;have r:M.GN G<=n:=by simp only[M.dep]at y;exact On ‹_›
   cases e with
 |au=>cases(show v=.x from f);exact⟨RcAt.list_none h c,RcNeAt.list_none h c,EqAt.list_none h c⟩
 |bl b=>cases(show v=.y b from f);exact⟨RcAt.list_bool b h c,RcNeAt.list_bool b h c,EqAt.list_bool b h c⟩
 |int i=>obtain⟨t,rfl⟩:=f;exact⟨RcAt.list_int i t h c,RcNeAt.list_int i t h c,EqAt.list_int i t h c⟩
 |str z=>obtain⟨t,rfl⟩:=f;exact⟨RcAt.list_str _ t h c,RcNeAt.list_str _ t h c,EqAt.list_str _ t h c⟩
 |lst o=>obtain⟨a,k,rfl,p,q⟩:=f;rw[M.cD];exact J1 h p J q c λj F E I D e1 e2 C H=>(B F E A.u I D (Ab4 (XI e1) r) (by show A.w+1+n<cLine;lia) C H).eq
 |tup o=>obtain⟨a,k,rfl,p,_⟩:=f;exact⟨RcAt.list_tuple h p c,RcNeAt.list_tuple h p c,EqAt.list_tuple h p c⟩
 |ref _=>exact f.j
 |err _ _ _=>exact f.j
|au=>exact B .U e A u v Y7 (Ag ‹_›) m f
|ref _=>exact m.j
|err _ _ _=>exact m.j
|_=>exact B _ e A u v Y7 (Ag ‹_›) m f
end
def aA(Y:Ge)(E:XK)(G:Gh)(H:Hp)(r:M.R M.W)(Q:VK):Prop:=aw Y E G H r λw _ G' H'=>∀v,ak Y G' H' w v->aI [] [] H w v->Q v H'
section
open Lake renaming MS.aa.length->Lake.MS.aa.e
variable{X:Cx}{Y:Ge}{G:Gh}{H:Hp}{h:M.AH}{pins:List<|Addr×Obj}{U:St}{s:Shared}{Q:VK}{E:XK}
theorem aA.v (p:aA Y E G H (.j (.v d) h) Q)(a:ah Y G h H){v:V}(z:aD Y G H d v):Q v H:=p G H Ext.refl a v z trivial
def ah.lI (b:ah Y G h H)(c:H a=u0):¬G.w a:=λq=>by obtain⟨o,z⟩:=b.j a q;rw[c]at z;cases z
def ah.gX (c:ah Y G h H)(d:H a=u0):dZ G a:=λr b e=>by obtain⟨o,q⟩:=c.there b;rw[e,d]at q;cases q
theorem aA.own (p:aA Y E G H (.j (.j xs) h) Q)(c:ah Y G h H)(z:aa Y G H xs vs)(a)(b:H a=u0):Q (.j a)<|aH H a<|.x vs:=
 p G _ (Qt _ b) (c.new _ b) _ ⟨a,vs,rfl,c.lI b,c.gX b,Zb,z.ext (Qt _ b) c⟩ ⟨a,rfl,b⟩
theorem aA.tup (p:aA Y E G H (.j (.v<|.w xs) h) Q)(c:ah Y G h H)(z:aa Y G H xs vs)(a)(b:H a=u0):Q (.j a)<|aH H a<|.tup vs:=
 p _ _ (Zk _ b) (c.ij _ b) _ ⟨a,vs,rfl,.u ⟨.w rfl,Zb⟩,z.ext (Zk _ b) c⟩ trivial
theorem aA.of (p:aA Y E G H ((M.R.of h o).u f) Q):∃b,o=y0 b/\aA Y E G H (f b h) Q:=aw.of p
def aA.mk (p:aw Y E G0 H0 r λw _ G' H'=>∀v,ak Y G' H' w v->aI τ U H0 w v->Q v H')(e:Ext G0 H0 G H)(f:ah Y G0 h0 H0):aA Y E G H r Q:=by
 cases r with
|ok w k=>
  refineλG' H' c b v l h=>p G' H' (e.trans f c) b v l ?_;cases w with
 |v d=>trivial
 |own j=>obtain⟨a,g,m⟩:=h;exact⟨a,g,e.none f m⟩
 |bor j=>obtain⟨i,w,g,_⟩:=h;simp at g
|exc d k=>exactλG' H' c b=>p G' H' (e.trans f c) b
|fail=>exact p
theorem ak.lst (j:ah Y G h H)(z:ak Y G H w v)(e:w.ck h=y0 xs):∃a vs,v=.j a/\bu Y.K H a vs/\aa Y G H xs vs:=by
 cases w with
|v d=>
  cases d with
 |lst i=>cases e;obtain⟨a,vs,b,g,f⟩:=z;exact⟨a,vs,b,g.sq,f⟩
 |ref r=>
   obtain⟨k,b⟩:=z;have e:(match h[r]? with|some (M.Cell.lst zs)=>y0 zs|_=>u0)=y0 xs:=e;cases q:h[r]? with
   |none=>rw[q]at e;cases e
   |some c=>
    cases c with
   |lst i=>rw[q]at e;cases e;obtain⟨_,vs,g,f⟩:=j.cell r _ q;exact⟨_,vs,b,bu.of g,f⟩
   |_=>rw[q]at e;cases e
 |_=>cases e
|own i=>cases e;obtain⟨a,vs,b,_,_,g,f⟩:=z;exact⟨a,vs,b,bu.of g,f⟩
|bor i=>cases e;obtain⟨a,vs,b,_,g,f⟩:=z;exact⟨a,vs,b,.u g,f⟩
theorem ak.tT (j:ah Y G h H)(z:ak Y G H w v)(e:w.kg h=y0 xs):∃a vs,v=.j a/\Rd H a (.x vs)/\aa Y G H xs vs:=by
 cases w with
|v d=>
  cases d with
 |ref r=>
   obtain⟨k,b⟩:=z;have e:(match h[r]? with|some (M.Cell.lst zs)=>y0 zs|_=>u0)=y0 xs:=e;cases q:h[r]? with
   |none=>rw[q]at e;cases e
   |some c=>
    cases c with
   |lst i=>rw[q]at e;cases e;obtain⟨_,vs,g,f⟩:=j.cell r _ q;exact⟨_,vs,b,.u g,f⟩
   |_=>rw[q]at e;cases e
 |_=>cases e
|own i=>cases e;obtain⟨a,vs,b,_,_,g,f⟩:=z;exact⟨a,vs,b,.u g,f⟩
|bor i=>cases e;obtain⟨a,vs,b,_,g,f⟩:=z;exact⟨a,vs,b,g,f⟩
theorem ak.seq (j:ah Y G h H)(z:ak Y G H w v)(e:w.seq? h=y0 xs):∃a vs,v=.j a/\(bu Y.K H a vs\/de Y.K H a vs)/\aa Y G H xs vs:=by
 have b:w.ck h=y0 xs->∃a vs,v=.j a/\(bu Y.K H a vs\/de Y.K H a vs)/\aa Y G H xs vs:=λe=>by obtain⟨a,vs,c,g,f⟩:=z.lst j e;exact⟨a,vs,c,.u g,f⟩
 cases w with
|v d=>
  cases d with
 |tup i=>cases e;obtain⟨a,vs,c,g,f⟩:=z;exact⟨a,vs,c,.w g.sq,f⟩
 |lst i=>exact b e
 |ref r=>exact b e
 |_=>cases e
|_=>exact b e
def Lk(I:Inv X pins U H s)(r:Rd H a<|.x vs):vs.e<=sizeLine/\∃j n,Vals vs j/\vs.e=j.e/\s.j.j a=y0 {cls:=.w "list",data:=.j j.w n}:=by obtain⟨z,j,n,r,e⟩:=r.ok I.aT;exact⟨z,j,n,r,r.length,e⟩
def Jk:M.bh<=sizeLine:=by rw[M.Gf];decide
def OE(K:Ab1):R2:=λx y H Q=>∃l b xs zs,x=.j l/\y=.j b/\bu K H l xs/\bu K H b zs/\xs.e+zs.e<=sizeLine/\∀p,H p=u0->Q (.j p) (aH H p<|.x<|xs++zs)
def Lz:cn X (binaryOp .Add)<|OE X.K:=by
 rintro k s U H x y v u Q I D A⟨l,b,L,M,rfl,rfl,G,C,K,q⟩;cases D;cases A;obtain⟨c,r,t,_⟩:=I.G G;obtain⟨a,j,E,_⟩:=I.G C;have N:=r.length;have l2:=j.length;have z:c.w++a.w=(c++a).w:=by simp
 obtain⟨⟨B,dd,o,sl⟩,m,F,n,w⟩:=id t.K;obtain⟨⟨p,e,f,h⟩,d,i,J,g⟩:=id E.K;subst F w i g;refine Ua ⟨_,m,rfl⟩ ⟨_,d,rfl⟩ noFill_list_add seq_list_add PySem.F.slot_list_add PySem.F.entry_list_add (PySem.F.args_list_add_2 _ _) (list_addW l b c.w a.w n J dd e sl h<|by simp_all) ⟨m,d,?_⟩;rw[z];exact⟨.j _,_,I.mK (r.append j)<|by simp_all,rfl,q _ I.fresh⟩
def RI:R2:=λx y H Q=>∃l k xs,x=.j l/\y=.p k/\Rd H l (.x xs)/\-(2^63)<=k/\k<2^63/\xs.e*k.j<=sizeLine∧
 ∀p,H p=u0->Q (.j p) (aH H p<|.x (Aa7 k.j xs).T)
def SK:cn X (binaryOp .Mult) RI:=by
 rintro f s U H x y v u Q I i h⟨l,k,G,rfl,rfl,o,g,A,E,q⟩;cases i;obtain⟨t,rfl⟩:=h;obtain⟨z,b,n,r,w,e⟩:=Lk I o;have c:b.w.j*k.j<=sizeLine:=by rwa [Ac7,←w]
 have d:List.foldl (λB j=>B++j) #[] (Aa7 (if b.w.isEmpty=k9 then 0 else k.j) b.w)=(Aa7 k.j b).T.w:=by
  have C:=λm=>by
   have:=vQ b m []
   rwa [Af3]at this
  rw[C];cases b with
|nil=>simp
|cons a D=>rw[FM Y7]
 refine wpAny_binaryOp_repeat_ref rfl ⟨_,e,rfl⟩ (λp=>VW p k t) noFill_list_mul F.fills_int_mul V2 repeat_list F.slot_int_index.u
 <|Tu V2 (VW s k t) F.entry_int_rmul (F.args_int_rmul_2 _ _) (int___rmul___int_list k t l b.w n)
    ⟨e,rfl,⟨_,e,rfl⟩,Tu F.slot_list_mul ⟨_,e,rfl⟩ F.entry_list_mul (F.args_list_mul_2 _ _) (AutoListH.list___mul___list_int_3 l b.w n k t (by
      rw[fitsIndex_both g A];exact Ac0) (by
      have:sizeLine<=(2^63-1)/8:=by decide
      lia)<|by rw[Bz c];exact Ac0) ⟨e,?_⟩⟩
 rw[d];exact⟨.j _,_,I.mK (r.rep k.j)<|by rwa [FY,Ap9],rfl,q _ I.fresh⟩
theorem aa.rep (z:aa Y G H ds vs):∀k:Nat,aa Y G H (Aa7 k ds).T (Aa7 k vs).T
|0=>rfl
|k+1=>by exact z.append<|aa.rep z k
def jd(a b:Nat):Builtin.bitAnd (a:Int) (b:Int)=((a&&&b:Nat):Int):=by rfl
def FV(a:Nat)(j)(b:¬0<=j):Builtin.bitAnd (a:Int) j=((a-(a&&&(-j-1).j):Nat):Int):=by
 have e:(Builtin.bitNot j).j=(-j-1).j:=by unfold Builtin.bitNot;exact by with_reducible rfl
 unfold Builtin.bitAnd;rw[FB<|Ar a,IR b];show a-((a&&&(Builtin.bitNot j).j:Nat):Int)=_;rw[e];have:=@Ut a (-j-1).j;lia
def xn(a b:Nat):Builtin.bitOr (a:Int) (b:Int)=((a|||b:Nat):Int):=by
 have d:¬0<=Builtin.bitNot a:=by unfold Builtin.bitNot;lia
 have c:¬0<=Builtin.bitNot b:=by unfold Builtin.bitNot;lia
 have e1:(Builtin.bitNot<|Builtin.bitNot a).j=a:=by unfold Builtin.bitNot;lia
 have e2:(Builtin.bitNot<|Builtin.bitNot b).j=b:=by unfold Builtin.bitNot;lia
 unfold Builtin.bitOr Builtin.bitAnd;rw[IR d,IR c];show Builtin.bitNot (Builtin.bitNot _)=_;rw[e1,e2];unfold Builtin.bitNot;lia
def KS(h:M.Kl i j=y0 k):Builtin.bitAnd i j=k:=by
 unfold M.Kl at h;split at h
 .rename_i d;obtain⟨a,rfl⟩:=Ah9 d;split at h
  .rename_i c;obtain⟨b,rfl⟩:=Ah9 c;cases h;exact jd a b
  .rename_i c;cases h;exact FV a j c
 .cases h
def Nq(h:M.lY i j=y0 k):Builtin.bitOr i j=k:=by
 unfold M.lY at h;split at h
 .rename_i c;obtain⟨a,rfl⟩:=Ah9 c.1;obtain⟨b,rfl⟩:=Ah9 c.2;cases h;exact xn a b
 .cases h
def Nk:∀a b:Nat,(a|||b)=(a^^^b)+(a&&&b):=by
 intro a;induction a using Nat.strongRecOn with
|ind a c=>
  intro b;by_cases h:a=0
  .subst h;simp
  .have i:=c (a/2) Y6<|b/2;rw[←(@Nat.or_div_two_pow a b 1),←(@Nat.xor_div_two_pow a b 1),←(@Nat.and_div_two_pow a b 1)]at i;have e:(a|||b)%2=(a^^^b)%2+(a&&&b)%2:=by
    rw[(@Nat.or_mod_two_pow a b 1),(@Nat.xor_mod_two_pow a b 1),(@Nat.and_mod_two_pow a b 1)];rcases T6 a with u|u<;>rcases T6 b with v|v<;>rw[u,v]<;>rfl
   lia
def Mr(h:M.KG i j=y0 k):Builtin.bitXor i j=k:=by
 unfold M.KG at h;split at h
 .rename_i c;obtain⟨a,rfl⟩:=Ah9 c.1;obtain⟨b,rfl⟩:=Ah9 c.2;cases h;show Builtin.bitOr a b-Builtin.bitAnd a b=((a^^^b));rw[xn,jd,Nk];lia
 .cases h
noncomputable def oz:M.Op->Operator
|.add=>.Add|.sub=>.Sub|.mul=>.Mult|.fdiv=>.FloorDiv|.mod=>.Mod|.pow=>.Pow|.shl=>.LShift|.shr=>.RShift|.band=>.BitAnd|.bor=>.BitOr|.bxor=>.BitXor
def Ek(Y:Ge)(E:XK)(o:M.Op):R2:=λx y H Q=>∃G h a b,ah Y G h H/\ak Y G H a x/\ak Y G H b y/\aA Y E G H (M.GU o a b h) Q
def DQ(s t):aL s++aL t=aL (s++t):=by show Str.mk _=Str.mk _;simp[aL]
def Zg(s):(aL s).e=s.e:=by show s.w.j=s.e;simp
def SH(e:M.Gj o i j=y0 k)(I:Inv X pins U H s)(b:RelV (.p i) v)(a:RelV (.p j) u)(q:Q (.p k) H):
 wpAny (model X.u X.w) X.A (binaryOp (oz o) v u) (EP X pins U Q) X.xe s:=by
 cases o with
|add=>cases e;exact PQ pins s U H _ _ v u Q I b a ⟨i,j,rfl,rfl,q⟩
|sub=>cases e;exact P8 pins s U H _ _ v u Q I b a ⟨i,j,rfl,rfl,q⟩
|mul=>
  simp only[M.Gj,M.GZ,M.GE]at e;split at e
  .rename_i c;cases e;exact D2 pins s U H _ _ v u Q I b a ⟨i,j,rfl,rfl,c,q⟩
  .cases e
|fdiv=>
  simp only[M.Gj,M.GR,M.GE]at e;split at e
  .rename_i c;cases e;exact HA pins s U H _ _ v u Q I b a ⟨i,j,rfl,rfl,c,q⟩
  .cases e
|mod=>
  simp only[M.Gj,M.GE]at e;split at e
  .rename_i c;cases e;exact Ic pins s U H _ _ v u Q I b a ⟨i,j,rfl,rfl,c,q⟩
  .cases e
|pow=>
  simp only[M.Gj,M.Kj,M.GE]at e;split at e
  .rename_i c;cases e;exact K6 pins s U H _ _ v u Q I b a ⟨i,j,rfl,rfl,c,q⟩
  .cases e
|shl=>
  simp only[M.Gj,M.Kj,M.GE]at e;split at e
  .rename_i c;cases e;exact Ob pins s U H _ _ v u Q I b a ⟨i,j,rfl,rfl,c,q⟩
  .cases e
|shr=>
  simp only[M.Gj,M.GE]at e;split at e
  .rename_i c;cases e;exact PM pins s U H _ _ v u Q I b a ⟨i,j,rfl,rfl,c,q⟩
  .cases e
|band=>exact La pins s U H _ _ v u Q I b a ⟨i,j,rfl,rfl,by dsimp only;rw[KS e];exact q⟩
|bor=>exact Lf pins s U H _ _ v u Q I b a ⟨i,j,rfl,rfl,by dsimp only;rw[Nq e];exact q⟩
|bxor=>exact Ny pins s U H _ _ v u Q I b a ⟨i,j,rfl,rfl,by dsimp only;rw[Mr e];exact q⟩
theorem ak.int (z:ak Y G H w v)(e:w.int?=y0 i):v=.p i:=by
 cases w with
|v d=>
  cases d with
 |int j=>cases e;exact z
 |_=>cases e
|_=>cases e
theorem ak.str (z:ak Y G H w v)(e:w.eh=y0 i):v=.u (aL i):=by
 cases w with
|v d=>
  cases d with
 |str j=>cases e;exact z
 |_=>cases e
|_=>cases e
theorem ak.tup (z:ak Y G H w v)(e:w.f9=y0 xs):∃a vs,v=.j a/\f7 Y G H a vs/\aa Y G H xs vs:=by
 cases w with
|v d=>
  cases d with
 |tup j=>cases e;exact z
 |_=>cases e
|_=>cases e
set_option tactic.hygienic true in
def DW(o)  (w:X.K=Y.K):cn X (binaryOp<|oz o)<|Ek Y E o:=by
 rintro d s U H x y v u Q I n l ⟨G,h,P,O,f,t,r,p⟩;have N:=Jk;unfold M.GU at p;split at p
 .rename_i i j e1 e2;obtain⟨k,e,p⟩:=p.of;cases t.int e1;cases r.int e2;exact SH e I n l<|p.v f rfl
 .split at p
  .--add
    unfold M.KO at p;split at p
    .rename_i a b e1 e2;cases t.str e1;cases r.str e2;split at p
     .rename_i c;exact Hw d s U H _ _ v u Q I n l ⟨_,_,rfl,rfl,by rw[Zg,Zg];exact Ab4 ‹_› ‹_›,by rw[DQ];exact p.v f rfl⟩
     .exact p.j
    .split at p
     .rename_i J K e1 e2;obtain⟨a,m,rfl,q,g⟩:=t.tup e1;obtain⟨b,D,rfl,F,A⟩:=r.tup e2;split at p
      .rename_i c;have L:=g.e;have l2:=A.e;by_cases ex:m=[]
       .subst ex;have:J=[]:=Ak L;subst this;exact IC d s U H _ _ v u Q I n l ⟨a,b,D,rfl,rfl,w▸q.sq,w▸F.sq,p.v f ⟨b,D,rfl,F,A⟩⟩
       refine M8 d s U H _ _ v u Q I n l ⟨a,b,m,D,rfl,rfl,w▸q.sq,w▸F.sq,ex,by lia,λe=>?_,λe B C=>p.tup f (g.append A) B C⟩
       .subst e;have:K=[]:=Ak l2;subst this;rw[Af0]at p;exact p.v f ⟨a,m,rfl,q,g⟩
      .exact p.j
     .split at p
      .rename_i J K e1 e2;obtain⟨a,m,rfl,q,g⟩:=t.lst f e1;obtain⟨b,D,rfl,F,A⟩:=r.lst f e2;unfold M.KK at p;split at p
       .have L:=g.e;have l2:=A.e;exact Lz d s U H _ _ v u Q I n l ⟨a,b,m,D,rfl,rfl,w▸q,w▸F,by lia,λB C=>p.own f (g.append A) B C⟩
       .exact p.j
      .exact p.j
  .--mul
    unfold M.KN at p;split at p
    .rename_i z j e1 e2;cases t.str e1;cases r.int e2;split at p
     .rename_i c;rw[M.Gf]at c;refine D8 d s U H _ _ v u Q I n l ⟨_,j,rfl,rfl,c.1,c.2.1,by rw[Zg];exact c.2.2,?_⟩;have e:ku (aL z) j.j=aL (Aa7 j.j z).T:=by apply CI;rw[wL];rfl
      rw[e];exact p.v f rfl
     .exact p.j
    split at p
    .rename_i J j e1 e2;obtain⟨a,m,rfl,q,g⟩:=t.tT f e1;cases r.int e2;unfold M.KC at p;split at p
     .rename_i c;exact SK d s U H _ _ v u Q I n l ⟨a,j,m,rfl,rfl,q,by lia,by lia,by rw[←g.e];lia,λB C=>p.own f (g.rep j.j) B C⟩
     .exact p.j
    .exact p.j
  .exact p.j
noncomputable def gm:M.Cp->CmpOp
|.eq=>.Eq|.ne=>.NotEq|.lt=>.Lt|.le=>.LtE|.gt=>.Gt|.ge=>.GtE|.mem=>.In|.gu=>.NotIn|.dI=>.Is|.kX=>.IsNot
def kA(Y:Ge)(o:M.Cp):R2:=λx y H Q=>∃G h a c b,ah Y G h H/\ak Y G H a x/\ak Y G H c y/\M.Gp o a c h=y0 b/\Q (.I b) H
def DG(e:M.KH o i j=y0 b)(I:Inv X pins U H s)(c:RelV (.p i) v)(a:RelV (.p j) u)(q:Q (.I b) H):
 wpAny (model X.u X.w) X.A (compareOp (gm o) v u) (EP X pins U Q) X.xe s:=by
 cases o with
|lt=>cases e;exact Ec pins s U H _ _ v u Q I c a ⟨i,j,rfl,rfl,q⟩
|le=>cases e;exact Ng pins s U H _ _ v u Q I c a ⟨i,j,rfl,rfl,q⟩
|gt=>cases e;exact Ow pins s U H _ _ v u Q I c a ⟨i,j,rfl,rfl,q⟩
|ge=>cases e;exact LY pins s U H _ _ v u Q I c a ⟨i,j,rfl,rfl,q⟩
|_=>cases e
def vY(c:M.Kh d e=k9)(n:A.w+150<cLine)(i:RV s.j d u)(g:RV s.j e v):dP A s u v<|M.cD d e:=by
 obtain h|h:=Al4.u (Aj3.u c).2
 .exact ur 150 _ _ A u v (Ag<|Do h) n i g
 .unfold M.KM at h;split at h
  .obtain⟨l,b,rfl,f,k⟩:=i;obtain⟨a,m,rfl,p,q⟩:=g;exact J1 f p k q Y6 λj a c u v e1 e2=>by simp at e2
  .obtain⟨l,b,rfl,f,k⟩:=i;obtain⟨a,m,rfl,p,q⟩:=g;exact WS f p k q Y6 λj a c u v e1 e2=>by simp at e2
  .cases h
def IG(g:X.K=Y.K)(i:ba k X.A):cn X (compareOp .Eq)<|kA Y .eq:=by
 rintro d s U H x y v u Q I n l ⟨G,h,p,o,b,f,m,j,e,q⟩;simp only[M.Gp]at e;split at e
 .rename_i c;cases e;have a:=Aj3.u (Aj3.u c).1;exact(vY c (by have:=i.un;lia) (m.rv I g f n a.1)<|j.rv I g f l a.2).rc _ _ _ _ ⟨.I _,H,I,rfl,q⟩
 .cases e
def SD(g:X.K=Y.K)(i:ba k X.A):cn X (compareOp .NotEq)<|kA Y .ne:=by
 rintro d s U H x y v u Q I n l ⟨G,h,p,o,b,f,m,j,e,q⟩;simp only[M.Gp]at e;split at e
 .rename_i c;cases e;have a:=Aj3.u (Aj3.u c).1;exact(vY c (by have:=i.un;lia) (m.rv I g f n a.1)<|j.rv I g f l a.2).ne _ _ _ _ ⟨.I _,H,I,rfl,q⟩
 .cases e
end
def PE.imp (h:PE X e t)(k:∀U H Q,t' U H Q->t U H Q):PE X e t':=λa s U H Q I q=>h a s U H Q I<|k _ _ _ q
def PT.imp (h:PT X e t)(k:∀U H Q,t' U H Q->t U H Q):PT X e t':=λa s U H Q I q=>h a s U H Q I<|k _ _ _ q
def PA.imp (h:PA X e t)(k:∀U H Q,t' U H Q->t U H Q):PA X e t':=λb a s U H Q I q=>h b a s U H Q I<|k _ _ _ q
section
variable{X:Cx}{Y:Ge}{G:Gh}{H:Hp}{h:M.AH}{pins:List<|Addr×Obj}{U:St}{s:Shared}{Q:VK}{E:XK}
def bp.one (z:bp Y G H [w] vs):∃v,vs=[v]/\ak Y G H w v:=by obtain⟨v,r,rfl,a,b⟩:=z;cases(show r=[]from b);exact⟨v,rfl,a⟩
def bp.two (z:bp Y G H [w,w'] vs):∃v v',vs=[v,v']/\ak Y G H w v/\ak Y G H w' v':=by obtain⟨v,r,rfl,a,c⟩:=z;obtain⟨v',rfl,b⟩:=c.one;exact⟨v,v',rfl,a,b⟩
def tQ(Y:Ge)(E:XK)(b:M.Bi):List V->Hp->VK->Prop:=λxs H Q=>∃G h a,ah Y G h H/\bp Y G H a xs/\aA Y E G H (M.dY b a h) Q
def vG{K:Ab1}(h:bu K H a vs\/de K H a vs):bu K H a vs\/de K H a vs:=h
noncomputable def oW:M.Bi->Bool
|.len=>k9|.int=>k9|.list=>k9|.tuple=>k9|.divmod=>k9|.sum=>k9|.all=>k9|.any=>k9|.sorted=>k9
|_=>y9
noncomputable def rT:M.Bi->Value
|.len=>.u "len"|.int=>.w "int"|.list=>.w "list"|.tuple=>.w "tuple"|.sum=>.u "sum"|.all=>.u "all"|.any=>.u "any"
|.sorted=>.u "sorted"|.divmod=>.u "divmod"|.str=>.w "str"|.min=>.u "min"|.max=>.u "max"|.abs=>.u "abs"
def aA.of2 {f:α->β->M.AH->M.R M.W}(p:aA Y E G H ((M.R.of h o).u λa h=>(M.R.of h o').u λb h=>f a b h) Q):∃a b,o=y0 a/\o'=y0 b/\aA Y E G H (f a b h) Q:=by obtain⟨a,e,p⟩:=p.of;obtain⟨b,c,p⟩:=p.of;exact⟨a,b,e,c,p⟩
theorem tR:∀{xs}{vs}{bs},M.Kq xs=y0 bs->aa Y G H xs vs->vs=bs.j V.bl
|[],_,_,e,z=>by cases e;exact z
|x::xs,_,bs,e,z7=>by
  obtain⟨v,r,a,d,c⟩:=z7;subst a;cases x with
|bl b=>obtain⟨f,e1,rfl⟩:=Ah.u<|e;cases(d);rw[tR e1 c];rfl
|_=>cases e
theorem B8:∀{xs}{vs}{n},M.Km xs=y0 n->aa Y G H xs vs->∃ns:List Int,vs=ns.j V.int/\n=hX ns
|[],_,_,e,z=>by cases e;exact⟨[],z,rfl⟩
|x::xs,_,n,e,z7=>by
  obtain⟨v,r,b,f,d⟩:=z7;subst b;cases x with
|int i=>have e:=e;obtain⟨k,e1,rfl⟩:=Ah.u e;obtain⟨ns,a,c⟩:=B8 e1 d;cases(f);exact⟨i::ns,by rw[a];rfl,by rw[c];rfl⟩
|_=>cases e
theorem jB:∀{xs}{vs}{ns},M.GK xs=y0 ns->aa Y G H xs vs->vs=ns.j V.int
|[],_,_,e,z=>by cases e;exact z
|x::xs,_,ns,e,z7=>by
  obtain⟨v,r,a,d,c⟩:=z7;subst a;cases x with
|int b=>obtain⟨f,e1,rfl⟩:=Ah.u<|e;cases(d);rw[jB e1 c];rfl
|_=>cases e
theorem jW:∀{xs}{vs}{ns},M.GV xs=y0 ns->aa Y G H xs vs->vs=(ns.j aL).j V.str
|[],_,_,e,z=>by cases e;exact z
|x::xs,_,ns,e,z7=>by
  obtain⟨v,r,a,d,c⟩:=z7;subst a;cases x with
|str b=>obtain⟨f,e1,rfl⟩:=Ah.u<|e;cases(show v=.u (aL b)from d);rw[jW e1 c];rfl
|_=>cases e
theorem zV:∀(a:List M.Tx),aa Y G H (a.j .u)<|(a.j aL).j V.str
|[]=>rfl
|t::a=>⟨_,_,rfl,rfl,zV a⟩
theorem CB(x):∀{ys},ys.a2 (λa b=>¬b<a)->(M.Kd x ys).a2 (λa b=>¬b<a)
|[],_=>Uk _ _
|y::ys,h=>by
  have e:=Al9.u h;unfold M.Kd;split
  .rename_i q;refine Al9.w ⟨λz d=>?_,CB x e.2⟩;have:z=x\/z∈ys:=by
    have f:∀{x}{ys},z∈M.Kd x ys->z=x\/z∈ys:=by
     intro x ys;induction ys with
|nil=>intro h;simp[M.Kd]at h;exact .u h
|cons y ys g=>
      intro h;unfold M.Kd at h;split at h
      .rcases Ab5.u h with h|h
       .exact .w<|h▸Aa4
       .exact(g h).imp id<|Aa3 _
      .rcases Ab5.u h with h|h
       .exact .u h
       .exact .w h
    exact f d
   rcases this with rfl|d
   .exactλc=>List.lt_irrefl _<|List.lt_trans c q
   .exact e.1 z d
  .rename_i q;refine Al9.w ⟨λz d=>?_,h⟩;rcases Ab5.u d with rfl|d
   .exact q
   .exact Yc q<|e.1 z d
theorem BV:∀xs:List M.Tx,(M.GC xs).a2<|λa b=>¬b<a
|[]=>.nil
|x::xs=>CB x<|BV xs
theorem Zr(x):∀ys:List M.Tx,(M.Kd x ys).a4<|x::ys
|[]=>.refl _
|y::ys=>by
  unfold M.Kd;by_cases q:y<x
  .rw[Da q];exact((Zr x ys).cons y).j<|.swap x y ys
  .rw[FM q]
theorem zl:∀xs:List M.Tx,(M.GC xs).a4 xs
|[]=>.refl _
|x::xs=>(Zr x<|M.GC xs).j<|(zl xs).cons x
theorem AM:∀{l}{p},risingS p l=k9->(p::l).a2 (λa b=>¬b.j.u<a.j.u)
|[],p,_=>Uk _ _
|x::r,p,h=>by
  have h:(!ltCps x.j.u p.j.u&&risingS x r)=true:=h;rw[Aa2,ltCps_eq]at h;have e:=by simpa using h.1
  have d:=AM h.2;refine Al9.w ⟨λz c=>?_,d⟩;rcases Ab5.u c with rfl|c
  .exact e
  .exact Yc e<|(Al9.u d).1 z c
def Sg(s):aL s.j.u=s:=by cases s;simp[aL]
def RK(c:ss.a4<|ts.j aL)(f:sortedS ss=k9):ss=(M.GC ts).j aL:=by
 have g:=by
  have:=c.map<|λs=>s.j.u;rw[Ad9]at this;have e:((λs:Str=>s.j.u)∘aL)=id:=by funext t;simp[aL]
  rw[e,Yk]at this;exact this
 have d:(ss.j λs=>s.j.u).a2<|λa b=>¬b<a:=by
  rw[Vy];cases ss with
|nil=>exact .nil
|cons p l=>exact AM f
 rw[←(Ue (λa b _ _ x y=>List.le_antisymm x y) d (BV ts)<|g.j (zl ts).symm),Ad9];have e:(aL∘λs:Str=>s.j.u)=id:=by funext t;exact Sg t
 rw[e,Yk]
set_option tactic.hygienic true in
def SS(b)(C:oW b=k9)(A:X.K=Y.K)(K:b≠.len->X.calm=k9):zr X (rT b)<|tQ Y E b:=by
 rintro f s U H xs u Q I r ⟨G,h,ws,g,F,p⟩;have W:=Jk;unfold M.dY at p;split at p
 .rename_i w;obtain⟨v,rfl,z⟩:=F.one;cases b with
|len=>
   simp only[M.sF]at p;split at p
   .rename_i y e;cases z.str e;split at p
    .exact Z0 f s U H _ u Q I r ⟨_,rfl,by rw[Zg];exact Ab4 ‹_› ‹_›,by rw[Zg];exact p.v g rfl⟩
    .exact p.j
   .obtain⟨B,e,p⟩:=p.of;obtain⟨a,t,rfl,m,o⟩:=z.seq g e;refine J9 f s U H _ u Q I r ⟨a,t,rfl,A▸vG m,?_⟩;rw[←o.length];exact p.v g rfl
|int=>
   simp[M.sF]at p;split at p
   .cases(z);exact Q8 f s U H _ u Q I r<|.u ⟨_,rfl,p.v g rfl⟩
   .rename_i k;cases(z);refine Q8 f s U H _ u Q I r<|.w ⟨_,rfl,?_⟩;have:=p.v g rfl;cases k<;>exact this
   .exact p.j
|list=>obtain⟨B,e,p⟩:=p.of;obtain⟨a,t,rfl,m,o⟩:=z.seq g e;exact W5 f s U H _ u Q I r ⟨a,t,rfl,A▸vG m,λl x=>p.own g o l x⟩
|tuple=>
   obtain⟨B,e,D⟩:=p.of;clear p;cases w with
 |v d=>
    cases d with
    |tup J=>cases e;obtain⟨a,t,rfl,m,o⟩:=z;exact qh f s U H _ u Q I r ⟨a,t,rfl,.w ⟨A▸m.sq,D.v g ⟨a,t,rfl,m,o⟩⟩⟩
    |lst J=>obtain⟨a,t,rfl,m,o⟩:=ak.lst g z e;exact qh f s U H _ u Q I r ⟨a,t,rfl,.u ⟨A▸m,λl x=>D.tup g o l x⟩⟩
    |ref q=>obtain⟨a,t,rfl,m,o⟩:=ak.lst g z e;exact qh f s U H _ u Q I r ⟨a,t,rfl,.u ⟨A▸m,λl x=>D.tup g o l x⟩⟩
    |_=>cases e
 |own J=>obtain⟨a,t,rfl,m,o⟩:=ak.lst g z e;exact qh f s U H _ u Q I r ⟨a,t,rfl,.u ⟨A▸m,λl x=>D.tup g o l x⟩⟩
 |bor J=>obtain⟨a,t,rfl,m,o⟩:=ak.lst g z e;exact qh f s U H _ u Q I r ⟨a,t,rfl,.u ⟨A▸m,λl x=>D.tup g o l x⟩⟩
|divmod=>exact p.j
|sum=>
   obtain⟨n,e,p⟩:=p.of;obtain⟨B,e1,e2⟩:=Ag7.u e;split at e2;rotate_left
   .cases e2
   obtain⟨a,t,rfl,m,o⟩:=ak.lst g z e1;obtain⟨L,rfl,rfl⟩:=B8 e2 o;exact Fl (K Y5) f s U H _ u Q I r ⟨a,L,rfl,A▸m,p.v g rfl⟩
|all=>obtain⟨bs,e,p⟩:=p.of;obtain⟨B,e1,e2⟩:=Ag7.u e;obtain⟨a,t,rfl,m,o⟩:=ak.lst g z e1;cases tR e2 o;exact Io (K Y5) f s U H _ u Q I r ⟨a,bs,rfl,A▸m,p.v g rfl⟩
|any=>obtain⟨bs,e,p⟩:=p.of;obtain⟨B,e1,e2⟩:=Ag7.u e;obtain⟨a,t,rfl,m,o⟩:=ak.lst g z e1;cases tR e2 o;exact Mo (K Y5) f s U H _ u Q I r ⟨a,bs,rfl,A▸m,p.v g rfl⟩
|sorted=>
   obtain⟨O,e,p⟩:=p.of;obtain⟨B,e1,e2⟩:=Ag7.u e;obtain⟨a,t,rfl,m,o⟩:=ak.lst g z e1;cases jW e2 o;split at p
   .rename_i x;refine Q9 f s U H _ u Q I r ⟨a,O.j aL,rfl,A▸m,by rw[Aa];exact x,λR S T l x=>?_⟩;rw[RK S T];exact p.own g (zV _) l x
   .exact p.j
|_=>cases C
 .rename_i w Z;obtain⟨v,V,rfl,z,P⟩:=F.two;obtain⟨i,j,e,N,p⟩:=p.of2;cases z.int e;cases P.int N;cases b with
|divmod=>
   simp[M.yO,M.GR]at p;split at p
   .rename_i c;exact D0 f s U H _ u Q I r ⟨i,j,rfl,c,λl x=>p.tup g ⟨_,_,rfl,rfl,_,_,rfl,rfl,rfl⟩ l x⟩
   .exact p.j
|min=>cases C
|max=>cases C
|str=>cases C
|abs=>cases C
|_=>exact p.j
 .exact p.j
noncomputable def ea:M.Ty->String
|.au=>"NoneType"|.bool=>"bool"|.int=>"int"|.str=>"str"|.G=>"list"|.tuple=>"tuple"
def Zz(K):∀u t,t≠.au->Ap2 K (.w<|ea u) (.w<|ea t)=y0 (M.Ty.le u t):=by
 intro u t a;cases u<;>cases t<;>first|exact absurd rfl a|kernel_rfl
def SF(Y:Ge):List V->Hp->VK->Prop:=λxs H Q=>∃G h w x t b,xs=[x,.ty (ea t)]/\t≠.au/\ah Y G h H/\ak Y G H w x/\M.cC t w=y0 b/\Q (.I b) H
def Rm(E:X.K=Y.K):zr X (.u "isinstance")<|SF Y:=by
 rintro k s U H R S Q I r ⟨G,h,w,x,t,b,K,j,O,z,e,q⟩;subst K;obtain⟨u,P,rfl,g,F⟩:=mm r;cases F;have fin:∀D,EP X k U Q (.y b) {s with toks:=D}:=λD=>⟨.I b,H,I.tok D,rfl,q⟩;have lst:∀{a}{l},x=.j a->Rd H a (.x l)->M.Ty.le .G t=b->wpAny (model X.u X.w) X.A (call (.u "isinstance") [u,.w (ea t)]) (EP X k U Q) X.xe s:=by
  intro a l ex rd J;subst ex J;rcases rd with rd|⟨o,rd⟩
  .exact qj I g (.lst rd) (Zz _ .G t j) fin
  .exact qj I g (.eR rd) (Zz _ .G t j) fin
 cases w with
|v d=>
  cases d with
 |au=>cases e;cases(z);exact qj I g .au (Zz _ .au t j) fin
 |bl c=>cases e;cases(z);exact qj I g (.bl c) (Zz _ .bool t j) fin
 |int i=>cases e;cases(z);exact qj I g (.int i) (Zz _ .int t j) fin
 |str y=>cases e;cases(z);exact qj I g (.str _) (Zz _ .str t j) fin
 |tup B=>
   cases e;obtain⟨a,l,rfl,f,N⟩:=z;rcases f with⟨_,f⟩|⟨o,C,n,p,A,L,_⟩
   .exact qj I g (.tup f) (Zz _ .tuple t j) fin
   .cases g;exact Ag6 Ve I.bQ ⟨o,I.bQ a o<|E▸p,A⟩ (Zz _ .tuple t j) (λz=>nomatch z) fin
 |lst B=>
   cases e;obtain⟨a,l,m,f,N⟩:=z;rcases f with f|⟨o,C,n,p,A,L,_⟩
   .exact lst m f.2 rfl
   .subst m;cases g;exact Ag6 Aq6 I.bQ ⟨o,I.bQ a o<|E▸p,A⟩ (Zz _ .G t j) (λz=>nomatch z) fin
 |ref T=>cases e
 |err _ _ _=>cases e
|own B=>cases e;obtain⟨a,l,m,_,_,f,_⟩:=z;exact lst m (.u f) rfl
|bor B=>cases e;obtain⟨a,l,m,_,f,_⟩:=z;exact lst m f rfl
def oE(c:X.K=Y.K)(a:ah Y G h H)(z:ak Y G H w x)(e:M.GY h w=y0 b):l7 X.K x H b:=by
 cases w with
|v d=>
  cases d with
 |au=>cases e;cases(z);exact rfl
 |bl _=>cases e;cases(z);exact rfl
 |int _=>cases e;cases(z);exact rfl
 |_=>cases e
|_=>cases e
end
noncomputable abbrev Wd(x:String):Str:=Str.ofString x
example:("len":Str)=Wd "len":=rfl
structure rC where
 fl:List<|String×String
 mt:List<|String×String×String
 ft:List<|String×String
 ms:List String
 er:List<|String×String
structure Cg where
 fns:List String
 own:List String
 SX:List String
 f6:List String
 ob:rC
 cb:Bool
 qf:List String
open Lake renaming MS.Cg.own->Lake.MS.Cg.j,MS.Cg.fns->Lake.MS.Cg.w,MS.Cg.ob->Lake.MS.Cg.x
structure Cf extends Cg where
 sc:Scope
 N:List Str
open Lake renaming MS.Cf.sc->Lake.MS.Cf.u
noncomputable def Cg.q (g:Cg):Cg:=⟨g.qf,g.j,[],[],⟨g.x.fl,[],[],[],[]⟩,y9,[]⟩
noncomputable def Cg.z (g:Cg):Cg:=⟨[],g.j,[],[],⟨g.x.fl,[],[],[],[]⟩,y9,[]⟩
noncomputable def JO(sc:Scope)(x:Str):Bool:=match sc.j.u x with
|some .local=>k9
|some .u=>k9
|some .y=>k9
|_=>y9
noncomputable def mh(sc:Scope)(x:Str):Bool:=match sc.j.u x with
|some .globalImplicit=>k9
|_=>y9
noncomputable def iU(sc:Scope)(x:Str):Bool:=match sc.j.u x with
|some .local=>k9
|some .u=>k9
|_=>y9
noncomputable def bb(x:Str):Bool:=!(x==("__debug__":Str))&&!(x==("__classdict__":Str))
noncomputable def sC:M.Bi->String
|.len=>"len"|.int=>"int"|.list=>"list"|.tuple=>"tuple"|.sum=>"sum"|.all=>"all"|.any=>"any"|.sorted=>"sorted"|.divmod=>"divmod"|.str=>"str"|.min=>"min"|.max=>"max"|.abs=>"abs"
noncomputable def bS:List String:=["len","int","list","tuple","sum","all","any","sorted","divmod","str","min","max","abs","isinstance","bool","range","reversed","zip","enumerate","set","dict","ValueError"]
noncomputable def rS:Expr->Str->Bool
|.j y _,x=>y==x
|_,_=>y9
def bV(sc:Scope)(x:String)(e:Expr):Bool:=rS e (Wd x)&&mh sc (Wd x)&&bb (Wd x)
noncomputable def vT:M.Mt->String
|.index=>"index"|.count=>"count"|.bM=>"index"
noncomputable def XT:Expr->Bool
|.y _ [] _ _=>y9
|_=>k9
noncomputable def qC(cf:Cf):List Nat->List Expr->Bool
|[],[]=>k9
|i::is,.j x _::es=>u9 (cf.N[i]?=y0 x)&&iU cf.u x&&qC cf is es
|_,_=>y9
def mq(cf:Cf)(x:String)(e:Expr):Bool:=cf.cb&&bV cf.u x e
def sD(cf:Cf)(is:List Nat)(es:List Expr):Bool:=cf.cb&&qC cf is es
def Bj(cf:Cf)(b:M.Bi)(e:Expr):Bool:=(cf.cb||u9 (b=.len))&&bV cf.u (sC b) e
def qd(cf:Cf)(a:List Nat)(one:Bool)(e:Expr):Bool:=match one,e with
|true,.j x p=>(match a with|[_]=>k9|_=>y9)&&qC cf a [.j x p]
|false,.G es _ _=>sD cf a es
|_,_=>y9
noncomputable def jb:Expr->Bool
|.Starred ..=>y9
|_=>k9
noncomputable def zd:Expr->Bool
|.Slice ..=>y9
|_=>k9
def Xh:Expr->Bool
|.Set ..=>y9
|_=>k9
noncomputable def XM(cf:Cf):List Nat->List Str->Bool
|[],[]=>k9
|j::js,x::xs=>u9 (cf.N[j]?=y0 x)&&u9 (cf.u.j.u x=y0 .u\/cf.u.j.u x=y0 .y)&&XM cf js xs
|_,_=>y9
def jU(cf:Cf)(a:Scope)(N:List Str)(k:Nat)(ax:List Nat):Bool:=
 cf.cb&&u9 (a.u=.j)&&u9 (a.j.j Prod.fst).M&&a.j.N (λy=>u9<|y.2=.local->a.j.u y.1=y0 .local)&&
 a.j.N (λy=>u9<|y.2=.y->cf.u.j.u y.1=y0 .u\/cf.u.j.u y.1=y0 .y)&&(N.G k).N (λx=>u9<|a.j.u x=y0 .y)&&
 XM cf ax (N.G k)&&u9 (k<=N.e)&&decide N.M&&decide ax.M
noncomputable def E4:Expr->List Str
|.j x _=>[x]
|.G es _ _=>es.B λ|.j x _=>y0 x|_=>u0
|_=>[]
def Jl(cf:Cf)(t:Expr)(ax:List Nat):List Str:=E4 t++ax.B λj=>cf.N[j]?
noncomputable def gg:M.E->Bool
|.a5 _=>y9
|.not a=>gg a
|.and a b=>gg a&&gg b
|.or a b=>gg a&&gg b
|_=>k9
noncomputable def ot(neg:Bool):CmpOp:=if neg then .NotIn else .In
def bB{P:Prop}(h:y9=k9):P:=nomatch h
set_option backward.match.sparseCases false
noncomputable def lC{a:Type}(l:List a)(f:a->List a->Bool):Bool:=match l with
|x::r=>f x r
|_=>y9
noncomputable def oS{a:Type}(l:Option a)(f:a->Bool):Bool:=match l with
|some x=>f x
|_=>y9
@[elab_as_elim]theorem kC{P:List α->Prop}(k:∀x r,f x r=k9->P (x::r)):∀l,lC l f=k9->P l:=by rintro(_|_)<;>first|exact bB|exact k _ _
@[elab_as_elim]theorem kS{P:Option α->Prop}(k:∀x,f x=k9->P (y0 x)):∀l,oS l f=k9->P l:=by rintro(_|_)<;>first|exact bB|exact k _
noncomputable def jp(e:Expr)(f:Str->Bool):Bool:=match e with
|.j x _=>f x
|_=>y9
@[elab_as_elim]theorem jo{P:Expr->Prop}(k:∀x p,f x=k9->P (.j x p)):∀e,jp e f=k9->P e:=by rintro(_|_)<;>first|exact bB|exact k _ _
noncomputable def jA(e:Expr)(f:Const->Bool):Bool:=match e with
|.x x _ _=>f x
|_=>y9
@[elab_as_elim]theorem xG{P:Expr->Prop}(k:∀x n p,f x=k9->P (.x x n p)):∀e,jA e f=k9->P e:=by rintro(_|_)<;>first|exact bB|exact k _ _ _
noncomputable def n8(e:Expr)(f:List Expr->Bool):Bool:=match e with
|.G x _ _=>f x
|_=>y9
@[elab_as_elim]theorem so{P:Expr->Prop}(k:∀x n p,f x=k9->P (.G x n p)):∀e,n8 e f=k9->P e:=by rintro(_|_)<;>first|exact bB|exact k _ _ _
noncomputable def uU(e:Expr)(f:List Expr->Bool):Bool:=match e with
|.List x _=>f x
|_=>y9
@[elab_as_elim]theorem HR{P:Expr->Prop}(k:∀x p,f x=k9->P (.List x p)):∀e,uU e f=k9->P e:=by rintro(_|_)<;>first|exact bB|exact k _ _
noncomputable def Dn(e:Expr)(f:Expr->Operator->Expr->Bool):Bool:=match e with
|.BinOp x o y _=>f x o y
|_=>y9
@[elab_as_elim]theorem Mi{P:Expr->Prop}(k:∀x o y p,f x o y=k9->P (.BinOp x o y p)):∀e,Dn e f=k9->P e:=by rintro(_|_)<;>first|exact bB|exact k _ _ _ _
noncomputable def nK(e:Expr)(f:Expr->List CmpOp->List Expr->Bool):Bool:=match e with
|.C x o y _=>f x o y
|_=>y9
@[elab_as_elim]theorem o4{P:Expr->Prop}(k:∀x o y p,f x o y=k9->P (.C x o y p)):∀e,nK e f=k9->P e:=by rintro(_|_)<;>first|exact bB|exact k _ _ _ _
noncomputable def oq(e:Expr)(f:UnaryOp->Expr->Bool):Bool:=match e with
|.I o x _=>f o x
|_=>y9
@[elab_as_elim]theorem tU{P:Expr->Prop}(k:∀o x p,f o x=k9->P (.I o x p)):∀e,oq e f=k9->P e:=by rintro(_|_)<;>first|exact bB|exact k _ _ _
noncomputable def ra(e:Expr)(f:BoolOp->List Expr->Pos->Bool):Bool:=match e with
|.B o x p=>f o x p
|_=>y9
@[elab_as_elim]theorem Dy{P:Expr->Prop}(k:∀o x p,f o x p=k9->P (.B o x p)):∀e,ra e f=k9->P e:=by rintro(_|_)<;>first|exact bB|exact k _ _ _
noncomputable def qk(e:Expr)(f:Expr->List Expr->List Keyword->Pos->Bool):Bool:=match e with
|.y g x l p=>f g x l p
|_=>y9
@[elab_as_elim]theorem zk{P:Expr->Prop}(k:∀g x l p,f g x l p=k9->P (.y g x l p)):∀e,qk e f=k9->P e:=by rintro(_|_)<;>first|exact bB|exact k _ _ _ _
noncomputable def gE(e:Expr)(f:Expr->Expr->Bool):Bool:=match e with
|.w x y _=>f x y
|_=>y9
@[elab_as_elim]theorem hA{P:Expr->Prop}(k:∀x y p,f x y=k9->P (.w x y p)):∀e,gE e f=k9->P e:=by rintro(_|_)<;>first|exact bB|exact k _ _ _
noncomputable def o8(e:Expr)(f:Option Expr->Option Expr->Option Expr->Bool):Bool:=match e with
|.Slice x y z _=>f x y z
|_=>y9
@[elab_as_elim]theorem tV{P:Expr->Prop}(k:∀x y z p,f x y z=k9->P (.Slice x y z p)):∀e,o8 e f=k9->P e:=by rintro(_|_)<;>first|exact bB|exact k _ _ _ _
noncomputable def sL(e:Expr)(f:Expr->List Comprehension->Scope->Bool):Bool:=match e with
|.A y g s _=>f y g s
|_=>y9
@[elab_as_elim]theorem n9{P:Expr->Prop}(k:∀y g s p,f y g s=k9->P (.A y g s p)):∀e,sL e f=k9->P e:=by rintro(_|_)<;>first|exact bB|exact k _ _ _ _
noncomputable def WH(e:Expr)(f:Expr->Str->Pos->Bool):Bool:=match e with
|.u x n p=>f x n p
|_=>y9
@[elab_as_elim]theorem xN{P:Expr->Prop}(k:∀x n p,f x n p=k9->P (.u x n p)):∀e,WH e f=k9->P e:=by rintro(_|_)<;>first|exact bB|exact k _ _ _
noncomputable def pQ(e:Expr)(f:List (Option Expr)->List Expr->Bool):Bool:=match e with
|.Dict x y _=>f x y
|_=>y9
@[elab_as_elim]theorem vE{P:Expr->Prop}(k:∀x y p,f x y=k9->P (.Dict x y p)):∀e,pQ e f=k9->P e:=by rintro(_|_)<;>first|exact bB|exact k _ _ _
noncomputable def gs(e:Stmt)(f:List Expr->Expr->Bool):Bool:=match e with
|.j t v _=>f t v
|_=>y9
@[elab_as_elim]theorem gY{P:Stmt->Prop}(k:∀t v p,f t v=k9->P (.j t v p)):∀e,gs e f=k9->P e:=by rintro(_|_)<;>first|exact bB|exact k _ _ _
noncomputable def mU(e:Stmt)(f:Expr->Bool):Bool:=match e with
|.Expr v _=>f v
|_=>y9
@[elab_as_elim]theorem ou{P:Stmt->Prop}(k:∀v p,f v=k9->P (.Expr v p)):∀e,mU e f=k9->P e:=by rintro(_|_)<;>first|exact bB|exact k _ _
noncomputable def yx(e:Stmt)(f:Option Expr->Bool):Bool:=match e with
|.Return v _=>f v
|_=>y9
@[elab_as_elim]theorem Ri{P:Stmt->Prop}(k:∀v p,f v=k9->P (.Return v p)):∀e,yx e f=k9->P e:=by rintro(_|_)<;>first|exact bB|exact k _ _
noncomputable def vp(e:Stmt)(f:Expr->List Stmt->List Stmt->Bool):Bool:=match e with
|.If x y z _=>f x y z
|_=>y9
@[elab_as_elim]theorem K5{P:Stmt->Prop}(k:∀x y z p,f x y z=k9->P (.If x y z p)):∀e,vp e f=k9->P e:=by rintro(_|_)<;>first|exact bB|exact k _ _ _ _
noncomputable def vS(e:Stmt)(f:Expr->List Stmt->List Stmt->Bool):Bool:=match e with
|.While x y z _=>f x y z
|_=>y9
@[elab_as_elim]theorem EC{P:Stmt->Prop}(k:∀x y z p,f x y z=k9->P (.While x y z p)):∀e,vS e f=k9->P e:=by rintro(_|_)<;>first|exact bB|exact k _ _ _ _
noncomputable def Bl(e:Stmt)(f:Expr->Expr->List Stmt->List Stmt->Bool):Bool:=match e with
|.For t i y z _=>f t i y z
|_=>y9
@[elab_as_elim]theorem M3{P:Stmt->Prop}(k:∀t i y z p,f t i y z=k9->P (.For t i y z p)):∀e,Bl e f=k9->P e:=by rintro(_|_)<;>first|exact bB|exact k _ _ _ _ _
noncomputable def vF(e:Stmt)(f:Option Expr->Option Expr->Bool):Bool:=match e with
|.Raise x y _=>f x y
|_=>y9
@[elab_as_elim]theorem E2{P:Stmt->Prop}(k:∀x y p,f x y=k9->P (.Raise x y p)):∀e,vF e f=k9->P e:=by rintro(_|_)<;>first|exact bB|exact k _ _ _
set_option backward.match.sparseCases true
def vB(cf:Cf)(i:Nat)(x:Str):Bool:=u9 (cf.N[i]?=y0 x)&&JO cf.u x&&bb x
noncomputable def kZ{a:Type}(l:List a)(b:Bool):Bool:=l.U&&b
noncomputable def yw(e:Stmt)(f:List Stmt->List ExceptHandler->Bool):Bool:=match e with
|.Try a b c d _=>kZ c<|kZ d<|f a b
|_=>y9
noncomputable def Bu(e:ExceptHandler)(f:Option Expr->Option Str->List Stmt->Bool):Bool:=match e with
|.ExceptHandler a b c _=>f a b c
def ky(t:M.Tx)(e:Option Expr):Bool:=oS e λe=>jA e λc=>u9<|c=.u (aL t)
def rW(h:ky t e=k9):∃j p,e=y0 (.x (.u<|aL t) j p):=by refine kS (λe h=>xG (λc n p h=>?_) e h) e h;cases Do h;exact⟨_,_,rfl⟩
mutual
noncomputable def wc(cf:Cf):M.E->Expr->Bool
|.var i,e=>jp e<|vB cf i
|.con c,e=>bV cf.u c e
|.int i,e=>jA e λj=>u9<|j=.int i
|.bl i,e=>jA e λj=>u9<|j=.bool i
|.au,e=>jA e λj=>u9<|j=.none
|.str i,e=>jA e λj=>u9<|j=.u (aL i)
|.tup es,e=>n8 e λxs=>u9 (xs.e<=1000)&&bC cf es xs
|.lst es,e=>uU e λxs=>u9 (xs.e<=1000)&&bC cf es xs
|.bin o a b,e=>Dn e λx p y=>u9 (p=oz o)&&wc cf a x&&wc cf b y
|.cmp o a b,e=>nK e λx p y=>lC y λy r=>u9 (p=[gm o]/\r=[])&&Xh y&&wc cf a x&&wc cf b y
|.a4 o q a b c,e=>nK e λx p y=>lC y λy r=>lC r λz r=>u9 (p=[gm o,gm q]/\r=[])&&Xh z&&wc cf a x&&wc cf b y&&wc cf c z
|.fR neg a,e=>nK e λx p y=>lC y λy r=>jA y λj=>u9 (p=[if neg then .IsNot else .Is]/\r=[])&&u9 (j=.none)&&wc cf a x
|.neg a,e=>oq e λo x=>u9 (o=.USub)&&wc cf a x
|.inv a,e=>oq e λo x=>u9 (o=.Invert)&&wc cf a x
|.not a,e=>oq e λo x=>u9 (o=.Not)&&wc cf a x
|.and a b,e=>ra e λo x p=>lC x λx r=>lC r λy r=>u9 (o=.And)&&wc cf a x&&bif r.U then wc cf b y else wc cf b<|.B .And (y::r) p
|.or a b,e=>ra e λo x p=>lC x λx r=>lC r λy r=>u9 (o=.Or)&&wc cf a x&&bif r.U then wc cf b y else wc cf b<|.B .Or (y::r) p
|.call f es,e=>qk e λg xs l _=>kZ l<|lC xs λx r=>bV cf.u f g&&cf.w.x f&&bC cf es (x::r)
|.bi b es,e=>qk e λg xs l _=>kZ l<|lC xs λx r=>Bj cf b g&&oW b&&bC cf es (x::r)
|.cC a t,e=>qk e λg xs l _=>kZ l<|lC xs λx r=>lC r λy r=>kZ r<|bV cf.u "isinstance" g&&bV cf.u (ea t) y&&decide (t≠.au)&&jb x&&wc cf a x
|.bW a one ts,e=>qk e fun g xs l _=>kZ l<|lC xs fun x r=>lC r fun y r=>kZ r<|bV cf.u "isinstance" g&&jb x&&wc cf a x&&(one&&lC ts fun t r=>kZ r<|bV cf.u t y&&(decide (t="ValueError")||cf.j.x t))
|.ix a b,e=>gE e λx y=>zd y&&wc cf a x&&wc cf b y
|.sl a lo hi,e=>gE e λx y=>o8 y λl u z=>oS l λl=>oS u λu=>z.x&&wc cf a x&&wc cf lo l&&wc cf hi u
|.eV a lo,e=>gE e λx y=>o8 y λl u z=>oS l λl=>u.x&&z.x&&wc cf a x&&wc cf lo l
|.eG a hi,e=>gE e λx y=>o8 y λl u z=>oS u λu=>l.x&&z.x&&wc cf a x&&wc cf hi u
|.eA a,e=>qk e λg xs l _=>kZ l<|lC xs λx r=>lC r λy r=>kZ r<|bV cf.u "isinstance" g&&bV cf.u "list" y&&jb x&&wc cf a x
|.M tg one k ax it k6 c elt,e=>sL e λy g scope=>lC g λg r=>
  u9 (g.is_async=0/\r=[])&&jU cf scope (Jl cf g.j ax) k ax&&tg.N (λi=>u9<|i<k)&&qd {cf with sc:=scope,N:=Jl cf g.j ax} tg one g.j&&eI cf it g.iter&&wc {cf with sc:=scope,N:=Jl cf g.j ax} elt y&&
   bif k6 then(lC g.ifs λz r=>kZ r<|gg c&&wc {cf with sc:=scope,N:=Jl cf g.j ax} c z)else g.ifs.U
|.bD tg one k ax i k6 c elt,e=>sL e λy g scope=>lC g λg r=>jp g.iter λx=>
  u9 (g.is_async=0/\r=[])&&jU cf scope (Jl cf g.j ax) k ax&&tg.N (λi=>u9<|i<k)&&qd {cf with sc:=scope,N:=Jl cf g.j ax} tg one g.j&&vB cf i x&&wc {cf with sc:=scope,N:=Jl cf g.j ax} elt y&&
   bif k6 then(lC g.ifs λz r=>kZ r<|gg c&&wc {cf with sc:=scope,N:=Jl cf g.j ax} c z)else g.ifs.U
|.dG,e=>pQ e λx y=>x.U&&y.U
|.fB i a,e=>gE e λg y=>jp g λx=>vB cf i x&&zd y&&wc cf a y
|.c7 neg a i,e=>nK e λx p y=>lC y λy r=>jp y λy=>u9 (p=[ot neg]/\r=[])&&vB cf i y&&wc cf a x
|.gJ k1 a k2 b k3 c i,e=>gE e λd y=>pQ d λks vs=>jp y λx=>lC ks λq1 ks=>lC ks λq2 ks=>lC ks λq3 ks=>kZ ks<|lC vs λv1 vs=>lC vs λv2 vs=>lC vs λv3 vs=>kZ vs<|(vB cf i x&&ky k1 q1&&ky k2 q2&&ky k3 q3)&&(decide [k1,k2,k3].M&&wc cf a v1&&wc cf b v2&&wc cf c v3)
|.eY i,e=>qk e λg xs l _=>kZ l<|lC xs λx r=>kZ r<|bV cf.u "dict" g&&jp x (vB cf i)
|.a5 a,e=>wc cf a e
|.cH a,e=>qk e λg xs l _=>kZ l<|lC xs λx r=>kZ r<|qk x λg2 xs l _=>kZ l<|lC xs λx r=>kZ r<|mq cf "list" g&&bV cf.u "range" g2&&jb x&&wc cf a x
|.dH s ts,e=>qk e λg xs l q=>kZ l<|lC xs λx r=>kZ r<|WH g λo n p=>jA o λc=>jA x λc2=>decide (n=Wd "split")&&decide (c=.u (aL s))&&decide (c2=.u b5)&&(p.j==q.u)&&om (aL s) (ts.j aL)
|.sset a,e=>qk e λg xs l _=>kZ l<|lC xs λx r=>kZ r<|qk x λg2 xs l _=>kZ l<|lC xs λx r=>kZ r<|mq cf "sorted" g&&bV cf.u "set" g2&&jb x&&wc cf a x
|.dN m a es,e=>qk e λg xs l q=>kZ l<|lC xs λx r=>kZ r<|WH g λo n p=>u9 (n=Wd (vT m))&&(p.j==q.u)&&XT o&&wc cf a o&&bC cf es [x]
|.xf i f,e=>WH e λx n _=>jp x λx=>vB cf i x&&u9 (n=Wd f)
|.make c q es,e=>qk e λg ys l _=>kZ l<|lC ys λx r=>bV cf.u c g&&cf.x.ft.x (c,q)&&bC cf es (x::r)
|.aJ a c f,e=>WH e λx n _=>u9 (n=Wd f)&&cf.x.fl.x (c,f)&&XT x&&wc cf a x
|.bO a c m q es,e=>qk e λg ys l s=>kZ l<|WH g λx n p=>lC ys λy r=>u9 (n=Wd m)&&cf.x.mt.x (c,m,q)&&(p.j==s.u)&&u9 ((y::r).e<=20)&&XT x&&wc cf a x&&bC cf es (y::r)
|.fL a,e=>qk e λg ys l s=>kZ l<|kZ ys<|WH g λx n p=>u9 (n=Wd "bit_length")&&(p.j==s.u)&&XT x&&wc cf a x
|.fM f a,e=>qk e λg ys l _=>lC ys λx r=>kZ r<|lC l λw r=>kZ r<|u9 (w.arg=y0 (Wd "key"))&&bV cf.u f w.value&&cf.w.x f&&mq cf "min" g&&jb x&&wc cf a x
noncomputable def bC(cf:Cf):M.Es->List Expr->Bool
|.u,xs=>xs.U
|.j e es,xs=>lC xs λx xs=>jb x&&wc cf e x&&bC cf es xs
noncomputable def eI(cf:Cf):M.It->Expr->Bool
|.j a,e=>Xh e&&wc cf a e
|.ar a,e=>qk e λg xs l _=>kZ l<|lC xs λx r=>kZ r<|bV cf.u "range" g&&jb x&&wc cf a x
|.enum _,_=>y9
|.cO _,_=>y9
end
noncomputable def xE:Expr->Bool
|.A ..=>y9
|.SetComp ..=>y9
|.DictComp ..=>y9
|_=>k9
noncomputable def notTuple:Expr->Bool
|.G ..=>y9
|_=>k9
noncomputable def q9(cf:Cf)(i:Nat)(x:Str):Bool:=u9 (cf.N[i]?=y0 x)&&u9 (cf.u.j.u x=y0 .local)
def WE(cf:Cf)(i:Nat)(x:Str):Bool:=u9 (cf.N[i]?=y0 x)&&iU cf.u x
def X6(cf:Cf)(i:Nat)(m:Str)(e:Expr)(a:Pos):Bool:=WH e λx n p=>jp x λx=>vB cf i x&&u9 (n=m)&&(p.j==a.u)
def px(cf:Cf):M.It->Expr->Bool
|.j a,e=>Xh e&&wc cf a e
|.ar a,e=>eI cf (.ar a) e
|.cO a,e=>qk e λg xs l _=>kZ l<|lC xs λx r=>kZ r<|bV cf.u "enumerate" g&&jb x&&wc cf a x
|.enum _,_=>y9
def pF:M.It->Expr->Bool
|.enum _,e=>!notTuple e
|.cO _,e=>!notTuple e
|_,_=>k9
noncomputable def LO:Expr->Bool
|.j _ _=>k9
|.w _ _ _=>k9
|_=>y9
noncomputable def A3(cf:Cf)(i:Nat)(f:String)(c:List Stmt)(q:List Expr->Bool):Bool:=lC c λs r=>kZ r<|gs s λb e=>lC b λt r=>kZ r<|jp t λa=>qk e λg xs l _=>kZ l<|lC xs λx r=>q9 cf i a&&bV cf.u f g&&cf.w.x f&&q (x::r)
def rP(cf:Cf):M.Tb->List Stmt->Bool
|.sv i f es,ys=>A3 cf i f ys<|λxs=>bC cf es xs
def yk(cf:Cf)(c:String)(nm:Nat)(a:List ExceptHandler)(q:List Stmt->Bool):Bool:=lC a λx r=>kZ r<|Bu x λw n b=>oS w λw=>oS n λn=>bV cf.u c w&&cf.f6.x c&&q9 cf nm n&&!b.U&&q b
mutual
noncomputable def Bk(cf:Cf):M.S->Stmt->Bool
|.set i e,st=>gs st λts v=>lC ts λt r=>jp t λx=>kZ r<|WE cf i x&&wc cf e v
|.af i e,st=>gs st λts v=>lC ts λt r=>jp t λx=>kZ r<|WE cf i x&&wc cf e v
|.ek is e,st=>gs st λts v=>lC ts λt r=>n8 t λts=>kZ r<|sD cf is ts&&notTuple v&&wc cf e v
|.gC o kx j e,st=>gs st λts v=>lC ts λt r=>kZ r<|n8 t λts=>lC ts λt1 r=>lC r λt2 r=>kZ r<|gE t1 λx y=>jp t2 λa=>zd y&&notTuple v&&(cf.cb&&WE cf j a)&&wc cf o x&&(wc cf kx y&&wc cf e v)
|.b7 o kx e,st=>gs st λts v=>lC ts λt r=>gE t λx y=>kZ r<|zd y&&notTuple v&&xE v&&wc cf o x&&wc cf kx y&&wc cf e v
|.app i e,st=>mU st λc=>qk c λf xs l p=>kZ l<|lC xs λv r=>kZ r<|X6 cf i "append" f p&&jb v&&wc cf e v
|.ext i e,st=>mU st λc=>qk c λf xs l p=>kZ l<|lC xs λv r=>kZ r<|X6 cf i "extend" f p&&jb v&&wc cf e v
|.bY i c f e,st=>gs st λts v=>lC ts λt r=>WH t λx n _=>jp x λx=>kZ r<|vB cf i x&&(u9 (n=Wd f)&&cf.x.fl.x (c,f)&&wc cf e v)
|.eJ i kx e,st=>gs st λts v=>lC ts λt r=>gE t λx y=>jp x λx=>kZ r<|vB cf i x&&zd y&&wc cf kx y&&wc cf e v
|.cB i kx e,st=>gs st λts v=>lC ts λt r=>gE t λx y=>jp x λx=>kZ r<|vB cf i x&&zd y&&wc cf kx y&&wc cf e v
|.fq a e,st=>mU st λc=>qk c λf xs l p=>kZ l<|lC xs λv r=>kZ r<|WH f λx n q=>u9 (n="append")&&(q.j==p.u)&&jb v&&wc cf a x&&(wc cf e v&&LO x)
|.ex e,st=>mU st λv=>xE v&&wc cf e v
|.ret e,st=>yx st λv=>oS v λv=>wc cf e v
|.iff c a b,st=>vp st λx ys zs=>gg c&&wc cf c x&&cP cf a ys&&cP cf b zs
|.kl _ c b,st=>vS st λx ys zs=>kZ zs<|gg c&&wc cf c x&&cP cf b ys
|.for tg one it b,st=>Bl st λt iter ys zs=>kZ zs<|(cf.cb&&pF it t)&&qd cf tg one t&&px cf it iter&&cP cf b ys
|.eM c f e,st=>vF st λa b=>oS a λa=>qk a λg xs l _=>kZ l<|lC xs λx r=>kZ r<|b.x&&bV cf.u c g&&(cf.cb&&cf.x.er.x (c,f))&&bC cf (.j e .u) [x]
|.gO b c nm hb,st=>yw st λy hs=>rP cf b y&&yk cf c nm hs (λz=>cP {cf with toCg:=cf.toCg.q} hb z)
|.bP i c f e,st=>gs st λts v=>lC ts λt r=>WH t λx n _=>jp x λx=>kZ r<|vB cf i x&&u9 (n=Wd f)&&cf.x.fl.x (c,f)&&wc cf e v
|.fg,_=>k9
noncomputable def cP(cf:Cf):M.Ss->List Stmt->Bool
|.nil,sts=>sts.U
|.cons s ss,sts=>lC sts λst sts=>Bk cf s st&&cP cf ss sts
end
structure AQ(X:Cx)(k:Nat)(x:Str)(ps:List Str)(sp:Sp):Prop where
 ex:∃f fd,bx X.u X.w X.K X.mg X.base (cJ X.u X.w) k f fd ps sp/\Binds X.K fd ps []/\Ak8 X.K (.j f)=k9/\X.mg x=y0 (.j f)
noncomputable def oU:M.W->Bool
|.j _=>y9
|_=>k9
def gj(Y:Ge)(m:List M.W->M.AH->M.R M.W):Sp:=λvs H Q E=>∃G h a,ah Y G h H/\bp Y G H a vs/\(∀w∈a,oU w=k9)/\aA Y E G H (m a h) Q
structure Go(Y:Ge)(F:M.Fx)(X:Cx)(E:XK)(k:Nat)(cf:Cf):Prop where
 N:X.N=cf.N
 K:X.K=Y.K
 cl:F.cl=Y.cl
 ow:cf.j=Y.own
 nd:cf.N.M
 gP:∀x,JO cf.u x=k9->nB X.j.j x
 lx:∀x,cf.u.j.u x=y0 .local->X.j.j.j.u x=y0 .local
 gz:∀x,iU cf.u x=k9->lT X.j.j x/\(X.fn x=k9\/X.j.j.j.u x=y0 .local)
 kK:∀x,(cf.u.j.u x=y0 .u\/cf.u.j.u x=y0 .y)->X.j.x x=y0 .u\/X.j.x x=y0 .y
 gl:∀x,mh cf.u x=k9->Gl X x
 calm:cf.cb=k9->X.calm=k9
 room:ba k X.A
 cq:ba (k+1) X.A
 pass:QN (cJ X.u X.w) X E
 blt:∀x,x∈bS->X.mg (Wd x)=u0
 con:∀x d,F.con.u x=y0 d->∃u v,X.mg (Wd x)=y0 u/\RelV v u/\∀G H,aD Y G H d v
 fn:∀f,cf.w.x f=k9->∃ps,AQ X k (Wd f) ps (gj Y<|F.j f)
 mw:∀f,cf.qf.x f=k9->∃ps,AQ X 2 (Wd f) ps (gj Y<|F.j f)
 cls:∀c,cf.j.x c=k9->X.mg (Wd c)=y0 (.j<|Y.j c)
 fld:∀c f,cf.x.fl.x (c,f)=k9->dy X.K (Y.j c)/\cu X.K (Y.j c) (Wd f)
 iW:∀c m q,cf.x.mt.x (c,m,q)=k9->dy X.K (Y.j c)/\∃fa fd ps,oV X.K (Y.j c) (Wd m) fa/\bx X.u X.w X.K X.mg X.base (cJ X.u X.w) k fa fd ps (gj Y<|F.j q)/\Binds X.K fd ps []
 ft:∀c q,cf.x.ft.x (c,q)=k9->X.mg (Wd c)=y0 (.j<|Y.j c)/\∃fa fd ps,Mk X.K (Y.j c) fa/\bx X.u X.w X.K X.mg X.base (cJ X.u X.w) k fa fd ps (gj Y<|F.j q)/\Binds X.K fd ps []
open Lake renaming MS.Go.calm->Lake.MS.Go.y,MS.Go.blt->Lake.MS.Go.u
@[elab_as_elim]theorem kE{P:List α->Prop}(k:b=k9->P []):∀l,kZ l b=k9->P l:=by rintro(_|_)<;>first|exact bB|exact k
@[elab_as_elim]theorem OF{P:Stmt->Prop}(k:∀a b p,f a b=k9->P (.Try a b [] [] p)):∀e,yw e f=k9->P e:=by
 rintro(_|_)<;>first|exact bB|exactλh=>kE (λh=>kE (λh=>k _ _ _ h) _ h) _ h
@[elab_as_elim]theorem Nu{P:ExceptHandler->Prop}(k:∀a b c p,f a b c=k9->P (.ExceptHandler a b c p)):∀e,Bu e f=k9->P e
|.ExceptHandler _ _ _ _,h=>k _ _ _ _ h
def a2(h:(a&&b)=k9):a=k9/\b=true:=Aj3.u h
def a3(h:(a&&b&&c)=k9):a=k9/\b=k9/\c=true:=⟨(a2 (a2 h).1).1,(a2 (a2 h).1).2,(a2 h).2⟩
def a4(h:(a&&b&&c&&d)=k9):a=k9/\b=k9/\c=k9/\d=true:=⟨(a3 (a2 h).1).1,(a3 (a2 h).1).2.1,(a3 (a2 h).1).2.2,(a2 h).2⟩
def a5(h:(a&&b&&c&&d&&e)=k9):a=k9/\b=k9/\c=k9/\d=k9/\e=true:=⟨(a2 (a4 h).1).1,(a2 (a4 h).1).2,(a4 h).2⟩
def a6(h:(a&&b&&c&&d&&e&&f)=k9):a=k9/\b=k9/\c=k9/\d=k9/\e=k9/\f=true:=⟨(a2 (a5 h).1).1,(a2 (a5 h).1).2,(a5 h).2⟩
def a7(h:(a&&b&&c&&d&&e&&f&&g)=k9):a=k9/\b=k9/\c=k9/\d=k9/\e=k9/\f=k9/\g=true:=⟨(a2 (a6 h).1).1,(a2 (a6 h).1).2,(a6 h).2⟩
def nn(h:o.x=k9):o=none:=Ai5.u h
def fy(h:vB cf i x=k9):cf.N[i]?=y0 x/\JO cf.u x=k9/\bb x=true:=⟨Do (a3 h).1,(a3 h).2⟩
def qc(h:bV sc x e=true):∃p,e=.j (Wd x) p/\mh sc (Wd x)=true/\(Wd x==("__debug__":Str))=false:=by
 unfold bV at h;rw[Aa2,Aa2]at h;obtain⟨⟨b,c⟩,a⟩:=h;unfold bb at a;rw[Aa2]at a;cases e with
|Name y p=>
  have:y=Wd x:=by simpa[rS]using b
  subst this;exact⟨p,rfl,c,by simpa using a.1⟩
|_=>simp[rS]at b
def xk(h:x∈bS):Wd x≠("__name__":Str):=by
 have:(bS.N λx=>decide<|Wd x≠"__name__")=true:=by decide+kernel
 exact Do<|Ad0.u this x h
section
variable{Y:Ge}{F:M.Fx}{X:Cx}{E:XK}{k:Nat}{cf:Cf}
section
variable{G:Gh}{H:Hp}{h:M.AH}{τ:M.Sl}{U:St}{Q:VK}
def aw.val (p:aw Y E G0 H0 (.j w h) λw _ G' H'=>∀v,ak Y G' H' w v->aI τ U H0 w v->Q v H')(e:Ext G0 H0 G H)(a:ah Y G h H)(z:ak Y G H w v)(f:aI τ U H0 w v):Q v H:=
 p G H e a v z f
end
def sy(c:Go Y F X E k cf)(y:cf.N[i]?=y0 x)(g:JO cf.u x=k9)(b:bb x=k9):PE X (.j x pos)<|tD Y E<|M.eval F<|.var i:=by
 unfold bb at b;rw[Aa2]at b;refine PE.imp (zC (by rwa [c.N]) (c.gP x g) (by simpa using b.1)<|by simpa using b.2) λU H Q l=>?_;obtain⟨G,f,h,s,p⟩:=l;rw[M.eval]at p;cases q:M.Gm f i with
|none=>simp[M.Gi,q]at p;exact p.j
|some w=>
  obtain⟨v,e,r⟩:=s.u i w q;refine⟨v,e,?_⟩;cases w with
|v d=>rw[M.Ku q]at p;exact aw.val p Ext.refl s.j r trivial
|own m=>rw[M.Kf q]at p;obtain⟨a,j,n,z,u,o,t⟩:=r;exact aw.val p Ext.refl s.j ⟨a,j,n,u,.u o,t⟩ ⟨i,_,q,rfl,e⟩
|bor m=>rw[M.Ka q]at p;exact aw.val p Ext.refl s.j r ⟨i,_,q,rfl,e⟩
def Lv(g:Go Y F X E k cf)(m:bV cf.u c e=k9):PE X e<|tD Y E<|M.eval F<|.con c:=by
 obtain⟨p,rfl,o,n⟩:=qc m;cases q:F.con.u c with
|none=>rintro b s U H Q I ⟨G,i,h,f,a⟩;rw[M.eval,q]at a;exact a.j
|some d=>obtain⟨u,v,l,rv,rd⟩:=g.con c d q;refine PE.imp (sM (g.gl _ o) l rv n) λU H Q j=>?_;obtain⟨G,i,h,f,a⟩:=j;rw[M.eval,q]at a;exact aw.val a Ext.refl f.j (rd G H) trivial
def Px:PE X (.x (.int i) j pos)<|tD Y E<|M.eval F<|.int i:=PE.imp OV<|by rintro U H Q⟨G,a,h,s,p⟩;exact aw.val p Ext.refl s.j rfl trivial
def KQ:PE X (.x (.bool i) j pos)<|tD Y E<|M.eval F<|.bl i:=PE.imp Ld<|by rintro U H Q⟨G,a,h,s,p⟩;exact aw.val p Ext.refl s.j rfl trivial
def Fo:PE X (.x .none j pos)<|tD Y E<|M.eval F .au:=PE.imp FG<|by rintro U H Q⟨G,a,h,s,p⟩;exact aw.val p Ext.refl s.j rfl trivial
def RC:PE X (.x (.u<|aL i) j pos)<|tD Y E<|M.eval F<|.str i:=PE.imp p5<|by rintro U H Q⟨G,a,h,s,p⟩;exact aw.val p Ext.refl s.j rfl trivial
section
variable{a b c:M.E}{x y z:Expr}{pos:Pos}
def Rx(n:Go Y F X E k cf)(w:PE X x<|tD Y E<|M.eval F a)(j:PE X y<|tD Y E<|M.eval F b):PE X (.BinOp x (oz o) y pos)<|tD Y E<|M.eval F<|.bin o a b:=by refine PE.imp (IM (DW (E:=E) o n.K) w j) λU H Q l=>?_;obtain⟨G,z,h,s,p⟩:=l;exact Wa s.j Ext.refl s p λv v1 B A I e1 m d i C e=>Wa s.j e1 d e λr v2 u f J e2 c t g D q=>⟨f,u,v,r,t.j,i.ext c d.j,g,aA.mk q e2 s.j⟩
theorem sV(b:∀c y,RV hp c y->ee y=M.cD c d):∀{ys}{us},cz hp ys us->us.C ee=M.inD d ys
|[],_,rfl=>rfl
|c::ys,_,z7=>by obtain⟨u,r,rfl,e,f⟩:=z7;have a:=sV b f;unfold M.inD at a⊢;rw[Ah6,Ah6,a,b c u e]
def sY(f:ba k X.A)(o:M.GN ys<140)(i:RV s.j d v)(rs:cz s.j ys its):∃L:Value->Bool,(∀c y,RV s.j c y->L y=M.cD c d)/\∀y,y∈its.w->SeqAt.EqAt X.A.u s y v (L y):=by
 have b:∃L:Value->Bool,∀c y,RV s.j c y->L y=M.cD c d:=⟨λy=>@u9 (∃a,RV s.j a y/\M.cD a d=k9)<|Ao _,λc y z=>by
  cases q:M.cD c d with
|true=>exact@FB _ (Ao _) ⟨c,z,q⟩
|false=>exact@IR _ (Ao _) λ⟨d,n,h⟩=>by rw[RV.inj n z,q]at h;cases h⟩
 obtain⟨L,g⟩:=b;refine⟨L,g,λy l=>?_⟩;obtain⟨j,m⟩:=List.getElem?_of_mem<|List.mem_toArray.u l;obtain⟨a,e,rd⟩:=rs.get m;rw[g a y rd];exact(ur 140 a _ X.A.u y v (by have:=XI e;lia) (by have:=f.un;lia) rd i).eq
set_option tactic.hygienic true in
def vO(A:X.K=Y.K)(l:ba k X.A)(neg:Bool){x y:V}(I:Inv X pins U H s)(E:RelV x v)(C:RelV y u){b:Bool}(w:ah Y G h H)
 (D:ak Y G H w1 x)(B:ak Y G H w2 y)(e:M.Ki w1 w2 h=y0 b)(q:Q (.I<|if neg then !b else b) H):wpAny (model X.u X.w) X.A (compareOp (if neg then .NotIn else .In) v u) (EP X pins U Q) X.xe s:=by
 unfold M.Ki at e;split at e
 .rename_i z e2;split at e
  .rename_i c;cases e;have i:=by simpa using c
   have t:=D.rv I A w E i.1.1;have o:=B.rv I A w C;cases r:w2.dd h with
|lst F=>
    rw[r]at e2 o;cases e2;obtain⟨a,f,rfl,m,n⟩:=o i.1.2;obtain⟨d,p,g⟩:=sY l i.2 t n;have j:f.w.any d=M.inD (w1.dd h) z:=by rw[VM];exact sV p n
    cases neg with
 |true=>exact SeqAt.notIn_listAt d m g ⟨.I _,H,I,rfl,by rw[j];exact q⟩
 |false=>exact SeqAt.in_listAt d m g ⟨.I _,H,I,rfl,by rw[j];exact q⟩
|tup F=>
    rw[r]at e2 o;cases e2;obtain⟨a,f,rfl,m,n⟩:=o i.1.2;obtain⟨d,p,g⟩:=sY l i.2 t n;have j:f.w.any d=M.inD (w1.dd h) z:=by rw[VM];exact sV p n
    cases neg with
 |true=>exact SeqAt.notIn_tupleAt d m g ⟨.I _,H,I,rfl,by rw[j];exact q⟩
 |false=>exact SeqAt.in_tupleAt d m g ⟨.I _,H,I,rfl,by rw[j];exact q⟩
|_=>rw[r]at e2;cases e2
  .cases e
 .cases e
def ZT(p:Go Y F X E k cf)(o):cn X (compareOp<|gm o)<|kA Y o:=by
 have w:∀{o},(∀d a h b,M.Gp o d a h=y0 b->∃i j,M.W.int? d=y0 i/\M.W.int? a=y0 j/\M.KH o i j=y0 b)->cn X (compareOp<|gm o) (kA Y o):=by rintro o z f s U H x y v u Q I n l ⟨G,h,d,a,b,r,m,g,e,q⟩;obtain⟨i,j,e1,e2,A⟩:=z d a h b e;cases m.int e1;cases g.int e2;exact DG A I n l q
 have mk:∀{o}{d a}{h:M.AH}{b},(match M.W.int? d,M.W.int? a with
|some i,y0 j=>M.KH o i j
|_,_=>u0)=y0 b->∃i j,M.W.int? d=y0 i/\M.W.int? a=y0 j/\M.KH o i j=y0 b:=by
  intro o d a h b e;split at e
  .rename_i i j e1 e2;exact⟨i,j,e1,e2,e⟩
  .cases e
 cases o with
|eq=>exact IG p.K p.room
|ne=>exact SD p.K p.room
|mem=>rintro f s U H x y v u Q I n l ⟨G,h,d,a,b,r,m,g,e,q⟩;exact vO p.K p.room y9 I n l r m g e q
|gu=>
  rintro f s U H x y v u Q I n l ⟨G,h,d,a,b,r,m,g,e,q⟩;have e:(M.Ki d a h).j (!·)=y0 b:=e;cases e2:M.Ki d a h with
 |none=>rw[e2]at e;cases e
 |some c=>rw[e2]at e;cases e;exact vO p.K p.room k9 I n l r m g e2 q
|dI=>
  rintro f s U H x y v u Q I n l ⟨G,h,d,a,b,r,m,g,e,q⟩;have e:M.Kw d a=y0 b:=e;unfold M.Kw at e;split at e
  .cases e;cases m;cases g;cases n;obtain⟨t,rfl⟩:=l;exact wpAny_is_plain rfl<|oG I q rfl
  .cases e;cases m;cases g;obtain⟨t,rfl⟩:=n;obtain⟨B,rfl⟩:=l;exact PyProof.Rows.is_bool<|oG I q rfl
  .cases e
|kX=>
  rintro f s U H x y v u Q I n l ⟨G,h,d,a,b,r,m,g,e,q⟩;have e:(M.Kw d a).j (!·)=y0 b:=e;unfold M.Kw at e;split at e
  .cases e;cases m;cases g;cases n;obtain⟨t,rfl⟩:=l;exact wpAny_isNot_plain rfl<|oG I q rfl
  .cases e;cases m;cases g;obtain⟨t,rfl⟩:=n;obtain⟨B,rfl⟩:=l;exact PyProof.Rows.isnot_bool<|oG I q rfl
  .cases e
|_=>exact w λd a h b e=>mk (h:=h) e
def Xr(h:Xh e=k9):behindInMarks o e=false:=by
 cases e<;>first|rfl|(simp[Xh]at h)
def ui(A:Go Y F X E k cf)(s:av Y G τ h U H)
 (p:aw Y E G H ((M.eval F a τ h).u λx h=>(M.eval F b τ h).u λy h=>(M.R.of h<|M.Gp o x y h).u λc h=>.j c h) λc _ _ H'=>R (.I c) H'):
 mL (kA Y o) (tD Y E<|M.eval F a) (tD Y E<|M.eval F b) U H R:=by
 refine Wa s.j Ext.refl s p λu v1 w v C e1 n f m z i=>Wa s.j e1 f i λq v2 t j D e2 d g l B e=>?_;obtain⟨c,r,e⟩:=e.of;exact⟨j,t,u,q,c,g.j,m.ext d f.j,l,r,e.at e2 g.j⟩
def aw.map {f:α->β}(p:aw Y E G H (r.u λa h=>.j (f a) h) P):aw Y E G H r λa h G' H'=>P (f a) h G' H':=by
 cases r with
|_=>exact p
def bind_assoc(r:M.R α)(f)(g:β->M.AH->M.R γ):(r.u f).u g=r.u λa h=>(f a h).u g:=by cases r<;>rfl
def R5(l:Go Y F X E k cf)(u:Xh y=k9)(A:PE X x<|tD Y E<|M.eval F a)(n:PE X y<|tD Y E<|M.eval F b):PE X (.C x [gm o] [y] pos)<|tD Y E<|M.eval F<|.cmp o a b:=by
 refine PE.imp (yQ (ZT l o) A n<|Xr u) λU H Q r=>?_;obtain⟨G,g,h,s,p⟩:=r;rw[M.eval]at p;refine ui l s ?_;have z:aw Y E G H (((M.eval F a g h).u λx h=>(M.eval F b g h).u λy h=>(M.R.of h<|M.Gp o x y h).u λc h=>.j c h).u λc h=>.j (M.W.v<|.I c) h) λw _ j i=>∀v,ak Y j i w v->aI g U H w v->Q v i:=by simpa only[bind_assoc,M.R.ab]using p
 have f:=z.map;cases q:(M.eval F a g h).u λx h=>(M.eval F b g h).u λy h=>(M.R.of h _).u λc h=>.j c h with
|ok c t=>rw[q]at f;exactλj i e m=>f j i e m _ rfl trivial
|exc d t=>rw[q]at f;exact f
|fail=>rw[q]at f;exact f
def KP(g:Go Y F X E k cf)(n:Xh y=k9)(t:PE X x<|tD Y E<|M.eval F a)(l:PE X y<|tD Y E<|M.eval F b):PT X (.C x [gm o] [y] pos)<|cE Y E<|M.Gn F<|.cmp o a b:=by
 refine PT.imp (C7 (ZT g o) t l<|Xr n) λU H Q m=>?_;obtain⟨G,f,h,s,p⟩:=m;unfold M.Gn at p;rw[M.eval]at p;refine ui g s ?_;have d:=by simpa only[bind_assoc,M.R.ab,M.GS,M.R.ao]using p
 cases q:(M.eval F a f h).u λx h=>(M.eval F b f h).u λy h=>(M.R.of h _).u λc h=>.j c h with
|ok c u=>rw[q]at d;exactλj r e i=>⟨c,rfl,d j r e i⟩
|_=>rw[q]at d;exact d
end
end
section
variable{Y:Ge}{F:M.Fx}{X:Cx}{E:XK}{k:Nat}{cf:Cf}{a b c:M.E}{x y z:Expr}{pos:Pos}
def qI(r:M.R α):(r.u λw h=>.j w h)=r:=by cases r<;>rfl
def SN(m:Go Y F X E k cf)(r:PE X x<|tD Y E<|M.eval F a)(d:∀j,isTrue x X.j j=(do let v←j;standAt x.pos;holding [v]<|truthy v)):PT X x<|cE Y E<|M.Gn F a:=by
 refine PT.imp (N3 r d) λU H Q i=>?_;obtain⟨G,u,h,s,p⟩:=i;refine Wa s.j Ext.refl s p λo v1 f e n e1 l c g w b=>?_;cases q:M.GY f o with
|none=>rw[q]at b;exact b.j
|some t=>rw[q]at b;exact⟨t,oE m.K c.j g q,b e n e1 c.j⟩
def LV(l:PE X x ta):PE X (.I .Not x pos)<|λU H Q=>ta U H λv H1=>∃t,l7 X.K v H1 t/\Q (.I<|!t) H1:=λa s U H Q I h=>UnaryOp_<|aN (l a s U H _ I h)<|by rintro v d⟨x,H1,b,e,t,g,f⟩;exact not_of<|aN (n5 a d U H1 x v (λc i=>Q (.I<|!c) i) b e ⟨t,g,f⟩)<|by rintro c m⟨j,k,q⟩;exact⟨.I<|!c,j,k,rfl,q⟩
def RD(g:Go Y F X E k cf)(i:PE X x<|tD Y E<|M.eval F a):PE X (.I .Not x pos)<|tD Y E<|M.eval F<|.not a:=by refine PE.imp (LV i) λU H Q e=>?_;obtain⟨G,j,h,s,p⟩:=e;refine Wa s.j Ext.refl s p λr v1 m l o e1 f c d n b=>?_;obtain⟨t,q,b⟩:=b.of;exact⟨t,oE g.K c.j d q,aw.val b e1 c.j rfl trivial⟩
def PD(g:PT X x<|cE Y E<|M.Gn F a):PT X (.I .Not x pos)<|cE Y E<|M.Gn F<|.not a:=by
 refine PT.imp (Oz g) λU H Q e=>?_;obtain⟨G,c,h,s,p⟩:=e;unfold M.Gn at p;rw[M.eval]at p;have f:aw Y E G H ((M.Gn F a c h).u λt h=>.j (!t) h) λb _ _ d=>Q b d:=by unfold M.Gn;simpa only[bind_assoc,M.R.ab,M.GS,M.R.ao]using p
 exact⟨G,c,h,s,f.map⟩
def FX{rest:List Expr}(o:PE X x ta)(j:PE X (.B .And (y::rest) pos) tb):PE X (.B .And (x::y::rest) pos)<|λU H Q=>ta U H λv H1=>∃t,l7 X.K v H1 t/\if t=k9 then tb U H1 Q else Q v H1:=by
 intro a s U H Q I h;refine BoolOp_and<|aN (o a s U H _ I h) ?_;rintro v i⟨x,H1,g,b,t,m,k⟩;refine aN (n5 a i U H1 x v (λc d=>if c=k9 then tb U d Q else Q x d) g b ⟨t,m,k⟩) λc n l=>?_;obtain⟨e,f,q⟩:=l;cases c with
|true=>exact j a n U e Q f q
|false=>exact⟨x,e,f,b,q⟩
def EV{rest:List Expr}(o:PE X x ta)(j:PE X (.B .Or (y::rest) pos) tb):PE X (.B .Or (x::y::rest) pos)<|λU H Q=>ta U H λv H1=>∃t,l7 X.K v H1 t/\if t=k9 then Q v H1 else tb U H1 Q:=by
 intro a s U H Q I h;refine BoolOp_or<|aN (o a s U H _ I h) ?_;rintro v i⟨x,H1,g,b,t,m,k⟩;refine aN (n5 a i U H1 x v (λc d=>if c=k9 then Q x d else tb U d Q) g b ⟨t,m,k⟩) λc n l=>?_;obtain⟨e,f,q⟩:=l;cases c with
|false=>exact j a n U e Q f q
|true=>exact⟨x,e,f,b,q⟩
def CM(n:Go Y F X E k cf){rest:List Expr}(v:PE X x<|tD Y E<|M.eval F a)(i:PE X (.B .And (y::rest) pos)<|tD Y E<|M.eval F b):PE X (.B .And (x::y::rest) pos)<|tD Y E<|M.eval F<|.and a b:=by
 refine PE.imp (FX v i) λU H Q j=>?_;obtain⟨G,w,h,s,p⟩:=j;refine Wa s.j Ext.refl s p λK v1 B A D e1 l d e m c=>?_;obtain⟨t,q,c⟩:=c.of;refine⟨t,oE n.K d.j e q,?_⟩;cases t with
|true=>exact Wa s.j e1 d (by rwa [qI]) λC v2 J z I e2 g u f r o=>aw.val o e2 u.j f<|r.back e1 s.j
|false=>exact aw.val c e1 d.j e m
def AG(n:Go Y F X E k cf){rest:List Expr}(v:PE X x<|tD Y E<|M.eval F a)(i:PE X (.B .Or (y::rest) pos)<|tD Y E<|M.eval F b):PE X (.B .Or (x::y::rest) pos)<|tD Y E<|M.eval F<|.or a b:=by
 refine PE.imp (EV v i) λU H Q j=>?_;obtain⟨G,w,h,s,p⟩:=j;refine Wa s.j Ext.refl s p λK v1 B A D e1 l d e m c=>?_;obtain⟨t,q,c⟩:=c.of;refine⟨t,oE n.K d.j e q,?_⟩;cases t with
|false=>exact Wa s.j e1 d (by rwa [qI]) λC v2 J z I e2 g u f r o=>aw.val o e2 u.j f<|r.back e1 s.j
|true=>exact aw.val c e1 d.j e m
def K2:M.Gn F (.and a b) τ h=(M.Gn F a τ h).u λt h=>match t with
|true=>M.Gn F b τ h
|false=>.j y9 h:=by
 unfold M.Gn;rw[M.eval];simp only[bind_assoc];congr 1;funext w h1;cases q:M.GY h1 w with
|none=>rfl
|some t=>
  cases t with
|true=>rfl
|false=>simp[q]
def LI:M.Gn F (.or a b) τ h=(M.Gn F a τ h).u λt h=>match t with
|true=>.j k9 h
|false=>M.Gn F b τ h:=by
 unfold M.Gn;rw[M.eval];simp only[bind_assoc];congr 1;funext w h1;cases q:M.GY h1 w with
|none=>rfl
|some t=>
  cases t with
|false=>rfl
|true=>simp[q]
def CZ{rest:List Expr}(v:PT X x<|cE Y E<|M.Gn F a)(k:PW X (.B .And (y::rest) pos)<|cE Y E<|M.Gn F b):PW X (.B .And (x::y::rest) pos)<|cE Y E<|M.Gn F<|.and a b:=by
 rintro r c m U H Q I ⟨G,z,h,s,p⟩;refine Oy v k r c m U H Q I ?_;rw[K2]at p;refine qU s.j Ext.refl s p λt A i o e1 l d e=>?_;cases t with
|true=>exact qU s.j e1 d (f:=λw h=>.j w h) (by rwa [qI]) λB C g q e2 j u n=>n g q e2 u.j
|false=>exact e i o e1 d.j
def AI{rest:List Expr}(v:PT X x<|cE Y E<|M.Gn F a)(k:PW X (.B .Or (y::rest) pos)<|cE Y E<|M.Gn F b):PW X (.B .Or (x::y::rest) pos)<|cE Y E<|M.Gn F<|.or a b:=by
 rintro r c m U H Q I ⟨G,z,h,s,p⟩;refine Pz v k r c m U H Q I ?_;rw[LI]at p;refine qU s.j Ext.refl s p λt A i o e1 l d e=>?_;cases t with
|false=>exact qU s.j e1 d (f:=λw h=>.j w h) (by rwa [qI]) λB C g q e2 j u n=>n g q e2 u.j
|true=>exact e i o e1 d.j
def Pn(g:PE X x<|tD Y E<|M.eval F a):PE X (.I .USub x pos)<|tD Y E<|M.eval F<|.neg a:=by refine PE.imp (uq IX g) λU H Q e=>?_;obtain⟨G,i,h,s,p⟩:=e;refine Wa s.j Ext.refl s p λn v1 k j m e1 f c d l b=>?_;obtain⟨t,q,b⟩:=b.of;exact⟨t,d.int q,aw.val b e1 c.j rfl trivial⟩
def Fh(i:PE X x<|tD Y E<|M.eval F a):PE X (.I .Invert x pos)<|tD Y E<|M.eval F<|.inv a:=by
 refine PE.imp (uq NT i) λU H Q f=>?_;obtain⟨G,j,h,s,p⟩:=f;refine Wa s.j Ext.refl s p λo v1 l k n e1 g c d m b=>?_;obtain⟨t,q,b⟩:=b.of;refine⟨t,d.int q,?_⟩;have e:Builtin.bitNot t=-t-1:=by unfold Builtin.bitNot;exact by with_reducible rfl
 exact aw.val b e1 c.j rfl trivial
def yY(r:ak Y G H w v):(v=.au)↔w=.v .U:=by
 constructor
 .intro e;subst e;cases w with
|v d=>
   cases d with
 |au=>rfl
 |bl _=>cases(r)
 |int _=>cases(r)
 |str _=>cases(r)
 |ref _=>obtain⟨_,e⟩:=r;cases e
 |err _ _ _=>obtain⟨_,_,_,e,_⟩:=r;cases e
 |_=>obtain⟨_,_,e,_⟩:=r;cases e
|_=>obtain⟨_,_,e,_⟩:=r;cases e
 .intro e;subst e;exact r
noncomputable def pT(neg:Bool):M.W->Bool
|.v .U=>!neg
|_=>neg
def yn:M.eval F (.fR neg a) τ h=(M.eval F a τ h).u λw h=>M.aj (.I<|pT neg w) h:=by
 rw[M.eval];congr 1;funext w h1;cases w with
|v d=>cases d<;>rfl
|_=>rfl
def BF(r:ak Y G H w v)(neg:Bool):(if neg then !u9 (v=.au)else u9 (v=.au))=pT neg w:=by
 by_cases a:v=.au
 .have b:=(yY r).u a;subst b a;cases neg<;>rfl
 .have b:=λe=>a<|(yY r).w e;rw[(IR a)];have e2:pT neg w=neg:=by
   cases w with
|v d=>cases d<;>first|rfl|exact absurd rfl b
|_=>rfl
  rw[e2];cases neg<;>rfl
def IU(d:PE X x<|tD Y E<|M.eval F a):PE X (.C x [if neg then .IsNot else .Is] [.x .none j pos'] pos)<|tD Y E<|M.eval F<|.fR neg a:=by
 have b:∀U H Q,tD Y E (M.eval F<|.fR neg a) U H Q->tD Y E _ U H λv c=>Q (.I<|if neg then !u9 (v=.au)else decide _) c:=λU H Q i=>by obtain⟨G,l,h,s,p⟩:=i;rw[yn]at p;refine Wa s.j Ext.refl s p λq v1 n m c e1 k f g o e=>?_;rw[BF g neg];exact aw.val e e1 f.j rfl trivial
 cases neg with
|true=>exact PE.imp (vJ<|Cw d) b
|false=>exact PE.imp (vJ<|yA d) b
def LK(k:PE X x<|tD Y E<|M.eval F a):PT X (.C x [if neg then .IsNot else .Is] [.x .none j pos'] pos)<|cE Y E<|M.Gn F<|.fR neg a:=by
 have i:∀U H Q,cE Y E (M.Gn F<|.fR neg a) U H Q->tD Y E _ U H λv b=>Q (if neg then !u9 (v=.au)else decide _) b:=λU H Q z=>by obtain⟨G,g,h,s,p⟩:=z;unfold M.Gn at p;rw[yn,bind_assoc]at p;refine Wa s.j Ext.refl s p λJ v1 D u b e1 B o y I l=>?_;rw[BF y neg];exact l u b e1 o.j
 have fin:∀U H Q,cE Y E _ U H Q->tD Y E (M.eval F a) U H λv b=>∃c,V.bl _=.I c/\Q c b:=λU H Q t=>by
  obtain⟨G,g,h,s,p⟩:=i U H Q t;refine⟨G,g,h,s,?_⟩;cases q:M.eval F a g h with
|ok w A=>rw[q]at p;exactλn C e m v r f=>⟨_,rfl,p n C e m v r f⟩
|exc d A=>rw[q]at p;exact p
|fail=>rw[q]at p;exact p
 cases neg with
|true=>exact PT.imp (BQ<|Cw k) fin
|false=>exact PT.imp (BQ<|yA k) fin
def De(h:Xh e'=k9):lastMarks [o,o'] [e,e']=false:=Xr h
def CS(O:Go Y F X E k cf)(s:av Y G τ h U H)
 (m:∀b h' G' H',P (.v<|.I b) h' G' H'->R (.I b) H')(p:aw Y E G H (M.eval F (.a4 o o' a b c) τ h) P):
 pZ (kA Y o) (kA Y o') (tD Y E<|M.eval F a) (tD Y E<|M.eval F b) (tD Y E<|M.eval F c) U H R:=by
 refine Wa s.j Ext.refl s p λI v1 K J T e1 y q w L u=>Wa s.j e1 q u λr v2 D v V e2 f e n Q d=>?_;obtain⟨t,j,d⟩:=d.of;refine⟨v,D,I,r,t,e.j,w.ext f q.j,n,j,t,rfl,?_⟩;cases t with
|true=>refine Wa s.j e2 e d λx v3 B A S z i l C N g=>?_;obtain⟨t,j,g⟩:=g.of;exact⟨A,B,r,x,t,l.j,n.ext i e.j,C,j,m _ _ _ _<|g.at z l.j⟩
|false=>exact m _ _ _ _<|d.at e2 e.j
def Mh(d:Go Y F X E k cf)  (g:Xh z=k9)(i:PE X x<|tD Y E<|M.eval F a)(e:PE X y<|tD Y E<|M.eval F b)(f:PE X z<|tD Y E<|M.eval F c):
 PE X (.C x [gm o,gm o'] [y,z] pos)<|tD Y E<|M.eval F<|.a4 o o' a b c:=
 PE.imp (LS (ZT d o) (ZT d o') i e f<|De g)<|by rintro U H Q⟨G,l,h,s,p⟩;exact CS d s (λb n m j q=>q _ rfl trivial) p
def MI(g:Go Y F X E k cf)  (t:Xh z=k9)(A:PE X x<|tD Y E<|M.eval F a)(n:PE X y<|tD Y E<|M.eval F b)(v:PE X z<|tD Y E<|M.eval F c):
 PT X (.C x [gm o,gm o'] [y,z] pos)<|cE Y E<|M.Gn F<|.a4 o o' a b c:=by
 refine PT.imp (EX (ZT g o) (ZT g o') A n v<|De t) λU H Q r=>?_;obtain⟨G,m,h,s,p⟩:=r;refine CS g s (P:=λw _ _ f=>∀b,w=.v (.I b)->Q b f) (λb j i f q=>⟨b,rfl,q b rfl⟩) ?_;unfold M.Gn at p;cases q:M.eval F _ m h with
|ok w j=>rw[q]at p;exactλi f e l b u=>by subst u;exact p i f e l
|exc d j=>rw[q]at p;exact p
|fail=>rw[q]at p;exact p
end
def Xa(h:jb e=k9):starEach (e::es) env=(y9,eval e env)::starEach es env:=by
 cases e<;>first|rfl|(simp[jb]at h)
def Xo(h:∀e∈es,jb e=k9):(backTo pos<|starEach es env).C (·.1)=false:=by
 induction es with
|nil=>rfl
|cons e r c=>rw[Xa<|h e Aa4];show(y9||(backTo pos _).C _)=y9;rw[c λb a=>h b<|Aa3 _ a];rfl
section
variable{Y:Ge}{F:M.Fx}{X:Cx}{E:XK}{k:Nat}{cf:Cf}{a b c:M.E}{x y z:Expr}{pos:Pos}{es:M.Es}{xs:List Expr}
def Lg:PA X []<|lz Y E<|M.Gw F .u:=PA.imp ql<|by rintro U H Q⟨G,a,h,s,p⟩;exact p G H Ext.refl s.j [] rfl
def NI(r:jb x=k9)(y:PE X x<|tD Y E<|M.eval F a)(i:PA X xs<|lz Y E<|M.Gw F es):PA X (x::xs)<|lz Y E<|M.Gw F<|.j a es:=by refine PA.imp (Ze y i<|Xa r) λU H Q l=>?_;obtain⟨G,A,h,s,p⟩:=l;refine Wa s.j Ext.refl s p λK v1 D C J e1 m j k n b=>?_;obtain⟨d,q,b⟩:=b.of;obtain⟨B,e2,f,rd,_⟩:=rQ e1 j s k n q;exact rR s.j e2 f b λz e I u v o c g w t=>t u v o g.j (v1::e) ⟨v1,e,rfl,rd.ext c f.j,w⟩
def D1:PA X []<|gK Y E<|M.Gg F .u:=PA.imp ql<|by rintro U H Q⟨G,a,h,s,p⟩;exact p G H Ext.refl s.j [] rfl
def Mp(m:jb x=k9)(t:PE X x<|tD Y E<|M.eval F a)(g:PA X xs<|gK Y E<|M.Gg F es):PA X (x::xs)<|gK Y E<|M.Gg F<|.j a es:=by refine PA.imp (Ze t g<|Xa m) λU H Q j=>?_;obtain⟨G,v,h,s,p⟩:=j;exact Wa s.j Ext.refl s p λC v1 y w B e1 k c i z f=>Qs s.j e1 c f λu d A o q l b e r n=>n o q l e.j (v1::d) ⟨v1,d,rfl,i.ext b c.j,r⟩
def Po(C:xs.e<=1000)(a:∀τ h ds h',M.Gw F es τ h=.j ds h'->ds.e=xs.e)(u:PA X xs<|lz Y E<|M.Gw F es):PE X (.G xs n pos)<|tD Y E<|M.eval F<|.tup es:=by
 refine PE.imp (Ip u) λU H Q r=>?_;obtain⟨G,τ,h,s,p⟩:=r;rw[M.eval]at p;cases q:M.Gw F es τ h with
|ok c j=>
  refine rR s.j Ext.refl s (f:=λds h=>if ds.e=xs.e then M.aj (.w ds) h else .w) (P:=λw h' l k=>∀v,ak Y l k w v->aI τ U H w v->Q v k) ?_ λds z y x B e1 t m i b=>?_
  .rw[q]at p⊢;show aw Y E G H (if c.e=xs.e then M.aj _ j else .w) _
   rwa [Da<|a _ _ _ _ q]
  .by_cases g:ds.e=xs.e
   .rw[Da g]at b;have A:=i.length;exact⟨Ag<|Jr Y6,λo e=>aA.tup (aA.mk b e1 s.j) m.j i o e⟩
   .rw[FM g]at b;exact b.j
|exc d j=>rw[q]at p;exact⟨G,τ,h,s,by rw[q];exact p⟩
|fail=>rw[q]at p;exact p.j
def DM(B:xs.e<=1000)(a:∀τ h ds h',M.Gw F es τ h=.j ds h'->ds.e=xs.e)(t:PA X xs<|lz Y E<|M.Gw F es):PE X (.List xs pos)<|tD Y E<|M.eval F<|.lst es:=by
 refine PE.imp (IQ t) λU H Q o=>?_;obtain⟨G,τ,h,s,p⟩:=o;rw[M.eval]at p;cases q:M.Gw F es τ h with
|ok c j=>
  refine rR s.j Ext.refl s (f:=λds h=>if ds.e=xs.e then .j (.j ds) h else .w) (P:=λw h' l k=>∀v,ak Y l k w v->aI τ U H w v->Q v k) ?_ λds y x u A e1 r m i b=>?_
  .rw[q]at p⊢;show aw Y E G H (if c.e=xs.e then .j _ j else .w) _
   rwa [Da<|a _ _ _ _ q]
  .by_cases g:ds.e=xs.e
   .rw[Da g]at b;have z:=i.length;exact⟨Ag<|Jr Y6,λn e=>aA.own (aA.mk b e1 s.j) m.j i n e⟩
   .rw[FM g]at b;exact b.j
|exc d j=>rw[q]at p;exact⟨G,τ,h,s,by rw[q];exact p⟩
|fail=>rw[q]at p;exact p.j
def RX(r:ak Y G H w v):ak Y G H w.arg v:=by
 cases w with
|v d=>exact r
|own g=>obtain⟨a,f,e,_,h,b,c⟩:=r;exact⟨a,f,e,h,.u b,c⟩
|bor g=>exact r
theorem qA:∀{ws}{vs},bp Y G H ws vs->bp Y G H (ws.j M.W.arg) vs
|[],_,z=>z
|_::_,_,z7=>by obtain⟨v,r,a,c,b⟩:=z7;exact⟨v,r,a,RX c,qA b⟩
def zA(ws:List M.W):∀w∈ws.j M.W.arg,oU w=true:=λw a=>by obtain⟨u,_,rfl⟩:=Ab7.u a;cases u<;>rfl
def Ol(a:Go Y F X E k cf)(w:bV cf.u f g=k9)(l:cf.w.x f=k9)(c:∀e∈x::xs,jb e=k9)(C:PA X (x::xs)<|gK Y E<|M.Gg F es):PE X (.y g (x::xs) [] pos)<|tD Y E<|M.eval F<|.call f es:=by obtain⟨p,rfl,B,A⟩:=qc w;obtain⟨y,K,I,b,z,i,u⟩:=(a.fn f l).imp λy h=>h.ex;refine PE.imp (Hf b a.room (a.gl _ B) u i z .u a.pass C A (Xa<|c _ Aa4)<|Xo λe j=>c e<|Aa3 _ j) λU H Q t=>?_;obtain⟨G,D,h,s,p⟩:=t;refine Qs s.j Ext.refl s p λq J o n L e1 v m r d=>?_;rw[Af0];exact⟨n,o,_,m.j,qA r,zA q,aA.mk d e1 s.j⟩
def DY(b:M.Bi)(a:oW b=k9):bootBuiltins (Wd<|sC b)=y0 (rT b):=by
 cases b<;>first|(exact absurd (show y9=k9 from a) Ac0)|decide+kernel
def BK(b):sC b∈bS:=by cases b<;>decide
def Hj(c:Go Y F X E k cf){b:M.Bi}(f:oW b=k9)(r:Bj cf b g=k9)(t:∀e∈x::xs,jb e=k9)(q:PA X (x::xs)<|gK Y E<|M.Gg F es):PE X (.y g (x::xs) [] pos)<|tD Y E<|M.eval F<|.bi b es:=by
 obtain⟨p,rfl,n,l⟩:=qc (a2 r).2;have i:=c.u _<|BK b;have j:=xk<|BK b;have bt:=DY b f;have o:zr X (rT b)<|tQ Y E b:=SS b f c.K<|λu=>c.y<|(Al4.u (a2 r).1).j id λz=>absurd (Do z) u;have a:∀U H Q,tD Y E (M.eval F<|.bi b es) U H Q->r4 (tQ Y E b) (gK Y E<|M.Gg F es) U H Q:=λU H Q D=>by obtain⟨G,J,h,s,p⟩:=D;exact Qs s.j Ext.refl s p λB K A y L e1 I d C v=>⟨y,A,B,d.j,C,aA.mk v e1 s.j⟩
 have d:=Xa (env:=X.j) (es:=xs)<|t _ Aa4;have m:=Xo (env:=X.j) (pos:=pos) λe w=>t e<|Aa3 _ w;cases b with
|min=>cases f
|max=>cases f
|int=>exact PE.imp (XB o (c.gl _ n) i bt q j l d m) a
|list=>exact PE.imp (XB o (c.gl _ n) i bt q j l d m) a
|tuple=>exact PE.imp (XB o (c.gl _ n) i bt q j l d m) a
|str=>cases f
|abs=>cases f
|_=>exact PE.imp (QI o (c.gl _ n) i bt q j l d m) a
def bF(h:XT o=k9)(w):attributeBase o n env w=w:=by
 cases o with
|Call f a b p=>
  cases a with
 |nil=>exact absurd (h) Ac0
 |cons x a=>cases f<;>rfl
|_=>rfl
theorem Cm(t):∀{ts}{n},M.Ko t ts=y0 n->mv (aL t) (ts.j aL)=y0 n
|[],_,e=>by cases e
|y::ys,n,e=>by
  unfold M.Ko at e;rw[Ab2,mv];split at e
  .rename_i q;cases e;rw[Da<|by rw[q]]
  .rename_i q;obtain⟨k,e1,rfl⟩:=Ah.u e;rw[FM<|λc=>q<|by have:=congrArg (λs:Str=>s.j.u) c;simpa[aL]using this,Cm t e1];rfl
theorem Di{a:Value->Bool}(b:∀c y,RV hp c y->a y=M.cD c d):∀{ys}{us}{j},cz hp ys us->M.Kp d ys=y0 j->∃y,us[j]?=y0 y/\a y=k9/\∀m z,m<j->us[m]?=y0 z->a z=y9
|[],_,_,rfl,h=>by cases h
|c::ys,_,j,z7,h=>by
  obtain⟨u,r,rfl,k,p⟩:=z7;rw[M.Kp]at h;by_cases q:M.cD c d=k9
  .rw[Da q]at h;cases h;exact⟨u,rfl,by rw[b c u k];exact q,λm z g=>absurd g<|Ah5 m⟩
  .rw[FM q]at h;obtain⟨i,e,rfl⟩:=Ah.u h;obtain⟨y,l,o,n⟩:=Di b p e;refine⟨y,l,o,λm z g f=>?_⟩;cases m with
|zero=>cases f;rw[b c u k];simpa using q
|succ m=>exact n m z (On ‹_›) f
def RW(Y:Ge):V->List V->Hp->VK->Prop:=λx vs H Q=>∃G h a b y j,vs=[y]/\ah Y G h H/\ak Y G H a x/\ak Y G H b y/\M.Ks b a h=y0 j/\Q (.p (j:Nat)) H
def NW(w:X.K=Y.K)(g:ba k X.A):iG X "list.index"<|RW Y:=by
 rintro r s U H x vs v us Q I O rv ⟨G,h,w1,w2,y,j,P,l,L,E,e,q⟩;subst P;obtain⟨u,rfl,R⟩:=rv.one;unfold M.Ks at e;split at e
 .rename_i ys e2;split at e
  .rename_i c;have n:=by simpa using c
   have A:=L.rv I w l O (by simp_all);rw[e2]at A;obtain⟨a,f,rfl,V,i⟩:=A;obtain⟨C,D,K⟩:=sY g n.1.2 (E.rv I w l R n.1.1.1) i;obtain⟨z,J,h2,T⟩:=Di D i e;obtain⟨⟨N,dd,B,sl⟩,t,S,k,F⟩:=id V;subst S F;have p:=i.e;obtain⟨hj,Z⟩:=Aa0.u J;have W:=M.Gf;exact Tu Ul ⟨_,t,rfl⟩ PySem.F.entry_list_index (PySem.F.args_list_index_2 _ _) (PySem.SeqAt.list_indexAt a f.w k dd sl u C j (by simp_all) Y6 (by simp_all)<|λm hm d=>T m _ d Y7) ⟨t,K,⟨.p j,H,I.kept λb o e=>e,⟨_,rfl⟩,q⟩⟩
  .cases e
 .cases e
def FP(j:Go Y F X E k cf)(V:(apos.j==cpos.u)=k9)(T:XT o=k9)(r:jb x=k9)(ha:PE X o<|tD Y E<|M.eval F a)(hw:PA X [x]<|gK Y E<|M.Gg F es):
 PE X (.y (.u o (Wd<|vT m) apos) [x] [] cpos)<|tD Y E<|M.eval F<|.dN m a es:=by
 cases m with
|index=>
  refine PE.imp (jL PySem.F.plainAttrs_tuple PySem.F.slot_tuple_index PySem.F.type_tuple_index OW HZ ha hw (bF T _) (by rw[Xa r];rfl) V (Xa r) rfl) λU H Q B=>?_;obtain⟨G,τ,h,s,p⟩:=B;refine Wa s.j Ext.refl s p λZ v1 h1 G1 H1 e1 C f g f1 d=>?_;split at d
  .rename_i I;obtain⟨xs,ex⟩:=Aj2.u<|I;obtain⟨b,A,rfl,v,z3⟩:=g.tup ex;refine⟨⟨b,rfl,j.K▸v.pl⟩,Qs s.j e1 f d λz us W J H2 e2 e l y c=>?_⟩;obtain⟨b',R,O,K,P⟩:=ak.ext (w:=.v<|.w xs) e f.j ⟨b,A,rfl,v,z3⟩;cases O;cases z with
|nil=>exact c.j
|cons w wr=>
    cases wr with
|cons _ _=>exact c.j
|nil=>
     obtain⟨u,rfl,D⟩:=y.one;have c:=c;obtain⟨ts,q,c⟩:=c.of;obtain⟨t,L,c⟩:=c.of;obtain⟨n,S,c⟩:=c.of;cases D.str L;rw[ex,Af2]at q;cases jW q P;split at c
     .exact⟨b,aL t,n,ts.j aL,rfl,rfl,j.K▸f7.sq K,Cm t S,(aA.mk c e2 s.j).v l.j rfl⟩
     .exact c.j
  .exact d.j
|bM=>
  refine PE.imp (jL S6 Ul PySem.F.type_list_index uO (NW j.K j.room) ha hw (bF T _) (by rw[Xa r];rfl) V (Xa r) rfl) λU H Q B=>?_;obtain⟨G,τ,h,s,p⟩:=B;refine Wa s.j Ext.refl s p λZ v1 h1 G1 H1 e1 C f g f1 d=>?_;split at d
  .rename_i I;obtain⟨ys,N⟩:=Aj2.u<|I;obtain⟨b,A,rfl,v,z3⟩:=ak.lst f.j g N;refine⟨⟨b,A,rfl,j.K▸v⟩,Qs s.j e1 f d λz us W J H2 e2 e l y c=>?_⟩;cases z with
|nil=>exact c.j
|cons w wr=>
    cases wr with
|cons _ _=>exact c.j
|nil=>obtain⟨u,rfl,D⟩:=y.one;have c:=c;obtain⟨n,q,c⟩:=c.of;exact⟨J,W,Z,w,u,n,rfl,l.j,g.ext e f.j,D,q,(aA.mk c e2 s.j).v l.j rfl⟩
  .exact d.j
|count=>
  refine PE.imp (jL S6 PySem.F.slot_list_count PySem.F.type_list_count uO P7 ha hw (bF T _) (by rw[Xa r];rfl) V (Xa r) rfl) λU H Q B=>?_;obtain⟨G,τ,h,s,p⟩:=B;refine Wa s.j Ext.refl s p λZ v1 h1 G1 H1 e1 C f g f1 d=>?_;split at d
  .rename_i I;obtain⟨ys,N⟩:=Aj2.u<|I;obtain⟨b,A,rfl,v,z3⟩:=ak.lst f.j g N;refine⟨⟨b,A,rfl,j.K▸v⟩,Qs s.j e1 f d λz us W J H2 e2 e l y c=>?_⟩;cases z with
|nil=>exact c.j
|cons w wr=>
    cases wr with
|cons _ _=>exact c.j
|nil=>
     obtain⟨u,rfl,D⟩:=y.one;have c:=c;obtain⟨is,q,c⟩:=c.of;obtain⟨i,L,c⟩:=c.of;obtain⟨ys2,S,q4⟩:=Ag7.u q;obtain⟨b',R,O,y2,y3⟩:=ak.lst l.j (g.ext e f.j) S;cases O;cases jB q4 y3;cases D.int L;split at c
     .exact⟨b,i,is,rfl,rfl,j.K▸y2,(aA.mk c e2 s.j).v l.j rfl⟩
     .exact c.j
  .exact d.j
def NJ:"set"∈bS:=by decide
def Rt:"range"∈bS:=by decide
def Fd:"list"∈bS:=by decide
def EO:"sorted"∈bS:=by decide
def He(d:Go Y F X E k cf)(j:mq cf "list" g=true)(e:bV cf.u "range" g2=true)(m:jb x=true)(A:PE X x<|tD Y E<|M.eval F a):PE X (.y g [.y g2 [x] [] pos2] [] pos)<|tD Y E<|M.eval F<|.cH a:=by
 obtain⟨p,rfl,y,K⟩:=qc (a2 j).2;obtain⟨J,rfl,f,o⟩:=qc e;refine PE.imp (Sz (d.y (a2 j).1) (d.gl _ y) (d.u _ Fd) (d.gl _ f) (d.u _ Rt) (Ze A ql<|Xa m)<|Xa m) λU H Q t=>?_;obtain⟨G,B,h,s,p⟩:=t;refine Wa s.j Ext.refl s p λN v1 D C L e1 u q r I b=>?_;obtain⟨n,v,b⟩:=b.of;cases r.int v;split at b
 .rename_i c
  refine⟨n.j,by rw[U5 c.1],by lia,λl w=>?_⟩;exact aA.own (aA.mk b e1 s.j) q.j (by
    induction Aa6 n.j with
|nil=>rfl
|cons i is z=>exact⟨_,_,rfl,rfl,z⟩) l w
 .exact b.j
def FR(r:Go Y F X E k cf){s:M.Tx}{d:List M.Tx}{f l:Nat}{g m c b:Pos}(n:(c.j==b.u)=k9)(i:om (aL s) (d.j aL)=k9):
 PE X (.y (.u (.x (.u<|aL s) f g) (Wd "split") c) [.x (.u b5) l m] [] b)<|tD Y E<|M.eval F<|.dH s d:=by
 refine PE.imp (jL PySem.F.plainAttrs_str UA PySem.F.type_str_split FJ FZ p5 (Ze p5 ql rfl) rfl rfl n rfl rfl) λU H Q j=>?_;obtain⟨G,q,h,e,p⟩:=j;rw[M.eval]at p;exact⟨⟨_,rfl⟩,aL s,d.j aL,rfl,rfl,i,λa o=>aA.own (aA.mk p Ext.refl e.j) e.j (zV _) a o⟩
def Nc(d:Go Y F X E k cf)(o:mq cf "sorted" g=true)(f:bV cf.u "set" g2=true)(q:jb x=true)(K:PE X x<|tD Y E<|M.eval F a):PE X (.y g [.y g2 [x] [] pos2] [] pos)<|tD Y E<|M.eval F<|.sset a:=by
 obtain⟨p,rfl,C,V⟩:=qc (a2 o).2;obtain⟨T,rfl,j,r⟩:=qc f;refine PE.imp (HY (d.y (a2 o).1) (d.gl _ C) (d.u _ EO) (d.gl _ j) (d.u _ NJ) (Ze K ql<|Xa q)<|Xa q) λU H Q v=>?_;obtain⟨G,L,h,s,p⟩:=v;refine Wa s.j Ext.refl s p λZ v1 O N W e1 y n t S e=>?_;obtain⟨is,z,e⟩:=e.of;obtain⟨R,w,B⟩:=Ag7.u z;obtain⟨l,P,rfl,J,I⟩:=ak.lst n.j t w;cases jB B I;split at e
 .rename_i c;obtain⟨m,A,rfl⟩:=Ab7.u c;refine⟨l,m,rfl,d.K▸J,A,λb u=>?_⟩;exact aA.own (aA.mk e e1 s.j) n.j (by
    induction m.j Ad7 with
|nil=>rfl
|cons i is D=>exact⟨_,_,rfl,rfl,D⟩) b u
 .exact e.j
def Ms(b:Go Y F X E k cf)(f:t≠.au)(z:bV cf.u "isinstance" g=true)(A:bV cf.u (ea t) y=true)(l:jb x=true)(J:PE X x<|tD Y E<|M.eval F a):PE X (.y g [x,y] [] pos)<|tD Y E<|M.eval F<|.cC a t:=by
 obtain⟨p,rfl,D,C⟩:=qc z;obtain⟨q,rfl,m,r⟩:=qc A;have dQ:ea t∈bS:=by cases t<;>first|exact absurd rfl f|decide
 have d:"isinstance"∈bS:=by decide
 have i:PE X (.j (Wd<|ea t) q)<|tC<|.ty<|ea t:=rA (b.gl _ m) (b.u _ dQ) (by cases t<;>first|exact absurd rfl f|decide+kernel) rfl (xk dQ) r;refine PE.imp (QI (Rm b.K) (b.gl _ D) (b.u _ d) (Uu) (Ze J (Ze i ql)<|Xa l) (xk d) C (Xa l) rfl) λU H Q v=>?_;obtain⟨G,K,h,s,p⟩:=v;rw[M.eval]at p;refine Wa s.j Ext.refl s p λI v1 o n N e1 w j u L e=>?_;obtain⟨c,B,e⟩:=e.of;exact⟨n,o,I,v1,t,c,rfl,f,j.j,u,B,aw.val e e1 j.j rfl trivial⟩
set_option tactic.hygienic true in
def IE{b:Bool}(r:ak Y G H w v)(e:M.bW cl w ts=y0 b):∃c x j,v=.j x/\H x=y0 (iX x (Y.j c) j)/\iP Y c/\b=ts.C (M.G8 cl 8 c).x:=by
 unfold M.bW at e;split at e
 .rename_i c f d;obtain⟨x,h,u,g,o,k,a,l,i,n,m⟩:=r;exact⟨c,x,y0 h,g,a,i,(Ae0.inj e).u⟩
 .cases e
def IA(d:Go Y F X E k cf)(r:t="ValueError"\/cf.j.x t=true)(K:bV cf.u "isinstance" g=true)(N:bV cf.u t y=true)(f:jb x=true)(W:PE X x<|tD Y E<|M.eval F a):
 PE X (.y g [x,y] [] pos)<|tD Y E<|M.eval F<|.bW a k9 [t]:=by
 obtain⟨p,rfl,T,R⟩:=qc K;obtain⟨q,rfl,u,w⟩:=qc N;have j:"isinstance"∈bS:=by decide
 have fin:∀v,PE X _ (tC v)->(∀c,iP Y c->∀x b,b=[t].C (M.G8 Y.cl 8 c).x->∀e H Q,H x=y0 _->Q (.I b) H->uo X.K [.j x,v] H Q)→
  PE X (.y (.j _ p) [x,.j (Wd t) q] [] pos) (tD Y E<|M.eval F<|.bW a k9 [t]):=λv C m=>by
  refine PE.imp (QI Ij (d.gl _ T) (d.u _ j) Uu (Ze W (Ze C ql)<|Xa f) (xk j) R (Xa f) rfl) λU H Q I=>?_;obtain⟨G,Z,h,s,p⟩:=I;refine Wa s.j Ext.refl s p λw1 v1 h1 G1 S e1 J B D f1 l=>?_;obtain⟨b,O,l⟩:=l.of;obtain⟨c,L,e,rfl,V,P,A⟩:=IE D O;rw[d.cl]at A;exact m c P L b A e S Q V<|aw.val l e1 B.j rfl trivial
 by_cases o:cf.j.x t=k9
 .refine fin (.j _) (sM (d.gl _ u) (d.cls t o) rfl w) λc i x b n e H Q f q=>?_;have m:=i.own t (by rw[←d.ow];exact Ai8.u o);refine⟨x,Y.j c,e,b,d.K▸i.k,f,.u ⟨Y.j t,rfl,?_⟩,q⟩;rw[d.K,m,n];simp
 .have r:=r.j id λz=>absurd z o;subst r;have pG:"ValueError"∈bS:=by decide
  refine fin (.ty "ValueError") (rA (d.gl _ u) (d.u _ pG) Hb rfl (xk pG) w) fun c i x b n e H Q f q=>⟨x,Y.j c,e,b,d.K▸i.k,f,.w<|.u ⟨"ValueError",rfl,?_⟩,q⟩;rw[d.K,i.ve,n];simp
theorem aa.aW (z:aa Y G H ds vs)(e:M.aW ds i=y0 d):∃v,Lake.aW vs i=y0 v/\aD Y G H d v:=by
 unfold M.aW at e;unfold Lake.aW;rw[z.length]at e;cases q:M.ef vs.e i with
|none=>rw[q]at e;cases e
|some j=>
  rw[q]at e;obtain⟨v,c,a⟩:=z.get<|e;refine⟨v,?_,a⟩;have b:Lake.ef vs.e i=y0 j:=q
  rwa [b]
def xU(a:zd y=k9):yS y:=by
 intro o i;cases y<;>first|rfl|(simp[zd]at a)
set_option tactic.hygienic true in
def LZ(u:Go Y F X E k cf)(J:zd y=k9)(R:PE X x<|tD Y E<|M.eval F a)(C:PE X y<|tD Y E<|M.eval F b):PE X (.w x y pos)<|tD Y E<|M.eval F<|.ix a b:=by
 refine PE.imp (rr OH R C<|xU J) λU H Q D=>?_;obtain⟨G,T,h,s,p⟩:=D;refine Wa s.j Ext.refl s p λO v1 Z W H1 e1 I r g f1 z=>Wa s.j e1 r z λw2 v2 N V H2 e2 n o A f2 m=>?_;obtain⟨d,q,m⟩:=m.of;have g:=g.ext n r.j;unfold M.cZ at q;split at q
 .rename_i i K;cases A.int K;split at q
  .rename_i j L;cases g.str L;split at q
   .rename_i hl;cases c:M.aW j i with
|none=>rw[c]at q;cases q
|some B=>
     rw[c]at q;cases q;refine .w<|.w ⟨aL j,i,B,rfl,rfl,by rw[Zg];have:=Jk;exact Ab4 ‹_› ‹_›,?_,aw.val m e2 o.j rfl trivial⟩;have:(aL j).j.u=j:=by simp[aL]
     exact c
   .cases q
  .cases c:O.seq? N with
|none=>rw[c]at q;cases q
|some S=>
    rw[c]at q;obtain⟨l,t,rfl,f,P⟩:=g.seq o.j c;obtain⟨v,e,rd⟩:=P.aW<|q;have w:=aw.val m e2 o.j rd trivial;obtain f|f:=f
    .exact .u ⟨l,t,i,v,rfl,rfl,u.K▸f,e,w⟩
    .exact .w<|.u ⟨l,t,i,v,rfl,rfl,u.K▸f,e,w⟩
 .cases q
end
section
variable{Y:Ge}{F:M.Fx}{X:Cx}{E:XK}{k:Nat}{cf:Cf}{a b c:M.E}{x y z:Expr}{pos p2:Pos}
def tx(xs:List α)(lo hi):M.cut xs lo hi=(xs.G<|HT.a8 xs.e 0 lo).A (HT.a8 xs.e xs.e hi-HT.a8 xs.e 0 lo):=by
 unfold M.cut;have e:∀d o,M.a8 xs.e d o=HT.a8 xs.e d o:=λd o=>by cases o<;>rfl
 rw[e,e]
theorem aa.cut (z:aa Y G H ds vs)(lo hi):aa Y G H (M.cut ds lo hi)<|mZ vs lo hi:=by rw[tx,z.length];exact(z.drop _).take _
set_option tactic.hygienic true in
def rV{b d:Option Int}(m:ah Y G0 h0 H0)(e:Ext G0 H0 G H)(i:ah Y G h H)(r:ak Y G H w v)
 (p:aw Y E G0 H0 (M.fG w b d h) λw _ G' H'=>∀v,ak Y G' H' w v->aI τ U H0 w v->Q v H'):((pM Y.K v b d H Q\/rb Y.K v b d H Q)\/rk Y.K v b d H Q)\/tj v b d H Q:=by
 unfold M.fG at p;split at p
 .rename_i z q;cases r.str q;split at p
  .rename_i c;have o:=Jk;refine .w ⟨_,rfl,by rw[Zg];exact Ab4 ‹_› ‹_›,?_⟩;have e1:mx (aL z) b d=aL (M.cut z b d):=by unfold mx;rw[Zg,tx];simp[aL]
   exact aA.v (aA.mk p e m) i rfl
  .exact p.j
 .split at p
  .rename_i k q;obtain⟨l,f,rfl,j,g⟩:=r.tup q;by_cases c:HT.a8 f.e 0 b=0/\HT.a8 f.e f.e d=f.e
   .have e2:M.cut k b d=k:=by rw[tx,g.length,c.1,c.2,UO,Yh,←g.length,Ap]
    rw[e2]at p;exact .u<|.w ⟨l,f,rfl,j.sq,c.1,c.2,p G H e i _ ⟨l,f,rfl,j,g⟩ trivial⟩
   .exact .u<|.u<|.w ⟨l,f,rfl,j.sq,c,λa n=>aA.tup (aA.mk p e m) i (g.cut b d) a n⟩
  .split at p
   .rename_i k q;obtain⟨l,f,rfl,j,g⟩:=r.lst i q;exact .u<|.u<|.u ⟨l,f,rfl,j,λa n=>aA.own (aA.mk p e m) i (g.cut b d) a n⟩
   .exact p.j
def L9(K:Ab1):V->Option Int->Option Int->Hp->VK->Prop:=λx lo hi H Q=>((pM K x lo hi H Q\/rb K x lo hi H Q)\/rk K x lo hi H Q)\/tj x lo hi H Q
def tL:g9 X<|L9 X.K:=((iq.or M4).or LJ).or sQ
def Im(A:Go Y F X E k cf){f g:M.E}(I:PE X x<|tD Y E<|M.eval F a)(D:PE X l<|tD Y E<|M.eval F f)(y:PE X u<|tD Y E<|M.eval F g):PE X (.w x (.Slice (y0 l) (y0 u) u0 p2) pos)<|tD Y E<|M.eval F<|.sl a f g:=by refine PE.imp (QW tL I (JW D)<|JW y) λU H Q t=>?_;obtain⟨G,J,h,s,p⟩:=t;refine Wa s.j Ext.refl s p λw1 v1 N L H1 e1 v e r P o=>Wa s.j e1 e o λV v2 h2 K H2 e2 b m q S p2=>?_;obtain⟨i,w,p2⟩:=p2.of;refine⟨i,q.int w,Wa s.j e2 m p2 λO v3 Z T W z d n C R c=>?_⟩;obtain⟨j,B,c⟩:=c.of;exact⟨j,C.int B,A.K▸rV s.j z n.j ((r.ext b e.j).ext d m.j) c⟩
def EB(o:Go Y F X E k cf){d:M.E}(t:PE X x<|tD Y E<|M.eval F a)(q:PE X l<|tD Y E<|M.eval F d):PE X (.w x (.Slice (y0 l) u0 u0 p2) pos)<|tD Y E<|M.eval F<|.eV a d:=by refine PE.imp (QW tL t (JW q) vC) λU H Q j=>?_;obtain⟨G,u,h,s,p⟩:=j;refine Wa s.j Ext.refl s p λJ v1 y w C e1 m c g z e=>Wa s.j e1 c e λB v2 I v D e2 b r f A p2=>?_;obtain⟨i,n,p2⟩:=p2.of;exact⟨i,f.int n,o.K▸rV s.j e2 r.j (g.ext b c.j) p2⟩
def Om(n:Go Y F X E k cf)(q:PE X x<|tD Y E<|M.eval F a)(m:PE X u<|tD Y E<|M.eval F hi):PE X (.w x (.Slice u0 (y0 u) u0 p2) pos)<|tD Y E<|M.eval F<|.eG a hi:=by refine PE.imp (QW tL q vC<|JW m) λU H Q g=>?_;obtain⟨G,r,h,s,p⟩:=g;refine Wa s.j Ext.refl s p λI v1 w v B e1 j c f y d=>Wa s.j e1 c d λA v2 D t C e2 b o e z p2=>?_;obtain⟨i,l,p2⟩:=p2.of;exact⟨i,e.int l,n.K▸rV s.j e2 o.j (f.ext b c.j) p2⟩
noncomputable def Gh.cell (G:Gh)(a:Addr):Gh:={G with aO:=λr=>if r=G.n then a else G.j r,n:=G.n+1}
def C9(a):Mon G H (G.cell a) H:=⟨λ_ _ _ z=>z,Af1 _,λr b=>by show(if r=G.n then a else G.j r)=_;rw[FM<|Ac1 ‹_›],λ_ z=>z⟩
def xJ{a:Addr}{c:M.Cell}(d:ah Y G h H)(n:¬G.w a)(k:dZ G a)(z:bE Y G H a c):ah Y (G.cell a) (h++[c]) H where
 len:=by rw[Aa5,d.w];rfl
 any:=λr i q=>by
  show¬G.w (if r=G.n then a else G.j r)/\bE Y (G.cell a) H (if r=G.n then a else G.j r) i;by_cases g:r=G.n
  .rw[Da g];rw[g,←d.w,Ae3<|Ab0 _,Ap8]at q;cases q;exact⟨n,z.mon (C9 a) λ_ e=>e⟩
  .rw[FM g];have j:r<G.n:=by have:=(Aa0.u q).1;rw[Aa5,d.w]at this;simp at this;lia
   rw[Ac2<|by rw[d.w];exact j]at q;exact⟨(d.C r i q).1,(d.C r i q).2.mon (C9 a) λ_ e=>e⟩
 inj:=λr s m l e=>by
  have m:r<G.n+1:=m;have l:s<G.n+1:=l;have e:(if r=G.n then a else G.j r)=(if s=G.n then a else G.j s):=e;by_cases f:r=G.n
  .by_cases b:s=G.n
   .lia
   .rw[Da f,FM b]at e;exact absurd e.u<|k s Y6
  .by_cases b:s=G.n
   .rw[FM f,Da b]at e;exact absurd e<|k r Y6
   .rw[FM f,FM b]at e;exact d.inj r s Y6 Y6 e
 live:=d.j
def uk{a:Addr}(d:ah Y G h H)(f:¬G.w a)(b:dZ G a)(e:H a=y0 (.x vs))(z:aa Y G H xs vs)(c:M.Gd xs=k9):ah Y (G.cell a) (h++[.x xs]) H:=xJ d f b ⟨c,vs,e,z⟩
def Oe{a:Addr}(c:ah Y G h H)(d:¬G.w a)(b:dZ G a)(e:H a=y0 (.ins (Y.j c0) dx0 [])):ah Y (G.cell a) (h++[.obj c0 []]) H:=xJ c d b ⟨dx0,[],e,rfl⟩
def XA{a:Addr}(e:Ext G0 H0 G H)(g:H0 a=u0):Ext G0 H0 (G.cell a) H where
 keep:=e.w
 le:=Ab4 e.le<|Af1 _
 aO:=λr d=>by show(if r=G.n then a else G.j r)=_;rw[FM<|by have:=e.le;lia];exact e.aO r d
 new:=λr f c=>by
  have c:r<G.n+1:=c;show H0 (if r=G.n then a else G.j r)=u0;by_cases b:r=G.n
  .rw[Da b];exact g
  .rw[FM b];exact e.new r f Y6
 fz:=e.fz
 old:=e.old
 cells:=e.u
def PV:PE X (.Dict [] [] pos)<|tD Y E<|M.eval F .dG:=by refine PE.imp Mg λU H Q c=>?_;obtain⟨G,d,h,s,p⟩:=c;intro a b;refine aw.val p (XA (Qt _ b) b) (xJ (s.j.new _ b) (λz=>by obtain⟨o,q⟩:=s.j.j a z;rw[b]at q;cases q) (s.j.gX b) ⟨rfl,[],Zb,rfl⟩) ?_ trivial;show h.e<G.n+1/\V.ref a=.j (if h.e=G.n then a else G.j h.e);rw[s.j.w,Da rfl];exact⟨Af5 _,rfl⟩
abbrev d4(b:List<|M.Tx×M.D)(a:List V):List<|Str×V:=(b.j λp=>aL p.1).a1 a
def jZ(e:M.GW h o=y0 (r,ks)):o=y0 (.v<|.j r)/\h[r]?=y0 (.aU ks):=by
 unfold M.GW at e;split at e
 .split at e
  .rename_i q;cases e;exact⟨rfl,q⟩
  .cases e
 .cases e
def qp(s:av Y G τ h U H)(e:M.GW h (M.Gm τ i)=y0 (r,ks)):U[i]?=y0 (y0<|.j<|G.j r)/\M.Gd (ks.j (·.2))=k9/\∃us,H (G.j r)=y0 (dS<|d4 ks us)/\aa Y G H (ks.j (·.2)) us:=by obtain⟨e1,e2⟩:=jZ e;obtain⟨v,b,c⟩:=s.u i _ e1;obtain⟨d,a⟩:=(c);subst a;exact⟨b,(s.j.C r _ e2).2⟩
def rX(a b):(aL a==aL b)=(a==b):=by
 cases q:a==b with
|true=>rw[eq_of_beq q];exact Tg _
|false=>exact beq_eq_false_iff_ne.w λz=>(beq_eq_false_iff_ne.u q)<|WF z
section
variable{G:Gh}{H:Hp}
theorem vw{k:M.Tx}:∀{ks}{us},aa Y G H (ks.j (·.2)) us->ks.u k=y0 d->∃v,(d4 ks us).u (aL k)=y0 v/\aD Y G H d v
|[],_,_,e=>by cases e
|(g,x)::fs,_,z7,e=>by
  obtain⟨v,r,rfl,a,b⟩:=z7;rw[Ad]at e;show∃w,((aL g,v)::d4 fs r).u (aL k)=y0 w/\_;rw[Ad,rX];cases q:k==g with
|true=>rw[q]at e;cases e;exact⟨v,rfl,a⟩
|false=>rw[q]at e;exact vw b e
theorem tH{k:M.Tx}:∀{ks}{us},aa Y G H (ks.j (·.2)) us->((d4 ks us).u<|aL k).w=(ks.u k).w
|[],_,_=>rfl
|(g,x)::fs,_,z7=>by
  obtain⟨v,r,rfl,b,a⟩:=z7;show(((aL g,v)::d4 fs r).u<|aL k).w=_;rw[Ad,Ad,rX];cases q:k==g with
|true=>rfl
|false=>exact tH a
theorem BC{k:M.Tx}:∀{ks}{us},aa Y G H (ks.j (·.2)) us->((d4 ks us).C λp=>u9<|p.1=aL k)=ks.C λp=>u9<|p.1=k
|[],_,_=>rfl
|(g,x)::fs,_,z7=>by obtain⟨v,r,rfl,b,a⟩:=z7;show(u9 (aL g=aL k)||(d4 fs r).C λp=>u9<|p.1=aL k)=(u9 (g=k)||fs.C λp=>u9<|p.1=k);rw[BC a];congr 1;exact decide_eq_decide.w ⟨WF,congrArg aL⟩
theorem Au{k:M.Tx}(rv:aD Y G H d v):∀{ks}{us},aa Y G H (ks.j (·.2)) us->∃j,aa Y G H ((ks.j λp=>if p.1=k then(p.1,d)else p).j (·.2)) j/\((d4 ks us).j λp=>if p.1=aL k then(p.1,v)else p)=d4 (ks.j λp=>if p.1=k then(p.1,d)else p) j
|[],_,rfl=>⟨[],rfl,rfl⟩
|(g,x)::fs,_,z7=>by
  obtain⟨u,r,rfl,c,f⟩:=z7;obtain⟨j,a,b⟩:=Au rv f;by_cases q:g=k
  .refine⟨v::j,?_,?_⟩
   .simp only[Ab2,q,Os];exact⟨v,j,rfl,rv,a⟩
   .show(if aL g=aL k then(aL g,v)else(aL g,u))::(d4 fs r).j _=d4 ((if g=k then(g,d)else(g,x))::fs.j _) (v::j);rw[b,Da<|congrArg aL q,Da q];rfl
  .have e:=λz=>q<|WF z;refine⟨u::j,?_,?_⟩
   .simp only[Ab2,q,TK];exact⟨u,j,rfl,c,a⟩
   .show(if aL g=aL k then(aL g,v)else(aL g,u))::(d4 fs r).j _=d4 ((if g=k then(g,d)else(g,x))::fs.j _) (u::j);rw[b,FM e,FM q];rfl
theorem wX{k:M.Tx}(rv:aD Y G H d v):∀{ks}{us},aa Y G H (ks.j (·.2)) us->aa Y G H ((ks++[(k,d)]).j (·.2)) (us++[v])/\d4 ks us++[(aL k,v)]=d4 (ks++[(k,d)]) (us++[v])
|[],_,rfl=>⟨⟨v,[],rfl,rv,rfl⟩,rfl⟩
|(g,x)::fs,_,z7=>by obtain⟨u,r,rfl,b,a⟩:=z7;exact⟨⟨u,_,rfl,b,(wX rv a).1⟩,congrArg ((aL g,u)::·) (wX rv a).2⟩
def Mn{k:M.Tx}(rv:aD Y G H d v)(z:aa Y G H (ks.j (·.2)) us):∃j,aa Y G H ((M.GG ks k d).j (·.2)) j/\kq (d4 ks us) (aL k) v=d4 (M.GG ks k d) j:=by
 unfold M.GG kq;rw[BC z];by_cases c:(ks.C λp=>u9<|p.1=k)=k9
 .rw[Da c,Da c];exact Au rv z
 .rw[FM c,FM c];exact⟨_,wX rv z⟩
end
theorem WQ:∀{ds},M.Gd ds=k9↔∀d∈ds,M.Gc d=k9
|[]=>⟨λ_ _ h=>absurd h Ag2,λ_=>rfl⟩
|d::ds=>by rw[Aa2,WQ,List.forall_mem_cons]
def OZ{k:M.Tx}(b:M.Gc d=k9)(z:M.Gd (ks.j (·.2))=k9):M.Gd ((M.GG ks k d).j (·.2))=true:=by
 rw[WQ]at z⊢;unfold M.GG;split
 .intro y a;rw[Ad9,Ab7]at a;obtain⟨p,c,rfl⟩:=a;dsimp only[Function.comp];split
  .exact b
  .exact z _<|Al2 c
 .intro y a;rw[Ad4,Ac6]at a;obtain a|a:=a
  .exact z y a
  .cases Ac8.u a;exact b
def R7(z:aa Y G H (ks.j (·.2)) us):(d4 ks us).e=ks.e:=by have:=z.length;rw[Aa]at this;rw[An3,Aa];lia
def DL:R2:=λx y H Q=>∃k a kvs v,y=.u k/\x=.j a/\H a=y0 (dS kvs)/\kvs.u k=y0 v/\Q v H
def Cd:hV X DL:=by rintro b c f p U H x y v u Q I i g ⟨k,a,m,d,j,ex,e,h,q⟩ l;subst ex j;cases i;obtain⟨_,_,_,_,dd⟩:=lh I e;exact tail_any dd.mapOf.typeIs slot_dict_getitem.u (HV I e g h λo s n r=>⟨_,H,n,r,q⟩) l
def Ed(neg:Bool):R2:=λx y H Q=>∃k a kvs,x=.u k/\y=.j a/\H a=y0 (dS kvs)/\Q (.I<|if neg then !(kvs.u k).w else(kvs.u k).w) H
def yr(neg):cn X (compareOp<|ot neg)<|Ed neg:=by
 rintro d j U H x y v u Q I e f ⟨k,a,i,ex,g,c,q⟩;subst ex g;cases f;cases neg with
|false=>exact Sv I c e λh b=>⟨.I _,H,b,rfl,q⟩
|true=>exact Hq I c e λh b=>⟨.I _,H,b,rfl,q⟩
def SO:V->V->V->Hp->(Hp->Prop)->Prop:=λo i v H Q=>∃k a kvs,i=.u k/\o=.j a/\H a=y0 (dS kvs)/\kvs.e<sizeLine/\Q (aH H a<|dS<|kq kvs k v)
def RU:sJ X SO:=by rintro b n U H o i v r l u Q I c g rv ⟨k,a,m,f,d,e,h,q⟩;subst f d;cases c;exact Et I e g rv h λp j=>⟨_,j,q⟩
def Eg:List V->Hp->VK->Prop:=λvs H Q=>∃a kvs,vs=[.j a]/\H a=y0 (dS kvs)/\∀p,H p=u0->Q (.j p) (aH H p<|dS kvs)
def EL:zr X (.w "dict") Eg:=by
 rintro b k U H j l Q I rv ⟨a,h,d,e,q⟩;subst d;cases rv with
|cons f c=>cases c;cases f;exact OG I e λp m g i=>⟨.j p,_,i,rfl,q p g⟩
def OX(w:PE X x<|tD Y E<|M.eval F a):PE X x<|tD Y E<|M.eval F<|.a5 a:=by
 refine PE.imp w λU H Q j=>?_;obtain⟨G,y,h,s,p⟩:=j;refine Wa s.j Ext.refl s p λt v1 c d B e1 k g i n b=>?_;cases t with
|own e=>
  obtain⟨l,z,rfl,v,u,o,q⟩:=i;obtain⟨A,m,r⟩:=n;cases m;have b:aw Y E G H (if M.Gd e=k9 then M.aj _ (c++[.x e])else .w) _:=b;by_cases f:M.Gd e=k9;rotate_left
  .rw[FM f]at b;exact b.j
  rw[Da f]at b;refine aw.val b (XA e1 r) (uk g.j v u o q f) ?_ trivial;show c.e<d.n+1/\V.ref l=.j (if c.e=d.n then l else d.j c.e);rw[g.j.w,Da rfl];exact⟨Af5 _,rfl⟩
|_=>exact b.j
end
structure WT(Y:Ge)(J:It)(ds:List M.D)(C:Gh->Hp->Prop):Prop where
 go:∀i G H,C G H->i<ds.e->J.go i H
 gr:∀i G H x H',C G H->i<ds.e->J.gr i H x H'->∃G',Ext G H G' H'/\(∀h,ah Y G h H->ah Y G' h H')/\∃d,ds[i]?=y0 d/\aD Y G' H' d x
 stop:∀i G H,C G H->ds.e<=i->i<=ds.e->J.stop i H
 keep:∀G H G' H' h,C G H->Ext G H G' H'->ah Y G h H->C G' H'
noncomputable def Jo(τ:M.Sl)(U:St)(H:Hp):Hp:=λa=>open Classical in if∃(i:Nat)(xs:List M.D),M.Gm τ i=y0 (.j xs)/\U[i]?=y0 (y0<|.j a)then u0 else H a
def gQ(Y:Ge)(E:XK)(a:Bool)(m:M.Sl->M.AH->M.R (List M.D)):TI:=λU H R=>∃G τ h,av Y G τ h U H/\aw Y E G H (m τ h) λds _ G' H'=>∀J C,WT Y J ds C->C G' H'->(a=k9->C G' (Jo τ U H'))->R J H'
def PI.imp (h:PI X tg e t)(k:∀U H R,t' U H R->t U H R):PI X tg e t':=λa s U H R I q=>h a s U H R I<|k _ _ _ q
section
variable{Y:Ge}{F:M.Fx}{X:Cx}{E:XK}{k:Nat}{cf:Cf}{a b c:M.E}{x y z tg:Expr}{pos p2:Pos}{lp:Bool}
def nM(Y:Ge)(G:Gh)(H:Hp)(l:Addr)(vs:List V):Prop:=(Rd H l (.x vs)/\dZ G l)\/vL Y l vs
def CL(Y:Ge)(ds:List M.D)(l:Addr)(vs:List V)(G:Gh)(H:Hp):Prop:=nM Y G H l vs/\aa Y G H ds vs
def nM.sq (z:nM Y G H l vs):bu Y.K H l vs:=z.j (λz=>.u z.1) .w
def kB.tu (z:kB Y G H l vs)(a:ah Y G h H):nM Y G H l vs:=z.j (λz=>.u ⟨z.2,a.off z.1⟩) .w
def CL.keep (z:CL Y ds l vs G H)(e:Ext G H G' H')(c:ah Y G h H):CL Y ds l vs G' H':=by
 obtain⟨a,d⟩:=z;refine⟨?_,d.ext e c⟩;obtain⟨a,b⟩|a:=a
 .refine .u ⟨e.rd a b,?_⟩;obtain a|⟨o,a⟩:=a
  .exact e.off a b
  .exact e.off a b
 .exact .w a
def CL.walk {K:Ab1}(d:K=Y.K):WT Y (mB K l) ds<|CL Y ds l vs where
 go:=by rintro i G H ⟨b,c⟩ a;obtain⟨v,e,_⟩:=c.get<|Aa1 a;exact⟨vs,v,d▸b.sq,e⟩
 gr:=by rintro i G H x g ⟨b,c⟩ a ⟨e,y⟩;subst e;obtain⟨v,e,rd⟩:=c.get<|Aa1 a;have:=y vs<|d▸b.sq;rw[e]at this;cases this;exact⟨G,Ext.refl,λ_ q=>q,_,Aa1 a,rd⟩
 stop:=(by rintro i G H⟨b,c⟩a _;exact⟨vs,d▸b.sq,by rw[←c.length];exact a⟩)
 keep:=λG H j g h z e f=>z.keep e f
def CT(Y:Ge)(ds:List M.D)(l:Addr)(vs:List V)(G:Gh)(H:Hp):Prop:=f7 Y G H l vs/\aa Y G H ds vs
def f7.mon (z:f7 Y G H l vs)(e:Mon G H G' H'):f7 Y G' H' l vs:=z.j (λz=>.u ⟨e.fz l z.1,e.keep l _ z.1 z.2⟩) λz=>.w z
def CT.walk {K:Ab1}(d:K=Y.K):WT Y (mG K l) ds<|CT Y ds l vs where
 go:=by rintro i G H ⟨b,c⟩ a;obtain⟨v,e,_⟩:=c.get<|Aa1 a;exact⟨vs,v,d▸b.sq,e⟩
 gr:=by rintro i G H x g ⟨b,c⟩ a ⟨e,y⟩;subst e;obtain⟨v,e,rd⟩:=c.get<|Aa1 a;have:=y vs<|d▸b.sq;rw[e]at this;cases this;exact⟨G,Ext.refl,λ_ q=>q,_,Aa1 a,rd⟩
 stop:=(by rintro i G H⟨b,c⟩a _;exact⟨vs,d▸b.sq,by rw[←c.length];exact a⟩)
 keep:=λG H j g h z e f=>⟨z.1.mon<|e.mon f,z.2.ext e f⟩
def SR{b:Int}:WT Y (o3 b n) ((Aa6 n).j λ(i:Nat)=>M.D.int<|b+(i:Int))<|λ_ _=>True where
 go:=λi G H _ a=>show i<n by simpa using a
 gr:=λi G H x d _ a c=>by
  obtain⟨e,y⟩:=c;subst e y;have a:=by simpa using a
  exact⟨G,Ext.refl,λ_ q=>q,.p<|b+i,by simp[a],rfl⟩
 stop:=λi G H _ a _=>show n<=i by simpa using a
 keep:=λ_ _ _ _ _ _ _ _=>trivial
def Zl(a:¬∃i xs,M.Gm τ i=y0 (.j xs)/\U[i]?=y0 (y0<|.j l)):Jo τ U H l=H l:=by unfold Jo;rw[FM a]
def xu(s:av Y G τ h U H)(e:M.Gm τ i=y0 (.j xs))(f:U[i]?=y0 (y0<|.j l)):¬G.w l/\dZ G l/\∃vs,H l=y0 (.x vs)/\aa Y G H xs vs:=by obtain⟨v,b,a,vs,k,j,c,d,g⟩:=s.u i _ e;rw[f]at b;cases b;cases k;exact⟨j,c,vs,d,g⟩
def Wy(s:av Y G τ h U H):Mon G H G<|Jo τ U H:=by
 refine⟨λa o z e=>?_,Ab0 _,λ_ _=>rfl,λ_ z=>z⟩
 rwa [Zl<|by rintro⟨i,d,c,b⟩;exact(xu s c b).1 z]
section
open PySem.Calls PySem.W PyProof.Rows
def yB(K:Ab1)(b:TE):TI:=λU H R=>b U H λx H1=>(∃a,x=.j a/\(∃xs,bu K H1 a xs)/\R (mB K a) H1)\/∃a,x=.j a/\(∃xs,de K H1 a xs)/\R (mG K a) H1
def yM(a:Inv X pins U H s):∀b∈[s.j.u.j],bJ X pins H b:=λb c=>by
 have e:=by simpa using c
 subst e;exact a.eE (Ab0 _)<|a.aT.fresh<|Ab0 _
def qO(t:PE X l tl):PI X tg l<|yB X.K tl:=by
 intro d s U H R I h;refine aN (t d s U H _ I h) ?_;rintro v f ⟨x,k,c,j,r⟩;rcases r with⟨a,e,⟨n,g⟩,q⟩|⟨a,e,⟨n,g⟩,q⟩
 .subst e;cases j;obtain⟨i,rv,p,m⟩:=c.G g;exact Ta p.K ⟨f.j.u.j,[f.j.u.j],_,_,k,rfl,c.kept λb o e=>Aa8 _ e,Lr a _,⟨_,Ac4 _ rfl,rfl,rfl⟩,yM c,q⟩
 .subst e;cases j;obtain⟨i,rv,p,m⟩:=c.tuple g;exact wpAny_pyIter_tuple (p) ⟨f.j.u.j,[f.j.u.j],_,_,k,rfl,c.kept λb o e=>Aa8 _ e,EY a _,⟨_,Ac4 _ rfl,rfl,rfl⟩,yM c,q⟩
end
def wU(q:Go Y F X E k cf)(L:PE X x<|tD Y E<|M.eval F a):PI X tg x<|gQ Y E y9<|M.Gk F<|.j a:=by
 refine PI.imp (qO L) λU H R D=>?_;obtain⟨G,A,h,s,p⟩:=D;refine Wa s.j Ext.refl s p λK v1 B n e e1 I r o N j=>?_;have lst:∀{c},aw Y E G H (.j c B) (λc x y u=>∀J C,WT Y J c C->C y u->(y9=k9->C y (Jo A U u))->R J u)->(∃l b,v1=.j l/\nM Y n e l b/\aa Y n e c b)→
  (∃a,v1=.j a/\(∃t,bu X.K e a t)/\R (mB X.K a) e)\/∃a,v1=.j a/\(∃t,de X.K e a t)/\R (mG X.K a) e:=λ{c} p ⟨l,b,f,i,m⟩=>
  .u ⟨l,f,⟨b,q.K▸i.sq⟩,p n e e1 r.j _ _ (CL.walk q.K) ⟨i,m⟩ λz=>absurd z Ac0⟩
 cases K with
|v d=>
  cases d with
 |tup c=>obtain⟨l,b,rfl,i,g⟩:=o;exact .w ⟨l,rfl,⟨b,q.K▸i.sq⟩,j n e e1 r.j _ _ (CT.walk q.K) ⟨i,g⟩ λz=>absurd z Ac0⟩
 |lst c=>obtain⟨l,b,f,i,g⟩:=o;exact lst j ⟨l,b,f,i.tu r.j,g⟩
 |_=>exact j.j
|own c=>obtain⟨l,b,f,_,g,m,w⟩:=o;exact lst j ⟨l,b,f,.u ⟨.u m,g⟩,w⟩
|bor c=>obtain⟨l,b,f,g,m,w⟩:=o;exact lst j ⟨l,b,f,.u ⟨m,g⟩,w⟩
def MJ(n:Int):((Aa6 n.j).j λ(i:Nat)=>M.D.int (i:Int))=(Aa6 n.j).j λ(i:Nat)=>M.D.int<|0+(i:Int):=by congr 1;funext i;rw[Int.zero_add]
def R9:"range"∈bS:=by decide
def zL(d:Go Y F X E k cf)(o:bV cf.u "range" g=true)(e:jb x=true)(u:PE X x<|tD Y E<|M.eval F a):PI X tg (.y g [x] [] pos)<|gQ Y E lp<|M.Gk F<|.ar a:=by
 obtain⟨p,rfl,t,z⟩:=qc o;refine PI.imp (SI (d.gl _ t) (d.u _ R9) (Ze u ql<|Xa e)<|Xa e) λU H R l=>?_;obtain⟨G,v,h,s,p⟩:=l;refine Wa s.j Ext.refl s p λA v1 w i r e1 m f j y b=>?_;obtain⟨n,q,b⟩:=b.of;split at b
 .rename_i c;rw[M.GL]at c;cases j.int q;rw[MJ]at b;exact⟨n,rfl,c.1,c.2,b i r e1 f.j _ _ SR trivial λ_=>trivial⟩
 .exact b.j
end
section
variable{Y:Ge}{F:M.Fx}{X:Cx}{E:XK}{k:Nat}{cf:Cf}
theorem xl:∀(τ)(i j)(w),M.Gm (M.GD τ i w) j=if j=i/\i<τ.e then y0 w else M.Gm τ j
|[],i,j,w=>by simp
|x::r,0,0,w=>by simp
|x::r,0,j+1,w=>by simp
|x::r,i+1,0,w=>by simp
|x::r,i+1,j+1,w=>by
  have:=xl r i j w;simp only[M.GD,M.Gm,this,Aa9];by_cases h:j=i/\i<r.e
  .rw[Da h,Da Y6]
  .rw[FM h,FM Y6]
theorem xy:∀(τ)(i)(w),(M.GD τ i w).e=τ.e
|[],_,_=>rfl
|_::_,0,_=>rfl
|_::r,i+1,w=>by simp[xy r i w]
theorem qy:∀{τ}{i}{w},M.Gm τ i=y0 w->i<τ.e
|[],_,_,e=>by simp at e
|_::_,0,_,_=>by simp
|_::r,i+1,w,e=>by have:=qy (by simpa using e);simp;exact‹_›
theorem av.set (s:av Y G τ h U H)(r:ak Y G H w v)
 (l:eA w=k9->∀j L,j≠i->M.Gm τ j=y0 L->eA L=k9->∀a,v=.j a->U[j]?≠y0 (y0<|.j a)):av Y G (M.GD τ i w) h (U.y i<|y0 v) H where
 len:=by rw[xy,Ad5];exact s.len
 slot:=λj L e=>by
  rw[xl]at e;by_cases c:j=i/\i<τ.e
  .rw[Da c]at e;cases e;obtain⟨rfl,c⟩:=c;exact⟨v,Ab8<|by rw[←s.len];exact c,r⟩
  .rw[FM c]at e;have x:=λz=>c ⟨z,by subst z;exact qy e⟩;obtain⟨n,u,y⟩:=s.u j L e;exact⟨n,by rw[Ad3<|Ne.symm x];exact u,y⟩
 apart:=λp q t L a b e1 e2 k g=>by
  rw[xl]at e1 e2;by_cases d:p=i/\i<τ.e
  .rw[Da d]at e1;cases e1;obtain⟨rfl,d⟩:=d;rw[FM<|λz=>b z.1.u]at e2;rw[Ab8<|by rw[←s.len];exact d]at g;cases g;rw[Ad3 b];exact l rfl q L (Ne.symm b) e2 k a rfl
  .rw[FM d]at e1;have m:=λz=>d ⟨z,by subst z;exact qy e1⟩;rw[Ad3<|Ne.symm m]at g;by_cases f:q=i/\i<τ.e
   .rw[Da f]at e2;cases e2;obtain⟨rfl,f⟩:=f;rw[Ab8<|by rw[←s.len];exact f];intro z;cases z;exact l k p _ m e1 rfl a rfl g
   .rw[FM f]at e2;have o:=λz=>f ⟨z,by subst z;exact qy e2⟩;rw[Ad3<|Ne.symm o];exact s.w p q t L a b e1 e2 k g
 heap:=s.j
def av.ej (s:av Y G τ h U H)(r:aD Y G H d v):av Y G (M.GD τ i<|.v d) h (U.y i<|y0 v) H:=s.set r λz=>by cases z
noncomputable def iS:List Nat->List V->St->St
|i::is,v::vs,U=>iS is vs<|U.y i<|y0 v
|_,_,U=>U
theorem wR:∀{is}{ds}{vs}{τ j}{U},M.a9 is ds τ=y0 j->aa Y G H ds vs->av Y G τ h U H->av Y G j h (iS is vs U) H/\is.e=vs.e
|[],[],_,_,_,_,e,rfl,s=>by cases e;exact⟨s,rfl⟩
|[],_::_,_,_,_,_,e,_,_=>by simp[M.a9]at e
|_::_,[],_,_,_,_,e,_,_=>by simp[M.a9]at e
|i::is,d::ds,_,_,_,_,e,z7,s=>by obtain⟨v,r,rfl,a,f⟩:=z7;obtain⟨c,b⟩:=wR (by simpa[M.a9]using e) f<|s.ej a;exact⟨c,congrArg (·+1) b⟩
def gM(Y:Ge)(b:List Nat)(one:Bool):TG:=λv U H Q=>match one with
|true=>∃i,b=[i]/\Q (U.y i<|y0 v) H
|false=>∃G ds vs a,v=.j a/\f7 Y G H a vs/\aa Y G H ds vs/\b.e=vs.e/\Q (iS b vs U) H
theorem yq(b:Go Y F X E k cf):∀{is}{es},qC cf is es=k9->nD X es (λvs U H Q=>vs.e=is.e/\Q (iS is vs U) H)
|[],[],_=>λa s U H vs f Q I r h=>by have c:=Ak h.1;subst c;exact Dx a s U H [] f Q I r ⟨rfl,h.2⟩
|[],_::_,h=>by simp[qC]at h
|_::_,[],h=>by simp[qC]at h
|i::is,e::es,h=>by
  cases e with
|Name x p=>
   simp only[qC,Aa2,L2]at h;obtain⟨⟨g,l⟩,j⟩:=h;have m:=yq b j;have c:=b.gz x l;have d:=QV (r9 (pos:=p) (by rw[b.N];exact b.nd) (by rw[b.N];exact g) c.1 c.2) m;intro a s U H vs f Q I r q;refine d a s U H vs f Q I r ?_;cases vs with
 |nil=>simp at q
 |cons v vs=>refine⟨v,vs,rfl,?_⟩;exact⟨by simpa using q.1,q.2⟩
|_=>simp[qC]at h
theorem C8:∀{is}{es},qC cf is es=k9->(assignEach es env).e=is.e/\(assignEach es env).findIdx? (·.1)=u0
|[],[],_=>⟨rfl,rfl⟩
|[],_::_,h=>by simp[qC]at h
|_::_,[],h=>by simp[qC]at h
|i::is,e::es,h=>by
  cases e with
|Name x p=>simp only[qC,Aa2]at h;obtain⟨b,a⟩:=C8 h.2;have e1:assignEach (.j x p::es) env=(y9,assign (.j x p) env)::assignEach es env:=rfl;rw[e1];refine⟨congrArg (·+1) b,?_⟩;rw[List.findIdx?_cons];simp[a]
|_=>simp[qC]at h
def zo(c:Go Y F X E k cf)(h:qd cf tg one e=k9):PG X e<|gM Y tg one:=by
 cases one with
|true=>
  cases e with
 |Name x p=>
   simp[qd,Aa2]at h;cases tg with
   |nil=>simp at h
   |cons i r=>
    cases r with
   |cons _ _=>simp at h
   |nil=>simp only[qC,Aa2,L2]at h;obtain⟨_,⟨A,y⟩,_⟩:=h;have g:=c.gz x y;have d:=r9 (pos:=p) (by rw[c.N];exact c.nd) (by rwa [c.N]) g.1 g.2;intro b s U H v u Q I r q;obtain⟨j,e,q⟩:=q;cases e;exact d b s U H v u Q I r q
 |_=>simp[qd]at h
|false=>
  cases e with
|Tuple B n p=>obtain⟨m,h⟩:=a2<|h;obtain⟨t,f⟩:=C8 h;intro b s U H v u Q I r q;obtain⟨G,z,o,a,rfl,w,C,l,q⟩:=q;exact(yH (c.y m) (yq c h) t f) b s U H _ u Q I r ⟨a,o,rfl,c.K▸w.sq,l.u,l.u,q⟩
|_=>simp[qd]at h
def zp(k)(l):∀i,M.Gm (Aa7 k u0++l) (k+i)=M.Gm l i:=by
 induction k with
|zero=>intro i;simp
|succ k a=>intro i;rw[Ag1,show k+1+i=(k+i)+1 by lia];exact a i
def Zw(k)(l):∀{i},i<k->M.Gm (Aa7 k u0++l) i=none:=by
 induction k with
|zero=>intro i h;lia
|succ k a=>
  intro i h;cases i with
|zero=>rfl
|succ i=>rw[Ag1];exact a<|On ‹_›
theorem JI:∀(l)(i),M.Gm l i=(l[i]?).join
|[],_=>by simp
|_::_,0=>by simp
|_::r,i+1=>by simpa using JI r i
def zQ(s:av Y G τ h U H)(e:M.Gi τ j=y0 w):∃v,U[j]?=y0 (y0 v)/\ak Y G H w v/\(eA w=k9->∃L,M.Gm τ j=y0 L/\eA L=k9)/\oU w=true:=by
 unfold M.Gi at e;cases q:M.Gm τ j with
|none=>rw[q]at e;cases e
|some L=>
  obtain⟨v,b,c⟩:=s.u j L q;rw[q]at e;cases L with
|v d=>cases e;exact⟨v,b,c,λz=>(by cases z),rfl⟩
|own i=>cases e;obtain⟨a,g,m,n,k,l,f⟩:=c;exact⟨v,b,⟨a,g,m,k,.u l,f⟩,λ_=>⟨_,rfl,rfl⟩,rfl⟩
|bor i=>cases e;exact⟨v,b,c,λ_=>⟨_,rfl,rfl⟩,rfl⟩
def lZ(k:Nat)(ax:List Nat)(τ:M.Sl):M.Sl:=Aa7 k u0++ax.j λj=>M.Gi τ j
def Hh(s:av Y G τ h U H)(kk)(ax)(b:Ub.e=kk+ax.e)(d:∀i,i<ax.e->Ub[kk+i]?=y0 ((U[ax.I i 0]?).join)):
 av Y G (lZ kk ax τ) h Ub H where
 len:=by unfold lZ;rw[Aa5,Af,Aa,b]
 slot:=λi w e=>by
  unfold lZ at e;by_cases f:i<kk
  .rw[Zw kk _ f]at e;cases e
  .obtain⟨j,rfl⟩:∃j,i=kk+j:=⟨i-kk,by lia⟩;rw[zp,JI,Ab9]at e;cases q:ax[j]? with
|none=>rw[q]at e;cases e
|some c=>rw[q]at e;have e:=e;obtain⟨v,l,n,_⟩:=zQ s e;have m:=(Aa0.u q).1;refine⟨v,?_,n⟩;rw[d j m,Ac9,q];show y0 ((U[c]?).join)=_;rw[l];rfl
 apart:=λi j o w a k e1 e2 r p=>by
  exfalso;unfold lZ at e1;by_cases f:i<kk
  .rw[Zw kk _ f]at e1;cases e1
  .obtain⟨g,rfl⟩:∃j,i=kk+j:=⟨i-kk,by lia⟩;rw[zp,JI,Ab9]at e1;cases q:ax[g]? with
|none=>rw[q]at e1;cases e1
|some c=>rw[q]at e1;have e1:=e1;obtain⟨_,_,_,_,z⟩:=zQ s e1;cases z
 heap:=s.j
end
def Wg{env:Env}{a:NameKind}(b:a≠.y){names x}(h:names.u x=y0 a):(kP env names).u x=y0 a:=by rw[rl,h,Al7,FM];simp[b]
section
open Lake renaming MS.Ext.trans->Lake.MS.Ext.j
variable{Y:Ge}{F:M.Fx}{X:Cx}{E:XK}{k:Nat}{cf:Cf}
structure kf(cf:Cf)(scope:Scope)(N:List Str)(k:Nat)(ax:List Nat):Prop where
 kind:scope.u=.j
 Nb:(scope.j.j Prod.fst).M
 names:∀y∈scope.j,y.2=.local->scope.j.u y.1=y0 .local
 free:∀y∈scope.j,y.2=.y->cf.u.j.u y.1=y0 .u\/cf.u.j.u y.1=y0 .y
 lN:∀x∈N.G k,scope.j.u x=y0 .y
 ax:XM cf ax (N.G k)=k9
 le:k<=N.e
 nd:N.M
 cb:cf.cb=k9
def Qp(h:jU cf scope N kk ax=k9):kf cf scope N kk ax:=by simp only[jU,Aa2,L2,Ad0]at h;obtain⟨⟨⟨⟨⟨⟨⟨⟨⟨c,i⟩,d⟩,a⟩,j⟩,g⟩,b⟩,f⟩,e⟩,k⟩:=h;exact⟨i,d,a,j,g,b,f,e,c⟩
theorem W3(a:Go Y F X E k cf):∀{ax}{xs},XM cf ax xs=k9->cM X ax xs
|[],[],_=>trivial
|[],_::_,h=>by simp[XM]at h
|_::_,[],h=>by simp[XM]at h
|j::js,x::xs,h=>by simp only[XM,Aa2,L2]at h;obtain⟨⟨d,c⟩,b⟩:=h;exact⟨by rw[a.N];exact d,a.kK x c,W3 a b⟩
def qB(a:Go Y F X E k cf)(h:kf cf scope N kk ax):nj X scope N kk ax:=
 ⟨h.kind,h.Nb,h.names,λy b c=>a.kK y.1<|h.free y b c,h.lN,W3 a h.ax,h.le⟩
def vr(h:JO sc x=k9):sc.j.u x=y0 .local\/sc.j.u x=y0 .u\/sc.j.u x=y0 .y:=by
 unfold JO at h;split at h
 .rename_i q;exact .u q
 .rename_i q;exact .w<|.u q
 .rename_i q;exact .w<|.w q
 .cases h
def yD(h:iU sc x=k9):sc.j.u x=y0 .local\/sc.j.u x=y0 .u:=by
 unfold iU at h;split at h
 .rename_i q;exact .u q
 .rename_i q;exact .w q
 .cases h
def tW(h:mh sc x=k9):sc.j.u x=y0 .globalImplicit:=by
 unfold mh at h;split at h
 .rename_i q;exact q
 .cases h
def Wj(a:Go Y F X E k cf)(h:kf cf scope N kk ax)(C:Addr)(v:List Addr)(s:Shared)(H:Hp):Go Y F (Xc X N scope C v s H) E0 k {cf with sc:=scope,N:=N} where
 N:=rfl
 K:=a.K
 cl:=a.cl
 ow:=a.ow
 nd:=h.nd
 gP:=λx b=>by
  rcases vr b with q|q|q
  .exact .u<|Wg Y5 q
  .exact .w<|.u<|Wg Y5 q
  .exact .w<|Wp q
 lx:=λx b=>Wg Y5 b
 gz:=λx b=>by
  rcases yD b with q|q
  .exact⟨.u<|Wg Y5 q,.w<|Wg Y5 q⟩
  .exact⟨.w<|Wg Y5 q,.u<|FB q⟩
 kK:=λx b=>by
  rcases b with q|q
  .exact .u<|Wg Y5 q
  .exact Wp q
 gl:=λx b=>Wg Y5<|tW b
 calm:=a.y
 room:=a.room
 cq:=a.cq
 pass:=λo U y z e r _ p=>by obtain⟨x,w,t,B,A,_,_,_,_,_,_,_,_,_,_,u⟩:=p;exact u.j
 blt:=a.u
 con:=a.con
 fn:=λf d=>by obtain⟨c,l,j,i,n,m,g⟩:=(a.fn f d).imp λc h=>h.ex;exact⟨c,⟨l,j,i,n,m,g⟩⟩
 mw:=λf d=>by obtain⟨c,l,j,i,n,m,g⟩:=(a.mw f d).imp λc h=>h.ex;exact⟨c,⟨l,j,i,n,m,g⟩⟩
 cls:=a.cls
 fld:=a.fld
 iW:=a.iW
 ft:=a.ft
theorem BM:∀(is)(vs)(U)(j),j∉is->(iS is vs U)[j]?=U[j]?
|[],_,_,_,_=>rfl
|_::_,[],_,_,_=>rfl
|i::is,v::vs,U,j,h=>by show(iS is vs<|U.y i<|y0 v)[j]?=U[j]?;rw[BM is vs _ j λz=>h<|Aa3 _ z,Ad3<|λz:i=j=>h<|by rw[z];exact Aa4]
theorem qN:∀(is)(vs)(U),(iS is vs U).e=U.e
|[],_,_=>rfl
|_::_,[],_=>rfl
|i::is,v::vs,U=>by show(iS is vs<|U.y i<|y0 v).e=U.e;rw[qN is vs,Ad5]
def ab(e:M.Gr tg one d τ=y0 τ')(r:aD Y G H d x)(s:av Y G τ h U H)
 (f:∀L,av Y G τ' h L H->(∀j,j∉tg->L[j]?=U[j]?)->L.e=U.e->Q L H):gM Y tg one x U H Q:=by
 cases one with
|true=>
  cases tg with
 |nil=>cases e
 |cons i l=>
   cases l with
 |cons _ _=>cases e
 |nil=>cases e;exact⟨i,rfl,f _ (s.ej r) (λj c=>Ad3 λz=>c<|by simp[z])<|Ad5 ..⟩
|false=>
  cases d with
|tup k=>obtain⟨a,b,rfl,o,g⟩:=r;obtain⟨m,n⟩:=wR (e) g s;exact⟨G,k,b,a,rfl,o,g,n,f _ m (λj c=>BM tg b U j c)<|qN tg b U⟩
|_=>cases e
def Z2{step:M.D->M.AH->M.R (Option M.D)}:∀{ds}{h}{d}{h'},M.Gu step ds h≠.exc d h'
|[],_,_,_=>λe=>by cases e
|x::ds,h,d,h'=>λe=>by
  rw[M.Gu]at e;split at e
  .split at e<;>cases e
  .cases e
set_option tactic.hygienic true in
def M6{step:M.D->M.AH->M.R (Option M.D)}(e:M.Gu step (x::ds) h=.j ys hf):∃o h1 r,step x h=.j o h1/\M.Gu step ds h1=.j r hf/\ys=(match o with|some y=>y::r|none=>r):=by
 rw[M.Gu]at e;split at e
 .rename_i o h1 e1;split at e
  .rename_i r a e2;cases e;exact⟨o,h1,r,e1,e2,rfl⟩
  .cases e
 .cases e
def oO(F:M.Fx)(g:List Nat)(one:Bool)(f:M.Sl)(a:Bool)(c elt:M.E):M.D->M.AH->M.R (Option M.D):=λd h=>match M.Gr g one d f with
|none=>.w
|some e=>(if a then(M.eval F c e h).u λx h=>M.R.of h (M.GY h x)else .j k9 h).u λb h=>match b with
|true=>(M.eval F elt e h).u λy h=>(M.R.of h y.d).u λy h=>.j (y0 y) h
|false=>.j u0 h
def LC:M.eval F (.M tg one kk ax it k6 c elt) τ h=(M.Gk F it τ h).u λds h=>
 if ds.e<=M.bh then(M.Gu (oO F tg one (lZ kk ax τ) k6 c elt) ds h).u λys h=>.j (.j ys) h else .w:=by
 rw[M.eval];rfl
noncomputable def XH(F:M.Fx)(a:Bool)(c:M.E):M.Sl->M.AH->M.R Bool:=λτ h=>if a then M.Gn F c τ h else .j k9 h
def zi{r:M.R α}(e:r.u f=.j b h):∃a h1,r=.j a h1/\f a h1=.j b h:=by
 cases r with
|ok a h1=>exact⟨a,h1,rfl,e⟩
|_=>cases e
def zN(a:Xh iter=k9):∀v,foldedSetIterable iter env v=pure v:=λv=>by cases iter<;>first|rfl|(simp[Xh]at a)
set_option tactic.hygienic true in
def R0(e:oO F tg one τb k6 c elt d h=.j o h2):
 ∃j b L,M.Gr tg one d τb=y0 j/\XH F k6 c j h=.j b L/\(b=y9->o=u0/\h2=L)/\(b=k9->∃w y,M.eval F elt j L=.j w h2/\w.d=y0 y/\o=y0 y):=by
 unfold oO at e;split at e
 .cases e
 .rename_i j l;obtain⟨b,L,i,a⟩:=zi e;refine⟨j,b,L,l,i,λz=>?_,λz=>?_⟩
  .subst z;cases(a);exact⟨rfl,rfl⟩
  .subst z;obtain⟨w,p,k,a⟩:=zi<|a;obtain⟨y,n,f,a⟩:=zi a;cases g:w.d with
|none=>rw[g]at f;cases f
|some m=>rw[g]at f;cases f;cases a;exact⟨w,_,k,g,rfl⟩
def SV(Y:Ge)(st:M.D->M.AH->M.R (Option M.D))(ds f:List M.D)(c:M.AH)(d:Gh)(g:Hp)(C:Gh->Hp->Prop)(a:Nat)(ax:List Nat)(U:St)(i m:Nat)(e:List V)(b:St)(H':Hp):Prop:=∃G' h' done rest,(m=ds.e-i/\i<=ds.e/\done.e<=i)/\Ext d g G' H'/\ah Y G' h' H'/\C G' H'/\aa Y G' H' done e∧
 M.Gu st (ds.G i) h'=.j rest c/\f=done++rest/\b.e=a+ax.e/\∀j,j<ax.e->b[a+j]?=y0 ((U[ax.I j 0]?).join)
def XW{Ch:M.AH->Prop}{st:M.D->M.AH->M.R (Option M.D)}{C:Gh->Hp->Prop}{rest:List M.D->M.AH->M.R M.W}(htk:∀i∈tg,i<kk)
 (s:av Y G τ h U H)(e1:Ext G H G1 H1)(k:ah Y G1 h1 H1)(c0:C G1 H1)(hs:∀d h o h2,st d h=.j o h2->Ch h/\oO F tg one (lZ kk ax τ) k6 c elt d h=.j o h2)
 (hrs:∀ys O,(Ch O/\rest ys O=.j (.j ys) O)\/rest ys O=.w)
 (keep:∀G H G' H' h,C G H->Ext G H G' H'->ah Y G h H->C G' H')
 (wg:∀i G' h' H',Ext G1 H1 G' H'->ah Y G' h' H'->C G' H'->Ch h'->i<ds.e->J.go i H'/\∀x L,J.gr i H' x L->∃V,Ext G' H' V L/\ah Y V h' L/\∃d,ds[i]?=y0 d/\aD Y V L d x)
 (ws:∀G' h' H',Ext G1 H1 G' H'->ah Y G' h' H'->C G' H'->Ch h'->J.stop ds.e H')
 (p:aw Y E G H (if ds.e<=M.bh then(M.Gu st ds h1).u rest else .w) λw h' G' H'=>∀v,ak Y G' H' w v->aI τ U H w v->Q v H'):
 uz J (gM Y tg one) (cE Y E0<|XH F k6 c) (tD Y E0<|M.eval F elt) (nI kk ax U) H1 Q:=by
 by_cases hL:ds.e<=M.bh;rotate_left
 .rw[FM hL]at p;exact p.j
 rw[Da hL]at p;cases T:M.Gu st ds h1 with
|exc d h'=>exact absurd T Z2
|fail=>rw[T]at p;exact p.j
|ok ys O=>
  rw[T]at p;have p:aw Y E G H (rest ys O) λw h' G' H'=>∀v,ak Y G' H' w v->aI τ U H w v->Q v H':=p;obtain⟨hcf,u⟩|u:=hrs ys O
  rotate_left
  .rw[u]at p;exact p.j
  rw[u]at p;have hLs:=Jk;refine⟨SV Y st ds ys O G1 H1 C kk ax U,⟨ds.e,?_⟩,?_⟩
  .refine⟨G1,h1,[],ys,⟨by simp,Ag0 _,Ab0 _⟩,Ext.refl,k,c0,rfl,T,rfl,?_,λj R=>?_⟩
   .unfold nI;rw[Aa5,Af,Aa]
   .unfold nI;rw[Ae3 Y7,Af,Ao9,Ab9,Aa1 R,Ac9,Aa1 R];rfl
  .rintro i m yv Ub H' ⟨G',h',done,rest,⟨rfl,hi',hd⟩,e2,f,A,rd,S,l,e,n⟩;have ldone:=rd.length;by_cases q:i<ds.e
   .have edr:ds.G i=ds[i]::ds.G _:=Aj1 q;rw[edr]at S;obtain⟨o,h2,r,Z,I,er⟩:=M6 S;obtain⟨hc,Z⟩:=hs _ _ _ _ Z;obtain⟨N,b,h3,qb,y,qf,qt⟩:=R0 Z;obtain⟨wj1,wj2⟩:=wg i G' h' H' e2 f A hc q;refine .w ⟨wj1,by lia,_,λyv' Ub' L w=>⟨ds.e-(i+1),(TH ‹_›<|Af5 _),w⟩,λx L hy=>?_⟩;obtain⟨V,x4,a,d,ed,rdx⟩:=wj2 x L hy;have A:=keep _ _ _ _ h' A x4 f;have rd:=rd.ext x4 f;have e2:=e2.j k x4;cases(Aa1 q).u.j ed;have sb:=Hh (s.ext (e1.j s.j e2) a) kk ax e n;refine ab qb rdx sb λU2 s2 same P=>?_;have g:∀j,j<ax.e->U2[kk+j]?=y0 _:=λj R=>by rw[same _ λz=>by have:=htk _ z;lia];exact n j R
    refine⟨V,N,h',s2,?_⟩;rw[y];intro G3 H3 K B;have W:=s2.ext K B;cases b with
|false=>refine r6 ?_;obtain⟨rfl,rfl⟩:=qf rfl;exact⟨G3,_,done,r,⟨rfl,by lia,(Ak9 ‹_›)⟩,e2.j k K,B,keep _ _ _ _ h' A K a,rd.ext K a,I,by rw[l,er],by rw[P];exact e,g⟩
|true=>refine sS ?_;obtain⟨w,dd,qe,qw,rfl⟩:=qt rfl;refine⟨G3,N,h3,W,?_⟩;rw[qe];intro V H4 e4 X v rw' fw;obtain⟨G5,e5,s5,rdv,m5⟩:=rQ e4 (W.ext e4 X) W rw' fw qw;have t:=K.j a e5;refine⟨G5,_,done++[dd],r,⟨rfl,by lia,by rw[Aa5,Ai6];exact Pv ‹_›⟩,e2.j k t,s5.j,keep _ _ _ _ h' A t a,(rd.ext t a).append ⟨v,[],rfl,rdv,rfl⟩,I,?_,by rw[P];exact e,g⟩;rw[l,er];simp
   .have ei:i=ds.e:=by lia
    subst ei;rw[VN]at S;cases(show M.R.ok _ h'=.j rest O from S);rw[Af0]at l;subst l;exact .u ⟨ws G' _ H' e2 f A hcf,by lia,λD hD=>aA.own (aA.mk p (e1.j s.j e2) s.j) f rd D hD⟩
def uN(k:∀i∈tg,i<kk)(r:tD Y E (M.eval F<|.M tg one kk ax it k6 c elt) U H Q):
 mR kk ax (gQ Y E y9<|M.Gk F it) (λ_ _ _ _=>gM Y tg one) (λ_ _ _ _=>cE Y E0<|XH F k6 c) (λ_ _ _ _=>tD Y E0<|M.eval F elt) U H Q:=by
 obtain⟨G,m,h,s,p⟩:=r;rw[LC]at p;refine⟨G,m,h,s,?_⟩;cases n:M.Gk F it m h with
|ok u w=>rw[n]at p;intro v D e1 j J C g o _ B K A;exact XW k s e1 j o (λ_ _ _ _ e=>⟨trivial,e⟩) (λ_ _=>.u ⟨trivial,rfl⟩) g.keep (λi b y f _ q d _ a=>⟨g.go i b f d a,λx l t=>(g.gr i b f x l d a t).imp λI z=>⟨z.1,z.2.1 _ q,z.2.2⟩⟩) (λb _ f _ _ d _=>g.stop _ b f d (Ab0 _)<|Ab0 _) p
|_=>rw[n]at p;exact p
def Ds(e:Go Y F X E k cf)(a:kf cf scope N kk ax)
 (g:ax.e=(N.G kk).e)(d:qd {cf with sc:=scope,N:=N} tg one t=k9)(f:∀i∈tg,i<kk)(b:Xh iter=k9)
 (l:PI X t iter<|gQ Y E y9<|M.Gk F it)
 (j:∀C fp s H,PE (Xc X N scope C fp s H) y<|tD Y E0<|M.eval F elt)
 (m:∀C fp s H,fN (Xc X N scope C fp s H) ifs<|cE Y E0<|XH F k6 c):
 PE X (.A y [⟨t,iter,ifs,0⟩] scope pos)<|tD Y E<|M.eval F<|.M tg one kk ax it k6 c elt:=
 PE.imp (yW (qB e a) l (λC fp s H=>zo (Wj e a C fp s H) d) m j (e.y a.cb)<|zN b) λU H Q h=>uN f h
def qK(a:Go Y F X E k cf)(u:cf.N[i]?=y0 x)(p:iU cf.u x=k9)(h:swapsWith (.A y [⟨t,iter,ifs,0⟩] scope p0) (y0<|.j x pos2) pos.u X.j=pure k9)(b:kf cf scope N kk ax)
 (m:ax.e=(N.G kk).e)(j:qd {cf with sc:=scope,N:=N} tg one t=k9)(g:∀i∈tg,i<kk)(e:Xh iter=k9)
 (o:PI X t iter<|gQ Y E y9<|M.Gk F it)
 (n:∀C fp s H,PE (Xc X N scope C fp s H) y<|tD Y E0<|M.eval F elt)
 (r:∀C fp s H,fN (Xc X N scope C fp s H) ifs<|cE Y E0<|XH F k6 c):
 PS X (.j [.j x pos2] (.A y [⟨t,iter,ifs,0⟩] scope p0) pos)<|hI (tD Y E<|M.eval F<|.M tg one kk ax it k6 c elt)<|qP i:=by
 have l:=a.gz x p;have f:=ZS (by rw[a.N];exact a.nd) (by rwa [a.N]) l.1 (qB a b) o (λC fp s H=>zo (Wj a b C fp s H) j) r n h (a.y b.cb) (zN e) l.2;exactλd s U H D I q=>f d s U H D I<|uN g q
def Wt(e:M.Gz h o=y0 (r,xs)):o=y0 (.v<|.j r)/\h[r]?=y0 (.x xs):=by
 unfold M.Gz at e;split at e
 .split at e
  .rename_i q;cases e;exact⟨rfl,q⟩
  .cases e
 .cases e
def Lm(s:av Y G τ h U H)(e:M.Gz h (M.Gm τ i)=y0 (r,xs)):U[i]?=y0 (y0<|.j<|G.j r)/\∃vs,H (G.j r)=y0 (.x vs)/\aa Y G H xs vs:=by obtain⟨e1,e2⟩:=Wt e;obtain⟨v,c,d⟩:=s.u i _ e1;obtain⟨f,a⟩:=(d);subst a;obtain⟨_,vs,b,rv⟩:=s.j.cell r xs e2;exact⟨c,vs,b,rv⟩
def Nh:zr X (.u "isinstance")<|fun xs H Q=>∃a vs,xs=[.j a,.ty "list"]/\H a=some (.x vs)/\Q (.I true) H:=by rintro b s U H xs h Q I r ⟨a,vs,e,rd,q⟩;subst e;obtain⟨u,g,rfl,d,c⟩:=mm r;cases c;exact qj I d (.lst rd) (QZ _) λf=>⟨.I k9,H,I.tok f,rfl,q⟩
def Rf(d:Go Y F X E k cf)(A:bV cf.u "isinstance" g=true)(B:bV cf.u "list" y=true)(j:jb x=true)(J:PE X x<|tD Y E<|M.eval F a):PE X (.y g [x,y] [] pos)<|tD Y E<|M.eval F<|.eA a:=by
 obtain⟨p,rfl,D,C⟩:=qc A;obtain⟨q,rfl,m,o⟩:=qc B;have dQ:"list"∈bS:=by decide
 have b:"isinstance"∈bS:=by decide
 have e:PE X (.j _ q)<|tC<|.ty "list":=rA (d.gl _ m) (d.u _ dQ) (by decide+kernel) rfl (xk dQ) o;refine PE.imp (QI Nh (d.gl _ D) (d.u _ b) Uu (Ze J (Ze e ql)<|Xa j) (xk b) C (Xa j) rfl) λU H Q v=>?_;obtain⟨G,K,h,s,p⟩:=v;refine Wa s.j Ext.refl s p λI v1 n L O e1 z f r N c=>?_;cases q:M.Gz n (y0 I)with
|none=>rw[q]at c;exact c.j
|some i=>rw[q]at c;obtain⟨l,w⟩:=Wt q;cases l;obtain⟨_,rfl⟩:=(r);obtain⟨_,u,t,_⟩:=f.j.cell i.1 i.2 w;exact⟨_,u,rfl,t,aw.val c e1 f.j rfl trivial⟩
def CJ(n:∀i∈tg,i<kk)(B:tD Y E (M.eval F<|.bD tg one kk ax i0 k6 c elt) U H Q):
 mR kk ax (yB X.K<|ny i0) (λ_ _ _ _=>gM Y tg one) (λ_ _ _ _=>cE Y E0<|XH F k6 c) (λ_ _ _ _=>tD Y E0<|M.eval F elt) U H Q\/tD Y E (M.eval F<|.M tg one kk ax (.j<|.var i0) k6 c elt) U H Q:=by
 obtain⟨G,u,h,s,p⟩:=B;rw[M.eval]at p;cases q:M.Gz h (M.Gm u i0)with
|none=>rw[q]at p;exact .w ⟨G,u,h,s,p⟩
|some K=>
  refine .u ?_;obtain⟨r,j⟩:=K;rw[q]at p;obtain⟨J,A,z,rv⟩:=Lm s q;have g:r<G.n:=by rw[←s.j.w];exact(Aa0.u (Wt q).2).1
  refine⟨_,J,.u ⟨_,rfl,⟨A,bu.of z⟩,λP S O=>?_⟩⟩;refine XW (Ch:=λh=>h[r]?=y0 (.x j)) n s Ext.refl s.j trivial (λd h o R e=>?_) (λL y=>?_) (λ_ _ _ _ _ _ _ _=>trivial) (λi v C I e2 a _ t f=>?_) (λv C I e2 a _ t=>?_) p
  .unfold M.Ky at e;split at e
   .exact⟨‹_›,e⟩
   .cases e
  .show _\/M.KL r j L y=_;unfold M.KL;split
   .exact .u ⟨‹_›,rfl⟩
   .exact .w rfl
  .obtain⟨_,k,b,m⟩:=a.cell r j t;rw[e2.aO r g]at b;obtain⟨v0,w,l⟩:=m.get<|Aa1 f;refine⟨⟨k,v0,bu.of b,w⟩,?_⟩;rintro x N ⟨rfl,D⟩;cases w.u.j<|D k<|bu.of b;exact⟨v,Ext.refl,a,_,Aa1 f,l⟩
  .obtain⟨_,k,b,m⟩:=a.cell r j t;rw[e2.aO r g]at b;exact⟨k,bu.of b,by rw[←m.length];exact Ab0 _⟩
def Ql(b:Go Y F X E k cf)(h1:cf.N[i]?=y0 x)(c:JO cf.u x=k9)(a:bb x=k9):PE X (.j x p)<|ny i:=by unfold bb at a;rw[Aa2]at a;exact zC (by rwa [b.N]) (b.gP x c) (by simpa using a.1)<|by simpa using a.2
def MK(d:Go Y F X E k cf)(a:kf cf scope N kk ax)
 (g:ax.e=(N.G kk).e)(f:qd {cf with sc:=scope,N:=N} tg one t=k9)(e:∀i∈tg,i<kk)(h1:cf.N[i0]?=y0 x)(n:JO cf.u x=k9)(m:bb x=k9)
 (l:PI X t (.j x p1)<|gQ Y E y9<|M.Gk F<|.j<|.var i0)
 (h:∀C fp s H,PE (Xc X N scope C fp s H) y<|tD Y E0<|M.eval F elt)
 (j:∀C fp s H,fN (Xc X N scope C fp s H) ifs<|cE Y E0<|XH F k6 c):
 PE X (.A y [⟨t,.j x p1,ifs,0⟩] scope pos)<|tD Y E<|M.eval F<|.bD tg one kk ax i0 k6 c elt:=λb s U H Q I q=>by
 rcases CJ e q with q|q
 .exact yW (qB d a) (qO<|Ql d h1 n m) (λC fp s H=>zo (Wj d a C fp s H) f) j h (d.y a.cb) (zN rfl) b s U H Q I q
 .exact Ds d a g f e rfl l h j b s U H Q I q
def Q0(a:Go Y F X E k cf)(u:cf.N[i]?=y0 x0)(l:iU cf.u x0=k9)(f:swapsWith (.A y [⟨t,.j x p1,ifs,0⟩] scope p0) (y0<|.j x0 pos2) pos.u X.j=pure k9)(b:kf cf scope N kk ax)
 (h:ax.e=(N.G kk).e)(g:qd {cf with sc:=scope,N:=N} tg one t=k9)(e:∀i∈tg,i<kk)(h1:cf.N[i0]?=y0 x)(r:JO cf.u x=k9)(p:bb x=k9)
 (o:PI X t (.j x p1)<|gQ Y E y9<|M.Gk F<|.j<|.var i0)
 (j:∀C fp s H,PE (Xc X N scope C fp s H) y<|tD Y E0<|M.eval F elt)
 (m:∀C fp s H,fN (Xc X N scope C fp s H) ifs<|cE Y E0<|XH F k6 c):
 PS X (.j [.j x0 pos2] (.A y [⟨t,.j x p1,ifs,0⟩] scope p0) pos)<|hI (tD Y E<|M.eval F<|.bD tg one kk ax i0 k6 c elt)<|qP i:=λd s U H D I q=>by
 have n:=a.gz x0 l;rcases CJ e q with q|q
 .exact ZS (by rw[a.N];exact a.nd) (by rwa [a.N]) n.1 (qB a b) (qO<|Ql a h1 r p) (λC fp s H=>zo (Wj a b C fp s H) g) m j f (a.y b.cb) (zN rfl) n.2 d s U H D I q
 .exact qK a u l f b h g e rfl o j m d s U H D I q
def B3:"dict"∈bS:=by decide
set_option tactic.hygienic true in
def Hv(n:Go Y F X E k cf)(h1:cf.N[i]?=y0 y)(t:JO cf.u y=k9)(q:bb y=k9)(v:PE X x<|tD Y E<|M.eval F a):PE X (.C x [ot neg] [.j y j] pos)<|tD Y E<|M.eval F<|.c7 neg a i:=by
 refine PE.imp (yQ (yr neg) v (Ql n h1 t q)<|Xr rfl) λU H Q g=>?_;obtain⟨G,w,h,s,p⟩:=g;refine Wa s.j Ext.refl s p λD v1 h1 d C e1 l b e A j=>?_;unfold M.c7 at j;split at j
 .rename_i c r z f;cases e;obtain⟨m,I,B,u,o⟩:=qp b f;exact⟨_,m,aL c,_,_,rfl,rfl,u,by rw[tH o];exact j d _ e1 b.j _ rfl trivial⟩
 .exact j.j
set_option tactic.hygienic true in
def Fb(n:Go Y F X E k cf)(h1:cf.N[i]?=y0 y)(t:JO cf.u y=k9)(q:bb y=k9)(v:PE X x<|tD Y E<|M.eval F a):PT X (.C x [ot neg] [.j y j] pos)<|cE Y E<|M.Gn F<|.c7 neg a i:=by
 refine PT.imp (C7 (yr neg) v (Ql n h1 t q)<|Xr rfl) λU H Q g=>?_;obtain⟨G,w,h,s,p⟩:=g;unfold M.Gn at p;rw[M.eval,bind_assoc]at p;refine Wa s.j Ext.refl s p λD v1 h1 d C e1 l b e A j=>?_;unfold M.c7 at j;split at j
 .rename_i c r z f;cases e;obtain⟨m,I,B,u,o⟩:=qp b f;exact⟨_,m,aL c,_,_,rfl,rfl,u,_,rfl,by rw[tH o];exact j d _ e1 b.j⟩
 .exact j.j
set_option tactic.hygienic true in
def Lc(A:Go Y F X E k cf)(h1:cf.N[i]?=y0 y)(I:JO cf.u y=k9)(D:bb y=k9)(B:zd x=k9)(K:PE X x<|tD Y E<|M.eval F a):PE X (.w (.j y j) x pos)<|tD Y E<|M.eval F<|.fB i a:=by
 refine PE.imp (rr Cd (Ql A h1 I D) K<|xU B) λU H Q t=>?_;obtain⟨G,l,h,s,p⟩:=t;rw[M.eval]at p;cases q:M.GW h (M.Gm l i)with
|none=>rw[q]at p;exact p.j
|some z=>
  obtain⟨O,w⟩:=z;rw[q]at p;have sl:=(qp s q).1;refine⟨_,sl,Wa s.j Ext.refl s p λT v1 h1 L S e1 u c n P j=>?_⟩;unfold M.fB at j;split at j
  .rename_i f r N o;cases n;obtain⟨e,V,R,J,C⟩:=qp c o;have b:=by rw[sl]at e;exact Ae0.inj<|Ae0.inj e
   split at j
   .rename_i d g;obtain⟨v,m,rv⟩:=vw C g;exact⟨aL f,_,_,v,rfl,b,J,m,(aA.mk j e1 s.j).v c.j rv⟩
   .exact j.j
  .exact j.j
def K9(c:Go Y F X E k cf)(l:bV cf.u "dict" g=true)(h1:cf.N[i]?=some y)(v:JO cf.u y=true)(u:bb y=true):PE X (.y g [.j y p1] [] pos)<|tD Y E<|M.eval F<|.eY i:=by
 obtain⟨p,rfl,e,r⟩:=qc l;refine PE.imp (XB EL (c.gl _ e) (c.u _ B3) (by decide+kernel) (Ze (Ql c h1 v u) ql rfl) (xk B3) r rfl rfl) λU H Q j=>?_;obtain⟨G,f,h,s,p⟩:=j;rw[M.eval]at p;cases q:M.GW h (M.Gm f i)with
|none=>rw[q]at p;exact p.j
|some n=>rw[q]at p;obtain⟨m,x,d,w,t⟩:=qp s q;refine⟨_,m,_,_,rfl,w,λa b=>?_⟩;have e1:Ext G H G<|aH H a<|dS<|d4 n.2 d:=Qt _ b;refine aw.val p (XA e1 b) (xJ (s.j.new _ b) (λz=>by obtain⟨o,q⟩:=s.j.j a z;rw[b]at q;cases q) (s.j.gX b) ⟨x,d,Zb,t.ext e1 s.j⟩) ?_ trivial;show h.e<G.n+1/\V.ref a=.j (if h.e=G.n then a else G.j h.e);rw[s.j.w,Da rfl];exact⟨Af5 _,rfl⟩
def Lh(a:M.Kr d=k9)(z:aD Y G H d v):aD Y G' H' d v:=by
 cases d<;>first|exact z|exact absurd a Y7
def HD(e:Ext G H G1 H1)(d:H a=u0):Ext G H G1<|aH H1 a o:=
 ⟨λb u z c=>by rw[Za<|λq:b=a=>by rw[q,d]at z;cases z];exact e.w b u z c,e.le,e.aO,e.new,e.fz,e.old,λr f z=>by obtain⟨u,z⟩:=z;obtain⟨h,g⟩:=e.u r f ⟨u,z⟩;exact⟨h,by rw[Za<|λq:G.j r=a=>by rw[q,d]at z;cases z];exact g⟩⟩
def Ph(d:ah Y G h H)(f:¬G.w a)(of:dZ G a):ah Y G h<|aH H a o:=by have mon:Mon G H G<|aH H a o:=⟨λb u z q=>by rw[Za<|λe:b=a=>f<|e▸z];exact q,Ab0 _,λ_ _=>rfl,λ_ z=>z⟩;refine⟨d.w,λq c e=>⟨(d.C q c e).1,(d.C q c e).2.mon mon λu z=>by rw[Za<|of q<|d.lt e];exact z⟩,d.inj,λb z=>?_⟩;obtain⟨u,q⟩:=d.j b z;exact⟨u,by rw[Za<|λe:b=a=>f<|e▸z];exact q⟩
def iH(G:Gh)(H:Hp)(a:Addr)(o:HO):Prop:=H a=y0 o/\¬G.w a/\dZ G a
def iH.ext (l:iH G H a o)(e:Ext G H G1 H1):iH G1 H1 a o:=
 ⟨e.w a o l.1 l.2.2,λz=>(e.old a z).j l.2.1 (λq=>by rw[l.1]at q;cases q),e.off l.1 l.2.2⟩
def Em{a b c k:M.Tx}(h:ak Y G H w1 v1)(j:ak Y G H w2 v2)(i:ak Y G H w3 v3)(e:[(a,w1),(b,w2),(c,w3)].u k=y0 w):∃v,[(aL a,v1),(aL b,v2),(aL c,v3)].u (aL k)=y0 v/\ak Y G H w v:=by
 simp[Ad,V3]at e⊢;simp[rX];cases f:k==a with
|true=>rw[f]at e;cases e;exact⟨v1,rfl,h⟩
|false=>
  rw[f]at e;cases d:k==b with
|true=>rw[d]at e;cases e;exact⟨v2,rfl,j⟩
|false=>
   rw[d]at e;cases g:k==c with
|true=>rw[g]at e;cases e;exact⟨v3,rfl,i⟩
|false=>rw[g]at e;cases e
set_option tactic.hygienic true in
def Ef(R:Go Y F X E k cf)(h1:cf.N[i]?=y0 x)(C:JO cf.u x=k9)(D:bb x=k9)(m:ky k1 q1=k9)(o:ky k2 q2=k9)(r:ky k3 q3=k9)(hn:[k1,k2,k3].M)
 (ha:PE X y1<|tD Y E<|M.eval F a)(hb:PE X y2<|tD Y E<|M.eval F b)(hc:PE X y3<|tD Y E<|M.eval F c):PE X (.w (.Dict [q1,q2,q3] [y1,y2,y3] L) (.j x p2) pos)<|tD Y E<|M.eval F<|.gJ k1 a k2 b k3 c i:=by
 obtain⟨O,V,rfl⟩:=rW m;obtain⟨S,Z,rfl⟩:=rW o;obtain⟨j3,J,rfl⟩:=rW r;have ok:nL X [aL k1,aL k2,aL k3] [tD Y E _,tD Y E _,tD Y E _] [y0 (.x (.u<|aL k1) O V),y0 (.x (.u<|aL k2) S Z),y0 (.x (.u<|aL k3) j3 J)] [y1,y2,y3]:=
  ⟨_,_,_,_,_,_,_,rfl,rfl,rfl,ha,_,_,_,_,_,_,_,rfl,rfl,rfl,hb,_,_,_,_,_,_,_,rfl,rfl,rfl,hc,rfl,rfl,rfl⟩
 refine PE.imp (rr Cd (EH ok Y7 (show 3<=15 by decide)<|List.Pairwise.map aL (λa b z q=>z<|WF q) hn) (Ql R h1 C D)<|xU rfl) λU H Q W=>?_;obtain⟨G,τ,h,s,p⟩:=W;rw[M.eval]at p;intro l e;have B:Ext G H G<|aH H l<|dS []:=Qt _ e;have l0:iH G (aH H l<|dS []) l _:=⟨Zb,s.j.lI e,s.j.gX e⟩;refine Wa s.j B (s.ext B<|s.j.new _ e) p λw1 v1 h1 G1 H1 e1 t A P f1 L=>Wa s.j e1 A L λw2 v2 C G2 H2 e2 j w K f2 p2=>Wa s.j e2 w p2 λw3 v3 D G3 H3 e3 g y r3 f3 f=>?_;have n:=((l0.ext t).ext j).ext g;refine⟨n.1,?_⟩;unfold M.gJ at f;split at f
 .rename_i I es;obtain⟨v,N,rv⟩:=y.u i _ es;cases(show v=.u (aL I)from rv);split at f
  .rename_i d T;split at f
   .rename_i hf;obtain⟨u,eu,ru⟩:=Em ((P.ext j A.j).ext g w.j) (K.ext g w.j) r3 T;exact⟨_,N,aL I,_,_,u,rfl,rfl,Zb,eu,aw.val f (HD e3 e) (Ph y.j n.2.1 n.2.2) (show aD Y G3 _ d u from Lh hf ru) trivial⟩
   .exact f.j
  .exact f.j
 .exact f.j
def yU(h:Str.ofString a=Str.ofString b):a=b:=by
 rw[UE,UE]at h;have e:=by have:=congrArg (λs:Str=>s.j.u) h;simpa using this
 have inj:∀(l m:List Char),l.j Char.toNat=m.j Char.toNat->l=m:=by
  intro l;induction l with
|nil=>intro m q;cases m with|nil=>rfl|cons _ _=>cases q
|cons c l f=>
   intro m q;cases m with
|nil=>cases q
|cons d m=>simp[List.cons.injEq]at q;rw[Char.toNat_inj.u q.1,f m q.2]
 exact String.toList_inj.u<|inj _ _ e
def QL(e:M.G6 h o=y0 (r,c,fs)):o=y0 (.v<|.j r)/\h[r]?=y0 (.obj c fs):=by
 unfold M.G6 at e;split at e
 .split at e
  .rename_i q;cases e;exact⟨rfl,q⟩
  .cases e
 .cases e
def u5(s:av Y G τ h U H)(e:M.G6 h (M.Gm τ i)=y0 (r,c,fs)):U[i]?=y0 (y0<|.j<|G.j r):=by obtain⟨v,a,b⟩:=s.u i _ (QL e).1;rw[a,((show r<G.n/\v=.j (G.j r)from b)).2]
noncomputable abbrev iB(fs:List<|String×M.D):List Str:=fs.j λp=>Str.ofString p.1
section
variable{G:Gh}{H:Hp}
def Bg(a b):(Wd a==Str.ofString b)=(a==b):=by
 cases q:a==b with
|true=>rw[eq_of_beq q];exact Tg _
|false=>exact beq_eq_false_iff_ne.w λz=>(beq_eq_false_iff_ne.u q)<|yU z
theorem BO:∀{fs}{us},aa Y G H (fs.j (·.2)) us->fs.u f=y0 d->∃v,((iB fs).a1 us).u (Wd f)=y0 v/\aD Y G H d v
|[],_,_,e=>by cases e
|(g,x)::fs,_,z7,e=>by
  obtain⟨v,r,rfl,a,b⟩:=z7;rw[Ad]at e;show∃w,(((Str.ofString g),v)::(iB fs).a1 r).u (Wd f)=y0 w/\_;rw[Ad,Bg];cases q:f==g with
|true=>rw[q]at e;cases e;exact⟨v,rfl,a⟩
|false=>rw[q]at e;exact BO b e
theorem X4:∀{fs}{a:List V},fs.u f=u0->((iB fs).a1 a).u (Wd f)=u0
|[],_,_=>rfl
|(g,x)::fs,[],_=>rfl
|(g,x)::fs,v::r,e=>by
  rw[Ad]at e;show(((Str.ofString g),v)::(iB fs).a1 r).u (Wd f)=u0;rw[Ad,Bg];cases q:f==g with
|true=>rw[q]at e;cases e
|false=>rw[q]at e;exact X4 e
theorem XV(rv:aD Y G H d v):∀{fs}{us},aa Y G H (fs.j (·.2)) us->∃j,aa Y G H ((M.a0 f d fs).j (·.2)) j/\Lake.a0 (Wd f) v ((iB fs).a1 us)=(iB<|M.a0 f d fs).a1 j
|[],_,z=>by cases z;exact⟨[v],⟨v,[],rfl,rv,rfl⟩,rfl⟩
|(g,x)::fs,_,z7=>by
  obtain⟨u,r,rfl,e,c⟩:=z7;show∃j,aa Y G H ((if g=f then(g,d)::fs else(g,x)::M.a0 f d fs).j (·.2)) j/\(if Str.ofString g=Wd f then(Str.ofString g,v)::(iB fs).a1 r else(Str.ofString g,u)::Lake.a0 (Wd f) v ((iB fs).a1 r))=(iB<|if g=f then(g,d)::fs else(g,x)::M.a0 f d fs).a1 j;by_cases q:g=f
  .rw[Da q,Da<|congrArg Str.ofString q];exact⟨v::r,⟨v,r,rfl,rv,c⟩,rfl⟩
  .rw[FM q,FM λz=>q<|yU z];obtain⟨j,a,b⟩:=XV rv c;exact⟨u::j,⟨u,j,rfl,e,a⟩,by rw[b];rfl⟩
end
set_option tactic.hygienic true in
def K8(a:Go Y F X E k cf)(h1:cf.N[i]?=y0 x)(y:JO cf.u x=k9)(w:bb x=k9):PE X (.u (.j x p1) (Wd f) pos)<|tD Y E<|M.eval F<|.xf i f:=by
 refine PE.imp (Lx (Ql a h1 y w) rfl) λU H Q l=>?_;obtain⟨G,z,h,s,p⟩:=l;rw[M.eval]at p;split at p
 .rename_i c g d q;split at p
  .rename_i o;subst o;obtain⟨v,e,n,j,u,rfl,C,B,r,t,A,b,m⟩:=s.u i _ q;exact⟨_,e,n,Y.j c,j,u,rfl,r,t,a.K▸b,aw.val p Ext.refl s.j m trivial⟩
  .exact p.j
 .exact p.j
def Nn(e:Ext G H G1 H1)(a:r<G.n):ak Y G1 H1 (.v<|.j r)<|.j<|G.j r:=⟨Ab3 a e.le,by rw[e.aO r a]⟩
def SA(b:attributeBase o name env (eval o env)=eval o env)(c:methodCallForm args.e (backTo pos<|starEach args env) (backToKw pos<|keywordEach [] env)=k9)(a:(apos.j==pos.u)=k9):
 eval (.y (.u o name apos) args [] pos) env=(do
  let j←eval o env
  standAt apos.atName
  let(f,first)←holding [j]<|getMethod j name<|do return (←importBound o env).getD k9
  callWith pos f first (backTo pos<|starEach args env)<|backToKw pos<|keywordEach [] env):=by
 have e1:methodCallForm (args.e+([]:List Keyword).e) _ _=true:=c;have e2:methodCallPos k9 o env apos pos=pure pos:=by unfold methodCallPos;simp[a]
 rw[arm_eval_Call,b];unfold methodCall;rw[e1];simp only[e2,calleeOf,Os,pure_bind]
def IZ(h:∀e∈args,jb e=k9)(b:args.e<29):methodCallForm args.e (backTo pos<|starEach args env) (backToKw pos<|keywordEach [] env)=true:=by
 unfold methodCallForm;have e1:(backTo pos<|starEach args env).N (λx=>!x.1)=true:=by have:=Xo (env:=env) (pos:=pos) h;rw[Ad0];intro x a;rw[Am4]at this;simpa using this x a
 rw[e1];have e2:(backToKw pos<|keywordEach [] env)=[]:=rfl;rw[e2];simp;exact Am6 ‹_›
def KZ(n:Go Y F X E k cf)(hg:bV cf.u c g=k9)(T:cf.x.ft.x (c,q0)=k9)(I:∀e∈y::ys,jb e=k9)(ha:PA X (y::ys)<|gK Y E<|M.Gg F es):
 PE X (.y g (y::ys) [] pos)<|tD Y E<|M.eval F<|.make c q0 es:=by
 obtain⟨p0,rfl,N,g3⟩:=qc hg;obtain⟨q,fa,fd,ps,mk,z,bd⟩:=n.ft c q0 T;refine PE.imp (KU mk z n.cq (n.gl _ N) q bd .u n.pass ha g3 (Xa<|I _ Aa4)<|Xo λe O=>I e<|Aa3 _ O) λU H Q S=>?_;obtain⟨G,τ,h,s,p⟩:=S;refine Qs s.j Ext.refl s p λD R l j H1 e1 Z i P b=>?_;intro a t C nd ne;rw[Af0];have J:aH H1 t (.own a) a=none:=by rwa [Za<|Ne.symm ne]
 have x2:Ext j _ j<|aH _ a<|.ins (Y.j c) t []:=Qt _ J;have L:=Oe ((i.j.new (.own a) nd).new (.ins (Y.j c) t []) J) (i.j.lI C) (i.j.gX C) Zb;have u:=XA ((Qt _ nd).j i.j x2) C;have A:=by show l.e<j.n+1/\V.ref a=.j (if l.e=j.n then a else j.j l.e);rw[i.j.w,Da rfl];exact⟨Af5 _,rfl⟩
 refine⟨j.cell a,l++[.obj c []],.v (.j l.e)::D.j M.W.arg,L,⟨.j a,R,rfl,A,bp.ext u i.j<|qA P⟩,λw B=>?_,?_⟩
 .obtain rfl|B:=Ab5.u B
  .rfl
  .exact zA D w B
 .cases r:F.j q0 _<|l++[.obj c []]with
|fail=>rw[r]at b;exact b.j
|exc d W=>rw[r]at b;exactλo x m f=>b o x ((e1.j s.j u).j s.j m) f
|ok w W=>
   rw[r]at b;intro o x m f v rv _;cases w with
|v d=>
    cases d with
 |au=>refine⟨rv,?_⟩;have b:=b;have K:=A.1;exact b o x ((e1.j s.j u).j s.j m) f _ ⟨Ab3 K m.le,by rw[m.aO _ K];exact A.2⟩ trivial
 |_=>exact b.j
|_=>exact b.j
def PN(l:Go Y F X E k cf)(i:cf.x.fl.x (c,f)=k9)(g:XT x=k9)(K:PE X x<|tD Y E<|M.eval F a):PE X (.u x (Wd f) pos)<|tD Y E<|M.eval F<|.aJ a c f:=by
 refine PE.imp (HC K<|bF g _) λU H Q C=>?_;obtain⟨G,L,h,s,p⟩:=C;refine Wa s.j Ext.refl s p λw v n e R e1 D j z N b=>?_;cases q:M.G6 n (y0 w)with
|none=>rw[q]at b;exact b.j
|some o=>
  obtain⟨r,A,fs⟩:=o;rw[q]at b;dsimp only at b;split at b
  .rename_i g;subst g;obtain⟨d,m,b⟩:=b.of;obtain⟨I,e2⟩:=QL q;cases I;obtain⟨O,B,P,y,J⟩:=j.j.obj r _ fs e2;obtain⟨u,t,rv⟩:=BO J m;exact⟨e.j r,Y.j A,B,_,u,((show r<e.n/\v=.j (e.j r)from z)).2,y,(l.fld _ _ i).1,(l.fld _ _ i).2,t,aw.val b e1 j.j rv trivial⟩
  .exact b.j
def NY(i:Go Y F X E k cf)(R:cf.x.mt.x (c,m,q0)=k9)(hl:(apos.j==pos.u)=k9)(A:(y::ys).e<=20)(n:XT x=k9)(V:PE X x<|tD Y E<|M.eval F a)(l:∀e∈y::ys,jb e=k9)(ha:PA X (y::ys)<|gK Y E<|M.Gg F es):
 PE X (.y (.u x (Wd m) apos) (y::ys) [] pos)<|tD Y E<|M.eval F<|.bO a c m q0 es:=by
 obtain⟨cl,fa,fd,ps,L,j,Z⟩:=i.iW c m q0 R;refine PE.imp (RS V cl L j i.room Z .u i.pass ha (Xa<|l _ Aa4) (Xo λe B=>l e<|Aa3 _ B)<|SA (bF n _) (IZ l<|Ai9 ‹_› Y5) hl) λU H Q P=>?_;obtain⟨G,τ,h,s,p⟩:=P;refine Wa s.j Ext.refl s p λw v I d H1 e1 S u J f1 b=>?_;cases q:M.G6 I (y0 w)with
|none=>rw[q]at b;exact b.j
|some o=>
  obtain⟨r,c',fs⟩:=o;rw[q]at b;dsimp only at b;split at b
  .rename_i n;obtain⟨rfl,A⟩:=n;obtain⟨T,e2⟩:=QL q;cases T;obtain⟨g,rfl⟩:=(show r<d.n/\v=.j (d.j r)from J);obtain⟨nf,O,us,N,ru⟩:=u.j.obj r _ fs e2;refine⟨d.j r,O,_,rfl,N,X4<|Ai5.u A,Qs s.j e1 u b λz K h2 C H2 e2 f s2 D W=>?_⟩;rw[Af0];refine⟨C,h2,.v _::z.j M.W.arg,s2.j,⟨.j _,K,rfl,Nn f g,qA D⟩,λw t=>?_,aA.mk W e2 s.j⟩;obtain rfl|t:=Ab5.u t
   .rfl
   .exact zA z w t
  .exact b.j
def PU(y:Go Y F X E k cf)(n:(apos.j==pos.u)=k9)(m:XT x=k9)(j:PE X x<|tD Y E<|M.eval F a):
 PE X (.y (.u x (Wd "bit_length") apos) [] [] pos)<|tD Y E<|M.eval F<|.fL a:=by
 refine PE.imp (HW PySem.F.plainAttrs_int slot_int_bit_length type_int_bit_length Nj j (bF m _) n) λU H Q e=>?_;obtain⟨G,o,h,s,p⟩:=e;refine Wa s.j Ext.refl s p λw v t r z e1 f c d u b=>?_;obtain⟨i,g,b⟩:=b.of;cases d.int g;have l:Builtin.Int.intBits i=M.Kk i:=by
  unfold Builtin.Int.intBits M.Kk;by_cases q:i=0
  .rw[Da q,Da<|by rw[q];rfl]
  .rw[FM q,FM<|by simpa using q]
 refine⟨rfl,i,rfl,rfl,?_⟩;rw[l];exact aw.val b e1 c.j rfl trivial
def Mz(b:ah Y G h H)(l:dJ H H'):Ext G H G H'/\ah Y G h H':=
 ⟨⟨λa o e _=>l a o e,Ab0 _,λ_ _=>rfl,λr f d=>absurd f<|Aq0.w d,λ_ h=>h,λ_ h=>.u h,by rintro r _⟨o,e⟩;exact⟨o,l _ _ e⟩⟩,
  ⟨b.w,λr c e=>⟨(b.C r c e).1,(b.C r c e).2.mon ⟨λa o _ e=>l a o e,Ab0 _,λ_ _=>rfl,λ_ h=>h⟩ λo e=>l _ _ e⟩,b.inj,λa g=>(b.j a g).imp λo e=>l _ _ e⟩⟩
def gI(key:Int->M.R M.W)(m:Int):Int:=(M.G9<|key m).getD 0
theorem p6:∀{is}{b i},M.GX key b (gI key b) is=y0 i->(∀m∈is,∃y,M.G9 (key m)=y0 y)/\i=gR (gI key) b is
|[],b,i,h=>⟨λm a=>absurd a Ag2,(Ae0.inj h).u⟩
|x::is,b,i,h=>by
  rw[M.GX]at h;cases q:M.G9 (key x)with
|none=>rw[q]at h;cases h
|some y=>
   have e:gI key x=y:=by rw[gI,q];rfl
   rw[q,Af2]at h;rw[gR,e];by_cases c:y<gI key b
   .rw[Da c,←e]at h;rw[Da c];obtain⟨f,d⟩:=p6 h;exact⟨λm a=>(Ab5.u a).j (λz=>z▸⟨y,q⟩)<|f m,d⟩
   .rw[FM c]at h;rw[FM c];obtain⟨f,d⟩:=p6 h;exact⟨λm a=>(Ab5.u a).j (λz=>z▸⟨y,q⟩)<|f m,d⟩
set_option tactic.hygienic true in
def Pf(h:M.Kc key o=y0 i):∃n is,o=y0 (n::is)/\(∀m∈n::is,∃y,M.G9 (key m)=y0 y)/\i=gR (gI key) n is:=by
 match o,h with
|some (n::is),h=>
  rw[M.Kc]at h;cases q:M.G9 (key n)with
|none=>rw[q]at h;cases h
|some y=>
   have e:gI key n=y:=by rw[gI,q];rfl
   rw[q,Af2,←e]at h;obtain⟨c,a⟩:=p6 h;exact⟨n,is,rfl,λm b=>(Ab5.u b).j (λz=>z▸⟨y,q⟩)<|c m,a⟩
def Dd:"min"∈bS:=by decide
def FF(h:M.G9 r=y0 y):r=.j (.v<|.p y) []:=by
 unfold M.G9 at h;split at h
 .cases h;rfl
 .cases h
def LM(b:Go Y F X E k cf)(d:w.arg=some (Wd "key"))(z:bV cf.u f w.value=true)(hf:cf.w.x f=true)(L:mq cf "min" g=true)(hx:jb x=true)(O:PE X x<|tD Y E<|M.eval F a):
 PE X (.y g [x] [w] pos)<|tD Y E<|M.eval F<|.fM f a:=by
 obtain⟨p0,rfl,g2,g3⟩:=qc (a2 L).2;obtain⟨wa,wv,wq⟩:=w;obtain⟨u,e1,V,S⟩:=qc z;have e1:=e1;have d:=d;subst e1 d;obtain⟨ps,fa,fd,A,R,kp,I⟩:=(b.fn f hf).imp λps h=>h.ex;refine PE.imp (RB (E:=E0) (b.y (a2 L).1) (b.gl _ g2) (b.u _ Dd) (by decide+kernel) A b.cq (b.gl _ V) I R (λD H s e s' hq=>by obtain⟨x,C',t,B,K,_,_,_,_,_,_,_,_,_,_,hE⟩:=hq;exact hE.j) O (xk Dd) g3 S<|Xa hx) λU H Q W=>?_;obtain⟨G,τ,h,s,p⟩:=W;rw[M.eval]at p;refine Wa s.j Ext.refl s p λw v h1 G1 H1 e1 e1' J P f1 u=>?_;obtain⟨i,ei,u⟩:=u.of;obtain⟨n,is,eo,Z,rfl⟩:=Pf ei;obtain⟨xs,ex,C⟩:=Ag7.u eo;obtain⟨l,vs,rfl,sq,rd⟩:=P.lst J.j ex;cases jB C rd;refine⟨l,n,is,gI λx=>F.j f [.v (.p x)] [],rfl,b.K▸sq,λm I K _=>?_,λK le=>?_⟩
 .obtain⟨y,N⟩:=Z m I;have ey:gI (λx=>F.j f [.v (.p x)] []) m=y:=by rw[gI,N];rfl
  refine⟨⟨λ_=>False,λ_=>0,0⟩,[],[.v (.p m)],⟨rfl,λr c e=>by simp at e,λr s j=>absurd j<|Ah5 _,λa ha=>ha.j⟩,⟨.p m,[],rfl,rfl,rfl⟩,λw d=>by rw[Ac8.u d];rfl,?_⟩;rw[FF N];intro G' H' e j v rv _;exact⟨by rw[rv,ey],λa o q=>e.w a o q λr j=>absurd j<|Ah5 _⟩
 .obtain⟨x1,T⟩:=Mz J.j le;exact aw.val u (e1.j s.j x1) T rfl trivial
end
def PW.fF (h:PT X (.B op vs pos) t):PW X (.B op vs pos) t:=λb a s U H Q I q=>by have:=h a s U H Q I q;exact this
theorem jF:∀{es}{xs}{τ}{h}{ds}{h'},bC cf es xs=k9->M.Gw F es τ h=.j ds h'->ds.e=xs.e
|.u,xs,_,_,_,_,c,e=>by cases Af4.u c;rw[M.Gw]at e;cases e;rfl
|.j a es,xs,τ,h,ds,h',c,e=>by refine kC (λx r c=>?_) xs c;obtain⟨w,f,e1,e⟩:=zi e;obtain⟨d,i,e2,e⟩:=zi e;obtain⟨r,g,b,e⟩:=zi e;cases e;rw[Aa9,Aa9,jF (a2 c).2 b]
theorem Jf:∀{es}{xs},bC cf es xs=k9->∀e∈xs,jb e=k9
|.u,xs,c=>by cases Af4.u c;intro e b;cases b
|.j a es,xs,c=>by
  refine kC (λx r c=>?_) xs c;intro e b;rcases Ab5.u b with rfl|b
  .exact(a3 c).1
  .exact Jf (a2 c).2 e b
theorem wt:∀{ax}{xs},XM cf ax xs=k9->ax.e=xs.e
|[],[],_=>rfl
|[],_::_,h=>by simp[XM]at h
|_::_,[],h=>by simp[XM]at h
|j::js,x::xs,h=>by simp only[XM,Aa2]at h;exact congrArg (·+1)<|wt h.2
def Rz(h:qk e f=k9):Xh e=true:=by refine zk (λg x l p h=>?_) e h;rfl
def Z7(h:eI cf it e=k9):Xh e=true:=by
 cases it with
|seq a=>exact(a2 h).1
|ar a=>exact Rz h
|_=>exact bB h
section
variable{Y:Ge}{F:M.Fx}{k:Nat}
def bo(a:Go Y F X E k cf)(r:PE X x<|tD Y E<|M.eval F m)(b:∀j,isTrue x X.j j=(do let v←j;standAt x.pos;holding [v]<|truthy v)):PE X x (tD Y E<|M.eval F m)/\(gg m=k9->PT X x (cE Y E<|M.Gn F m)):=⟨r,λ_=>SN a r b⟩
mutual
theorem Zc:∀(m:M.E){X:Cx}{E:XK}{cf:Cf}{e:Expr},Go Y F X E k cf->wc cf m e=k9->PE X e (tD Y E<|M.eval F m)/\(gg m=k9->PT X e (cE Y E<|M.Gn F m))
|.var i,X,E,cf,e,go,h=>by refine jo (λx p h=>?_) e h;obtain⟨h1,h2,h3⟩:=fy h;exact bo go (sy go h1 h2 h3) λ_=>rfl
|.con c,X,E,cf,e,go,h=>by have r:=Lv go h;obtain⟨p,rfl,_,_⟩:=qc h;exact bo go r λ_=>rfl
|.int i,X,E,cf,e,go,h=>by refine xG (λx n p h=>?_) e h;cases Do h;exact bo go Px λ_=>rfl
|.bl i,X,E,cf,e,go,h=>by refine xG (λx n p h=>?_) e h;cases Do h;exact bo go KQ λ_=>rfl
|.au,X,E,cf,e,go,h=>by refine xG (λx n p h=>?_) e h;cases Do h;exact bo go Fo λ_=>rfl
|.str i,X,E,cf,e,go,h=>by refine xG (λx n p h=>?_) e h;cases Do h;exact bo go RC λ_=>rfl
|.tup es,X,E,cf,e,go,h=>by refine so (λx n p h=>?_) e h;obtain⟨h1,h2⟩:=a2 h;exact bo go (Po (Do h1) (λτ hh ds h' q=>jF h2 q)<|ip es go h2) λ_=>rfl
|.lst es,X,E,cf,e,go,h=>by refine HR (λx p h=>?_) e h;obtain⟨h1,h2⟩:=a2 h;exact bo go (DM (Do h1) (λτ hh ds h' q=>jF h2 q)<|ip es go h2) λ_=>rfl
|.bin o a b,X,E,cf,e,go,h=>by refine Mi (λx o y p h=>?_) e h;obtain⟨h0,h1,h2⟩:=a3 h;cases Do h0;exact bo go (Rx go (Zc a go h1).1 (Zc b go h2).1) λ_=>rfl
|.cmp o a b,X,E,cf,e,go,h=>by refine o4 (λx o y p h=>?_) e h;refine kC (λy r h=>?_) y h;obtain⟨h0,hs,h1,h2⟩:=a4 h;obtain⟨rfl,rfl⟩:=Do h0;exact⟨R5 go hs (Zc a go h1).1 (Zc b go h2).1,λ_=>KP go hs (Zc a go h1).1 (Zc b go h2).1⟩
|.a4 o q a b c,X,E,cf,e,go,h=>by refine o4 (λx o y p h=>?_) e h;refine kC (λy r h=>?_) y h;refine kC (λz r h=>?_) r h;obtain⟨h0,hs,h1,h2,h3⟩:=a5 h;obtain⟨rfl,rfl⟩:=Do h0;exact⟨Mh go hs (Zc a go h1).1 (Zc b go h2).1 (Zc c go h3).1,λ_=>MI go hs (Zc a go h1).1 (Zc b go h2).1 (Zc c go h3).1⟩
|.fR neg a,X,E,cf,e,go,h=>by refine o4 (λx o y p h=>?_) e h;refine kC (λy r h=>?_) y h;refine xG (λj n p h=>?_) y h;obtain⟨h0,h1,h2⟩:=a3 h;obtain⟨rfl,rfl⟩:=Do h0;cases Do h1;exact⟨IU (Zc a go h2).1,λ_=>LK (Zc a go h2).1⟩
|.neg a,X,E,cf,e,go,h=>by refine tU (λo x p h=>?_) e h;cases Do (a2 h).1;exact bo go (Pn (Zc a go (a2 h).2).1) λ_=>rfl
|.inv a,X,E,cf,e,go,h=>by refine tU (λo x p h=>?_) e h;cases Do (a2 h).1;exact bo go (Fh (Zc a go (a2 h).2).1) λ_=>rfl
|.not a,X,E,cf,e,go,h=>by refine tU (λo x p h=>?_) e h;cases Do (a2 h).1;exact⟨RD go (Zc a go (a2 h).2).1,λt=>PD<|(Zc a go (a2 h).2).2 t⟩
|.and a b,X,E,cf,e,go,h=>by
  refine Dy (λo x p h=>?_) e h;refine kC (λx r h=>?_) x h;refine kC (λy r h=>?_) r h;obtain⟨h0,h1,h2⟩:=a3 h;cases Do h0;cases r with
 |nil=>exact⟨CM go (Zc a go h1).1<|uL (Zc b go h2).1,λt=>(CZ ((Zc a go h1).2 (a2 t).1)<|Mb<|(Zc b go h2).2 (a2 t).2).pt⟩
 |cons z r=>exact⟨CM go (Zc a go h1).1 (Zc b go h2).1,λt=>(CZ ((Zc a go h1).2 (a2 t).1)<|PW.fF<|(Zc b go h2).2 (a2 t).2).pt⟩
|.or a b,X,E,cf,e,go,h=>by
  refine Dy (λo x p h=>?_) e h;refine kC (λx r h=>?_) x h;refine kC (λy r h=>?_) r h;obtain⟨h0,h1,h2⟩:=a3 h;cases Do h0;cases r with
 |nil=>exact⟨AG go (Zc a go h1).1<|uL (Zc b go h2).1,λt=>(AI ((Zc a go h1).2 (a2 t).1)<|HI<|(Zc b go h2).2 (a2 t).2).pt⟩
 |cons z r=>exact⟨AG go (Zc a go h1).1 (Zc b go h2).1,λt=>(AI ((Zc a go h1).2 (a2 t).1)<|PW.fF<|(Zc b go h2).2 (a2 t).2).pt⟩
|.call f es,X,E,cf,e,go,h=>by refine zk (λg x l p h=>?_) e h;refine kE (λh=>?_) l h;refine kC (λx r h=>?_) x h;obtain⟨h1,h2,h3⟩:=a3 h;have r:=Ol (pos:=p) go h1 h2 (Jf h3)<|dF es go h3;obtain⟨p,rfl,_,_⟩:=qc h1;exact bo go r λ_=>rfl
|.bi b es,X,E,cf,e,go,h=>by refine zk (λg x l p h=>?_) e h;refine kE (λh=>?_) l h;refine kC (λx r h=>?_) x h;obtain⟨h1,h2,h3⟩:=a3 h;have r:=Hj (pos:=p) go h2 h1 (Jf h3)<|dF es go h3;obtain⟨p,rfl,_,_⟩:=qc (a2 h1).2;exact bo go r λ_=>rfl
|.cC a t,X,E,cf,e,go,h=>by refine zk (λg x l p h=>?_) e h;refine kE (λh=>?_) l h;refine kC (λx r h=>?_) x h;refine kC (λy r h=>?_) r h;refine kE (λh=>?_) r h;obtain⟨h1,h2,h3,h4,h5⟩:=a5 h;have r:=Ms (pos:=p) go (Do h3) h1 h2 h4 (Zc a go h5).1;obtain⟨p,rfl,_,_⟩:=qc h1;exact bo go r λ_=>rfl
|.bW a one ts,X,E,cf,e,go,h=>by refine zk (λg x l p h=>?_) e h;refine kE (λh=>?_) l h;refine kC (λx r h=>?_) x h;refine kC (λy r h=>?_) r h;refine kE (λh=>?_) r h;obtain⟨h1,h2,h3,h4⟩:=a4 h;obtain⟨rfl,h4⟩:=a2 h4;refine kC (λt r h=>?_) ts h4;refine kE (λh=>?_) r h;obtain⟨h5,h6⟩:=a2 h;simp only[Ae5,L2]at h6;have r:=IA (pos:=p) go h6 h1 h5 h2 (Zc a go h3).1;obtain⟨p,rfl,_,_⟩:=qc h1;exact bo go r λ_=>rfl
|.ix a b,X,E,cf,e,go,h=>by refine hA (λx y p h=>?_) e h;obtain⟨h1,h2,h3⟩:=a3 h;exact bo go (LZ go h1 (Zc a go h2).1 (Zc b go h3).1) λ_=>rfl
|.sl a lo hi,X,E,cf,e,go,h=>by refine hA (λx y p h=>?_) e h;refine tV (λl u z p2 h=>?_) y h;refine kS (λl h=>?_) l h;refine kS (λu h=>?_) u h;obtain⟨h0,h1,h2,h3⟩:=a4 h;cases nn h0;exact bo go (Im go (Zc a go h1).1 (Zc lo go h2).1 (Zc hi go h3).1) λ_=>rfl
|.eV a lo,X,E,cf,e,go,h=>by refine hA (λx y p h=>?_) e h;refine tV (λl u z p2 h=>?_) y h;refine kS (λl h=>?_) l h;obtain⟨h0,h1,h2,h3⟩:=a4 h;cases nn h0;cases nn h1;exact bo go (EB go (Zc a go h2).1 (Zc lo go h3).1) λ_=>rfl
|.eG a hi,X,E,cf,e,go,h=>by refine hA (λx y p h=>?_) e h;refine tV (λl u z p2 h=>?_) y h;refine kS (λu h=>?_) u h;obtain⟨h0,h1,h2,h3⟩:=a4 h;cases nn h0;cases nn h1;exact bo go (Om go (Zc a go h2).1 (Zc hi go h3).1) λ_=>rfl
|.eA a,X,E,cf,e,go,h=>by refine zk (λg x l p h=>?_) e h;refine kE (λh=>?_) l h;refine kC (λx r h=>?_) x h;refine kC (λy r h=>?_) r h;refine kE (λh=>?_) r h;obtain⟨h1,h2,h3,h4⟩:=a4 h;have r:=Rf (pos:=p) go h1 h2 h3 (Zc a go h4).1;obtain⟨p,rfl,_,_⟩:=qc h1;exact bo go r λ_=>rfl
|.M tg one kk ax it k6 c elt,X,E,cf,e,go,h=>by
  refine n9 (λy g s p h=>?_) e h;refine kC (λg r h=>?_) g h;obtain⟨t,iter,ifs,z⟩:=g;obtain⟨h0,h1,h2,h3,h4,h5,h6⟩:=a7 h;obtain⟨rfl,rfl⟩:=Do h0;simp only[Ad0,L2]at h2;have sc:=Qp h1;have ht:∀C fp w H,fN (Xc X (Jl cf t ax) s C fp w H) ifs<|cE Y E0<|XH F k6 c:=λC fp w H=>by
   have gc:=Wj go sc C fp w H;cases k6 with
|true=>refine kC (λz r h=>?_) ifs h6;refine kE (λh=>?_) r h;exact JV<|(Zc c gc (a2 h).2).2 (a2 h).1
|false=>cases Af4.u h6;rintro pins s1 U H1 Q I ⟨G,τ,h,st,p⟩;exact qW pins s1 U H1 Q I<|p G H1 Ext.refl st.j
  exact bo go (Ds go sc (wt sc.ax) h3 h2 (Z7 h4) (mS it go h4) (λC fp s H=>(Zc elt (Wj go sc C fp s H) h5).1) ht) λ_=>rfl
|.bD tg one kk ax i k6 c elt,X,E,cf,e,go,h=>by
  refine n9 (λy g s p h=>?_) e h;refine kC (λg r h=>?_) g h;obtain⟨t,iter,ifs,z⟩:=g;refine jo (λx p1 h=>?_) iter h;obtain⟨h,h8⟩:=a2 h;obtain⟨h0,h1,h2,h3,h4,h7⟩:=a6 h;obtain⟨rfl,rfl⟩:=Do h0;simp only[Ad0,L2]at h2;have sc:=Qp h1;obtain⟨h4,h5,h6⟩:=fy h4;have ht:∀C fp w H,fN (Xc X (Jl cf t ax) s C fp w H) ifs<|cE Y E0<|XH F k6 c:=λC fp w H=>by
   have gc:=Wj go sc C fp w H;cases k6 with
|true=>refine kC (λz r h=>?_) ifs h8;refine kE (λh=>?_) r h;exact JV<|(Zc c gc (a2 h).2).2 (a2 h).1
|false=>cases Af4.u h8;rintro pins s1 U H1 Q I ⟨G,τ,h,st,p⟩;exact qW pins s1 U H1 Q I<|p G H1 Ext.refl st.j
  exact bo go (MK go sc (wt sc.ax) h3 h2 h4 h5 h6 (wU go<|sy go h4 h5 h6) (λC fp s H=>(Zc elt (Wj go sc C fp s H) h7).1) ht) λ_=>rfl
|.dG,X,E,cf,e,go,h=>by refine vE (λx y p h=>?_) e h;cases Af4.u (a2 h).1;cases Af4.u (a2 h).2;exact bo go PV λ_=>rfl
|.fB i a,X,E,cf,e,go,h=>by refine hA (λg y p h=>?_) e h;refine jo (λx p1 h=>?_) g h;obtain⟨h0,h4,h5⟩:=a3 h;obtain⟨h1,h2,h3⟩:=fy h0;exact bo go (Lc go h1 h2 h3 h4 (Zc a go h5).1) λ_=>rfl
|.c7 neg a i,X,E,cf,e,go,h=>by refine o4 (λx o y p h=>?_) e h;refine kC (λy r h=>?_) y h;refine jo (λy p1 h=>?_) y h;obtain⟨h0,h1,h4⟩:=a3 h;obtain⟨rfl,rfl⟩:=Do h0;obtain⟨h1,h2,h3⟩:=fy h1;exact⟨Hv go h1 h2 h3 (Zc a go h4).1,λ_=>Fb go h1 h2 h3 (Zc a go h4).1⟩
|.gJ k1 a k2 b k3 c i,X,E,cf,e,go,h=>by refine hA (λd y p h=>?_) e h;refine vE (λks vs p0 h=>?_) d h;refine jo (λx p1 h=>?_) y h;refine kC (λq1 ks h=>?_) ks h;refine kC (λq2 ks h=>?_) ks h;refine kC (λq3 ks h=>?_) ks h;refine kE (λh=>?_) ks h;refine kC (λv1 vs h=>?_) vs h;refine kC (λv2 vs h=>?_) vs h;refine kC (λv3 vs h=>?_) vs h;refine kE (λh=>?_) vs h;obtain⟨g1,g2⟩:=a2 h;obtain⟨h0,h4,h5,h6⟩:=a4 g1;obtain⟨h7,h8,h9,h10⟩:=a4 g2;obtain⟨h1,h2,h3⟩:=fy h0;exact bo go (Ef go h1 h2 h3 h4 h5 h6 (Do h7) (Zc a go h8).1 (Zc b go h9).1 (Zc c go h10).1) λ_=>rfl
|.eY i,X,E,cf,e,go,h=>by refine zk (λg x l p h=>?_) e h;refine kE (λh=>?_) l h;refine kC (λx r h=>?_) x h;refine kE (λh=>?_) r h;obtain⟨h0,h1⟩:=a2 h;refine jo (λx p1 h=>?_) x h1;obtain⟨h1,h2,h3⟩:=fy h;exact bo go (K9 go h0 h1 h2 h3) λ_=>rfl
|.a5 a,X,E,cf,e,go,h=>⟨OX (Zc a go h).1,λt=>bB t⟩
|.cH a,X,E,cf,e,go,h=>by refine zk (λg x l p h=>?_) e h;refine kE (λh=>?_) l h;refine kC (λx r h=>?_) x h;refine kE (λh=>?_) r h;refine zk (λg2 x l p2 h=>?_) x h;refine kE (λh=>?_) l h;refine kC (λx r h=>?_) x h;refine kE (λh=>?_) r h;obtain⟨h1,h2,h3,h4⟩:=a4 h;exact bo go (He go h1 h2 h3 (Zc a go h4).1) λ_=>rfl
|.dH s ts,X,E,cf,e,go,h=>by refine zk (λg x l p h=>?_) e h;refine kE (λh=>?_) l h;refine kC (λx r h=>?_) x h;refine kE (λh=>?_) r h;refine xN (λo n q h=>?_) g h;refine xG (λc k1 p1 h=>?_) o h;refine xG (λc2 k2 p2 h=>?_) x h;obtain⟨h1,h2,h3,h4,h5⟩:=a5 h;cases Do h1;cases Do h2;cases Do h3;exact bo go (FR go h4 h5) λ_=>rfl
|.sset a,X,E,cf,e,go,h=>by refine zk (λg x l p h=>?_) e h;refine kE (λh=>?_) l h;refine kC (λx r h=>?_) x h;refine kE (λh=>?_) r h;refine zk (λg2 x l p2 h=>?_) x h;refine kE (λh=>?_) l h;refine kC (λx r h=>?_) x h;refine kE (λh=>?_) r h;obtain⟨h1,h2,h3,h4⟩:=a4 h;exact bo go (Nc go h1 h2 h3 (Zc a go h4).1) λ_=>rfl
|.xf i f,X,E,cf,e,go,h=>by refine xN (λx n q h=>?_) e h;refine jo (λx p h=>?_) x h;obtain⟨h,h0⟩:=a2 h;obtain⟨h1,h2,h3⟩:=fy h;cases Do h0;exact bo go (K8 go h1 h2 h3) λ_=>rfl
|.make c q es,X,E,cf,e,go,h=>by refine zk (λg x l p h=>?_) e h;refine kE (λh=>?_) l h;refine kC (λx r h=>?_) x h;obtain⟨h1,h2,h3⟩:=a3 h;exact bo go (KZ go h1 h2 (Jf h3)<|dF es go h3) λ_=>rfl
|.aJ a c f,X,E,cf,e,go,h=>by refine xN (λx n q h=>?_) e h;obtain⟨h0,h1,h2,h3⟩:=a4 h;cases Do h0;exact bo go (PN go h1 h2 (Zc a go h3).1) λ_=>rfl
|.bO a c m q es,X,E,cf,e,go,h=>by refine zk (λg ys l p h=>?_) e h;refine kE (λh=>?_) l h;refine xN (λx n p2 h=>?_) g h;refine kC (λy ys h=>?_) ys h;obtain⟨h0,h1,h2,h3,h4,h5,h6⟩:=a7 h;cases Do h0;exact bo go (NY go h1 h2 (Do h3) h4 (Zc a go h5).1 (Jf h6)<|dF es go h6) λ_=>rfl
|.fL a,X,E,cf,e,go,h=>by refine zk (λg ys l p h=>?_) e h;refine kE (λh=>?_) l h;refine kE (λh=>?_) ys h;refine xN (λx n p2 h=>?_) g h;obtain⟨h0,h1,h2,h3⟩:=a4 h;cases Do h0;exact bo go (PU go h1 h2 (Zc a go h3).1) λ_=>rfl
|.fM f a,X,E,cf,e,go,h=>by refine zk (λg ys l p h=>?_) e h;refine kC (λx r h=>?_) ys h;refine kE (λh=>?_) r h;refine kC (λw r h=>?_) l h;refine kE (λh=>?_) r h;obtain⟨h0,h1,h2,h3,h4,h5⟩:=a6 h;exact bo go (LM go (Do h0) h1 h2 h3 h4 (Zc a go h5).1) λ_=>rfl
|.dN m a es,X,E,cf,e,go,h=>by refine zk (λg x l p h=>?_) e h;refine kE (λh=>?_) l h;refine kC (λx r h=>?_) x h;refine kE (λh=>?_) r h;refine xN (λo n q h=>?_) g h;obtain⟨h1,h3,h4,h5,h6⟩:=a5 h;cases Do h1;exact bo go (FP go h3 h4 (Jf h6 _ Aa4) (Zc a go h5).1<|dF es go h6) λ_=>rfl
theorem ip:∀(es:M.Es){X:Cx}{E:XK}{cf:Cf}{xs:List Expr},Go Y F X E k cf->bC cf es xs=k9->PA X xs (lz Y E<|M.Gw F es)
|.u,X,E,cf,xs,go,h=>by cases Af4.u h;exact Lg
|.j a es,X,E,cf,xs,go,h=>by refine kC (λx r h=>?_) xs h;obtain⟨h1,h2,h3⟩:=a3 h;exact NI h1 (Zc a go h2).1<|ip es go h3
theorem dF:∀(es:M.Es){X:Cx}{E:XK}{cf:Cf}{xs:List Expr},Go Y F X E k cf->bC cf es xs=k9->PA X xs (gK Y E<|M.Gg F es)
|.u,X,E,cf,xs,go,h=>by cases Af4.u h;exact D1
|.j a es,X,E,cf,xs,go,h=>by refine kC (λx r h=>?_) xs h;obtain⟨h1,h2,h3⟩:=a3 h;exact Mp h1 (Zc a go h2).1<|dF es go h3
theorem mS:∀(it:M.It){X:Cx}{E:XK}{cf:Cf}{tg e:Expr},Go Y F X E k cf->eI cf it e=k9->PI X tg e (gQ Y E y9<|M.Gk F it)
|.j a,X,E,cf,tg,e,go,h=>wU go (Zc a go (a2 h).2).1
|.ar a,X,E,cf,tg,e,go,h=>by refine zk (λg x l p h=>?_) e h;refine kE (λh=>?_) l h;refine kC (λx r h=>?_) x h;refine kE (λh=>?_) r h;obtain⟨h1,h2,h3⟩:=a3 h;exact zL go h1 h2 (Zc a go h3).1
|.enum a,X,E,cf,tg,e,go,h=>bB h
|.cO a,X,E,cf,tg,e,go,h=>bB h
end
end
structure Bs where
 G:Gh
 H:Hp
 h:M.AH
structure br(Y:Ge)(B:Bs)(G:Gh)(τ:M.Sl)(h:M.AH)(U:St)(H:Hp):Prop where
 st:av Y G τ h U H
 ext:Ext B.G B.H G H
 hr:ah Y B.G B.h B.H
 own:∀i xs a,M.Gm τ i=y0 (.j xs)->U[i]?=y0 (y0<|.j a)->B.H a=u0
open Lake renaming MS.br.own->Lake.MS.br.j,MS.br.ext->Lake.MS.br.J,MS.br.st->Lake.MS.br.u
def bc(Y:Ge)(E:XK)(B:Bs)(o:M.O)(D:gy):Prop:=match o with
|.j τ h=>∀G U H,br Y B G τ h U H->D.nx U H
|.ret w h=>∀G v H,Ext B.G B.H G H->ah Y G h H->ak Y G H w v->aI [] [] B.H w v->D.rt v H
|.brk τ h=>∀G U H,br Y B G τ h U H->D.bk U H
|.cont τ h=>∀G U H,br Y B G τ h U H->D.ct U H
|.exc d h=>∀G H,Ext B.G B.H G H->ah Y G h H->rK Y E d G H
|.w=>False
def cm(Y:Ge)(E:XK)(m:M.Sl->M.AH->M.O):TS:=λD U H=>∃B G τ h,br Y B G τ h U H/\bc Y E B (m τ h) D
def PS.imp {st:Stmt}(h:PS X st t)(k:∀D U H,t' D U H->t D U H):PS X st t':=λa s U H D I q=>h a s U H D I<|k _ _ _ q
def dj.imp {st:List Stmt}(h:dj X st t)(k:∀D U H,t' D U H->t D U H):dj X st t':=λa s U H D I q=>h a s U H D I<|k _ _ _ q
section
variable{Y:Ge}{E:XK}{B:Bs}{G G1:Gh}{τ:M.Sl}{h h1:M.AH}{U:St}{H H1:Hp}{D:gy}
def br.on (s:br Y B G τ h U H)(e:Ext G H G1 H1)(a:ah Y G1 h1 H1):br Y B G1 τ h1 U H1:=⟨s.u.ext e a,s.J.trans s.hr e,s.hr,s.j⟩
theorem bc.exc (s:br Y B G τ h U H)(p:bc Y E B (.exc d h1) D):aw Y E G H (.exc d h1) P:=λc a e b=>p c a (s.J.trans s.hr e) b
def Wc(s:br Y B G τ h U H)(p:bc Y E B ((m τ h).cF f) D)
 (k:∀w v h1 G1 H1,Ext G H G1 H1->br Y B G1 τ h1 U H1->ak Y G1 H1 w v->aI τ U H w v->bc Y E B (f w h1) D->Q v H1):tD Y E m U H Q:=by
 refine⟨G,τ,h,s.u,?_⟩;cases q:m τ h with
|ok w h1=>rw[q]at p;exactλG1 H1 e b v a c=>k w v h1 G1 H1 e (s.on e b) a c p
|exc d h1=>rw[q]at p;exact bc.exc s p
|fail=>rw[q]at p;exact p
def vH(s:br Y B G τ h U H)(p:bc Y E B ((m τ h).cF f) D)
 (k:∀b h1 G1 H1,Ext G H G1 H1->br Y B G1 τ h1 U H1->bc Y E B (f b h1) D->Q b H1):cE Y E m U H Q:=by
 refine⟨G,τ,h,s.u,?_⟩;cases q:m τ h with
|ok w h1=>rw[q]at p;exactλG1 H1 e a=>k w h1 G1 H1 e (s.on e a) p
|exc d h1=>rw[q]at p;exact bc.exc s p
|fail=>rw[q]at p;exact p
theorem br.set (l:br Y B G τ h U H)(e:Ext G H G1 H1)(s:br Y B G1 τ h1 U H1)(r:ak Y G1 H1 w v)(f:aI τ U H w v)(t:∀xs,w≠.u xs):br Y B G1 (M.GD τ i w) h1 (U.y i<|y0 v) H1:=by
 refine⟨s.u.set r λu j x p e1 m a q z=>?_,s.J,s.hr,λj xs a e1 e2=>?_⟩
 .cases w with
|v d=>cases u
|bor xs=>exact t xs rfl
|own xs=>obtain⟨b,k,g⟩:=f;subst q;cases k;obtain⟨o,n⟩:=l.u.c9 e1 m z;rw[g]at n;cases n
 .rw[xl]at e1;by_cases c:j=i/\i<τ.e
  .rw[Da c]at e1;cases e1;obtain⟨rfl,c⟩:=c;rw[Ab8<|by rw[←s.u.len];exact c]at e2;cases e2;obtain⟨b,k,g⟩:=f;cases k;exact l.J.none l.hr g
  .rw[FM c]at e1;have p:=λz=>c ⟨z,by subst z;exact qy e1⟩;rw[Ad3<|Ne.symm p]at e2;exact s.j j xs a e1 e2
def br.fz (a:br Y B G τ h U H)(e:Ext G H G1 H1)(s:br Y B G1 τ h1 U H1)(r:ak Y G1 H1 w v)(f:aI τ U H w v)(c:w.d=y0 d):∃G2,Ext G H G2 H1/\br Y B G2 τ h1 U H1/\aD Y G2 H1 d v:=by obtain⟨G2,e2,b,rd,_⟩:=rQ e s.u a.u r f c;exact⟨G2,e2,⟨b,a.J.trans a.hr e2,s.hr,s.j⟩,rd⟩
def br.ej (s:br Y B G τ h U H)(r:aD Y G H d v):br Y B G (M.GD τ i<|.v d) h (U.y i<|y0 v) H:=br.set s Ext.refl s r trivial λa z=>by cases z
theorem br.a9:∀{is}{ds}{vs}{τ j}{U},M.a9 is ds τ=y0 j->aa Y G H ds vs->br Y B G τ h U H->br Y B G j h (iS is vs U) H/\is.e=vs.e
|[],[],_,_,_,_,e,rfl,s=>by cases e;exact⟨s,rfl⟩
|[],_::_,_,_,_,_,e,_,_=>by simp[M.a9]at e
|_::_,[],_,_,_,_,e,_,_=>by simp[M.a9]at e
|i::is,d::ds,_,_,_,_,e,z7,s=>by obtain⟨v,r,rfl,a,f⟩:=z7;obtain⟨c,b⟩:=br.a9 (by simpa[M.a9]using e) f<|s.ej a;exact⟨c,congrArg (·+1) b⟩
def AW(e:M.Gr tg one d τ=y0 τ')(r:aD Y G H d x)(s:br Y B G τ h U H)(b:∀j,br Y B G τ' h j H->Q j H):gM Y tg one x U H Q:=by
 cases one with
|true=>
  cases tg with
 |nil=>cases e
 |cons i m=>
   cases m with
 |cons _ _=>cases e
 |nil=>cases e;exact⟨i,rfl,b _<|s.ej r⟩
|false=>
  cases d with
|tup f=>obtain⟨a,g,rfl,n,c⟩:=r;obtain⟨k,l⟩:=br.a9 (e) c s;exact⟨G,f,g,a,rfl,n,c,l,b _ k⟩
|_=>cases e
def br.write (s:br Y B G τ h U H)(l:M.Gm τ i=y0 (.j xs))(m:U[i]?=y0 (y0<|.j a))(r:aa Y G H ys us):br Y B G (M.GD τ i<|.j ys) h U<|aH H a<|.x us:=by
 obtain⟨E,of,X,Z,_⟩:=xu s.u l m;have O:=s.j i xs a l m;have mon:Mon G H G<|aH H a<|.x us:=⟨λb o z q=>by rw[Za<|λe:b=a=>E<|e▸z];exact q,Ab0 _,λ_ _=>rfl,λ_ z=>z⟩;have T:=qy l;refine⟨⟨by rw[xy];exact s.u.len,λj w e=>?_,λp q A w b K k f V S=>?_,(by refine⟨s.u.j.w,λq c e=>⟨(s.u.j.C q c e).1,(s.u.j.C q c e).2.mon mon λo z=>by rw[Za<|of q<|s.u.j.lt e];exact z⟩,s.u.j.inj,λb z=>?_⟩;obtain⟨o,q⟩:=s.u.j.j b z;exact⟨o,by rw[Za<|λe:b=a=>E<|e▸z];exact q⟩)⟩,⟨λb o q C=>?_,s.J.le,s.J.aO,s.J.new,s.J.fz,s.J.old,λq y z=>?_⟩,s.hr,λj A b k f=>?_⟩
 .rw[xl]at e;by_cases c:j=i/\i<τ.e
  .rw[Da c]at e;cases e;obtain⟨rfl,_⟩:=c;exact⟨.j a,m,a,us,rfl,E,of,Zb,r.mon mon⟩
  .rw[FM c]at e;have P:=λz=>c ⟨z,by subst z;exact qy e⟩;obtain⟨v,D,N⟩:=s.u.u j w e;refine⟨v,D,?_⟩;cases w with
|v d=>exact aD.mon mon N
|own Q=>obtain⟨b,bs,rfl,W,L,n,x⟩:=N;have u:b≠a:=λz=>s.u.w i j xs _ a (Ne.symm P) l e rfl m<|z▸D;exact⟨b,bs,rfl,W,L,by rw[Za u];exact n,x.mon mon⟩
|bor Q=>
    obtain⟨b,bs,rfl,L,n,x⟩:=N;have u:b≠a:=λz=>s.u.w i j xs _ a (Ne.symm P) l e rfl m<|z▸D;refine⟨b,bs,rfl,L,?_,x.mon mon⟩;obtain n|⟨o,n⟩:=n
    .exact .u<|by rwa [Za u]
    .exact .w ⟨o,by rw[Za u];exact n⟩
 .rw[xl]at k f;have F:∃g,M.Gm τ p=y0 (.j g):=by
   by_cases c:p=i/\i<τ.e
   .exact⟨xs,by rw[c.1];exact l⟩
   .rw[FM c]at k;exact⟨A,k⟩
  have I:∃t,M.Gm τ q=y0 t/\eA t=true:=by
   by_cases c:q=i/\i<τ.e
   .exact⟨.j xs,by rw[c.1];exact l,rfl⟩
   .rw[FM c]at f;exact⟨w,f,V⟩
  obtain⟨g,F⟩:=F;obtain⟨t,I,J⟩:=I;exact s.u.w p q g t b K F I J S
 .rw[Za<|λe:b=a=>by rw[e,O]at q;cases q];exact s.J.w b o q C
 .obtain⟨o,R⟩:=s.J.u q y z;have:B.G.j q≠a:=λe=>by have:=of q<|Ab3 y s.J.le;rw[s.J.aO q y]at this;exact this e
  exact⟨o,by rw[Za this];exact R⟩
 .rw[xl]at k;by_cases c:j=i/\i<τ.e
  .obtain⟨rfl,_⟩:=c;rw[m]at f;cases f;exact O
  .rw[FM c]at k;exact s.j j A b k f
theorem zD:∀(xs)(n){d},M.Gd xs=k9->M.Gc d=k9->M.Gd (xs.y n d)=k9
|[],_,_,_,_=>rfl
|x::xs,0,d,h,a=>by have h:=h;rw[Aa2]at h;show(M.Gc d&&M.Gd xs)=k9;rw[a,h.2];rfl
|x::xs,n+1,d,h,a=>by have h:=h;rw[Aa2]at h;show(M.Gc x&&M.Gd (xs.y n d))=k9;rw[h.1,zD xs n h.2 a];rfl
def br.gZ (s:br Y B G τ h U H)(n:h[r]?=y0 c0)(z:bE Y G (aH H (G.j r) o1) (G.j r) c1):br Y B G τ (h.y r c1) U<|aH H (G.j r) o1:=by
 have C:=(Aa0.u n).1;have a:=s.u.j.lt n;have l:=s.u.j.pS a;have mon:Mon G H G<|aH H _ o1:=⟨λb o w q=>by rw[Za<|λe:b=G.j r=>l<|e▸w];exact q,Ab0 _,λ_ _=>rfl,λ_ w=>w⟩;refine⟨⟨s.u.len,λj w e=>?_,s.u.w,(by
   refine⟨by rw[Ad5];exact s.u.j.w,λq c e=>?_,s.u.j.inj,λb w=>?_⟩
   .by_cases c:q=r
    .subst c;rw[Ab8 C]at e;cases e;exact⟨l,z⟩
    .rw[Ad3<|Ne.symm c]at e;exact⟨(s.u.j.C q _ e).1,(s.u.j.C q _ e).2.mon mon λo w=>by rw[Za λp=>c<|s.u.j.inj q r (s.u.j.lt e) a p];exact w⟩
   .obtain⟨o,q⟩:=s.u.j.j b w;exact⟨o,by rw[Za<|λe:b=G.j r=>l<|e▸w];exact q⟩)⟩,⟨λb o q i=>?_,s.J.le,s.J.aO,s.J.new,s.J.fz,s.J.old,λq u w=>?_⟩,s.hr,s.j⟩
 .obtain⟨v,A,m⟩:=s.u.u j w e;refine⟨v,A,?_⟩;cases w with
|v d=>exact aD.mon mon m
|own x=>obtain⟨b,bs,rfl,D,f,g,k⟩:=m;exact⟨b,bs,rfl,D,f,by rw[Za<|Ne.symm<|f r a];exact g,k.mon mon⟩
|bor x=>
   obtain⟨b,bs,rfl,f,g,k⟩:=m;refine⟨b,bs,rfl,f,?_,k.mon mon⟩;obtain g|⟨o,g⟩:=g
   .exact .u<|by rwa [Za<|Ne.symm<|f r a]
   .exact .w ⟨o,by rw[Za<|Ne.symm<|f r a];exact g⟩
 .have y:b≠G.j r:=λe=>by
   by_cases c:r<B.G.n
   .exact i r c<|by rw[←s.J.aO r c];exact e.u
   .have:=s.J.new r (Nat.not_lt.u c) a;rw[←e,q]at this;cases this
  rw[Za y];exact s.J.w b o q i
 .by_cases c:B.G.j q=G.j r
  .exact⟨_,by rw[c];exact Zb⟩
  .obtain⟨o,t⟩:=s.J.u q u w;exact⟨o,by rw[Za c];exact t⟩
def wZ(c:ah Y G h H)(a:r<G.n)(o):Mon G H G<|aH H (G.j r) o:=⟨λb o w q=>by rw[Za<|λe:b=G.j r=>c.pS a<|e▸w];exact q,Ab0 _,λ_ _=>rfl,λ_ w=>w⟩
def br.cell (s:br Y B G τ h U H)(a:h[r]?=y0 (.x xs))(b:M.Gd ys=k9)(z:aa Y G H ys us):br Y B G τ (h.y r<|.x ys) U<|aH H (G.j r)<|.x us:=
 s.gZ a ⟨b,us,Zb,z.mon<|wZ s.u.j (s.u.j.lt a) _⟩
def br.iZ (s:br Y B G τ h U H)(a:h[r]?=y0 (.obj c0 xs))(z:aa Y G H (ys.j (·.2)) us):br Y B G τ (h.y r<|.obj c0 ys) U<|aH H (G.j r)<|.ins (Y.j c0) dx0<|(ys.j λp=>Str.ofString p.1).a1 us:=
 s.gZ a ⟨dx0,us,Zb,z.mon<|wZ s.u.j (s.u.j.lt a) _⟩
end
structure gf(Y:Ge)(F:M.Fx)(X:Cx)(E:XK)(k:Nat)(cf:Cf):Prop extends Go Y F X E k cf where
 iz:PassesOwn (model X.u X.w) X.A X.j X.xe
 hG:X.stack=X.j::X.outer
 oH:X.j.frame=y0 X.j.w
 ex:X.ex=[]
 m9:∀c f,cf.cb=true->cf.x.er.x (c,f)=true->mh cf.u (Wd c)=true->(Wd c==("__debug__":Str))=false->iP Y c/\mI Y.K (Y.j c) (Wd f)/\∀(np cpos pos:Pos)(e:Expr)(t:TA),PA X [e] t->jb e=true→
  PS X (.Raise (y0<|.y (.j (Wd c) np) [e] [] cpos) u0 pos) (yJ (Y.j c) (Wd f) E t)
 pat:∀hd,PassesOwnAt (model X.u X.w) (X.A.mark hd) X.A X.j X.xe
 f6:∀c,cf.f6.x c=true->PySem.W.mroIn X.K (Y.j c) (.w "BaseException")=some true/\cf.j.x c=true/\2<=k
section
open Lake renaming MS.aa.length->Lake.MS.aa.e
variable{Y:Ge}{F:M.Fx}{X:Cx}{E:XK}{k:Nat}{cf:Cf}
def wB(h:WE cf i x=k9):cf.N[i]?=y0 x/\iU cf.u x=true:=by simpa[WE]using h
def xR(h:q9 cf i x=k9):cf.N[i]?=y0 x/\cf.u.j.u x=y0 .local:=by simpa[q9]using h
def OM(j:tD Y E (M.eval F<|.a5 a) U H Q):tD Y E (M.eval F a) U H Q:=by
 obtain⟨G,w,h,s,p⟩:=j;refine Wa s.j Ext.refl s p λt v1 c d z e1 k g i n b=>?_;cases t with
|own e=>
  obtain⟨l,x,rfl,v,u,o,q⟩:=i;obtain⟨y,m,r⟩:=n;cases m;have b:aw Y E G H (if M.Gd e=k9 then M.aj _ (c++[.x e])else .w) _:=b;by_cases f:M.Gd e=k9;rotate_left
  .rw[FM f]at b;exact b.j
  rw[Da f]at b;refine aw.val b (XA e1 r) (uk g.j v u o q f) ?_ trivial;show c.e<d.n+1/\V.ref l=.j (if c.e=d.n then l else d.j c.e);rw[g.j.w,Da rfl];exact⟨Af5 _,rfl⟩
|_=>exact b.j
def xi(h:xE v=k9):swapsWith v t l env=pure false:=by
 cases v<;>first|rfl|(simp[xE]at h)
def wP:swapsWith v (y0<|.u o n p) l env=pure false:=by cases v<;>rfl
def qL(a:Go Y F X E k cf)(b:WE cf i x=k9)(c:PE X v<|tD Y E<|M.eval F m)(d:swapsWith v (y0<|.j x p) pos.u X.j=pure y9):
 PS X (.j [.j x p] v pos)<|hI (tD Y E<|M.eval F m)<|qP i:=by
 obtain⟨f,e⟩:=wB b;have b:=a.gz x e;exact OT (by rw[a.N];exact a.nd) (by rwa [a.N]) b.1 c d b.2
noncomputable def uT:M.E->Bool
|.a5 _=>k9
|.M ..=>k9
|.bD ..=>k9
|_=>y9
def NO(h:wc cf m v=k9)(a:uT m=y9):xE v=true:=by
 cases v with
|ListComp _ _ _ _=>cases m<;>first|exact bB h|(exact absurd (a) Ar8)
|SetComp _ _ _ _=>cases m<;>first|exact bB h|(exact absurd (a) Ar8)
|DictComp _ _ _ _ _=>cases m<;>first|exact bB h|(exact absurd (a) Ar8)
|_=>rfl
def OK(d:Cf)(a:Bool)(b:List Expr)(c:M.E):Bool:=bif a then(lC b λz r=>kZ r<|gg c&&wc d c z)else b.U
def Fy(h:wc cf (.M tg one kk ax it k6 c elt) v=k9):∃y t iter ifs scope p0,v=.A y [⟨t,iter,ifs,0⟩] scope p0∧
 kf cf scope (Jl cf t ax) kk ax/\(∀i∈tg,i<kk)/\qd {cf with sc:=scope,N:=Jl cf t ax} tg one t=k9/\eI cf it iter=k9/\wc {cf with sc:=scope,N:=Jl cf t ax} elt y=k9∧
 OK {cf with sc:=scope,N:=Jl cf t ax} k6 ifs c=true:=by
 refine n9 (λy g s p h=>kC (λg r h=>?_) g h) v h;obtain⟨t,iter,ifs,z⟩:=g;obtain⟨j,f,a,k,d,e,b⟩:=a7 h;obtain⟨rfl,rfl⟩:=Do j;simp[L2]at a;exact⟨y,t,iter,ifs,s,p,rfl,Qp f,a,k,d,e,b⟩
def Oa(e:Go Y F X E k cf)(u:WE cf i x=k9)(h:wc cf (.M tg one kk ax it k6 c elt) v=k9):
 PS X (.j [.j x p] v pos)<|hI (tD Y E<|M.eval F<|.M tg one kk ax it k6 c elt)<|qP i:=by
 obtain⟨y,t,g,d,a,J,rfl,l,O,L,n,B,m⟩:=Fy h;obtain⟨b,o⟩:∃b,swapsWith (.A y [⟨t,g,d,0⟩] a J) (y0<|.j x p) pos.u X.j=pure b:=⟨_,rfl⟩;cases b with
|false=>exact qL e u ((Zc _ e h).1) o
|true=>
  obtain⟨N,w⟩:=wB u;have K:∀C j s H,fN (Xc X _ a C j s H) d<|cE Y E0<|XH F k6 c:=λC j s H=>by
   cases k6 with
|true=>exact kC (λz r h=>kE (λh=>JV<|(Zc c (Wj e l C j s H) (a2 h).2).2 (a2 h).1) r h) d m
|false=>cases Af4.u m;rintro f A U q Q I ⟨G,P,h,D,p⟩;exact qW f A U q Q I<|p G q Ext.refl D.j
  exact qK e N w o l (wt l.ax) L O (Z7 n) (mS it e n) (λC j s H=>(Zc elt (Wj e l C j s H) B).1) K
def F8(d:Go Y F X E k cf)(B:WE cf i x=k9)(h:wc cf (.bD tg one kk ax i0 k6 c elt) v=k9):
 PS X (.j [.j x p] v pos)<|hI (tD Y E<|M.eval F<|.bD tg one kk ax i0 k6 c elt)<|qP i:=by
 have n:=(Zc (.bD tg one kk ax i0 k6 c elt) d h).1;revert n;refine n9 (λy g s R h=>kC (λg r h=>?_) g h) v h;obtain⟨t,f,a,z⟩:=g;refine jo (λZ K h=>?_) f h;obtain⟨h,J⟩:=a2 h;obtain⟨P,O,D,V,l,h7⟩:=a6 h;obtain⟨rfl,rfl⟩:=Do P;simp only[Ad0,L2]at D;obtain⟨l,q,o⟩:=fy l;have m:=Qp O;intro n;obtain⟨b,u⟩:∃b,swapsWith (.A y [⟨t,.j Z K,a,0⟩] s R) (y0<|.j x p) pos.u X.j=pure b:=⟨_,rfl⟩;cases b with
|false=>exact qL d B n u
|true=>
  obtain⟨W,L⟩:=wB B;have T:∀C j w H,fN (Xc X (Jl cf t ax) s C j w H) a<|cE Y E0<|XH F k6 c:=λC j w H=>by
   cases k6 with
|true=>exact kC (λz r h=>kE (λh=>JV<|(Zc c (Wj d m C j w H) (a2 h).2).2 (a2 h).1) r h) a J
|false=>cases Af4.u J;rintro e N U A Q I ⟨G,τ,h,S,p⟩;exact qW e N U A Q I<|p G A Ext.refl S.j
  exact Q0 d W L u m (wt m.ax) V D l q o (wU d<|sy d l q o) (λC j s H=>(Zc elt (Wj d m C j s H) h7).1) T
def Qb(a:Go Y F X E k cf)(c:WE cf i x=k9)(h:wc cf m v=k9)(b:uT m=y9):PS X (.j [.j x p] v pos)<|hI (tD Y E<|M.eval F m)<|qP i:=
 qL a c (Zc m a h).1<|xi<|NO h b
theorem rG(b:Go Y F X E k cf)(c:WE cf i x=k9):∀m,wc cf m v=k9->PS X (.j [.j x p] v pos) (hI (tD Y E<|M.eval F m)<|qP i)
|.a5 a,h=>PS.imp (rG b c a h) λD U H q=>OM q
|.M ..,h=>Oa b c h
|.bD ..,h=>F8 b c h
|.dG,h=>Qb b c h rfl
|.fB ..,h=>Qb b c h rfl
|.c7 ..,h=>Qb b c h rfl
|.eY _,h=>Qb b c h rfl
|.gJ ..,h=>Qb b c h rfl
|.var _,h=>Qb b c h rfl
|.con _,h=>Qb b c h rfl
|.int _,h=>Qb b c h rfl
|.bl _,h=>Qb b c h rfl
|.au,h=>Qb b c h rfl
|.str _,h=>Qb b c h rfl
|.tup _,h=>Qb b c h rfl
|.lst _,h=>Qb b c h rfl
|.bin ..,h=>Qb b c h rfl
|.cmp ..,h=>Qb b c h rfl
|.a4 ..,h=>Qb b c h rfl
|.fR ..,h=>Qb b c h rfl
|.neg _,h=>Qb b c h rfl
|.inv _,h=>Qb b c h rfl
|.not _,h=>Qb b c h rfl
|.and ..,h=>Qb b c h rfl
|.or ..,h=>Qb b c h rfl
|.call ..,h=>Qb b c h rfl
|.bi ..,h=>Qb b c h rfl
|.cC ..,h=>Qb b c h rfl
|.eA _,h=>Qb b c h rfl
|.bW ..,h=>Qb b c h rfl
|.ix ..,h=>Qb b c h rfl
|.sl ..,h=>Qb b c h rfl
|.eV ..,h=>Qb b c h rfl
|.eG ..,h=>Qb b c h rfl
|.cH _,h=>Qb b c h rfl
|.sset _,h=>Qb b c h rfl
|.dH ..,h=>Qb b c h rfl
|.dN ..,h=>Qb b c h rfl
|.xf ..,h=>Qb b c h rfl
|.make ..,h=>Qb b c h rfl
|.aJ ..,h=>Qb b c h rfl
|.bO ..,h=>Qb b c h rfl
|.fL ..,h=>Qb b c h rfl
|.fM ..,h=>Qb b c h rfl
def HG(j:Go Y F X E k cf)(n:WE cf i x=k9)(h:wc cf m v=k9):PS X (.j [.j x p] v pos)<|cm Y E<|M.exec F<|.set i m:=by
 refine PS.imp (rG j n m h) λD U H e=>?_;obtain⟨B,G,o,h,s,p⟩:=e;refine Wc s p λw v q c l e1 b d g a=>?_;cases w with
|bor f=>exact a.j
|_=>exact a c _ l<|br.set s e1 b d g λf z=>by cases z
def Ia(j:Go Y F X E k cf)(n:WE cf i x=k9)(h:wc cf m v=k9):PS X (.j [.j x p] v pos)<|cm Y E<|M.exec F<|.af i m:=by
 refine PS.imp (rG j n m h) λD U H f=>?_;obtain⟨B,G,r,h,s,p⟩:=f;refine Wc s p λw v u t l e1 c e g a=>?_;cases q:w.d with
|none=>rw[q]at a;exact a.j
|some d=>rw[q]at a;obtain⟨b,e2,o,rd⟩:=br.fz s e1 c e g q;exact a b _ l<|o.ej rd
def yX:swapsWithSole [.G ts n p] v l env=pure false:=by cases v<;>rfl
def jN(h:notTuple v=k9):swappedStores [.G ts n p] v env=pure none:=by
 cases v<;>first|rfl|(simp[notTuple]at h)
def KW(f:Go Y F X E k cf)(t:sD cf is ts=k9)(r:notTuple v=k9)(h:wc cf m v=k9):PS X (.j [.G ts n p] v pos)<|cm Y E<|M.exec F<|.ek is m:=by
 refine PS.imp (m8 (Zc m f h).1 (zo f (one:=y9) t) yX (jN r) rfl) λD U H o=>?_;obtain⟨B,G,e,h,s,p⟩:=o;refine Wc s p λw v j i x e1 g l z a=>?_;cases w with
|v d=>
  cases d with
 |tup c=>
   have a:bc Y E B (match M.a9 is c e with|some b=>.j b j|none=>.w) D:=a;cases q:M.a9 is c e with
   |none=>rw[q]at a;exact a.j
   |some b=>rw[q]at a;exact AW (show M.Gr is y9 (.w c) e=y0 b from q) l g λy u=>a i y x u
 |_=>exact a.j
|_=>exact a.j
def WN:swapsWithSole [.w x y p] v l env=pure false:=by cases v<;>rfl
def qG:swappedStores [.w x y p] v env=pure none:=by cases v<;>rfl
def jV(a:zd y=k9)(v):assign (.w x y p) env v=(do
 let j←holding [v]<|eval x env;let L←holding [v,j]<|eval y env
 standAt p
 holding [v,j,L]<|setItem j L v
 release [v,j,L] []):=by
 cases y<;>first|rfl|(simp[zd]at a)
def WU(a:M.Kr d=k9)(z:aD Y G H d v):aD Y G' H' d v:=by
 cases d with
|au=>exact z
|bl _=>exact z
|int _=>exact z
|str _=>exact z
|_=>exact absurd (a) Ac0
def qQ(a:M.Kr d=k9):M.Gc d=true:=by
 cases d<;>first|rfl|exact absurd (a) Ac0
set_option tactic.hygienic true in
def Mw(e:Go Y F X E k cf)(L:zd y=k9)(P:wc cf o x=k9)(K:wc cf kx y=k9)(h:wc cf m v=k9):PS X (.j [.w x y p] v pos)<|cm Y E<|M.exec F<|.b7 o kx m:=by
 refine PS.imp (m8 (Zc m e h).1 (o7 (Zc o e P).1 (Zc kx e K).1 ZY<|jV L) WN qG rfl) λD U H J=>?_;obtain⟨B,G,S,h,s,p⟩:=J;refine Wc s p λw v h1 G1 H1 e1 t C f1 i=>Wc t i λV ov h2 W H2 e2 g l f2 O=>Wc g O λkw T h3 Q H3 N b R f3 a=>?_;unfold M.Kt at a;split at a
 .rename_i d r j;split at a
  .rename_i c q;split at a
   .rename_i n z;split at a
    .rename_i f;obtain⟨Z,u⟩:=(ak.ext N g.u.j l);subst u;cases(R);obtain⟨_,I,A,rv⟩:=b.u.j.cell r c q;refine⟨_,I,j,n,rfl,rfl,A,by rw[←rv.e];exact z,?_⟩;exact a Q U _<|b.cell q (zD c n (b.u.j.pure r c q)<|qQ f)<|aa.set (WU f C) n rv
    .exact a.j
   .exact a.j
  .exact a.j
 .exact a.j
def Pg(h:M.gD w=y0 (a,b)):w=.v (.w [a,b]):=by
 unfold M.gD at h;split at h
 .cases h;rfl
 .cases h
set_option tactic.hygienic true in
def RM(e:Go Y F X E k cf)(hy:zd y=k9)(hn:notTuple v=k9)(A:(cf.cb&&WE cf j a)=k9)(P:wc cf o x=k9)(V:wc cf kx y=k9)(h:wc cf m v=k9):PS X (.j [.G [.w x y p,.j a pa] n pt] v pos)<|cm Y E<|M.exec F<|.gC o kx j m:=by
 obtain⟨j1,Q⟩:=wB (a2 A).2;have C:=e.gz a Q;refine PS.imp (m8 (Zc m e h).1 (yH (e.y (a2 A).1)<|QV (o7 (Zc o e P).1 (Zc kx e V).1 ZY<|jV hy)<|QV (r9 (by rw[e.N];exact e.nd) (by rwa [e.N]) C.1 C.2) Dx) yX (jN hn) rfl) λD U H T=>?_;obtain⟨B,G,K,h,s,p⟩:=T;refine Wc s p λw v h1 G1 H1 e1 N O f1 g=>?_;cases t:M.gD w with
|none=>rw[t]at g;exact g.j
|some dd=>
  obtain⟨d1,d2⟩:=dd;rw[t]at g;cases Pg t;obtain⟨b,z,rfl,R,v1,r',rfl,z3,v2,r'',rfl,Z,rfl⟩:=(O);refine⟨b,[v1,v2],rfl,e.K▸R.sq,rfl,v1,[v2],rfl,Wc N g λS ov h2 G2 H2 e2 J L f2 p2=>Wc J p2 λkw iv h3 G3 H3 W i r3 f3 f=>?_⟩;split at f;rotate_left
  .exact f.j
  rename_i u;cases c:M.Kt (.v d1) S kw K h3 with
|next τ' h'=>
   rw[c]at f;unfold M.Kt at c;split at c
   .rename_i d r j' e1;cases e1;split at c
    .rename_i l q;split at c
     .rename_i n qn;split at c
      .rename_i I;cases c;obtain⟨h4,h5⟩:=(ak.ext W J.u.j L);subst h5;cases(r3);obtain⟨_,z,hv,rv⟩:=i.u.j.cell r l q;refine⟨_,z,j',n,rfl,rfl,hv,by rw[←rv.e];exact qn,?_⟩;exact⟨v2,[],rfl,rfl,f G3 _ _<|(i.cell q (zD l n (i.u.j.pure r l q)<|qQ I)<|aa.set (WU I z3) n rv).ej<|WU u Z⟩
      .cases c
     .cases c
    .cases c
   .cases c
|_=>rw[c]at f;exact f.j
def yC(h:X6 cf i m e cpos=k9):∃x p apos,e=.u (.j x p) m apos/\cf.N[i]?=y0 x/\JO cf.u x=k9/\bb x=k9/\(apos.j==cpos.u)=true:=by refine xN (λx n q h=>jo (λx p h=>?_) x h) e h;obtain⟨h,b,f⟩:=a3 h;obtain⟨d,c,a⟩:=fy h;cases Do b;exact⟨_,_,_,rfl,d,c,a,f⟩
def Ep(l:Go Y F X E k cf)(I:X6 cf i "append" f cpos=true)(g:jb v=true)(h:wc cf m v=true):PS X (.Expr (.y f [v] [] cpos) pos)<|cm Y E<|M.exec F<|.app i m:=by
 obtain⟨x,p,t,rfl,o,T,c,K⟩:=yC I;unfold bb at c;rw[Aa2]at c;refine PS.imp (xX (jL S6 Ug Uh (λ_ _ _ _ _ _=>nU) ya (zC (pos:=p) (by rwa [l.N]) (l.gP x T) (by simpa using c.1)<|by simpa using c.2) (Ze (Zc m l h).1 ql<|Xa g) rfl (by rw[Xa g];rfl) K (Xa g) rfl)<|xi rfl) λD U H O=>?_;obtain⟨B,G,A,h,s,p⟩:=O;rw[M.exec]at p;cases q:M.Gm A i with
|none=>rw[q]at p;exact p.j
|some P=>
  rw[q]at p;cases P with
|own u=>
   obtain⟨v0,j,a,N,rfl,z2,z3,S,z5⟩:=s.u.u i _ q;refine⟨.j a,j,.u ⟨rfl,N,bu.of S⟩,Wc s p λw v o W H1 e1 J L Q b=>?_⟩;cases e:w.d with
 |none=>rw[e]at b;exact b.j
 |some d=>
    rw[e]at b;obtain⟨C,e2,z,rd⟩:=br.fz s e1 J L Q e;have b:bc Y E B (if u.e<M.bh then .j _ o else .w) D:=b;by_cases n:u.e<M.bh
    .rw[Da n]at b;obtain⟨Z,of,R,V,y⟩:=xu z.u q j;have r:=y.e;exact⟨a,R,v,rfl,rfl,V,by have:=Jk;lia,b C U _<|z.write q j<|y.append ⟨v,[],rfl,rd,rfl⟩⟩
    .rw[FM n]at b;exact b.j
|_=>exact p.j
def MN(n:Go Y F X E k cf)(K:X6 cf i "extend" f cpos=true)(j:jb v=true)(h:wc cf m v=true):PS X (.Expr (.y f [v] [] cpos) pos)<|cm Y E<|M.exec F<|.ext i m:=by
 obtain⟨x,p,z,rfl,u,W,e,N⟩:=yC K;unfold bb at e;rw[Aa2]at e;refine PS.imp (xX (jL S6 PySem.F.slot_list_extend PySem.F.type_list_extend (λ_ _ _ _ _ _=>nU) RN (zC (pos:=p) (by rwa [n.N]) (n.gP x W) (by simpa using e.1)<|by simpa using e.2) (Ze (Zc m n h).1 ql<|Xa j) rfl (by rw[Xa j];rfl) N (Xa j) rfl)<|xi rfl) λD U H R=>?_;obtain⟨B,G,J,h,s,p⟩:=R;rw[M.exec]at p;cases q:M.Gm J i with
|none=>rw[q]at p;exact p.j
|some S=>
  rw[q]at p;cases S with
|own C=>
   obtain⟨v0,l,a,Q,rfl,z2,z3,V,z5⟩:=s.u.u i _ q;refine⟨.j a,l,.u ⟨rfl,Q,bu.of V⟩,Wc s p λw v u L H1 e1 t O f1 c=>?_⟩;cases w with
 |own A=>
    obtain⟨b,o,rfl,_,_,P,d⟩:=O;have c:bc Y E B (if C.e+A.e<M.bh then .j _ u else .w) D:=c;by_cases r:C.e+A.e<M.bh
    .rw[Da r]at c;obtain⟨nf,of,T,Z,I⟩:=xu t.u q l;have y:=I.e;have g:=d.e;exact⟨a,b,T,o,rfl,rfl,Z,P,by have:=Jk;lia,c L U _<|t.write q l<|I.append d⟩
    .rw[FM r]at c;exact c.j
 |_=>exact c.j
|_=>exact p.j
theorem jR:∀{xs ys},M.Gd xs=k9->M.Gd ys=k9->M.Gd (xs++ys)=k9
|[],_,_,h=>h
|x::xs,ys,h,a=>by have h:=h;rw[Aa2]at h;show(M.Gc x&&M.Gd (xs++ys))=k9;rw[h.1,jR h.2 a];rfl
set_option tactic.hygienic true in
def DI(A:Go Y F X E k cf)(hx:attributeBase x "append" X.j (eval x X.j)=eval x X.j)(L:(apos.j==cpos.u)=true)(g:jb v=true)(ha:wc cf a x=true)(h:wc cf m v=true):PS X (.Expr (.y (.u x "append" apos) [v] [] cpos) pos)<|cm Y E<|M.exec F<|.fq a m:=by
 refine PS.imp (xX (jL S6 Ug Uh (λ_ _ _ _ _ _=>nU) ya (Zc a A ha).1 (Ze (Zc m A h).1 ql<|Xa g) hx (by rw[Xa g];rfl) L (Xa g) rfl)<|xi rfl) λD U H Q=>?_;obtain⟨B,G,τ,h,s,p⟩:=Q;refine Wc s p λo vo S G0 H0 e0 l W f0 c=>?_;cases q:M.Gz S (y0 o)with
|none=>rw[q]at c;exact c.j
|some z=>
  rw[q]at c;obtain⟨V,R⟩:=Wt q;cases V;obtain⟨e,rfl⟩:=(W);obtain⟨_,n,f,_⟩:=l.u.j.cell z.1 z.2 R;refine⟨.u ⟨rfl,n,bu.of f⟩,Wc l c λw v h1 G1 H1 e1 N O Z b=>?_⟩;split at b
  .rename_i d r i K P;obtain⟨J,e2,t,rd⟩:=br.fz l e1 N O Z K;by_cases u:i.e<M.bh/\M.Gc d=k9
   .rw[Da u]at b;obtain⟨I,j⟩:=Wt P;cases I;obtain⟨_,us,T,C⟩:=t.u.j.cell _ i j;have y:=C.e;exact⟨_,us,v,by rw[e2.aO _ e],rfl,T,by have:=Jk;lia,b J U _<|t.cell j (jR (t.u.j.pure _ i j)<|by simp_all)<|C.append ⟨v,[],rfl,rd,rfl⟩⟩
   .rw[FM u]at b;exact b.j
  .exact b.j
def Su(a:Go Y F X E k cf)(h1:cf.N[i]?=y0 x)(N:JO cf.u x=k9)(K:bb x=k9)(g:cf.x.fl.x (c,f)=k9)(h:wc cf m v=k9):PS X (.j [.u (.j x j) (Wd f) p2] v pos)<|cm Y E<|M.exec F<|.bP i c f m:=by
 refine PS.imp (ud (Ql a h1 N K) (Zc m a h).1 wP) λD U H A=>?_;obtain⟨B,G,t,h,s,p⟩:=A;refine Wc s p λw v h1 l S e1 b u P j=>?_;cases w with
|v d=>
  cases q:M.G6 h1 (M.Gm t i)with
 |none=>rw[q]at j;exact j.j
 |some o=>
   obtain⟨r,y,fs⟩:=o;rw[q]at j;dsimp only at j;split at j
   .rename_i J;obtain⟨rfl,T⟩:=J;have n:=(QL q).2;obtain⟨Q,z,R,L,I⟩:=b.u.j.obj r _ fs n;obtain⟨O,e,C⟩:=XV (u) I;refine⟨_,u5 b.u q,l.j r,Y.j y,z,_,rfl,L,(a.fld _ _ g).1,(a.fld _ _ g).2,?_,?_⟩
    .rw[An3,Aa];lia
    .rw[C];exact j l U _<|b.iZ n e
   .exact j.j
|_=>exact j.j
def w4(a:Go Y F X E k cf)(h1:cf.N[i]?=y0 x)(Q:JO cf.u x=k9)(O:bb x=k9)(n:cf.x.fl.x (c,f)=k9)(h:wc cf m v=k9):PS X (.j [.u (.j x j) (Wd f) p2] v pos)<|cm Y E<|M.exec F<|.bY i c f m:=by
 refine PS.imp (ud (Ql a h1 Q O) (Zc m a h).1 wP) λD U H I=>?_;obtain⟨B,G,u,h,s,p⟩:=I;refine Wc s p λw v h1 T Z e1 y z K j=>?_;cases b:w.d with
|none=>rw[b]at j;exact j.j
|some d=>
  rw[b]at j;obtain⟨l,e2,g,rd⟩:=br.fz s e1 y z K b;cases q:M.G6 h1 (M.Gm u i)with
|none=>rw[q]at j;exact j.j
|some o=>
   obtain⟨r,A,fs⟩:=o;rw[q]at j;dsimp only at j;split at j
   .rename_i N;obtain⟨rfl,S,hl⟩:=N;have t:=(QL q).2;obtain⟨V,C,W,P,L⟩:=g.u.j.obj r _ fs t;obtain⟨R,e,J⟩:=XV rd L;refine⟨_,u5 g.u q,l.j r,Y.j A,C,_,rfl,P,(a.fld _ _ n).1,(a.fld _ _ n).2,?_,?_⟩
    .rw[An3,Aa];lia
    .rw[J];exact j l U _<|g.iZ t e
   .exact j.j
def Mc(l:Go Y F X E k cf)(h1:cf.N[i]?=y0 x)(z:JO cf.u x=k9)(R:bb x=k9)(O:zd y=k9)(N:wc cf kx y=k9)(h:wc cf m v=k9):PS X (.j [.w (.j x p) y p2] v pos)<|cm Y E<|M.exec F<|.cB i kx m:=by
 refine PS.imp (m8 (Zc m l h).1 (o7 (Ql l h1 z R) (Zc kx l N).1 RU<|jV O) WN qG rfl) λD U H L=>?_;obtain⟨B,G,A,h,s,p⟩:=L;refine Wc s p λw v h1 W H1 e1 f K f1 c=>?_;cases q:M.GW h1 (M.Gm A i)with
|none=>rw[q]at c;exact c.j
|some P=>
  obtain⟨r0,Q⟩:=P;rw[q]at c;have sl:=(qp f.u q).1;refine⟨_,sl,Wc f c λkw V z I H2 e2 e J f2 p2=>?_⟩;split at p2
  .rename_i d t r Z j;split at p2
   .rename_i C;obtain⟨o,T,us,S,u⟩:=qp e.u j;have g:=by rw[sl]at o;exact Ae0.inj<|Ae0.inj o
    cases J;obtain⟨n,a,b⟩:=Mn ((K).ext e2 f.u.j) u;refine⟨aL t,_,_,rfl,g,S,by rw[R7 u];have:=Jk;lia,?_⟩;rw[b];exact p2 I U _<|e.gZ (jZ j).2 ⟨OZ C.2 T,n,Zb,a.mon<|wZ e.u.j (e.u.j.lt (jZ j).2) _⟩
   .exact p2.j
  .exact p2.j
set_option tactic.hygienic true in
def Pc(c:Go Y F X E k cf)(h1:cf.N[i]?=y0 x)(r:JO cf.u x=k9)(e:bb x=k9)(L:zd y=k9)(K:wc cf kx y=k9)(h:wc cf m v=k9):PS X (.j [.w (.j x p) y p2] v pos)<|cm Y E<|M.exec F<|.eJ i kx m:=by
 unfold bb at e;rw[Aa2]at e;refine PS.imp (m8 (Zc m c h).1 (o7 (zC (pos:=p) (by rwa [c.N]) (c.gP x r) (by simpa using e.1)<|by simpa using e.2) (Zc kx c K).1 ZY<|jV L) WN qG rfl) λD U H I=>?_;obtain⟨B,G,t,h,s,p⟩:=I;refine Wc s p λw v h1 Q H1 e1 f C T b=>?_;cases q:M.Gm t i with
|none=>rw[q]at b;exact b.j
|some J=>
  rw[q]at b;cases J with
|own W=>
   obtain⟨v0,g,a,R,rfl,z2,z3,z4,z5⟩:=f.u.u i _ q;refine⟨.j a,g,Wc f b λS P r u H2 e2 o z Z p2=>?_⟩;split at p2
   .rename_i d j;split at p2
    .rename_i n A;cases(z);obtain⟨V,of,N,O,l⟩:=xu o.u q g;refine⟨_,N,j,n,rfl,rfl,O,by rw[←l.e];exact A,?_⟩;exact p2 u U _<|o.write q g<|aa.set ((C).ext e2 f.u.j) n l
    .exact p2.j
   .exact p2.j
|_=>exact b.j
end
section
variable{Y:Ge}{E:XK}{B:Bs}{G:Gh}{τ:M.Sl}{h:M.AH}{U:St}{H:Hp}{D:gy}
def Ho(b:M.Gm τ i=y0 (.j xs))(c:U[i]?=y0 (y0<|.j a)):Jo τ U H a=none:=by unfold Jo;rw[Da ⟨i,xs,b,c⟩]
def AY(e:Jo τ U H a=y0 o):H a=y0 o:=by
 unfold Jo at e;split at e
 .cases e
 .exact e
def NQ(s:av Y G τ h U H):ah Y G h<|Jo τ U H where
 len:=s.j.w
 any:=λr c e=>⟨(s.j.C r c e).1,(s.j.C r c e).2.mon (Wy s) λo z=>by rw[Zl<|by rintro⟨i,f,d,b⟩;exact(xu s d b).2.1 r (s.j.lt e) rfl];exact z⟩
 inj:=s.j.inj
 live:=λa z=>by obtain⟨o,q⟩:=s.j.j a z;exact⟨o,by rw[Zl<|by rintro⟨i,f,d,b⟩;exact(xu s d b).1 z];exact q⟩
def pB(G:Gh)(τ:M.Sl)(h:M.AH)(U:St)(H:Hp):Bs:=⟨G,Jo τ U H,h⟩
def wM(s:br Y B G τ h U H):Ext B.G B.H G<|Jo τ U H where
 keep:=λa o e b=>by rw[Zl λ⟨i,d,f,c⟩=>by rw[s.j i d a f c]at e;cases e];exact s.J.w a o e b
 le:=s.J.le
 aO:=s.J.aO
 new:=s.J.new
 fz:=s.J.fz
 old:=s.J.old
 cells:=λr j z=>by obtain⟨o,q⟩:=s.J.u r j z;refine⟨o,?_⟩;rw[Zl λg=>by obtain⟨i,d,f,c⟩:=g;obtain⟨u,z⟩:=z;rw[s.j i d _ f c]at z;cases z];exact q
def LH(s:br Y B G τ h U H):br Y (pB G τ h U H) G τ h U H where
 st:=s.u
 ext:=⟨λa o e _=>AY e,Ab0 _,λ_ _=>rfl,λr h1 h2=>absurd h1<|Aq0.w h2,λ_ z=>z,λ_ z=>.u z,by rintro r hr⟨o,z⟩;exact⟨o,AY z⟩⟩
 hr:=NQ s.u
 own:=λi xs a e1 e2=>Ho e1 e2
def MM(s:br Y B G τ h U H)(b:br Y (pB G τ h U H) G2 τ2 h2 U2 H2):br Y B G2 τ2 h2 U2 H2:=
 ⟨b.u,(wM s).trans s.hr b.J,s.hr,λi c a e1 e2=>(wM s).none s.hr<|b.j i c a e1 e2⟩
def M0(s:br Y B G τ h U H)(p:bc Y E B o D):bc Y E (pB G τ h U H) o D:=by
 cases o with
|ret w m=>
  refineλc v b e g r f=>p c v b ((wM s).trans s.hr e) g r ?_;cases w with
 |v d=>trivial
 |own k=>obtain⟨a,i,n⟩:=f;exact⟨a,i,(wM s).none s.hr n⟩
 |bor k=>exact f
|exc d m=>exactλc b e g=>p c b ((wM s).trans s.hr e) g
|fail=>exact p
|_=>exactλc l b j=>p c l b<|MM s j
end
section
variable{Y:Ge}{F:M.Fx}{X:Cx}{E:XK}{k:Nat}{cf:Cf}
def CL.hide (s:av Y G τ h U H)(c:CL Y ds l vs G H)(b:¬∃i xs,M.Gm τ i=y0 (.j xs)/\U[i]?=y0 (y0<|.j l)):CL Y ds l vs G<|Jo τ U H:=by
 obtain⟨a,d⟩:=c;refine⟨?_,d.mon<|Wy s⟩;obtain⟨a,e⟩|a:=a
 .refine .u ⟨?_,e⟩;obtain a|⟨o,a⟩:=a
  .exact .u<|by rwa [Zl b]
  .exact .w ⟨o,by rw[Zl b];exact a⟩
 .exact .w a
def CL.kr (s:av Y G τ h U H)(a:kB Y G H l vs)(b:aa Y G H ds vs):CL Y ds l vs G<|Jo τ U H:=by
 refine⟨?_,b.mon<|Wy s⟩;obtain a|a:=a
 .exact(CL.hide s ⟨.u ⟨a.2,s.j.off a.1⟩,b⟩<|by rintro⟨j,e,d,c⟩;exact(xu s d c).1 a.1).1
 .exact .w a
def CT.hide (s:av Y G τ h U H)(c:CT Y ds l vs G H):CT Y ds l vs G<|Jo τ U H:=⟨c.1.mon<|Wy s,c.2.mon<|Wy s⟩
def Z6(h:M.GO a=y0 i):a=.var i:=by
 cases a<;>first|(cases h;rfl)|cases h
def Og(h:wc cf (.var i) e=k9):∃x p,e=.j x p/\cf.N[i]?=y0 x/\JO cf.u x=k9/\bb x=true:=by exact jo (λx p h=>⟨_,_,rfl,fy h⟩) e h
def uA(b:Go Y F X E k cf)(h:wc cf (.var i) e=k9):PE X e<|ny i:=by obtain⟨x,p,rfl,d,c,a⟩:=Og h;unfold bb at a;rw[Aa2]at a;exact zC (by rwa [b.N]) (b.gP x c) (by simpa using a.1)<|by simpa using a.2
def Ht(s:av Y G τ h U H)(e:M.Gm τ i=y0 w)(n:w=.v (.x xs)\/w=.u xs):
 ∃l vs,U[i]?=y0 (y0<|.j l)/\CL Y xs l vs G H/\CL Y xs l vs G (Jo τ U H):=by
 obtain⟨v,e2,r⟩:=s.u i w e;obtain rfl|rfl:=n
 .obtain⟨l,vs,rfl,b,a⟩:=r;exact⟨l,vs,e2,⟨b.tu s.j,a⟩,CL.kr s b a⟩
 .obtain⟨l,vs,rfl,b,a,m⟩:=r;have c:CL Y xs l vs G H:=⟨.u ⟨a,b⟩,m⟩;refine⟨l,vs,e2,c,c.hide s λ⟨j,k,f,g⟩=>?_⟩;have d:j≠i:=λz=>by rw[z,e]at f;cases f
  exact s.w j i k _ l d f e rfl g e2
def J6(k:av Y G0 τ h0 U H0)(s:av Y G τ h U H)(r:ak Y G H w v)(f:aI τ U H0 w v)(p:w=.v (.x xs)\/w=.j xs):
 ∃l vs,v=.j l/\CL Y xs l vs G H/\CL Y xs l vs G (Jo τ U H):=by
 obtain rfl|rfl:=p
 .obtain⟨l,vs,rfl,b,a⟩:=r;exact⟨l,vs,rfl,⟨b.tu s.j,a⟩,CL.kr s b a⟩
 .obtain⟨l,vs,rfl,b,a,m,n⟩:=r;obtain⟨q,g,i⟩:=f;cases g;have c:CL Y xs l vs G H:=⟨.u ⟨.u m,a⟩,n⟩;refine⟨l,vs,rfl,c,c.hide s λ⟨j,t,e,d⟩=>?_⟩;obtain⟨o,z⟩:=k.c9 e rfl d;rw[i]at z;cases z
def P0(g:Go Y F X E k cf)(O:wc cf a e=k9):PI X tg e<|gQ Y E k9<|M.Gv F<|.j a:=by
 cases q:M.GO a with
|some i=>
  cases Z6 q;refine PI.imp (qO<|uA g O) λU H R B=>?_;obtain⟨G,o,h,s,p⟩:=B;have p:aw Y E G H (M.R.of h<|(M.Gm o i).u M.mD) λr _ m f=>∀J C,WT Y J r C->C m f->(k9=k9->C m (Jo o U f))->R J f:=p;cases z:M.Gm o i with
 |none=>rw[z]at p;exact p.j
 |some w=>
   rw[z]at p;have lst:∀{b},(w=.v (.x b)\/w=.u b)->aw Y E G H (.j b h) (λr _ m f=>∀J C,WT Y J r C->C m f->(k9=k9->C m (Jo o U f))->R J f)→
    ∃v,U[i]?=y0 (y0 v)/\((∃a,v=.j a/\(∃b,bu X.K H a b)/\R (mB X.K a) H)\/∃a,v=.j a/\(∃b,de X.K H a b)/\R (mG X.K a) H):=λ{b} K p=>by
    obtain⟨l,j,e2,u,D⟩:=Ht s z K;exact⟨_,e2,.u ⟨l,rfl,⟨j,g.K▸u.1.sq⟩,p G H Ext.refl s.j _ _ (CL.walk g.K) u λ_=>D⟩⟩
   cases w with
 |v d=>
    cases d with
   |lst b=>exact lst (.u rfl) p
   |tup b=>obtain⟨v,e2,l,j,rfl,x,L⟩:=s.u i _ z;have c:CT Y b l j G H:=⟨x,L⟩;exact⟨_,e2,.w ⟨l,rfl,⟨j,g.K▸x.sq⟩,p G H Ext.refl s.j _ _ (CT.walk g.K) c λ_=>c.hide s⟩⟩
   |_=>exact p.j
 |bor b=>exact lst (.w rfl) p
 |own b=>exact p.j
|none=>
  refine PI.imp (qO (Zc a g O).1) λU H R B=>?_;obtain⟨G,o,h,s,p⟩:=B;have p:=by
   unfold M.Gv at p;dsimp only at p
   rwa [q]at p
  refine Wa s.j Ext.refl s p λI v1 P A n e1 Q y N S t=>?_;have lst:∀{b},(I=.v (.x b)\/I=.j b)->aw Y E G H (.j b P) (λr _ m f=>∀J C,WT Y J r C->C m f->(k9=k9->C m (Jo o U f))->R J f)→
   ((∃a,v1=.j a/\(∃b,bu X.K n a b)/\R (mB X.K a) n)\/∃a,v1=.j a/\(∃b,de X.K n a b)/\R (mG X.K a) n):=λ{b} K p=>by
   obtain⟨l,j,e2,u,D⟩:=J6 s y N S K;exact .u ⟨l,e2,⟨j,g.K▸u.1.sq⟩,p A n e1 y.j _ _ (CL.walk g.K) u λ_=>D⟩
  cases I with
|v d=>
   cases d with
 |lst b=>exact lst (.u rfl) t
 |tup b=>obtain⟨l,j,rfl,x,L⟩:=N;have c:CT Y b l j A n:=⟨x,L⟩;exact .w ⟨l,rfl,⟨j,g.K▸x.sq⟩,t A n e1 y.j _ _ (CT.walk g.K) c λ_=>c.hide y⟩
 |_=>exact t.j
|own b=>exact lst (.w rfl) t
|bor b=>exact t.j
theorem xI:∀(ds)(i),(M.Kn i ds).e=ds.e
|[],_=>rfl
|d::ds,i=>congrArg (·+1)<|xI ds<|i+1
theorem vI:∀(ds)(j i)(h:i<ds.e),(M.Kn j ds)[i]?=y0 (.w [.p ((j+i:Nat):Int),ds[i]])
|d::ds,j,0,_=>rfl
|d::ds,j,i+1,h=>by have:=vI ds (j+1) i (by simpa using h);rw[show j+1+i=j+(i+1)by lia]at this;simpa[M.Kn]using this
def E3:"enumerate"∈bS:=by decide
def CL.nE {l:Addr}{vs:List V}{K:Ab1}(j:K=Y.K):WT Y (sA K l) (M.Kn 0 ds)<|CL Y ds l vs where
 go:=by rintro i G H ⟨c,d⟩ b;rw[xI]at b;obtain⟨v,e,_⟩:=d.get<|Aa1 b;exact⟨vs,v,j▸c.sq,e⟩
 gr:=by rintro i G H x r ⟨c,d⟩ b ⟨p,y,g,ex,s,n⟩;rw[xI]at b;subst ex s;obtain⟨v,e,rd⟩:=d.get<|Aa1 b;have:=n vs<|j▸c.sq;rw[e]at this;cases this;refine⟨G.more p,Zk _ g,λh f=>f.ij _ g,.w [.p i,ds[i]],by rw[vI ds 0 i b,Am9],⟨p,[.p i,y],rfl,.u ⟨.w rfl,Zb⟩,⟨.p i,[y],rfl,rfl,⟨y,[],rfl,?_,rfl⟩⟩⟩⟩;have k:Mon G H (G.more p)<|aH H p<|.tup [.p i,y]:=⟨λa o w q=>by rw[Za<|Jb q g];exact q,Ab0 _,λ_ _=>rfl,λ_ z=>Or.inl z⟩;exact rd.mon k
 stop:=by rintro i G H ⟨c,d⟩ m t;rw[xI]at m t;exact⟨vs,j▸c.sq,by rw[←d.length];lia⟩
 keep:=λG H u r h z e f=>z.keep e f
def OS(b:Go Y F X E k cf)(u:bV cf.u "enumerate" g=true)(i:jb x=true)(y:wc cf a x=true):PI X (.G elts x1 tp) (.y g [x] [] pos)<|gQ Y E true<|M.Gv F<|.cO a:=by
 obtain⟨I,rfl,A,J⟩:=qc u;refine PI.imp (Sd (b.gl _ A) (b.u _ E3) (Ze (Zc a b y).1 ql<|Xa i)<|Xa i) λU H R r=>?_;obtain⟨G,C,h,s,p⟩:=r;refine Wa s.j Ext.refl s p λj v1 D m z e1 t d n w c=>?_;obtain⟨f,q,c⟩:=c.of;have B:j=.v (.x f)\/j=.j f:=by
  unfold M.yE at q;split at q
  .cases q;exact .u rfl
  .cases q;exact .w rfl
  .cases q
 obtain⟨l,o,e2,e,v⟩:=J6 s d n w B;subst e2;exact⟨l,o,rfl,b.K▸e.1.sq,c m z e1 d.j _ _ (CL.nE b.K) e λ_=>v⟩
def Si(b:Go Y F X E k cf)(j:pF it tg=k9)(h:px cf it e=k9):PI X tg e (gQ Y E k9<|M.Gv F it)/\Xh e=true:=by
 cases it with
|seq a=>exact⟨P0 b (a2 h).2,(a2 h).1⟩
|ar a=>refine zk (λg x l p h=>kE (λh=>kC (λx r h=>kE (λh=>?_) r h) x h) l h) e h;obtain⟨f,d,c⟩:=a3 h;exact⟨zL b f d (Zc a b c).1,rfl⟩
|cO a=>
  cases tg with
 |Tuple i n m=>refine zk (λg x l p h=>kE (λh=>kC (λx r h=>kE (λh=>?_) r h) x h) l h) e h;obtain⟨f,d,c⟩:=a3 h;exact⟨OS b f d c,rfl⟩
 |_=>exact bB j
|enum _=>exact bB h
end
section
variable{Y:Ge}{G G0:Gh}{H H0:Hp}{h:M.AH}
noncomputable def Gh.cut (G:Gh)(n:Nat):Gh:={G with n:=n}
mutual
theorem aD.cut (n:Nat):∀{d:M.D}{v:V},M.Gc d=k9->aD Y G H d v->aD Y (G.cut n) H d v
|.U,_,_,z=>z
|.I _,_,_,z=>z
|.p _,_,_,z=>z
|.u _,_,_,z=>z
|.w _,_,q,z7=>by obtain⟨a,vs,z1,z2,z3⟩:=z7;exact⟨a,vs,z1,z2,aa.fZ n (by simpa[M.Gc]using q) z3⟩
|.x _,_,q,z7=>by obtain⟨a,vs,z1,z2,z3⟩:=z7;exact⟨a,vs,z1,z2,aa.fZ n (by simpa[M.Gc]using q) z3⟩
|.j r,_,q,_=>by simp[M.Gc]at q
|.y c f d,_,q,z=>by simp[M.Gc]at q
theorem aa.fZ (n:Nat):∀{ds:List M.D}{vs:List V},M.Gd ds=k9->aa Y G H ds vs->aa Y (G.cut n) H ds vs
|[],_,_,z=>z
|d::ds,_,q,z7=>by
  obtain⟨v,r,z1,z2,z3⟩:=z7;have q':M.Gc d=k9/\M.Gd ds=true:=by simpa[M.Gd]using q
  exact⟨v,r,z1,aD.cut n q'.1 z2,aa.fZ n q'.2 z3⟩
end
theorem aa.mY (n):∀{fs:List<|String×M.D}{us},(fs.N λp=>match p.2 with|.j r=>u9<|r<n|d=>M.Gc d)=k9->aa Y G H (fs.j (·.2)) us->aa Y (G.cut n) H (fs.j (·.2)) us
|[],_,_,z=>z
|(x,d)::fs,_,q,z7=>by
  obtain⟨v,r,b,a,c⟩:=z7;rw[Am0,Aa2]at q;refine⟨v,r,b,?_,aa.mY n q.2 c⟩;cases d with
|ref k=>exact⟨Do q.1,a.2⟩
|_=>exact aD.cut n q.1 a
theorem ah.cut (r:ah Y G h H)(f:n<=G.n)(t:M.Gy (h.A n)=k9):ah Y (G.cut n) (h.A n) H where
 len:=by rw[Ad2,r.w];exact Aj5 f
 any:=λi c e=>by
  have q:i<n:=by have:=(Aa0.u e).1;rw[Ad2]at this;lia
  have l:=Ad0.u t c<|Ac3 e;rw[Ad2,r.w,Aj5 f]at l;rw[Aj4 q]at e;obtain⟨s,k⟩:=r.C i c e;refine⟨s,?_⟩;cases c with
|lst w=>obtain⟨a,o,d,b⟩:=k;exact⟨a,o,d,aa.fZ n a b⟩
|aU v=>obtain⟨a,g,d,b⟩:=k;exact⟨a,g,d,aa.fZ n a b⟩
|obj c fs=>obtain⟨p,g,d,b⟩:=k;exact⟨p,g,d,aa.mY n l b⟩
 inj:=λi j m u e=>r.inj i j (Ab3 m f) (Ab3 u f) e
 live:=r.j
theorem Ext.cut (e:Ext G0 H0 G H):Ext G0 H0 (G.cut G0.n) H:=⟨e.w,Ab0 _,e.aO,λr b a=>absurd b<|Aq0.w a,e.fz,e.old,e.u⟩
theorem ak.cut (n)(b:n<=G.n)(q:w.keep=k9)(f:∀xs,w≠.u xs)(z:ak Y G H w v):ak Y (G.cut n) H w v:=by
 cases w with
|v d=>exact aD.cut n q z
|own xs=>obtain⟨a,g,h,k,j,c,e⟩:=z;exact⟨a,g,h,k,λr i=>j r<|Ab3 i b,c,aa.fZ n q e⟩
|bor xs=>exact absurd rfl<|f xs
end
section
variable{Y:Ge}{F:M.Fx}{X:Cx}{E:XK}{k:Nat}{cf:Cf}
def Iv(f:Go Y F X E k cf)(e:xE v=k9)(h:wc cf m v=k9):PS X (.Expr v pos)<|cm Y E<|M.exec F<|.ex m:=by refine PS.imp (xX (Zc m f h).1<|xi e) λD U H d=>?_;obtain⟨B,G,i,h,s,p⟩:=d;exact Wc s p λw v j c g e1 b l n a=>a c U g b
def Ma(s:br Y B G τ h U H)(f:aI τ U H w v)(b:∀xs,w≠.u xs):aI [] [] B.H w v:=by
 cases w with
|v d=>trivial
|own xs=>obtain⟨a,c,e⟩:=f;exact⟨a,c,s.J.none s.hr e⟩
|bor xs=>exact absurd rfl<|b xs
def E8(o:Go Y F X E k cf)(h:wc cf m v=k9):PS X (.Return (y0 v) pos)<|cm Y E<|M.exec F<|.ret m:=by
 cases q:M.GO m with
|some i=>
  cases Z6 q;refine PS.imp (yj<|uA o h) λD U H j=>?_;obtain⟨B,G,g,h,s,p⟩:=j;rw[M.exec,q]at p;dsimp only at p;cases e:M.Gm g i with
 |none=>rw[e]at p;exact p.j
 |some w=>
   rw[e]at p;obtain⟨v,e2,r⟩:=s.u.u i w e;refine⟨v,e2,?_⟩;cases w with
 |bor b=>exact p.j
 |v d=>exact p G v H s.J s.u.j r trivial
 |own b=>have u:=r;obtain⟨a,A,rfl,_⟩:=u;exact p G _ H s.J s.u.j r ⟨a,rfl,s.j i b a e e2⟩
|none=>
  refine PS.imp (yj (Zc m o h).1) λD U H j=>?_;obtain⟨B,G,g,h,s,p⟩:=j;have p:bc Y E B ((M.eval F m g h).cF λw h=>match w with
|.u _=>.w
|w=>.ret w h) D:=by
   rw[M.exec,q]at p;exact p
  refine Wc s p λw v y l t e1 c n x f=>?_;cases w with
|bor b=>exact f.j
|v d=>exact f l v t c.J c.u.j n trivial
|own b=>exact f l v t c.J c.u.j n<|Ma s x λb z=>by cases z
def Hn(l:PT X x<|cE Y E<|M.Gn F c)(m:dj X ys<|cm Y E<|M.execs F a)(j:dj X zs<|cm Y E<|M.execs F b):PS X (.If x ys zs pos)<|cm Y E<|M.exec F<|.iff c a b:=by
 refine PS.imp (Nm l m j) λD U H k=>?_;obtain⟨B,G,e,h,s,p⟩:=k;refine vH s p λt i g n e1 f d=>?_;cases t with
|true=>exact sS ⟨B,g,e,i,f,d⟩
|false=>exact r6 ⟨B,g,e,i,f,d⟩
def Ov{st:Stmt}(h1:PS X st<|cm Y E<|M.exec F s)(i:dj X sts<|cm Y E<|M.execs F ss):dj X (st::sts)<|cm Y E<|M.execs F<|.cons s ss:=by
 refine dj.imp (Iw h1 i) λD U H d=>?_;obtain⟨B,G,b,h,f,p⟩:=d;rw[M.execs]at p;refine⟨B,G,b,h,f,?_⟩;cases q:M.exec F s b h with
|next a e=>rw[q]at p;exactλc k j g=>⟨B,c,a,e,g,p⟩
|_=>rw[q]at p;exact p
def Ru:dj X []<|cm Y E<|M.execs F .nil:=dj.imp NG<|by rintro D U H⟨B,G,a,h,s,p⟩;exact p G U H s
def FQ(I:gf Y F X E k cf)(J:PT X x<|cE Y E<|M.Gn F c)(A:dj X ys<|cm Y E<|M.execs F b):PS X (.While x ys [] pos)<|cm Y E<|M.exec F<|.kl n c b:=by
 refine PS.imp (MP I.iz J A) λD U H C=>?_;obtain⟨B,G,a,h,s,p⟩:=C;refine⟨λm U H=>∃G a h,br Y B G a h U H/\bc Y E B (M.GA (λa h=>M.Gn F c a h) (λa h=>M.execs F b a h) m a h) D,⟨n,G,a,h,s,p⟩,?_⟩;rintro m U H ⟨G,a,h,s,p⟩;cases m with
|zero=>exact p.j
|succ m=>
  refine vH s p λt j v K e1 u e=>?_;cases t with
|false=>exact r6<|e v U K u
|true=>
   refine sS ⟨_,λz y w=>⟨m,Af5 _,w⟩,B,v,a,j,u,?_⟩;have e:bc Y E B (match M.execs F b a j with
|.j d g=>M.GA (λa h=>M.Gn F c a h) (λa h=>M.execs F b a h) m d g
|.cont d g=>M.GA (λa h=>M.Gn F c a h) (λa h=>M.execs F b a h) m d g
|.brk d g=>.j d g
|o=>o) D:=e
   cases q:M.execs F b a j with
|next f l=>rw[q]at e;exactλi z y r=>⟨i,f,l,r,e⟩
|cont f l=>rw[q]at e;exactλi z y r=>⟨i,f,l,r,e⟩
|_=>rw[q]at e;exact e
def NS(A:gf Y F X E k cf)(Z:(cf.cb&&pF it t)=k9)(ht:qd cf tg one t=k9)(hi:px cf it iter=k9)(hb:dj X ys<|cm Y E<|M.execs F b):
 PS X (.For t iter ys [] pos)<|cm Y E<|M.exec F<|.for tg one it b:=by
 obtain⟨li,ls⟩:=Si A.toGo (a2 Z).2 hi;refine PS.imp (MZ A.iz (A.y (a2 Z).1) li (zo A.toGo ht) hb<|zN ls) λD U H qq=>?_;obtain⟨B,G,j,h,s,p⟩:=qq;rw[M.exec]at p;refine⟨G,j,h,s.u,?_⟩;cases q:M.Gv F it j h with
|exc d h1=>rw[q]at p;exact bc.exc s p
|fail=>rw[q]at p;exact p
|ok f h1=>
  rw[q]at p;intro G1 H1 e hr J C I c0 Q;have s1:=s.on e hr;have s2:=LH s1;refine⟨λi m T z=>∃v l y,(m=f.e-i/\i<=f.e)/\br Y _ v l y T z/\bc Y E _ (M.Gq _ (λj h=>M.execs F b j h) (f.G i) l y) D,
   ⟨f.e,G1,j,h1,⟨by simp,Ag0 _⟩,s2,(M0 s1 p)⟩,?_⟩
  rintro i m T z ⟨v,l,y,⟨rfl,hi'⟩,r,c⟩;have N:=I.keep _ _ _ _ _ (Q rfl) r.J r.hr;by_cases g:i<f.e
  .refine .w ⟨I.go i v z N g,_,λU2 H2 w=>⟨f.e-(i+1),(TH ‹_›<|Af5 _),w⟩,λx V hy=>?_⟩;obtain⟨G4,x4,S,d,W,P⟩:=I.gr i v z x V N g hy;have r:=r.on x4<|S _ r.u.j;have K:f.G i=d::f.G (i+1):=by rw[Aj1 g];rw[Aa1 g]at W;cases W;rfl
   rw[K,M.Gq]at c;cases L:M.Gr tg one d l with
|none=>rw[L]at c;exact c.j
|some u=>
    rw[L]at c;refine AW L P r λU2 s3=>⟨_,G4,u,y,s3,?_⟩;have c:bc Y E _ (match M.execs F b u y with
|.j a n=>M.Gq _ (λj h=>M.execs F b j h) _ a n
|.cont a n=>M.Gq _ (λj h=>M.execs F b j h) _ a n
|.brk a n=>.j a n
|o=>o) D:=c
    cases q:M.execs F b u y with
|next a n=>rw[q]at c;exactλR U3 H3 O=>⟨R,a,n,⟨rfl,by lia⟩,O,c⟩
|cont a n=>rw[q]at c;exactλR U3 H3 O=>⟨R,a,n,⟨rfl,by lia⟩,O,c⟩
|_=>rw[q]at c;exact c
  .have ei:i=f.e:=by lia
   subst ei;rw[VN]at c;exact .u ⟨I.stop _ v z N (Ab0 _)<|Ab0 _,c v T z r⟩
theorem JP:∀(τ)(i j),M.Gm (τ.y i u0) j=if j=i then u0 else M.Gm τ j
|[],i,j=>by simp
|x::r,0,0=>by simp
|x::r,0,j+1=>by simp
|x::r,i+1,0=>by simp
|x::r,i+1,j+1=>by simpa using JP r i j
def br.clear (s:br Y B G τ h U H):br Y B G (τ.y i u0) h (U.y i u0) H:=by
 have ne:∀{j w},M.Gm _ j=y0 w->j≠i/\M.Gm τ j=y0 w:=λ{j w} e=>by
  rw[JP]at e;split at e
  .cases e
  .rename_i b;exact⟨b,e⟩
 have c:∀{j},j≠i->(U.y i u0)[j]?=U[j]?:=λ{j} b=>Ad3<|Ne.symm b;refine⟨⟨by rw[Ad5,Ad5];exact s.u.len,λj w e=>?_,λp q d w a f e1 e2 n g=>?_,s.u.j⟩,s.J,s.hr,λj d a e1 e2=>?_⟩
 .obtain⟨b,e⟩:=ne e;obtain⟨v,l,o⟩:=s.u.u j w e;exact⟨v,by rw[c b];exact l,o⟩
 .obtain⟨m,e1⟩:=ne e1;obtain⟨k,e2⟩:=ne e2;rw[c m]at g;rw[c k];exact s.u.w p q d w a f e1 e2 n g
 .obtain⟨b,e1⟩:=ne e1;rw[c b]at e2;exact s.j j d a e1 e2
def Sw(n:gf Y F X E k cf)(y:bV cf.u c g=k9)(o:(cf.cb&&cf.x.er.x (c,f))=k9)(l:bC cf (.j e .u) [x]=k9):
 PS X (.Raise (y0<|.y g [x] [] cpos) u0 pos)<|cm Y E<|M.exec F<|.eM c f e:=by
 obtain⟨N,rfl,J,C⟩:=qc y;obtain⟨z,I,A⟩:=n.m9 c f (a2 o).1 (a2 o).2 J C;refine PS.imp (A _ _ _ _ _ (ip _ n.toGo l)<|Jf l _ Aa4) λD U H w=>?_;obtain⟨B,G,j,h,s,p⟩:=w;rw[M.exec]at p;refine⟨G,j,h,s.u,?_⟩;cases q:M.Gw F (.j e .u) j h with
|exc d u=>rw[q]at p;exact bc.exc s p
|fail=>rw[q]at p;exact p
|ok b u=>
  rw[q]at p;intro t O e1 i L r;cases b with
|nil=>exact p.j
|cons d b=>
   cases b with
|cons _ _=>exact p.j
|nil=>obtain⟨v,K,rfl,rd,rfl⟩:=r;exact⟨v,rfl,λm a=>(p (t.more m) _ ((s.J.trans s.hr e1).trans s.hr<|Zk (.xd [(Wd f,v)]) a)<|i.ij _ a) c f d rfl z I m v (.w rfl) Zb<|rd.ext (Zk _ a) i⟩
def OY(a:iP Y c)(d:w∈Y.own)(b:(M.G8 Y.cl 8 c).x w=k9):PySem.W.kitCls Y.K (.j<|Y.j c) (.j<|Y.j w)=y0 true:=by
 have h:=a.own w d;rw[b]at h;unfold Ap2 at h;split at h
 .rename_i e;have e:=by simpa using e
  rw[←e];exact a.k.slf
 .exact h
theorem Go.et (a:Go Y F X E k cf):Go Y F X.et E0 k cf:=⟨a.N,a.K,a.cl,a.ow,a.nd,a.gP,a.lx,a.gz,a.kK,a.gl,a.y,a.room,a.cq,λn U H s e r _ o=>by
 obtain⟨x,q,t,B,u,_,_,_,_,_,_,_,_,_,_,p⟩:=o;exact p.j,a.u,a.con,λf c=>by
 obtain⟨b,j,i,g,m,l,d⟩:=(a.fn f c).imp λb h=>h.ex;exact⟨b,⟨j,i,g,m,l,d⟩⟩,λf c=>by
 obtain⟨b,j,i,g,m,l,d⟩:=(a.mw f c).imp λb h=>h.ex;exact⟨b,⟨j,i,g,m,l,d⟩⟩,a.cls,a.fld,a.iW,a.ft⟩
theorem PS.et {st:Stmt}(h:PS X.et st t):PS X st t:=λa s U H D I q=>PP (h a s U H D (I.dR _) q) (λ_ _ z=>SP.dc z) λ_ _ z=>False.elim z
def El(h:A3 cf i f ys q=k9):∃a g x xs L M j,ys=[.j [.j a L] (.y g (x::xs) [] M) j]/\q9 cf i a=k9/\bV cf.u f g=k9/\cf.w.x f=k9/\q (x::xs)=true:=by refine kC (λs r h=>kE (λh=>gY (λb e p h=>kC (λt r h=>?_) b h) s h) r h) ys h;refine kE (λh=>jo (λa p h=>zk (λg xs l p h=>kE (λh=>?_) l h) e h) t h) r h;exact kC (λx r h=>⟨_,_,_,_,_,_,_,rfl,a4 h⟩) xs h
theorem gf.iM (a:gf Y F X E k cf)(w:2<=k)(x:Addr):gf Y F (X.et.iM x) E0 2 {cf with toCg:=cf.toCg.q} where
 N:=a.N
 K:=a.K
 cl:=a.cl
 ow:=a.ow
 nd:=a.nd
 gP:=a.gP
 lx:=a.lx
 gz:=a.gz
 kK:=a.kK
 gl:=a.gl
 calm:=λz=>nomatch z
 room:=⟨λq=>absurd q Y5,by have:=a.cq.dp;show X.A.depth+2+5<_;lia,by have:=a.cq.un;show X.A.w+16*2+200<_;lia⟩
 cq:=⟨λq=>absurd q Y5,by have:=a.cq.dp;show X.A.depth+3+5<_;lia,by have:=a.cq.un;show X.A.w+16*3+200<_;lia⟩
 pass:=λd U H s e y _ l=>by obtain⟨x,v,t,B,A,_,_,_,_,_,_,_,_,_,_,u⟩:=l;exact u.j
 blt:=a.u
 con:=a.con
 fn:=λf b=>by obtain⟨g,o,n,j,r,p,i⟩:=(a.mw f b).imp λg h=>h.ex;exact⟨g,⟨o,n,j,r,p,i⟩⟩
 mw:=λf b=>bB b
 cls:=a.cls
 fld:=a.fld
 iW:=λc m q h=>bB h
 ft:=λc q h=>bB h
 iz:=PassesOwn.never
 pat:=λ_=>PassesOwnAt.never
 hG:=a.hG
 oH:=a.oH
 ex:=a.ex
 m9:=λc f z=>nomatch z
 f6:=λc z=>bB z
def N0(r:gf Y F X E k cf)(T:cf.j.x c=k9)(C:br Y B G1 τ h1 U H1)(o:Ext G1 H1 G2 H2)(g:ah Y G2 h2 H2)
 (p:bc Y E B (M.KI F.cl c nm (λτ h=>M.execs F hb τ h) τ d<|M.Kb d h1.e h2) D):rK Y (kU X.et.K (Y.j c) nm (cm Y E0<|M.execs F hb) D U) d G2 H2:=by
 unfold M.KI at p;have m:∀b n,M.bW F.cl _ [c]=y0 ([c].C (M.G8 F.cl 8 b).x)->iP Y b->(∃f,Ext G1 H1 f H2/\ah Y f (M.Kb d h1.e h2) H2/\∀y,H2 y=u0->aD Y (f.more y) (aH H2 y<|iX y (Y.j b) n) d (.j y))→
  kU X.et.K _ nm (cm Y E0<|M.execs F hb) D U _ n H2:=λb n ix l ⟨f,x,e,w⟩=>by
  rw[ix]at p;cases t:[c].C (M.G8 F.cl 8 b).x with
|false=>rw[t]at p;exact p.j
|true=>
   rw[t]at p;refine⟨_,rfl,r.K▸l.k,r.K▸OY l (by rw[←r.ow];exact Ai8.u T) (by rw[←r.cl];simpa using t),λy i=>?_⟩;refine⟨B,_,_,_,((C.on x e).on (Zk _ i)<|e.ij (iX y (Y.j b) n) i).ej<|w y i,?_⟩;dsimp only at p;cases q:M.execs F hb _ (M.Kb d h1.e h2)with
|next V Z=>rw[q]at p;exactλO U' R W=>p O _ R W.clear
|_=>rw[q]at p;exact p.j
 have H:=C.u.j.w;have L:∀d,M.GQ d=k9->∃f,Ext G1 H1 f H2/\ah Y f (M.Kb d h1.e h2) H2/\(∀a,G2.w a->f.w a)/\∀{j}{v},M.Gc j=k9->aD Y G2 H2 j v->aD Y f H2 j v:=λd Q=>by
  unfold M.Kb;rw[Q,Ae7];cases P:M.Gy (h2.A h1.e)with
|true=>exact⟨_,H▸o.cut,g.cut (by rw[H];exact o.le) P,λ_ h=>h,λq z=>aD.cut _ q z⟩
|false=>exact⟨G2,o,g,λ_ h=>h,λ_ z=>z⟩
 intro b A j N l J G u I s K;subst N;cases q:M.Gc j with
|true=>obtain⟨f,x,e,fz,S⟩:=L (.y b A j) q;exact m b _ rfl l ⟨_,x,e,λy i=>⟨y,G,u,rfl,.w rfl,.u<|fz _ I,Zb,⟨[],by rw[Za<|Jb s i];exact s⟩,l,J,(S q K).ext (Zk _ i) e⟩⟩
|false=>exact m b _ rfl l ⟨G2,o,by rw[M.Kb,show M.GQ (.y b A j)=y9 from q,Af7,FM Ac0];exact g,λy i=>⟨y,G,u,rfl,.w rfl,.u I,Zb,⟨[],by rw[Za<|Jb s i];exact s⟩,l,J,K.ext (Zk _ i) g⟩⟩
def EU(l:gf Y F X E k cf)(T:cf.j.x c=k9)
 (J:∀{pins}{D}{U}{H1}{j s'}{L},Inv X.et pins U H1 j->cJ X.u X.w X.stack H1 j (kU X.et.K (Y.j c) nm (cm Y E0<|M.execs F hb) D U) L s'->mu X.et pins D hs L s')
 (R:bV cf.u f g=k9)(N:cf.w.x f=k9)(n:bC cf es (x::xs)=k9):dE X.et hs o (.y g (x::xs) [] cp)<|cm Y E λτ h=>M.KJ F.cl c nm (λτ h=>M.execs F hb τ h) τ<|M.nO F.j o f τ<|M.Gg F es τ h:=by
 obtain⟨p0,rfl,y,W⟩:=qc R;obtain⟨S,fa,fd,u,V,I,Q⟩:=(l.fn f N).imp λS h=>h.ex;have m:=Jf n;refine dE.imp (MY (λ_ _ z=>z) J u l.room (l.gl _ y) Q I V (dF es l.toGo.et n) W (Xa<|m _ Aa4)<|Xo λe n=>m e<|Aa3 _ n) ?_;rintro D U H⟨B,G,τ,h,s,p⟩;refine⟨G,τ,h,s.u,?_⟩;dsimp only at p;cases q:M.Gg F es τ h with
|ok C A=>
  rw[q]at p;intro O H1 e1 b vs P;have j:=s.on e1 b;refine⟨O,A,_,b,qA P,zA C,?_⟩;unfold M.nO at p;dsimp only at p;cases t:F.j f (C.j M.W.arg) A with
 |fail=>rw[t]at p;exact p.j
 |ok K y=>
   rw[t]at p;intro r w e2 a Z rv _;cases o with
   |none=>exact p r U w<|j.on e2 a
   |some i=>
    cases K with
   |v d=>exact p r _ w<|(j.on e2 a).ej rv
   |_=>exact p.j
 |exc d y=>rw[t]at p;exactλr w e2 a=>N0 l T j e2 a p
|_=>rw[q]at p;exact p.j
def Lp(d:gf Y F X E k cf)(p:cf.j.x c=k9)
 (l:∀{pins}{D}{U}{H1}{j s'}{L},Inv X.et pins U H1 j->cJ X.u X.w X.stack H1 j (kU X.et.K (Y.j c) nm (cm Y E0<|M.execs F hb) D U) L s'->mu X.et pins D hs L s'):
 ∀b {ys},rP cf b ys=k9->gb X.et hs ys (cm Y E λτ h=>M.KJ F.cl c nm (λτ h=>M.execs F hb τ h) τ<|M.o5 F b τ h)
|.sv i f u,ys,h=>by obtain⟨a,g,x,t,r,s,v,rfl,e,m,q,o⟩:=El h;obtain⟨n,a2⟩:=xR e;exact F0 (EU d p l m q o) (by show X.N.M;rw[d.N];exact d.nd) (by show X.N[i]?=_;rw[d.N];exact n) (d.lx a a2)<|xi rfl
def P1(a:gf Y F X E k cf)(h1:rP cf b ys=k9)(A:yk cf c nm hs q=k9)
 (C:2<=k->∀x z,q z=k9->dj (X.et.iM x) z (cm Y E0<|M.execs F hb)):PS X (.Try ys hs [] [] pos)<|cm Y E<|M.exec F<|.gO b c nm hb:=by
 refine kC (λx r h=>kE (λh=>Nu (λw n z p h=>kS (λw h=>?_) w h) x h) r h) hs A;refine kS (λn h=>?_) n h;obtain⟨y,g,t,d,l⟩:=a5 h;obtain⟨I,rfl,u,j⟩:=qc y;obtain⟨m,f,o⟩:=a.f6 c g;obtain⟨J,v⟩:=xR t;refine PS.et<|PS.imp (PH<|Lp a f (Md a.hG a.oH a.ex (a.gl _ u) (a.cls c f) m (by show X.N.M;rw[a.N];exact a.nd) (by show X.N[nm]?=_;rwa [a.N]) (a.lx n v) j (λe=>by rw[e]at d;cases d) λx=>C o x z l) b h1) λD U H ⟨B,G,i,h,s,p⟩=>⟨B,G,i,h,s,?_⟩;exact p
end
section
open Lake renaming MS.gf.toGo->Lake.MS.gf.j
variable{Y:Ge}{F:M.Fx}{k:Nat}{X:Cx}{E:XK}{cf:Cf}
mutual
theorem MX:∀(m:M.S)(X:Cx)(E:XK)(k:Nat)(cf:Cf)(st:Stmt),gf Y F X E k cf->Bk cf m st=k9->PS X st (cm Y E<|M.exec F m)
|.set i e=>λX E κ cf st go h=>by refine gY (λts v p h=>?_) st h;refine kC (λt r h=>?_) ts h;refine jo (λx p1 h=>?_) t h;refine kE (λh=>?_) r h;exact HG go.j (a2 h).1 (a2 h).2
|.af i e=>λX E κ cf st go h=>by refine gY (λts v p h=>?_) st h;refine kC (λt r h=>?_) ts h;refine jo (λx p1 h=>?_) t h;refine kE (λh=>?_) r h;exact Ia go.j (a2 h).1 (a2 h).2
|.ek is e=>λX E κ cf st go h=>by refine gY (λts v p h=>?_) st h;refine kC (λt r h=>?_) ts h;refine so (λx n p1 h=>?_) t h;refine kE (λh=>?_) r h;obtain⟨h1,h2,h3⟩:=a3 h;exact KW go.j h1 h2 h3
|.bY i c f e=>λX E κ cf st go h=>by refine gY (λts v p h=>?_) st h;refine kC (λt r h=>?_) ts h;refine xN (λx n p1 h=>?_) t h;refine jo (λx p2 h=>?_) x h;refine kE (λh=>?_) r h;obtain⟨h0,h⟩:=a2 h;obtain⟨hn,h4,h6⟩:=a3 h;obtain⟨h1,h2,h3⟩:=fy h0;cases Do hn;exact w4 go.j h1 h2 h3 h4 h6
|.eJ i kx e=>λX E κ cf st go h=>by refine gY (λts v p h=>?_) st h;refine kC (λt r h=>?_) ts h;refine hA (λx y p1 h=>?_) t h;refine jo (λx p2 h=>?_) x h;refine kE (λh=>?_) r h;obtain⟨h0,h4,h6,h7⟩:=a4 h;obtain⟨h1,h2,h3⟩:=fy h0;exact Pc go.j h1 h2 h3 h4 h6 h7
|.cB i kx e=>λX E κ cf st go h=>by refine gY (λts v p h=>?_) st h;refine kC (λt r h=>?_) ts h;refine hA (λx y p1 h=>?_) t h;refine jo (λx p2 h=>?_) x h;refine kE (λh=>?_) r h;obtain⟨h0,h4,h6,h7⟩:=a4 h;obtain⟨h1,h2,h3⟩:=fy h0;exact Mc go.j h1 h2 h3 h4 h6 h7
|.gC o kx j e=>λX E κ cf st go h=>by refine gY (λts v p h=>?_) st h;refine kC (λt r h=>?_) ts h;refine kE (λh=>?_) r h;refine so (λts n p h=>?_) t h;refine kC (λt1 r h=>?_) ts h;refine kC (λt2 r h=>?_) r h;refine kE (λh=>?_) r h;refine hA (λx y p1 h=>?_) t1 h;refine jo (λa p2 h=>?_) t2 h;obtain⟨h1,h2,h3,h4,h5⟩:=a5 h;obtain⟨h5,h6⟩:=a2 h5;exact RM go.j h1 h2 h3 h4 h5 h6
|.b7 o kx e=>λX E κ cf st go h=>by refine gY (λts v p h=>?_) st h;refine kC (λt r h=>?_) ts h;refine hA (λx y p1 h=>?_) t h;refine kE (λh=>?_) r h;obtain⟨h1,_,_,h4,h5,h6⟩:=a6 h;exact Mw go.j h1 h4 h5 h6
|.app i e=>λX E κ cf st go h=>by refine ou (λc p h=>?_) st h;refine zk (λf x l q h=>?_) c h;refine kE (λh=>?_) l h;refine kC (λv r h=>?_) x h;refine kE (λh=>?_) r h;obtain⟨h1,h2,h3⟩:=a3 h;exact Ep go.j h1 h2 h3
|.ext i e=>λX E κ cf st go h=>by refine ou (λc p h=>?_) st h;refine zk (λf x l q h=>?_) c h;refine kE (λh=>?_) l h;refine kC (λv r h=>?_) x h;refine kE (λh=>?_) r h;obtain⟨h1,h2,h3⟩:=a3 h;exact MN go.j h1 h2 h3
|.fq a e=>λX E κ cf st go h=>by
  refine ou (λc p h=>?_) st h;refine zk (λf x l q h=>?_) c h;refine kE (λh=>?_) l h;refine kC (λv r h=>?_) x h;refine kE (λh=>?_) r h;refine xN (λx n q h=>?_) f h;obtain⟨h0,h1,h2,h3,h4⟩:=a5 h;rw[Aa2]at h4;cases Do h0;refine DI go.j ?_ h1 h2 h3 h4.1;cases x with
 |Name _ _=>rfl
 |Subscript _ _ _=>rfl
 |_=>cases h4.2
|.bP i c f e=>λX E κ cf st go h=>by refine gY (λts v p h=>?_) st h;refine kC (λt r h=>?_) ts h;refine xN (λx n p1 h=>?_) t h;refine jo (λx p2 h=>?_) x h;refine kE (λh=>?_) r h;obtain⟨h0,hn,h4,h6⟩:=a4 h;obtain⟨h1,h2,h3⟩:=fy h0;cases Do hn;exact Su go.j h1 h2 h3 h4 h6
|.fg=>λX E κ cf st go h=>(by rintro pins s U H D I⟨B,G,τ,h,s',p⟩;exact p.j)
|.ex e=>λX E κ cf st go h=>by refine ou (λv p h=>?_) st h;exact Iv go.j (a2 h).1 (a2 h).2
|.ret e=>λX E κ cf st go h=>by refine Ri (λv p h=>?_) st h;refine kS (λv h=>?_) v h;exact E8 go.j h
|.iff c a b=>λX E κ cf st go h=>by refine K5 (λx y z p h=>?_) st h;obtain⟨h0,h1,h2,h3⟩:=a4 h;exact Hn ((Zc c go.j h1).2 h0) (dA a _ _ _ _ _ go h2)<|dA b _ _ _ _ _ go h3
|.kl n c b=>λX E κ cf st go h=>by refine EC (λx y z p h=>?_) st h;refine kE (λh=>?_) z h;obtain⟨h0,h1,h2⟩:=a3 h;exact FQ go ((Zc c go.j h1).2 h0)<|dA b _ _ _ _ _ go h2
|.for tg one it b=>λX E κ cf st go h=>by refine M3 (λt i y z p h=>?_) st h;refine kE (λh=>?_) z h;obtain⟨h1,h2,h3,h4⟩:=a4 h;exact NS go h1 h2 h3<|dA b _ _ _ _ _ go h4
|.eM c f e=>λX E κ cf st go h=>by refine E2 (λx y p h=>?_) st h;refine kS (λx h=>?_) x h;refine zk (λg x l q h=>?_) x h;refine kE (λh=>?_) l h;refine kC (λx r h=>?_) x h;refine kE (λh=>?_) r h;obtain⟨h0,h1,h2,h3⟩:=a4 h;cases nn h0;exact Sw go h1 h2 h3
|.gO b c nm hb=>λX E κ cf st go h=>by refine OF (λy hs p h=>?_) st h;exact P1 go (a2 h).1 (a2 h).2 λhk x z hz=>dA hb _ _ _ _ _ (go.iM hk x) hz
theorem dA:∀(m:M.Ss)(X:Cx)(E:XK)(k:Nat)(cf:Cf)(sts:List Stmt),gf Y F X E k cf->cP cf m sts=k9->dj X sts (cm Y E<|M.execs F m)
|.nil=>λX E κ cf sts go h=>by cases Af4.u h;exact Ru
|.cons s ss=>λX E κ cf sts go h=>by refine kC (λst r h=>?_) sts h;exact Ov (MX s _ _ _ _ _ go (a2 h).1)<|dA ss _ _ _ _ _ go (a2 h).2
end
end
section
variable{P:Program}{w:World}{K:Ab1}{mg:Str->Option Value}{base:Heap}{N:List Str}{k7:Str}{scope:Scope}{f:Addr}{cd:Value}{A:Around}{outer:List Env}{s:Shared}{H:Hp}{E:XK}
def Fg:QN (cJ P w) (eW (cJ P w) P w K mg base N k7 scope f cd A outer s H E) E:=by
 rintro pins U H1 s1 ev s' I⟨x,C,t,B,H',od,rfl,os,bare,fl,un,aT,comp,new,hd,hE⟩;have I':=ua I os bare un aT comp fl λb o z _=>⟨o.slots,z⟩;refine PP (zU (QP _ _)<|wpAny_leaves_onW (Q:=λ_ s2=>∃h2,s2={s' with heap:=h2}/\Ap6 B outer x _ _ h2/\s'.j.C h2) (E:=λ_ _=>False) I.ok.frames rfl fl λh2 x1 x4=>⟨h2,rfl,x1,x4⟩) (λ_ s2 z=>?_) λ_ _ z=>z.1.j;obtain⟨⟨h2,rfl,x1,x4⟩,dk⟩:=z;have slotH:∀b o,b∈cg _->s'.j.j b=y0 o->∃sl,h2.j b=y0 {o with slots:=sl}:=λb o hb z=>by obtain⟨_,o',z',nf⟩:=fl.2.2.1.mem hb;rw[z]at z';cases z';exact x4 b o z nf
 have toH:=λb o z c n=>x1.1 b o<|comp b o z c n;have cut:∀b,b∉cg outer->b≠s.j.u.j->b∉cg (envOfC k7 scope s.j.u.j f cd::outer):=λb n1 n2 hb=>by
  rcases Ab5.u (hb)with z|z
  .exact n2 z
  .exact n1 z
 have old:∀b o,s.j.j b=y0 o->b≠s.j.u.j:=λb o z=>Ac1<|Ac z;have eU:∀b u,H' b=y0 u->b∉cg _:=λb u z hb=>by rw[I'.cR b hb]at z;cases z
 have in1:=λb o z=>I.x.there b o z (by show b∉[];simp);refine⟨x,C,t,B,H',od,rfl,os.j I.os,bare,x1,⟨λb o z n hb hx=>toH b o (I'.x.keep b o z n hb hx) (.w<|in1 b o z)<|cut b hb<|old b o z,λb o z n hb hx=>?_,I'.x.free,λb o z hx=>?_,I'.x.dq,I'.x.c8⟩,λb u z=>?_,λb o z hc hb=>?_,?_,⟨λdx z=>?_,λz=>(hd.2 z).dk dk⟩,hE⟩
 .obtain⟨sl,z1⟩:=I'.x.slot b o z n hb hx;obtain⟨sl2,z2⟩:=slotH b _ (Aa3 _ hb) z1;exact⟨sl2,z2⟩
 .obtain⟨o',z1⟩:=I'.x.there b o z hx;by_cases hb:b∈cg (envOfC k7 scope s.j.u.j f cd::outer)
  .obtain⟨sl,z2⟩:=slotH b o' hb z1;exact⟨_,z2⟩
  .exact⟨o',toH b o' z1 (.w<|in1 b o z) hb⟩
 .refine(aT b u z).dz (λc v hc z1=>?_) (λ_ z1=>z1) λ_ _ z1=>z1;rcases hc with rfl|hc
  .exact toH c v z1 (.u ⟨u,z⟩)<|eU c u z
  .exact toH c v z1 (.u ⟨_,hc⟩)<|eU c _ hc
 .have two:∃o2,s'.j.j b=y0 o2/\((∃u,H' b=y0 u)\/∃u,s1.j.j b=y0 u)/\b∉cg (envOfC k7 scope s.j.u.j f cd::outer):=by
   rcases hc with⟨u,hu⟩|⟨u,hu⟩
   .obtain⟨o2,z2⟩:=(aT b u hu).there;exact⟨o2,z2,.u ⟨u,hu⟩,eU b u hu⟩
   .obtain⟨o2,z2⟩:=I'.x.there b u hu (by show b∉([]:List Addr);simp);exact⟨o2,z2,.w<|in1 b u hu,cut b hb<|old b u hu⟩
  obtain⟨o2,z2,c2,nb⟩:=two;have z3:=toH b o2 z2 c2 nb;rw[show h2.j b=y0 o from z]at z3;cases z3;exact comp b _ z2 c2 nb
 .cases z:s.j.j x with
|none=>rfl
|some u=>obtain⟨o2,z2⟩:=in1 x u z;rw[new]at z2;cases z2
 .obtain⟨o,e1,e2⟩:=hd.1 dx z;obtain⟨o',e3,e4⟩:=dk x o e1;exact⟨o',e3,e4.1.j e2⟩
end
structure Txt(K:Ab1)(mg:Str->Option Value)(f:String) where
 st:Stmt
 fa:Addr
 fd:FuncData
 N:List Str
 ps:List Str
structure mn{K:Ab1}{mg:Str->Option Value}{f:String}(t:Txt K mg f)(d:M.Fn)(g:Cg):Prop where
 fn:∃x k7,kN K x k7 t.st t.fa t.fd
 bd:Binds K t.fd t.ps []
 sc:qE t.N t.ps<|Qi t.st
 n:t.N.e=d.n
 p:t.ps.e=d.ps
 le:d.ps<=d.n
 kO:cP ⟨g,Qi t.st,t.N⟩ d.body (XD t.st)=k9
structure eX(Y:Ge)(p:M.Prog)(mg:Str->Option Value)(g:Cg):Prop where
 cl:p.cl=Y.cl
 ow:g.j=Y.own
 blt:∀x,x∈bS->mg (Wd x)=u0
 con:∀x d,p.con.u x=y0 d->∃u v,mg (Wd x)=y0 u/\RelV v u/\∀G H,aD Y G H d v
 cls:∀c,g.j.x c=k9->mg (Wd c)=y0 (.j<|Y.j c)
 m9:∀c f,g.x.er.x (c,f)=true->iP Y c/\mI Y.K (Y.j c) (Wd f)/\nz Y.K (Y.j c) (Wd f)/\mg (Wd c)=some (.j<|Y.j c)/\∃fI fd ps,PySem.W.findIn Y.K (.j<|Y.j c) "__init__"=some (some<|.j fI)/\Z4 Y.K (Wd f) fI fd ps
 f6:∀c,g.f6.x c=true->PySem.W.mroIn Y.K (Y.j c) (.w "BaseException")=some true/\g.j.x c=true
 fld:∀c f,g.x.fl.x (c,f)=k9->dy Y.K (Y.j c)/\cu Y.K (Y.j c) (Wd f)
 iW:∀c m q,g.x.mt.x (c,m,q)=k9->dy Y.K (Y.j c)/\g.x.ms.x q=k9/\oV Y.K (Y.j c) (Wd m) (Y.ma q)
 ft:∀c q,g.x.ft.x (c,q)=k9->mg (Wd c)=y0 (.j<|Y.j c)/\g.x.ms.x q=k9/\Mk Y.K (Y.j c) (Y.ma q)
section
variable{P:Program}{w:World}{Y:Ge}{mg:Str->Option Value}{base:Heap}{p:M.Prog}
theorem eX.z (a:eX Y p mg g):eX Y p mg g.z:=⟨a.cl,a.ow,a.blt,a.con,a.cls,λc f h=>bB h,λc h=>bB h,a.fld,λc m q h=>bB h,λc q h=>bB h⟩
def Me(g:ah Y G h H)(r:bp Y G H ws vs)(no:∀w∈ws,oU w=k9)(p:N.e=n):br Y ⟨G,H,h⟩ G (ws.j y0++Aa7 (n-ws.e) u0) h (start N vs) H:=by
 have get:∀{i}{w},M.Gm (ws.j y0++Aa7 (n-ws.e) u0) i=y0 w->ws[i]?=y0 w:=λ{i w} e=>by
  rw[JI]at e;by_cases m:i<ws.e
  .rw[Ac2<|by simp_all,Ab9]at e;cases q:ws[i]? with
|none=>rw[q]at e;cases e
|some y=>rw[q]at e;exact e
  .rw[Ae3<|by simp_all,Aj7]at e;split at e<;>cases e
 have d:∀{ws}{vs}{i:Nat}{w},bp Y G H ws vs->ws[i]?=y0 w->∃v,vs[i]?=y0 v/\ak Y G H w v:=by
  intro ws;induction ws with
|nil=>intro vs i w _ e;simp at e
|cons a r u=>
   rintro vs i w ⟨v,z,e1,s,x⟩ e;subst e1;cases i with
|zero=>simp at e;subst e;exact⟨v,rfl,s⟩
|succ i=>obtain⟨k,l,t⟩:=u x (by assumption);exact⟨k,by simpa using l,t⟩
 have b:∀{i}{c},M.Gm _ i≠y0 (.j c):=λ{i c} e=>by have:=no _<|Ac3<|get e;cases this
 refine⟨⟨?_,λi w e=>?_,λi j c w a o e1=>absurd e1 b,g⟩,Ext.refl,g,λi c a e1=>absurd e1 b⟩
 .unfold start;rw[Aa5,Aa5,Aa,Aa,Af,Af,p,r.length]
 .obtain⟨v,e2,f⟩:=d r<|get e;refine⟨v,?_,f⟩;unfold start;have m:=(Aa0.u e2).1;rw[Ac2<|by simp_all,Ab9,e2];rfl
def Ls(k:ah Y G h H)(p:aA Y E G H (M.Gx h.e o) Q):bc Y E ⟨G,H,h⟩ o {nx:=λ_ H'=>Q .au H',rt:=Q}:=by
 have g:∀{w}{c}{b}{H'}{v},_->aA Y E G H (M.fin h.e w c) Q->Ext G H b H'->ah Y b c H'->ak Y b H' w v->aI [] [] H w v->Q v H':=λ{w c b H' v} n p e a r f=>by
  unfold M.fin at p;split at p
  .exact p b H' e a v r f
  .split at p
   .rename_i j;rw[Aa2,k.w]at j;rw[k.w]at p;exact p _ H' e.cut (a.cut e.le j.2) v (r.cut G.n e.le j.1 n) f
   .exact p b H' e a v r f
 cases o with
|next l c=>exactλb q H' m=>g (λi z=>by cases z) p m.J m.u.j rfl trivial
|ret w c=>
  cases w with
 |bor i=>exact p.j
 |v d=>exactλb v H' e a r f=>g (λi z=>by cases z) p e a r f
 |own i=>exactλb v H' e a r f=>g (λi z=>by cases z) p e a r f
|exc d c=>exact p
|brk l c=>exact p.j
|cont l c=>exact p.j
|fail=>exact p.j
end
section
variable{P:Program}{w:World}{Y:Ge}{mg:Str->Option Value}{base:Heap}{p:M.Prog}{g:Cg}
def lU(P:Program)(w:World)(Y:Ge)(mg:Str->Option Value)(base:Heap)(r:Nat)(m:List M.W->M.AH->M.R M.W)(f:String):Prop:=
 ∃ps a fd,bx P w Y.K mg base (cJ P w) r a fd ps (gj Y m)/\Binds Y.K fd ps []/\Ak8 Y.K (.j a)=k9/\mg (Wd f)=y0 (.j a)
def t6(P:Program)(w:World)(Y:Ge)(mg:Str->Option Value)(base:Heap)(r:Nat)(m:List M.W->M.AH->M.R M.W)(q:String):Prop:=
 ∃ps fd,bx P w Y.K mg base (cJ P w) r (Y.ma q) fd ps (gj Y m)/\Binds Y.K fd ps []
def BL(b:p.w.u f=y0 d)(a:ws.e≠d.ps):M.call p (k+1) f ws h=.w:=by rw[M.call,b];simp[M.run,a]
def FK(ok:mn t d g)(c:p.w.u f=y0 d):gj Y (M.call p (k+1) f) vs H Q E->vs.e=t.ps.e:=by
 rintro⟨G,h,b,i,e,no,q⟩;by_cases a:b.e=d.ps
 .rw[←e.length,a,ok.p]
 .rw[BL c a]at q;exact q.j
def Ln(b:eX Y p mg g)(ok:mn t d g)(V:p.w.u f=y0 d)(k r)(F:g.cb=k9->3<=r)(D:∀c,g.f6.x c=k9->2<=r)(ih:∀h,g.w.x h=k9->lU P w Y mg base r (M.call p k h) h)
 (X:∀h,g.qf.x h=k9->lU P w Y mg base 2 (M.call p k h) h)(T:∀q,g.x.ms.x q=k9->t6 P w Y mg base r (M.call p k q) q)
 (a:ba (r+1)<|A.x<|envOfC k7 (Qi t.st) s.j.u.j t.fa cdv)(sp:gj Y (M.call p (k+1) f) vs H Q E):
 ∃t',dj (eW (cJ P w) P w Y.K mg base t.N k7 (Qi t.st) t.fa cdv A outer s H E) (XD t.st) t'/\t' {nx:=λ_ H'=>Q .au H',rt:=Q} (start t.N vs) H:=by
 obtain⟨G,h,C,U,rs,no,q⟩:=sp;by_cases O:C.e=d.ps;rotate_left
 .rw[BL V O]at q;exact q.j
 rw[M.Gb V k C h O]at q;have calm:g.cb=k9->A.j=none:=λz=>a.hd<|Pv<|F z;refine⟨cm Y E<|M.execs ⟨M.call p k,p.cl,p.con⟩ d.body,dA d.body _ _ r _ _ ?_ ok.kO,?_⟩
 .refine{N:=rfl,K:=rfl,cl:=b.cl,ow:=b.ow,nd:=ok.sc.nd,gP:=λx i=>vr i,lx:=λx i=>i,gz:=λx i=>⟨yD i,.u rfl⟩,kK:=λx i=>i,gl:=λx i=>tW i,calm:=λz=>by rw[show Cx.calm _=A.j.x from rfl,calm z];rfl,room:=a.mono<|Af1 _,cq:=a,pass:=Fg,blt:=b.blt,con:=b.con,fn:=λh u=>?_,mw:=λh u=>?_,cls:=b.cls,fld:=b.fld,iW:=λc m q B=>?_,ft:=λc q B=>?_,iz:=E1,hG:=rfl,oH:=rfl,ex:=rfl,m9:=λc f hb v u hd=>?_,pat:=λ_=>PassesOwnAt.leaving,f6:=λc v=>⟨(b.f6 c v).1,(b.f6 c v).2,D c v⟩}
  .obtain⟨l,L,j,n,o,J,y⟩:=ih h u;exact⟨l,⟨L,j,n,o,J,y⟩⟩
  .obtain⟨l,L,j,n,o,J,y⟩:=X h u;exact⟨l,⟨L,j,n,o,J,y⟩⟩
  .obtain⟨I,S,R⟩:=b.iW c m q B;obtain⟨l,j,n,o⟩:=T q S;exact⟨I,_,j,l,R,n,o⟩
  .obtain⟨I,S,R⟩:=b.ft c q B;obtain⟨l,j,n,o⟩:=T q S;exact⟨I,_,j,l,R,n,o⟩
  .obtain⟨xo,xg,xe,hm,fI,j,l,hi,Z⟩:=b.m9 c f v;exact⟨xo,xg,λnp W pos e t ha hp=>MF (calm hb) xe hi Z hm (tW u) (a.mono Y6) ha (Xa hp) hd⟩
 .refine⟨⟨G,H,h⟩,G,C.j y0++Aa7 _ u0,h,?_,Ls U q⟩;have:=Me U rs no ok.n
  rwa [O]at this
def oN(m:eX Y p mg g){t:Txt Y.K mg f}(ok:mn t d g)(l:p.w.u f=y0 d)(k r)(i:g.cb=k9->3<=r)(e:∀c,g.f6.x c=k9->2<=r)(y:∀h,g.w.x h=k9->lU P w Y mg base r (M.call p k h) h)
 (n:∀h,g.qf.x h=k9->lU P w Y mg base 2 (M.call p k h) h)(o:∀q,g.x.ms.x q=k9->t6 P w Y mg base r (M.call p k q) q):bx P w Y.K mg base (cJ P w) (r+2) t.fa t.fd t.ps<|gj Y<|M.call p (k+1) f:=by
 obtain⟨x,j,F⟩:=ok.fn;exact kN.Ax F ok.sc (λv H Q E=>FK ok l) λu A b s H v Q E a=>Ln m ok l k r i e y n o a
def t9(r)(f)(fa)(fd)(ps):bx P w Y.K mg base (cJ P w) r fa fd ps<|gj Y<|M.call p 0 f:=
 ⟨by rintro d H Q E⟨G,h,c,e,g,no,q⟩;exact q.j,by rintro A a s H b i d Q E _ _ _ _⟨G,h,c,e,g,no,q⟩;exact q.j⟩
def B5(Y:Ge)(mg:Str->Option Value)(p:M.Prog)(g:Cg)(f:String):Prop:=∃d,p.w.u f=y0 d/\∃t:Txt Y.K mg f,mn t d g/\Ak8 Y.K (.j t.fa)=k9/\mg (Wd f)=y0 (.j t.fa)
def F6(l:eX Y p mg g)(all:∀f,g.w.x f=k9->B5 Y mg p g f)(b:∀f,g.qf.x f=k9->B5 Y mg p g.z f)
 (c:∀q,g.x.ms.x q=k9->∃d,p.w.u q=y0 d/\∃t:Txt Y.K mg q,mn t d g/\t.fa=Y.ma q):∀k,(∀f,g.w.x f=k9->lU P w Y mg base (2*k+3) (M.call p k f) f)/\(∀f,g.qf.x f=k9->lU P w Y mg base 2 (M.call p k f) f)/\∀q,g.x.ms.x q=k9->t6 P w Y mg base (2*k+3) (M.call p k q) q:=by
 intro k;induction k with
|zero=>
  refine⟨λf h=>?_,λf h=>?_,λq m=>?_⟩
  .obtain⟨d,a,t,ok,e,i⟩:=all f h;exact⟨t.ps,t.fa,t.fd,t9 _ f _ _ _,ok.bd,e,i⟩
  .obtain⟨d,a,t,ok,e,i⟩:=b f h;exact⟨t.ps,t.fa,t.fd,t9 _ f _ _ _,ok.bd,e,i⟩
  .obtain⟨d,a,t,ok,n⟩:=c q m;exact⟨t.ps,t.fd,t9 _ q _ _ _,ok.bd⟩
|succ k j=>
  refine⟨λf h=>?_,λf h=>?_,λq m=>?_⟩
  .obtain⟨d,a,t,ok,e,i⟩:=all f h;exact⟨t.ps,t.fa,t.fd,oN l ok a k _ (λ_=>(Fk _ _)) (λ_ _=>(Fk _ _)) j.1 j.2.1 j.2.2,ok.bd,e,i⟩
  .obtain⟨d,a,t,ok,e,i⟩:=b f h;exact⟨t.ps,t.fa,t.fd,oN l.z ok a k 0 (λz=>nomatch z) (λ_ z=>bB z) (λ_ z=>bB z) (λ_ z=>bB z) λ_ z=>bB z,ok.bd,e,i⟩
  .obtain⟨d,a,t,ok,n⟩:=c q m;exact⟨t.ps,t.fd,n▸oN l ok a k _ (λ_=>(Fk _ _)) (λ_ _=>(Fk _ _)) j.1 j.2.1 j.2.2,ok.bd⟩
def pC(K:Ab1):Sp:=λvs H Q _=>∃(a:Addr)(ns:List Int),vs=[.j a]/\bu K H a (ns.j V.int)/\ns.e<=63/\∀H',Q (.I k9) H'
theorem Ci:∀(ns:List Int),aa Y G H (ns.j M.D.int)<|ns.j V.int
|[]=>rfl
|n::ns=>⟨_,_,rfl,rfl,Ci ns⟩
def Ii(F:bx P w Y.K mg base (cJ P w) n fa fd ps<|gj Y<|M.call p k "law")(gA:∀ns:List Int,ns.e<=63->∃h',M.call p k "law" [.v (.x<|ns.j .p)] []=.j (.v<|.I true) h'):
 bx P w Y.K mg base oi n fa fd ps<|pC Y.K:=by
 refine bx.calm F ?_;rintro y H Q E ⟨a,ns,i,d,l,q⟩;subst i;obtain⟨h',t⟩:=gA ns l;have fin:∀G:Gh,ah Y G [] H->kB Y G H a _->gj Y (M.call p k "law") [.j a] H Q (fun _ _ _=>False):=fun G h j=>by
  refine⟨G,[],[.v (.x _)],h,⟨.j a,[],rfl,⟨a,ns.j V.int,rfl,j,Ci ns⟩,rfl⟩,λw u=>?_,?_⟩
  .cases Ac8.u u;rfl
  .rw[t];intro x m _ _ v r _;cases(r);exact q m
 obtain d|d:=d
 .refine fin ⟨λb=>b=a,λ_=>0,0⟩ ⟨rfl,λr c e=>by simp at e,λr s f=>absurd f<|Ah5 _,λb g=>?_⟩<|.u ⟨rfl,d⟩;subst g;obtain z|⟨o,z⟩:=d
  .exact⟨_,z⟩
  .exact⟨_,z⟩
 .exact fin ⟨λ_=>False,λ_=>0,0⟩ ⟨rfl,λr c e=>by simp at e,λr s f=>absurd f<|Ah5 _,λb g=>g.j⟩<|.w d
def walk{l:PySem.W.OpenLaw}{K:Params->Ab1}(k)(i:ba k callerA)(m:l.most=y0 63)(b:d.params.defaults=[])
 (e:∀w h,YP w h->(K w.u).In h)
 (F:∀w mg j h,(K w.u).In h->h.Ns mainGlobals mg->mg d.name=y0 (.j j)→
   ∃fd:FuncData,(∀s u,BindsTo s fd ⟨[u],[]⟩ [(x,u)])/\∀base:Heap,(K w.u).In base->base.Ns mainGlobals mg->bx l.prog w (K w.u) mg base oi k j fd [x] (pC<|K w.u)):
 PySem.W.WalkO q loose XP YP l.row.toRowW d []<|λf vs=>PySem.call f vs:=
 Lake.iI m Y5 b i e F (λ_ _ a c n _ g=>⟨a,c,rfl,g,n,λ_=>rfl⟩) λ_ _ _ _ _ z=>z
end
open PySem PySem.W PyProof.Rows KTD
theorem xq{f g:Str->Option (Str×Value)}:∀{l:List Str},(∀n∈l,f n=g n)->l.B f=l.B g
|[],_=>rfl
|a::l,h=>by rw[Ae2,Ae2,h a Aa4,xq λn b=>h n<|Aa3 _ b]
theorem Df:∀{ps:List Str}{a:List Value},ps.M->a.e=ps.e->ps.B (λn=>((ps.a1 a).u n).j (n,·))=ps.a1 a
|[],a,_,_=>rfl
|p::ps,[],_,h=>by cases h
|p::ps,u::a,nd,h=>by have b:=Ah2.u nd;rw[Vj,List.filterMap_cons_some<|by rw[List.lookup_cons_self];rfl];congr 1;refine(xq λn c=>?_).j<|Df b.2<|Nat.succ.inj h;rw[Ad,beq_eq_false_iff_ne.w (λe=>b.1<|e▸c:n≠p)]
def Pu{ps:List Str}{a:List Value}(h:a.e=ps.e)(b:n∈ps):((ps.a1 a).u n).w=true:=by
 induction ps generalizing a with
|nil=>cases b
|cons p ps c=>
  cases a with
|nil=>cases h
|cons u a=>
   rw[Vj,Ad];cases e:n==p with
|true=>rfl
|false=>exact c (Nat.succ.inj h)<|(Ab5.u b).x<|beq_eq_false_iff_ne.u e
noncomputable abbrev el(a:FuncData):List Str:=a.u.args.j (·.arg)
def LF(h1:fd.u.posonlyargs=[])(h2:fd.u.vararg=u0)(h3:fd.u.kwonlyargs=[])(h4:fd.u.kwarg=u0)(h5:fd.defaults=.x)(nd:(el fd).M)(hl:us.e=(el fd).e):bindArgs fd ⟨us,[]⟩=pure ((el fd).a1 us):=by
 have e:∀k,((el fd).A k).L (λn=>(((el fd).a1 us).u n).x)=[]:=λk=>List.filter_eq_nil_iff.w λn hn=>by
  have:=Pu hl<|Aq1 hn;cases q:((el fd).a1 us).u n with
|none=>rw[q]at this;cases this
|some _=>simp
 obtain⟨n,q,⟨po,as,va,ko,kd,ka,df⟩,b,sc,g,cl,d,kV,doc,pm,an,cd,ct,bi⟩:=fd;cases h1;cases h2;cases h3;cases h4;cases h5;refine(FM ?_).j<|(FM ?_).j ?_
 .simpa using An hl
 .exactλz=>by have z':=(congrArg (λl:List Str=>!l.U)<|e _).u.j z;cases z'
 .refine Eq.trans ?_<|congrArg pure<|Df nd hl;rw[show∀k,List.drop k (none.getD #[]).u=[]fromλk=>List.drop_nil,List.zip_nil_right];exact congrArg (λl:List Str=>(pure _:Sem _))<|Af0 _
noncomputable def nA(K:Frag)(a:Addr)(f:FuncData->List Stmt->Bool):Bool:=match K.u a with
|some ⟨_,_,.func fd,_⟩=>(match fd.body with
|.stmts b=>f fd b
|_=>y9)
|_=>y9
def rg{K:Frag}(h:nA K a f=k9):∃oc j fd sl b,K.u a=y0 ⟨oc,j,.func fd,sl⟩/\fd.body=.stmts b/\f fd b=true:=by
 unfold nA at h;split at h
 .rename_i e;split at h
  .rename_i e2;exact⟨_,_,_,_,_,e,e2,h⟩
  .cases h
 .cases h
def nQ(K:Frag)(a:Addr)(b:FuncData)(N:List Str):Prop:=
 (b.globals=mainGlobals/\b.builtins=builtinsNs/\b.closure=[]/\b.defaults=.x)/\codeIn K b.code b.qualname=k9/\keepIn K (.j a)=k9∧
 (b.u.posonlyargs.U=k9/\b.u.vararg.x=k9/\b.u.kwonlyargs.U=k9/\b.u.kwarg.x=k9)∧
 b.j.u=.j/\b.j.isCoroutine=y9/\b.j.isGenerator=y9/\N.M/\N.A (el b).e=el b/\(∀x∈el b,b.j.j.u x=y0 .local\/b.j.j.u x=y0 .u)/\∀y∈b.j.j,y.2≠.y
instance{K:Frag}{a:Addr}{fd:FuncData}{N:List Str}:Decidable<|nQ K a fd N:=by unfold nQ;infer_instance
def Ck{K:Frag}(l:K.u a=y0 ⟨oc,od,.func fd,sl⟩)(j:fd.body=.stmts b)(p:nQ K a fd N):
 ∃st x q,XD st=b/\Qi st=fd.j/\kN K x q st a fd/\qE N (el fd) fd.j/\∀us:List Value,us.e=(el fd).e->bindArgs fd ⟨us,[]⟩=pure ((el fd).a1 us):=by
 obtain⟨⟨g,bi,m,e⟩,s,h,⟨k,a2,a3,a4⟩,i,r,f,d,c,t,n⟩:=p;refine⟨.FunctionDef fd.name fd.u b [] u0 [] fd.j u0 fd.name ⟨0,0,0,0⟩,fd.name,fd.qualname,rfl,rfl,⟨⟨oc,od,fd.kwdefaults,fd.doc,fd.pyModule,fd.annotations,fd.code,fd.closureTuple,sl,?_,l,s⟩,h⟩,⟨i,r,f,d,c,t,n⟩,λus o=>LF (Af4.u k) (Ai5.u a2) (Af4.u a3) (Ai5.u a4) e (c▸(Vq _ _).nodup d) o⟩;cases fd;cases j;cases g;cases bi;cases m;cases e;rfl
noncomputable def kj:Option (Option Value)->Addr
|some (y0 (.j a))=>a
|_=>0
abbrev b9(K:Frag)(c:String):Addr:=kj<|nsIn K mainGlobals<|Wd c
abbrev mV(K:Frag)(c:String):Prop:=nsIn K mainGlobals (Wd c)=y0 (y0<|.j<|b9 K c)
noncomputable def iR(K:Frag)(a:rC)(q:String):Addr:=match a.mt.find? (·.2.2==q)with
|some (c,m,_)=>kj<|findIn K (.j<|b9 K c)<|Wd m
|none=>match a.ft.find? (·.2==q)with
|some (c,_)=>kj<|findIn K (.j<|b9 K c) "__init__"
|none=>0
noncomputable def Oc(sc:Scope):List Str:=sc.j.B λy=>if y.2=.local\/y.2=.u then y0 y.1 else u0
def XP(K:Frag)(a:M.dy)(own:List String)(c:String):Prop:=((findIn K (.j<|b9 K c) "__getattribute__"=some (some<|.u "BaseException.__getattribute__")/\findIn K (.j<|b9 K c) "__getattr__"=some none/\findIn K (.j<|b9 K c) "__class__"=some (some<|.u "object.__class__"))∧
 specialIn K (.u "object.__class__") "__get__"=some (some<|.u "getset_descriptor.__get__")/\takesIn K (.u "object.__class__")=some true/\mroIn K (b9 K c) (.w "object")=some true/\mroIn K (b9 K c) (.w "BaseException")=some true/\kitCls K (.j<|b9 K c) (.j<|b9 K c)=some true/\(clsIn K<|b9 K c).w=true)∧
 (∀t∈own,kitOne K (.j<|b9 K c) (.j<|b9 K t)=some ((M.G8 a 8 c).x t))/\kitOne K (.j<|b9 K c) (.w "ValueError")=some ((M.G8 a 8 c).x "ValueError")/\mV K c
instance{K:Frag}{cl:M.dy}{own:List String}{c:String}:Decidable<|XP K cl own c:=by unfold XP;infer_instance
def n0(K:Frag)(p:M.Prog)(g:Cg)(nm:List<|String×List String)(a:Addr)(f:String):Bool:=nA K a λfd b=>match p.w.u f with
|some d=>(λN=>u9 (nQ K a fd N/\N.e=d.n/\(el fd).e=d.ps/\d.ps<=d.n)&&cP ⟨g,fd.j,N⟩ d.body b)<|((nm.u f).j λl=>l.j Wd).getD<|Oc fd.j
|none=>y9
def oR{K:Frag}(mg)(h:n0 K p g nm a f=k9):
 ∃d,p.w.u f=y0 d/\∃t:Txt K mg f,mn t d g/\t.fa=a/\keepIn K (.j a)=k9/\∃oc j sl,K.u a=y0 ⟨oc,j,.func t.fd,sl⟩/\t.ps=el t.fd/\∀us:List Value,us.e=t.ps.e->bindArgs t.fd ⟨us,[]⟩=pure (t.ps.a1 us):=by
 obtain⟨oc,j,L,sl,b,l,r,h⟩:=rg h;cases e:p.w.u f with
|none=>rw[e]at h;cases h
|some d=>rw[e]at h;generalize ((nm.u f).j λl=>l.j Wd).getD _=N at h;obtain⟨o,k⟩:=(Aa2 _ _).mp h;obtain⟨q,w,m,n⟩:=Do o;obtain⟨s,x,v,rfl,u,F,c,i⟩:=Ck l r q;rw[←u]at c k;exact⟨d,rfl,⟨s,a,L,_,el L⟩,⟨⟨x,v,F⟩,.all i,c,w,m,n,k⟩,rfl,F.kp,oc,j,sl,l,rfl,i⟩
noncomputable def Bm(f n m:Str)(b:List Stmt):Bool:=lC b λst r=>kZ r<|gs st λd v=>lC d λt r=>kZ r<|WH t λx g _=>jp x λa=>jp v λc=>u9 (a=n)&&u9 (g=f)&&u9 (c=m)
def OU(h:Bm f n m b=k9):∃L p2 M j,b=[.j [.u (.j n L) f p2] (.j m M) j]:=by refine kC (λd r h=>kE (λh=>gY (λe v p h=>kC (λt r h=>?_) e h) d h) r h) b h;refine kE (λh=>xN (λx g p h=>jo (λa p h=>jo (λc p h=>?_) v h) x h) t h) r h;obtain⟨l,k,i⟩:=a3 h;cases Do l;cases Do k;cases Do i;exact⟨_,_,_,_,rfl⟩
def BE(K:Frag)(f:Str)(a:Addr):Bool:=nA K a λfd b=>match el fd with
|[n,m]=>u9 (nQ K a fd [n,m]/\(n==("__debug__":Str))=false/\(m==("__debug__":Str))=false/\(n==("__classdict__":Str))=false/\(m==("__classdict__":Str))=false)&&Bm f n m b
|_=>y9
set_option tactic.hygienic true in
def DF{K:Frag}(h:BE K f a=k9)(i:isFn K (.j a)=k9):∃fd ps,Z4 K f a fd ps:=by
 obtain⟨oc,y,fd,sl,b,l,k,h⟩:=rg h;split at h
 .rename_i n m e;obtain⟨j,w⟩:=(Aa2 _ _).mp h;obtain⟨q,d⟩:=Do j;obtain⟨o,x,v,rfl,s,F,c,r⟩:=Ck l k q;obtain⟨g,t,u,p,e2⟩:=OU w;rw[←s]at c;exact⟨fd,el fd,⟨x,v,o,_,n,m,g,t,u,p,F,e,rfl,c,e2,d⟩,.all r,beq_iff_eq.u i⟩
 .cases h
noncomputable def pE(K:Frag)(a:Addr)(f:List Value->Bool):Bool:=match K.u a with
|some o=>(match o.j with
|.j b _=>u9 (o.cls=.w "tuple"/\o.x=none/\b.j<=100)&&f b.u
|_=>y9)
|none=>y9
set_option tactic.hygienic true in
def Ni(h:pE Y.K a f=k9):∃us,f us=k9/\∀vs,Vals vs us->∀G H,f7 Y G H a vs:=by
 unfold pE at h;split at h
 .rename_i o e;split at h
  .rename_i b n e2;obtain⟨i,g⟩:=(Aa2 _ _).mp h;obtain⟨c,j,d⟩:=Do i;exact⟨_,g,λvs r G H=>.w ⟨o,b,n,e,c,j,e2,Ab4 d<|by rw[Tf];decide,r⟩⟩
  .cases h
 .cases h
def AX(h:oX u=y0 x):RelV x u:=by
 cases u<;>cases h<;>first|rfl|exact⟨_,rfl⟩
mutual
noncomputable def pf(K:Frag):M.D->Value->Bool
|.p i,u=>u9<|oX u=y0 (.p i)
|.u s,u=>u9<|oX u=y0 (.u<|aL s)
|.w ds,u=>u9 (u=.j (kj<|y0<|y0 u))&&pE K (kj<|y0<|y0 u) λus=>gH K ds us
|_,_=>y9
noncomputable def gH(K:Frag):List M.D->List Value->Bool
|[],[]=>k9
|d::ds,u::us=>pf K d u&&gH K ds us
|_,_=>y9
end
def vi(K:Frag)(x:String)(d:M.D):Bool:=match nsIn K mainGlobals (Wd x)with
|some (y0 u)=>pf K d u
|_=>y9
mutual
theorem BR{Y:Ge}:∀{d:M.D}{u:Value},pf Y.K d u=k9->∃v,RelV v u/\∀G H,aD Y G H d v
|.p _,_,h=>⟨.p _,AX<|Do h,λ_ _=>rfl⟩
|.u _,_,h=>⟨.u _,AX<|Do h,λ_ _=>rfl⟩
|.U,_,h=>bB h
|.I _,_,h=>bB h
|.x _,_,h=>bB h
|.j _,_,h=>bB h
|.y ..,_,h=>bB h
|.w ds,u,h=>by obtain⟨h0,h⟩:=(Aa2 _ _).mp h;obtain⟨us,h1,h2⟩:=Ni h;obtain⟨vs,r,h3⟩:=fD h1;exact⟨.j _,Do (p:=u=_) h0,λG H=>⟨_,vs,rfl,h2 vs r G H,h3 G H⟩⟩
theorem fD{Y:Ge}:∀{ds:List M.D}{us:List Value},gH Y.K ds us=k9->∃vs,Vals vs us/\∀G H,aa Y G H ds vs
|[],[],_=>⟨[],.u,λ_ _=>rfl⟩
|[],_::_,h=>bB h
|_::_,[],h=>bB h
|d::ds,u::us,h=>by obtain⟨h1,h2⟩:=(Aa2 _ _).mp h;obtain⟨v,r1,h3⟩:=BR h1;obtain⟨vs,r2,h4⟩:=fD h2;exact⟨v::vs,.j r1 r2,λG H=>⟨v,vs,rfl,h3 G H,h4 G H⟩⟩
end
theorem Cs:∀{l:List<|String×α}{x}{d},l.u x=y0 d->(x,d)∈l
|(k,v)::l,x,d,h=>by
  rw[Ad]at h;by_cases q:(x==k)=k9
  .rw[q]at h;cases h;rw[eq_of_beq q];exact Aa4
  .rw[eq_false_of_ne_true q]at h;exact Aa3 _<|Cs h
abbrev uM(K:Frag)(C:Addr):Prop:=plainGet K C Str.empty=true/\hasDictIn K C=true/\plainOver K C=true/\findIn K (.j C) "__setattr__"=some (some<|.u "object.__setattr__")
def CP(K:Frag)(p:M.Prog)(g:Cg)(nm:List<|String×List String):Prop:=
 (∀x∈bS,nsIn K mainGlobals (Wd x)=y0 u0)/\(∀x∈p.con,vi K x.1 x.2=k9)/\(∀c∈g.j,mV K c)
def AU(K:Frag)(p:M.Prog)(g:Cg)(nm:List<|String×List String):Prop:=
 (∀c∈g.x.er,XP K p.cl g.j c.1/\(oP K (b9 K c.1)=true/\mz K (b9 K c.1)=true/\findIn K (.j<|b9 K c.1) "__setattr__"=some (some<|.u "object.__setattr__")/\findIn K (.j<|b9 K c.1) (Wd c.2)=some none/\keepIn K (.j<|b9 K c.1)=true)∧
   findIn K (.j<|b9 K c.1) "__init__"=some (some<|.j<|kj<|findIn K (.j<|b9 K c.1) "__init__")/\BE K (Wd c.2) (kj<|findIn K (.j<|b9 K c.1) "__init__")=true/\isFn K (.j<|kj<|findIn K (.j<|b9 K c.1) "__init__")=true)/\(∀c∈g.f6,mroIn K (b9 K c) (.w "BaseException")=some true/\g.j.x c=true)/\(∀c∈g.x.fl,uM K (b9 K c.1)/\findIn K (.j<|b9 K c.1) (Wd c.2)=some none)
def uB(K:Frag)(p:M.Prog)(g:Cg)(nm:List<|String×List String):Prop:=
 (∀c∈g.x.mt,uM K (b9 K c.1)/\g.x.ms.x c.2.2=true/\findIn K (.j<|b9 K c.1) (Wd c.2.1)=some (some<|.j<|iR K g.x c.2.2)/\isFn K (.j<|iR K g.x c.2.2)=true/\keepIn K (.j<|iR K g.x c.2.2)=true)/\(∀c∈g.x.ft,mV K c.1/\g.x.ms.x c.2=true/\makesIn K (b9 K c.1)=true/\findIn K (.j<|b9 K c.1) "__init__"=some (some<|.j<|iR K g.x c.2)/\isFn K (.j<|iR K g.x c.2)=true/\keepIn K (.j<|b9 K c.1)=true)
def Bn(K:Frag)(p:M.Prog)(g:Cg)(nm:List<|String×List String):Prop:=
 (∀f∈g.w,mV K f/\n0 K p g nm (b9 K f) f=true)/\(∀q∈g.x.ms,n0 K p g nm (iR K g.x q) q=true)/\(∀f∈g.qf,mV K f/\n0 K p g.z nm (b9 K f) f=true)/\g.w.x "law"=true/\nA K (b9 K "law") (fun fd _=>decide<|el fd=[("_law_script":Str)])=true
def tZ(K:Frag)(p:M.Prog)(g:Cg)(nm:List<|String×List String):Prop:=
 CP K p g nm/\AU K p g nm/\uB K p g nm/\Bn K p g nm
set_option synthInstance.maxSize 1000 in
instance{K:Frag}{p:M.Prog}{g:Cg}{nm:List<|String×List String}:Decidable<|tZ K p g nm:=by unfold tZ CP AU uB Bn;infer_instance
def zI  [BEq α][LawfulBEq α]{l:List α}(h:l.x x=k9):x∈l:=Ai8.u h
def XP.ok {K:Frag}{p:M.Prog}(h:XP K p.cl own c):iP ⟨K,b9 K,p.cl,own,iR K ob⟩ c:=by obtain⟨⟨⟨e,a2,a3⟩,a4,a5,a6,a7,a,d⟩,b,c,_⟩:=h;exact⟨⟨e,a2,a3,a4,a5,a6,a7,a,d⟩,b,c⟩
set_option tactic.hygienic true in
def kF{l:OpenLaw}{K:Frag}(p)(g)(nm)(k)(X:K.In h)(G:h.Ns mainGlobals mg)(I:mg "law"=some (.j fa))(T:decide (tZ K p g nm)=true)
 (gA:∀ns:List Int,ns.e<=63->∃h',M.call p (k+1) "law" [.v (.x<|ns.j .p)] []=.j (.v<|.I true) h'):
 ∃fd:FuncData,(∀s v,BindsTo s fd ⟨[v],[]⟩ [("_law_script",v)])/\∀base:Heap,K.In base->base.Ns mainGlobals mg->bx l.prog w K mg base oi (2*k+3+2) fa fd ["_law_script"] (pC K):=by
 obtain⟨⟨t1,U,t2⟩,⟨t4,t5,Z⟩,⟨t7,t8⟩,N,O,S,D,J⟩:=Do T;have R:eX ⟨K,b9 K,p.cl,g.j,iR K g.x⟩ p mg g:=by
  refine⟨rfl,rfl,λx hx=>mg_none_of X G<|t1 x hx,λx d b=>?_,λc a=>mg_of X G<|t2 c<|zI a,λc f a=>?_,λc a=>t5 c<|zI a,λc f a=>?_,λc m q a=>?_,λc q a=>?_⟩
  .have z:=U (x,d)<|Cs b;unfold vi at z;split at z
   .rename_i u e;obtain⟨v,r⟩:=BR (Y:=⟨K,b9 K,p.cl,g.j,iR K g.x⟩) z;exact⟨u,v,mg_of X G e,r⟩
   .cases z
  .obtain⟨z,⟨e1,e2,A,n,y⟩,B,Q,L⟩:=t4 (c,f)<|zI a;obtain⟨fd,ps,i⟩:=DF Q L;exact⟨z.ok,⟨e2,n,z.1.1.1,z.1.1.2.1⟩,⟨e1,e2,A,n,y⟩,mg_of X G z.2.2.2,_,fd,ps,B,i⟩
  .obtain⟨⟨e1,e2,A,n⟩,y⟩:=Z (c,f)<|zI a;exact⟨⟨e1,e2,A,n⟩,y⟩
  .obtain⟨⟨e1,e2,A,n⟩,y,B,Q,L⟩:=t7 (c,m,q)<|zI a;exact⟨⟨e1,e2,A,n⟩,y,B,Q,L⟩
  .obtain⟨e1,e2,A,n,y,B⟩:=t8 (c,q)<|zI a;exact⟨mg_of X G e1,e2,A,n,y,B⟩
 have C:=λf o=>mg_of X G (N f<|zI o).1;have e:b9 K "law"=fa:=by have:=(C "law" D).u.j I;cases this;rfl
 obtain⟨d,b,t,ok,j,F,oc,od,sl,V,ep,bd⟩:=oR mg (N "law"<|zI D).2;obtain⟨_,_,fd,_,_,E,_,z⟩:=rg J;rw[V]at E;cases E;have z:=ep.j<|Do z;refine⟨t.fd,λs v=>.of_eq<|(bd [v]<|by rw[z];rfl).j<|by rw[z];rfl,λbase _ _=>?_⟩;have H:=F6 (P:=l.prog) (w:=w) (base:=base) R (λf o=>by
  obtain⟨d,b,t,ok,j,F,_⟩:=oR mg (N f<|zI o).2;exact⟨d,b,t,ok,j▸F,j▸C f o⟩) (λf o=>by
  obtain⟨d,b,t,ok,j,F,_⟩:=oR mg (S f<|zI o).2;exact⟨d,b,t,ok,j▸F,j▸mg_of X G (S f<|zI o).1⟩) (λq W=>by
  obtain⟨d,b,t,ok,j,_⟩:=oR mg<|O q<|zI W;exact⟨d,b,t,ok,j⟩) k
 have:=Ii (oN R ok b k _ (λ_=>(Fk _ _)) (λ_ _=>(Fk _ _)) H.1 H.2.1 H.2.2) gA
 rwa [j,e,z]at this
end Lake.MS
namespace Wf
def iJ(t k):t/2^k%2=(t.j k).j:=(Nat.toNat_testBit t k).u
theorem wT:∀(n a b:Nat),a<=n->(a|||b)+(a&&&b)=a+b
|0,a,b,h=>by
  have:a=0:=by lia
  subst this;simp
|n+1,a,b,h=>by
  by_cases c:a=0
  .subst c;simp
  have k:=wT n (a/2) (b/2) Y6;have e1:=An5 (a|||b) 2;have e2:=An5 (a&&&b) 2;rw[Nat.or_div_two]at e1;rw[Nat.and_div_two]at e2;have f:(a|||b)%2=1↔a%2=1\/b%2=1:=Nat.or_mod_two_eq_one;have d:(a&&&b)%2=1↔a%2=1/\b%2=1:=Nat.and_mod_two_eq_one;have i:=An5 a 2;have j:=An5 b 2;have g:(a|||b)%2<2:=Ak2 _ Y5;have l:(a&&&b)%2<2:=Ak2 _ Y5;generalize (a|||b)%2=p at*;generalize (a&&&b)%2=q at*;by_cases c:a%2=1<;>by_cases e:b%2=1
  .have:p=1:=f.w<|.u c;have:q=1:=d.w ⟨c,e⟩;lia
  .have:p=1:=f.w<|.u c;have:¬q=1:=λh=>e (d.u h).2;lia
  .have:p=1:=f.w<|.w e;have:¬q=1:=λh=>c (d.u h).1;lia
  .have:¬p=1:=λh=>(f.u h).j c e;have:¬q=1:=λh=>c (d.u h).1;lia
def NV(a b:Nat):a-(a&&&b)=a^^^(a&&&b):=by
 have h:=wT _ (a^^^(a&&&b)) (a&&&b)<|Ab0 _;have e1:(a^^^(a&&&b))|||(a&&&b)=a:=Al λk=>by simp[Ai1];cases a.j k<;>cases b.j k<;>rfl
 have e2:(a^^^(a&&&b))&&&(a&&&b)=0:=Al λk=>by simp only[V4,Ai1,Ag4];cases a.j k<;>cases b.j k<;>rfl
 lia
def aQ(a b k:Nat):(a-(a&&&b)).j k=(a.j k&&!b.j k):=by rw[NV];simp[Ai1];cases a.j k<;>cases b.j k<;>rfl
noncomputable def aC(n t:Nat):List<|Nat×Nat:=((Aa6<|n*n).L t.j).j λk=>(k/n,k%n)
noncomputable def c5(n:Nat)(ps:List<|Nat×Nat):Nat:=ps.Z (λt p=>t|||2^(p.1*n+p.2)) 0
def fV(n:Nat)(ps:List<|Nat×Nat):Prop:=∀p∈ps,p.1<n/\p.2<n
def place_lt{n a b:Nat}(c:a<n)(d:b<n):a*n+b<n*n:=by
 have:a*n+n<=n*n:=by
  have:=Aq4 n<|Vz c
  rwa [Vk]at this
 lia
def aF{n a b:Nat}(c:b<n):(a*n+b)/n=a:=by rw[Ap9,Nat.mul_add_div<|Ab4 (Fk _ _) ‹_›,Nat.div_eq_of_lt c,Nat.add_zero]
def aK{n a b:Nat}(c:b<n):(a*n+b)%n=b:=by rw[Ap9,Nat.mul_add_mod,Nat.mod_eq_of_lt c]
def bf{n k:Nat}(h:k<n*n):k/n<n:=Nat.div_lt_of_lt_mul h
def aZ{n k:Nat}(h:k<n*n):k%n<n:=Ak2 _<|by
 cases n with
|zero=>simp at h
|succ m=>exact Fk _ _
def bw(n k:Nat):k/n*n+k%n=k:=by rw[Ap9];exact An5 k n
theorem u2(n):∀(ps:List<|Nat×Nat)(t k:Nat),(ps.Z (λt p=>t|||2^(p.1*n+p.2)) t).j k=(t.j k||ps.C λp=>u9<|p.1*n+p.2=k)
|[],t,k=>by simp
|p::r,t,k=>by rw[Am,u2 n r,Af8,Ae6,Ah6,Yd]
def cU(n)(ps)(k):(c5 n ps).j k=ps.C λp=>u9<|p.1*n+p.2=k:=by unfold c5;rw[u2];simp
def dt(h:fV n ps):c5 n ps<2^(n*n):=by refine Nat.lt_pow_two_of_testBit _ λi b=>?_;rw[cU,Am4];intro p a;have:=h p a;have:=place_lt this.1 this.2;simp;lia
def bK:p∈aC n t↔∃k,k<n*n/\t.j k=k9/\p=(k/n,k%n):=by
 unfold aC;simp[Ab6];constructor
 .rintro⟨k,⟨b,a⟩,rfl⟩;exact⟨k,b,a,rfl⟩
 .rintro⟨k,b,a,rfl⟩;exact⟨k,⟨b,a⟩,rfl⟩
def bZ(n t):fV n<|aC n t:=λp b=>by obtain⟨k,a,c,rfl⟩:=bK.u b;exact⟨bf a,aZ a⟩
noncomputable def ng(ps:List<|Nat×Nat):List<|Nat×Nat:=ps.j λp=>(p.2,p.1)
def fK(h:fV n ps):fV n<|ng ps:=λp b=>by obtain⟨q,a,rfl⟩:=Ab7.u b;exact⟨(h q a).2,(h q a).1⟩
def bL(n t:Nat):Nat:=c5 n<|ng<|aC n t
def gS(n t):bL n t<2^(n*n):=dt<|fK<|bZ n t
def fQ(f:k<n*n):(bL n t).j k=t.j (k%n*n+k/n):=by
 unfold bL;rw[cU];have c:=bf f;by_cases h:t.j (k%n*n+k/n)=k9
 .rw[h,Ad8];refine⟨(k/n,k%n),?_,?_⟩
  .refine Ab7.w ⟨(k%n,k/n),bK.w ⟨k%n*n+k/n,place_lt (aZ f) c,h,?_⟩,rfl⟩;rw[aF c,aK c]
  .simp[L2];exact bw n k
 .have d:=by simpa using h
  rw[d,Am4];intro p i;obtain⟨q,l,rfl⟩:=Ab7.u i;obtain⟨j,a,b,rfl⟩:=bK.u l;simp[L2];intro e;subst e;have g:=bf a;have a2:=aZ a;rw[aF g,aK g,bw]at d;rw[d]at b;cases b
def bH(n:Nat):Nat:=c5 n<|(Aa6 n).j λa=>(a,a)
def eD(n):fV n<|(Aa6 n).j λa=>(a,a):=λp c=>by obtain⟨a,b,rfl⟩:=Ab7.u c;exact⟨Ab6.u b,Ab6.u b⟩
def N5(c:k<n*n):(bH n).j k=u9 (k/n=k%n):=by
 unfold bH;rw[cU];have f:=aZ c;by_cases h:k/n=k%n
 .rw[FB h,Ad8];refine⟨_,Ab7.w ⟨k/n,Ab6.w<|bf c,rfl⟩,?_⟩;simp[L2];have:=bw n k
  rwa [←h]at this
 .rw[IR h,Am4];intro p d;obtain⟨a,b,rfl⟩:=Ab7.u d;simp[L2];intro e;subst e;have b:=Ab6.u b;exact h<|by rw[aF b,aK b]
noncomputable def cA(n p b:Nat):Nat:=p/2^(b*n)%2^n
def joinM(n o p:Nat):Nat:=(aC n o).Z (λt q=>t|||cA n p q.2*2^(q.1*n)) 0
def dv(n p b):cA n p b<2^n:=Ak2 _<|UF Y5
def A7(a:c<n):(cA n p b).j c=p.j (b*n+c):=by unfold cA;rw[Ah7,FB a,Ae7,Ah8,Ar5]
def IB(f:x<2^n)(c:0<n):(x*2^(a*n)).j k=(u9 (k/n=a)&&x.j (k%n)):=by
 rw[Nat.testBit_mul_two_pow];have e:=bw n k;by_cases h:k/n=a
 .subst h;rw[FB rfl,Ae7];have:k/n*n<=k:=by lia
  rw[FB<|this,Ae7,show k-k/n*n=k%n by lia]
 .rw[IR h,Af7];by_cases b:k>=a*n
  .rw[FB b,Ae7];refine Ak3<|Ab3 f<|Ad6 Y5 ?_;have d:a<k/n:=by have:a<=k/n:=(Nat.le_div_iff_mul_le c).w b;lia
   have g:=Aq4 n d;lia
  .rw[IR b,Af7]
theorem Bx(n p)(a:0<n):∀(ps:List<|Nat×Nat) t k,(ps.Z (λt q=>t|||cA n p q.2*2^(q.1*n)) t).j k=(t.j k||ps.C λq=>u9 (k/n=q.1)&&(cA n p q.2).j (k%n))
|[],t,k=>by simp
|q::r,t,k=>by rw[Am,Bx n p a r,Af8,IB (dv n p q.2) a,Ah6,Yd]
def Eh(h:k<n*n):0<n:=by
 cases n with
|zero=>simp at h
|succ m=>exact Fk _ _
noncomputable def JB(n o p k:Nat):Bool:=(Aa6 n).C λb=>o.j (k/n*n+b)&&p.j (b*n+k%n)
def cy(g:k<n*n):(joinM n o p).j k=JB n o p k:=by
 have h:=aZ g;unfold joinM JB;rw[Bx n p<|Eh g];simp[UX];rw[V5,Ad8,Ad8];constructor
 .rintro⟨q,i,a⟩;obtain⟨j,c,d,rfl⟩:=bK.u i;rw[Aa2,L2]at a;obtain⟨e,a⟩:=a;refine⟨j%n,Ab6.w<|aZ c,?_⟩;rw[A7 h]at a;rw[e,bw,d,a];rfl
 .rintro⟨b,a,f⟩;have a:=Ab6.u a;rw[Aa2]at f;refine⟨_,bK.w ⟨k/n*n+b,place_lt (bf g) a,f.1,by rw[aF a,aK a]⟩,?_⟩;rw[A7 h,f.2];simp
def dC(n o p):joinM n o p<2^(n*n):=by
 have b:∀(a:List<|Nat×Nat) t,(∀q∈a,q.1<n)->t<2^(n*n)->a.Z (λt q=>t|||cA n p q.2*2^(q.1*n)) t<2^(n*n):=by
  intro a;induction a with
|nil=>intro t _ h;exact h
|cons q r i=>
   intro t d g;refine i _ (λz f=>d z<|Aa3 _ f)<|Am5 g ?_;have c:=d q Aa4;have:=dv n p q.2;have e:2^n*2^(q.1*n)<=2^(n*n):=by rw[←Yl];refine Ad6 Y5 ?_;have:=Aq4 n<|Vz c;lia
   exact Ab3 (Nat.mul_lt_mul_of_pos_right this<|UF Y5) e
 exact b _ _ (λq c=>(bZ n o q c).1)<|UF Y5
def fh(a:s<2^n)(b:t<2^n)(h:∀k,k<n->s.j k=t.j k):s=t:=
 Al λk=>by
  by_cases c:k<n
  .exact h k c
  .rw[Ak3<|Ab3 a<|Ad6 Y5<|SC ‹_›,Ak3<|Ab3 b<|Ad6 Y5<|SC ‹_›]
def fi(d:a<n)(c:b<n):(bH n).j (a*n+b)=u9 (a=b):=by rw[N5<|place_lt d c,aF c,aK c]
def gW(n):bH n<2^(n*n):=dt<|eD n
inductive TC(n t a:Nat):Nat->Prop
|step {b:Nat}:a<n->b<n->t.j (a*n+b)=k9->TC n t a b
|more {b c:Nat}:TC n t a b->b<n->c<n->t.j (b*n+c)=k9->TC n t a c
def TC.trans (h1:TC n t a b)(d:TC n t b c):TC n t a c:=by
 induction d with
|step x y z=>exact .more h1 x y z
|more _ x y z e=>exact .more e x y z
structure fP(n t r:Nat):Prop where
 lt:r<2^(n*n)
 bit:∀a b,a<n->b<n->(r.j (a*n+b)=k9↔TC n t a b)
structure g8(n t r:Nat):Prop where
 lt:r<2^(n*n)
 sub:∀a b,a<n->b<n->r.j (a*n+b)=k9->TC n t a b
 sup:∀k,t.j k=k9->r.j k=k9
def g8.start (h:t<2^(n*n)):g8 n t t:=⟨h,λ_ _ b a h=>.step b a h,λ_ h=>h⟩
def cT(d:c<n):JB n o p (a*n+c)=(Aa6 n).C λb=>o.j (a*n+b)&&p.j (b*n+c):=by unfold JB;rw[aF d,aK d]
def g8.next (h:g8 n t r):g8 n t<|r|||joinM n r r:=by
 refine⟨Am5 h.lt<|dC _ _ _,λa b g e d=>?_,λk i=>?_⟩
 .rw[Af8,Ae5]at d;obtain d|d:=d
  .exact h.sub a b g e d
  .rw[cy<|place_lt g e,cT e,Ad8]at d;obtain⟨c,f,d⟩:=d;have f:=Ab6.u f;rw[Aa2]at d;exact(h.sub a c g f d.1).trans<|h.sub c b f e d.2
 .rw[Af8,h.sup k i,Ao0]
def E9{a b:Nat}(h:a|||b=a)(k)(c:b.j k=k9):a.j k=true:=by rw[←h,Af8,c,Al6]
def g8.done (h:g8 n t r)(e:r|||joinM n r r=r):fP n t r:=by
 refine⟨h.lt,λa b g j=>⟨h.sub a b g j,λi=>?_⟩⟩;induction i with
|step f c d=>exact h.sup _ d
|more i f c d k=>refine E9 e _ ?_;rw[cy<|place_lt g c,cT c,Ad8];exact⟨_,Ab6.w f,by rw[(k f),h.sup _ d];rfl⟩
def g8.grow (h:g8 n t r)(ne:r|||joinM n r r≠r):r<r|||joinM n r r:=by have:=@Nat.left_le_or r<|joinM n r r;lia
end Wf
namespace Lake.M
open M renaming E.int->Lake.M.E.p,E.str->Lake.M.E.u,E.call->Lake.M.E.j,E.tup->Lake.M.E.w,E.lst->Lake.M.E.x,E.bin->Lake.M.E.y,E.cmp->Lake.M.E.B,E.ix->Lake.M.E.G,E.bl->Lake.M.E.I,E.comp->Lake.M.E.M,E.au->Lake.M.E.U,E.bi->Lake.M.E.Z,E.not->Lake.M.E.a1,E.var->Lake.M.E.a2,E.chain->Lake.M.E.a4,D.int->Lake.M.D.p,Ss.cons->Lake.M.Ss.j,Ss.nil->Lake.M.Ss.u,Es.cons->Lake.M.Es.j,Es.nil->Lake.M.Es.u,R.ok->Lake.M.R.j,S.set->Lake.M.S.y,S.ret->Lake.M.S.u,S.af->Lake.M.S.j,S.iff->Lake.M.S.w,Bi.len->Lake.M.Bi.w,Bi.tuple->Lake.M.Bi.A,It.seq->Lake.M.It.j,It.ar->Lake.M.It.u,Ty.tuple->Lake.M.Ty.A,Op.bor->Lake.M.Op.u,Op.add->Lake.M.Op.j,Op.band->Lake.M.Op.w,Op.mul->Lake.M.Op.x,Op.sub->Lake.M.Op.y,Op.mod->Lake.M.Op.A,Op.shl->Lake.M.Op.B,Op.shr->Lake.M.Op.C,Cp.eq->Lake.M.Cp.j,Cp.mem->Lake.M.Cp.u,Cp.ne->Lake.M.Cp.w
noncomputable abbrev Dq:Tx:=[115,111,109,101,32,110,111,32,108,101,97,115,116,32,109,111,115,116,32,101,97,99,104,32,105,110,32,97,110,100,32,111,114,32,110,111,116,32,115,97,109,101,32,97,108,108,32,110,111,110,101,32,107,105,110,100,32,116,105,101,32,115,97,121]
abbrev hZ:Tx:=[98,114,111,107,101,110]
abbrev ia:Tx:=[108,101,97,115,116]
noncomputable abbrev uS:Tx:=[97,98,99,100,101,102,103,104,105,106,107,108,109,110,111,112,113,114,115,116,117,118,119,120,121,122]
abbrev kh:Tx:=[119,111,114,108,100]
abbrev oK:Tx:=[101,97,99,104,108,101,97,115,116]
abbrev iT:Tx:=[115,111,109,101]
abbrev lD:Tx:=[101,113,117,97,108]
abbrev km:Tx:=[109,111,115,116]
abbrev ir:Tx:=[110,111,116]
abbrev nG:Tx:=[115,112,108,105,116]
abbrev me:Tx:=[110,111,110,101]
abbrev mE:Tx:=[115,97,109,101]
abbrev tJ:Tx:=[106,111,105,110,101,100]
abbrev pU:Tx:=[116,117,114,110,101,100]
abbrev hU:Tx:=[105,110]
abbrev lu:Tx:=[97,110,100]
abbrev yu:Tx:=[101,97,99,104,109,111,115,116]
abbrev nX:Tx:=[108,101,115,115]
abbrev mH:Tx:=[97,108,108]
abbrev i6:Tx:=[111,114]
abbrev nR:Tx:=[110,97,109,101]
abbrev lr:Tx:=[110,111]
abbrev Dj:Tx:=[99,108,111,115,101,100]
abbrev sk:Tx:=[112,108,117,115]
abbrev pX:Tx:=[98,111,116,104]
abbrev Bv:Tx:=[112,97,112,101,114]
noncomputable abbrev S.r (c x:E):S:=.w c (.j (.u x) .u) .u
noncomputable abbrev E.v0:E:=.a2 0
open M renaming E.v0->Lake.M.E.A
noncomputable abbrev E.v1:E:=.a2 1
open M renaming E.v1->Lake.M.E.C
noncomputable abbrev E.v2:E:=.a2 2
open M renaming E.v2->Lake.M.E.L
abbrev E.v3:E:=.a2 3
open M renaming E.v3->Lake.M.E.N
abbrev E.v4:E:=.a2 4
abbrev E.v5:E:=.a2 5
abbrev E.v6:E:=.a2 6
abbrev E.v7:E:=.a2 7
abbrev E.v8:E:=.a2 8
abbrev E.v9:E:=.a2 9
abbrev E.i0:E:=.p 0
open M renaming E.i0->Lake.M.E.X
noncomputable abbrev E.i1:E:=.p 1
open M renaming E.i1->Lake.M.E.T
abbrev E.i2:E:=.p 2
abbrev E.i3:E:=.p 3
abbrev E.i4:E:=.p 4
abbrev Es.a (x:E):Es:=.j x .u
noncomputable abbrev Es.b (x y:E):Es:=.j x<|.j y .u
noncomputable abbrev Es.c (x y z:E):Es:=.j x<|.j y<|.j z .u
noncomputable abbrev Es.d (x y z u:E):Es:=.j x<|.j y<|.j z<|.j u .u
noncomputable abbrev Es.f (x y z u v:E):Es:=.j x<|.j y<|.j z<|.j u<|.j v .u
noncomputable abbrev Es.g (x y z u v w:E):Es:=.j x<|.j y<|.j z<|.j u<|.j v<|.j w .u
abbrev Ss.a (x:S):Ss:=.j x .u
noncomputable abbrev Ss.b (x y:S):Ss:=.j x<|.j y .u
noncomputable abbrev Ss.c (x y z:S):Ss:=.j x<|.j y<|.j z .u
noncomputable abbrev Ss.d (x y z u:S):Ss:=.j x<|.j y<|.j z<|.j u .u
noncomputable abbrev Ss.f (x y z u v:S):Ss:=.j x<|.j y<|.j z<|.j u<|.j v .u
noncomputable abbrev Ss.g (x y z u v w:S):Ss:=.j x<|.j y<|.j z<|.j u<|.j v<|.j w .u
noncomputable abbrev Ss.h (x y z u v w a:S):Ss:=.j x<|.j y<|.j z<|.j u<|.j v<|.j w<|.j a .u
noncomputable abbrev Ss.k (x y z u v w a b:S):Ss:=.j x<|.j y<|.j z<|.j u<|.j v<|.j w<|.j a<|.j b .u
noncomputable abbrev Ss.m (x y z u v w a b c:S):Ss:=.j x<|.j y<|.j z<|.j u<|.j v<|.j w<|.j a<|.j b<|.j c .u
noncomputable abbrev Ss.o (x y z u v w a b c d e:S):Ss:=.j x<|.j y<|.j z<|.j u<|.j v<|.j w<|.j a<|.j b<|.j c<|.j d<|.j e .u
def Ha:Fn:=⟨1,1,.a<|.u<|.and (.cC .A .int)<|.a1<|.cC .A .bool⟩
def jD:Fn:=⟨2,2,.a<|.u<|.and (.j "is_whole"<|.a .A)<|.a4 .le .lt .X .A .C⟩
noncomputable def qH:E:=.M [0] k9 1 [1,0] (.u<|.y .x .A .A) k9 (.y .w (.y .C .C .A) .T)<|.Z .divmod<|.b .A .L
def JR:Fn:=⟨2,2,.a<|.u qH⟩
def Zj:Ss:=.a<|.j 2<|.y .u .L<|.y .B .T<|.y .j (.y .x .N .A) .v4
def XQ:Fn:=⟨2,5,.c (.j 2 .X) (.for [3,4] y9 (.j .C) Zj)<|.u .L⟩
def ub:Fn:=⟨2,2,.a<|.u<|.y .w .A .C⟩
def AZ:Fn:=⟨2,2,.a<|.u<|.y .u .A .C⟩
def J3:Fn:=⟨2,2,.a<|.u<|.y .w .A<|.inv .C⟩
def ZD:E:=.M [0,1] false 2 [] (.j<|.j "pairs_of"<|.b .A .C) false (.I true)<|.w<|.b .C .A
def uu:Fn:=⟨2,2,.a<|.u<|.j "gathered"<|.b .A ZD⟩
noncomputable def jw:Ss:=.b (.j 7<|.y .w (.y .C .L<|.y .x .v6 .A) .N)<|.j 4<|.y .u .v4<|.y .B .v7<|.y .x .v5 .A
def vm:Fn:=⟨3,8,.d (.j 3<|.y .y (.y .B .T .A) .T) (.j 4 .X) (.for [5,6] y9 (.j<|.j "pairs_of"<|.b .A .C) jw)<|.u .v4⟩
def xw:E:=.B .w .N .L
def Qv:Ss:=.b (.j 2 .N)<|.j 3<|.j "either"<|.b .L<|.j "joined"<|.c .A .L .L
def vg:Fn:=⟨2,4,.d (.j 2 .C) (.j 3<|.j "either"<|.b .L<|.j "joined"<|.c .A .L .L) (.kl 100000 xw Qv)<|.u .L⟩
def xZ:E:=.M [0] k9 1 [] (.u .A) y9 (.I k9)<|.w<|.b .A .A
def A8:Fn:=⟨1,1,.a<|.u<|.j "gathered"<|.b .A xZ⟩
def CA:Fn:=⟨1,1,.a<|.u<|.y .y (.y .B .T<|.y .x .A .A) .T⟩
def Wh:E:=.M [0] k9 1 [4] (.u .N) k9 (.y .w (.y .C .C .A) .T)<|.w<|.b .A .A
def jr:Fn:=⟨3,5,.d (.r (.B .u .L<|.G .A .T)<|.G (.G .C .i2)<|.dN .index (.G .A .T)<|.a .L) (.j 3<|.G .C .X) (.j 4<|.G (.G .C .T)<|.dN .index (.G .A .X)<|.a .L)<|.u<|.j "gathered"<|.b .N Wh⟩
def Xy:Fn:=⟨3,3,.m (.r (.B .j .C<|.u mE)<|.j "same"<|.a .A) (.r (.B .j .C<|.u mH)<|.j "every"<|.a .A) (.r (.B .j .C<|.u me) .X) (.r (.B .j .C<|.u sk)<|.j "either"<|.b (.G .L .X)<|.G .L .T) (.r (.B .j .C<|.u nX)<|.j "without"<|.b (.G .L .X)<|.G .L .T) (.r (.B .j .C<|.u pX)<|.j "common"<|.b (.G .L .X)<|.G .L .T) (.r (.B .j .C<|.u tJ)<|.j "joined"<|.c .A (.G .L .X)<|.G .L .T) (.r (.B .j .C<|.u pU)<|.j "turned"<|.b .A<|.G .L .X)<|.u<|.j "closed"<|.b .A<|.G .L .X⟩
def jE:E:=.M [0] k9 1 [4] (.u .A) y9 (.I k9)<|.dN .count .C<|.a .A
def JF:E:=.M [0,1] y9 2 [] (.j .N) y9 (.I k9) .A
def uZ:Fn:=⟨3,5,.d (.j 3<|.j "pairs_of"<|.b .A .L) (.r (.B .u .C<|.w<|.b (.u ia)<|.u km)<|.x<|.a<|.Z .w<|.a .N) (.j 4 JF)<|.u jE⟩
def QF:E:=.M [0,1] y9 2 [] (.j .v5) y9 (.I k9) .C
def WD:E:=.M [0,1] y9 2 [] (.j .v5) y9 (.I k9) .A
def Jv:E:=.M [0] k9 1 [0,1] (.j<|.eV .L .T) y9 (.I k9)<|.j "bounds"<|.c .C .L .A
def cw:Fn:=⟨3,9,.k (.j 3<|.G .L .X) (.w (.B .j .N<|.u nR) (.b (.j 4<|.G .L .T)<|.u<|.w<|.b (.j "value_of_name"<|.c .A (.G .C .X) .v4)<|.j "value_of_name"<|.c .A (.G .C .T) .v4) .u) (.j 5 Jv) (.j 6 WD) (.j 7 QF) (.r (.B .j .N<|.u nX)<|.w<|.b (.j "without"<|.b (.G .v6 .X)<|.G .v7 .T)<|.j "without"<|.b (.G .v7 .X)<|.G .v6 .T) (.j 8<|.G (.G .C .X) .X)<|.u<|.w<|.b (.j "made"<|.c .v8 .N .v6)<|.j "made"<|.c .v8 .N .v7⟩
def z9:Fn:=⟨2,2,.c (.r .A<|.I k9) (.r .C<|.I y9)<|.u .U⟩
def XR:Fn:=⟨1,1,.a<|.u<|.j "settled"<|.b (.B .dI .A<|.I false)<|.B .dI .A<|.I true⟩
def WP:Fn:=⟨2,2,.a<|.u<|.j "settled"<|.b (.and (.B .dI .A<|.I true)<|.B .dI .C<|.I true)<|.or (.B .dI .A<|.I false)<|.B .dI .C<|.I false⟩
def W1:Fn:=⟨2,2,.a<|.u<|.j "settled"<|.b (.or (.B .dI .A<|.I true)<|.B .dI .C<|.I true)<|.and (.B .dI .A<|.I false)<|.B .dI .C<|.I false⟩
def j5:Fn:=⟨2,2,.a<|.u<|.j "settled"<|.b (.B .j (.j "without"<|.b (.G .A .T)<|.G .C .X) .X)<|.B .w (.j "without"<|.b (.G .A .X)<|.G .C .T) .X⟩
def Ww:E:=.M [0] k9 1 [2] (.j .v5) y9 (.I k9)<|.B .le .A .C
def ww:E:=.M [0] k9 1 [2] (.j .v4) y9 (.I k9)<|.B .gt .A .C
def Xw:E:=.M [0] k9 1 [2] (.j .v4) y9 (.I k9)<|.B .ge .A .C
def Qw:E:=.M [0] k9 1 [2] (.j .v5) y9 (.I k9)<|.B .lt .A .C
def XG:Fn:=⟨4,6,.d (.j 4<|.j "counts"<|.c .A .C<|.G .N .X) (.j 5<|.j "counts"<|.c .A .C<|.G .N .T) (.r (.B .u .C<|.w<|.b (.u ia)<|.u oK)<|.j "settled"<|.b (.Z .all<|.a Xw)<|.Z .any<|.a Qw)<|.u<|.j "settled"<|.b (.Z .all<|.a Ww)<|.Z .any<|.a ww⟩
def cG:Fn:=⟨3,4,.f (.j 3<|.G .L .X) (.r (.B .j .N<|.u ir)<|.j "not_told"<|.a<|.j "told"<|.c .A .C<|.G .L .T) (.r (.B .j .N<|.u lu)<|.j "and_told"<|.b (.j "told"<|.c .A .C<|.G .L .T)<|.j "told"<|.c .A .C<|.G .L .i2) (.r (.B .j .N<|.u i6)<|.j "or_told"<|.b (.j "told"<|.c .A .C<|.G .L .T)<|.j "told"<|.c .A .C<|.G .L .i2)<|.u<|.j "fact_told"<|.c .A .C .L⟩
def aX:Fn:=⟨3,7,.k (.j 3<|.G .L .X) (.j 4<|.G (.G .C .X) .X) (.j 5<|.j "bounds"<|.c .A .C<|.G .L<|.neg .T) (.r (.B .j .N<|.u iT)<|.j "count_told"<|.d .v4 (.u ia) .T .v5) (.r (.B .j .N<|.u lr)<|.j "count_told"<|.d .v4 (.u km) .X .v5) (.r (.B .j .N<|.u hU)<|.j "in_told"<|.b (.j "bounds"<|.c .A .C<|.G .L .T) .v5) (.w (.B .j .N<|.u lD) (.b (.j 6<|.j "bounds"<|.c .A .C<|.G .L .T)<|.u<|.j "and_told"<|.b (.j "in_told"<|.b .v6 .v5)<|.j "in_told"<|.b .v5 .v6) .u)<|.u<|.j "count_told"<|.d .v4 .N (.G .L .T) .v5⟩
def j4:Fn:=⟨1,1,.a<|.u<|.j "is_below"<|.b .A<|.y .j (.con "GREATEST_SIZE") .T⟩
noncomputable def By:Fn:=⟨2,2,.a<|.u<|.y .j (.y .x (.x<|.a .C)<|.Z .w<|.a<|.G .A .X)<|.y .x (.x<|.a<|.y .x .C .C)<|.Z .w<|.a<|.G .A .T⟩
def yL:Fn:=⟨2,2,.a<|.u<|.Z .sum<|.a<|.j "widths"<|.b .A .C⟩
def zH:Fn:=⟨1,1,.a<|.w (.a1<|.j "is_size"<|.a .A) (.a .fg) .u⟩
def JG:Fn:=⟨3,4,.c (.ex<|.j "check_size"<|.a .C) (.j 3<|.j "bits"<|.b .A .C)<|.w (.B .gt .N .L) (.a .fg) .u⟩
def Qr:Ss:=.b (.app 3<|.y .w .v4<|.y .y (.y .B .T .v5) .T)<|.j 4<|.y .C .v4 .v5
def QQ:Fn:=⟨3,7,.h (.ex<|.j "check_size"<|.a .C) (.w (.a1<|.j "is_below"<|.b .L<|.y .B .T<|.j "bits"<|.b .A .C) (.a .fg) .u) (.y 3<|.x .u) (.j 4 .L) (.for [5] true (.j<|.j "widths"<|.b .A .C) Qr) (.j 6<|.Z .w<|.a<|.G .A .X)<|.u<|.w<|.c .C (.Z .A<|.a<|.eG .N .v6)<|.Z .A<|.a<|.eV .N .v6⟩
def jq:E:=.M [0,1] false 2 [3] (.j<|.j "pairs_of"<|.b .C<|.j "every"<|.a .C) false (.I true)<|.w<|.c .L .A .C
def WA:Ss:=.a<|.ext 2 jq
def xp:E:=.M [0] k9 1 [3] (.u .C) y9 (.I k9)<|.w<|.c .C .A .A
def jz:Ss:=.a<|.ext 2 xp
noncomputable def WJ:Fn:=⟨2,4,.d (.y 2<|.x .u) (.for [3] k9 (.j<|.G .A .X) jz) (.for [3] k9 (.j<|.G .A .T) WA)<|.u .L⟩
noncomputable def zB:Fn:=⟨3,3,.b (.r (.or (.a1<|.cC .A .A)<|.B .w (.Z .w<|.a .A) .L)<|.I y9)<|.u<|.and (.cC (.G .A .X) .str)<|.B .j (.G .A .X) .C⟩
def Xq:Fn:=⟨3,3,.f (.bP 0 "Cases" "words"<|.G .C .X) (.bP 0 "Cases" "sayings"<|.G .C .T) (.bP 0 "Cases" "size" .L) (.bY 0 "Cases" "places"<|.j "places_of"<|.b (.G .C .X) .L)<|.bP 0 "Cases" "whole"<|.y .y (.y .B .T<|.Z .w<|.j (.aJ .A "Cases" "places") .u) .T⟩
def wj:Fn:=⟨2,2,.a<|.u<|.j "world_of"<|.j (.aJ .A "Cases" "words")<|.j (.aJ .A "Cases" "size")<|.a .C⟩
def Xz:Fn:=⟨4,5,.b (.j 4<|.w<|.j (.bO .A "Cases" "world_of_code" "Cases.world_of_code"<|.a .L)<|.j (.bO .A "Cases" "world_of_code" "Cases.world_of_code"<|.a .N) .u)<|.u<|.j "told"<|.j (.aJ .A "Cases" "words")<|.b .v4<|.G (.aJ .A "Cases" "sayings") .C⟩
def xx:Fn:=⟨4,4,.c (.r (.or (.a1<|.cC .C .str)<|.or (.a1<|.j "is_whole"<|.a .L)<|.a1<|.j "is_whole"<|.a .N) .X) (.r (.B .gu (.w<|.c .C .L .N)<|.aJ .A "Cases" "places") .X)<|.u<|.y .B .T<|.dN .bM (.aJ .A "Cases" "places")<|.a<|.w<|.c .C .L .N⟩
def Qj:Fn:=⟨4,6,.f (.w (.j "is_tuple_of"<|.c .C (.u hZ) .i2) (.b (.j 4<|.G .C .T)<|.u<|.and (.j "is_below"<|.b .v4<|.Z .w<|.j (.aJ .A "Cases" "sayings") .u)<|.B .dI (.bO .A "Cases" "truth" "Cases.truth"<|.c .v4 .L .N)<|.I false) .u) (.r (.a1<|.j "is_tuple_of"<|.c .C (.u nG)<|.p 6)<|.I false) (.j 5<|.bO .A "Cases" "bit_of" "Cases.bit_of"<|.c (.G .C .T) (.G .C .i2)<|.G .C .i3) (.r (.B .j (.y .w (.y .w .v5 .N)<|.inv .L) .X)<|.I false)<|.u<|.and (.bO .A "Cases" "is_shown" "Cases.is_shown"<|.c (.G .C .i4) (.y .u .L .v5) .N)<|.bO .A "Cases" "is_shown" "Cases.is_shown"<|.c (.G .C<|.p 5) .L<|.y .w .N<|.inv .v5⟩
def zn:Ss:=.a<|.w (.cC .L .A) (.a<|.ext 1<|.j "names_in"<|.a .L) .u
noncomputable def JE:Fn:=⟨1,3,.d (.r (.B .j (.G .A .X)<|.u nR)<|.x<|.a<|.G .A .T) (.y 1<|.x .u) (.for [2] k9 (.j<|.eV .A .T) zn)<|.u .C⟩
def xm:Ss:=.a<|.w (.B .u (.G .v5 .X) .L) (.a<|.j 3<|.y .u .N<|.y .B .T .v4) .u
def WY:Fn:=⟨2,6,.d (.j 2<|.j "names_in"<|.a .C) (.j 3 .X) (.for [4,5] false (.cO<|.aJ .A "Cases" "places") xm)<|.u .N⟩
def Jd:E:=.B .gt .A .X
def Xj:Ss:=.b (.j 0<|.y .w .A<|.y .y .A .T)<|.j 1<|.y .j .C .T
def QO:Fn:=⟨1,2,.c (.j 1 .X) (.kl 100000 Jd Xj)<|.u .C⟩
def jg:E:=.M [0] k9 1 [0] (.j<|.G .C .T) y9 (.I k9)<|.j "needed_bits"<|.j (.aJ .C "Search" "cases")<|.a .A
def ji:Fn:=⟨3,3,.b (.bP 0 "Search" "cases"<|.make "Cases" "Cases.__init__"<|.b .C .L)<|.bY 0 "Search" "needs" jg⟩
noncomputable def Qg:Fn:=⟨2,2,.a<|.u<|.bO .A "Search" "told_of_case" "Search.told_of_case"<|.j .C<|.j .X<|.j (.aJ (.aJ .A "Search" "cases") "Cases" "whole") .u⟩
noncomputable def xh:E:=.M [0] k9 1 [0,3,2] (.j .C) y9 (.I k9)<|.y .w (.y .w (.G (.aJ .C "Search" "needs") .A) .L)<|.inv .N
def xj:Fn:=⟨4,6,.c (.j 4 xh) (.j 5<|.fM "how_many_set" .v4)<|.u<|.y .y (.fL<|.y .w .v5<|.neg .v5) .T⟩
noncomputable def ja:Ss:=.c (.j 6<|.bO (.aJ .A "Search" "cases") "Cases" "truth" "Cases.truth"<|.c .v5 .L .N) (.r (.B .dI .v6<|.I false)<|.w<|.b (.u Bv)<|.w<|.b (.u hZ) .v5)<|.w (.fR false .v6) (.a<|.app 4 .v5) .u
def aM:Fn:=⟨4,7,.d (.y 4<|.x .u) (.for [5] k9 (.j .C) ja) (.r (.B .j .v4<|.x .u)<|.w<|.j (.u kh)<|.j (.bO (.aJ .A "Search" "cases") "Cases" "world_of_code" "Cases.world_of_code"<|.a .L) .u)<|.u<|.bO .A "Search" "told_of_halves" "Search.told_of_halves"<|.c .v4 .L .N⟩
noncomputable def aG:Fn:=⟨4,11,.k (.j 4<|.bO .A "Search" "chosen_place" "Search.chosen_place"<|.c .C .L .N) (.j 5<|.y .B .T .v4) (.j 6<|.bO .A "Search" "told_of_case" "Search.told_of_case"<|.c .C (.y .u .L .v5) .N) (.r (.or (.B .j (.G .v6 .X)<|.u kh)<|.bO (.aJ .A "Search" "cases") "Cases" "is_shown" "Cases.is_shown"<|.c (.G .v6 .T) .L .N) .v6) (.j 7<|.bO .A "Search" "told_of_case" "Search.told_of_case"<|.c .C .L<|.y .w .N<|.inv .v5) (.r (.B .j (.G .v7 .X)<|.u kh) .v7) (.ek [8,9,10]<|.G (.aJ (.aJ .A "Search" "cases") "Cases" "places") .v4)<|.u<|.w<|.b (.u Bv)<|.w<|.g (.u nG) .v8 .v9 (.a2 10) (.G .v6 .T)<|.G .v7 .T⟩
def rM:Fn:=⟨2,2,.b (.r (.B .j (.G .A .X)<|.u hZ)<|.B .j (.G .A .T) .C)<|.u<|.or (.j "uses"<|.b (.G .A .i4) .C)<|.j "uses"<|.b (.G .A<|.p 5) .C⟩
def uH:E:=.bD [0] k9 1 [0] 1 k9 (.j "uses"<|.b .C .A) .A
def vj:Fn:=⟨2,2,.a<|.u uH⟩
def Ju:Fn:=⟨2,2,.b (.r (.B .j (.G .A .X)<|.u hZ)<|.w<|.b (.u hZ)<|.dN .bM .C<|.a<|.G .A .T)<|.u<|.y .j (.eG .A .i4)<|.w<|.b (.j "renumbered"<|.b (.G .A .i4) .C)<|.j "renumbered"<|.b (.G .A<|.p 5) .C⟩
def Zm:E:=.B .lt (.Z .w<|.a .N)<|.Z .w<|.a .C
def Qm:Ss:=.c (.j 4<|.Z .w<|.a .N) (.ek [5,6]<|.bO .A "Search" "told_of_sayings" "Search.told_of_sayings"<|.a<|.y .j (.eG .C .v4)<|.eV .C<|.y .j .v4 .T)<|.w (.B .j .v5<|.u kh) (.a<|.fq .N .v6)<|.b (.j 2 .v6)<|.y 1<|.share<|.j "used"<|.b .L .C
def jQ:Fn:=⟨3,7,.c (.y 3<|.share<|.x .u) (.kl 100000 Zm Qm)<|.u<|.w<|.c .C (.j "renumbered"<|.b .L .C) .N⟩
def Zu:Fn:=⟨2,6,.g (.ex<|.j "check_bits"<|.c (.G .A .X) .C<|.con "MOST_BITS") (.j 2<|.make "Search" "Search.__init__"<|.b .A .C) (.y 3<|.cH<|.Z .w<|.a<|.G .A .T) (.ek [4,5]<|.bO .L "Search" "told_of_sayings" "Search.told_of_sayings"<|.a .N) (.w (.B .j .v4<|.u kh) (.a<|.eM "Kept" "world" .v5) .u)<|.u<|.j "narrowed"<|.j .L<|.j (.share<|.j "used"<|.b .v5 .N)<|.a .v5⟩
def xM:Fn:=⟨1,1,.a<|.u<|.x<|.c .A .X<|.Z .sum<|.a<|.eG .A .T⟩
noncomputable def WR:Fn:=⟨1,1,.c (.b7 .A .T<|.y .j (.G .A .T) .T) (.b7 .A .i2<|.y .A (.y .j (.y .x (.p 7)<|.G .A .T)<|.Z .sum<|.a<|.eG (.G .A .X)<|.p 9)<|.p 16777213)<|.w (.B .lt (.G .A .T)<|.Z .w<|.a<|.G .A .X) (.a<|.b7 .A .i2<|.G (.G .A .X)<|.G .A .T) .u⟩
noncomputable def QS:Fn:=⟨2,3,.c (.w (.a1<|.a4 .le .lt .X (.G .A .i2)<|.y .pow (.p 10)<|.p 18) (.b (.gC .A .i2 2<|.Z .divmod<|.b (.G .A .i2) .C)<|.u .L) .u) (.b7 .A .i2<|.y .A (.y .j (.y .j (.y .x (.G .A .i2)<|.p 742939)<|.y .x (.G .A .T)<|.p 65063)<|.p 40503)<|.p 16777213)<|.u<|.y .A (.y .fdiv (.y .x (.G .A .i2)<|.y .j (.y .A (.G .A .i2)<|.p 4093)<|.p 7)<|.p 64) .C⟩
def Xk:Ss:=.c (.j 8<|.y .j (.y .j (.eG .v4 .v6)<|.G .L<|.y .A (.y .j .N<|.y .x (.p 5) .v5)<|.p 26)<|.eV .v4 .v6) (.w (.B .u .v8<|.dH Dq [iT,lr,ia,km,[101,97,99,104],hU,lu,i6,ir,mE,mH,me,[107,105,110,100],[116,105,101],[115,97,121]]) (.a<|.j 8<|.y .j .v8<|.u [113]) .u)<|.app 7 .v8
def Zp:Ss:=.a<|.j 4<|.y .j .v4<|.G .L<|.j "_law_draw"<|.b .A<|.p 26
def qz:E:=.M [0] k9 1 [2,3] (.u .C) y9 (.I k9)<|.y .x (.G .C .L)<|.y .j .A .T
def Xx:Fn:=⟨2,9,.m (.j 2<|.u uS) (.j 3<|.j "_law_draw"<|.b .A<|.p 26) (.r (.B .j (.j "_law_draw"<|.b .A .i3) .X) qz) (.j 4<|.u []) (.for [5] true (.u<|.j "_law_draw"<|.b .A<|.p 6) Zp) (.j 6<|.j "_law_draw"<|.b .A<|.y .j (.Z .w<|.a .v4) .T) (.y 7<|.x .u) (.for [5] true (.u .C) Xk)<|.u .v7⟩
def JM:Fn:=⟨1,6,.d (.j 1<|.x<|.j (.w<|.c .X .T .i2)<|.j (.w<|.c .i3 .i2 .T)<|.j (.w<|.c .X .T .i2)<|.g (.w<|.c .T .X .i3) (.w<|.c .i2 .X .i2) (.w<|.c .X .T .T) (.w<|.c .T .X .i4) (.w<|.c .T .T .X)<|.w<|.c .T .T .T) (.ek [2,3,4]<|.G .C<|.j "_law_draw"<|.b .A<|.Z .w<|.a .C) (.j 5<|.j "_law_names"<|.b .A<|.y .j .L .N)<|.u<|.w<|.b .v4<|.w<|.b (.Z .A<|.a<|.Z .sorted<|.a<|.eG .v5 .L)<|.Z .A<|.a<|.Z .sorted<|.a<|.eV .v5 .L⟩
def Xe:E:=.M [0] k9 1 [] (.j .C) y9 (.I k9)<|.w<|.b (.u nR) .A
def Xd:Fn:=⟨3,7,.g (.j 3<|.j "_law_draw"<|.b .A<|.p 10) (.w (.or (.B .j .L .X)<|.B .lt .N .i3) (.b (.j 4<|.y .j (.y .x Xe .i2)<|.x<|.c (.w<|.a<|.u mE) (.w<|.a<|.u mH)<|.w<|.a<|.u me)<|.u<|.G .v4<|.j "_law_draw"<|.b .A<|.Z .w<|.a .v4) .u) (.j 5<|.j "_law_expression"<|.c .A .C<|.y .y .L .T) (.r (.B .lt .N<|.p 5)<|.w<|.b (.G (.x<|.b (.u pU)<|.u Dj)<|.y .y .N .i3) .v5) (.j 6<|.j "_law_expression"<|.c .A .C<|.y .y .L .T)<|.u<|.w<|.c (.G (.x<|.f (.u sk) (.u nX) (.u pX) (.u tJ)<|.u tJ)<|.y .y .N<|.p 5) .v5 .v6⟩
def aY:Fn:=⟨3,6,.h (.j 3<|.j "_law_draw"<|.b .A<|.p 11) (.w (.and (.B .gt .L .X)<|.B .gt .N<|.p 7) (.c (.j 4<|.j "_law_saying"<|.c .A .C<|.y .y .L .T) (.r (.B .j .N<|.p 8)<|.w<|.b (.u ir) .v4)<|.u<|.w<|.c (.G (.x<|.b (.u lu)<|.u i6)<|.y .y .N<|.p 9) .v4<|.j "_law_saying"<|.c .A .C<|.y .y .L .T) .u) (.j 5<|.G (.x<|.j (.u hU)<|.j (.u lD)<|.g (.u iT) (.u lr) (.u ia) (.u km) (.u oK)<|.u yu)<|.y .A .N<|.p 8) (.j 4<|.j "_law_expression"<|.c .A .C .T) (.r (.or (.B .j .v5<|.u hU)<|.B .j .v5<|.u lD)<|.w<|.c .v5 .v4<|.j "_law_expression"<|.c .A .C .T) (.r (.or (.B .j .v5<|.u iT)<|.B .j .v5<|.u lr)<|.w<|.b .v5 .v4)<|.u<|.w<|.c .v5 (.G (.x<|.j .X<|.j .T<|.g .T .i2 .i2 .i3 .i4<|.y .j (.p 10)<|.j "_law_draw"<|.b .A<|.p 90)<|.j "_law_draw"<|.b .A<|.p 8) .v4⟩
def Wi:Ss:=.c (.ex<|.j "_law_turn"<|.a .A) (.app 4<|.j "_law_saying"<|.c .A .N .T)<|.w (.and (.B .gt .v5 .X)<|.B .j (.j "_law_draw"<|.b .A<|.p 9) .X) (.a<|.eJ 4 (.neg .T)<|.w<|.b (.u ir)<|.G .v4<|.j "_law_draw"<|.b .A .v5) .u
def jG:Fn:=⟨3,6,.d (.j 3<|.Z .list<|.a<|.y .j (.G .C .X)<|.G .C .T) (.y 4<|.x .u) (.for [5] k9 (.u<|.j "_law_draw"<|.b .A<|.y .j .L .T) Wi)<|.u<|.w<|.b .C<|.Z .A<|.a .v4⟩
noncomputable def Zi:Ss:=.a<|.w (.B .j (.y .w (.y .C .C<|.y .j (.y .x .v4 .A) .v5) .T) .T) (.b (.j 6<|.y .w (.y .C .L<|.y .x .v5 .A)<|.y .y (.y .B .T .A) .T)<|.j 3<|.y .u .N<|.y .B .v6<|.y .x .v4 .A) .u
def Jx:Ss:=.a<|.for [5] k9 (.u .A) Zi
def jH:Fn:=⟨3,7,.c (.j 3 .X) (.for [4] k9 (.u .A) Jx)<|.u .N⟩
noncomputable def Wn:Ss:=.a<|.w (.B .j (.y .w (.y .C .C<|.y .j (.y .x .N .A) .v4) .T) .T) (.a<|.j 2<|.y .u .L<|.y .B .T<|.y .j (.y .x .v4 .A) .N) .u
def jx:Ss:=.a<|.for [4] k9 (.u .A) Wn
def Zs:Fn:=⟨2,5,.c (.j 2 .X) (.for [3] k9 (.u .A) jx)<|.u .L⟩
def Xn:Ss:=.a<|.j 2<|.y .u .L<|.j "_law_joined"<|.c .A .L .C
def QH:Fn:=⟨2,4,.c (.j 2 .C) (.for [3] k9 (.u .A) Xn)<|.u .L⟩
def wu:E:=.M [0] k9 1 [0] (.u .A) y9 (.I k9)<|.y .B .T<|.y .j (.y .x .A .C) .A
def ZR:Fn:=⟨1,1,.a<|.u<|.Z .sum<|.a wu⟩
def Z5:Fn:=⟨4,4,.c (.r (.B .j .A<|.u sk)<|.y .u .L .N) (.r (.B .j .A<|.u pX)<|.y .w .L .N)<|.u<|.j "_law_joined"<|.c .C .L .N⟩
def az:Fn:=⟨3,10,.j (.j 3<|.G .L .X)<|.m (.j 4<|.y .y (.y .B .T<|.y .x .A .A) .T) (.r (.B .j .N<|.u nR)<|.fB 1<|.G .L .T) (.w (.B .u .N<|.x<|.c (.u mE) (.u mH)<|.u me) (.b (.j 5<|.gJ mE (.j "_law_same"<|.a .A) mH .v4 me .X 3)<|.u<|.w<|.b .v5 .v5) .u) (.ek [6,7]<|.j "_law_bounds"<|.c .A .C<|.G .L .T) (.r (.B .j .N<|.u pU)<|.w<|.b (.j "_law_turned"<|.b .A .v6)<|.j "_law_turned"<|.b .A .v7) (.r (.B .j .N<|.u Dj)<|.w<|.b (.j "_law_closed"<|.b .A .v6)<|.j "_law_closed"<|.b .A .v7) (.ek [8,9]<|.j "_law_bounds"<|.c .A .C<|.G .L .i2) (.r (.B .j .N<|.u nX)<|.w<|.b (.y .w .v6<|.y .bxor .v4 .v9)<|.y .w .v7<|.y .bxor .v4 .v8)<|.u<|.w<|.b (.j "_law_two"<|.d .N .A .v6 .v8)<|.j "_law_two"<|.d .N .A .v7 .v9⟩
def jn:E:=.B .gt .A .X
def Xm:Ss:=.b (.j 1<|.y .j .C<|.y .A .A .i2)<|.j 0<|.y .fdiv .A .i2
def ZQ:Fn:=⟨1,2,.c (.j 1 .X) (.kl 100000 jn Xm)<|.u .C⟩
def ZB:E:=.M [0,1] y9 2 [1] (.j .L) y9 (.I k9)<|.B .gt .A .L
def wA:E:=.M [0,1] y9 2 [1] (.j .L) y9 (.I k9)<|.B .le .C .L
def JA:E:=.M [0,1] y9 2 [1] (.j .L) y9 (.I k9)<|.B .lt .C .L
def QA:E:=.M [0,1] y9 2 [1] (.j .L) y9 (.I k9)<|.B .ge .A .L
noncomputable def QK:Fn:=⟨3,3,.c (.w .A (.b (.r (.Z .all<|.a QA)<|.I k9)<|.u<|.G (.x<|.b .U<|.I y9)<|.Z .int<|.a<|.Z .any<|.a JA) .u) (.r (.Z .all<|.a wA)<|.I k9)<|.u<|.G (.x<|.b .U<|.I y9)<|.Z .int<|.a<|.Z .any<|.a ZB⟩
noncomputable def wH:Fn:=⟨2,2,.b (.r (.B .j (.y .w (.G .A .T)<|.G .C .X)<|.G .A .T)<|.I k9)<|.u<|.G (.x<|.b .U<|.I y9)<|.Z .int<|.a<|.B .w (.y .w (.G .A .X)<|.G .C .T)<|.G .A .X⟩
def qu:E:=.M [0] k9 1 [4,0,6,5] (.u .A) y9 (.I k9)<|.w<|.b (.j "_law_many"<|.a<|.y .w (.y .C .C<|.y .x .A .L) .N)<|.j "_law_many"<|.a<|.y .w (.y .C .v4<|.y .x .A .L) .N
def bz:Fn:=⟨3,8,.h (.j 3<|.G .L .X) (.w (.or (.B .j .N<|.u iT)<|.B .j .N<|.u lr) (.b (.j 2<|.w<|.c (.G (.x<|.b (.u km)<|.u ia)<|.Z .int<|.a<|.B .j .N<|.u iT) (.Z .int<|.a<|.B .j .N<|.u iT)<|.G .L .T)<|.j 3<|.G .L .X) .u) (.ek [4,5]<|.j "_law_bounds"<|.c .A .C<|.G .L .i2) (.r (.or (.B .j .N<|.u ia)<|.B .j .N<|.u km)<|.j "_law_ruled"<|.c (.B .j .N<|.u ia) (.G .L .T)<|.x<|.a<|.w<|.b (.j "_law_many"<|.a .v4)<|.j "_law_many"<|.a .v5) (.j 6<|.y .y (.y .B .T .A) .T) (.j 7 qu)<|.u<|.j "_law_ruled"<|.c (.B .j .N<|.u oK) (.G .L .T) .v7⟩
def ju:E:=.M [0] k9 1 [0,1] (.j .v5) y9 (.I k9)<|.j "_law_told"<|.c .C .L .A
def bg:Fn:=⟨3,7,.f (.j 3<|.G .L .X) (.w (.B .j .N<|.u ir) (.c (.j 4<|.j "_law_told"<|.c .A .C<|.G .L .T) (.r (.fR false .v4) .U)<|.u<|.a1 .v4) .u) (.w (.B .u .N<|.x<|.c (.u lu) (.u i6)<|.u lD) (.g (.j 5<|.x<|.b (.G .L .T)<|.G .L .i2) (.w (.B .j .N<|.u lD) (.a<|.j 5<|.x<|.b (.w<|.c (.u hU) (.G .L .T)<|.G .L .i2)<|.w<|.c (.u hU) (.G .L .i2)<|.G .L .T) .u) (.j 6 ju) (.r (.B .u (.B .j .N<|.u i6) .v6)<|.B .j .N<|.u i6) (.r (.B .u .U .v6) .U)<|.u<|.B .w .N<|.u i6) .u) (.r (.B .j .N<|.u hU)<|.j "_law_within"<|.b (.j "_law_bounds"<|.c .A .C<|.G .L .T)<|.j "_law_bounds"<|.c .A .C<|.G .L .i2)<|.u<|.j "_law_fact"<|.c .A .C .L⟩
def Hs:Fn:=⟨1,1,.a<|.u<|.and (.cC .A .int)<|.a1<|.cC .A .bool⟩
noncomputable def wn:E:=.M [0] k9 1 [1,0] (.u .A) y9 (.I k9)<|.y .B (.y .w (.y .C .C .A) .T)<|.y .j (.y .x .A .L) .A
def ZG:Fn:=⟨2,2,.a<|.u<|.Z .sum<|.a wn⟩
def jt:Ss:=.a<|.cB 3 (.G (.G .A .T) .v4)<|.w<|.b (.G (.G .C .i2) .v4)<|.G (.G .C .i2) .v4
def Jt:Ss:=.b (.j 5<|.j "_law_spread"<|.b .L<|.G (.G .C .T) .v4)<|.cB 3 (.G (.G .A .X) .v4)<|.w<|.b .v5 .v5
def XE:Fn:=⟨2,6,.f (.j 2<|.G .C .X) (.y 3 .dG) (.for [4] k9 (.u<|.Z .w<|.a<|.G .A .X) Jt) (.for [4] k9 (.u<|.Z .w<|.a<|.G .A .T) jt)<|.u .N⟩
def Jj:Ss:=.a<|.r (.or (.a1<|.j "_law_whole"<|.a .v5)<|.a1<|.a4 .le .lt .X .v5<|.y .B .T<|.G (.x<|.b .C<|.y .x .C .C) .N)<|.I false
def Jq:Ss:=.c (.j 4<|.G .L<|.y .j .T .N) (.r (.or (.a1<|.cC .v4 .A)<|.B .w (.Z .w<|.a .v4)<|.Z .w<|.a<|.G .A .N)<|.I y9)<|.for [5] k9 (.j .v4) Jj
def Jw:Fn:=⟨3,6,.c (.r (.or (.a1<|.cC .L .A)<|.or (.B .w (.Z .w<|.a .L) .i3)<|.or (.a1<|.j "_law_whole"<|.a<|.G .L .X)<|.B .w (.G .L .X) .C)<|.I false) (.for [3] true (.u .i2) Jq)<|.u<|.I true⟩
def xz:E:=.M [0] true 1 [1,2] (.j<|.G .A .T) false (.I true)<|.B .dI (.j "_law_told"<|.c (.G .C .X) .L .A)<|.I true
def zK:Fn:=⟨2,3,.b (.j 2<|.j "_law_seen"<|.b (.G .A .X) .C)<|.u<|.Z .all<|.a xz⟩
def xt:Ss:=.a<|.cB 2 .N<|.w<|.b .X<|.y .y (.y .B .T<|.y .x .C .C) .T
def zt:Ss:=.a<|.cB 2 .N<|.w<|.b .X<|.j "_law_same"<|.a .C
noncomputable def wE:Fn:=⟨2,4,.d (.y 2 .dG) (.for [3] k9 (.j<|.G .A .X) zt) (.for [3] k9 (.j<|.G .A .T) xt)<|.u .L⟩
def jy:Fn:=⟨3,11,.o (.ek [3,4,5] .L) (.r (.or (.a1<|.cC .N .str)<|.or (.c7 k9 .N 1)<|.or (.a1<|.j "_law_whole"<|.a .v4)<|.a1<|.j "_law_whole"<|.a .v5) .U) (.r (.or (.a1<|.a4 .le .lt .X .v4 .A)<|.a1<|.a4 .le .lt .X .v5 .A) .U) (.ek [6,7]<|.fB 1 .N) (.j 8<|.y .B .T<|.y .j (.y .x .v4 .A) .v5) (.r (.or (.B .w (.y .w .v6 .v8) .X)<|.B .j (.y .w .v7 .v8) .X) .U) (.y 9<|.eY 1) (.cB 9 .N<|.w<|.b (.y .u .v6 .v8) .v7) (.y 10<|.eY 1) (.cB 10 .N<|.w<|.b .v6<|.y .y .v7 .v8)<|.u<|.x<|.b .v9<|.a2 10⟩
def zy:Fn:=⟨4,5,.g (.r (.or (.a1<|.cC .N .A)<|.B .j (.Z .w<|.a .N) .X)<|.I false) (.w (.and (.B .j (.G .N .X)<|.u hZ)<|.B .j (.Z .w<|.a .N) .i2) (.b (.r (.or (.a1<|.j "_law_whole"<|.a<|.G .N .T)<|.a1<|.a4 .le .lt .X (.G .N .T)<|.Z .w<|.a<|.G .A .T)<|.I false)<|.u<|.B .dI (.j "_law_told"<|.c .C .L<|.G (.G .A .T)<|.G .N .T)<|.I false) .u) (.r (.or (.B .w (.G .N .X)<|.u nG)<|.B .w (.Z .w<|.a .N)<|.p 6)<|.I false) (.j 4<|.j "_law_split"<|.c .C .L<|.sl .N .T .i4) (.r (.fR false .v4)<|.I false)<|.u<|.and (.j "_law_walks"<|.d .A .C (.G .v4 .X)<|.G .N .i4)<|.j "_law_walks"<|.d .A .C (.G .v4 .T)<|.G .N<|.p 5⟩
def xB:Fn:=⟨1,2,.f (.j 1<|.x<|.d (.bW .A true ["NoSize"]) (.bW .A true ["NoPair"]) (.bW .A true ["NoName"])<|.bW .A true ["NoCode"]) (.j 1<|.y .j .C<|.x<|.d (.bW .A true ["NoText"]) (.bW .A true ["Crowded"]) (.bW .A true ["TooBig"])<|.bW .A true ["NoWorld"]) (.j 1<|.y .j .C<|.x<|.d (.bW .A true ["NoRenaming"]) (.bW .A true ["NoNumber"]) (.bW .A true ["Broken"])<|.bW .A true ["Kept"]) (.j 1<|.y .j .C<|.x<|.d (.bW .A true ["Unlike"]) (.bW .A true ["NoRow"]) (.bW .A true ["NoStand"])<|.bW .A true ["ValueError"])<|.u .C⟩
def XY:E:=.M [0] k9 1 [0] (.u<|.p 16) y9 (.I k9)<|.or (.B .j .A .C)<|.B .j .A<|.p 15
def WL:Fn:=⟨1,1,.a<|.u XY⟩
def Qk:Fn:=⟨2,5,.j (.j 2 .U)<|.j (.j 3 .U)<|.j (.gO (.sv 2 "quarrel"<|.b .A .C) "WorldError" 4<|.b (.j 3<|.j "_law_classes"<|.a .v4)<|.w (.bW .v4 true ["Kept"]) (.a<|.j 2<|.xf 4 "world") .u)<|.a<|.u<|.w<|.b .L .N⟩
def Je:E:=.M [0] k9 1 [4,0,2] (.u<|.Z .w<|.a .L) k9 (.B .w .A .C)<|.G (.G .L .T)<|.G .N .A
def Qe:Ss:=.c (.r (.a1<|.j "_law_is_world"<|.c (.G .A .X) .C<|.G .N .v4)<|.I false) (.j 5<|.Z .A<|.a Je)<|.r (.a1<|.j "_law_keeps"<|.b (.w<|.b (.G .A .X)<|.y .j .v5<|.w<|.a<|.w<|.b (.u ir)<|.G (.G .A .T)<|.G .L .v4)<|.G .N .v4)<|.I false
def Wq:Fn:=⟨4,6,.b (.for [4] k9 (.u<|.Z .w<|.a .L) Qe)<|.u<|.I k9⟩
def zf:E:=.bD [0] k9 1 [0] 3 y9 (.I k9)<|.G (.G .C .T) .A
def We:E:=.bD [0] k9 1 [0] 3 y9 (.I k9)<|.and (.j "_law_whole"<|.a .A)<|.a4 .le .lt .X .A<|.Z .w<|.a<|.G .C .T
def Zq:Fn:=⟨3,7,.k (.r (.or (.a1<|.cC .L .A)<|.B .w (.Z .w<|.a .L) .i3)<|.I false) (.ek [3,4,5] .L) (.r (.or (.a1<|.eA .N)<|.or (.a1<|.eA .v5)<|.B .w (.Z .w<|.a .v5)<|.Z .w<|.a .N)<|.I false) (.r (.a1<|.Z .all<|.a We)<|.I false) (.r (.B .w .N<|.sset .N)<|.I false) (.j 6<|.w<|.b (.G .A .X)<|.Z .A<|.a zf) (.r (.a1<|.j "_law_walks"<|.d .v6 .C (.j "_law_open"<|.b (.G .A .X) .C) .v4)<|.I false)<|.u<|.j "_law_worlds_are"<|.d .A .C .N .v5⟩
def Wx:Fn:=⟨2,4,.g (.ek [2,3]<|.j "_law_told_of"<|.b .A .C) (.r (.fR true .N)<|.and (.B .j .N<|.j "_law_class"<|.a<|.p 11)<|.and (.j "_law_is_world"<|.c (.G .A .X) .C .L)<|.j "_law_keeps"<|.b .A .L) (.r (.a1<|.j "_law_is_quarrel"<|.c .A .C .L)<|.I false) (.fq (.G .L .X) .X) (.fq (.G .L .i2) .U)<|.u<|.I true⟩
def cN:Fn:=⟨1,9,.o (.y 1<|.share<|.j "_law_start"<|.a .A) (.ek [2,3]<|.j "_law_words"<|.a .C) (.j 4<|.Z .list<|.a<|.y .j (.G .N .X)<|.G .N .T) (.j 5<|.j "_law_theory"<|.c .C .N .i3) (.ex<|.j "_law_turn"<|.a .C) (.j 6<|.y .j (.G .v5 .T)<|.w<|.a<|.j "_law_saying"<|.c .C .v4 .T) (.ex<|.j "_law_turn"<|.a .C) (.w (.B .gt (.j "_law_draw"<|.b .C .i4) .X) (.d (.j 7<|.w<|.b (.u ir)<|.G .v6<|.j "_law_draw"<|.b .C<|.Z .w<|.a .v6) (.w (.B .j (.j "_law_draw"<|.b .C .i2) .X) (.a<|.j 7<|.w<|.c (.u lu) .v7<|.j "_law_saying"<|.c .C .v4 .X) .u) (.j 8<|.j "_law_draw"<|.b .C<|.y .j (.Z .w<|.a .v6) .T)<|.j 6<|.y .j (.y .j (.eG .v6 .v8)<|.w<|.a .v7)<|.eV .v6 .v8) .u) (.w (.B .j (.j "_law_draw"<|.b .C .i4) .X) (.b (.j 8<|.j "_law_draw"<|.b .C<|.y .j (.Z .w<|.a .v6) .T)<|.j 6<|.y .j (.y .j (.eG .v6 .v8)<|.w<|.a<|.G .v6<|.j "_law_draw"<|.b .C<|.Z .w<|.a .v6)<|.eV .v6 .v8) .u) (.j 5<|.w<|.b .N .v6)<|.u<|.and (.j "_law_right"<|.b .v5 .L)<|.j "_law_right"<|.b .v5 .L⟩
def prog:Prog:=⟨[("is_whole",Ha),("is_below",jD),("pairs_of",JR),("gathered",XQ),("common",ub),("either",AZ),("without",J3),("turned",uu),("joined",vm),("closed",vg),("same",A8),("every",CA),("value_of_name",jr),("made",Xy),("counts",uZ),("bounds",cw),("settled",z9),("not_told",XR),("and_told",WP),("or_told",W1),("in_told",j5),("count_told",XG),("told",cG),("fact_told",aX),("is_size",j4),("widths",By),("bits",yL),("check_size",zH),("check_bits",JG),("world_of",QQ),("places_of",WJ),("is_tuple_of",zB),("Cases.__init__",Xq),("Cases.world_of_code",wj),("Cases.truth",Xz),("Cases.bit_of",xx),("Cases.is_shown",Qj),("names_in",JE),("needed_bits",WY),("how_many_set",QO),("Search.__init__",ji),("Search.told_of_sayings",Qg),("Search.chosen_place",xj),("Search.told_of_case",aM),("Search.told_of_halves",aG),("uses",rM),("used",vj),("renumbered",Ju),("narrowed",jQ),("quarrel",Zu),("_law_start",xM),("_law_turn",WR),("_law_draw",QS),("_law_names",Xx),("_law_words",JM),("_law_expression",Xd),("_law_saying",aY),("_law_theory",jG),("_law_joined",jH),("_law_turned",Zs),("_law_closed",QH),("_law_same",ZR),("_law_two",Z5),("_law_bounds",az),("_law_many",ZQ),("_law_ruled",QK),("_law_within",wH),("_law_fact",bz),("_law_told",bg),("_law_whole",Hs),("_law_spread",ZG),("_law_seen",XE),("_law_is_world",Jw),("_law_keeps",zK),("_law_open",wE),("_law_split",jy),("_law_walks",zy),("_law_classes",xB),("_law_class",WL),("_law_told_of",Qk),("_law_worlds_are",Wq),("_law_is_quarrel",Zq),("_law_right",Wx),("law",cN)],[("WorldError","ValueError"),("NoSize","WorldError"),("NoPair","WorldError"),("NoName","WorldError"),("NoCode","WorldError"),("NoText","WorldError"),("Crowded","WorldError"),("TooBig","WorldError"),("NoWorld","WorldError"),("NoRenaming","WorldError"),("NoNumber","WorldError"),("Broken","WorldError"),("Kept","WorldError"),("Unlike","WorldError"),("NoRow","WorldError"),("NoStand","WorldError")],[("GREATEST_SIZE",.p 4),("MOST_BITS",.p 16)]⟩
abbrev k8(m:Nat):Fx:=⟨call prog m,prog.cl,prog.con⟩
noncomputable abbrev W.i (n:Nat):W:=.v<|.p (n:Int)
noncomputable abbrev W.r (n:Nat):W:=.v<|.ref n
abbrev W.s (t:Tx):W:=.v<|.str t
abbrev W.b (b:Bool):W:=.v<|.bl b
abbrev W.t (t:List D):W:=.v<|.tup t
abbrev W.l (t:List D):W:=.v<|.lst t
noncomputable abbrev sv(d:D):Option W:=y0<|.v d
abbrev si(n:Nat):Option W:=y0<|.i n
def nk(m j:Nat)(h:j<=m):∃k,m=k+j:=⟨m-j,((Vl ‹_›).symm)⟩
noncomputable abbrev D.n (n:Nat):D:=.p (n:Int)
theorem ZE(f):∀ds,(∀d∈ds,step d h=.j (f d) h)->Gu step ds h=.j (ds.B f) h
|[],_=>rfl
|d::ds,a=>by have b:=ZE f ds λd c=>a d<|Aa3 _ c;rw[Gu,a d Aa4];simp only[b];cases q:f d<;>simp[q]
def BB(f)(n:Gk F it τ h=.j ds h)(i:ds.e<=bh)
 (m:∀d∈ds,∃L b,Gr tg one d (Aa7 k u0++ax.j λj=>Gi τ j)=y0 L/\Gn F c L h=.j b h/\(if b=k9 then∃w y,eval F elt L h=.j w h/\w.d=y0 y/\f d=y0 y else f d=u0)):
 eval F (.M tg one k ax it k9 c elt) τ h=.j (.own<|ds.B f) h:=by
 rw[eval,n,R.ab,Da i,ZE f]
 .rfl
 intro d e;obtain⟨L,b,o,l,a⟩:=m d e;rw[o];show((Gn F c L h).bind _)=_;rw[l];cases b with
|true=>obtain⟨w,y,e1,e2,g⟩:=a;simp[e1,e2,g]
|false=>rw[FM Y7]at a;simp[a]
def jm(f)(g:Gk F it τ h=.j ds h)(b:ds.e<=bh)
 (e:∀d∈ds,∃L,Gr tg one d (Aa7 k u0++ax.j λj=>Gi τ j)=y0 L/\∃w,eval F elt L h=.j w h/\w.d=y0 (f d)):
 eval F (.M tg one k ax it y9 c elt) τ h=.j (.own<|ds.j f) h:=by
 rw[eval,g,R.ab,Da b,ZE<|λd=>y0<|f d]
 .simp[List.filterMap_eq_map']
 intro d a;obtain⟨L,i,w,e1,e2⟩:=e d a;rw[i];simp[e1,e2]
def IK(bnd)(body)(d)(ds)(τ)(h):Gq bnd body (d::ds) τ h=match bnd d τ with
|none=>.fail
|some c=>match body c h with
|.next a b=>Gq bnd body ds a b
|.cont a b=>Gq bnd body ds a b
|.brk a b=>.next a b
|o=>o:=rfl
@[simp]theorem ZM(bnd)(body)(τ)(h):Gq bnd body [] τ h=.next τ h:=rfl
def wb(a:bnd d τ=y0 τ1)(b:body τ1 h=.next τ2 h2):Gq bnd body (d::ds) τ h=Gq bnd body ds τ2 h2:=by rw[IK,a];simp[b]
@[simp]theorem GF(i)(d)(τ):Gr [i] k9 d τ=y0 (GD τ i<|.v d):=rfl
@[simp]theorem Kg(tg)(ds)(τ):Gr tg y9 (.tup ds) τ=a9 tg ds τ:=rfl
def jd(a b:Nat):Kl (a:Int) (b:Int)=y0 ((a&&&b:Nat):Int):=by simp[Kl]
def xn(a b:Nat):lY (a:Int) (b:Int)=y0 ((a|||b:Nat):Int):=by simp[lY]
@[simp]theorem DH(i j):Gj .A i j=if 0<j then y0 (i%j)else none:=rfl
@[simp]theorem IW(i j):Gj .fdiv i j=if 0<j/\j<mF then y0 (i/j)else none:=rfl
@[simp]theorem xc(i j):Gj .w i j=Kl i j:=rfl
@[simp]theorem Zn(i j):Gj .u i j=lY i j:=rfl
def je(a b:Nat)(h:a<2^64):Gj .x (a:Int) (b:Int)=y0 ((a*b:Nat):Int):=by
 have c:(-eN<a/\a<eN)\/(-eN<b/\b<eN):=by rw[GZ];lia
 show(if _ then _ else _)=_;rw[Da c,Uq]
def fb(k:Nat)(h:k<=1000000):Gj .B 1 (k:Int)=y0 ((2^k:Nat):Int):=by
 have a:0<=(k:Int)/\k<=BP/\(1:Int).u<l3:=by rw[Kj,GE];exact⟨(Ar _),by lia,by decide⟩
 show(if _ then _ else _)=_;rw[Da a,Yj,Ac5];simp
def zq(t k:Nat):Gj .C (t:Int) (k:Int)=y0 ((t/2^k:Nat):Int):=by simp[Gj,V6]
def wV(t k):(t/2^k&&&1)=(t.j k).j:=by have:=Ag3 (t/2^k) 1;rw[this];exact Wf.iJ t k
noncomputable def pD(p:Nat×Nat):D:=.tup [.p (p.1:Nat),.p (p.2:Nat)]
def Pr(n t:Nat)(m):(((Aa6 m).j λi=>D.n i).B λd=>match d with
|.p i=>if t.j i.j then y0 (.tup [.p (i/(n:Int)),.p (i%(n:Int))])else u0
|_=>u0)=(((Aa6 m).L t.j).j λk=>(k/n,k%n)).j pD:=by
 induction Aa6 m with
|nil=>rfl
|cons x c a=>
  by_cases b:t.j x=k9
  .simp[b,pD,a]
  .simp[b,a]
def sH(m)(a:d∈(Aa6 m).j λi=>D.n i):∃i:Nat,i<m/\d=.n i:=by obtain⟨i,b,rfl⟩:=Ab7.u a;exact⟨i,Ab6.u b,rfl⟩
def zj(a:n<=20):n*n<=400:=Ab4 (Ag8 a a) Y5
def CN(a:n<=20):n*n<=bh:=Ab4 (zj a)<|by rw[Gf];decide
def zw(e:eval F a τ h=.j (.i m) h)(c:m<=1000000):Gk F (.u a) τ h=.j ((Aa6 m).j λi=>.n i) h:=by
 have b:-fk<=m/\m<fk:=by rw[GL];lia
 rw[Gk,e,R.ab,int?_int,R.ao,R.ab,Da b,Ac5]
def Pm(a:n<=20)(e:Gi τ i=si n/\Gi τ j=si n):Gk F (.u<|.y .x (.a2 i)<|.a2 j) τ h=.j ((Aa6<|n*n).j λi=>.n i) h:=by have b:=zj a;refine zw ?_<|Y8;simp[e.1,e.2,(je n n<|Ai9 ‹_› Y5)]
def Xu(k n t)(h)(c:n<=20):call prog (k+1) "pairs_of" [.i n,.i t] h=.j (.own<|(Wf.aC n t).j pD) h:=by
 rw[Gb rfl _ _ _ rfl];simp only[JR,execs,exec,qH,GO];rw[BB (λd=>match d with
|.p i=>if t.j i.j then y0 (.tup [.p _,.p (i%n)])else u0
|_=>u0) (Pm c<|by simp[Gi])<|by simpa using CN c]
 .rw[Pr];simp[Wf.aC]
 .intro d j;obtain⟨i,g,rfl⟩:=sH _ j;have a:0<n:=by cases n with
|zero=>simp at g
|succ m=>exact Fk _ _
  have b:0<n/\n<mF:=by rw[GR];lia
  have f:Kl ((t/2^i:Nat)) 1=y0 (((t.j i).j:Nat):Int):=by rw[show 1=((1:Nat):Int)from rfl,jd,wV]
  refine⟨_,t.j i,rfl,?_,?_⟩
  .unfold Gn;simp only[eval,Gi,Ag1,List.replicate_zero,Ab2,Ar6,Af3,GD,Gm,R.ab,GH,zq,xc,f,R.ao,Dp];cases t.j i<;>rfl
  .by_cases e:t.j i=k9
   .simp[e,Gi,b,a]
   .simp[e]
end Lake.M
local macro_rules|`(tactic|simp![$xs,*])=>do
 let y:=("Lake.M.exec Lake.M.execs Lake.M.Gn Lake.M.eval Lake.M.Gg Lake.M.Gw Lake.M.Gk Lake.M.Gv Lake.M.GO Lake.M.Gi Lake.M.Gm Lake.M.GD Lake.M.a9 Lake.M.R.ab Lake.M.R.ay Lake.M.R.ao Lake.M.O.bR Lake.M.O.cS Lake.M.O.iL Lake.M.W.sg Lake.M.W.gT Lake.M.W.cj Lake.M.W.fE Lake.M.W.iy List.map_cons List.map_nil List.cons_append List.nil_append Nat.reduceSub List.replicate_succ List.replicate_zero Lake.M.GS Bool.not_true Bool.not_false Lake.M.GH Option.bind_some Lake.M.Kz Lake.M.KA Lake.M.Kx Lake.M.Ke Lake.M.Kv Lake.M.KB Lake.M.int?_int Lake.M.Ga Lake.M.Gs Lake.M.G7 Lake.M.GB Lake.M.GF Lake.M.Kg".splitOn " ").toArray.map λx=>Lean.mkNode ``Lean.Parser.Tactic.simpLemma #[Lean.mkNullNode,Lean.mkNullNode,Lean.mkIdent (`_root_++x.toName)]
 `(tactic|simp only[$y,*,$xs,*])
namespace Lake.M
open M renaming D.int->Lake.M.D.p,D.str->Lake.M.D.u,D.tup->Lake.M.D.w,R.ok->Lake.M.R.j,W.own->Lake.M.W.j,O.next->Lake.M.O.j
def RO(d:n<=20)(f:a<n)(e:b<n)(h):
 execs F Zj [si n,y0 l,si t,si a,si b] h=
  .j [si n,y0 l,si (t|||2^(a*n+b)),si a,si b] h:=by
 have c:Gj .shl 1 _=y0 ((2^(a*n+b):Nat):Int):=fb _ (by have:=Wf.place_lt f e;have:=zj d;lia);rw[Int.natCast_add]at c;simp only[Zj,execs,exec,eval,Gi,Gm,R.ab,R.ao,R.ay,O.bR,GH,(je a n Y6),Qc,c,Zn,(xn t<|2^(a*n+b)),W.sg,GD]
theorem yy(a:n<=20)(h):∀ps t r x y,Wf.fV n ps->∃j L,
 Gq (Gr [3,4] y9) (λτ h=>execs F Zj τ h) (ps.j pD++r) [si n,y0 l,si t,x,y] h=
  Gq (Gr [3,4] y9) (λτ h=>execs F Zj τ h) r [si n,y0 l,sv (.p ((ps.Z (λt p=>t|||2^(p.1*n+p.2)) t:Nat):Int)),j,L] h
|[],t,r,x,y,_=>⟨x,y,rfl⟩
|p::ps,t,r,x,y,b=>by have c:=b p Aa4;obtain⟨j,L,e⟩:=yy a h ps (t|||2^(p.1*n+p.2)) r (sv<|.p p.1) (sv<|.p p.2) λq d=>b q<|Aa3 _ d;refine⟨j,L,?_⟩;rw[Ab2,Ar6,wb rfl<|RO a c.1 c.2 h,e];rfl
def Pd(k n)(ps)(l)(c:mD l=y0 (ps.j pD))(h)(a:n<=20)(b:Wf.fV n ps):call prog (k+1) "gathered" [.i n,l] h=.j (.i<|Wf.c5 n ps) h:=by rw[Gb rfl _ _ _ rfl];obtain⟨f,d,e⟩:=yy a h ps 0 [] u0 u0 b;rw[Af0,ZM]at e;simp[XQ,c,R.ao];rw[show(0)=((0:Nat):Int)from rfl,e];simp[Wf.c5]
def xL(k n)(ps)(h)(a:n<=20)(b:Wf.fV n ps):call prog (k+3) "gathered" [.i n,.bor (ps.j pD)] h=.j (.i<|Wf.c5 n ps) h:=Pd _ n ps _ rfl h a b
def qX(k s t)(h):call prog (k+1) "either" [.i s,.i t] h=.j (.i<|s|||t) h:=by rw[Gb rfl _ _ _ rfl];simp![AZ,Zn,xn]
def Pb(k s t)(h):call prog (k+1) "common" [.i s,.i t] h=.j (.i<|s&&&t) h:=by rw[Gb rfl _ _ _ rfl];simp![ub,xc,jd]
def JK(s t:Nat):Kl (s:Int) (-(t:Int)-1)=y0 ((s-(s&&&t):Nat):Int):=by
 have c:¬(0<=-(t:Int)-1):=by lia
 have b:0<=(s:Int):=Ar _;have a:(-(-(t:Int)-1)-1).j=t:=by lia
 rw[Kl,Da b,FM c,a,Ac5]
def QB(k s t)(h):call prog (k+1) "without" [.i s,.i t] h=.j (.i<|s-(s&&&t)) h:=by rw[Gb rfl _ _ _ rfl];simp![J3,xc,JK]
def Nf(q:eval F e τ h=.j (.j xs) h):Gk F (.seq e) τ h=.j xs h:=by rw[Gk,q];rfl
def MC(q:eval F e τ h=.j (.t xs) h):Gk F (.seq e) τ h=.j xs h:=by rw[Gk,q];rfl
def QM(n t)(a:n<=20):((Wf.aC n t).j pD).e<=bh:=by refine Ab4 ?_<|CN a;simp only[Wf.aC,Aa];exact Ab4 (Ai7 _ _) Y7
def Lb(k n t)(h)(a:n<=20):call prog (k+4) "turned" [.i n,.i t] h=.j (.i<|Wf.bL n t) h:=by
 rw[Gb rfl _ _ _ rfl];have b:∀h,eval (k8<|k+3) ZD [si n,si t] h=.j (.j<|(Wf.ng<|Wf.aC n t).j pD) h:=by
  intro h;rw[ZD,jm (λd=>match d with|.w [x,y]=>.w [y,x]|d=>d) (Nf ?_)<|QM n t a]
  .simp[Wf.ng,pD,Re]
  .intro d c;obtain⟨p,e,rfl⟩:=Ab7.u c;exact⟨_,rfl,_,rfl,rfl⟩
  .simp![Xu _ n t h a]
 simp![uu,b,xL k n _ h a<|Wf.fK<|Wf.bZ n t];rfl
def R3(k n)(h)(b:n<=20):call prog (k+4) "same" [.i n] h=.j (.i<|Wf.bH n) h:=by
 rw[Gb rfl _ _ _ rfl];have c:∀h,eval (k8<|k+3) xZ [si n] h=.j (.j<|((Aa6 n).j λa=>(a,a)).j pD) h:=by
  intro h;rw[xZ,jm (λd=>.w [d,d]) (zw (m:=n) (by simp![])<|Y8)<|by simp;rw[Gf];exact Y8]
  .simp[pD,Re]
  .intro d e;exact⟨_,rfl,_,rfl,rfl⟩
 simp![A8,c,xL k n _ h b<|Wf.eD n];rfl
def yI(k n)(h)(a:n<=20):call prog (k+1) "every" [.i n] h=.j (.i<|2^(n*n)-1) h:=by
 rw[Gb rfl _ _ _ rfl];have b:=fb (n*n) (by have:=zj a;exact Y8);have c:((2^(n*n):Nat))-1=((2^(n*n)-1:Nat):Int):=by have:=Ae<|n*n;lia
 simp![CA,(je n n<|Ai9 ‹_› Y5),b,Zf,c]
def ZW(x k:Nat)(a:x<2^64)(h:k<=1000000):Gj .shl (x:Int) (k:Int)=y0 ((x*2^k:Nat):Int):=by
 have b:0<=(k:Int)/\k<=BP/\(x:Int).u<l3:=by rw[Kj,GE];exact⟨(Ar _),by lia,by simpa using a⟩
 show(if _ then _ else _)=_;rw[Da b,Ac5,Uq,V6];rfl
def IL(c:n<=20)(f:a<n)(g:b<n)(h):
 execs F jw [si n,si o,si p,si (2^n-1),si t,si a,si b,x7] h=
  .j [si n,si o,si p,si (2^n-1),si (t|||Wf.cA n p b*2^(a*n)),si a,si b,si (Wf.cA n p b)] h:=by
 have d:(p/2^(b*n)&&&(2^n-1))=Wf.cA n p b:=by rw[Ag3];rfl
 have e:=Ab4 (Ag8 (Ag f)<|Ab0 n)<|zj c;simp![jw,(je a n Y6),(je b n Y6),zq,xc,jd,d,(ZW _ (a*n) (Ab3 (Wf.dv n p b)<|Ab4 (Ad6 Y5 c) Y5)<|Y8),Zn,xn]
theorem A5(a:n<=20)(h):∀ps t x y z,Wf.fV n ps->∃j L M,
 Gq (Gr [5,6] y9) (λτ h=>execs F jw τ h) (ps.j pD) [si n,si o,si p,si (2^n-1),si t,x,y,z] h=
  .j [si n,si o,si p,si (2^n-1),sv (.p ((ps.Z (λt q=>t|||Wf.cA n p q.2*2^(q.1*n)) t:Nat):Int)),j,L,M] h
|[],t,x,y,z,_=>⟨x,y,z,rfl⟩
|q::ps,t,x,y,z,b=>by have c:=b q Aa4;obtain⟨j,L,M,e⟩:=A5 a h ps (t|||Wf.cA n p q.2*2^(q.1*n)) (sv<|.p q.1) (sv<|.p q.2) (si<|Wf.cA n p q.2) λq d=>b q<|Aa3 _ d;refine⟨j,L,M,?_⟩;rw[Ab2,wb rfl<|IL a c.1 c.2 h,e];rfl
def qV(k n o p)(h)(a:n<=20):call prog (k+2) "joined" [.i n,.i o,.i p] h=.j (.i<|Wf.joinM n o p) h:=by
 rw[Gb rfl _ _ _ rfl];have b:((2^n:Nat))-1=((2^n-1:Nat):Int):=by have:=Ae n;lia
 obtain⟨f,c,d,e⟩:=A5 a h _ 0 u0 u0 u0<|Wf.bZ n o;simp![vm,(fb n<|Y8),Zf,b,Xu k n o h a];rw[show(0)=((0:Nat):Int)from rfl,e];simp![];rfl
theorem Cz(g:n<=20)(h):∀f r,2^(n*n)-r<f->Wf.g8 n t r->∃r',Wf.fP n t r'∧
 GA (λτ h=>Gn (k8<|k+2) xw τ h) (λτ h=>execs (k8<|k+2) Qv τ h) f [si n,si t,si r,si (r|||Wf.joinM n r r)] h=
  .j [si n,si t,si r',si r'] h
|0,r,d,_=>absurd d<|Ah5 _
|f+1,r,d,c=>by
  have m:∀a b,Gn (k8<|k+2) xw [si n,si t,si a,si b] h=.j (!u9 (b=a)) h:=by
   intro a b;simp[Gn,xw,Gi,Kh];by_cases q:b=a
   .simp[q]
   .have:¬(b=(a:Int)):=by lia
    simp[q,this]
  rw[GA,m,R.ay];by_cases e:r|||Wf.joinM n r r=r
  .refine⟨r,c.done e,?_⟩;simp only[e,UB,An2]
  .have p:=c.grow e;have i:=c.next.lt;obtain⟨r',j,o⟩:=Cz g h f (r|||Wf.joinM n r r) Y6 c.next;refine⟨r',j,?_⟩;simp only[e,Vi,Am7];have l:execs (k8<|k+2) Qv [si n,si t,si r,si (r|||Wf.joinM n r r)] h=
    .j [si n,si t,si (r|||Wf.joinM n r r),si ((r|||Wf.joinM n r r)|||Wf.joinM n (r|||Wf.joinM n r r) (r|||Wf.joinM n r r))] h:=by
    simp![Qv,qV k n _ _ h g,qX (k+1) _ _ h]
   simp only[l];exact o
def L0(k n t)(h)(a:n<=4)(c:t<2^(n*n)):∃r,Wf.fP n t r/\call prog (k+3) "closed" [.i n,.i t] h=.j (.i r) h:=by rw[Gb rfl _ _ _ rfl];obtain⟨r,d,b⟩:=Cz (Y8) h 100000 t (by have:n*n<=16:=Ag8 a a;have:2^_<=2^16:=Ad6 Y5 this;lia)<|Wf.g8.start c;refine⟨r,d,?_⟩;simp[Gn]at b;simp![vg,qV k n _ _ h<|Y8,qX _ _ _ h];rw[b];simp![]
def za(e:exec F s τ h=.j τ1 h1):execs F (.cons s ss) τ h=execs F ss τ1 h1:=by rw[execs,e,O.bR]
def fx(e:exec F s τ h=.j τ1 h1)(g:Gx n (execs F ss τ1 h1)=r):Gx n (execs F (.cons s ss) τ h)=r:=by rwa [za e]
def qa(e:exec F s τ h=.ret w h1):execs F (.cons s ss) τ h=.ret w h1:=by rw[execs,e,O.cS]
def Zo(e:Gn F c τ h=.j k9 h1):exec F (.iff c a b) τ h=execs F a τ h1:=by rw[exec,e,R.ay]
def kv(e:Gn F c τ h=.j y9 h1):exec F (.iff c a b) τ h=execs F b τ h1:=by rw[exec,e,R.ay]
def Ws(a:GO e=u0)(q:eval F e τ h=.j (.j xs) h1):exec F (.ret e) τ h=.ret (.j xs) h1:=by rw[exec,a];simp[q,R.ay]
def Ja(a:GO e=u0)(q:eval F e τ h=.j (.v d) h1):exec F (.ret e) τ h=.ret (.v d) h1:=by rw[exec,a];simp[q,R.ay]
def Zx(e:h[r]?=y0 (.lst xs))(i):cZ (.r r) (.v<|.p i) h=aW xs i:=by simp[cZ,W.eh,W.seq?,e]
def oM(x y z:D):aW [x,y,z] 0=y0 x:=rfl
def J2(x y z:D):aW [x,y,z] 1=y0 y:=rfl
def lX(x y z:D):aW [x,y,z] 2=y0 z:=rfl
def FA:ef 3 2=y0 2:=rfl
def xA(c:eval F e τ h=.j (.v d) h)(a:Gi τ i=y0 (.r r))(f:h[r]?=y0 (.lst xs))(k:ef xs.e j=y0 n)(b:Kr d=k9)(g:h2=h.y r (.lst<|xs.y n d)):
 exec F (.b7 (.var i) (.int j) e) τ h=.j τ h2:=by
 subst g;simp only[exec,c,R.ay,eval,a,Kt,f,k,b,Os]
def tI(a b)(h:-(2:Int)^64<b/\b<2^64):Gj .mul a b=y0 (a*b):=by
 have c:(-eN<a/\a<eN)\/(-eN<b/\b<eN):=by rw[GZ];exact .w h
 show(if _ then _ else _)=_;rw[Da c]
def Lo(a b)(h:-(2:Int)^64<a/\a<2^64):Gj .mul a b=y0 (a*b):=by
 have c:(-eN<a/\a<eN)\/(-eN<b/\b<eN):=by rw[GZ];exact .u h
 show(if _ then _ else _)=_;rw[Da c]
def QJ(a b)(h:0<b):Gj .mod a b=y0 (a%b):=by rw[DH,Da h]
def uJ(a b)(h:0<b)(c:b<1073741824):Gj .fdiv a b=y0 (a/b):=by rw[IW,Da ⟨h,by rw[GR];exact c⟩]
def EK(i j)(h):Gp .eq (.v<|.p i) (.v<|.p j) h=y0 (u9<|i=j):=by rfl
theorem W8:∀xs:List Int,Km (xs.j .p)=y0 xs.sum
|[]=>rfl
|x::xs=>by simp[Km,W8 xs]
def SM(f:α->β)(xs)(lo hi):cut (xs.j f) lo hi=(cut xs lo hi).j f:=by simp[cut,Ao7]
def Fe(xs:List α)(lo hi):(cut xs lo hi).e<=xs.e:=by simp[cut,Ae9];lia
abbrev mW:Tx:=uS
def ON(i:Nat)(h:i<26):aW mW (i:Int)=y0 (97+i):=by
 have:∀i:Nat,i<26->aW mW i=y0 (97+i):=by decide
 exact this i h
def Q2(xs:List α)(n:Nat):cut xs u0 (y0 (n:Int))=xs.A n:=by
 have a:¬((n:Int)<0):=by lia
 simp only[cut,a8,a,TK,Ac5,UO,Yh];by_cases q:n<=xs.e
 .rw[Aj5 q]
 .rw[VO Y6,Ah0<|Ab0 _,Ah0 Y6]
def WM(xs:List α)(n:Nat):cut xs (y0 (n:Int)) u0=xs.G n:=by
 have a:¬((n:Int)<0):=by lia
 simp[cut,a8,a,Ac5];by_cases q:n<=xs.e
 .rw[Aj5 q,Ah0 Y7]
 .rw[VO Y6,UG<|Ab0 _,UG Y6,List.take_nil]
def sQ(s)(lo hi)(h)(a:s.e<=bh):fG (.s s) lo hi h=.j (.s<|cut s lo hi) h:=by show(if s.e<=bh then _ else _)=_;rw[Da a]
def mul_str(s)(n)(h)(b:n<=1000)(a:s.e*n<=1000000):GU .mul (.s s) (.i n) h=.j (.v<|.u (Aa7 n s).T) h:=by show(if 0<=(n:Int)/\(n:Int)<=1000/\s.e*(n:Int).j<=bh then _ else _)=_;rw[Da ⟨(Ar _),by lia,by rw[Gf,Ac5];exact a⟩,Ac5]
def add_str(s u)(h)(a:s.e+u.e<=1000000):GU .add (.s s) (.s u) h=.j (.s<|s++u) h:=by rw[RA,Da<|by rw[Gf];exact a]
def QC(i)(a:i<26)(h):cZ (.s mW) (.i i) h=y0 (.u [97+i]):=by rw[rD,Da<|by rw[Gf];decide,ON i a];rfl
def u1(f:Nat->α)(m)(h:m<=8)(e:∀i,i<8->∀j,j<8->i≠j->f i≠f j):((Aa6 m).j f).M:=by rw[List.Nodup,Vy];refine List.Pairwise.imp_of_mem ?_<|VP;intro a b g d c;exact e a (by have:=Ab6.u g;exact Ab3 ‹_› ‹_›) b (by have:=Ab6.u d;exact Ab3 ‹_› ‹_›) c
def tm(a b:Nat)(c:0<b):Gj .mod (a:Int) (b:Int)=y0 ((a%b:Nat):Int):=by rw[QJ _ _ Y6];rfl
def N2(a b:Nat)(d:0<b)(c:b<1073741824):Gj .fdiv (a:Int) (b:Int)=y0 ((a/b:Nat):Int):=by rw[uJ _ _ Y6 Y6];rfl
def F4(a b:Nat):Gj .add (a:Int) (b:Int)=y0 ((a+b:Nat):Int):=rfl
def ze(xs:List α)(i)(h:i<xs.e):aW xs (i:Int)=xs[i]?:=by have:(i)<xs.e:=‹_›;simp[aW,ef,this]
def Qh(i j)(h):Gp .eq (.i i) (.i j) h=y0 (u9<|i=j):=by rw[EK];congr 1;exact decide_eq_decide.w Y6
theorem zF:∀j:List Tx,GV (j.j .u)=y0 j
|[]=>rfl
|t::j=>by simp[GV,zF j]
theorem CG(s):∀j:List Tx,inD (.u s) (j.j .u)=u9 (s∈j)
|[]=>rfl
|t::j=>by
  have a:=CG s j;simp only[inD]at a;by_cases q:t=s
  .subst q;simp[inD]
  .have b:¬s=t:=λe=>q e.u;simp only[inD,Ab2,Ah6,a,Ab5,b,false_or];simp[q]
theorem Ba:∀(a:List Tx)(h),(GT h (a.j .u)=a.j .u/\Gd (a.j .u)=k9)/\GN (a.j .u)=0
|[],_=>⟨⟨rfl,rfl⟩,rfl⟩
|t::a,h=>by have b:=Ba a h;simp[b]
def Jz(s)(a:List Tx)(w)(h)(b:CD (w.dd h)=y0 (GT h<|a.j .u)):Ki (.s s) w h=y0 (u9<|s∈a):=by unfold Ki;simp[b,(Ba a h),CG]
def we(x)(r:List α):aW (x::r) 0=y0 x:=by
 have:0<(x::r).e:=by simp
 simp[aW,ef,this]
def NU(xs)(n)(h)(b:n<=1000)(a:xs.e*n<=1000000):GU .mul (.j xs) (.i n) h=.j (.j (Aa7 n xs).T) h:=by show KC xs n h=_;rw[KC,Da ⟨(Ar _),by lia,by rw[Ac5,Gf];exact a⟩,Ac5]
def nc(b:Gc d=k9)(c:n<=h.e)(a:Gy (h.A n)=k9):∃h',Gx n (.ret (.v d) h)=.j (.v d) h'/\h'=h.A n:=by
 by_cases q:h.e=n
 .exact⟨h,by simp[Gx,fin,q],by rw[←q,Ap]⟩
 .exact⟨h.A n,by simp[Gx,fin,q,W.keep,b,a],rfl⟩
theorem wy:∀j:List Tx,Gd (j.j .u)=k9
|[]=>rfl
|t::j=>by simp[wy j]
def ZC(a:Gg F es τ h=.j ws h)(c:F.call f (ws.j W.arg) h=.j (.j xs) h)(b:Gd xs=k9):eval F (.share<|.call f es) τ h=.j (.r h.e) (h++[.lst xs]):=by simp only[eval,a,R.ab,c,b,Os]
theorem Zr(x):∀ys:List Tx,(Kd x ys).a4<|x::ys
|[]=>.refl _
|y::ys=>by
  unfold Kd;by_cases q:y<x
  .rw[Da q];exact((Zr x ys).cons y).j<|.swap x y ys
  .rw[FM q]
theorem zl:∀xs:List Tx,(GC xs).a4 xs
|[]=>.refl _
|x::xs=>(Zr x<|GC xs).j<|(zl xs).cons x
noncomputable abbrev i7(a:List Tx):D:=.w<|a.j .u
abbrev wD(K T:List Tx):D:=.w [i7 K,i7 T]
def JS(ts)(h)(a:ts.e<64):dY .sorted [.j (ts.j .u)] h=.j (.j<|(GC ts).j .u) h:=by show(R.of h<|(y0 _).u GV).bind _=_;rw[Af2,zF,R.ao,R.ab,Da a]
abbrev ai(l:List Nat):List D:=l.j λ(x:Nat)=>.n x
def pL(h:∀y∈ys,∃c:Nat,c<m/\y=.n c):∃cs:List Nat,ys=ai cs/\∀c∈cs,c<m:=by
 induction ys with
|nil=>exact⟨[],rfl,λ_ h=>absurd h Ag2⟩
|cons y ys g=>
  obtain⟨c,f,e⟩:=h y Aa4;obtain⟨cs,e2,a⟩:=g λy i=>h y<|Aa3 _ i;refine⟨c::cs,by rw[e,e2];rfl,λd b=>?_⟩;rcases Ab5.u b with rfl|b
  .exact f
  .exact a d b
abbrev mi(n:Nat)(b a:List Nat):D:=.w [.n n,.w (ai b),.w (ai a)]
structure Rp(n K T:Nat)(ks ts:List Nat):Prop where
 n4:n<=4
 lk:ks.e=K
 lt:ts.e=T
 bk:∀x∈ks,x<2^n
 bt:∀x∈ts,x<2^(n*n)
inductive Ex where
|name (t:Tx)
|same
|all
|none
|turned (a:Ex)
|closed (a:Ex)
|plus (a b:Ex)
|less (a b:Ex)
|both (a b:Ex)
|joined (a b:Ex)
abbrev Zh:Tx:=[110,97,109,101]
abbrev Xg:Tx:=[115,97,109,101]
noncomputable abbrev qo:Tx:=[97,108,108]
abbrev Jh:Tx:=[110,111,110,101]
abbrev WG:Tx:=[112,108,117,115]
abbrev Qq:Tx:=[108,101,115,115]
abbrev xC:Tx:=[98,111,116,104]
abbrev jh:Tx:=[106,111,105,110,101,100]
abbrev Xi:Tx:=[116,117,114,110,101,100]
abbrev Ji:Tx:=[99,108,111,115,101,100]
noncomputable def aV:Ex->D
|.name t=>.w [.u Zh,.u t]
|.same=>.w [.u Xg]
|.all=>.w [.u qo]
|.none=>.w [.u Jh]
|.turned a=>.w [.u Xi,aV a]
|.closed a=>.w [.u Ji,aV a]
|.plus a b=>.w [.u WG,aV a,aV b]
|.less a b=>.w [.u Qq,aV a,aV b]
|.both a b=>.w [.u xC,aV a,aV b]
|.joined a b=>.w [.u jh,aV a,aV b]
def Ex.wf (N:List Tx):Ex->Prop
|.name t=>t∈N
|.turned a=>a.wf N
|.closed a=>a.wf N
|.plus a b=>a.wf N/\b.wf N
|.less a b=>a.wf N/\b.wf N
|.both a b=>a.wf N/\b.wf N
|.joined a b=>a.wf N/\b.wf N
|_=>True
noncomputable def Ex.dp:Ex->Nat
|.turned a=>a.dp+1
|.closed a=>a.dp+1
|.plus a b=>max a.dp b.dp+1
|.less a b=>max a.dp b.dp+1
|.both a b=>max a.dp b.dp+1
|.joined a b=>max a.dp b.dp+1
|_=>0
end Lake.M
namespace Wf
noncomputable def wr(g:Nat->Nat->Bool):Nat->Nat->Nat->Bool
|0,a,b=>g a b
|k+1,a,b=>wr g k a b||(wr g k a k&&wr g k k b)
theorem rE:∀k,g a b=k9->wr g k a b=k9
|0,h=>h
|k+1,h=>by rw[wr,rE k h,Ao0]
theorem CO:∀k m,m<k->∀a b,wr g k a m=k9->wr g k m b=k9->wr g k a b=k9
|0,m,f=>absurd f<|Ah5 _
|k+1,m,f=>λa b d c=>by
  rw[wr,Ae5,Aa2]at d c;rw[wr,Ae5,Aa2];by_cases q:m=k
  .subst q;have d:=d.j id And.left;have c:=c.j id And.right;exact .w ⟨d,c⟩
  .have h:m<k:=by lia
   have e:=CO (g:=g) k m h;rcases d with d|d<;>rcases c with c|c
   .exact .u<|e a b d c
   .exact .w ⟨e a k d c.1,c.2⟩
   .exact .w ⟨d.1,e k b d.2 c⟩
   .exact .w ⟨d.1,c.2⟩
theorem jI(e:∀a b,a<n->b<n->(g a b=k9↔t.j (a*n+b)=k9)):∀k,k<=n->∀a b,a<n->b<n->wr g k a b=k9->TC n t a b
|0,_,a,b,d,c,h=>.step d c<|(e a b d c).u h
|k+1,f,a,b,d,c,h=>by
  rw[wr,Ae5,Aa2]at h;rcases h with h|h
  .exact jI e k (Ag ‹_›) a b d c h
  .exact(jI e k (Ag ‹_›) a k d Y6 h.1).trans<|jI e k (Ag ‹_›) k b Y6 c h.2
def Oj(f:∀a b,a<n->b<n->(g a b=k9↔t.j (a*n+b)=k9))(h:TC n t a b):wr g n a b=true:=by
 induction h with
|step c d e=>exact rE n<|(f _ _ c d).w e
|more j c d e i=>exact CO n _ c _ _ i<|rE n<|(f _ _ c d).w e
def kY(c:∀a b,a<n->b<n->(g a b=k9↔t.j (a*n+b)=k9))(e:a<n)(d:b<n):wr g n a b=k9↔TC n t a b:=⟨jI c n (Ab0 n) a b e d,Oj c⟩
end Wf
namespace Lake.M
abbrev Yn:="_law_draw"
abbrev Yo:="_law_bounds"
abbrev Yp:="Search"
abbrev Yq:="Cases"
abbrev Yr:="_law_told"
abbrev Ys:="Search.told_of_case"
abbrev Yt:="cases"
abbrev Yu:="names_in"
abbrev Yv:="Cases.is_shown"
abbrev Yw:="Search.told_of_sayings"
abbrev Yx:="fact_told"
abbrev Yy:="_law_expression"
abbrev Yz:="Cases.world_of_code"
abbrev YA:="Kept"
abbrev YB:="world"
abbrev YC:="bounds"
abbrev YD:="_law_saying"
abbrev YE:="told"
abbrev YF:="sayings"
abbrev YG:="Search.told_of_halves"
abbrev YH:="made"
abbrev YI:="Cases.truth"
abbrev YJ:="places"
abbrev YK:="words"
abbrev YL:="_law_walks"
abbrev YM:="renumbered"
abbrev YN:="_law_told_of"
abbrev YO:="_law_many"
abbrev YQ:="quarrel"
abbrev YR:="is_tuple_of"
abbrev YS:="Search.__init__"
abbrev YT:="told_of_sayings"
abbrev YU:="_law_two"
abbrev YV:="world_of_code"
abbrev YW:="Cases.bit_of"
abbrev YX:="how_many_set"
abbrev YY:="Search.chosen_place"
abbrev YZ:="told_of_case"
abbrev Y0:="needed_bits"
abbrev Y1:="size"
abbrev Y2:="uses"
abbrev Y3:="_law_fact"
abbrev Y4:="_law_turn"
open M renaming E.int->Lake.M.E.p,E.str->Lake.M.E.u,E.call->Lake.M.E.j,E.lst->Lake.M.E.x,E.bin->Lake.M.E.y,E.v0->Lake.M.E.A,E.cmp->Lake.M.E.B,E.v1->Lake.M.E.C,E.ix->Lake.M.E.G,E.v2->Lake.M.E.L,E.comp->Lake.M.E.M,E.v3->Lake.M.E.N,E.bi->Lake.M.E.Z,D.int->Lake.M.D.p,D.ref->Lake.M.D.j,D.str->Lake.M.D.u,D.tup->Lake.M.D.w,D.lst->Lake.M.D.x,D.bl->Lake.M.D.I,D.au->Lake.M.D.U,D.err->Lake.M.D.y,Ss.cons->Lake.M.Ss.j,Ss.nil->Lake.M.Ss.u,Es.cons->Lake.M.Es.j,Es.nil->Lake.M.Es.u,R.ok->Lake.M.R.j,R.bind->Lake.M.R.u,W.own->Lake.M.W.j,W.bor->Lake.M.W.u,Cell.lst->Lake.M.Cell.x,Cell.obj->Lake.M.Cell.j,Cell.aU->Lake.M.Cell.u,O.next->Lake.M.O.j,O.ret->Lake.M.O.u,Bi.len->Lake.M.Bi.w,It.seq->Lake.M.It.j,Ex.none->Lake.M.Ex.x,Ex.turned->Lake.M.Ex.C,Ex.dp->Lake.M.Ex.j,Ex.name->Lake.M.Ex.u,Ex.joined->Lake.M.Ex.w,Ex.wf->Lake.M.Ex.y,Ex.closed->Lake.M.Ex.A,Ty.tuple->Lake.M.Ty.A,Op.add->Lake.M.Op.j,Op.band->Lake.M.Op.w,Op.mul->Lake.M.Op.x,Op.mod->Lake.M.Op.A,S.af->Lake.M.S.j,Cp.eq->Lake.M.Cp.j,Cp.mem->Lake.M.Cp.u,Cp.ne->Lake.M.Cp.w,Fn.body->Lake.M.Fn.j
def du(t:Tx)(a:List Tx):Nat:=(Ko t a).getD 0
theorem Jm:∀{j},t∈j->Ko t j=y0 (du t j)/\du t j<j.e
|y::a,h=>by
  unfold du;by_cases q:y=t
  .simp[Ko,q]
  .have b:t∈a:=by
    rcases Ab5.u h with e|e
    .exact absurd e.u q
    .exact e
   obtain⟨e,l⟩:=Jm b;simp only[Ko,q,TK,e,Al7,Am8,Aa9]at l⊢;exact⟨trivial,(Pv ‹_›)⟩
structure Wo where
 n:Nat
 K:List Tx
 T:List Tx
 ks:List Nat
 ts:List Nat
structure Wo.Ok (w:Wo):Prop where
 hK:w.K.e<=4
 hT:w.T.e<=4
 nd:(w.K++w.T).M
 wl:Rp w.n w.K.e w.T.e w.ks w.ts
def Wo.at(w:Wo)(t:Tx)(a b:Nat):Prop:=if t∈w.T then(w.ts.I (du t w.T) 0).j (a*w.n+b)=k9 else a=b/\(w.ks.I (du t w.K) 0).j a=k9
def gd(w:Wo):Ex->Nat->Nat->Prop
|.u t,a,b=>w.at t a b
|.same,a,b=>a=b
|.all,_,_=>True
|.x,_,_=>False
|.C e,a,b=>gd w e b a
|.A e,a,b=>∃t,t<2^(w.n*w.n)/\(∀x y,x<w.n->y<w.n->(t.j (x*w.n+y)=k9↔gd w e x y))/\Wf.TC w.n t a b
|.plus e f,a,b=>gd w e a b\/gd w f a b
|.less e f,a,b=>gd w e a b/\¬gd w f a b
|.both e f,a,b=>gd w e a b/\gd w f a b
|.w e f,a,b=>∃c,c<w.n/\gd w e a c/\gd w f c b
def Is(w:Wo)(e:Ex)(v:Nat):Prop:=v<2^(w.n*w.n)/\∀a b,a<w.n->b<w.n->(v.j (a*w.n+b)=k9↔gd w e a b)
def tf(a:s<2^n)(b:t<2^n):s|||t<2^n:=Am5 a b
def Wo.words (w:Wo):D:=wD w.K w.T
open M renaming Wo.words->Lake.M.Wo.j
def Wo.aE (w:Wo):D:=mi w.n w.ks w.ts
open M renaming Wo.aE->Lake.M.Wo.u
def oT(l)(i:Nat)(h:i<l.e):aW (ai l) (i:Int)=y0 (.n<|l.I i 0):=by rw[ze _ _<|by simp_all,Ab9,Aa1 h,Ac9,Aa1 h];rfl
def Cc(ts)(t)(h)(a:t∈ts)(b:ts.e<=1000):nq .index (.v<|i7 ts) [.s t] h=.j (.i<|du t ts) h:=by show(R.of h<|(y0 _).u GV).u _=_;rw[Af2,zF,R.ao,R.ab];show(R.of h<|y0 t).u _=_;rw[R.ao,R.ab,(Jm a).1,R.ao,R.ab,Da<|by rw[Gf];exact Y8]
def O5(x y z:D):aW [x,y,z] 0=y0 x:=rfl
def Qn(x y:D):aW [x,y] 0=y0 x:=rfl
def zh(x y:D):aW [x,y] 1=y0 y:=rfl
def HS(x:D):aW [x] 0=y0 x:=rfl
noncomputable def lq(n x:Nat):List<|Nat×Nat:=((Aa6 n).L x.j).j λa=>(a,a)
def WW(n x):Wf.fV n<|lq n x:=λp b=>by obtain⟨a,c,rfl⟩:=Ab7.u b;have:=Ab6.u (Ah3.u c).1;exact⟨this,this⟩
def uj(j:a<n)(f:b<n):(Wf.c5 n<|lq n x).j (a*n+b)=k9↔a=b/\x.j a=true:=by
 rw[Wf.cU,Ad8];refine⟨λ⟨p,h,e⟩=>?_,λ⟨e,i⟩=>?_⟩
 .obtain⟨c,d,rfl⟩:=Ab7.u h;have g:=Ah3.u d;have d:=Ab6.u g.1;have e:=Do e;have e1:=congrArg (·/n) e;have e2:=congrArg (·%n) e;simp[Wf.aF d,Wf.aF f,Wf.aK d,Wf.aK f]at e1 e2;subst e1;exact⟨e2,g.2⟩
 .subst e;exact⟨_,Ab7.w ⟨a,Ah3.w ⟨Ab6.w j,i⟩,rfl⟩,FB rfl⟩
def Rc(n x)(k:n<=4)(h):eval F Wh [a,b,c,si n,si x] h=.j (.j<|(lq n x).j pD) h:=by
 rw[Wh,BB (λd=>match d with
|.p i=>if x.j i.j then y0 (.w [.p i,.p i])else u0
|_=>u0) (zw (m:=n) (by simp![])<|Y8)<|by simp;rw[Gf];exact Y8]
 .congr 2;rw[An7,lq,Ad9];induction Aa6 n with
|nil=>rfl
|cons y l f=>
   by_cases e:x.j y=k9
   .simp[e,pD,f]
   .simp[e,f]
 .intro d j;obtain⟨i,o,rfl⟩:=sH _ j;have g:Kl ((x/2^i:Nat)) 1=y0 (((x.j i).j:Nat):Int):=by rw[show 1=((1:Nat):Int)from rfl,jd,wV]
  refine⟨[si i,si x],x.j i,rfl,?_,?_⟩
  .unfold Gn;simp only[eval,Gi,Gm,R.ab,GH,zq,xc,g,R.ao,Dp];cases x.j i<;>rfl
  .by_cases e:x.j i=k9
   .simp[e,Gi]
   .simp[e]
def vV(t)(ts)(h):Gp .u (.s t) (.v<|i7 ts) h=y0 (u9<|t∈ts):=Jz t ts (.v<|i7 ts) h rfl
def Qu(k)(ok:w.Ok)(t)(g:t∈w.K++w.T)(h):∃v,Is w (.u t) v/\call prog (k+4) "value_of_name" [.v w.j,.v w.u,.s t] h=.j (.i v) h:=by
 rw[Gb rfl _ _ _ rfl];simp only[jr];show∃v,_/\Gx _ (execs _ _ [sv (wD w.K w.T),sv (mi w.n w.ks w.ts),y0 _,u0,u0] h)=_;have j:=ok.hK;have i:=ok.hT;by_cases q:t∈w.T
 .have e:=(Jm q).2;refine⟨w.ts.I (du t w.T) 0,⟨?_,λa b f c=>?_⟩,?_⟩
  .rw[Ac9,Aa1<|by rw[ok.wl.lt];exact e];exact ok.wl.bt _<|Aj9 _
  .show _↔w.at t a b;rw[Wo.at,Da q]
  .rw[qa,Ga _ _ _ rfl];rw[Zo (h1:=h)<|by simp![ae,zh,vV,FB q]];exact qa<|Ja rfl<|by simp only[eval,Gg,Gi,Gm,R.ab,ae,zh,lX,R.ao,Bo,Os,Cc w.T t h q<|Y8];rw[oT _ _<|by rw[ok.wl.lt];exact e];rfl
 .have d:=(Ac6.u g).y q;have n4:=ok.wl.n4;refine⟨Wf.c5 w.n<|lq w.n<|w.ks.I (du t w.K) 0,⟨Wf.dt<|WW _ _,λa b f c=>?_⟩,?_⟩
  .show _↔w.at t a b;rw[Wo.at,FM q];exact uj f c
  .refine fx (by simp![ae,zh,vV,IR q];rfl) ?_;rw[za (τ1:=[sv _,sv _,y0 _,si w.n,u0]) rfl,za (τ1:=[sv _,sv _,y0 _,si w.n,si _])<|by simp only[exec,eval,Gg,Gi,Gm,R.ab,ae,Qn,J2,R.ao,Bo,Os,Cc w.K t h d<|Y8];rw[oT _ _<|by rw[ok.wl.lk];exact((Jm d).2)];rfl,qa<|Ja rfl ?_,Ga _ _ _ rfl];simp only[eval,Gg,Gi,Gm,R.ab,Rc w.n _ n4 h,Ab2,Af9,W.cj,W.fE,xL k w.n _ h (Y8)<|WW _ _]
def zb(s t)(h):Gp .j (.s s) (.s t) h=y0 (s==t):=by simp[Kh]
def xa(e:Gn F c τ h=.j y9 h):execs F (.j (.iff c a .u) ss) τ h=execs F ss τ h:=za<|kv e
def qg(e:Gn F c τ h=.j k9 h)(r:exec F s τ h=.u w h):execs F (.j (.iff c (.j s .u) .u) ss) τ h=.u w h:=qa<|(Zo e).j<|qa r
def Xb(s X)(h):Gn F (.B .j .C<|.u X) [a,y0 (.s s),c] h=.j (s==X) h:=by simp only[Gn,eval,Gi,Gm,R.ab,zb,R.ao,GS]
abbrev lP(n:Nat)(s:Tx)(l:List D):Sl:=[si n,y0 (.s s),y0 (.l l)]
def OP(k n)(l)(h)(a:n<=4):call prog (k+5) YH [.i n,.s Xg,.l l] h=.j (.i<|Wf.bH n) h:=by rw[Gb rfl _ _ _ rfl];simp only[Xy];show Gx _ (execs _ _ (lP n Xg l) h)=_;rw[qg (Xb _ _ _)<|Ja rfl<|by simp only[eval,Gg,Gi,Gm,R.ab,Ab2,Af9,W.cj,R3 k n h<|Y8];rfl,Ga _ _ _ rfl]
def Od(k n)(l)(h)(a:n<=4):call prog (k+5) YH [.i n,.s qo,.l l] h=.j (.i<|2^(n*n)-1) h:=by rw[Gb rfl _ _ _ rfl];simp only[Xy];show Gx _ (execs _ _ (lP n qo l) h)=_;rw[xa<|Xb _ _ _,qg (Xb _ _ _)<|Ja rfl<|by simp only[eval,Gg,Gi,Gm,R.ab,Ab2,Af9,W.cj,yI _ n h<|Y8];rfl,Ga _ _ _ rfl]
def IS(k n)(l)(h):call prog (k+5) YH [.i n,.s Jh,.l l] h=.j (.i<|0) h:=by rw[Gb rfl _ _ _ rfl];simp only[Xy];rw[xa<|Xb _ _ _,xa<|Xb _ _ _,qg (Xb _ _ _) _,Ga _ _ _ rfl];rfl
abbrev l2(s t:Nat):List D:=[.n s,.n t]
def w6(k n s t)(h):call prog (k+5) YH [.i n,.s WG,.l (l2 s t)] h=.j (.i<|s|||t) h:=by rw[Gb rfl _ _ _ rfl];simp only[Xy];show Gx _ (execs _ _ (lP n WG _) h)=_;rw[xa<|Xb _ _ _,xa<|Xb _ _ _,xa<|Xb _ _ _,qg (Xb _ _ _)<|Ja rfl<|by simp only[eval,Gg,Gi,Gm,R.ab,Js,Qn,zh,R.ao,Ab2,Af9,W.cj,qX _ s t h];rfl,Ga _ _ _ rfl]
def vy(k n s t)(h):call prog (k+5) YH [.i n,.s xC,.l (l2 s t)] h=.j (.i<|s&&&t) h:=by rw[Gb rfl _ _ _ rfl];simp only[Xy];show Gx _ (execs _ _ (lP n xC _) h)=_;rw[xa<|Xb _ _ _,xa<|Xb _ _ _,xa<|Xb _ _ _,xa<|Xb _ _ _,xa<|Xb _ _ _,qg (Xb _ _ _)<|Ja rfl<|by simp only[eval,Gg,Gi,Gm,R.ab,Js,Qn,zh,R.ao,Ab2,Af9,W.cj,Pb _ s t h];rfl,Ga _ _ _ rfl]
def XJ(k n s t)(h)(a:n<=4):call prog (k+5) YH [.i n,.s jh,.l (l2 s t)] h=.j (.i<|Wf.joinM n s t) h:=by rw[Gb rfl _ _ _ rfl];simp only[Xy];show Gx _ (execs _ _ (lP n jh _) h)=_;rw[xa<|Xb _ _ _,xa<|Xb _ _ _,xa<|Xb _ _ _,xa<|Xb _ _ _,xa<|Xb _ _ _,xa<|Xb _ _ _,qg (Xb _ _ _)<|Ja rfl<|by simp only[eval,Gg,Gi,Gm,R.ab,Js,Qn,zh,R.ao,Ab2,Af9,W.cj,qV _ n s t h<|Y8];rfl,Ga _ _ _ rfl]
def JN(k n s)(h)(a:n<=4):call prog (k+5) YH [.i n,.s Xi,.l [.n s]] h=.j (.i<|Wf.bL n s) h:=by rw[Gb rfl _ _ _ rfl];simp only[Xy];show Gx _ (execs _ _ (lP n Xi [.n s]) h)=_;rw[xa<|Xb _ _ _,xa<|Xb _ _ _,xa<|Xb _ _ _,xa<|Xb _ _ _,xa<|Xb _ _ _,xa<|Xb _ _ _,xa<|Xb _ _ _,qg (Xb _ _ _)<|Ja rfl<|by simp only[eval,Gg,Gi,Gm,R.ab,Js,HS,R.ao,Ab2,Af9,W.cj,Lb k n s h<|Y8];rfl,Ga _ _ _ rfl]
def wO(k n s)(h)(a:n<=4)(c:s<2^(n*n)):∃r,Wf.fP n s r/\call prog (k+5) YH [.i n,.s Ji,.l [.n s]] h=.j (.i r) h:=by obtain⟨r,b,e⟩:=L0 _ n s h a c;refine⟨r,b,?_⟩;rw[Gb rfl _ _ _ rfl];simp only[Xy];rw[xa<|Xb _ _ _,xa<|Xb _ _ _,xa<|Xb _ _ _,xa<|Xb _ _ _,xa<|Xb _ _ _,xa<|Xb _ _ _,xa<|Xb _ _ _,xa<|Xb _ _ _,qa<|Ja rfl<|by assumption,Ga _ _ _ rfl]
def F7(a:Gk F it τ h=.j [] h):eval F (.M tg one k ax it y9 c elt) τ h=.j (.j []) h:=by rw[eval,a,R.ab,Da<|show[].e<=bh from Ag0 _];rfl
def vf(b:Gk F it τ h=.j [d] h)(e:eval F elt (GD (Aa7 k u0++ax.j λj=>Gi τ j) 0<|.v d) h=.j (.v y) h):eval F (.M [0] k9 k ax it y9 c elt) τ h=.j (.j [y]) h:=by
 have a:[d].e<=bh:=by rw[Gf];simp
 rw[eval,b,R.ab,Da a];simp[Gu,e,R.ao]
def x3(e:Gk F it τ h=.j [d1,d2] h)(b:eval F elt (GD (Aa7 k u0++ax.j λj=>Gi τ j) 0<|.v d1) h=.j (.v y1) h)(a:eval F elt (GD (Aa7 k u0++ax.j λj=>Gi τ j) 0<|.v d2) h=.j (.v y2) h):eval F (.M [0] k9 k ax it y9 c elt) τ h=.j (.j [y1,y2]) h:=by
 have d:[d1,d2].e<=bh:=by rw[Gf];simp
 rw[eval,e,R.ab,Da d];simp[Gu,b,a,R.ao]
def Xp(f)(g:eval F e τ h=.j (.i n) h)(m:n<=1000)
 (c:∀i,i<n->∃w,eval F elt (si i::ax.j λj=>Gi τ j) h=.j w h/\w.d=y0 (f i)):eval F (.M [0] k9 1 ax (.ar e) y9 (.bl k9) elt) τ h=.j (.j<|(Aa6 n).j f) h:=by
 rw[jm (λd=>match d with|.p i=>f i.j|d=>d) (zw g<|Y8)<|by simp;rw[Gf];exact Y8]
 .simp[Re]
 .intro d l;obtain⟨i,k,rfl⟩:=sH _ l;obtain⟨w,a,b⟩:=c i k;exact⟨_,rfl,w,a,by simpa using b⟩
def Wr(x y)(r:List D):aW (x::y::r) 1=y0 y:=by have:=ze (x::y::r) 1 Y7;exact this
abbrev tb(n v:Nat)(a b:Nat):Bool:=v.j<|a*n+b
noncomputable def fH(n:Nat)(g:Nat->Nat->Bool)(a:Nat):Nat:=((Aa6 n).j λb=>(g a b).j).sum
theorem qv(g):∀l:List Nat,(l.L g).e=(l.j λb=>(g b).j).sum
|[]=>rfl
|x::l=>by
  have a:=qv g l;by_cases q:g x=k9
  .rw[List.filter_cons_of_pos q,Aa9,Ab2,Ao6,a,q];simp;lia
  .have c:=by simpa using q
   rw[Um q,Ab2,Ao6,a,c];simp
def QE(m n):Aa6 ((m+1)*n)=Aa6 (m*n)++(Aa6 n).j (m*n+·):=by rw[Vk,List.range_add]
def I0{b:Nat}(a:b<n):(m*n+b)/n=m:=Wf.aF a
theorem BJ(n v)(a):∀m,((((Aa6<|m*n).L v.j).j (·/n)).count a)=if a<m then fH n (tb n v) a else 0
|0=>by simp
|m+1=>by
  have g:=BJ n v a m;rw[QE,Aq9,Ad4,List.count_append,g,Ap5,Ad9];have e:((Aa6 n).L (v.j∘(m*n+·))).j ((·/n)∘(m*n+·))=Aa7 ((Aa6 n).L (v.j∘(m*n+·))).e m:=by rw[List.eq_replicate_iff];refine⟨by simp,λx h=>?_⟩;obtain⟨b,d,rfl⟩:=Ab7.u h;exact I0<|Ab6.u (Ah3.u d).1
  rw[e,List.count_replicate,qv];by_cases q:a=m
  .subst q;simp[fH,tb]
  .have f:¬(m==a)=true:=by simp;exactλe=>q e.u
   rw[FM f];by_cases c:a<m
   .rw[Da c,Da<|Am6 ‹_›];exact VH _
   .rw[FM c,FM Y6]
def HQ(b:a<n):((Wf.aC n v).j (·.1)).count a=fH n (tb n v) a:=by have:=BJ n v a n;rw[Da b]at this;rw[←this,Wf.aC,Ad9];rfl
theorem wI(n v):∀m,((Aa6<|m*n).L v.j).e=((Aa6 m).j<|fH n<|tb n v).sum
|0=>by simp
|m+1=>by have a:=wI n v m;rw[QE,Aq9,Aa5,a,Ap5,Aa,qv,Uv,Ad4,Uw];simp[fH,tb]
def Sk(n v):(Wf.aC n v).e=((Aa6 n).j<|fH n<|tb n v).sum:=by rw[Wf.aC,Aa,wI]
noncomputable abbrev Qa:Tx:=[108,101,97,115,116]
abbrev jc:Tx:=[109,111,115,116]
abbrev xb:Tx:=[101,97,99,104,108,101,97,115,116]
abbrev qi:Tx:=[101,97,99,104,109,111,115,116]
abbrev WI:Tx:=[105,110]
abbrev zc:Tx:=[101,113,117,97,108]
abbrev jk:Tx:=[115,111,109,101]
abbrev W7:Tx:=[110,111]
def JZ(s a b)(h):Gp .u (.s s) (.t [.u a,.u b]) h=y0 (u9<|s∈[a,b]):=Jz s [a,b] (.t [.u a,.u b]) h rfl
def QD(n v:Nat):List Nat:=(Aa6 n).j<|fH n<|tb n v
def Wm(n v:Nat)(s:Tx):List Nat:=if s∈[Qa,jc]then[(QD n v).sum]else QD n v
theorem zW:∀l:List Nat,GK (ai l)=y0 (l.j λ(x:Nat)=>(x:Int))
|[]=>rfl
|x::l=>by have:=zW l;simp only[Ab2,GK]at this⊢;rw[this];rfl
def F9(l:List Nat)(a:Nat):(l.j λ(x:Nat)=>(x:Int)).count (a:Int)=l.count a:=by
 induction l with
|nil=>rfl
|cons x l b=>
  rw[Ab2,V7,V7,b];by_cases q:x=a
  .simp[q]
  .have:¬(x=(a:Int)):=by lia
   simp[q,this]
def Bw(k n v)(s)(i:n<=4)(h):call prog (k+2) "counts" [.i n,.s s,.i v] h=.j (.j<|ai<|Wm n v s) h:=by
 rw[Gb rfl _ _ _ rfl];simp only[uZ];refine fx (by simp![Xu k n v h<|Y8];rfl) ?_;by_cases q:s∈[Qa,jc]
 .rw[qa,Gs _ _ _ rfl];rw[Zo (h1:=h)<|by simp![JZ,FB q]];refine qa<|Ws rfl ?_;simp only[eval,Gw,Gg,Gi,Gm,R.ab,XN,W.sg,R.ao,Aa,Sk];rw[Wm,Da q];rfl
 .refine fx (by simp![JZ,IR q];rfl) ?_;have e2:eval (k8<|k+1) JF [si n,y0 (.s s),si v,y0 (.l<|(Wf.aC n v).j pD),u0] h=.j (.j (ai ((Wf.aC n v).j (·.1)))) h:=by
   rw[JF,jm (λd=>match d with|.w [x,_]=>x|d=>d) (by simp![])<|QM n v<|Y8]
   .simp[pD,ai,Re]
   .intro d f;obtain⟨p,_,rfl⟩:=Ab7.u f;exact⟨_,rfl,_,rfl,rfl⟩
  have e1:eval (k8<|k+1) jE [si n,y0 (.s s),si v,y0 (.l<|(Wf.aC n v).j pD),y0 (.l (ai ((Wf.aC n v).j (·.1))))] h=.j (.j<|ai<|QD n v) h:=by
   rw[jE,Xp (λa=>.n _) rfl (Y8) λa g=>⟨.i _,?_,rfl⟩]
   .rw[ai,QD,Ad9];rfl
   .have e:((((Wf.aC n v).j (·.1)).j λ(x:Nat)=>(x:Int))).e<=bh:=by have:=QM n v (show n<=20 by lia);simpa using this
    have c:nq .count (.l (ai ((Wf.aC n v).j (·.1)))) [.i a] h=.j (.i<|fH n (tb n v) a) h:=by show(R.of h ((y0 (ai ((Wf.aC n v).j (·.1)))).u GK)).u _=_;rw[Af2,zW,R.ao,R.ab];show(R.of h<|y0 (a:Int)).u _=_;rw[R.ao,R.ab,Da e,F9,HQ g]
    have b:nF .count (.l (ai ((Wf.aC n v).j (·.1)))) h=true:=rfl;simp only[eval,Gg,Gi,Gm,Ab2,Af9,R.ab,b,Os,c]
  rw[za (τ1:=[si n,y0 (.s s),si v,y0 (.l<|(Wf.aC n v).j pD),y0 (.l (ai ((Wf.aC n v).j (·.1))))])<|by rw[exec,e2];rfl,qa<|Ws rfl e1,Gs _ _ _ rfl,Wm,FM q]
inductive Fc where
|d8 (a b:Ex)
|eP (a b:Ex)
|eQ (a:Ex)
|au (a:Ex)
|cnt (s:Tx)(k:Nat)(a:Ex)
def dT:Fc->D
|.d8 a b=>.w [.u WI,aV a,aV b]
|.eP a b=>.w [.u zc,aV a,aV b]
|.eQ a=>.w [.u jk,aV a]
|.au a=>.w [.u W7,aV a]
|.cnt s k a=>.w [.u s,.n k,aV a]
def Fc.wf (N:List Tx):Fc->Prop
|.d8 a b=>a.y N/\b.y N
|.eP a b=>a.y N/\b.y N
|.eQ a=>a.y N
|.au a=>a.y N
|.cnt s _ a=>s∈[Qa,jc,xb,qi]/\a.y N
def Fc.dp:Fc->Nat
|.d8 a b=>max a.j b.j
|.eP a b=>max a.j b.j
|.eQ a=>a.j
|.au a=>a.j
|.cnt _ _ a=>a.j
theorem rZ:∀bs:List Bool,Kq (bs.j .I)=y0 bs
|[]=>rfl
|b::bs=>by simp[Kq,rZ bs]
def WB{bs:List Bool}(q:eval F e τ h=.j (.j<|bs.j .I) h):eval F (.Z .all<|.j e .u) τ h=.j (.b<|bs.N id) h:=by rw[eval,Gg,q];simp[rZ,R.ao]
def rY(p)(l:List α):(l.j p).N id=l.N p:=by rw[An8];rfl
theorem QY:∀l:List Nat,Km (ai l)=y0 ((l.sum:Nat):Int)
|[]=>rfl
|x::l=>by have:=QY l;simp only[Ab2,Km]at this⊢;rw[this,Ao6];simp
def uI(x y:D):aW [x,y] (-1)=y0 y:=rfl
def QU(x y z:D):aW [x,y,z] (-1)=y0 z:=rfl
def yb(s:Tx)(k:Nat)(l:List Nat):Bool:=if s∈[Qa,xb]then l.N λx=>u9 (k<=x)else l.N λx=>u9<|x<=k
def xH(x y z:D):aW [x,y,z] 2=y0 z:=rfl
def Wk(X)(e:Gm τ i=y0 (.s s)):Gn F (.B .j (.var i)<|.u X) τ h=.j (s==X) h:=by simp only[Gn,eval,Gi,e,R.ab,zb,R.ao,GS]
structure V(n v:Nat)(g:Nat->Nat->Bool):Prop where
 lt:v<2^(n*n)
 bit:∀a b,a<n->b<n->(v.j (a*n+b)=k9↔g a b=k9)
section
variable{n s t:Nat}{g f:Nat->Nat->Bool}
def V.plus (h:V n s g)(q:V n t f):V n (s|||t) λa b=>g a b||f a b:=⟨tf h.1 q.1,λa b d c=>by rw[Af8,Ae5,h.2 a b d c,q.2 a b d c,Ae5]⟩
def V.both (h:V n s g)(q:V n t f):V n (s&&&t) λa b=>g a b&&f a b:=⟨Nat.and_lt_two_pow s q.1,λa b d c=>by rw[Ai1,Aa2,h.2 a b d c,q.2 a b d c,Aa2]⟩
def V.less (h:V n s g)(q:V n t f):V n (s-(s&&&t)) λa b=>g a b&&!f a b:=⟨Ai9 (Ar2 _ _) h.1,λa b d c=>by rw[Wf.aQ,Aa2,h.2 a b d c,(Bool.eq_iff_iff.w<|q.2 a b d c),Aa2]⟩
def V.turned (h:V n s g):V n (Wf.bL n s) λa b=>g b a:=⟨Wf.gS _ _,λa b d c=>by rw[Wf.fQ<|Wf.place_lt d c,Wf.aF c,Wf.aK c,h.2 b a c d]⟩
def V.joined (h:V n s g)(q:V n t f):V n (Wf.joinM n s t) λa b=>(Aa6 n).C λc=>g a c&&f c b:=⟨Wf.dC _ _ _,λa b j i=>by
 rw[Wf.cy<|Wf.place_lt j i,Wf.cT i,Ad8,Ad8];constructor
 .rintro⟨c,e,z⟩;have d:=Ab6.u e;rw[Aa2]at z;exact⟨c,e,by rw[Aa2];exact⟨(h.2 a c j d).u z.1,(q.2 c b d i).u z.2⟩⟩
 .rintro⟨c,e,z⟩;have d:=Ab6.u e;rw[Aa2]at z;exact⟨c,e,by rw[Aa2];exact⟨(h.2 a c j d).w z.1,(q.2 c b d i).w z.2⟩⟩⟩
def V.closed (h:V n s g)(q:Wf.fP n s r):V n r<|Wf.wr g n:=⟨q.lt,λa b d c=>(q.bit a b d c).j (Wf.kY (λx y e f=>(h.2 x y e f).symm) d c).symm⟩
end
open M renaming V.turned->Lake.M.V.C,V.joined->Lake.M.V.w,V.closed->Lake.M.V.A
abbrev J7(s:Tx):Nat->Nat->Bool:=λa b=>(s==qo)||((s==Xg)&&u9 (a=b))
abbrev cc(a b:Wo):D:=.w [a.u,b.u]
structure Pt(a b:Wo):Prop where
 rj:a.Ok
 Fq:b.Ok
 en:b.n=a.n
 eK:b.K=a.K
 eT:b.T=a.T
def Pt.ew (p:Pt a b):b.j=a.j:=by rw[Wo.words,Wo.words,p.eK,p.eT]
abbrev gU(a b:Wo)(d:D)(s:Tx)(e c f x7 x8:Option W):Sl:=[sv a.j,sv (cc a b),sv d,y0 (.s s),e,c,f,x7,x8]
abbrev bj(v u:Nat):D:=.w [.n v,.n u]
section
variable{m:Nat}{a b:Wo}{h:AH}
def lE:Gk F (.j<|.eV .L<|.p 1) (gU a b (.w<|s::ds) z x4 x5 x6 x7 x8) h=.j ds h:=by have e:cut (s::ds) (y0 1) u0=ds:=WM (s::ds) 1;refine MC ?_;show(if a8 (s::ds).e 0 (y0 1)=0/\a8 (s::ds).e (s::ds).e u0=(s::ds).e then R.fail else R.ok _ h)=_;rw[FM<|λc=>by have:=c.1;simp[a8]at this,e]
def zx(q:call prog m YC [.v a.j,.v (cc a b),.v d] h=.j (.v y) h):eval (k8 m) (.j YC<|.c .C .L .A) (GD (List.replicate 1 none++[0,1].j fun j=>Gi (gU a b v z x4 x5 x6 x7 x8) j) 0<|.v d) h=.j (.v y) h:=by simp_all
def ux{s:Tx}{ds:List D}{x:W}(g:(s==Zh)=y9){ps:List<|Nat×Nat}(i:ps.e<=2)
 (h1:eval (k8 m) Jv (gU a b (.w<|.u s::ds) s u0 u0 u0 u0 u0) h=.j (.j<|ps.j pD) h){d:D}
 (q:execs (k8 m) (match cw.j with|.j _ (.j _ (.j _ (.j _ (.j _ r))))=>r|r=>r) (gU a b (.w<|.u s::ds) s u0 (y0<|.l<|ps.j pD) (y0 (.l (ai (ps.j (·.1))))) (y0 (.l (ai (ps.j (·.2))))) u0) h=.u (.v d) h):
 call prog (m+1) YC [.v a.j,.v (cc a b),.t (.u s::ds)] h=.j (.v d) h:=by
 rw[Gb rfl _ _ _ rfl];simp only[cw]at q⊢;refine fx (by simp![ae,we];rfl) ?_;rw[xa<|by simp![zb,g]];have e:(ps.j pD).e<=bh:=by rw[Gf];simp;exact Y8
 rw[za (τ1:=gU a b _ s u0 _ u0 u0 u0)<|by rw[exec,h1];rfl];have e2:eval (k8 m) WD (gU a b (.w<|.u s::ds) s u0 (y0<|.l<|ps.j pD) u0 u0 u0) h=.j (.j (ai (ps.j (·.1)))) h:=by
  rw[WD,jm (λd=>match d with|.w [x,_]=>x|d=>d) (by simp![]) e]
  .simp[pD,ai,Re]
  .intro d c;obtain⟨p,_,rfl⟩:=Ab7.u c;exact⟨_,rfl,_,rfl,rfl⟩
 rw[za (τ1:=gU a b _ s u0 _ _ u0 u0)<|by rw[exec,e2];rfl];have f:eval (k8 m) QF (gU a b (.w<|.u s::ds) s u0 (y0<|.l<|ps.j pD) (y0 (.l (ai (ps.j (·.1))))) u0 u0) h=.j (.j (ai (ps.j (·.2)))) h:=by
  rw[QF,jm (λd=>match d with|.w [_,x]=>x|d=>d) (by simp![]) e]
  .simp[pD,ai,Re]
  .intro d c;obtain⟨p,_,rfl⟩:=Ab7.u c;exact⟨_,rfl,_,rfl,rfl⟩
 rw[za (τ1:=gU a b _ s u0 _ _ _ u0)<|by rw[exec,f];rfl,q,Ga _ _ _ rfl]
def ZF{s:Tx}{ds:List D}(g:(s==Zh)=y9)(c:(s==Qq)=y9){ps:List<|Nat×Nat}(e:ps.e<=2){v u:Nat}
 (h1:eval (k8 m) Jv (gU a b (.w<|.u s::ds) s u0 u0 u0 u0 u0) h=.j (.j<|ps.j pD) h)
 (f:call prog m YH [.i a.n,.s s,.l (ai (ps.j (·.1)))] h=.j (.i v) h)(d:call prog m YH [.i a.n,.s s,.l (ai (ps.j (·.2)))] h=.j (.i u) h):
 call prog (m+1) YC [.v a.j,.v (cc a b),.t (.u s::ds)] h=.j (.v<|bj v u) h:=by
 refine ux (x:=.v .U) g e h1 ?_;simp only[cw];rw[xa<|by simp![zb,c]];have i:cZ (.v<|cc a b) (.v<|.p 0) h=y0 a.u:=rfl;refine(za<|by simp![(rfl)];rfl).j ?_;rw[qa<|Ja rfl<|by simp![f,d];rfl]
def NK
 (h1:eval (k8<|k+1) Jv (gU a b (.w<|.u Qq::ds) Qq u0 u0 u0 u0 u0) h=.j (.j<|[(s,s'),(t,t')].j pD) h):
 call prog (k+2) YC [.v a.j,.v (cc a b),.t (.u Qq::ds)] h=.j (.v<|bj (s-(s&&&t'))<|s'-(s'&&&t)) h:=by
 refine ux (x:=.v .U) rfl Y7 h1 ?_;refine qa<|(Zo (h1:=h) ?_).j<|qa<|Ja rfl ?_
 .simp![zb];rfl
 .simp![Js,Qn,zh,QB k s t' h,QB k s' t h]
end
abbrev XL:Tx:=[110,111,116]
abbrev Zy:Tx:=[97,110,100]
abbrev jC:Tx:=[111,114]
inductive Sy where
|fact (f:Fc)
|neg (a:Sy)
|cv (a b:Sy)
|cI (a b:Sy)
open M renaming Sy.neg->Lake.M.Sy.u,Sy.fact->Lake.M.Sy.w
def aB:Sy->D
|.w f=>dT f
|.u a=>.w [.u XL,aB a]
|.cv a b=>.w [.u Zy,aB a,aB b]
|.cI a b=>.w [.u jC,aB a,aB b]
def Sy.wf (N:List Tx):Sy->Prop
|.w f=>f.wf N
|.u a=>a.wf N
|.cv a b=>a.wf N/\b.wf N
|.cI a b=>a.wf N/\b.wf N
open M renaming Sy.wf->Lake.M.Sy.y
def Sy.dp:Sy->Nat
|.w f=>f.dp
|.u a=>a.dp+1
|.cv a b=>max a.dp b.dp+1
|.cI a b=>max a.dp b.dp+1
open M renaming Sy.dp->Lake.M.Sy.j
def Ei(f)(wf:f.wf N):∃s ds,dT f=.w (.u s::ds)/\(s==XL)=y9/\(s==Zy)=y9/\(s==jC)=false:=by
 cases f with
|d8 a b=>exact⟨WI,_,rfl,rfl,rfl,rfl⟩
|eP a b=>exact⟨zc,_,rfl,rfl,rfl,rfl⟩
|eQ a=>exact⟨jk,_,rfl,rfl,rfl,rfl⟩
|au a=>exact⟨W7,_,rfl,rfl,rfl,rfl⟩
|cnt s j a=>
  have:∀s∈[Qa,jc,xb,qi],(s==XL)=y9/\(s==Zy)=y9/\(s==jC)=false:=by decide
  exact⟨s,_,rfl,this s wf.1⟩
noncomputable def aP:Option Bool->D
|none=>.U
|some b=>.I b
noncomputable def JY(a b:Bool):Option Bool:=if a then y0 k9 else if b then y0 y9 else u0
def eZ(r q:Option Bool):Option Bool:=JY (r==y0 k9&&q==y0 k9)<|r==y0 y9||q==y0 y9
def gk(r q:Option Bool):Option Bool:=JY (r==y0 k9||q==y0 k9)<|r==y0 y9&&q==y0 y9
def Qo(k)(a b)(h):call prog (k+1) "settled" [.b a,.b b] h=.j (.v<|aP<|JY a b) h:=by
 rw[Gb rfl _ _ _ rfl];simp[z9];cases a
 .cases b
  .simp![];rfl
  .simp![];rfl
 .simp![];rfl
def Fm(r)(b):Kw (.v<|aP r) (.b b)=y0 (r==y0 b):=by
 cases r with
|none=>rfl
|some c=>cases c<;>cases b<;>rfl
def lW(r)(b)(h):Gp .dI (.v<|aP r) (.b b) h=y0 (r==y0 b):=Fm r b
section
variable{k:Nat}{r q:Option Bool}{h:AH}
def KY:call prog (k+2) "not_told" [.v (aP r)] h=.j (.v (aP (r.j (!·)))) h:=by
 rw[Gb rfl _ _ _ rfl];simp only[XR];rw[qa<|Ja (d:=aP<|JY (r==y0 y9)<|r==y0 k9) (h1:=h) rfl<|by simp![lW,Qo],Ga _ _ _ rfl];cases r with
|none=>rfl
|some c=>cases c<;>rfl
def lM(h1:eval F e τ h=.j (.b a) h)(c:eval F f τ h=.j (.b b) h):eval F (.or e f) τ h=.j (.b<|a||b) h:=by
 rw[eval,h1];cases a
 .simp[c,UX]
 .simp[Ao0]
def W2(h1:eval F e τ h=.j (.b a) h)(c:eval F f τ h=.j (.b b) h):eval F (.and e f) τ h=.j (.b<|a&&b) h:=by
 rw[eval,h1];cases a
 .simp[Af7]
 .simp[c,Ae7]
def ZH(b)(e:Gi τ i=sv (aP r)):eval F (.B .dI (.var i)<|.bl b) τ h=.j (.b<|r==y0 b) h:=by simp[e,lW,R.ao]
def qR:call prog (k+2) "and_told" [.v (aP r),.v (aP q)] h=.j (.v<|aP<|eZ r q) h:=by rw[Gb rfl _ _ _ rfl];simp only[WP];show Gx _ (execs _ _ [sv _,sv _] h)=_;rw[qa<|Ja (d:=aP<|eZ r q) rfl<|by rw[eval,Gg,(W2 (ZH k9 rfl)<|ZH k9 rfl),R.ab,Gg,(lM (ZH y9 rfl)<|ZH y9 rfl)];simp only[R.ab,Gg,Ab2,Af9,W.cj,Qo];rfl,Ga _ _ _ rfl]
def NC:call prog (k+2) "or_told" [.v (aP r),.v (aP q)] h=.j (.v<|aP<|gk r q) h:=by rw[Gb rfl _ _ _ rfl];simp only[W1];show Gx _ (execs _ _ [sv _,sv _] h)=_;rw[qa<|Ja (d:=aP<|gk r q) rfl<|by rw[eval,Gg,(lM (ZH k9 rfl)<|ZH k9 rfl),R.ab,Gg,(W2 (ZH y9 rfl)<|ZH y9 rfl)];simp only[R.ab,Gg,Ab2,Af9,W.cj,Qo];rfl,Ga _ _ _ rfl]
end
def wJ{bs:List Bool}(q:eval F e τ h=.j (.j<|bs.j .I) h):eval F (.Z .any<|.j e .u) τ h=.j (.b<|bs.C id) h:=by rw[eval,Gg,q];simp[rZ,R.ao]
def sr(p)(l:List α):(l.j p).C id=l.C p:=by rw[Ar3];rfl
def Hr(n)(h):Gp .w (.i n) (.v<|.p 0) h=y0 (!u9 (n=0)):=by
 have this:Gp .j _ (.v<|.p 0) h=y0 _:=Qh n 0 h;rw[Sn]at this;rw[uF];split at this
 .rename_i c;rw[Da c];have:=Ae0.inj this;rw[←this]
 .cases this
def tw(n)(h):Gp .j (.i n) (.v<|.p 0) h=y0 (u9<|n=0):=Qh n 0 h
def dQ(v u a b:Nat):Option Bool:=JY (u9<|u-(u&&&a)=0)<|!u9 (v-(v&&&b)=0)
def Q5(k v u v' u')(h):call prog (k+2) "in_told" [.v (bj v u),.v (bj v' u')] h=.j (.v<|aP<|dQ v u v' u') h:=by rw[Gb rfl _ _ _ rfl];simp only[j5];rw[qa<|Ja (d:=aP<|dQ v u v' u') rfl<|by simp![ae,Qn,zh,QB k u v' h,QB k v u' h,tw,Hr,Qo];rfl,Ga _ _ _ rfl]
noncomputable def qS(s:Tx)(j:Nat)(l u:List Nat):Option Bool:=if s∈[Qa,xb]then JY (l.N λx=>u9<|j<=x) (u.C λx=>u9<|x<j)else JY (u.N λx=>u9<|x<=j) (l.C λx=>u9<|j<x)
def nZ(p)(m:l.e<=4)(e:Gi τ i=y0 (.l<|ai l))(a:Gi τ c=si j)(b:∀x:Nat,Gp o (.i x) (.i j) h=y0 (p x)):
 eval F (.M [0] k9 1 [c] (.j<|.var i) y9 (.bl k9)<|.B o .A .C) τ h=.j (.j<|(l.j p).j .I) h:=by
 have f:Gk F (.j<|.var i) τ h=.j (ai l) h:=by simp[e,R.ab]
 rw[jm (λd=>match d with|.p x=>.I<|p x.j|d=>d) f<|by rw[Gf,ai,Aa];exact Y8]
 .simp[Re]
 .intro k g;obtain⟨x,_,rfl⟩:=Ab7.u g;refine⟨[si x,si j],by simp only[Ab2,a];rfl,.b<|p x,?_,by simp⟩;simp![b]
def vd(j x)(h):Gp .le (.i x) (.i j) h=y0 (u9<|x<=j):=by rw[mJ];congr 1;exact decide_eq_decide.w Y6
def uC(j x)(h):Gp .ge (.i x) (.i j) h=y0 (u9<|j<=x):=by rw[Oh];congr 1;exact decide_eq_decide.w Y6
def oy(j x)(h):Gp .lt (.i x) (.i j) h=y0 (u9<|x<j):=by rw[m7];congr 1;exact decide_eq_decide.w Y6
def iQ(j x)(h):Gp .gt (.i x) (.i j) h=y0 (u9<|j<x):=by rw[yP];congr 1;exact decide_eq_decide.w Y6
def Be(n v)(s)(a:n<=4):(Wm n v s).e<=4:=by
 rw[Wm];split
 .simp
 .simp[QD];exact Y8
abbrev nT(n:Nat)(s:Tx)(j v u:Nat)(b a:Option W):Sl:=[si n,y0 (.s s),si j,sv (bj v u),b,a]
def xr(k n)(s)(j v u)(a:n<=4)(h):call prog (k+3) "count_told" [.i n,.s s,.i j,.v (bj v u)] h=.j (.v<|aP<|qS s j (Wm n v s)<|Wm n u s) h:=by
 rw[Gb rfl _ _ _ rfl];simp only[XG];refine fx (by simp![ae,Qn,Bw k n v s a h];rfl) ?_;refine fx (by simp![ae,zh,Bw k n u s a h];rfl) ?_;have b:=Be n v s a;have e:=Be n u s a;rw[qS];by_cases q:s∈[Qa,xb]
 .have e1:=nZ (F:=(k8<|k+2)) (τ:=nT n s j v u (y0<|.l _)<|y0<|.l<|ai<|Wm n u s) (i:=4) (c:=2) _ b rfl rfl λx=>uC j x h;have e2:=nZ (F:=(k8<|k+2)) (τ:=nT n s j v u (y0<|.l<|ai<|Wm n v s)<|y0<|.l _) (i:=5) (c:=2) _ e rfl rfl λx=>oy j x h;rw[Da q,qg (by simp![JZ,FB q])<|Ja (d:=aP<|JY ((Wm n v s).N λx=>u9<|j<=x)<|(Wm n u s).C λx=>u9<|x<j) rfl<|by rw[eval,Gg,Xw,WB e1,R.ab,Gg,Qw,wJ e2,rY,sr];simp only[R.ab,Gg,Ab2,Af9,W.cj,Qo],Ga _ _ _ rfl]
 .have e1:=nZ (F:=(k8<|k+2)) (τ:=nT n s j v u (y0<|.l<|ai<|Wm n v s)<|y0<|.l<|ai<|Wm n u s) (i:=5) (c:=2) _ e rfl rfl λx=>vd j x h;have e2:=nZ (F:=(k8<|k+2)) (τ:=nT n s j v u (y0<|.l<|ai<|Wm n v s)<|y0<|.l<|ai<|Wm n u s) (i:=4) (c:=2) _ b rfl rfl λx=>iQ j x h;rw[FM q,xa<|by simp![JZ,IR q],qa<|Ja (d:=aP<|JY ((Wm n u s).N λx=>u9<|x<=j)<|(Wm n v s).C λx=>u9<|j<x) (h1:=h) rfl<|by rw[eval,Gg,Ww,WB e1,R.ab,Gg,ww,wJ e2,rY,sr];simp only[R.ab,Gg,Ab2,Af9,W.cj,Qo],Ga _ _ _ rfl]
noncomputable abbrev Hg(a b:Wo)(d:D)(s:Tx)(v u:Nat)(c:Option W):Sl:=[sv a.j,sv (cc a b),sv d,y0 (.s s),si a.n,sv (bj v u),c]
section
variable{k m:Nat}{a b:Wo}{h:AH}{v u v' u':Nat}{e e':Ex}
def ZA(f:aW (.u s::ds) (-1)=y0 (aV e))(c:call prog m YC [.v a.j,.v (cc a b),.v (aV e)] h=.j (.v<|bj v u) h)
 (q:execs (k8 m) (match aX.j with|.j _ (.j _ (.j _ r))=>r|r=>r) (Hg a b (.w<|.u s::ds) s v u u0) h=.u (.v d) h):call prog (m+1) Yx [.v a.j,.v (cc a b),.t (.u s::ds)] h=.j (.v d) h:=by
 rw[Gb rfl _ _ _ rfl];simp only[aX]at q⊢;have i0:cZ (.v<|cc a b) (.v<|.p 0) h=y0 a.u:=rfl;refine fx (by simp![ae,we];rfl) ?_;refine fx (by simp![(rfl)];rfl) ?_;refine fx (by simp![ae,f,c];rfl) ?_;rw[q,Ga _ _ _ rfl]
variable(n4:a.n<=4)(e1:call prog (k+3) YC [.v a.j,.v (cc a b),.v (aV e)] h=.j (.v<|bj v u) h)(e2:call prog (k+3) YC [.v a.j,.v (cc a b),.v (aV e')] h=.j (.v<|bj v' u') h)
include n4 e1
def R4:call prog (k+4) Yx [.v a.j,.v (cc a b),.v (dT<|.eQ e)] h=.j (.v<|aP<|qS Qa 1 (Wm a.n v Qa)<|Wm a.n u Qa) h:=by refine ZA (uI _ _) e1 ?_;have c:=xr k a.n Qa 1 v u n4 h;have c:=c;simp only[aX];rw[qg (Wk (s:=jk) _ rfl)<|Ja rfl<|by assumption]
def F3:call prog (k+4) Yx [.v a.j,.v (cc a b),.v (dT<|.au e)] h=.j (.v<|aP<|qS jc 0 (Wm a.n v jc)<|Wm a.n u jc) h:=by refine ZA (uI _ _) e1 ?_;have c:=xr k a.n jc 0 v u n4 h;have c:=c;simp only[aX];rw[xa<|Wk (s:=W7) _ rfl,qg (Wk (s:=W7) _ rfl)<|Ja rfl<|by assumption]
def IV(d:s∈[Qa,jc,xb,qi]):call prog (k+4) Yx [.v a.j,.v (cc a b),.v (dT<|.cnt s j e)] h=.j (.v<|aP<|qS s j (Wm a.n v s)<|Wm a.n u s) h:=by
 refine ZA (QU _ _ _) e1 ?_;have c:=xr k a.n s j v u n4 h;have ne:=by
  have:∀s∈[Qa,jc,xb,qi],(s==jk)=y9/\(s==W7)=y9/\(s==WI)=y9/\(s==zc)=false:=by decide
  exact this s d
 simp only[aX];rw[xa<|(Wk _ rfl).j<|by rw[ne.1],xa<|(Wk _ rfl).j<|by rw[ne.2.1],xa<|(Wk _ rfl).j<|by rw[ne.2.2.1],xa<|(Wk _ rfl).j<|by rw[ne.2.2.2],qa<|Ja rfl<|by assumption]
include e2
theorem LA:call prog (k+4) Yx [.v a.j,.v (cc a b),.v (dT<|.d8 e' e)] h=.j (.v<|aP<|dQ v' u' v u) h:=by refine ZA (QU _ _ _) e1 ?_;simp only[aX];rw[xa<|Wk (s:=WI) _ rfl,xa<|Wk (s:=WI) _ rfl,qg (Wk (s:=WI) _ rfl)<|Ja rfl<|by simp![ae,Wr,e2,Q5];rfl]
theorem L4:call prog (k+4) Yx [.v a.j,.v (cc a b),.v (dT<|.eP e' e)] h=.j (.v<|aP<|eZ (dQ v' u' v u)<|dQ v u v' u') h:=by refine ZA (QU _ _ _) e1 ?_;simp only[aX];rw[xa<|Wk (s:=zc) _ rfl,xa<|Wk (s:=zc) _ rfl,xa<|Wk (s:=zc) _ rfl];refine qa<|(Zo<|Wk (s:=zc) _ rfl).j ?_;refine(za<|by simp![ae,Wr,e2];rfl).j ?_;exact qa<|Ja rfl<|by simp![Q5,qR]
end
def V.leaf:V n (Wf.bH n) (J7 Xg)/\V n (2^(n*n)-1) (J7 qo)/\V n 0 (J7 Jh):=by
 refine⟨⟨Wf.gW _,λa b d c=>?_⟩,⟨Nat.sub_lt (Ae _) Y5,λa b d c=>?_⟩,⟨Ae _,λa b d c=>?_⟩⟩
 .rw[Wf.fi d c,L2];show _↔(y9||(k9&&decide _))=k9;simp
 .rw[Ag9,FB<|Wf.place_lt d c];show _↔(k9||(y9&&decide _))=k9;simp
 .rw[Ag4];show _↔(y9||(y9&&decide _))=k9;simp
noncomputable def bb(w:Wo)(t:Tx)(x y:Nat):Bool:=if t∈w.T then(w.ts.I (du t w.T) 0).j (x*w.n+y)else u9 (x=y)&&(w.ks.I (du t w.K) 0).j x
def yG(w)(t)(x y):bb w t x y=k9↔gd w (.u t) x y:=by
 show _↔w.at t x y;unfold bb Wo.at;split
 .exact Iff.rfl
 .rw[Aa2,L2]
def bt(a b:Wo):Bool->Ex->Nat->Nat->Bool
|false,.u t=>bb a t
|true,.u t=>bb b t
|_,.same=>J7 Xg
|_,.all=>J7 qo
|_,.x=>J7 Jh
|p,.C e=>λx y=>bt a b p e y x
|p,.A e=>Wf.wr (bt a b p e) a.n
|p,.plus e f=>λx y=>bt a b p e x y||bt a b p f x y
|p,.less e f=>λx y=>bt a b p e x y&&!bt a b (!p) f x y
|p,.both e f=>λx y=>bt a b p e x y&&bt a b p f x y
|p,.w e f=>λx y=>(Aa6 a.n).C λc=>bt a b p e x c&&bt a b p f c y
def M9(w):∀e p,bt w w p e=bt w w k9 e:=by
 intro e;induction e with
|turned e b=>intro p;simp[bt,b p]
|closed e b=>intro p;simp[bt,b p]
|plus e f b a=>intro p;simp[bt,b p,a p]
|less e f b a=>intro p;simp[bt,b p,a _]
|both e f b a=>intro p;simp[bt,b p,a p]
|joined e f b a=>intro p;simp[bt,b p,a p]
|_=>intro p;cases p<;>rfl
structure Le(a c:Wo):Prop where
 en:c.n=a.n
 nm:∀t x y,bb a t x y=k9->bb c t x y=k9
def Le.refl (a):Le a a:=⟨rfl,λ_ _ _ h=>h⟩
theorem nu(h:∀x y,g x y=k9->g' x y=k9):∀k x y,Wf.wr g k x y=k9->Wf.wr g' k x y=k9
|0,x,y,z=>h x y z
|k+1,x,y,z=>by rw[Wf.wr,Ae5,Aa2]at z⊢;exact z.j (λz=>.u<|nu h k x y z) λz=>.w ⟨nu h k _ _ z.1,nu h k _ _ z.2⟩
def BW(h:∀c,f c=k9->g c=k9)(l:List Nat)(z:l.C f=k9):l.C g=true:=by rw[Ad8]at z⊢;exact let⟨c,b,a⟩:=z;⟨c,b,h c a⟩
def qY(L:Le a a')(h:Le b' b):∀e x y,(bt a b y9 e x y=k9->bt a' b' y9 e x y=k9)/\(bt a' b' k9 e x y=k9->bt a b k9 e x y=k9):=by
 intro e;induction e with
|name t=>exactλx y=>⟨L.nm t x y,h.nm t x y⟩
|turned e g=>exactλx y=>g y x
|closed e g=>intro x y;simp[bt,L.en];exact⟨nu (λx y=>(g x y).1) _ x y,nu (λx y=>(g x y).2) _ x y⟩
|plus e f g d=>intro x y;simp[bt,Ae5];exact⟨λz=>z.j (λz=>.u<|(g x y).1 z) λz=>.w<|(d x y).1 z,λz=>z.j (λz=>.u<|(g x y).2 z) λz=>.w<|(d x y).2 z⟩
|less e f g d=>intro x y;simp only[bt,Aa2,Ag5,←Ar7];exact⟨λz=>⟨(g x y).1 z.1,λq=>z.2<|(d x y).2 q⟩,λz=>⟨(g x y).2 z.1,λq=>z.2<|(d x y).1 q⟩⟩
|both e f g d=>intro x y;simp only[bt,Aa2];exact⟨λz=>⟨(g x y).1 z.1,(d x y).1 z.2⟩,λz=>⟨(g x y).2 z.1,(d x y).2 z.2⟩⟩
|joined e f g d=>intro x y;simp only[bt,L.en];exact⟨BW (λc z=>by rw[Aa2]at z⊢;exact⟨(g x c).1 z.1,(d c y).1 z.2⟩) _,BW (λc z=>by rw[Aa2]at z⊢;exact⟨(g x c).2 z.1,(d c y).2 z.2⟩) _⟩
|_=>exactλx y=>⟨id,id⟩
def Sub(v w:Nat):Prop:=∀k,v.j k=k9->w.j k=k9
def V.sub (h:V n v g)(q:V n w f)(d:∀x y,g x y=k9->f x y=k9):Sub v w:=λk z=>by
 by_cases a:k<n*n
 .have c:=h.2 _ _ (Wf.bf a)<|Wf.aZ a;have b:=q.2 _ _ (Wf.bf a)<|Wf.aZ a;rw[Wf.bw]at c b;exact b.w<|d _ _<|c.u z
 .rw[Ak3<|Ab3 h.1<|Ad6 Y5<|Nat.not_lt.u a]at z;cases z
def Sub.and (h:Sub v w):v&&&w=v:=Al λk=>by
 rw[Ai1];cases q:v.j k with
|false=>rfl
|true=>rw[h k q];rfl
def sub_zero:v-(v&&&w)=0↔Sub v w:=by refine⟨λh k z=>?_,λh=>by rw[h.and,Ap8]⟩;have e:=congrArg (·.j k) h;simp[Wf.aQ,z,Ae7]at e;simpa using e
structure B(a b:Wo)(e:Ex)(v u:Nat):Prop where
 lo:V a.n v<|bt a b y9 e
 hi:V a.n u<|bt a b k9 e
open M renaming B.lo->Lake.M.B.j,B.hi->Lake.M.B.u
section
variable{a b a' b':Wo}{e:Ex}{v u w z:Nat}
def B.mono (h:B a b e v u)(q:B a' b' e w z)(L:Le a a')(c:Le b' b):Sub v w/\Sub z u:=
 ⟨V.sub h.j (L.en▸q.j) λx y=>(qY L c e x y).1,V.sub (L.en▸q.u) h.u λx y=>(qY L c e x y).2⟩
def B.in(h:B a b e v u)(L:Le a b):Sub v u:=V.sub h.j h.u λx y q=>(qY (Le.refl a) L e x y).2<|M9 a e y9▸(qY (Le.refl a) L e x y).1 q
end
def xK(h:a=k9->a'=k9)(q:b=k9->b'=k9)(n:a'=k9->b'=k9->False)(e:JY a b=y0 x):JY a' b'=y0 x:=by
 cases a with
|true=>rwa [h rfl]
|false=>
  cases b with
|false=>cases e
|true=>
   rw[q rfl];cases a' with
|true=>exact(n rfl<|q rfl).j
|false=>exact e
def DB(a):JY a (!a)=y0 a:=by cases a<;>rfl
def QT(h:Sub v w/\Sub z u)(q:Sub v' w'/\Sub z' u')(h1:Sub w z)(c:Sub w' z')(e:dQ v u v' u'=y0 x):dQ w z w' z'=y0 x:=by
 refine xK (λk=>?_) (λk=>?_) (λk b=>?_) e
 .rw[L2,sub_zero]at k⊢;exactλi a=>q.1 i<|k i<|h.2 i a
 .rw[Ag5,SL,sub_zero]at k⊢;exactλl=>k λi a=>q.2 i<|l i<|h.1 i a
 .rw[L2,sub_zero]at k;rw[Ag5,SL,sub_zero]at b;exact b λi a=>c i<|k i<|h1 i a
def dM:List Nat->List Nat->Prop
|[],[]=>True
|x::xs,y::ys=>x<=y/\dM xs ys
|_,_=>False
theorem dM.map (h:∀x,f x<=g x):∀l:List Nat,dM (l.j f)<|l.j g
|[]=>trivial
|x::l=>⟨h x,dM.map h l⟩
theorem dM.sum:∀{l m},dM l m->l.sum<=m.sum
|[],[],_=>Ab0 _
|x::a,y::b,h=>by exact UP h.1<|dM.sum h.2
|[],_::_,h=>h.j
|_::_,[],h=>h.j
theorem dM.all (a:∀x y,x<=y->p x=k9->q y=k9):∀{l m},dM l m->l.N p=k9->m.N q=k9
|[],[],_,_=>rfl
|x::b,y::c,h,z=>by rw[Am0,Aa2]at z⊢;exact⟨a x y h.1 z.1,dM.all a h.2 z.2⟩
|[],_::_,h,_=>h.j
|_::_,[],h,_=>h.j
theorem dM.dn (a:∀x y,x<=y->p y=k9->q x=k9):∀{l m},dM l m->m.N p=k9->l.N q=k9
|[],[],_,_=>rfl
|x::b,y::c,h,z=>by rw[Am0,Aa2]at z⊢;exact⟨a x y h.1 z.1,dM.dn a h.2 z.2⟩
|[],_::_,h,_=>h.j
|_::_,[],h,_=>h.j
def vh(p q)(h:∀x,p x=!q x)(l:List Nat):l.C p=!l.N q:=by
 induction l with
|nil=>rfl
|cons x l a=>rw[Ah6,Am0,a,h x,Bool.not_and]
def AL(j x:Nat):u9 (x<j)=!u9 (j<=x):=by grind
def AV(s)(j)(l u):qS s j l u=if s∈[Qa,xb]then JY (l.N λx=>u9<|j<=x) (!u.N λx=>u9<|j<=x)else JY (u.N λx=>u9<|x<=j) (!l.N λx=>u9<|x<=j):=by rw[qS,vh _ (λx=>decide _)<|λx=>AL j x,vh (λx=>decide _) (λx=>decide _)<|λx=>AL x j]
def Mf(h:dM l l')(q:dM u' u)(n:dM l' u')(e:qS s j l u=y0 x):qS s j l' u'=y0 x:=by
 have up:∀x y:Nat,x<=y->u9 (j<=x)=k9->u9 (j<=y)=true:=λx y h k=>by rw[L2]at k⊢;exact Ab4 ‹_› ‹_›
 have dn:∀x y:Nat,x<=y->u9 (y<=j)=k9->u9 (x<=j)=true:=λx y h k=>by rw[L2]at k⊢;exact Ab4 ‹_› ‹_›
 rw[AV]at e⊢;split at e
 .rename_i c;rw[Da c];refine xK (λk=>h.all up k) (λk=>?_) (λk a=>?_) e
  .rw[Ag5,←Ar7]at k⊢;exactλl=>k<|q.all up l
  .rw[n.all up k]at a;cases a
 .rename_i c;rw[FM c];refine xK (λk=>q.dn dn k) (λk=>?_) (λk a=>?_) e
  .rw[Ag5,←Ar7]at k⊢;exactλl=>k<|h.dn dn l
  .rw[n.dn dn k]at a;cases a
def pz(s)(h:Sub v w):dM (Wm n v s)<|Wm n w s:=by
 have r:dM (QD n v)<|QD n w:=dM.map (λa=>dM.sum<|dM.map (λb=>by
  unfold tb;cases q:v.j (a*n+b)with
|false=>exact Ag0 _
|true=>rw[h _ q];exact Ab0 _) _) _
 unfold Wm;split
 .exact⟨r.sum,trivial⟩
 .exact r
def jM(s)(j)(l):qS s j l l=y0 (yb s j l):=by rw[AV,yb];split<;>exact DB _
def jY(v u):dQ v v u u=y0 (u9<|v-(v&&&u)=0):=DB _
def hY(a b:Wo):Fc->Option Bool->Prop
|.d8 x y,r=>∃v u v' u',B a b x v u/\B a b y v' u'/\r=dQ v u v' u'
|.eP x y,r=>∃v u v' u',B a b x v u/\B a b y v' u'/\r=eZ (dQ v u v' u') (dQ v' u' v u)
|.eQ x,r=>∃v u,B a b x v u/\r=qS Qa 1 (Wm a.n v Qa) (Wm a.n u Qa)
|.au x,r=>∃v u,B a b x v u/\r=qS jc 0 (Wm a.n v jc) (Wm a.n u jc)
|.cnt s j x,r=>∃v u,B a b x v u/\r=qS s j (Wm a.n v s) (Wm a.n u s)
def Td(a b:Wo):Sy->Option Bool->Prop
|.w f,r=>hY a b f r
|.u s,r=>∃q,Td a b s q/\r=q.j (!·)
|.cv s t,r=>∃p q,Td a b s p/\Td a b t q/\r=eZ p q
|.cI s t,r=>∃p q,Td a b s p/\Td a b t q/\r=gk p q
def Az(h:∀x,p=y0 x->p'=y0 x)(k:∀x,q=y0 x->q'=y0 x)(e:eZ p q=y0 x):eZ p' q'=y0 x:=by
 rcases p with _|_|_<;>rcases q with _|_|_<;>cases e<;>(first|rw[h _ rfl]|skip)<;>(first|rw[k _ rfl]|skip)<;>first|rfl|(rcases p' with _|_|_<;>rfl)|(rcases q' with _|_|_)
def FE(h:∀x,p=y0 x->p'=y0 x)(k:∀x,q=y0 x->q'=y0 x)(e:gk p q=y0 x):gk p' q'=y0 x:=by
 rcases p with _|_|_<;>rcases q with _|_|_<;>cases e<;>(first|rw[h _ rfl]|skip)<;>(first|rw[k _ rfl]|skip)<;>first|rfl|(rcases p' with _|_|_<;>rfl)|(rcases q' with _|_|_)
theorem hY.mono (L:Le a a')(g:Le b' b)(k:Le a' b')(h:hY a b f r)(q:hY a' b' f r')(e:r=y0 x):r'=y0 x:=by
 have cnt:∀{y}{v u l n}{s}{j},B a b y v u->B a' b' y l n->qS s j _ _=y0 x->qS s j (Wm a'.n l s) (Wm a'.n n s)=y0 x:=λd c e=>by have m:=d.mono c L g;rw[L.en];exact Mf (pz _ m.1) (pz _ m.2) (pz _<|c.in k) e
 cases f with
|d8 y z=>obtain⟨v,u,l,n,d,o,rfl⟩:=h;obtain⟨w,t,p,A,c,i,rfl⟩:=q;exact QT (d.mono c L g) (o.mono i L g) (c.in k) (i.in k) e
|eP y z=>obtain⟨v,u,l,n,d,o,rfl⟩:=h;obtain⟨w,t,p,A,c,i,rfl⟩:=q;exact Az (λx=>QT (d.mono c L g) (o.mono i L g) (c.in k)<|i.in k) (λx=>QT (o.mono i L g) (d.mono c L g) (i.in k)<|c.in k) e
|eQ y=>obtain⟨v,u,d,rfl⟩:=h;obtain⟨w,t,c,rfl⟩:=q;exact cnt d c e
|au y=>obtain⟨v,u,d,rfl⟩:=h;obtain⟨w,t,c,rfl⟩:=q;exact cnt d c e
|cnt s j y=>obtain⟨v,u,d,rfl⟩:=h;obtain⟨w,t,c,rfl⟩:=q;exact cnt d c e
theorem Td.mono (L:Le a a')(d:Le b' b)(g:Le a' b'):∀s r r' x,Td a b s r->Td a' b' s r'->r=y0 x->r'=y0 x
|.w f,r,r',x,h,q,e=>hY.mono L d g h q e
|.u s,r,r',x,z7,z8,e=>by
  obtain⟨p,h,i⟩:=z7;obtain⟨w,q,c⟩:=z8;rw[c];rw[i]at e;cases p with
 |none=>cases e
 |some y=>rw[Td.mono L d g s _ _ y h q rfl];exact e
|.cv s t,r,r',x,z7,z8,e=>by obtain⟨n,v,k,m,i⟩:=z7;obtain⟨u,o,j,l,c⟩:=z8;rw[c];rw[i]at e;exact Az (λy z=>Td.mono L d g s _ _ y k j z) (λy z=>Td.mono L d g t _ _ y m l z) e
|.cI s t,r,r',x,z7,z8,e=>by obtain⟨n,v,k,m,i⟩:=z7;obtain⟨u,o,j,l,c⟩:=z8;rw[c];rw[i]at e;exact FE (λy z=>Td.mono L d g s _ _ y k j z) (λy z=>Td.mono L d g t _ _ y m l z) e
def Jp(P:Pt a b)(h):∀e m,e.j+7<=m->e.y (a.K++a.T)->∃v u,B a b e v u/\call prog m YC [.v a.j,.v (cc a b),.v (aV e)] h=.j (.v<|bj v u) h:=by
 have n4:=P.rj.wl.n4;have leaf:∀e s k v,aV e=.w [.u s]->(s==Zh)=y9->(s==Qq)=y9->V a.n v (bt a b y9 e)->V a.n v (bt a b k9 e)->(∀l,call prog (k+5) YH [.i a.n,.s s,.l l] h=.j (.i v) h)->∃v u,B a b e v u/\call prog (k+6) YC [.v a.j,.v (cc a b),.v (aV e)] h=.j (.v<|bj v u) h:=by intro e s k v I J L w z f;rw[I];exact⟨v,v,⟨w,z⟩,ZF (ps:=[]) J L Y7 (F7 lE) (f _)<|f _⟩
 intro e;induction e with
|name t=>intro m f wf;obtain⟨k,rfl⟩:∃k,m=k+6:=⟨m-6,by simp[Ex.dp]at f;lia⟩;obtain⟨v,w,e1⟩:=Qu (k+1) P.rj t wf h;obtain⟨u,z,e2⟩:=Qu (k+1) P.Fq t (by rwa [P.eK,P.eT]) h;have G:V b.n u _:=⟨z.1,λx y D C=>(z.2 x y D C).j (yG b t x y).symm⟩;rw[P.en]at G;rw[P.ew]at e2;refine⟨v,u,⟨(⟨w.1,λx y D C=>(w.2 x y D C).j (yG a t x y).symm⟩),G⟩,?_⟩;rw[Gb rfl _ _ _ rfl];simp only[cw,aV];have i0:cZ (.v<|cc a b) (.v<|.p 0) h=y0 a.u:=rfl;have i1:cZ (.v<|cc a b) (.v<|.p 1) h=y0 b.u:=rfl;refine fx (by simp![ae,we];rfl) ?_;rw[qa<|(Zo<|Wk (s:=Zh) _ rfl).j ?_,Ga _ _ _ rfl];refine(za<|by simp![ae,zh];rfl).j ?_;exact qa<|Ja rfl<|by simp![i0,i1,e1,e2]
|same=>intro m f wf;obtain⟨k,rfl⟩:∃k,m=k+6:=⟨m-6,by simp[Ex.dp]at f;lia⟩;exact leaf .same Xg k _ rfl rfl rfl V.leaf.1 V.leaf.1 λl=>OP k a.n l h n4
|all=>intro m f wf;obtain⟨k,rfl⟩:∃k,m=k+6:=⟨m-6,by simp[Ex.dp]at f;lia⟩;exact leaf .all qo k _ rfl rfl rfl V.leaf.2.1 V.leaf.2.1 λl=>Od k a.n l h n4
|none=>intro m f wf;obtain⟨k,rfl⟩:∃k,m=k+6:=⟨m-6,by simp[Ex.dp]at f;lia⟩;exact leaf .x Jh k _ rfl rfl rfl V.leaf.2.2 V.leaf.2.2 λl=>IS k a.n l h
|turned c F=>intro m f wf;simp only[Ex.dp]at f;obtain⟨k,rfl⟩:=nk m 6<|Ab4 (Fk _ _) ‹_›;obtain⟨v,u,q,e1⟩:=F (k+5) (On ‹_›) wf;exact⟨_,_,⟨q.j.C,q.u.C⟩,ZF (ps:=[(v,u)]) rfl rfl Y7 (vf lE<|zx e1) (JN k a.n v h n4)<|JN k a.n u h n4⟩
|closed c F=>intro m f wf;simp only[Ex.dp]at f;obtain⟨k,rfl⟩:=nk m 6<|Ab4 (Fk _ _) ‹_›;obtain⟨v,u,q,e1⟩:=F (k+5) (On ‹_›) wf;obtain⟨r,H,K⟩:=wO k a.n v h n4 q.j.1;obtain⟨M,A,E⟩:=wO k a.n u h n4 q.u.1;exact⟨_,_,⟨q.j.A H,q.u.A A⟩,ZF (ps:=[(v,u)]) rfl rfl Y7 (vf lE<|zx e1) K E⟩
|plus c d j i=>intro m f wf;simp only[Ex.dp]at f;obtain⟨k,rfl⟩:=nk m 6<|Ab4 (Fk _ _) ‹_›;obtain⟨v,u,q,e1⟩:=j (k+5) Y6 wf.1;obtain⟨o,p,n,g⟩:=i (k+5) Y6 wf.2;exact⟨_,_,⟨q.j.plus n.j,q.u.plus n.u⟩,ZF (ps:=[(v,u),(o,p)]) rfl rfl Y7 (x3 lE (zx e1)<|zx g) (w6 k a.n v o h)<|w6 k a.n u p h⟩
|less c d j i=>intro m f wf;simp only[Ex.dp]at f;obtain⟨k,rfl⟩:=nk m 6<|Ab4 (Fk _ _) ‹_›;obtain⟨v,u,q,e1⟩:=j (k+5) Y6 wf.1;obtain⟨o,p,n,g⟩:=i (k+5) Y6 wf.2;exact⟨_,_,⟨q.j.less n.u,q.u.less n.j⟩,NK<|x3 lE (zx e1)<|zx g⟩
|both c d j i=>intro m f wf;simp only[Ex.dp]at f;obtain⟨k,rfl⟩:=nk m 6<|Ab4 (Fk _ _) ‹_›;obtain⟨v,u,q,e1⟩:=j (k+5) Y6 wf.1;obtain⟨o,p,n,g⟩:=i (k+5) Y6 wf.2;exact⟨_,_,⟨q.j.both n.j,q.u.both n.u⟩,ZF (ps:=[(v,u),(o,p)]) rfl rfl Y7 (x3 lE (zx e1)<|zx g) (vy k a.n v o h)<|vy k a.n u p h⟩
|joined c d j i=>intro m f wf;simp only[Ex.dp]at f;obtain⟨k,rfl⟩:=nk m 6<|Ab4 (Fk _ _) ‹_›;obtain⟨v,u,q,e1⟩:=j (k+5) Y6 wf.1;obtain⟨o,p,n,g⟩:=i (k+5) Y6 wf.2;exact⟨_,_,⟨q.j.w n.j,q.u.w n.u⟩,ZF (ps:=[(v,u),(o,p)]) rfl rfl Y7 (x3 lE (zx e1)<|zx g) (XJ k a.n v o h n4)<|XJ k a.n u p h n4⟩
def LG(P:Pt a b)(h)(f)(m)(c:f.dp+7<=m)(wf:f.wf<|a.K++a.T):∃r,hY a b f r/\call prog (m+1) Yx [.v a.j,.v (cc a b),.v (dT f)] h=.j (.v<|aP r) h:=by
 have n4:=P.rj.wl.n4;obtain⟨k,rfl⟩:=nk m 3<|Ab4 (Fk _ _) ‹_›;cases f with
|d8 x y=>simp[Fc.dp]at c;obtain⟨g,i,l,d⟩:=Jp P h x (k+3) Y6 wf.1;obtain⟨v,u,q,e⟩:=Jp P h y (k+3) Y6 wf.2;exact⟨_,⟨g,i,v,u,l,q,rfl⟩,LA n4 e d⟩
|eP x y=>simp[Fc.dp]at c;obtain⟨g,i,l,d⟩:=Jp P h x (k+3) Y6 wf.1;obtain⟨v,u,q,e⟩:=Jp P h y (k+3) Y6 wf.2;exact⟨_,⟨g,i,v,u,l,q,rfl⟩,L4 n4 e d⟩
|eQ x=>obtain⟨v,u,q,e⟩:=Jp P h x _ c wf;exact⟨_,⟨v,u,q,rfl⟩,R4 n4 e⟩
|au x=>obtain⟨v,u,q,e⟩:=Jp P h x _ c wf;exact⟨_,⟨v,u,q,rfl⟩,F3 n4 e⟩
|cnt s j x=>obtain⟨v,u,q,e⟩:=Jp P h x _ c wf.2;exact⟨_,⟨v,u,q,rfl⟩,IV n4 e wf.1⟩
abbrev OC(a b:Wo)(d:D)(s:Tx):Sl:=[sv a.j,sv (cc a b),sv d,y0 (.s s)]
section
variable{m k:Nat}{a b:Wo}{h:AH}{x y:D}{r q:Option Bool}
def jJ(z:execs (k8 m) (match cG.j with|.j _ r=>r|r=>r) (OC a b (.w<|.u s::ds) s) h=.u (.v d) h):call prog (m+1) YE [.v a.j,.v (cc a b),.t (.u s::ds)] h=.j (.v d) h:=by rw[Gb rfl _ _ _ rfl];simp only[cG]at z⊢;refine fx (by simp![ae,we];rfl) ?_;rw[z,Ga _ _ _ rfl]
def RZ(c:call prog (k+2) YE [.v a.j,.v (cc a b),.v x] h=.j (.v<|aP r) h):call prog (k+3) YE [.v a.j,.v (cc a b),.t [.u XL,x]] h=.j (.v (aP (r.j (!·)))) h:=by refine jJ ?_;simp only[cG];rw[qg (Wk (s:=XL) _ rfl)<|Ja rfl<|by simp![ae,Wr,c,KY];rfl]
def IJ(c:call prog (k+2) YE [.v a.j,.v (cc a b),.v x] h=.j (.v<|aP r) h)(d:call prog (k+2) YE [.v a.j,.v (cc a b),.v y] h=.j (.v<|aP q) h):call prog (k+3) YE [.v a.j,.v (cc a b),.t [.u Zy,x,y]] h=.j (.v<|aP<|eZ r q) h:=by refine jJ ?_;simp only[cG];rw[xa<|Wk (s:=Zy) _ rfl,qg (Wk (s:=Zy) _ rfl)<|Ja rfl<|by simp![ae,Wr,xH,c,d,qR];rfl]
def HL(c:call prog (k+2) YE [.v a.j,.v (cc a b),.v x] h=.j (.v<|aP r) h)(d:call prog (k+2) YE [.v a.j,.v (cc a b),.v y] h=.j (.v<|aP q) h):call prog (k+3) YE [.v a.j,.v (cc a b),.t [.u jC,x,y]] h=.j (.v<|aP<|gk r q) h:=by refine jJ ?_;simp only[cG];rw[xa<|Wk (s:=jC) _ rfl,xa<|Wk (s:=jC) _ rfl,qg (Wk (s:=jC) _ rfl)<|Ja rfl<|by simp![ae,Wr,xH,c,d,NC];rfl]
def Iu(wf:f.wf N)(e:call prog m Yx [.v a.j,.v (cc a b),.v (dT f)] h=.j (.v<|aP r) h):call prog (m+1) YE [.v a.j,.v (cc a b),.v (dT f)] h=.j (.v<|aP r) h:=by obtain⟨s,j,c,i,g,d⟩:=Ei f wf;rw[c]at e⊢;refine jJ ?_;simp only[cG];rw[xa<|(Wk _ rfl).j<|by rw[i],xa<|(Wk _ rfl).j<|by rw[g],xa<|(Wk _ rfl).j<|by rw[d],qa<|Ja rfl<|by assumption]
end
def ED(P:Pt a b)(h):∀s m,s.j+9<=m->s.y (a.K++a.T)->∃r,Td a b s r/\call prog m YE [.v a.j,.v (cc a b),.v (aB s)] h=.j (.v<|aP r) h:=by
 intro s;induction s with
|fact f=>intro m d wf;simp[Sy.dp]at d;obtain⟨k,rfl⟩:=nk m 2<|Ab4 (Fk _ _) ‹_›;obtain⟨r,t,e⟩:=LG P h f k Y6 wf;exact⟨r,t,Iu wf e⟩
|neg x l=>intro m d wf;simp[Sy.dp]at d;obtain⟨k,rfl⟩:=nk m 3<|Ab4 (Fk _ _) ‹_›;obtain⟨r,t,e⟩:=l (k+2) (On ‹_›) wf;exact⟨_,⟨r,t,rfl⟩,RZ e⟩
|cv x y g c=>intro m d wf;simp[Sy.dp]at d;obtain⟨k,rfl⟩:=nk m 3<|Ab4 (Fk _ _) ‹_›;obtain⟨r,t,e⟩:=g (k+2) Y6 wf.1;obtain⟨q,j,i⟩:=c (k+2) Y6 wf.2;exact⟨_,⟨r,q,t,j,rfl⟩,IJ e i⟩
|cI x y g c=>intro m d wf;simp[Sy.dp]at d;obtain⟨k,rfl⟩:=nk m 3<|Ab4 (Fk _ _) ‹_›;obtain⟨r,t,e⟩:=g (k+2) Y6 wf.1;obtain⟨q,j,i⟩:=c (k+2) Y6 wf.2;exact⟨_,⟨r,q,t,j,rfl⟩,HL e i⟩
mutual
theorem Nr:∀{d:D},Gc d=k9->cD d d=k9
|.U,_=>rfl
|.I b,_=>by simp
|.p i,_=>by simp
|.u s,_=>by simp
|.w xs,h=>by rw[cD];exact GI<|by simpa[Gc]using h
|.x xs,h=>by rw[cD];exact GI<|by simpa[Gc]using h
|.j _,h=>by simp at h
theorem GI:∀{xs:List D},Gd xs=k9->GM xs xs=k9
|[],_=>rfl
|x::xs,h=>by
  have h':Gc x=k9/\Gd xs=true:=by simpa[Gd]using h
  rw[GM,Nr h'.1,GI h'.2];rfl
end
mutual
theorem sU{h:AH}:∀{d:D},Gc d=k9->res h d=d
|.U,_=>rfl
|.I b,_=>rfl
|.p i,_=>rfl
|.u s,_=>rfl
|.w xs,q=>by rw[res,GJ<|by simpa[Gc]using q]
|.x xs,q=>by rw[res,GJ<|by simpa[Gc]using q]
|.j _,q=>by simp at q
theorem GJ{h:AH}:∀{xs:List D},Gd xs=k9->GT h xs=xs
|[],_=>rfl
|x::xs,q=>by
  have h':Gc x=k9/\Gd xs=true:=by simpa[Gd]using q
  rw[GT,sU h'.1,GJ h'.2]
end
theorem Xf(f)(a:∀x,Gc (f x)=k9):∀l:List α,Gd (l.j f)=k9
|[]=>rfl
|x::l=>by simp[a x,Xf f a l]
theorem ZX(f)(k)(a:∀x,dep (f x)<=k):∀l:List α,GN (l.j f)<=k
|[]=>Ag0 _
|x::l=>by have c:=a x;have b:=ZX f k a l;exact Nat.max_le.w ⟨c,b⟩
def qx:D->Bool
|.p _=>k9
|_=>y9
noncomputable def qs(d:D)(e:Int):Bool:=match d with
|.p i=>u9 (0<=i)&&u9 (i<e)
|_=>y9
def JC(k)(d)(h)(a:Gc d=k9):call prog (k+1) "is_whole" [.v d] h=.j (.b<|qx d) h:=by
 cases d<;>first|exact Ga _ _ _ rfl|cases a
def XF(k)(d)(e)(h)(a:Gc d=k9):call prog (k+2) "is_below" [.v d,.v (.p e)] h=.j (.b<|qs d e) h:=by
 rw[Gb rfl _ _ _ rfl];have b:=JC k d h a;cases d with
|int i=>simp[b,jD,qx,qs,Gi];by_cases c:0<=i<;>simp[c]
|_=>first|(simp[b,jD,qx,qs,Gi])|(simp at a)
def XW(g f)(l:List α)(e:Gk F it τ h=.j (l.j g) h)(n:l.e<=1000)(d:∀x∈l,∃L w,Gr tg one (g x) (Aa7 k u0++ax.j λj=>Gi τ j)=y0 L/\eval F elt L h=.j w h/\w.d=y0 (f x)):eval F (.M tg one k ax it y9 (.bl k9) elt) τ h=.j (.j<|l.j f) h:=by
 rw[eval,e,R.ab,Da<|by rw[Gf,Aa];exact Y8];have c:∀step (l:List α),(∀x∈l,step (g x) h=.j (y0<|f x) h)->Gu step (l.j g) h=.j (l.j f) h:=λstep l=>by
  induction l with
|nil=>intro _;rfl
|cons x l i=>intro a;rw[Ab2,Gu,a x Aa4];simp[i λy m=>a y<|Aa3 _ m,Ab2]
 rw[c _ l λx a=>?_]
 .rfl
 .obtain⟨L,w,b,e1,e2⟩:=d x a;simp only[b];show((eval F elt L h).u _)=_;rw[e1];simp[e2,R.ao]
def Jy(l):Gd (ai l)=true:=Xf _ (λ_=>rfl) l
def rf(l):GN (ai l)<=0:=ZX _ 0 (λ_=>Ab0 _) l
def Ee(k)(d)(h)(a:Gc d=k9):call prog (k+3) "is_size" [.v d] h=.j (.b<|qs d 5) h:=by rw[Gb rfl _ _ _ rfl];have c:prog.con.u "GREATEST_SIZE"=some _:=rfl;have b:(4:Int)+1=5:=rfl;simp only[j4];simp![c,Qc,b,(XF k d 5 h a)]
def yi(k)(d)(h)(b:Gc d=k9)(c:qs d 5=k9):call prog (k+4) "check_size" [.v d] h=.j (.v .U) h:=by rw[Gb rfl _ _ _ rfl];have a:=Ee k d h b;rw[c]at a;simp only[zH];rw[xa<|by simp![a]];simp![]
noncomputable def cd:List (Nat×Nat)->Nat
|[]=>0
|q::r=>q.2+2^q.1*cd r
noncomputable def dg:List Nat->Nat->List Nat
|[],_=>[]
|w::a,c=>c%2^w::dg a (c/2^w)
noncomputable def di(n K T:Nat):List Nat:=Aa7 K n++Aa7 T (n*n)
structure Wl(n:Nat)(ks ts:List Nat):Prop where
 n4:n<=4
 k4:ks.e<=4
 t4:ts.e<=4
 bk:∀x∈ks,x<2^n
 bt:∀x∈ts,x<2^(n*n)
def oF(n K T):(di n K T).e=K+T:=by simp[di]
noncomputable abbrev nW(A B:List D):D:=.w [.w A,.w B]
def MD(n K T):ai (di n K T)=Aa7 K (.n n)++Aa7 T (.n<|n*n):=by simp[di]
theorem zG(x):∀m,(Aa7 m x).sum=m*x
|0=>by simp
|m+1=>by rw[Ag1,Ao6,zG x m,Vk,Ar5]
def pW(n K T):(di n K T).sum=K*n+T*(n*n):=by rw[di,Uw,zG,zG]
theorem B9(h):∀ws c j L,(∀w∈ws,w<=16)->j.e+ws.e<=1000->∃O M,
 Gq (Gr [5] k9) (λτ h=>execs F Qr τ h) (ai ws) [x0,x1,x2,y0 (.j<|ai j),si c,L,x6] h=.j [x0,x1,x2,y0 (.j<|ai<|j++dg ws c),O,M,x6] h
|[],c,j,L,_,_=>⟨si c,L,by simp[dg]⟩
|w::ws,c,j,L,b,n=>by
  rw[Aa9]at n;have m:=b w Aa4;obtain⟨O,M,e⟩:=B9 h ws (c/2^w) (j++[c%2^w]) (si w) (λx l=>b x<|Aa3 _ l) (by simp;lia);refine⟨O,M,?_⟩;have i:=fb w<|Y8;have o:0<2^w:=UF Y5;have f:((2^w:Nat))-1=((2^w-1:Nat):Int):=by lia
  have a:=jd c<|2^w-1;rw[Ag3]at a;have k:=zq c w;have d:(ai j).e<bh:=by rw[Gf,Aa];lia
  have g:ai (j++[c%2^w])=ai j++[.n (c%2^w)]:=by simp
  rw[show ai (w::ws)=.n w::ai ws from rfl,wb rfl ?_,e,Af6]
  .rfl
  .rw[g];simp![Qr,i,Zf,f,xc,a,d,Os,k]
def AN(x)(m)(a:m<=1000)(h):GU .x (.j [x]) (.i m) h=.j (.j<|Aa7 m x) h:=by
 show KC [x] m h=_;have c:-1000<=(m:Int)/\(m:Int)<=1000/\[x].e*(m:Int).j<=bh:=by rw[Gf,Ac5];simp;lia
 rw[KC,Da c,Ac5,show(Aa7 m [x]).T=Aa7 m x by simp]
def A6(k n)(A B)(h)(c:n<=4)(b:A.e<=4)(d:B.e<=4):call prog (k+1) "widths" [.v (nW A B),.i n] h=.j (.j<|ai<|di n A.e B.e) h:=by
 rw[Gb rfl _ _ _ rfl];have a:(Aa7 A.e<|D.n n).e+(Aa7 B.e<|D.n<|n*n).e<=bh:=by rw[Gf];simp;lia
 rw[MD];simp only[By];simp![ae,Qn,zh,Zd,(AN (.n n) A.e (Y8) h),(je n n<|Ai9 ‹_› Y5),(AN (.n<|n*n) B.e (Y8) h),Bh,a,Os]
def uR(k n)(A B)(h)(b:n<=4)(a:A.e<=4)(c:B.e<=4):call prog (k+2) "bits" [.v (nW A B),.i n] h=.j (.i<|(di n A.e B.e).sum) h:=by
 rw[Gb rfl _ _ _ rfl];have d:(ai<|di n A.e B.e).e<=bh:=by rw[Gf,Aa,oF];lia
 simp only[yL];simp![(A6 k n A B h b a c),yl,d,Os,QY]
theorem Aw(n):∀m,Aa6 (m*n)=(Aa6 m).X λa=>(Aa6 n).j (a*n+·)
|0=>by simp
|m+1=>by rw[QE,Aw n m,Uv,List.flatMap_append];simp
def DS(n t):Wf.aC n t=(Aa6 n).X λa=>((Aa6 n).L λb=>t.j<|a*n+b).j λb=>(a,b):=by unfold Wf.aC;rw[Aw n n,List.filter_flatMap,List.map_flatMap,VQ,VQ];congr 1;refine Aj6 λa d=>?_;rw[Ap5,Ad9];refine Aj6 λb c=>?_;have c:=Ab6.u (Ah3.u c).1;show(_/n,_%n)=_;rw[Wf.aF c,Wf.aK c]
def Z3(n t)(f)(z:α):(Wf.aC n t).Z f z=(Aa6 n).Z (λz a=>(Aa6 n).Z (λz b=>if t.j (a*n+b)then f z (a,b)else z) z) z:=by rw[DS,List.foldl_flatMap];congr 1;funext z a;rw[V9,List.foldl_filter]
def nt(e:Gi τ i=si n)(a:n<=1000000):Gv F (.ar<|.var i) τ h=.j ((Aa6 n).j λi=>.n i) h:=zw (by rw[eval,e]) a
def uE{st:Nat->Option W->Option W->Option W->Sl}{f:Nat->Nat->Nat->Nat}(w:n<=1000)
 (k:b2=.a (.for [j] k9 (.ar .A) b1))(q:∀t x y z,Gi (st t x y z) 0=si n)
 (r:∀d t x y z,GD (st t x y z) i (.v d)=st t (sv d) y z)(A:∀d t x y z,GD (st t x y z) j (.v d)=st t x (sv d) z)
 (u:∀a b t z,a<n->b<n->∃L,execs F b1 (st t (si a) (si b) z) h=.j (st (f a b t) (si a) (si b) L) h):
 ∀(l:List Nat) t x y z,(∀a∈l,a<n)->∃V M L,Gq (Gr [i] k9) (λτ h=>execs F b2 τ h) (l.j λa=>D.n a) (st t x y z) h=.j (st (l.Z (λt a=>(Aa6 n).Z (λt b=>f a b t) t) t) V M L) h:=by
 have d8:∀a,a<n->∀(l:List Nat) t y z,(∀b∈l,b<n)->∃M L,Gq (Gr [j] k9) (λτ h=>execs F b1 τ h) (l.j D.n) (st t (si a) y z) h=.j (st (l.Z (λt b=>f a b t) t) (si a) M L) h:=by
  intro a v l;induction l with
|nil=>exactλt y z _=>⟨y,z,rfl⟩
|cons b l p=>intro t y z g;obtain⟨m,e1⟩:=u a b t z v<|g b Aa4;obtain⟨M,L,e⟩:=p _ _ m λc o=>g c<|Aa3 _ o;refine⟨M,L,?_⟩;rw[Ab2,wb (by simp_all) e1,e];rfl
 intro l;induction l with
|nil=>exactλt x y z _=>⟨x,y,z,rfl⟩
|cons a l p=>intro t x y z g;obtain⟨s,m,e1⟩:=d8 a (g a Aa4) _ t y z λb k=>Ab6.u k;obtain⟨V,M,L,e⟩:=p _ _ s m λc o=>g c<|Aa3 _ o;refine⟨V,M,L,?_⟩;rw[Ab2,wb (by rw[GF,r])<|by rw[k,execs,exec,nt (q _ _ _ _)<|Y8,R.ay,e1,O.bR,execs],e];rfl
def pN(o c):Gj .w ((o/2^c:Nat):Int) 1=y0 ((((o.j c).j:Nat)):Int):=by rw[xc,show 1=((1:Nat):Int)from rfl,jd,wV]
def uG(x)(h):Gp .j (.i<|x.j) (.v<|.p 1) h=y0 x:=by cases x<;>rfl
abbrev nP(n o p t:Nat)(x y z:Option W):Sl:=[si n,si o,si p,si t,x,y,z]
def j8(k n o p)(h)(j:n<=20):call prog (k+1) "_law_joined" [.i n,.i o,.i p] h=.j (.i<|Wf.joinM n o p) h:=by
 rw[Gb rfl _ _ _ rfl];have step:∀a b t z,a<n->b<n->∃d,execs (k8 k) Zi (nP n o p t (si a) (si b) z) h=.j (nP n o p (if o.j (a*n+b)then t|||Wf.cA n p b*2^(a*n)else t) (si a) (si b) d) h:=by
  intro a b t z f x;have g:Gj .x (a:Int) (n:Int)=y0 _:=je a n Y6;have c:Gj .x (b:Int) (n:Int)=y0 _:=je b n Y6;have m:(p/2^(b*n)&&&(2^n-1))=Wf.cA n p b:=by rw[Ag3];rfl
  have w:a*n<=400:=Ab4 (Ag8 (Ag f)<|Ab0 n)<|zj j;have r:((2^n:Nat):Int)-1=((2^n-1:Nat):Int):=by have:=Ae n;lia
  have l:Gn (k8 k) (.B .j (.y .w (.y .shr .C<|.y .j (.y .x .v4 .A) .v5)<|.p 1)<|.p 1) (nP n o p t (si a) (si b) z) h=.j (o.j<|a*n+b) h:=by have s:(((a*n:Nat):Int)+(b:Int))=((a*n+b:Nat):Int):=rfl;simp![g,Qc,s,zq,pN,uG]
  cases q:o.j (a*n+b)with
|false=>refine⟨z,?_⟩;unfold Zi;rw[xa<|by rw[l,q],execs];rfl
|true=>refine⟨si<|Wf.cA n p b,?_⟩;unfold Zi;rw[execs,Zo<|by rw[l,q]];simp![g,c,zq,(fb n<|Y8),Zf,r,xc,jd,m,(ZW _ (a*n) (Ab3 (Wf.dv n p b)<|Ab4 (Ad6 Y5 j) Y5)<|Y8),Zn,xn,Os]
 obtain⟨u,v,d,e⟩:=uE (i:=4) (b2:=Jx) (Y8) rfl (λ_ _ _ _=>rfl) (λ_ _ _ _ _=>rfl) (λ_ _ _ _ _=>rfl) step _ 0 u0 u0 u0 λa f=>Ab6.u f;simp only[jH];rw[za (τ1:=nP n o p 0 u0 u0 u0) rfl,za (τ1:=nP n o p (Wf.joinM n o p) u v d)<|by rw[exec,nt rfl<|Y8,R.ay,e,Wf.joinM,Z3],qa rfl,Ga _ _ _ rfl]
abbrev l6(n o t:Nat)(x y:Option W):Sl:=[si n,si o,si t,x,y]
def vk(k n o)(h)(u:n<=20):call prog (k+1) "_law_turned" [.i n,.i o] h=.j (.i<|Wf.bL n o) h:=by
 rw[Gb (d:=Zs) rfl _ _ _ rfl];have step:∀a b t (z:Option W),a<n->b<n->∃p:Option W,execs (k8 k) Wn (l6 n o t (si a)<|si b) h=.j (l6 n o (if o.j (a*n+b)then t|||2^(b*n+a)else t) (si a)<|si b) h:=by
  intro a b t z f m;refine⟨u0,?_⟩;have r:Gj .x (a:Int) (n:Int)=y0 _:=je a n Y6;have c:Gj .x (b:Int) (n:Int)=y0 _:=je b n Y6;have B:b*n+a<=400:=Ab4 (Ag<|Wf.place_lt m f)<|zj u;have v:(((b*n:Nat):Int)+(a:Int))=((b*n+a:Nat):Int):=rfl;have g:Gn (k8 k) (.B .j (.y .w (.y .shr .C<|.y .j (.y .x .N .A) .v4)<|.p 1)<|.p 1) (l6 n o t (si a)<|si b) h=.j (o.j<|a*n+b) h:=by have l:(((a*n:Nat):Int)+(b:Int))=((a*n+b:Nat):Int):=rfl;simp![r,Qc,l,zq,pN,uG]
  unfold Wn;cases q:o.j (a*n+b)with
|false=>rw[xa<|by rw[g,q],execs];rfl
|true=>rw[execs,Zo (h1:=h)<|by rw[g,q]];simp![c,Qc,v,(fb (b*n+a)<|Y8),Zn,xn,Os]
 obtain⟨s,A,p,e⟩:=uE (st:=λt x y _=>l6 n o t x y) (i:=3) (j:=4) (b2:=jx) (Y8) rfl (λ_ _ _ _=>rfl) (λ_ _ _ _ _=>rfl) (λ_ _ _ _ _=>rfl) step _ 0 u0 u0 u0 λa f=>Ab6.u f;simp only[Zs];rw[za (τ1:=l6 n o 0 u0 u0) (h1:=h) rfl,za (τ1:=l6 n o (Wf.bL n o) s A) (h1:=h)<|by rw[exec,nt (n:=n) rfl<|Y8,R.ay,e,Wf.bL,Wf.c5,Wf.ng,V9,Z3],qa (w:=.i<|Wf.bL n o) (h1:=h) rfl,Ga _ _ _ rfl]
def cX(n t:Nat):Nat->Nat
|0=>t
|i+1=>cX n t i|||Wf.joinM n (cX n t i) t
theorem n3:∀{l:List Nat},(∀x∈l,p x=k9->q x=k9)->(∃x∈l,q x=k9/\p x=y9)->(l.L p).e<(l.L q).e
|[],_,h=>by obtain⟨x,a,_⟩:=h;cases a
|y::l,h,j=>by
  have le:∀l:List Nat,(∀x∈l,p x=k9->q x=k9)->(l.L p).e<=(l.L q).e:=by
   intro l;induction l with
|nil=>exactλ_=>Ab0 _
|cons z l b=>
    intro d;have i:=b λx a=>d x<|Aa3 _ a;have f:=d z Aa4;rw[Al1,Al1];cases e1:p z with
|true=>rw[f e1,Da rfl,Da rfl,Aa9,Aa9];exact Pv ‹_›
|false=>
     rw[FM Ac0];cases q z with
|true=>rw[Da rfl,Aa9];exact Ak9 ‹_›
|false=>rw[FM Ac0];exact i
  have k:=le l λx a=>h x<|Aa3 _ a;have g:=h y Aa4;obtain⟨x,a,e,c⟩:=j;rw[Al1,Al1];rcases Ab5.u a with rfl|a
  .rw[e,c,Da rfl,FM Ac0,Aa9];exact Pv ‹_›
  .have b:=n3 (λx a=>h x<|Aa3 _ a) ⟨x,a,e,c⟩;cases e1:p y with
|true=>rw[g e1,Da rfl,Da rfl,Aa9,Aa9];exact Pv ‹_›
|false=>
    rw[FM Ac0];cases q y with
|true=>rw[Da rfl,Aa9];exact Pv ‹_›
|false=>rw[FM Ac0];exact b
section
variable{n t:Nat}
def zv(e:a<n)(d:b<n):(cX n t<|i+1).j (a*n+b)=((cX n t i).j (a*n+b)||(Aa6 n).C λc=>(cX n t i).j (a*n+c)&&t.j (c*n+b)):=by rw[cX,Af8,Wf.cy<|Wf.place_lt e d,Wf.cT d]
def mf(n t i a:Nat):Prop:=∀b,b<n->(cX n t<|i+1).j (a*n+b)=(cX n t i).j (a*n+b)
def W9(f:a<n)(h:mf n t i a):mf n t (i+1) a:=λb d=>by
 rw[zv f d];cases q:(Aa6 n).C λc=>(cX n t _).j _&&t.j (c*n+b)with
|false=>rw[UW]
|true=>rw[Al6,zv f d,Al4.w<|.w ?_];rw[Ad8]at q⊢;obtain⟨c,e,z⟩:=q;rw[h c<|Ab6.u e]at z;exact⟨c,e,z⟩
abbrev oD(n t i a:Nat):Nat:=((Aa6 n).L λb=>(cX n t i).j<|a*n+b).e
def Dz(d:a<n)(h:¬mf n t i a):oD n t i a<oD n t (i+1) a:=by
 have h:∃b,b<n/\(cX n t _).j _≠(cX n t i).j _:=Ai4 λz=>h λb c=>Ai4 λq=>z ⟨b,c,q⟩;obtain⟨b,c,ne⟩:=h;refine n3 (λx e z=>by rw[zv d<|Ab6.u e,z,Ao0]) ⟨b,Ab6.w c,?_⟩;cases q:(cX n t i).j (a*n+b)with
|false=>rw[q]at ne;exact⟨by simpa using ne,rfl⟩
|true=>exact absurd (by rw[zv d c,q,Ao0]) ne
theorem Bd(b:a<n):∀i,mf n t i a\/i<=oD n t i a
|0=>.w<|Ag0 _
|i+1=>(Bd b i).j (λz=>.u<|W9 b z) λz=>by
  by_cases q:mf n t i a
  .exact .u<|W9 b q
  .have:=Dz b q;exact .w<|Ai9 ‹_› ‹_›
def O2(b:a<n):mf n t n a:=(Bd b n).j id λz=>Ai4 λq=>by have d:=Dz b q;have c:oD n t (n+1) a<=n:=Ab4 (Ai7 _ _) Y7;lia
theorem pR:∀(i a b),a<n->b<n->(cX n t i).j (a*n+b)=k9->Wf.TC n t a b
|0,a,b,e,d,z=>.step e d z
|i+1,a,b,e,d,z=>by
  rw[zv e d,Ae5,Ad8]at z;rcases z with z|⟨c,f,z⟩
  .exact pR i a b e d z
  .rw[Aa2]at z;have f:=Ab6.u f;exact .more (pR i a c e f z.1) f d z.2
theorem uP:∀(i k),t.j k=k9->(cX n t i).j k=k9
|0,_,z=>z
|i+1,k,z=>by rw[cX,Af8,uP i k z,Ao0]
theorem AE(a:t<2^(n*n)):∀i,cX n t i<2^(n*n)
|0=>a
|i+1=>Am5 (AE a i)<|Wf.dC _ _ _
def u6(j:t<2^(n*n)):Wf.fP n t<|cX n t n:=⟨AE j n,λa b e h=>⟨pR n a b e h,λg=>by
 induction g with
|step f c d=>exact uP n _ d
|more g f c d i=>rw[←O2 e _ c,zv e c,Al4,Ad8];exact .w ⟨_,Ab6.w f,by rw[i f,d];rfl⟩⟩⟩
end
abbrev oB(n t r:Nat)(x:Option W):Sl:=[si n,si t,si r,x]
theorem xT(k n t)(a:n<=20)(h):∀m i x,∃L,Gq (Gr [3] k9) (λτ h=>execs (k8<|k+1) Xn τ h) ((Aa6 m).j λj=>D.n<|i+j) (oB n t (cX n t i) x) h=.j (oB n t (cX n t<|i+m) L) h
|0,i,x=>⟨x,rfl⟩
|m+1,i,x=>by
  obtain⟨L,e⟩:=xT k n t a h m (i+1)<|si<|i;refine⟨L,?_⟩;rw[Ai2,Ab2,Ad9,wb (τ1:=oB n t (cX n t i)<|si<|i) rfl<|by unfold Xn;rw[za (τ1:=oB n t (cX n t<|i+1)<|si<|i)<|by simp![j8 k n (cX n t i) t h a,xn];rfl,execs]];have:((λj=>D.n<|i+j)∘Nat.succ)=λj=>D.n<|i+1+j:=by funext j;show D.n (i+(j+1))=_;rw[show i+(j+1)=i+1+j by lia]
  rw[this,e,show i+1+m=i+(m+1)by lia]
def B4(k n t)(h)(a:n<=20):call prog (k+2) "_law_closed" [.i n,.i t] h=.j (.i<|cX n t n) h:=by rw[Gb rfl _ _ _ rfl];obtain⟨b,e⟩:=xT k n t a h n 0 u0;simp[Am9]at e;simp only[QH];rw[za rfl,za<|by rw[exec,nt rfl<|Y8,R.ay];exact e,qa rfl,Ga _ _ _ rfl]
def Fu(a b:Nat):KG (a:Int) (b:Int)=y0 ((a^^^b:Nat):Int):=rfl
def vt(k n)(h)(l:n<=4):call prog (k+1) "_law_same" [.i n] h=.j (.i<|Wf.bH n) h:=by
 rw[Gb rfl _ _ _ rfl];have e:eval (k8 k) wu [si n] h=.j (.j<|ai<|(Aa6 n).j λa=>2^(a*n+a)) h:=by
  unfold wu;rw[Xp (λa=>.n _) rfl (Y8) λa c=>⟨.i _,?_,rfl⟩]
  .rw[ai,Ad9];rfl
  .have f:=je a n Y6;have i:=fb (a*n+a) (by have:=Wf.place_lt c c;have:=zj (show n<=20 by lia);lia);have j:(((a*n:Nat):Int)+(a:Int))=((a*n+a:Nat):Int):=rfl;simp![f,Qc,j,i]
 have g:((Aa6 n).j λa=>2^(a*n+a)).sum=Wf.bH n:=by
  have:n=0\/n=1\/n=2\/n=3\/n=4:=by lia
  rcases this with rfl|rfl|rfl|rfl|rfl<;>decide+kernel
 have d:dY .sum [.j (ai<|(Aa6 n).j λa=>2^(a*n+a))] h=.j (.i<|Wf.bH n) h:=by show(R.of h<|(y0<|ai<|(Aa6 n).j λa=>2^(a*n+a)).u λb=>if b.e<=bh then Km b else u0).u _=_;rw[Af2,Da<|by rw[Gf,ai,Aa,Aa,Ae1];exact Y8,QY,g];rfl
 simp only[ZR];rw[qa (w:=.i<|Wf.bH n) (h1:=h)<|Ja rfl<|by simp![e,d],Ga _ _ _ rfl]
def wS(k n s t)(h)(a:n<=20):(call prog (k+2) YU [.s WG,.i n,.i s,.i t] h=.j (.i<|s|||t) h∧
 call prog (k+2) YU [.s xC,.i n,.i s,.i t] h=.j (.i<|s&&&t) h)∧
 call prog (k+2) YU [.s jh,.i n,.i s,.i t] h=.j (.i<|Wf.joinM n s t) h:=by
 refine⟨⟨?_,?_⟩,?_⟩
 all_goals
  rw[Gb rfl _ _ _ rfl];simp only[Z5]
 .show Gx _ (execs _ _ [y0 _,si n,si s,si t] h)=_;rw[qg (w:=.i<|s|||t) (Wk (s:=WG) _ rfl)<|Ja rfl<|by simp![Zn,xn],Ga _ _ _ rfl]
 .show Gx _ (execs _ _ [y0 _,si n,si s,si t] h)=_;rw[xa<|Wk (s:=xC) _ rfl,qg (w:=.i<|s&&&t) (Wk (s:=xC) _ rfl)<|Ja rfl<|by simp![xc,jd],Ga _ _ _ rfl]
 .show Gx _ (execs _ _ [y0 _,si n,si s,si t] h)=_;rw[xa<|Wk (s:=jh) _ rfl,xa<|Wk (s:=jh) _ rfl,qa (w:=.i<|Wf.joinM n s t) (h1:=h)<|Ja rfl<|by simp![j8 k n s t h a],Ga _ _ _ rfl]
def V.kb (h:V n s g)(q:V n t f):V n (s&&&((2^(n*n)-1)^^^t)) λa b=>g a b&&!f a b:=⟨Ai9 Ut h.1,λa b j d=>by
 have k:=q.2 a b j d;rw[Ai1,V4,Ag9,FB<|Wf.place_lt j d,Bool.true_xor,Aa2,Aa2,(h.2 a b j d)];constructor
 .rintro⟨i,c⟩;refine⟨i,?_⟩;cases e:f a b with
|false=>rfl
|true=>rw[k.w e]at c;cases c
 .rintro⟨i,c⟩;refine⟨i,?_⟩;cases e:t.j (a*n+b)with
|false=>rfl
|true=>rw[k.u e]at c;cases c⟩
def aR(N:List Tx)(f:Tx->Nat×Nat):List<|Tx×D:=N.j λt=>(t,bj (f t).1 (f t).2)
theorem rm:∀{N},t∈N->(aR N f).u t=y0 (bj (f t).1 (f t).2)
|y::N,h=>by
  show Aj0 t ((y,_)::aR N f)=_;rw[Ad];by_cases e:t=y
  .subst e;rw[Tg]
  .rw[beq_eq_false_iff_ne.w e];exact rm<|(Ab5.u h).x e
structure Dc(a b:Wo)(f:Tx->Nat×Nat)(r:Nat)(h:AH):Prop where
 ad:h[r]?=y0 (.u<|aR (a.K++a.T) f)
 n4:a.n<=4
 lo:∀t∈a.K++a.T,V a.n (f t).1<|bb a t
 hi:∀t∈a.K++a.T,V a.n (f t).2<|bb b t
noncomputable abbrev lO(n r:Nat)(d:D)(s:Tx)(a c x7 x8 b:Option W):Sl:=[si n,y0 (.r r),sv d,y0 (.s s),si (2^(n*n)-1),a,c,x7,x8,b]
def zX(s)(a:List Tx)(h):Gp .u (.s s) (.j<|a.j .u) h=y0 (u9<|s∈a):=Jz s a (.j _) h rfl
section
variable{m n r:Nat}{h:AH}
def zZ(c:n<=4)(z:execs (k8 m) (match az.j with|.j _ (.j _ r)=>r|r=>r) (lO n r (.w<|.u s::ds) s u0 u0 u0 u0 u0) h=.u w h)(d:Gx h.e (.u w h)=.j w h):call prog (m+1) Yo [.i n,.r r,.t (.u s::ds)] h=.j w h:=by
 rw[Gb rfl _ _ _ rfl];simp only[az]at z⊢;have a:=fb (n*n) (by have:=zj (show n<=20 by lia);exact Y8);have b:((2^(n*n):Nat):Int)-1=((2^(n*n)-1:Nat):Int):=by have:=Ae<|n*n;lia
 refine fx (by simp![ae,we];rfl) ?_;refine fx (by simp![(je n n<|Ai9 ‹_› Y5),a,Zf,b];rfl) ?_;rwa [z]
def FN(a:n<=4)(e:h[r]?=y0 (.u kvs))(l:kvs.u t=y0 d):call prog (m+1) Yo [.i n,.r r,.t [.u Zh,.u t]] h=.j (.v d) h:=by
 refine zZ a ?_<|Ga _ _ _ rfl;simp only[az];have dd:GW h (y0<|.r r)=y0 (r,kvs):=by unfold GW;simp[e]
 have dg:fB (.s t) (y0 (r,kvs)) h=aj d h:=by unfold fB;simp[l]
 rw[qg (w:=.v d) (Wk (s:=Zh) _ rfl)<|Ja rfl<|by simp![dd,ae,zh,dg]]
def sZ(b:n<=4)(j:(s==Zh)=y9)(i:s∈[Xg,qo,Jh])(a:List.lookup s [(Xg,Wf.bH n),(qo,2^(n*n)-1),(Jh,0)]=y0 v):call prog (m+2) Yo [.i n,.r r,.t [.u s]] h=.j (.v<|bj v v) h:=by
 refine zZ b ?_<|Ga _ _ _ rfl;simp only[az];have g:Gn (k8<|m+1) (.B .u .N<|.x<|.c (.u Xg) (.u qo)<|.u Jh) (lO n r (.w [.u s]) s u0 u0 u0 u0 u0) h=.j k9 h:=by have:=zX s [Xg,qo,Jh] h;simp only[Ab2,Af9]at this;simp![this,FB i]
 have f:gJ [(Xg,.i<|Wf.bH n),(qo,.i<|2^(n*n)-1),(Jh,.v<|.p 0)] (y0<|.s s) h=.j (.i v) h:=by
  unfold gJ;simp only[Ad,V3]at a⊢;cases e:s==Xg with
|true=>rw[e]at a;cases a;rfl
|false=>
   rw[e]at a;cases c:s==qo with
|true=>rw[c]at a;cases a;rfl
|false=>
    rw[c]at a;cases d:s==Jh with
|true=>rw[d]at a;cases a;rfl
|false=>rw[d]at a;cases a
 rw[xa<|(Wk _ rfl).j<|by rw[j],qa];refine(Zo g).j ?_;refine(za<|by simp![vt m n h b,f];rfl).j ?_;rw[qa (w:=.v<|bj v v) (h1:=h)<|Ja rfl<|by simp![]]
def C2(a:aW (.u s::ds) i=y0 d)(e:call prog m Yo [.i n,.r r,.v d] h=.j (.v<|bj v u) h):eval (k8 m) (.j Yo<|.c .A .C<|.G .L<|.p i) (lO n r (.w<|.u s::ds) s x5 x6 x7 x8 x9) h=.j (.v<|bj v u) h:=by simp![ae,a,e]
def rF(a:n<=4)(f:(s==Zh)=y9)(c:s∉[Xg,qo,Jh])(e:call prog m Yo [.i n,.r r,.v d] h=.j (.v<|bj v u) h)
 (z:execs (k8 m) (match az.j with|.j _ (.j _ (.j _ (.j _ (.j _ r))))=>r|r=>r) (lO n r (.w<|.u s::d::ds) s u0 (si v) (si u) u0 u0) h=.u w h)(g:Gx h.e (.u w h)=.j w h):call prog (m+1) Yo [.i n,.r r,.t (.u s::d::ds)] h=.j w h:=by
 refine zZ a ?_ g;simp only[az]at z⊢;have b:Gn (k8 m) (.B .u .N<|.x<|.c (.u Xg) (.u qo)<|.u Jh) (lO n r (.w<|.u s::d::ds) s u0 u0 u0 u0 u0) h=.j y9 h:=by have:=zX s [Xg,qo,Jh] h;simp only[Ab2,Af9]at this;simp![this,IR c]
 rw[xa<|(Wk _ rfl).j<|by rw[f],xa b];refine(za<|by rw[exec,C2 (Wr _ _ _) e,R.ay];rfl).j ?_;exact z
def MG(a:n<=4)(e:call prog (m+1) Yo [.i n,.r r,.v d] h=.j (.v<|bj v u) h):call prog (m+2) Yo [.i n,.r r,.t [.u Xi,d]] h=.j (.v<|bj (Wf.bL n v)<|Wf.bL n u) h:=by refine rF a rfl Y5 e ?_<|Ga _ _ _ rfl;simp only[az];rw[qg (w:=.v<|bj (Wf.bL n v)<|Wf.bL n u) (Wk (s:=Xi) _ rfl)<|Ja rfl<|by simp![vk m n v h<|Y8,vk m n u h<|Y8]]
def L1(a:n<=4)(e:call prog (m+2) Yo [.i n,.r r,.v d] h=.j (.v<|bj v u) h):call prog (m+3) Yo [.i n,.r r,.t [.u Ji,d]] h=.j (.v<|bj (cX n v n)<|cX n u n) h:=by refine rF a rfl Y5 e ?_<|Ga _ _ _ rfl;simp only[az];rw[xa<|Wk (s:=Ji) _ rfl,qg (w:=.v<|bj (cX n v n)<|cX n u n) (Wk (s:=Ji) _ rfl)<|Ja rfl<|by simp![B4 m n v h<|Y8,B4 m n u h<|Y8]]
def BI(a:n<=4)(g:(s==Zh)=y9)(c:s∉[Xg,qo,Jh])(h1:(s==Xi)=y9)(f:(s==Ji)=y9)(e:call prog m Yo [.i n,.r r,.v d] h=.j (.v<|bj v u) h)(b:call prog m Yo [.i n,.r r,.v d'] h=.j (.v<|bj v' u') h)
 (z:execs (k8 m) (match az.j with|.j _ (.j _ (.j _ (.j _ (.j _ (.j _ (.j _ (.j _ r)))))))=>r|r=>r) (lO n r (.w [.u s,d,d']) s u0 (si v) (si u) (si v')<|si u') h=.u w h)(i:Gx h.e (.u w h)=.j w h):call prog (m+1) Yo [.i n,.r r,.t [.u s,d,d']] h=.j w h:=by
 refine rF a g c e ?_ i;simp only[az]at z⊢;rw[xa<|(Wk _ rfl).j<|by rw[h1],xa<|(Wk _ rfl).j<|by rw[f]];refine(za<|by rw[exec,C2 (xH _ _ _) b,R.ay];rfl).j ?_;exact z
def L5(a:n<=4)(e:call prog m Yo [.i n,.r r,.v d] h=.j (.v<|bj v u) h)(c:call prog m Yo [.i n,.r r,.v d'] h=.j (.v<|bj v' u') h):call prog (m+1) Yo [.i n,.r r,.t [.u Qq,d,d']] h=.j (.v<|bj (v&&&((2^(n*n)-1)^^^u'))<|u&&&((2^(n*n)-1)^^^v')) h:=by refine BI a rfl Y5 rfl rfl e c ?_<|Ga _ _ _ rfl;simp only[az];have b:∀i j:Int,Gj .bxor i j=KG i j:=λ_ _=>rfl;rw[qg (w:=.v<|bj (v&&&((2^(n*n)-1)^^^u'))<|u&&&((2^(n*n)-1)^^^v')) (Wk (s:=Qq) _ rfl)<|Ja rfl<|by simp![b,Fu,xc,jd]]
def sN(a:n<=4)(j:(s==Zh)=y9)(g:s∉[Xg,qo,Jh])(h1:(s==Xi)=y9)(i:(s==Ji)=y9)(b:(s==Qq)=y9)(e:call prog m Yo [.i n,.r r,.v d] h=.j (.v<|bj v u) h)(f:call prog m Yo [.i n,.r r,.v d'] h=.j (.v<|bj v' u') h)
 (c:call prog m YU [.s s,.i n,.i v,.i v'] h=.j (.i x) h)(k:call prog m YU [.s s,.i n,.i u,.i u'] h=.j (.i y) h):call prog (m+1) Yo [.i n,.r r,.t [.u s,d,d']] h=.j (.v<|bj x y) h:=by
 refine BI a j g h1 i e f ?_<|Ga _ _ _ rfl;simp only[az];rw[xa<|(Wk _ rfl).j<|by rw[b],qa (w:=.v<|bj x y) (h1:=h)<|Ja rfl<|by simp![c,k]]
end
def Xl(P:Dc a b f r h):∀e m,e.j+4<=m->e.y (a.K++a.T)->∃v u,B a b e v u/\call prog m Yo [.i a.n,.r r,.v (aV e)] h=.j (.v<|bj v u) h:=by
 have n4:=P.n4;intro e;induction e with
|name t=>intro m g wf;obtain⟨k,rfl⟩:=nk m 1<|Ab4 (Fk _ _) ‹_›;exact⟨_,_,⟨P.lo t wf,P.hi t wf⟩,FN n4 P.ad<|rm wf⟩
|same=>intro m g wf;obtain⟨k,rfl⟩:=nk m 2<|Ab4 (Fk _ _) ‹_›;exact⟨_,_,⟨V.leaf.1,V.leaf.1⟩,sZ n4 rfl Y5 rfl⟩
|all=>intro m g wf;obtain⟨k,rfl⟩:=nk m 2<|Ab4 (Fk _ _) ‹_›;exact⟨_,_,⟨V.leaf.2.1,V.leaf.2.1⟩,sZ n4 rfl Y5 rfl⟩
|none=>intro m g wf;obtain⟨k,rfl⟩:=nk m 2<|Ab4 (Fk _ _) ‹_›;exact⟨_,_,⟨V.leaf.2.2,V.leaf.2.2⟩,sZ n4 rfl Y5 rfl⟩
|turned c s=>intro m g wf;simp only[Ex.dp]at g;obtain⟨k,rfl⟩:=nk m 2<|Ab4 (Fk _ _) ‹_›;obtain⟨v,u,q,e1⟩:=s (k+1) (On ‹_›) wf;exact⟨_,_,⟨q.j.C,q.u.C⟩,MG n4 e1⟩
|closed c s=>intro m g wf;simp only[Ex.dp]at g;obtain⟨k,rfl⟩:=nk m 3<|Ab4 (Fk _ _) ‹_›;obtain⟨v,u,q,e1⟩:=s (k+2) (On ‹_›) wf;exact⟨_,_,⟨q.j.A<|u6 q.j.1,q.u.A<|u6 q.u.1⟩,L1 n4 e1⟩
|plus c d l j=>intro m g wf;simp only[Ex.dp]at g;obtain⟨k,rfl⟩:=nk m 3<|Ab4 (Fk _ _) ‹_›;obtain⟨v,u,q,e1⟩:=l (k+2) Y6 wf.1;obtain⟨o,p,n,i⟩:=j (k+2) Y6 wf.2;exact⟨_,_,⟨q.j.plus n.j,q.u.plus n.u⟩,sN n4 rfl Y5 rfl rfl rfl e1 i (wS k a.n v o h<|Y8).1.1 (wS k a.n u p h<|Y8).1.1⟩
|less c d l j=>intro m g wf;simp only[Ex.dp]at g;obtain⟨k,rfl⟩:=nk m 3<|Ab4 (Fk _ _) ‹_›;obtain⟨v,u,q,e1⟩:=l (k+2) Y6 wf.1;obtain⟨o,p,n,i⟩:=j (k+2) Y6 wf.2;exact⟨_,_,⟨q.j.kb n.u,q.u.kb n.j⟩,L5 n4 e1 i⟩
|both c d l j=>intro m g wf;simp only[Ex.dp]at g;obtain⟨k,rfl⟩:=nk m 3<|Ab4 (Fk _ _) ‹_›;obtain⟨v,u,q,e1⟩:=l (k+2) Y6 wf.1;obtain⟨o,p,n,i⟩:=j (k+2) Y6 wf.2;exact⟨_,_,⟨q.j.both n.j,q.u.both n.u⟩,sN n4 rfl Y5 rfl rfl rfl e1 i (wS k a.n v o h<|Y8).1.2 (wS k a.n u p h<|Y8).1.2⟩
|joined c d l j=>intro m g wf;simp only[Ex.dp]at g;obtain⟨k,rfl⟩:=nk m 3<|Ab4 (Fk _ _) ‹_›;obtain⟨v,u,q,e1⟩:=l (k+2) Y6 wf.1;obtain⟨o,p,n,i⟩:=j (k+2) Y6 wf.2;exact⟨_,_,⟨q.j.w n.j,q.u.w n.u⟩,sN n4 rfl Y5 rfl rfl rfl e1 i (wS k a.n v o h<|Y8).2 (wS k a.n u p h<|Y8).2⟩
noncomputable def l4:Nat->Nat->Nat
|0,_=>0
|L+1,v=>v%2+l4 L (v/2)
theorem rq:∀(L v),l4 L v=((Aa6 L).L v.j).e
|0,_=>rfl
|L+1,v=>by
  rw[l4,rq L,Ai2,Al1,Ap5];have e:(v.j∘Nat.succ)=(v/2).j:=by funext i;exact Nat.testBit_succ v i
  rw[e];by_cases q:v%2=1
  .rw[Da<|by rw[VR,FB q],Aa9,Aa,q];lia
  .rw[FM<|by rw[VR,IR q];exact Ac0,Aa];lia
abbrev mT(v a:Nat):Sl:=[si v,si a]
theorem yc(h):∀L f v a,v<2^L->L<f->GA (λτ h=>Gn F jn τ h) (λτ h=>execs F Xm τ h) f (mT v a) h=.j (mT 0<|a+l4 L v) h
|L,0,v,a,_,c=>absurd c<|Ah5 _
|L,f+1,v,a,b,c=>by
  have i:Gn F jn (mT v a) h=.j (u9<|0<v) h:=by
   have:Gp .gt (.i v) (.v<|.p 0) h=y0 (u9<|0<v):=by show y0 (u9<|0<(v:Int))=_;congr 1;exact decide_eq_decide.w Y6
   unfold jn;simp![this]
  rw[GA,i,R.ay];by_cases q:0<v
  .cases L with
|zero=>simp at b;lia
|succ L=>
    have d:execs F Xm (mT v a) h=.j (mT (v/2)<|a+v%2) h:=by have e:Gj .A v 2=y0 ((v%2:Nat):Int):=tm v 2 Y5;have g:Gj .fdiv v 2=y0 ((v/2:Nat):Int):=N2 v 2 Y5 Y5;unfold Xm;simp![e,g,F4]
    rw[FB q];simp only[d];rw[yc h L f (v/2) (a+v%2) (by rw[Nat.pow_succ]at b;lia)<|On ‹_›,l4,Nat.add_assoc]
  .have v0:v=0:=by lia
   subst v0;have z:l4 L 0=0:=by rw[rq];simp
   rw[IR q,z];rfl
def ZZ(k L v)(h)(b:L<=16)(a:v<2^L):call prog (k+1) YO [.i v] h=.j (.v<|.p ((((List.range L).L v.j).e:Nat):Int)) h:=by rw[Gb rfl _ _ _ rfl];simp only[ZQ];rw[za rfl,za<|by rw[exec];exact yc h L 100000 v 0 a<|Ai9 ‹_› Y5,qa rfl,Ga _ _ _ rfl,Am9,rq]
def tP{F:Fx}{e:E}{τ:Sl}{h:AH}{b:Bool}(q:eval F e τ h=.j (.b b) h):eval F (.G (.x<|.b .au<|.bl y9)<|.Z .int<|.j e .u) τ h=.j (.v<|aP<|JY y9 b) h:=by
 have e1:eval F (.Z .int<|.j e .u) τ h=.j (.i b.j) h:=by rw[eval,Gg,q];rfl
 rw[eval,show eval F _ τ h=.j _ h from rfl,R.ab,e1,R.ab,zS];cases b<;>rfl
def nY{F:Fx}{τ:Sl}{i j:Nat}{ps:List<|Nat×Nat}{h:AH}{o:Cp}(p:Nat->Bool)(k:ps.e<=4)(b:Gk F (.j .L) τ h=.j (ps.j pD) h)(f:Gi τ 1=si j)(e:i=0\/i=1)(a:∀x:Nat,Gp o (.i x) (.i j) h=y0 (p x)):
 eval F (.M [0,1] y9 2 [1] (.j .L) y9 (.bl k9)<|.B o (.var i) .L) τ h=.j (.j<|(ps.j λq=>p<|if i=0 then q.1 else q.2).j .I) h:=by
 rw[jm (λd=>match d with|.w [.p x,.p y]=>.I<|p<|if i=0 then x.j else y.j|d=>d) b<|by rw[Gf,Aa];exact Y8]
 .simp[Re,pD]
 .intro g c;obtain⟨q,_,rfl⟩:=Ab7.u c;refine⟨[si (q.1),si (q.2),si j],?_,?_⟩
  .rw[Ab2,Af9,f];rfl
  .obtain rfl|rfl:=e
   .exact⟨.b<|p q.1,by simp![a],by simp[pD]⟩
   .exact⟨.b<|p q.2,by simp![a],by simp[pD]⟩
def sX{F:Fx}{e:E}{a:Ss}{b:Ss}{τ:Sl}{h:AH}{x y:Bool}(c:eval F e τ h=.j (.b x) h)(z:execs F b τ h=.u (.v<|aP<|JY y9 y) h):execs F (.j (.r e<|.bl k9) b) τ h=.u (.v<|aP<|JY x y) h:=by
 have t:Gn F e τ h=.j x h:=by rw[Gn,c,R.ab];rfl
 cases x with
|true=>exact qa<|(Zo t).j<|qa rfl
|false=>rwa [xa t]
def Mm(k j:Nat)(up:Bool){w:W}{ps:List<|Nat×Nat}(h:AH)(c:ps.e<=4)(d:∀a b:Option W,Gk (k8 k) (.j .L) [a,b,y0 w] h=.j (ps.j pD) h):
 call prog (k+1) "_law_ruled" [.b up,.i j,w] h=.j (.v (aP (if up then JY ((ps.j (·.1)).N fun x=>decide<|j<=x) ((ps.j (·.2)).C fun x=>decide<|x<j)else JY ((ps.j (·.2)).N fun x=>decide<|x<=j) ((ps.j (·.1)).C fun x=>decide<|j<x)))) h:=by
 rw[Gb rfl _ _ _ rfl];show Gx _ (execs _ _ [y0 _,si j,y0 w] h)=_;simp only[QK,ZB,wA,JA,QA];have f:=WB<|nY (τ:=[y0 (.b up),si j,y0 w]) (λx=>decide _) c (d _ _) rfl (.u rfl)<|λx=>uC j x h;have e:=wJ<|nY (τ:=[y0 (.b up),si j,y0 w]) (λx=>decide _) c (d _ _) rfl (.w rfl)<|λx=>oy j x h;have e2:=WB<|nY (τ:=[y0 (.b up),si j,y0 w]) (λx=>u9<|x<=j) c (d _ _) rfl (.w rfl)<|λx=>vd j x h;have e1:=wJ<|nY (τ:=[y0 (.b up),si j,y0 w]) (λx=>u9<|j<x) c (d _ _) rfl (.u rfl)<|λx=>iQ j x h;rw[rY]at f e2;rw[sr]at e e1;rw[An8,Ar3,An8,Ar3];cases up with
|true=>rw[qa<|(Zo rfl).j<|sX (a:=.u) f<|qa<|Ja rfl<|tP e,Ga _ _ _ rfl];rfl
|false=>rw[xa rfl,sX (a:=.u) e2<|qa<|Ja rfl<|tP e1,Ga _ _ _ rfl];rfl
def Dh(u v):u9 (u&&&v=u)=u9 (u-(u&&&v)=0):=by have:=@Ut u v;exact decide_eq_decide.w Y6
def vA(i j)(h):Gp .w (.i i) (.i j) h=y0 (!u9 (i=j)):=by have this:=Qh i j h;exact congrArg (Option.map (!·)) this
def Hm(k v u v' u')(h):call prog (k+1) "_law_within" [.v (bj v u),.v (bj v' u')] h=.j (.v<|aP<|dQ v u v' u') h:=by rw[Gb rfl _ _ _ rfl];simp only[wH];rw[sX (a:=.u) (x:=u9<|u&&&v'=u) (y:=!u9 (v&&&u'=v)) (by simp![ae,Qn,zh,xc,jd,Qh])<|qa<|Ja rfl<|tP<|by simp![ae,Qn,zh,xc,jd,vA],Ga _ _ _ rfl,dQ,Dh,Dh]
abbrev m2(n r:Nat)(d:D)(s:Tx)(b a c x7:Option W):Sl:=[si n,y0 (.r r),sv d,y0 (.s s),b,a,c,x7]
def CK(n v a):((Aa6 n).L (v/2^(a*n)&&&(2^n-1)).j).e=fH n (tb n v) a:=by rw[qv,fH];congr 1;refine Aj6 λb c=>?_;rw[Ag3,Ah7,FB<|Ab6.u c,Ae7,Ah8,Ar5]
section
variable{m n r:Nat}{h:AH}
def sW(y:n<=4)(H:s∈[Qa,jc,xb,qi])(D:v<2^(n*n))(F:u<2^(n*n))(e:call prog (m+1) Yo [.i n,.r r,.v x] h=.j (.v<|bj v u) h):
 execs (k8<|m+1) (match bz.j with|.j _ (.j _ r)=>r|r=>r) (m2 n r (.w [.u s,.n j,x]) s u0 u0 u0 u0) h=.u (.v<|aP<|qS s j (Wm n v s)<|Wm n u s) h:=by
 have g:n*n<=16:=Ag8 y y;simp only[bz];refine(za<|by rw[exec];simp![ae,xH,e];rfl).j ?_;have B:Gn (k8<|m+1) (.or (.B .j .N<|.u Qa)<|.B .j .N<|.u jc) (m2 n r (.w [.u s,.n j,x]) s (si v) (si u) u0 u0) h=.j (s==Qa||s==jc) h:=by rw[Gn,lM (a:=s==Qa) (b:=s==jc) (by simp![zb])<|by simp![zb],R.ab];rfl
 have f:∀(w:W)(t:List<|Nat×Nat)(X:Tx),t.e<=4->(∀a b:Option W,Gk (k8 m) (.j .L) [a,b,y0 w] h=.j (t.j pD) h)->call prog _ "_law_ruled" [.b _,.i j,w] h=.j _ h:=fun w t X k G=>Mm m j (s==X) h k G;have up:(s∈[Qa,xb])↔(s==Qa)=k9\/(s==xb)=true:=by simp
 by_cases c:(s==Qa||s==jc)=k9
 .have d:s∈[Qa,jc]:=by simpa using c
  have ne:(s==xb)=false:=by
   have:∀s∈[Qa,jc],(s==xb)=false:=by decide
   exact this s d
  have i:=f (.u [bj (QD n v).sum (QD n u).sum]) [((QD n v).sum,(QD n u).sum)] Qa Y7<|λa b=>rfl;have p:call prog (m+1) YO [.i v] h=.j (.i<|(QD n v).sum) h:=by rw[ZZ m _ v h g D,wI n v n,QD]
  have o:call prog (m+1) YO [.i u] h=.j (.i<|(QD n u).sum) h:=by rw[ZZ m _ u h g F,wI n u n,QD]
  rw[qa];refine(Zo<|by rw[B,c]).j<|qa<|Ja rfl ?_;rw[qS,Wm,Wm,Da d,Da d];simp![zb,ae,Wr,p,o,i];have iff:(s∈[Qa,xb])↔(s==Qa)=true:=up.j (by rw[ne];simp);by_cases q:s∈[Qa,xb]
  .rw[Da q,Da<|iff.u q]
  .rw[FM q,FM λz=>q<|iff.w z]
 .have l:(s==Qa||s==jc)=false:=by simpa using c
  have d:s∉[Qa,jc]:=by simpa using c
  have ne:(s==Qa)=false:=by rw[Bool.or_eq_false_iff]at l;exact l.1
  rw[xa<|by rw[B,l]];have k:((2^n:Nat):Int)-1=((2^n-1:Nat):Int):=by have:=Ae n;lia
  refine(za<|by simp![(fb n<|Y8),Zf,k];rfl).j ?_;have C:eval (k8<|m+1) qu (m2 n r (.w [.u s,.n j,x]) s (si v) (si u) (si<|2^n-1) u0) h=.j (.j<|((QD n v).a1<|QD n u).j pD) h:=by
   unfold qu;rw[Xp (λa=>bj (fH n (tb n v) a)<|fH n (tb n u) a) rfl (Y8) λa I=>⟨.v _,?_,rfl⟩]
   .rw[QD,QD,List.zip_map',Ad9];rfl
   .have E:Gj .x (a:Int) (n:Int)=y0 _:=je a n Y6;have lt:∀w:Nat,(w/2^(a*n)&&&(2^n-1))<2^n:=λw=>by rw[Ag3];exact Ak2 _<|Ae n
    have p:call prog (m+1) YO [.i (v/2^(a*n)&&&(2^n-1))] h=.j (.i<|fH n (tb n v) a) h:=by rw[ZZ m n _ h (Y8)<|lt v,CK]
    have o:call prog (m+1) YO [.i (u/2^(a*n)&&&(2^n-1))] h=.j (.i<|fH n (tb n u) a) h:=by rw[ZZ m n _ h (Y8)<|lt u,CK]
    simp![E,zq,xc,jd,p,o]
  have A:(QD n v).e=(QD n u).e:=by simp[QD]
  have i:=f (.l<|((QD n v).a1<|QD n u).j pD) ((QD n v).a1<|QD n u) xb (by rw[An3];simp[QD];exact Y8)<|λa b=>rfl;rw[VI<|An A,VL<|An A.u]at i;refine(za<|by rw[exec,C];rfl).j ?_;rw[qa];refine Ja rfl ?_;rw[qS,Wm,Wm,FM d,FM d];simp![zb,ae,Wr,i];have iff:(s∈[Qa,xb])↔(s==xb)=true:=up.j (by rw[ne];simp);by_cases q:s∈[Qa,xb]
  .rw[Da q,Da<|iff.u q]
  .rw[FM q,FM λz=>q<|iff.w z]
def EZ(f:n<=4)(d:s∈[Qa,jc,xb,qi])(g:v<2^(n*n))(i:u<2^(n*n))(e:call prog (m+1) Yo [.i n,.r r,.v x] h=.j (.v<|bj v u) h):call prog (m+2) Y3 [.i n,.r r,.t [.u s,.n j,x]] h=.j (.v<|aP<|qS s j (Wm n v s)<|Wm n u s) h:=by
 have z:=sW (j:=j) f d g i e;rw[Gb rfl _ _ _ rfl];simp only[bz]at z⊢;have c:=by
  have:∀s∈[Qa,jc,xb,qi],(s==jk)=y9/\(s==W7)=false:=by decide
  exact this s d
 refine fx (by simp![we];rfl) ?_;rw[xa<|by rw[Gn,lM (a:=s==jk) (b:=s==W7) (by simp![zb])<|by simp![zb],R.ab,c.1,c.2];rfl,z,Ga _ _ _ rfl]
def CC{b:Bool}(a:n<=4)(c:v<2^(n*n))(d:u<2^(n*n))(e:call prog (m+1) Yo [.i n,.r r,.v x] h=.j (.v<|bj v u) h):call prog (m+2) Y3 [.i n,.r r,.t [.u (if b then jk else W7),x]] h=.j (.v<|aP<|qS (if b then Qa else jc) b.j (Wm n v<|if b then Qa else jc)<|Wm n u<|if b then Qa else jc) h:=by
 cases b with
|true=>have z:=sW (s:=Qa) (j:=1) a Y5 c d e;rw[Gb rfl _ _ _ rfl];simp only[bz]at z⊢;refine fx (by simp![ae,we];rfl) ?_;rw[za (τ1:=m2 n r (.w [.u Qa,.n (1),x]) Qa u0 u0 u0 u0) rfl,z,Ga _ _ _ rfl];rfl
|false=>have z:=sW (s:=jc) (j:=0) a Y5 c d e;rw[Gb rfl _ _ _ rfl];simp only[bz]at z⊢;refine fx (by simp![ae,we];rfl) ?_;rw[za (τ1:=m2 n r (.w [.u jc,.n (0),x]) jc u0 u0 u0 u0) rfl,z,Ga _ _ _ rfl];rfl
end
abbrev ki(n r:Nat)(d:D)(s:Tx)(b a c:Option W):Sl:=[si n,y0 (.r r),sv d,y0 (.s s),b,a,c]
def Na(b)(p q)(h):Gp .u (.b b) (.l [aP p,aP q]) h=y0 (p==y0 b||q==y0 b):=by
 cases b<;>rcases p with _|_|_<;>rcases q with _|_|_<;>rfl
def Rv(p q)(h):Gp .u (.v .U) (.l [aP p,aP q]) h=y0 (p==u0||q==u0):=by
 rcases p with _|_|_<;>rcases q with _|_|_<;>rfl
def Hz(b)(p q:Option Bool)(c:(p==y0 b||q==y0 b)=k9):y0 b=if b then gk p q else eZ p q:=by
 cases b<;>rcases p with _|_|_<;>rcases q with _|_|_<;>first|rfl|cases c
def FC(b)(p q:Option Bool)(a:(p==y0 b||q==y0 b)=y9)(c:(p==u0||q==u0)=k9):u0=if b then gk p q else eZ p q:=by
 cases b<;>rcases p with _|_|_<;>rcases q with _|_|_<;>first|rfl|exact absurd a<|by decide|exact absurd c Y5
def EM(b)(p q)(a:(p==y0 b||q==y0 b)=y9)(c:(p==u0||q==u0)=y9):y0 (!b)=if b then gk p q else eZ p q:=by
 cases b<;>rcases p with _|_|_<;>rcases q with _|_|_<;>first|rfl|exact absurd a<|by decide|exact absurd c Y5
section
variable{m n r:Nat}{h:AH}
def zz(z:execs (k8 m) (match bg.j with|.j _ r=>r|r=>r) (ki n r (.w<|.u s::ds) s u0 u0 u0) h=.u (.v d) h):call prog (m+1) Yr [.i n,.r r,.t (.u s::ds)] h=.j (.v d) h:=by rw[Gb rfl _ _ _ rfl];simp only[bg]at z⊢;refine fx (by simp![ae,we];rfl) ?_;rw[z,Ga _ _ _ rfl]
def HJ(e:call prog m Yr [.i n,.r r,.v x] h=.j (.v<|aP p) h):call prog (m+1) Yr [.i n,.r r,.t [.u XL,x]] h=.j (.v (aP (p.j (!·)))) h:=by
 refine zz ?_;simp only[bg];rw[qa];refine(Zo<|Wk (s:=XL) _ rfl).j ?_;refine(za<|by simp![ae,Wr,e];rfl).j ?_;cases p with
|none=>exact qa<|(Zo rfl).j<|qa rfl
|some b=>rw[xa rfl];exact qa<|Ja rfl<|by simp![];rfl
def K4(a:call prog m Yr [.i n,.r r,.v x] h=.j (.v<|aP p) h)(b:call prog m Yr [.i n,.r r,.v y] h=.j (.v<|aP q) h):eval (k8 m) ju (ki n r d s x4 (some<|.l [x,y]) none) h=.j (.j [aP p,aP q]) h:=by exact x3 rfl (by assumption)<|by assumption
def uf(g:call prog m Yr [.i n,.r r,.v x] h=.j (.v<|aP p) h)(f:call prog m Yr [.i n,.r r,.v y] h=.j (.v<|aP q) h):execs (k8 m) (.d (.j 6 ju) (.r (.B .u (.B .j .N<|.u jC) .v6)<|.B .j .N<|.u jC) (.r (.B .u .au .v6) .au)<|.ret<|.B .w .N<|.u jC) (ki n r d s none (some<|.l [x,y]) none) h=.u (.v<|aP<|if s==jC then gk p q else eZ p q) h:=by
 rw[za (τ1:=ki n r d s u0 _ _)<|by rw[exec,K4 g f];rfl];have e:Gn (k8 m) (.B .u (.B .j .N<|.u jC) .v6) (ki n r d s u0 (y0<|.l [x,y])<|y0<|.l [aP p,aP q]) h=.j (p==y0 (s==jC)||q==y0 (s==jC)) h:=by simp![zb,Na]
 have c:Gn (k8 m) (.B .u .au .v6) (ki n r d s u0 (y0<|.l [x,y])<|y0<|.l [aP p,aP q]) h=.j (p==u0||q==u0) h:=by simp![Rv]
 have ne:Gp .w (.s s) (.s jC) h=y0 (!(s==jC)):=by have this:=zb s jC h;exact congrArg (Option.map (!·)) this
 cases a:(p==y0 _||q==y0 _)with
|true=>rw[qg (w:=.b<|s==jC) (by rw[e,a])<|Ja rfl<|by simp![zb],←Hz _ p q a];rfl
|false=>
  rw[xa<|by rw[e,a]];cases b:(p==u0||q==u0)with
|true=>rw[qg (by rw[c,b]) rfl,←FC _ p q a b];rfl
|false=>rw[xa<|by rw[c,b],qa (w:=.b<|!(s==jC)) (h1:=h)<|Ja rfl<|by simp![ne],←EM _ p q a b];rfl
def nV:Gn (k8 m) (.B .u .N<|.x<|.c (.u Zy) (.u jC)<|.u zc) (ki n r d s u0 u0 u0) h=.j (u9<|s∈[Zy,jC,zc]) h:=by have:=zX s [Zy,jC,zc] h;simp only[Ab2,Af9]at this;simp![this]
def uW(a:(s==XL)=y9)(d:s∈[Zy,jC,zc])(e:(s==zc)=y9)(c:call prog m Yr [.i n,.r r,.v x] h=.j (.v<|aP p) h)(b:call prog m Yr [.i n,.r r,.v y] h=.j (.v<|aP q) h):call prog (m+1) Yr [.i n,.r r,.t [.u s,x,y]] h=.j (.v<|aP<|if s==jC then gk p q else eZ p q) h:=by refine zz ?_;simp only[bg];rw[xa<|(Wk _ rfl).j<|by rw[a],qa];refine(Zo<|by rw[nV,FB d]).j ?_;refine(za<|by simp![xH];rfl).j ?_;rw[xa<|(Wk _ rfl).j<|by rw[e]];exact uf c b
def EW(a:call prog m Yr [.i n,.r r,.t [.u WI,x,y]] h=.j (.v<|aP p) h)(b:call prog m Yr [.i n,.r r,.t [.u WI,y,x]] h=.j (.v<|aP q) h):call prog (m+1) Yr [.i n,.r r,.t [.u zc,x,y]] h=.j (.v<|aP<|eZ p q) h:=by refine zz ?_;simp only[bg];rw[xa<|Wk (s:=zc) _ rfl,qa];refine(Zo<|by rw[nV];rfl).j ?_;refine(za<|by simp![xH];rfl).j ?_;rw[za<|(Zo<|Wk (s:=zc) _ rfl).j<|by rw[za (τ1:=ki n r (.w [.u zc,x,y]) zc u0 (y0<|.l [.w [.u WI,x,y],.w [.u WI,y,x]]) u0) (h1:=h)<|by simp![ae,Wr,xH],execs]];exact uf a b
def tX(a:call prog (m+1) Yo [.i n,.r r,.v x] h=.j (.v<|bj v u) h)(b:call prog (m+1) Yo [.i n,.r r,.v y] h=.j (.v<|bj v' u') h):call prog (m+2) Yr [.i n,.r r,.t [.u WI,x,y]] h=.j (.v<|aP<|dQ v u v' u') h:=by refine zz ?_;simp only[bg];rw[xa<|Wk (s:=WI) _ rfl,xa<|by rw[nV];rfl,qg (w:=.v<|aP<|dQ v u v' u') (Wk (s:=WI) _ rfl)<|Ja rfl<|by simp![ae,Wr,xH,a,b,Hm]]
def p8(h1:(s==XL)=y9)(a:s∉[Zy,jC,zc])(b:(s==WI)=y9)(e:call prog m Y3 [.i n,.r r,.t (.u s::ds)] h=.j (.v d) h):call prog (m+1) Yr [.i n,.r r,.t (.u s::ds)] h=.j (.v d) h:=by refine zz ?_;simp only[bg];rw[xa<|(Wk _ rfl).j<|by rw[h1],xa<|by rw[nV,IR a],xa<|(Wk _ rfl).j<|by rw[b],qa<|Ja rfl<|by assumption]
end
def uD(P:Dc a b f r h):∀s m,s.j+8<=m->s.y (a.K++a.T)->∃q,Td a b s q/\call prog m Yr [.i a.n,.r r,.v (aB s)] h=.j (.v<|aP q) h:=by
 have n4:=P.n4;intro s;induction s with
|fact f=>
  intro m c wf;simp only[Sy.dp]at c;cases f with
 |d8 x y=>simp only[Fc.dp]at c;obtain⟨k,rfl⟩:=nk m 2<|Ab4 (Fk _ _) ‹_›;obtain⟨v,u,q,e⟩:=Xl P x (k+1) Y6 wf.1;obtain⟨l,n,o,d⟩:=Xl P y (k+1) Y6 wf.2;exact⟨_,⟨v,u,l,n,q,o,rfl⟩,tX e d⟩
 |eP x y=>simp only[Fc.dp]at c;obtain⟨k,rfl⟩:=nk m 3<|Ab4 (Fk _ _) ‹_›;obtain⟨v,u,q,e⟩:=Xl P x (k+1) Y6 wf.1;obtain⟨l,n,o,d⟩:=Xl P y (k+1) Y6 wf.2;exact⟨_,⟨v,u,l,n,q,o,rfl⟩,EW (tX e d)<|tX d e⟩
 |eQ x=>simp only[Fc.dp]at c;obtain⟨k,rfl⟩:=nk m 3<|Ab4 (Fk _ _) ‹_›;obtain⟨v,u,q,e⟩:=Xl P x (k+1) Y6 wf;exact⟨_,⟨v,u,q,rfl⟩,p8 rfl Y5 rfl<|CC (b:=k9) n4 q.j.1 q.u.1 e⟩
 |au x=>simp only[Fc.dp]at c;obtain⟨k,rfl⟩:=nk m 3<|Ab4 (Fk _ _) ‹_›;obtain⟨v,u,q,e⟩:=Xl P x (k+1) Y6 wf;exact⟨_,⟨v,u,q,rfl⟩,p8 rfl Y5 rfl<|CC (b:=y9) n4 q.j.1 q.u.1 e⟩
 |cnt s j x=>
   simp only[Fc.dp]at c;obtain⟨k,rfl⟩:=nk m 3<|Ab4 (Fk _ _) ‹_›;obtain⟨v,u,q,e⟩:=Xl P x (k+1) Y6 wf.2;have A:∀s∈[Qa,jc,xb,qi],(s==XL)=y9/\s∉[Zy,jC,zc]/\(s==WI)=false:=by decide
   obtain⟨z,C,B⟩:=A s wf.1;exact⟨_,⟨v,u,q,rfl⟩,p8 z C B<|EZ n4 wf.1 q.j.1 q.u.1 e⟩
|neg x D=>intro m c wf;simp only[Sy.dp]at c;obtain⟨k,rfl⟩:=nk m 1<|Ab4 (Fk _ _) ‹_›;obtain⟨q,t,e⟩:=D k (On ‹_›) wf;exact⟨_,⟨q,t,rfl⟩,HJ e⟩
|cv x y i g=>intro m c wf;simp only[Sy.dp]at c;obtain⟨k,rfl⟩:=nk m 1<|Ab4 (Fk _ _) ‹_›;obtain⟨p,t,e⟩:=i k Y6 wf.1;obtain⟨q,w,d⟩:=g k Y6 wf.2;exact⟨_,⟨p,q,t,w,rfl⟩,uW (s:=Zy) rfl Y5 rfl e d⟩
|cI x y i g=>intro m c wf;simp only[Sy.dp]at c;obtain⟨k,rfl⟩:=nk m 1<|Ab4 (Fk _ _) ‹_›;obtain⟨p,t,e⟩:=i k Y6 wf.1;obtain⟨q,w,d⟩:=g k Y6 wf.2;exact⟨_,⟨p,q,t,w,rfl⟩,uW (s:=jC) rfl Y5 rfl e d⟩
abbrev ag(ns:List Int)(i:Nat)(v:Int):Cell:=.x [.x (ns.j .p),.n i,.p v]
def En:Gj .pow 10 18=y0 1000000000000000000:=by
 have:(0:Int)<=18/\18<=BP/\(10:Int).u<l3:=by rw[Kj,GE];decide
 show(if _ then _ else _)=_;rw[Da this];rfl
def Pe(v)(e:eval F (.G .A<|.p 2) τ h=.j (.v<|.p v) h):Gn F (.not<|.chain .le .lt (.p 0) (.G .A<|.p 2)<|.y .pow (.p 10)<|.p 18) τ h=.j (!(u9 (0<=v)&&u9 (v<1000000000000000000))) h:=by
 rw[Gn,eval,show eval F _ τ h=.j (.b<|u9 (0<=v)&&u9 (v<1000000000000000000)) h by
  rw[eval,eval,R.ab,e,R.ab];by_cases q:0<=v
  .simp![mJ,m7,En,q,UB,Ae7]
  .simp![mJ,q,Vi,Af7]]
 simp![]
def Qf(k:Nat){ns:List Int}{i:Nat}{v:Int}{h:AH}{r m:Nat}(e:h[r]?=y0 (ag ns i v))(C:0<m)(B:m<1073741824):
 ∃(d:Nat)(g:Int),d<m/\call prog (k+1) Yn [.r r,.i m] h=.j (.i d) (h.y r<|ag ns i g):=by
 rw[Gb rfl _ _ _ rfl];have a:(0:Int)<(m:Int):=by lia
 have i2:eval (k8 k) (.G .A<|.p 2) [y0 (.r r),si m,u0] h=.j (.v<|.p v) h:=by simp![Zx e,lX]
 have n:=Pe v i2;show∃d g,_/\Gx _ (execs _ _ [y0 (.r r),si m,u0] h)=_;simp only[QS];have l:∀x:Int,∃d:Nat,d<m/\x%(m:Int)=(d:Int):=λx=>⟨(x%(m:Int)).j,by have:=Ar0 x a;have:=Aq x<|Yi a;lia,by have:=Aq x<|Yi a;lia⟩;cases c:(u9 (0<=v)&&u9 (v<1000000000000000000))with
|false=>
  obtain⟨d,f,b⟩:=l v;refine⟨d,v/(m:Int),f,?_⟩;have o:dY .divmod [.v (.p v),.i m] h=aj (.w [.p (v/(m:Int)),.n d]) h:=by rw[DN,Da ⟨a,by rw[GR];lia⟩,b]
  rw[qa]
  .exact Ga _ h _<|by rw[Ad5]
  refine(Zo<|by rw[n,c];rfl).j ?_;refine(za<|by rw[exec,show eval (k8 k) (.Z .divmod<|.b (.G .A<|.p 2) .C) [y0 (.r r),si m,u0] h=aj (.w [.p (v/(m:Int)),.n d]) h by simp![Zx e,lX,o]];simp![aj,gD,Kt,e,FA,Kr,Os];rfl).j ?_;exact qa rfl
|true=>
  rw[Aa2,L2,L2]at c;have s:Gj .x v 742939=y0 (v*742939):=tI _ _ Y5;have q:Gj .x (i:Int) 65063=y0 ((i:Int)*65063):=tI _ _ Y5;have j:Gj .A (v*742939+(i:Int)*65063+40503) 16777213=y0 ((v*742939+(i:Int)*65063+40503)%16777213):=QJ _ _ Y5;have t:=Aq (v*742939+(i:Int)*65063+40503) (show(16777213:Int)≠0 by decide);have p:=Ar0 (v*742939+(i:Int)*65063+40503) (show(0:Int)<16777213 by decide);generalize E:(v*742939+(i:Int)*65063+40503)%16777213=w at j t p;have i1:eval (k8 k) (.G .A<|.p 1) [y0 (.r r),si m,u0] h=.j (.i i) h:=by simp![Zx e,J2]
  obtain⟨d,f,b⟩:=l<|w*(w%4093+7)/64;refine⟨d,w,f,?_⟩;rw[xa<|by rw[n,FB c.1,FB c.2];rfl,za (h1:=h.y r<|ag ns i w)<|xA (by simp![Zx e,J2,lX,s,q,Qc,j]) rfl e rfl rfl rfl];have A:=Aq w (show(4093:Int)≠0 by decide);have D:=Ar0 w (show(0:Int)<4093 by decide);have u:Gj .A w 4093=y0 (w%4093):=QJ _ _ Y5;have z:Gj .x w (w%4093+7)=y0 (w*(w%4093+7)):=tI _ _ Y6;have y:Gj .fdiv (w*(w%4093+7)) 64=y0 (w*(w%4093+7)/64):=uJ _ _ Y5 Y5;have n4:Gj .A (w*(w%4093+7)/64) (m:Int)=y0 ((d:Nat):Int):=by rw[QJ _ _ a,b]
  rw[qa (w:=.i d) (h1:=h.y r<|ag ns i w)<|Ja rfl<|by simp![Zx<|Ab8<|(Aa0.u e).1,lX,u,Qc,z,y,n4]];exact Ga _ h _<|by rw[Ad5]
def Av{ns:List Int}(b:ns.e<=63)(q:eval F e τ h=.j (.l<|ns.j .p) h):∃s,eval F (.Z .sum<|.a<|.eG e<|.p j) τ h=.j (.v<|.p s) h:=by
 have a:(cut ns u0<|y0 j).e<=bh:=by have:=Fe ns u0<|y0 j;rw[Gf];lia
 refine⟨(cut ns u0<|y0 j).sum,?_⟩;simp![q,Cj,SM,yl,W8,Aa,a,Os]
def SQ(k)(ns:List Int)(a:ns.e<=63)(h):∃v,call prog (k+1) "_law_start" [.l (ns.j .p)] h=.j (.j [.x (ns.j .p),.n (0),.p v]) h:=by show∃v,Gx _ (execs _ _ [y0 _] h)=_;obtain⟨s,e⟩:=Av (F:=(k8 k)) (e:=.var 0) (τ:=[y0 (.l<|ns.j .p)]) (h:=h) a (by simp![]);refine⟨s,?_⟩;simp only[xM];rw[qa (w:=.j [.x (ns.j .p),.n (0),.p s]) (h1:=h)<|Ws rfl<|by generalize E.bi _ _=X at e⊢;simp![e];rfl,Gs _ _ _ rfl]
def pV(k)(m:ns.e<=63)(e:h[r]?=y0 (ag ns i v)):
 ∃v':Int,call prog (k+1) Y4 [.r r] h=.j (.v .U) (h.y r<|ag ns (i+1) v'):=by
 rw[Gb rfl _ _ _ rfl];have c:r<h.e:=(Aa0.u e).1;have e1:(h.y r<|ag ns (i+1) v)[r]?=y0 _:=Ab8 c;show∃v',Gx _ (execs _ _ [y0 _] h)=_;simp only[WR];obtain⟨s,f⟩:=Av (F:=(k8 k)) (e:=.G .A<|.p 0) (τ:=[y0 (.r r)]) (h:=h.y r<|ag ns (i+1) v) m (by simp![Zx e1,oM]);have l:Gj .x 7 _=y0 (7*((i+1:Nat):Int)):=Lo _ _ Y5;have j:∀x:Int,Gj .A x 16777213=y0 _:=λx=>QJ _ _ Y5;have a:∀x y,(h.y r<|ag ns (i+1) x).y r _=h.y r (ag ns (i+1) y):=λx y=>Ae8 ..;have i1:((i:Int)+1)=((i+1:Nat):Int):=rfl;generalize n:(7*((i+1:Nat):Int)+s)%16777213=w;have e2:(h.y r<|ag ns (i+1) w)[r]?=y0 _:=Ab8 c;rw[za (h1:=h.y r<|ag ns (i+1) v)<|xA (by simp![Zx e,J2,Qc,i1]) rfl e rfl rfl rfl,za<|xA (by generalize E.bi _ _=X at f⊢;simp![f,Zx e1,J2,l,Qc,j,n]) rfl e1 rfl rfl (a v w).u];have g:Gn (k8 k) (.B .lt (.G .A<|.p 1)<|.Z .w<|.a<|.G .A<|.p 0) [y0 (.r r)] (h.y r<|ag ns (i+1) w)=.j (u9<|i+1<ns.e) (h.y r<|ag ns (i+1) w):=by have:(u9<|((i+1:Nat):Int)<(ns.e:Int))=u9 (i+1<ns.e):=decide_eq_decide.w Y6;simp![Zx e2,J2,oM,XN,aj,Aa,m7,this]
 by_cases q:i+1<ns.e
 .refine⟨ns[i+1],?_⟩;have b:aW (ns.j D.int) ((i+1:Nat):Int)=y0 (.p ns[i+1]):=by rw[ze _ _<|by rw[Aa];exact q,Ab9,Aa1 q];rfl
  refine fx ((Zo<|by rw[g,FB q]).j<|by refine(za<|xA (d:=.p ns[i+1]) (by simp![Zx e2,oM,J2,Js,b]) rfl e2 rfl rfl (a w _).u).j ?_;rw[execs]) ?_;rw[execs];exact GB _ h _<|by rw[Ad5]
 .refine⟨w,?_⟩;rw[xa<|by rw[g,IR q],execs];exact GB _ h _<|by rw[Ad5]
def V.uniq (h:V n v g)(q:V n w g):v=w:=Wf.fh h.lt q.lt λk a=>by have c:=h.2 _ _ (Wf.bf a)<|Wf.aZ a;have b:=q.2 _ _ (Wf.bf a)<|Wf.aZ a;rw[Wf.bw]at c b;rw[V5,c,b]
theorem B.uniq (h:B a b e v u)(q:B a b e v' u'):v=v'/\u=u':=⟨h.j.uniq q.j,h.u.uniq q.u⟩
theorem hY.uniq (h:hY a b f p)(k:hY a b f q):p=q:=by
 cases f with
|d8 x y=>obtain⟨v,u,i,m,d,g,rfl⟩:=h;obtain⟨w,t,l,n,c,e,rfl⟩:=k;obtain⟨rfl,rfl⟩:=d.uniq c;obtain⟨rfl,rfl⟩:=g.uniq e;rfl
|eP x y=>obtain⟨v,u,i,m,d,g,rfl⟩:=h;obtain⟨w,t,l,n,c,e,rfl⟩:=k;obtain⟨rfl,rfl⟩:=d.uniq c;obtain⟨rfl,rfl⟩:=g.uniq e;rfl
|eQ x=>obtain⟨v,u,d,rfl⟩:=h;obtain⟨w,t,c,rfl⟩:=k;obtain⟨rfl,rfl⟩:=d.uniq c;rfl
|au x=>obtain⟨v,u,d,rfl⟩:=h;obtain⟨w,t,c,rfl⟩:=k;obtain⟨rfl,rfl⟩:=d.uniq c;rfl
|cnt s j x=>obtain⟨v,u,d,rfl⟩:=h;obtain⟨w,t,c,rfl⟩:=k;obtain⟨rfl,rfl⟩:=d.uniq c;rfl
theorem Td.uniq:∀{s}{p q},Td a b s p->Td a b s q->p=q
|.w _,_,_,h,k=>hY.uniq h k
|.u _,_,_,z7,z8=>by obtain⟨p,h,e⟩:=z7;obtain⟨q,k,c⟩:=z8;rw[e,c,Td.uniq h k]
|.cv _ _,_,_,z7,z8=>by obtain⟨p,q,h,f,e⟩:=z7;obtain⟨g,i,k,d,c⟩:=z8;rw[e,c,Td.uniq h k,Td.uniq f d]
|.cI _ _,_,_,z7,z8=>by obtain⟨p,q,h,f,e⟩:=z7;obtain⟨g,i,k,d,c⟩:=z8;rw[e,c,Td.uniq h k,Td.uniq f d]
theorem AA:∀{N},((aR N f).u t).w=u9 (t∈N)
|[]=>rfl
|y::N=>by
  show(Aj0 t<|(y,_)::aR N f).w=_;rw[Ad];by_cases e:t=y
  .subst e;rw[Tg,FB Aa4];rfl
  .rw[beq_eq_false_iff_ne.w e];rw[AA];exact decide_eq_decide.w ⟨Aa3 _,λh=>(Ab5.u h).x e⟩
noncomputable def XZ(f:Tx->Nat×Nat)(t:Tx)(p:Nat×Nat):Tx->Nat×Nat:=λx=>if x=t then p else f x
def CH(h:t∈N):GG (aR N f) t (bj p.1 p.2)=aR N (XZ f t p):=by
 unfold GG aR;rw[Da<|Ad8.w ⟨_,Ab7.w ⟨t,h,rfl⟩,by simp⟩,Ad9];refine Aj6 λx a=>?_;show(if x=t then(x,bj p.1 p.2)else(x,bj (f x).1 (f x).2))=(x,bj (XZ f t p x).1 (XZ f t p x).2);unfold XZ;by_cases e:x=t
 .rw[Da e,Da e]
 .rw[FM e,FM e]
def xv(k)(d)(h)(a:Gc d=k9):call prog (k+1) "_law_whole" [.v d] h=.j (.b<|qx d) h:=by
 cases d<;>first|exact Ga _ _ _ rfl|cases a
def Xs(e:h[r]?=y0 (.u ks)):GW h (y0<|.r r)=y0 (r,ks):=by unfold GW;simp[e]
def pw(v p:Nat):Gj .w (v:Int) ((2^p:Nat):Int)=y0 ((if v.j p then 2^p else 0:Nat):Int):=by
 rw[xc,jd];congr 2;refine Al λk=>?_;rw[Ai1,Ae6];by_cases e:p=k
 .subst e;rw[FB rfl,UY];cases v.j p with
|true=>rw[Da rfl,Al8]
|false=>rw[FM Ac0,Ag4]
 .rw[IR e,Ai];cases v.j p with
|true=>rw[Da rfl,Ae6,IR e]
|false=>rw[FM Ac0,Ag4]
def Rg(k)(e:h[r]?=y0 (.u<|aR N f))(G:n<=4)(j:t∈N)(X:N.e<=100)(z:a<n)(o:b<n)(l:(f t).1.j (a*n+b)=y9)(i:(f t).2.j (a*n+b)=k9):
 call prog (k+2) "_law_split" [.i n,.r r,.t [.u t,.n a,.n b]] h=.j (.j [.j h.e,.j (h.e+1)]) (h++[.u (aR N<|XZ f t ((f t).1|||2^(a*n+b),(f t).2)),.u (aR N<|XZ f t ((f t).1,(f t).2-2^(a*n+b)))]):=by
 rw[Gb (d:=jy) rfl _ _ _ rfl];have m:a*n+b<16:=by have:=Wf.place_lt z o;have:n*n<=16:=Ag8 G G;exact Ab3 ‹_› ‹_›
 have ge:2^_<=(f t).2:=Nat.ge_two_pow_of_testBit i;generalize O:a*n+b=p at l i m ge⊢;have B:(aR N f).e<bh:=by rw[Gf,aR,Aa];exact Ai9 ‹_› Y5
 generalize J:(f t).1=A at l⊢;generalize K:(f t).2=c at i ge⊢;have D:aR N _=GG (aR N f) t _:=(CH (p:=(A|||2^p,c)) j).u;have s:(aR N f).u t=y0 (bj A c):=by rw[rm j,J,K]
 simp only[jy];have dd:=Xs e;refine fx (by simp![];rfl) ?_;have P:c7 k9 (.s t) (y0 (r,aR N f)) h=.j (.b y9) h:=by unfold c7;simp only[AA,FB j,Os];rfl
 have q:cC .str (.s t)=y0 true:=rfl;rw[xa<|by simp![q,dd,P,(xv k (.n a) h rfl),(xv k (.n b) h rfl),qx]];have g:∀x:Nat,x<n->((0:Int)<=(x:Int)/\(x:Int)<(n:Int)):=λx V=>by lia
 rw[xa<|by simp![mJ,m7,FB (g a z).1,FB (g a z).2,FB (g b o).1,FB (g b o).2,aj]];have dg:fB (.s t) (y0 (r,aR N f)) h=.j (.v<|bj A c) h:=by unfold fB;simp only[s]
 refine fx (by simp![dd,dg];rfl) ?_;have I:(((a*n:Nat):Int)+(b:Int))=((p:Nat):Int):=by rw[←O];rfl
 refine fx (by simp![(je a n Y6),Qc,I,(fb p<|Ag<|Ab3 ‹_› Y5)];rfl) ?_;have C:=pw A p;have F:=pw c p;rw[l,FM Ac0]at C;rw[i,Da rfl]at F;have T:0<2^p:=Ae p;have L:Gp .w (.i<|0) (.v<|.p 0) h=y0 false:=rfl;have S:Gp .j (.i<|2^p) (.v<|.p 0) h=y0 false:=by
  have:=Qh (2^p) 0 h
  rwa [IR<|Ao2 ‹_›]at this
 rw[xa<|by simp![C,F,L,S]];have R:((c:Int)-((2^p:Nat):Int))=((c-2^p:Nat):Int):=by lia
 have Q:(h++[Cell.aU (aR N f)])[h.e]?=y0 (.u<|aR N f):=by simp
 have v:(h++[Cell.aU (aR N f)]).y h.e (.u<|GG (aR N f) t<|bj (A|||2^p) c)=h++[.u (GG (aR N f) t<|bj (A|||2^p) c)]:=by simp
 have nr:Gc (bj (A|||2^p) c)=true:=rfl;have y:Gc (bj A<|c-2^p)=true:=rfl;refine fx (by simp![dd,aj];rfl) ?_;refine fx (by simp![Zn,xn,Xs Q,aj];rw[Da ⟨B,nr⟩,v]) ?_;have E:(h++[Cell.aU (GG (aR N f) t<|bj (A|||2^p) c)])[r]?=y0 (.u<|aR N f):=by rw[Ac2<|(Aa0.u e).1,e]
 generalize GG (aR N f) t (bj (A|||2^p) c)=U at E D⊢;have H:(h++[Cell.aU U]++[Cell.aU (aR N f)])[h.e+1]?=y0 (.u<|aR N f):=by simp
 have u:(h++[Cell.aU U]++[Cell.aU (aR N f)]).y (h.e+1) (.u<|GG (aR N f) t<|bj A<|c-2^p)=h++[Cell.aU U,.u (GG (aR N f) t<|bj A<|c-2^p)]:=by simp[List.set_append]
 have M:(h++[Cell.aU U]).e=h.e+1:=by simp
 refine fx (by simp![Xs E,aj,M];rfl) ?_;refine fx (by simp![Zf,R,Xs H,aj];rw[Da ⟨B,y⟩,u]) ?_;rw[qa (w:=.j [.j h.e,.j (h.e+1)]) (h1:=h++[.u U,.u (GG (aR N f) t<|bj A<|c-2^p)])<|Ws rfl<|by simp![],D,((CH (p:=(A,c-2^p)) j).u)];show fin h.e (.j [.j h.e,.j (h.e+1)]) _=_;unfold fin;rw[FM Y7,FM<|by simp[W.keep]]
abbrev Pl:=Tx×Nat×Nat
def b3(p:Pl):D:=.w [.u p.1,.n (p.2.1),.n (p.2.2)]
noncomputable def gL(n:Nat)(t:Tx):List Pl:=(Aa6 n).j λa=>(t,a,a)
def iE(n:Nat)(t:Tx):List Pl:=(Wf.aC n<|2^(n*n)-1).j λq=>(t,q.1,q.2)
abbrev hO(K T:List Tx)(n:Nat)(l:List Pl)(x:Option W):Sl:=[sv (wD K T),si n,y0 (.j<|l.j b3),x]
theorem pK(g)(d:∀t,(g t).e<=16)(c:∀t l,l.e<=200->execs F b (hO K T n l<|y0<|.s t) h=.j (hO K T n (l++g t)<|y0<|.s t) h):
 ∀(a:List Tx) l x,l.e+16*a.e<=200->∃j,Gq (Gr [3] k9) (λτ h=>execs F b τ h) (a.j .u) (hO K T n l x) h=.j (hO K T n (l++a.X g) j) h
|[],l,x,_=>⟨x,by simp[Gq]⟩
|t::a,l,x,f=>by rw[Aa9]at f;have:=d t;obtain⟨j,e⟩:=pK g d c a (l++g t) (y0<|.s t) (by rw[Aa5];lia);refine⟨j,?_⟩;rw[Ab2,wb rfl<|c t l<|Ab4 (Tv _ _) ‹_›,e,Ak6,Af6]
def L6(k n)(K T)(h)(m:n<=4)(C:K.e<=4)(A:T.e<=4):call prog (k+3) "places_of" [.v (wD K T),.i n] h=.j (.j<|(K.X (gL n)++T.X (iE n)).j b3) h:=by
 rw[Gb rfl _ _ _ rfl];have z:n*n<=16:=Ag8 m m;simp only[WJ];have f:∀t,(gL n t).e<=16:=λt=>by simp[gL];exact Y8
 have lt:∀t,(iE n t).e<=16:=λt=>by rw[iE,Aa,Wf.aC,Aa];exact Ab4 (Ai7 _ _)<|by rwa [Ae1]
 have j:∀(c:List Tx)(g:Tx->List Pl),(∀t,(g t).e<=16)->(c.X g).e<=16*c.e:=λc g i=>by
  induction c with
|nil=>simp
|cons t c E=>rw[Ak6,Aa5,Aa9];have:=i t;lia
 have ext:∀e b (g:Tx->List Pl),(∀t,(g t).e<=16)->b=.a (.ext 2 e)->(∀(t:Tx)(l:List Pl),eval (k8<|k+2) e (hO K T n l<|y0<|.s t) h=.j (.j<|(g t).j b3) h)->∀(t:Tx)(l:List Pl),l.e<=200->execs (k8<|k+2) b (hO K T n l<|y0<|.s t) h=.j (hO K T n (l++g t)<|y0<|.s t) h:=λe b g i s p t l D=>by
  have v:(l.j b3).e+((g t).j b3).e<bh:=by rw[Gf,Aa,Aa];have:=i t;lia
  rw[s];refine(za<|by rw[exec];simp![p,v,Os];rw[←Ad4]).j ?_;rw[execs]
 have w:=ext xp jz _ f rfl λt l=>by unfold xp;rw[Xp (λa=>b3 (t,a,a)) rfl (Y8) λa F=>⟨.v _,by simp![];rfl,rfl⟩,gL,Ad9];rfl
 have u:=ext jq WA _ lt rfl λt l=>by
  unfold jq;rw[jm (ds:=(Wf.aC n<|2^(n*n)-1).j pD) (λd=>match d with|.w [x,y]=>.w [.u t,x,y]|d=>d) (by simp![yI _ n h<|Y8,Xu _ n _ h<|Y8])<|by rw[Gf,Aa,Wf.aC,Aa];have:=Ai7 (2^(n*n)-1).j<|Aa6<|n*n;rw[Ae1]at this;lia]
  .rw[iE,Ad9,Ad9];rfl
  .intro d r;obtain⟨q,_,rfl⟩:=Ab7.u r;exact⟨[si _,si _,y0 _],rfl,.t [.u t,.n _,.n _],by simp![],rfl⟩
 obtain⟨o,e1⟩:=pK _ f w K [] u0 (by simp;lia);obtain⟨B,e2⟩:=pK _ lt u T (K.X<|gL n) o (by have:=j K (gL n) f;lia);rw[Af3]at e1;rw[za (τ1:=hO K T n [] u0) rfl];refine fx (by
  rwa [exec,show Gv (k8<|k+2) (.j<|.G .A<|.p 0) (hO K T n [] u0) h=.j (K.j .u) h by simp![ae,Qn],R.ay]) ?_
 refine fx (by
  rwa [exec,show Gv (k8<|k+2) (.j<|.G .A<|.p 1) (hO K T n (K.X<|gL n) o) h=.j (T.j .u) h by simp![ae,zh],R.ay]) ?_
 rw[qa rfl,Gs _ _ _ rfl]
noncomputable abbrev nC:List Tx:=[iT,lr,ia,km,[101,97,99,104],hU,lu,i6,ir,mE,mH,me,[107,105,110,100],[116,105,101],[115,97,121]]
noncomputable def WZ(st:Tx)(at' f k:Nat):Tx:=st.A at'++[97+(f+5*k)%26]++st.G at'
def cW(st:Tx)(at' f k:Nat):Tx:=if WZ st at' f k∈nC then WZ st at' f k++[113]else WZ st at' f k
def Cy(h:at'<=st.e):(cW st at' f k)[at']?=y0 (97+(f+5*k)%26):=by
 have b:(WZ st at' f k)[at']?=y0 (97+(f+5*k)%26):=by unfold WZ;rw[Af6,Ae3<|by simp_all,Ad2,Aj5 h,Ap8];rfl
 unfold cW;split
 .rwa [Ac2 (Aa0.u b).1]
 .exact b
def O8(a:st.e<=6):(cW st at' f k).e<=8:=by
 have b:(WZ st at' f k).e<=7:=by unfold WZ;rw[Aa5,Aa5,Ad2,Ae9];simp only[Aa9,Ae4];lia
 unfold cW;split
 .rw[Aa5];simp[Ae4];exact Y8
 .lia
def EF(st)(at' f m)(h:at'<=st.e)(a:m<=8):((Aa6 m).j<|cW st at' f).M:=u1 _ m a λi b j c ne z=>by have e1:=Cy (f:=f) (k:=i) h;rw[z,(Cy h)]at e1;have:=Ae0.inj e1;lia
abbrev dD(r m:Nat)(f:Nat)(b a c x7 x8:Option W):Sl:=[y0 (.r r),si m,y0 (.s mW),si f,b,a,c,x7,x8]
theorem Ca(k):∀(l:List Nat) h v st x,h[r]?=y0 (ag ns i v)->st.e+l.e<=6->∃L v' M,L.e<=6∧
 Gq (Gr [5] k9) (λτ h=>execs (k8<|k+1) Zp τ h) (l.j λj=>D.n j) (dD r m f (y0<|.s st) x u0 u0 u0) h=.j (dD r m f (y0<|.s L) M u0 u0 u0) (h.y r<|ag ns i v')
|[],h,v,st,x,e,a=>⟨st,v,x,by simpa using a,by
  rw[show h.y r (ag ns i v)=h by
   refine Vx λj=>?_;by_cases q:r=j
   .subst q;rw[Ab8 (Aa0.u e).1,e]
   .rw[Ad3 q]]
  rfl⟩
|j::l,h,v,st,x,e,a=>by rw[Aa9]at a;obtain⟨d,v1,g,e1⟩:=Qf k e (m:=26) Y5 Y5;have c:=(Aa0.u e).1;obtain⟨L,v',M,b,e2⟩:=Ca k l (h.y r<|ag ns i v1) v1 (st++[97+d]) (si j) (Ab8 c) (by rw[Aa5];simp;lia);rw[Ae8]at e2;refine⟨L,v',M,b,?_⟩;have e1:call prog (k+1) Yn [.r r,.v (.p 26)] h=.j (.i d) (h.y r<|ag ns i v1):=e1;rw[Ab2,wb (τ1:=dD r m f (y0<|.s st) (si j) u0 u0 u0) rfl<|by unfold Zp;rw[za (τ1:=dD r m f (y0<|.s<|st++[97+d]) (si j) u0 u0 u0) (h1:=h.y r<|ag ns i v1)<|by simp![e1,QC d g,add_str st [97+d] _<|by simp;lia],execs],e2]
theorem CQ(x:st.e<=6)(h):∀c j L x8,j+c<=100->∃O M,Gq (Gr [5] k9) (λτ h=>execs F Xk τ h) ((Aa6 c).j λi=>D.n<|j+i) (dD r m f (y0<|.s st) L (si at') (y0<|.j<|((Aa6 j).j<|cW st at' f).j .u) x8) h=.j (dD r m f (y0<|.s st) O (si at') (y0<|.j<|((Aa6<|j+c).j<|cW st at' f).j .u) M) h
|0,j,L,x8,_=>⟨L,x8,rfl⟩
|c+1,j,L,x8,E=>by
  obtain⟨d,l,e⟩:=CQ x h c (j+1) (si<|j) (y0<|.s<|cW st at' f j) Y6;refine⟨d,l,?_⟩;have n:execs F Xk (dD r m f (y0<|.s st) (si<|j) (si at') (y0<|.j<|((Aa6 j).j<|cW st at' f).j .u) x8) h=.j (dD r m f (y0<|.s st) (si<|j) (si at') (y0<|.j<|((Aa6<|j+1).j<|cW st at' f).j .u)<|y0<|.s<|cW st at' f j) h:=by
   have g:Gj .x 5 (j:Int)=y0 ((5*j:Nat):Int):=je 5 j Y5;have v:((f:Int)+((5*j:Nat):Int))=((f+5*j:Nat):Int):=rfl;have y:Gj .A ((f+5*j:Nat):Int) 26=y0 (((f+5*j)%26:Nat):Int):=tm _ 26 Y5;have p:=QC ((f+5*j)%26) (Ak2 _ Y5) h;have A:st.e<=bh:=by rw[Gf];exact Y8
   have o:cut st u0 (y0 (at':Int))=st.A at':=Q2 st at';have u:cut st (y0 (at':Int)) u0=st.G at':=WM st at';have C:(st.A at').e<=6:=by rw[Ad2];lia
   have l2:(st.G at').e<=6:=by rw[Ae9];lia
   have s:=add_str (st.A at') [97+(f+5*j)%26] h (by simp only[Aa9,Ae4];exact Ai9 ‹_› Y5);have a2:=add_str (st.A at'++[97+(f+5*j)%26]) (st.G at') h (by rw[Aa5];simp only[Aa9,Ae4];lia);have G:(WZ st at' f j).e<=13:=by unfold WZ;rw[Aa5,Aa5];simp only[Aa9,Ae4];lia
   have a3:=add_str (WZ st at' f j) [113] h (by simp only[Aa9,Ae4];exact Ai9 ‹_› Y5);have k:=zX (WZ st at' f j) nC h;have w:(((Aa6 j).j<|cW st at' f).j D.str).e<bh:=by rw[Gf,Aa,Aa,Ae1];lia
   have B:((Aa6<|j+1).j<|cW st at' f).j D.str=((Aa6 j).j<|cW st at' f).j D.str++[.u (cW st at' f j)]:=by rw[Uv];simp
   unfold Xk;rw[za (τ1:=dD r m f (y0<|.s st) (si<|j) (si at') (y0<|.j<|((Aa6 j).j<|cW st at' f).j .u)<|y0<|.s<|WZ st at' f j)<|by simp![sQ,A,o,u,g,Qc,v,y,p,s,a2];rfl];have b:Gn F (.B .u .v8<|.dH Dq nC) (dD r m f (y0<|.s st) (si<|j) (si at') (y0<|.j<|((Aa6 j).j<|cW st at' f).j .u)<|y0<|.s<|WZ st at' f j) h=.j (u9<|WZ st at' f j∈nC) h:=by rw[Gn,eval,eval];rw[show Gi (dD r m f (y0<|.s st) (si<|j) (si at') (y0<|.j<|((Aa6 j).j<|cW st at' f).j .u)<|y0<|.s<|WZ st at' f j) 8=y0 (.s<|WZ st at' f j)from rfl,R.ab,eval,R.ab,k];rfl
   have a:∀t:Tx,t=cW st at' f j->execs F (.a<|.app 7 .v8) (dD r m f (y0<|.s st) (si<|j) (si at') (y0<|.j<|((Aa6 j).j<|cW st at' f).j .u)<|y0<|.s t) h=.j (dD r m f (y0<|.s st) (si<|j) (si at') (y0<|.j<|((Aa6<|j+1).j<|cW st at' f).j .u)<|y0<|.s<|cW st at' f j) h:=λt z=>by subst z;rw[B];simp![w,Os]
   by_cases q:WZ st at' f j∈nC
   .rw[za (τ1:=dD r m f (y0<|.s st) (si<|j) (si at') (y0<|.j<|((Aa6 j).j<|cW st at' f).j .u)<|y0<|.s<|WZ st at' f j++[113]) (h1:=h)<|(Zo<|by rw[b,FB q]).j<|by simp![a3]];exact a _<|by rw[cW,Da q]
   .rw[xa<|by rw[b,IR q]];exact a _<|by rw[cW,FM q]
  rw[Ai2,Ab2,Ad9,wb rfl n];have:((λi=>D.n<|j+i)∘Nat.succ)=λi=>D.n<|j+1+i:=by funext i;show D.n (j+(i+1))=_;rw[show j+(i+1)=j+1+i by lia]
  rw[this,e,show j+1+c=j+(c+1)by lia]
def Ew(c k:Nat):(Aa7 k [c]).T=Aa7 k c:=by simp
def Ej(k)(e:h[r]?=y0 (ag ns i v))(G:m<=8):∃(N:List Tx)(B:Int),N.e=m/\N.M/\(∀t∈N,t.e<=8)/\call prog (k+2) "_law_names" [.r r,.i m] h=.j (.j<|N.j .u) (h.y r<|ag ns i B):=by
 have p:∀w,_[r]?=y0 (ag ns i w):=λw=>Ab8<|(Aa0.u e).1;have I:∀w,(h.y r<|ag ns i w).e=h.e:=λw=>Ad5 ..;rw[Gb (d:=Xx) rfl _ _ _ rfl];show∃N B,_/\_/\_/\Gx _ _=_;simp only[Xx];obtain⟨f,v1,O,e1⟩:=Qf k e (m:=26) Y5 Y5;have e1:call prog _ Yn [.r r,.v (.p 26)] h=.j _ _:=e1;obtain⟨d,v2,T,e2⟩:=Qf k (p v1) (m:=3) Y5 Y5;rw[Ae8]at e2;have e2:call prog _ Yn [.r r,.v (.p 3)] _=.j _ _:=e2;rw[za (τ1:=[y0 (.r r),si m,y0 (.s mW),u0,u0,u0,u0,u0,u0]) (h1:=h) rfl,za (τ1:=dD r m f u0 u0 u0 u0 u0) (h1:=h.y r<|ag ns i v1)<|by simp![e1]];have L:∀h,Gp .j _ (.v<|.p 0) h=y0 _:=λh=>Qh d 0 h;have J:Gn (k8<|k+1) (.B .j (.j Yn<|.b .A<|.p 3)<|.p 0) (dD r m f none none none none none) (h.y r<|ag ns i v1)=.j (decide<|d=0) (h.y r<|ag ns i v2):=by simp![e2,L]
 by_cases q:d=0
 .refine⟨(Aa6 m).j λj=>Aa7 (j+1)<|97+f,v2,by simp,u1 _ m G<|λa S b D ne z=>by have:=congrArg List.length z;simp at this;lia,λt y=>?_,?_⟩
  .obtain⟨j,x,rfl⟩:=Ab7.u y;rw[Af];have:=Ab6.u x;exact Ab3 ‹_› ‹_›
  .rw[qa (w:=.j<|((Aa6 m).j λj=>Aa7 (j+1)<|97+f).j .u) (h1:=h.y r<|ag ns i v2)<|(Zo (h1:=h.y r<|ag ns i v2)<|by rw[J,FB q]).j<|qa<|Ws rfl ?_]
   .exact Gs _ h _<|I v2
   .unfold qz;rw[Xp (n:=m) (λj=>.u<|Aa7 (j+1)<|97+f) rfl (Y8) λj x=>⟨.s<|Aa7 (j+1)<|97+f,?_,rfl⟩]
    .rw[Ad9];rfl
    .have u:((j:Int)+1)=((j+1:Nat):Int):=rfl;have A:=mul_str [97+f] (j+1) (h.y r<|ag ns i v2) Y6 (by simp;lia);rw[Ew]at A;simp![QC f O,Qc,u,A]
 .rw[za (τ1:=dD r m f u0 u0 u0 u0 u0) (h1:=h.y r<|ag ns i v2)<|(kv (h1:=h.y r<|ag ns i v2)<|by rw[J,IR q]).j rfl,za (τ1:=dD r m f (y0<|.s []) u0 u0 u0 u0) (h1:=h.y r<|ag ns i v2) rfl];obtain⟨c,v3,U,s⟩:=Qf k (p v2) (m:=6) Y5 Y5;rw[Ae8]at s;have s:call prog (k+1) Yn [.r r,.v (.p 6)] (h.y r<|ag ns i v2)=.j (.i c) (h.y r<|ag ns i v3):=s;obtain⟨g,v4,o,l,H⟩:=Ca k (ns:=ns) (i:=i) (r:=r) (m:=m) (f:=f) (Aa6 c) (h.y r<|ag ns i v3) v3 [] u0 (p v3) (by simp;exact Ag ‹_›);rw[Ae8]at H;have P:Gv (k8<|k+1) (.ar<|.j Yn<|.b .A<|.p 6) (dD r m f (some<|.s []) none none none none) (h.y r<|ag ns i v2)=.j ((List.range c).j fun i=>.n i) (h.y r<|ag ns i v3):=by
   have D:-fk<=(c:Int)/\(c:Int)<fk:=by rw[GL];lia
   simp![s];rw[Da D,Ac5]
  rw[za (τ1:=dD r m f (y0<|.s g) o u0 u0 u0) (h1:=h.y r<|ag ns i v4)<|by rw[exec,P,R.ay];exact H];obtain⟨a,v5,S,E⟩:=Qf k (p v4) (m:=g.e+1) (Fk _ _) Y6;rw[Ae8]at E;have Q:g.e<=bh:=by rw[Gf];exact Y8
  have u:((g.e:Int)+1)=((g.e+1:Nat):Int):=rfl;rw[za (τ1:=dD r m f (y0<|.s g) o (si a) u0 u0) (h1:=h.y r<|ag ns i v5)<|by simp![len_str,Q,Os,aj,Qc,u,E],za (τ1:=dD r m f (y0<|.s g) o (si a) (y0<|.j []) u0) (h1:=h.y r<|ag ns i v5) rfl];obtain⟨K,M,C⟩:=CQ (F:=(k8<|k+1)) (r:=r) (m:=m) (f:=f) (at':=a) l (h.y r<|ag ns i v5) m 0 o u0 Y6;simp only[Am9]at C;rw[za (τ1:=dD r m f (y0<|.s g) K (si a) (y0<|.j<|((Aa6 m).j<|cW g a f).j .u) M) (h1:=h.y r<|ag ns i v5)<|by rw[exec,nt (n:=m) rfl<|Y8,R.ay];exact C];refine⟨(Aa6 m).j<|cW g a f,v5,by simp,EF g a f m (On ‹_›) G,λt y=>?_,?_⟩
  .obtain⟨j,x,rfl⟩:=Ab7.u y;exact O8 l
  .rw[qa (w:=.j<|((Aa6 m).j<|cW g a f).j .u) (h1:=h.y r<|ag ns i v5) rfl];exact Gs _ h _<|I v5
noncomputable abbrev dU:List<|Nat×Nat×Nat:=[(0,1,2),(3,2,1),(0,1,2),(1,0,3),(2,0,2),(0,1,1),(1,0,4),(1,1,0),(1,1,1)]
def iN(p:Nat×Nat×Nat):D:=.w [.n (p.1),.n (p.2.1),.n (p.2.2)]
structure bG(n:Nat)(K T:List Tx):Prop where
 n4:n<=4
 k4:K.e<=4
 t4:T.e<=4
 b6:K.e*n+T.e*(n*n)<=6
 nd:(K++T).M
 l8:∀t∈K++T,t.e<=8
abbrev p7(r:Nat)(l:List D)(a b c:Option W)(x:Option W):Sl:=[y0 (.r r),y0 (.l l),a,b,c,x]
def Rk(k)(e:h[r]?=y0 (ag ns i v)):∃n K T v',bG n K T/\call prog (k+3) "_law_words" [.r r] h=.j (.t [.n n,wD K T]) (h.y r<|ag ns i v'):=by
 have E:∀w,_[r]?=y0 (ag ns i w):=λw=>Ab8<|(Aa0.u e).1;rw[Gb rfl _ _ _ rfl];show∃n K T v',_/\Gx _ _=_;simp only[JM];obtain⟨d,v1,u,e1⟩:=Qf _ e (m:=9) Y5 Y5;have e1:call prog _ Yn [.r r,.v _] h=.j _ _:=e1;have F:∀p∈dU,p.1+p.2.1<=8/\p.2.2<=4/\p.1<=4/\p.2.1<=4/\p.1*p.2.2+p.2.1*(p.2.2*p.2.2)<=6:=by decide
 obtain⟨⟨a,b,n⟩,y⟩:∃p,dU[d]?=y0 p:=⟨dU[d],Aa1 u⟩;obtain⟨j,o,g,l,H⟩:=F _<|Ac3 y;have j:a+b<=8:=j;have o:n<=4:=o;have g:a<=4:=g;have l:b<=4:=l;have f:aW (dU.j iN) (d:Int)=y0 (iN (a,b,n)):=by rw[ze _ _<|by rw[Aa];exact u,Ab9,y];rfl
 obtain⟨N,v2,J,nn,B,e2⟩:=Ej k (E v1) j;rw[Ae8]at e2;have q:((a:Int)+(b:Int))=((a+b:Nat):Int):=rfl;refine⟨n,GC<|N.A a,GC<|N.G a,v2,?_,?_⟩
 .have pk:=zl<|N.A a;have pt:=zl<|N.G a;have s:(GC<|N.A a).e=a:=by rw[pk.u,Ad2];lia
  have lt:(GC<|N.G a).e=b:=by rw[pt.u,Ae9];lia
  have x:(GC (N.A a)++GC (N.G a)).a4 N:=(pk.append pt).j (by rw[Ap3]);exact⟨o,by rw[s];exact g,by rw[lt];exact l,by rw[s,lt];exact H,x.nodup_iff.w nn,λt G=>B t<|x.mem_iff.u G⟩
 .rw[za (τ1:=p7 r (dU.j iN) u0 u0 u0 u0) rfl,za (τ1:=p7 r (dU.j iN) (si a) (si b) (si n) u0)<|by rw[exec,show eval (k8<|k+2) (.G .C<|.j Yn<|.b .A<|.Z .w<|.a .C) (p7 r (dU.j iN) none none none none) h=.j (.v<|iN (a,b,n)) (h.y r<|ag ns i v1)by have M:((dU.j iN).e:Int)=9:=rfl;have c:call prog (k+2) Yn [.r r,.v (.p ((dU.j iN).e:Int))] h=.j (.i d) (h.y r<|ag ns i v1):=e1;generalize dU.j iN=L at f c⊢;simp![XN,aj,c,Js,f]];rfl];refine fx (by simp![Qc,q,e2];rfl) ?_;have A:=JS (N.A a) (h.y r<|ag ns i v2) (by rw[Ad2];lia);have I:=JS (N.G a) (h.y r<|ag ns i v2) (by rw[Ae9];lia);have z:cut (N.j D.str) u0 (y0 (a:Int))=(N.A a).j D.str:=by rw[Q2,Ao7]
  have C:cut (N.j D.str) (y0 (a:Int)) u0=(N.G a).j D.str:=by rw[WM,Aq8]
  rw[qa (w:=.t [.n n,wD (GC<|N.A a) (GC<|N.G a)]) (h1:=h.y r<|ag ns i v2)<|Ja rfl<|by simp![Cj,z,C,A,I,Qz,aj]];exact Ga _ h _<|(λw=>Ad5 ..) v2
def K1(s:Nat)(h1:3<=s)(b:s<5):∃f:Ex->Ex,(∀a,(f a).j=a.j+1)/\(∀N a,a.y N->(f a).y N)/\∃t,aW [D.str Xi,.u Ji] ((s:Int)-3)=y0 (.u t)/\∀a,aV (f a)=.w [.u t,aV a]:=by
 match s,h1,b with
|3,_,_=>exact⟨.C,λ_=>rfl,λ_ _ h=>h,Xi,rfl,λ_=>rfl⟩
|4,_,_=>exact⟨.A,λ_=>rfl,λ_ _ h=>h,Ji,rfl,λ_=>rfl⟩
|s+5,_,h=>exact absurd h Y6
def Ih(s:Nat)(h1:5<=s)(c:s<10):∃f:Ex->Ex->Ex,(∀a b,(f a b).j=max a.j b.j+1)/\(∀N a b,a.y N->b.y N->(f a b).y N)/\∃t,aW [D.str WG,.u Qq,.u xC,.u jh,.u jh] ((s:Int)-5)=y0 (.u t)/\∀a b,aV (f a b)=.w [.u t,aV a,aV b]:=by
 match s,h1,c with
|5,_,_=>exact⟨.plus,λ_ _=>rfl,λ_ _ _ h g=>⟨h,g⟩,WG,rfl,λ_ _=>rfl⟩
|6,_,_=>exact⟨.less,λ_ _=>rfl,λ_ _ _ h g=>⟨h,g⟩,Qq,rfl,λ_ _=>rfl⟩
|7,_,_=>exact⟨.both,λ_ _=>rfl,λ_ _ _ h g=>⟨h,g⟩,xC,rfl,λ_ _=>rfl⟩
|8,_,_=>exact⟨.w,λ_ _=>rfl,λ_ _ _ h g=>⟨h,g⟩,jh,rfl,λ_ _=>rfl⟩
|9,_,_=>exact⟨.w,λ_ _=>rfl,λ_ _ _ h g=>⟨h,g⟩,jh,rfl,λ_ _=>rfl⟩
|s+10,_,h=>exact absurd h Y6
abbrev kW(r:Nat)(w:W)(g p:Nat)(b a c:Option W):Sl:=[y0 (.r r),y0 (w),si g,si p,b,a,c]
def Nw(N:List Tx)(w:W):Prop:=w=.l (N.j .u)\/w=.u (N.j .u)
noncomputable def fT(N:List Tx):List Ex:=(N++N).j .u++[.same,.all,.x]
def oj(h:e∈fT N):e.y N/\e.j=0:=by
 obtain h|h:=Ac6.u h
 .obtain⟨t,a,rfl⟩:=Ab7.u h;exact⟨(Ac6.u a).j id id,rfl⟩
 .have:e=.same\/e=.all\/e=.x:=by simpa using h
  rcases this with rfl|rfl|rfl<;>exact⟨trivial,rfl⟩
def vz(m)(k:Nw N w)(n:N.e<=8)(e:h[r]?=some (ag ns i v)):∃x v',x∈fT N/\execs (k8<|m+1) (.b (.j 4<|.y .j (.y .x Xe<|.p 2)<|.x<|.c (.tup<|.a<|.u Xg) (.tup<|.a<|.u qo)<|.tup<|.a<|.u Jh)<|.ret<|.G .v4<|.j Yn<|.b .A<|.Z .w<|.a .v4) (kW r w g p none none none) h=.u (.v<|aV x) (h.y r<|ag ns i v'):=by
 have l:(fT N).e=2*N.e+3:=by simp[fT];lia
 obtain⟨d,v1,b,e1⟩:=Qf m e (m:=(fT N).e) Y6 Y6;refine⟨(fT N)[d],v1,Aj9 b,?_⟩;have c:eval (k8<|m+1) Xe (kW r w g p u0 u0 u0) h=.j (.j<|N.j λt=>aV<|.u t) h:=by
  unfold Xe;rw[jm (ds:=N.j .u) (λd=>.w [.u Zh,d]) (by rcases k with rfl|rfl<;>simp![])<|by rw[Gf,Aa];exact Y8]
  .rw[Ad9];rfl
  .intro d b;exact⟨[sv d],rfl,.t [.u Zh,d],by simp![],rfl⟩
 have f:=NU (N.j λt=>aV<|.u t) 2 h Y5 (by rw[Aa];lia);have j:GU .j (.j (Aa7 2<|N.j λt=>aV<|.u t).T) (.j [.w [.u Xg],.w [.u qo],.w [.u Jh]]) h=.j (.j<|(fT N).j aV) h:=by show(if((Aa7 2<|N.j λt=>aV<|.u t).T).e+3<=bh then _ else _)=_;rw[Da<|by rw[Gf];simp;lia];simp[fT,aV,aj,Ag1,Re]
 rw[za (τ1:=kW r w g p (y0<|.l<|(fT N).j aV) u0 u0) (h1:=h)<|by have f:GU .x (.j<|N.j λt=>aV<|.u t) (.v<|.p 2) h=.j (.j (Aa7 2<|N.j λt=>aV<|.u t).T) h:=f;generalize (Aa7 2<|N.j λt=>aV<|.u t).T=Z at f j;simp![c,f,j]];have a:aW ((fT N).j aV) d=y0 (aV (fT N)[d]):=by rw[ze _ _<|by rw[Aa];exact b,Ab9,Aa1 b];rfl
 have e1:call prog (m+1) Yn [.r r,.v (.p<|((fT N).j aV).e)] h=.j (.i d) (h.y r<|ag ns i v1):=by rwa [Aa]
 generalize (fT N).j aV=L at a e1⊢;exact qa<|Ja rfl<|by simp![XN,aj,e1,Js,a]
def Bp(l:Nw N w)(K:N.e<=8):∀g k h v,h[r]?=y0 (ag ns i v)->∃e v',e.y N/\e.j<=g/\call prog (g+k+2) Yy [.r r,w,.i g] h=.j (.v<|aV e) (h.y r<|ag ns i v'):=by
 intro g;induction g with
|zero=>intro k h v e;have c:∀w,(h.y r<|ag ns i w)[r]?=y0 (ag ns i w):=λw=>Ab8<|(Aa0.u e).1;obtain⟨p,v1,E,e1⟩:=Qf (0+k) e (m:=10) Y5 Y5;have e1:call prog (0+k+1) Yn [.r r,.v (.p 10)] h=.j (.i p) (h.y r<|ag ns i v1):=e1;obtain⟨x,v2,j,e2⟩:=vz (0+k) (g:=0) (p:=p) l K<|c v1;rw[Ae8]at e2;refine⟨x,v2,(oj j).1,An (oj j).2,?_⟩;rw[Gb (d:=Xd) rfl _ _ _ rfl];simp only[Xd];refine fx (by simp![e1];rfl) ?_;rw[qa (w:=.v<|aV x) (h1:=h.y r<|ag ns i v2)<|(Zo (h1:=h.y r<|ag ns i v1)<|by have z:Gp .j (.i<|0) (.v<|.p 0) (h.y r<|ag ns i v1)=y0 true:=Qh 0 0 _;simp![z]).j e2];exact Ga _ h _<|Ad5 ..
|succ g J=>
  intro k h v e;have c:∀w,(h.y r<|ag ns i w)[r]?=y0 (ag ns i w):=λw=>Ab8<|(Aa0.u e).1;have u:∀w,(h.y r<|ag ns i w).e=h.e:=λw=>Ad5 ..;rw[show g+1+k+2=(g+k+2)+1 by lia];obtain⟨p,v1,E,e1⟩:=Qf (g+k+1) e (m:=10) Y5 Y5;have e1:call prog (g+k+2) Yn [.r r,.v (.p 10)] h=.j (.i p) (h.y r<|ag ns i v1):=e1;have H:Gn (k8<|g+k+2) (.or (.B .j .L<|.p 0)<|.B .lt .N<|.p 3) (kW r w (g+1) p u0 u0 u0) (h.y r<|ag ns i v1)=.j (u9<|p<3) (h.y r<|ag ns i v1):=by
   have z:Gp .j (.i<|g+1) (.v<|.p 0) (h.y r<|ag ns i v1)=y0 false:=by
    have:=Qh (g+1) 0<|h.y r<|ag ns i v1
    rwa [IR Y6]at this
   have C:=oy 3 p<|h.y r<|ag ns i v1;have C:Gp .lt (.i p) (.v<|.p 3) (h.y r<|ag ns i v1)=y0 (u9<|p<3):=C;rw[Gn,lM (a:=y9) (b:=u9<|p<3) (by simp![z])<|by simp![C],R.ab];rfl
  rw[Gb (d:=Xd) rfl _ _ _ rfl];show∃e v',_/\_/\Gx _ (execs _ _ [y0 (.r r),y0 (w),si (g+1),u0,u0,u0,u0] h)=_;simp only[Xd];rw[za (τ1:=kW r w (g+1) p u0 u0 u0) (h1:=h.y r<|ag ns i v1)<|by simp![e1]];by_cases q:p<3
  .obtain⟨x,v2,j,e2⟩:=vz (g+k+1) (g:=g+1) (p:=p) l K<|c v1;rw[Ae8]at e2;refine⟨x,v2,(oj j).1,by rw[(oj j).2];exact Ag0 _,?_⟩;rw[qa (w:=.v<|aV x) (h1:=h.y r<|ag ns i v2)<|(Zo (h1:=h.y r<|ag ns i v1)<|by rw[H,FB q]).j e2];exact Ga _ h _<|u v2
  .rw[xa<|by rw[H,IR q]];obtain⟨x,v2,D,M,e2⟩:=J k _ v1<|c v1;rw[Ae8]at e2;have I:(((g+1:Nat):Int)-1)=((g:Nat):Int):=by lia
   rw[za (τ1:=kW r w (g+1) p u0 (sv<|aV x) u0) (h1:=h.y r<|ag ns i v2)<|by rcases l with rfl|rfl<;>simp![Zf,I,e2]];have G:Gp .lt (.i p) (.v<|.p 5) (h.y r<|ag ns i v2)=y0 (u9<|p<5):=oy 5 p _;by_cases A:p<5
   .obtain⟨f,n,s,t,o,B⟩:=K1 p (SC ‹_›) A;refine⟨f x,v2,s N x D,by rw[n];exact Pv ‹_›,?_⟩;rw[qg (w:=.v<|aV<|f x) (by simp![G,FB A])<|Ja rfl<|by rw[B];simp![Zf,zS,o]];exact Ga _ h _<|u v2
   .rw[xa<|by simp![G,IR A]];obtain⟨y,v3,L,O,F⟩:=J k _ v2<|c v2;rw[Ae8]at F;rw[za (τ1:=kW r w (g+1) p u0 (sv<|aV x)<|sv<|aV y) (h1:=h.y r<|ag ns i v3)<|by rcases l with rfl|rfl<;>simp![Zf,I,F]];obtain⟨f,n,s,t,o,B⟩:=Ih p (SC ‹_›) E;refine⟨f x y,v3,s N x y D L,by rw[n];lia,?_⟩;rw[qa (w:=.v<|aV<|f x y) (h1:=h.y r<|ag ns i v3)<|Ja rfl<|by rw[B];simp![Zf,zS,o]];exact Ga _ h _<|u v3
theorem sI:∀(ws)(c j w),ws[j]?=y0 w->(dg ws c)[j]?=y0 (c/2^(ws.A j).sum%2^w)
|[],_,_,_,h=>by simp at h
|u::ws,c,0,w,h=>by
  have:u=w:=by simpa using h
  subst this;simp[dg]
|u::ws,c,j+1,w,h=>by
  have h:=by simpa using h
  show(dg ws<|c/2^u)[j]?=_;rw[sI ws _ j w h,U9,Ao6,Nat.div_div_eq_div_mul,←Yl]
theorem pO:∀(ws)(c),(dg ws c).e=ws.e
|[],_=>rfl
|w::ws,c=>by rw[dg,Aa9,pO ws,Aa9]
def cV(n a b c:Nat):List Nat:=(dg (di n a b) c).A a
def dm(n a b c:Nat):List Nat:=(dg (di n a b) c).G a
def Sr(n a b j)(h:j<=a):((di n a b).A j).sum=j*n:=by rw[di,An0<|by simp_all,Va,zG,Aj5 h]
def Fi(n a b j:Nat)(h:j<=b):((di n a b).A<|a+j).sum=a*n+j*(n*n):=by rw[di,List.take_append,Af,Ah0 Y7,Uw,Va,zG,zG,Ao9,Aj5 h]
def n7(h:j<a):(cV n a b c)[j]?=y0 (c/2^(j*n)%2^n):=by rw[cV,Aj4 h,sI _ _ _ n<|by rw[di,Ac2<|by simp_all,Aj7,Da h],Sr _ _ _ _<|Ag h]
def oA(h:j<b):(dm n a b c)[j]?=y0 (c/2^(a*n+j*(n*n))%2^(n*n)):=by rw[dm,Vh,sI _ _ _ _<|by rw[di,Ae3 Y7,Af,Ao9,Aj7,Da h],Fi _ _ _ _<|Ag h]
def wo(n:Nat)(K T:List Tx)(c:Nat):Wo:=⟨n,K,T,cV n K.e T.e c,dm n K.e T.e c⟩
def JU(n a b c):(cV n a b c).e=a:=by rw[cV,Ad2,pO,oF];lia
def wW(n a b c):(dm n a b c).e=b:=by rw[dm,Ae9,pO,oF];lia
theorem bG.wo (g:bG n K T)(c):(wo n K T c).Ok:=by
 refine⟨g.k4,g.t4,g.nd,g.n4,JU ..,wW ..,λx b=>?_,λx b=>?_⟩
 .obtain⟨j,a,e⟩:=Al3 b;have:(cV n K.e T.e c)[j]?=y0 x:=by rw[←e];exact Aa1 a
  rw[n7<|by rw[←JU n K.e T.e c];exact a]at this;rw[←Ae0.inj this];exact Ak2 _<|Ae _
 .obtain⟨j,a,e⟩:=Al3 b;have:(dm n K.e T.e c)[j]?=y0 x:=by rw[←e];exact Aa1 a
  rw[oA<|by rw[←wW n K.e T.e c];exact a]at this;rw[←Ae0.inj this];exact Ak2 _<|Ae _
def bG.pt (g:bG n K T)(c d):Pt (M.wo n K T c)<|M.wo n K T d:=⟨g.wo c,g.wo d,rfl,rfl,rfl⟩
theorem X5:∀{L}{j},L.M->L[j]?=y0 t->du t L=j
|[],_,_,h=>by simp at h
|y::b,0,_,h=>by
  have:y=t:=by simpa using h
  simp[du,Ko,this]
|y::b,j+1,nd,h=>by
  have h:=by simpa using h
  have m:=Ac3 h;have nd:=Ah2.u nd;have ne:y≠t:=λe=>nd.1<|e▸m;have a:=X5 nd.2 h;rw[du]at a⊢;rw[Ko,FM ne,(Jm m).1];rw[(Jm m).1]at a;simpa using a
theorem sO{c b:Type}(g)(m)(a:∀t,(g t).e=m):∀(l:List c) i (y:b),(l.X g)[i]?=y0 y->∃j t p,l[j]?=y0 t/\(g t)[p]?=y0 y/\p<m/\i=j*m+p
|[],i,y,h=>by simp at h
|t::l,i,y,h=>by
  rw[Ak6]at h;by_cases q:i<m
  .rw[Ac2<|by rw[a];exact q]at h;exact⟨0,t,i,rfl,h,q,by lia⟩
  .rw[Ae3<|by rw[a];exact SC ‹_›,a]at h;obtain⟨j,u,p,f,e,d,k⟩:=sO g m a l _ y h;exact⟨j+1,u,p,f,e,d,by rw[Ym];lia⟩
theorem JQ{a c:Type}(g:a->List c)(m)(b:∀t,(g t).e=m):∀l:List a,(l.X g).e=l.e*m
|[]=>by simp
|t::l=>by rw[Ak6,Aa5,b,JQ g m b l,Aa9,Ym];lia
def b4(n:Nat)(K T:List Tx):List Pl:=K.X (gL n)++T.X (iE n)
def xF(n):Wf.aC n (2^(n*n)-1)=(Aa6<|n*n).j λk=>(k/n,k%n):=by rw[Wf.aC,List.filter_eq_self.w λk a=>by rw[Ag9,FB<|Ab6.u a]]
def wN(n)(t):(gL n t).e=n:=by simp[gL]
def Dl(n)(t):(iE n t).e=n*n:=by simp[iE,xF]
def wG(n)(K T):(b4 n K T).e=K.e*n+T.e*(n*n):=by rw[b4,Aa5,JQ _ _<|wN n,JQ _ _<|Dl n]
def zm(g:bG n K T)(h:(b4 n K T)[i]?=y0 (t,x,y))(c):bb (wo n K T c) t x y=c.j i/\t∈K++T/\x<n/\y<n:=by
 obtain⟨e,f,m⟩:=Ai0.u g.nd;rw[b4]at h;by_cases q:i<K.e*n
 .rw[Ac2<|by rw[JQ _ _<|wN n];exact q]at h;obtain⟨j,u,p,d,b,a,l⟩:=sO _ n (wN n) _ _ _ h;rw[gL,Ab9,Vb a]at b;have b:=Ae0.inj b;obtain⟨rfl,rfl,rfl⟩:u=t/\p=x/\p=y:=by simpa using b
  have mk:=Ac3 d;refine⟨?_,Ad1 _ mk,a,a⟩;rw[bb,FM<|show u∉(wo n K T c).T from(λz=>m u mk u z rfl)];show(decide _&&((cV n K.e T.e c).I (du u K) 0).j p)=_;rw[X5 e d,Ac9,n7<|(Aa0.u d).1,Am8,Ah7,Ah8,FB a,FB rfl,l,Ar5];rfl
 .rw[Ae3<|by rw[JQ _ _<|wN n];exact SC ‹_›,JQ _ _<|wN n]at h;obtain⟨j,u,p,d,b,a,l⟩:=sO _ _ (Dl n) _ _ _ h;rw[iE,xF,Ad9,Ab9,Vb a]at b;have b:=Ae0.inj b;obtain⟨rfl,rfl,rfl⟩:u=t/\p/n=x/\p%n=y:=by simpa using b
  have k:=Ac3 d;refine⟨?_,Ab _ k,Wf.bf a,Wf.aZ a⟩;rw[bb,Da<|show u∈(wo n K T c).T from k];show(((dm n K.e T.e c).I (du u T) 0).j<|p/n*n+p%n)=_;rw[X5 f d,Ac9,oA<|(Aa0.u d).1,Am8,Ah7,Ah8,Wf.bw,FB a,Ae7];congr 1;lia
def tK(b:x<n)(a:y<n)(h:t∈T\/(t∈K/\x=y)):∃i:Nat,(b4 n K T)[i]?=y0 (t,x,y):=by
 have:(t,x,y)∈b4 n K T:=by
  rw[b4,Ac6,VS,VS];obtain h|⟨h,rfl⟩:=h
  .refine .w ⟨t,h,?_⟩;rw[iE,xF,Ad9];refine Ab7.w ⟨x*n+y,Ab6.w<|Wf.place_lt b a,?_⟩;show(t,_/n,_%n)=_;rw[Wf.aF a,Wf.aK a]
  .exact .u ⟨t,h,Ab7.w ⟨x,Ab6.w b,rfl⟩⟩
 obtain⟨i,c,e⟩:=Al3 this;exact⟨i,by rw[←e];exact Aa1 c⟩
def yN(b:t∈K++T)(a:x<n)(d:y<n)(h:bb (wo n K T c) t x y=k9):∃i:Nat,(b4 n K T)[i]?=y0 (t,x,y):=by
 refine tK a d ?_;by_cases q:t∈T
 .exact .u q
 .rw[bb,FM<|show t∉(wo n K T c).T from q,Aa2,L2]at h;exact .w ⟨(Ac6.u b).y q,h.1⟩
def rB(g:bG n K T){i j:Nat}(h:(b4 n K T)[i]?=y0 p)(q:(b4 n K T)[j]?=y0 p):i=j:=by have a:=(zm g q<|2^i).1;rw[((zm g h _).1),Al8,Ae6]at a;simpa using a.u
def LQ(k n)(A B)(c)(h)(b:n<=4)(h1:A.e<=4)(f:B.e<=4)(lt:c<2^(di n A.e B.e).sum):call prog (k+5) "world_of" [.v (nW A B),.i n,.i c] h=.j (.v<|mi n (cV n A.e B.e c)<|dm n A.e B.e c) h:=by
 rw[Gb rfl _ _ _ rfl];have d:=Ag8 b b;have l:=yi k (.n n) h rfl (by simp[qs];lia);have a:=A6 (k+3) n A B h b h1 f;have p:(di n A.e B.e).sum<=100:=by rw[pW];have o:A.e*n<=4*4:=Ag8 h1 b;have a2:B.e*(n*n)<=4*16:=Ag8 f d;lia
 have g:=XF (k+2) (.n c) ((2^(di n A.e B.e).sum:Nat):Int) h rfl;have bt:qs (.n c) ((2^(di n A.e B.e).sum:Nat):Int)=true:=by simp only[qs,Aa2,L2];lia
 rw[bt]at g;obtain⟨q,m,e⟩:=B9 h (di n A.e B.e) c [] u0 (λw a=>by
  rcases Ac6.u a with a|a
  .rw[(List.mem_replicate.u a).2];exact Y8
  .rwa [(List.mem_replicate.u a).2])<|by rw[oF];simp;lia
 rw[Af3]at e;simp only[QQ];refine fx (by simp![l];rfl) ?_;rw[xa<|by simp![(uR (k+2) n A B h b h1 f),(fb (di n A.e B.e).sum<|Y8),g]];refine fx (by simp![];rfl) ?_;refine fx (by simp![];rfl) ?_;have ew:eval (k8<|k+4) (.j "widths"<|.b .A .C) [sv (nW A B),si n,si c,some (.j []),si c,none,none] h=.j (.j<|ai<|di n A.e B.e) h:=by simp![a]
 rw[za<|by simp only[exec,Gv,GO,ew,R.ab,Ke,R.ao,R.ay];exact e];have i:cut (ai<|dg (di n A.e B.e) c) u0 (y0 (A.e:Int))=ai (cV n A.e B.e c):=by rw[Q2,ai,←Ao7];rfl
 have j:cut (ai<|dg (di n A.e B.e) c) (y0 (A.e:Int)) u0=ai (dm n A.e B.e c):=by rw[WM,ai,←Aq8];rfl
 refine fx (by simp![ae,Qn,Zd];rfl) ?_;rw[qa (w:=.v<|mi n (cV n A.e B.e c)<|dm n A.e B.e c) (h1:=h)<|Ja rfl<|by simp![Hy,i,j,Qz]];exact Ga _ _ _ rfl
noncomputable abbrev bN(n:Nat)(K T:List Tx):Nat:=K.e*n+T.e*(n*n)
def cY(n:Nat)(K T:List Tx)(S:List Sy):List<|String×D:=[(YK,wD K T),(YF,.w<|S.j aB),(Y1,.n n),(YJ,.x<|(b4 n K T).j b3),("whole",.n<|2^bN n K T-1)]
def Zt(e:h[r]?=y0 (.j c fs)):G6 h (y0<|.r r)=y0 (r,c,fs):=by unfold G6;simp[e]
def qm(e:h[r]?=y0 (.j c fs))(a:Gm τ i=y0 (.r r))(b:fs.u f=y0 d):eval F (.aJ (.var i) c f) τ h=.j (.v d) h:=by rw[eval,eval,Gi,a];simp[Zt e,b,aj]
def WC(e:h[r]?=y0 (.j c fs))(b:Gm τ i=y0 (.r r))(d:(fs.u m).x=k9)(a:Gg F es τ h=.j ws h):eval F (.bO (.var i) c m q es) τ h=F.call q (.r r::ws.j W.arg) h:=by rw[eval,eval,Gi,b];simp[Zt e,d,a]
section
variable{n:Nat}{K T:List Tx}{S:List Sy}{ro:Nat}{h:AH}
def rH(k c)(g:bG n K T)(C:h[ro]?=y0 (.j Yq<|cY n K T S))(d:c<2^bN n K T):call prog (k+6) Yz [.r ro,.i c] h=.j (.v (wo n K T c).u) h:=by rw[Gb rfl _ _ _ rfl];have e:=LQ k n (K.j .u) (T.j .u) c h g.n4 (by rw[Aa];exact g.k4) (by rw[Aa];exact g.t4) (by rwa [pW,Aa,Aa]);rw[Aa,Aa]at e;simp only[wj];have a:=qm (F:=(k8<|k+5)) (τ:=[y0 _,si c]) (i:=0) (f:=YK) C rfl rfl;have b:=qm (F:=(k8<|k+5)) (τ:=[y0 _,si c]) (i:=0) (f:=Y1) C rfl rfl;rw[qa (w:=.v (wo n K T c).u) (h1:=h)<|Ja rfl<|by generalize E.aJ _ _ _=X at a⊢;generalize E.aJ _ _ _=Y at b⊢;simp![a,b,e];rfl,Ga _ _ _ rfl]
def xO(m j c d)(g:bG n K T)(C:h[ro]?=some (.j Yq<|cY n K T S))(y:c<2^bN n K T)(v:d<2^bN n K T)(p:S[j]?=some s)(x:s.j+9<=m)(wf:s.y<|K++T):∃r,Td (wo n K T c) (wo n K T d) s r/\call prog (m+1) YI [.r ro,.i j,.i c,.i d] h=.j (.v<|aP r) h:=by
 obtain⟨k,rfl⟩:=nk m 6<|Ab4 (Fk _ _) ‹_›;obtain⟨r,u,e⟩:=ED (g.pt c d) h s _ x wf;refine⟨r,u,?_⟩;rw[Gb rfl _ _ _ rfl];simp only[Xz];have a:=WC (F:=(k8<|k+6)) (τ:=[y0 _,si j,si c,si d,u0]) (i:=0) (m:=YV) (q:=Yz) (es:=.j .L .u) (ws:=[.i c]) C rfl rfl (by simp![]);have b:=WC (F:=(k8<|k+6)) (τ:=[y0 _,si j,si c,si d,u0]) (i:=0) (m:=YV) (q:=Yz) (es:=.j .N .u) (ws:=[.i d]) C rfl rfl (by simp![]);have a:=a.j<|rH k c g C y;have b:=b.j<|rH k d g C v;have l:aW (S.j aB) (j:Int)=y0 (aB s):=by rw[ze _ _<|by rw[Aa];exact((Aa0.u p).1),Ab9,p];rfl
 rw[za (τ1:=[y0 (.r ro),si j,si c,si d,sv (cc (wo n K T c)<|wo n K T d)]) (h1:=h)<|by generalize E.bO _ _ _ _ _=X at a⊢;generalize E.bO _ _ _ _ _=Y at b⊢;simp![a,b]];have o:=qm (F:=(k8<|k+6)) (τ:=[y0 _,si j,si c,si d,sv (cc (wo n K T c)<|wo n K T d)]) (i:=0) (f:=YK) C rfl rfl;have t:=qm (F:=(k8<|k+6)) (τ:=[y0 _,si j,si c,si d,sv (cc (wo n K T c)<|wo n K T d)]) (i:=0) (f:=YF) C rfl rfl;have e:call prog _ YE [.v (wD K T),.v _,.v _] h=.j _ h:=e;rw[qa (w:=.v<|aP r) (h1:=h)<|Ja rfl<|by generalize E.aJ _ _ _=X at o⊢;generalize E.aJ _ _ _=Y at t⊢;simp![o,t,ae,l,e],Ga _ _ _ rfl]
end
def Cb(p)(t)(a b):cD (b3 p) (.w [.u t,.p a,.p b])=k9↔p.1=t/\(p.2.1:Int)=a/\(p.2.2:Int)=b:=by simp[b3,GM]
theorem AB(t)(a b):∀L:List Pl,inD (.w [.u t,.p a,.p b]) (L.j b3)=k9->∃i x y,Kp (.w [.u t,.p a,.p b]) (L.j b3)=y0 i/\L[i]?=y0 (t,x,y)/\a=(x:Int)/\b=(y:Int)
|[],h=>by simp[inD]at h
|p::L,h=>by
  rw[Ab2,Kp];by_cases q:cD (b3 p) (.w [.u t,.p a,.p b])=k9
  .obtain⟨e,d,c⟩:=(Cb p t a b).u q;refine⟨0,p.2.1,p.2.2,by rw[Da q],?_,d.u,c.u⟩;rw[←e];rfl
  .rw[FM q];have h:=by rw[inD,Ab2,Ah6,Ae5]at h;exact h.x q
   obtain⟨i,x,y,e,d,c,f⟩:=AB t a b L h;exact⟨i+1,x,y,by rw[e];rfl,d,c,f⟩
def yh{x y i:Nat}{L:List Pl}(h:L[i]?=y0 (t,x,y)):inD (.w [.u t,.n x,.n y]) (L.j b3)=true:=by rw[inD,Ad8];exact⟨b3 _,Ab7.w ⟨_,Ac3 h,rfl⟩,(Cb _ _ _ _).w ⟨rfl,rfl,rfl⟩⟩
def XC(L:List Pl):Gd (L.j b3)=true:=Xf _ (λ_=>rfl) L
def Cv(L:List Pl):GN (L.j b3)<140:=Ai9 (ZX b3 1 (λ_=>by simp[b3]) L) Y5
def PB(t)(a b)(L:List Pl)(h):Gp .gu (.t [.u t,.p a,.p b]) (.l<|L.j b3) h=y0 (!inD (.w [.u t,.p a,.p b]) (L.j b3)):=by
 have g:Ki (.t [.u t,.p a,.p b]) (.l<|L.j b3) h=y0 (inD (.w [.u t,.p a,.p b])<|L.j b3):=by unfold Ki;rw[W.iK,W.iK,sU<|by exact XC L];show(if _=k9 then _ else _)=_;rw[XC,FB<|Cv L];rfl
 show(Ki _ _ h).j (!·)=_;rw[g];rfl
def Ot{L:List Pl}(h)(c:L.e<=1000)(e:Kp (.w [.u t,.p a,.p b]) (L.j b3)=y0 i):nq .bM (.l<|L.j b3) [.t [.u t,.p a,.p b]] h=.j (.i i) h:=by
 have g:Ks (.t [.u t,.p a,.p b]) (.l<|L.j b3) h=y0 i:=by unfold Ks;rw[W.iK,W.iK,sU<|by exact XC L];show(if _=k9 then _ else _)=_;rw[XC,FB<|Cv L,FB<|by rw[Gf,Aa];exact Y8];exact e
 show(R.of h _).u _=_;rw[g];rfl
section
variable{n:Nat}{K T:List Tx}{S:List Sy}{ro:Nat}{h:AH}
def FL(k)(g:bG n K T)(C:h[ro]?=some (.j Yq<|cY n K T S))(c:(b4 n K T)[i]?=some (t,x,y)):call prog (k+2) YW [.r ro,.s t,.i x,.i y] h=.j (.i<|2^i) h:=by
 rw[Gb rfl _ _ _ rfl];simp only[xx];have a:cC .str (.s t)=y0 true:=rfl;rw[xa<|by simp![a,(JC k (.n x) h rfl),(JC k (.n y) h rfl),qx]];have b:=qm (F:=(k8<|k+1)) (τ:=[y0 _,y0 (.s t),si x,si y]) (i:=0) (f:=YJ) C rfl rfl;have d:=PB t x y (b4 n K T) h;rw[yh c]at d;obtain⟨j,q,p,e,m,e1,e2⟩:=AB t x y _<|yh c;obtain rfl:=Ad7.inj e1;obtain rfl:=Ad7.inj e2;obtain rfl:=rB g c m;have o:(b4 n K T).e<=100:=by rw[wG];have:=g.b6;exact Y8
 have l:nF .bM (.l<|(b4 n K T).j b3) h=true:=rfl;generalize E.aJ _ _ _=X at b⊢;rw[xa<|by simp![b,d],qa (w:=.i<|2^i) (h1:=h)<|Ja rfl<|by simp![b,l,Os,(Ot h (Y8) e),(fb i<|by grind)],Ga _ _ _ rfl]
end
def AD(n a b c j p):((dm n a b c).I j 0).j p=(u9 (j<b)&&(u9 (p<n*n)&&c.j (p+(a*n+j*(n*n))))):=by
 rw[Ac9];by_cases q:j<b
 .rw[oA q,Am8,Ah7,Ah8,FB q,Ae7]
 .rw[Ap4<|by rw[wW];exact SC ‹_›,VT,Ag4,IR q,Af7]
def vR(n a b c j p):((cV n a b c).I j 0).j p=(u9 (j<a)&&(u9 (p<n)&&c.j (p+j*n))):=by
 rw[Ac9];by_cases q:j<a
 .rw[n7 q,Am8,Ah7,Ah8,FB q,Ae7]
 .rw[Ap4<|by rw[JU];exact SC ‹_›,VT,Ag4,IR q,Af7]
def mX(h:Sub c d):Le (wo n K T c)<|wo n K T d:=⟨rfl,λt x y z=>by
 unfold bb at z⊢;by_cases q:t∈T
 .rw[Da<|show t∈(wo n K T _).T from q]at z⊢;have z:((dm n K.e T.e c).I _ 0).j _=true:=z;show((dm n K.e T.e d).I _ 0).j _=k9;rw[AD,Aa2,Aa2]at z⊢;exact⟨z.1,z.2.1,h _ z.2.2⟩
 .rw[FM<|show t∉(wo n K T _).T from q]at z⊢;have z:(decide _&&((cV n K.e T.e c).I (du t K) 0).j x)=true:=z;show(decide _&&((cV n K.e T.e d).I (du t K) 0).j x)=k9;rw[vR,Aa2,Aa2,Aa2]at z⊢;exact⟨z.1,z.2.1,z.2.2.1,h _ z.2.2.2⟩⟩
section
variable{n:Nat}{K T:List Tx}
def wC(c d:Nat)(b:t∈K++T)(a:x<n)(f:y<n)(q:¬∃i:Nat,(b4 n K T)[i]?=y0 (t,x,y)):bb (wo n K T c) t x y=false:=by
 cases e:bb _ t x y with
|false=>rfl
|true=>exact absurd (yN b a f e) q
def NH(g:bG n K T)(h:(b4 n K T)[i]?=y0 (t,x,y))(c)(d:t'∈K++T)(b:x'<n)(f:y'<n):bb (wo n K T<|c|||2^i) t' x' y'=(bb (wo n K T c) t' x' y'||u9 ((t',x',y')=(t,x,y))):=by
 by_cases q:∃j:Nat,(b4 n K T)[j]?=y0 (t',x',y')
 .obtain⟨j,a⟩:=q;rw[(zm g a _).1,(zm g a _).1,Af8,Ae6];congr 1;refine decide_eq_decide.w ⟨λe=>?_,λe=>?_⟩
  .subst e;rw[h]at a;exact(Ae0.inj a).u
  .rw[e]at a;exact rB g h a
 .rw[wC _ c d b f q,wC _ c d b f q,IR λe=>q ⟨i,by rw[e];exact h⟩];rfl
def Iz(g:bG n K T)(h:(b4 n K T)[i]?=y0 (t,x,y))(c)(d:t'∈K++T)(b:x'<n)(f:y'<n):bb (wo n K T<|c-(c&&&2^i)) t' x' y'=(bb (wo n K T c) t' x' y'&&!u9 ((t',x',y')=(t,x,y))):=by
 by_cases q:∃j:Nat,(b4 n K T)[j]?=y0 (t',x',y')
 .obtain⟨j,a⟩:=q;rw[(zm g a _).1,(zm g a _).1,Wf.aQ,Ae6];congr 2;refine decide_eq_decide.w ⟨λe=>?_,λe=>?_⟩
  .subst e;rw[h]at a;exact(Ae0.inj a).u
  .rw[e]at a;exact rB g h a
 .rw[wC _ c d b f q,wC _ c d b f q];rfl
def vD{t t':Tx}(c:y<n)(b:y'<n):u9 ((t',x',y')=(t,x,y))=(u9 (t'=t)&&u9 (x*n+y=x'*n+y')):=by
 by_cases e:t'=t
 .rw[FB e,Ae7];refine decide_eq_decide.w ⟨λz=>?_,λz=>?_⟩
  .have:x'=x/\y'=y:=by simpa[e]using z
   rw[this.1,this.2]
  .have f:x=x':=by rw[←Wf.aF (a:=x) c,z,Wf.aF b]
   have d:y=y':=by rw[←Wf.aK c,z,Wf.aK b]
   rw[e,f,d]
 .rw[IR e,Af7,IR];exactλz=>e<|by injection z
variable{f:Tx->Nat×Nat}{r low high:Nat}{h:AH}
def Dc.dH (P:Dc (wo n K T low) (wo n K T high) f r h)(g:bG n K T)(b:(b4 n K T)[i]?=y0 (t,x,y))(h1:high.j i=k9)(e:low.j i=y9):(f t).1.j (x*n+y)=y9/\(f t).2.j (x*n+y)=true:=by obtain⟨e1,c,d,a⟩:=zm g b low;refine⟨Ar1.w λz=>?_,((P.hi t c).bit x y d a).w<|by rw[((zm g b high).1),h1]⟩;have:=((P.lo t c).bit x y d a).u z;rw[e1,e]at this;cases this
def Dc.yes (P:Dc (wo n K T low) (wo n K T high) f r h)(g:bG n K T)(o:(b4 n K T)[i]?=y0 (t,x,y))(e:h'[r']?=y0 (.u<|aR (K++T)<|XZ f t ((f t).1|||2^(x*n+y),(f t).2))):Dc (wo n K T<|low|||2^i) (wo n K T high) (XZ f t ((f t).1|||2^(x*n+y),(f t).2)) r' h':=by
 obtain⟨-,s,p,m⟩:=zm g o low;refine⟨e,g.n4,λd l=>?_,λd l=>?_⟩
 .have v:=P.lo d l;have k:∀a b,a<n->b<n->bb _ d a b=(bb (wo n K T low) d a b||(u9 (d=t)&&u9 (x*n+y=a*n+b))):=λa b j k=>by rw[NH g o low l j k,vD m k]
  unfold XZ;by_cases q:d=t
  .subst q;rw[Da rfl];refine⟨tf v.lt<|Aq3 Y5<|Wf.place_lt p m,λa b j c=>?_⟩;rw[k a b j c,FB rfl,Ae7,Af8,Ae6,Ae5,Ae5];exact or_congr (v.bit a b j c) Iff.rfl
  .rw[FM q];refine⟨v.lt,λa b j c=>?_⟩;rw[k a b j c,IR q,Af7,UW];exact v.bit a b j c
 .have v:=P.hi d l;unfold XZ;by_cases q:d=t
  .subst q;rwa [Da rfl]
  .rwa [FM q]
def Dc.no (P:Dc (wo n K T low) (wo n K T high) f r h)(g:bG n K T)(o:(b4 n K T)[i]?=y0 (t,x,y))(u:high.j i=k9)(e:h'[r']?=y0 (.u<|aR (K++T)<|XZ f t ((f t).1,(f t).2-2^(x*n+y)))):Dc (wo n K T low) (wo n K T<|high-(high&&&2^i)) (XZ f t ((f t).1,(f t).2-2^(x*n+y))) r' h':=by
 obtain⟨m,A,z,p⟩:=zm g o high;refine⟨e,g.n4,λc l=>?_,λc l=>?_⟩
 .have v:=P.lo c l;unfold XZ;by_cases q:c=t
  .subst q;rwa [Da rfl]
  .rwa [FM q]
 .have v:=P.hi c l;have k:∀a b,a<n->b<n->bb _ c a b=(bb (wo n K T high) c a b&&!(u9 (c=t)&&u9 (x*n+y=a*n+b))):=λa b j k=>by rw[Iz g o high l j k,vD p k]
  unfold XZ;by_cases q:c=t
  .subst q;rw[Da rfl];have bt:(f c).2.j (x*n+y)=true:=(v.bit x y z p).w (by rwa [m]);have s:=by have:=pw (f c).2<|x*n+y;rw[xc,jd,bt,Da rfl]at this;exact Ad7.inj<|Ae0.inj this
   refine⟨Ai9 (Ar2 _ _) v.lt,λa b j d=>?_⟩;rw[k a b j d,FB rfl,Ae7];have w:(f c).2-2^(x*n+y)=(f c).2-((f c).2&&&2^(x*n+y)):=by rw[s]
   rw[w,Wf.aQ,Ae6,Aa2,Aa2];exact and_congr (v.bit a b j d) Iff.rfl
  .rw[FM q];refine⟨v.lt,λa b j d=>?_⟩;rw[k a b j d,IR q,Af7,Am7,UY];exact v.bit a b j d
end
abbrev qr:Tx:=[98,114,111,107,101,110]
abbrev jf:Tx:=[115,112,108,105,116]
abbrev bq(K T:List Tx)(S:List Sy):D:=.w [wD K T,.w (S.j aB)]
def JD(k)(w)(l)(h):call prog (k+1) YR [.t (.u s::r),.s w,.i l] h=.j (.b<|decide (r.e+1=l)&&s==w) h:=by
 rw[Gb rfl _ _ _ rfl];simp only[zB];have a:cC .A (.t<|.u s::r)=y0 true:=rfl;have c:cC .str (.s s)=y0 true:=rfl;have b:=vA (r.e+1) l h;by_cases e:r.e+1=l
 .rw[FB e]at b⊢;rw[xa<|by simp![a,Zd,aj,Aa9,b],qa (w:=.b<|s==w) (h1:=h)<|Ja rfl<|by simp![ae,we,c,zb],Ga _ _ _ rfl];rfl
 .rw[IR e]at b⊢;rw[qg (by simp![a,Zd,aj,Aa9,b]) rfl,Ga _ _ _ rfl];rfl
section
variable{n:Nat}{K T:List Tx}{S:List Sy}{h:AH}
def Rl(m r)(c:S[j]?=some s)(e:call prog (m+1) Yr [.i n,.r r,.v (aB s)] h=.j (.v<|aP<|some false) h):call prog (m+2) YL [.v (bq K T S),.i n,.r r,.t [.u qr,.n j]] h=.j (.b true) h:=by
 rw[Gb rfl _ _ _ rfl];simp only[zy];have f:=(Aa0.u c).1;have i:=xv m (.n j) h rfl;have a:aW (S.j aB) (j:Int)=y0 (aB s):=by rw[ze _ _<|by rw[Aa];exact f,Ab9,c];rfl
 have b:cC .A (.t [.u qr,.n j])=y0 true:=rfl;have g:Gp .j (.i<|2) (.v<|.p 0) h=y0 false:=rfl;have l:Gp .j (.i<|2) (.v<|.p 2) h=y0 true:=rfl;have d:((0:Int)<=(j:Int)):=Ar _;have k:((j:Int)<(S.e:Int)):=by lia
 rw[xa<|by simp![b,Zd,aj,Aa9,Ae4,g],qa<|(Zo (h1:=h)<|by simp![ae,Qn,zb,aj,show(qr==hZ)=k9 from rfl,Zd,Aa9,Ae4,l]).j ?_,Ga _ _ _ rfl];rw[xa<|by simp![ae,zh,i,qx,aj,mJ,m7,d,k,UB,Zd,Aa]];exact qa<|Ja rfl<|by simp![ae,zh,a,e,(lW _ y9 h),aj];rfl
def L3(m r)(e:call prog (m+1) "_law_split" [.i n,.r r,.t [dn,da,db]] h=.j (.j [.j h.e,.j (h.e+1)]) h2)(b:h2.A h.e=h)(k:h.e<=h2.e)(q:Gy h=true)
 (i:call prog (m+1) YL [.v (bq K T S),.i n,.r h.e,.v p1] h2=.j (.b true) h2)(g:call prog (m+1) YL [.v (bq K T S),.i n,.r (h.e+1),.v p2] h2=.j (.b true) h2):
 call prog (m+2) YL [.v (bq K T S),.i n,.r r,.t [.u jf,dn,da,db,p1,p2]] h=.j (.b true) h:=by
 rw[Gb rfl _ _ _ rfl];simp only[zy];have a:cC .A (.t [.u jf,dn,da,db,p1,p2])=y0 true:=rfl;have l:Gp .j (.i<|6) (.v<|.p 0) h=y0 false:=rfl;have p:Gp .w (.i<|6) (.v<|.p 6) h=y0 false:=rfl;have f:Gp .w (.s jf) (.s nG) h=y0 false:=rfl;rw[xa<|by simp![a,Zd,aj,Aa9,Ae4,l],xa<|by simp![ae,we,zb,aj,show(jf==hZ)=y9 from rfl],xa<|by simp![ae,we,f,aj,Zd,Aa9,Ae4,p]];have c:fG (.t [D.str jf,dn,da,db,p1,p2]) (y0 1) (y0 4) h=.j (.t [dn,da,db]) h:=rfl;refine fx (by simp![c,e];rfl) ?_;rw[xa<|by simp![]];have a4:aW [D.str jf,dn,da,db,p1,p2] 4=y0 p1:=rfl;have a5:aW [D.str jf,dn,da,db,p1,p2] 5=y0 p2:=rfl;rw[qa (w:=.b k9) (h1:=h2)<|Ja rfl<|by simp![Js,Qn,zh,ae,a4,a5,i,g]];obtain⟨s,j,o⟩:=nc (d:=.I k9) rfl k (by rwa [b]);rw[j,o,b]
end
section
variable{n:Nat}{K T:List Tx}{S:List Sy}{h:AH}{ro low high:Nat}
abbrev m4(ro:Nat)(p:D)(b a:Nat)(x y:Option W):Sl:=[y0 (.r ro),sv p,si b,si a,x,y]
def LN(m)(C:h[ro]?=some (.j Yq<|cY n K T S))(g:j<S.e)(e:call prog (m+2) YI [.r ro,.i j,.i low,.i high] h=.j (.v<|aP o) h):call prog (m+3) Yv [.r ro,.t [.u qr,.n j],.i low,.i high] h=.j (.b<|o==some false) h:=by rw[Gb rfl _ _ _ rfl];simp only[Qj];have b:call prog _ YR [.t [.u qr,.n j],.s hZ,.v (.p 2)] h=.j (.b true) h:=JD (m+1) qr 2 h;rw[qa<|(Zo (h1:=h)<|by simp![b]).j ?_,Ga _ _ _ rfl];refine(za<|by simp![ae,zh];rfl).j ?_;have d:=XF m (.n j) S.e h rfl;rw[show qs _ S.e=k9 by rw[qs,Aa2,L2,L2];lia]at d;have c:=qm (F:=(k8<|m+2)) (τ:=m4 ro (.w [.u qr,.n j]) low high (si j) u0) (i:=0) (f:=YF) C rfl rfl;have a:=WC (F:=(k8<|m+2)) (τ:=m4 ro (.w [.u qr,.n j]) low high (si j) u0) (i:=0) (m:="truth") (q:=YI) (es:=.j .v4<|.b .L .N) (ws:=[.i j,.i low,.i high]) C rfl rfl (by simp![]);have a:=a.j e;have dI:=lW o y9 h;generalize E.aJ _ _ _=X at c⊢;generalize E.bO _ _ _ _ _=Y at a⊢;exact qa<|Ja rfl<|by simp_all
def EG(i):((2^i&&&high)-((2^i&&&high)&&&low)=0)↔¬(high.j i=k9/\low.j i=y9):=by
 rw[sub_zero];constructor
 .rintro z ⟨c,b⟩;have:=z i (by simp_all);rw[b]at this;cases this
 .intro z k a;rw[Ai1,Ae6,Aa2,L2]at a;obtain⟨rfl,a⟩:=a;cases q:low.j i with
|true=>rfl
|false=>exact absurd ⟨a,q⟩ z
def Ir(m)(C:h[ro]?=y0 (.j Yq<|cY n K T S))(e:call prog (m+1) YW [.r ro,.v dn,.v da,.v db] h=.j (.i v) h)(f:call prog (m+1) Yv [.r ro,.v p1,.i (low|||v),.i high] h=.j (.b b1) h)(d:call prog (m+1) Yv [.r ro,.v p2,.i low,.i (high-(high&&&v))] h=.j (.b b2) h):
 call prog (m+2) Yv [.r ro,.t [.u jf,dn,da,db,p1,p2],.i low,.i high] h=.j (.b<|!decide ((v&&&high)-((v&&&high)&&&low)=0)&&(b1&&b2)) h:=by
 rw[Gb rfl _ _ _ rfl];simp only[Qj];have c:call prog _ YR [.t [.u jf,dn,da,db,p1,p2],.s hZ,.v (.p 2)] h=.j (.b false) h:=JD m qr 2 h;have g:call prog _ YR [.t [.u jf,dn,da,db,p1,p2],.s nG,.v (.p 6)] h=.j (.b true) h:=JD m jf 6 h;rw[xa<|by simp![c],xa<|by simp![g,aj]];have j:aW [D.str jf,dn,da,db,p1,p2] 1=y0 dn:=rfl;have a2:aW [D.str jf,dn,da,db,p1,p2] 2=y0 da:=rfl;have a3:aW [D.str jf,dn,da,db,p1,p2] 3=y0 db:=rfl;have a4:aW [D.str jf,dn,da,db,p1,p2] 4=y0 p1:=rfl;have a5:aW [D.str jf,dn,da,db,p1,p2] 5=y0 p2:=rfl;have a:=WC (F:=(k8<|m+1)) (τ:=m4 ro (.w [.u jf,dn,da,db,p1,p2]) low high u0 u0) (i:=0) (m:="bit_of") (q:=YW) (es:=.j (.G .C<|.p 1)<|.b (.G .C<|.p 2)<|.G .C<|.p 3) (ws:=[.v dn,.v da,.v db]) C rfl rfl (by simp![ae,j,a2,a3]);have a:=a.j e;rw[za (τ1:=m4 ro (.w [.u jf,dn,da,db,p1,p2]) low high u0<|si v) (h1:=h)<|by generalize E.bO _ _ _ _ _=X at a⊢;simp![a]];have b:Gn (k8<|m+1) (.B .j (.y .w (.y .w .v5 .N)<|.inv .L)<|.p 0) (m4 ro (.w [.u jf,dn,da,db,p1,p2]) low high u0<|si v) h=.j (u9<|(v&&&high)-((v&&&high)&&&low)=0) h:=by simp![xc,jd,JK,tw]
 cases q:u9<|(v&&&high)-((v&&&high)&&&low)=0
 .rw[q]at b;rw[xa b,qa<|Ja rfl<|W2 ((WC (ws:=[.v p1,.i (low|||v),.i high]) C rfl rfl<|by simp![ae,a4,Zn,xn]).j f)<|(WC (ws:=[.v p2,.i low,.i (high-(high&&&v))]) C rfl rfl<|by simp![ae,a5,xc,JK]).j d,Ga _ _ _ rfl];rfl
 .rw[q]at b;rw[qg (w:=.b y9) b rfl,Ga _ _ _ rfl];rfl
end
def B1(h:Sub a w)(q:Sub b w):Sub (a|||b) w:=λk z=>by rw[Af8,Ae5]at z;exact z.j (h k)<|q k
def CU(h:Sub w c)(q:w.j i=y9):Sub w<|c-(c&&&2^i):=λk z=>by rw[Wf.aQ,h k z,Ae6,Ae7,Ag5];refine IR λe=>?_;rw[←e,q]at z;cases z
def Mj(h:n<=m):∀c:Cell,c.pure n=k9->c.pure m=k9
|.j _ fs,p=>by
  refine Ad0.w λx a=>?_;have:=Ad0.u p x a;obtain⟨_,d⟩:=x;cases d with
 |ref r=>exact FB<|Ab3 (Do this) h
 |_=>exact this
|.x _,_=>rfl
|.u _,_=>rfl
def jv(p:Gy h=k9)(a:h'.N (Cell.pure<|h.e+h'.e)=k9):Gy (h++h')=true:=by rw[Gy,V8,Aa5,a,UY];exact Ad0.w λc b=>Mj (Tv _ _) c<|Ad0.u p c b
def uh(p:Gy h=k9)(a b):Gy (h++[.u a,.u b])=true:=jv p rfl
inductive Pp(n:Nat)(K T:List Tx)(J:List Nat):D->Prop where
|brk {j:Nat}(h:j∈J):Pp n K T J<|.w [.u qr,.n j]
|dH {i x y:Nat}{t:Tx}{p1 p2:D}(h:(b4 n K T)[i]?=y0 (t,x,y))(h1:Pp n K T J p1)(h2:Pp n K T J p2):Pp n K T J<|.w [.u jf,.u t,.n x,.n y,p1,p2]
def Pp.nr (h:Pp n K T J p):Gc p=true:=by
 induction h with
|brk _=>rfl
|dH _ _ _ a b=>simp[a,b]
inductive Sh(n:Nat)(K T:List Tx)(S:List Sy):D->Nat->Nat->Prop where
|brk {j low high:Nat}{s:Sy}(hs:S[j]?=y0 s)(td:Td (wo n K T low) (wo n K T high) s<|y0 y9):Sh n K T S (.w [.u qr,.n j]) low high
|dH {i x y low high:Nat}{t:Tx}{p1 p2:D}(hi:(b4 n K T)[i]?=y0 (t,x,y))(hb:high.j i=k9)(lb:low.j i=y9)(h1:Sh n K T S p1 (low|||2^i) high)(h2:Sh n K T S p2 low<|high-(high&&&2^i)):Sh n K T S (.w [.u jf,.u t,.n x,.n y,p1,p2]) low high
section
variable{n q c low high:Nat}{K T:List Tx}{S:List Sy}{J:List Nat}
def walk(g:bG n K T)(E:∀s∈S,s.y (K++T)/\s.j<=q)(Q:∀j∈J,j<S.e)(M:Pp n K T J p):∀d,dep p<=d->∀low high:Nat,low<2^bN n K T->high<2^bN n K T->∃b:Bool,(∀m ro (h':AH),d+q+12<=m->h'[ro]?=some (.j Yq<|cY n K T S)->call prog m Yv [.r ro,.v p,.i low,.i high] h'=.j (.b b) h')/\(b=true->Sh n K T S p low high):=by
 induction M with
|@brk j l=>intro d A low high c a;have l:=Q j l;obtain⟨s,f⟩:∃s,S[j]?=y0 s:=⟨S[j],Aa1 l⟩;obtain⟨wf,dp⟩:=E s<|Ac3 f;obtain⟨o,B,-⟩:=xO (q+9) j low high (ro:=0) (h:=[Cell.obj Yq (cY n K T S)]) g rfl c a f (UP ‹_› Y5) wf;refine⟨o==y0 y9,λm ro h' I C=>?_,λz=>.brk f<|eq_of_beq z▸B⟩;obtain⟨k,rfl⟩:=nk m 3<|Ab4 (Fk _ _) ‹_›;obtain⟨R,r,e⟩:=xO (k+1) j low high g C c a f Y6 wf;rw[r.uniq B]at e;exact LN k C l e
|@dH i x y t U V v _ _ w u=>
  intro d A low high c a;simp only[dep,GN]at A;obtain⟨d,rfl⟩:∃e,d=e+1:=⟨d-1,by lia⟩
  obtain⟨F,L,D⟩:=w d Y6 (low|||2^i) high (tf c<|Aq3 Y5<|by
    have:=(Aa0.u v).1
    rwa [wG]at this) a
  obtain⟨O,N,H⟩:=u d Y6 low (high-(high&&&2^i)) c<|Ai9 (Ar2 _ _) a;refine⟨!u9 ((2^i&&&high)-((2^i&&&high)&&&low)=0)&&(F&&O),λm ro h' I C=>?_,λz=>?_⟩
  .obtain⟨k,rfl⟩:=nk m 3<|Ab4 (Fk _ _) ‹_›;exact Ir (k+1) C (FL k g C v) (L _ ro h' Y6 C)<|N _ ro h' Y6 C
  .rw[Aa2,Aa2,Ag5,SL]at z;obtain⟨G,P⟩:=Classical.not_not.u λy=>z.1<|(EG i).w y;exact .dH v G P (D z.2.1)<|H z.2.2
end
abbrev kD:List Tx:=[WI,zc,jk,W7,Qa,jc,xb,qi]
abbrev hF(r:Nat)(u:W)(g p:Nat)(b a:Option W):Sl:=[y0 (.r r),y0 (u),si g,si p,b,a]
def lj(X Y)(e:Gm τ i=y0 (.s s)):Gn F (.or (.B .j (.var i)<|.u X)<|.B .j (.var i)<|.u Y) τ h=.j (s==X||s==Y) h:=by rw[Gn,lM (a:=s==X) (b:=s==Y) (by simp only[eval,Gi,e,R.ab,zb,R.ao,aj])<|by simp only[eval,Gi,e,R.ab,zb,R.ao,aj],R.ab];rfl
def MB(k)(o:Nw N u)(I:N.e<=8)(e:h[r]?=y0 (ag ns i v)):∃f v',f.wf N/\f.dp<=2/\execs (k8<|k+4) (match aY.j with|.j _ (.j _ r)=>r|r=>r) (hF r u g p u0 u0) h=.u (.v<|dT f) (h.y r<|ag ns i v'):=by
 have A:∀w,(h.y r<|ag ns i w)[r]?=y0 (ag ns i w):=λw=>Ab8<|(Aa0.u e).1;obtain⟨a,v1,d,y,e1⟩:=Bp o I 1 (k+1) h v e;have e1:call prog (k+4) Yy [.r r,u,.v (.p 1)] h=.j (.v<|aV a) (h.y r<|ag ns i v1):=by
  rwa [show 1+(k+1)+2=k+4 by lia]at e1
 have K:Gj .A (p:Int) 8=y0 ((p%8:Nat):Int):=tm p 8 Y5;have pl:p%8<8:=Ak2 _ Y5;obtain⟨w,H⟩:∃w,kD[p%8]?=y0 w:=⟨kD[p%8],Aa1 pl⟩;have B:aW [D.str WI,.u zc,.u jk,.u W7,.u Qa,.u jc,.u xb,.u qi] ((p%8:Nat):Int)=y0 (.u w):=by show aW (kD.j D.str) _=_;rw[ze _ _<|by rw[Aa];exact pl,Ab9,H];rfl
 have n:w=WI\/w=zc\/w=jk\/w=W7\/w∈[Qa,jc,xb,qi]:=by have:=Ac3 H;simpa using this
 simp only[aY];have L:∀X,execs (k8<|k+4) X (hF r u g p (sv<|aV a)<|some<|.s w) (h.y r<|ag ns i v1)=execs (k8<|k+4) (.j (.j 5<|.G (.x<|.j (.u hU)<|.j (.u lD)<|.g (.u iT) (.u lr) (.u ia) (.u km) (.u oK)<|.u yu)<|.y .A .N<|.p 8)<|.j (.j 4<|.j Yy<|.c .A .C<|.p 1) X) (hF r u g p none none) h:=fun X=>by rw[za (τ1:=hF r u g p u0<|y0<|.s w) (h1:=h)<|by simp![K,zS,B],za (τ1:=hF r u g p (sv<|aV a)<|y0<|.s w) (h1:=h.y r<|ag ns i v1)<|by rcases o with rfl|rfl<;>simp![e1]]
 rw[←L];have two:(w==WI||w==zc)=true->∃b v',b.y N/\b.j<=2/\∀X,execs (k8<|k+4) (.j (.r (.or (.B .j .v5<|.u hU)<|.B .j .v5<|.u lD)<|.tup<|.c .v5 .v4<|.j Yy<|.c .A .C<|.p 1) X) (hF r u g p (sv<|aV a)<|some<|.s w) (h.y r<|ag ns i v1)=.u (.t [.u w,aV a,aV b]) (h.y r<|ag ns i v'):=fun q=>by
  obtain⟨b,v2,l,E,e2⟩:=Bp o I 1 (k+1) _ v1<|A v1;have e2:call prog (k+4) Yy [.r r,u,.v (.p 1)] (h.y r<|ag ns i v1)=.j (.v<|aV b) (h.y r<|ag ns i v2):=by
   rwa [show 1+(k+1)+2=k+4 by lia,Ae8]at e2
  refine⟨b,v2,l,(Ak9 ‹_›),λX=>?_⟩;refine qa<|(Zo (h1:=h.y r<|ag ns i v1) ?_).j<|qa<|Ja rfl ?_
  .rw[lj WI zc rfl,q]
  .rcases o with rfl|rfl<;>simp![e2]
 rcases n with rfl|rfl|rfl|rfl|n
 .obtain⟨b,v2,l,E,e2⟩:=two rfl;exact⟨.d8 a b,v2,⟨d,l⟩,by simp only[Fc.dp];lia,e2 _⟩
 .obtain⟨b,v2,l,E,e2⟩:=two rfl;exact⟨.eP a b,v2,⟨d,l⟩,by simp only[Fc.dp];lia,e2 _⟩
 .refine⟨.eQ a,v1,d,Ak9 y,?_⟩;rw[xa<|lj (s:=jk) WI zc rfl];exact qg (lj (s:=jk) jk W7 rfl)<|Ja rfl<|by simp![];rfl
 .refine⟨.au a,v1,d,Ak9 y,?_⟩;rw[xa<|lj (s:=W7) WI zc rfl];exact qg (lj (s:=W7) jk W7 rfl)<|Ja rfl<|by simp![];rfl
 .obtain⟨c,v2,z,e2⟩:=Qf (k+3) (A v1) (m:=90) Y5 Y5;rw[Ae8]at e2;have e2:call prog (k+4) Yn [.r r,.v (.p 90)] (h.y r<|ag ns i v1)=.j (.i c) (h.y r<|ag ns i v2):=e2;obtain⟨x,v3,G,t⟩:=Qf (k+3) (A v2) (m:=8) Y5 Y5;rw[Ae8]at t;have t:call prog (k+4) Yn [.r r,.v (.p 8)] (h.y r<|ag ns i v2)=.j (.i x) (h.y r<|ag ns i v3):=t;have J:((10:Int)+(c:Int))=((10+c:Nat):Int):=rfl;obtain⟨j,M⟩:∃j,[0,1,1,2,2,3,4,10+c][x]?=y0 j:=⟨_,Aa1<|show x<[0,1,1,2,2,3,4,10+c].e from G⟩;have C:aW [D.int 0,.p 1,.p 1,.p 2,.p 2,.p 3,.p 4,.n (10+c)] (x:Int)=y0 (.n j):=by show aW (ai [0,1,1,2,2,3,4,10+c]) _=_;rw[ze _ _<|by rw[Aa];exact G,Ab9,M];rfl
  refine⟨.cnt w j a,v3,⟨n,d⟩,Ak9 y,?_⟩;have F:(w==WI||w==zc)=y9/\(w==jk||w==W7)=false:=by
   have:w=Qa\/w=jc\/w=xb\/w=qi:=by simpa using n
   rcases this with rfl|rfl|rfl|rfl<;>exact⟨rfl,rfl⟩
  rw[xa<|by rw[lj WI zc rfl,F.1],xa<|by rw[lj jk W7 rfl,F.2]];exact qa<|Ja rfl<|by simp![e2,Qc,J,t,zS,C];rfl
def pj(j:Nw N u)(S:N.e<=8):∀g k h v,h[r]?=y0 (ag ns i v)->∃s v',s.y N/\s.j<=g+2/\call prog (g+k+5) YD [.r r,u,.i g] h=.j (.v<|aB s) (h.y r<|ag ns i v'):=by
 have leaf:∀g K h v,h[r]?=y0 (ag ns i v)->∀p v1,(g=0\/¬7<p)->call prog (K+4) Yn [.r r,.v (.p 11)] h=.j (.i p) (h.y r<|ag ns i v1)->∃s v',s.y N/\s.j<=g+2/\call prog (K+5) YD [.r r,u,.i g] h=.j (.v<|aB s) (h.y r<|ag ns i v'):=by
  intro g K h v e p v1 q e1;obtain⟨f,v2,wf,U,e2⟩:=MB K j S<|Ab8<|(Aa0.u e).1;rw[Ae8]at e2;refine⟨.w f,v2,wf,by simp only[Sy.dp];lia,?_⟩;rw[Gb (d:=aY) rfl _ _ _ rfl];simp only[aY]at e2⊢;refine fx (by simp![e1];rfl) ?_;rw[xa<|by
   have c:=iQ 0 g<|h.y r<|ag ns i v1;have c:Gp .gt (.i g) (.v<|.p 0) (h.y r<|ag ns i v1)=y0 (u9<|0<g):=c;have n:Gp .gt (.i p) (.v<|.p 7) (h.y r<|ag ns i v1)=y0 (u9<|7<p):=iQ 7 p _;rw[Gn,W2 (a:=u9<|0<g) (b:=u9<|7<p) (by simp![c])<|by simp![n],R.ab];have:(u9 (0<g)&&u9 (7<p))=false:=by
    rw[Bool.and_eq_false_iff,SL,SL];rcases q with q|q
    .exact .u Y6
    .exact .w q
   rw[this];rfl,e2]
  exact Ga _ h _<|Ad5 ..
 intro g;induction g with
|zero=>intro k h v e;obtain⟨p,v1,H,e1⟩:=Qf (k+3) e (m:=11) Y5 Y5;rw[show 0+k+5=k+5 by lia];have e1:call prog (k+4) Yn [.r r,.v (.p 11)] h=.j (.i p) (h.y r<|ag ns i v1):=e1;exact leaf 0 k h v e p v1 (.u rfl) e1
|succ g F=>
  intro k h v e;have z:∀w,(h.y r<|ag ns i w)[r]?=y0 (ag ns i w):=λw=>Ab8<|(Aa0.u e).1;have B:∀w,(h.y r<|ag ns i w).e=h.e:=λw=>Ad5 ..;rw[show g+1+k+5=(g+k+1)+5 by lia];obtain⟨p,v1,H,e1⟩:=Qf (g+k+1+3) e (m:=11) Y5 Y5;by_cases q:7<p
  .have e1:call prog (g+k+5) Yn [.r r,.v (.p 11)] h=.j (.i p) (h.y r<|ag ns i v1):=e1;obtain⟨s,v2,x,T,e2⟩:=F k _ v1<|z v1;rw[Ae8]at e2;have E:(((g+1:Nat):Int)-1)=((g:Nat):Int):=by lia
   rw[Gb (d:=aY) rfl _ _ _ rfl];show∃s v',_/\_/\Gx _ (execs _ _ [y0 (.r r),y0 (u),si (g+1),u0,u0,u0] h)=_;simp only[aY];rw[za (τ1:=hF r u (g+1) p u0 u0) (h1:=h.y r<|ag ns i v1)<|by simp![e1]];have P:∀a X,execs (k8<|g+k+5) (.j (.iff (.and (.B .gt .L<|.p 0)<|.B .gt .N<|.p 7) a .u) X) (hF r u (g+1) p u0 u0) (h.y r<|ag ns i v1)=(execs (k8<|g+k+5) a (hF r u (g+1) p u0 u0)<|h.y r<|ag ns i v1).seq λG h=>execs (k8<|g+k+5) X G h:=λa X=>by rw[execs,Zo (h1:=h.y r<|ag ns i v1)];have c:Gp .gt (.i<|g+1) (.v<|.p 0) (h.y r<|ag ns i v1)=y0 (u9<|0<g+1):=iQ 0 (g+1) _;have n:Gp .gt (.i p) (.v<|.p 7) (h.y r<|ag ns i v1)=y0 (u9<|7<p):=iQ 7 p _;rw[Gn,W2 (a:=u9<|0<g+1) (b:=u9<|7<p) (by simp![c])<|by simp![n],R.ab,FB q,FB Y6];rfl
   rw[P,za (τ1:=hF r u (g+1) p (sv<|aB s) u0) (h1:=h.y r<|ag ns i v2)<|by rcases j with rfl|rfl<;>simp![Zf,E,e2]];have y:Gp .j (.i p) (.v<|.p 8) (h.y r<|ag ns i v2)=y0 (u9<|p=8):=Qh p 8 _;by_cases o:p=8
   .refine⟨.u s,v2,x,by simp only[Sy.dp];exact Pv ‹_›,?_⟩;rw[qg (w:=.v<|aB<|.u s) (by simp![y,FB o])<|Ja rfl<|by simp![];rfl,O.cS];exact Ga _ h _<|B v2
   .rw[xa<|by simp![y,IR o]];obtain⟨C,v3,l,M,A⟩:=F k _ v2<|z v2;rw[Ae8]at A;obtain⟨f,I,L,t,J,Q⟩:∃f:Sy->Sy->Sy,(∀a b,(f a b).j=max a.j b.j+1)/\(∀a b,a.y N->b.y N->(f a b).y N)/\∃t,aW [D.str Zy,.u jC] ((p:Int)-9)=y0 (.u t)/\∀a b,aB (f a b)=.w [.u t,aB a,aB b]:=by
     have:p=9\/p=10:=by lia
     rcases this with rfl|rfl
     .exact⟨.cv,λ_ _=>rfl,λ_ _ h g=>⟨h,g⟩,Zy,rfl,λ_ _=>rfl⟩
     .exact⟨.cI,λ_ _=>rfl,λ_ _ h g=>⟨h,g⟩,jC,rfl,λ_ _=>rfl⟩
    refine⟨f s C,v3,L _ _ x l,by rw[I];lia,?_⟩;rw[qa (w:=.v<|aB<|f s C) (h1:=h.y r<|ag ns i v3)<|Ja rfl<|by rw[Q];rcases j with rfl|rfl<;>simp![Zf,zS,J,E,A],O.cS];exact Ga _ h _<|B v3
  .have e1:call prog (g+k+1+4) Yn [.r r,.v (.p 11)] h=.j (.i p) (h.y r<|ag ns i v1):=e1;exact leaf (g+1) (g+k+1) h v e p v1 (.w q) e1
noncomputable abbrev ea(r:Nat)(w:D)(M:Nat)(N:List Tx)(L:List D)(x:Option W):Sl:=[y0 (.r r),sv w,si M,y0 (.l<|N.j .u),y0 (.j L),x]
def NM(k)(D:N.e<=8)(C:ns.e<=63)(e:h[r]?=y0 (ag ns i v))(F:L.e=j)(I:j<5)(B:∀s∈L,s.y N/\s.j<=4+j):∃s O v',s.y N/\s.j<=5+j/\execs (k8<|k+7) Wi (ea r w M N (L.j aB)<|si j) h=.j (ea r w M N ((L++[s]).j aB)<|si j) (h.y r<|ag ns O v'):=by
 have f:∀i w,(h.y r<|ag ns i w)[r]?=y0 (ag ns i w):=λi w=>Ab8<|(Aa0.u e).1;obtain⟨v1,e1⟩:=pV (k+6) C e;obtain⟨s,v2,l,E,e2⟩:=pj (.u rfl) D 1 (k+1) _ v1<|f (i+1) v1;have e2:call prog (k+7) YD [.r r,.l (N.j .u),.v (.p 1)] (h.y r<|ag ns (i+1) v1)=.j (.v<|aB s) (h.y r<|ag ns (i+1) v2):=by
  rwa [Ae8,show 1+(k+1)+5=k+7 by lia]at e2
 unfold Wi;rw[za (τ1:=ea r w M N (L.j aB)<|si j) (h1:=h.y r<|ag ns (i+1) v1)<|by simp![e1]];have A:(L.j aB).e<bh:=by rw[Gf,Aa];lia
 rw[za (τ1:=ea r w M N ((L++[s]).j aB)<|si j)<|by simp![e2,A,Os];rw[Ad4];rfl];have p:∀y:AH,Gp .gt (.i j) (.v<|.p 0) y=y0 (u9<|0<j):=iQ 0 j;by_cases q:0<j
 .obtain⟨d,v3,G,c⟩:=Qf (k+6) (f (i+1) v2) (m:=9) Y5 Y5;rw[Ae8]at c;have c:call prog (k+7) Yn [.r r,.v (.p 9)] (h.y r<|ag ns (i+1) v2)=.j (.i d) (h.y r<|ag ns (i+1) v3):=c;have u:Gn (k8<|k+7) (.and (.B .gt .v5<|.p 0)<|.B .j (.j Yn<|.b .A<|.p 9)<|.p 0) (ea r w M N ((L++[s]).j aB)<|si j) (h.y r<|ag ns (i+1) v2)=.j (decide<|d=0) (h.y r<|ag ns (i+1) v3):=by simp![p,FB q,c,tw]
  by_cases n:d=0
  .obtain⟨x,v4,J,t⟩:=Qf (k+6) (f (i+1) v3) q<|Y8;rw[Ae8]at t;have g:x<L.e:=by lia
   have a:aW ((L++[s]).j aB) (x:Int)=y0 (aB L[x]):=by rw[ze _ _<|by rw[Aa,Aa5];exact Am6 ‹_›,Ab9,Ac2 g,Aa1 g];rfl
   obtain⟨z,H⟩:=B _<|Aj9 g;refine⟨.u L[x],i+1,v4,z,by simp only[Sy.dp];lia,?_⟩;have b:ef ((L++[s]).j aB).e (-1)=y0 L.e:=by rw[Aa,Aa5];simp[ef];lia
   have o:((L++[s]).j aB).y L.e (.w [.u XL,aB L[x]])=(L++[Sy.neg L[x]]).j aB:=by rw[Ad4,Ad4,List.set_append_right _ _<|by rw[Aa];exact Ab0 _,Aa,Ap8];rfl
   rw[za<|(Zo<|by rw[u,FB n]).j ?_,execs];rw[za,execs];generalize (L++[s]).j aB=Z at a b o⊢;simp![t,Nz,a,b,o,Int.reduceNeg]
  .refine⟨s,i+1,v3,l,by lia,?_⟩;rw[za<|kv<|by rw[u,IR n],execs]
 .refine⟨s,i+1,v2,l,by lia,?_⟩;rw[xa<|by simp![p,IR q],execs]
theorem BH(k)(t:N.e<=8)(q:ns.e<=63):∀c j i v (h:AH)(L:List Sy)(x:Option W),h[r]?=y0 (ag ns i v)->L.e=j->j+c<=5->(∀s∈L,s.y N/\s.j<=4+j)->∃(d:List Sy)(l:Nat)(g:Int)(m:Option W),(∀s∈d,s.y N/\s.j<=4+(j+c))/\d.e=j+c/\Gq (Gr [5] k9) (λτ h=>execs (k8<|k+7) Wi τ h) ((Am3 j c).j λ(x:Nat)=>D.n x) (ea r w M N (L.j aB) x) h=.j (ea r w M N (d.j aB) m) (h.y r<|ag ns l g)
|0,j,i,v,h,L,x,e,f,_,b=>⟨L,i,v,x,b,f,by rw[List.range'_zero,Af9,ZM];congr 1;obtain⟨n,e⟩:=Aa0.u e;rw[←e,List.set_getElem_self]⟩
|c+1,j,i,v,h,L,x,e,f,A,b=>by
  have n:r<h.e:=(Aa0.u e).1;obtain⟨s,i1,v1,y,z,e1⟩:=NM k (M:=M) (w:=w) t q e f Y6 b
  obtain⟨d,l,g,m,u,B,o⟩:=BH k (M:=M) (w:=w) t q c (j+1) i1 v1 (h.y r<|ag ns i1 v1) (L++[s]) (si j) (Ab8 n) (by rw[Aa5,f];rfl) Y6<|λp a=>by
   rcases Ac6.u a with a|a
   .exact⟨(b p a).1,by have:=(b p a).2;exact Ak9 ‹_›⟩
   .rw[Ac8.u a];exact⟨y,by lia⟩
  rw[Ae8]at o;refine⟨d,l,g,m,λs b=>by have:=u s b;exact⟨this.1,by lia⟩,by lia,?_⟩;rw[Al0,Ab2,wb (τ1:=ea r w M N (L.j aB)<|si j) rfl e1,o]
def Eu(k)(g:bG n K T)(x:M<=5)(q:ns.e<=63)(e:h[r]?=y0 (ag ns i v)):∃S j v',(∀s∈S,s.y (K++T)/\s.j<=9)/\S.e<=M/\call prog (k+8) "_law_theory" [.r r,.v (wD K T),.i M] h=.j (.v<|bq K T S) (h.y r<|ag ns j v'):=by
 obtain⟨d,v1,t,e1⟩:=Qf _ e (m:=M+1) (Fk _ _) Y6;have e1:call prog (k+7) Yn [.r r,.i _] h=.j _ _:=e1;obtain⟨L,j,v',u,c,y,o⟩:=BH k (N:=K++T) (by rw[Aa5];have:=g.k4;have:=g.t4;lia) q d 0 i v1 _ [] u0 (Ab8<|(Aa0.u e).1) rfl Y6<|λ_ h=>absurd h Ag2;rw[Ae8]at o;refine⟨L,j,v',λs l=>by have:=c s l;exact⟨this.1,by lia⟩,by lia,?_⟩;rw[Gb rfl _ _ _ rfl];show Gx _ (execs _ _ [y0 _,sv _,si M,u0,u0,u0] h)=_;simp only[jG];have f:(K.j D.str).e+(T.j D.str).e<=bh:=by rw[Gf,Aa,Aa];have:=g.k4;have:=g.t4;lia
 rw[za (τ1:=[y0 _,sv _,si M,y0 (.l<|(K++T).j .u),u0,u0])<|by simp![ae,Qn,zh,uX,f,Os,aj,uw];rw[Ad4]];refine fx (by simp![];rfl) ?_;have a:((M:Int)+1)=((M+1:Nat):Int):=rfl;have p:Gv (k8<|k+7) (.ar<|.j Yn<|.b .A<|.y .j .L<|.p 1) (ea r (wD K T) M (K++T) [] none) h=.j ((List.range d).j D.n) (h.y r<|ag ns i v1):=by
  have b:-(fk)<=(d:Int)/\(d:Int)<fk:=by rw[GL];lia
  simp![Qc,a,e1,b,Th,Os,Ac5]
 refine fx (by
  rwa [exec,p,R.ay,An1]) ?_
 rw[qa (w:=.v<|bq K T L) (h1:=h.y r<|ag ns j v')<|Ja rfl<|by simp![Li,aj]];exact Ga _ h _<|Ad5 ..
def Cq{f:Tx->Nat×Nat}{t:Tx}{N:List Tx}(h:t∉N):GG (aR N f) t (bj (f t).1 (f t).2)=aR (N++[t]) f:=by
 unfold GG aR;rw[FM,Ad4]
 .rfl
 .rw[Ad8];rintro⟨p,a,e⟩;obtain⟨x,b,rfl⟩:=Ab7.u a;have e:=by simpa using e
  exact h<|e▸b
def Wv(h)(a b:Cell):(h++[a]).y h.e b=h++[b]:=by simp
def wm(h)(a:Cell):(h++[a])[h.e]?=y0 a:=by simp
theorem pP{st:Option W->Sl}(c:∀x d,GD (st x) 3 (.v d)=st (sv d)):∀(a N:List Tx)(x:Option W),(N++a).M->(∀t∈a,∀N:List Tx,N.e<=8->execs F b (st<|y0<|.s t) (h++[.u (aR N f)])=.j (st<|y0<|.s t) (h++[.u (GG (aR N f) t<|bj (f t).1 (f t).2)]))->(N++a).e<=8->∃j,Gq (Gr [3] k9) (λτ h=>execs F b τ h) (a.j .u) (st x) (h++[.u (aR N f)])=.j (st j) (h++[.u (aR (N++a) f)])
|[],N,x,_,_,_=>⟨x,by rw[Af0];rfl⟩
|t::a,N,x,nd,g,i=>by have l:t∉N:=λz=>(Ai0.u nd).2.2 t z t Aa4 rfl;have e1:=g t Aa4 N (by rw[Aa5]at i;exact Ab4 (Tv _ _) ‹_›);rw[Cq l]at e1;obtain⟨j,e⟩:=pP c a (N++[t]) (y0<|.s t) (by rw[Af6];exact nd) (λu k=>g u<|Aa3 _ k) (by rw[Af6];exact i);refine⟨j,?_⟩;rw[Ab2,wb (τ1:=st<|y0<|.s t) (by rw[GF,c]) e1,e,Af6];rfl
def fO(n:Nat)(T:List Tx)(t:Tx):Nat×Nat:=if t∈T then(0,2^(n*n)-1)else(0,Wf.bH n)
def vx(k)(g:bG n K T)(h):call prog (k+2) "_law_open" [.v (wD K T),.i n] h=.j (.r h.e) (h++[.u (aR (K++T)<|fO n T)]):=by
 obtain⟨e,o,s⟩:=Ai0.u g.nd;have r:n*n<=16:=Ag8 g.n4 g.n4;have m:Gj .x (n:Int) (n:Int)=y0 _:=je n n (by have:=g.n4;exact Ai9 ‹_› Y5);have q:=fb (n*n)<|Y8;have a:((2^(n*n):Nat):Int)-1=((2^(n*n)-1:Nat):Int):=by have:=Ae<|n*n;lia
 rw[Gb (d:=wE) rfl _ _ _ rfl];simp only[wE];have l:∀N:List Tx,N.e<=8->(aR N<|fO n T).e<bh:=λN c=>by rw[Gf,aR,Aa];exact Ai9 ‹_› Y5
 obtain⟨j,e1⟩:=pP (F:=(k8<|k+1)) (h:=h) (b:=zt) (f:=fO n T) (st:=λx=>[sv _,si n,y0 (.r h.e),x]) (λ_ _=>rfl) K [] u0 e (λt i N c=>by
  have sm:=vt k n (h++[.u (aR N<|fO n T)]) g.n4;have nr:Gc (bj (fO n T t).1 (fO n T t).2)=true:=rfl;have:fO n T t=(0,Wf.bH n):=by rw[fO,FM<|λz=>s t i t z rfl]
  unfold zt;rw[za (τ1:=[sv (wD K T),si n,y0 (.r h.e),y0 (.s t)]) (h1:=h++[.u (GG (aR N<|fO n T) t<|bj (fO n T t).1 (fO n T t).2)])<|by simp![sm,Xs<|wm h<|.u<|aR N<|fO n T,aj];rw[Da ⟨l N c,rfl⟩,Wv,this];rfl,execs])<|by have:=g.k4;rw[Af3];exact Y8
 obtain⟨p,e2⟩:=pP (F:=(k8<|k+1)) (h:=h) (b:=xt) (f:=fO n T) (st:=λx=>[sv (wD K T),si n,y0 (.r h.e),x]) (λ_ _=>rfl) T K j g.nd (λt i N c=>by
  have:fO n T t=(0,2^(n*n)-1):=by rw[fO,Da i]
  unfold xt;rw[za (τ1:=[sv (wD K T),si n,y0 (.r h.e),y0 (.s t)]) (h1:=h++[.u (GG (aR N<|fO n T) t<|bj (fO n T t).1 (fO n T t).2)])<|by simp![m,q,Zf,a,Xs<|wm h<|.u<|aR N<|fO n T,aj];rw[Da ⟨l N c,rfl⟩,Wv,this];rfl,execs])<|by have:=g.k4;have:=g.t4;rw[Aa5];lia
 rw[Af3]at e1
 rw[za (τ1:=[sv (wD K T),si n,y0 (.r h.e),u0]) (h1:=h++[.u (aR []<|fO n T)])<|by simp![aj];rfl,za (τ1:=[sv (wD K T),si n,y0 (.r h.e),j]) (h1:=h++[.u (aR K<|fO n T)])<|by
  rwa [exec,show Gv (k8<|k+1) (.j<|.G .A<|.p 0) [sv (wD K T),si n,y0 (.r h.e),u0] (h++[.u (aR []<|fO n T)])=.j (K.j .u) (h++[.u (aR []<|fO n T)])by simp![ae,Qn],R.ay]]
 rw[za (τ1:=[sv (wD K T),si n,y0 (.r h.e),p]) (h1:=h++[.u (aR (K++T)<|fO n T)])<|by
  rwa [exec,show Gv (k8<|k+1) (.j<|.G .A<|.p 1) [sv (wD K T),si n,y0 (.r h.e),j] (h++[.u (aR K<|fO n T)])=.j (T.j .u) (h++[.u (aR K<|fO n T)])by simp![ae,zh],R.ay]]
 rw[qa (w:=.r h.e) (h1:=h++[.u (aR (K++T)<|fO n T)]) rfl];show fin h.e _ _=_;unfold fin;rw[FM Y7,FM<|by simp[W.keep]]
def DD{n:Nat}{K T:List Tx}(g:bG n K T){r:Nat}{h:AH}(e:h[r]?=y0 (.u<|aR (K++T)<|fO n T)):Dc (wo n K T 0) (wo n K T<|2^bN n K T-1) (fO n T) r h:=by
 have c:∀{i x y:Nat}{t:Tx},_[i]?=y0 _->bb _ t x y=true:=λ{i x y t} a=>by have j:=(Aa0.u a).1;rw[wG]at j;rw[(zm g a _).1,Ag9,FB j]
 refine⟨e,g.n4,λt f=>?_,λt f=>?_⟩
 .have:(fO n T t).1=0:=by unfold fO;split<;>rfl
  rw[this];refine⟨Ae _,λx y b d=>?_⟩;rw[Ag4];refine⟨(λz=>by cases z),λz=>?_⟩;obtain⟨i,a⟩:=yN f b d z;rw[(zm g a 0).1,Ag4]at z;cases z
 .unfold fO;by_cases q:t∈T
  .rw[Da q];refine⟨Nat.sub_lt (Ae _) Y5,λx y b d=>?_⟩;obtain⟨i,a⟩:=tK b d<|.u q;have k:x*n+y<n*n:=Wf.place_lt b d;show(2^_-1).j (x*n+y)=k9↔_;rw[Ag9,FB k,c a]
  .rw[FM q];have v:=(V.leaf (n:=n)).1;refine⟨v.lt,λx y b d=>(v.bit x y b d).j ?_⟩;by_cases e:x=y
   .subst e;obtain⟨i,a⟩:=tK b b<|.w ⟨((Ac6.u f).y q),rfl⟩;rw[c a];simp[J7]
   .rw[bb,FM<|show t∉(wo n K T _).T from q,IR e,Af7];simp[J7,e]
noncomputable def fv(n x:Nat):Nat:=((Aa6 n).j λa=>(x.j a).j*2^(a*n+a)).sum
def uY{n x:Nat}(a:n<=4)(b:x<2^n):fv n x=Wf.c5 n (lq n x):=by
 have:∀n,n<5->∀x,x<16->fv n x=Wf.c5 n (lq n x):=by decide+kernel
 exact this n (Pv ‹_›) x<|Ab3 b<|Ad6 Y5 a
def E6(k n x)(h)(j:n<=4):call prog (k+1) "_law_spread" [.i n,.i x] h=.j (.i<|fv n x) h:=by
 rw[Gb rfl _ _ _ rfl];have e:eval (k8 k) wn [si n,si x] h=.j (.j<|ai<|(Aa6 n).j λa=>(x.j a).j*2^(a*n+a)) h:=by
  unfold wn;rw[Xp (λa=>.n _) rfl (Y8) λa c=>⟨.i _,?_,rfl⟩]
  .rw[ai,Ad9];rfl
  .have f:=je a n Y6;have l:(x.j a).j<=1:=by cases x.j a<;>decide
   have g:=ZW (x.j a).j (a*n+a) (Ai9 ‹_› Y5) (by have:=Wf.place_lt c c;have:=zj (show n<=20 by lia);lia);have i:(((a*n:Nat):Int)+(a:Int))=((a*n+a:Nat):Int):=rfl;simp![f,Qc,i,zq,pN,g]
 have d:dY .sum [.j (ai<|(Aa6 n).j λa=>(x.j a).j*2^(a*n+a))] h=.j (.i<|fv n x) h:=by show(R.of h<|(y0 _).u λb=>if b.e<=bh then Km b else u0).u _=_;rw[Af2,Da<|by rw[Gf,ai,Aa,Aa,Ae1];exact Y8,QY];rfl
 simp only[ZG];rw[qa (w:=.i<|fv n x) (h1:=h)<|Ja rfl<|by simp![e,d],Ga _ _ _ rfl]
theorem pe{st:Option W->Option W->Sl}(g:∀x y d,GD (st x y) 4 (.v d)=st (sv d) y)(L a:List Tx)(nd:(a++L).M)(m:(a++L).e<=8)(k:∀(j:Nat)(t:Tx)(y:Option W)(N:List Tx),L[j]?=y0 t->N.e<=8->∃M,execs F b (st (si j) y) (h++[.u (aR N f)])=.j (st (si j) M) (h++[.u (GG (aR N f) t<|bj (f t).1 (f t).2)])):∀(c j:Nat)(x y:Option W),j+c=L.e->∃O M,Gq (Gr [4] k9) (λτ h=>execs F b τ h) ((Am3 j c).j λ(x:Nat)=>D.n x) (st x y) (h++[.u (aR (a++L.A j) f)])=.j (st O M) (h++[.u (aR (a++L) f)])
|0,j,x,y,q=>⟨x,y,by rw[Ah0 Y6];rfl⟩
|c+1,j,x,y,q=>by
  have i:j<L.e:=by lia
  have p:L[j]?=y0 L[j]:=Aa1 i;have l:a++L=(a++L.A j)++(L[j]::L.G (j+1)):=by rw[Af6,←Aj1 i,Ap3]
  have o:L[j]∉a++L.A j:=λz=>by rw[l]at nd;exact(Ai0.u nd).2.2 _ z _ Aa4 rfl
  obtain⟨n,e1⟩:=k j L[j] y (a++L.A j) p (by rw[l,Aa5]at m;exact Ab4 (Tv _ _) ‹_›);rw[Cq o,Af6,show L.A j++[L[j]]=L.A (j+1)by rw[List.take_append_getElem i]]at e1;obtain⟨O,M,e⟩:=pe g L a nd m k c (j+1) (si j) n Y6;refine⟨O,M,?_⟩;rw[Al0,Ab2,wb (τ1:=st (si j) y) (by rw[GF,g]) e1,e]
noncomputable def fS(n:Nat)(K T:List Tx)(c:Nat)(t:Tx):Nat×Nat:=if t∈T then((dm n K.e T.e c).I (du t T) 0,(dm n K.e T.e c).I (du t T) 0)else(fv n<|(cV n K.e T.e c).I (du t K) 0,fv n<|(cV n K.e T.e c).I (du t K) 0)
def Ik{n c:Nat}{K T:List Tx}(g:bG n K T){r:Nat}{h:AH}(e:h[r]?=y0 (.u<|aR (K++T)<|fS n K T c)):Dc (wo n K T c) (wo n K T c) (fS n K T c) r h:=by
 have ok:=g.wo c;have a:∀t∈K++T,V n (fS n K T c t).1 (bb _ t)/\(fS n K T c t).2=(fS n K T c t).1:=λt b=>by
  unfold fS;by_cases q:t∈T
  .rw[Da q];have i:=(Jm q).2;refine⟨⟨?_,λx y f d=>?_⟩,rfl⟩
   .show(dm n K.e T.e c).I _ 0<_;rw[Ac9,oA i];exact Ak2 _<|Ae _
   .rw[bb,Da<|show t∈(wo n K T c).T from q];exact Iff.rfl
  .rw[FM q];have lt:(cV n K.e T.e c).I (du t K) 0<2^n:=by rw[Ac9,n7<|(Jm<|(Ac6.u b).y q).2];exact Ak2 _<|Ae _
   refine⟨⟨?_,λx y f d=>?_⟩,rfl⟩
   .show fv n _<_;rw[uY g.n4 lt];exact Wf.dt<|WW _ _
   .show(fv n _).j _=k9↔_;rw[uY g.n4 lt,uj f d,bb,FM<|show t∉(wo n K T c).T from q,Aa2,L2];exact Iff.rfl
 exact⟨e,g.n4,λt b=>(a t b).1,λt b=>by rw[(a t b).2];exact(a t b).1⟩
def Iq(k c)(g:bG n K T)(h):call prog (k+2) "_law_seen" [.v (wD K T),.v (wo n K T c).u] h=.j (.r h.e) (h++[.u (aR (K++T)<|fS n K T c)]):=by
 obtain⟨o,v,S⟩:=Ai0.u g.nd;have M:=g.k4;have P:=g.t4;rw[Gb (d:=XE) rfl _ _ _ rfl];show Gx _ (execs _ _ [sv (wD K T),sv (mi n (cV n K.e T.e c)<|dm n K.e T.e c),u0,u0,u0,u0] h)=_;simp only[XE];have E:∀N:List Tx,N.e<=8->(aR N<|fS n K T c).e<bh:=λN r=>by rw[Gf,aR,Aa];exact Ai9 ‹_› Y5
 have p:∀(L:List Tx)(j:Nat)(t:Tx),L[j]?=y0 t->aW (L.j D.str) (j:Int)=y0 _:=λL j t e=>by rw[ze _ _<|by rw[Aa];exact(Aa0.u e).1,Ab9,e];rfl
 generalize m:mi n _ _=a;have V:aW [D.n n,.w _,.w (ai<|dm n K.e T.e c)] 1=y0 (.w<|ai<|cV n K.e T.e c):=rfl
 obtain⟨C,s,e1⟩:=pe (F:=(k8<|k+1)) (h:=h) (b:=Jt) (f:=fS n K T c) (st:=λx y=>[sv (wD K T),sv a,si n,y0 (.r h.e),x,y]) (λ_ _ _=>rfl) K [] o (by rw[Af3];exact Y8) (λj t y N l r=>by
  have H:=Ac3 l;have B:j<(cV n K.e T.e c).e:=by rw[JU];exact(Aa0.u l).1
  have I:=E6 k n ((cV n K.e T.e c).I j 0) (h++[.u (aR N<|fS n K T c)]) g.n4;have A:fS n K T c t=(fv n<|(cV n K.e T.e c).I j 0,fv n<|(cV n K.e T.e c).I j 0):=by rw[fS,FM<|λz=>S t H t z rfl,X5 o l]
  have J:=oT _ j B;have a2:=p K j t l;refine⟨sv<|.p ((fv n<|(cV n K.e T.e c).I j 0:Nat):Int),?_⟩;unfold Jt;rw[za (τ1:=[sv (wD K T),sv a,si n,y0 (.r h.e),si j,sv (.p ((fv n<|(cV n K.e T.e c).I j 0:Nat):Int))]) (h1:=h++[.u (aR N<|fS n K T c)])<|by rw[←m];simp![ae,J2,J,I]];rw[za (τ1:=[sv (wD K T),sv a,si n,y0 (.r h.e),si j,sv (.p ((fv n<|(cV n K.e T.e c).I j 0:Nat):Int))]) (h1:=h++[.u (GG (aR N<|fS n K T c) t<|bj (fS n K T c t).1 (fS n K T c t).2)])<|by simp![ae,Qn,a2,Xs<|wm h<|.u<|aR N<|fS n K T c,aj];rw[Da ⟨E N r,rfl⟩,Wv,A],execs]) K.e 0 u0 u0 Y6
 obtain⟨O,Q,e2⟩:=pe (F:=(k8<|k+1)) (h:=h) (b:=jt) (f:=fS n K T c) (st:=λx y=>[sv (wD K T),sv a,si n,y0 (.r h.e),x,y]) (λ_ _ _=>rfl) T K g.nd (by rw[Aa5];lia) (λj t y N l r=>by
  have B:j<(dm n K.e T.e c).e:=by rw[wW];exact(Aa0.u l).1
  have A:fS n K T c t=((dm n K.e T.e c).I j 0,(dm n K.e T.e c).I j 0):=by rw[fS,Da<|Ac3 l,X5 v l]
  have a2:=p T j t l;refine⟨y,?_⟩;unfold jt;rw[za (τ1:=[sv (wD K T),sv a,si n,y0 (.r h.e),si j,y]) (h1:=h++[.u (GG (aR N<|fS n K T c) t<|bj (fS n K T c t).1 (fS n K T c t).2)])<|by rw[←m];simp![ae,zh,lX,(oT _ j B),a2,Xs<|wm h<|.u<|aR N<|fS n K T c,aj];rw[Da ⟨E N r,rfl⟩,Wv,A],execs]) T.e 0 C s Y6
 rw[Ya,Af3]at e1;rw[Ya,Af0]at e2;rw[Af3]at e1;have G:∀(i:Int)(L:List Tx)(x y:Option W)(u:AH),L.e<=4->aW [i7 K,i7 T] i=y0 (i7 L)->Gv (k8<|k+1) (.ar<|.Z .w<|.a<|.G .A<|.p i) [sv (wD K T),sv a,si n,y0 (.r h.e),x,y] u=.j ((Am3 0 L.e).j λ(x:Nat)=>D.n x) u:=λi L x y u U q=>by rw[←An1];exact zw (by simp![ae,q,Zd,aj,Aa])<|Y8
 rw[za (τ1:=[sv (wD K T),sv a,si n,u0,u0,u0]) (h1:=h)<|by rw[←m];simp![ae,oM]]
 refine fx (by simp![aj];rfl) ?_;rw[za (τ1:=[sv (wD K T),sv a,si n,y0 (.r h.e),C,s]) (h1:=h++[.u (aR K<|fS n K T c)])<|by
  rwa [exec,G 0 K u0 u0 _ M rfl,R.ay]]
 rw[za (τ1:=[sv (wD K T),sv a,si n,y0 (.r h.e),O,Q]) (h1:=h++[.u (aR (K++T)<|fS n K T c)])<|by
  rwa [exec,G 1 T C s _ P rfl,R.ay]]
 rw[qa (w:=.r h.e) (h1:=h++[.u (aR (K++T)<|fS n K T c)]) rfl];show fin h.e (.r h.e) _=_;unfold fin;rw[FM Y7,FM<|by simp[W.keep]]
def rJ{F:Fx}{k:Nat}{ax:List Nat}{it:It}{c elt:E}{τ:Sl}{h:AH}{ds:List D}(Q:D->D->Prop)(g:Gk F it τ h=.j ds h)(l:ds.e<=1000)(e:∀d∈ds,∃y,eval F elt (GD (Aa7 k u0++ax.j λj=>Gi τ j) 0<|.v d) h=.j (.v y) h/\Q d y):∃f:D->D,eval F (.M [0] k9 k ax it y9 c elt) τ h=.j (.j<|ds.j f) h/\∀d∈ds,Q d<|f d:=by
 have:∀d,∃y,d∈ds->eval F elt _ h=.j _ h/\Q d y:=λd=>by
  by_cases m:d∈ds
  .obtain⟨y,i⟩:=e d m;exact⟨y,λ_=>i⟩
  .exact⟨.U,λz=>absurd z m⟩
 obtain⟨f,b⟩:=Classical.skolem.u this;refine⟨f,?_,λd a=>(b d a).2⟩;exact jm f g (by rw[Gf];exact Y8) λd a=>⟨_,rfl,_,(b d a).1,rfl⟩
theorem AF(f:D->D):∀ds:List D,(∀d∈ds,∃b,f d=.I b)->∃bs:List Bool,ds.j f=bs.j .I
|[],_=>⟨[],rfl⟩
|d::ds,h=>by obtain⟨b,e⟩:=h d Aa4;obtain⟨bs,e2⟩:=AF f ds λd a=>h d<|Aa3 _ a;exact⟨b::bs,by rw[Ab2,e,e2];rfl⟩
section
variable{n q:Nat}{K T:List Tx}{S:List Sy}
def BG(m c)(g:bG n K T)(G:∀s∈S,s.y (K++T)/\s.j<=q)(V:S.e<=100)(Q:q+8<=m)(h)(U:Gy h=true):∃b:Bool,call prog (m+1) "_law_keeps" [.v (bq K T S),.v (wo n K T c).u] h=.j (.b b) h/\(b=true↔∀s∈S,Td (wo n K T c) (wo n K T c) s<|some true):=by
 obtain⟨k,rfl⟩:=nk m 2<|Ab4 (Fk _ _) ‹_›;have e1:=Iq k c g h;have P:=Ik g<|wm h<|.u<|aR (K++T)<|fS n K T c;rw[Gb rfl _ _ _ rfl];show∃b,Gx _ (execs _ _ [sv (bq K T S),sv ((wo n K T c).u),u0] h)=_/\_;simp only[zK];have t:(h++[Cell.aU (aR (K++T)<|fS n K T c)]).A h.e=h:=by simp
 have I:h.e<=(h++[Cell.aU (aR (K++T)<|fS n K T c)]).e:=by simp
 generalize h++[Cell.aU _]=j at e1 P t I;have F:aW [D.n n,.w (ai<|cV n K.e T.e c),.w (ai<|dm n K.e T.e c)] 0=y0 _:=rfl;have H:∀s∈S,∃o,Td _ _ s o/\eval (k8<|k+2) (.B .dI (.j Yr<|.c (.G .C<|.p 0) .L .A)<|.bl true) [sv (aB s),sv ((wo n K T c).u),some (.r h.e)] j=.j (.b<|o==some true) j:=fun s a=>by obtain⟨o,r,p⟩:=uD P s (k+2) (by have:=(G s a).2;lia) (G s a).1;have p:call prog (k+2) Yr [.i n,.r h.e,.v (aB s)] j=.j (.v<|aP o) j:=p;have L:(wo n K T c).u=.w [.n n,.w (ai<|cV n K.e T.e c),.w (ai<|dm n K.e T.e c)]:=rfl;refine⟨o,r,?_⟩;rw[L];simp![ae,F,p,(lW o k9 j)]
 obtain⟨f,u,x⟩:=rJ (k:=1) (ax:=[1,2]) (it:=.j<|.G .A<|.p 1) (τ:=[sv (bq K T S),sv ((wo n K T c).u),y0 (.r h.e)]) (ds:=S.j aB) (λd y=>∀s∈S,d=aB s->∃o,Td (wo n K T c) (wo n K T c) s o/\y=.I (o==y0 k9)) (by simp![ae,zh]) (by rw[Aa];exact Y8)<|λd l=>by
  obtain⟨s,a,rfl⟩:=Ab7.u l;obtain⟨o,r,p⟩:=H s a;refine⟨.I<|o==y0 k9,p,λO E e=>?_⟩;obtain⟨J,v,i⟩:=H O E;rw[←e]at i;rw[p]at i;refine⟨J,v,?_⟩;injection i with i
  injection i
 obtain⟨bs,C⟩:=AF f (S.j aB) λd l=>by obtain⟨s,a,e⟩:=Ab7.u l;obtain⟨o,-,e2⟩:=x d l s a e.u;exact⟨_,e2⟩
 rw[C]at u;have u:eval (k8<|k+2) xz [sv (bq K T S),sv ((wo n K T c).u),y0 (.r h.e)] j=.j (.j<|bs.j .I) j:=u;refine⟨bs.N id,?_,λz s a=>?_,λz=>?_⟩
 .have B:aW [wD K T,D.tup (S.j aB)] 0=y0 (wD K T):=rfl;refine fx (by simp![ae,B,e1];rfl) ?_;rw[qa (w:=.b<|bs.N id) (h1:=j)<|Ja rfl<|WB u];obtain⟨R,M,N⟩:=nc (d:=.I<|bs.N id) (h:=j) (n:=h.e) rfl I (by rwa [t]);rw[M,N,t]
 .obtain⟨o,r,e⟩:=x (aB s) (Ab7.w ⟨s,a,rfl⟩) s a rfl;have m:f (aB s)∈bs.j D.bl:=by rw[←C];exact Ab7.w ⟨_,Ab7.w ⟨s,a,rfl⟩,rfl⟩
  obtain⟨b,A,e2⟩:=Ab7.u m;rw[e]at e2;have e2:b=(o==y0 k9):=by injection e2
  have:=Ad0.u z b A;rw[e2]at this;have:o=y0 true:=eq_of_beq this
  rwa [←this]
 .rw[Ad0];intro b A;have m:D.bl b∈bs.j D.bl:=Ab7.w ⟨b,A,rfl⟩;rw[←C]at m;obtain⟨d,l,e⟩:=Ab7.u m;obtain⟨s,a,rfl⟩:=Ab7.u l;obtain⟨o,r,e2⟩:=x (aB s) l s a rfl;rw[e2,r.uniq<|z s a]at e;injection e with e
  exact e.u
end
def Ro(l)(x):ai (l++[x])=ai l++[.n x]:=by simp
noncomputable def cx:Ex->List Tx
|.u t=>[t]
|.C a=>cx a
|.A a=>cx a
|.plus a b=>cx a++cx b
|.less a b=>cx a++cx b
|.both a b=>cx a++cx b
|.w a b=>cx a++cx b
|_=>[]
def OJ:Fc->List Tx
|.d8 a b=>cx a++cx b
|.eP a b=>cx a++cx b
|.eQ a=>cx a
|.au a=>cx a
|.cnt _ _ a=>cx a
def fA:Sy->List Tx
|.w f=>OJ f
|.u a=>fA a
|.cv a b=>fA a++fA b
|.cI a b=>fA a++fA b
def QG(h:a<=2^x)(g:b<=2^y):a+b<=2^(max x y+1):=by have d:2^x<=2^max x y:=Ad6 Y5<|Nat.le_max_left _ _;have c:2^y<=2^max x y:=Ad6 Y5<|Nat.le_max_right _ _;lia
def mC(h:a<=2^x):a<=2^(x+1):=Ab4 h<|Ad6 Y5<|Af1 _
theorem Qd:∀e:Ex,(cx e).e<=2^e.j
|.u _=>Ab0 _
|.same=>Ag0 _
|.all=>Ag0 _
|.x=>Ag0 _
|.C a=>mC<|Qd a
|.A a=>mC<|Qd a
|.plus a b=>by rw[cx,Aa5];exact QG (Qd a)<|Qd b
|.less a b=>by rw[cx,Aa5];exact QG (Qd a)<|Qd b
|.both a b=>by rw[cx,Aa5];exact QG (Qd a)<|Qd b
|.w a b=>by rw[cx,Aa5];exact QG (Qd a)<|Qd b
theorem Jn:∀s:Sy,(fA s).e<=2^(s.j+1)
|.w f=>by
  cases f with
 |d8 a b=>show(cx a++cx b).e<=_;rw[Aa5];exact QG (Qd a)<|Qd b
 |eP a b=>show(cx a++cx b).e<=_;rw[Aa5];exact QG (Qd a)<|Qd b
 |eQ a=>exact mC<|Qd a
 |au a=>exact mC<|Qd a
 |cnt _ _ a=>exact mC<|Qd a
|.u a=>mC<|Jn a
|.cv a b=>by rw[fA,Aa5,Sy.dp];have:=QG (Jn a)<|Jn b;rw[show max (a.j+1) (b.j+1)+1=max a.j b.j+1+1 by lia]at this;exact this
|.cI a b=>by rw[fA,Aa5,Sy.dp];have:=QG (Jn a)<|Jn b;rw[show max (a.j+1) (b.j+1)+1=max a.j b.j+1+1 by lia]at this;exact this
def ke(m:Nat)(h:AH)(p:D×List Tx):Prop:=(∃i,p.1=.p i/\p.2=[])\/∃xs,p.1=.w xs/\call prog m Yu [.v p.1] h=.j (.j<|p.2.j .u) h
theorem yo:∀(ps:List<|D×List Tx) j x,(∀p∈ps,ke m h p)->j.e+(ps.X (·.2)).e<=900000->∃L,Gq (Gr [2] k9) (λτ h=>execs (k8 m) zn τ h) (ps.j (·.1)) [sv th,y0 (.j<|j.j .u),x] h=.j [sv th,y0 (.j ((j++ps.X (·.2)).j .u)),L] h
|[],j,x,_,_=>⟨x,by simp[Gq]⟩
|(d,l)::ps,j,x,c,b=>by
  rw[Ak6,Aa5]at b;have b:j.e+(l.e+(ps.X (·.2)).e)<=900000:=b;obtain⟨L,e⟩:=yo ps (j++l) (sv d) (λp a=>c p<|Aa3 _ a) (by rw[Aa5];lia);refine⟨L,?_⟩;rw[Ab2,wb (τ1:=[sv th,y0 (.j<|j.j .u),sv d]) rfl,e,Ak6,Af6];show execs _ zn _ h=_;unfold zn;rcases c (d,l) Aa4 with⟨i,e1,e2⟩|⟨f,e1,e2⟩
  .cases e1;cases e2;rw[xa<|by simp![D6,Ty.mM],execs,Af0]
  .cases e1;have e2:=e2;have g:(j.j D.str).e+(l.j D.str).e<bh:=by rw[Gf,Aa,Aa];lia
   rw[za<|(Zo (h1:=h)<|by simp![MV,Ty.iO]).j ?_,execs];rw[za (τ1:=[sv th,y0 (.j<|(j++l).j .u),y0 (.t f)])<|by simp![e2,g,Os];rw[Ad4],execs]
def tO(b:(s==Zh)=y9)(ps:List<|D×List Tx)(a:∀p∈ps,ke m h p)(c:(ps.X (·.2)).e<=900000):call prog (m+1) Yu [.t (.u s::ps.j (·.1))] h=.j (.j ((ps.X (·.2)).j .u)) h:=by
 obtain⟨d,e⟩:=yo ps [] u0 a (by simp_all);rw[Af3]at e;rw[Gb rfl _ _ _ rfl];simp only[JE];rw[xa<|by rw[←b];simp![ae,we,zb]];refine fx (by simp![];rfl) ?_;have sl:fG (.t (.u s::ps.j (·.1))) (y0 1) u0 h=.j (.t (ps.j (·.1))) h:=by show aj _ h=_;rw[show cut _ (y0 1) u0=_ from WM _ 1];rfl
 rw[za (by
  rwa [exec,show Gv (k8 m) _ [y0 _,y0 _,u0] h=.j (ps.j (·.1)) h by simp![sl],R.ay])]
 rw[qa rfl,Gs _ _ _ rfl]
def HF(a:(s==Zh)=y9):call prog (m+1) Yu [.t [.u s]] h=.j (.j<|([]:List Tx).j .u) h:=tO a [] (fun _ h=>absurd h List.not_mem_nil)<|Ag0 _
def oI(b:(s==Zh)=y9)(e:ke m h (d,l))(c:l.e<=400000):call prog (m+1) Yu [.t [.u s,d]] h=.j (.j<|l.j .u) h:=by have:=tO b [_] (λp a=>by rwa [Ac8.u a]) (by simp;exact Y8);simpa using this
def zT(c:(s==Zh)=y9)(e:ke m h (d,l))(b:ke m h (d',l'))(g:l.e<=400000)(f:l'.e<=400000):call prog (m+1) Yu [.t [.u s,d,d']] h=.j (.j<|(l++l').j .u) h:=by
 have:=tO c [_,_] (λp a=>by
  obtain rfl|a:=Ab5.u a
  .exact e
  .rwa [Ac8.u a])<|by simp;lia
 simpa using this
def yK(e):∃xs,aV e=.w xs:=by cases e<;>exact⟨_,rfl⟩
def J8(s):∃xs,aB s=.w xs:=by
 cases s with
|fact f=>cases f<;>exact⟨_,rfl⟩
|_=>exact⟨_,rfl⟩
def JL(d)(h:d<=17):2^d<=400000:=Ab4 (Ad6 Y5 h) Y5
def OR(h):∀e m,e.j+1<=m->e.j<=16->call prog m Yu [.v (aV e)] h=.j (.j<|(cx e).j .u) h:=by
 intro e;have ok:∀e m,(∀m,e.j+1<=m->e.j<=16->call prog m Yu [.v _] h=.j _ h)->e.j+1<=m->e.j<=16->ke m h (aV e,cx e)/\(cx e).e<=400000:=fun e m d f l=>by obtain⟨n,ex⟩:=yK e;exact⟨.w ⟨n,ex,d m f l⟩,Ab4 (Qd e)<|JL _<|Ak9 ‹_›⟩
 have one:∀s a,_=y9->(∀m,a.j+1<=m->a.j<=16->call prog m Yu [.v _] h=.j _ h)->∀m,a.j+1+1<=m->a.j+1<=16->call prog m Yu [.t [.u s,aV a]] h=.j _ h:=fun s a j d m f l=>by obtain⟨k,rfl⟩:=nk m 1<|Ab4 (Fk _ _) ‹_›;obtain⟨g,i⟩:=ok a k d (On ‹_›)<|Ag ‹_›;exact oI j g i
 have two:∀s a b,_=y9->(∀m,a.j+1<=m->a.j<=16->call prog m Yu [.v _] h=.j _ h)->(∀m,b.j+1<=m->b.j<=16->call prog m Yu [.v _] h=.j _ h)->∀m,max a.j b.j+1+1<=m->max a.j b.j+1<=16->call prog m Yu [.t [.u s,aV a,aV b]] h=.j _ h:=fun s a b j d c m f l=>by obtain⟨k,rfl⟩:=nk m 1<|Ab4 (Fk _ _) ‹_›;obtain⟨g,i⟩:=ok a k d Y6 Y6;obtain⟨p,o⟩:=ok b k c Y6 Y6;exact zT j g p i o
 induction e with
|name t=>intro m f _;obtain⟨k,rfl⟩:∃k,m=k+1:=⟨m-1,by simp[Ex.dp]at f;exact(Vl ‹_›).symm⟩;rw[Gb rfl _ _ _ rfl];show Gx _ (execs _ _ [y0 (.t [.u Zh,.u t]),u0,u0] h)=_;simp only[JE];rw[qa (w:=.j [.u t]) (h1:=h)<|(Zo<|by simp![zb];rfl).j<|qa<|Ws rfl<|by simp![ae,zh],Gs _ _ _ rfl];rfl
|turned a d=>exact one Xi a rfl d
|closed a d=>exact one Ji a rfl d
|plus a b d c=>exact two WG a b rfl d c
|less a b d c=>exact two Qq a b rfl d c
|both a b d c=>exact two xC a b rfl d c
|joined a b d c=>exact two jh a b rfl d c
|_=>intro m f _;obtain⟨k,rfl⟩:=nk m 1<|Ab4 (Fk _ _) ‹_›;exact HF rfl
def ER(h):∀s m,s.y N->s.j+2<=m->s.j<=14->call prog m Yu [.v (aB s)] h=.j (.j<|(fA s).j .u) h:=by
 intro s;have c:∀e m,e.j+1<=m->e.j<=14->ke m h (aV e,cx e)/\(cx e).e<=400000:=λe m d g=>by obtain⟨o,ex⟩:=yK e;exact⟨.w ⟨o,ex,OR h e m d<|Y8⟩,Ab4 (Qd e)<|JL _<|Y8⟩
 induction s with
|fact f=>
  intro m wf d g;obtain⟨k,rfl⟩:=nk m 1<|Ab4 (Fk _ _) ‹_›;cases f with
 |d8 a b=>simp only[Sy.dp,Fc.dp]at d g;obtain⟨i,l⟩:=c a k Y6 Y6;obtain⟨v,q⟩:=c b k Y6 Y6;exact zT rfl i v l q
 |eP a b=>simp only[Sy.dp,Fc.dp]at d g;obtain⟨i,l⟩:=c a k Y6 Y6;obtain⟨v,q⟩:=c b k Y6 Y6;exact zT rfl i v l q
 |eQ a=>simp only[Sy.dp,Fc.dp]at d g;obtain⟨i,l⟩:=c a k (On ‹_›)<|Y8;exact oI rfl i l
 |au a=>simp only[Sy.dp,Fc.dp]at d g;obtain⟨i,l⟩:=c a k (On ‹_›)<|Y8;exact oI rfl i l
 |cnt t j a=>
   simp only[Sy.dp,Fc.dp]at d g;obtain⟨i,l⟩:=c a k (On ‹_›)<|Y8;have w:(t==Zh)=false:=by
    have:t=Qa\/t=jc\/t=xb\/t=qi:=by simpa using wf.1
    rcases this with rfl|rfl|rfl|rfl<;>rfl
   have:=zT w (.u ⟨_,rfl,rfl⟩:ke k h (.n j,[])) i (Ag0 _) l;exact this
|neg a p=>intro m wf d g;obtain⟨k,rfl⟩:=nk m 1<|Ab4 (Fk _ _) ‹_›;simp only[Sy.dp]at d g;obtain⟨o,ex⟩:=J8 a;exact oI rfl (.w ⟨o,ex,p k wf (On ‹_›)<|Ag ‹_›⟩)<|Ab4 (Jn a)<|JL _<|Y8
|cv a b p n=>intro m wf d g;obtain⟨k,rfl⟩:=nk m 1<|Ab4 (Fk _ _) ‹_›;simp only[Sy.dp]at d g;obtain⟨o,ex⟩:=J8 a;obtain⟨u,r⟩:=J8 b;exact zT rfl (.w ⟨o,ex,p k wf.1 Y6 Y6⟩) (.w ⟨u,r,n k wf.2 Y6 Y6⟩) (Ab4 (Jn a)<|JL _ Y6)<|Ab4 (Jn b)<|JL _ Y6
|cI a b p n=>intro m wf d g;obtain⟨k,rfl⟩:=nk m 1<|Ab4 (Fk _ _) ‹_›;simp only[Sy.dp]at d g;obtain⟨o,ex⟩:=J8 a;obtain⟨u,r⟩:=J8 b;exact zT rfl (.w ⟨o,ex,p k wf.1 Y6 Y6⟩) (.w ⟨u,r,n k wf.2 Y6 Y6⟩) (Ab4 (Jn a)<|JL _ Y6)<|Ab4 (Jn b)<|JL _ Y6
noncomputable def ml(L:List Tx):Nat->List Pl->Nat->Nat
|_,[],v=>v
|i,p::ps,v=>ml L (i+1) ps<|if p.1∈L then v|||2^i else v
theorem yg:∀ps i v j,(ml L i ps v).j j=k9↔v.j j=k9\/∃k p,ps[k]?=y0 p/\j=i+k/\p.1∈L
|[],i,v,j=>by exact⟨.u,λh=>h.j id<|by rintro⟨k,p,e,_⟩;exact by simp at e⟩
|p::ps,i,v,j=>by
  rw[ml,yg ps];have b:(if p.1∈L then v|||2^i else v).j j=k9↔v.j j=k9\/(j=i/\p.1∈L):=by
   by_cases q:p.1∈L
   .rw[Da q,Af8,Ae6,Ae5,L2];exact or_congr Iff.rfl ⟨λz=>⟨z.u,q⟩,λz=>z.1.u⟩
   .rw[FM q];exact⟨.u,λz=>z.j id λz=>absurd z.2 q⟩
  rw[b];constructor
  .rintro((h|⟨rfl,h⟩)|⟨k,a,e,rfl,h⟩)
   .exact .u h
   .exact .w ⟨0,p,rfl,rfl,h⟩
   .exact .w ⟨k+1,a,e,(Nat.add_right_comm _ _ _),h⟩
  .rintro(h|⟨k,a,e,rfl,h⟩)
   .exact .u<|.u h
   .cases k with
|zero=>
     have:p=a:=by simpa using e
     exact .u<|.w ⟨rfl,this▸h⟩
|succ k=>exact .w ⟨k,a,by simpa using e,by lia,h⟩
abbrev lG(ro:Nat)(s:D)(L:List Tx)(v:Nat)(x y:Option W):Sl:=[y0 (.r ro),sv s,y0 (.l<|L.j .u),si v,x,y]
def Mu(s)(a:List Tx)(h):Gp .u (.s s) (.l<|a.j .u) h=y0 (u9<|s∈a):=Jz s a (.l _) h rfl
theorem BY:∀ps i v x y,i+ps.e<=1000->∃M j,Gq (Gr [4,5] y9) (λτ h=>execs F xm τ h) (Kn i<|ps.j b3) (lG ro s L v x y) h=.j (lG ro s L (ml L i ps v) M j) h
|[],i,v,x,y,_=>⟨x,y,rfl⟩
|p::ps,i,v,x,y,c=>by
  rw[Aa9]at c;obtain⟨M,j,e⟩:=BY ps (i+1) (if p.1∈L then v|||2^i else v) (si i) (sv<|b3 p) Y6;refine⟨M,j,?_⟩;rw[Ab2,Kn,wb (τ1:=lG ro s L v (si i)<|sv<|b3 p) rfl,e,ml];unfold xm;have i0:cZ (.v<|b3 p) (.v<|.p 0) h=y0 (.u p.1):=rfl;have a:Gn F (.B .u (.G .v5<|.p 0) .L) (lG ro s L v (si i)<|sv<|b3 p) h=.j (u9<|p.1∈L) h:=by simp![i0,Mu]
  by_cases q:p.1∈L
  .rw[Da q,za<|(Zo<|by rw[a,FB q]).j ?_,execs];have b:=fb i Y6;rw[za (τ1:=lG ro s L (v|||2^i) (si i)<|sv<|b3 p) (h1:=h)<|by simp![b,Zn,xn],execs]
  .rw[FM q,xa<|by rw[a,IR q],execs]
def fm(n:Nat)(K T:List Tx)(s:Sy):Nat:=ml (fA s) 0 (b4 n K T) 0
section
variable{n:Nat}{K T:List Tx}{S:List Sy}{ro:Nat}{h:AH}
def Cn(s)(j):(fm n K T s).j j=k9↔∃p:Pl,(b4 n K T)[j]?=y0 p/\p.1∈fA s:=by
 rw[fm,yg,Ag4];constructor
 .rintro(h|⟨k,p,e,rfl,h⟩)
  .cases h
  .exact⟨p,by rw[Am9];exact e,h⟩
 .rintro⟨p,e,h⟩;exact .w ⟨j,p,e,(Am9 j).u,h⟩
def Ib(m)(g:bG n K T)(C:h[ro]?=y0 (.j Yq<|cY n K T S))(wf:s.y<|K++T)(c:s.j+2<=m)(d:s.j<=14):call prog (m+1) Y0 [.r ro,.v (aB s)] h=.j (.i<|fm n K T s) h:=by
 have a:0+(b4 n K T).e<=1000:=by rw[wG];have:=g.b6;lia
 obtain⟨e,f,e2⟩:=BY _ 0 0 u0 u0 a;refine fx (by simp![(ER h s m wf c d)];rfl) ?_
 rw[za (τ1:=lG ro _ _ 0 u0 u0)<|by simp![];rfl,za<|by
  have b:Gv (k8 m) (.cO<|.aJ .A Yq YJ) (lG ro (aB s) (fA s) 0 none none) h=.j (Kn 0<|(b4 n K T).j b3) h:=by show(eval _ _ _ h).u _=_;rw[(qm C rfl rfl)];rfl
  rwa [exec,b,R.ay]]
 rw[qa (w:=.i<|fm n K T s) rfl,Ga _ _ _ rfl]
end
theorem BA:∀f x a,x<f->∃y:Nat,GA (λτ h=>Gn F Jd τ h) (λτ h=>execs F Xj τ h) f [si x,si a] h=.j [si (0),si y] h
|0,x,a,c=>absurd c<|Ah5 _
|f+1,x,a,c=>by
  have d:Gn F Jd [si x,si a] h=.j (u9<|0<x) h:=by have z:Gp .gt (.i x) (.v<|.p 0) h=y0 (u9<|0<x):=iQ 0 x h;unfold Jd;simp![z]
  show∃y:Nat,((Gn F Jd _ h).cF _)=_;rw[d,R.ay];by_cases q:0<x
  .obtain⟨y,e⟩:=BA f (x&&&(x-1)) (a+1) (by have:x&&&(x-1)<=x-1:=VU;lia);refine⟨y,?_⟩;rw[FB q];have b:execs F Xj [si x,si a] h=.j [si (x&&&(x-1)),si (a+1)] h:=by
    have i:x-1=((x-1:Nat):Int):=by lia
    have g:a+1=((a+1:Nat):Int):=rfl;refine(za<|by simp![Zf,i,xc,jd];rfl).j ?_;rw[za (τ1:=[si (x&&&(x-1)),si (a+1)]) (h1:=h)<|by simp![Qc,g],execs]
   simp only[b];exact e
  .refine⟨a,?_⟩;have:x=0:=by lia
   subst this;rfl
def SU(k x)(h)(a:x<100000):∃y:Nat,call prog (k+1) YX [.i x] h=.j (.i y) h:=by obtain⟨y,e⟩:=BA 100000 x 0 a;refine⟨y,?_⟩;refine fx (by simp![];rfl) ?_;rw[za<|by assumption,qa rfl,Ga _ _ _ rfl]
theorem xV:∀xs b j,(∀m∈xs,∃y,G9 (key m)=y0 y)->∃i∈b::xs,GX key b j xs=y0 i
|[],b,j,_=>⟨b,Aa4,rfl⟩
|x::xs,b,j,h=>by
  obtain⟨y,e⟩:=h x Aa4;rw[GX,e,Af2];by_cases q:y<j
  .obtain⟨i,a,c⟩:=xV xs x y λm d=>h m<|Aa3 _ d;exact⟨i,Aa3 _ a,by rw[Da q];exact c⟩
  .obtain⟨i,a,c⟩:=xV xs b j λm d=>h m<|Aa3 _ d;refine⟨i,?_,by rw[FM q];exact c⟩;rcases Ab5.u a with rfl|a
   .exact Aa4
   .exact Aa3 _<|Aa3 _ a
set_option tactic.hygienic true in
def LB(c:xs≠[])(h:∀m∈xs,∃y,G9 (key m)=y0 y):∃i∈xs,Kc key (y0 xs)=y0 i:=by
 cases xs with
|nil=>exact absurd rfl c
|cons x xs=>obtain⟨y,e⟩:=h x Aa4;obtain⟨i,d,a⟩:=xV xs x y λm b=>h m<|Aa3 _ b;exact⟨i,d,by rw[Kc,e];exact a⟩
def M7(a:0<f)(h1:f<1024):∃i:Nat,i<10/\f.j i=k9/\f-(f&&&(f-1))=2^i:=by
 have:∀f,f<1024->0<f->(Aa6 10).C λi=>f.j i&&u9 (f-(f&&&(f-1))=2^i):=by decide+kernel
 obtain⟨i,b,e⟩:=Ad8.u<|this f h1 a;rw[Aa2,L2]at e;exact⟨i,Ab6.u b,e.1,e.2⟩
def Rj{f:Nat}(a:0<f):Gj .w (f:Int) (-(f:Int))=y0 ((f-(f&&&(f-1)):Nat):Int):=by rw[xc,Kl,Da<|Ar f,FM Y6,Ac5,show(-(-(f:Int))-1).j=f-1 by lia]
def HM(i):Kk ((2^i:Nat):Int)=i+1:=by have:(2^i)≠0:=Ao2<|Ae i;rw[Kk,FM Y6,Int.natAbs_natCast,Nat.log2_two_pow]
def kR(e:Ex):Gc (aV e)=k9/\dep (aV e)<=e.j+1:=by
 induction e with
|turned a c=>obtain⟨d,g⟩:=c;exact⟨by simp[aV,d],by simp[aV,Ex.dp];exact‹_›⟩
|closed a c=>obtain⟨d,g⟩:=c;exact⟨by simp[aV,d],by simp[aV,Ex.dp];exact‹_›⟩
|plus a b c k=>obtain⟨d,g⟩:=c;obtain⟨f,h⟩:=k;exact⟨by simp[aV,d,f],by simp[aV,Ex.dp];lia⟩
|less a b c k=>obtain⟨d,g⟩:=c;obtain⟨f,h⟩:=k;exact⟨by simp[aV,d,f],by simp[aV,Ex.dp];lia⟩
|both a b c k=>obtain⟨d,g⟩:=c;obtain⟨f,h⟩:=k;exact⟨by simp[aV,d,f],by simp[aV,Ex.dp];lia⟩
|joined a b c k=>obtain⟨d,g⟩:=c;obtain⟨f,h⟩:=k;exact⟨by simp[aV,d,f],by simp[aV,Ex.dp];lia⟩
|_=>exact⟨rfl,by simp[aV]⟩
def B2(s:Sy):Gc (aB s)=k9/\dep (aB s)<=s.j+2:=by
 induction s with
|fact f=>
  cases f with
 |d8 a b=>obtain⟨c,e⟩:=kR a;obtain⟨d,h⟩:=kR b;exact⟨by simp[aB,dT,c,d],by simp[aB,dT,Sy.dp,Fc.dp];lia⟩
 |eP a b=>obtain⟨c,e⟩:=kR a;obtain⟨d,h⟩:=kR b;exact⟨by simp[aB,dT,c,d],by simp[aB,dT,Sy.dp,Fc.dp];lia⟩
 |eQ a=>obtain⟨c,e⟩:=kR a;exact⟨by simp[aB,dT,c],by simp[aB,dT,Sy.dp,Fc.dp];exact‹_›⟩
 |au a=>obtain⟨c,e⟩:=kR a;exact⟨by simp[aB,dT,c],by simp[aB,dT,Sy.dp,Fc.dp];exact‹_›⟩
 |cnt t j a=>obtain⟨c,e⟩:=kR a;exact⟨by simp[aB,dT,c],by simp[aB,dT,dep,GN,Sy.dp,Fc.dp];exact‹_›⟩
|neg a g=>obtain⟨c,e⟩:=g;exact⟨by simp[aB,c],by simp[aB,dep,GN,Sy.dp];exact‹_›⟩
|cv a b g k=>obtain⟨c,e⟩:=g;obtain⟨d,h⟩:=k;exact⟨by simp[aB,c,d],by simp[aB,dep,GN,Sy.dp];lia⟩
|cI a b g k=>obtain⟨c,e⟩:=g;obtain⟨d,h⟩:=k;exact⟨by simp[aB,c,d],by simp[aB,dep,GN,Sy.dp];lia⟩
def LD(k)(g:bG n K T)(h):call prog (k+5) "check_bits" [.v (wD K T),.i n,.v (.p 16)] h=.j (.v .U) h:=by have n4:=g.n4;have c:=g.b6;have b:=yi k (.n n) h rfl (by simp[qs];lia);have a:=uR (k+2) n (K.j .u) (T.j .u) h n4 (by rw[Aa];exact g.k4) (by rw[Aa];exact g.t4);rw[Aa,Aa,pW]at a;rw[Gb rfl _ _ _ rfl];simp only[JG];refine fx (by simp![b];rfl) ?_;refine fx (by simp![a];rfl) ?_;have z:Gp .gt _ (.v<|.p 16) h=y0 _:=iQ 16 (bN n K T) h;rw[IR Y6]at z;rw[xa<|by simp![z],execs];exact GB _ h _ rfl
def JX(b:eval F e τ (g++[.j c fs])=.j (.v d) (g++[.j c fs]))(j:Gm τ i=y0 (.r g.e))(h:Gc d=k9)(a:fs.e<100):exec F (.bP i c f e) τ (g++[.j c fs])=.j τ (g++[.j c (a0 f d fs)]):=by rw[exec,b,R.ay];simp only[j,Zt<|wm g _,h,a,Th,Os,Wv]
def Il(b:eval F e τ (g++[.j c fs])=.j (.j xs) (g++[.j c fs]))(h:Gm τ i=y0 (.r g.e))(d:Gd xs=k9)(a:fs.e<100):exec F (.bY i c f e) τ (g++[.j c fs])=.j τ (g++[.j c (a0 f (.x xs) fs)]):=by rw[exec,b,R.ay];simp only[W.gT,h,Zt<|wm g _,show Gc (.x xs)=k9 from d,a,Th,Os,Wv]
def E5(k){S:List Sy}(g:bG n K T)(h:AH):call prog (k+4) "Cases.__init__" [.r h.e,.v (bq K T S),.i n] (h++[.j Yq []])=.j (.v .U) (h++[Cell.obj Yq (cY n K T S)]):=by
 rw[Gb rfl _ _ _ rfl];show Gx _ (execs _ _ [y0 (.r h.e),sv (bq K T S),si n]<|h++[.j Yq []])=_;simp only[Xq];have e:∀a,eval (k8<|k+3) (.G .C<|.p 0) [y0 (.r h.e),sv (bq K T S),si n] a=.j (.v<|wD K T) a:=λa=>by simp![ae,Qn]
 have c:∀a,eval (k8<|k+3) (.G .C<|.p 1) [y0 (.r h.e),sv (bq K T S),si n] a=.j (.t<|S.j aB) a:=λa=>by simp![ae,zh]
 rw[za<|JX (fs:=[]) (e _) rfl (by show(Gd (K.j .u)&&(Gd (T.j .u)&&k9))=k9;rw[wy,wy];rfl)<|show 0<100 by decide,za<|JX (fs:=a0 YK (wD K T) []) (c _) rfl (Xf _ (fun s=>(B2 s).1) S)<|show 1<100 by decide,za<|JX (fs:=a0 YF (.w<|S.j aB)<|a0 YK (wD K T) []) (d:=.n n) (by simp![]) rfl rfl<|show 2<100 by decide];have pl:∀a,eval (k8<|k+3) (.j "places_of"<|.b (.G .C<|.p 0) .L) [some (.r h.e),sv (bq K T S),si n] a=.j (.j<|(b4 n K T).j b3) a:=fun a=>by simp![ae,Qn,(L6 k n K T a g.n4 g.k4 g.t4)];rfl
 rw[za<|Il (fs:=a0 Y1 (.n n)<|a0 YF (.w<|S.j aB)<|a0 YK (wD K T) []) (pl _) rfl (XC _)<|show 3<100 by decide];have l:a0 YJ (.x<|(b4 n K T).j b3) (a0 Y1 (.n n)<|a0 YF (.w<|S.j aB)<|a0 YK (wD K T) [])=[(YK,wD K T),(YF,.w<|S.j aB),(Y1,.n n),(YJ,.x<|(b4 n K T).j b3)]:=rfl;rw[l];have o:=g.b6;have m:=fb (bN n K T) (by show K.e*n+T.e*(n*n)<=_;exact Y8);have j:((2^bN n K T:Nat):Int)-1=((2^bN n K T-1:Nat):Int):=by have:=Ae<|bN n K T;lia
 rw[za<|JX (d:=.n<|2^bN n K T-1) (by have b:=qm (F:=(k8<|k+3)) (τ:=[y0 (.r h.e),sv (bq K T S),si n]) (i:=0) (f:=YJ) (wm h<|.j Yq [(YK,wD K T),(YF,.w<|S.j aB),(Y1,.n n),(YJ,.x<|(b4 n K T).j b3)]) rfl rfl;generalize E.aJ _ _ _=X at b⊢;simp![b,XN,aj,Aa,wG,m,Zf,j]) rfl rfl Y7];rw[execs];exact GB _ _ _ Y7
noncomputable def fX(n:Nat)(K T:List Tx)(S:List Sy)(rc:Nat):List<|String×D:=[(Yt,.j rc),("needs",.x<|ai<|S.j<|fm n K T)]
structure Se(n:Nat)(K T:List Tx)(S:List Sy)(rs rc:Nat)(h:AH):Prop where
 se:h[rs]?=y0 (.j Yp<|fX n K T S rc)
 cs:h[rc]?=y0 (.j Yq<|cY n K T S)
theorem yz(f)(P:Nat->Prop):∀ds:List D,(∀d∈ds,∃x:Nat,f d=.n x/\P x)->∃xs:List Nat,ds.j f=ai xs/\(∀x∈xs,P x)/\xs.e=ds.e
|[],_=>⟨[],rfl,λ_ h=>absurd h Ag2,rfl⟩
|d::ds,h=>by
  obtain⟨x,e,p⟩:=h d Aa4;obtain⟨xs,e2,b,l2⟩:=yz f P ds λd c=>h d<|Aa3 _ c;refine⟨x::xs,by rw[Ab2,e,e2];rfl,λy a=>?_,by rw[Aa9,l2,Aa9]⟩;rcases Ab5.u a with rfl|a
  .exact p
  .exact b y a
section
variable{n q:Nat}{K T:List Tx}{S:List Sy}
def O4(m:Nat)(g:bG n K T)(l:∀s∈S,s.y (K++T)/\s.j<=q)(N:S.e<=100)(M:q+7<=m)(L:q<=14)(h:AH):call prog (m+1) YS [.r h.e,.v (bq K T S),.i n] (h++[.j Yp []])=.j (.v .U) (h++[.j Yp (fX n K T S<|h.e+1),.j Yq (cY n K T S)]):=by
 obtain⟨k,rfl⟩:=nk m 4<|Ab4 (Fk _ _) ‹_›;have e1:=E5 k (S:=S) g<|h++[Cell.obj Yp []];have r:(h++[Cell.obj Yp []]).e=h.e+1:=by simp
 rw[r]at e1;rw[Gb (d:=ji) rfl _ _ _ rfl];show Gx _ (execs _ _ [y0 (.r h.e),sv (bq K T S),si n]<|h++[.j Yp []])=_;simp only[ji];have v:∀fs x,G6 (h++[Cell.obj Yp fs]++x) _=some (h.e,Yp,fs):=fun fs x=>Zt Y7;have z:∀fs b x,(h++[Cell.obj Yp fs]++x).y h.e (.j Yp b)=h++[Cell.obj Yp b]++x:=fun fs b x=>by simp
 have mk:eval (k8<|k+4) (.make Yq "Cases.__init__"<|.b .C .L) [some (.r h.e),sv (bq K T S),si n] (h++[.j Yp []])=.j (.r<|h.e+1) (h++[.j Yp []]++[.j Yq (cY n K T S)]):=by simp![r,e1,aj]
 rw[za (τ1:=[y0 (.r h.e),sv (bq K T S),si n]) (h1:=h++[.j Yp [(Yt,.j<|h.e+1)]]++[.j Yq (cY n K T S)])<|by rw[exec,mk,R.ay];simp only[Gm,v,Ae4,show(0:Nat)<100 by decide,Th,Os,z];rfl];have t:(h++[Cell.obj Yp [(Yt,.j<|h.e+1)]]++[Cell.obj Yq (cY n K T S)])[h.e+1]?=some (.j Yq<|cY n K T S):=by simp
 have j:(h++[Cell.obj Yp [(Yt,.j<|h.e+1)]]++[Cell.obj Yq (cY n K T S)])[h.e]?=some (.j Yp [(Yt,.j<|h.e+1)]):=by simp
 have u:=v [(Yt,.j<|h.e+1)] [Cell.obj Yq (cY n K T S)];have w:=z [(Yt,.j<|h.e+1)] (fX n K T S<|h.e+1) [Cell.obj Yq (cY n K T S)];have J:h++[Cell.obj Yp (fX n K T S<|h.e+1)]++[Cell.obj Yq (cY n K T S)]=h++[.j Yp (fX n K T S<|h.e+1),.j Yq (cY n K T S)]:=by simp
 generalize h++[Cell.obj Yp [(Yt,.j<|h.e+1)]]++[Cell.obj Yq (cY n K T S)]=H at t j u w⊢;have comp:eval (k8<|k+4) jg [y0 (.r h.e),sv (bq K T S),si n] H=.j (.j<|ai<|S.j<|fm n K T) H:=by
  unfold jg
  obtain⟨f,D,C⟩:=rJ (F:=(k8<|k+4)) (k:=1) (ax:=[0]) (it:=.j<|.G .C<|.p 1) (c:=.bl true) (elt:=.j Y0<|.j (.aJ .C Yp Yt)<|.a .A) (τ:=[some (.r h.e),sv (bq K T S),si n]) (h:=H) (ds:=S.j aB) (fun d y=>∀s∈S,d=aB s->y=.n (fm n K T s)) (by simp![ae,zh]) (by rw[Aa];exact Y8)<|fun d B=>by
   have o:∀s∈S,eval (k8<|k+4) (.j Y0<|.j (.aJ .C Yp Yt)<|.a .A) [sv (aB s),some (.r h.e)] H=.j (.i<|fm n K T s) H:=fun s a=>by have e:=Ib (k+3) g t (l s a).1 (by have:=(l s a).2;lia) (by have:=(l s a).2;exact Ab4 ‹_› ‹_›);have A:=qm (F:=(k8<|k+4)) (τ:=[sv (aB s),y0 (.r h.e)]) (i:=1) (f:=Yt) j rfl rfl;generalize E.aJ _ _ _=X at A⊢;simp![A,e]
   obtain⟨s,a,rfl⟩:=Ab7.u B;refine⟨_,o s a,λI p e=>?_⟩;have e1:=o s a;rw[e,o I p]at e1;injection e1 with e1
   injection e1 with e1
   exact e1.u
  rw[D];congr 2;rw[Ad9,ai,Ad9];exact Aj6 λs a=>C (aB s) (Ab7.w ⟨s,a,rfl⟩) s a rfl
 rw[za (τ1:=[y0 (.r h.e),sv (bq K T S),si n]) (h1:=h++[.j Yp (fX n K T S<|h.e+1),.j Yq (cY n K T S)])<|by rw[exec,comp,R.ay];simp only[W.gT,Gm,u,show Gc (.x<|ai<|S.j<|fm n K T)=k9 from Jy _,Aa9,Ae4,show(0+1:Nat)<100 by decide,Th,Os];rw[show(a0 "needs" (.x<|ai<|S.j<|fm n K T) [(Yt,.j<|h.e+1)])=fX n K T S (h.e+1)from rfl,w,J],execs];show fin _ (.v .U) _=_;unfold fin;have G:Gy ((h++[Cell.obj Yp (fX n K T S<|h.e+1),.j Yq (cY n K T S)]).A (h++[Cell.obj Yp []]).e)=false:=by rw[r,show h++[Cell.obj Yp (fX n K T S<|h.e+1),.j Yq (cY n K T S)]=h++[Cell.obj Yp (fX n K T S<|h.e+1)]++[.j Yq (cY n K T S)]by simp,TZ Y7,Gy,V8];refine Bool.and_eq_false_iff.w<|.w ?_;simp[Cell.pure,fX]
 rw[FM Y7,G,Ai,FM Ac0]
def iF(n:Nat)(K T:List Tx)(b a:Nat)(s:Sy):Nat:=(fm n K T s&&&a)-((fm n K T s&&&a)&&&b)
def Cr(low high)(s)(i):(iF n K T low high s).j i=((fm n K T s).j i&&high.j i&&!low.j i):=by rw[iF,Wf.aQ,Ai1]
def L7(m)(g:bG n K T)(J:Se n K T S rs rc H)(R:high<2^bN n K T)(r:js≠[])(U:js.e<=1000)(P:∀j∈js,∃s,S[j]?=y0 s/\iF n K T low high s≠0):
 ∃i:Nat,i<bN n K T/\high.j i=k9/\low.j i=y9/\call prog (m+2) YY [.r rs,.u (ai js),.i low,.i high] H=.j (.i i) H:=by
 obtain⟨f,c,C⟩:=rJ (F:=(k8<|m+1)) (k:=1) (ax:=[0,3,2]) (it:=.j .C) (elt:=.y .w (.y .w (.G (.aJ .C Yp "needs") .A) .L)<|.inv .N) (τ:=[some (.r rs),some (.u<|ai js),si low,si high,none,none]) (ds:=ai js) (fun d y=>∃x:Nat,y=.n x/\(∃s,x=iF n K T low high s)/\x≠0) (by simp![]) (by rwa [Aa])<|fun d h=>by
  obtain⟨j,r,rfl⟩:=Ab7.u h;obtain⟨s,e1,e2⟩:=P j r;have A:=qm (F:=(k8<|m+1)) (τ:=[si j,y0 (.r rs),si high,si low]) (i:=1) (f:="needs") J.se rfl rfl;have o:aW (ai<|S.j<|fm n K T) (j:Int)=y0 (.n<|fm n K T s):=by rw[ze _ _<|by rw[Aa,Aa];exact((Aa0.u e1).1),Ab9,Ab9,e1];rfl
  refine⟨.n<|iF n K T low high s,?_,_,rfl,⟨s,rfl⟩,e2⟩;show eval _ _ [si j,y0 (.r rs),si high,si low] H=_;generalize E.aJ _ _ _=X at A⊢;simp![A,Js,o,xc,jd,JK];rfl
 obtain⟨b,ex,B,z⟩:=yz f (λx=>(∃s,x=iF n K T low high s)/\x≠0) _ λd h=>by obtain⟨x,e,p⟩:=C d h;exact⟨x,e,p⟩
 rw[ex]at c;have lt:∀x∈b,0<x/\x<64:=λx a=>by obtain⟨⟨s,e⟩,ne⟩:=B x a;refine⟨Nat.pos_of_ne_zero ne,?_⟩;have D:iF n K T low high s<=high:=Ab4 (Ar2 _ _) VU;have V:2^bN n K T<=2^6:=Ad6 Y5<|g.b6;lia
 obtain⟨i0,q,l⟩:=LB (key:=fun x=>call prog (m+1) YX [.v (.p x)] []) (xs:=b.j fun(x:Nat)=>(x:Int)) (by
  cases b with
|nil=>rw[Aa]at z;exact absurd (Ao8.u z.u) r
|cons _ _=>simp)<|λy M=>by
  obtain⟨x,a,rfl⟩:=Ab7.u M;obtain⟨y,e⟩:=SU m x [] (by have:=(lt x a).2;exact Y8);exact⟨_,by show G9 (call prog (m+1) YX [.i x] [])=_;rw[e];rfl⟩
 obtain⟨x,a,rfl⟩:=Ab7.u q;obtain⟨u,L⟩:=lt x a;obtain⟨i,_,v,Q⟩:=M7 u<|Y8;obtain⟨⟨s,rfl⟩,_⟩:=B x a;rw[Cr,Aa2,Aa2,Ag5]at v;obtain⟨⟨I,N⟩,G⟩:=v;obtain⟨p,O,_⟩:=(Cn s i).u I;refine⟨i,?_,N,G,?_⟩
 .have:=(Aa0.u O).1
  rwa [wG]at this
 rw[Gb rfl _ _ _ rfl];simp only[xj];have c:eval (k8 _) xh [y0 _,y0 _,si low,si high,u0,u0] H=.j _ H:=c;refine fx (by simp![c];rfl) ?_;refine fx (by simp![W.m3,zW,l,aj];rfl) ?_;have t:=Rj u;rw[Q]at t;have e1:((i+1:Nat):Int)-1=(i:Int):=by lia
 rw[qa (w:=.i i) (h1:=H)<|Ja rfl<|by simp![t,HM,aj,Zf,e1],Ga _ _ _ rfl]
end
def KR:∀e p,(∀t∈cx e,bb a t=bb b t)->bt a b p e=bt a b k9 e:=by
 intro e;induction e with
|name t=>intro p h;cases p with
 |true=>rfl
 |false=>exact h t Aa4
|turned e g=>intro p h;simp[bt,g p h]
|closed e g=>intro p h;simp[bt,g p h]
|plus e f g c=>intro p h;simp[bt,g p λt d=>h t<|Ad1 _ d,c p λt d=>h t<|Ab _ d]
|less e f g c=>intro p h;simp[bt,g p<|λt d=>h t<|Ad1 _ d,c _<|λt d=>h t<|Ab _ d]
|both e f g c=>intro p h;simp[bt,g p λt d=>h t<|Ad1 _ d,c p λt d=>h t<|Ab _ d]
|joined e f g c=>intro p h;simp[bt,g p λt d=>h t<|Ad1 _ d,c p λt d=>h t<|Ab _ d]
|_=>intro p h;cases p<;>rfl
def B.nm (h:B a b e v u)(k:∀t∈cx e,bb a t=bb b t):v=u:=by have l:=h.j;rw[KR e y9 k]at l;exact l.uniq h.u
def w5(h:p≠u0)(g:q≠u0):eZ p q≠none:=by
 rcases p with _|_|_<;>rcases q with _|_|_<;>first|exact absurd rfl h|exact absurd rfl g|(intro z;cases z)
def RT(h:p≠u0)(g:q≠u0):gk p q≠none:=by
 rcases p with _|_|_<;>rcases q with _|_|_<;>first|exact absurd rfl h|exact absurd rfl g|(intro z;cases z)
theorem Td.nm:∀s r,Td a b s r->(∀t∈fA s,bb a t=bb b t)->r≠u0
|.w f,r,h,k=>by
  cases f with
 |d8 x y=>obtain⟨v,u,l,m,c,i,rfl⟩:=h;cases c.nm λt g=>k t<|Ad1 _ g;cases i.nm λt g=>k t<|Ab _ g;rw[jY];intro z;cases z
 |eP x y=>obtain⟨v,u,l,m,c,i,rfl⟩:=h;cases c.nm λt g=>k t<|Ad1 _ g;cases i.nm λt g=>k t<|Ab _ g;rw[jY,jY];exact w5 (λz=>by cases z) λz=>by cases z
 |eQ x=>obtain⟨v,u,c,rfl⟩:=h;cases c.nm k;rw[jM];intro z;cases z
 |au x=>obtain⟨v,u,c,rfl⟩:=h;cases c.nm k;rw[jM];intro z;cases z
 |cnt s j x=>obtain⟨v,u,c,rfl⟩:=h;cases c.nm k;rw[jM];intro z;cases z
|.u s,r,z7,k=>by
  obtain⟨q,h,e⟩:=z7;have:=Td.nm s q h k;cases q with
 |none=>exact absurd rfl this
 |some x=>rw[e];intro z;cases z
|.cv s t,r,z7,k=>by obtain⟨p,q,c,i,e⟩:=z7;rw[e];exact w5 (Td.nm s p c λx d=>k x<|Ad1 _ d)<|Td.nm t q i λx d=>k x<|Ab _ d
|.cI s t,r,z7,k=>by obtain⟨p,q,c,i,e⟩:=z7;rw[e];exact RT (Td.nm s p c λx d=>k x<|Ad1 _ d)<|Td.nm t q i λx d=>k x<|Ab _ d
theorem jj:∀e:Ex,e.y N->∀t∈cx e,t∈N
|.u x,w,t,h=>by rw[Ac8.u h];exact w
|.C a,w,t,h=>jj a w t h
|.A a,w,t,h=>jj a w t h
|.plus a b,w,t,h=>(Ac6.u h).j (jj a w.1 t)<|jj b w.2 t
|.less a b,w,t,h=>(Ac6.u h).j (jj a w.1 t)<|jj b w.2 t
|.both a b,w,t,h=>(Ac6.u h).j (jj a w.1 t)<|jj b w.2 t
|.w a b,w,t,h=>(Ac6.u h).j (jj a w.1 t)<|jj b w.2 t
theorem QR:∀s:Sy,s.y N->∀t∈fA s,t∈N
|.w f,w,t,h=>by
  cases f with
 |d8 a b=>exact(Ac6.u h).j (jj a w.1 t)<|jj b w.2 t
 |eP a b=>exact(Ac6.u h).j (jj a w.1 t)<|jj b w.2 t
 |eQ a=>exact jj a w t h
 |au a=>exact jj a w t h
 |cnt _ _ a=>exact jj a w.2 t h
|.u a,w,t,h=>QR a w t h
|.cv a b,w,t,h=>(Ac6.u h).j (QR a w.1 t)<|QR b w.2 t
|.cI a b,w,t,h=>(Ac6.u h).j (QR a w.1 t)<|QR b w.2 t
section
variable{n:Nat}{K T:List Tx}{low high:Nat}
def Ey(g:bG n K T)(j:t∈K++T)(h:∀i x y,(b4 n K T)[i]?=y0 (t,x,y)->low.j i=high.j i):bb (wo n K T low) t=bb (wo n K T high) t:=by
 have b:∀x y,x<n->y<n->bb _ t x y=bb (wo n K T high) t x y:=λx y f k=>by
  by_cases q:∃i:Nat,(b4 n K T)[i]?=y0 (t,x,y)
  .obtain⟨i,d⟩:=q;rw[(zm g d low).1,(zm g d high).1,h i x y d]
  .rw[wC low 0 j f k q,wC high 0 j f k q]
 funext x y;by_cases q:t∈T
 .have a:∀c,bb _ t x y=if x*n+y<n*n then bb _ t _ (_%n)else false:=λc=>by
   unfold bb;rw[Da<|show t∈(wo n K T c).T from q,Da<|show t∈(wo n K T c).T from q];show((dm n K.e T.e c).I (du t T) 0).j (x*n+y)=if _ then((dm n K.e T.e c).I (du t T) 0).j ((x*n+y)/n*n+(x*n+y)%n)else y9;rw[Wf.bw];by_cases z:x*n+y<n*n
   .rw[Da z]
   .rw[FM z,AD,IR z,Af7,Ai]
  rw[a,a];by_cases z:x*n+y<n*n
  .rw[Da z,Da z];exact b _ _ (Wf.bf z)<|Wf.aZ z
  .rw[FM z,FM z]
 .by_cases z:x=y/\x<n
  .obtain⟨rfl,z⟩:=z;exact b x x z z
  .have a:∀c,bb _ t x y=false:=λc=>by
    unfold bb;rw[FM<|show t∉(wo n K T c).T from q];show(decide _&&((cV n K.e T.e c).I _ 0).j x)=y9;by_cases e:x=y
    .rw[vR,IR<|λl=>z ⟨e,l⟩,Af7,Ai,Ai]
    .rw[IR e,Af7]
   rw[a,a]
def Mx(g:bG n K T)(sub:Sub low high)(wf:s.y<|K++T)(h:Td (wo n K T low) (wo n K T high) s u0):iF n K T low high s≠0:=λz=>by
 refine Td.nm s u0 h (λt b=>Ey g (QR s wf t b) λi x y d=>?_) rfl;have c:=(Cn s i).w ⟨_,d,b⟩;have e:=Cr (n:=n) (K:=K) (T:=T) low high s i;rw[z,Ag4,c,Ae7]at e;cases q:high.j i with
|true=>
  rw[q,Ae7]at e;cases a:low.j i with
 |true=>rfl
 |false=>rw[a]at e;cases e
|false=>
  cases a:low.j i with
|false=>rfl
|true=>rw[sub i a]at q;cases q
def oc(n:Nat)(K T:List Tx)(b a:Nat):Nat:=((Aa6<|bN n K T).L λi=>a.j i&&!b.j i).e
def P6(a:i<bN n K T)(h:high.j i=k9)(l:low.j i=y9):oc n K T (low|||2^i) high<oc n K T low high:=by refine n3 (λj _ z=>?_) ⟨i,Ab6.w a,by rw[h,l];rfl,by rw[Af8,Al8,Al6,An2,Ai]⟩;rw[Af8,Bool.not_or,Aa2,Aa2]at z;rw[z.1,z.2.1];rfl
def Mq(a:i<bN n K T)(h:high.j i=k9)(l:low.j i=y9):oc n K T low (high-(high&&&2^i))<oc n K T low high:=by refine n3 (λj _ z=>?_) ⟨i,Ab6.w a,by rw[h,l];rfl,by rw[Wf.aQ,Al8,An2,Ai,Af7]⟩;rw[Wf.aQ,Aa2,Aa2]at z;rw[z.1.1,z.2];rfl
def MH:oc n K T low high<=bN n K T:=by
 have:=Ai7 (λi=>high.j i&&!low.j i)<|Aa6<|bN n K T
 rwa [Ae1]at this
end
abbrev qD:Tx:=[119,111,114,108,100]
abbrev Jc:Tx:=[112,97,112,101,114]
structure GP(n:Nat)(K T:List Tx)(S:List Sy)(J:List Nat)(d:Nat)(p:D)(low high:Nat):Prop where
 pp:Pp n K T J p
 dp:dep p<=d
 sh:Sh n K T S p low high
section
variable{n q:Nat}{K T:List Tx}{S:List Sy}{J:List Nat}{d low high:Nat}{p:D}
def GP.up (h:GP n K T S J d p low high)(l:d<=d'):GP n K T S J d' p low high:=⟨h.pp,Ab4 h.dp l,h.sh⟩
theorem GP.dH (c:(b4 n K T)[i]?=y0 (t,x,y))(e:high.j i=k9)(f:low.j i=y9)(b:GP n K T S J d p1 (low|||2^i) high)(a:GP n K T S J d p2 low<|high-(high&&&2^i)):GP n K T S J (d+1) (.w [.u jf,.u t,.n x,.n y,p1,p2]) low high:=⟨.dH c b.pp a.pp,by have:=b.dp;have:=a.dp;simp only[dep,GN];lia,.dH c e f b.sh a.sh⟩
def Tr(n:Nat)(K T:List Tx)(S:List Sy)(b a j:Nat):Prop:=∃s,S[j]?=y0 s/\Td (wo n K T b) (wo n K T a) s (y0 k9)
def i8(n:Nat)(K T:List Tx)(S:List Sy)(J:List Nat)(d e b:Nat)(a:D):Prop:=(∃c,Sub e c/\Sub c b/\c<2^bN n K T/\a=.w [.u qD,(wo n K T c).u]/\∀j∈J,Tr n K T S c c j)\/∃p,a=.w [.u Jc,p]/\GP n K T S J d p e b
noncomputable abbrev cL(rs:Nat)(js:List Nat)(b a:Nat)(l:List Nat)(x y:Option W):Sl:=[y0 (.r rs),y0 (.u<|ai js),si b,si a,y0 (.j<|ai l),x,y]
theorem pA(g:bG n K T)(A:∀s∈S,s.y (K++T)/\s.j<=q)(Q:low<2^bN n K T)(D:high<2^bN n K T)(p:Se n K T S rs rc H)(U:q+10<=m):∀js L x y,(∀j∈js,j<S.e)->L.e+js.e<=1000→
 (∃j s,j∈js/\S[j]?=y0 s/\Td (wo n K T low) (wo n K T high) s (y0 y9)/\Gq (Gr [5] k9) (λτ h=>execs (k8 m) ja τ h) (ai js) (cL rs j0 low high L x y) H=.u (.t [.u Jc,.w [.u qr,.n (j)]]) H)∨
 ∃M O V,(∀j∈M,j∈js/\∃s,S[j]?=y0 s/\Td (wo n K T low) (wo n K T high) s u0)/\(∀j∈js,j∉M->∃s,S[j]?=y0 s/\Td (wo n K T low) (wo n K T high) s (y0 k9))/\M.e<=js.e/\Gq (Gr [5] k9) (λτ h=>execs (k8 m) ja τ h) (ai js) (cL rs j0 low high L x y) H=.j (cL rs j0 low high (L++M) O V) H
|[],L,x,y,_,_=>.w ⟨[],x,y,λ_ h=>absurd h Ag2,λ_ h=>absurd h Ag2,Ab0 _,by rw[Af0];rfl⟩
|j::js,L,x,y,J,hc=>by
  rw[Aa9]at hc;have jl:=J j Aa4;obtain⟨s,r⟩:∃s,S[j]?=y0 s:=⟨S[j],Aa1 jl⟩;obtain⟨wf,dp⟩:=A s<|Ac3 r;obtain⟨k,rfl⟩:=nk m 1<|Ab4 (Fk _ _) ‹_›;obtain⟨o,I,e1⟩:=xO k j low high g p.cs Q D r Y6 wf;have W:=qm (F:=(k8<|k+1)) (τ:=cL rs j0 low high L (si j) y) (i:=0) (f:=Yt) p.se rfl rfl;have tr:eval (k8<|k+1) (.bO (.aJ .A Yp Yt) Yq "truth" YI<|.c .v5 .L .N) (cL rs j0 low high L (si j) y) H=.j (.v<|aP o) H:=by generalize E.aJ _ _ _=X at W⊢;rw[eval,W,R.ab];simp only[Zt p.cs];rw[Da ⟨trivial,rfl⟩];simp![e1]
  have G:∀X,execs (k8<|k+1) (.j (.j 6<|.bO (.aJ .A Yp Yt) Yq "truth" YI<|.c .v5 .L .N) X) (cL rs j0 low high L (si j) y) H=execs (k8<|k+1) X (cL rs j0 low high L (si j)<|sv<|aP o) H:=fun X=>by generalize E.bO _ _ _ _ _=Z at tr⊢;rw[za (τ1:=cL rs j0 low high L (si j)<|sv<|aP o) (h1:=H)<|by simp![tr]]
  have i1:=lW o y9 H;have P:Gn (k8<|k+1) (.B .dI .v6<|.bl y9) (cL rs j0 low high L (si j)<|sv<|aP o) H=.j (o==y0 y9) H:=by simp![i1]
  have u:∀c,c.e+js.e<=1000->execs (k8<|k+1) ja (cL rs j0 low high L (si j) y) H=.j (cL rs j0 low high c (si j)<|sv<|aP o) H->Gq (Gr [5] k9) (λτ h=>execs (k8<|k+1) ja τ h) (ai<|j::js) (cL rs j0 low high L x y) H=Gq (Gr [5] k9) (λτ h=>execs (k8<|k+1) ja τ h) (ai js) (cL rs j0 low high c (si j)<|sv<|aP o) H:=λc _ e=>by rw[ai,Ab2,wb (τ1:=cL rs j0 low high L (si j) y) rfl e]
  rcases o with _|_|_
  .have b:execs (k8<|k+1) ja (cL rs j0 low high L (si j) y) H=.j (cL rs j0 low high (L++[j]) (si j)<|sv<|aP u0) H:=by
    unfold ja;rw[G,xa P];rw[za (τ1:=cL rs j0 low high (L++[j]) (si j)<|sv<|aP u0) (h1:=H)<|(Zo (h1:=H)<|by simp![aP,aj,Am7]).j ?_,execs];have Y:(ai L).e<bh:=by rw[Gf,Aa];lia
    rw[za (τ1:=cL rs j0 low high (L++[j]) (si j)<|sv<|aP u0) (h1:=H)<|by simp![Y,Os];simp only[cL,Ro],execs]
   rcases pA (j0:=j0) g A Q D p U js (L++[j]) (si j) (sv<|aP u0) (λi a=>J i<|Aa3 _ a) (by rw[Aa5];simp;lia)with⟨w,N,C,d,l,t⟩|⟨M,O,V,d,l,t,B⟩
   .exact .u ⟨w,N,Aa3 _ C,d,l,(u _ (by rw[Aa5];simp;lia) b).j t⟩
   .refine .w ⟨j::M,O,V,λi a=>?_,λi a v=>?_,by rw[Aa9,Aa9];exact Pv ‹_›,?_⟩
    .rcases Ab5.u a with rfl|a
     .exact⟨Aa4,s,r,I⟩
     .exact⟨Aa3 _ (d i a).1,(d i a).2⟩
    .rcases Ab5.u a with rfl|a
     .exact absurd Aa4 v
     .exact l i a λz=>v<|Aa3 _ z
    .rw[u _ (by rw[Aa5];simp;lia) b,B,Af6];rfl
  .refine .u ⟨j,s,Aa4,r,I,?_⟩;rw[ai,Ab2,Gq,show Gr [5] k9 (.n j) (cL rs j0 low high L x y)=y0 (cL rs j0 low high L (si j) y)from rfl];have b:execs (k8<|k+1) ja (cL rs j0 low high L (si j) y) H=.u (.t [.u Jc,.w [.u qr,.n j]]) H:=by unfold ja;rw[G];exact qg P<|Ja rfl<|by simp![]
   simp only[b]
  .have b:execs (k8<|k+1) ja (cL rs j0 low high L (si j) y) H=.j (cL rs j0 low high L (si j)<|sv<|aP<|y0 k9) H:=by unfold ja;rw[G,xa P,xa<|by simp![aP,aj],execs]
   rcases pA (j0:=j0) g A Q D p U js L (si j) (sv<|aP<|y0 k9) (λi a=>J i<|Aa3 _ a)<|Ag ‹_›with⟨w,N,C,d,l,t⟩|⟨M,O,V,d,l,t,B⟩
   .exact .u ⟨w,N,Aa3 _ C,d,l,(u _ (Ag ‹_›) b).j t⟩
   .refine .w ⟨M,O,V,λi a=>⟨Aa3 _ (d i a).1,(d i a).2⟩,λi a v=>?_,by rw[Aa9];exact Ak9 ‹_›,(u _ (Ag ‹_›) b).j B⟩;rcases Ab5.u a with rfl|a
    .exact⟨s,r,I⟩
    .exact l i a v
end
def vW(d:eval F a τ h=.j (.r r) h)(f:h[r]?=y0 (.j c fs))(e:(fs.u m).x=k9)(b:Gg F es τ h=.j ws h):eval F (.bO a c m q es) τ h=F.call q (.r r::ws.j W.arg) h:=by rw[eval,d,R.ab];simp only[Zt f];rw[Da ⟨trivial,e⟩,b,R.ab]
def C1(b:eval F a τ h=.j (.r r) h)(g:h[r]?=y0 (.j c fs))(e:fs.u f=y0 d):eval F (.aJ a c f) τ h=.j (.v d) h:=by rw[eval,b,R.ab];simp only[Zt g];rw[Da trivial,e];rfl
def As(l)(h):Gp .j (.u<|ai l) (.j []) h=y0 (l==[]):=by
 cases l with
|nil=>rfl
|cons x a=>
  show(if Kh ((W.bor<|ai<|x::a).dd h) ((W.own []).dd h)then y0 (cD ((W.bor<|ai<|x::a).dd h)<|(W.own []).dd h)else u0)=_;rw[W.lK,W.gG,GJ<|Jy<|x::a];have e:Kh (.x<|ai<|x::a) (.x<|GT h [])=true:=by have:=rf<|x::a;have:=Jy<|x::a;simp only[Kh,this,GT,dep,Ae7,Ae5,L2];exact .u Y6
  rw[Da e];rfl
section
variable{n q:Nat}{K T:List Tx}{S:List Sy}{J:List Nat}{low high:Nat}
theorem Tr.mono (g:bG n K T)(f:∀s∈S,s.y (K++T)/\s.j<=q)(h:Tr n K T S low high j)(i:Sub low low')(d:Sub high' high)(b:Sub low' high')(c:low'<2^bN n K T)(k:high'<2^bN n K T):Tr n K T S low' high' j:=by obtain⟨s,e,t⟩:=h;obtain⟨r,a,_⟩:=xO _ j low' high' (ro:=0) (h:=[Cell.obj Yq _]) g rfl c k e (Ab0 _) (f s<|List.mem_of_getElem? e).1;have:=Td.mono (mX i) (mX d) (mX b) s _ _ k9 t a rfl;exact⟨s,e,this▸a⟩
def Sub.fj (a):Sub a a:=λ_ h=>h
def Sub.tr (h:Sub a b)(k:Sub b c):Sub a c:=λi z=>k i<|h i z
def i8.of (g:Sub low low')(e:Sub high' high)(h:∃c,Sub low' c/\Sub c high'/\c<2^bN n K T/\a=.w [.u qD,(wo n K T c).u]/\∀j∈J,Tr n K T S c c j):i8 n K T S J d low high a:=by obtain⟨c,i,f,b⟩:=h;exact .u ⟨c,g.tr i,f.tr e,b⟩
def ri(w:Wo):Gc w.u=true:=by simp[Wo.aE,Jy,Yb]
def CV(a b):Sub a<|a|||b:=λk z=>by rw[Af8,z];rfl
def Bt(a b):Sub (a-(a&&&b)) a:=λk z=>by rw[Wf.aQ,Aa2]at z;exact z.1
def OO(h:a.j i=k9):Sub (2^i) a:=λk z=>by
 rw[Ae6]at z
 rwa [←Do z]
def uV(i:Nat)(h:i<=1000):Gj .shl (1:Int) (i:Int)=y0 ((2^i:Nat):Int):=by
 have:=ZW 1 i Y5<|Y8
 rwa [Nat.one_mul]at this
noncomputable abbrev ib(rs:Nat)(js:List Nat)(b a i:Nat)(y z u v w:Option W):Sl:=[y0 (.r rs),y0 (.u<|ai js),si b,si a,si i,si (2^i),y,z,u,v,w]
def BD(g:bG n K T)(P:∀s∈S,s.y (K++T)/\s.j<=q)(hJ:∀j∈J,j<S.e)(v:Se n K T S rs rc H)(IH:∀(u r:Nat)(l:List Nat),oc n K T u r<oc n K T low high->Sub u r->u<2^bN n K T->r<2^bN n K T->(∀j∈l,j∈J)->l.e<=500->(∀j∈J,j∉l->Tr n K T S u r j)->∃a,Gc a=true/\i8 n K T S J k u r a/\call prog (m+2) Ys [.r rs,.u (ai l),.i u,.i r] H=.j (.v a) H)(hk:k<90)(sub:Sub low high)(C:low<2^bN n K T)(Q:high<2^bN n K T)(w:∀j∈js,j∈J)(l5:js.e<=500)(tr:∀j∈J,j∉js->Tr n K T S low high j)(hm:k+q+18<=m):∃a,Gc a=true/\i8 n K T S J (k+1) low high a/\call prog (m+4) Ys [.r rs,.u (ai js),.i low,.i high] H=.j (.v a) H:=by
 have run:=λ(a:D)(e:execs (k8<|m+3) aM.j [y0 (.r rs),y0 (.u<|ai js),si low,si high,u0,u0,u0] H=.u (.v a) H)=>(show call prog (m+4) Ys [.r rs,.u (ai js),.i low,.i high] H=.j (.v a) H from by rw[Gb (d:=aM) rfl _ _ _ rfl];show Gx _ (execs _ _ [y0 (.r rs),y0 (.u<|ai js),si low,si high,u0,u0,u0] H)=_;rw[e,Ga _ _ _ rfl]);simp only[aM]at run;have st:∀X,execs (k8 _) (.j (.set 4<|.x .u)<|.j (.for [5] k9 (.j .C) ja) X) [y0 _,y0 _,si low,si high,u0,u0,u0] H=(Gq (Gr [5] k9) (λU h=>execs (k8<|m+3) ja U h) (ai js) (cL rs js low high [] u0 u0) H).seq λU h=>execs (k8<|m+3) X U h:=λX=>by rw[za (τ1:=cL rs js low high [] u0 u0) (h1:=H)<|by simp![];rfl,execs,exec,show Gv (k8<|m+3) (.j .C) (cL rs js low high [] u0 u0) H=.j (ai js) H by simp![],R.ay]
 rcases pA (j0:=js) g P C Q v (m:=m+3) Y6 js [] u0 u0 (λj z=>hJ j<|w j z)<|by simp;exact Y8 with⟨j,s,h0,h1,h2,h3⟩|⟨l,x',y',h1,h2,h3,h4⟩
 .refine⟨_,by simp,.w ⟨_,rfl,.brk<|w j h0,by simp,.brk h1 h2⟩,run _ ?_⟩;rw[st,h3,O.cS]
 rw[Af3]at h4;have L:∀j∈J,j∉l->Tr n K T S low high j:=λj w hn=>by
  by_cases I:j∈js
  .exact h2 j I hn
  .exact tr j w I
 by_cases nil:l=[]
 .subst nil;refine⟨_,by simp[ri],.u ⟨low,Sub.fj low,sub,C,rfl,λj w=>(L j w Ag2).mono g P (Sub.fj low) sub (Sub.fj low) C C⟩,run _ ?_⟩
  .rw[st,h4,O.bR];have f1:=qm (F:=(k8<|m+3)) (τ:=cL rs js low high [] x' y') (i:=0) (f:=Yt) v.se rfl rfl;have f2:=vW (m:=YV) (q:=Yz) (es:=.j .L .u) (ws:=[.i low]) f1 v.cs rfl (by simp![]);have f3:=rH (m-3) low g v.cs C;rw[show m-3+6=m+3 by lia]at f3;have f3:=f2.j f3;generalize E.bO _ _ _ _ _=X at f3⊢;exact qg (by simp![show Gp .j (.u []) (.j []) H=y0 k9 from As [] H,aj])<|Ja rfl<|by simp![f3]
 have ns':∀j∈l,j∈J:=λj z=>w j (h1 j z).1;have op:∀j∈l,∃s,S[j]?=y0 s/\iF n K T low high s≠0:=λj w=>by obtain⟨_,s,e,t⟩:=h1 j w;exact⟨s,e,Mx g sub (P s<|Ac3 e).1 t⟩
 have l5':l.e<=500:=Ab4 ‹_› ‹_›;obtain⟨i,I,hb,lb,ec⟩:=L7 m g v Q nil (Y8) op;have b6:bN n K T<=6:=g.b6;have M:2^i<2^bN n K T:=Aq3 Y5 I;have W:low|||2^i<2^bN n K T:=Am5 C M
 have hh1:high-(high&&&2^i)<2^bN n K T:=Ai9 (Ar2 _ _) Q;have su1:Sub (low|||2^i) high:=B1 sub<|OO hb;have su2:Sub low<|high-(high&&&2^i):=CU sub lb;obtain⟨V,n1,A1,c1⟩:=IH (low|||2^i) high l (P6 I hb lb) su1 W Q ns' l5' λj w hn=>(L j w hn).mono g P (CV _ _) (Sub.fj _) su1 W Q;obtain⟨a2,n2,A2,c2⟩:=IH low (high-(high&&&2^i)) l (Mq I hb lb) su2 C hh1 ns' l5' λj w hn=>(L j w hn).mono g P (Sub.fj _) (Bt _ _) su2 C hh1;have G:∀a,call prog (m+3) YG [.r rs,.u (ai l),.i low,.i high] H=.j (.v a) H->call prog (m+4) Ys [.r rs,.u (ai js),.i low,.i high] H=.j (.v a) H:=fun a e=>run a (by rw[st,h4,O.bR,xa<|by simp![As,beq_eq_false_iff_ne.w nil,aj]];have f2:=(WC (F:=(k8<|m+3)) (τ:=cL rs js low high l x' y') (i:=0) (m:="told_of_halves") (q:=YG) (es:=.j .v4<|.b .L .N) (ws:=[.u (ai l),.i low,.i high]) v.se rfl rfl<|by simp![]).j e;exact qa<|Ja rfl f2);have o:=λ(a:D)(e:execs (k8<|m+2) aG.j [y0 (.r rs),y0 (.u<|ai l),si low,si high,u0,u0,u0,u0,u0,u0,u0] H=.u (.v a) H)=>G a (show call prog (m+3) YG [.r rs,.u (ai l),.i low,.i high] H=.j (.v a) H from by rw[Gb (d:=aG) rfl _ _ _ rfl];show Gx _ (execs _ _ [y0 (.r rs),y0 (.u<|ai l),si low,si high,u0,u0,u0,u0,u0,u0,u0] H)=_;rw[e,Ga _ _ _ rfl]);clear run G st h4;simp only[aG]at o;have g1:eval (k8<|m+2) (.bO .A Yp "chosen_place" YY<|.c .C .L .N) [some (.r rs),some (.u<|ai l),si low,si high,none,none,none,none,none,none,none] H=.j (.i i) H:=(WC (ws:=[.u (ai l),.i low,.i high]) v.se rfl rfl<|by simp![]).j ec;have g2:eval (k8<|m+2) (.bO .A Yp YZ Ys<|.c .C (.y .bor .L .v5) .N) (ib rs l low high i none none none none none) H=.j (.v V) H:=(WC (ws:=[.u (ai l),.i (low|||2^i),.i high]) v.se rfl rfl<|by simp![Zn,xn,aj]).j c1;have g3:eval (k8<|m+2) (.bO .A Yp YZ Ys<|.c .C .L<|.y .w .N<|.inv .v5) (ib rs l low high i (sv V) none none none none) H=.j (.v a2) H:=(WC (ws:=[.u (ai l),.i low,.i (high-(high&&&2^i))]) v.se rfl rfl<|by simp![xc,JK,aj]).j c2;generalize E.bO _ _ _ _ _=X1 at g1 o;generalize E.bO _ _ _ _ _=X2 at g2 o;generalize E.bO _ _ _ _ _=X3 at g3 o;have B:∀X,execs (k8<|m+2) (.j (.j 4 X1)<|.j (.j 5<|.y .shl (.p 1) .v4)<|.j (.j 6 X2) X) [y0 (.r rs),y0 (.u<|ai l),si low,si high,u0,u0,u0,u0,u0,u0,u0] H=execs (k8<|m+2) X (ib rs l low high i (sv V) u0 u0 u0 u0) H:=λX=>by
  have e1:=uV i Y6
  rw[za (τ1:=[y0 (.r rs),y0 (.u<|ai l),si low,si high,si i,u0,u0,u0,u0,u0,u0]) (h1:=H)<|by simp![g1],
   za (τ1:=ib rs l low high i u0 u0 u0 u0 u0) (h1:=H)<|by simp![e1,aj],za (τ1:=ib rs l low high i (sv V) u0 u0 u0 u0) (h1:=H)<|by simp![g2]]
 rcases A1 with wd|⟨A,rfl,N⟩
 .refine⟨V,n1,i8.of (CV _ _) (Sub.fj _) wd,o _ ?_⟩;obtain⟨c,_,_,_,rfl,_⟩:=wd;rw[B];generalize E.bO _ _ _ _ _=Y;exact qg (by simp![ae,we,zb,aj];rfl) rfl
 obtain⟨b,Wb,Wl⟩:=walk g P hJ N.pp k N.dp low high C Q;have g4:eval (k8<|m+2) (.bO (.aJ .A Yp Yt) Yq "is_shown" Yv<|.c (.G .v6<|.p 1) .L .N) (ib rs l low high i (some<|.t [.u Jc,A]) none none none none) H=.j (.b b) H:=(vW (ws:=[.v A,.i low,.i high]) (qm v.se rfl rfl) v.cs rfl<|by simp![ae,show aW [D.str Jc,A] 1=some A from rfl,aj]).j<|Wb (m+2) rc H Y6 v.cs;generalize E.bO _ _ _ _ _=Y at g4 o;have tt:Gn (k8<|m+2) (.or (.B .j (.G .v6<|.p 0)<|.u kh) Y) (ib rs l low high i (y0<|.t [.u Jc,A]) u0 u0 u0 u0) H=.j b H:=by simp![ae,we,zb,aj,show(Jc==kh)=y9 from rfl,g4]
 cases b with
|true=>refine⟨_,n1,.w ⟨A,rfl,GP.up ⟨N.pp,N.dp,Wl rfl⟩<|Af1 k⟩,o _ ?_⟩;rw[B];exact qg tt rfl
|false=>
  rcases A2 with wd|⟨M,rfl,P2⟩
  .refine⟨a2,n2,i8.of (Sub.fj _) (Bt _ _) wd,o _ ?_⟩;obtain⟨c,_,_,_,rfl,_⟩:=wd;rw[B,xa tt,za (τ1:=ib rs l low high i (y0<|.t [.u Jc,A]) (y0<|.t [.u qD,(wo n K T c).u]) u0 u0 u0) (h1:=H)<|by simp![g3]];exact qg (by simp![ae,we,zb,aj];rfl) rfl
  .obtain⟨⟨t,x,y⟩,hp⟩:∃p,(b4 n K T)[i]?=y0 p:=⟨_,Aa1<|by rwa [wG]⟩;refine⟨.w [.u Jc,.w [.u jf,.u t,.n x,.n y,A,M]],by simp[N.pp.nr,P2.pp.nr],.w ⟨_,rfl,GP.dH hp hb lb N P2⟩,o _ ?_⟩;have at1:aW ((b4 n K T).j b3) (i:Int)=y0 (.w [.u t,.n x,.n y]):=by rw[ze _ _<|by rw[Aa,wG];exact I,Ab9,hp];rfl
   have g5:eval (k8<|m+2) (.aJ (.aJ .A Yp Yt) Yq YJ) (ib rs l low high i (some<|.t [.u Jc,A]) (some<|.t [.u Jc,M]) none none none) H=.j (.l<|(b4 n K T).j b3) H:=C1 (qm v.se rfl rfl) v.cs rfl;generalize E.aJ _ _ _=Z at g5⊢;rw[B,xa tt,za (τ1:=ib rs l low high i (y0<|.t [.u Jc,A]) (y0<|.t [.u Jc,M]) u0 u0 u0) (h1:=H)<|by simp![g3],xa<|by simp![ae,we,zb,aj,show(Jc==kh)=y9 from rfl]];refine(za<|by simp![g5,Js,at1,aj];rfl).j ?_;exact qa<|Ja rfl<|by simp![ae,show aW [D.str Jc,A] 1=y0 A from rfl,show aW [D.str Jc,M] 1=y0 M from rfl,aj]
theorem Cu(g:bG n K T)(h:∀s∈S,s.y (K++T)/\s.j<=q)(t:∀j∈J,j<S.e)(i:Se n K T S rs rc H):∀k low high m js,oc n K T low high<=k->k<80->Sub low high->low<2^bN n K T->high<2^bN n K T->(∀j∈js,j∈J)->js.e<=500->(∀j∈J,j∉js->Tr n K T S low high j)->2*k+q+22<=m->∃a,Gc a=k9/\i8 n K T S J (k+1) low high a/\call prog m Ys [.r rs,.u (ai js),.i low,.i high] H=.j (.v a) H
|0,low,high,m,js,u,y,sub,r,o,p,f,tr,v=>by obtain⟨m,rfl⟩:∃x,m=x+4:=⟨m-4,by lia⟩;exact BD g h t i (λ_ _ _ z=>absurd z Y6) (Fk _ _) sub r o p f tr Y6
|k+1,low,high,m,js,u,y,sub,r,o,p,f,tr,v=>by obtain⟨m,rfl⟩:∃x,m=x+4:=⟨m-4,by lia⟩;exact BD g h t i (λA w l z B a b c d e=>Cu g h t i k A w (m+2) l Y6 (Ag ‹_›) B a b c d e Y6) (Y8) sub r o p f tr Y6
end
section
variable{n q:Nat}{K T:List Tx}{S:List Sy}
def vb(h:w<2^b):Sub w<|2^b-1:=λk z=>by rw[Ag9,L2];refine Nat.lt_of_not_le λl=>?_;rw[Ak3<|Ab3 h<|Ad6 Y5 l]at z;cases z
def WV(w):Sub 0 w:=λk z=>by rw[Ag4]at z;cases z
def vP(g:bG n K T)(h:∀s∈S,s.y (K++T)/\s.j<=q)(p:∀j∈J,j<S.e)(r:J.e<=100)(b:Se n K T S rs rc H)(t:q+34<=m):∃a,Gc a=k9/\i8 n K T S J 7 0 (2^bN n K T-1) a/\call prog (m+1) Yw [.r rs,.u (ai J)] H=.j (.v a) H:=by have k:=Ae<|bN n K T;obtain⟨a,o,A,e⟩:=Cu g h p b 6 0 (2^bN n K T-1) m J (Ab4 MH<|g.b6) Y5 (WV _) k (TH ‹_›<|Af5 _) (λj c=>c) (Y8) (λj c f=>absurd c f) Y6;refine⟨a,o,A,?_⟩;rw[Gb rfl _ _ _ rfl];show Gx _ (execs _ _ [y0 (.r rs),y0 (.u<|ai J)] H)=_;simp only[Qg];have d:eval (k8 m) (.aJ (.aJ .A Yp Yt) Yq "whole") [some (.r rs),some (.u<|ai J)] H=.j (.i<|2^bN n K T-1) H:=C1 (qm b.se rfl rfl) b.cs rfl;generalize E.aJ _ _ _=Z at d⊢;have l:=WC (F:=(k8 m)) (τ:=[y0 (.r rs),y0 (.u<|ai J)]) (i:=0) (m:=YZ) (q:=Ys) (es:=.j .C<|.j (.p 0)<|.j Z .u) b.se rfl rfl (by simp![d];rfl);rw[qa<|Ja rfl<|l.j e,Ga _ _ _ rfl]
def zE(xs ys)(h)(a:xs.e+ys.e<=100):GU .j (.t xs) (.t ys) h=.j (.t<|xs++ys) h:=by rw[uX,Da<|by rw[Gf];exact Y8]
def RP(a:Gc d=k9)(b:Gy h=k9):Gx h.e (.u (.v d)<|h++h')=.j (.v d) h:=by have e:(h++h').A h.e=h:=TZ rfl;obtain⟨x,e1,e2⟩:=nc (n:=h.e) (h:=h++h') a Y7 (by rwa [e]);rw[e1,e2,e]
end
section
variable{n q:Nat}{K T:List Tx}{S:List Sy}
abbrev kL(K T:List Tx)(n:Nat)(w:D)(b c a:Option W):Sl:=[sv (wD K T),si n,sv w,b,c,a]
theorem C5(a:n<=4)(d:i=0/\e=n\/i=1/\e=n*n):∀l x,(∀y∈l,y<2^e)->∃j,Gq (Gr [5] k9) (λτ h=>execs (k8<|m+1) Jj τ h) (ai l) (kL K T n w (si i) x4 x) h=.j (kL K T n w (si i) x4 j) h
|[],x,_=>⟨x,rfl⟩
|y::l,x,f=>by
  obtain⟨j,e2⟩:=C5 a d l (si y) λz o=>f z<|Aa3 _ o;refine⟨j,?_⟩;have q:=Ag8 a a;rw[ai,Ab2,wb (τ1:=kL K T n w (si i) x4<|si y) rfl ?_]
  .exact e2
  have e1:=xv m (.n y) h rfl;have c:=je n n<|Ai9 ‹_› Y5;have g:=uV e Y6;have b:eval (k8<|m+1) (.G (.x<|.b .C<|.y .x .C .C) .N) (kL K T n w (si i) x4<|si y) h=.j (.i e) h:=by
   rcases d with⟨rfl,rfl⟩|⟨rfl,rfl⟩
   .simp![c,aj];rfl
   .simp![c,aj];rfl
  have k:Gp .le (.v<|.p 0) (.i y) h=y0 true:=by show y0 (u9<|0<=y)=_;rw[FB<|Ag0 _]
  have p:Gp .lt (.i y) (.i<|2^e) h=y0 true:=by show y0 (u9<|y<((2^e:Nat):Int))=_;rw[FB<|Int.ofNat_lt.w<|f y Aa4]
  unfold Jj;generalize E.ix _ _=X at b⊢;rw[xa<|by simp![e1,aj,qx,k,b,g,p],execs]
def AR{m i e:Nat}(f:n<=4)(b:i=0/\e=n\/i=1/\e=n*n)(l)(N:List Tx)(g:∀y∈l,y<2^e)(o:aW [x,y,z] (1+(i:Int))=y0 (.w<|ai l))(k:aW [D.tup (K.j .u),.w (T.j .u)] (i:Int)=y0 (.w<|N.j .u))(d:l.e=N.e):∃j L,execs (k8<|m+1) Jq (kL K T n (.w [x,y,z]) (si i) x4 x5) h=.j (kL K T n (.w [x,y,z]) (si i) j L) h:=by
 obtain⟨c,e2⟩:=C5 f b l x5 g;refine⟨y0<|.t<|ai l,c,?_⟩;refine(za<|by simp![Qc,ae,o,aj];rfl).j ?_;rw[xa<|by
  have a:cC .A (.t<|ai l)=y0 true:=rfl;have nn:Gp .w (.i l.e) (.i N.e) h=y0 false:=by rw[d];show y0 (!(decide _))=_;rw[FB rfl];rfl
  simp![a,Zd,Aa,ae,k,nn]]
 rw[za<|by exact e2,execs]
def BX(g:bG n K T)(m c)(h):call prog (m+2) "_law_is_world" [.v (wD K T),.i n,.v (wo n K T c).u] h=.j (.b true) h:=by
 have ok:=(g.wo c).wl;obtain⟨f,i,e1⟩:=AR g.n4 (.u ⟨rfl,rfl⟩) (wo n K T c).ks K ok.bk rfl rfl ok.lk;obtain⟨a2,j,e2⟩:=AR g.n4 (.w ⟨rfl,rfl⟩) (wo n K T c).ts T ok.bt rfl rfl ok.lt;show Gx _ (execs _ _ (kL K T n (.w [.n n,.w _,.w _]) u0 u0 u0) h)=_;simp only[Jw];rw[xa<|by
  have a:cC .A (.t [.n n,.w (ai (wo n K T c).ks),.w (ai (wo n K T c).ts)])=y0 true:=rfl;have e:Gp .w (.i<|3) (.v<|.p 3) h=y0 false:=rfl;have d:Gp .w (.i n) (.i n) h=y0 false:=by show y0 (!(decide _))=_;rw[FB rfl];rfl
  simp![a,aj,Zd,Aa9,Ae4,e,ae,O5,d,(xv m (.n n) h rfl),qx]]
 rw[za<|by rw[exec,show Gv (k8 _) _ _ h=.j [.n (0),.n (1)] h by(have b:-(fk)<=2/\2<fk:=by rw[GL];exact by decide);simp![b,Th,Os];rfl,R.ay,wb rfl e1,wb rfl e2,ZM],qa rfl,Ga _ _ _ rfl]
end
def Wz(n:Nat)(K T:List Tx)(S:List Sy)(c:Nat)(p:D)(b a:Nat):Prop:=∀f r h,Dc (wo n K T b) (wo n K T a) f r h->Gy h=true->∀m,c<=m->call prog m YL [.v (bq K T S),.i n,.r r,.v p] h=.j (.b true) h
theorem vN:∀{J},j∈J->∃k,Kp (.n j) (ai J)=y0 k/\J[k]?=y0 j
|[],h=>absurd h Ag2
|i::J,h=>by
  show∃k,(if cD (.n i) (.n j)=k9 then y0 0 else(Kp (.n j)<|ai J).j (·+1))=y0 k/\_;by_cases q:i=j
  .subst q;exact⟨0,by rw[Da Y7],rfl⟩
  .obtain⟨k,e1,e2⟩:=vN<|(Ab5.u h).x<|Ne.symm q;refine⟨k+1,?_,e2⟩;rw[FM<|by simp;lia,e1];rfl
section
variable{n q:Nat}{K T:List Tx}{S:List Sy}{J:List Nat}
structure Pa(n q:Nat)(K T:List Tx)(S:List Sy)(J:List Nat)(p:D)(f:Nat->Bool):Prop where
 sub:∀j,f j=k9->j∈J
 pp:∀J':List Nat,(∀j,f j=k9->j∈J')->Pp n K T J' p
 us:∀m h j,dep p<=m->call prog (m+1) Y2 [.v p,.i j] h=.j (.b<|f j) h
 snd:∀low high,Sh n K T S p low high->∀w,Sub low w->Sub w high->∃j s,f j=k9/\S[j]?=y0 s/\∀o,Td (wo n K T w) (wo n K T w) s o->o=y0 y9
 sR:∀J':List Nat,(∀j,f j=true->j∈J')->J'.e<=100->∃p',Gc p'=true/\(∀m h r,h[r]?=some (.x<|ai J')->dep p<=m->call prog (m+1) YM [.v p,.r r] h=.j (.v p') h)/\∀S':List Sy,(∀k j:Nat,J'[k]?=some j->S'[k]?=S[j]?)->∀low high,Sh n K T S p low high->Wz n K T S' (dep p+q+12) p' low high
def NZ(m)(h)(j i):call prog (m+1) Y2 [.t [.u qr,.n j],.i i] h=.j (.b<|decide<|j=i) h:=by rw[Gb rfl _ _ _ rfl];simp only[rM];rw[qa (w:=.b<|u9<|j=i) (h1:=h)<|(Zo<|by simp![aj];rfl).j<|qa<|Ja rfl<|by simp![ae,zh,(Qh j i h)],Ga _ _ _ rfl]
def P4(m)(h)(dn da db p1 p2)(i)(b1 b2)(a:call prog m Y2 [.v p1,.i i] h=.j (.b b1) h)(b:call prog m Y2 [.v p2,.i i] h=.j (.b b2) h):call prog (m+1) Y2 [.t [.u jf,dn,da,db,p1,p2],.i i] h=.j (.b<|b1||b2) h:=by rw[Gb rfl _ _ _ rfl];simp only[rM];have a4:aW [D.str jf,dn,da,db,p1,p2] 4=y0 p1:=rfl;have a5:aW [D.str jf,dn,da,db,p1,p2] 5=y0 p2:=rfl;rw[xa<|by simp![aj];rfl,qa (w:=.b<|b1||b2)<|Ja rfl<|by cases b1<;>simp![ae,a4,a5,aj,a,b]<;>rfl,Ga _ _ _ rfl]
def Pq(m)(a:h[r]?=y0 (.x<|ai J))(c:J.e<=100)(e:Kp (.n j) (ai J)=y0 k):call prog (m+1) YM [.t [.u qr,.n j],.r r] h=.j (.t [.u qr,.n k]) h:=by
 have ix:nq .bM (.r r) [.i j] h=aj (.n k) h:=by
  have d:(W.r r).dd h=.x (ai J):=by show res h (.j r)=_;rw[res,a]
  have z:Ks (.i j) (.r r) h=y0 k:=by unfold Ks;rw[d];dsimp only;rw[Da<|by have:=rf J;have:=Jy J;rw[this];simp[Gf];lia];exact e
  show(R.of h<|Ks (.i j) (.r r) h).u _=_;rw[z];rfl
 have b:nF .bM (.r r) h=true:=by
  show(match h[r]? with
|some (Cell.lst xs)=>y0 xs
|_=>u0).w=k9
  rw[a];rfl
 rw[Gb rfl _ _ _ rfl];simp only[Ju];rw[qa (w:=.t [.u qr,.n k]) (h1:=h)<|(Zo<|by simp![ae,we,zb,aj];rfl).j<|qa<|Ja rfl<|by simp![ae,zh,aj,b,Os,ix],Ga _ _ _ rfl]
def O6(m)(b:call prog m YM [.v p1,.r r] h=.j (.v q1) h)(a:call prog m YM [.v p2,.r r] h=.j (.v q2) h):call prog (m+1) YM [.t [.u jf,dn,da,db,p1,p2],.r r] h=.j (.t [.u jf,dn,da,db,q1,q2]) h:=by rw[Gb rfl _ _ _ rfl];simp only[Ju];have a4:aW [D.str jf,dn,da,db,p1,p2] 4=y0 p1:=rfl;have a5:aW [D.str jf,dn,da,db,p1,p2] 5=y0 p2:=rfl;have c:fG (.t [.u jf,dn,da,db,p1,p2]) u0 (y0 4) h=.j (.t [.u jf,dn,da,db]) h:=rfl;rw[xa<|by simp![aj];rfl,qa (w:=.t [.u jf,dn,da,db,q1,q2]) (h1:=h)<|Ja rfl<|by simp![ae,a4,a5,aj,c,b,a,(zE [.u jf,dn,da,db] [q1,q2] h Y7)],Ga _ _ _ rfl]
set_option tactic.hygienic true in
def nS(g:bG n K T)(hS:∀s∈S,s.y (K++T)/\s.j<=q)(hp:Pp n K T J p):∃f,Pa n q K T S J p f:=by
 induction hp with
|@brk j jl=>
  refine⟨λi=>u9<|j=i,λi z=>Do z▸jl,λA h=>.brk<|h j<|FB rfl,λm h i _=>NZ m h j i,λl c z w I F=>?_,λA u H=>?_⟩
  .cases z with
|brk G W=>exact⟨j,_,FB rfl,G,λo ho=>Td.mono (mX I) (mX F) (Le.refl _) _ _ o y9 W ho rfl⟩
  .obtain⟨k,e1,e2⟩:=vN<|u j<|FB rfl;refine⟨.w [.u qr,.n k],rfl,λm h r E _=>Pq m E H e1,λX v l c z f r h P L m B=>?_⟩;cases z with
 |brk G W=>rename_i s;obtain⟨wf,dp⟩:=hS s<|Ac3 G;obtain⟨k',rfl⟩:=nk m 2<|Ab4 (Fk _ _) ‹_›;obtain⟨o',R,e⟩:=uD P s (k'+1) Y6 wf;rw[R.uniq W]at e;exact Rl k' r ((v k j e2).j G) e
|@dH i x y t Q Y hi _ _ Z O=>
  obtain⟨f1,D⟩:=Z;obtain⟨f2,C⟩:=O;have dd:dep (.w [.u jf,.u t,.n x,.n y,Q,Y])=max (dep Q) (dep Y)+1:=by simp[GN]
  refine⟨λj=>f1 j||f2 j,λj z=>?_,λA h=>.dH hi (D.pp A λj z=>h j<|by rw[z];rfl)<|C.pp A λj z=>h j<|by rw[z,Al6],λm h j B=>?_,λl c z w I F=>?_,λA u H=>?_⟩
  .rw[Ae5]at z;exact z.j (D.sub j)<|C.sub j
  .rw[dd]at B;obtain⟨m,rfl⟩:=nk m 1<|Ab4 (Fk _ _) ‹_›;exact P4 (m+1) h _ _ _ Q Y j _ _ (D.us m h j Y6)<|C.us m h j Y6
  .cases z with
|dH d U lb V N=>
    rename_i i';cases wi:w.j i' with
|true=>
     obtain⟨j,s,a,b⟩:=D.snd _ _ V w (B1 I λk hk=>by
      rw[Ae6,L2]at hk
      rwa [←hk]) F
     exact⟨j,s,by rw[a];rfl,b⟩
|false=>obtain⟨j,s,a,b⟩:=C.snd _ _ N w I<|CU F wi;exact⟨j,s,by rw[a,Al6],b⟩
  .obtain⟨q1,n1,r1,l1⟩:=D.sR A (λj z=>u j<|by rw[z];rfl) H;obtain⟨q2,n2,r2,l2⟩:=C.sR A (λj z=>u j<|by rw[z,Al6]) H;refine⟨.w [.u jf,.u t,.n x,.n y,q1,q2],by simp[n1,n2],λm h r E B=>?_,λX v l c z f r h P L m B=>?_⟩
   .rw[dd]at B;obtain⟨m,rfl⟩:=nk m 1<|Ab4 (Fk _ _) ‹_›;exact O6 (m+1) (r1 m h r E Y6)<|r2 m h r E Y6
   .cases z with
|dH d U lb V N=>
     rw[dd]at B;obtain⟨-,ht,ha,M⟩:=zm g d l;obtain⟨c1,c2⟩:=P.dH g d U lb;have NN:(K++T).e<=100:=by rw[Aa5];have:=g.k4;have:=g.t4;lia
     obtain⟨k,rfl⟩:=nk m 3<|Ab4 (Fk _ _) ‹_›;exact L3 (k+1) r (Rg k P.ad g.n4 ht NN ha M c1 c2) Y7 Y7 L ((l1 X v _ _ V _ _ _<|P.yes g d (h':=h++[.u (aR (K++T)<|XZ f t ((f t).1|||2^(x*n+y),(f t).2)),.u (aR (K++T)<|XZ f t ((f t).1,(f t).2-2^(x*n+y)))]) Y7) (uh L _ _) _ Y6)<|(l2 X v _ _ N _ _ _<|P.no g d U (r':=h.e+1) (h':=h++[.u (aR (K++T)<|XZ f t ((f t).1|||2^(x*n+y),(f t).2)),.u (aR (K++T)<|XZ f t ((f t).1,(f t).2-2^(x*n+y)))]) Y7) (uh L _ _) _ Y6
end
theorem Xv:∀ds:List D,(∀d∈ds,step d h=.j (o d) h)->Gu step ds h=.j (ds.B o) h
|[],_=>rfl
|d::ds,H=>by rw[Gu,H d Aa4];simp only[Xv ds λx a=>H x<|Aa3 _ a];rw[Ae2];cases o d<;>rfl
def Tn(F:Fx)(a:Bool)(c elt:E)(ax:List Nat)(τ:Sl)(h:AH)(o:D->Option D)(d:D):Prop:=∃b:Bool,(if a then Gn F c (sv d::ax.j λj=>Gi τ j) h else .j k9 h)=.j b h/\(b=y9->o d=u0)/\(b=k9->∃w y,eval F elt (sv d::ax.j λj=>Gi τ j) h=.j w h/\w.d=y0 y/\o d=y0 y)
def tn(H:Tn F k6 c elt ax τ h o d):R.bind (if k6 then Gn F c (sv d::ax.j λj=>Gi τ j) h else .j k9 h) (λb h=>match b with
|true=>(eval F elt (sv d::ax.j λj=>Gi τ j) h).u λy h=>(R.of h y.d).u λy h=>.j (y0 y) h
|false=>.j u0 h)=.j (o d) h:=by
 obtain⟨b,e1,e2,e⟩:=H;rw[e1,R.ab];cases b with
|false=>rw[e2 rfl]
|true=>obtain⟨w,y,g,a,f⟩:=e rfl;simp only[g,R.ab,a,R.ao,f]
def pJ(o)(f:Gm τ i=y0 (.r r))(a:h[r]?=y0 (.x ds))(j:ds.e<=1000)
 (e:∀d∈ds,Tn F k6 c elt ax τ h o d):
 eval F (.bD [0] k9 1 ax i k6 c elt) τ h=.j (.j<|ds.B o) h:=by
 have b:Gz h (Gm τ i)=y0 (r,ds):=by rw[f];simp only[Gz,a]
 rw[eval,b];dsimp only;rw[Da<|by rw[Gf];exact Y8,Xv ds λd g=>?_,R.ab]
 .unfold KL;rw[Da a]
 .unfold Ky;rw[Da a];exact tn<|e d g
def DZ(o)(a:Gm τ i=y0 (.u ds))(g:ds.e<=1000)
 (e:∀d∈ds,Tn F k6 c elt ax τ h o d):
 eval F (.bD [0] k9 1 ax i k6 c elt) τ h=.j (.j<|ds.B o) h:=by
 have b:Gz h (Gm τ i)=none:=by rw[a];rfl
 have rd:Gi τ i=y0 (.u ds):=by rw[Gi,a]
 rw[eval,b,rd];show(R.bind (R.ok ds h) _)=_;rw[R.ab,Da<|by rw[Gf];exact Y8,Xv ds λd f=>?_,R.ab];exact tn<|e d f
theorem B0(f):∀J:List Nat,(ai J).B (λd=>match d with|.p i=>if f i.j then y0 d else u0|_=>u0)=ai (J.L f)
|[]=>rfl
|j::J=>by rw[ai,Ab2,Ae2,Al1,show List.filterMap _ (J.j D.n)=_ from B0 f J];cases q:f j<;>simp[q,ai]
def vn{S:List Sy}(P:Pa n q K T S J0 p f)(s:J.e<=100)(m)(h)(w)(l:w=.u (ai J)\/∃r,w=.r r/\h[r]?=y0 (.x<|ai J))(k:dep p<=m):call prog (m+2) "used" [.v p,w] h=.j (.j<|ai<|J.L f) h:=by
 rw[Gb rfl _ _ _ rfl];show Gx _ (execs _ _ [sv p,y0 w] h)=_;simp only[vj,uH];rw[qa<|Ws rfl ?_,Gs _ _ _ rfl];have c:∀d∈ai J,∃b:Bool,(if true=true then Gn (k8<|m+1) (.j Y2<|.b .C .A) (sv d::[0].j fun j=>Gi [sv p,some w] j) h else .j true h)=.j b h/\(b=false->(match d with|.p i=>if f i.j then some d else none|_=>none)=none)/\(b=true->∃a y,eval (k8<|m+1) .A (sv d::[0].j fun j=>Gi [sv p,some w] j) h=.j a h/\a.d=some y/\(match d with|.p i=>if f i.j then some d else none|_=>none)=some y):=fun d g=>by
  obtain⟨j,o,rfl⟩:=Ab7.u g;refine⟨f j,?_,λz=>?_,λz=>⟨.i j,.n j,rfl,rfl,?_⟩⟩
  .rw[Da rfl];simp![show Gi [sv p,y0 w] 0=sv p from rfl,(P.us m h j k)]
  .show(if f (j:Int).j then _ else _)=_;rw[Ac5,z];rfl
  .show(if f (j:Int).j then _ else _)=_;rw[Ac5,z];rfl
 rw[←B0 f J];rcases l with rfl|⟨r,rfl,e⟩
 .exact DZ _ rfl (by rw[Aa];exact Y8) c
 .exact pJ _ rfl e (by rw[Aa];exact Y8) c
section
variable{n q:Nat}{K T:List Tx}{S:List Sy}
def dw(n:Nat)(K T:List Tx)(a:List Nat):List D:=a.j λc=>(wo n K T c).u
noncomputable def QX(J:List Nat)(w:Nat):List Nat:=J.A w++J.G (w+1)
structure Nv(n:Nat)(K T:List Tx)(S:List Sy)(J cs:List Nat)(p:D):Prop where
 sub:J.Sublist<|Aa6 S.e
 gp:GP n K T S J 7 p 0<|2^bN n K T-1
 le:cs.e<=J.e
 lt:∀c∈cs,c<2^bN n K T
 ks:∀i j c:Nat,cs[i]?=y0 c->j∈J->J[i]?≠y0 j->Tr n K T S c c j
def zY(h):J=J.A w++J[w]::J.G (w+1):=by rw[←Aj1 h,Ap3]
def qJ(h:j∈QX J w):j∈J:=(Ac6.u h).j Aq1 List.mem_of_mem_drop
def Nv.nd (v:Nv n K T S J cs p):J.M:=v.sub.nodup VP
def Nv.js (v:Nv n K T S J cs p):∀j∈J,j<S.e:=λj h=>Ab6.u<|v.sub.subset h
def Nv.aE (v:Nv n K T S J cs p)(a:cs.e<J.e)(d:c<2^bN n K T)(h:∀j∈QX J cs.e,Tr n K T S c c j):Nv n K T S J (cs++[c]) p where
 sub:=v.sub
 gp:=v.gp
 le:=by rw[Aa5];exact a
 lt:=λx f=>(Ac6.u f).j (v.lt x) λz=>by rw[Ac8.u z];exact d
 ks:=λi j x e b ne=>by
  rcases Ar4 i cs.e with q|q
  .rw[Ac2 q]at e;exact v.ks i j x e b ne
  .have:i=cs.e:=by have:=(Aa0.u e).1;rw[Aa5,Ai6]at this;lia
   subst this;rw[Ae3<|Ab0 _,Ap8]at e;cases e;refine h j ?_;rw[zY a,Ac6,Ab5]at b;rw[Aa1 a]at ne;rcases b with z|z|z
   .exact Ad1 _ z
   .exact absurd (by rw[z]) ne
   .exact Ab _ z
def Nv.nh (v:Nv n K T S J cs p)(w:cs.e<J.e)(g:GP n K T S (QX J cs.e) 7 p2 0<|2^bN n K T-1)(P:Pa n q K T S (QX J cs.e) p2 f):Nv n K T S (J.L f) cs p2/\(J.L f).e<J.e:=by
 have nd:=v.nd;have o:=zY w;have u:f J[cs.e]=false:=by
  cases z:f J[cs.e]with
|false=>rfl
|true=>
   exfalso;have z:=P.sub _ z;rw[o,Ai0,Ah2]at nd;rcases Ac6.u z with z|z
   .exact nd.2.2 _ z _ Aa4 rfl
   .exact nd.2.1.1 z
 have r:∀j∈J.A cs.e,f j=true:=λj l=>by
  obtain⟨i,h,rfl⟩:=Al3 l;rw[Ad2]at h;have d:i<cs.e:=by lia
  rw[List.getElem_take];cases z:f J[i]with
|true=>rfl
|false=>obtain⟨j,s,a,b,c⟩:=P.snd _ _ g.sh cs[i] (WV _)<|vb<|v.lt _<|Aj9 d;obtain⟨y,m,t⟩:=v.ks i j cs[i] (Aa1 d) (qJ<|P.sub j a) (λe=>by rw[Aa1 Y6]at e;cases e;rw[z]at a;cases a);rw[b]at m;cases m;cases c _ t
 have k:J.L f=J.A cs.e++(J.G<|cs.e+1).L f:=by
  conv=>lhs;rw[o,Aq9,List.filter_eq_self.w r,Um<|by rw[u];decide]
 have x:((J.G<|cs.e+1).L f).e<=J.e-(cs.e+1):=Ab4 (Ai7 _ _) (by rw[Ae9];exact Ab0 _);refine⟨⟨(Vc).trans v.sub,⟨P.pp _ λj z=>Ah3.w ⟨qJ<|P.sub j z,z⟩,g.dp,g.sh⟩,?_,v.lt,λi j c e l ne=>?_⟩,?_⟩
 .rw[k,Aa5,Ad2];lia
 .have h:=(Aa0.u e).1;refine v.ks i j c e (Ah3.u l).1 λz=>ne ?_;rw[k,Ac2<|by rw[Ad2];lia,Aj4 h];exact z
 .rw[k,Aa5,Ad2];lia
end
def kz(e:h[r]?=y0 (.x xs)):dY .w [.r r] h=aj (.n xs.e) h:=by
 show(R.of h<|match h[r]? with
|some (Cell.lst xs)=>y0 xs
|_=>u0).u _=_
 rw[e];rfl
def vv(e:h[r]?=y0 (.x xs))(lo hi):fG (.r r) lo hi h=.j (.j<|cut xs lo hi) h:=by
 show(match(match h[r]? with
|some (Cell.lst xs)=>y0 xs
|_=>u0)with
|some xs=>R.ok (W.own<|cut xs lo hi) h
|none=>.fail)=_
 rw[e]
def O7(a:c τ h=.j k9 h)(b:bd τ h=.j τ2 h2):GA c bd (f+1) τ h=GA c bd f τ2 h2:=by rw[GA,a,R.ay];simp only[b]
def Co(a:c τ h=.j y9 h):GA c bd (f+1) τ h=.j τ h:=by rw[GA,a,R.ay]
def EN(p:Gy h=k9)(r)(xs):Gy (h.y r<|.x xs)=true:=by
 refine Ad0.w λc a=>?_;rw[Ad5];rcases List.mem_or_eq_of_mem_set a with z|rfl
 .exact Ad0.u p c z
 .rfl
section
variable{n q:Nat}{K T:List Tx}{S:List Sy}
abbrev eO(rs rn:Nat)(p:D)(rw:Nat)(b a c:Option W):Sl:=[y0 (.r rs),y0 (.r rn),sv p,y0 (.r rw),b,a,c]
structure Nl(n:Nat)(K T:List Tx)(S:List Sy)(H:AH)(J cs:List Nat)(p:D)(rn:Nat)(H1:AH):Prop where
 nv:Nv n K T S J cs p
 tk:H1.A H.e=H
 wl:H1[H.e]?=y0 (.x<|dw n K T cs)
 nl:H1[rn]?=y0 (.x<|ai J)
 ne:rn≠H.e
 ge:H.e<=rn+1
 pu:Gy H1=k9
theorem Nl.at{rn i:Nat}(v:Nl n K T S H J cs p rn H1)(h:H[i]?=y0 c):H1[i]?=y0 c:=by
 have a:=(Aa0.u h).1
 rwa [←v.tk,Aj4 a]at h
def ET(g:bG n K T)(y:∀s∈S,s.y (K++T)/\s.j<=q)(hl:S.e<=20)(C:Se n K T S rs rc H)(v:Nl n K T S H J cs p rn H1)(U:cs.e<J.e)(hm:q+40<=m)(w l r:Option W):
 ∃O M V L H2 Z y6,Nl n K T S H O M V L H2/\O.e-M.e<J.e-cs.e/\execs (k8 m) Qm (eO rs rn p H.e w l r) H1=.j (eO rs L V H.e (si cs.e) Z y6) H2:=by
 have o:Se n K T S rs rc H1:=⟨v.at C.se,v.at C.cs⟩;have lJ:J.e<=20:=by have:=v.nv.sub.j;rw[Ae1]at this;exact Ab4 ‹_› ‹_›
 have l1:(QX J cs.e).e<=20:=by rw[QX,Aa5,Ad2,Ae9];lia
 obtain⟨k,rfl⟩:=nk m 3<|Ab4 (Fk _ _) ‹_›;obtain⟨a,na,A,ec⟩:=vP g y (J:=QX J cs.e) (λj h=>v.nv.js j<|qJ h) (Y8) (m:=k+2) o Y6;have e1:=kz v.wl;have I:(dw n K T cs).e=cs.e:=Aa _;rw[I]at e1;have z:=vv v.nl u0<|y0 (cs.e:Int);have R:=vv v.nl (y0 ((cs.e+1:Nat):Int)) u0;rw[Q2,←Ao7]at z;rw[WM,←Aq8]at R;have ct:GU .j (.j<|ai<|J.A cs.e) (.j<|ai<|J.G<|cs.e+1) H1=.j (.j<|ai<|QX J cs.e) H1:=by rw[Bh,Da<|by rw[Gf,Aa,Aa,Ad2,Ae9];lia,QX,ai,ai,ai,Ad4]
 have em:((cs.e:Int)+1)=((cs.e+1:Nat):Int):=rfl;have B:Gg (k8<|k+3) (.a<|.y .j (.eG .C .v4)<|.eV .C<|.y .j .v4<|.p 1) (eO rs rn p H.e (si cs.e) l r) H1=.j [.j (ai<|QX J cs.e)] H1:=by simp![z,Qc,em,aj,R,ct]
 have Q:=(WC (F:=(k8<|k+3)) (τ:=eO rs rn p H.e (si cs.e) l r) (i:=0) (m:=YT) (q:=Yw) o.se rfl rfl B).j<|ec;unfold Qm;generalize E.bO _ _ _ _ _=X at Q⊢;have N:∀(t:Tx)(x:D)(Y:Ss),a=.w [.u t,x]->execs (k8<|k+3) (.j (.j 4<|.Z .w<|.a .N)<|.j (.ek [5,6] X) Y) (eO rs rn p H.e w l r) H1=execs (k8<|k+3) Y (eO rs rn p H.e (si cs.e) (y0<|.s t)<|sv x) H1:=λt x Y e=>by subst e;rw[za (τ1:=eO rs rn p H.e (si cs.e) l r) (h1:=H1)<|by simp![e1,aj],za (τ1:=eO rs rn p H.e (si cs.e) (y0<|.s t)<|sv x) (h1:=H1)<|by simp![Q]]
 rcases A with⟨c,_,_,hc,rfl,td⟩|⟨b,rfl,u⟩
 .have cl:Gz H1 (y0<|.r H.e)=y0 (H.e,dw n K T cs):=by simp only[W.r,Gz,v.wl]
  have lL:(dw n K T cs).e<bh/\Gc (wo n K T c).u=true:=⟨by rw[Gf,I];lia,ri _⟩;have d:=(Aa0.u v.wl).1;have v2:Nl n K T S H J (cs++[c]) p rn<|H1.y H.e<|.x<|dw n K T cs++[(wo n K T c).u]:=⟨v.nv.aE U hc td,by rw[UZ,v.tk,Ao4<|Ab0 _],by rw[Ab8 d,dw,dw,Ad4];rfl,by rw[Ad3 v.ne.symm];exact v.nl,v.ne,v.ge,EN v.pu _ _⟩;refine⟨J,cs++[c],p,rn,_,y0<|.s qD,sv (wo n K T c).u,v2,by rw[Aa5,Ai6];exact TH ‹_›<|Af5 _,?_⟩;rw[N _ _ _ rfl,za (τ1:=eO rs rn p H.e (si cs.e) (y0<|.s qD)<|sv (wo n K T c).u) (h1:=H1.y H.e<|.x<|dw n K T cs++[(wo n K T c).u])<|(Zo (h1:=H1)<|by simp![zb,aj];rfl).j ?_,execs];rw[za (τ1:=eO rs rn p H.e (si cs.e) (y0<|.s qD)<|sv (wo n K T c).u) (h1:=H1.y H.e<|.x<|dw n K T cs++[(wo n K T c).u])<|by simp![cl,lL,Th,Os],execs]
 .obtain⟨f,P⟩:=nS g y u.pp;obtain⟨n2,ll⟩:=v.nv.nh U u P;have d7:=u.dp;have G:=ZC (F:=(k8<|k+3)) (f:="used") (es:=.j .L<|.a .C) (τ:=eO rs rn b H.e (si cs.e) (some<|.s Jc)<|sv b) (h:=H1) (ws:=[.v b,.r rn]) (xs:=ai<|J.L f) (by simp![]) (vn P (Y8) (k+1) H1 _ (.w ⟨rn,rfl,v.nl⟩) Y6)<|Jy _;have d:=(Aa0.u v.wl).1;have v2:Nl n K T S H (J.L f) cs b H1.e<|H1++[.x (ai<|J.L f)]:=⟨n2,by rw[An0<|Ag ‹_›];exact v.tk,by rw[Ac2 d];exact v.wl,by simp,(Ao2 ‹_›),by lia,jv v.pu rfl⟩;refine⟨_,cs,b,_,_,y0<|.s Jc,sv b,v2,by lia,?_⟩;rw[N _ _ _ rfl,za (τ1:=eO rs H1.e b H.e (si cs.e) (y0<|.s Jc)<|sv b) (h1:=H1++[.x (ai<|J.L f)])<|(kv (h1:=H1)<|by simp![zb,aj];rfl).j ?_,execs];generalize E.share _=Y at G⊢;rw[za (τ1:=eO rs rn b H.e (si cs.e) (y0<|.s Jc)<|sv b) (h1:=H1)<|by simp![],za (τ1:=eO rs H1.e b H.e (si cs.e) (y0<|.s Jc)<|sv b) (h1:=H1++[.x (ai<|J.L f)])<|by simp![G],execs]
def N7(g:bG n K T)(r:∀s∈S,s.y (K++T)/\s.j<=q)(F:S.e<=20)(w:Se n K T S rs rc H)(z:q+40<=m):∀t j J cs p rn H1 M L O,J.e-cs.e<=t->t<j->Nl n K T S H J cs p rn H1→
 ∃J' W p' V H2 y4 Z y6,Nl n K T S H J' W p' V H2/\W.e=J'.e/\GA (λτ h=>Gn (k8 m) Zm τ h) (λτ h=>execs (k8 m) Qm τ h) j (eO rs rn p H.e M L O) H1=.j (eO rs V p' H.e y4 Z y6) H2:=by
 have a:∀{J cs}{p}{rn}{H1}{M L O},Nl n K T S H J cs p rn H1->Gn (k8 m) Zm (eO rs rn p H.e M L O) H1=.j (u9<|cs.e<J.e) H1:=λ{J cs p rn H1 M L O} v=>by
  have e1:=kz v.wl;have e2:=kz v.nl;rw[dw,Aa]at e1;rw[ai,Aa]at e2;have c:Gp .lt (.i cs.e) (.i J.e) H1=y0 (u9<|cs.e<J.e):=by show y0 (u9<|cs.e<(J.e:Int))=_;congr 1;exact decide_eq_decide.w Int.ofNat_lt
  unfold Zm;simp![e1,e2,c]
 intro t;induction t with
|zero=>intro j J cs p rn H1 M L O x u v;obtain⟨f,rfl⟩:=nk j 1<|Ab4 (Fk _ _) ‹_›;have:=v.nv.le;exact⟨J,cs,p,rn,H1,M,L,O,v,by lia,Co<|by rw[a v,IR Y6]⟩
|succ t G=>
  intro j J cs p rn H1 M L O x u v;obtain⟨f,rfl⟩:=nk j 1<|Ab4 (Fk _ _) ‹_›;by_cases k:cs.e<J.e
  .obtain⟨o,e,l,b,H2,Z,y6,v1,I,e1⟩:=ET g r F w v k z M L O;obtain⟨y,i,B,d,D,C,E,A,v2,l2,e2⟩:=G f o e l b H2 (si cs.e) Z y6 Y6 (On ‹_›) v1;exact⟨y,i,B,d,D,C,E,A,v2,l2,(O7 (by rw[a v,FB k]) e1).j e2⟩
  .have:=v.nv.le;exact⟨J,cs,p,rn,H1,M,L,O,v,by lia,Co<|by rw[a v,IR k]⟩
structure Nd(n q:Nat)(K T:List Tx)(S:List Sy)(H:AH)(J cs:List Nat)(p:D)(rn rw:Nat)(H2:AH):Prop where
 nv:∃p0,Nv n K T S J cs p0
 ln:cs.e=J.e
 nr:Gc p=k9
 wk:∀S':List Sy,(∀k j:Nat,J[k]?=y0 j->S'[k]?=S[j]?)->Wz n K T S' (q+19) p 0 (2^bN n K T-1)
 tk:H2.A H.e=H
 lg:H.e<H2.e
 wl:H2[rw]?=y0 (.x<|dw n K T cs)
 nl:H2[rn]?=y0 (.x<|ai J)
 ne:rn≠rw
 ge:H.e<=rn+1/\H.e<=rw
 pu:Gy H2=k9
def Sb(g:bG n K T)(i:∀s∈S,s.y (K++T)/\s.j<=q)(I:S.e<=20)(x:Se n K T S rs rc H)(e:H[rn]?=y0 (.x<|ai J))(N:Gy H=k9)(B:H.e<=rn+1)(v:Nv n K T S J [] p)(y:q+40<=m):
 ∃M cs L j rw H2,Nd n q K T S H M cs L j rw H2/\call prog (m+1) "narrowed" [.r rs,.r rn,.v p] H=.j (.t [.j j,L,.j rw]) H2:=by
 have lt:=(Aa0.u e).1;have v0:Nl n K T S H J [] p rn<|H++[.x []]:=⟨v,TZ rfl,by simp[dw],by rw[Ac2 lt];exact e,(Ac1 ‹_›),B,jv N rfl⟩;have R:J.e<=20:=by have:=v.sub.j;rw[Ae1]at this;exact Ab4 ‹_› ‹_›
 obtain⟨b,d,l,a,H2,V,O,Q,v1,F,e1⟩:=N7 g i I x y 20 100000 J [] p rn _ u0 u0 u0 (‹_›) Y5 v0;obtain⟨f,P⟩:=nS g i v1.nv.gp.pp;have u:b.e<=20:=by have:=v1.nv.sub.j;rw[Ae1]at this;exact Ab4 ‹_› ‹_›
 obtain⟨L,E,o,G⟩:=P.sR b P.sub<|Y8;have U:=v1.nv.gp.dp;obtain⟨k,rfl⟩:=nk m 1<|Ab4 (Fk _ _) ‹_›;have A:H.e<H2.e:=(Aa0.u v1.wl).1;refine⟨b,d,L,a,H.e,H2,⟨⟨l,v1.nv⟩,F,E,λt h f r z C c m D=>G t h _ _ v1.nv.gp.sh f r z C c m Y6,v1.tk,A,v1.wl,v1.nl,v1.ne,⟨v1.ge,Ab0 _⟩,v1.pu⟩,?_⟩;rw[Gb rfl _ _ _ rfl];simp only[jQ];show Gx _ (execs _ _ [y0 (.r rs),y0 (.r rn),sv p,u0,u0,u0,u0] H)=_;refine fx (by simp![];rfl) ?_;refine fx (by rwa [exec]) ?_;rw[qa (w:=.t [.j a,L,.j H.e]) (h1:=H2)<|Ja rfl<|by simp![(o k H2 a v1.nl Y6)]];show fin _ _ _=_;unfold fin;rw[FM<|Ao2 ‹_›,FM<|by simp[W.keep]]
end
section
variable{n q:Nat}{K T:List Tx}{S:List Sy}
def BZ(e:exec F s τ h=.exc d h1):execs F (.j s ss) τ h=.exc d h1:=by rw[execs,e];rfl
abbrev i9(K T:List Tx)(S:List Sy)(n:Nat)(b c d a:Option W):Sl:=[sv (bq K T S),si n,b,c,d,a]
def II(g:bG n K T)(o:∀s∈S,s.y (K++T)/\s.j<=q)(hl:S.e<=20)(L:q<=14)(Q:Gy h=k9)(hm:q+42<=m):
 (∃c H,c<2^bN n K T/\(∀j,j<S.e->Tr n K T S c c j)/\H.A h.e=h/\call prog (m+1) YQ [.v (bq K T S),.i n] h=.exc (.y YA YB (wo n K T c).u) H)∨
 ∃J cs p rn rw H2,Nd n q K T S h J cs p rn rw H2/\h.e<=rn/\call prog (m+1) YQ [.v (bq K T S),.i n] h=.j (.t [.j rn,p,.j rw]) H2:=by
 obtain⟨k,rfl⟩:=nk m 5<|Ab4 (Fk _ _) ‹_›;obtain⟨H,b⟩:∃H,H=h++[Cell.obj Yp (fX n K T S<|h.e+1),.j Yq (cY n K T S)]:=⟨_,rfl⟩;have u:Se n K T S h.e (h.e+1) H:=by rw[b];exact⟨by simp,by simp⟩
 have G:H.A h.e=h:=by rw[b];exact TZ rfl
 have lH:H.e=h.e+2:=by rw[b];simp
 obtain⟨a,n1,A,R⟩:=vP g o (λj v=>Ab6.u v) (by rw[Ae1];exact Y8) (m:=k+4) u Y6;have mk:eval (k8<|k+5) (.make Yp YS<|.b .A .C) (i9 K T S n none none none none) h=.j (.r h.e) H:=by rw[b];simp![(O4 (k+4) g o (Y8) Y6 L h),aj]
 have O:(0:Int)<=(S.e:Int)/\(S.e:Int)<=1000:=by lia
 have C:=(WC (F:=(k8<|k+5)) (τ:=i9 K T S n (y0<|.r h.e) (y0<|.j<|ai<|List.range S.e) u0 u0) (i:=2) (m:=YT) (q:=Yw) (es:=.j .N .u) (ws:=[.u (ai<|List.range S.e)]) u.se rfl rfl<|by simp![]).j<|R;have B:∀(t:Tx)(x:D)(Y:Ss),a=.w [.u t,x]->execs (k8<|k+5) (.j (.ex<|.j "check_bits"<|.c (.G .A<|.p 0) .C<|.con "MOST_BITS")<|.j (.j 2<|.make Yp YS<|.b .A .C)<|.j (.set 3<|.cH<|.Z .w<|.a<|.G .A<|.p 1)<|.j (.ek [4,5]<|.bO .L Yp YT Yw<|.a .N) Y) (i9 K T S n none none none none) h=execs (k8<|k+5) Y (i9 K T S n (some<|.r h.e) (some<|.j<|ai<|List.range S.e) (some<|.s t)<|sv x) H:=fun t x Y e=>by subst e;generalize E.bO _ _ _ _ _=X at C⊢;refine(za<|by simp![ae,Qn,aj,show List.lookup "MOST_BITS" prog.con=some (.p 16)from rfl,(LD k g h)];rfl).j ?_;generalize E.make _ _ _=Z at mk⊢;refine(za<|by simp![mk];rfl).j ?_;refine(za<|by simp![ae,zh,aj,Zd,Aa,O,Th,Os,Ac5];rfl).j ?_;rw[za (τ1:=i9 K T S n (y0<|.r h.e) (y0<|.j<|ai<|Aa6 S.e) (y0<|.s t)<|sv x) (h1:=H)<|by simp![C]]
 rcases A with⟨c,_,_,U,rfl,M⟩|⟨p,rfl,r⟩
 .refine .u ⟨c,H,U,λj v=>M j<|Ab6.w v,G,?_⟩;rw[Gb (d:=Zu) rfl _ _ _ rfl];simp only[Zu];show Gx _ (execs _ _ (i9 K T S n u0 u0 u0 u0) h)=_;rw[B _ _ _ rfl,BZ<|(Zo (h1:=H)<|by simp![zb,aj];rfl).j<|BZ (d:=.y YA YB (wo n K T c).u) (h1:=H)<|by simp![],G7]
 .refine .w ?_;obtain⟨f,P⟩:=nS g o r.pp;have d7:=r.dp;have V:call prog (k+5) "used" [.v p,.u (ai<|List.range S.e)] H=.j (.j<|ai<|(List.range S.e).L f) H:=vn P (by rw[List.length_range];exact Y8) (k+3) H _ (.u rfl) Y6;have y:=ZC (F:=(k8<|k+5)) (f:="used") (es:=.j .v5<|.a .N) (τ:=i9 K T S n (some<|.r h.e) (some<|.j<|ai<|List.range S.e) (some<|.s Jc)<|sv p) (h:=H) (ws:=[.v p,.u (ai<|List.range S.e)]) (xs:=ai<|(List.range S.e).L f) (by simp![]) V<|Jy _;obtain⟨J,cs,I,rn,l,H2,nd,en⟩:=Sb g o hl (H:=H++[.x (ai<|(Aa6 S.e).L f)]) (rs:=h.e) (rc:=h.e+1) (rn:=H.e) (m:=k+4) ⟨by rw[Ac2 Y6];exact u.se,by rw[Ac2 Y6];exact u.cs⟩ Y7 (jv (by rw[b];refine jv Q ?_;simp[Cell.pure,fX,cY];exact⟨Xf _ (λ_=>rfl) S,⟨Xf _ (λ_=>rfl) K,Xf _ (λ_=>rfl) T⟩,Xf _ (λs=>(B2 s).1) S,XC _⟩) rfl) Y7 (⟨Vc,⟨P.pp _ λj z=>Ah3.w ⟨P.sub j z,z⟩,r.dp,r.sh⟩,Ag0 _,λ_ z=>absurd z Ag2,λi j c e=>by cases e⟩) Y6;have N:h.e<H2.e:=by have:=congrArg List.length nd.tk;rw[Ad2,Aa5]at this;lia
  have ge:=nd.ge;rw[Aa5,Ai6]at ge;refine⟨J,cs,I,rn,l,H2,⟨nd.nv,nd.ln,nd.nr,nd.wk,(by
    have:=congrArg (List.take h.e) nd.tk
    rwa [List.take_take,Aa5,Aj5 Y6,An0 Y6,G]at this),N,nd.wl,nd.nl,nd.ne,⟨by lia,by lia⟩,nd.pu⟩,by lia,?_⟩
  rw[Gb (d:=Zu) rfl _ _ _ rfl];simp only[Zu];show Gx _ (execs _ _ (i9 K T S n u0 u0 u0 u0) h)=_;rw[B _ _ _ rfl,xa<|by simp![zb,aj];rfl];generalize E.share _=Y at y⊢;rw[qa (w:=.t [.j rn,I,.j l]) (h1:=H2)<|Ja rfl<|by simp![y,(en)]];show fin _ _ _=_;unfold fin;rw[FM<|Ao2 ‹_›,FM<|by simp[W.keep]]
end
noncomputable def gq(j:Nat):List D:=(Aa6 16).j λi=>.I<|u9 (i=j)||u9 (i=15)
noncomputable def rh:List String:=["NoSize","NoPair","NoName","NoCode","NoText","Crowded","TooBig","NoWorld","NoRenaming","NoNumber","Broken",YA,"Unlike","NoRow","NoStand","ValueError"]
def RH(xs ys)(h)(a:xs.e+ys.e<=100):GU .j (.l xs) (.j ys) h=.j (.j<|xs++ys) h:=by show KK xs ys h=_;rw[KK,Da<|by rw[Gf];exact Y8]
def Ea(k)(f:String->Bool)(H:∀c,bW prog.cl (.v e) [c]=y0 (f c))(h):call prog (k+1) "_law_classes" [.v e] h=.j (.l<|rh.j fun c=>.I<|f c) h:=by
 rw[Gb rfl _ _ _ rfl];simp only[xB];have g:∀a b c d x,eval (k8 k) (.x<|.d (.bW .A k9 [a]) (.bW .A k9 [b]) (.bW .A k9 [c])<|.bW .A k9 [d]) [sv e,x] h=.j (.j [.I (f a),.I (f b),.I (f c),.I (f d)]) h:=λa b c d x=>by simp![H,aj]
 have add:∀l a b c d,l.e<=90->exec (k8 k) (.j 1<|.y .j .C<|.x<|.d (.bW .A k9 [a]) (.bW .A k9 [b]) (.bW .A k9 [c])<|.bW .A k9 [d]) [sv e,y0 (.l l)] h=.j [sv e,y0 (.l<|l++[.I (f a),.I (f b),.I (f c),.I (f d)])] h:=λl a b c d i=>by have r:=g a b c d<|y0<|.l l;generalize E.lst _=X at r⊢;simp![r,RH l [.I (f a),.I (f b),.I (f c),.I (f d)] h<|by simp;exact Y8]
 refine fx (by rw[exec];exact(congrArg (λr=>R.cF r _)<|g _ _ _ _ _).j rfl) ?_;refine fx (add _ _ _ _ _ Y7)<|fx (add _ _ _ _ _ Y7)<|fx (add _ _ _ _ _ Y7) ?_;rw[qa rfl];exact Ga _ _ _ rfl
def MO(k)(h):call prog (k+1) "_law_classes" [.v (.y YA YB d)] h=.j (.l<|gq 11) h:=(Ea k (fun x=>[x].C (G8 prog.cl 8 YA).x) (fun x=>rfl) h).j<|by rfl
def DV(k j)(h):call prog (k+1) "_law_class" [.i j] h=.j (.j<|gq j) h:=by rw[Gb rfl _ _ _ rfl];simp only[WL];rw[qa<|Ws rfl ?_,Gs _ _ _ rfl];refine Xp (λi=>.I<|u9 (i=j)||u9 (i=15)) rfl Y5 λi a=>⟨.b<|u9 (i=j)||u9 (i=15),?_,rfl⟩;have b:=Qh i 15 h;have b:Gp .j (.i i) (.v<|.p 15) h=y0 (u9<|i=15):=b;exact lM (by simp![(Qh i j h),aj])<|by simp![b,aj]
section
variable{n q:Nat}{K T:List Tx}{S:List Sy}
abbrev toS(K T:List Tx)(S:List Sy)(n:Nat)(a b c:Option W):Sl:=[sv (bq K T S),si n,a,b,c]
set_option tactic.hygienic true in
def Hu(g:bG n K T)(t:∀s∈S,s.y (K++T)/\s.j<=q)(A:S.e<=20)(u:q<=14)(o:Gy h=k9)(B:q+43<=m):
 (∃c,c<2^bN n K T/\(∀j,j<S.e->Tr n K T S c c j)/\call prog (m+1) YN [.v (bq K T S),.i n] h=.j (.t [(wo n K T c).u,.x (gq 11)]) h)∨
 ∃J cs p rn rw H2,Nd n q K T S h J cs p rn rw H2/\h.e<=rn/\call prog (m+1) YN [.v (bq K T S),.i n] h=.j (.t [.w [.j rn,p,.j rw],.U]) H2:=by
 obtain⟨k,rfl⟩:=nk m 1<|Ab4 (Fk _ _) ‹_›;have l:Gg (k8<|k+1) (.b .A .C) (toS K T S n (sv .U) (sv .U) u0) h=.j [.v (bq K T S),.i n] h:=by simp![]
 rcases II g t A u (m:=k) o<|On ‹_›with⟨c,H,z,v,y,e⟩|⟨J,cs,p,rn,b,H2,nd,f,e⟩
 .refine .u ⟨c,z,v,?_⟩;obtain⟨d,i⟩:∃d,d=(wo n K T c).u:=⟨_,rfl⟩;have r:Gc d=true:=by rw[i];exact ri _
  rw[←i]at e⊢;rw[Gb rfl _ _ _ rfl];simp only[Qk];show Gx _ (execs _ _ (toS K T S n u0 u0 u0) h)=_;refine fx (τ1:=toS K T S n (sv .U) u0 u0) (h1:=h) (by simp![])<|fx (τ1:=toS K T S n (sv .U) (sv .U) u0) (h1:=h) (by simp![]) ?_;refine fx (τ1:=toS K T S n (sv d) (y0<|.l<|gq 11) u0) (h1:=h) ?_ ?_
  .rw[exec];dsimp only[o5];rw[l];have x:Kb (.y YA YB d) h.e H=h:=by rw[Kb,y,show GQ (.y YA YB d)=Gc d from rfl,r,o];rfl
   have tb:nO (call prog<|k+1) (some 2) YQ (toS K T S n (sv .U) (sv .U) none) (.j [.v (bq K T S),.i n] h)=.exc (.y YA YB d) h:=by show(match call prog (k+1) YQ [.v (bq K T S),.i n] h with|.j w h=>_|.exc d a=>O.exc d<|Kb d h.e a|.fail=>_)=_;rw[e];dsimp only;rw[x]
   rw[tb];dsimp only[KJ];rw[KI,show bW prog.cl (.v<|.y YA YB d) ["WorldError"]=some true from rfl];dsimp only;rw[show GD (toS K T S n (sv .U) (sv .U) none) 4 (.v<|.y YA YB d)=toS K T S n (sv .U) (sv .U) (sv<|.y YA YB d)from rfl,za (τ1:=toS K T S n (sv .U) (some<|.l<|gq 11)<|sv<|.y YA YB d) (h1:=h)<|by simp![(MO (d:=d) k h)],za (τ1:=toS K T S n (sv d) (some<|.l<|gq 11)<|sv<|.y YA YB d) (h1:=h)<|(Zo (h1:=h)<|by simp![aj];rfl).j<|(za (τ1:=toS K T S n (sv d) (some<|.l<|gq 11)<|sv<|.y YA YB d) (h1:=h)<|by simp![Os,aj]).j rfl,execs];rfl
  .rw[qa (w:=.t [d,.x (gq 11)]) (h1:=h)<|Ja rfl<|by simp![]];exact Ga _ _ _ rfl
 .refine .w ⟨J,cs,p,rn,b,H2,nd,f,?_⟩;have C:=nd.lg;rw[Gb (d:=Qk) rfl _ _ _ rfl];simp only[Qk];show Gx _ (execs _ _ (toS K T S n u0 u0 u0) h)=_;refine fx (τ1:=toS K T S n (sv .U) u0 u0) (h1:=h) (by simp![])<|fx (τ1:=toS K T S n (sv .U) (sv .U) u0) (h1:=h) (by simp![]) ?_;refine fx (τ1:=toS K T S n (y0<|.t [.j rn,p,.j b]) (sv .U) u0) (h1:=H2) ?_ ?_
  .rw[exec];dsimp only[o5];rw[l];have tb:nO (call prog<|k+1) (some 2) YQ (toS K T S n (sv .U) (sv .U) none) (.j [.v (bq K T S),.i n] h)=.j (toS K T S n (some<|.t [.j rn,p,.j b]) (sv .U) none) H2:=by show(match call prog (k+1) YQ [.v (bq K T S),.i n] h with|.j w h=>_|.exc d a=>O.exc d<|Kb d h.e a|.fail=>_)=_;rw[e];rfl
   rw[tb];rfl
  .rw[qa (w:=.t [.w [.j rn,p,.j b],.U]) (h1:=H2)<|Ja rfl<|by simp![]];show fin _ _ _=_;unfold fin;rw[FM<|Ao2 ‹_›,FM<|by simp[W.keep]]
end
noncomputable def pk(S:List Sy)(J:List Nat):List Sy:=J.B λj=>S[j]?
theorem yF{S:List Sy}:∀{J},(∀j∈J,j<S.e)->∀k j:Nat,J[k]?=y0 j->(pk S J)[k]?=S[j]?
|[],_,k,j,e=>by cases e
|i::J,h,k,j,e=>by
  have a:=h i Aa4;rw[pk,Ae2,Aa1 a];cases k with
|zero=>cases e;rw[Aa1 a];rfl
|succ k=>exact yF (λj b=>h j<|Aa3 _ b) k j e
def B6{S:List Sy}(h:s∈pk S J):∃j∈J,S[j]?=y0 s:=An6.u h
theorem tF{b c:Type}(J:List b)(f:b->Option c):∀m a:Nat,(Am3 a m).B (λk=>J[k]?.u f)=((J.G a).A m).B f
|0,a=>by simp
|m+1,a=>by
  rw[Al0,Ae2,tF J f m<|a+1];rcases Ar4 a J.e with q|q
  .rw[Aj1 q,U9,Ae2,Aa1 q];rfl
  .rw[UH q,UH<|Ak9 ‹_›,Ap4 q];simp
theorem xq:∀{l:List α},(∀x∈l,f x=g x)->l.B f=l.B g
|[],_=>rfl
|x::l,h=>by rw[Ae2,Ae2,h x Aa4,xq λy a=>h y<|Aa3 _ a]
def Np(o)(b:Gk F it τ h=.j ds h)(f:ds.e<=1000)
 (a:∀d∈ds,Tn F k9 c elt ax τ h o d):
 eval F (.M [0] k9 1 ax it k9 c elt) τ h=.j (.j<|ds.B o) h:=by
 rw[eval,b,R.ab,Da<|by rw[Gf];exact Y8,Xv ds λd e=>?_,R.ab];exact tn<|a d e
def sG(e:h[r]?=y0 (.x xs))(a:xs[k]?=y0 x):cZ (.r r) (.i k) h=y0 x:=by
 show(match h[r]? with
|some (Cell.lst xs)=>y0 xs
|_=>u0).u (λxs=>aW xs k)=_
 rw[e];exact(ze xs k<|(Aa0.u a).1).j a
section
variable{n q:Nat}{K T:List Tx}{S:List Sy}{J cs:List Nat}{rn rw:Nat}{H2:AH}
def Nv.Oi (g:bG n K T)(m:∀s∈S,s.y (K++T)/\s.j<=q)(v:Nv n K T S J cs p){i j c:Nat}(w:cs[i]?=y0 c)(x:J[i]?=y0 j)(k:S[j]?=y0 s):Td (wo n K T c) (wo n K T c) s<|y0 y9:=by
 obtain⟨f,P⟩:=nS g m v.gp.pp;have d:=v.lt c<|Ac3 w;obtain⟨l,z,a,b,t⟩:=P.snd _ _ v.gp.sh c (WV _)<|vb d;have e:=Ai4 λne=>by obtain⟨A,u,y⟩:=v.ks i l c w (P.sub l a) ne;rw[b]at u;cases u;cases t _ y
 rw[x]at e;cases e;rw[k]at b;cases b;obtain⟨wf,dp⟩:=m s<|Ac3 k;obtain⟨o,r,-⟩:=xO (q+9) j c c (ro:=0) (h:=[Cell.obj Yq (cY n K T S)]) g rfl d d k (UP ‹_› Y5) wf;exact t o r▸r
def Rq(g:bG n K T)(f:∀s∈S,s.y (K++T)/\s.j<=q)(v:Nv n K T S J cs p)(u:cs[i]?=y0 c)(r:J[i]?=y0 j)(o:S[j]?=y0 s):(∀x∈pk S (QX J i)++[Sy.neg s],x.y (K++T)/\x.j<=q+1)/\∀x∈pk S (QX J i)++[Sy.neg s],Td (wo n K T c) (wo n K T c) x<|y0 k9:=by
 refine⟨λx d=>?_,λx d=>?_⟩
 .rcases Ac6.u d with d|d
  .obtain⟨k,_,e⟩:=B6 d;obtain⟨a,b⟩:=f x<|Ac3 e;exact⟨a,(Ak9 ‹_›)⟩
  .rw[Ac8.u d];obtain⟨a,b⟩:=f s<|Ac3 o;exact⟨a,Pv b⟩
 .rcases Ac6.u d with d|d
  .obtain⟨k,m,e⟩:=B6 d;have l:=(Aa0.u r).1;have nd:=v.nd;rw[zY l,Ai0,Ah2]at nd;obtain⟨w,h,t⟩:=v.ks i k c u (qJ m) λz=>by
    rw[Aa1 l]at z;cases z;rcases Ac6.u m with z|z
    .exact nd.2.2 _ z _ Aa4 rfl
    .exact nd.2.1.1 z
   rw[e]at h;cases h;exact t
  .rw[Ac8.u d];exact⟨y0 y9,v.Oi g f u r o,rfl⟩
abbrev i5(K T:List Tx)(S:List Sy)(n rn rw:Nat)(b a:Option W):Sl:=[sv (bq K T S),si n,y0 (.r rn),y0 (.r rw),b,a]
def Hc(g:bG n K T)(I:∀s∈S,s.y (K++T)/\s.j<=q)(hl:S.e<=20)(v:Nv n K T S J cs p)(ln:cs.e=J.e)(O:H2[rw]?=y0 (.x<|dw n K T cs))(l:H2[rn]?=y0 (.x<|ai J))(pu:Gy H2=k9)(U:i<J.e)(hm:q+12<=m)(h:Option W):∃L,execs (k8 m) Qe (i5 K T S n rn rw (si i) h) H2=.j (i5 K T S n rn rw (si i) L) H2:=by
 have lJ:J.e<=20:=by have:=v.sub.j;rw[Ae1]at this;exact Ab4 ‹_› ‹_›
 obtain⟨c,C⟩:∃c,cs[i]?=y0 c:=⟨_,Aa1 Y6⟩;obtain⟨j,r⟩:∃j,J[i]?=y0 j:=⟨_,Aa1 U⟩;obtain⟨s,B⟩:∃s,S[j]?=y0 s:=⟨_,Aa1<|v.js j<|Ac3 r⟩;obtain⟨G,P⟩:=Rq g I v C r B;obtain⟨k,rfl⟩:=nk m 2<|Ab4 (Fk _ _) ‹_›;have lp:(pk S<|QX J i).e<=20:=Ab4 (List.length_filterMap_le _ _) (by rw[QX,Aa5,Ad2,Ae9];lia);obtain⟨b,e2,N⟩:=BG (k+1) c g G (by rw[Aa5];simp;exact Y8) Y6 H2 pu;rw[N.w P]at e2;have F:=sG O (by rw[dw,Ab9,C];rfl);have R:=sG l (by rw[ai,Ab9,r];rfl);have x:∀{j:Nat}{s:Sy},S[j]?=y0 s->cZ (.t<|S.j aB) (.i j) H2=y0 (aB s):=λ{j s} e=>by have:=(Aa0.u e).1;rw[ae,ze _ _<|by rw[Aa];exact this,Ab9,e];rfl
 have t:eval (k8<|k+2) Je (i5 K T S n rn rw (si i) h) H2=.j (.j<|(pk S<|QX J i).j aB) H2:=by
  have A:=kz l;rw[ai,Aa]at A;have it:Gk (k8<|k+2) (.ar<|.Z .w<|.a .L) (i5 K T S n rn rw (si i) h) H2=.j (ai<|Aa6 J.e) H2:=by
   have b:-(fk)<=(J.e:Int)/\(J.e:Int)<fk:=by rw[GL];lia
   simp![A,aj,b,Th,Os,Ac5]
  have z:=Np (ax:=[4,0,2]) (c:=.B .w .A .C) (elt:=.G (.G .L<|.p 1)<|.G .N .A) (λd=>match d with|.p a=>if a.j=i then u0 else(J[a.j]?.u λj=>S[j]?).j aB|_=>u0) it (by rw[Aa,Ae1];exact Y8) λd H=>by
   obtain⟨a,f,rfl⟩:=Ab7.u H;have f:=Ab6.u f;have E:=v.js _<|Aj9 f;have ne:Gp .w (.i a) (.i i) H2=y0 (!u9 (a=i)):=by show y0 (!(u9<|(a:Int)=(i:Int)))=_;rw[decide_eq_decide.w Int.ofNat_inj]
   have Z:=sG l (by rw[ai,Ab9,Aa1 f];rfl);have Y:=x<|Aa1 E;refine⟨!u9 (a=i),?_,λy=>?_,λy=>⟨.v<|aB S[J[a]],_,?_,rfl,?_⟩⟩
   .show Gn _ _ [si a,si i,sv (bq K T S),y0 (.r rn)] H2=_;simp![ne]
   .rw[Bool.not_eq_false',L2]at y;show(if(a:Int).j=i then _ else _)=_;rw[Ac5,Da y]
   .show eval _ _ [si a,si i,sv (bq K T S),y0 (.r rn)] H2=_;simp![show cZ (.v<|bq K T S) (.v<|.p 1) H2=y0 (.w<|S.j aB)from rfl,Z,Y,aj]
   .rw[Ag5,SL]at y;show(if(a:Int).j=i then _ else _)=_;rw[Ac5,FM y,Aa1 f,Af2,Aa1 E];rfl
  unfold Je;rw[z];congr 2;rw[ai,An7,pk,QX,UQ,Ad4,Aq7,Aq7];have u:∀k,k≠i->(match D.n k with|.p a=>if a.j=i then u0 else(J[a.j]?.u λj=>S[j]?).j aB|_=>u0)=J[k]?.u λj=>(S[j]?).j aB:=λk ne=>by show(if(k:Int).j=i then _ else _)=_;rw[Ac5,FM ne];cases J[k]?<;>rfl
  have M:Aa6 J.e=Am3 0 i++i::Am3 (i+1) (J.e-(i+1)):=by rw[An1,←Al0,show J.e-(i+1)+1=J.e-i by lia];have:=List.range'_append_1 (s:=0) (m:=i) (n:=J.e-i);rw[Am9]at this;rw[this];congr 1;lia
  rw[M,UQ,Ae2,show((λd=>match d with|.p a=>if a.j=i then u0 else(J[a.j]?.u λj=>S[j]?).j aB|_=>u0)∘D.n) i=u0 by show(if(i:Int).j=i then _ else _)=_;rw[Ac5,Da rfl]];dsimp only;congr 1
  .refine(xq λk o=>u k<|by have:=(List.mem_range'_1.u o).2;lia).j ?_;rw[tF,UO]
  .refine(xq λk o=>u k<|by have:=(List.mem_range'_1.u o).1;exact Ao2 ‹_›).j ?_;rw[tF,Ah0<|by rw[Ae9];exact Ab0 _]
 refine⟨y0<|.t<|(pk S<|QX J i).j aB,?_⟩;have w:cZ (.v<|bq K T S) (.v<|.p 0) H2=y0 (wD K T):=rfl;have Q:cZ (.v<|bq K T S) (.v<|.p 1) H2=y0 (.w<|S.j aB):=rfl;have V:=zE ((pk S<|QX J i).j aB) [aB (.u s)] H2 (by simp;exact Y8);have e2:call prog (k+2) "_law_keeps" [.t [wD K T,.w ((pk S<|QX J i).j aB++[aB (.u s)])],.v (wo n K T c).u] H2=.j (.b true) H2:=by
  rwa [bq,Ad4]at e2
 unfold Qe;rw[xa<|by simp![w,F,aj,(BX g k c H2)]];generalize Je=X at t⊢;refine(za<|by simp![t,Qz,aj];rfl).j ?_;rw[xa<|by simp![w,Q,F,R,(x B),aj,show D.tup [.u ir,aB s]=aB (.u s)from rfl,V,e2],execs]
theorem CW(g:bG n K T)(b:∀s∈S,s.y (K++T)/\s.j<=q)(f:S.e<=20)(v:Nv n K T S J cs p)(e:cs.e=J.e)(c:H2[rw]?=y0 (.x<|dw n K T cs))(a:H2[rn]?=y0 (.x<|ai J))(k:Gy H2=k9)(d:q+12<=m):∀l M L,(∀i∈l,i<J.e)->∃V O,Gq (Gr [4] k9) (λτ h=>execs (k8 m) Qe τ h) (ai l) (i5 K T S n rn rw M L) H2=.j (i5 K T S n rn rw V O) H2
|[],M,L,_=>⟨M,L,rfl⟩
|i::l,M,L,h=>by obtain⟨r,e1⟩:=Hc g b f v e c a k (h i Aa4) d L;obtain⟨V,O,e2⟩:=CW g b f v e c a k d l (si i) r λj o=>h j<|Aa3 _ o;exact⟨V,O,by rw[ai,Ab2,wb rfl e1];exact e2⟩
def F1(g:bG n K T)(l:∀s∈S,s.y (K++T)/\s.j<=q)(h:S.e<=20)(v:Nv n K T S J cs p)(o:cs.e=J.e)(f:H2[rw]?=some (.x<|dw n K T cs))(c:H2[rn]?=some (.x<|ai J))(d:Gy H2=true)(j:q+12<=m):call prog (m+1) "_law_worlds_are" [.v (bq K T S),.i n,.r rn,.r rw] H2=.j (.b true) H2:=by
 obtain⟨u,r,e⟩:=CW g l h v o f c d j (Aa6 J.e) u0 u0 λi k=>Ab6.u k;have a:=kz c;rw[ai,Aa]at a;have t:J.e<=20:=by have:=v.sub.j;rw[Ae1]at this;exact Ab4 ‹_› ‹_›
 have b:-(fk)<=(J.e:Int)/\(J.e:Int)<fk:=by rw[GL];lia
 rw[Gb rfl _ _ _ rfl];simp only[Wq];show Gx _ (execs _ _ (i5 K T S n rn rw u0 u0) H2)=_;refine fx (by
  rwa [exec,show Gv (k8 m) (.ar<|.Z .w<|.a .L) (i5 K T S n rn rw u0 u0) H2=.j (ai<|Aa6 J.e) H2 by simp![a,aj,b,Th,Os,Ac5],R.ay]) ?_;rw[qa rfl,Ga _ _ _ rfl]
end
theorem qF:∀{l m:List α},l.Sublist m->l∈nJ m
|_,_,.slnil=>by simp[nJ]
|_,_,.cons a h=>Ad1 _<|qF h
|_,_,.cons₂ a h=>Ab _<|Al2<|qF h
theorem uc:∀J:List Nat,GM (ai J) (ai J)=k9
|[]=>rfl
|j::J=>by show(j==(j:Int)&&GM (ai J) (ai J))=k9;rw[uc J,Tg];rfl
theorem Dv{a:Type}:∀l:List a,Kq (l.j λ_=>.I k9)=y0 (l.j λ_=>k9)
|[]=>rfl
|_::l=>by rw[Ab2,Kq,Dv l];rfl
theorem DA{a b:Type}(f:a->b):∀l:List a,l.B (λx=>y0<|f x)=l.j f
|[]=>rfl
|x::l=>by rw[Ae2,DA f l];rfl
section
variable{n q:Nat}{K T:List Tx}{S:List Sy}{J cs:List Nat}{rn rw:Nat}{h H2:AH}
abbrev mP(K T:List Tx)(S:List Sy)(n:Nat)(a:D)(c d b e:Option W):Sl:=[sv (bq K T S),si n,sv a,c,d,b,e]
def OB(g:bG n K T)(C:∀s∈S,s.y (K++T)/\s.j<=q)(V:S.e<=7)(nd:Nd n q K T S h J cs p rn rw H2)(hm:q+24<=m):call prog (m+1) "_law_is_quarrel" [.v (bq K T S),.i n,.t [.j rn,p,.j rw]] H2=.j (.b true) H2:=by
 obtain⟨p0,v⟩:=nd.nv;have Z:J.e<=7:=by have:=v.sub.j;rw[Ae1]at this;exact Ab4 ‹_› ‹_›
 obtain⟨k,rfl⟩:=nk m 3<|Ab4 (Fk _ _) ‹_›;have G:Gz H2 (y0<|.r rn)=y0 (rn,ai J):=by simp only[W.r,Gz,nd.nl]
 have P:Gz H2 (y0<|.r rw)=y0 (rw,dw n K T cs):=by simp only[W.r,Gz,nd.wl]
 have i:=kz nd.nl;have l:=kz nd.wl;rw[ai,Aa]at i;rw[dw,Aa,nd.ln]at l;have ne:Gp .w (.i J.e) (.i J.e) H2=y0 false:=by show y0 (!(u9<|(J.e:Int)=(J.e:Int)))=_;rw[FB rfl];rfl
 have x:cZ (.v<|bq K T S) (.v<|.p 1) H2=y0 (.w<|S.j aB):=rfl;have t:cZ (.v<|bq K T S) (.v<|.p 0) H2=y0 (wD K T):=rfl;have y:(ai J).e<=1000:=by rw[Aa];exact Y8
 have e2:eval (k8<|k+3) We (mP K T S n (.w [.j rn,p,.j rw]) (y0<|.r rn) (sv p) (y0<|.r rw) u0) H2=.j (.j<|J.j λ_=>.I k9) H2:=by
  unfold We;rw[pJ (λ_=>y0<|.I k9) rfl nd.nl y λd c=>?_]
  .rw[DA,ai,Ad9];rfl
  .obtain⟨j,e,rfl⟩:=Ab7.u c;refine⟨k9,rfl,λz=>(by cases z),λ_=>⟨.b k9,_,?_,rfl,rfl⟩⟩;have w:=xv (k+2) (.n j) H2 rfl;have b:=v.js j e;have M:Gp .le (.v<|.p 0) (.i j) H2=y0 true:=by show y0 (u9<|(0:Int)<=(j:Int))=_;rw[FB<|Ar _]
   have I:Gp .lt (.i j) (.i S.e) H2=y0 true:=by show y0 (u9<|(j:Int)<(S.e:Int))=_;rw[FB<|Int.ofNat_lt.w b]
   show eval _ _ [si j,sv (bq K T S)] H2=_;simp![w,show qx (.n j)=k9 from rfl,M,x,aj,Zd,Aa,I]
 have F:dY .all [.j (J.j λ_=>.I k9)] H2=aj (.I k9) H2:=by rw[Ll,Dv];show aj (.I<|(J.j λ_=>k9).N id) H2=_;rw[show((J.j λ_=>k9).N id)=k9 by rw[An8];exact Ad0.w λ_ _=>rfl]
 have o:eval (k8<|k+3) (.sset .N) (mP K T S n (.w [.j rn,p,.j rw]) (y0<|.r rn) (sv p) (y0<|.r rw) u0) H2=.j (.j<|ai J) H2:=by
  have N:W.ck H2 (.r rn)=y0 (ai J):=by
   show(match H2[rn]? with
|some (Cell.lst xs)=>y0 xs
|_=>u0)=_
   rw[nd.nl]
  have A:(J.j Ad7)∈Bb:=Al2<|qF<|v.sub.trans<|List.range_sublist.w V;rw[eval,show eval (k8<|k+3) .N (mP K T S n (.w [.j rn,p,.j rw]) (y0<|.r rn) (sv p) (y0<|.r rw) u0) H2=.j (.r rn) H2 from rfl,R.ab,N,Af2,show GK (ai J)=y0 (J.j Ad7)from zW J,R.ao,R.ab,Da A,Ad9];rfl
 have B:Gp .w (.r rn) (.j<|ai J) H2=y0 false:=by
  rw[uF];have D:(W.r rn).dd H2=.x (ai J):=by show res H2 (.j rn)=_;rw[res,nd.nl]
  have U:(W.own<|ai J).dd H2=.x (ai J):=by rw[W.gG,GJ<|Jy J]
  rw[D,U,Da<|by have:=rf J;have:=Jy J;simp only[Kh,Gc,this,dep,Ae7,Ae5,L2];exact .u Y6,cD,uc];rfl
 have e1:eval (k8<|k+3) zf (mP K T S n (.w [.j rn,p,.j rw]) (y0<|.r rn) (sv p) (y0<|.r rw) u0) H2=.j (.j<|(pk S J).j aB) H2:=by
  unfold zf;rw[pJ (λd=>match d with|.p a=>(S[a.j]?).j aB|_=>u0) rfl nd.nl y λd c=>?_]
  .congr 2;rw[ai,An7,pk,Aq7];exact xq λk _=>by show(S[(k:Int).j]?).j aB=_;rw[Ac5]
  .obtain⟨j,e,rfl⟩:=Ab7.u c;have b:=v.js j e;refine⟨k9,rfl,λz=>(by cases z),λ_=>⟨.v<|aB S[j],_,?_,rfl,?_⟩⟩
   .have L:cZ (.t<|S.j aB) (.i j) H2=y0 (aB S[j]):=by rw[ae,ze _ _<|by rw[Aa];exact b,Ab9,Aa1 b];rfl
    show eval _ _ [si j,sv (bq K T S)] H2=_;simp![x,L,aj]
   .show(S[(j:Int).j]?).j aB=_;rw[Ac5,Aa1 b];rfl
 have Y:=vx k g H2;have u:Gy (H2++[.u (aR (K++T)<|fO n T)])=true:=jv nd.pu rfl;have O:=(Aa0.u nd.nl).1;have H:=F1 g C (Y8) v nd.ln (by rw[Ac2<|(Aa0.u nd.wl).1];exact nd.wl) (by rw[Ac2 O];exact nd.nl) u (m:=k+2) Y6;rw[Gb rfl _ _ _ rfl];simp only[Zq];show Gx _ (execs _ _ (mP K T S n (.w [.j rn,p,.j rw]) u0 u0 u0 u0) H2)=_;have f:cC .A (.t [.j rn,p,.j rw])=y0 true:=rfl;have Q:Gp .w (.i 3) (.v<|.p 3) H2=y0 false:=rfl;rw[xa<|by simp![f,aj,Zd,Aa9,Ae4,Q]];refine fx (by simp![];rfl) ?_;rw[xa<|by simp![G,P,aj,i,l,ne]];generalize We=X at e2⊢;rw[xa<|by simp![e2,F,aj]];generalize E.sset _=X3 at o⊢;rw[xa<|by simp![o,B]];generalize zf=X1 at e1⊢;refine fx (by simp![t,aj,e1,Qz];rfl) ?_;refine fx ((kv (h1:=H2++[.u (aR (K++T)<|fO n T)])<|by simp![t,aj,(vx (k+1) g H2),(nd.wk (pk S J) (yF v.js) _ _ _ (DD g (r:=H2.e) (h:=H2++[.u (aR (K++T)<|fO n T)]) Y7) u (k+3) Y6)]).j rfl) ?_;rw[qa (w:=.b k9) (h1:=H2++[.u (aR (K++T)<|fO n T)])<|Ja rfl<|by simp![(H)],RP rfl nd.pu]
abbrev N9(K T:List Tx)(S:List Sy)(n:Nat)(a b:Option W):Sl:=[sv (bq K T S),si n,a,b]
def Lw(g:bG n K T)(o:∀s∈S,s.y (K++T)/\s.j<=q)(R:S.e<=7)(C:q<=14){m:Nat}(y:Gy h=true)(V:q+44<=m):call prog (m+1) "_law_right" [.v (bq K T S),.i n] h=.j (.b true) h:=by
 obtain⟨k,rfl⟩:=nk m 3<|Ab4 (Fk _ _) ‹_›;rw[Gb (d:=Wx) rfl _ _ _ rfl];simp only[Wx];show Gx _ (execs _ _ (N9 K T S n u0 u0) h)=_;rcases Hu g o (Y8) C (m:=k+2) y<|On ‹_›with⟨c,Y,F,e⟩|⟨J,l,p,f,a,i,nd,r,e⟩
 .have e:call prog (k+3) YN [.v (bq K T S),.i n] h=.j (.t [(wo n K T c).u,.x (gq 11)]) h:=e;have e1:=BX g (k+1) c h;obtain⟨b,e2,E⟩:=BG (k+2) c g o (Y8) Y6 h y;rw[E.w λs N=>by obtain⟨j,z,rfl⟩:=Al3 N;obtain⟨Z,u,t⟩:=F j z;rw[Aa1 z]at u;cases u;exact t]at e2;have M:call prog (k+3) "_law_class" [.v (.p 11)] h=.j (.j<|gq 11) h:=DV (k+2) 11 h;have I:Gp .j (.l<|gq 11) (.j<|gq 11) h=y0 true:=rfl;have G:cZ (.v<|bq K T S) (.v<|.p 0) h=y0 (wD K T):=rfl;refine fx (by simp![e];rfl) ?_;rw[qa (w:=.b k9) (h1:=h)<|(Zo (h1:=h) rfl).j<|qa<|Ja rfl<|by simp![M,I,G,aj,e1,e2],Ga _ _ _ rfl]
 .have e:call prog (k+3) YN [.v (bq K T S),.i n] h=.j (.t [.w [.j f,p,.j a],.U]) i:=e;have e1:=OB g o R nd (m:=k+2) Y6;have e1:call prog (k+3) "_law_is_quarrel" [.v (bq K T S),.i n,.t [.j f,p,.j a]] i=.j (.b true) i:=e1;obtain⟨X,v⟩:=nd.nv;have U:J.e<=7:=by have:=v.sub.j;rw[Ae1]at this;exact Ab4 ‹_› ‹_›
  have D:Gz i (y0<|.r f)=y0 (f,ai J):=by simp only[W.r,Gz,nd.nl]
  have P:Gz (i.y f<|.x<|ai J++[.p 0]) (y0<|.r a)=y0 (a,dw n K T l):=by simp only[W.r,Gz];rw[Ad3 nd.ne,nd.wl]
  have Q:(ai J).e<bh/\Gc (.p 0)=true:=⟨by rw[Gf,Aa];exact Ai9 ‹_› Y5,rfl⟩;have B:(dw n K T l).e<bh/\Gc .U=true:=⟨by rw[Gf,dw,Aa,nd.ln];exact Ai9 ‹_› Y5,rfl⟩;have i0:∀H,cZ (.t [.j f,p,.j a]) (.v<|.p 0) H=y0 (.j f):=λ_=>rfl;have i2:∀H,cZ (.t [.j f,p,.j a]) (.v<|.p 2) H=y0 (.j a):=λ_=>rfl;refine fx (by simp![e];rfl) ?_;rw[xa rfl,xa<|by simp![e1,aj]];refine fx (by simp![i0,aj,D,Q,Th,Os];rfl) ?_;refine fx (by simp![i2,aj,P,B,Th,Os];rfl) ?_;rw[qa (w:=.b k9) (h1:=(i.y f<|.x<|ai J++[.p 0]).y a<|.x<|dw n K T l++[.U]) rfl];have A:((i.y f<|.x<|ai J++[.p 0]).y a<|.x<|dw n K T l++[.U]).A h.e=h:=by rw[UZ,UZ,nd.tk,Ao4 r,Ao4 nd.ge.2]
  obtain⟨x,L,O⟩:=nc (d:=.I k9) (n:=h.e) (h:=(i.y f<|.x<|ai J++[.p 0]).y a<|.x<|dw n K T l++[.U]) rfl (by rw[Ad5,Ad5];exact Ag nd.lg) (by rwa [A]);rw[L,O,A]
end
noncomputable def md:Nat->Ss->Ss
|0,s=>s
|n+1,.j _ s=>md n s
|_,.u=>.u
noncomputable def m6:Ss->M.S
|.j a _=>a
|.u=>.fg
def AO{S:List Sy}(a:j<S.e):aW (S.j aB) (j:Int)=y0 (aB S[j]):=by rw[ze _ _<|by rw[Aa];exact a,Ab9,Aa1 a];rfl
section
variable{n:Nat}{K T:List Tx}{ns:List Int}{i:Nat}{v:Int}{sc th:D}
abbrev l9(sc:D)(n:Nat)(K T:List Tx)(th:D)(A:List Sy)(x7 x8:Option W):Sl:=[sv sc,y0 (.r 0),si n,sv (wD K T),y0 (.l<|(K++T).j .u),sv th,y0 (.t<|A.j aB),x7,x8]
def ye{A:List Sy}(b:Gm τ 6=y0 (.t<|A.j aB))(d:Gm τ 8=si a)(f:eval F e τ h=.j (.v<|aB x) h')(j:A.e<=20):eval F (.y .j (.y .j (.eG .v6 .v8)<|.tup<|.j e .u)<|.eV .v6 .v8) τ h=.j (.t<|(A.A a++[x]++A.G a).j aB) h':=by
 have g:fG (.t<|A.j aB) u0 (y0 a) h=.j (.t<|(A.A a).j aB) h:=by show aj (.w<|cut _ u0<|y0 a) h=_;rw[Q2,Ao7]
 have c:fG (.t<|A.j aB) (y0 a) u0 h'=.j (.t<|(A.G a).j aB) h':=by show aj (.w<|cut _ (y0 a) u0) h'=_;rw[WM,Aq8]
 have i:=zE ((A.A a).j aB) [aB x] h' (by simp;lia);have a2:=zE ((A.A a).j aB++[aB x]) ((A.G a).j aB) h' (by simp;lia);rw[Ad4,Ad4];simp![b,d,g,f,i,c,a2]
def vU{A:List Sy}(h:s∈A.A a++[x]++A.G a):s∈A\/s=x:=by grind
def p9{A:List Sy}(h:a<=A.e):(A.A a++[x]++A.G a).e=A.e+1:=by rw[Aa5,Aa5,Ad2,Ae9,Ai6];lia
def IT(d:∀s∈A,s.y (K++T)/\s.j<=11)(t:A.e<=5)(l:0<A.e):∃B v' L,(∀s∈B,s.y (K++T)/\s.j<=11)/\B.e<=6/\exec (k8 69) (m6<|md 8 cN.j) (l9 sc n K T th A x7 x8) [ag ns i v]=.j (l9 sc n K T th B x7 L) [ag ns i v']:=by
 obtain⟨c,v1,p,e1⟩:=Qf 68 (h:=[ag ns i v]) (r:=0) (m:=4) rfl Y5 Y5;have e1:call prog 69 Yn [.r 0,.v (.p 4)] [ag ns i v]=.j (.i c) [ag ns i v1]:=e1;have z:Gp .j (.i c) (.v<|.p 0) [ag ns i v1]=y0 (u9<|c=0):=Qh c 0 _;have j:((A.j aB).e:Int)=(A.e:Int):=by rw[Aa]
 simp only[cN,md,m6];by_cases q:c=0
 .obtain⟨a,v2,u,e2⟩:=Qf 68 (h:=[ag ns i v1]) (r:=0) (m:=A.e+1) rfl (Fk _ _) Y6;have e2:call prog 69 Yn [.r 0,.v (.p<|(A.e:Int)+1)] [ag ns i v1]=.j (.i a) [ag ns i v2]:=e2;obtain⟨b,v3,g,f⟩:=Qf 68 (h:=[ag ns i v2]) (r:=0) rfl l<|Ai9 ‹_› Y5;have f:call prog 69 Yn [.r 0,.i A.e] [ag ns i v2]=.j (.i b) [ag ns i v3]:=f;have k:=ye (F:=(k8 69)) (x:=A[b]) (τ:=l9 sc n K T th A x7<|si a) (h:=[ag ns i v2]) (h':=[ag ns i v3]) (e:=.G .v6<|.j Yn<|.b .C<|.Z .w<|.a .v6) rfl rfl (by simp![Zd,j,aj,f,ae,(AO g)])<|Y8;refine⟨A.A a++[A[b]]++A.G a,v3,si a,λs o=>?_,by rw[p9<|On ‹_›];exact Pv ‹_›,?_⟩
  .rcases vU o with z|rfl
   .exact d s z
   .exact d _<|Aj9 g
  .refine(Zo (h1:=[ag ns i v1])<|by simp![e1,z,aj,FB q]).j ?_;refine(za<|by simp![Zd,j,aj,Qc,e2];rfl).j ?_;generalize E.bin _ _ _=X at k⊢;refine(za<|by simp![k];rfl).j ?_;rw[execs]
 .exact⟨A,v1,x8,d,(Ak9 ‹_›),(kv<|by simp![e1,z,aj,IR q]).j rfl⟩
def MW(I:(K++T).e<=8)(f:∀s∈A,s.y (K++T)/\s.j<=9)(Q:A.e<=4)(w:0<A.e):∃B v' M L,(∀s∈B,s.y (K++T)/\s.j<=11)/\B.e<=5/\0<B.e/\exec (k8 69) (m6<|md 7 cN.j) (l9 sc n K T th A x7 x8) [ag ns i v]=.j (l9 sc n K T th B M L) [ag ns i v']:=by
 obtain⟨c,v1,P,e1⟩:=Qf 68 (h:=[ag ns i v]) (r:=0) (m:=4) rfl Y5 Y5;have e1:call prog 69 Yn [.r 0,.v (.p 4)] [ag ns i v]=.j (.i c) [ag ns i v1]:=e1;have z:Gp .gt (.i c) (.v<|.p 0) [ag ns i v1]=y0 (u9<|0<c):=by rw[yP];congr 1;rw[decide_eq_decide];lia
 have C:((A.j aB).e:Int)=(A.e:Int):=by rw[Aa]
 simp only[cN,md,m6];by_cases q:0<c
 .obtain⟨b,v2,t,e2⟩:=Qf 68 (h:=[ag ns i v1]) (r:=0) (m:=A.e) rfl w<|Ai9 ‹_› Y5;obtain⟨d,v3,J,g⟩:=Qf 68 (h:=[ag ns i v2]) (r:=0) (m:=2) rfl Y5 Y5;have g:call prog 69 Yn [.r 0,.v (.p 2)] [ag ns i v2]=.j (.i d) [ag ns i v3]:=g;have G:Gp .j (.i d) (.v<|.p 0) [ag ns i v3]=y0 (u9<|d=0):=Qh d 0 _;have y:=f _<|Aj9 t;obtain⟨x,v4,o,k,ex⟩:∃x v4,x.y (K++T)/\x.j<=11/\exec (k8 69) (.iff (.B .j (.j Yn<|.b .C<|.p 2)<|.p 0) (.a<|.j 7<|.tup<|.c (.u lu) .v7<|.j YD<|.c .C .v4<|.p 0) .u) (l9 sc n K T th A (sv<|aB<|.u A[b]) x8) [ag ns i v2]=.j (l9 sc n K T th A (sv<|aB x) x8) [ag ns i v4]:=by
   by_cases u:d=0
   .obtain⟨s,v4,H,O,p⟩:=pj (N:=K++T) (.u rfl) I 0 64 [ag ns i v3] v3 (r:=0) (ns:=ns) (i:=i) rfl;have p:call prog 69 YD [.r 0,.l ((K++T).j .u),.v (.p 0)] [ag ns i v3]=.j (.v<|aB s) [ag ns i v4]:=p;refine⟨.cv (.u A[b]) s,v4,⟨y.1,H⟩,by simp only[Sy.dp];lia,(Zo (h1:=[ag ns i v3])<|by simp![g,G,aj,FB u]).j ?_⟩;rw[za (τ1:=l9 sc n K T th A (sv<|aB<|.cv (.u A[b]) s) x8) (h1:=[ag ns i v4])<|by simp![p];rfl,execs]
   .exact⟨.u A[b],v3,y.1,by simp only[Sy.dp];lia,(kv (h1:=[ag ns i v3])<|by simp![g,G,aj,IR u]).j rfl⟩
  obtain⟨a,v5,R,l⟩:=Qf 68 (h:=[ag ns i v4]) (r:=0) (m:=A.e+1) rfl (Fk _ _) Y6;have l:call prog 69 Yn [.r 0,.v (.p<|(A.e:Int)+1)] [ag ns i v4]=.j (.i a) [ag ns i v5]:=l;have D:=ye (F:=(k8 69)) (A:=A) (x:=x) (a:=a) (τ:=l9 sc n K T th A (sv<|aB x)<|si a) (h:=[ag ns i v5]) (h':=[ag ns i v5]) (e:=.var 7) rfl rfl rfl<|Y8;refine⟨A.A a++[x]++A.G a,v5,sv<|aB x,si a,λs j=>?_,by rw[p9<|On ‹_›];exact Pv ‹_›,by rw[p9<|On ‹_›];exact Fk _ _,?_⟩
  .rcases vU j with z|rfl
   .exact⟨(f s z).1,by have:=(f s z).2;exact Y8⟩
   .exact⟨o,k⟩
  .refine(Zo (h1:=[ag ns i v1])<|by simp![e1,z,aj,FB q]).j ?_;rw[za (τ1:=l9 sc n K T th A (sv<|aB<|.u A[b]) x8) (h1:=[ag ns i v2])<|by simp![Zd,C,aj,(e2),ae,(AO t)];rfl,za ex];refine(za<|by simp![Zd,C,aj,Qc,l];rfl).j ?_;generalize E.bin _ _ _=X at D⊢;refine(za<|by simp![D];rfl).j ?_;rw[execs]
 .exact⟨A,v1,x7,x8,λs j=>⟨(f s j).1,by have:=(f s j).2;exact Y8⟩,(Ak9 ‹_›),w,(kv (h1:=[ag ns i v1])<|by simp![e1,z,aj,IR q]).j rfl⟩
end
def gA(ns:List Int)(hl:ns.e<=63):∃h',call prog 70 "law" [.l (ns.j .p)] []=.j (.b true) h':=by
 suffices key:∃H,execs (k8 69) cN.j [y0 _,u0,u0,u0,u0,u0,u0,u0,u0] []=.u _ H by obtain⟨H,e⟩:=key;rw[Gb (d:=cN) rfl _ _ _ rfl];show∃h',Gx 0 (execs _ cN.j [y0 (.l<|ns.j .p),u0,u0,u0,u0,u0,u0,u0,u0] [])=_;rw[e];obtain⟨h',f1,f2⟩:=nc (d:=.I k9) (h:=H) (n:=0) rfl (Ag0 _) rfl;exact⟨h',f1⟩
 obtain⟨v0,e0⟩:=SQ 68 ns hl [];obtain⟨n,K,T,v1,g,e1⟩:=Rk 66 (h:=[ag ns 0 v0]) (r:=0) (i:=0) rfl;have e1:call prog 69 "_law_words" [.r 0] [ag ns 0 v0]=.j _ [ag ns 0 v1]:=e1;obtain⟨S,i2,v2,hS,lS,e2⟩:=Eu 61 g (M:=3) Y5 hl (h:=[ag ns 0 v1]) (r:=0) (i:=0) rfl;have e2:call prog 69 "_law_theory" [.r 0,.v _,.v (.p 3)] [ag ns 0 v1]=.j _ [ag ns i2 v2]:=e2;obtain⟨v3,e3⟩:=pV 68 hl (h:=[ag ns i2 v2]) (r:=0) (i:=i2) rfl;have e3:call prog 69 Y4 [.r 0] [ag ns i2 v2]=.j _ [ag ns _ v3]:=e3;have hN:(K++T).e<=8:=by rw[Aa5];have:=g.k4;have:=g.t4;lia
 have ad:=zE (K.j D.str) (T.j D.str) [ag ns 0 v1] (by rw[Aa,Aa];have:=g.k4;have:=g.t4;lia);rw[←Ad4]at ad;obtain⟨s,v4,w1,w2,e4⟩:=pj (N:=K++T) (.u rfl) hN 1 63 [ag ns (i2+1) v3] v3 (r:=0) (ns:=ns) (i:=i2+1) rfl;have e4:call prog 69 YD [.r 0,.l ((K++T).j .u),.v (.p 1)] [ag ns (i2+1) v3]=.j (.v<|aB s) [ag ns (i2+1) v4]:=e4;obtain⟨v5,e5⟩:=pV 68 hl (h:=[ag ns (i2+1) v4]) (r:=0) (i:=i2+1) rfl;have e5:call prog 69 Y4 [.r 0] [ag ns (i2+1) v4]=.j (.v .U) [ag ns (i2+1+1) v5]:=e5;have hS1:∀s'∈S++[s],s'.y (K++T)/\s'.j<=9:=λs' hs=>by
  rcases Ac6.u hs with hs|hs
  .exact hS _ hs
  .rw[Ac8.u hs];exact⟨w1,(Y8)⟩
 have at2:GU .j (.t<|S.j aB) (.t [aB s]) [ag ns (i2+1) v4]=.j (.t<|(S++[s]).j aB) [ag ns (i2+1) v4]:=by rw[Ad4];exact zE (S.j aB) [aB s] _<|by simp;exact Y8
 obtain⟨B,v6,y7,y8,hB,lB,b0,e6⟩:=MW (sc:=.x<|ns.j .p) (th:=bq K T S) (n:=n) (ns:=ns) (i:=i2+1+1) (v:=v5) (x7:=u0) (x8:=u0) hN hS1 (by simp;exact Y8) Y7;obtain⟨C,v7,z8,hC,lC,e7⟩:=IT (sc:=.x<|ns.j .p) (th:=bq K T S) (n:=n) (ns:=ns) (i:=i2+1+1) (v:=v6) (x7:=y7) (x8:=y8) hB lB b0;have e8:=Lw g hC (Ak9 ‹_›) Y5 (m:=68) (h:=[ag ns (i2+1+1) v7]) rfl Y5;have e8:call prog 69 "_law_right" [.v (bq K T C),.i n] [ag ns (i2+1+1) v7]=.j (.b true) [ag ns (i2+1+1) v7]:=e8;have sh:eval (k8 69) (.share<|.j "_law_start"<|.a .A) [some (.l<|ns.j .p),none,none,none,none,none,none,none,none] []=.j (.r 0) [ag ns 0 v0]:=ZC (ws:=[.l (ns.j .p)]) (by simp![]) e0 (by show(Gd (ns.j .p)&&k9)=k9;rw[Xf _<|λ_=>rfl];rfl);refine⟨[ag ns (i2+1+1) v7],?_⟩;simp only[cN,md,m6]at e6 e7⊢;rw[za (τ1:=[sv (.x<|ns.j .p),y0 (.r 0),u0,u0,u0,u0,u0,u0,u0]) (h1:=[ag ns 0 v0])<|by generalize E.share _=X at sh⊢;simp![sh]];generalize D.lst (ns.j .p)=sc at e6 e7⊢;rw[za (τ1:=[sv sc,y0 (.r 0),si n,sv (wD K T),u0,u0,u0,u0,u0]) (h1:=[ag ns 0 v1])<|by simp![e1],za (τ1:=[sv sc,y0 (.r 0),si n,sv (wD K T),y0 (.l<|(K++T).j .u),u0,u0,u0,u0]) (h1:=[ag ns 0 v1])<|by simp![ae,Qn,zh,ad,aj,uw],za (τ1:=[sv sc,y0 (.r 0),si n,sv (wD K T),y0 (.l<|(K++T).j .u),sv (bq K T S),u0,u0,u0]) (h1:=[ag ns i2 v2])<|by simp![e2],za (τ1:=[sv sc,y0 (.r 0),si n,sv (wD K T),y0 (.l<|(K++T).j .u),sv (bq K T S),u0,u0,u0]) (h1:=[ag ns (i2+1) v3])<|by simp![e3],za (τ1:=l9 sc n K T (bq K T S) (S++[s]) u0 u0) (h1:=[ag ns (i2+1) v4])<|by simp![show cZ (.v<|bq K T S) (.v<|.p 1) [ag ns (i2+1) v3]=y0 (.w<|S.j aB)from rfl,aj,e4,at2]];rw[za (τ1:=l9 sc n K T (bq K T S) (S++[s]) u0 u0) (h1:=[ag ns (i2+1+1) v5])<|by simp![e5],za e6,za e7,za (τ1:=l9 sc n K T (bq K T C) C y7 z8) (h1:=[ag ns (i2+1+1) v7])<|by simp![aj],qa (w:=.b k9) (h1:=[ag ns (i2+1+1) v7])<|Ja rfl<|by simp![e8,aj]]
end Lake.M
namespace Lake.MS
open PySem PyProof.Rows
noncomputable def Nt:List String:=["is_whole","is_below","pairs_of","gathered","common","either","without","turned","joined","closed","same","every","value_of_name","made","counts","bounds","settled","not_told","and_told","or_told","in_told","count_told","told","fact_told","is_size","widths","bits","check_size","check_bits","world_of","places_of","is_tuple_of","names_in","needed_bits","how_many_set","uses","used","renumbered","narrowed","quarrel","_law_start","_law_turn","_law_draw","_law_names","_law_words","_law_expression","_law_saying","_law_theory","_law_joined","_law_turned","_law_closed","_law_same","_law_two","_law_bounds","_law_many","_law_ruled","_law_within","_law_fact","_law_told","_law_whole","_law_spread","_law_seen","_law_is_world","_law_keeps","_law_open","_law_split","_law_walks","_law_classes","_law_class","_law_told_of","_law_worlds_are","_law_is_quarrel","_law_right","law"]
noncomputable def K0:List String:=["WorldError","NoSize","NoPair","NoName","NoCode","NoText","Crowded","TooBig","NoWorld","NoRenaming","NoNumber","Broken","Kept","Unlike","NoRow","NoStand"]
def PX:List String:=[]
def R8:List String:=["WorldError"]
def RJ:List String:=["_law_classes"]
noncomputable def Ra:rC:=⟨[("Cases","words"),("Cases","sayings"),("Cases","size"),("Cases","places"),("Cases","whole"),("Search","cases"),("Search","needs")],[("Cases","world_of_code","Cases.world_of_code"),("Cases","truth","Cases.truth"),("Cases","bit_of","Cases.bit_of"),("Cases","is_shown","Cases.is_shown"),("Search","told_of_sayings","Search.told_of_sayings"),("Search","chosen_place","Search.chosen_place"),("Search","told_of_case","Search.told_of_case"),("Search","told_of_halves","Search.told_of_halves")],[("Cases","Cases.__init__"),("Search","Search.__init__")],["Cases.__init__","Cases.world_of_code","Cases.truth","Cases.bit_of","Cases.is_shown","Search.__init__","Search.told_of_sayings","Search.chosen_place","Search.told_of_case","Search.told_of_halves"],[("Kept","world")]⟩
noncomputable def O9:List<|String×List String:=[("_law_names",["_law_pack","_law_many_here","_law_letters","_law_first","_law_stem","_law_k","_law_at","_law_names_here","_law_name"])]
def Rh:Cg:=⟨Nt,K0,PX,R8,Ra,k9,RJ⟩
end Lake.MS
namespace PySem.W.Fast
def tw11906185314980561841:=Nat
def tw14368528450899067770:=Nat
def tw1752747459951327876:=Nat
def tw10438740656517428047:=Nat
def tw737514293843744957:=Nat
def tw2837527357079350019:=Nat
def tw1016150868885191879:=Nat
def tw4624785643408906728:=Nat
def tw7741528088576249108:=Nat
def tw10337647183055206967:=Nat
def tw13285807535685247680:=Nat
def tw17133350298693717043:=Nat
def tw2409371235647302091:=Nat
def tw1755546488470719204:=Nat
def tw9299639052364509239:=Nat
def tw8028548486336185723:=Nat
def tw1325838585392328407:=Nat
def tw11173534198901555643:=Nat
def tw12530006798449842902:=Nat
def tw133449330781649203:=Nat
def tw11649678517231781354:=Nat
def tw7204607288662083918:=Nat
def tw14539071259409861360:=Nat
def tw17736245889472351475:=Nat
def tw8013183911690831300:=Nat
def tw15521962976405748302:=Nat
def tw8399937949134012294:=Nat
def tw619992937804961184:=Nat
def tw4159507276161933206:=Nat
def tw17491922439600338301:=Nat
def tw14645376113939496325:=Nat
def tw2386432370563744726:=Nat
def tw15053431108229050607:=Nat
def tw13511949020518685250:=Nat
def tw14089587459735518927:=Nat
def tw15790254864484962006:=Nat
def tw10411880576967663966:=Nat
def tw5894766364088384244:=Nat
def tw163316268587720192:=Nat
def tw12838288710524924706:=Nat
def tw10062062136525213200:=Nat
def tw5840714732687028287:=Nat
def tw4872925714097673142:=Nat
def tw9563778452246090032:=Nat
def tw4229020315870388111:=Nat
def tw10343849040250708161:=Nat
def tw3960119898745484711:=Nat
def tw3381345220225953045:=Nat
def tw2237525550130135944:=Nat
def tw1046158809507376611:=Nat
def tw14445811267905901443:=Nat
def tw13758711234136050313:=Nat
def tw4463098844966563654:=Nat
def tw17908866178554515198:=Nat
def tw5227323138306390353:=Nat
def tw176550953819217960:=Nat
def tw2096816642597531163:=Nat
def tw11780577364234976814:=Nat
def tw189712821920190181:=Nat
def tw997403978535296692:=Nat
def tw7103640627110291023:=Nat
def tw6518695284390278696:=Nat
def tw6150996263829155210:=Nat
def tw13573374838476071409:=Nat
def tw12710592317923528137:=Nat
def tw10072686808286199567:=Nat
def tw10223849659340718054:=Nat
def tw503946322667772375:=Nat
def tw3912493406763846107:=Nat
def tw14047959601933260025:=Nat
def tw7699967745675741183:=Nat
def tw12155396030824283698:=Nat
def tw7106042952257105164:=Nat
def tw5771488457325182398:=Nat
def tw14040174284791676735:=Nat
def tw2056700848383832179:=Nat
def tw10783684930265393499:=Nat
def tw10328696810667903337:=Nat
def tw15866711911784084669:=Nat
def tw9531898996157579973:=Nat
def tw17830204037839639346:=Nat
def tw9105224505369868449:=Nat
def tw3648500035689472367:=Nat
def tw9151180758261386607:=Nat
def tw8351588324623345769:=Nat
def tw5876964198399323724:=Nat
def tw17494536076537915138:=Nat
def tw14263744816654023272:=Nat
def tw11370418946783268962:=Nat
def tw8401541026829872452:=Nat
def tw6459583314281876892:=Nat
def tw3037311333424931235:=Nat
def tw15273075517694301767:=Nat
def tw1379396999930388267:=Nat
def tw9785625688326233902:=Nat
def tw12261777949676783543:=Nat
def tw10188656217901512490:=Nat
def tw11406524861936008078:=Nat
def tw4834207409888661876:=Nat
def tw4509441810202468960:=Nat
def tw13632640921949419401:=Nat
def tw10298398125260881048:=Nat
def tw6089986869053798491:=Nat
def tw155012782435608276:=Nat
def tw16527255087053831241:=Nat
def tw11343076526142646833:=Nat
def tw17838584025324553584:=Nat
def tw1829290895727398915:=Nat
def tw15565952820527704326:=Nat
def tw10050448539029216100:=Nat
def tw8572030691035291097:=Nat
def tw2983660767610798903:=Nat
def tw14316093598365320607:=Nat
def tw910035045332391147:=Nat
def tw6080667061943363990:=Nat
def tw5257449790693079254:=Nat
def tw15604726379169757736:=Nat
def tw3805234521997608559:=Nat
def tw6976663358081567420:=Nat
def tw11286518844338307820:=Nat
def tw9313107575840415310:=Nat
def tw6837755707065207773:=Nat
def tw5582641028905027502:=Nat
def tw2681190514607541862:=Nat
def tw15563288853957365867:=Nat
def tw14190080411415970404:=Nat
def tw16136659564904407992:=Nat
def tw4826540910483869672:=Nat
def tw17607005283438308339:=Nat
def tw12970977471711255155:=Nat
def tw3388503934900933932:=Nat
def tw3070000563284160394:=Nat
def tw6562200013660158951:=Nat
def tw13419052353785100881:=Nat
def tw12205118885118223165:=Nat
def tw16608858716212020171:=Nat
def tw8197056757320198095:=Nat
def tw10133680534286582915:=Nat
def tw9966311267816610909:=Nat
def tw5567450336567739459:=Nat
def tw7950232828104126232:=Nat
def tw14492353465919429221:=Nat
def tw3817771621064559639:=Nat
def tw7536244922154957666:=Nat
def tw16290261925475737711:=Nat
def tw5872393396318831375:=Nat
def tw3847375793466114949:=Nat
def tw7236246488587676312:=Nat
def tw4428937892346849082:=Nat
def tw7446088997696900205:=Nat
def tw6449396519800078460:=Nat
def tw6824745442296075398:=Nat
def tw15564587551482262544:=Nat
def tw249011192762576577:=Nat
def tw1049962651665551672:=Nat
def tw16055761189006838129:=Nat
def tw9425940488199094642:=Nat
def tw7929917141211046233:=Nat
def tw10776082862251356937:=Nat
def tw9651278412725829023:=Nat
def tw3905139845458725742:=Nat
def tw17596077044119421166:=Nat
def tw1039787872266856499:=Nat
def tw1131179935260172242:=Nat
def tw9900315655399491302:=Nat
def tw2061783941443755671:=Nat
def tw12487997004878778589:=Nat
def tw3389076484878832043:=Nat
def tw15113065881135752115:=Nat
def tw7867074535667748622:=Nat
def tw2229852103123143496:=Nat
def tw11085723627665739585:=Nat
def tw17706472751213328778:=Nat
def tw13389413869293198028:=Nat
def tw8422698707853204132:=Nat
def tw15695526597866464570:=Nat
def tw11168007219421809138:=Nat
def tw10047038580945093003:=Nat
def tw6254344918442707246:=Nat
def tw7029377566515893634:=Nat
def tw4161920303736818653:=Nat
def tw15477086106454005393:=Nat
def tw2305439695309264032:=Nat
def tw12318518351319102330:=Nat
def tw8338392206647376682:=Nat
def tw13180796796221259840:=Nat
def tw7711076186601925097:=Nat
def tw5926229981218630165:=Nat
def tw319229437702714287:=Nat
def tw284836361470412707:=Nat
def tw17753379442370635512:=Nat
def tw9943869713943301895:=Nat
def tw3359420928807844821:=Nat
def tw14794171938546737790:=Nat
def tw9506524213019912957:=Nat
def tw12554908681573775781:=Nat
def tw11333180864025118074:=Nat
def tw11398816092678513971:=Nat
def tw3850547497085033657:=Nat
def tw386875276504213245:=Nat
def tw16701820375635916745:=Nat
def tw7815788530172543198:=Nat
def tw8705204613493445381:=Nat
def tw948141391358882689:=Nat
def tw3630740549132719712:=Nat
def tw16978229038036864377:=Nat
def tw11340403993560343090:=Nat
def tw4629169902242970415:=Nat
def tw14838139579259101641:=Nat
def tw14834692280363233602:=Nat
def tw1337084470097758718:=Nat
def tw13347715353533309763:=Nat
def tw13314871082216518471:=Nat
def tw5906898405498945229:=Nat
def tw18419179055311350288:=Nat
def tw16538656331829725238:=Nat
def tw1534809375115665443:=Nat
def tw11783756646748515906:=Nat
def tw7065261288892478760:=Nat
def tw15229378428861518114:=Nat
def tw12765098478331969054:=Nat
def tw11783432998598808491:=Nat
def tw2929020556609122497:=Nat
def tw1793478161889405182:=Nat
def tw15828604256000941466:=Nat
def tw12382547391277866290:=Nat
def tw11513916757225771322:=Nat
def tw6464411005178052322:=Nat
def tw5331400141063272436:=Nat
def tw12866444574793896424:=Nat
def tw14165153402743188335:=Nat
def tw4681805863387889505:=Nat
def tw10074091496933588152:=Nat
def tw9712050684879271019:=Nat
def tw8355374472454855177:=Nat
def tw7164461317038068938:=Nat
def tw4129361920835832600:=Nat
def tw18349685030461667249:=Nat
def tw17759132460810317069:=Nat
def tw14526259042847474112:=Nat
def tw101010054592017609:=Nat
def tw6217714465860452621:=Nat
def tw11887909316154642486:=Nat
def tw10762440967022378044:=Nat
def tw6822435920455430044:=Nat
def tw2139285436405247707:=Nat
def tw6694169065943821976:=Nat
def tw9777530009461144905:=Nat
def tw8743378824868794269:=Nat
def tw801449192329519088:=Nat
def tw7943236537247325578:=Nat
def tw4969601242791036175:=Nat
def tw4509070802593511204:=Nat
def tw4382701823138514727:=Nat
def tw17816882749062874751:=Nat
def tw13875631659826180079:=Nat
def tw12850077800009709617:=Nat
def tw12784769889877657866:=Nat
def tw12281636915578876484:=Nat
def tw11872239615295180454:=Nat
def tw10441239116914214644:=Nat
def tw14397646926879284012:=Nat
def tw7386955219499327054:=Nat
def tw5574493359398291221:=Nat
def tw3876448490548905688:=Nat
def tw10240427910630420016:=Nat
def tw9689942630964781264:=Nat
def tw245952367744003777:=Nat
def tw10988889616477423263:=Nat
def tw9452205524871985116:=Nat
def tw841026869339990940:=Nat
def tw3058515701974539000:=Nat
def tw13758694090663805216:=Nat
def tw1268227277344864625:=Nat
def tw15516513807899666316:=Nat
def tw8607282855248294927:=Nat
def tw5763512131562284941:=Nat
def tw2061248413521680738:=Nat
def tw16853046786466360868:=Nat
def tw10983089872294400232:=Nat
def tw10769057742005422079:=Nat
def tw5227473182537874911:=Nat
def tw3571181259103816928:=Nat
def tw213542039042811221:=Nat
def tw15920768348709464542:=Nat
def tw14673965555469392024:=Nat
def tw14642979123677733889:=Nat
def tw13210676452951133536:=Nat
def tw12177950339240705565:=Nat
def tw6172911318017389778:=Nat
def tw8404609264114927149:=Nat
def tw7446009459914981042:=Nat
def tw2380011027858682859:=Nat
def tw14034933017806777327:=Nat
def tw10246979875173003575:=Nat
def tw18346433899610162175:=Nat
def tw18156445008808201772:=Nat
def tw12270492390983682126:=Nat
def tw17801873816650955762:=Nat
def tw1685786794141958405:=Nat
def tw10282950864599233515:=Nat
def tw2060363049313755468:=Nat
def tw14332764741765970061:=Nat
def tw16102284547035532536:=Nat
def tw13906229161807280699:=Nat
def tw3986388164447806809:=Nat
def tw11118012722712197357:=Nat
def tw8787763238293085153:=Nat
def tw3588850367254747512:=Nat
def tw12071882802151236001:=Nat
def tw16660676137212386629:=Nat
def tw17715432026893877469:=Nat
def tw15717156850523892633:=Nat
def tw11180087445644050754:=Nat
def tw10513006032286694709:=Nat
def tw7125152046505810427:=Nat
def tw11910732380025296392:=Nat
def tw11955804325765362675:=Nat
def tw6182882750727344655:=Nat
def tw11496182340902643674:=Nat
def tw17446739342842461885:=Nat
def tw17426233538541887192:=Nat
def tw12887611054662916501:=Nat
def tw7222992608142938743:=Nat
def tw8473345182971270506:=Nat
def tw15185069006337957790:=Nat
def tw1393633557718187540:=Nat
def tw6153299123794608994:=Nat
def tw6529480118384557845:=Nat
def tw10610663344016508185:=Nat
def tw4355070286892006784:=Nat
def tw18390917012949128346:=Nat
def tw9022363414062349150:=Nat
def tw16044527224941667811:=Nat
def tw6251654993403594516:=Nat
def tw13805512866139454047:=Nat
def tw1894957039682397353:=Nat
def tw7230492391771386876:=Nat
def tw3634436118637888993:=Nat
def tw16696007060659989319:=Nat
def tw9305897329978028192:=Nat
def tw9606280759535553167:=Nat
def tw2378739710385861500:=Nat
def tw7071451814435713938:=Nat
def tw14951973422907439635:=Nat
def tw4487735031801568859:=Nat
def tw13758272545057177373:=Nat
def tw13394233729453165768:=Nat
def tw8327864982060848864:=Nat
def tw310288967165253378:=Nat
def tw726111558123171965:=Nat
def tw6729441827274719306:=Nat
def tw14545014759462821763:=Nat
def tw13877089620935328683:=Nat
def tw9061908563405072690:=Nat
def tw1502981211859170002:=Nat
def tw6813307173831393281:=Nat
def tw15567609886954610023:=Nat
def tw6829882038380009299:=Nat
def tw16578147445033856351:=Nat
def tw14500315179438358793:=Nat
def tw13768174396950880242:=Nat
def tw13787998686217679150:=Nat
def tw6442277933902307292:=Nat
def tw15502979849011104671:=Nat
def tw2639424990748343024:=Nat
def tw9833562888265133150:=Nat
def tw11662892053520378882:=Nat
def tw1519633146029959427:=Nat
def tw228518254793913753:=Nat
def tw5127022797341408846:=Nat
def tw15483833289317147614:=Nat
def tw15742730161884510781:=Nat
def tw13939550774634273007:=Nat
def tw8791040405955770219:=Nat
def tw6208980926394517345:=Nat
def tw16320446086734126681:=Nat
def tw29581996958467143:=Nat
def tw7181677087234788038:=Nat
def tw3446000291660206553:=Nat
def tw2718754501343541101:=Nat
def tw14637287376458405191:=Nat
def tw3792613947077127589:=Nat
def tw15724552149107548901:=Nat
def tw13001556313604802721:=Nat
def tw17530508001350092706:=Nat
def tw13353755390753051482:=Nat
def tw15731041252962674904:=Nat
def tw16727025127787291068:=Nat
def tw8339006150892200019:=Nat
def tw16374830105059469796:=Nat
def tw837977907511299733:=Nat
def tw12252768202930013318:=Nat
def tw10843263963529809378:=Nat
def tw7075158718998084127:=Nat
def tw4853989205871886328:=Nat
def tw2704146830561843782:=Nat
def tw10640148358185180572:=Nat
def tw2736280813034343096:=Nat
def tw985340259851466208:=Nat
def tw9389783897977226879:=Nat
def tw9554434533966412347:=Nat
def tw6181380037324915690:=Nat
def tw17424724408591208997:=Nat
def tw2937039473056458908:=Nat
def tw5621891298454976816:=Nat
def tw16348704621205766383:=Nat
def tw14042474267479912699:=Nat
def tw7364987234257391238:=Nat
def tw12393953530744844927:=Nat
def tw9297772106590662285:=Nat
def tw16142569215355173949:=Nat
def tw7678819670060045670:=Nat
def tw4557215228924443537:=Nat
def tw1673193941462015723:=Nat
def tw2660747082792674037:=Nat
def tw7224526452049968628:=Nat
def tw16496600527933387750:=Nat
def tw12479700512972615885:=Nat
def tw10514867539476414067:=Nat
def tw17933022590449828768:=Nat
def tw12456306285922580286:=Nat
def tw4905875068065937933:=Nat
def tw12038607375233429751:=Nat
def tw5139968358873090348:=Nat
def tw8409794675943511444:=Nat
def tw14144090395565216456:=Nat
def tw8217755148274992521:=Nat
def tw12349115571209529197:=Nat
def tw1441944026702971485:=Nat
def tw2131366304389094901:=Nat
def tw13817688358553713167:=Nat
def tw16758745451975617029:=Nat
def tw6489766154356072433:=Nat
def tw7204377110360267984:=Nat
def tw2319244080864907200:=Nat
def tw389774848798654326:=Nat
def tw351602714934102824:=Nat
def tw13562923986850872768:=Nat
def tw5848527150354238584:=Nat
def tw751153777703288939:=Nat
def tw3212791818478390019:=Nat
def tw8960666105611464733:=Nat
def tw5895589786459738205:=Nat
def tw11406691168886034329:=Nat
def tw16136462962570007673:=Nat
def tw11786280617946074017:=Nat
def tw9929921867453211567:=Nat
def tw5527028362440879049:=Nat
def tw11938806610418957423:=Nat
def tw3193035410353794077:=Nat
def tw9920299384181359103:=Nat
def tw13248344734676831752:=Nat
def tw15910328554704865601:=Nat
def tw14966876750855549598:=Nat
def tw2338967268897746506:=Nat
def tw11638521045722921767:=Nat
def tw13016081365801311538:=Nat
def tw12322864921502740299:=Nat
def tw13664515935474095198:=Nat
def tw6902402399882708183:=Nat
def tw843114646294842281:=Nat
def tw13565760695548798511:=Nat
def tw1716825649970343186:=Nat
def tw977660196483685265:=Nat
def tw3222415289782655919:=Nat
def tw11578114060755382609:=Nat
def tw17634338417876480516:=Nat
def tw16256549841185996136:=Nat
def tw13553910414717627284:=Nat
def tw1376476446002002993:=Nat
def tw1270628473471718856:=Nat
def tw6236180818927883533:=Nat
def tw16729416630672862852:=Nat
def tw6576825725589606191:=Nat
def tw15273016572236887628:=Nat
def tw16325930032165146115:=Nat
def tw9918757810335233780:=Nat
def tw6145004571236809667:=Nat
def tw17442531198645663683:=Nat
def tw16583799182602643204:=Nat
def tw16528337244872580188:=Nat
def tw6104455816646453664:=Nat
def tw14347467812124433140:=Nat
def tw8582895015006012640:=Nat
def tw10391029853441830521:=Nat
def tw2420430831534441818:=Nat
def tw680803576418920386:=Nat
def tw12744510371292837143:=Nat
def tw12026743340652996326:=Nat
def tw9969854057020707210:=Nat
def tw3208684016527633558:=Nat
def tw15127401051467576538:=Nat
def tw3717898911434395419:=Nat
def tw17152764947980159431:=Nat
def tw12929160954961777784:=Nat
def tw18341033609532792912:=Nat
def tw5102221066954964539:=Nat
def tw8117315382420221032:=Nat
def tw11020541758644567289:=Nat
def tw5770329797816616500:=Nat
def tw6529964475319691712:=Nat
def tw8863420024509452543:=Nat
def tw15982144144274986451:=Nat
def tw3448995649499150233:=Nat
def tw14083380640156248336:=Nat
def tw17681110725300490660:=Nat
end PySem.W.Fast
set_option tactic.hygienic true
open PySem PySem.W PyProof.Rows
set_option maxRecDepth 100000 in
set_option maxHeartbeats 0 in
theorem PySem.Challenge.cw_worldfind_k63_whole_quarrels_holds : PySem.Challenge.rw_worldfind_k63_whole_quarrels.Holds := by
 w_on;o_law;k_head;(case hw=>w_witness2)
 k_fill
 refine Lake.MS.walk (l:=PySem.Challenge.rw_worldfind_k63_whole_quarrels) (x:= "_law_script") (2*70+3) ⟨fun _=>rfl,by decide,by decide⟩ rfl rfl (fun w h Y=>PySem.W.kIn_of Y) ?F
 case F=>
  intro w mg fa h KX G hmg;exact Lake.MS.kF Lake.M.prog Lake.MS.Rh Lake.MS.O9 69 KX G hmg (by kernel_rfl) Lake.M.gA
