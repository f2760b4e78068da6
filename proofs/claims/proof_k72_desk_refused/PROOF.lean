import PyProof.Rows.All
import Wide.All
import OpenK.AllK
import Wide.FinOn
import Lean
import PyProof.EqAt
import PyProof.EqKinds
import PyProof.TupleCall
import PyProof.NeKinds
import PyProof.NsDelKeeps
import KE.KRevSl
import PyProof.StrWalks
import PyProof.ConsumeWalk
import PyProof.SumWalk
import PyProof.Rows.SortStr
import PyProof.SumWalkG
import PyProof.StrCalls2
import PyProof.StrLawsIdx
import PyProof.WalkInts
import PyProof.StrOps2
import PyProof.SliceStr2
import PyProof.Draws
import PyProof.EnumMake
import PyProof.Rows.SetFrom
import PyProof.SetRoads
import PyProof.WalksMore
import PyProof.ListRange
import PyProof.TupleOfSeq
import PyProof.TupleOfGen
import PyProof.Rows.SortShell
import PyProof.ZipIter
import PyProof.DictStraight
import PyProof.TupleKey
import PyProof.DictRoadsH
import PyProof.DictTruth
import PyProof.Rows.TupTab
import KE.KTabLook
import PyProof.FString
import PyProof.CallStr
import KE.KIntText
import PyProof.Rows.Range3
import PyProof.DictRoads
import PyProof.Rows.StrNews2
import KE.KDictOf
import KE.KMinKey
import PyProof.AttrMissHeap
import PyProof.FactsAll.zip
import KE.KDictSum
import PySem.Challenge.RW_worldfind_k72_desk_refused
set_option Elab.async false
set_option linter.all false
set_option maxRecDepth 100000
set_option compiler.extract_closed false
set_option genSizeOf false
set_option genInjectivity false
set_option backward.eqns.nonrecursive false
set_option tactic.hygienic false
set_option bootstrap.genMatcherCode false
set_option genCtorIdx false
noncomputable section
open PySem.Heap renaming get?_push_of_some->Aa,get?_push_size->Aa5,lt_size->Aa9,get?_update_self->Ad1,get?_update_other->Ad2,size_push->Ad6,FlyingW->Ae6,SameBut->Af5,ExtBut->Ak6,HeldW->Al7,get?_none_of_le->Am,get?_update_ne->Am3,get?_push_cases->US
open List renaming mem_cons_of_mem->Aa0,mem_cons_self->Aa2,length_map->Aa4,mem_append_right->Aa7,mem_cons->Aa8,replicate->Ab,range->Ab1,getElem?_eq_getElem->Ab2,getElem?_eq_some_iff->Ab3,length_cons->Ab6,size_toArray->Ab7,mem_singleton->Ab8,length_append->Ab9,lookup_cons->Ac1,getElem?_set_self->Ac2,map_cons->Ac3,append_nil->Ac4,getElem?_set_ne->Ac5,not_mem_nil->Ac7,isEmpty_iff->Ac8,getD_eq_getElem?_getD->Ac9,getElem?_map->Ad,replicate_succ->Ad0,length_replicate->Ad4,getElem?_append_right->Ad7,mem_append->Ad9,length_set->Ae,length_nil->Ae0,getElem?_append_left->Ae1,extract_eq_drop_take->Ae2,map_map->Ae5,map_append->Ae8,mem_map->Ae9,cons_append->Af,all_eq_true->Af0,any_cons->Af2,nil_append->Af3,contains_iff_mem->Af4,length_take->Af6,mem_range->Af8,take_of_length_le->Ag0,mem_of_getElem?->Ag2,mem_append_left->Ag3,lookup->Ag6,filter_cons_of_pos->Ag7,filterMap_cons->Ag8,eq_nil_of_length_eq_zero->Ah0,mem_filterMap->Ah1,nodup_cons->Ah3,length_zip->Ah4,foldl_cons->Ah5,append_assoc->Ah6,all_cons->Ah7,drop_eq_getElem_cons->Ah9,range'_succ->Ai,length_drop->Ai0,pairwise_cons->Ai4,forIn_cons->Ai5,range_succ_eq_map->Aj,foldl_append->Aj0,flatten_cons->Aj1,length_singleton->Aj2,forall_mem_cons->Aj4,set_set->Aj8,contains_cons->Aj9,range'->Ak3,getElem?_replicate->Ak4,filter_cons_of_neg->Ak5,range_succ->Al0,mem_filter->Al1,map_nil->Al2,getElem?_toArray->Al3,mem_of_mem_take->Al9,drop_zero->Am1,map_inj_left->Am7,take_length->An,getElem_map->An0,exists_cons_of_ne_nil->T2,forall_mem_singleton->T6,getElem?_take_of_lt->T7,pairwise_singleton->Um,of_mem_zip->Uq,any_append->Uv,drop_of_length_le->UD,extract_toArray->UP,mem_of_mem_drop->UQ,map_congr_left->Vb,toList_toArray->Vd,take_succ_cons->Ve,mem_map_of_mem->Vg,filterMap_map->Vn,all_map->Vr,any_map->Vs,getElem_range->Vu,zip_cons_cons->Vx,any_eq_false->VB,take_sublist->VE,length_range->VG,pairwise_map->VL,ext_getElem->VV,drop_length->V0,cons_ne_nil->V1,find?_cons->V8,tail_drop->Yf,le_trans->Yj,sum_cons->Yk,map_id->Ys
open PySem.W renaming Frag->Aa1,kia_one->Ae7,keepIn->Ag1,emptyDict->Ah2,instObj->Ai2,fnOf->Ai9,findIn->Aj6,plainGet->Ak0,cellsFrom_some->Ak1,lookIn->Ak8,kitOne->Ak9,codeIn->Al,plainGet_of->Al5,callWith_K->Am0,kitx_list->Am4,methodCall_KW->UF,findObj_own->U5,looks_clsIn->U7,callWith_K0->U8,kitx_tuple->Vm,set_plain->VC,any_some->VQ
open Nat renaming le_refl->Aa3,lt_of_lt_of_le->Ab4,ne_of_lt->Ab5,le_trans->Ac,le_succ->Ad5,lt_succ_self->Ae4,le_succ_of_le->Af9,zero_le->Ag,le_of_lt->Ag5,lt_irrefl->Ag9,not_lt_zero->Ai6,min_eq_left->Ai7,ne_of_gt->Aj3,lt_succ_of_lt->Ak2,not_le->Al8,zero_add->Am8,le_of_eq->Am9,lt_of_le_of_lt->PP,le_add_left->SB,le_of_lt_succ->S3,le_add_right->Tg,succ_le_succ->TC,min_eq_right->Uh,add_assoc->U0,sub_lt_sub_left->Vh,add_le_add_left->Vi,lt_trans->Vt,sub_self->Vw,sub_add_cancel->Vy,and_one_is_mod->Vz,le_of_not_lt->VU,succ_sub_one->VW,succ_mul->Ym,mul_comm->Yn,min_self->Yo,sub_zero->Yp
open Bool renaming and_eq_true->Aa6,false_ne_true->Ab0,and_eq_true_iff->Af7,or_eq_true_iff->Aj5,eq_iff_iff->Al4,false_eq_true->Am5,noConfusion->An1,or_true->Uc,true_and->U1,or_eq_true->Yd,and_false->Ye,false_and->Yg,or_false->Yh,false_or->Yi
open Option renaming bind_eq_some_iff->Ac0,map_eq_some_iff->Ac6,isSome_iff_exists->Ad3,isNone_iff_eq_none->Ad8,some->Ae3,bind_some->Ah8,isNone_none->Ai3,map_some->Ak7,isSome_map->VH
open Int renaming toNat_natCast->Af1,eq_ofNat_of_zero_le->Ai8,fdiv_eq_ediv_of_nonneg->Ak,emod_nonneg->Al6,emod_lt_of_pos->Am6,natCast_nonneg->SK,fmod_eq_emod_of_nonneg->TY,toNat_of_nonneg->Va,natCast_mul->V5,ediv_one->Yl,ne_of_gt->Yq,one_mul->Yr
open Array renaming length_toList->Ag4,toList_inj->Ah,toList->Aj7,getElem?_eq_getElem->T5,getElem?_eq_none->UC
open Classical renaming propDecidable->Ai1,not_not->Am2
open Decidable renaming decide->u9
open Option renaming some->y0,none->u0
open Bool renaming true->k9,false->y9
open Array renaming size->Array.j,toList->Array.p,push->Array.w,setIfInBounds->Array.y
open Bool renaming toNat->Bool.j
open Eq renaming trans->Eq.x,symm->Eq.I
open False renaming elim->False.j
open Iff renaming mp->Iff.j,mpr->Iff.p
open Int renaming toNat->Int.j,natAbs->Int.p
open List renaming length->List.e,toArray->List.j,lookup->List.p,contains->List.w,map->List.y,set->List.B,any->List.C,getD->List.G,isEmpty->List.K,drop->List.L,take->List.M,Nodup->List.N,all->List.T,filterMap->List.X,flatten->List.Z,foldl->List.a0,zip->List.a1,filter->List.a2,isPrefixOf->List.a4
open Nat renaming testBit->Nat.j
open Ne renaming symm->Ne.I
open Option renaming map->Option.y,bind->Option.j,isSome->Option.p,isNone->Option.w
open Or renaming elim->Or.j,inl->Or.p,inr->Or.w
open PyProof.Rows.IsTup renaming typeIs->PyProof.Rows.IsTup.Y
open PySem.Around renaming handled->PySem.Around.j,in1->PySem.Around.p,deeper->PySem.Around.w,units->PySem.Around.y,under_plainId->Th
open PySem.CmpOp renaming NotIn->PySem.CmpOp.j
open PySem.Code renaming call->PySem.Code.j,builtin->PySem.Code.w,quiet_builtin->Tc
open PySem.Const renaming str->PySem.Const.o,none->PySem.Const.y
open PySem.Data renaming seq->PySem.Data.j,cell->PySem.Data.w,fields->PySem.Data.p
open PySem.Env renaming locals->PySem.Env.j,scope->PySem.Env.p,cells->PySem.Env.w,kindOf->PySem.Env.y,frame->PySem.Env.B
open PySem.ExceptHandler renaming ExceptHandler->PySem.ExceptHandler.j
open PySem.Expr renaming Attribute->PySem.Expr.j,Name->PySem.Expr.p,Call->PySem.Expr.w,Constant->PySem.Expr.y,Subscript->PySem.Expr.B,BoolOp->PySem.Expr.C,Compare->PySem.Expr.G,ListComp->PySem.Expr.K,Tuple->PySem.Expr.L,UnaryOp->PySem.Expr.M
open PySem.Flow renaming ret->PySem.Flow.j
open PySem.FuncData renaming scope->PySem.FuncData.p,params->PySem.FuncData.j
open PySem.Heap renaming objs->PySem.Heap.j,get?->PySem.Heap.p,push->PySem.Heap.w,UpToSlots->PySem.Heap.y,update->PySem.Heap.B,FunFrames->PySem.Heap.C,IsTupleIter->PySem.Heap.G,IsTuple->PySem.Heap.K,IsList->PySem.Heap.L,IsCell->PySem.Heap.M
open PySem.Heap.SameBut renaming extBut->PySem.Heap.SameBut.A
open PySem.NameKind renaming cell->PySem.NameKind.w,free->PySem.NameKind.C
open PySem.Obj renaming data->PySem.Obj.j,dict->PySem.Obj.p,cls->PySem.Obj.w,data_mapFields->Tp,isFreed_of_fields->UG
open PySem.Paired renaming cons->PySem.Paired.j,nil->PySem.Paired.p
open PySem.PlainL renaming isList->PySem.PlainL.Q
open PySem.Pos renaming endLine->PySem.Pos.j,line->PySem.Pos.p
open PySem.Scope renaming names->PySem.Scope.j,kind->PySem.Scope.p
open PySem.ScopeKind renaming function->PySem.ScopeKind.j
open PySem.Shared renaming heap->PySem.Shared.j,toks->PySem.Shared.p,gens->PySem.Shared.w
open PySem.Slot renaming lookup->PySem.Slot.p
open PySem.Stmt renaming Assign->PySem.Stmt.j,Return->PySem.Stmt.p,Raise->PySem.Stmt.w
open PySem.Str renaming length->PySem.Str.e,cps->PySem.Str.j,ofString_eq_toList->Tw
open PySem.Value renaming str->PySem.Value.o,ref->PySem.Value.j,int->PySem.Value.u,type->PySem.Value.p,builtin->PySem.Value.w,none->PySem.Value.y,bool->PySem.Value.B
open PySem.W.Looks renaming andThen->PySem.W.Looks.a5
open PySem.World renaming params->PySem.World.j
open Sum renaming inl->Sum.p,inr->Sum.w
open PySem renaming wpAny_bind->AC,wpAny_pure->Do,wpAny_holding->IR,wpAny_mono->L2,wpAny_Call_Name_kw->Pv,wpAny_field->Re,wpAny_truthy_bool->SA,wpAny_callSpecial?_slot->SE,wpAny_call_entry->SF,wpAny_standAt->SG,mem_of_lookup->SI,codeAny_mono->SL,codeAny_builtin->SM,wpAny_execs_cons->SR,wpAny_seqItems->SS,wpAny_loadPart_at->SV,sizeLine_eq->SW,wpAny_call->SX,call_meets->SY,wpAny_passesOwn->SZ,wpAny_newObj_type->S1,wpAny_pyIter_list->S2,codeAny_call_builtin->S4,wpAny_getItem_str_slice->S7,wpAny_execs_nil->Ta,typeIs_str->Tb,wpAny_pyIter_tuple->Td,wpAny_setField_rec->Te,wpAny_of_eq->Tf,wpAny_handleBy_cons->Tj,wpAny_letGo->Tu,wpAny_attempt->Tz,plainId_quiet->TB,plainObj_wpAny_Assign_Attribute->TH,post_val_or_str->TK,wpAny_loadPart'->TM,wpAny_isSubtype_exc->TQ,wpAny_setField->TU,wpAny_tryCatch->TV,wpAny_Return_some->T3,wpAny_sequenceKey->T4,concat_meets->T8,noFill_tuple_add->T9,wpAny_typeOf->Ua,wpAny_Try_except->Ue,pushCells_keeps->Ur,wpAny_specialOf->Ut,wpAny_updateSeq->Uu,wpAny_pyNext_list_item->Uz,codeAny_handlers_suite->UB,wpAny_isTrue_Compare1->UE,wpAny_runValue->UH,wpAny_pyNext_list_end->UJ,wpAny_rule->UO,wpAny_updateSeq_pair->UR,seq_tuple_add->UV,wpAny_onRaise->UX,wpAny_newList->UY,strLen_append->UZ,wpAny_Assign_stores->U4,wpAny_setItem_pairs->Vc,meets_str_split_sep->Vf,seqIndex_neg->Vo,slot_dict_contains->Vv,wpAny_assign_Name->VA,list_append->VF,slot_dict_getitem->VI,wpAny_pyIter_enum->VJ,seqIndex_of->VM,wpAny_point->VN,wpAny_throw->VO,wpAny_pyHash_str->VP,wpAny_lookBehind->VR,pastItsLine_dict->VS,wpAny_Dict_empty->VX,wpAny_isInstance->VY,wpAny_pyIter_zip->VZ,wpAny_Name->V2,typeIs_int->V4,codeAny_of_tree->V7
open PyProof.Rows renaming callWith_type1->P3,slot_tuple_getitem->SU,callWith_builtin1->TJ,subscriptTail_builtinR->Ux,Constant_none->UU,tupleItemsOf_->UW,tail_any->VT,get?_update_seq->V6,boot_isinstance->Yc
open PySem.F renaming slot_str_split->SH,plain_min_loop->SO,plainAttrs_str->SQ,slot_tuple_iterator_next->S0,entry_str_split->S8,plainAttrs_list->S9,args_tuple_add_2->To,entry_tuple_add->Tq,slot_tuple_add->Tt,type_str_split->Tv,slot_tuple_iterator_next->TF,args_tuple_iterator_next_1->TR,entry_tuple_iterator_next->TX,excBase_ValueError->TZ,slot_str_partition->T1,args_str_split_2->Ud,slot_list_append->Ui,type_list_append->Uj,slot_list_index->Uo,plainAttrs_dict->Up,entry_min_loop->UA,slot_dict_get->UK,slot_dict_pop->UL,args_list_append_2->UN,entry_list_append->U9,slot_list_append->Vq,slot_zip_next->V9,slot_int_rmul->Ya
open PySem.Calls renaming Name_function_global->Ti,spliced_cons->Tn,spliced_nil->Ts,loadGlobal_global->Uk,callWith_builtin->Uy,evalArgs_plain->UM,Constant_str->Vl
open PyProof.Rows.F renaming plain_set_update_loop->Tr,entry_set_update_loop->Ul
open PySem.Heap.Ns renaming of_isNs->Us
open PyProof renaming noPylong_small->Uw
open PySem.StrLaws renaming occ_eq->UI
open PySem.SeqAt.EqAt renaming int_str->Vj,str_int->Vk
open PySem.SeqAt renaming notIn_listAt->Vp,in_listAt->V3
open PySem.Heap.Ns1 renaming of_empty->VD
def Da:=@of_decide_eq_true
def Fk:=@if_pos
def FB:=@if_neg
def FS:=@decide_eq_false
def On:=@decide_eq_true
def Os:=@if_true
def Pi:=@decide_eq_true_eq
def SD:=@of_decide_eq_false
def SJ:=@or_false
def SN:=@eq_false_of_ne_true
def S5:=@if_false
def S6:=@beq_self_eq_true
def TN:=@beq_iff_eq
def Ug:=@not_or
def UT:=@and_self
def Y7{p:Prop}(h:p:=by decide):p:=h
def Y8{p:Prop}(h:p:=by lia):p:=h
def Y9{p:Prop}(h:p:=by simp):p:=h
def ZAA{a b c:Nat}(h:a<=b:=by assumption)(g:b<=c:=by decide):a<=c:=Nat.le_trans h g
namespace Lake
open PySem PySem.Spec PyProof.Rows
abbrev bW:=Sum Int Str
noncomputable def xP:bW->Value->Bool
|.p k,v=>Value.isInt k v
|.w x,v=>Value.isStrOf x v
noncomputable def DI(w:World):bW->Int
|.p k=>hashInt k
|.w x=>hashStr w x
def xc:∀{k}{v},xP k v=k9->(∃i t,k=Sum.inl i/\v=Value.int i t)\/(∃x t,k=Sum.inr x/\v=Value.str x t)
|.p i,v,h=>by obtain⟨t,e⟩:=Value.isInt_shape h;exact .p ⟨i,t,rfl,e⟩
|.w x,v,h=>by obtain⟨t,e⟩:=Value.isStrOf_shape h;exact .w ⟨x,t,rfl,e⟩
def ZT(i)(t):xP (.p i) (.u i t)=true:=by simp[xP,Value.isInt]
def qZ(x)(t):xP (.w x) (.o x t)=true:=by simp[xP,Value.isStrOf]
def Hr(a b):u9 ((Sum.inl a:bW)=Sum.inl b)=(a==b):=by grind
def Nc(a b):u9 ((Sum.inr a:bW)=Sum.inr b)=u9 (a=b):=by simp
def NU(a)(b):u9 ((Sum.inl a:bW)=Sum.inr b)=false:=FS<|λq=>nomatch q
def LX(a)(b):u9 ((Sum.inr a:bW)=Sum.inl b)=false:=FS<|λq=>nomatch q
noncomputable def Jg(prog:Program)(w:World):PySem.KeyKind prog w bW where
 is:=xP
 hash:=DI w
 inj:=λv a b l f=>by
  rcases xc l with⟨i,t,rfl,rfl⟩|⟨x,t,rfl,rfl⟩
  .rcases xc f with⟨j,u,rfl,e⟩|⟨y,u,rfl,e⟩
   .injection e with c _;rw[c]
   .exact nomatch e
  .rcases xc f with⟨j,u,rfl,e⟩|⟨y,u,rfl,e⟩
   .exact nomatch e
   .injection e with c _;rw[c]
 byValue:=λk v h=>by
  rcases xc h with⟨i,t,rfl,rfl⟩|⟨x,t,rfl,rfl⟩<;>rfl
 pyHash:=λd h=>by
  rcases xc d with⟨i,t,rfl,rfl⟩|⟨x,t,rfl,rfl⟩
  .exact wpAny_pyHash_int h
  .exact VP h
 eqBool:=λg d h=>by
  rcases xc g with⟨i,t,rfl,rfl⟩|⟨x,t,rfl,rfl⟩
  .rcases xc d with⟨j,u,rfl,rfl⟩|⟨y,u,rfl,rfl⟩
   .rw[Hr]at h;exact wpAny_eqBool_int h
   .rw[NU]at h;exact Vj i t y u _ _ _ _ h
  .rcases xc d with⟨j,u,rfl,rfl⟩|⟨y,u,rfl,rfl⟩
   .rw[LX]at h;exact Vk x t j u _ _ _ _ h
   .rw[Nc]at h;exact wpAny_eqBool_str h
 «strs»:=λk x t v h=>by
  rcases xc h with⟨i,u,rfl,e⟩|⟨y,u,rfl,e⟩
  .exact nomatch e
  .injection e with c _
   subst c;cases v<;>rfl
def jr(prog)(w)(i)(t):(Jg prog w).is (.p i) (.u i t)=true:=ZT i t
def jh(prog)(w)(x)(t):(Jg prog w).is (.w x) (.o x t)=true:=qZ x t
set_option genCtorIdx true
inductive V where
|ai|bl (b:Bool)|int (i:Int)|str (x:Str)|ref (a:Addr)|ty (n:String)
 deriving DecidableEq
set_option genCtorIdx false
open Lake renaming V.str->Lake.V.o,V.ref->Lake.V.j,V.int->Lake.V.u,V.bl->Lake.V.K
def RelV:V->Value->Prop
|.ai,u=>u=Value.none
|.K b,u=>u=Value.bool b
|.u i,u=>∃t,u=Value.int i t
|.o x,u=>∃t,u=Value.str x t
|.j a,u=>u=Value.ref a
|.ty n,u=>u=Value.type n
abbrev Vals:List V->List Value->Prop:=Paired RelV
theorem Vals.length (r:Vals xs us):xs.e=us.e:=Paired.length r
open Lake renaming Vals.length->Lake.Vals.e
theorem Vals.get:∀{xs}{us}{i:Nat}{x},Vals xs us->xs[i]?=y0 x->∃u,us[i]?=y0 u/\RelV x u
|_,_,_,_,.p,e=>by simp at e
|_,_,0,_,.j r _,e=>by simp at e;subst e;exact⟨_,rfl,r⟩
|_,_,i+1,x,.j _ t,e=>by obtain⟨u,a,b⟩:=Vals.get t (by simpa using e);exact⟨u,by simpa using a,b⟩
theorem Vals.set (r:RelV x u):∀{xs}{us} i,Vals xs us->Vals (xs.B i x) (us.B i u)
|_,_,_,.p=>.p
|_,_,0,.j _ t=>.j r t
|_,_,i+1,.j q t=>.j q<|Vals.set r i t
theorem Vals.append:∀{xs ys}{us ws},Vals xs us->Vals ys ws->Vals (xs++ys) (us++ws)
|_,_,_,_,.p,s=>s
|_,_,_,_,.j r t,s=>.j r<|Vals.append t s
theorem Vals.take:∀{xs}{us}(n),Vals xs us->Vals (xs.M n) (us.M n)
|_,_,0,_=>.p
|_,_,_+1,.p=>.p
|_,_,n+1,.j r t=>.j r<|Vals.take n t
theorem Vals.drop:∀{xs}{us}(n),Vals xs us->Vals (xs.L n) (us.L n)
|_,_,0,r=>r
|_,_,_+1,.p=>.p
|_,_,n+1,.j _ t=>Vals.drop n t
def bJ:Option V->Option Value->Prop
|some v,y0 u=>RelV v u
|none,none=>True
|_,_=>False
def KV{a:Type}:List (a×V)->List (a×Value)->Prop:=Paired λ(p:a×V)(q:a×Value)=>p.1=q.1/\RelV p.2 q.2
noncomputable def kV:bW->V
|.p i=>.u i
|.w x=>.o x
set_option genCtorIdx true
inductive HO where
|lst (xs:List V)
|tup (xs:List V)
|dK (kvs:List<|bW×V)
|ins (C dx:Addr)(fs:List<|Str×V)
|own (x:Addr)
|xd (fs:List<|Str×V)
|cS (o:Obj)(u:HO)
|ext (φ:Heap->Prop)
set_option genCtorIdx false
open Lake renaming HO.tup->Lake.HO.p,HO.lst->Lake.HO.w,HO.own->Lake.HO.j,HO.ins->Lake.HO.y
abbrev Hp:=Addr->Option HO
noncomputable def ax(H:Hp)(a:Addr)(o:HO):Hp:=λb=>if b=a then y0 o else H b
def Xa:ax H a o a=y0 o:=by unfold ax;rw[Fk rfl]
def Ja(h:b≠a):ax H a o b=H b:=by unfold ax;rw[FB h]
def Zb{H:Hp}(h:H a=y0 o)(h':H b=u0):a≠b:=by intro e;subst e;rw[h]at h';cases h'
def dy(h:Heap)(a:Addr)(b:Array Value):Prop:=∃o,h.p a=some o/\o.w=.p "tuple"/\o.p=none/\∃n,o.j=.j b n
def dy.is (p:dy h a y8):IsTup h a y8:=let⟨o,e,c,_,n,d⟩:=p;⟨o,e,c,n,d⟩
theorem dy.lt (p:dy h a y8):a<h.j.j:=p.is.lt
def dy.new (h:Heap)(y8):dy (h.w {cls:=.p "tuple",data:=.j y8}) h.j.j y8:=⟨_,Aa5 _ rfl,rfl,rfl,_,rfl⟩
section
variable(P:Program)(w:World)
def aE(H:Hp)(h:Heap)(a:Addr):HO->Prop
|.w xs=>xs.e<=sizeLine/\∃(b:List Value)(n:Nat),Vals xs b/\h.p a=y0 {cls:=.p "list",data:=.j b.j n}
|.p xs=>xs.e<=sizeLine/\∃b:List Value,Vals xs b/\dy h a b.j
|.dK kvs=>kvs.e<=sizeLine/\(a==sysModules)=y9/\∃vs,KV kvs vs/\h.DictOf (Jg P w) a vs
|.y C dx fs=>H dx=y0 (.j a)/\fs.e<=1000/\dx≠a/\h.p a=y0 (Ai2 C dx)∧
  ∃mA,h.Ns1 dx mA/\(∀f,bJ (fs.p f)<|mA f)/\PySem.Within mA (fs.y (·.1))
|.j _=>∃o,h.p a=y0 o
|.xd fs=>∃mA,h.Ns1 a mA/\∀f,bJ (fs.p f)<|mA f
|.cS o u=>h.p a=y0 o/\aE H h a u
|.ext c=>c h/\(∃o,h.p a=y0 o)/\∀h1 h2:Heap,c h1->(∀o,h1.p a=y0 o->h2.p a=y0 o)->c h2
def ck(H:Hp)(h:Heap):Prop:=∀a o,H a=y0 o->aE P w H h a o
end
section
variable{P:Program}{w:World}{H H':Hp}{h h':Heap}{a:Addr}{o:HO}
theorem aE.lt (x:aE P w H h a o):a<h.j.j:=by
 cases o with
|lst b=>obtain⟨_,_,_,_,e⟩:=x;exact Aa9 e
|tup b=>obtain⟨_,_,_,p⟩:=x;exact p.lt
|dK c=>obtain⟨_,_,_,_,o,_,_,e,_⟩:=x;exact Aa9 e
|ins C dx fs=>obtain⟨_,_,_,e,_⟩:=x;exact Aa9 e
|own y=>obtain⟨_,e⟩:=x;exact Aa9 e
|xd fs=>obtain⟨_,⟨_,_,_,e,_⟩,_⟩:=x;exact Aa9 e
|cS d u=>obtain⟨e,_⟩:=x;exact Aa9 e
|ext φ=>obtain⟨_,⟨_,e⟩,_⟩:=x;exact Aa9 e
def aE.c9 (x:aE P w H h a o)(k:∀b u,(b=a\/H b=y0 (.j a))->h.p b=y0 u->h'.p b=y0 u)
 (v:∀b,H b=y0 (.j a)->H' b=y0 (.j a)):aE P w H' h' a o:=by
 induction o with
|lst t=>obtain⟨z,f,n,r,e⟩:=x;exact⟨z,f,n,r,k _ _ (.p rfl) e⟩
|tup t=>obtain⟨z,f,r,g,e,c⟩:=x;exact⟨z,f,r,g,k _ _ (.p rfl) e,c⟩
|dK B=>obtain⟨z,y,A,r,g,i,j,e,c⟩:=x;exact⟨z,y,A,r,g,i,j,k _ _ (.p rfl) e,c⟩
|ins C dx fs=>obtain⟨d,z,ne,e,m,⟨l,i,j,E,c⟩,r⟩:=x;exact⟨v _ d,z,ne,k _ _ (.p rfl) e,m,⟨l,i,j,k _ _ (.w d) E,c⟩,r⟩
|own y=>obtain⟨g,e⟩:=x;exact⟨g,k _ _ (.p rfl) e⟩
|xd fs=>obtain⟨m,⟨l,i,j,e,c⟩,r⟩:=x;exact⟨m,⟨l,i,j,k _ _ (.p rfl) e,c⟩,r⟩
|cS g u D=>obtain⟨e,q⟩:=x;exact⟨k _ _ (.p rfl) e,D q⟩
|ext φ=>obtain⟨p,⟨o,e⟩,s⟩:=x;exact⟨s _ _ p λo q=>k _ _ (.p rfl) q,⟨o,k _ _ (.p rfl) e⟩,s⟩
theorem ck.lt (x:ck P w H h)(e:H a=y0 o):a<h.j.j:=(x a o e).lt
def ck.fresh (x:ck P w H h)(e:h.j.j<=a):H a=none:=by
 cases q:H a with
|none=>rfl
|some u=>exact absurd (Ab4 (x.lt q) e)<|Ag9 _
def ck.kept (x:ck P w H h)(k:∀b u,h.p b=y0 u->h'.p b=y0 u):ck P w H h':=λa o e=>
 (x a o e).c9 (λb u _ q=>k b u q)<|λ_ q=>q
def ck.laid (x:ck P w H h)(k:∀b u,h.p b=y0 u->h'.p b=y0 u)(f:h.j.j<=a)(new:aE P w (ax H a o) h' a o):ck P w (ax H a o) h':=λb u e=>by
 by_cases d:b=a
 .subst d;rw[Xa]at e;cases e;exact new
 .rw[Ja d]at e;exact(x b u e).c9 (λc v _ q=>k c v q)<|λc q=>by rwa [Ja<|Zb q<|x.fresh f]
end
def Rd(H:Hp)(a:Addr)(u:HO):Prop:=H a=y0 u\/∃o,H a=y0 (.cS o u)
def Rd.ok (r:Rd H a u)(x:ck P w H h):aE P w H h a u:=by
 obtain r|⟨o,r⟩:=r
 .exact x a u r
 .obtain⟨_,q⟩:=x a _ r;exact q
def nE:Option HO->Prop
|some (.w _)=>True
|some (.dK _)=>True
|some (.y _ _ _)=>True
|some (.ext _)=>True
|_=>False
section
variable{P:Program}{w:World}{H:Hp}{h h':Heap}{x e:Addr}{o':HO}
def ck.write (ok:ck P w H h)(f:nE<|H x)(o:e=x\/H e=y0 (.j x))(k:∀b u,b≠e->h.p b=y0 u->h'.p b=y0 u)(j:∃u,h'.p e=y0 u)
 (new:aE P w (ax H x o') h' x o'):ck P w (ax H x o') h':=λb u q=>by
 have d:∀c y,H c=y0 (.j y)->c≠x:=λc y r z=>by subst z;rw[r]at f;exact f
 have m:∀c l,H c=y0 (.p l)->c≠x:=λc l r z=>by subst z;rw[r]at f;exact f
 by_cases g:b=x
 .subst g;rw[Xa]at q;cases q;exact new
 .rw[Ja g]at q;by_cases a:b=e
  .have n:H b=y0 (.j x):=by
    obtain z|z:=o
    .exact absurd (a.x z) g
    .rwa [a]
   rw[q]at n;cases n;obtain⟨v,p⟩:=j;exact⟨v,by rw[a];exact p⟩
  .refine(ok b u q).c9 (λc v i r=>k c v ?_ r) (λc r=>by rwa [Ja<|d c b r]);obtain rfl|i:=i
   .exact a
   .rintro rfl;obtain z|z:=o
    .exact d c b i z
    .rw[i]at z;cases z;exact g rfl
end
structure Un(fs ex:List Addr)(H H':Hp)(h h':Heap):Prop where
 keep:∀b o,h.p b=y0 o->H b=u0->b∉fs->b∉ex->h'.p b=y0 o
 slot:∀b o,h.p b=y0 o->H b=u0->b∈fs->b∉ex->∃sl,h'.p b=y0 {o with slots:=sl}
 free:∀b o,h.p b=y0 o->H b=u0->b∉ex->H' b=u0
 there:∀b o,h.p b=y0 o->b∉ex->∃o',h'.p b=y0 o'
 cV:∀b xs,H b=y0 (.p xs)->H' b=y0 (.p xs)
 cM:∀b o u,H b=y0 (.cS o u)->H' b=y0 (.cS o u)
open Lake renaming Un.free->Lake.Un.C,Un.keep->Lake.Un.j,Un.there->Lake.Un.p,Un.slot->Lake.Un.w
section
variable{fs fs' ex ex':List Addr}{H H1 H2:Hp}{h h1 h2 h':Heap}{a x e:Addr}{o:HO}
def Un.any (u:Un fs ex H H1 h h1)(q:h.p b=y0 ob)(n:H b=u0)(a:b∉ex):∃j,h1.p b=y0 {ob with slots:=j}:=by
 by_cases c:b∈fs
 .exact u.w b ob q n c a
 .exact⟨ob.slots,u.j b ob q n c a⟩
def Un.kept (k:∀b u,h.p b=y0 u->h'.p b=y0 u):Un fs ex H H h h':=
 ⟨λb a q _ _ _=>k b a q,λb a q _ _ _=>⟨a.slots,k b a q⟩,λ_ _ _ n _=>n,λb a q _=>⟨a,k b a q⟩,λ_ _ q=>q,λ_ _ _ q=>q⟩
def Un.refl:Un fs ex H H h h:=Un.kept λ_ _ q=>q
def Un.laid (k:∀b u,h.p b=y0 u->h'.p b=y0 u)(e:h.j.j<=a)(c:H a=u0):Un fs ex H (ax H a o) h h' where
 keep:=λb u q _ _ _=>k b u q
 slot:=λb u q _ _ _=>⟨u.slots,k b u q⟩
 free:=λb u q n _=>by rw[Ja<|Ab5<|Ab4 (Aa9 q) e];exact n
 there:=λb u q _=>⟨u,k b u q⟩
 cV:=λb d q=>by rw[Ja<|Zb q c];exact q
 cM:=λb u d q=>by rw[Ja<|Zb q c];exact q
def Un.write (c:nE<|H x)(l:e=x\/H e=y0 (.j x))(k:∀b u,b≠e->h.p b=y0 u->h'.p b=y0 u)(d:∃u,h'.p e=y0 u):Un fs ex H (ax H x o) h h':=by
 have hx:∀b,H b=u0->b≠x:=λb n z=>by subst z;rw[n]at c;exact c
 have f:∀b,H b=u0->b≠e:=λb n z=>by
  subst z;obtain r|r:=l
  .exact hx b n r
  .rw[n]at r;cases r
 have g:∀b u,H b=y0 u->¬nE (y0 u)->b≠x:=λb u q j z=>by subst z;rw[q]at c;exact j c
 refine⟨λb u q n _ _=>k b u (f b n) q,λb u q n _ _=>⟨u.slots,k b u (f b n) q⟩,λb u q n _=>by rw[Ja<|hx b n];exact n,λb u q _=>?_,
  λb i q=>by rw[Ja<|g b _ q λz=>z];exact q,λb u i q=>by rw[Ja<|g b _ q λz=>z];exact q⟩
 by_cases a:b=e
 .subst a;exact d
 .exact⟨u,k b u a q⟩
end
noncomputable def gZ(h:Heap)(H:Hp):List Addr:=(Ab1 h.j.j).a2 λa=>(H a).p
def lS(h:Heap)(H:Hp):Heap:=PySem.W.hideAll h<|gZ h H
def Sq(h)(H):(lS h H).j.j=h.j.j:=PySem.W.hideAll_size _ _
def Rz(e:h.p b=y0 o)(n:H b=u0):(lS h H).p b=y0 o:=
 PySem.W.hideAll_get _ e λa=>by have q:=(Al1.j a).2;rw[n]at q;simp at q
def Dh(e:(lS h H).p b=y0 o):h.p b=y0 o/\H b=none:=by
 have a:=PySem.W.of_hideAll _ e;refine⟨a,?_⟩;cases q:H b with
|none=>rfl
|some x=>have z:(lS h H).p b=none:=PySem.W.hideAll_none _<|Al1.p ⟨Af8.p<|Aa9 a,by simp[q]⟩;rw[z]at e;cases e
structure Mod(K:Aa1)(mg:Str->Option Value)(base:Heap):Prop where
 eQ:K.In base
 glob:base.Ns mainGlobals mg
 blt:∃mb,base.Ns builtinsNs mb/\∀x:Str,x≠"__name__"->mb x=bootBuiltins x
 nolimit:base.NoLimit
structure Cx where
 prog:Program
 w:World
 K:Aa1
 mg:Str->Option Value
 base:Heap
 A:Around
 N:List Str
 s₀:Shared
 H₀:Hp
 env:Env
 outer:List Env
 stack:List Env
 ex:List Addr
 fn:Str->Bool
 calm:Bool
 pn:List<|Addr×Obj
 xe:Value->Shared->Prop
open Lake renaming Cx.env->Lake.Cx.j,Cx.prog->Lake.Cx.p,Cx.base->Lake.Cx.y,Cx.stack->Lake.Cx.B,Cx.outer->Lake.Cx.G,Cx.xe->Lake.Cx.L,Cx.mg->Lake.Cx.M
noncomputable def bA(l:List Env):List Addr:=l.X (·.B)
abbrev Cx.fs (X:Cx):List Addr:=bA X.G
def lH(a:Scope)(x:Str):Prop:=a.j.p x=y0 .local\/a.j.p x=y0 .w\/a.j.p x=y0 .C
def lR(a:Scope)(x:Str):Prop:=a.j.p x=y0 .local\/a.j.p x=y0 .w
def Aw(env:Env)(h:Heap)(m:Str->Option Value)(x:Str)(u:Value):Prop:=
 (env.y x=y0 .local/\m x=y0 u)\/((env.y x=y0 .w\/env.y x=y0 .C)/\∃c,env.w.p x=y0 c/\h.M c (y0 u))
structure Cx.Ok (X:Cx):Prop where
 mod:Mod X.K X.M X.y
 kind:X.j.p.p=.j
 glob:X.j.globals=mainGlobals
 blt:X.j.builtins=builtinsNs
 above:X.s₀.j.j.j<=X.j.j
 inj:∀x y c,X.j.w.p x=y0 c->X.j.w.p y=y0 c->x=y
 has:∀x,(X.j.y x=y0 .w\/X.j.y x=y0 .C)->∃c,X.j.w.p x=y0 c
 lQ:∀x c,X.fn x=k9->X.j.w.p x=y0 c->X.s₀.j.j.j<=c
 hd:X.calm=k9->X.A.j=u0
 frames:X.A.frames=y0 X.B
 fA:X.B=X.G\/(X.B=X.j::X.G/\X.j.B=y0 X.j.j)
 mj:∀b∈X.ex,b≠X.j.j/\∀x c,X.j.w.p x=y0 c->c≠b
 bs:∀b o,X.y.p b=y0 o->X.s₀.j.p b=y0 o/\X.H₀ b=u0
 f7:X.y.j.j<=X.s₀.j.j.j
 fj:∀b o,X.y.p b=y0 o->b∉X.ex
 fu:∀b∈X.ex,b∉X.fs
 cJ:X.s₀.j.C X.y X.G
 ia:∀b∈X.fs,X.H₀ b=u0
open Lake renaming Cx.Ok.kind->Lake.Cx.Ok.p,Cx.Ok.above->Lake.Cx.Ok.y
structure Inv(X:Cx)(pins:List<|Addr×Obj)(U:List<|Option V)(H:Hp)(s:Shared):Prop where
 ok:X.Ok
 os:s.os=X.s₀.os
 bare:AllBare s.w
 base:Un X.fs X.ex X.H₀ H X.s₀.j s.j
 loc:∃m,s.j.Ns X.j.j m/\∀(i:Nat)(x:Str)(v:V),X.N[i]?=y0 x->U[i]?=y0 (y0 v)->lH X.j.p x->∃u,RelV v u/\Aw X.j s.j m x u
 cell:∀x c,X.j.w.p x=y0 c->∃v,s.j.M c v
 free:H X.j.j=u0
 bj:∀x c,X.j.w.p x=y0 c->H c=u0
 pin:∀p∈X.pn++pins,s.j.p p.1=y0 p.2/\H p.1=u0/\p.1≠X.j.j/\p.1∉X.fs/\∀v,p.2.j≠.w v
 aF:ck X.p X.w H s.j
 len:U.e=X.N.e
open Lake renaming Inv.ok->Lake.Inv.p,Inv.base->Lake.Inv.y,Inv.cell->Lake.Inv.w,Inv.free->Lake.Inv.C,Inv.aF->Lake.Inv.L,Inv.pin->Lake.Inv.N,Inv.bare->Lake.Inv.Z
section
variable{X:Cx}{pins:List<|Addr×Obj}{U:List<|Option V}{H H':Hp}{s:Shared}{h':Heap}
def Cx.Ok.pB (ok:X.Ok)(e:X.y.p b=y0 o):b∉X.fs:=λa=>by have:=(ok.cJ.mem a).1;rw[e]at this;cases this
theorem Inv.bs (I:Inv X pins U H s):∀b o,X.y.p b=y0 o->s.j.p b=y0 o/\H b=none:=λb o e=>
 ⟨I.y.j b o (I.p.bs b o e).1 (I.p.bs b o e).2 (I.p.pB e)<|I.p.fj b o e,I.y.C b o (I.p.bs b o e).1 (I.p.bs b o e).2<|I.p.fj b o e⟩
def Inv.bk (I:Inv X pins U H s):∀b o,X.y.p b=y0 o->s.j.p b=y0 o:=λb o e=>(I.bs b o e).1
theorem Inv.mod (I:Inv X pins U H s):Mod X.K X.M X.y:=I.p.mod
def Inv.bg (I:Inv X pins U H s):X.K.In s.j:=I.p.mod.eQ.keeps I.bk
theorem Inv.lt (I:Inv X pins U H s):X.j.j<s.j.j.j:=let⟨_,a,_⟩:=I.loc;a.lt
def Inv.sz (I:Inv X pins U H s):X.s₀.j.j.j<=s.j.j.j:=Ac I.p.y<|Ag5 I.lt
def Inv.sh (I:Inv X pins U H s)(h:s.j.j.j<=a):a∉X.fs:=λc=>by obtain⟨_,o,b,_⟩:=I.p.cJ.mem c;exact absurd (Ab4 (Aa9 b)<|Ac I.sz h)<|Ag9 _
def Inv.iw (I:Inv X pins U H s):∀x c,X.j.w.p x=y0 c->c≠X.j.j:=λx c e z=>by obtain⟨v,o,f,d⟩:=I.w x c e;obtain⟨m,⟨g,i,h,b,a,_⟩,_⟩:=I.loc;rw[z,b]at f;cases f;rw[a]at d;cases d
theorem Inv.cJ (I:Inv X pins U H s):s.j.C X.y X.G:=by
 have all:∀l,(∀b∈bA l,b∈X.fs)->X.s₀.j.C X.y l->s.j.C X.y l:=by
  intro l;induction l with
|nil=>intro _ _;trivial
|cons i r h=>rintro f⟨m,⟨L,o,d,j,g,k⟩,n⟩;have c:=f L (by unfold bA;rw[Ag8,d];exact Aa2);obtain⟨p,e⟩:=I.y.w L o g (I.p.ia L c) c λz=>I.p.fu L z c;exact⟨m,⟨L,_,d,j,e,k⟩,h (λb a=>f b<|by unfold bA;rw[Ag8,d];exact Aa0 _ a) n⟩
 exact all X.G (λ_ a=>a) I.p.cJ
theorem Inv.stack (I:Inv X pins U H s):s.j.C X.y X.B:=by
 obtain e|⟨e,a⟩:=I.p.fA
 .rw[e];exact I.cJ
 .rw[e];obtain⟨m,b,_⟩:=I.loc;refine .cons (by rw[I.p.p];decide) a b ?_ I.cJ;exact Am<|Ac I.p.f7 I.p.y
def Inv.dU (I:Inv X pins U H s):∀b∈bA X.B,b∈X.j.j::X.fs:=λb a=>by
 obtain e|⟨e,c⟩:=I.p.fA
 .rw[e]at a;exact Aa0 _ a
 .rw[e]at a;unfold bA at a
  rwa [Ag8,c]at a
def Inv.c7 (I:Inv X pins U H s):∀b∈bA X.B,H b=none:=λb a=>by
 rcases Aa8.j (I.dU b a)with e|a
 .rw[e];exact I.C
 .obtain⟨_,o,c,_⟩:=I.p.cJ.mem a;exact I.y.C b o c (I.p.ia b a) λz=>I.p.fu b z a
def Inv.step {ch:List Addr}(I:Inv X pins U H s)
 (h:∀b∈ch,(b∈X.ex\/X.s₀.j.j.j<=b)/\b≠X.j.j/\(∀x c,X.j.w.p x=y0 c->c≠b)/\∀p∈X.pn++pins,p.1≠b)
 (keep:∀b o,b≠X.j.j->b∉X.fs->b∉ch->s.j.p b=y0 o->H b=u0->h'.p b=y0 o)
 (t:∀b o,b≠X.j.j->b∈X.fs->b∉ch->s.j.p b=y0 o->H b=u0->∃O,h'.p b=y0 {o with slots:=O})(a:∀b o,b∉ch->s.j.p b=y0 o->H b=u0->H' b=u0)
 (there:∀b o,b∉ch->s.j.p b=y0 o->∃o',h'.p b=y0 o')
 (C:∀b xs,H b=y0 (.p xs)->H' b=y0 (.p xs))(B:∀b o u,H b=y0 (.cS o u)->H' b=y0 (.cS o u))
 (ns:∀m,s.j.Ns X.j.j m->h'.Ns X.j.j m)(G:ck X.p X.w H' h')(P:AllBare g'):
 Inv X pins U H' {s with heap:=h',gens:=g',drawn:=d',toks:=t'}:=by
 have D:∀b o,X.s₀.j.p b=y0 o->b≠X.j.j:=λb o e=>Ab5<|Ab4 (Aa9 e) I.p.y;have j:∀b o,X.s₀.j.p b=y0 o->b∉X.ex->b∉ch:=λb o e hx w=>by
  obtain z|z:=(h b w).1
  .exact hx z
  .exact absurd (Ab4 (Aa9 e) z)<|Ag9 _
 have f:∀x c,X.j.w.p x=y0 c->∀v,s.j.M c v->h'.M c v:=by
  rintro x c e v ⟨o,A,F⟩;have g:=λz=>(h c z).2.2.1 x c e rfl;by_cases M:c∈X.fs
  .obtain⟨O,q⟩:=t c o (I.iw x c e) M g A<|I.bj x c e;exact⟨_,q,F⟩
  .exact⟨o,keep c o (I.iw x c e) M g A<|I.bj x c e,F⟩
 refine⟨I.p,I.os,P,⟨λb o e n w hx=>keep b o (D b o e) w (j b o e hx) (I.y.j b o e n w hx)<|I.y.C b o e n hx,λb o e n w hx=>?_,λb o e n hx=>?_,λb o e hx=>?_,λb xs e=>C b xs<|I.y.cV b xs e,λb o xs e=>B b o xs<|I.y.cM b o xs e⟩,?_,λx c e=>?_,?_,λx c e=>?_,λp K=>?_,G,I.len⟩
 .obtain⟨O,y⟩:=I.y.w b o e n w hx;obtain⟨E,J⟩:=t b _ (D b o e) w (j b o e hx) y<|I.y.C b o e n hx;exact⟨E,J⟩
 .obtain⟨o',y⟩:=I.y.p b o e hx;exact a b o' (j b o e hx) y<|I.y.C b o e n hx
 .obtain⟨o',y⟩:=I.y.p b o e hx;exact there b o' (j b o e hx) y
 .obtain⟨m,N,Q⟩:=I.loc;refine⟨m,ns m N,λi x v y J R=>?_⟩;obtain⟨u,r,l⟩:=Q i x v y J R;refine⟨u,r,?_⟩;obtain l|⟨k,c,e,z⟩:=l
  .exact .p l
  .exact .w ⟨k,c,e,f x c e _ z⟩
 .obtain⟨v,z⟩:=I.w x c e;exact⟨v,f x c e v z⟩
 .obtain⟨m,⟨o,_,_,A,_⟩,_⟩:=I.loc;exact a _ o (λz=>(h _ z).2.1 rfl) A I.C
 .obtain⟨v,o,A,F⟩:=I.w x c e;exact a c o (λz=>(h c z).2.2.1 x c e rfl) A<|I.bj x c e
 .obtain⟨e,n,ne,L,d⟩:=I.N p K;have g:=λz=>(h p.1 z).2.2.2 p K rfl;exact⟨keep p.1 p.2 ne L g e n,a p.1 p.2 g e n,ne,L,d⟩
def Inv.un (I:Inv X pins U H s)(u:Un X.fs [] H H' s.j h')(d:ck X.p X.w H' h'):Inv X pins U H' {s with heap:=h',toks:=t'}:=by obtain⟨m,⟨o,l,v,h,r⟩,_⟩:=id I.loc;obtain⟨q,j⟩:=u.any h I.C Y9;exact I.step (ch:=[]) (λ_ z=>nomatch z) (λb o _ f _ e n=>u.j b o e n f Y9) (λb o _ f _ e n=>u.w b o e n f Y9) (λb o _ e n=>u.C b o e n Y9) (λb o _ e=>u.p b o e Y9) u.cV u.cM (λt i=>by obtain⟨p,g,c,a,k⟩:=i;rw[h]at a;cases a;exact⟨_,g,c,j,k⟩) d I.Z
def Inv.call (I:Inv X pins U H s)(u:Un (bA X.B) ch H H' s.j h')(h:ck X.p X.w H' h')(q:AllBare g')
 (f:∀b∈ch,(b∈X.ex\/X.s₀.j.j.j<=b)/\b≠X.j.j/\(∀x c,X.j.w.p x=y0 c->c≠b)/\∀p∈X.pn++pins,p.1≠b):
 Inv X pins U H' {s with heap:=h',gens:=g',drawn:=d',toks:=t'}:=by
 obtain⟨m,⟨o,w,C,k,r⟩,_⟩:=id I.loc;obtain⟨A,j⟩:=u.any k I.C λz=>(f _ z).2.1 rfl;exact I.step f (λb o j t a e n=>u.j b o e n (λz=>(Aa8.j<|I.dU b z).j j t) a) (λb o _ _ a e n=>u.any e n a) (λb o a e n=>u.C b o e n a) (λb o a e=>u.p b o e a) u.cV u.cM (λB l=>by obtain⟨y,i,g,d,v⟩:=l;rw[k]at d;cases d;exact⟨_,i,g,j,v⟩) h q
def Inv.dN {ch:List Addr}(I:Inv X pins U H s)(k:∀b o,b∉ch->s.j.p b=y0 o->h'.p b=y0 o)(d:∀b∈ch,H b=u0/\b≠X.j.j/\(b∈X.ex\/X.s₀.j.j.j<=b)/\(∀x c,X.j.w.p x=y0 c->c≠b)/\∀p∈X.pn++pins,p.1≠b):Inv X pins U H {s with heap:=h',toks:=t'}:=by
 have f:∀b u,H b=y0 u->b∉ch:=λb u q z=>by rw[(d b z).1]at q;cases q
 refine I.step (λb g=>⟨(d b g).2.2.1,(d b g).2.1,(d b g).2.2.2⟩) (λb o _ _ a e _=>k b o a e) (λb o _ _ a e _=>⟨o.slots,k b o a e⟩) (λ_ _ _ _ n=>n)
  (λb o a e=>⟨o,k b o a e⟩) (λ_ _ e=>e) (λ_ _ _ e=>e) (λm i=>?_) (λb u q=>?_) I.Z
 .obtain⟨o,l,t,h,r⟩:=i;exact⟨o,l,t,k _ o (λz=>(d _ z).2.1 rfl) h,r⟩
 .refine(I.L b u q).c9 (λc v a j=>k c v ?_ j)<|λ_ q=>q;obtain z|z:=a
  .rw[z];exact f b u q
  .exact f c _ z
def Inv.turned (I:Inv X pins U H s)(k:∀b o,b≠it->s.j.p b=y0 o->h'.p b=y0 o)(f:H it=u0)(e:it≠X.j.j)
 (h1:it∈X.ex\/X.s₀.j.j.j<=it)(h2:∀x c,X.j.w.p x=y0 c->c≠it)(d:∀p∈X.pn++pins,p.1≠it):Inv X pins U H {s with heap:=h',toks:=t'}:=I.dN (ch:=[it]) (λb o a=>k b o<|by simpa using a) λb a=>by rw[Ab8.j a];exact⟨f,e,h1,h2,d⟩
def Inv.tok (I:Inv X pins U H s)(t):Inv X pins U H {s with toks:=t}:=I.un Un.refl I.L
theorem Inv.kept (I:Inv X pins U H s)(k:∀b u,s.j.p b=y0 u->h'.p b=y0 u):Inv X pins U H {s with heap:=h',toks:=t'}:=I.un (Un.kept k)<|I.L.kept k
theorem Inv.laid (I:Inv X pins U H s)(k:∀b u,s.j.p b=y0 u->h'.p b=y0 u)(c:s.j.j.j<=a)(new:aE X.p X.w (ax H a o) h' a o):
 Inv X pins U (ax H a o) {s with heap:=h',toks:=t'}:=I.un (Un.laid k c<|I.L.fresh c)<|I.L.laid k c new
theorem Inv.write (I:Inv X pins U H s)(c:nE<|H x)(d:e=x\/H e=y0 (.j x))(k:∀b u,b≠e->s.j.p b=y0 u->h'.p b=y0 u)(a:∃u,h'.p e=y0 u)
 (new:aE X.p X.w (ax H x o) h' x o):Inv X pins U (ax H x o) {s with heap:=h',toks:=t'}:=I.un (Un.write c d k a)<|I.L.write c d k a new
def Inv.bD (I:Inv X pins U H s)(h:∀p∈pins',s.j.p p.1=y0 p.2/\H p.1=u0/\p.1≠X.j.j/\p.1∉X.fs/\∀v,p.2.j≠.w v):Inv X pins' U H s:=
 ⟨I.p,I.os,I.Z,I.y,I.loc,I.w,I.C,I.bj,λp a=>(Ad9.j a).j (λz=>I.N p<|Ag3 _ z)<|h p,I.L,I.len⟩
def xN{N:List Str}(d:N.N){i j:Nat}(a:N[i]?=y0 x)(b:N[j]?=y0 x):i=j:=by obtain⟨e,c⟩:=Ab3.j b;exact(List.getElem_inj d).j<|(Ab3.j a).2.x c.I
def LY(I:Inv X pins U H s)(hN:X.N.N)(hi:X.N[i]?=y0 x)(w:lR X.j.p x)(r:RelV v u)
 (h:∀s',Inv X pins (U.B i<|y0 v) H s'->(∃a,Af5 a s.j s'.j/\(a=X.j.j\/X.j.w.p x=y0 a))->Q () s')(hf:X.fn x=k9\/X.j.p.j.p x=y0 .local:=by first|exact .inl rfl|exact .inr rfl|assumption):wpAny M A (storeName X.j x u) Q E s:=by
 obtain⟨m,Z,hl⟩:=id I.loc;have N:i<U.e:=by rw[I.len];exact(Ab3.j hi).1
 have iw:=I.iw;have g:∀{a}{K},(∃o,s.j.p a=y0 o/\H a=u0)->Af5 a s.j K->ck X.p X.w H K:=λ{a K} ha f b ob e=>by
  obtain⟨_,_,B⟩:=ha;refine(I.L b ob e).c9 (λc S t q=>(f.2 c ?_).x q)<|λ_ q=>q;rintro rfl;rcases t with rfl|t
  .rw[B]at e;cases e
  .rw[B]at t;cases t
 rcases w with D|D
 .refine wpAny_storeName_local D Z (λK T f=>?_) (by rw[I.p.p];rfl);obtain⟨oL,_,_,Y,_⟩:=id Z;refine h _ ⟨I.p,I.os,I.Z,⟨λb o e n J w=>(f.2 b<|Ab5<|Ab4 (Aa9 e) I.p.y).x<|I.y.j b o e n J w,λb o e n J w=>?_,I.y.C,λb o e w=>?_,I.y.cV,I.y.cM⟩,⟨_,T,λj y v' l C e3=>?_⟩,λy c e=>?_,I.C,I.bj,λp V=>?_,g ⟨oL,Y,I.C⟩ f,by simpa using I.len⟩ ⟨_,f,.p rfl⟩
  .obtain⟨sl,l⟩:=I.y.w b o e n J w;exact⟨sl,(f.2 b<|Ab5<|Ab4 (Aa9 e) I.p.y).x l⟩
  .obtain⟨o',l⟩:=I.y.p b o e w;exact⟨o',(f.2 b<|Ab5<|Ab4 (Aa9 e) I.p.y).x l⟩
  .by_cases G:j=i
   .subst G;rw[hi]at l;cases l;rw[Ac2 N]at C;cases C;exact⟨u,r,.p ⟨D,by simp⟩⟩
   .rw[Ac5<|Ne.symm G]at C;obtain⟨W,r',q⟩:=hl j y v' l C e3;refine⟨W,r',?_⟩;rcases q with⟨k,e⟩|⟨k,c,e,z⟩
    .refine .p ⟨k,?_⟩;have:y≠x:=λe=>G<|xN hN l<|e▸hi;simp[this,e]
    .exact .w ⟨k,c,e,z.sameBut f<|iw y c e⟩
  .obtain⟨S,z⟩:=I.w y c e;exact⟨S,z.sameBut f<|iw y c e⟩
  .obtain⟨e,n,ne,nf,d⟩:=I.N p V;exact⟨(f.2 p.1 ne).x e,n,ne,nf,d⟩
 .have F:X.fn x=true:=by
   rcases hf with z|z
   .exact z
   .rw[z]at D;cases D
  obtain⟨c,t⟩:=I.p.has x<|.p D;obtain⟨S,z⟩:=I.w x c t;refine wpAny_storeName_cell I.p.p D t z<|λK P f=>?_;obtain⟨oc,L,hocd⟩:=id z;refine h {s with heap:=K} ⟨I.p,I.os,I.Z,⟨λb o e n J w=>(f.2 b<|Ab5<|Ab4 (Aa9 e)<|I.p.lQ x c F t).x<|I.y.j b o e n J w,λb o e n J w=>?_,I.y.C,λb o e w=>?_,I.y.cV,I.y.cM⟩,⟨m,Z.sameBut f<|Ne.symm<|iw x c t,λj y v' l C e3=>?_⟩,λy R e=>?_,I.C,I.bj,λp V=>?_,g ⟨oc,L,I.bj x c t⟩ f,by simpa using I.len⟩ ⟨c,f,.w t⟩
  .obtain⟨sl,l⟩:=I.y.w b o e n J w;exact⟨sl,(f.2 b<|Ab5<|Ab4 (Aa9 e)<|I.p.lQ x c F t).x l⟩
  .obtain⟨o',l⟩:=I.y.p b o e w;exact⟨o',(f.2 b<|Ab5<|Ab4 (Aa9 e)<|I.p.lQ x c F t).x l⟩
  .by_cases G:j=i
   .subst G;rw[hi]at l;cases l;rw[Ac2 N]at C;cases C;exact⟨u,r,.w ⟨.p D,c,t,P⟩⟩
   .rw[Ac5<|Ne.symm G]at C;obtain⟨W,r',q⟩:=hl j y v' l C e3;refine⟨W,r',?_⟩;rcases q with q|⟨k,R,e,z'⟩
    .exact .p q
    .refine .w ⟨k,R,e,z'.sameBut f ?_⟩;rintro rfl;exact G<|xN hN l<|I.p.inj _ _ _ e t▸hi
  .by_cases O:R=c
   .subst O;exact⟨_,P⟩
   .obtain⟨w2,z2⟩:=I.w y R e;exact⟨w2,z2.sameBut f O⟩
  .obtain⟨e,n,ne,nf,d⟩:=I.N p V;refine⟨(f.2 p.1 ?_).x e,n,ne,nf,d⟩;intro q;rw[q,L]at e;exact d S<|by rwa [←(Ae3.inj e)]
def Ws(I:Inv X pins U H s)(d:X.N.N)(hi:X.N[i]?=y0 x)(c:lR X.j.p x)(r:RelV v u)
 (h:∀s',Inv X pins (U.B i<|y0 v) H s'->Q () s')(a:X.fn x=k9\/X.j.p.j.p x=y0 .local:=by first|exact .inl rfl|exact .inr rfl|assumption):wpAny M A (storeName X.j x u) Q E s:=
 LY I d hi c r (λs' b _=>h s' b) a
def Inv.iH (I:Inv X pins U H s)(f:s'.os=s.os)(u:Un (bA X.B) ch H H' s.j s'.j)(a:ck X.p X.w H' s'.j)(g:AllBare s'.w)
 (d:∀b∈ch,(b∈X.ex\/X.s₀.j.j.j<=b)/\b≠X.j.j/\(∀x c,X.j.w.p x=y0 c->c≠b)/\∀p∈X.pn++pins,p.1≠b):Inv X pins U H' s':=by
 obtain⟨l,i,j,k,h⟩:=s';have e:=f;subst e;exact I.call u a g d
end
abbrev XK:=Value->Option Addr->Hp->Prop
abbrev St:=List<|Option V
abbrev VK:=V->Hp->Prop
abbrev TE:=St->Hp->VK->Prop
abbrev TT:=St->Hp->(Bool->Hp->Prop)->Prop
abbrev TA:=St->Hp->(List V->Hp->Prop)->Prop
structure jH where
 nx:St->Hp->Prop
 rt:VK
 bk:St->Hp->Prop:=λ_ _=>False
 ct:St->Hp->Prop:=λ_ _=>False
abbrev TS:=jH->St->Hp->Prop
def EP(X:Cx)(a:List<|Addr×Obj)(U:St)(Q:VK)(u:Value)(b:Shared):Prop:=∃v H',Inv X a U H' b/\RelV v u/\Q v H'
def TP(X:Cx)(a:List<|Addr×Obj)(U:St)(Q:Bool->Hp->Prop)(b:Bool)(c:Shared):Prop:=∃H',Inv X a U H' c/\Q b H'
def AP(X:Cx)(a:List<|Addr×Obj)(U:St)(Q:List V->Hp->Prop)(us:List Value)(b:Shared):Prop:=∃vs H',Inv X a U H' b/\Vals vs us/\Q vs H'
def SP(X:Cx)(a:List<|Addr×Obj)(D:jH)(f:Flow)(c:Shared):Prop:=
 match f with
|.next=>∃b H',Inv X a b H' c/\D.nx b H'
|.brk=>∃b H',Inv X a b H' c/\D.bk b H'
|.cont=>∃b H',Inv X a b H' c/\D.ct b H'
|.j u=>∃v b H',Inv X a b H' c/\RelV v u/\D.rt v H'
def PE(X:Cx)(e:Expr)(t:TE):Prop:=
 ∀(pins:List<|Addr×Obj)(s:Shared)(U:St)(H:Hp)(Q:VK),Inv X pins U H s->t U H Q->wpAny (model X.p X.w) X.A (eval e X.j) (EP X pins U Q) X.L s
def PT(X:Cx)(e:Expr)(t:TT):Prop:=
 ∀(pins:List<|Addr×Obj)(s:Shared)(U:St)(H:Hp)(Q:Bool->Hp->Prop),Inv X pins U H s->t U H Q->wpAny (model X.p X.w) X.A (isTrue e X.j<|eval e X.j) (TP X pins U Q) X.L s
def PW(X:Cx)(e:Expr)(t:TT):Prop:=
 ∀(a:Sem Value)(pins:List<|Addr×Obj)(s:Shared)(U:St)(H:Hp)(Q:Bool->Hp->Prop),Inv X pins U H s->t U H Q->wpAny (model X.p X.w) X.A (isTrue e X.j a) (TP X pins U Q) X.L s
def PW.pt (h:PW X e t):PT X e t:=h _
def PA(X:Cx)(es:List Expr)(t:TA):Prop:=
 ∀(pos:Pos)(pins:List<|Addr×Obj)(s:Shared)(U:St)(H:Hp)(Q:List V->Hp->Prop),Inv X pins U H s->t U H Q->wpAny (model X.p X.w) X.A (spliced<|backTo pos<|starEach es X.j) (AP X pins U Q) X.L s
def PS(X:Cx)(st:Stmt)(t:TS):Prop:=
 ∀(pins:List<|Addr×Obj)(s:Shared)(U:St)(H:Hp)(D:jH),Inv X pins U H s->t D U H->wpAny (model X.p X.w) X.A (exec st X.j) (SP X pins D) X.L s
def cE(X:Cx)(st:List Stmt)(t:TS):Prop:=
 ∀(pins:List<|Addr×Obj)(s:Shared)(U:St)(H:Hp)(D:jH),Inv X pins U H s->t D U H->wpAny (model X.p X.w) X.A (execs st X.j) (SP X pins D) X.L s
def aD(h:wpAny M A t Q E s)(b:∀a s,Q a s->Q' a s):wpAny M A t Q' E s:=L2 h b λ_ _ x=>x
section
variable{X:Cx}
def l7(i:Nat):TE:=λU H Q=>∃v,U[i]?=y0 (y0 v)/\Q v H
def tC(v:V):TE:=λ_ H Q=>Q v H
def zu(p:X.N[i]?=some x)(n:lH X.j.p x)(g:(x==("__debug__":Str))=false:=by decide)(f:(x==("__classdict__":Str))=false:=by decide):PE X (.p x pos)<|l7 i:=by
 intro d s U H Q I h;obtain⟨v,e,h⟩:=h;obtain⟨m,o,q⟩:=I.loc;obtain⟨u,r,l⟩:=q i x v p e n;have fin:EP X d U Q u s:=⟨v,H,I,r,h⟩;obtain⟨b,k⟩|⟨b,c,j,a⟩:=l
 .exact V2 (wpAny_loadName_local I.p.p b o k fin) g
 .obtain b|b:=b
  .exact V2 (wpAny_loadName_cell I.p.p b j a fin) g
  .exact V2 (wpAny_loadName_free I.p.p b j a fin f) g
def sZ{i j pos}:PE X (.y (.int i) j pos)<|tC<|.u i:=λ_ _ _ H _ I h=>wpAny_Constant_int ⟨.u i,H,I.tok _,⟨_,rfl⟩,h⟩
def Pg{b j pos}:PE X (.y (.bool b) j pos)<|tC<|.K b:=λ_ _ _ H _ I h=>Constant_bool ⟨.K b,H,I,rfl,h⟩
def Fo{j pos}:PE X (.y .y j pos)<|tC .ai:=λ_ _ _ H _ I h=>UU ⟨.ai,H,I,rfl,h⟩
def xL{x j pos}:PE X (.y (.o x) j pos)<|tC<|.o x:=λ_ _ _ H _ I h=>Vl ⟨.o x,H,I.tok _,⟨_,rfl⟩,h⟩
def Gl(X:Cx)(x:Str):Prop:=X.j.y x=y0 .globalImplicit
def Wi(I:Inv X pins U H s)(b:Gl X x)(c:X.M x=y0 u)(h:Q u s)
 (a:(x==("__debug__":Str))=false:=by decide):wpAny (model X.p X.w) X.A (eval (.p x pos) X.j) Q E s:=
 Ti I.p.p b (Uk (by rw[I.p.glob];exact I.mod.glob.keeps I.bk) c h) a
def Zm(I:Inv X pins U H s)(d:Gl X x)(e:X.M x=u0)(a:bootBuiltins x=y0 u)(h:Q u s)
 (g:x≠"__name__":=by decide)(c:(x==("__debug__":Str))=false:=by decide):wpAny (model X.p X.w) X.A (eval (.p x pos) X.j) Q E s:=by
 obtain⟨i,b,f⟩:=I.mod.blt;exact Ti I.p.p d (Calls.loadGlobal_builtin (by rw[I.p.glob];exact I.mod.glob.keeps I.bk) e (by rw[I.p.blt];exact b.keeps I.bk) ((f x g).x a) h) c
def Jp(b:Gl X x)(c:X.M x=some u)(r:RelV v u)(a:(x==("__debug__":Str))=false:=by decide):PE X (.p x pos)<|tC v:=
 λ_ _ _ H _ I h=>Wi I b c ⟨v,H,I,r,h⟩ a
def Av(c:Gl X x)(d:X.M x=none)(a:bootBuiltins x=some u)(r:RelV v u)(e:x≠"__name__":=by decide)(b:(x==("__debug__":Str))=false:=by decide):PE X (.p x pos)<|tC v:=
 λ_ _ _ H _ I h=>Zm I c d a ⟨v,H,I,r,h⟩ e b
variable{a b:Expr}{ta tb:TE}{pos:Pos}
def PC(X:Cx)(e:CmpOp)(a b:Expr)(t:TE):Prop:=
 ∀(pins:List<|Addr×Obj)(s:Shared)(U:St)(H:Hp)(Q:VK),Inv X pins U H s->t U H Q→
  wpAny (model X.p X.w) X.A (eval a X.j) (λv c=>wpAny (model X.p X.w) X.A (eval b X.j) (λu d=>wpAny (model X.p X.w) X.A (compareOp e v u) (EP X pins U Q) X.L d) X.L c) X.L s
def BH(b)(h:op≠.In)(h2:op≠.j):behindInMarks op b=false:=by
 have a:(op==CmpOp.In)=false:=by cases op<;>first|rfl|exact absurd rfl h
 have c:(op==CmpOp.NotIn)=false:=by cases op<;>first|rfl|exact absurd rfl h2
 cases b<;>simp[behindInMarks,a,c]
def F8(a:TE):TE:=λU H Q=>a U H λx H1=>Q (.K<|u9<|x=.ai) H1
def DH(a:TE):TE:=λU H Q=>a U H λx H1=>Q (.K<|!u9 (x=.ai)) H1
def RelV.d6 (r:RelV x v):(v==Value.none)=u9 (x=.ai):=by
 cases x with
|int _=>obtain⟨t,rfl⟩:=r;rfl
|str _=>obtain⟨t,rfl⟩:=r;rfl
|_=>cases r;rfl
def vy{j pos'}(f:PE X a ta):PC X .Is a (.y .y j pos')<|F8 ta:=by intro b s U H Q I h;refine aD (f b s U H _ I h) ?_;rintro v i ⟨x,e,g,d,c⟩;exact UU<|is_none_gen ⟨.K _,e,g,by rw[d.d6];rfl,c⟩
def Ax{j pos'}(f:PE X a ta):PC X .IsNot a (.y .y j pos')<|DH ta:=by intro b s U H Q I h;refine aD (f b s U H _ I h) ?_;rintro v i ⟨x,e,g,d,c⟩;exact UU<|isnot_none_gen ⟨.K _,e,g,by rw[d.d6];rfl,c⟩
def tB(t:TE):TT:=λU H Q=>t U H λx H1=>∃c,x=.K c/\Q c H1
def AY(h:PC X op a b t)(h1:behindInMarks op b=false:=by first|exact BH _ Y7<|by decide|rfl):PE X (.G a [op] [b] pos) t:=λc s U H Q I d=>wpAny_Compare1 (h c s U H Q I d) h1
def BU(h:PC X op a b t)(h1:behindInMarks op b=false:=by first|exact BH _ Y7<|by decide|rfl):PT X (.G a [op] [b] pos)<|tB t:=by intro e s U H Q I f;refine UE (aD (h e s U H _ I f) λv m h1=>aD h1 λu o i=>aD i ?_) h1;rintro c n⟨x,g,j,k,l⟩;obtain⟨d,rfl,q⟩:=l;cases k;exact SA ⟨g,j,q⟩
variable{tA tB':TT}{rest:List Expr}
def LF(t u:TT):TT:=λU H Q=>t U H λc H1=>if c=k9 then u U H1 Q else Q y9 H1
def M6(t u:TT):TT:=λU H Q=>t U H λc H1=>if c=k9 then Q k9 H1 else u U H1 Q
def D9(t:TT):TT:=λU H Q=>t U H λc H1=>Q (!c) H1
def LL(d:PT X a tA):PW X (.C .And [a] pos) tA:=by
 intro f b s U H Q I h;refine isTrue_and<|aD (d b s U H Q I h) λc g e=>?_;cases c with
|true=>exact isTrue_and_nil e
|false=>exact e
def FP(d:PT X a tA):PW X (.C .Or [a] pos) tA:=by
 intro f b s U H Q I h;refine isTrue_or<|aD (d b s U H Q I h) λc g e=>?_;cases c with
|false=>exact isTrue_or_nil e
|true=>exact e
def PH(k:PT X a tA)(l:PW X (.C .And (b::rest) pos) tB'):PW X (.C .And (a::b::rest) pos)<|LF tA tB':=by
 intro i d s U H Q I h;refine isTrue_and<|aD (k d s U H _ I h) ?_;rintro c j ⟨f,g,e⟩;cases c with
|true=>exact l i d j U f Q g e
|false=>exact⟨f,g,e⟩
def CF(k:PT X a tA)(l:PW X (.C .Or (b::rest) pos) tB'):PW X (.C .Or (a::b::rest) pos)<|M6 tA tB':=by
 intro i d s U H Q I h;refine isTrue_or<|aD (k d s U H _ I h) ?_;rintro c j ⟨f,g,e⟩;cases c with
|true=>exact⟨f,g,e⟩
|false=>exact l i d j U f Q g e
def HK(e:PT X a tA):PT X (.M .Not a pos)<|D9 tA:=λb s U H Q I h=>isTrue_not<|e b s U H (λc d=>Q (!c) d) I h
def A3{op}(h:PE X a t):PE X (.C op [a] pos) t:=λb s U H Q I c=>BoolOp_one<|h b s U H Q I c
end
def bu(K:Aa1)(H:Hp)(a:Addr)(c:List V):Prop:=
 Rd H a (.w c)∨
  ∃(o:Obj)(b:Array Value)(n:Nat),K.p a=some o/\o.w=.p "list"/\o.p=none/\o.j=.j b n/\b.j<=sizeLine/\Vals c b.p
def dj(K:Aa1)(H:Hp)(a:Addr)(c:List V):Prop:=
 Rd H a (.p c)∨
  ∃(o:Obj)(b:Array Value)(n:Nat),K.p a=y0 o/\o.w=.p "tuple"/\o.j=.j b n/\b.j<=sizeLine/\Vals c b.p
noncomputable def Sv:Value->Option V
|.y=>y0 .ai
|.B b=>y0<|.K b
|.u i _=>y0<|.u i
|.o x _=>y0<|.o x
|.j a=>y0<|.j a
|.p n=>y0<|.ty n
|_=>u0
def RelV.abs (r:RelV x u):Sv u=y0 x:=by
 cases x with
|int _=>obtain⟨t,rfl⟩:=r;rfl
|str _=>obtain⟨t,rfl⟩:=r;rfl
|_=>cases r;rfl
theorem RelV.inj (r:RelV x u)(q:RelV y u):x=y:=Ae3.inj<|r.abs.I.x q.abs
theorem Vals.inj:∀{xs ys}{us},Vals xs us->Vals ys us->xs=ys
|_,_,_,.p,.p=>rfl
|_,_,_,.j r t,.j a b=>by rw[r.inj a,Vals.inj t b]
section
variable{X:Cx}{pins:List<|Addr×Obj}{U:St}{H:Hp}{s:Shared}{a:Addr}{xs ys:List V}
def bu.of {K:Aa1}(h:H a=y0 (.w xs)):bu K H a xs:=.p<|.p h
def Inv.list (I:Inv X pins U H s)(h:bu X.K H a xs):∃j:List Value,Vals xs j/\PlainL s.j a j.j/\xs.e<=sizeLine:=by
 obtain h|⟨o,j,n,f,b,c,d,g,r⟩:=h
 .obtain⟨z,j,n,r,e⟩:=h.ok I.L;exact⟨j,r,⟨_,n,e,rfl,rfl,rfl⟩,z⟩
 .refine⟨j.p,r,⟨o,n,I.bg a o f,b,c,by simpa using d⟩,?_⟩;have e:=r.e;simp[Ag4]at e;lia
def Inv.tuple (I:Inv X pins U H s)(h:dj X.K H a xs):∃j:List Value,Vals xs j/\IsTup s.j a j.j/\xs.e<=sizeLine:=by
 obtain h|⟨o,j,n,d,b,c,f,r⟩:=h
 .obtain⟨z,j,r,p⟩:=h.ok I.L;exact⟨j,r,p.is,z⟩
 .refine⟨j.p,r,⟨o,I.bg a o d,b,n,by simpa using c⟩,?_⟩;have e:=r.e;simp[Ag4]at e;lia
def Inv.gj (I:Inv X pins U H s)(h:bu X.K H a xs)(h':bu X.K H a ys):xs=ys:=by
 obtain⟨c,r,⟨o,n,e,_,_,d⟩,_⟩:=I.list h;obtain⟨b,i,⟨k,l,f,_,_,g⟩,_⟩:=I.list h';rw[e]at f;cases f;rw[d]at g;injection g with j _
 have:c=b:=by simpa using congrArg Aj7 j
 subst this;exact r.inj i
def Inv.fG (I:Inv X pins U H s)(h:dj X.K H a xs)(h':dj X.K H a ys):xs=ys:=by
 obtain⟨c,r,⟨o,e,_,n,d⟩,_⟩:=I.tuple h;obtain⟨b,i,⟨k,f,_,l,g⟩,_⟩:=I.tuple h';rw[e]at f;cases f;rw[d]at g;injection g with j _
 have:c=b:=by simpa using congrArg Aj7 j
 subst this;exact r.inj i
end
noncomputable abbrev Cx.b6 (X:Cx)(E:Value->Shared->Prop):Cx:={X with xe:=E}
abbrev Cx.cZ (X:Cx):Cx:=X.b6 λ_ _=>False
theorem Cx.Ok.b6 {X:Cx}(ok:X.Ok)(E:Value->Shared->Prop):(X.b6 E).Ok:=
 ⟨ok.mod,ok.p,ok.glob,ok.blt,ok.y,ok.inj,ok.has,ok.lQ,ok.hd,ok.frames,ok.fA,ok.mj,ok.bs,ok.f7,ok.fj,ok.fu,ok.cJ,ok.ia⟩
def Cx.Ok.bE {X:Cx}(ok:(X.b6 E).Ok):X.Ok:=
 ⟨ok.mod,ok.p,ok.glob,ok.blt,ok.y,ok.inj,ok.has,ok.lQ,ok.hd,ok.frames,ok.fA,ok.mj,ok.bs,ok.f7,ok.fj,ok.fu,ok.cJ,ok.ia⟩
section
variable{X:Cx}{pins:List<|Addr×Obj}{U:St}{H:Hp}{s:Shared}{E:Value->Shared->Prop}
theorem Inv.b6 (I:Inv X pins U H s)(E):Inv (X.b6 E) pins U H s:=⟨I.p.b6 E,I.os,I.Z,I.y,I.loc,I.w,I.C,I.bj,I.N,I.L,I.len⟩
theorem Inv.bE (I:Inv (X.b6 E) pins U H s):Inv X pins U H s:=⟨I.p.bE,I.os,I.Z,I.y,I.loc,I.w,I.C,I.bj,I.N,I.L,I.len⟩
theorem SP.bE (h:SP (X.b6 E) pins D f s'):SP X pins D f s':=by
 cases f with
|ret u=>obtain⟨v,a,b,I,r,q⟩:=h;exact⟨v,a,b,I.bE,r,q⟩
|_=>obtain⟨a,b,I,q⟩:=h;exact⟨a,b,I.bE,q⟩
end
section
variable{X:Cx}{st:Stmt}{rest:List Stmt}{t u:TS}{e:Expr}{te:TE}{pos:Pos}
def OY:TS:=λD U H=>D.nx U H
def N5(t u:TS):TS:=λD U H=>t {D with nx:=u D} U H
def Ma:cE X [] OY:=λ_ _ U H _ I h=>Ta ⟨U,H,I,h⟩
def M7(h1:PS X st t)(h2:cE X rest u):cE X (st::rest)<|N5 t u:=by
 intro a s U H D I h;refine SR<|aD (h1 a s U H {D with nx:=u D} I h) λf c q=>?_;cases f with
|next=>obtain⟨d,e,b,q⟩:=q;exact h2 a c d e D b q
|_=>exact q
def FI(h1:PS X st t):cE X [st] t:=by
 intro a s U H D I h;refine SR<|aD (h1 a s U H D I h) λf b q=>?_;cases f with
|next=>exact Ta q
|_=>exact q
def Inv.quiet (I:Inv X pins U H s):interactive X.j=false:=by simp[interactive,I.p.p]
def DZ(a:TE):TS:=λD U H=>a U H λ_ H1=>D.nx U H1
def xC(f:PE X e te)(d:swapsWith e u0 pos.p X.j=pure false:=by rfl):PS X (.Expr e pos)<|DZ te:=λa s U H D I h=>wpAny_Expr_any (aD (f a s U H _ I h)<|by rintro v j⟨x,c,g,i,b⟩;exact⟨U,c,g,b⟩) I.quiet d
def Er(a:TE):TS:=λD U H=>a U H D.rt
def pJ(f:PE X e te):PS X (.p (y0 e) pos)<|Er te:=λa s U H D I h=>T3<|aD (f a s U H _ I h)<|by rintro v i⟨x,d,g,c,b⟩;exact⟨x,U,d,g,c,b⟩
def Eo(c:TT)(t u:TS):TS:=λD U H=>c U H λb H1=>if b=k9 then t D U H1 else u D U H1
def DY(k:PT X c tc)(l:cE X a t)(m:cE X b u):PS X (.If c a b pos)<|Eo tc t u:=by
 intro e s U H D I h;refine wpAny_If<|aD (k e s U H _ I h) ?_;rintro d i ⟨g,j,f⟩;cases d with
|true=>exact l e i U g D j f
|false=>exact m e i U g D j f
end
abbrev TG:=V->St->Hp->(St->Hp->Prop)->Prop
abbrev lN:=List V->St->Hp->(St->Hp->Prop)->Prop
def PG(X:Cx)(a:Expr)(t:TG):Prop:=
 ∀(pins:List<|Addr×Obj)(s:Shared)(U:St)(H:Hp)(v:V)(u:Value)(Q:St->Hp->Prop),Inv X pins U H s->RelV v u->t v U H Q→
  wpAny (model X.p X.w) X.A (assign a X.j u) (λ_ s'=>∃b H',Inv X pins b H' s'/\Q b H') X.L s
def kz(X:Cx)(ts:List Expr)(t:lN):Prop:=
 ∀(pins:List<|Addr×Obj)(s:Shared)(U:St)(H:Hp)(vs:List V)(us:List Value)(Q:St->Hp->Prop),Inv X pins U H s->Vals vs us->t vs U H Q→
  wpAny (model X.p X.w) X.A (assignInOrder ((assignEach ts X.j).y (·.2)) us) (λ_ s'=>∃a H',Inv X pins a H' s'/\Q a H') X.L s
abbrev BO:=V->V->V->Hp->(Hp->Prop)->Prop
def nJ(X:Cx)(t:BO):Prop:=
 ∀(pins:List<|Addr×Obj)(s:Shared)(U:St)(H:Hp)(o i v:V)(ov a u:Value)(Q:Hp->Prop),Inv X pins U H s->RelV o ov->RelV i a->RelV v u->t o i v H Q→
  wpAny (model X.p X.w) X.A (setItem ov a u) (λ_ s'=>∃H',Inv X pins U H' s'/\Q H') X.L s
section
variable{X:Cx}{pos:Pos}
def JW(i:Nat):TG:=λv U H Q=>Q (U.B i<|y0 v) H
def Z9(b:X.N.N)(hi:X.N[i]?=y0 x)(e:lR X.j.p x)(d:X.fn x=k9\/X.j.p.j.p x=y0 .local:=by first|exact .inl rfl|exact .inr rfl|assumption):PG X (.p x pos)<|JW i:=λa s U H v u Q I r h=>VA<|Ws I b hi e r (λf c=>⟨_,H,c,h⟩) d
def OF:lN:=λvs U H Q=>vs=[]/\Q U H
def Dd(t:TG)(u:lN):lN:=λvs U H Q=>∃v r,vs=v::r/\t v U H λa H'=>u r a H' Q
def ub:kz X [] OF:=by intro a s U H b c Q I r h;obtain⟨e,h⟩:=h;subst e;cases r;exact assignInOrder_nil ⟨U,H,I,h⟩
def JP(h1:PG X e t)(h2:kz X es u)
 (c:(assignEach (e::es) X.j).y (·.2)=assign e X.j::(assignEach es X.j).y (·.2):=by rfl):kz X (e::es)<|Dd t u:=by
 intro a s U H m n Q I r h;obtain⟨v,l,j,h⟩:=h;subst j;cases r with
|cons r b=>rw[c];exact assignInOrder_cons<|aD (h1 a s U H _ _ _ I r h)<|by rintro _ i⟨g,d,f,k⟩;exact h2 a i g d _ _ Q f b k
def A2(K:Aa1)(n:Nat)(t:lN):TG:=λv U H Q=>∃a xs,v=.j a/\dj K H a xs/\xs.e=n/\t xs U H Q
def uB(w:X.calm=k9)(h:kz X es t)
 (j:(assignEach es X.j).e=n:=by rfl)(f:(assignEach es X.j).findIdx? (·.1)=none:=by rfl):PG X (.L es k pos)<|A2 X.K n t:=by
 intro c s U H v u Q I r d;obtain⟨a,g,m,i,p,d⟩:=d;subst m;cases r;obtain⟨q,rv,l,y⟩:=I.tuple i;exact assign_Tuple_tuple (I.p.hd w) l (by simp[j,←p,rv.e]) f λx hx=>h c _ U H g _ Q (I.kept λb o e=>hx b o (Ab5<|Aa9 e) e) (by simp_all) d
def Sm(a b:TE)(t:BO):TG:=λv U H Q=>a U H λo H1=>b U H1 λi H2=>t o i v H2 λH3=>Q U H3
def JX(c:PE X o to)(hi:PE X i ti)(e:nJ X t)
 (A:∀v,assign (.B o i pos) X.j v=(do
   let ov←holding [v]<|eval o X.j;let j←holding [v,ov]<|eval i X.j
   standAt pos
   holding [v,ov,j]<|setItem ov j v
   release [v,ov,j] []):=by intro _;rfl):PG X (.B o i pos)<|Sm to ti t:=by
 intro a s U H v u Q I r h;rw[A];refine AC<|IR<|aD (c a s U H _ I h) ?_;rintro ov n⟨x,f,g,l,q⟩;refine AC<|IR<|aD (hi a n U f _ g q) ?_;rintro j z ⟨y,d,w,p,m⟩;exact AC<|SG<|AC<|IR<|aD (e a z U d x y v ov j u _ w l p r m)<|by rintro _ B⟨H3,k,b⟩;exact wpAny_release ⟨U,H3,k,b⟩
def iW(a:TE)(g:TG):TS:=λD U H=>a U H λx H1=>g x U H1 D.nx
def JF(f:PE X e te)(l:PG X tg g)(b:swapsWithSole [tg] e pos.p X.j=pure false:=by rfl)(c:swappedStores [tg] e X.j=pure none:=by rfl)
 (h1:(assignEach [tg] X.j).y (·.2)=[assign tg X.j]:=by rfl):PS X (.j [tg] e pos)<|iW te g:=by
 intro a s U H D I h;refine U4 (aD (f a s U H _ I h) ?_) b c;rintro v k⟨x,d,i,j,m⟩;rw[h1];exact aD (l a k U d x v _ i j m) λ_ n q=>q
def HA(n:X.N.N)(hi:X.N[i]?=y0 x)(m:lR X.j.p x)(d:PE X e te)(b:swapsWith e (y0<|.p x pos') pos.p X.j=pure false:=by rfl)(k:X.fn x=k9\/X.j.p.j.p x=y0 .local:=by first|exact .inl rfl|exact .inr rfl|assumption):
 PS X (.j [.p x pos'] e pos)<|iW te<|JW i:=λa s U H D I h=>wpAny_Assign_Name (aD (d a s U H _ I h)<|by rintro v o⟨y,c,f,g,j⟩;exact Ws f n hi m g (λp l=>⟨_,c,l,j⟩) k) b
end
section
variable{X:Cx}{pos:Pos}
def MY(c:TT)(e:TS):TS:=λD U H=>∃W:Nat->St->Hp->Prop,(∃m,W m U H)/\∀m U H,W m U H→
 c U H λb H1=>if b=k9 then∃N:St->Hp->Prop,(∀a H',N a H'->∃d,d<m/\W d a H')/\e {D with nx:=N,ct:=N,bk:=D.nx} U H1 else D.nx U H1
def Lm(q:PassesOwn (model X.p X.w) X.A X.j X.L)(F:PT X c tc)(B:cE X body tb):PS X (.While c body [] pos)<|MY tc tb:=by
 intro a s U H D I h;obtain⟨W,⟨G,w0⟩,d⟩:=h;refine wpAny_While<|codeAny_whileLoop (λn y=>∃x u,Inv X a x u y/\W n x u) ?_ G ⟨U,H,I,w0⟩;rintro n A ⟨g,t,z,C⟩;refine SZ q<|aD (F a A g t _ z<|d n g t C) ?_;rintro b E ⟨r,w,i⟩;cases b with
|true=>
  obtain⟨N,v,i⟩:=i;refine SZ q<|aD (B a E g r _ w i) λf J k=>?_;cases f with
 |next=>obtain⟨e,H3,m,p⟩:=k;obtain⟨o,l,j⟩:=v e H3 p;exact⟨o,l,e,H3,m,j⟩
 |cont=>obtain⟨e,H3,m,p⟩:=k;obtain⟨o,l,j⟩:=v e H3 p;exact⟨o,l,e,H3,m,j⟩
 |_=>exact k
|false=>exact Ta ⟨g,r,w,i⟩
end
structure It where
 go:Nat->Hp->Prop
 fy:Nat->Hp->V->Hp->Prop
 stop:Nat->Hp->Prop
def bt(X:Cx)(a:List<|Addr×Obj)(H:Hp)(b:Addr):Prop:=
 H b=u0/\b≠X.j.j/\b∉X.fs/\(b∈X.ex\/X.s₀.j.j.j<=b)/\(∀x c,X.j.w.p x=y0 c->c≠b)/\∀p∈X.pn++a,p.1≠b
def Inv.dT (I:Inv X pins U H s)(a:s.j.j.j<=b)(f:H' b=u0):bt X pins H' b:=by refine⟨f,Aj3<|Ab4 I.lt a,I.sh a,.w<|Ac I.sz a,λx c e z=>?_,λp d z=>absurd (Ab4 (Aa9 (I.N p d).1)<|by simp_all)<|Ag9 _⟩;obtain⟨v,q⟩:=I.w x c e;exact absurd (Ab4 q.lt<|by simp_all)<|Ag9 _
structure lT(P:Program)(w:World)(K:Aa1)(tg:Expr)(J:It)(fp:List Addr)(it:Addr)(tn:Nat->Heap->Prop):Prop where
 mem:it∈fp
 obj:∀i h,tn i h->∀b∈fp,∃o,h.p b=y0 o/\∀v,o.j≠.w v
 keep:∀i h h',tn i h->(∀b∈fp,∀o,h.p b=y0 o->h'.p b=y0 o)->tn i h'
 item:∀(X:Cx),X.p=P->X.w=w->X.K=K->X.calm=k9->∀(i:Nat)(pins:List<|Addr×Obj)(s:Shared)(U:St)(H:Hp)(E:Value->Shared->Prop),Inv X pins U H s->(∀b∈fp,bt X pins H b)->tn i s.j->J.go i H→
  wpAny (model P w) X.A (pyNext<|.j it) (λr s1=>∃u,r=y0 u∧
   wpAny (model P w) X.A (letOwnedTupleGo tg (.j it) u) (λ_ s2=>∃x H',Inv X pins U H' s2/\RelV x u/\J.fy i H x H'/\tn (i+1) s2.j/\∀b∈fp,H' b=u0) E s1) E s
 done:∀(X:Cx),X.p=P->X.w=w->X.K=K->X.calm=k9->∀(i:Nat)(pins:List<|Addr×Obj)(s:Shared)(U:St)(H:Hp)(E:Value->Shared->Prop),Inv X pins U H s->(∀b∈fp,bt X pins H b)->tn i s.j->J.stop i H→
  wpAny (model P w) X.A (pyNext<|.j it) (λr s1=>r=u0/\Inv X pins U H s1) E s
 self:∀(A:Around)(i:Nat)(s:Shared)(Q:Value->Shared->Prop)(E:Value->Shared->Prop),tn i s.j->Q (.j it) s->wpAny (model P w) A (pyIter<|.j it) Q E s
abbrev TI:=St->Hp->(It->Hp->Prop)->Prop
def sG(X:Cx)(a:List<|Addr×Obj)(U:St)(tg:Expr)(R:It->Hp->Prop)(c:Value)(d:Shared):Prop:=
 ∃(e:Addr)(fp:List Addr)(f:Nat->Heap->Prop)(J:It)(H':Hp),c=.j e/\Inv X a U H' d/\lT X.p X.w X.K tg J fp e f/\f 0 d.j/\(∀b∈fp,bt X a H' b)/\R J H'
def PI(X:Cx)(tg a:Expr)(b:TI):Prop:=
 ∀(pins:List<|Addr×Obj)(s:Shared)(U:St)(H:Hp)(R:It->Hp->Prop),Inv X pins U H s->b U H R→
  wpAny (model X.p X.w) X.A (eval a X.j) (λv c=>wpAny (model X.p X.w) X.A (pyIter v) (sG X pins U tg R) X.L c) X.L s
def pw(d:s.j.p it=y0 o)(b:o.w=.p n)(c:o.j=.p vs)
 (e:["enumerate","zip","dict_itemiterator","dict_reverseitemiterator","odict_iterator","itertools.zip_longest","itertools.pairwise"].w n=false)(a:Q () s):wpAny M A (letOwnedTupleGo tg (.j it) u) Q E s:=by
 cases tg<;>first
|exact Do a
|(cases u<;>first
|exact Do a
      | (refine AC<|wpAny_load d ?_
         rw[b,c];show wpAny M A (if _=k9 then _ else _) Q E s;rw[FB Y8];exact Do a))
def mY(a:Int)(n:Nat):It:=⟨λi _=>i<n,λi H x H'=>H'=H/\x=.u (a+i),λi _=>n<=i⟩
def RA{K:Aa1}(it)(lo)(n):lT P w K tg (mY lo n) [it] it<|λi h=>IsRangeIter h it (lo+(i:Nat)*1) ((n:Int)-(i:Nat)) 1 where
 mem:=by simp
 obj:=λi h a b d=>by
  have e:=by simpa using d
  subst e;exact⟨_,a,λv z=>by have C:=z;cases C⟩
 keep:=λi h l a k=>k it Y9 _ a
 item:=by intro X B y A x i c s U H E I g a u;subst B y A;obtain⟨p,q,G,m,r,j⟩:=g it Y9;have W:=Walks.range (prog:=X.p) (w:=X.w) (I.p.hd x) it lo 1 n;refine W.item i s _ _ u a λv l tk D f L=>?_;obtain⟨t,rfl⟩:=D;have F:Inv X c U H {s with heap:=l,toks:=tk}:=I.turned (λb o d e=>L b o (by simpa using d) e) p q m r j;refine⟨_,rfl,pw f rfl rfl Y7 ⟨.u<|lo+i,H,F,⟨t,?_⟩,⟨rfl,rfl⟩,f,λb d=>(g b d).1⟩⟩;rw[Int.mul_one]
 done:=by intro X B y A x i c s U H E I g a u;obtain⟨p,q,G,m,r,j⟩:=g it Y9;exact wpAny_pyNext_range_end (I.p.hd x) a (by have:n<=i:=u;lia) λl J=>⟨rfl,I.turned (λb o d e=>J b o d e) p q m r j⟩
 self:=λ_ _ _ _ _ a h=>wpAny_pyIter_rangeiter a h
section
variable{X:Cx}{tg:Expr}
def DF{a hi:Int}(I:Inv X pins U H s)(h1:-(2^62)<=a)(h2:a<2^62)(g:-(2^62)<=hi)(h:hi<2^62)
 (q:R (mY a (hi-a).j) H):wpAny (model X.p X.w) X.A (pyIter<|.j s.j.j.j) (sG X pins U tg R) E {s with heap:=s.j.w {cls:=.p "range",data:=.p #[.u a t,.u hi u,.u 1 v]},toks:=tk}:=by
 refine wpAny_pyIter_range (IsRange.new ..) (small_one h1 h2 g h) ?_;have c:Inv X pins U H {s with heap:=s.j.w {cls:=.p "range",data:=.p #[.u a t,.u hi u,.u 1 v]},toks:=tk}:=I.kept fun b o e=>Aa _ e;refine⟨(s.j.w {cls:=.p "range",data:=.p #[.u a t,.u hi u,.u 1 v]}).j.j,[(s.j.w {cls:=.p "range",data:=.p #[.u a t,.u hi u,.u 1 v]}).j.j],_,_,H,rfl,
  c.kept λb o e=>Aa _ e,RA _ a (hi-a).j,?_,λb i=>?_,q⟩
 .have d:a+(0:Nat)*1=a:=by simp
  have f:(hi-a).j-(0:Nat)=Builtin.Range.rangeSize a hi 1:=by rw[rangeSize_one];split<;>lia
  rw[d,f];exact Aa5 _ rfl
 .have e:b=(s.j.w {cls:=.p "range",data:=.p #[.u a t,.u hi u,.u 1 v]}).j.j:=by simpa using i
  subst e;exact c.dT (Aa3 _)<|c.L.fresh<|Aa3 _
def Hn(a:TA):TI:=λU H R=>a U H λvs H1=>∃j:Int,vs=[.u j]/\-(2^62)<=j/\j<2^62/\R (mY 0 j.j) H1
def Cb(m:Gl X "range")(d:X.M "range"=none)(n:PA X [a] ta)(g:starEach [a] X.j=[(false,eval a X.j)]:=by rfl):PI X tg (.w (.p "range" p) [a] [] pos)<|Hn ta:=by
 intro b s U H R I h;refine Call_<|Zm I m d boot_range<|P3 (aD (n pos b s U H _ I h) ?_) g rfl;rintro w v⟨o,u,i,k,c⟩;obtain⟨j,e,c,l,q⟩:=c;subst e;cases k with
|cons r f=>cases f;obtain⟨t,rfl⟩:=r;exact call_range_1<|DF i Y7 Y7 c l<|by simp_all
def CG(d:TI)(g:TG)(e:TS):TS:=λD U H=>d U H λJ H1=>∃W:Nat->Nat->St->Hp->Prop,(∃m,W 0 m U H1)/\∀i m U H,W i m U H→
 (J.stop i H/\D.nx U H)\/(J.go i H/\∃N:St->Hp->Prop,(∀a H',N a H'->∃b,b<m/\W (i+1) b a H')/\∀x H',J.fy i H x H'->g x U H' λc H2=>e {D with nx:=N,ct:=N,bk:=D.nx} c H2)
noncomputable def xW(a:List Addr)(h:Heap):List<|Addr×Obj:=a.X λb=>(h.p b).y λo=>(b,o)
def Zf(a:b∈fp)(e:h.p b=y0 o):(b,o)∈xW fp h:=Ah1.p ⟨b,a,by rw[e];rfl⟩
def ZS(c:p∈xW fp h):p.1∈fp/\h.p p.1=y0 p.2:=by
 obtain⟨b,d,e⟩:=Ah1.j c;cases q:h.p b with
|none=>rw[q]at e;cases e
|some o=>rw[q]at e;have a:=Ae3.inj e;subst a;exact⟨d,q⟩
def Inv.pinned (I:Inv X pins U H s)(f:∀b∈fp,bt X pins H b)(i:∀b∈fp,∃o,s.j.p b=y0 o/\∀v,o.j≠.w v):Inv X (pins++xW fp s.j) U H s:=
 I.bD λp k=>(Ad9.j k).j (λz=>I.N p<|Aa7 _ z) λz=>by obtain⟨c,e⟩:=ZS z;obtain⟨j,g,h,_⟩:=f p.1 c;obtain⟨o,a,d⟩:=i p.1 c;rw[e]at a;cases a;exact⟨e,j,g,h,d⟩
def Inv.bG (I:Inv X (pins++pl) U H s):Inv X pins U H s:=I.bD λp a=>I.N p<|Aa7 _<|Ag3 _ a
def Fp(B:PassesOwn (model X.p X.w) X.A X.j X.L)(R:X.calm=k9)(hi:PI X tg iter wi)(hg:PG X tg g)(j:cE X body tb)
 (hs:∀x,foldedSetIterable iter X.j x=pure x:=by intro _;rfl):PS X (.For tg iter body [] pos)<|CG wi g tb:=by
 intro a s U H D I h;refine wpAny_For (aD (hi a s U H _ I h) λv s1 h1=>aD h1 λitv s2 h2=>?_) hs;obtain⟨it,G,tn,J,H2,e,I2,T,L,Z,W,⟨m0,w0⟩,A⟩:=h2;subst e;have c:∀{k},(∀b∈G,k b=u0)->∀b∈G,bt X a k b:=λhn b j=>⟨hn b j,(Z b j).2⟩;refine codeAny_forLoop_any (λn s'=>∃i E k,Inv X a E k s'/\tn i s'.j/\(∀b∈G,k b=u0)/\W i n E k) ?_ m0 ⟨0,U,H2,I2,L,λb j=>(Z b j).1,w0⟩;rintro n Y ⟨i,F,H3,V,C,z,w3⟩;obtain⟨stop,qn⟩|⟨go,N,hN,step⟩:=A i n F H3 w3
 .refine SZ B<|aD (T.done X rfl rfl rfl R i a Y F H3 X.L V (c z) C stop) ?_;rintro r s4 ⟨Q,I4⟩;subst Q;exact Ta ⟨F,H3,I4,qn⟩
 .refine SZ B<|aD (T.item X rfl rfl rfl R i a Y F H3 X.L V (c z) C go) ?_;rintro r s4 ⟨u,Q,h4⟩;subst Q;refine SZ B<|aD h4 ?_;rintro _ s5 ⟨x,S,I5,r5,y5,t,P⟩;have O:=I5.pinned (c P)<|T.obj _ _ t;refine SZ B<|aD (hg _ s5 F S x u _ O r5<|step x S y5) ?_;rintro _ s6 ⟨U6,H6,I6,q6⟩;refine SZ B<|aD (j _ s6 U6 H6 _ I6 q6) λf M w=>?_;have y:∀{l}{p},Inv X _ l p M->N l p->∃m,m<n/\∃i E k,Inv X a E k M/\tn i M.j/\(∀b∈G,k b=u0)/\W i m E k:=λ{l p} q K=>by obtain⟨m',hm,w7⟩:=hN l p K;refine⟨m',hm,i+1,l,p,q.bG,T.keep _ _ _ t λb j o e=>(q.N _<|Aa7 _<|Aa7 _<|Zf j e).1,λb j=>?_,w7⟩;obtain⟨o,e,d⟩:=T.obj _ _ t b j;exact(q.N _<|Aa7 _<|Aa7 _<|Zf j e).2.1
  cases f with
|brk=>obtain⟨l,p,q,w⟩:=w;exact⟨l,p,q.bG,w⟩
|ret v=>obtain⟨x7,l,p,q,r7,w⟩:=w;exact⟨x7,l,p,q.bG,r7,w⟩
|_=>obtain⟨l,p,q,K⟩:=w;exact y q K
end
abbrev R2:=V->V->Hp->VK->Prop
def bB(X:Cx)(f:Value->Value->Sem Value)(r:R2):Prop:=
 ∀(pins:List<|Addr×Obj)(s:Shared)(U:St)(H:Hp)(x y:V)(v u:Value)(Q:VK),Inv X pins U H s->RelV x v->RelV y u->r x y H Q→
  wpAny (model X.p X.w) X.A (f v u) (EP X pins U Q) X.L s
def mR(X:Cx)(f:Value->Sem Value)(r:V->Hp->VK->Prop):Prop:=
 ∀(pins:List<|Addr×Obj)(s:Shared)(U:St)(H:Hp)(x:V)(v:Value)(Q:VK),Inv X pins U H s->RelV x v->r x H Q→
  wpAny (model X.p X.w) X.A (f v) (EP X pins U Q) X.L s
def qo(X:Cx)(f:Value)(r:List V->Hp->VK->Prop):Prop:=
 ∀(pins:List<|Addr×Obj)(s:Shared)(U:St)(H:Hp)(xs:List V)(us:List Value)(Q:VK),Inv X pins U H s->Vals xs us->r xs H Q→
  wpAny (model X.p X.w) X.A (call f us) (EP X pins U Q) X.L s
def P8(X:Cx)(r:V->Hp->(Bool->Hp->Prop)->Prop):Prop:=
 ∀(pins:List<|Addr×Obj)(s:Shared)(U:St)(H:Hp)(x:V)(v:Value)(Q:Bool->Hp->Prop),Inv X pins U H s->RelV x v->r x H Q→
  wpAny (model X.p X.w) X.A (truthy v) (TP X pins U Q) X.L s
def mL(r:R2)(a b:TE):TE:=λU H Q=>a U H λx H1=>b U H1 λy H2=>r x y H2 Q
def Il(r:V->Hp->VK->Prop)(a:TE):TE:=λU H Q=>a U H λx H1=>r x H1 Q
def rI(C:Int->Int->Prop)(g:Int->Int->V):R2:=λx y H Q=>∃i j,x=.u i/\y=.u j/\C i j/\Q (g i j) H
def g8(g:Int->Int->V):R2:=λx y H Q=>∃i j,x=.u i/\y=.u j/\Q (g i j) H
def rU(g:Int->V):V->Hp->VK->Prop:=λx H Q=>∃i,x=.u i/\Q (g i) H
section
variable{X:Cx}{a b c:Expr}{ta tb tc:TE}{pos:Pos}
def pM(o:PE X a ta)(k:PE X b tb){R:V->V->Hp->Prop}(I:Inv X pins U H s)
 (h:ta U H λx H1=>tb U H1 λy H2=>R x y H2){f:Value->Value->Sem Value}
 (m:∀v u Z x y H2,Inv X pins U H2 Z->RelV x v->RelV y u->R x y H2->wpAny (model X.p X.w) X.A (f v u) Q X.L Z):
 wpAny (model X.p X.w) X.A (eval a X.j) (λv j=>wpAny (model X.p X.w) X.A (eval b X.j) (λu O=>wpAny (model X.p X.w) X.A (f v u) Q X.L O) X.L j) X.L s:=by
 refine aD (o pins s U H _ I h) ?_;rintro v g⟨x,H1,c,d,l⟩;refine aD (k pins g U H1 _ c l) ?_;rintro u Z ⟨y,H2,n,i,e⟩;exact m v u Z x y H2 n d i e
def Lk(e:bB X (binaryOp op) r)(l:PE X a ta)(g:PE X b tb):PE X (.BinOp a op b pos)<|mL r ta tb:=λc s U H Q I h=>wpAny_BinOp<|pM l g I h λv u k x y f i j d q=>e c k U f x y v u Q i j d q
def uk(i:mR X (unaryOp op) r)(g:PE X a ta):PE X (.M op a pos)<|Il r ta:=λb s U H Q I h=>UnaryOp_<|aD (g b s U H _ I h)<|by rintro v e⟨x,f,j,d,c⟩;exact i b e U f x v Q j d c
def kQ{g:Int->Int->Int}
 (a:∀i j t u s Q E,C i j->Q (.u (g i j) s.p) {s with toks:=s.p+1}->wpAny (model X.p X.w) X.A (f (.u i t)<|.u j u) Q E s):
 bB X f<|rI C λi j=>.u<|g i j:=by
 rintro b s U H x y v u Q I e c⟨i,j,rfl,rfl,h,q⟩;obtain⟨t,rfl⟩:=e;obtain⟨d,rfl⟩:=c;exact a i j t d s _ _ h ⟨.u _,H,I.tok _,⟨_,rfl⟩,q⟩
def nv{g:Int->Int->Int}
 (a:∀i j t u s Q E,Q (.u (g i j) s.p) {s with toks:=s.p+1}->wpAny (model X.p X.w) X.A (f (.u i t)<|.u j u) Q E s):
 bB X f<|g8 λi j=>.u<|g i j:=by
 rintro b s U H x y v u Q I e c⟨i,j,rfl,rfl,q⟩;obtain⟨t,rfl⟩:=e;obtain⟨d,rfl⟩:=c;exact a i j t d s _ _ ⟨.u _,H,I.tok _,⟨_,rfl⟩,q⟩
def nN{g:Int->Int->Bool}
 (a:∀i j t u s Q E,Q (.B<|g i j) s->wpAny (model X.p X.w) X.A (f (.u i t)<|.u j u) Q E s):
 bB X f<|g8 λi j=>.K<|g i j:=by
 rintro b s U H x y v u Q I e c⟨i,j,rfl,rfl,q⟩;obtain⟨t,rfl⟩:=e;obtain⟨d,rfl⟩:=c;exact a i j t d s _ _ ⟨.K _,H,I,rfl,q⟩
def AK(i j:Int):Prop:=0<j/\j<1073741824
def yy(i j:Int):Prop:=0<=j/\j<=1000000/\i.p<2^64
def kl(i j:Int):Prop:=(-(2^64)<i/\i<2^64)\/(-(2^64)<j/\j<2^64)
def kl.ok (h:kl i j):IntMulOk i j:=by
 obtain⟨a,b⟩|⟨a,b⟩:=h
 .exact .of_left<|intBits_le_64 a b
 .exact .of_right<|intBits_le_64 a b
def Ho(k):(0:Int)<=2^k:=by exact SK _
def R5:bB X (binaryOp .Add)<|g8 λi j=>.u<|i+j:=nv λ_ _ _ _ _ _ _ q=>add_int q
def Ie:bB X (binaryOp .Sub)<|g8 λi j=>.u<|i-j:=nv λ_ _ _ _ _ _ _ q=>sub_int q
def Oj:bB X (binaryOp .Mult)<|rI kl λi j=>.u<|i*j:=kQ λ_ _ _ _ _ _ _ a q=>mul_int q a.ok
def RM:bB X (binaryOp .FloorDiv)<|rI AK λi j=>.u<|i/j:=kQ λi j _ _ _ _ _ a q=>by have b:=a.1;have c:=a.2;exact floordiv_int Y8 (by rwa [Ak i Y8])<|.p<|Uw Y8
def Nw:bB X (binaryOp .Mod)<|rI (λ_ j=>0<j) λi j=>.u<|i%j:=kQ λi j _ _ _ _ _ a q=>by have b:=a;exact mod_int' Y8<|by rwa [TY i Y8]
def FU:bB X (binaryOp .Pow)<|rI yy λi j=>.u<|i^j.j:=kQ λ_ _ _ _ _ _ _ a q=>pow_int_small a.1 a.2.1 a.2.2 q
def Ng:bB X (binaryOp .LShift)<|rI yy λi j=>.u<|i*2^j.j:=kQ λ_ _ _ _ _ _ _ a q=>lshift_int_small a.1 a.2.1 a.2.2 q
def O6:bB X (binaryOp .RShift)<|rI (λ_ j=>0<=j) λi j=>.u<|i/2^j.j:=kQ λi j _ _ _ _ _ a q=>
 rshift_int a<|by rwa [Ak i<|Ho _]
def FZ:bB X (binaryOp .BitAnd)<|g8 λi j=>.u<|Builtin.bitAnd i j:=nv λ_ _ _ _ _ _ _ q=>and_int q
def Pc:bB X (binaryOp .BitOr)<|g8 λi j=>.u<|Builtin.bitOr i j:=nv λ_ _ _ _ _ _ _ q=>or_int q
def ue{g:Int->Int}
 (a:∀i t s Q E,Q (.u (g i) s.p) {s with toks:=s.p+1}->wpAny (model X.p X.w) X.A (f<|.u i t) Q E s):
 mR X f<|rU λi=>.u<|g i:=by
 rintro b s U H x v Q I c⟨i,rfl,q⟩;obtain⟨t,rfl⟩:=c;exact a i t s _ _ ⟨.u _,H,I.tok _,⟨_,rfl⟩,q⟩
def N8:mR X (unaryOp .USub)<|rU λi=>.u<|-i:=ue λ_ _ _ _ _ q=>neg_int q
def HN:mR X (unaryOp .Invert)<|rU λi=>.u<|Builtin.bitNot i:=ue λ_ _ _ _ _ q=>invert_int q
end
section
variable{X:Cx}{a b c:Expr}{ta tb tc:TE}{pos:Pos}
def rP(I:Inv X pins U H s)(q:Q (.K k) H)(e:k=k'):EP X pins U Q (.B k') s:=by subst e;exact⟨.K k,H,I,rfl,q⟩
def N0:bB X (compareOp .Lt)<|g8 λi j=>.K<|u9<|i<j:=nN λ_ _ _ _ _ _ _ q=>lt_int q
def M4:bB X (compareOp .LtE)<|g8 λi j=>.K<|u9<|i<=j:=nN λ_ _ _ _ _ _ _ q=>le_int q
def Ci:bB X (compareOp .Gt)<|g8 λi j=>.K<|u9<|j<i:=nN λ_ _ _ _ _ _ _ q=>gt_int q
def Md:bB X (compareOp .GtE)<|g8 λi j=>.K<|u9<|j<=i:=nN λ_ _ _ _ _ _ _ q=>ge_int q
def Hv:bB X (compareOp .In)<|λx y H Q=>∃i j,x=.o i/\y=.o j/\Q (.K<|!(Builtin.Str.occurrences j i 0 j.e 1).K) H:=by rintro a s U H x y v u Q I b c⟨i,j,rfl,rfl,q⟩;obtain⟨t,rfl⟩:=b;obtain⟨d,rfl⟩:=c;exact in_str<|rP I q rfl
def XQ(e:bB X (compareOp op) r)(m:PE X a ta)(i:PE X b tb)(f:behindInMarks op b=y9):PE X (.G a [op] [b] pos)<|mL r ta tb:=λc s U H Q I h=>wpAny_Compare1 (pM m i I h λv u l x y g j k d q=>e c l U g x y v u Q j k d q) f
def A9(t:TE):TT:=λU H Q=>t U H λx H'=>∃k,x=.K k/\Q k H'
def zN(g:bB X (compareOp op) r)(E:PE X a ta)(A:PE X b tb)(i:behindInMarks op b=y9):PT X (.G a [op] [b] pos)<|A9<|mL r ta tb:=by intro d s U H Q I h;refine UE (aD (E d s U H _ I h) ?_) i;rintro v t⟨x,l,m,p,B⟩;refine aD (A d t U l _ m B) ?_;rintro u D⟨y,j,C,w,q⟩;refine aD (g d D U j x y v u _ C p w q) ?_;rintro c F⟨z,H3,n,o,k,e,f⟩;subst e;cases o;exact SA ⟨H3,n,f⟩
def ri(r b:R2)(a d tc:TE):TE:=λU H Q=>a U H λx H1=>d U H1 λy H2=>r x y H2 λz H3=>∃k,z=.K k∧
 (if k=k9 then tc U H3 λc H4=>b y c H4 Q else Q (.K y9) H3)
def O4(n:bB X (compareOp op) r)(g:bB X (compareOp op') r')(R:PE X a ta)(L:PE X b tb)(P:PE X c tc)
 (o:lastMarks [op,op'] [b,c]=false:=by with_unfolding_all rfl):PE X (.G a [op,op'] [b,c] pos)<|ri r r' ta tb tc:=by
 intro f s U H Q I h;refine Compare_chain (aD (R f s U H _ I h) ?_) o;rintro v E⟨x,t,A,C,M⟩;refine chain_link<|aD (L f E U t _ A M) ?_;rintro u O⟨y,p,N,l,D⟩;refine aD (n f O U p x y v u _ N C l D) ?_;rintro d K⟨z,H3,j,B,k,e,i⟩;subst e;cases B;refine SA ?_;cases k with
|false=>exact ite_ff ⟨.K y9,H3,j,rfl,i⟩
|true=>exact ite_tt<|chain_last<|aD (P f K U H3 _ j i)<|by rintro J q⟨m,H4,F,G,w⟩;exact g f q U H4 y m u J Q F l G w
def PQ(o:bB X (compareOp op) r)(g:bB X (compareOp op') r')(Y:PE X a ta)(P:PE X b tb)(W:PE X c tc)
 (p:lastMarks [op,op'] [b,c]=false:=by with_unfolding_all rfl):PT X (.G a [op,op'] [b,c] pos)<|A9<|ri r r' ta tb tc:=by
 intro f s U H Q I h;refine isTrue_chain (aD (Y f s U H _ I h) ?_) p;rintro v J⟨x,w,C,E,R⟩;refine test_link<|aD (P f J U w _ C R) ?_;rintro u V⟨y,q,T,l,G⟩;refine aD (o f V U q x y v u _ T E l G) ?_;rintro d O⟨z,H3,j,D,k,e,i⟩;subst e;cases D;refine SA ?_;cases k with
|false=>obtain⟨k',F,B⟩:=i;cases F;exact ite_ff ⟨H3,j,B⟩
|true=>refine ite_tt<|test_last<|aD (W f O U H3 _ j i) ?_;rintro N t⟨n,H4,L,M,A⟩;refine aD (g f t U H4 y n u N _ L l M A) ?_;rintro d' s5 ⟨z2,m,Z,r5,k2,S,K⟩;subst S;cases r5;exact SA ⟨m,Z,K⟩
def lM:V->Bool->Prop
|.K b,k=>k=b
|.u i,k=>k=(i !=0)
|_,_=>False
def QJ:(sizeLine:Nat)<2^63:=by rw[SW];decide
def nP:P8 X<|λx H Q=>∃k,lM x k/\Q k H:=by
 rintro a s U H x v Q I c⟨k,e,q⟩;cases x with
|bl b=>cases c;cases e;exact SA ⟨H,I,q⟩
|int i=>obtain⟨t,rfl⟩:=c;cases e;exact PySem.P.truthy_int ⟨H,I,q⟩
|_=>exact e.j
def Nv(l:PE X a ta)(d:∀j,isTrue a X.j j=(do let v←j;standAt a.pos;holding [v]<|truthy v)):
 PT X a<|λU H Q=>ta U H λx H'=>∃k,lM x k/\Q k H':=λb s U H Q I h=>isTrue_plain (aD (l b s U H _ I h)<|by rintro v g⟨x,c,e,f,i⟩;exact nP b g U c x v Q e f i)<|d _
def LG:bB X (binaryOp .Add)<|λx y H Q=>∃i j,x=.o i/\y=.o j/\i.e+j.e<=sizeLine/\Q (.o<|i++j) H:=by rintro a s U H x y v u Q I e b⟨i,j,rfl,rfl,d,q⟩;obtain⟨t,rfl⟩:=e;obtain⟨c,rfl⟩:=b;exact add_str (λc tk=>⟨.o _,H,I.tok _,⟨_,rfl⟩,q⟩) d
def xS(r:Vals [x] us):∃u,us=[u]/\RelV x u:=by
 cases r with
|cons b a=>cases a;exact⟨_,rfl,b⟩
def Z6(r:Vals [x,y] us):∃u j,us=[u,j]/\RelV x u/\RelV y j:=by
 cases r with
|cons b c=>
  cases c with
|cons a d=>cases d;exact⟨_,_,rfl,b,a⟩
def z9:qo X (.w "divmod")<|fun xs H Q=>∃i j,xs=[.u i,.u j]/\AK i j/\∀p,H p=none->Q (.j p) (ax H p<|.p [.u (i/j),.u (i%j)]):=by rintro a s U H xs f Q I r⟨i,j,rfl,⟨h,d⟩,q⟩;obtain⟨u,g,rfl,⟨t,rfl⟩,⟨c,rfl⟩⟩:=Z6 r;refine divmod_int Y8 ?_<|.p<|Uw Y8;rw[Ak i Y8,TY i Y8];refine⟨.j s.j.j.j,_,?_,rfl,q _<|I.L.fresh<|Aa3 _⟩;refine I.laid (λb o e=>Aa _ e) (Aa3 _) ⟨by simp only[Ab6,Ae0];decide,[.u _ s.p,.u _ (s.p+1)],.j ⟨_,rfl⟩<|.j ⟨_,rfl⟩ .p,?_⟩;exact⟨_,Aa5 s.j rfl,rfl,rfl,0,rfl⟩
end
structure eN(h:Heap)(x dx C:Addr)(mA:Str->Option Value):Prop where
 obj:h.p x=y0 (Ai2 C dx)
 ns:h.Ns1 dx mA
 ne:dx≠x
set_option tactic.hygienic true in
def Q1{h:Heap}(n:h.Ns1 dx mA):∃j,h.p dx=y0 j/\∀name,Ak8 name j=y0 (mA name):=by
 obtain⟨o,c,l,d,g,i,_,f⟩:=n;refine⟨o,d,λname=>?_⟩;have e:=f name;unfold nsFind findBy at e;rw[←Array.find?_toList]at e;unfold Ak8;rw[g];dsimp only;split
 .rename_i y q;rw[q]at e;exact congrArg y0 e
 .rename_i q;rw[q]at e;have a:c.p.C (·.refKey)=false:=by rw[VB];intro y hy;obtain⟨z,t,b⟩:=i y<|Array.mem_toList_iff.j hy;simp[DictEntry.refKey,b]
  have k:¬c.p.C (·.refKey)=true:=by rw[a];exact Ab0
  rw[FB k];exact congrArg y0 e
def eN.look (I:eN h x dx C mA):∃j,PySem.W.InstAt h x (Ai2 C dx) C (y0 j)/\∀name,Ak8 name j=y0 (mA name):=
 let⟨j,b,a⟩:=Q1 I.ns
 ⟨j,⟨I.obj,rfl,rfl,b⟩,a⟩
section
variable{prog:Program}{w:World}{A:Around}{E:Value->Shared->Prop}{s:Shared}{K:Aa1}{x dx C f:Addr}{mA:Str->Option Value}{name:Str}{v:Value}
def Ic(X:K.In s.j)(I:eN s.j x dx C mA)(f:Ak0 K C name=k9)(e:PySem.W.hasDictIn K C=k9)
 (d:Aj6 K (.j C) name=y0 u0)(b:mA name=y0 v)(a:PySem.W.handedIn v=k9)(h:Q v {s with toks:=s.p+1}):
 wpAny (model prog w) A (getAttr (.j x) name expr) Q E s:=by
 obtain⟨g,J,c⟩:=I.look;exact PySem.W.get_value X J (Al5 f).1 (U5 e d rfl<|by rw[c,b]) a h
def L0(X:K.In s.j)(I:eN s.j x dx C mA)(a:Ak0 K C name=k9)
 (d:Aj6 K (.j C) name=y0 (y0<|.j f))(e:PySem.W.isFn K (.j f)=k9)(b:mA name=u0)(h:Q (.j f,[.j x]) s):
 wpAny (model prog w) A (getMethod (.j x) name pl) Q E s:=by
 obtain⟨g,J,c⟩:=I.look;exact PySem.W.method_fn X J (Al5 a).1 (Al5 a).2 d (beq_iff_eq.j e) (by show(Ak8 name g).y _=y0 y9;rw[c,b];rfl) h
def Rx(X:K.In s.j)(I:eN s.j x dx C mA)
 (k:PySem.W.findIn K (.j C) "__setattr__"=some (some<|.w "object.__setattr__"))(m:PySem.W.plainOver K C=true)(o:PySem.W.takerIn K C name=some none)(j:PySem.W.hasDictIn K C=true)
 (l:PySem.Within mA ns)(hsz:ns.e<=sizeLine)
 (h:∀h',eN h' x dx C (λy=>if y=name then y0 v else mA y)->Af5 dx s.j h'->Q () {s with heap:=h',toks:=s.p+2}):
 wpAny (model prog w) A (setAttr (.j x) name v) Q E s:=by
 obtain⟨q,J,u⟩:=I.look;refine VC X J k<|PySem.W.osa_open X J m o λb=>?_;obtain⟨r,p,d⟩:=VQ j;refine AC<|Do<|AC<|AC<|wpAny_loadPart I.obj<|AC<|PySem.W.Looks.here (U7 X p) ?_;rw[d];refine Do<|AC<|Do<|AC<|wpAny_nsSet1 I.ns λh' a c=>?_;obtain⟨t,i,n,g,f,e⟩:=a.count<|PySem.Within.cons name v l;refine AC<|VR g (by rw[f];exact VS<|Ac e<|by simp_all) ?_;exact Do<|h _ ⟨(c.2 _<|Ne.symm I.ne).x I.obj,a,I.ne⟩ c
def HH(X:K.In s.j)(c:PySem.W.makesIn K C=k9)
 (hi:PySem.W.findIn K (.j C) "__init__"=some (some<|.j f))(b:PySem.W.typeIn K (.j f)=some (.p "function"))
 (h:codeAny (model prog w) (A.under<|.w "type.__call__" ⟨.j C::vs,kw⟩) (.j (.j f) ⟨.j (s.j.j.j+1)::vs,kw⟩) (PySem.W.InitBack (s.j.j.j+1) R)
   {s with heap:=(s.j.w Ah2).w<|Ai2 C s.j.j.j}):
 codeAny (model prog w) A (.j (.j C) ⟨vs,kw⟩) R s:=by
 obtain⟨i,g,d,t,e⟩:=s;exact PySem.W.make_core (PySem.W.makes_of X c) (PySem.W.looks_findIn X hi) (λa=>PySem.W.bind_fn X a b) (.p rfl) h
end
noncomputable def bf(f:Str)(v:V):List (Str×V)->List (Str×V)
|[]=>[(f,v)]
|(g,x)::r=>if g=f then(g,v)::r else(g,x)::bf f v r
theorem ZC(f g)(v):∀fs:List<|Str×V,(bf f v fs).p g=if g=f then y0 v else fs.p g
|[]=>by
  show Ag6 g [(f,v)]=_;by_cases h:g=f
  .have a:=beq_iff_eq.p h;simp only[Ag6,a,Fk h]
  .have a:=beq_eq_false_iff_ne.p h;simp only[Ag6,a,FB h]
|(k,x)::r=>by
  have c:=ZC f g v r;rw[show bf f v ((k,x)::r)=(if k=f then(k,v)::r else(k,x)::bf f v r)from rfl];by_cases b:k=f
  .rw[Fk b];by_cases h:g=k
   .have a:=beq_iff_eq.p h;simp only[Ag6,a,Fk<|h.x b]
   .have a:=beq_eq_false_iff_ne.p h;simp only[Ag6,a,FB<|λe:g=f=>h<|e.x b.I]
  .rw[FB b];by_cases h:g=k
   .have a:=beq_iff_eq.p h;simp only[Ag6,a,FB<|λe:g=f=>b<|h.I.x e]
   .have a:=beq_eq_false_iff_ne.p h;simp only[Ag6,a];exact c
theorem jC(f)(v):∀fs:List<|Str×V,f∈(bf f v fs).y (·.1)/\∀g,g∈fs.y (·.1)->g∈(bf f v fs).y (·.1)
|[]=>⟨by simp[bf],λg h=>by simp at h⟩
|(k,x)::r=>by
  obtain⟨i1,i2⟩:=jC f v r;rw[show bf f v ((k,x)::r)=(if k=f then(k,v)::r else(k,x)::bf f v r)from rfl];by_cases a:k=f
  .rw[Fk a];subst a;exact⟨by simp,λg h=>by simpa using h⟩
  .rw[FB a];refine⟨?_,λg h=>?_⟩
   .rw[Ac3];exact Aa0 _ i1
   .rw[Ac3]at h⊢;rcases Aa8.j h with e|e
    .exact Aa8.p<|.p e
    .exact Aa0 _<|i2 g e
theorem JC(f)(v):∀fs:List<|Str×V,(bf f v fs).e<=fs.e+1
|[]=>by simp[bf]
|(k,x)::r=>by
  have b:=JC f v r;rw[show bf f v ((k,x)::r)=(if k=f then(k,v)::r else(k,x)::bf f v r)from rfl];by_cases a:k=f
  .rw[Fk a,Ab6,Ab6];exact Ad5 _
  .rw[FB a,Ab6,Ab6];exact TC ‹_›
def bJ.some_of (r:bJ (y0 v) o):∃u,o=y0 u/\RelV v u:=by
 cases o with
|none=>exact(r).j
|some u=>exact⟨u,rfl,r⟩
def bJ.none_of (r:bJ u0 o):o=none:=by
 cases o with
|none=>rfl
|some u=>exact(r).j
def Z2(r:RelV v u):PySem.W.handedIn u=true:=by
 cases v with
|int i=>obtain⟨t,e⟩:=(r);cases e;rfl
|str x=>obtain⟨t,e⟩:=(r);cases e;rfl
|_=>cases(r);rfl
section
variable{P:Program}{w:World}{H H':Hp}{h h':Heap}{a C dx:Addr}{fs fs':List<|Str×V}
def zO(b:ck P w H h)(e:H a=y0 (.y C dx fs)):∃mA,eN h a dx C mA/\(∀f,bJ (fs.p f)<|mA f)/\PySem.Within mA (fs.y (·.1))/\fs.e<=1000/\H dx=y0 (.j a):=by obtain⟨d,z,ne,c,mA,n,r,q⟩:=(show aE P w H h a (.y C dx fs)from b a _ e);exact⟨mA,⟨c,n,ne⟩,r,q,z,d⟩
end
structure cP(K:Aa1)(C:Addr):Prop where
 pg:Ak0 K C Str.empty=k9
 hd:PySem.W.hasDictIn K C=k9
 po:PySem.W.plainOver K C=k9
 sa:PySem.W.findIn K (.j C) "__setattr__"=some (some<|.w "object.__setattr__")
def cP.get {K:Aa1}(c:cP K C)(f):Ak0 K C f=true:=c.pg
def bZ(K:Aa1)(C:Addr)(f:Str):Prop:=Aj6 K (.j C) f=y0 u0
def bZ.mh {K:Aa1}(n:bZ K C f):PySem.W.takerIn K C f=y0 none:=by unfold PySem.W.takerIn;rw[show Aj6 K _ f=y0 u0 from n];rfl
structure lF(K:Aa1)(C:Addr)(m:Str)(f:Addr):Prop where
 at_:Aj6 K (.j C) m=y0 (y0<|.j f)
 fn:PySem.W.isFn K (.j f)=k9
 kp:Ag1 K (.j f)=k9
section
variable{X:Cx}{pins:List<|Addr×Obj}{U:St}{H:Hp}{s:Shared}{a C dx:Addr}{fs:List<|Str×V}{f:Str}{v:V}{A:Around}{E:Value->Shared->Prop}
def E2(I:Inv X pins U H s)(e:H a=y0 (.y C dx fs))(c:cP X.K C)(n:bZ X.K C f)(l:fs.p f=y0 v)
 (h:∀u s',Inv X pins U H s'->RelV v u->Q u s'):wpAny (model X.p X.w) A (getAttr (.j a) f b) Q E s:=by
 obtain⟨i,O,r,_,_,_⟩:=zO I.L e;obtain⟨u,g,d⟩:=bJ.some_of (by rw[←l];exact r f);exact Ic I.bg O (c.get f) c.hd n g (Z2 d)<|h u _ (I.tok _) d
def Zw(I:Inv X pins U H s)(e:H a=y0 (.y C dx fs))(c:cP X.K C)(k:lF X.K C m g)(l:fs.p m=u0)
 (h:Q (.j g,[.j a]) s):wpAny (model X.p X.w) A (getMethod (.j a) m pl) Q E s:=by
 obtain⟨d,O,r,_,_,_⟩:=zO I.L e;have b:=bJ.none_of (by rw[←l];exact r m);exact L0 I.bg O (c.get m) k.at_ k.fn b h
def RN(I:Inv X pins U H s)(e:H a=y0 (.y C dx fs))(c:cP X.K C)(n:bZ X.K C f)(x:fs.e<1000)(w:RelV y u)
 (h:∀s',Inv X pins U (ax H a<|.y C dx<|bf f y fs) s'->Q () s'):wpAny (model X.p X.w) A (setAttr (.j a) f u) Q E s:=by
 obtain⟨m,O,r,j,_,i⟩:=zO I.L e;refine Rx I.bg O c.sa c.po n.mh c.hd j (by rw[Aa4,SW];exact ZAA) λk d sb=>h _ ?_;have p:∃o,k.p dx=y0 o:=let⟨o,_,_,l,_⟩:=d.ns;⟨o,l⟩;refine I.write (by rw[e];exact True.intro) (.w i) (λb q v z=>(sb.2 b v).x z) p ?_;refine⟨by rw[Ja O.ne];exact i,?_,O.ne,d.obj,_,d.ns,λg=>?_,λg t=>?_⟩
 .have:=JC f y fs;exact Ac ‹_› ‹_›
 .show bJ _ _;rw[ZC];by_cases q:g=f
  .rwa [Fk q,Fk q]
  .rw[FB q,FB q];exact r g
 .by_cases q:g=f
  .rw[q];exact(jC f y fs).1
  .refine(jC f y fs).2 g<|j g λz=>t ?_;show(if g=f then y0 u else m g)=u0
   rwa [FB q]
def Inv.made (I:Inv X pins U H s):Inv X pins U (ax (ax H s.j.j.j<|.j<|s.j.j.j+1) (s.j.j.j+1)<|.y C s.j.j.j [])
 {s with heap:=(s.j.w Ah2).w<|Ai2 C s.j.j.j}:=by
 have a:(s.j.w Ah2).p s.j.j.j=y0 Ah2:=Aa5 s.j rfl;have c:=by
  have:=Aa5 (s.j.w Ah2) (o:=Ai2 C s.j.j.j) rfl
  rwa [Ad6]at this
 refine(I.laid (o:=.j<|s.j.j.j+1) (t':=s.p) (λb u q=>Aa _ q) (Aa3 _) ⟨_,a⟩).laid (λb u q=>Aa _ q) (Am9<|Ad6 _ _) ?_;have ne:s.j.j.j≠s.j.j.j+1:=Ab5<|Ae4 _;refine⟨by rw[Ja ne,Xa],Ag _,ne,c,λ_=>u0,(VD<|⟨Ah2,#[],_,a,rfl,(λe d=>absurd d Y9),λ_=>rfl⟩).at λo q=>Aa _ q,λ_=>True.intro,λy hy=>absurd rfl hy⟩
def vw(a:attributeBase e f env (eval e env)=eval e env)
 (h:wpAny (model prog w) A (eval e env) (λo j=>wpAny (model prog w) A (getAttr o f k9) Q E j) E s):wpAny (model prog w) A (eval (.j e f pos) env) Q E s:=
 Attribute_any_ h<|by rw[arm_eval_Attribute,a]
end
def O3(K:Aa1)(b:TE)(f:Str):TE:=λU H Q=>b U H λx H1=>∃a C dx fs v,x=.j a/\H1 a=y0 (.y C dx fs)/\cP K C/\bZ K C f/\fs.p f=y0 v/\Q v H1
def Hl(K:Aa1)(c b:TE)(f:Str):TS:=λD U H=>b U H λy H1=>c U H1 λx H2=>∃a C dx fs,x=.j a/\H2 a=y0 (.y C dx fs)/\cP K C/\bZ K C f/\fs.e<1000∧
 D.nx U (ax H2 a<|.y C dx<|bf f y fs)
section
variable{X:Cx}{o e value:Expr}{f:Str}{pos pos' tpos:Pos}{ta tv:TE}
def Hu(j:PE X e ta)(m:attributeBase e f X.j (eval e X.j)=eval e X.j):PE X (.j e f pos)<|O3 X.K ta f:=by intro b s U H Q I h;refine vw m<|aD (j b s U H _ I h) ?_;rintro u t ⟨x,i,k,o,a,C,dx,fs,v,ex,g,c,n,l,q⟩;subst ex;obtain rfl:u=Value.ref a:=o;exact E2 k g c n l λr w p d=>⟨v,i,p,d,q⟩
def BF(w:PE X o ta)(i:PE X value tv)(e:swapsWith value (y0<|.j o f pos') pos.p X.j=pure y9):PS X (.j [.j o f pos'] value pos)<|Hl X.K ta tv f:=by intro b s U H D I h;refine TH (aD (i b s U H _ I h) ?_) e;rintro u r⟨y,j,k,d,q⟩;refine aD (w b r U j _ k q) ?_;rintro ov B⟨x,z,t,v,a,C,dx,fs,ex,g,c,n,l,p⟩;subst ex;obtain rfl:ov=Value.ref a:=v;exact RN t g c n l d λA m=>⟨U,_,m,p⟩
end
section
variable{X:Cx}{pins:List<|Addr×Obj}{U:St}{H:Hp}{s:Shared}{A:Around}{E:Value->Shared->Prop}{Q:Value->Shared->Prop}{c:Value}{b:Bool}
set_option genCtorIdx true
inductive hB(K:Aa1)(H:Hp):V->Value->Prop where
|ai:hB K H .ai<|.p "NoneType"
|bl (x:Bool):hB K H (.K x)<|.p "bool"
|int (i:Int):hB K H (.u i)<|.p "int"
|str (x:Str):hB K H (.o x)<|.p "str"
|lst {a:Addr}{xs:List V}(e:H a=y0 (.w xs)):hB K H (.j a)<|.p "list"
|cS {a:Addr}{o:Obj}{xs:List V}(e:H a=y0 (.cS o<|.w xs)):hB K H (.j a)<|.p "list"
|tup {a:Addr}{xs:List V}(e:H a=y0 (.p xs)):hB K H (.j a)<|.p "tuple"
|dK {a:Addr}{kvs:List<|bW×V}(e:H a=y0 (.dK kvs)):hB K H (.j a)<|.p "dict"
|ins {a C dx:Addr}{fs:List<|Str×V}(e:H a=some (.y C dx fs))(cl:cP K C)(ha:PySem.W.findIn K (.j C) "__class__"=some (some<|.w "object.__class__"))
  (hn:PySem.W.specialIn K (.w "object.__class__") "__get__"=some (some<|.w "getset_descriptor.__get__"))(htk:PySem.W.takesIn K (.w "object.__class__")=some true)
  (hm:PySem.W.mroIn K C (.p "object")=some true):hB K H (.j a)<|.j C
set_option genCtorIdx false
def wh(I:Inv X pins U H s)(f:RelV x u)(ty:hB X.K H x t)(e:Ak9 X.K t c=y0 b)(h:∀tk,Q (.B b) {s with toks:=tk}):
 wpAny (model X.p X.w) A (call (.w "isinstance") [u,c]) Q E s:=by
 cases ty with
|ai=>cases(f);exact Ae7 PySem.W.kitx_none I.bg True.intro e (λz=>nomatch z) h
|bl y=>cases(f);exact Ae7 PySem.W.kitx_bool I.bg True.intro e (λz=>nomatch z) h
|int i=>obtain⟨t,q⟩:=(f);cases q;exact Ae7 PySem.W.kitx_int I.bg True.intro e (λz=>nomatch z) h
|str y=>obtain⟨t,q⟩:=(f);cases q;exact Ae7 PySem.W.kitx_str I.bg True.intro e (λz=>nomatch z) h
|@lst a j d=>cases(f);obtain⟨_,_,n,_,g⟩:=(show aE X.p X.w H s.j a (.w j)from I.L a _ d);exact Ae7 Am4 I.bg ⟨_,g,rfl⟩ e (λz=>nomatch z) h
|@cS a B j d=>cases(f);obtain⟨_,_,_,n,_,g⟩:=(show aE X.p X.w H s.j a (.cS B _)from I.L a _ d);exact Ae7 Am4 I.bg ⟨_,g,rfl⟩ e (λz=>nomatch z) h
|@tup a j d=>cases(f);obtain⟨_,_,_,p⟩:=(show aE X.p X.w H s.j a (.p j)from I.L a _ d);obtain⟨o,g,l,_⟩:=p;exact Ae7 Vm I.bg ⟨o,g,l⟩ e (λz=>nomatch z) h
|@dK a k d=>cases(f);obtain⟨_,_,G,_,p⟩:=(show aE X.p X.w H s.j a (.dK k)from I.L a _ d);obtain⟨o,K,M,g,l,_⟩:=p;exact Ae7 PySem.W.kitx_dict I.bg ⟨o,g,l.1⟩ e (λz=>nomatch z) h
|@ins a C dx fs d r D w m v=>cases(f);obtain⟨L,O,_⟩:=zO I.L d;obtain⟨F,J,_⟩:=O.look;exact Ae7 (PySem.W.kitx_own (r.get _) r.hd D w m v) I.bg J e (λz=>nomatch z) h
end
structure aB(k:Nat)(A:Around):Prop where
 hd:4<=k->A.j=u0
 dp:A.depth+k+5<recursionLimit
 un:A.y+16*k+200<cLine
def aB.mono (r:aB k A)(h:j<=k):aB j A:=⟨λq=>r.hd<|Ac q h,by have:=r.dp;lia,by have:=r.un;lia⟩
theorem aB.deeper (r:aB (k+1) A)(env):aB k<|A.w env:=
 ⟨λq=>r.hd<|Af9 q,by have:=r.dp;show A.depth+1+k+5<_;lia,by have:=r.un;show A.y+3+16*k+200<_;lia⟩
theorem aB.in1 (r:aB (k+1) A):aB k A.p:=
 ⟨λq=>r.hd<|Af9 q,by have:=r.dp;exact Ag5 ‹_›,by have:=r.un;lia⟩
def N1{A:Around}:(A.under<|.w "type.__call__" ⟨.j C::us,kw⟩).depth=A.depth+1:=by
 first|rfl|simp[guardIds]
def Hx{A:Around}:(A.under<|.w "type.__call__" ⟨.j C::us,kw⟩).y=A.y+1:=by
 first|rfl|simp[Code.isFrame]
def aB.make (r:aB (k+1) A)(C)(us)(kw):aB k<|A.under<|.w "type.__call__" ⟨.j C::us,kw⟩:=
 ⟨λq=>r.hd<|Af9 q,by have:=r.dp;rw[N1];lia,by have:=r.un;rw[Hx];lia⟩
theorem aB.depth (r:aB k A):A.depth<recursionLimit:=by have:=r.dp;lia
def mB:TA:=λ_ H Q=>Q [] H
def sx(a:TE)(b:TA):TA:=λU H Q=>a U H λx H1=>b U H1 λxs H2=>Q (x::xs) H2
section
variable{X:Cx}{e:Expr}{es:List Expr}{te:TE}{t:TA}{pos:Pos}
def Jf:PA X [] mB:=λ_ _ _ _ H Q I h=>Ts ⟨[],H,I,.p,h⟩
def qc(q:PE X e te)(n:PA X es t)(d:starEach (e::es) X.j=(y9,eval e X.j)::starEach es X.j:=by rfl):PA X (e::es)<|sx te t:=by intro b a s U H Q I h;rw[d];exact Tn<|aD (q a s U H _ I h)<|by rintro u l⟨x,g,i,j,o⟩;exact aD (n b a l U g _ i o)<|by rintro r v⟨c,f,p,m,k⟩;exact⟨x::c,f,p,.j j m,k⟩
def Fw(t:TA):TE:=λU H Q=>t U H λxs H1=>xs.e<=sizeLine/\∀p,H1 p=u0->Q (.j p) (ax H1 p<|.p xs)
def O8(t:TA):TE:=λU H Q=>t U H λxs H1=>xs.e<=sizeLine/\∀p,H1 p=u0->Q (.j p) (ax H1 p<|.w xs)
def FN{x1}(h:PA X es t):PE X (.L es x1 pos)<|Fw t:=by intro a s U H Q I f;refine wpAny_Tuple_spliced<|aD (h pos a s U H _ I f) λi d ⟨j,g,c,r,z,q⟩=>⟨by rw[←r.e];exact z,?_⟩;refine⟨.j d.j.j.j,ax g d.j.j.j _,c.laid (λb u e=>Aa _ e) (Aa3 _) ?_,rfl,q _<|c.L.fresh<|Aa3 _⟩;exact⟨z,i,r,⟨_,Aa5 _ rfl,rfl,rfl,_,rfl⟩⟩
def DD(h:PA X es t):PE X (.List es pos)<|O8 t:=by intro a s U H Q I f;refine wpAny_List_spliced<|aD (h pos a s U H _ I f) λi d ⟨j,g,c,r,z,q⟩=>⟨by rw[←r.e];exact z,?_⟩;refine⟨.j d.j.j.j,ax g d.j.j.j _,c.laid (λb u e=>Aa _ e) (Aa3 _) ?_,rfl,q _<|c.L.fresh<|Aa3 _⟩;exact⟨z,i,0,r,Aa5 _ rfl⟩
end
abbrev Sp:=List V->Hp->VK->XK->Prop
abbrev eB:=List Env->Hp->Shared->XK->Value->Shared->Prop
structure cX(P:Program)(w:World)(K:Aa1)(mg:Str->Option Value)(base:Heap)(A:Around)(outer:List Env)(s:Shared)(H:Hp):Prop where
 frames:A.frames=y0 outer
 mod:Mod K mg base
 bs:∀b o,base.p b=y0 o->s.j.p b=y0 o/\H b=u0
 f7:base.j.j<=s.j.j.j
 cJ:s.j.C base outer
 ia:∀b∈bA outer,H b=u0
 aF:ck P w H s.j
 bare:AllBare s.w
def CE(a:List Env)(P:Program)(w:World)(H:Hp)(s:Shared)(Q:VK)(u:Value)(b:Shared):Prop:=
 ∃v H',b.os=s.os/\AllBare b.w/\Un (bA a) [] H H' s.j b.j/\ck P w H' b.j/\RelV v u/\Q v H'
def CR(c:eB)(a:List Env)(P:Program)(w:World)(H:Hp)(s:Shared)(Q:VK)(E:XK)(r:Result)(b:Shared):Prop:=
 match r with
|.ok (.j u)=>CE a P w H s Q u b
|.ok _=>False
|.error e=>c a H s E e b
structure aX(P:Program)(w:World)(K:Aa1)(mg:Str->Option Value)(base:Heap)(CX:eB)(k:Nat)(f:Addr)(fd:FuncData)(ps:List Str)(sp:Sp):Prop where
 len:∀vs H Q E,sp vs H Q E->vs.e=ps.e
 run:∀(A:Around)(outer:List Env)(s:Shared)(H:Hp)(args:Args)(us:List Value)(vs:List V)(Q:VK)(E:XK),aB k A->cX P w K mg base A outer s H->BindsTo s fd args (ps.a1 us)->Vals vs us->sp vs H Q E→
  codeAny (model P w) A (.j (.j f) args) (CR CX outer P w H s Q E) s
def cX.make {K:Aa1}(e:cX P w K mg base A outer s H)(C)(us)(kw):
 cX P w K mg base (A.under<|.w "type.__call__" ⟨.j C::us,kw⟩) outer s H:=⟨by first|exact e.frames|(simpa[pushEnvs]using e.frames),e.mod,e.bs,e.f7,e.cJ,e.ia,e.aF,e.bare⟩
theorem cX.in1 {K:Aa1}(e:cX P w K mg base A outer s H):
 cX P w K mg base A.p outer s H:=⟨e.frames,e.mod,e.bs,e.f7,e.cJ,e.ia,e.aF,e.bare⟩
section
variable{X:Cx}{pins:List<|Addr×Obj}{U:St}{H:Hp}{s s':Shared}
def Inv.ej (I:Inv X pins U H s):cX X.p X.w X.K X.M X.y X.A X.B s H:=
 ⟨I.p.frames,I.p.mod,I.bs,Ac I.p.f7 I.sz,I.stack,I.c7,I.L,I.Z⟩
def Inv.after (I:Inv X pins U H s)(h:CE X.B X.p X.w H s Q u s'):EP X pins U Q u s':=by obtain⟨v,i,f,a,un,e,r,q⟩:=h;obtain⟨j,g,d,t,c⟩:=s';obtain rfl:c=s.os:=f;exact⟨v,i,I.call un e a<|λb z=>absurd z Y9,r,q⟩
end
def EZ(sp:Sp)(a:List V)(E:XK)(t:TA):TE:=λU H Q=>t U H λvs H1=>sp (vs++a) H1 Q E
def rf(C:Addr)(m:Str)(sp:Sp)(b:List V)(E:XK)(c:TE)(t:TA):TE:=λU H Q=>c U H λx H1=>∃a dx fs,x=.j a/\H1 a=y0 (.y C dx fs)/\fs.p m=u0∧
 t U H1 λvs H2=>sp (x::(vs++b)) H2 Q E
def rG(C:Addr)(sp:Sp)(a:List V)(E:XK)(t:TA):TE:=λU H Q=>t U H λvs H1=>∀x dx,H1 x=u0->H1 dx=u0->dx≠x→
 sp (.j x::(vs++a)) (ax (ax H1 dx<|.j x) x<|.y C dx []) (λv H2=>v=.ai/\Q (.j x) H2) E
def Binds(K:Aa1)(a:FuncData)(ps:List Str)(ds:List Value):Prop:=
 ∀(s:Shared)(us:List Value),K.In s.j->(us++ds).e=ps.e->BindsTo s a ⟨us,[]⟩ (ps.a1<|us++ds)
def Binds.all {K:Aa1}(h:∀us:List Value,us.e=ps.e->bindArgs fd ⟨us,[]⟩=pure (ps.a1 us)):Binds K fd ps []:=λs us _ a=>by rw[Ac4]at a⊢;exact .of_eq<|h us a
def wm(a:eB)(X:Cx)(E:XK):Prop:=∀(pins:List<|Addr×Obj)(U:St)(H:Hp)(s:Shared)(e:Value)(s':Shared),Inv X pins U H s->a X.B H s E e s'->X.L e s'
section
variable{X:Cx}{CX:eB}{k:Nat}{f C:Addr}{fd:FuncData}{ps:List Str}{sp:Sp}{dvs:List V}{ds:List Value}{E:XK}{x m:Str}{p pos apos:Pos}{e o:Expr}{es:List Expr}{ta:TE}{t:TA}
def pP(F:aX X.p X.w X.K X.M X.y CX k f fd ps sp)(d:aB k X.A)(l:Binds X.K fd ps ds)(g:Vals dvs ds)(i:wm CX X E)
 (I:Inv X pins U H s)(r:Vals vs us)(h:sp (vs++dvs) H Q E):wpAny (model X.p X.w) X.A (call (.j f) us) (EP X pins U Q) X.L s:=by
 have b:=r.append g;have c:(us++ds).e=ps.e:=by rw[←b.e];exact F.len _ _ _ _ h
 refine SX<|SL (F.run X.A X.B s H ⟨us,[]⟩ _ _ Q E d I.ej (l s us I.bg c) b h) λr j a=>?_;cases r with
|error e=>exact i pins U H s e j I a
|ok m=>
  cases m with
|ret u=>exact I.after a
|_=>exact False.elim a
def NS(F:aX X.p X.w X.K X.M X.y CX k f fd ps sp)(n:aB k X.A)(l:Gl X x)(g:X.M x=y0 (.j f))(m:Ag1 X.K (.j f)=k9)(o:Binds X.K fd ps ds)(j:Vals dvs ds)(v:wm CX X E)
 (u:PA X (e::es) t)(c:(x==("__debug__":Str))=false:=by decide)(i:starEach (e::es) X.j=(false,eval e X.j)::starEach es X.j:=by rfl)(b:(backTo pos<|starEach es X.j).C (·.1)=false:=by rfl):
 PE X (.w (.p x p) (e::es) [] pos)<|EZ sp dvs E t:=by
 intro a s U H Q I h;refine Pv<|Wi I l g (Am0 I.p.mod.eQ m (aD (u pos a s U H _ I h) ?_) i b) c;rintro A z⟨w,y,d,r,q⟩;refine⟨d.bg,?_⟩;exact pP F n o j v d r q
abbrev xU(env:Env)(o:Expr)(m:Str)(a pos:Pos)(es:List Expr)(pl:Sem Bool):Prop:=eval (.w (.j o m a) es [] pos) env=(do
   let ov←eval o env
   standAt a.atName
   let(f,first)←holding [ov]<|getMethod ov m pl
   callWith pos f first (backTo pos<|starEach es env)<|backToKw pos<|keywordEach [] env)
def O5(w:PE X o ta)(c:cP X.K C)(i:lF X.K C m f)(F:aX X.p X.w X.K X.M X.y CX k f fd ps sp)(D:aB k X.A)(G:Binds X.K fd ps ds)(B:Vals dvs ds)(L:wm CX X E)(K:PA X (e::es) t)
 (d:starEach (e::es) X.j=(y9,eval e X.j)::starEach es X.j:=by rfl)(g:(backTo pos<|starEach es X.j).C (·.1)=false:=by rfl)
 (y:xU X.j o m apos pos (e::es) pl:=by rfl):
 PE X (.w (.j o m apos) (e::es) [] pos)<|rf C m sp dvs E ta t:=by
 intro b s U H Q I h;refine UF (aD (w b s U H _ I h) ?_) y;rintro u A⟨x,v,j,J,a,dx,fs,ex,p,l,q⟩;subst ex;obtain rfl:u=Value.ref a:=J;refine Zw j p c i l<|Am0 I.p.mod.eQ i.kp (aD (K pos b A U v _ j q) ?_) d g;rintro N O⟨vs,M,n,r,z⟩;refine⟨n.bg,?_⟩;exact pP (vs:=.j a::vs) F D G B L n (.j rfl r) z
def MX(i:PE X o ta)(c:cP X.K C)(e:lF X.K C m f)(F:aX X.p X.w X.K X.M X.y CX k f fd ps sp)(p:aB k X.A)(r:Binds X.K fd ps ds)(n:Vals dvs ds)(v:wm CX X E)
 (j:xU X.j o m apos pos [] pl:=by rfl):
 PE X (.w (.j o m apos) [] [] pos)<|rf C m sp dvs E ta mB:=by
 intro b s U H Q I h;refine UF (aD (i b s U H _ I h) ?_) j;rintro u y⟨x,w,d,t,a,dx,fs,ex,g,l,q⟩;subst ex;obtain rfl:u=Value.ref a:=t;exact Zw d g c e l<|U8 d.bg e.kp<|pP (vs:=[.j a]) F p r n v d (.j rfl .p) q
structure Mk(K:Aa1)(C f:Addr):Prop where
 makes:PySem.W.makesIn K C=k9
 init:PySem.W.findIn K (.j C) "__init__"=some (some<|.j f)
 fn:PySem.W.isFn K (.j f)=k9
 kp:Ag1 K (.j C)=k9
def BE(M:Mk X.K C f)(F:aX X.p X.w X.K X.M X.y CX k f fd ps sp)(o:aB (k+1) X.A)(p:Binds X.K fd ps ds)(n:Vals dvs ds)
 (w:wm CX X E)(I:Inv X pins U H s)(r:Vals vs us)
 (h:∀x dx,H x=u0->H dx=u0->dx≠x->sp (.j x::(vs++dvs)) (ax (ax H dx<|.j x) x<|.y C dx []) (λv H2=>v=.ai/\Q (.j x) H2) E):
 wpAny (model X.p X.w) X.A (call (.j C) us) (EP X pins U Q) X.L s:=by
 have c:=h _ s.j.j.j (I.L.fresh<|Ad5 _) (I.L.fresh<|Aa3 _)<|Ab5<|Ae4 _;have b:=Inv.made (C:=C) I;have d:Vals (V.ref (s.j.j.j+1)::(vs++dvs)) _:=.j rfl<|r.append n;have t:=by have e:=d.e;rw[F.len _ _ _ _ c]at e;exact e.I
 refine SX<|HH I.bg M.makes M.init (beq_iff_eq.j M.fn)<|SL (F.run _ X.B _ _ ⟨Value.ref _::us,[]⟩ _ _ _ E (o.make C us [])
  (b.ej.make C us []) (p _ _ b.bg t) d c) λr i a=>?_
 cases r with
|error e=>exact w pins U _ _ e i b a
|ok q=>
  cases q with
|ret u=>obtain⟨v,l,m,rv,j,g⟩:=b.after a;subst j;exact⟨rv,⟨V.ref _,l,m,rfl,g⟩⟩
|_=>exact False.elim a
def Hb(M:Mk X.K C f)(F:aX X.p X.w X.K X.M X.y CX k f fd ps sp)(m:aB (k+1) X.A)(l:Gl X x)(g:X.M x=y0 (.j C))(n:Binds X.K fd ps ds)(j:Vals dvs ds)(u:wm CX X E)
 (o:PA X (e::es) t)(c:(x==("__debug__":Str))=false:=by decide)(i:starEach (e::es) X.j=(false,eval e X.j)::starEach es X.j:=by rfl)(b:(backTo pos<|starEach es X.j).C (·.1)=false:=by rfl):
 PE X (.w (.p x p) (e::es) [] pos)<|rG C sp dvs E t:=by
 intro a s U H Q I h;refine Pv<|Wi I l g (Am0 I.p.mod.eQ M.kp (aD (o pos a s U H _ I h) ?_) i b) c;rintro z y⟨v,w,d,r,q⟩;refine⟨d.bg,?_⟩;exact BE M F m n j u d r q
def IE(M:Mk X.K C f)(F:aX X.p X.w X.K X.M X.y CX k f fd ps sp)(c:aB (k+1) X.A)(e:Gl X x)(g:X.M x=y0 (.j C))(j:Binds X.K fd ps ds)(d:Vals dvs ds)(i:wm CX X E)
 (a:(x==("__debug__":Str))=false:=by decide):PE X (.w (.p x p) [] [] pos)<|rG C sp dvs E mB:=fun b s U H Q I h=>Pv<|Wi I e g (U8 I.bg M.kp<|BE (us:=[]) M F c j d i I .p h) a
end
def PK(X:Cx)(a:List Keyword)(t:TA):Prop:=
 ∀(pos:Pos)(pins:List<|Addr×Obj)(s:Shared)(U:St)(H:Hp)(Q:List V->Hp->Prop),Inv X pins U H s->t U H Q->wpAny (model X.p X.w) X.A (evalAll ((backToKw pos<|keywordEach a X.j).y (·.2))) (AP X pins U Q) X.L s
section
variable{X:Cx}{CX:eB}{k:Nat}{f C:Addr}{fd:FuncData}{ps ks:List Str}{sp:Sp}{E:XK}{x m:Str}{p pos apos kpos:Pos}{e o:Expr}{es:List Expr}{kws:List Keyword}{te ta:TE}{t tk:TA}{nm:Option Str}
def MQ:PK X [] mB:=λ_ _ _ _ H Q I h=>wpAny_evalAll_nil ⟨[],H,I,.p,h⟩
def Dm(p:PE X e te)(m:PK X kws t):PK X (⟨nm,e,kpos⟩::kws)<|sx te t:=λb a s U H Q I h=>wpAny_evalAll_cons<|AC<|aD (p a s U H _ I h)<|by rintro u j⟨x,f,g,i,n⟩;exact AC<|SG<|Do<|aD (m b a j U f _ g n)<|by rintro q r⟨c,d,o,l,k⟩;exact⟨x::c,d,o,.j i l,k⟩
variable{g:List Value->List Value->List Value}{gV:List V->List V->List V}
end
structure Wk(N P:List Str)(sc:Scope):Prop where
 kind:sc.p=.j
 co:sc.isCoroutine=y9
 gen:sc.isGenerator=y9
 nd:N.N
 pre:N.M P.e=P
 par:∀x∈P,sc.j.p x=y0 .local\/sc.j.p x=y0 .w
 ki:∀y∈sc.j,y.2≠.C
theorem Q0{b:Str->Option NameKind}{x:Str}:∀{a:List<|Str×Value}{m:Str->Option Value},(∀v,(x,v)∉a)->bindL b a m x=m x
|[],_,_=>rfl
|(n,v)::r,m,h=>by
  unfold bindL;rw[Q0 λw c=>h w<|Aa0 _ c];split
  .have:x≠n:=by rintro rfl;exact h v Aa2
   simp[this]
  .rfl
theorem xZ{b:Str->Option NameKind}{x:Str}:∀{a:List<|Str×Value}{m:Str->Option Value},(∀v,(x,v)∉a)->bindC b a m x=m x
|[],_,_=>rfl
|(n,v)::r,m,h=>by
  unfold bindC;rw[xZ λw c=>h w<|Aa0 _ c];split
  .rfl
  .have:x≠n:=by rintro rfl;exact h v Aa2
   simp[this]
theorem X0{a:Str->Option NameKind}{x:Str}{v:Value}:∀{P:List Str}{vs:List Value}{i:Nat}{m:Str->Option Value},P.N->P[i]?=y0 x->vs[i]?=y0 v->a x=y0 .local→
 bindL a (P.a1 vs) m x=y0 v
|[],_,_,_,_,h,_,_=>by simp at h
|_::_,[],_,_,_,_,h,_=>by simp at h
|p::P,w::vs,0,m,d,b,c,e=>by simp at b c;subst b;subst c;show bindL a ((p,w)::P.a1 vs) m p=_;unfold bindL;rw[Q0 λv f=>(Ah3.j d).1 (Uq f).1,Fk e];simp
|p::P,w::vs,i+1,m,d,b,c,e=>by show bindL a ((p,w)::P.a1 vs) m x=_;unfold bindL;exact X0 (i:=i) (Ah3.j d).2 (by simpa using b) (by simpa using c) e
theorem J0{a:Str->Option NameKind}{x:Str}{v:Value}:∀{P:List Str}{vs:List Value}{i:Nat}{m:Str->Option Value},P.N->P[i]?=y0 x->vs[i]?=y0 v->a x≠y0 .local→
 bindC a (P.a1 vs) m x=y0 v
|[],_,_,_,_,h,_,_=>by simp at h
|_::_,[],_,_,_,_,h,_=>by simp at h
|p::P,w::vs,0,m,d,b,c,e=>by simp at b c;subst b;subst c;show bindC a ((p,w)::P.a1 vs) m p=_;unfold bindC;rw[xZ λv f=>(Ah3.j d).1 (Uq f).1,FB e];simp
|p::P,w::vs,i+1,m,d,b,c,e=>by show bindC a ((p,w)::P.a1 vs) m x=_;unfold bindC;exact J0 (i:=i) (Ah3.j d).2 (by simpa using b) (by simpa using c) e
noncomputable def Wx(N:List Str)(vs:List V):St:=vs.y y0++Ab (N.e-vs.e) u0
noncomputable def qp(CX:eB)(P:Program)(w:World)(K:Aa1)(mg:Str->Option Value)(base:Heap)(N:List Str)(u8:Str)(scope:Scope)(f:Addr)(cd:Value)(A:Around)(outer:List Env)(s:Shared)(H:Hp)(E:XK):Cx where
 prog:=P
 w:=w
 K:=K
 mg:=mg
 base:=base
 A:=A.w<|envOfC u8 scope s.j.j.j f cd
 N:=N
 s₀:=s
 H₀:=H
 env:=envOfC u8 scope s.j.j.j f cd
 outer:=outer
 stack:=envOfC u8 scope s.j.j.j f cd::outer
 ex:=[]
 calm:=A.j.w
 fn:=λ_=>k9
 pn:=[]
 xe:=λe s'=>wpAny (model P w) (A.w<|envOfC u8 scope s.j.j.j f cd) (leaving (envOfC u8 scope s.j.j.j f cd) e) (λ_ s''=>CX outer H s E e s'') (λe' s''=>CX outer H s E e' s'') s'
def Bn{a:Scope}{n:Nat}{x:Str}(h:a.j.p x=y0 .w):∃c,(cellsFrom n a.j []).p x=y0 c:=by exact Ad3.j<|Ak1 a.j n []<|.p h
def Hd{CX:eB}{P:Program}{w:World}{K:Aa1}{mg:Str->Option Value}{base:Heap}{N ps:List Str}{u8:Str}{scope:Scope}{f:Addr}{cd:Value}{A:Around}{outer:List Env}{s s1:Shared}{H:Hp}{E:XK}{us:List Value}{vs:List V}
 (S:Wk N ps scope)(e0:cX P w K mg base A outer s H)(hl:vs.e=ps.e)(r:Vals vs us)
 (x:InCallC s s.j.j.j (bindL (envOfC u8 scope s.j.j.j f cd).y (ps.a1 us) λ_=>u0) (cellsFrom (s.j.j.j+1) scope.j []) (bindC (envOfC u8 scope s.j.j.j f cd).y (ps.a1 us) λ_=>u0) s1):
 Inv (qp CX P w K mg base N u8 scope f cd A outer s H E) [] (Wx N vs) H s1:=by
 have hpl:ps.e<=N.e:=by have:=congrArg List.length S.pre;rw[Af6]at this;lia
 obtain⟨h1,tk,rfl,hk⟩:=x.done;have noA:∀b:Addr,b∉(qp CX P w K mg base N u8 scope f cd A outer s H E).ex:=λb z=>absurd (show b∈[]from z) Y9;refine⟨⟨e0.mod,S.kind,rfl,rfl,Aa3 _,λy z c h1 h2=>?_,λy hy=>?_,λy c _ h=>?_,Ad8.j,Around.frames_deeper e0.frames,.w ⟨rfl,rfl⟩,λb z=>absurd z<|noA b,e0.bs,e0.f7,λb _ _=>noA b,λb z=>absurd z<|noA b,e0.cJ,e0.ia⟩,
  rfl,e0.bare,Un.kept hk,⟨_,x.toInCall.ns,λi y v h1 h2 h3=>?_⟩,λy c h=>⟨_,x.cell y c h⟩,e0.aF.fresh<|Aa3 _,λy c h=>?_,λp hp=>absurd (show p∈[]from hp) Y9,e0.aF.kept hk,?_⟩
 .exact name_of_addr x.apart (SI h1)<|SI h2
 .have hy:=hy;obtain hy|hy:=hy
  .exact Bn hy
  .exact absurd rfl<|S.ki _<|SI hy
 .exact Ag5<|x.above y c<|SI h
 .have hi:i<vs.e:=by
   unfold Wx at h2;by_cases hi:i<vs.e
   .exact hi
   .rw[Ad7<|by simpa using hi]at h2;rw[Ak4]at h2;split at h2<;>cases h2
  obtain⟨u,hu,rv⟩:=r.get<|by
    unfold Wx at h2;rw[Ae1<|by simpa using hi,Ad]at h2;cases e:vs[i]? with
|none=>rw[e]at h2;cases h2
|some a=>rw[e]at h2;cases h2;rfl
  have hp:ps[i]?=y0 y:=by
   rwa [←S.pre,T7 Y8]
  have ndP:ps.N:=by rw[←S.pre];exact S.nd.sublist<|VE _ _
  refine⟨u,rv,?_⟩;rcases S.par y (Ag2 hp)with k|k
  .exact .p ⟨k,X0 ndP hp hu k⟩
  .obtain⟨c,e⟩:=Bn (n:=s.j.j.j+1) k;refine .w ⟨.p k,c,e,?_⟩;have q:=x.cell y c e
   rwa [J0 ndP hp hu<|by show scope.j.p y≠_;rw[k];decide]at q
 .exact e0.aF.fresh<|Ag5<|x.above y c<|SI h
 .unfold Wx;show _=N.e;rw[Ab9,Aa4,Ad4];lia
def BI{L:eB}{P:Program}{w:World}{K:Aa1}{mg:Str->Option Value}{base:Heap}{k:Nat}{f:Addr}{j d:Str}{g:Arguments}{i:List Stmt}{a:Scope}{M kV B T h ct Y:Value}{O W:Option Addr}{I:Array<|Option Value}{N ps:List Str}(X:K.p f=y0 ⟨Y,W,.func<|Ai9 j d g i a M kV B T O h ct,I⟩)(G:Al K h d=k9)(S:Wk N ps a)
 {A:Around}{c:List Env}{s:Shared}{H:Hp}{l:Args}{us:List Value}{vs:List V}{Q:VK}{E:XK}(hl:vs.e=ps.e)(U:aB (k+1) A)(C:cX P w K mg base A c s H)(hb:BindsTo s (Ai9 j d g i a M kV B T O h ct) l<|ps.a1 us)(r:Vals vs us)
 (p:aB k (A.w<|envOfC d a s.j.j.j f h)->∃t,cE (qp L P w K mg base N d a f h A c s H E) i t/\t {nx:=λ_ H'=>Q .ai H',rt:=Q} (Wx N vs) H):
 codeAny (model P w) A (.j (.j f) l) (CR L c P w H s Q E) s:=by
 have R:=C.mod.eQ.keeps λb o e=>(C.bs b o e).1;have m:∀y∈ps.a1 us,a.j.p y.1=y0 .local\/(a.j.p y.1=y0 .w/\((cellsFrom (s.j.j.j+1) a.j []).p y.1).p=k9):=by
  rintro⟨n,v⟩ hy;obtain q|q:=S.par n (Uq hy).1
  .exact .p q
  .exact .w ⟨q,Ak1 _ _ _<|.p q⟩
 refine codeAny_call_function U.depth (R _ _ X) rfl S.co S.gen rfl (PySem.W.codeRec_of R G)<|hb _ _ _ _<|wpAny_newFunctionEnv_cells S.kind m λenv he s1 x=>?_;subst he;refine⟨(C.mod.nolimit.keeps λb o e=>(C.bs b o e).1).keeps x.toInCall.keep,codeAny_func ?_⟩;obtain⟨t,ht,Z⟩:=p<|U.deeper _;refine L2 (ht [] s1 _ H _ (Hd S C hl r x) Z) (λfl F z=>?_) λe F z=>z;have fin:∀{D:St}{H':Hp}{v:V}{u:Value},Inv (qp L P w K mg base N d a f h A c s H E) [] D H' F->RelV v u->Q v H'->CE c P w H s Q u F:=
  λ{D H' v u} J rv q=>⟨v,H',J.os,J.Z,J.y,J.L,rv,q⟩
 cases fl with
|ret u=>obtain⟨v,D,H',J,rv,q⟩:=z;exact fin J rv q
|next=>obtain⟨D,H',J,q⟩:=z;exact fin (v:=V.ai) J rfl q
|brk=>obtain⟨_,_,_,q⟩:=z;exact False.elim q
|cont=>obtain⟨_,_,_,q⟩:=z;exact False.elim q
def CJ{CX:eB}{P:Program}{w:World}{K:Aa1}{mg:Str->Option Value}{base:Heap}{k:Nat}{f:Addr}{name u8:Str}{params:Arguments}{body:List Stmt}{scope:Scope}{dV kV doc pm cdv ct oc:Value}{an od:Option Addr}
 {osl:Array<|Option Value}{N ps:List Str}{sp:Sp}(lk:K.p f=y0 ⟨oc,od,.func<|Ai9 name u8 params body scope dV kV doc pm an cdv ct,osl⟩)(hcd:Al K cdv u8=k9)(S:Wk N ps scope)
 (len:∀vs H Q E,sp vs H Q E->vs.e=ps.e)
 (hbody:∀(A:Around)(outer:List Env)(s:Shared)(H:Hp)(vs:List V)(Q:VK)(E:XK),aB k (A.w<|envOfC u8 scope s.j.j.j f cdv)->sp vs H Q E→
   ∃t,cE (qp CX P w K mg base N u8 scope f cdv A outer s H E) body t/\t {nx:=λ_ H'=>Q .ai H',rt:=Q} (Wx N vs) H):
 aX P w K mg base CX (k+1) f (Ai9 name u8 params body scope dV kV doc pm an cdv ct) ps sp:=⟨len,λ_ _ _ _ _ _ _ _ _ hr e0 hb r hsp=>BI lk hcd S (len _ _ _ _ hsp) hr e0 hb r λz=>hbody _ _ _ _ _ _ _ z hsp⟩
section
variable{X:Cx}{x:Str}{p pos:Pos}{e:Expr}{es:List Expr}{t:TA}{id T:String}{r:List V->Hp->VK->Prop}
def se(r:List V->Hp->VK->Prop)(t:TA):TE:=λU H Q=>t U H λvs H1=>r vs H1 Q
def zA(v:qo X (.w id) r)(q:Gl X x)(d:X.M x=none)(f:bootBuiltins x=some (.w id))(w:PA X (e::es) t)(l:x≠"__name__":=by decide)(c:(x==("__debug__":Str))=false:=by decide)
 (j:starEach (e::es) X.j=(y9,eval e X.j)::starEach es X.j:=by rfl)(b:(backTo pos<|starEach es X.j).C (·.1)=false:=by rfl):PE X (.w (.p x p) (e::es) [] pos)<|se r t:=λa s U H Q I h=>Pv<|Zm I q d f (TJ (aD (w pos a s U H _ I h)<|by rintro o n⟨g,i,k,m,u⟩;exact v a n U i g o Q k m u) j b) l c
def xu(v:qo X (.p T) r)(q:Gl X x)(d:X.M x=none)(f:bootBuiltins x=some (.p T))(w:PA X (e::es) t)(l:x≠"__name__":=by decide)(c:(x==("__debug__":Str))=false:=by decide)
 (j:starEach (e::es) X.j=(y9,eval e X.j)::starEach es X.j:=by rfl)(b:(backTo pos<|starEach es X.j).C (·.1)=false:=by rfl):PE X (.w (.p x p) (e::es) [] pos)<|se r t:=λa s U H Q I h=>Pv<|Zm I q d f (P3 (aD (w pos a s U H _ I h)<|by rintro o n⟨g,i,k,m,u⟩;exact v a n U i g o Q k m u) j b) l c
end
end Lake
namespace HT
open PySem PyProof.Rows
section
variable{prog:Program}{w:World}{A:Around}{E:Value->Shared->Prop}{s:Shared}
def hZ{t b:Addr}{vs ws:List Value}{Q:Value->Shared->Prop}(p:IsTup s.j t vs.j)(r:IsTup s.j b ws.j)(k:vs≠[])
 (h1:ws=[]->Q (.j t) s)(h2:ws≠[]->Q (.j s.j.j.j) {s with heap:=s.j.w {cls:=.p "tuple",data:=.j (vs++ws).j}})
 (hsz:vs.e+ws.e<=sizeLine):wpAny (model prog w) A (binaryOp .Add (.j t)<|.j b) Q E s:=by
 obtain⟨⟨cls,dd,data,o⟩,f,u,n,q⟩:=id p;obtain⟨⟨l,d,j,c⟩,a,g,m,i⟩:=id r;subst u q g i;have e:vs.j++ws.j=(vs++ws).j:=by simp
 by_cases h:ws=[]
 .exact T8 ⟨_,f,rfl⟩ ⟨_,a,rfl⟩ T9 UV Tt Tq (To _ _)
   (tuple_addW1 t b vs.j ws.j n m dd d o c (by simpa using k)<|by simp[h]) ⟨f,a,h1 h⟩
 .refine T8 ⟨_,f,rfl⟩ ⟨_,a,rfl⟩ T9 UV Tt Tq (To _ _)
   (tuple_addW2 t b vs.j ws.j n m dd d o c (by simpa using k) (by simp_all)<|by simp_all) ⟨f,a,?_⟩
  rw[e];exact h2 h
def aS(n d:Nat):Option Int->Nat
|none=>d
|some v=>if v<0 then(v+(n:Int)).j else min v.j n
def IT(n d:Nat)(b:d<=n)(o:Option Int):aS n d o<=n:=by
 cases o with
|none=>exact b
|some v=>
  show(if v<0 then(v+n).j else min v.j n)<=n;by_cases a:v<0
  .rw[Fk a];lia
  .rw[FB a];exact Nat.min_le_right _ _
def Bm(v:Int)(n d:Nat):(if v<0 then max (v+(n:Int)) 0 else min v (n:Int))=((aS n d<|y0 v:Nat):Int):=by
 show(if v<0 then max _ 0 else min v n)=(((if v<0 then(v+(n:Int)).j else min v.j n)));by_cases a:v<0
 .simp only[Fk a];lia
 .simp[FB a];lia
def Pe(a hi:Option Int)(n:Nat):Builtin.Slice.sliceAdjust a hi 1 (n:Int)=(((aS n 0 a:Nat):Int),((aS n n hi:Nat):Int)):=by
 have b:¬(1<0):=by decide
 refine Prod.ext ?_ ?_
 .cases a with
|none=>rfl
|some v=>exact Bm v n 0
 .cases hi with
|none=>rfl
|some v=>exact Bm v n n
def NK(i j:Nat):Builtin.Slice.slicePlaces (i:Int) (j:Int) 1=j-i:=by unfold Builtin.Slice.slicePlaces;have a:1>0:=Aa3 _;simp[Yl];split<;>lia
def WK{v:Value}{o:Option Int}{Q:Option Int->Shared->Prop}(p:IsPart v o)(h:Q o s):wpAny (model prog w) A (Builtin.Slice.slicePartIndex v) Q E s:=by
 cases p with
|none=>exact slicePart_none h
|int i t=>exact slicePart_int h
def bH{f:Addr}{d e:Value}{a hi:Option Int}{n:Nat}{Q:Int×Int×Nat->Shared->Prop}(j:s.j.IsSliceOf f d e .y)(pl:IsPart d a)(i:IsPart e hi)
 (h:Q (((aS n 0 a:Nat):Int),1,aS n n hi-aS n 0 a) s):wpAny (model prog w) A (Builtin.Slice.sliceApplied (.j f)<|pure (n:Int)) Q E s:=by
 obtain⟨k,c,g,b⟩:=id j;refine AC<|AC<|Re c b (x:=d) rfl<|AC<|Re c b (x:=e) rfl<|AC<|Re c b rfl<|Do<|AC<|slicePart_none ?_;refine AC<|WK pl<|AC<|WK i<|AC<|Do ?_;show wpAny _ _ (match Builtin.Slice.sliceAdjust a hi 1 (n:Int)with|(a,hi)=>pure (a,(1:Int),Builtin.Slice.slicePlaces a hi 1)) _ _ s;rw[Pe a hi n];show wpAny _ _ (pure _) _ _ s;rw[NK];exact Do h
def M3(a:Array Value)(i k:Nat):((Ab1 k).X λ(m:Nat)=>a[((i:Int)+(m:Int)*1).j]?).j=((a.p.L i).M k).j:=by
 have e:(λ(m:Nat)=>a[(i+(m:Int)*1).j]?)=λm=>a[i+m]?:=by
  funext m;have:(i+(m:Int)*1).j=i+m:=by lia
  rw[this]
 rw[e];have:=pick_run a i k;rw[Vn]at this;have b:((λx=>a[x]?)∘λx=>i+x)=λm=>a[i+m]?:=rfl;rw[b]at this;rw[this]
def cI{t j:Addr}{a:Array Value}{i k:Value}{b hi:Option Int}{Q:Value->Shared->Prop}(c:IsTup s.j t a)(g:s.j.IsSliceOf j i k .y)(pl:IsPart i b)(n:IsPart k hi)
 (o:¬(aS a.j 0 b=0/\aS a.j a.j hi=a.j))
 (h:Q (.j s.j.j.j) {s with heap:=s.j.w {cls:=.p "tuple",data:=.j ((a.p.L<|aS a.j 0 b).M<|aS a.j a.j hi-aS a.j 0 b).j}})
 (hsz:a.j<=sizeLine):wpAny (model prog w) A (getItem (.j t)<|.j j) Q E s:=by
 have r:aS a.j a.j hi<=a.j:=IT _ _ (Aa3 _) hi;obtain⟨m,d,f,l⟩:=id g;unfold getItem
 try with_reducible refine IR ?_
 refine AC<|T4 c.Y rfl ?_;refine AC<|SE c.Y SU
 <|SF SU c.Y entry_tuple_getitem ?_<|args_tuple_getitem _ _
 show wpAny _ _ (Builtin.Tuple.tupleItemsOf _>>=_) _ _ s;refine AC<|UW c<|AC<|Ua (⟨m,d,f⟩) ?_;refine AC<|bH g pl n ?_;have e:¬((((aS a.j 0 b:Nat):Int)==0&&(1:Int)==1&&(aS a.j a.j hi-aS a.j 0 b)==a.j)=k9):=by intro q;rw[Aa6,Aa6]at q;have u:=eq_of_beq q.1.1;have p:=eq_of_beq q.2;exact o ⟨by lia,by lia⟩
 show wpAny _ _ (if _=k9 then _ else _) _ _ s;rw[FB e,M3]
 first
|exact AC _
|exact AC<|S1 (AC<|Do<|Do ⟨_,rfl,Do h⟩)<|by show((a.p.L _).M _).j.j<=sizeLine;rw[Ab7,Af6,Ai0,Ag4];lia
|exact AC _
|exact AC _
end
end HT
namespace Lake
open Lake renaming Vals.length->Lake.Vals.e,V.str->Lake.V.o,V.ref->Lake.V.j,V.int->Lake.V.u,V.bl->Lake.V.K,Cx.env->Lake.Cx.j,Cx.prog->Lake.Cx.p,HO.lst->Lake.HO.w,ck.fresh->Lake.ck.U,Inv.tuple->Lake.Inv.G,Inv.list->Lake.Inv.K,Inv.laid->Lake.Inv.T
open PySem PySem.Spec PyProof.Rows
abbrev TO:=St->Hp->(Option Int->Hp->Prop)->Prop
def PO(X:Cx)(e:Option Expr)(t:TO):Prop:=
 ∀(pins:List<|Addr×Obj)(s:Shared)(U:St)(H:Hp)(Q:Option Int->Hp->Prop),Inv X pins U H s->t U H Q→
  wpAny (model X.p X.w) X.A (evalPart e X.j) (λu s'=>∃o H',Inv X pins U H' s'/\IsPart u o/\Q o H') X.xe s
def LB:TO:=λ_ H Q=>Q u0 H
def Pr(t:TE):TO:=λU H Q=>t U H λx H1=>∃i,x=.u i/\Q (y0 i) H1
section
variable{X:Cx}{e:Expr}{te:TE}{lo hi:Option Expr}{tl th:TO}{pos p2:Pos}
def td:PO X u0 LB:=λa s U H Q I h=>Do ⟨u0,H,I,.none,h⟩
def BQ(h:PE X e te):PO X (y0 e)<|Pr te:=by intro a s U H Q I b;refine aD (h a s U H _ I b) ?_;rintro u j ⟨x,c,d,f,g⟩;obtain⟨i,rfl,q⟩:=g;obtain⟨t,rfl⟩:=f;exact⟨y0 i,c,d,.int i t,q⟩
def gH(X:Cx)(r:V->Option Int->Option Int->Hp->VK->Prop):Prop:=
 ∀(pins:List<|Addr×Obj)(s:Shared)(U:St)(H:Hp)(x:V)(v b c:Value)(lo hi:Option Int)(a:Addr)(Q:VK),Inv X pins U H s->RelV x v->s.j.IsSliceOf a b c .y->IsPart b lo->IsPart c hi->r x lo hi H Q→
  ∃T id,typeLookup (.p T) "__getitem__"=pure (some<|.w id)/\s.TypeIs v T/\wpAny (model X.p X.w) X.A (getItem v<|.j a) (EP X pins U Q) X.xe s
def gH.or {r g:V->Option Int->Option Int->Hp->VK->Prop}(h:gH X r)(h':gH X g):gH X<|λx lo hi H Q=>r x lo hi H Q\/g x lo hi H Q:=by
 intro a s U H x v d i lo hi e Q I f c pl b q;obtain q|q:=q
 .exact h a s U H x v d i lo hi e Q I f c pl b q
 .exact h' a s U H x v d i lo hi e Q I f c pl b q
def RP(r:V->Option Int->Option Int->Hp->VK->Prop)(a:TE)(tl th:TO):TE:=λU H Q=>a U H λx H1=>tl U H1 λl H2=>th U H2 λu H3=>r x l u H3 Q
def Bg{r:V->Option Int->Option Int->Hp->VK->Prop}(B:gH X r)(n:PE X e te)(C:PO X lo tl)(k:PO X hi th):PE X (.B e (.Slice lo hi u0 p2) pos)<|RP r te tl th:=by intro a s U H Q I h;refine Subscript_<|aD (n a s U H _ I h) ?_;rintro v z⟨x,m,o,t,D⟩;refine wpAny_Slice<|aD (C a z U m _ o D) ?_;rintro d F⟨l,j,E,pl,y⟩;refine aD (k a F U j _ E y) ?_;rintro f c ⟨u,H3,p,i,g⟩;refine Do ?_;obtain⟨T,id,G,w,A⟩:=B a {c with heap:=c.j.w {cls:=.p "slice",data:=.p #[d,f,.y]}} U H3 x v d f l u c.j.j.j Q (p.kept fun b J q=>Aa _ q) t (Heap.IsSliceOf.new ..) pl i g;exact VT w G A<|by with_unfolding_all rfl
noncomputable def mD(a:List V)(b hi:Option Int):List V:=(a.L<|HT.aS a.e 0 b).M<|HT.aS a.e a.e hi-HT.aS a.e 0 b
def XD(a:List V)(b hi:Option Int):(mD a b hi).e<=a.e:=by unfold mD;rw[Af6,Ai0];lia
def oH(K:Aa1):V->Option Int->Option Int->Hp->VK->Prop:=λx lo hi H Q=>∃a xs,x=.j a/\dj K H a xs∧
 ¬(HT.aS xs.e 0 lo=0/\HT.aS xs.e xs.e hi=xs.e)/\∀p,H p=u0->Q (.j p) (ax H p<|.tup<|mD xs lo hi)
def Cc:gH X<|oH X.K:=by
 rintro e s U H x v p w k l u Q I m i pl h⟨a,f,rfl,hx,n,q⟩;cases m;obtain⟨d,r,g,j⟩:=I.G hx;have c:d.j.j=f.e:=by rw[Ab7];exact r.e.I
 refine⟨"tuple",_,PyProof.Rows.slot_tuple_getitem.p,g.Y,HT.cI g i pl h (by rwa [c]) ?_<|by rwa [c]⟩;rw[c];refine⟨.j s.j.j.j,_,I.T (t':=s.p) (o:=.tup _) (λb t q=>Aa _ q) (Aa3 _) ?_,rfl,q _<|I.aF.U<|Aa3 _⟩;exact⟨Ac (XD f k l) j,_,(r.drop _).take _,dy.new _ _⟩
def OV(K:Aa1):R2:=λx y H Q=>∃a b xs ys,x=.j a/\y=.j b/\dj K H a xs/\dj K H b ys/\xs≠[]/\xs.e+ys.e<=sizeLine∧
 (ys=[]->Q (.j a) H)/\(ys≠[]->∀p,H p=u0->Q (.j p) (ax H p<|.tup<|xs++ys))
def Vals.dW {a:List V}{us:List Value}(r:Vals a us):us=[]↔a=[]:=by
 cases r with
|_=>simp
def RI:bB X (binaryOp .Add)<|OV X.K:=by rintro e s U H x y v u Q I n g⟨a,b,t,B,rfl,rfl,r,l,hx,h,m,k⟩;cases n;cases g;obtain⟨p,d,i,_⟩:=I.G r;obtain⟨f,c,j,_⟩:=I.G l;refine HT.hZ i j (λz=>hx<|d.dW.j z) (λz=>⟨.j a,H,I,rfl,m<|c.dW.j z⟩) (λz=>⟨.j s.j.j.j,_,I.T (t':=s.p) (o:=.tup _) (λb A q=>Aa _ q) (Aa3 _) ?_,rfl,k (λw=>z<|c.dW.p w) _<|I.aF.U<|Aa3 _⟩) (by rwa [←d.e,←c.e]);exact⟨by rw[Ab9];exact h,_,d.append c,dy.new _ _⟩
end
noncomputable def cL(n:Nat)(i:Int):Option Nat:=if 0<=i then(if i<n then y0 i.j else u0)else if-(n:Int)<=i then y0 (i+n).j else u0
def bX{a:Type}(b:List a)(i:Int):Option a:=(cL b.e i).j λj=>b[j]?
def u3{n:Nat}{i:Int}{j:Nat}(h:cL n i=y0 j):seqIndex? i n=y0 j/\j<n/\-(n:Int)<=i/\i<n:=by
 unfold cL at h;by_cases b:0<=i
 .rw[Fk b]at h;by_cases a:i<n
  .rw[Fk a]at h;have e:=Ae3.inj h;exact⟨by rw[VM b a,e],by lia,by lia,a⟩
  .rw[FB a]at h;cases h
 .rw[FB b]at h;by_cases a:-n<=i
  .rw[Fk a]at h;exact⟨by rw[Vo Y8 a,(Ae3.inj h)],by lia,a,by lia⟩
  .rw[FB a]at h;cases h
def X8{b:Type}{a:List b}{i:Int}{v:b}(h:bX a i=y0 v):∃j,seqIndex? i a.e=y0 j/\a[j]?=y0 v/\j<a.e/\-(a.e:Int)<=i/\i<a.e:=by
 unfold bX at h;cases e:cL a.e i with
|none=>rw[e]at h;cases h
|some j=>rw[e]at h;obtain⟨d,g,f,c⟩:=u3 e;exact⟨j,d,h,g,f,c⟩
def uN(b:Expr):Prop:=∀o i,subscripted b y9 o i=operate [o,i] (getItem o i)
def gd(X:Cx)(r:R2):Prop:=
 ∀(value a:Expr)(pins:List<|Addr×Obj)(s:Shared)(U:St)(H:Hp)(x y:V)(v u:Value)(Q:VK),Inv X pins U H s->RelV x v->RelV y u->r x y H Q→
  subscripted a y9 v u=operate [v,u] (getItem v u)->wpAny (model X.p X.w) X.A (subscriptTail value a v u) (EP X pins U Q) X.xe s
def fc(X:Cx)(id:String)(r:V->List V->Hp->VK->Prop):Prop:=
 ∀(pins:List<|Addr×Obj)(s:Shared)(U:St)(H:Hp)(x:V)(xs:List V)(v:Value)(us:List Value)(Q:VK),Inv X pins U H s->RelV x v->Vals xs us->r x xs H Q→
  wpAny (model X.p X.w) X.A (call (.w id)<|v::us) (EP X pins U Q) X.xe s
section
variable{X:Cx}{a b:Expr}{ta tb:TE}{pos:Pos}
def gd.or {r g:R2}(h:gd X r)(h':gd X g):gd X<|λx y H Q=>r x y H Q\/g x y H Q:=by
 intro a b c s U H x y v u Q I f d q e;obtain q|q:=q
 .exact h a b c s U H x y v u Q I f d q e
 .exact h' a b c s U H x y v u Q I f d q e
def oN{r:R2}(g:gd X r)(m:PE X a ta)(i:PE X b tb)(f:uN b):PE X (.B a b pos)<|mL r ta tb:=λc s U H Q I h=>Subscript_<|pM m i I h λv u l x y e j k d q=>g a b c l U e x y v u Q j k d q<|f _ _
def AI(K:Aa1):R2:=λx y H Q=>∃p xs i v,x=.j p/\y=.u i/\bu K H p xs/\bX xs i=y0 v/\Q v H
def AU(K:Aa1):R2:=λx y H Q=>∃p xs i v,x=.j p/\y=.u i/\dj K H p xs/\bX xs i=y0 v/\Q v H
def AB:R2:=λx y H Q=>∃z i c,x=.o z/\y=.u i/\z.e<=sizeLine/\bX z.j.p i=y0 c/\Q (.o ⟨#[c]⟩) H
def hH:gd X<|AI X.K:=by
 intro c d a s U H x y v u Q I F n h k;obtain⟨p,G,i,z,rfl,rfl,A,D,q⟩:=h;cases F;obtain⟨t,rfl⟩:=n;obtain⟨f,r,pl,K⟩:=I.K A;obtain⟨j,b,B,J,o,C⟩:=X8 D;obtain⟨w,l,g⟩:=r.get B;have E:=r.e;have L:=QJ;have fin:EP X a U Q w s:=⟨z,H,I,g,q⟩;by_cases m:0<=i
 .have e:=by rw[VM m C]at b;exact Ae3.inj b
  exact item_listR pl.Q m Y8 (by rw[e];simpa using l) fin k
 .have e:(i+f.j.j).j=j:=by rw[Vo Y8 o]at b;rw[Ab7,←E];exact Ae3.inj b
  exact Ux pl.Q.typeIs slot_list_getitem.p
   (wpAny_getItem_list_neg pl.Q Y8 (by simp_all) Y8 (by rw[e];simpa using l) ⟨rfl,fin⟩) k
def gi:gd X<|AU X.K:=by
 intro a b d s U H x y v u Q I n e h f;obtain⟨p,A,i,z,rfl,rfl,g,l,q⟩:=h;cases n;obtain⟨t,rfl⟩:=e;obtain⟨o,r,pl,D⟩:=I.G g;obtain⟨j,J,k,B,C,E⟩:=X8 l;obtain⟨w,m,c⟩:=r.get k;have G:=r.e;have F:=QJ;exact Ux pl.Y slot_tuple_getitem.p
  (getItem_tuple (j:=j) pl Y8 Y8 (by simp_all) (by simpa using m) ⟨rfl,(⟨z,H,I,c,q⟩)⟩) f
def rZ:gd X AB:=by
 intro a b d s U H x y v u Q I w f h k;obtain⟨z,i,c,rfl,rfl,C,n,q⟩:=h;obtain⟨t,rfl⟩:=w;obtain⟨B,rfl⟩:=f;obtain⟨j,e,l,A,g,m⟩:=X8 n;have p:z.j.p.e=z.e:=by simp[Str.length]
 rw[p]at e g m;have D:=QJ;exact VT (Tb s z t) slot_str_getitem.p (getItem_str (by have o:u9 (i< -(2^63:Int))=false:=FS Y8;have r:u9 (i>=2^63)=false:=FS Y8;rw[o,r,Yh]) (by rw[e];simpa using l) ⟨.o ⟨#[c]⟩,H,I.tok _,⟨_,rfl⟩,q⟩) k
def OO(K:Aa1):R2:=λx y H Q=>AI K x y H Q\/AU K x y H Q\/AB x y H Q
def Nh:gd X<|OO X.K:=hH.or<|gi.or rZ
def Oh(a:List Value)(n j:Nat)(u:Value):Obj.mapSeq (·.y j u) {cls:=.p "list",data:=.j a.j n}={cls:=.p "list",data:=.j (a.B j u).j n}:=by simp[Obj.mapSeq]
theorem Inv.lst {b:List<|Addr×Obj}{U:St}{H:Hp}{s:Shared}{p:Addr}{c:List V}(I:Inv X b U H s)(h:H p=y0 (.w c)):
 ∃(a:List Value)(n:Nat),Vals c a/\s.j.p p=y0 {cls:=.p "list",data:=.j a.j n}/\c.e<=sizeLine:=by
 obtain⟨z,a,n,r,e⟩:=I.aF p _ h;exact⟨a,n,r,e,z⟩
def Inv.kq {c:List<|Addr×Obj}{U:St}{H:Hp}{s:Shared}{p:Addr}{j ys:List V}{d a:List Value}{n g:Nat}{f:Obj->Obj}(I:Inv X c U H s)(h:H p=y0 (.w j))
 (k:s.j.p p=y0 {cls:=.p "list",data:=.j d.j n})(i:f {cls:=.p "list",data:=.j d.j n}={cls:=.p "list",data:=.j a.j g})(r:Vals ys a)(l:ys.e<=sizeLine)(t:Nat):
 Inv X c U (ax H p<|.w ys) {s with heap:=s.j.B p f,toks:=t}:=by
 have e:(s.j.B p f).p p=y0 {cls:=.p "list",data:=.j a.j g}:=by rw[Ad1 f k<|by rw[i]<;>rfl,i]
 refine I.write (by rw[h];trivial) (.p rfl) (λb u m q=>(Ad2 _ _<|Ne.symm m).x q) ⟨_,e⟩ ?_;exact⟨l,a,g,r,e⟩
def NC:V->V->V->Hp->(Hp->Prop)->Prop:=λo i v H Q=>∃p xs k j,o=.j p/\i=.u k/\H p=y0 (.w xs)/\cL xs.e k=y0 j/\Q (ax H p<|.w<|xs.B j v)
def qO:nJ X NC:=by
 rintro e s U H o i v ov D u Q I ro x rv⟨p,z,k,j,rfl,rfl,g,w,q⟩;cases ro;obtain⟨t,rfl⟩:=x;obtain⟨a,n,r,c,A⟩:=I.lst g;obtain⟨b,B,l,m⟩:=u3 w;have y:=r.e;have C:=QJ;have f:=
  I.kq g c (Oh a n j u) (r.set rv j) (by simp_all) s.p
 by_cases h:0<=k
 .have d:=by rw[VM h m]at b;exact Ae3.inj b
  exact PySem.W.ki_setAt c h Y8 (by simp_all)<|by rw[d];exact⟨_,f,q⟩
 .have d:(k+a.j.j).j=j:=by rw[Vo Y8 l]at b;rw[Ab7,←y];exact Ae3.inj b
  exact PySem.W.ki_setBack c Y8 (by simp_all) Y8<|by rw[d];exact⟨_,f,q⟩
def WW(a hi:Option Int)(n:Nat):(sliceBounds a hi u0 n).1=((HT.aS n 0 a:Nat):Int)/\(sliceBounds a hi u0 n).2.1=((HT.aS n n hi:Nat):Int)/\(sliceBounds a hi u0 n).2.2=1:=by
 refine⟨?_,?_,rfl⟩
 .cases a with
|none=>simp[sliceBounds,HT.aS]
|some i=>
   simp[sliceBounds,HT.aS,Os];by_cases h:i<0
   .simp[h,Os]<;>lia
   .simp[h,S5]<;>lia
 .cases hi with
|none=>simp[sliceBounds,HT.aS]
|some i=>
   simp[sliceBounds,HT.aS,Os];by_cases h:i<0
   .simp[h,Os]<;>lia
   .simp[h,S5]<;>lia
def WN(a:List Value)(b hi:Option Int):slicePick a.j b hi u0=((a.L<|HT.aS a.e 0 b).M<|HT.aS a.e a.e hi-HT.aS a.e 0 b).j:=by obtain⟨c,e,d⟩:=WW b hi a.j.j;unfold slicePick;rw[c,e,d];simp only[sliceRange_one,pick_run,Ab7]<;>rfl
def rV(K:Aa1):V->Option Int->Option Int->Hp->VK->Prop:=λx lo hi H Q=>∃a xs,x=.j a/\bu K H a xs/\∀p,H p=u0->Q (.j p) (ax H p<|.w<|mD xs lo hi)
def iA:gH X<|rV X.K:=by intro d s U H x v o u k l t Q I m i pl g h;obtain⟨a,f,rfl,hx,q⟩:=h;cases m;obtain⟨n,r,e,j⟩:=I.K hx;have c:=r.e;refine⟨"list",_,slot_list_getitem.p,e.Q.typeIs,wpAny_getItem_list_slice e.Q i pl g .none Y9 ?_<|by simp_all⟩;rw[WN,←c];refine⟨.j s.j.j.j,_,I.T (λb p q=>Aa _ q) (Aa3 _) ?_,rfl,q _<|I.aF.U<|Aa3 _⟩;exact⟨Ac (XD f k l) j,_,0,(r.drop _).take _,Aa5 _ rfl⟩
noncomputable def zI:V->Bool
|.ai=>k9
|.K _=>k9
|.u _=>k9
|.o _=>k9
|_=>y9
noncomputable def hY:V->V->Bool
|.ai,.ai=>k9
|.K a,.K b=>a==b
|.K a,.u b=>(if a then 1 else 0)==b
|.u a,.K b=>a==(if b then 1 else 0)
|.u a,.u b=>a==b
|.o a,.o b=>a==b
|_,_=>y9
def EU{A:Around}{s:Shared}{y x:V}{u v:Value}(f:RelV y u)(c:RelV x v)(g:zI y=k9)(e:zI x=k9):SeqAt.EqAt A s u v<|hY y x:=by
 cases y with
|ai=>
  cases f;cases x with
 |ai=>cases c;exact SeqAt.EqAt.same _
 |bl b=>cases c;exact SeqAt.EqAt.none_bool b
 |int b=>obtain⟨t,rfl⟩:=c;exact SeqAt.EqAt.none_int b t
 |str b=>obtain⟨t,rfl⟩:=c;exact SeqAt.EqAt.none_str b t
 |_=>exact absurd (show y9=k9 from e) Ab0
|bl a=>
  cases f;cases x with
 |ai=>cases c;exact SeqAt.EqAt.bool_none a
 |bl b=>cases c;exact SeqAt.EqAt.bool_bool a b
 |int b=>obtain⟨t,rfl⟩:=c;exact SeqAt.EqAt.bool_int a b t
 |str b=>obtain⟨t,rfl⟩:=c;exact SeqAt.EqAt.bool_str a b t
 |_=>exact absurd (show y9=k9 from e) Ab0
|int a=>
  obtain⟨d,rfl⟩:=f;cases x with
 |ai=>cases c;exact SeqAt.EqAt.int_none a d
 |bl b=>cases c;exact SeqAt.EqAt.int_bool a d b
 |int b=>obtain⟨t,rfl⟩:=c;exact SeqAt.EqAt.int_int a d b t
 |str b=>obtain⟨t,rfl⟩:=c;exact Vj a d b t
 |_=>exact absurd (show y9=k9 from e) Ab0
|str a=>
  obtain⟨d,rfl⟩:=f;cases x with
 |ai=>cases c;exact SeqAt.EqAt.str_none a d
 |bl b=>cases c;exact SeqAt.EqAt.str_bool a d b
 |int b=>obtain⟨t,rfl⟩:=c;exact Vk a d b t
 |str b=>obtain⟨t,rfl⟩:=c;exact SeqAt.EqAt.str_str a d b t
 |_=>exact absurd (show y9=k9 from e) Ab0
|_=>exact absurd (show y9=k9 from g) Ab0
def kf(x:V)(u:Value):Bool:=match u with
|.y=>hY .ai x
|.B b=>hY (.K b) x
|.u i _=>hY (.u i) x
|.o z _=>hY (.o z) x
|_=>y9
def sD{x y:V}{u:Value}(r:RelV y u)(f:zI y=k9):kf x u=hY y x:=by
 cases y with
|ai=>cases r;rfl
|bl b=>cases r;rfl
|int i=>obtain⟨t,rfl⟩:=r;rfl
|str z=>obtain⟨t,rfl⟩:=r;rfl
|_=>exact absurd (show y9=k9 from f) Ab0
theorem XB{x:V}:∀{a:List V}{us:List Value},Vals a us->a.T zI=k9->us.C (kf x)=a.C λy=>hY y x
|_,_,.p,_=>rfl
|y::a,u::us,.j r t,f=>by rw[Ah7,Aa6]at f;rw[Af2,Af2,sD r f.1,XB t f.2]
theorem Qu{A:Around}{s:Shared}{x:V}{v:Value}(d:RelV x v)(c:zI x=k9):∀{b:List V}{us:List Value},Vals b us->b.T zI=k9->∀u∈us,SeqAt.EqAt A s u v<|kf x u
|_,_,.p,_=>λu a=>by cases a
|y::b,u::us,.j r t,f=>λe a=>by
  rw[Ah7,Aa6]at f;rcases Aa8.j a with rfl|a
  .rw[sD r f.1];exact EU r d f.1 c
  .exact Qu d c t f.2 e a
def iY(x:V)(a:List V):Bool:=a.C λy=>hY y x
def A0(K:Aa1)(neg:Bool):R2:=λx y H Q=>∃p xs,y=.j p/\(bu K H p xs\/dj K H p xs)/\zI x=k9/\xs.T zI=k9/\Q (.K<|if neg then !iY x xs else iY x xs) H
def Dk:bB X (compareOp .In)<|A0 X.K y9:=by
 rintro c s U H x y v u Q I e f⟨p,i,rfl,b,d,fs,q⟩;cases f;obtain b|b:=b
 .obtain⟨a,r,pl,h⟩:=I.K b;refine V3 _ pl.Q (λw g=>Qu e d r fs w<|by simp_all) ⟨.K _,H,I,rfl,?_⟩
  rwa [show a.j.any _=a.C (kf x)by simp,XB r fs]
 .obtain⟨a,r,pl,h⟩:=I.G b;refine SeqAt.in_tupleAt _ pl (λw g=>Qu e d r fs w<|by simp_all) ⟨.K _,H,I,rfl,?_⟩
  rwa [show a.j.any _=a.C (kf x)by simp,XB r fs]
def XV:bB X (compareOp .j)<|A0 X.K k9:=by
 rintro c s U H x y v u Q I e f⟨p,i,rfl,b,d,fs,q⟩;cases f;obtain b|b:=b
 .obtain⟨a,r,pl,h⟩:=I.K b;refine Vp _ pl.Q (λw g=>Qu e d r fs w<|by simp_all) ⟨.K _,H,I,rfl,?_⟩
  rwa [show a.j.any _=a.C (kf x)by simp,XB r fs]
 .obtain⟨a,r,pl,h⟩:=I.G b;refine SeqAt.notIn_tupleAt _ pl (λw g=>Qu e d r fs w<|by simp_all) ⟨.K _,H,I,rfl,?_⟩
  rwa [show a.j.any _=a.C (kf x)by simp,XB r fs]
def jW:bB X (compareOp .j)<|λx y H Q=>∃i j,x=.o i/\y=.o j/\Q (.K<|!(!(Builtin.Str.occurrences j i 0 j.e 1).K)) H:=by rintro a s U H x y v u Q I b c⟨i,j,rfl,rfl,q⟩;obtain⟨t,rfl⟩:=b;obtain⟨d,rfl⟩:=c;exact notIn_str ⟨.K _,H,I,rfl,q⟩
def jV:qo X (.w "len")<|fun xs H Q=>∃p ys,xs=[.j p]/\(bu X.K H p ys\/dj X.K H p ys)/\Q (.u ys.e) H:=by
 rintro e s U H xs i Q I r⟨p,ys,rfl,b,q⟩;obtain⟨u,rfl,g⟩:=xS r;cases g;have h:=QJ;obtain b|b:=b
 .obtain⟨c,d,pl,f⟩:=I.K b;have a:=d.e;exact Calls.call_len_list pl.Q (by simp[Ab7]<;>lia) ⟨.u ys.e,H,I.tok _,⟨s.p+1,by rw[Ab7,a]⟩,q⟩
 .obtain⟨c,d,pl,f⟩:=I.G b;have a:=d.e;exact len_tuple pl (by simp[Ab7]<;>lia) ⟨.u ys.e,H,I.tok _,⟨s.p+1,by rw[Ab7,a]⟩,q⟩
def W0:qo X (.w "len")<|fun xs H Q=>∃z,xs=[.o z]/\z.e<=sizeLine/\Q (.u z.e) H:=by rintro a s U H xs b Q I r⟨z,rfl,c,q⟩;obtain⟨u,rfl,t,rfl⟩:=xS r;have d:=QJ;exact len_str Y8 ⟨.u z.e,H,I.tok _,⟨_,rfl⟩,q⟩
def xT:qo X (.p "list")<|fun xs H Q=>∃p ys,xs=[.j p]/\(bu X.K H p ys\/dj X.K H p ys)/\∀l,H l=none->Q (.j l) (ax H l<|.w ys):=by
 intro f s U H xs x Q I r h;obtain⟨p,ys,rfl,j,q⟩:=h;obtain⟨u,rfl,w⟩:=xS r;cases w;have fin:∀a,Vals ys a->ys.e<=sizeLine->∀b c,_→
  b.p s.j.j.j=some {cls:=.p "list",dict:=none,data:=.j a.j c,slots:=#[]}->EP X f U Q _ {s with heap:=b}:=fun a d i b c k e=>
  ⟨.j s.j.j.j,_,I.T k (Aa3 _)<|show aE X.p X.w _ b _ (.w ys)from⟨i,a,c,d,e⟩,rfl,q _<|I.aF.U<|Aa3 _⟩
 obtain j|j:=j
 .obtain⟨a,d,pl,i⟩:=I.K j;have g:=d.e;obtain⟨o,m,v,n,t⟩:=pl.Q;exact call_list_seq p (.p rfl) m v t (λb c k e=>fin a d i b c k e)<|by simp_all
 .obtain⟨a,d,pl,i⟩:=I.G j;have g:=d.e;obtain⟨o,m,v,n,t⟩:=pl;exact call_list_seq p (.w rfl) m v t (λb c k e=>fin a d i b c k e)<|by simp_all
def Xf:qo X (.p "tuple")<|fun xs H Q=>∃p ys,xs=[.j p]/\((bu X.K H p ys/\∀l,H l=none->Q (.j l) (ax H l<|.tup ys))\/(dj X.K H p ys/\Q (.j p) H)):=by
 intro f s U H xs v Q I r h;obtain⟨p,ys,rfl,h⟩:=h;obtain⟨u,rfl,n⟩:=xS r;cases n;obtain⟨c,q⟩|⟨c,q⟩:=h
 .obtain⟨a,d,pl,i⟩:=I.K c;have g:=d.e;refine call_tuple_list pl.Q (λk m=>?_) (by simp_all);have j:=I.kept (t':=s.p) m;have t:=
   j.T (t':=s.p) (λb o e=>Aa _ e) (Aa3 _)<|show aE X.p X.w _ _ _ (.tup ys)from⟨i,a,d,dy.new _ _⟩
  exact⟨.j k.j.j,_,t,rfl,q _<|j.aF.U<|Aa3 _⟩
 .obtain⟨a,d,pl,i⟩:=I.G c;exact call_tuple_same pl ⟨.j p,H,I,rfl,q⟩
def tI(K:Aa1)(T:String)(x:V)(H:Hp):Prop:=match x with
|.o _=>T="str"
|.u _=>T="int"
|.j p=>(T="list"/\∃xs,bu K H p xs)\/(T="tuple"/\∃o,K.p p=some o/\o.w=.p "tuple"/\o.p=none)∨
  (T="dict"/\∃kvs,H p=some (.dK kvs))
|_=>False
def nL{b:List<|Addr×Obj}{U:St}{H:Hp}{s:Shared}{T:String}{x:V}{v:Value}(I:Inv X b U H s)(r:RelV x v)(ty:tI X.K T x H):
 s.TypeIs v T/\∀a,v=.j a->∃j,s.j.p a=y0 j/\j.p=none:=by
 cases x with
|str z=>obtain⟨t,rfl⟩:=r;cases(show T="str" from ty);exact⟨Tb s z t,λ_ e=>nomatch e⟩
|int i=>obtain⟨t,rfl⟩:=r;cases(show T="int" from ty);exact⟨V4 s i t,λ_ e=>nomatch e⟩
|ref p=>
  cases r;obtain⟨rfl,q,g⟩|⟨rfl,o,d,m,f⟩|⟨rfl,h,d⟩:=ty
  .obtain⟨l,_,pl,_⟩:=I.K g;refine⟨pl.Q.typeIs,λa e=>?_⟩;cases e;obtain⟨o,n,e,c,f,_⟩:=pl;exact⟨o,e,f⟩
  .refine⟨⟨o,I.bg p o d,m⟩,λa e=>?_⟩;cases e;exact⟨o,I.bg _ o d,f⟩
  .obtain⟨_,_,_,_,o,_,_,e,ex,_⟩:=I.aF p _ d;exact⟨⟨o,e,ex.1⟩,λa k=>by cases k;exact⟨o,e,ex.2.1⟩⟩
|_=>exact False.elim ty
def Dj(K:Aa1)(T:String)(r:V->List V->Hp->VK->Prop)(a:TE):TE:=λU H Q=>a U H λx H1=>tI K T x H1/\r x [] H1 Q
abbrev BK:=V->Hp->Prop
def lO(X:Cx)(T:String)(ty:BK):Prop:=∀(pins:List<|Addr×Obj)(s:Shared)(U:St)(H:Hp)(x:V)(v:Value),Inv X pins U H s->RelV x v->ty x H->s.TypeIs v T/\∀a,v=.j a->∃b,s.j.p a=y0 b/\b.p=u0
def E3(ty:BK)(r:V->List V->Hp->VK->Prop)(a:TE)(t:TA):TE:=λU H Q=>a U H λx H1=>ty x H1/\t U H1 λxs H2=>r x xs H2 Q
variable{o e:Expr}{es:List Expr}{to:TE}{t:TA}{name:Str}{apos cpos:Pos}{T id:String}{r:V->List V->Hp->VK->Prop}
def Ds(i:PlainAttrs T)(d:Slot T name id)(e:typeOf (.w id)=pure (.p "method_descriptor"))(k:fc X id r)(j:PE X o to)
 (b:attributeBase o name X.j (eval o X.j)=eval o X.j:=by rfl)(c:(apos.j==cpos.p)=true:=by rfl):PE X (.w (.j o name apos) [] [] cpos)<|Dj X.K T r to:=by
 intro a s U H Q I h;refine wpAny_Call_method0_late b c<|aD (j a s U H _ I h) ?_;rintro v n ⟨x,l,f,g,ty,p⟩;obtain⟨q,m⟩:=nL f g ty;exact⟨T,id,i,d,e,q,m,Uy rfl<|PySem.evalArgs_none<|k a n U l x [] v [] Q f g .p p⟩
def Zj{T id:String}(p:PlainAttrs T)(d:Slot T name id)(i:typeOf (.w id)=pure (.p "method_descriptor"))(C:lO X T ty)(u:fc X id r)(q:PE X o to)(M:PA X (e::es) t)
 (b:attributeBase o name X.j (eval o X.j)=eval o X.j)
 (f:((backTo cpos<|starEach (e::es) X.j).T (λx=>!x.1)&&(backToKw cpos<|keywordEach [] X.j).T (λx=>x.1.p)
   &&u9 ((e::es).e+([]:List Keyword).e+(if([]:List Keyword).K then 0 else 1)<30))=k9)
 (c:(apos.j==cpos.p)=k9)(y:starEach (e::es) X.j=(y9,eval e X.j)::starEach es X.j)(g:(backTo cpos<|starEach es X.j).C (·.1)=y9):
 PE X (.w (.j o name apos) (e::es) [] cpos)<|E3 ty r to t:=by
 intro a s U H Q I h;refine wpAny_Call_method_late b f c rfl<|aD (q a s U H _ I h) ?_;rintro v m ⟨x,j,k,l,z,G⟩;obtain⟨K,B⟩:=C a m U j x v k l z;refine⟨T,id,p,d,i,K,B,?_⟩;have n:=M cpos a m U j _ k G;rw[y]at n⊢;exact Uy (by assumption)<|UM<|aD n<|by rintro E L⟨A,w,J,F,D⟩;exact u a L U w x A v E Q J l F D
end
def Vals.one:∀{x:V}{us:List Value},Vals [x] us->∃u,us=[u]/\RelV x u
|_,_,.j r .p=>⟨_,rfl,r⟩
theorem Vals.rep {a:List V}{us:List Value}(h:Vals a us):∀k:Nat,Vals (Ab k a).Z (Ab k us).Z
|0=>.p
|k+1=>by rw[Ad0,Ad0,Aj1,Aj1];exact Vals.append h<|Vals.rep h k
theorem XY(a:List Value):∀(k:Nat)(b:List Value),
 List.foldl (λO j=>O++j) b.j (Ab k a.j)=(b++(Ab k a).Z).j
|0,b=>by simp
|k+1,b=>by
  have e:b.j++a.j=(b++a).j:=by simp
  have c:(b++a)++(Ab k a).Z=b++(Ab (k+1) a).Z:=by rw[Ad0,Aj1,Ah6]
  rw[←c,←XY a k<|b++a,←e,Ad0,Ah5]
section
variable{X:Cx}{pins:List<|Addr×Obj}{U:St}{H:Hp}{s:Shared}{l b:Addr}{xs ys zs:List V}
def Inv.mK {b a:List Value}{n:Nat}{f:Array Value->Array Value}{t':Nat}(I:Inv X pins U H s)(h:H l=y0 (.w xs))
 (e:s.j.p l=y0 {cls:=.p "list",data:=.j b.j n})(g:f b.j=a.j)(c:Vals ys a)(j:ys.e<=sizeLine):
 Inv X pins U (ax H l<|.w ys) {s with heap:=s.j.B l<|Obj.mapSeq f,toks:=t'}:=by
 have q:=PySem.IsL.update e f;rw[g]at q;refine I.write (by rw[h];exact trivial) (.p rfl) (λk u d i=>(Ad2 s.j _<|Ne.symm d).x i) ⟨_,q⟩ ?_;exact⟨j,a,_,c,q⟩
def Inv.mG {a:List Value}{t':Nat}(I:Inv X pins U H s)(b:Vals ys a)(c:ys.e<=sizeLine):
 Inv X pins U (ax H s.j.j.j<|.w ys) {s with heap:=s.j.w {cls:=.p "list",data:=.j a.j},toks:=t'}:=
 I.T (λ_ _ q=>Aa _ q) (Aa3 _) ⟨c,a,0,b,Aa5 _ rfl⟩
theorem Inv.fresh (I:Inv X pins U H s):H s.j.j.j=none:=I.aF.U<|Aa3 _
def Inv.kg (I:Inv X pins U H s)(b:H l=y0 (.w xs)):xs.e<=sizeLine/\∃(a:List Value)(n:Nat),Vals xs a/\xs.e=a.e/\s.j.p l=y0 {cls:=.p "list",data:=.j a.j n}:=by obtain⟨z,a,n,r,e⟩:=I.aF l _ b;exact⟨z,a,n,r,r.e,e⟩
def Be{n:Nat}(h:n<=sizeLine):Builtin.List.listTooLong n=false:=by exact FS<|Nat.not_lt.2 ‹_›
end
section
variable{X:Cx}
def C9:V->List V->Hp->VK->Prop:=λx vs H Q=>∃l xs y,x=.j l/\vs=[y]/\H l=y0 (.w xs)/\xs.e<sizeLine/\Q .ai (ax H l<|.w<|xs++[y])
def ZU:fc X "list.append" C9:=by intro b s U H x j v k Q I f rv h;obtain⟨l,g,y,rfl,rfl,c,i,q⟩:=h;cases f;obtain⟨u,rfl,d⟩:=rv.one;obtain⟨z,a,n,r,m,e⟩:=I.kg c;refine SY Vq ⟨_,e,rfl⟩ U9 (UN _ _) (VF l a.j n u<|by simp_all) ⟨e,⟨.ai,_,I.mK c e Y9 (r.append<|.j d .p) ?_,rfl,q⟩⟩;rw[Ab9,Aj2];exact ZAA
def Mi:V->List V->Hp->VK->Prop:=λx vs H Q=>∃l b xs zs,x=.j l/\vs=[.j b]/\H l=y0 (.w xs)/\H b=y0 (.w zs)/\xs.e+zs.e<=sizeLine/\Q .ai (ax H l<|.w<|xs++zs)
def OL:fc X "list.extend" Mi:=by
 intro f s U H x B v D Q I t rv h;obtain⟨l,b,w,y,rfl,rfl,g,m,A,q⟩:=h;cases t;obtain⟨u,rfl,i⟩:=rv.one;cases i;obtain⟨z,c,n,r,E,e⟩:=I.kg g;obtain⟨C,a,k,o,j,p⟩:=I.kg m;have d:c.j.j+a.j.j<=sizeLine:=by rw[Ab7,Ab7];lia
 refine SY F.slot_list_extend ⟨_,e,rfl⟩ F.entry_list_extend (F.args_list_extend_2 _ _)
  (AutoSeq1.list_extend_list_list_0 l c.j n b a.j k (by rw[Be d,Ye];exact Ab0) (by simp_all)<|Af9 ‹_›) ⟨e,p,?_⟩
 refine⟨.ai,_,I.mK g e Y9 (r.append o) ?_,rfl,q⟩;rw[Ab9];exact ZAA
def Ei{b:Type}(a:List b)(k:Nat):(Ab k a).Z.e=k*a.e:=by
 induction k with
|zero=>simp
|succ k c=>rw[Ad0,Aj1,Ab9,c,Ym,Nat.add_comm]
end
end Lake
namespace Att
open PySem PySem.W PySem.Calls PyProof.Rows
def qC{P:Params}{h:Heap}:∀(ns:List Int)(vs:List Value),WellAll P h vs (ns.y WData.int)->IntsAre vs ns:=by
 intro ns;induction ns with
|nil=>intro vs w;cases w;exact .nil
|cons n ns c=>
  intro vs w;cases w with
|cons a b=>cases a;exact .cons _ _<|c _ b
def P6{l:OpenLaw}{n:Nat}(t:l.most=y0 n){P:Params}{h:Heap}{b:List WData}{e:List Value}
 (c:l.row.toRowW.claim.pre b=k9)(i:WellAll P h e b):
 ∃a vs ns,e=[Value.ref a]/\b=[WData.list (ns.y WData.int)]/\h.p a=y0 {cls:=.p "list",data:=.j vs.j}/\IntsAre vs ns/\ns.e<=n:=by
 have w:=(pre_splitW c).2;obtain⟨d,r,rfl,u,p⟩:=hasAllW_cons<|(pre_splitW c).1;obtain rfl:=hasAllW_nil p;obtain⟨x,rfl,k⟩:=hasW_list u;obtain⟨ns,rfl⟩:=items_int k;cases i with
|cons v m=>
  cases m;cases v with
|list o f=>exact⟨_,_,ns,rfl,rfl,o,qC ns _ f,(by
    have j:=by
     have j:=(holds_andW w).1
     rwa [t]at j
    have g:=condW_of j<|w_not<|w_lt w_lit<|w_len_list<|w_arg rfl;rw[Aa4]at g;refine VU λq=>?_;have s:n<((ns.e:Nat):Int):=by lia
    first
|(rw[On s]at g;exact absurd g Y7)
|(simp at g))⟩
def Su(l:OpenLaw)(args:List WData):l.row.toRowW.claim.post args (.bool k9) args=true:=
 postW_of
  (show WShape.has [] _ .bool=k9 by first|rfl|decide|simp[WShape.armsAll])
  (show(WTm.eq .res _).value [] {args:=args,res:=y0 _,after:=args}=y0 (.bool _)from w_eq_bool (w_res rfl) w_lit) rfl
def d8{l:OpenLaw}{n:Nat}{q:Program}{e:List Str}{XP:(Str->Option Value)->Heap->Prop}{D:World->Heap->Prop}{d:DefRec}
 (N:l.most=y0 n)(t:d.params.defaults=[])
 (call:∀(w:World)(c b:Shared)(mg y:Str->Option Value)(k:Addr)(o:Obj)(v p g:Value)(a:Addr)(vs:List Value)(ns:List Int),
   Ground q e [] XP w c mg y b.j->D w b.j→
   b.j.p k=y0 o->o.j=.func (docDef d.name d.params d.body d.scope v p g)->b.j.CodeRec p d.name->mg d.name=y0 (.j k)→
   b.j.p a=y0 {cls:=.p "list",data:=.j vs.j}->IntsAre vs ns->ns.e<=n->b.w=#[]→
   codeAny (model l.prog w) callerA (.j (.j k) ⟨[.j a],[]⟩) (λr s'=>r=.ok (.j<|.B k9)/\OldK b.j s'.j/\s'.os=b.os/\AllBare s'.w) b):
 WalkO q e XP D l.row.toRowW d []<|λf vs=>PySem.call f vs:=by
 intro w c b mg y G Y k o v p g E kV H P x C u Q A B R j z K s O;obtain rfl:E=.y:=Dflts.none C t;obtain rfl:kV=.y:=Dflts.noKw C;obtain⟨a,vs,ns,rfl,rfl,m,h,i⟩:=P6 N j s;refine enter_call<|SL (call w c b mg y k o v p g a vs ns G Y H (fd_plain P) x u m h i Q) λr s' L=>?_;obtain⟨rfl,M,F,J⟩:=L;exact⟨.p ⟨.B k9,.bool k9,[],rfl,λ_=>rfl,.bool k9,Su l _,λ_=>⟨List.Pairwise.nil,λ_ I=>(nomatch I)⟩⟩,M,F,J⟩
end Att
namespace Lake
open PySem PySem.Spec PyProof.Rows
theorem QU:∀{vs:List Value}{ns:List Int},IntsAre vs ns->Vals (ns.y V.int) vs
|_,_,.nil=>.p
|_,_,.cons n t h=>.j ⟨t,rfl⟩<|QU h
def oT(H:Hp):Prop:=∀b,H b=u0\/∃o xs,H b=y0 (.cS o<|.lst xs)
def F6{P:Program}{w:World}{K:Aa1}{mg Q:Str->Option Value}{X:eB}{k:Nat}{L a:Addr}{Y:FuncData}{x:Str}{sp:Sp}{c:Shared}{vs:List Value}{ns:List Int}
 (T:K.In c.j)(A:c.j.Ns mainGlobals mg)(f:c.j.Ns builtinsNs Q)(J:∀x:Str,x≠"__name__"->Q x=bootBuiltins x)(p:c.j.NoLimit)(hg:c.w=#[])
 (E:c.j.p a=y0 {cls:=.p "list",data:=.j vs.j})(hi:IntsAre vs ns)(W:ns.e<=sizeLine)(hr:aB k callerA)
 (F:∀base:Heap,K.In base->base.Ns mainGlobals mg->aX P w K mg base X k L Y [x] sp)(j:∀(s:Shared)(u:Value),BindsTo s Y ⟨[u],[]⟩ [(x,u)])
 (I:∀H:Hp,oT H->bu K H a (ns.y V.int)->sp [.ref a] H (λv _=>v=.bl k9) λ_ _ _=>False)
 (G:∀H e s',X [] H c (λ_ _ _=>False) e s'->False):
 codeAny (model P w) callerA (.j (.j L) ⟨[.j a],[]⟩) (λr s'=>r=.ok (.j<|.B k9)/\OldK c.j s'.j/\s'.os=c.os/\AllBare s'.w) c:=by
 have rv:=QU hi;have i:∀H:Hp,oT H->bu K H a (ns.y V.int)->ck P w H c.j->(∀b,H b≠u0->b=a)->(H a≠u0->K.p a=u0)→
  codeAny (model P w) callerA (.j (.j L) ⟨[.j a],[]⟩) (λr s'=>r=.ok (.j<|.B k9)/\OldK c.j s'.j/\s'.os=c.os/\AllBare s'.w) c:=by
  intro H S hS y U hK;have aJ:∀{b:Addr}{o:Obj},c.j.p b=y0 o->H b=u0->(lS c.j H).p b=y0 o:=Rz;have N:∀{b:Addr}{o:Obj}{C:Array DictEntry}{D:Nat},c.j.p b=y0 o->o.j=.dict C D->H b=none:=λ{b o C D} e d=>by
   cases q:H b with
|none=>rfl
|some u=>have M:=U b (by rw[q];simp);subst M;rw[E]at e;cases e;have d':=d;cases d'
  have g:∀{b:Addr}{m:Str->Option Value},c.j.Ns b m->(lS c.j H).Ns b m:=λ{b m} ⟨o,C,D,e,d,r⟩=>⟨o,C,D,aJ e<|N e d,d,r⟩;have B:=λb o e=>aJ (T b o e)<|by
   cases q:H b with
|none=>rfl
|some u=>have M:=U b (by rw[q];simp);subst M;rw[hK<|by rw[q];simp]at e;cases e
  have hM:Mod K mg _:=⟨B,g A,⟨Q,g f,J⟩,let⟨mc,h1,h2⟩:=p;⟨mc,g h1,h2⟩⟩;refine SL ((F _ B<|g A).run callerA [] c H ⟨[.j a],[]⟩ [.j a] [.ref a] _ _ hr (⟨rfl,hM,λb o e=>Dh e,Am9<|Sq _ _,trivial,λb f=>absurd (show b∈[]from f) Y9,y,.of_eq hg⟩) (j c _) (.j rfl .p)<|I H S hS) λr s' h=>?_;cases r with
|error e=>exact(G H e s' h).j
|ok fl=>
   cases fl with
|next=>exact False.elim h
|brk=>exact False.elim h
|cont=>exact False.elim h
|ret u=>
    obtain⟨v,H',os,t,un,l,r',q⟩:=h;have q':=q;subst q';obtain rfl:u=Value.bool true:=r';refine⟨rfl,OldK.of_keep λb o e=>?_,os,t⟩;cases q:H b with
|none=>exact un.keep b o e q (λz=>absurd (show b∈[]from z) Y9) Y9
|some u=>
     obtain z|⟨ob,xs,z⟩:=S b
     .rw[q]at z;cases z
     .have Z:=un.cM b ob _ z;have R:=(y b _ z).1;rw[e]at R;cases R;exact(l b _ Z).1
 cases O:K.p a with
|some o=>have e:=T a o O;rw[E]at e;cases e;refine i (λ_=>u0) (λ_=>.p rfl) (.w ⟨_,vs.j,_,O,rfl,rfl,rfl,by rw[Ab7,hi.length];exact W,by simpa using rv⟩) (λb u z=>by have n:=z;cases n) (λb z=>absurd rfl z) λz=>absurd rfl z
|none=>
  refine i (fun b=>if b=a then some (.cS {cls:=.p "list",data:=.j vs.j} _)else none) (fun b=>?_) (.p<|.w ⟨{cls:=.p "list",data:=.j vs.j},Fk rfl⟩) (fun b u z=>?_) (fun b z=>?_) fun _=>O
  .by_cases f:b=a
   .exact .w ⟨_,_,Fk f⟩
   .exact .p<|FB f
  .by_cases f:b=a
   .have n:=(Fk f).I.x z;cases n;subst f;exact⟨E,by rw[Aa4];exact W,vs,_,rv,E⟩
   .have n:=(FB f).I.x z;cases n
  .by_cases f:b=a
   .exact f
   .exact absurd (FB f) z
def hV{l:PySem.W.OpenLaw}{n k:Nat}{q:Program}{g:List Str}{XP:(Str->Option Value)->Heap->Prop}{D:World->Heap->Prop}{d:DefRec}{K:Params->Aa1}{E:World->eB}{sp:World->Sp}{x:Str}
 (O:l.most=y0 n)(y:n<=sizeLine)(p:d.params.defaults=[])(Q:aB k callerA)
 (L:∀(w:World)(h:Heap),D w h->(K w.j).In h)
 (F:∀(w:World)(mg:Str->Option Value)(m:Addr)(h:Heap),(K w.j).In h->h.Ns mainGlobals mg->mg d.name=y0 (.j m)→
   ∃fd:FuncData,(∀(s:Shared)(u:Value),BindsTo s fd ⟨[u],[]⟩ [(x,u)])∧
    ∀base:Heap,(K w.j).In base->base.Ns mainGlobals mg->aX l.prog w (K w.j) mg base (E w) k m fd [x] (sp w))
 (A:∀(w:World)(H:Hp)(a:Addr)(ns:List Int),ns.e<=n->oT H->bu (K w.j) H a (ns.y V.int)->sp w [.ref a] H (λv _=>v=.bl k9) λ_ _ _=>False)
 (z:∀(w:World)(H:Hp)(s:Shared)(e:Value)(t:Shared),E w [] H s (λ_ _ _=>False) e t->False):
 PySem.W.WalkO q g XP D l.row.toRowW d []<|λf vs=>PySem.call f vs:=by
 refine Att.d8 O p λw B i mg Z m o W U J a vs ns G Y T X N r j c b P=>?_;have C:=L w _ Y;obtain⟨fd,R,S⟩:=F w mg m _ C G.T.g r;exact F6 C G.T.g G.T.b G.T.builtins G.T.nolimit P j c (Ac b y) Q S R (λH M I=>A w H a ns b M I) λH e t=>z w H i e t
noncomputable def OI(s:Stmt):Arguments:=match s with
|.FunctionDef _ a _ _ _ _ _ _ _ _=>a
|_=>{posonlyargs:=[],args:=[],vararg:=u0,kwonlyargs:=[],kw_defaults:=[],kwarg:=u0,defaults:=[]}
noncomputable def Xr(s:Stmt):List Stmt:=match s with
|.FunctionDef _ _ b _ _ _ _ _ _ _=>b
|_=>[]
noncomputable def Jd(s:Stmt):Scope:=match s with
|.FunctionDef _ _ _ _ _ _ a _ _ _=>a
|_=>{kind:=.j,names:=[],isGenerator:=y9,isCoroutine:=y9}
abbrev m9:eB:=λ_ _ _ _ _ _=>False
abbrev E0:XK:=λ_ _ _=>False
structure gK(K:Aa1)(x u8:Str)(st:Stmt)(f:Addr)(fd:FuncData):Prop where
 ex:∃(oc:Value)(od:Option Addr)(kV doc pm:Value)(an:Option Addr)(cdv ct:Value)(osl:Array<|Option Value),
  fd=Ai9 x u8 (OI st) (Xr st) (Jd st) .y kV doc pm an cdv ct/\K.p f=y0 ⟨oc,od,.func fd,osl⟩/\Al K cdv u8=k9
 kp:Ag1 K (.j f)=k9
def zn(h:n<=1000):n<sizeLine:=PP h Y7
section
variable{X:Cx}
end
def pV{A B:Prop}(h:B):if y9=k9 then A else B:=by exact h
def oo{A B:Prop}(h:A):if k9=k9 then A else B:=by exact h
end Lake
set_option maxHeartbeats 4000000
namespace Lake
open Lake renaming Vals.length->Lake.Vals.e,V.str->Lake.V.o,V.ref->Lake.V.j,V.int->Lake.V.u,Cx.env->Lake.Cx.j,Cx.prog->Lake.Cx.p,Cx.stack->Lake.Cx.B,Cx.calm->Lake.Cx.C,Inv.ok->Lake.Inv.p,Inv.base->Lake.Inv.y,Inv.stack->Lake.Inv.B,Inv.kept->Lake.Inv.M,Inv.pin->Lake.Inv.N,Un.there->Lake.Un.p
open PySem PySem.Spec PyProof.Rows
noncomputable def je(env:Env)(a:List<|Str×Addr)(y:Str×NameKind):List<|Str×Addr:=
 if y.2==.C then(match env.w.p y.1 with|some c=>(y.1,c)::a|none=>a)else a
def QP(a:Scope)(env:Env):List<|Str×Addr:=a.j.a0 (je env) []
theorem yF:∀(a:List<|Str×NameKind) j,(∀y∈a,y.2=.C->∃c,env.w.p y.1=y0 c)→
 (do
   let mut O:=j
   for (name,kind) in a do
    if kind==.C then O:=(name,←cellOf env name)::O
   return O:Sem<|List<|Str×Addr)=pure (a.a0 (je env) j)
|[],j,_=>by simp
|(n,k)::r,j,h=>by
  have f:=λO=>yF r O λy hy=>h y<|Aa0 _ hy;by_cases d:k=.C
  .subst d;obtain⟨c,b⟩:=h (n,.C) Aa2 rfl;have b:=b;have e:je env j (n,.C)=(n,c)::j:=by show(if(NameKind.free==NameKind.free)=k9 then(match env.w.p n with|some c=>(n,c)::j|none=>j)else j)=_;rw[Fk<|show(NameKind.free==NameKind.free)=k9 from rfl,b]
   rw[Ah5,e,←f];simp[cellOf,b]
  .have g:(k==NameKind.free)=false:=by simpa using d
   have e:je env j (n,k)=j:=by show(if(k==NameKind.free)=k9 then _ else j)=_;rw[g,FB Ab0]
   rw[Ah5,e,←f];simp[d]
def jQ(h:∀y∈scope.j,y.2=.C->∃c,env.w.p y.1=y0 c):closureFor scope env=pure (QP scope env):=
 yF scope.j [] h
theorem WB:∀(a:List<|Str×NameKind) j,(∀x c,j.p x=y0 c->env.w.p x=y0 c)->∀x c,(a.a0 (je env) j).p x=y0 c->env.w.p x=y0 c
|[],_,h=>h
|(n,k)::r,j,h=>by
  refine WB r (je env j (n,k)) λx c e=>?_;unfold je at e;split at e
  .split at e
   .rename_i d b;rw[Ac1]at e;cases hx:x==n with
|true=>
     rw[hx]at e;have:x=n:=by simpa using hx
     subst this;cases e;exact b
|false=>rw[hx]at e;exact h x c e
   .exact h x c e
  .exact h x c e
theorem QX(d:env.w.p x=y0 c):∀(a:List<|Str×NameKind) O,((x,.C)∈a\/∃j,O.p x=y0 j)->∃j,(a.a0 (je env) O).p x=y0 j
|[],O,h=>h.j (λz=>absurd z Y9) id
|(n,k)::r,O,h=>by
  refine QX d r (je env O (n,k)) ?_;have b:(∃j,O.p x=y0 j)->∃j,(je env O (n,k)).p x=y0 j:=by
   rintro⟨j,e⟩;unfold je;split
   .split
    .rw[Ac1];cases x==n with
|true=>exact⟨_,rfl⟩
|false=>exact⟨j,e⟩
    .exact⟨j,e⟩
   .exact⟨j,e⟩
  rcases h with h|h
  .rcases Aa8.j h with h|h
   .cases h;refine .w ⟨c,?_⟩;show Ag6 x (if(NameKind.free==NameKind.free)=k9 then(match env.w.p x with|some c=>(x,c)::O|none=>O)else O)=_;rw[Fk<|show(NameKind.free==NameKind.free)=k9 from rfl,d];simp
   .exact .p h
  .exact .w<|b h
def WU(I:Nat->Shared->Prop)
 (g:∀n s,I n s->wpAny (model prog w) A (pyNext it) (λr O=>match r with
|none=>R (.ok .next) O
|some v=>wpAny (model prog w) A (letOwnedTupleGo tg it v) (λ_ j=>wpAny (model prog w) A (assign tg env v) (λ_ s₂=>
    wpAny (model prog w) A (forIn ifs k9 λc r=>if r=k9 then do let ok←isTrue c env<|eval c env;pure (ForInStep.yield ok)else pure (ForInStep.yield r)) (λok V=>
     if ok=k9 then wpAny (model prog w) A (eval elt env) (λx Z=>
      wpAny (model prog w) A (call (.w "list.append") [acc,x]) (fun _ s₅=>∃m,m<n/\I m s₅) (notedBy (model prog w) A env fun e s'=>R (.error e) s') Z) (notedBy (model prog w) A env fun e s'=>R (.error e) s') V
     else∃m,m<n/\I m V) (notedBy (model prog w) A env λe s'=>R (.error e) s') s₂) (notedBy (model prog w) A env λe s'=>R (.error e) s') j) (notedBy (model prog w) A env λe s'=>R (.error e) s') O) (notedBy (model prog w) A env λe s'=>R (.error e) s') s)
 (n)(h:I n s):codeAny (model prog w) A (.compLoop (.K elt [⟨tg,iter,ifs,0⟩] scope pos) 0 it acc env) R s:=by
 refine codeAny_loop rfl I (λn s o=>wpAny_noted ?_) n h;rw[compTurn_list];refine AC<|SG<|AC<|L2 (g n s o) (λr O b=>?_) λ_ _ a=>a;cases r with
|none=>exact Do b
|some v=>
  refine AC<|L2 b (λ_ j f=>AC<|L2 f (λ_ s₂ l=>AC<|L2 l (λok V d=>?_) λ_ _ a=>a) λ_ _ a=>a) λ_ _ a=>a;cases ok with
|false=>exact Do ⟨rfl,d⟩
|true=>exact AC<|AC<|L2 d (λx Z i=>AC<|L2 i (λ_ s₅ k=>Do<|Do ⟨rfl,k⟩) λ_ _ a=>a) λ_ _ a=>a
theorem X7:∀j n O,(x,NameKind.cell)∉j->(cellsFrom n j O).p x=O.p x
|[],_,_,_=>rfl
|(y,k)::r,n,O,h=>by
  unfold cellsFrom;split
  .rename_i a;have a:=by simpa using a
   subst a;rw[X7 r (n+1) _ λz=>h<|Aa0 _ z,Ac1];cases hx:x==y with
|true=>
    have:x=y:=by simpa using hx
    subst this;exact absurd Aa2 h
|false=>rfl
  .exact X7 r n O λz=>h<|Aa0 _ z
theorem X3:∀j (h:Heap) O V,(O.p x=y0 c->V\/(h.M c u0/\(x,NameKind.cell)∈j\/h.M c u0/\V))->∀lo,lo<=h.j.j→
 (cellsFrom h.j.j j O).p x=y0 c->O.p x=y0 c\/(lo<=c/\(x,NameKind.cell)∈j/\(pushCells h j).M c u0)
|[],_,_,_,_,_,_,e=>.p e
|(y,k)::r,h,O,V,l,lo,d,e=>by
  unfold cellsFrom at e;unfold pushCells;split at e
  .rename_i a;rw[Fk a];have a:=by simpa using a
   subst a;have e:(cellsFrom (h.w {cls:=.p "cell",data:=.w none}).j.j r<|(y,h.j.j)::O).p x=some c:=by rw[Ad6];exact e
   rcases X3 r (h.w {cls:=.p "cell",data:=.w none}) _ True (fun _=>.p trivial) lo (by rw[Ad6];exact Af9 ‹_›) e with q|⟨i,g,f⟩
   .rw[Ac1]at q;cases hx:x==y with
|true=>
     rw[hx]at q;have:x=y:=by simpa using hx
     subst this;cases q;exact .w ⟨d,List.mem_cons_self,(show(h.w {cls:=.p "cell",data:=.w none}).M h.j.j none from⟨_,Aa5 _ rfl,rfl⟩).keeps fun b o e=>Ur r _ b o e⟩
|false=>rw[hx]at q;exact .p q
   .exact .w ⟨i,Aa0 _ g,f⟩
  .rename_i a;rw[FB a];rcases X3 r h O True (λ_=>.p trivial) lo d e with q|⟨i,g,f⟩
   .exact .p q
   .exact .w ⟨i,Aa0 _ g,f⟩
theorem pR:∀(O)(n)(j),(∀x c,j.p x=y0 c->c<n)->(∀x y c,j.p x=y0 c->j.p y=y0 c->x=y)→
 ∀x y c,(cellsFrom n O j).p x=y0 c->(cellsFrom n O j).p y=y0 c->x=y
|[],_,_,_,a=>a
|(z,k)::r,n,j,b,a=>by
  unfold cellsFrom;split
  .have look:∀x c,((z,n)::j).p x=y0 c->(x=z/\c=n)\/(j.p x=y0 c):=λx c e=>by
    rw[Ac1]at e;cases hx:x==z with
|true=>rw[hx]at e;cases e;exact .p ⟨by simpa using hx,rfl⟩
|false=>rw[hx]at e;exact .w e
   refine pR r (n+1) _ (λx c e=>?_) λx y c h i=>?_
   .rcases look x c e with⟨_,q⟩|q
    .exact q▸Ae4 n
    .exact Ak2<|b x c q
   .rcases look x c h with⟨d,f⟩|p<;>rcases look y c i with⟨l,g⟩|q
    .rw[d,l]
    .exact absurd (f▸b y c q)<|Ag9 _
    .exact absurd (g▸b x c p)<|Ag9 _
    .exact a x y c p q
  .exact pR r n j b a
theorem ZJ:∀(a:List<|Str×NameKind) j,(a.a0 (je env) j).p x=y0 c->j.p x=y0 c\/(x,NameKind.free)∈a
|[],_,h=>.p h
|(y,k)::r,j,h=>by
  rcases ZJ r _ h with q|q
  .unfold je at q;split at q
   .rename_i b;have b:=by simpa using b
    subst b;split at q
    .rw[Ac1]at q;cases hx:x==y with
|true=>
      have:x=y:=by simpa using hx
      subst this;exact .w Aa2
|false=>rw[hx]at q;exact .p q
    .exact .p q
   .exact .p q
  .exact .w<|Aa0 _ q
noncomputable abbrev i9(env:Env)(l:List<|Str×NameKind):=l.y λ(n,k)=>if(k==NameKind.free&&env.p.p==ScopeKind.function&&env.y n==y0 NameKind.cell)then(n,NameKind.cell)else(n,k)
theorem rl{env:Env}{x}:∀l,(i9 env l).p x=(l.p x).y λk=>if(k==NameKind.free&&env.p.p==ScopeKind.function&&env.y x==y0 NameKind.cell)then .w else k
|[]=>rfl
|(n,k)::r=>by
  have a:=@rl env x r;rw[i9,Ac3];by_cases q:(k==NameKind.free&&env.p.p==ScopeKind.function&&env.y n==y0 NameKind.cell)=k9
  .simp only[q,Os,Ac1];cases hx:x==n with
|true=>cases eq_of_beq hx;simp only[Ak7,q,Os]
|false=>exact a
  .simp only[q,Am5,S5,Ac1];cases hx:x==n with
|true=>cases eq_of_beq hx;simp only[Ak7,q,Am5,S5]
|false=>exact a
def OE{env:Env}{names x}(h:(i9 env names).p x=y0 .w\/(i9 env names).p x=y0 .C):(x,.C)∈names\/(x,.w)∈names:=by
 rw[rl]at h;cases q:names.p x with
|none=>simp[q]at h
|some k=>have:=SI q;cases k<;>simp_all
theorem uv:∀{a:List<|Str×NameKind}{x}{k O},(a.y Prod.fst).N->(x,k)∈a->(x,O)∈a->k=O
|(y,j)::r,x,k,O,d,e,f=>by
  rw[Ac3,Ah3]at d;rcases Aa8.j e with b|b<;>rcases Aa8.j f with c|c
  .cases b;cases c;rfl
  .cases b;exact absurd (Ae9.p ⟨_,c,rfl⟩) d.1
  .cases c;exact absurd (Ae9.p ⟨_,b,rfl⟩) d.1
  .exact uv d.2 b c
theorem Q3:∀{a:List<|Str×NameKind}{x}{k},(a.y Prod.fst).N->(x,k)∈a->a.p x=y0 k
|(y,j)::r,x,k,b,h=>by
  rw[Ac3,Ah3]at b;rw[Ac1];rcases Aa8.j h with e|e
  .cases e;simp
  .have:(x==y)=false:=by
    cases hx:x==y with
|false=>rfl
|true=>
     have:x=y:=by simpa using hx
     subst this;exact absurd (Ae9.p ⟨_,e,rfl⟩) b.1
   rw[this];exact Q3 b.2 e
def iT(a:Scope)(C:Addr)(env:Env):List<|Str×Addr:=cellsFrom (C+1) a.j<|QP a env
def Wv
 (e:Q (newEnv scope s.j.j.j globals (cellsFrom (s.j.j.j+1) scope.j cl) u8 u0 .y (y0 env) builtinsNs) {s with heap:=pushCells (s.j.w {cls:=.p "dict",data:=.dict #[]}) scope.j}):
 wpAny M A (newFunctionEnv scope globals cl [] u8 u0 .y<|y0 env) Q E s:=by
 simp only[newFunctionEnv,Option.isSome_some,Os];refine AC<|wpAny_alloc ?_;refine AC<|wpAny_layCells _ (λd a b=>by cases c:a==NameKind.cell<;>simp[c]) _ _ _ _ ?_;rw[show({s with heap:=s.j.w {cls:=.p "dict",data:=.dict #[]}}:Shared).j.j.j=s.j.j.j+1 from Ad6 ..];exact AC<|Do<|Do e
noncomputable def Wd(X:Cx)(N:List Str)(a:Scope)(C:Addr)(b:List Addr)(s:Shared)(H:Hp):Cx where
 prog:=X.p
 w:=X.w
 K:=X.K
 mg:=X.mg
 base:=X.base
 A:=X.A
 N:=N
 s₀:=s
 H₀:=H
 env:=compEnvC a (iT a C X.j) C X.j
 outer:=X.B
 stack:=X.B
 ex:=b
 fn:=λx=>u9<|a.j.p x=y0 .w
 calm:=X.C
 pn:=[]
 xe:=λ_ _=>False
def cG(X:Cx):List Nat->List Str->Prop
|[],[]=>True
|j::a,x::xs=>X.N[j]?=y0 x/\(X.j.y x=y0 .w\/X.j.y x=y0 .C)/\cG X a xs
|_,_=>False
theorem cG.get {U:St}:∀{az}{xs}{i:Nat}{x}{v},cG X az xs->xs[i]?=y0 x->(az.y λj=>(U[j]?).join)[i]?=y0 (y0 v)→
 ∃j:Nat,X.N[j]?=y0 x/\U[j]?=y0 (y0 v)/\(X.j.y x=y0 .w\/X.j.y x=y0 .C)
|[],[],_,_,_,_,e,_=>by simp at e
|[],_::_,_,_,_,h,_,_=>h.j
|_::_,[],_,_,_,h,_,_=>h.j
|j::f,d::xs,0,x,v,h,b,a=>by
  obtain⟨c,g,_⟩:=h;simp at b;subst b;refine⟨j,c,?_,g⟩;have a:y0 ((U[j]?).join)=y0 (y0 v):=by simpa using a
  have a:=Ae3.inj a;cases q:U[j]? with
 |none=>rw[q]at a;cases a
 |some z=>rw[q]at a;have:z=y0 v:=a;rw[this]
|j::f,d::xs,i+1,x,v,h,b,a=>cG.get h.2.2 (by simpa using b)<|by simpa using a
theorem cG.length:∀{az}{xs},cG X az xs->az.e=xs.e
|[],[],_=>rfl
|[],_::_,h=>h.j
|_::_,[],h=>h.j
|_::_,_::_,h=>congrArg (·+1)<|cG.length h.2.2
noncomputable def mn(k:Nat)(az:List Nat)(U:St):St:=Ab k u0++az.y λ(j:Nat)=>(U[j]?).join
def iu(X:Cx)(a:List Expr)(t:TT):Prop:=
 ∀(pins:List<|Addr×Obj)(s:Shared)(U:St)(H:Hp)(Q:Bool->Hp->Prop),Inv X pins U H s->t U H Q→
  wpAny (model X.p X.w) X.A (forIn a k9 λc r=>if r=k9 then do let ok←isTrue c X.j<|eval c X.j;pure (ForInStep.yield ok)else pure (ForInStep.yield r)) (TP X pins U Q) X.xe s
def LK:TT:=λ_ H Q=>Q k9 H
def tT:iu X [] LK:=λ_ _ _ H _ I h=>wpAny_tests_nil ⟨H,I,h⟩
def Aq(h:PT X c t):iu X [c] t:=λa s U H Q I b=>wpAny_tests_one<|h a s U H Q I b
def Ar(J:It)(g:TG)(tc:TT)(h:TE)(j:St)(f:Hp)(Q:VK):Prop:=∃W:Nat->Nat->List V->St->Hp->Prop,(∃m,W 0 m [] j f)/\∀i m ys Y H,W i m ys Y H→
 (J.stop i H/\ys.e<=sizeLine/\∀D,H D=u0->Q (.j D) (ax H D<|.lst ys))∨
 (J.go i H/\ys.e<sizeLine/\∃N:List V->St->Hp->Prop,(∀a d H',N a d H'->∃e,e<m/\W (i+1) e a d H')∧
   ∀x H',J.fy i H x H'->g x Y H' λc H2=>tc c H2 λb H3=>if b=k9 then h c H3 λy H4=>N (ys++[y]) c H4 else N ys c H3)
abbrev lu(a:Type):=Addr->List Addr->Shared->Hp->a
def ni(k:Nat)(az:List Nat)(a:TI)(g:lu TG)(tc:lu TT)(b:lu TE):TE:=λU H Q=>a U H λJ H1=>∀C fp s,Ar J (g C fp s H1) (tc C fp s H1) (b C fp s H1) (mn k az U) H1 Q
def Inv.gF (I:Inv X pins U H s)(k:H D=u0)(h1:D≠X.j.j)(h:∀x c,X.j.w.p x=y0 c->c≠D)(j:∀p∈X.pn++pins,p.1≠D)(a:∀b u,X.s₀.j.p b=y0 u->b≠D)
 (new:aE X.p X.w (ax H D o) s.j D o):Inv X pins U (ax H D o) s:=by
 have up:∀b u,H b=y0 u->ax H D o b=y0 u:=λb u q=>by rwa [Ja<|Zb q k]
 refine⟨I.p,I.os,I.bare,⟨I.y.keep,I.y.slot,λb u e n hx=>?_,I.y.p,λb g q=>up b _<|I.y.cV b g q,λb u v q=>up b _<|I.y.cM b u v q⟩,I.loc,I.cell,?_,λx c q=>?_,λp d=>?_,λb u q=>?_,I.len⟩
 .rw[Ja<|a b u e];exact I.y.free b u e n hx
 .rw[Ja<|Ne.symm h1];exact I.free
 .rw[Ja<|h x c q];exact I.bj x c q
 .obtain⟨i,a2,a3⟩:=I.N p d;exact⟨i,by rw[Ja<|j p d];exact a2,a3⟩
 .by_cases f:b=D
  .subst f;rw[Xa]at q;cases q;exact new
  .rw[Ja f]at q;exact(I.aF b u q).c9 (λ_ _ _ z=>z)<|λc z=>up c _ z
def Inv.adopt (I:Inv X pins U H s)(g:bt X pins H D)(h:X.s₀.j.j.j<=D)
 (e:s.j.p D=y0 {cls:=.p "list",data:=.j its.j n})(r:Vals ys its)(i:ys.e<=sizeLine):Inv X pins U (ax H D<|.lst ys) s:=let⟨d,a,_,_,f,c⟩:=g
 I.gF d a f c (λb o q z=>by rw[z]at q;exact absurd (Ab4 (Aa9 q) h)<|Ag9 _) ⟨i,its,n,r,e⟩
def zl{env:Env}{names x}(h:names.p x=y0 .C):(i9 env names).p x=y0 .w\/(i9 env names).p x=y0 .C:=by
 rw[rl,h,Ak7];split
 .exact .p rfl
 .exact .w rfl
structure QT(X:Cx)(scope:Scope)(N:List Str)(k:Nat)(az:List Nat):Prop where
 kind:scope.p=.j
 nd:(scope.j.y Prod.fst).N
 names:∀y∈scope.j,y.2=.local->scope.j.p y.1=y0 .local
 free:∀y∈scope.j,y.2=.C->X.j.y y.1=y0 .w\/X.j.y y.1=y0 .C
 kD:∀x∈N.L k,scope.j.p x=y0 .C
 az:cG X az<|N.L k
 le:k<=N.e
section
variable{X:Cx}{elt tg iter:Expr}{ifs:List Expr}{scope:Scope}{pos p0:Pos}{N:List Str}{k:Nat}{az:List Nat}{wi:TI}{g:lu TG}{tc:lu TT}{te:lu TE}
def LU(ok:QT X scope N k az)(a:Inv X pins U H2 s2)(H:∀b∈fp,bt X pins H2 b)(fo:∀b∈fp,b<s2.j.j.j)
 (n:s2.j.j.j<=C)(L:h₁.Ns C m)(f:∀b o,s2.j.p b=y0 o->h₁.p b=y0 o)
 (d:∀x c,(iT scope C X.j).p x=y0 c->(QP scope X.j).p x=y0 c\/(C+1<=c/\(x,NameKind.cell)∈scope.j/\h₁.M c u0)):
 Inv (Wd X N scope C fp s2 H2) [] (mn k az U) H2 {s2 with heap:=h₁,toks:=tk}:=by
 have sub:∀x c,(QP scope X.j).p x=y0 c->X.j.w.p x=y0 c:=WB scope.j [] λx c e=>by simp at e
 have A:∀x,(x,NameKind.free)∈scope.j->∃c,(QP scope X.j).p x=y0 c:=λx F=>by obtain⟨c,w⟩:=a.p.has x<|ok.free _ F rfl;exact QX w scope.j []<|.p F
 have lt:∀x c,(QP scope X.j).p x=y0 c->c<C+1:=λx c e=>by obtain⟨v,o,B,_⟩:=a.cell x c<|sub x c e;exact Nat.lt_succ_of_le<|Ac (Ag5<|Aa9 B) n
 have keep:∀x c,(x,NameKind.free)∈scope.j->(QP scope X.j).p x=y0 c->(iT scope C X.j).p x=y0 c:=λx c F e=>by
  unfold iT
  rwa [X7 scope.j _ _ λz=>by cases uv ok.nd F z]
 have D:∀x,_∈scope.j\/(x,NameKind.cell)∈scope.j->∃c,(iT scope C X.j).p x=y0 c:=λx hx=>by
  rcases hx with hx|hx
  .obtain⟨c,w⟩:=A x hx;exact⟨c,keep x c hx w⟩
  .exact Ad3.j<|Ak1 scope.j _ _<|.p<|Q3 ok.nd hx
 refine⟨⟨a.p.mod,ok.kind,a.p.glob,a.p.blt,n,(pR scope.j _ _ lt λx y c K G=>a.p.inj x y c (sub x c K)<|sub y c G),λx hx=>D x<|OE hx,λx c t e=>?_,a.p.hd,a.p.frames,.p rfl,λb h=>⟨?_,λx c e=>?_⟩,
  a.bs,Ac a.p.f7 a.sz,λb o e h=>?_,λb h z=>(Aa8.j<|a.dU b z).j (H b h).2.1 (H b h).2.2.1,a.B,a.c7⟩,
  rfl,a.bare,Un.kept f,⟨m,L,λi x v Y s Z=>?_⟩,λx c e=>?_,a.aF.fresh n,λx c e=>?_,λp P=>absurd (show p∈([]:List _)from P) Y9,a.aF.kept f,?_⟩
 .have t:=Da t;rcases d x c e with q|q
  .rcases ZJ scope.j [] q with z|z
   .simp at z
   .have:=Q3 ok.nd z;rw[t]at this;cases this
  .exact Ac n<|Ac (Ad5 C) q.1
 .show b≠C;exact Ab5<|Ab4 (fo b h) n
 .rcases d x c e with q|q
  .exact(H b h).2.2.2.2.1 x c<|sub x c q
  .exact Ne.symm<|Ab5<|Ab4 (fo b h)<|Ac n<|Ac (Ad5 C) q.1
 .rcases(H b h).2.2.2.1 with z|z
  .exact a.p.fj b o e z
  .have K:=Aa9 e;have G:=a.p.f7;exact absurd (Ab4 K<|Ac G z)<|Ag9 _
 .have g:k<=i:=by
   by_cases g:i<k
   .have s:(Ab k u0++az.y λ(j:Nat)=>(U[j]?).join)[i]?=y0 _:=s;rw[Ae1<|by simpa using g,Ak4,Fk g]at s;cases s
   .lia
  have E:(N.L k)[i-k]?=y0 x:=by
   rwa [List.getElem?_drop,show k+(i-k)=i by lia]
  obtain⟨j,Q,R,M⟩:=ok.az.get (U:=U) E<|by
    have s:(Ab k u0++az.y λ(j:Nat)=>(U[j]?).join)[i]?=y0 _:=s
    rwa [Ad7<|by simpa using g,Ad4]at s
  obtain⟨T,V,S⟩:=a.loc;obtain⟨u,r,l⟩:=S j x v Q R<|.w<|M.j (λz=>.p z) λz=>.w z;refine⟨u,r,.w ?_⟩;have t:=ok.kD x<|Ag2 E;refine⟨zl t,?_⟩;obtain⟨c,w⟩:=A x<|SI t;refine⟨c,keep x c (SI t) w,?_⟩;rcases l with⟨O,_⟩|⟨_,W,J,o,B,I⟩
  .rcases M with z|z<;>(rw[O]at z;cases z)
  .have d:=sub x c w;rw[J]at d;cases d;exact⟨o,f _ o B,I⟩
 .rcases d x c e with q|q
  .obtain⟨v,o,B,I⟩:=a.cell x c<|sub x c q;exact⟨v,o,f c o B,I⟩
  .exact⟨u0,q.2.2⟩
 .rcases d x c e with q|q
  .exact a.bj x c<|sub x c q
  .exact a.aF.fresh<|Ac n<|Ac (Ad5 C) q.1
 .show(Ab k u0++az.y λ(j:Nat)=>(U[j]?).join).e=N.e;have G:=ok.le;rw[Ab9,Ad4,Aa4,ok.az.length,Ai0];lia
def jU(use)(hc:X.C=k9)(ok:QT X scope N k az)(hi:PI X tg iter wi)
 (hg:∀C fp s H,PG (Wd X N scope C fp s H) tg<|g C fp s H)(ht:∀C fp s H,iu (Wd X N scope C fp s H) ifs<|tc C fp s H)(he:∀C fp s H,PE (Wd X N scope C fp s H) elt<|te C fp s H)
 (hs:∀x,foldedSetIterable iter X.j x=pure x)
 (I:Inv X pins U H s)(h:ni k az wi g tc te U H Q)
 (fin:∀(D C:Addr)(oC:Obj)(m:Str->Option Value)(H4:Hp)(s4:Shared),Inv X (pins++[(C,oC)]) U H4 s4->bt X pins H4 C->Q (.j D) H4->(∀h:Heap,h.p C=y0 oC->h.Ns C m)→
   compPost (model X.p X.w) X.A X.xe use Q' (.j D) C (.ok .next) s4):
 wpAny (model X.p X.w) X.A (comprehension (.K elt [⟨tg,iter,ifs,0⟩] scope pos) scope X.j p0 (newList []) y9 (eval iter X.j) use) Q' X.xe s:=by
 refine wpAny_comprehension_free rfl hs (jQ λy hy hf=>I.p.has y.1<|ok.free y hy hf) ok.kind ok.names<|aD (hi pins s U H _ I h) λv s1 h1=>aD h1 λitv s2 h2=>?_;obtain⟨it,fp,tn,J,H2,e,I2,T,st2,f2,hW⟩:=h2;subst e;refine S1<|Wv ?_;dsimp only;generalize hHp:s2.j.w {cls:=.p "list",dict:=none,data:=.j ([]:List Value).j}=HP;have hCs:HP.j.j=s2.j.j.j+1:=by rw[←hHp,Ad6]
 generalize hDD:s2.j.j.j=D at hCs⊢;have hlk:∀x c,(iT scope HP.j.j X.j).p x=some c->(QP scope X.j).p x=some c\/(HP.j.j+1<=c/\(x,NameKind.cell)∈scope.j/\(pushCells (HP.w {cls:=.p "dict",data:=.dict #[]}) scope.j).M c none):=fun x c e=>by refine X3 scope.j _ _ True (λ_=>.p trivial) _ (by rw[Ad6];exact Aa3 _) ?_;rw[Ad6];exact e
 generalize hh1:pushCells _ scope.j=h₁ at hlk⊢;have hns₁:h₁.Ns HP.j.j λ_=>none:=by rw[←hh1];exact(Heap.Ns.new HP _).keeps<|Ur _ _
 have hk1:∀b o,HP.p b=y0 o->h₁.p b=y0 o:=λb o e=>by rw[←hh1];exact Ur _ _ b o<|Aa _ e
 generalize hCC:HP.j.j=C at hCs hns₁ hlk⊢;have hDC:D≠C:=by rw[hCs];exact Ab5<|Ae4 _
 have hle:s2.j.j.j<=C:=by rw[hDD,hCs];exact Ad5 _
 have hleD:s2.j.j.j<=D:=Am9 hDD;have fo:∀b∈fp,b<D:=λb hb=>by obtain⟨o,eo,_⟩:=T.obj _ _ st2 b hb;rw[←hDD];exact Aa9 eo
 have old:∀b o,s2.j.p b=y0 o->h₁.p b=y0 o:=λb o e=>by exact hk1 b o<|hHp▸Aa _ e
 obtain⟨W,⟨m0,w0⟩,turn⟩:=hW C fp s2;have I3:Inv _ [] _ H2 {s2 with heap:=h₁,toks:=s2.p}:=
  LU ok I2 f2 (λb hb=>by rw[hDD];exact fo b hb) hle hns₁ old hlk
 have st3:tn 0 h₁:=T.keep _ _ _ st2 λb _ o e=>old b o e;have FD:∀{H':Hp},H' D=u0->bt X pins H' D:=λhn=>I2.dT hleD hn;have FC:∀{H':Hp},H' C=u0->bt X pins H' C:=λhn=>I2.dT hle hn;have sub:∀x c,(QP scope X.j).p x=y0 c->X.j.w.p x=y0 c:=WB scope.j [] λx c e=>by simp at e
 have hDst:D∉bA X.B:=λz=>(Aa8.j<|I2.dU D z).j (FD (H':=λ_=>u0) rfl).2.1 (FD (H':=λ_=>u0) rfl).2.2.1;have hDc:∀x c,(iT scope C X.j).p x=y0 c->c≠D:=λx c e=>by
  rcases hlk x c e with q|q
  .exact(FD (H':=λ_=>u0) rfl).2.2.2.2.1 x c<|sub x c q
  .exact Ne.symm<|Ab5<|Ab4 (by rw[hCs];exact Ak2<|Ae4 _) q.1
 have loop:∀s₃:Shared,s₃={s2 with heap:=h₁,toks:=s2.p}→
  codeAny (model X.p X.w) X.A (.compLoop (.K elt [⟨tg,iter,ifs,0⟩] scope pos) 0 (.j it) (.j D)<|compEnvC scope (iT scope C X.j) C X.j)
   (compPost (model X.p X.w) X.A X.xe use Q' (.j D) C) s₃:=by
  rintro s₃ rfl;refine WU (λn s'=>∃i ys its kk Y H',Inv (Wd X N scope C fp s2 H2) [] Y H' s'/\tn i s'.j/\(∀b∈fp,H' b=u0)/\H' D=u0/\s'.j.p D=y0 {cls:=.p "list",data:=.j (its:List Value).j kk}/\Vals ys its/\W i n ys Y H') ?_ m0 ⟨0,[],[],0,_,H2,I3,st3,λb hb=>(f2 b hb).1,I2.aF.fresh hleD,(by refine hk1 _ _ ?_;rw[←hHp,←hDD];exact Aa5 _ rfl),.p,w0⟩;rintro n s3 ⟨i,ys,its,kk,Y,H3,I3,st3,fr3,hD3,eD3,rv3,w3⟩;have IP:Inv (Wd X N scope C fp s2 H2) [(D,{cls:=.p "list",data:=.j its.j kk})] Y H3 s3:=I3.bD fun p hp=>by
   have e:p=(D,{cls:=.p "list",data:=.j its.j kk}):=by simpa using hp
   subst e;exact⟨eD3,hD3,hDC,hDst,λv z=>by cases z⟩
  have fpok:∀{H':Hp},(∀b∈fp,H' b=u0)->∀b∈fp,bt (Wd X N scope C fp s2 H2) [(D,{cls:=.p "list",data:=.j its.j kk})] H' b:=fun{H'} hn b hb=>by
   refine⟨hn b hb,I3.p.mj b hb|>.1,I3.p.fu b hb,.p hb,I3.p.mj b hb|>.2,λp hp=>?_⟩;have e:p=(D,{cls:=.p "list",data:=.j its.j kk}):=by have hp:p∈([]:List<|Addr×Obj)++[(D,{cls:=.p "list",data:=.j its.j kk})]:=hp;simpa using hp
   rw[e];exact Ne.symm<|Ab5<|fo b hb
  rcases turn i n ys Y H3 w3 with⟨stop,hz,q⟩|⟨go,hz,NN,hN,step⟩
  .refine aD (T.done (Wd X N scope C fp s2 H2) rfl rfl rfl hc i _ s3 Y H3 _ IP (fpok fr3) st3 stop) ?_;rintro r s4 ⟨hr,I4⟩;subst hr;have I5:Inv X pins U H3 s4:=I2.iH I4.os I4.y I4.aF I4.bare<|λb hb=>⟨(f2 b hb).2.2.2.1,(f2 b hb).2.1,(f2 b hb).2.2.2.2.1,(f2 b hb).2.2.2.2.2⟩;have I6:=I5.adopt (FD hD3) (Ac I2.sz hleD) ((I4.N _<|Aa7 _ Aa2).1) rv3 hz;obtain⟨m,⟨oC,es,ep,hoC,hdC,hr⟩,_⟩:=I4.loc;have fC:bt X pins (ax H3 D<|.lst ys) C:=FC (by rw[Ja<|Ne.symm hDC];exact I4.free);have I7:Inv X (pins++[(C,oC)]) U (ax H3 D<|.lst ys) s4:=I6.bD λp hp=>(Ad9.j hp).j (λz=>I6.N p<|Aa7 _ z) λz=>by
    have e:p=(C,oC):=by simpa using z
    subst e;exact⟨hoC,fC.1,fC.2.1,fC.2.2.1,λv z=>by rw[hdC]at z;cases z⟩
   exact fin D C oC m _ s4 I7 fC (q D hD3) λh e=>⟨oC,es,ep,e,hdC,hr⟩
  .refine aD (T.item (Wd X N scope C fp s2 H2) rfl rfl rfl hc i _ s3 Y H3 _ IP (fpok fr3) st3 go) ?_;rintro r s4 ⟨u,hr,h4⟩;subst hr;refine aD h4 ?_;rintro _ s5 ⟨x,H5,I5,r5,y5,st5,fr5⟩;have I5':=I5.pinned (fpok fr5)<|T.obj _ _ st5;refine L2 (hg C fp s2 H2 _ s5 Y H5 x u _ I5' r5<|step x H5 y5) ?_ λ_ _ z=>False.elim z;rintro _ s6⟨U6,H6,I6,q6⟩;refine L2 (ht C fp s2 H2 _ s6 U6 H6 _ I6 q6) ?_ λ_ _ z=>False.elim z;rintro b s7⟨H7,I7,q7⟩;have hp5:∀b∈fp,∃o,s5.j.p b=y0 o:=λb hb=>let⟨o,e,_⟩:=T.obj _ _ st5 b hb;⟨o,e⟩;cases b with
|false=>
    rw[FB Ab0]at q7⊢;obtain⟨m',hm,w7⟩:=hN _ _ _ q7;refine⟨m',hm,i+1,ys,its,kk,U6,H7,I7.bD λp hp=>absurd hp Y9,T.keep _ _ _ st5 λb hb o e=>(I7.N (b,o)<|Aa7 _<|Aa7 _<|Zf hb e).1,λb hb=>?_,?_,?_,rv3,w7⟩
    .obtain⟨o,e⟩:=hp5 b hb;exact(I7.N (b,o)<|Aa7 _<|Aa7 _<|Zf hb e).2.1
    .exact(I7.N _<|Aa7 _<|Ag3 _ Aa2).2.1
    .exact(I7.N _<|Aa7 _<|Ag3 _ Aa2).1
|true=>
    rw[Fk rfl]at q7⊢;refine L2 (he C fp s2 H2 _ s7 U6 H7 _ I7 q7) ?_ λ_ _ z=>False.elim z;rintro y s8⟨yv,H8,I8,r8,q8⟩;have pD:=I8.N _<|Aa7 _<|Ag3 _ Aa2;have eD8:s8.j.p D=y0 {cls:=.p "list",data:=.j its.j kk}:=pD.1;have hD8:H8 D=none:=pD.2.1;have k7:=rv3.e;refine SY Vq ⟨_,eD8,rfl⟩ U9 (UN _ _) (VF D its.j kk y<|by rw[Ab7];lia) ⟨eD8,?_⟩;obtain⟨m',hm,w8⟩:=hN _ _ _ q8;have e9:=PySem.IsL.update eD8 (·.w y);rw[show its.j.w y=(its++[y]).j by simp]at e9;have I9:Inv (Wd X N scope C fp s2 H2) (xW fp s5.j) U6 H8 {s8 with heap:=s8.j.B D (Obj.mapSeq (·.w y)),toks:=s8.p}:=
     (I8.bD λp hp=>I8.N p<|Aa7 _<|Aa7 _ hp).turned (λb o hb e=>(Ad2 s8.j (Obj.mapSeq (·.w y))<|Ne.symm hb).x e) hD8 hDC (.w hleD) hDc λp hp=>by have hp:p∈([]:List<|Addr×Obj)++xW fp s5.j:=hp;have:=fo p.1 (ZS<|by simpa using hp).1;exact Ab5 this
    refine⟨m',hm,i+1,ys++[yv],its++[y],_,U6,H8,I9.bD λp hp=>absurd hp Y9,T.keep _ _ _ st5 λb hb o e=>(I9.N (b,o)<|Aa7 _<|Zf hb e).1,λb hb=>?_,hD8,e9,rv3.append<|.j r8 .p,w8⟩;obtain⟨o,e⟩:=hp5 b hb;exact(I9.N (b,o)<|Aa7 _<|Zf hb e).2.1
 exact codeAny_compStart_list (loop _ rfl)<|T.self _ 0 _ _ _ st3<|loop _ rfl
def LZ(ok:QT X scope N k az)(hi:PI X tg iter wi)
 (l:∀C fp s H,PG (Wd X N scope C fp s H) tg<|g C fp s H)(j:∀C fp s H,iu (Wd X N scope C fp s H) ifs<|tc C fp s H)(i:∀C fp s H,PE (Wd X N scope C fp s H) elt<|te C fp s H)
 (n:X.C=true:=by rfl)(f:∀x,foldedSetIterable iter X.j x=pure x:=by intro _;rfl):PE X (.K elt [⟨tg,iter,ifs,0⟩] scope pos)<|ni k az wi g tc te:=λd s U H Q I h=>jU u0 n ok hi l j i f I h λD C o m H4 r e a q c=>⟨m,c _ (e.N _<|Aa7 _<|Aa7 _ Aa2).1,λp b=>⟨.j D,H4,(e.bG).turned b.A a.1 a.2.1 a.2.2.2.1 a.2.2.2.2.1 a.2.2.2.2.2,rfl,q⟩⟩
def Dw(B:X.N.N)(c:X.N[i]?=y0 x)(A:lR X.j.p x)(ok:QT X scope N k az)(hi:PI X tg iter wi)
 (w:∀C fp s H,PG (Wd X N scope C fp s H) tg<|g C fp s H)(t:∀C fp s H,iu (Wd X N scope C fp s H) ifs<|tc C fp s H)(r:∀C fp s H,PE (Wd X N scope C fp s H) elt<|te C fp s H)
 (b:swapsWith (.K elt [⟨tg,iter,ifs,0⟩] scope p0) (y0<|.p x pos') pos.p X.j=pure true:=by rfl)
 (z:X.C=true:=by rfl)(n:∀x,foldedSetIterable iter X.j x=pure x:=by intro _;rfl)(y:X.fn x=k9\/X.j.p.j.p x=y0 .local:=by first|exact .inl rfl|exact .inr rfl|assumption):
 PS X (.j [.p x pos'] (.K elt [⟨tg,iter,ifs,0⟩] scope p0) pos)<|iW (ni k az wi g tc te)<|JW i:=by
 intro j s U H D I h;rw[exec_Assign_Name_used _ _ _ _ b];exact AC<|SG<|AC<|AC<|L2 (jU _ z ok hi w t r n I h λo C E m H4 J u a q f=>VA<|Ws u B c A (v:=.j o) rfl (λK l=>⟨m,f _ (l.N _<|Aa7 _<|Aa7 _ Aa2).1,λF d=>⟨_,H4,(l.bG).turned d.A a.1 a.2.1 a.2.2.2.1 a.2.2.2.2.1 a.2.2.2.2.2,q⟩⟩) y) (λ_ G p=>Do<|Do p) λ_ _ e=>e
end
open PySem PySem.Spec PySem.Calls PySem.W PyProof.Rows
structure iP(K:Frag)(C:Addr):Prop where
 ga:findIn K (.j C) "__getattribute__"=some (some<|.w "BaseException.__getattribute__")
 gn:findIn K (.j C) "__getattr__"=some none
 cl:findIn K (.j C) "__class__"=some (some<|.w "object.__class__")
 get:specialIn K (.w "object.__class__") "__get__"=some (some<|.w "getset_descriptor.__get__")
 set:takesIn K (.w "object.__class__")=some true
 obj:mroIn K C (.p "object")=some true
 bas:mroIn K C (.p "BaseException")=some true
 slf:kitCls K (.j C) (.j C)=y0 k9
 cls:(clsIn K C).p=k9
def ExcAt(h:Heap)(x C:Addr):Prop:=∃o,h.p x=y0 o/\o.w=.j C
def ExcAt.type (e:ExcAt h x C):Looks M h (typeOf<|.j x)<|.j C:=by obtain⟨o,a,b⟩:=e;rw[←b];exact(Looks.ld a).a5 Looks.now
section
variable{prog:Program}{w:World}{A:Around}{E:Value->Shared->Prop}{s:Shared}{K:Frag}{x C:Addr}
def Z8(X:K.In s.j)(I:ExcAt s.j x C)(Z:iP K C)(a:R (.ok<|.j<|.j C) s):
 codeAny (model prog w) A (.j (.w "getset_descriptor.__get__") ⟨[.w "object.__class__",.j x,tp],[]⟩) R s:=by
 obtain⟨g,d,dd,e,f⟩:=s;have c:=I.type (M:=model prog w);have b:=looks_mroIn (M:=model prog w) X Z.obj;refine S4 KF.slot_gs.plain KF.entry_gs<|KF.slot_gs.check _ _ _ _ _ _ _ _ KF.type_class (KF.args_gs _ _ _) ?_;unfold Builtin.«getset_descriptor.__get__»Builtin.Getset_descriptor.descrGet;rw[dga_obj];refine AC<|Do ?_;unfold Builtin.Getset_descriptor.descrGetter Builtin.Getset_descriptor.descrCheckInstance Builtin.Getset_descriptor.descrNameAndClass isInstance;simp only[KF.owner_class]
 repeat lk
 refine⟨Tc _<|by decide+kernel,SM KF.entry_class ?_⟩;unfold Builtin.«object.__class__»shownTypeOf
 repeat lk
 exact a
def JY(X:K.In s.j)(I:ExcAt s.j x C)(Z:iP K C)(n:Q (y0<|.j C) {s with toks:=s.p+1}):
 wpAny (model prog w) A (getAttr? (.j x) "__class__") Q E s:=by
 obtain⟨a,c,dd,r,d⟩:=s;have g:=I.type (M:=model prog w);have i:=looks_findIn (M:=model prog w) X Z.ga;have l:=looks_findIn (M:=model prog w) X Z.cl;have k:=looks_specialIn (M:=model prog w) X Z.get;have m:=looks_takesIn (M:=model prog w) X Z.set;have p:=looks_mroIn (M:=model prog w) X Z.bas;have b:Looks (model prog w) a (Builtin.ObjectAttr.find (.j x) (.j C) "__class__")<|.bind (.w "getset_descriptor.__get__")<|.w "object.__class__":=by unfold Builtin.ObjectAttr.find;refine l.a5<|Looks.andThen (show Looks (model prog w) a (Builtin.ObjectAttr.getOf<|some<|.w "object.__class__")<|some<|.w "getset_descriptor.__get__"from k) ?_;unfold Builtin.ObjectAttr.dataDescriptor?;exact Looks.andThen (m.a5 Looks.now)<|Looks.tag Looks.now
 have f:∀A tk Q E t,Q (.done<|.j<|.j C) ⟨a,c,dd,t,d⟩→
  wpAny _ A (Builtin.«object.__getattribute__» ⟨[.j x,.o "__class__" tk],[]⟩) Q E ⟨a,c,dd,t,d⟩:=fun A tk Q E t h=>by
  unfold Builtin.«object.__getattribute__»;refine AC<|Tf rfl ?_;dsimp only;refine AC<|Tf rfl<|AC<|g.at<|AC<|b.at ?_;show wpAny _ _ _ _ _ _;unfold Builtin.ObjectAttr.bindTo;dsimp only;exact AC<|IR<|SX<|Z8 X I Z<|Do h
 have kG:∀A e Q E t,Q () ⟨a,c,dd,t,d⟩→
  wpAny (model prog w) A (checkBuiltinCall "BaseException.__getattribute__" ⟨[.j x,e],[]⟩) Q E ⟨a,c,dd,t,d⟩:=fun A e Q E t h=>by
  have j:builtinKind "BaseException.__getattribute__"=some .slot:=by decide+kernel
  have o:splitId "BaseException.__getattribute__"=some ("BaseException","__getattribute__"):=by decide+kernel
  have q:=F.args_bexc_ga (.j x) e;simp only[checkBuiltinCall,j,o];refine AC<|(g.a5 p:Looks (model prog w) a (isInstance (.j x)<|.p "BaseException") true).at ?_;rw[FB Y7];exact Tf q h
 unfold getAttr? getAttrBy? getAttrBy;refine AC<|wpAny_mkText<|AC<|Tz<|IR<|AC<|g.at<|AC<|i.at ?_;show wpAny _ _ (getAttrByItsOwn _ _ _ _ _ _) _ _ _;unfold getAttrByItsOwn hookBefore;refine AC<|(looks_findIn X Z.gn).at<|AC<|Tz<|IR ?_;show wpAny _ _ (boundAndCalled (.w "BaseException.__getattribute__") (.j x) _) _ _ _;unfold boundAndCalled;refine AC<|Tf (F.excAttr_ValueError.ga.bind _)<|SX<|S4 F.excAttr_ValueError.ga.plain F.entry_bexc_ga<|kG _ _ _ _ _<|f _ _ _ _ _ ?_;show wpAny _ _ (handedOut<|.j C) _ _ _;exact handed_on rfl<|Do n
end
def jP{K:Frag}(Z:iP K C):KitX K (.j x) (.j C)<|λh=>ExcAt h x C where
 ty:=λ_ _ _ I=>I.type
 it:=λM h X _=>(kit_cls X Z.slf).2.1
 ne:=λh f dd d n g X a=>by
  rw[Bool.eq_false_iff];intro q;have e:=Value.ref.inj<|beq_iff_eq.j q;subst e;have z:=Z.cls;cases b:K.p C with
|none=>simp[clsIn,b]at z
|some o=>have c:=X C o b;rw[a]at c;cases c;simp[clsIn,b]at z
 ca:=λX I k=>JY X I Z k
noncomputable def hJ(x C:Addr)(a:Option Addr):HO:=.ext λh=>∃o,h.p x=y0 o/\o.w=.j C/\notCls o=k9/\∀dx,a=y0 dx->o.p=y0 dx
def F3(e:h.p x=y0 o)(c:o.w=.j C)(f:notCls o=k9)(d:∀dx,od=y0 dx->o.p=y0 dx):aE P w H h x<|hJ x C od:=
 ⟨⟨o,e,c,f,d⟩,⟨o,e⟩,by rintro g i⟨o,a,b⟩k;exact⟨o,k o a,b⟩⟩
def yK(K:Frag):List V->Hp->VK->Prop:=λxs H Q=>∃x C a b,iP K C/\H x=y0 (hJ x C a)∧
 ((∃(D:Addr),xs=[.j x,.j D]/\kitOne K (.j C) (.j D)=y0 b)\/(∃(T:String),xs=[.j x,.ty T]/\kitOne K (.j C) (.p T)=y0 b)∨
   ∃(t:Addr)(ds:List Addr),xs=[.j x,.j t]/\H t=y0 (.tup<|ds.y V.ref)/\kitAny K (.j C) (ds.y Value.ref)=y0 b)/\Q (.bl b) H
theorem jT:∀{ds:List Addr}{us},Vals (ds.y V.ref) us->us=ds.y Value.ref
|[],_,.p=>rfl
|_::_,_,.j r t=>by cases r;rw[jT t];rfl
def Nd:qo X (.w "isinstance")<|yK X.K:=by
 rintro f s U H v A Q I r⟨x,C,w,b,Z,hx,m,q⟩;have ex:ExcAt s.j x C:=let⟨o,a,b,_⟩:=(I.aF x _ hx).1;⟨o,a,b⟩;obtain⟨D,rfl,e⟩|⟨T,rfl,e⟩|⟨t,p,rfl,j,e⟩:=m
 .obtain⟨u,h,rfl,d,c⟩:=Z6 r;cases d;cases c;exact kia_one (jP Z) I.bg ex e (λz=>nomatch z) λtk=>⟨.bl b,H,I.tok tk,rfl,q⟩
 .obtain⟨u,h,rfl,d,c⟩:=Z6 r;cases d;cases c;exact kia_one (jP Z) I.bg ex e (λz=>nomatch z) λtk=>⟨.bl b,H,I.tok tk,rfl,q⟩
 .obtain⟨u,h,rfl,d,c⟩:=Z6 r;cases d;cases c;obtain⟨_,l,rv,o,k,i,_,n,g⟩:=I.aF t _ j;rw[jT rv]at g;obtain⟨y,E,dt,B⟩:=o;subst i g;exact kia_tup (jP Z) I.bg ex k e (λz=>nomatch z) λtk=>⟨.bl b,H,I.tok tk,rfl,q⟩
def ik(o b:Obj):Prop:=b.p=o.p/\∀vs,o.j=.p vs->∃a,b.j=.p a/\a[2]?=vs[2]?
def ik.refl (o:Obj):ik o o:=⟨rfl,λa e=>⟨a,e,rfl⟩⟩
theorem ik.trans {a b c:Obj}(x:ik a b)(y:ik b c):ik a c:=⟨y.1.x x.1,λg e=>by obtain⟨v1,d,h⟩:=x.2 g e;obtain⟨v2,f,i⟩:=y.2 v1 d;exact⟨v2,f,i.x h⟩⟩
def DK(h h':Heap):Prop:=∀b o,h.p b=y0 o->∃o',h'.p b=y0 o'/\ik o o'
theorem DK.refl (h:Heap):DK h h:=λ_ o e=>⟨o,e,.refl o⟩
theorem DK.trans {a b c:Heap}(x:DK a b)(y:DK b c):DK a c:=λi o e=>
 let⟨g,d,j⟩:=x i o e;let⟨h,f,k⟩:=y i g d
 ⟨h,f,j.trans k⟩
def eK(h:Heap)(x:Addr):Prop:=∃o vs,h.p x=y0 o/\o.j=.p vs/\vs[2]?=y0 .y
def eK.dk {h h':Heap}{x:Addr}(c:eK h x)(d:DK h h'):eK h' x:=by obtain⟨o,m,e,f,g⟩:=c;obtain⟨i,j,l⟩:=d x o e;obtain⟨a,k,b⟩:=l.2 m f;exact⟨i,a,j,k,b.x g⟩
def i6(a:Option Addr)(H:Hp):Prop:=∀dx,a=y0 dx->∃p,H dx=y0 (.xd [p])
def KD{b:Type}:Sem b->Prop
|.pure _=>True
|.raise _=>True
|.unsupported _=>True
|.finish _=>True
|.register _ _=>True
|.rule _ k=>KD<|k ()
|.at _ k=>KD<|k ()
|.load _ _ k=>∀o,KD<|k o
|.update _ _ f k=>(∀o,ik o (f o)/\(o.isFreed=y9->(f o).isFreed=y9))/\KD (k ())
|.alloc _ k=>∀a,KD<|k a
|.loadIfAlive _ k=>∀o,KD<|k o
|.point _ k=>KD<|k ()
|.fresh k=>∀t,KD<|k t
|.ask k=>∀t,KD<|k t
|.handled _ k=>∀t,KD<|k t
|.stack k=>∀t,KD<|k t
|.thread k=>∀t,KD<|k t
|_=>False
theorem KD.bind (c:∀a,KD<|f a)(h:KD m):KD<|m.bind f:=by
 induction m with
|pure a=>exact c a
|raise _=>exact trivial
|unsupported _=>exact trivial
|finish _=>exact trivial
|register _ _=>exact trivial
|rule _ k b=>exact b () h
|«at»_ k b=>exact b () h
|load _ _ k b=>exactλo=>b o<|h o
|update _ _ _ k b=>exact⟨h.1,b () h.2⟩
|alloc _ k b=>exactλo=>b o<|h o
|loadIfAlive _ k b=>exactλo=>b o<|h o
|point _ k b=>exact b () h
|fresh k b=>exactλo=>b o<|h o
|ask k b=>exactλo=>b o<|h o
|handled _ k b=>exactλo=>b o<|h o
|stack k b=>exactλo=>b o<|h o
|thread k b=>exactλo=>b o<|h o
|_=>exact False.elim h
theorem DK.push (h:Heap)(o:Obj):DK h<|h.w o:=λb u e=>⟨u,Aa _ e,.refl u⟩
theorem DK.update (h:Heap)(a:Addr){f:Obj->Obj}(c:∀o,ik o (f o)/\(o.isFreed=y9->(f o).isFreed=y9)):DK h<|h.B a f:=λb u e=>by
 by_cases q:a=b
 .subst q;exact⟨f u,Ad1 f e<|(c u).2 (Heap.get?_some_iff.j e).2,(c u).1⟩
 .exact⟨u,by rw[Ad2 _ _ q];exact e,.refl u⟩
def Dv:∀{p}{s},KD t->DK h0 s.j->Sem.wp M Γ t Q E p s→
 Sem.wp M Γ t (λa p s'=>Q a p s'/\DK h0 s'.j) (λe p s'=>E e p s'/\DK h0 s'.j) p s:=by
 induction t with
|pure a=>exactλk d h=>⟨h,d⟩
|raise _=>exactλk d h=>⟨h,d⟩
|unsupported _=>exactλk d h=>h
|finish _=>exactλk d h=>h
|register _ _=>exactλk d h=>h
|rule _ t b=>exactλk d h=>b () k d h
|«at»_ t b=>exactλk d h=>b () k d h
|load _ _ t b=>exactλk d ⟨o,e,h⟩=>⟨o,e,b o (k o) d h⟩
|update a _ f t b=>exactλk d ⟨e,h⟩=>⟨e,b () k.2 (d.trans<|DK.update _ _ k.1) h⟩
|alloc o t b=>exactλk d h=>b _ (k _) (d.trans<|DK.push _ _) h
|loadIfAlive _ t b=>exactλk d h=>b _ (k _) d h
|point _ t b=>exactλk d h=>b () k d h
|fresh t b=>exactλk d h=>b _ (k _) d h
|ask t b=>exactλk d h=>b _ (k _) d h
|handled _ t b=>exactλk d h=>b _ (k _) d h
|stack t b=>exactλk d h=>b _ (k _) d h
|thread t b=>exactλk d h=>b _ (k _) d h
|_=>exact False.elim
def JA(k:KD t)(h:wpAny M A t Q E s):
 wpAny M A t (λa s'=>Q a s'/\DK s.j s'.j) (λe s'=>E e s'/\DK s.j s'.j) s:=λc p b=>Dv k (DK.refl _)<|h c p b
def EM(v):KD<|fieldsOf v:=by
 cases v<;>first|exact trivial|skip
 refine KD.bind (λo=>?_) λ_=>trivial;split<;>exact trivial
def QA(v)(i):KD<|field v i:=by refine KD.bind (λo=>?_)<|EM v;split<;>exact trivial
def J7{c:Bool}(d:KD a)(e:KD b):KD<|if c then a else b:=by cases c<;>assumption
def js(v:Value)(i:Nat)(x:Value)(hi:i≠2):KD<|setField v i x:=by
 cases v<;>first|exact trivial|skip
 refine KD.bind (λo=>?_) λ_=>trivial;split
 .split
  .refine⟨λo=>?_,trivial⟩;obtain⟨c,d,dt,a⟩:=o;cases dt<;>first|exact⟨.refl _,λz=>z⟩|exact⟨⟨rfl,λb e=>by cases e;exact⟨_,rfl,Array.getElem?_setIfInBounds_ne hi⟩⟩,λz=>z⟩
  .exact trivial
 .exact trivial
def WM(f)(b):KD<|entryPlaceOf f b:=by refine KD.bind (λo=>?_) λ_=>trivial;split<;>exact trivial
def X5(a b c d e)(p):KD<|EntryCells.newEntry a b c d e p:=by
 have f:∀g:Array Value,KD<|if g.j>sizeLine+2 then do
  unsupported "record:memory"
  else newObjAsIs (Value.type "traceback") (Data.fields g):=fun g=>by
  split
  .exact trivial
  .unfold newObjAsIs;exactλ_=>trivial
 exact f _
theorem tL:∀l:List Env,KD<|readyFrames l
|[]=>trivial
|env::outer=>by
  unfold readyFrames;split
  .refine KD.bind (λo=>?_) (m:=load _) λ_=>trivial;refine J7 trivial ?_;refine KD.bind (λi=>?_) ?_
   .refine KD.bind (λb=>?_) ?_
    .refine KD.bind (λ_=>tL outer) (m:=update _ _) ⟨λo=>⟨⟨rfl,λa e=>⟨a,e,rfl⟩⟩,λz=>?_⟩,trivial⟩;obtain⟨c,d,dt,f⟩:=o;cases dt<;>exact z
    .unfold keptBack;split
     .refine J7 trivial ?_;refine KD.bind (λ_=>by exact trivial) ?_;unfold underTheClaimsCaller;exactλ_=>trivial
     .exact trivial
   .unfold behindIsImport;refine J7 trivial<|J7 trivial ?_;exact KD.bind (λ_=>by exact trivial)<|QA _ _
  .exact trivial
def D4(env):KD<|PySem.frameOf env:=by
 refine KD.bind (λl=>?_) λ_=>trivial;refine KD.bind (λo=>?_) ?_
 .split<;>exact trivial
 .unfold frameObject;split
  .exact trivial
  .exact KD.bind (λ_=>trivial)<|tL _
def tR(e:Value)(env:Env):KD<|noteFrame e env:=by
 unfold noteFrame;split
 .refine KD.bind (λf=>?_)<|QA _ _;have d:KD (do setField e 1<|←EntryCells.newEntry f (←PySem.frameOf env) .y (rawInt ‹Addr›) .y<|←entryPlaceOf ‹Addr›<|f !=.y):=
   KD.bind (λa=>KD.bind (λb=>KD.bind (λc=>js _ _ _ Y7)<|X5 _ _ _ _ _ _)<|WM _ _)<|D4 env
  refine J7 (KD.bind (λx=>?_)<|QA _ _) d;exact J7 trivial<|KD.bind (λ_=>d)<|js _ _ _ Y7
 .exact trivial
def ju(e:Value)(f:Option Addr):KD<|setFlight e f:=by exact KD.bind (λx=>J7 (js _ _ _ Y7) trivial)<|QA _ _
def Xw(env)(e):KD<|leaving env e:=KD.bind (λ_=>ju e u0)<|tR e env
def aE.there (x:aE P w H h a o):∃u,h.p a=y0 u:=by
 cases o with
|lst b=>exact⟨_,x.2.choose_spec.choose_spec.2⟩
|tup b=>obtain⟨_,_,_,u,e,_⟩:=x;exact⟨u,e⟩
|dK c=>obtain⟨_,_,_,_,u,_,_,e,_⟩:=x;exact⟨u,e⟩
|ins C dx fs=>obtain⟨_,_,_,e,_⟩:=x;exact⟨_,e⟩
|own y=>exact x
|xd fs=>obtain⟨_,⟨u,_,_,e,_⟩,_⟩:=x;exact⟨u,e⟩
|cS d u=>exact⟨_,x.1⟩
|ext φ=>exact x.2.1
def bc(P:Program)(w:World):eB:=λouter H s E e s'=>∃(x C t:Addr)(B:Heap)(H':Hp)(a:Option Addr),e=.j x/\s'.os=s.os/\AllBare s'.w∧
 Ae6 B outer x (.j C) (.j t) s'.j/\Un (bA outer) [] H H' s.j s'.j/\ck P w H' s'.j∧
 (∀b o,s'.j.p b=y0 o->((∃u,H' b=y0 u)\/∃u,s.j.p b=y0 u)->b∉bA outer->B.p b=y0 o)/\s.j.p x=u0/\((∀dx,a=y0 dx->∃o,s'.j.p x=y0 o/\o.p=y0 dx)/\(i6 a H'->eK s'.j x))/\E (.j C) a H'
noncomputable def fV(C t:Addr)(a:Option Addr):Obj:={cls:=.j C,dict:=a,data:=.p #[.j t,.y,.y,.y,.B y9,.y]}
section
variable{P:Program}{w:World}{K:Frag}{mg:Str->Option Value}{base:Heap}{N:List Str}{u8:Str}{scope:Scope}{f:Addr}{cd:Value}{A:Around}{outer:List Env}{s:Shared}{H:Hp}{E:XK}
def Ay{m:List<|Addr×Obj}{U:St}{H':Hp}{g:Shared}{x C t:Addr}{B h2:Heap}{r:Option Addr}(I:Inv (qp (bc P w) P w K mg base N u8 scope f cd A outer s H E) m U H' g)
 (comp:∀b o,g.j.p b=y0 o->((∃u,H' b=y0 u)\/∃u,s.j.p b=y0 u)->b∉bA (envOfC u8 scope s.j.j.j f cd::outer)->B.p b=y0 o)(new:s.j.p x=u0)
 (L:(∀dx,r=y0 dx->∃o,g.j.p x=y0 o/\o.p=y0 dx)/\(i6 r H'->eK g.j x))(O:E (.j C) r H')(M:Ae6 B outer x (.j C) (.j t) h2)(X:g.j.y h2)(dk:DK g.j h2):bc P w outer H s E (.j x) {g with heap:=h2}:=by
 have e:∀b o,b∈bA (envOfC u8 scope s.j.j.j f cd::outer)->g.j.p b=y0 o->∃D,h2.p b=y0 {o with slots:=D}:=λb o a z=>by obtain⟨_,l,G,S⟩:=(I.B).mem a;rw[z]at G;cases G;exact X b o z S
 have d:∀b o,g.j.p b=y0 o->((∃u,H' b=y0 u)\/∃u,s.j.p b=y0 u)->b∉bA (envOfC u8 scope s.j.j.j f cd::outer)->h2.p b=y0 o:=λb o z c n=>M.1 b o<|comp b o z c n;have cut:∀b u,s.j.p b=y0 u->b∉bA outer->b∉bA (envOfC u8 scope s.j.j.j f cd::outer):=λb u z R a=>by
  rcases Aa8.j (show b∈s.j.j.j::bA outer from a)with q|q
  .exact Ab5 (Aa9 z) q
  .exact R q
 have gZ:∀b u,H' b=y0 u->b∉bA (envOfC u8 scope s.j.j.j f cd::outer):=λb u z a=>by rw[I.c7 b a]at z;cases z
 refine⟨x,C,t,B,H',r,rfl,I.os,I.bare,M,⟨λb o z n a hx=>d b o (I.y.keep b o z n a hx) (.w ⟨o,z⟩)<|cut b o z a,λb o z n a hx=>?_,I.y.free,λb o z hx=>?_,I.y.cV,I.y.cM⟩,λb u z=>?_,λb o z j a=>?_,new,⟨λdx z=>?_,λz=>(L.2 z).dk dk⟩,O⟩
 .obtain⟨D,i⟩:=I.y.slot b o z n a hx;obtain⟨y,h⟩:=e b _ (Aa0 _ a) i;exact⟨y,h⟩
 .obtain⟨l,i⟩:=I.y.p b o z hx;by_cases a:b∈bA (envOfC u8 scope s.j.j.j f cd::outer)
  .obtain⟨D,h⟩:=e b l a i;exact⟨_,h⟩
  .exact⟨l,d b l i (.w ⟨o,z⟩) a⟩
 .refine(I.aF b u z).c9 (λc v j i=>?_)<|λ_ i=>i;rcases j with rfl|j
  .exact d c v i (.p ⟨u,z⟩)<|gZ c u z
  .exact d c v i (.p ⟨_,j⟩)<|gZ c _ j
 .have two:∃k,g.j.p b=y0 k/\b∉bA (envOfC u8 scope s.j.j.j f cd::outer):=by
   rcases j with⟨u,p⟩|⟨u,p⟩
   .obtain⟨k,h⟩:=(I.aF b u p).there;exact⟨k,h,gZ b u p⟩
   .obtain⟨k,h⟩:=I.y.p b u p (by show b∉([]:List Addr);simp);exact⟨k,h,cut b u p a⟩
  obtain⟨k,h,J⟩:=two;have F:=d b k h j J;rw[show h2.p b=y0 o from z]at F;cases F;exact comp b _ h j J
 .obtain⟨o,T,V⟩:=L.1 dx z;obtain⟨l,W,Q⟩:=dk x o T;exact⟨l,W,Q.1.x V⟩
def zx{pins:List<|Addr×Obj}{U:St}{H1:Hp}{s2:Shared}{e C t:Addr}{od:Option Addr}(I:Inv (qp (bc P w) P w K mg base N u8 scope f cd A outer s H E) pins U H1 s2)
 {oe:Obj}{vs:Array Value}(he:s2.j.p e=y0 oe)(hc:oe.w=.j C)(hod:oe.p=od)(hdt:oe.j=.p vs)(v0:vs[0]?=y0 (.j t))(v1:vs[1]?=y0 .y)(v2:i6 od H1->vs[2]?=y0 .y)(new:s.j.p e=u0)(h0:H1 e=u0)(q:E (.j C) od H1):(qp (bc P w) P w K mg base N u8 scope f cd A outer s H E).xe (.j e) s2:=by
 refine L2 (JA (Xw _ _)<|wpAny_leaving_firstW (E:=λ_ _=>False)
  (Q:=λ_ s'=>Heap.LeftW (hideAll s2.j<|e::bA (envOfC u8 scope s.j.j.j f cd::outer)) (envOfC u8 scope s.j.j.j f cd::outer) e (.j C) (.j t) s2.j s'.j/\s'={s2 with heap:=s'.j})
  I.p.frames (funFrames_hide (I.B) λenv he a ha=>Aa0 _<|Ah1.p ⟨env,he,ha⟩) rfl he (λb o z=>of_hideAll _ z) (hideAll_none _<|Aa2 ..) hdt v1 v0 λh' hL=>⟨by rw[←hc];exact hL,rfl⟩) (λ_ s' ⟨⟨hL,hs⟩,dk⟩=>?_)<|λ_ _ z=>z.1.j
 obtain⟨k1,k2,k3,x4⟩:=hL;obtain⟨h2,g2,d2,t2,o2⟩:=s';simp only[Shared.mk.injEq]at hs;obtain⟨-,rfl,rfl,rfl,rfl⟩:=hs;have olde:∀b o,s.j.p b=y0 o->b≠e:=λb o z q=>by rw[q,new]at z;cases z
 have gZ:∀b u,H1 b=y0 u->b≠e:=λb u z q=>by rw[q,h0]at z;cases z
 exact Ay I (λb o z c n=>hideAll_get _ z<|by rw[Aa8];exactλq=>q.j (λq=>c.j (by rintro⟨u,z⟩;exact gZ b u z q)<|by rintro⟨u,z⟩;exact olde b u z q) n) new ⟨λdx z=>⟨oe,he,hod.x z⟩,λz=>⟨oe,vs,he,hdt,v2 z⟩⟩ q ⟨k1,hideAll_none _<|Aa2 ..,k2.2.2,k3⟩ x4 dk
def W9{b:List<|Addr×Obj}{U:St}{g:Hp}{d:Shared}{h':Heap}{e C:Addr}{vs:List Value}(I:Inv (qp (bc P w) P w K mg base N u8 scope f cd A outer s H E) b U g d)
 (c:Heap.MadeExcOf d.j h' e (.j C) vs)(q:E (.j C) u0 g):(qp (bc P w) P w K mg base N u8 scope f cd A outer s H E).xe (.j e) {d with heap:=h'}:=by
 obtain⟨t,i,_⟩:=c.there;refine zx (I.M c.keeps) i rfl rfl rfl rfl rfl (λ_=>rfl) ?_ ?_ q
 .cases z:s.j.p e with
|none=>rfl
|some u=>obtain⟨h,a⟩:=I.y.p e u z (by show e∉[];simp);rw[c.new]at a;cases a
 .cases z:g e with
|none=>rfl
|some u=>obtain⟨h,a⟩:=(I.aF e u z).there;rw[c.new]at a;cases a
end
noncomputable abbrev mT:List Value:=[.p "ValueError",.p "Exception",.p "BaseException",.p "object"]
noncomputable def mV(x:Frag->Addr->Bool)(K:Frag)(C:Addr):Bool:=match K.p C with
|some ⟨t,_,.cls cd,l⟩=>u9 (t=.p "type"/\cd.mro=.j C::cd.mro.tail/\l=#[l.getD 0 none,l.getD 1 none,l.getD 2 none,l.getD 3 none,some (.w "ValueError.__new__"),l.getD 5 none]/\cd.hasDel=false)&&(tailIn K mT cd.mro.tail&&(nsOkIn K cd.ns&&x K cd.ns))
|_=>y9
set_option tactic.hygienic true in
def Zn{x:Frag->Addr->Bool}{K:Frag}{h:Heap}{C:Addr}(X:K.In h)(q:mV x K C=k9):
 ∃Z O nm j bs V sn sub ab col dd k0 k1 k2 k3 k5,h.p C=some (excClassObj nm j C O bs Z V sn sub ab col dd k0 k1 k2 k3 k5 "ValueError.__new__")/\nsOkIn K O=true/\x K O=true/\OwnTail h mT Z:=by
 unfold mV at q;split at q;next t dd n l g=>
  simp only[Aa6,Pi]at q;obtain⟨⟨rfl,a,k,f⟩,d,i,e⟩:=q;obtain⟨nm,bs,c,b,j,V,sn,sub,ab,col,m⟩:=n;dsimp only at a f d i e;generalize c.tail=tl at a d;subst f a;rw[k]at g;exact⟨tl,b,nm,j,bs,V,sn,sub,ab,col,dd,_,_,_,_,_,X _ _ g,i,e,tail_of_in X d⟩
 next=>cases q
abbrev oy:Frag->Addr->Bool:=mV λK a=>nsIn K a "__init__"==some none
section
variable{P:Program}{w:World}{K:Frag}{mg:Str->Option Value}{base:Heap}{N:List Str}{u8:Str}{scope:Scope}{f:Addr}{cd:Value}{A:Around}{outer:List Env}{s:Shared}{H:Hp}{E:XK}
def vP(C:Addr)(E:XK)(t:TA):TS:=λ_ U H=>t U H λvs H1=>vs.e<=sizeLine/\E (.j C) u0 H1
def D8{x:Str}{R b pos:Pos}{e:Expr}{es:List Expr}{t:TA}{C:Addr}(p:A.j=u0)(y:oy K C=k9)(r:mg x=y0 (.j C))(M:Gl (qp (bc P w) P w K mg base N u8 scope f cd A outer s H E) x)
 (S:PA (qp (bc P w) P w K mg base N u8 scope f cd A outer s H E) (e::es) t)
 (n:starEach (e::es) (envOfC u8 scope s.j.j.j f cd)=(y9,eval e<|envOfC u8 scope s.j.j.j f cd)::starEach es (envOfC u8 scope s.j.j.j f cd):=by rfl)
 (j:(backTo b<|starEach es<|envOfC u8 scope s.j.j.j f cd).C (·.1)=false:=by rfl)(L:(x==("__debug__":Str))=false:=by decide):
 PS (qp (bc P w) P w K mg base N u8 scope f cd A outer s H E) (.w (y0<|.w (.p x R) (e::es) [] b) u0 pos)<|vP C E t:=by
 intro c k U B D I h;obtain⟨bm,F,nm,u,bs,l,sn,sub,ab,col,dd,k0,k1,k2,k3,k5,G,o,v,T⟩:=Zn I.mod.eQ y;have m:=nsMap_none_of_in I.mod.eQ o<|eq_of_beq v;refine wpAny_Raise_call_subT (nm:=nm) (q:=u) (N:=F) (bs:=bs) (hdct:=l) (sn:=sn) (sub:=sub) (ab:=ab) (col:=col) (dd:=dd) (k0:=k0) (k1:=k1) (k2:=k2) (k3:=k3) (k5:=k5)
  TZ (T.hasType PySem.F.excBase_ValueError.hasBase) p ?_ m<|Wi I M r ⟨rfl,?_⟩ L
 .show(backTo b<|starEach (e::es)<|envOfC u8 scope s.j.j.j f cd).C _=y9;rw[n];show(y9||(backTo b _).C _)=y9;rw[j];rfl
 .have O:=S b c k U B _ I h;show wpAny _ _ (evalArgs _ k9 (backTo b<|starEach (e::es)<|envOfC u8 scope s.j.j.j f cd) []) _ _ k;have d:wpAny _ _ (spliced<|backTo b<|starEach (e::es)<|envOfC u8 scope s.j.j.j f cd) _ _ k:=O;rw[n]at d⊢;exact UM<|aD d<|by rintro Y Z⟨X,W,g,Q,z,J⟩;exact⟨rfl,by rw[←Q.e];exact z,g.bk _ _ G,(Us<|isNs_of_in I.mod.eQ o).keeps g.bk,T.keeps g.bk,λV a i=>W9 g i J⟩
def gK.Bw {st:Stmt}(F:gK K x u8 st f fd)(S:Wk N ps<|Jd st)(len:∀vs H Q E,sp vs H Q E->vs.e=ps.e)
 (a:∀j A outer s H vs Q E,aB k (A.w<|envOfC u8 (Jd st) s.j.j.j f j)->sp vs H Q E→
   ∃t,cE (qp (bc P w) P w K mg base N u8 (Jd st) f j A outer s H E) (Xr st) t/\t {nx:=λ_ H'=>Q .ai H',rt:=Q} (Wx N vs) H):aX P w K mg base (bc P w) (k+1) f fd ps sp:=by
 obtain⟨m,i,kV,d,n,l,j,ct,h,rfl,e,b⟩:=F.ex;exact CJ e b S len λA outer s H vs Q E g c=>a j A outer s H vs Q E g c
def LQ:PassesOwn (model P w) (A.w<|envOfC u8 scope s.j.j.j f cd) (envOfC u8 scope s.j.j.j f cd) (qp (bc P w) P w K mg base N u8 scope f cd A outer s H E).xe:=
 PassesOwn.leaving
end
section
variable{X:Cx}{pins:List<|Addr×Obj}{U:St}{H:Hp}{s:Shared}
def Inv.iC (I:Inv X pins U H s)(d:Af5 X.j.j s.j h')(l:h'.Ns X.j.j m')
 (q:∀(i:Nat)(x:Str)(v:V),X.N[i]?=y0 x->U'[i]?=y0 (y0 v)->lH X.j.p x->∃u,RelV v u/\Aw X.j h' m' x u)(len:U'.e=X.N.e):Inv X pins U' H {s with heap:=h',toks:=t'}:=by
 have a:∀b o,X.s₀.j.p b=y0 o->b≠X.j.j:=λb o e=>Ab5<|Ab4 (Aa9 e) I.p.above;refine⟨I.p,I.os,I.bare,⟨λb o e n h hx=>(d.2 b<|a b o e).x<|I.y.keep b o e n h hx,λb o e n h hx=>?_,I.y.free,λb o e hx=>?_,I.y.cV,I.y.cM⟩,⟨m',l,q⟩,λy c e=>?_,I.free,I.bj,λp k=>?_,λb u e=>?_,len⟩
 .obtain⟨t,j⟩:=I.y.slot b o e n h hx;exact⟨t,(d.2 b<|a b o e).x j⟩
 .obtain⟨m,j⟩:=I.y.p b o e hx;exact⟨m,(d.2 b<|a b o e).x j⟩
 .obtain⟨v,z⟩:=I.cell y c e;exact⟨v,z.sameBut d<|I.iw y c e⟩
 .obtain⟨e,n,ne,r⟩:=I.N p k;exact⟨(d.2 p.1 ne).x e,n,ne,r⟩
 .refine(I.aF b u e).c9 (λc v f z=>(d.2 c ?_).x z)<|λ_ z=>z;intro g;obtain f|f:=f
  .rw[←f,g,I.free]at e;cases e
  .rw[g,I.free]at f;cases f
def Ha(I:Inv X pins U H s)(C:X.N.N)(hi:X.N[i]?=y0 n)(p:X.j.p.j.p n=y0 .local)
 (h:∀s',Inv X pins (U.B i u0) H s'->Q () s'):wpAny M A (do bindName X.j n .y;unbindBehindTheSuite X.j n hp) Q E s:=by
 have f:(X.j.p.p==.class||(X.j.p.p==.module&&X.j.j !=X.j.globals))=false:=by rw[I.p.kind];rfl
 have x:X.j.y n=y0 .local:=p;have o:i<U.e:=by rw[I.len];exact(Ab3.j hi).1
 refine AC<|wpAny_bindName<|Ws I C hi (.p p) (v:=.ai) rfl (λK t=>?_)<|.w p;obtain⟨m,D,a⟩:=t.loc;have d:(m n).p=true:=by
  obtain⟨u,_,l⟩:=a i n .ai hi (Ac2 o)<|.p p;obtain⟨_,e⟩|⟨z,_⟩:=l
  .rw[e];rfl
  .rcases z with z|z<;>(rw[x]at z;cases z)
 refine UX<|AC<|VN<|AC ?_;unfold deleteName;simp only[x,f];refine AC<|wpAny_nsDel_keeps D λJ v q g=>?_;rw[d];refine Do<|VN<|h _ ?_;refine t.iC g q (λj y F B w G=>?_) (by rw[Ae];exact I.len);have b:j≠i:=λz=>by subst z;rw[Ac2 o]at w;cases w
 rw[Ac5<|Ne.symm b]at w;obtain⟨u,r,l⟩:=a j y F B (by rwa [Ac5<|Ne.symm b]) G;refine⟨u,r,?_⟩;obtain⟨k,e⟩|⟨k,c,e,z⟩:=l
 .refine .p ⟨k,?_⟩;have:y≠n:=λe=>b<|xN C B<|e▸hi;simp[this,e]
 .exact .w ⟨k,c,e,z.sameBut g<|t.iw y c e⟩
end
def x5{K:Frag}(X:K.In s.j)(I:ExcAt s.j x C)(z:kitCls K (.j C) (.j W)=some b)(f:mroIn K W (.p "BaseException")=some true)(a:Q b s):
 wpAny (model prog w) A (excMatches (.j x)<|.j W) Q E s:=by
 obtain⟨c,h,dd,i,l⟩:=s;obtain⟨e,d,m⟩:=kit_cls X z;have k:=I.type (M:=model prog w);have g:Looks (model prog w) c (isInstance _ _) false:=e.a5<|Looks.of_pure tc_notTuple;have j:Looks _ c (isExcClass _) true:=d.a5<|looks_mroIn X f;cases b with
 | true=>repeat lk
         exact a
 | false=>repeat lk
          exact a
def yj{i g:Shared}(p:Inv X pins U H1 i)(un:Un (bA X.B) [] H1 H' i.j g.j)(j:ck X.p X.w H' g.j)
 (comp:∀b o,g.j.p b=y0 o->((∃u,H' b=y0 u)\/∃u,i.j.p b=y0 u)->b∉bA X.B->B.p b=y0 o)(h:B.StaysIn h6)(w:h6.C B X.B)(sm:g.j.y h6):
 Un (bA X.B) [] H1 H' i.j h6/\ck X.p X.w H' h6/\∀b o,h6.p b=y0 o->((∃u,H' b=y0 u)\/∃u,i.j.p b=y0 u)->b∉bA X.B->B.p b=y0 o:=by
 have gZ:∀c u,H' c=y0 u->c∉bA X.B:=λc u z d=>by obtain⟨_,o,e,_⟩:=p.B.mem d;have:=un.free c o e (p.c7 c d) Y9;rw[this]at z;cases z
 refine⟨⟨λb o e n a hx=>h b o<|comp b o (un.keep b o e n a hx) (.w ⟨o,e⟩) a,λb o e n a hx=>?_,un.free,λb o e hx=>?_,un.cV,un.cM⟩,λb u e=>?_,λb o z d a=>?_⟩
 .obtain⟨A,r⟩:=un.slot b o e n a hx;obtain⟨_,k,l,x⟩:=p.B.mem a;rw[e]at l;cases l;obtain⟨q,y⟩:=sm b _ r x;exact⟨q,y⟩
 .obtain⟨k,r⟩:=un.p b o e hx;by_cases a:b∈bA X.B
  .obtain⟨_,f,l,_⟩:=w.mem a;exact⟨f,l⟩
  .exact⟨k,h b k<|comp b k r (.w ⟨o,e⟩) a⟩
 .refine(j b u e).c9 (λc v d z=>?_)<|λ_ z=>z;obtain rfl|d:=d
  .exact h c v<|comp c v z (.p ⟨u,e⟩)<|gZ c u e
  .exact h c v<|comp c v z (.p ⟨_,d⟩)<|gZ c _ d
 .obtain⟨f,t⟩:∃f,g.j.p b=y0 f:=by
   obtain⟨u,m⟩|⟨u,m⟩:=d
   .exact(j b u m).there
   .exact un.p b u m Y9
  have s:=h b f<|comp b f t d a;rw[z]at s;cases s;exact comp b _ t d a
def x9{X:Cx}{a:List<|Addr×Obj}{U:St}{h H':Hp}{f c:Shared}{B e:Heap}(i:Inv X a U h f)(j:c.os=f.os)(d:AllBare c.w)(un:Un (bA X.B) [] h H' f.j c.j)(g:ck X.p X.w H' c.j)
 (comp:∀b o,c.j.p b=y0 o->((∃u,H' b=y0 u)\/∃u,f.j.p b=y0 u)->b∉bA X.B->B.p b=y0 o)(n:B.StaysIn e)(k:e.C B X.B)(sm:c.j.y e):Inv X a U H' {c with heap:=e}:=by
 obtain⟨m,l,_⟩:=yj i un g comp n k sm;exact i.iH j m l d λb p=>absurd p Y9
def wR{R:Heap->Prop}(k:KD t)(h:∀j:Unit->Shared->Prop,(∀h',R h'->j () {s with heap:=h'})->wpAny M A t j E s)(g:∀h',R h'->DK s.j h'->Q () {s with heap:=h'}):wpAny M A t Q E s:=
 L2 (JA k<|h (λ_ a=>∃h',a={s with heap:=h'}/\R h') λh' r=>⟨h',rfl,r⟩) (λ_ a ⟨⟨h',e,r⟩,dk⟩=>by subst e;exact g h' r dk)<|λ_ _ z=>z.1
def aX.calm {K:Frag}(F:aX P w K mg base (bc P w) k f fd ps sp)
 (h:∀vs H Q E,sp0 vs H Q E->sp vs H Q (λ_ _ _=>False)):aX P w K mg base m9 k f fd ps sp0:=by
 refine⟨λvs H Q E q=>F.len vs H Q _<|h _ _ _ _ q,λA a s H b j vs Q E l i m g e=>SL (F.run A a s H b j vs Q _ l i m g<|h _ _ _ _ e) λres o c=>?_⟩;cases res with
|ok n=>
  cases n with
 |_=>exact c
|error p=>obtain⟨x,C,t,B,r,_,_,_,_,_,_,_,_,_,_,d⟩:=c;exact d
def D7:bootBuiltins "ValueError"=some (.p "ValueError"):=by decide+kernel
section
variable{X:Cx}
def Vals.i5 (r:Vals xs us){i:Nat}(h:us[i]?=y0 u):∃x,xs[i]?=y0 x/\RelV x u:=by
 have c:=r.e;have e:=(Ab3.j h).1;have hx:i<xs.e:=by lia
 obtain⟨d,a,b⟩:=r.get<|Ab2 hx;rw[h]at a;cases a;exact⟨_,Ab2 hx,b⟩
def Ol(bs:List Bool):(Ab1 bs.e).T (λi=>bs.G i y9)=bs.T id:=by
 induction bs with
|nil=>rfl
|cons b bs a=>rw[Ab6,Aj,Ah7,Vr,Ah7,←a];rfl
def OH(bs:List Bool):(Ab1 bs.e).C (λi=>bs.G i y9)=bs.C id:=by
 induction bs with
|nil=>rfl
|cons b bs a=>rw[Ab6,Aj,Af2,Vs,Af2,←a];rfl
def Nk{bs:List Bool}(r:Vals (bs.y V.bl) its):TruthOf P w A (λi v=>its.j[i]?=y0 v)<|λi=>bs.G i y9:=by
 intro i v s Q E f g;obtain⟨x,a,d⟩:=r.i5 (by simpa using f);rw[Ad]at a;cases c:bs[i]? with
|none=>rw[c]at a;cases a
|some b=>
  rw[c]at a;cases a;cases d;refine SA ?_;have e:bs.G i y9=b:=by rw[Ac9,c];rfl
  rwa [←e]
def Bk(f:Bool)(n:X.C=k9):qo X (.w<|cond f "all" "any")<|fun xs H Q=>∃p,∃bs:List Bool,xs=[.j p]/\bu X.K H p (bs.y V.bl)/\Q (.bl<|cond f (bs.T id)<|bs.C id) H:=by
 rintro c s U H xs v Q I r⟨p,bs,rfl,j,q⟩;obtain⟨u,rfl,m⟩:=xS r;cases m;obtain⟨d,rv,pl,t⟩:=I.list j;have a:=rv.e;rw[Aa4]at a;cases f
 all_goals
  first|refine call_all_walk<|S2 pl.Q ?_|refine call_any_walk<|S2 pl.Q ?_
  refine⟨s.j.j.j,_,_,_,_,_,λi=>bs.G i y9,rfl,Walks.list (A:=X.A.p) (I.p.hd n) _ p (by obtain⟨o,g,_⟩:=pl.Q;exact Ab5<|Aa9 g) d.j,⟨⟨_,Aa5 _ rfl,rfl,rfl⟩,pl.Q.at λo e=>Aa _ e⟩,Nk rv,λh tk l=>?_⟩;have k:Inv X c U H {s with heap:=h,toks:=tk}:=I.M λb o e=>l b o (by simp;exact Ab5<|Aa9 e)<|Aa _ e;refine⟨.bl _,H,k,?_,q⟩;show _=_;rw[Ab7,←a]
  first|rw[Ol]|rw[OH]
  rfl
noncomputable def gL:List Int->Int
|[]=>0
|i::r=>i+gL r
theorem JV:∀(xs)(x),gL (xs++[x])=gL xs+x
|[],x=>by simp[gL]
|y::a,x=>by show y+gL (a++[x])=y+gL a+x;rw[JV a x];lia
theorem ZF(ns:List Int):∀j,j<=ns.e->preSum (λi=>ns.G i 0) j=gL (ns.M j)
|0,_=>rfl
|j+1,h=>by rw[preSum,ZF ns j<|Ag5 ‹_›,List.take_succ,Ab2<|‹_›];show _=gL (ns.M j++[ns[j]]);rw[JV,Ac9,Ab2<|‹_›];rfl
end
section
variable{X:Cx}
theorem zo:∀{ss}{us},Vals (ss.y V.str) us->StrsAre us ss
|[],us,r=>by cases r;exact .nil
|z::ss,us,r=>by
  cases r with
|cons h t=>obtain⟨k,rfl⟩:=h;exact .cons _ _<|zo t
theorem u6:∀{us}{ss},StrsAre us ss->Vals (ss.y V.str) us
|_,_,.nil=>.p
|_,_,.cons _ _ h=>.j ⟨_,rfl⟩<|u6 h
end
section
variable{X:Cx}
noncomputable def iL(x:Str)(n:Nat):Str:=⟨(Ab n x.j).a0 (·++·) #[]⟩
theorem XX:∀n (a b:Array α),((Ab n a).a0 (·++·) b).p=b.p++(Ab n a.p).Z
|0,a,b=>by simp
|n+1,a,b=>by rw[Ad0,Ah5,XX n,Ad0,Aj1];simp
def ZD(x)(n):(iL x n).j.p=(Ab n x.j.p).Z:=by unfold iL;rw[XX];simp
def El(x)(n):(iL x n).e=x.e*n:=by show(iL x n).j.j=x.j.j*n;rw[←Ag4,ZD];simp[Yn]
def vF{a b:Str}(h:a.j.p=b.j.p):a=b:=by cases a;cases b;simp[Str.mk.injEq];exact Ah.j h
def Dc:bB X (binaryOp .Mult)<|λx y H Q=>∃z k,x=.o z/\y=.u k/\0<=k/\k<=1000/\z.e*k.j<=1000000/\Q (.o<|iL z k.j) H:=by
 rintro pins s U H x y v u Q I rx ry⟨z,k,rfl,rfl,h0,h1,hl,q⟩;obtain⟨t,rfl⟩:=rx;obtain⟨t',rfl⟩:=ry;have hsz:(iL z k.j).e<=sizeLine:=by rw[El];exact Ac hl Y7
 refine P.mul_str (by
  have a:¬k< -(2^63:Int):=by lia
  have b:¬k>=2^63:=by lia
  rw[FS a,FS b];rfl) (λc1 c2=>?_) (λc1 c2=>?_) ?_
 .have hk:=‹_›;have:(2:Int)^63-1>=(z.e:Int)*k:=by
   have e:((z.e*k.j:Nat):Int)=(z.e:Int)*k:=by rw[V5,Va h0]
   have:=hl;lia
  have:=Int.le_ediv_of_mul_le (c:=k) (by omega)<|‹_›;lia
 .unfold Builtin.Str.tooLong
  exact FS<|by have:sizeLine>=1000000:=by decide
               lia
 .by_cases c1:k<1
  .have hk:k=0:=by lia
   subst hk;rw[Fk c1];exact⟨by decide,.o _,H,I.M λb o e=>e,⟨_,rfl⟩,q⟩
  .rw[FB c1];by_cases c2:(k==1||z.e==0)=k9
   .rw[Fk c2];have e:iL z k.j=z:=by
     apply vF;rw[ZD];obtain c|c:=Aj5.j c2
     .have:k=1:=by simpa using c
      subst this;simp
     .have:z.j.p=[]:=by
       have c:z.e=0:=by simpa using c
       have c:z.j.j=0:=c;rw[←Ag4]at c;exact Ah0 c
      rw[this];simp
    rw[e]at q;exact⟨.o z,H,I,⟨t,rfl⟩,q⟩
   .rw[FB c2];exact⟨hsz,.o _,H,I.M λb o e=>e,⟨_,rfl⟩,q⟩
def Pp:bB X (binaryOp .Add)<|λx y H Q=>∃a b ys,x=.j a/\y=.j b/\dj X.K H a []/\dj X.K H b ys/\Q (.j b) H:=by
 rintro j s U H x y v u Q I C o⟨a,b,ys,rfl,rfl,F,A,q⟩;cases C;cases o;obtain⟨D,w,r,_⟩:=I.tuple F;obtain⟨d,G,t,_⟩:=I.tuple A;cases w;obtain⟨⟨cls,dd,l,B⟩,k,E,n,z⟩:=id r;obtain⟨⟨m,i,g,h⟩,c,e,p,f⟩:=id t;subst E z e f;exact T8 ⟨_,k,rfl⟩ ⟨_,c,rfl⟩ T9 UV Tt Tq (To _ _)
  (tuple_addW0 a b _ d.j n p dd i B h rfl) ⟨k,c,.j b,H,I,rfl,q⟩
def NY(D:X.C=k9):qo X (.w "sum")<|fun xs H Q=>∃p,∃ns:List Int,xs=[.j p]/\bu X.K H p (ns.y V.int)/\Q (.u<|gL ns) H:=by
 rintro d s U H xs F Q I r⟨p,ns,rfl,w,q⟩;obtain⟨u,rfl,C⟩:=xS r;cases C;obtain⟨j,rv,pl,E⟩:=I.list w;have a:=rv.e;rw[Aa4]at a;refine call_sum_walkG<|S2 pl.Q ?_;have h:p<s.j.j.j:=by obtain⟨o,l,_⟩:=pl.Q;exact Aa9 l
 have f:s.j.j.j<(s.j.w {cls:=.p "list_iterator",data:=.p #[.j p,.u 0 0]}).j.j:=Heap.lt_size<|Aa5 _ rfl;refine⟨s.j.j.j,_,_,_,_,_,λi=>ns.G i 0,rfl,Walks.list (A:=X.A.p) (I.p.hd D) _ p (Ab5 h) j.j,⟨⟨_,Aa5 _ rfl,rfl,rfl⟩,pl.Q.at λo e=>Aa _ e⟩,λb c=>?_,λi v n=>?_,λm tk k B=>?_⟩
 .simp[SJ]at c;obtain rfl|rfl:=c
  .exact f
  .exact Vt h f
 .obtain⟨x,g,y⟩:=rv.i5 (by simpa using n);rw[Ad]at g;cases c:ns[i]? with
|none=>rw[c]at g;cases g
|some b=>rw[c]at g;cases g;obtain⟨t,rfl⟩:=y;exact⟨t,by show Value.int b t=Value.int (ns.G i 0) t;rw[Ac9,c];rfl⟩
 .have z:Inv X d U H {s with heap:=m,toks:=tk}:=I.M λb o e=>B b o (by simp;exact Ab5<|Aa9 e)<|Aa _ e;refine⟨.u _,H,z,⟨k,?_⟩,q⟩;rw[Ab7,←a,ZF ns _<|Aa3 _,An]
theorem jL:∀{ns}{j},Vals (ns.y V.int) j->∃ps:List<|Int×Tok,j=ps.y (λp=>.u p.1 p.2)/\ps.y (·.1)=ns
|[],j,r=>by cases r;exact⟨[],rfl,rfl⟩
|n::ns,j,r=>by
  cases r with
|cons h t=>obtain⟨k,rfl⟩:=h;obtain⟨ps,a,b⟩:=jL t;exact⟨(n,k)::ps,by rw[a];rfl,by rw[←b];rfl⟩
noncomputable def JH(f:Int->Int->Bool):List Int->Int->Int
|[],a=>a
|b::r,a=>JH f r<|if f b a then b else a
theorem JS(f):∀l b a,JH f (l++[b]) a=if f b (JH f l a)then b else JH f l a
|[],b,a=>rfl
|c::l,b,a=>by show JH f (l++[b]) _=_;rw[JS f l b];rfl
theorem tj(f)(val:Nat->Int):∀n,val (argBest (λi j=>f (val i)<|val j) n)=JH f ((Ab1 n).y λi=>val<|i+1) (val 0)
|0=>rfl
|n+1=>by
  have a:=tj f val n;rw[Al0,Ae8,Ac3,Al2,JS,←a,argBest];by_cases q:f (val<|n+1) (val<|argBest (λi j=>f (val i)<|val j) n)=k9
  .simp only[q,Os]
  .simp only[q,S5,Am5]
def EV{ps:List<|Int×Tok}(e:ps.y (·.1)=n::ns)(f)
 (h:(intItems ps.j)[argBest (λi j=>f (numAt ps.j i)<|numAt ps.j j) (ps.j.j-1)]?=y0 v):∃t,v=.u (JH f ns n) t:=by
 obtain⟨t,rfl⟩:=intItems_at h;refine⟨t,?_⟩;rw[tj f<|numAt ps.j];have d:=by have:=congrArg List.length e;simpa using this
 have c:∀i,numAt ps.j i=(n::ns).G i 0:=λi=>by
  rw[←e,Ac9,Ad];unfold numAt;rw[Al3]
  all_goals (cases ps[i]?)
 have g:(Ab1<|ps.j.j-1).y (λi=>numAt ps.j<|i+1)=ns:=by
  rw[Ab7,d,Nat.add_sub_cancel];apply VV
  .simp
  .intro i a b;simp only[An0,Vu,c];rw[Ac9,List.getElem?_cons_succ,Ab2 b];rfl
 rw[g,c 0];rfl
def RY(l:X.C=k9):qo X (.w "min")<|fun xs H Q=>∃p n,∃ns:List Int,xs=[.j p]/\bu X.K H p ((n::ns).y V.int)/\Q (.u<|JH (fun a b=>decide<|a<b) ns n) H:=by
 rintro c s U H xs w Q I r⟨p,n,ns,rfl,g,q⟩;obtain⟨u,rfl,j⟩:=xS r;cases j;obtain⟨k,rv,pl,o⟩:=I.list g;obtain⟨d,rfl,i⟩:=jL rv;refine min_intList (I.p.hd l) (by
   have e:intItems d.j=(d.y λp=>Value.int p.1 p.2).j:=by simp[intItems]
   rw[e];exact pl.Q) (by grind) λv m tk f h=>?_
 obtain⟨t,rfl⟩:=EV i (λa b=>decide _) f;exact⟨.u _,H,I.M h,⟨t,rfl⟩,q⟩
def jB(lo)(d n)(a:d<=n):(match lo with|none=>(d:Int)|some i=>max 0<|min (if i<0 then i+n else i) n)=((HT.aS n d lo:Nat):Int)/\HT.aS n d lo<=n:=by
 cases lo with
|none=>exact⟨rfl,a⟩
|some i=>
  by_cases q:i<0
  .simp[HT.aS,q,Os];lia
  .simp[HT.aS,q,S5];lia
def xV(x:Str)(a hi:Option Int):Builtin.Str.strSliceIndices a hi 1 x.e=(Ab1<|HT.aS x.e x.e hi-HT.aS x.e 0 a).y λk=>HT.aS x.e 0 a+k:=by
 have e:Builtin.Str.strSliceIndices a hi 1 x.e=sliceRange ((HT.aS x.e 0 a)) ((HT.aS x.e x.e hi)) 1:=by rw[←(jB a 0 x.e<|Ag _).1,←(jB hi x.e x.e<|Aa3 _).1];cases a<;>cases hi<;>rfl
 rw[e];unfold sliceRange;simp only[show(1:Int)>0 by decide,Os,Yl,Yr];have b:(if((HT.aS x.e 0 a))<((HT.aS x.e x.e hi:Nat):Int)then((HT.aS x.e x.e hi))-((HT.aS x.e 0 a:Nat):Int)+1-1 else 0).j=HT.aS x.e x.e hi-HT.aS x.e 0 a:=by split<;>lia
 rw[b];refine Vb λk _=>?_;exact VW _
noncomputable def lP(x:Str)(a hi:Option Int):Str:=⟨((x.j.p.L<|HT.aS x.e 0 a).M<|HT.aS x.e x.e hi-HT.aS x.e 0 a).j⟩
def Rw(x)(lo hi):Txt.slice x lo hi=lP x lo hi:=by
 have c:=(jB lo 0 x.e<|Ag _).2;have a:=(jB hi x.e x.e<|Aa3 _).2;by_cases q:HT.aS x.e 0 lo<=HT.aS x.e x.e hi
 .have e:=StrLaws.sliceText_nat x q a;rw[show lP x lo hi=⟨((x.j.p.L _).M _).j⟩from rfl,←e];unfold Txt.slice StrLaws.sliceText;rw[xV x lo hi,StrLaws.strSliceIndices_plain q a]
 .have b:HT.aS x.e x.e hi-HT.aS x.e 0 lo=0:=by lia
  unfold Txt.slice lP;rw[xV x lo hi,b,FB<|by simp;lia];simp
def oG:V->Option Int->Option Int->Hp->VK->Prop:=λx lo hi H Q=>∃z,x=.o z/\z.e<=sizeLine/\Q (.o<|lP z lo hi) H
def rb:gH X oG:=by
 rintro a s U H x v m p f g n Q I j c pl h⟨z,rfl,i,q⟩;obtain⟨t,rfl⟩:=j;refine⟨"str",_,F.slot_str_getitem.p,Tb _ _ _,?_⟩;have fin:∀t' k,EP X a U Q (.o (Txt.slice z f g) t') {s with toks:=k}:=λt' k=>by rw[Rw];exact⟨.o _,H,I.M (t':=k) λb o e=>e,⟨_,rfl⟩,q⟩
 have d:(Txt.slice z f g).e<=sizeLine:=Ac (Txt.slice_le z _ _) i;cases pl<;>cases h
 .exact S7 (l:=u0) (u:=u0) (st:=u0) c rfl<|TK ⟨d,fin⟩
 .exact S7 (l:=u0) (u:=y0 (_,_)) (st:=u0) c rfl<|TK ⟨d,fin⟩
 .exact S7 (l:=y0 (_,_)) (u:=u0) (st:=u0) c rfl<|TK ⟨d,fin⟩
 .exact S7 (l:=y0 (_,_)) (u:=y0 (_,_)) (st:=u0) c rfl<|TK ⟨d,fin⟩
theorem zM:∀{ss}{j},Vals (ss.y V.str) j->∃ps:List<|Str×Tok,j=strValues ps/\ps.y (·.1)=ss
|[],j,r=>by cases r;exact⟨[],rfl,rfl⟩
|n::c,j,r=>by
  cases r with
|cons h t=>obtain⟨k,rfl⟩:=h;obtain⟨ps,a,b⟩:=zM t;exact⟨(n,k)::ps,by rw[a];rfl,by rw[←b];rfl⟩
def FY(K:Aa1):V->List V->Hp->VK->Prop:=λx vs H Q=>∃z p,∃ss:List Str,x=.o z/\vs=[.j p]/\bu K H p (ss.y V.str)/\JoinOk z ss=k9/\Q (.o<|Str.join z ss) H
def Fe:fc X "str.join"<|FY X.K:=by rintro c s U H x r v w Q I j rv⟨z,p,g,rfl,rfl,h,a,q⟩;obtain⟨t,rfl⟩:=j;obtain⟨u,rfl,f⟩:=rv.one;cases f;obtain⟨l,rv,pl,m⟩:=I.list h;obtain⟨n,rfl,i⟩:=zM rv;refine SC.join pl.Q i a λd k=>⟨.o _,H,I.M λb o e=>e,⟨d,?_⟩,q⟩;show Value.str (Builtin.Str.glued z g) d=_;rw[StrLaws.glued_eq_join]
end
open PySem PySem.Spec PyProof.Rows PySem.MeetsSeq
section
variable{X:Cx}
def OS{e:Nat->Bool}(l:IsTup s.j a y8)
 (o:∀i y,y8[i]?=y0 y->PySem.SeqAt.EqAt A.p s y x (e i))(t:j<y8.j)(f:e j=k9)(g:∀i,i<j->e i=y9)(h:∀t',Q (.u (j:Int) t') {s with toks:=s.p+1}):
 wpAny (model prog w) A (call (.w "tuple.index") [.j a,x]) Q E s:=by
 refine SF F.slot_tuple_index l.Y F.entry_tuple_index (AC<|Tf (show PySem.selfAndSome "tuple.index" "index" 1 3 ⟨[.j a,x],[]⟩=pure (Value.ref a,[x])from rfl)<|AC<|UW l<|AC<|Do<|AC<|Do<|AC ?_)<|F.args_tuple_index_2 _ _;rw[Yo,Std.Legacy.Range.forIn_eq_forIn_range'];refine wpAny_forIn_list _ (λrest b d=>d=s/\b=(u0,())/\∃i,i<=j/\rest=Ak3 i (y8.j-i)) _ ?_ ?_ _ _ ⟨rfl,rfl,0,Ag _,by simp⟩
 .rintro i rest b d ⟨rfl,rfl,i0,p,c⟩;have k:y8.j-i0=(y8.j-(i0+1))+1:=by lia
  rw[k,Ai]at c;injection c with r n
  subst r;have m:i<y8.j:=PP ‹_› ‹_›;rw[T5 m];refine AC<|o i y8[i] (T5 m) prog w _ _ ?_;by_cases q:i=j
  .subst q;rw[f,Fk rfl];exact AC<|AC<|wpAny_mkInt<|Do<|Do<|Do ⟨_,rfl,h _⟩
  .rw[g i Y8,FB Ab0];exact Do ⟨rfl,rfl,i+1,by lia,n⟩
 .rintro b d ⟨rfl,rfl,i0,p,c⟩;have k:y8.j-i0=(y8.j-(i0+1))+1:=by lia
  rw[k,Ai]at c;cases c
def tf(K:PySem.W.Frag)(H:Hp)(a:Addr):Prop:=(∃xs,H a=some (.tup xs))\/∃o,K.p a=some o/\o.w=.p "tuple"/\o.p=none
def B4:lO X "tuple"<|fun x H=>∃a,x=.j a/\tf X.K H a:=by
 intro f s U H x v I r h;obtain⟨a,rfl,h⟩:=h;cases r;obtain⟨l,h⟩|⟨o,g,k,i⟩:=h
 .obtain⟨_,j,_,o,e,c,d,n,dt⟩:=I.aF a _ h;refine⟨⟨o,e,c⟩,λb z=>?_⟩;cases z;exact⟨o,e,d⟩
 .refine⟨⟨o,I.bg a o g,k⟩,λb z=>?_⟩;cases z;exact⟨o,I.bg _ o g,i⟩
def qM:lO X "str"<|fun x _=>∃z,x=.o z:=by rintro a s U H x v I r⟨z,rfl⟩;obtain⟨t,rfl⟩:=r;exact⟨Tb s z t,λ_ e=>nomatch e⟩
def Fl:lO X "list"<|fun x H=>∃a xs,x=.j a/\bu X.K H a xs:=by intro d s U H x v I r h;obtain⟨a,xs,rfl,h⟩:=h;cases r;obtain⟨g,_,pl,_⟩:=I.list h;refine⟨pl.Q.typeIs,λb e=>?_⟩;cases e;obtain⟨o,n,e,c,f,_⟩:=pl;exact⟨o,e,f⟩
noncomputable def lA(x:Str):List Str->Option Nat
|[]=>u0
|y::ys=>if y=x then y0 0 else(lA x ys).y (·+1)
theorem tw:∀{ss}{j},lA x ss=y0 j->j<ss.e/\ss[j]?=y0 x/\∀i,i<j->∀y,ss[i]?=y0 y->y≠x
|[],_,h=>by cases h
|y::g,j,h=>by
  unfold lA at h;split at h
  .rename_i q;cases h;exact⟨Nat.zero_lt_succ _,by simp[q],λi b=>absurd b<|Ai6 _⟩
  .rename_i q;obtain⟨k,e,rfl⟩:=Ac6.j h;obtain⟨c,f,d⟩:=tw e;refine⟨Nat.succ_lt_succ c,by simpa using f,λi b z a=>?_⟩;cases i with
|zero=>simp at a;rw[←a];exact q
|succ i=>exact d i (S3 ‹_›) z<|by simpa using a
def PN(K:Aa1):V->List V->Hp->VK->Prop:=λx vs H Q=>∃a z j,∃ss:List Str,x=.j a/\vs=[.o z]/\dj K H a (ss.y V.str)/\lA z ss=y0 j/\Q (.u (j:Nat)) H
def Fd:fc X "tuple.index"<|PN X.K:=by
 rintro l s U H x M v O Q I K rv⟨a,z,j,g,rfl,rfl,D,J,q⟩;cases K;obtain⟨u,rfl,B⟩:=rv.one;obtain⟨t,rfl⟩:=B;obtain⟨k,r,p,L⟩:=I.tuple D;obtain⟨P,F,C⟩:=tw J;have m:=r.e;have look:∀(i:Nat) y,k.j[i]?=y0 y->∃w d,g[i]?=y0 w/\y=Value.str w d:=λi y hy=>by
  obtain⟨N,f,h⟩:=r.i5 (by simpa using hy);rw[Ad]at f;cases n:g[i]? with
|none=>rw[n]at f;cases f
|some b=>rw[n]at f;cases f;obtain⟨d,rfl⟩:=h;exact⟨b,d,rfl,rfl⟩
 refine OS (e:=λi=>u9<|g[i]?=y0 z) p (λi y hy=>?_) (by simp_all) (On F) (λi G=>?_) λd=>⟨.u j,H,I.M λb o e=>e,⟨d,rfl⟩,q⟩
 .obtain⟨w,d,e,rfl⟩:=look i y hy;have:=PySem.SeqAt.EqAt.str_str (A:=X.A.p) (s:=s) w d z t;have h:u9 (g[i]?=y0 z)=(w==z):=by
   rw[e];by_cases q:w=z
   .subst q;simp
   .simp[q]
  rwa [h]
 .have E:=‹_›;exact FS λc=>C i G z c rfl
end
section
variable{prog:Program}{w:World}{A:Around}{E:Value->Shared->Prop}{s:Shared}
def bR(a:s.j.G it t i)(g:s.j.K t y8)(j:y8[i]?=y0 x)
 (f:∀h',h'.G it t (i+1)->Af5 it s.j h'->Q x {s with heap:=h'}):wpAny (model prog w) A (Builtin.SmallTypes.nextOf<|.j it) Q E s:=by
 obtain⟨o,c,h,b⟩:=id a;obtain⟨k,d,_,l,e⟩:=g;refine AC<|SE a.typeIs S0
 <|SF S0 a.typeIs TX ?_<|TR _
 show wpAny _ _ (field _ 0>>=_) _ _ s;refine AC<|Re c b rfl<|AC<|Re c b rfl<|AC<|SS d e ?_;simp[j];refine AC<|TU c b Y9<|Do ⟨x,rfl,Do<|f _ ?_<|Af5.update ..⟩;exact⟨_,Ad1 _ c<|UG<|Tp b _,(Obj.cls_mapFields ..).x h,by rw[Tp b];simp[rawInt]⟩
def b7(g:A.j=u0)(a:s.j.G it t i)(h:s.j.K t y8)(j:y8[i]?=u0)
 (k:∀h' e,Heap.ExtBut it s.j h'->(∃o,h'.p e=y0 o/\o.w=.p "StopIteration")->E (.j e) {s with heap:=h'}):wpAny (model prog w) A (Builtin.SmallTypes.nextOf<|.j it) Q E s:=by
 obtain⟨o,f,l,c⟩:=id a;obtain⟨m,b,_,n,d⟩:=h;refine AC<|SE a.typeIs S0
 <|SF S0 a.typeIs TX ?_<|TR _
 show wpAny _ _ (field _ 0>>=_) _ _ s;refine AC<|Re f c rfl<|AC<|Re f c rfl<|AC<|SS b d ?_;simp[j];refine AC<|UO<|AC<|TU f c Y9<|AC<|AC<|S1 (AC<|Tf (by first|rfl|(simp[firstArgMember]))<|S1 (AC<|wpAny_handled ?_)<|by size_fits)<|by size_fits
 first|rw[show A.p.j=u0 from g]|rw[g]
 exact AC<|Do<|VO<|k _ _ (((Af5.update ..).A.push _).push _) ⟨_,Aa5 _ rfl,rfl⟩
def Lz(g:A.j=u0)(it t)(y8)(b:t≠it):Draws prog w A it [it,t] y8.j (λi x=>y8[i]?=y0 x)<|λi h=>h.G it t i/\h.K t y8 where
 live:=λi h a=>let⟨o,e,_⟩:=a.1;⟨o,e⟩
 frame:=λi h d a k=>⟨let⟨o,e,r⟩:=a.1;⟨o,k it Y9 o e,r⟩,let⟨o,e,r⟩:=a.2;⟨o,k t Y9 o e,r⟩⟩
 item:=λi s Q E f a l=>bR a.1 a.2 (x:=y8[i]) (by simp[f]) λd c sb=>l _ d s.p (by simp[f]) ⟨c,a.2.extBut sb.A b⟩ sb
 done:=λs Q E a j=>b7 g a.1 a.2 Y9 j
open PySem.AutoSeq1 (wpAny_loadPart') in
set_option tactic.hygienic true in
theorem Jo(l:Addr)(a:Array Value)(n:Nat)(e:Option Addr)(j:Array<|Option Value):
 Meets (Builtin.«enumerate.__new__» ⟨[.p "enumerate",.j l],[]⟩)<|fun _ R s=>s.j.p l=some {cls:=.p "tuple",dict:=e,data:=.j a n,slots:=j}∧
  R (.ok<|.j<|.j (s.j.w {cls:=.p "tuple_iterator",data:=.p #[.j l,.u 0 0]}).j.j)
   {s with heap:=(s.j.w {cls:=.p "tuple_iterator",data:=.p #[.j l,.u 0 0]}).w {cls:=.p "enumerate",data:=.p #[.y,.B false,.j s.j.j.j,rawInt 0,.y,.y]}}:=
 .of_wp λprog w A R s h=>by
  obtain⟨m,g,d,tk,k⟩:=s;obtain⟨b,h⟩:=h;have i:=sub_enumerate;have f:Heap.IsTuple _ l a:=⟨_,b,rfl,n,rfl⟩
  wp_walk using TM b
  refine wpAny_stack_any λo=>Do ?_;split
  .rename_i c _ _ _ _ _;cases(c==Value.type "enumerate")
   .wp_walk using TM b,Td f
    exact⟨_,rfl,h⟩
   .wp_walk using TM b,Td f
    exact⟨_,rfl,h⟩
  .wp_walk using TM b,Td f
   exact⟨_,rfl,h⟩
def qu(k:s.j.K l y8)
 (h:∀h',IsEnum h' (s.j.j.j+1) s.j.j.j 0 .y->h'.G s.j.j.j l 0->h'.j.j=s.j.j.j+2→
   (∀b o,s.j.p b=y0 o->h'.p b=y0 o)->Q (.j<|s.j.j.j+1) {s with heap:=h'}):
 wpAny (model prog w) A (call (.p "enumerate") [.j l]) Q E s:=by
 obtain⟨⟨c,a,dt,g⟩,f,i,n,j⟩:=k;subst i j;refine callType_new F.called_enumerate rfl (F.typeCall_enumerate_1 _) (F.newCall_enumerate_1 _) (λobj=>F.args_object_init_2 obj _) F.entry_enumerate_new
  (Jo l y8 n a g) ⟨f,?_⟩
 have e:(s.j.w {cls:=.p "tuple_iterator",data:=.p #[.j l,.u 0 0]}).j.j=s.j.j.j+1:=Ad6 ..;rw[e];have d:IsEnum ((s.j.w {cls:=.p "tuple_iterator",data:=.p #[.j l,.u 0 0]}).w
  {cls:=.p "enumerate",data:=.p #[.y,.B false,.j s.j.j.j,rawInt 0,.y,.y]}) (s.j.j.j+1) s.j.j.j 0 .y:=by
  have:=Aa5 (s.j.w {cls:=.p "tuple_iterator",data:=.p #[.j l,.u 0 0]})
   (o:={cls:=.p "enumerate",data:=.p #[.y,.B false,.j s.j.j.j,rawInt 0,.y,.y]}) rfl
  rw[e]at this;exact this
 refine⟨⟨_,d,rfl⟩,h _ d ⟨_,Aa _<|Aa5 _ rfl,rfl,rfl⟩ Y9 λb o x=>Aa _<|Aa _ x⟩
end
def XH:bootBuiltins "enumerate"=some (.p "enumerate"):=by decide+kernel
def FH(h:ItemsOf (λi v=>∃t,v=Value.int (0+(i:Int)*1) t) acc n):Vals ((Ab1 n).y λ(i:Nat)=>V.int (i:Int)) acc.p:=by
 have c:∀a k m,a.e=m->(∀j v,a[j]?=y0 v->∃t,v=Value.int (k+j:Nat) t)->Vals ((Ak3 k m).y λ(i:Nat)=>V.int i) a:=by
  intro a;induction a with
|nil=>intro k m b _;cases b;exact .p
|cons x a d=>intro k m b hx;cases b;refine .j (hx 0 x rfl)<|d _ _ rfl λj v f=>?_;obtain⟨t,e⟩:=hx (j+1) v (by simp_all);exact⟨t,by rw[e];congr 1;lia⟩
 rw[List.range_eq_range'];refine c acc.p 0 n (by rw[Ag4];exact h.1) λj v f=>?_;obtain⟨t,e⟩:=h.2 j v (by simp_all);exact⟨t,by rw[e];congr 1;lia⟩
section
variable{X:Cx}
def Mh:bootBuiltins "range"=some (.p "range"):=by decide+kernel
end
def zC{d hi:Option Int}(a:IsTup s.j t vs)(e:s.j.IsSliceOf sl vl vu .y)(pl:IsPart vl d)(i:IsPart vu hi)
 (j:HT.aS vs.j 0 d=0)(h1:HT.aS vs.j vs.j hi=vs.j)(h:Q (.j t) s):wpAny (model prog w) A (getItem (.j t)<|.j sl) Q E s:=by
 obtain⟨g,c,b,f⟩:=id e;unfold getItem
 try with_reducible refine IR ?_
 refine AC<|T4 a.Y rfl<|AC<|SE a.Y SU
 <|SF SU a.Y PyProof.Rows.entry_tuple_getitem ?_<|PyProof.Rows.args_tuple_getitem _ _
 show wpAny _ _ (Builtin.Tuple.tupleItemsOf _>>=_) _ _ s;refine AC<|UW a<|AC<|Ua (⟨g,c,b⟩)<|AC<|HT.bH e pl i ?_;show wpAny _ _ (if _=k9 then _ else _) _ _ s;rw[Fk<|by simp_all];exact AC<|AC<|Ua a.Y<|Do<|AC<|UO<|Do ⟨_,rfl,Do h⟩
section
variable{X:Cx}
def oF(K:Aa1):V->Option Int->Option Int->Hp->VK->Prop:=λx lo hi H Q=>∃a xs,x=.j a/\dj K H a xs/\HT.aS xs.e 0 lo=0/\HT.aS xs.e xs.e hi=xs.e/\Q (.j a) H
def LC:gH X<|oF X.K:=by
 rintro d s U H x v k t l n p Q I i h pl g⟨a,f,rfl,hx,m,o,q⟩;cases i;obtain⟨c,r,e,j⟩:=I.tuple hx;have b:c.j.j=f.e:=by rw[Ab7];exact r.e.I
 exact⟨"tuple",_,PyProof.Rows.slot_tuple_getitem.p,e.Y,zC e h pl g (by rwa [b]) (by rwa [b]) ⟨.j a,H,I,rfl,q⟩⟩
end
end Lake
namespace PyProof.Rows
open PySem PySem.Spec
section
variable{prog:Program}{w:World}{A:Around}{E:Value->Shared->Prop}{s:Shared}
def zY{l:Addr}{vs:List Value}{Q:List Value->Shared->Prop}(b:s.j.K l vs.j)
 (h:Q vs {s with heap:=(s.j.w<|seqObj "list" #[] 0).B s.j.j.j (Obj.mapSeq (·++vs.j))})(hsz:vs.e<=sizeLine:=by size_fits):
 wpAny (model prog w) A (collect<|.j l) Q E s:=by
 obtain⟨o,e,c,n,d⟩:=id b;refine AC<|UH<|SM entry_proto_collect'<|AC<|UY<|Do ⟨Tc _<|by decide+kernel,SM entry_list_iadd' ?_⟩;show wpAny _ _ (Builtin.List.listExtendWith _ _ _) _ _ {s with heap:=s.j.w _};have a:(s.j.w<|seqObj "list" #[] 0).p l=some o:=Aa _ e;refine AC<|Ua ⟨o,a,c⟩ ?_;have f:(Value.type "tuple"==Value.type "tuple")=true:=by rfl
 rw[Fk Y9];refine AC<|listItems_at a d<|AC<|listItems_at (Aa5 _ rfl) rfl ?_;refine AC<|listUpdate_at (Aa5 _ rfl) rfl ?_ (Ag _) (by grind);refine Do<|AC<|wpAny_load (V6 (Aa5 _ rfl) _) ?_;show wpAny _ _ (pure (_++vs.j).p) Q E _;rw[show(_++vs.j).p=vs by simp];exact Do h
end
end PyProof.Rows
namespace Lake
open PySem PySem.Spec PyProof.Rows
section
variable{X:Cx}
def RT:bootBuiltins "list"=some (.p "list"):=by decide+kernel
def Cs(a:TA):TE:=λU H Q=>a U H λvs H1=>∃n:Nat,vs=[.int (n:Int)]/\n<=1000/\∀l,H1 l=u0->Q (.ref l) (ax H1 l<|.lst<|(Ab1 n).y λ(i:Nat)=>V.int (i:Int))
def D2(E:X.calm=true)(C:Gl X "list")(v:X.mg "list"=none)(j:Gl X "range")(k:X.mg "range"=none)(F:PA X [a] ta)(x:starEach [a] X.env=[(false,eval a X.env)]):
 PE X (.w (.p "list" p) [.w (.p "range" p2) [a] [] pos2] [] pos)<|Cs ta:=by
 intro c s U H Q I h;refine Call_<|Zm I C v RT<|P3 (Tn<|Call_<|Zm I j k Mh<|P3 (aD (F pos2 c s U H _ I h) ?_) x rfl) rfl rfl;rintro M m⟨J,K,i,y,D⟩;obtain⟨n,e,L,q⟩:=D;subst e;cases y with
|cons r w=>
  cases w;obtain⟨t,rfl⟩:=r;refine call_range_1<|Ts ?_;have l:Builtin.Range.rangeSize 0 n 1=n:=by unfold Builtin.Range.rangeSize;simp;lia
  refine call_list_range (i.ok.hd E) (IsRange.new ..) (small_one Y7 Y7 (SK _) Y8) l (ZAA) λG tk g A B u d=>?_;have f:∀o:Obj,m.j.j.j<=(m.j.w o).j.j:=λo=>by rw[Ad6];exact Ad5 _
  refine⟨.ref _,_,i.laid (o:=.lst _) (λb o z=>B b o<|Aa _ z) (f _) ⟨by rw[Aa4,VG,SW];exact ZAA,g.p,A,(FH d),by simpa using u⟩,rfl,q _<|i.aF.fresh<|f _⟩
end
section
variable{X:Cx}{pins:List<|Addr×Obj}{U:St}{H:Hp}{s:Shared}{h':Heap}
def Inv.cc {ch:List Addr}(I:Inv X pins U H s)(k:∀b o,b∉ch->s.j.p b=y0 o->h'.p b=y0 o)(a:∀b∈ch,bt X pins H b):Inv X pins U H {s with heap:=h',toks:=t'}:=I.dN k λb e=>let⟨d,c,_,f⟩:=a b e;⟨d,c,f⟩
end
def OU:bootBuiltins "zip"=some (.p "zip"):=by decide+kernel
end Lake
set_option maxHeartbeats 8000000
namespace Lake
open Lake renaming V.str->Lake.V.o,V.ref->Lake.V.j,V.int->Lake.V.u,Cx.prog->Lake.Cx.p,Inv.base->Lake.Inv.y,Inv.tok->Lake.Inv.X
open PySem PySem.Spec PyProof.Rows
open Sem (wp)
section
def yY(I:Inv X pins U H s):sysModules<s.j.j.j:=by exact Vt Y7<|(I.mod.glob.keeps I.bk).lt
end
open PySem PySem.Spec PyProof.Rows PyProof.Rows.KTD PyProof.V
section
variable{X:Cx}{pins:List<|Addr×Obj}{U:St}{H:Hp}{s:Shared}
noncomputable def n3:V->Option Str
|.o x=>y0 x
|.u i=>if i.p.log2<1920 then y0 (Str.ofString<|toString i)else u0
|_=>u0
def iM(U:St):List (Str⊕Nat)->Option Str
|[]=>y0 Str.empty
|.p x::ps=>(iM U ps).y (x++·)
|.w i::ps=>(((U[i]?).j id).j n3).j λx=>(iM U ps).y (x++·)
def Ea(X:Cx):(Str⊕Nat)->Expr->Prop
|.p x,e=>∃j p,e=.y (.o x) j p
|.w i,e=>∃x p q,e=.FormattedValue (.p x p) (-1) none q/\X.N[i]?=some x/\lH X.env.p x/\(x==("__debug__":Str))=false/\(x==("__classdict__":Str))=false
def qN(X:Cx):List (Str⊕Nat)->List Expr->Prop
|[],es=>es=[]
|p::ps,es=>∃e r,es=e::r/\Ea X p e/\qN X ps r
def wV(a b c:Str):a++(b++c)=a++b++c:=congrArg Str.mk (Array.append_assoc ..).I
def Ru(a):a++Str.empty=a:=congrArg Str.mk<|Array.append_empty ..
def OA(a):Str.empty++a=a:=congrArg Str.mk<|Array.empty_append ..
theorem zP:∀(ps)(es)(O t)(s)(Q),qN X ps es->iM U ps=y0 t->(O++t).e<=sizeLine->Inv X pins U H s->(∀s',Inv X pins U H s'->Q (O++t) s')→
 Joins (model X.p X.w) X.A X.xe (evalEach es X.env) O Q s
|[],es,O,t,s,Q,ok,e,a,I,q=>by
  cases ok;cases e;have:=q s I
  rwa [Ru]at this
|.p x::ps,es,O,t,s,Q,ok,e,a,I,q=>by obtain⟨_,r,rfl,⟨j,p,rfl⟩,ok⟩:=ok;obtain⟨c,l,rfl⟩:=Ac6.j e;have m:=wV O x c;rw[m]at a q;refine Vl ⟨x,_,rfl,?_,zP ps r (O++x) c _ Q ok l a (I.X _) q⟩;have:=UZ (O++x) c;lia
|.w i::ps,es,O,t,s,Q,ok,e,a,I,q=>by
  obtain⟨_,r,rfl,⟨x,p,T,rfl,S,C,L,h⟩,ok⟩:=ok;obtain⟨y,N,P⟩:=Ac0.j e;obtain⟨v,D,b⟩:=Ac0.j N;obtain⟨c,l,rfl⟩:=Ac6.j P;have m:=wV O y c;rw[m]at a q;have n:(O++y).e<=sizeLine:=by rw[UZ]at a;exact Ac (Tg _ _) ‹_›
  have E:y.e<=sizeLine:=by rw[UZ]at n;exact Ac (SB _ _) ‹_›
  have A:U[i]?=y0 (y0 v):=by obtain⟨o,K,G⟩:=Ac0.j D;rw[K];exact congrArg y0 G
  refine wpAny_FormattedValue_plain<|aD (zu S C L h pins s U H (λw F=>w=v/\F=H) I ⟨v,A,rfl,rfl⟩) ?_;rintro u W ⟨w,V,f,d,B,J⟩;subst B;rw[J]at f;have fin:∀tk g,Inv X pins U H g->∃k t,Value.str y tk=.o k t/\(O++k).e<=sizeLine/\Joins (model X.p X.w) X.A X.xe (evalEach r X.env) (O++k) Q g:=λtk g R=>
   ⟨y,tk,rfl,n,zP ps r (O++y) c g Q ok l a R q⟩
  cases w with
|str z=>cases b;obtain⟨tk,rfl⟩:=d;exact wpAny_formatField_str (fin _ _ f) (fin _ _<|f.X _) E
|int j=>
   obtain⟨tk,rfl⟩:=d;have b:(if j.p.log2<1920 then y0 (Str.ofString<|toString j)else u0)=y0 y:=b;split at b
   .rename_i M;cases b;exact wpAny_formatField_int M<|fin _ _<|f.X _
   .cases b
|_=>cases b
def Nu(ok:qN X ps<|c::e2::es):PE X (.JoinedStr (c::e2::es) pos)<|λU H Q=>∃t,iM U ps=y0 t/\t.e<=sizeLine/\Q (.o t) H:=by rintro a s U H Q I ⟨t,e,f,q⟩;have b:=OA t;refine wpAny_JoinedStr<|zP ps _ Str.empty t s _ ok e (by rwa [b]) I λg d=>?_;rw[b];exact⟨f,.o t,H,d.X _,⟨_,rfl⟩,q⟩
def Pn:qo X (.p "str")<|fun xs H Q=>∃i:Int,xs=[.u i]/\i.p.log2<1920/\Q (.o<|Str.ofString<|toString i) H:=by rintro a s U H xs d Q I r⟨i,rfl,c,q⟩;obtain⟨u,rfl,b⟩:=r.one;obtain⟨t,rfl⟩:=b;exact PySem.P.str_of_int c ⟨.o _,H,I.X _,⟨_,rfl⟩,q⟩
end
section
variable{X:Cx}
def NR:fc X "str.startswith"<|fun x vs H Q=>∃z y:Str,x=.o z/\vs=[.o y]/\Q (.bl<|Txt.startswith z y) H:=by rintro a s U H x vs v e Q I c rv⟨z,y,rfl,rfl,q⟩;obtain⟨t,rfl⟩:=c;obtain⟨u,rfl,b⟩:=rv.one;obtain⟨d,rfl⟩:=b;exact SC.startswith ⟨.bl _,H,I,rfl,q⟩
def Ou:qo X (.p "int")<|fun xs H Q=>∃z n,xs=[.o z]/\z.e<=640/\PySem.intText? z=some n/\Q (.u n) H:=by rintro a s U H xs e Q I r⟨z,n,rfl,b,d,q⟩;obtain⟨u,rfl,c⟩:=r.one;obtain⟨t,rfl⟩:=c;exact PySem.W.KIN.call_text d b ⟨.u n,H,I.X _,⟨_,rfl⟩,q⟩
end
open PySem PySem.Spec PySem.Calls PySem.W PyProof.Rows
def wN:List Value->Bool
|[]=>y9
|x::r=>match x with
|.j _=>wN r
|_=>x::r==mT
theorem Qn{P:List Value->Prop}(a:P mT)(h1:∀c r,P r->P (.j c::r)):∀{l},wN l=k9->P l
|[],e=>by cases e
|x::r,e=>by
  unfold wN at e;split at e
  .exact h1 _ _<|Qn a h1 e
  .rw[beq_iff_eq.j e];exact a
def QV(self)(e:wN l=k9):refuseLoop self "__setattr__" l=pure ():=
 Qn (P:=fun l=>refuseLoop self "__setattr__" l=pure ()) (PySem.F.store_ValueError.passes self) (fun c r h=>by rwa [refuseLoop_ref]) e
def W1(e:wN l=true):l.w (.p "object")=true:=
 Qn (P:=λl=>l.w _=k9) (by decide+kernel) (λc r h=>by rw[Aj9,h,Uc]) e
def ER(e:wN l=true):l.w (.p "BaseException")=true:=
 Qn (P:=λl=>l.w _=k9) (by decide+kernel) (λc r h=>by rw[Aj9,h,Uc]) e
def sI(e:wN l=k9):l.K=false:=
 Qn (P:=λl=>l.K=y9) rfl (λc r h=>rfl) e
def kN(K:Frag)(C:Addr):Bool:=(clsIn K C).any λcd=>wN cd.mro&&cd.hasDict
def vg{K:Frag}(h:kN K C=k9):∃cd,clsIn K C=y0 cd/\wN cd.mro=k9/\cd.hasDict=true:=by obtain⟨cd,b,a⟩:=VQ h;rw[Aa6]at a;exact⟨cd,b,a.1,a.2⟩
section
variable{prog:Program}{w:World}{A:Around}{E:Value->Shared->Prop}{s:Shared}{K:Frag}{x C t:Addr}{f:Str}{u:Value}
def Ii(X:K.In s.j)(j:s.j.p x=some (fV C t none))(z:kN K C=true)(B:findIn K (.j C) "__setattr__"=some (some<|.w "object.__setattr__"))(L:findIn K (.j C) f=some none)
 (h:∀h',(∀b o,b≠x->s.j.p b=y0 o->h'.p b=y0 o)->h'.p x=y0 (fV C t<|y0 s.j.j.j)->h'.Ns1 s.j.j.j (λy=>if y=f then y0 u else u0)->Q () {s with heap:=h',toks:=s.p+2}):
 wpAny (model prog w) A (setAttr (.j x) f u) Q E s:=by
 obtain⟨D,r,k,H⟩:=vg z;have I:PySem.W.InstAt s.j x _ C none:=⟨j,rfl,rfl,trivial⟩;refine VC X I B ?_;have a:=PySem.F.store_object;have sub:Looks (model prog w) s.j (isInstance _ _) true:=I.type.a5<|looks_mroIn X (by unfold mroIn;rw[r,Ah8,FB<|by rw[sI k];decide,W1 k]);have N:Looks (model prog w) s.j (mroOf<|.j C) D.mro:=(looks_clsIn X r).a5 .now;refine S4 a.slot.plain a.entry<|@check_slot _ _ _ {s with toks:=s.p+1} "object.__setattr__" "object" "__setattr__" _ [.o f s.p,u] [] _ a.kind a.split sub (a.args _ _ u) ?_;rw[osa_eq,refuse_eq];refine AC<|AC<|I.type.here (s:={s with toks:=s.p+1})<|AC<|N.here (s:={s with toks:=s.p+1}) ?_;rw[QV _ k];refine Do<|AC<|I.type.here (s:={s with toks:=s.p+1})<|AC<|(looks_findIn (M:=model prog w) X L).here (s:={s with toks:=s.p+1})<|AC<|Do ?_;have d:(s.j.w {cls:=.p "dict",data:=.dict #[]}).p x=some _:=Aa _ j;have c:=Ab5<|Aa9 j;refine AC<|Do<|AC<|AC<|wpAny_loadPart j<|AC<|PySem.W.Looks.here (U7 X r) ?_;rw[H];have l:((s.j.w {cls:=.p "dict",data:=.dict #[]}).B x fun o=>{o with dict:=some s.j.j.j}).p s.j.j.j=some {cls:=.p "dict",data:=.dict #[]}:=
  (Am3 _ _ _ _ c.I).x<|Aa5 _ rfl
 have m:((s.j.w {cls:=.p "dict",data:=.dict #[]}).B x fun o=>{o with dict:=some s.j.j.j}).Ns s.j.j.j<|fun _=>none:=
  ⟨_,#[],_,l,rfl,λe G=>absurd G Y9,λ_=>rfl⟩
 refine AC<|wpAny_alloc<|AC<|wpAny_update d<|Do<|AC<|Do<|AC<|wpAny_nsSet1 (VD m) λh' g i=>?_;obtain⟨O,v,F,q,p,n⟩:=g.count<|PySem.Within.cons f u PySem.Within.nil;refine AC<|VR q (by rw[p];exact VS<|Ac n Y9) ?_;exact Do<|h h' (λb o J e=>(i.2 b<|Ab5<|Aa9 e).x<|(Am3 _ _ _ _ J).x<|Aa _ e) ((i.2 x c).x<|Ad1 _ d rfl) g
end
abbrev jY:Frag->Addr->Bool:=mV λ_ _=>k9
section
variable{prog:Program}{w:World}{A:Around}{E:Value->Shared->Prop}{h:Heap}{g:Array GenState}{d:Drawn}{t:Nat}{os:OsState}{K:Frag}{C fI:Addr}
def ZY(h:Heap)(C:Addr)(rest:List Value):Heap:=(h.w {cls:=.p "tuple",data:=.j rest.j}).w<|fV C h.j.j none
def xv{rest:List Value}(e:h.p b=y0 o):(ZY h C rest).p b=y0 o:=Aa _<|Aa _ e
def Az{rest:List Value}:(ZY h C rest).p (h.j.j+1)=y0 (fV C h.j.j u0):=by
 have:=Aa5 (h.w {cls:=.p "tuple",data:=.j rest.j}) (o:=fV C h.j.j none) rfl
 rwa [Ad6]at this
def EF{rest:List Value}{Q:Value->Shared->Prop}(X:K.In h)(v:jY K C=true)(hi:findIn K (.j C) "__init__"=some (some<|.j fI))(q:typeIn K (.j fI)=some (.p "function"))(c:rest.e<=sizeLine)
 (k:wpAny (model prog w) (A.under<|.w "type.__call__" ⟨.j C::rest,[]⟩) (call (.j fI)<|.j (h.j.j+1)::rest) (fun r s'=>r=.y/\Q (.j<|h.j.j+1) s') E ⟨ZY h C rest,g,d,t,os⟩):
 wpAny (model prog w) A (call (.j C) rest) Q E ⟨h,g,d,t,os⟩:=by
 obtain⟨u,I,B,D,bs,m,G,sub,y,p,dd,N,z,J,P,O,a,s,-,T⟩:=Zn X v;have S:=Us<|isNs_of_in X s;have F:=TZ;have H:=tc_lookup;have L:=tc_bind<|.j C;have R:(⟨h,g,d,t,os⟩:Shared).TypeIs (.j C) "type":=⟨_,a,rfl⟩;refine SX<|V7 ?_;show wpAny _ _ (callAny (.j C) _) _ _ _
 repeat (any_goals (first|assumption|with_reducible refine SV a ?_|wp_step))
 refine⟨rfl,codeAny_call_builtin_at (Tc _<|by decide+kernel) entry_typeCall<|wpAny_check_type_call_sub a ?_⟩
 repeat (first|with_reducible refine SV a ?_|with_reducible refine wpAny_madeBy_exc a ?_|wp_step)
 refine codeAny_call_builtin_code (Tc _ F.quiet)<|wpAny_check_new_subT F T a<|codeAny_exc_new_subT F T a ?_ c;show wpAny _ _ _ _ _ ⟨ZY h C rest,g,d,t,os⟩;have j:K.In<|ZY h C rest:=λb o e=>xv<|X b o e;have f:(ZY h C rest).p (h.j.j+1)=y0 {cls:=.j C,data:=.p #[.j h.j.j,.y,.y,.y,.B y9,.y]}:=Az;have i:(Value.ref C::u).w (.j C)=true:=by simp
 unfold isInstance
 repeat (first|with_reducible refine SV f ?_|(with_reducible refine TQ (xv (C:=C) (rest:=rest) a) ?_;rw[i])|wp_step)
 show wpAny _ _ (typeLookup (.j C) _) _ _ _;refine(looks_findIn (M:=model prog w) j hi).at<|IR<|AC<|(bind_fn (M:=model prog w) j (.j<|h.j.j+1) q).at ?_;refine AC<|L2 k (λr s' n=>?_) λ_ _ x=>x;obtain⟨rfl,l⟩:=n
 wp_walk
 exact l
end
noncomputable def fU(x C t:Addr)(a:Option Addr):HO:=.ext λh=>h.p x=y0 (fV C t a)
def tG(e:h.p x=y0 (fV C t od)):aE P w H h x<|fU x C t od:=⟨e,⟨_,e⟩,λ_ _ z k=>k _ z⟩
noncomputable def gO(H:Hp)(x:Addr):Hp:=λb=>if b=x then u0 else H b
def zZ(h:b≠x):gO H x b=H b:=FB h
def Wz:gO H x x=none:=Fk rfl
section
variable{X:Cx}{pins:List<|Addr×Obj}{U:St}{H:Hp}{s:Shared}
def Inv.forget (I:Inv X pins U H s)(a:H x=y0 (.ext j)):Inv X pins U (gO H x) s:=by
 have ne:∀b o,H b=y0 o->(∀j,o≠.ext j)->gO H x b=y0 o:=λb o q n=>by rw[zZ<|λe=>by rw[e,a]at q;cases q;exact n _ rfl];exact q
 have nn:∀b,H b=u0->gO H x b=none:=λb q=>by
  unfold gO;split
  .rfl
  .exact q
 refine⟨I.ok,I.os,I.bare,⟨I.y.keep,I.y.slot,λb u e n a=>nn b<|I.y.free b u e n a,I.y.there,λb f q=>ne b _ (I.y.cV b f q) (λ_ z=>by cases z),λb u v q=>ne b _ (I.y.cM b u v q)<|λ_ z=>by cases z⟩,
  I.loc,I.cell,nn _ I.free,λy c q=>nn _<|I.bj y c q,λp g=>?_,λb u q=>?_,I.len⟩
 .obtain⟨h,a2,a3⟩:=I.pin p g;exact⟨h,nn _ a2,a3⟩
 .by_cases d:b=x
  .rw[d,Wz]at q;cases q
  .rw[zZ d]at q;exact(I.aF b u q).c9 (λ_ _ _ z=>z)<|λc z=>ne c _ z<|λ_ z=>by cases z
def Inv.stored (I:Inv X pins U H s)(j:H x=y0 (fU x C t u0))(p:RelV y u)(k:∀b o,b≠x->s.j.p b=y0 o->h'.p b=y0 o)
 (e:h'.p x=y0 (fV C t<|y0 s.j.j.j))(m:h'.Ns1 s.j.j.j<|λz=>if z=f then y0 u else u0):
 Inv X pins U (ax (ax H s.j.j.j<|.xd [(f,y)]) x<|fU x C t<|y0 s.j.j.j) {s with heap:=h',toks:=t'}:=by
 have d:=(I.aF x _ j).1;have c:=Ab5<|Aa9 d;have n:(h'.B x λ_=>fV C t u0).p x=y0 _:=Ad1 _ e rfl;have i:∀b,b≠x->(h'.B x λ_=>fV C t u0).p b=h'.p b:=λb a=>Am3 _ _ _ _ a;have l:=I.laid (o:=.xd [(f,y)]) (t':=t') (λb o q=>by
  by_cases a:b=x
  .subst a;rw[d]at q;cases q;exact n
  .rw[i b a];exact k b o a q) (Aa3 _) ⟨_,m.at λo q=>(by rwa [i _ c.I]),λg=>by
   by_cases h:g=f
   .rw[Fk h];subst h;show bJ (match g==g with|true=>y0 y|false=>u0) _
    rwa [S6]
   .rw[FB h];show bJ (match g==f with|true=>y0 y|false=>u0) _;rw[beq_eq_false_iff_ne.p h];exact trivial⟩
 refine l.write (by rw[Ja c,j];exact True.intro) (.p rfl) (λb o a q=>?_) ⟨_,e⟩<|tG e;exact(i b a).I.x q
end
structure lq(K:Frag)(C:Addr)(f:Str):Prop where
 cls:jY K C=k9
 ov:kN K C=k9
 sa:findIn K (.j C) "__setattr__"=some (some<|.w "object.__setattr__")
 no:findIn K (.j C) f=y0 u0
 kp:keepIn K (.j C)=k9
def RL(K:Frag)(c b:TE)(f:Str):TS:=λD U H=>b U H λy H1=>c U H1 λx H2=>∃a C t,x=.j a/\H2 a=y0 (fU a C t u0)/\lq K C f/\∀dx,H2 dx=u0->dx≠a->D.nx U (ax (ax H2 dx<|.xd [(f,y)]) a<|fU a C t<|y0 dx)
def PV(A:PE X o ta)(m:PE X value tv)(l:swapsWith value (y0<|.j o f pos') pos.p X.env=pure y9):PS X (.j [.j o f pos'] value pos)<|RL X.K ta tv f:=by intro b s U H D I h;refine TH (aD (m b s U H _ I h) ?_) l;rintro u w⟨y,n,p,j,q⟩;refine aD (A b w U n _ p q) ?_;rintro ov F⟨x,E,g,z,a,C,t,ex,i,c,v⟩;subst ex;obtain rfl:ov=Value.ref a:=z;have d:=(g.aF a _ i).1;exact Ii g.bg d c.ov c.sa c.no λB k e r=>⟨U,_,g.stored i j k e r,v _ (g.aF.fresh<|Aa3 _)<|Aj3<|Aa9 d⟩
def RH(K:Frag)(f:Str):Sp:=λvs H Q _=>∃a v C t,vs=[.j a,v]/\H a=y0 (fU a C t u0)/\lq K C f/\∀dx,H dx=u0->dx≠a->Q .ai (ax (ax H dx<|.xd [(f,v)]) a<|fU a C t<|y0 dx)
structure qK(K:Frag)(f:Str)(fI:Addr)(fd:FuncData)(ps:List Str):Prop where
 ex:∃x u8 st N n1 n2 p1 p2 p3 p4,gK K x u8 st fI fd/\ps=[n1,n2]/\N=[n1,n2]/\Wk N ps (Jd st)/\Xr st=[.j [.j (.p n1 p1) f p2] (.p n2 p3) p4]/\(n1==("__debug__":Str))=false/\(n2==("__debug__":Str))=false∧
  (n1==("__classdict__":Str))=false/\(n2==("__classdict__":Str))=false
 bd:Binds K fd ps []
 fn:typeIn K (.j fI)=y0 (.p "function")
def Sh{K:Frag}(Z:qK K f fI fd ps):aX P w K mg base (bc P w) 1 fI fd ps<|RH K f:=by obtain⟨x,d,G,N,p,n,y,B,D,I,F,rfl,rfl,S,u,j,l,r,k⟩:=Z.ex;refine gK.Bw F S (λo H Q E ⟨a,v,C,t,e,_⟩=>by subst e;rfl) ?_;rintro h A b s H o Q E g ⟨a,v,C,t,e,m,c,q⟩;subst e;rw[u];exact⟨_,FI<|PV (zu (i:=0) rfl ((S.par p Y9).j .p λz=>.w<|.p z) j r) (zu (i:=1) rfl ((S.par n Y9).j .p λz=>.w<|.p z) l k) rfl,⟨v,rfl,.j a,rfl,a,C,t,rfl,m,c,q⟩⟩
def PL{M:Model}{A:Around}{E:Value->Shared->Prop}{s:Shared}{env:Env}{v:Sem Value}{K:Frag}{C:Addr}{Q:Flow->Shared->Prop}(q:jY K C=k9)(f:A.j=u0)
 (h:wpAny M A v (λv j=>∃e t O,v=.j e/\K.In j.j/\j.j.p e=y0 (fV C t O)/\E (.j e) j) E s):wpAny M A (raiseStmt env (y0 v) u0) Q E s:=by
 refine AC<|L2 h (λv j o=>?_) λ_ _ x=>x;obtain⟨e,t,O,rfl,X,k,i⟩:=o;obtain⟨p,G,y,z,bs,l,D,sub,r,m,dd,I,u,H,L,J,c,n,-,T⟩:=Zn X q;have F:=Us<|isNs_of_in X n;have b:(Value.ref C::p).w (.p "BaseException")=true:=by rw[Aj9,T.hasType PySem.F.excBase_ValueError.hasBase,Uc]
 have a:j.j.p e=y0 {cls:=.j C,dict:=O,data:=.p #[.j t,.y,.y,.y,.B y9,.y]}:=k;obtain⟨B,g,d,tk,w⟩:=j
 repeat (first|with_reducible refine SV a ?_|with_reducible refine SV c ?_|(with_reducible refine TQ c ?_;rw[b])|wp_step)
 exact wpAny_raiseNew_none f i
section
variable{P:Program}{w:World}{K:Frag}{mg:Str->Option Value}{base:Heap}{N:List Str}{u8:Str}{scope:Scope}{f:Addr}{cd:Value}{A:Around}{outer:List Env}{s:Shared}{H:Hp}{E:XK}
def yG(f:dx≠e)(c:H2 e=u0):gO (ax (ax (ax H2 e<|fU e C t u0) dx<|.xd [p]) e<|fU e C t<|y0 dx) e=ax H2 dx (.xd [p]):=by
 funext b;by_cases d:b=e
 .rw[d,Wz,Ja<|Ne.symm f,c]
 .rw[zZ d,Ja d];by_cases a:b=dx
  .rw[a,Xa,Xa]
  .rw[Ja a,Ja a,Ja d]
def uE(h:lq K C fl)(hi:findIn K (.j C) "__init__"=some (some<|.j fI))(Z:qK K fl fI fd ps)(n:aB 2 A')(g:Inv (qp (bc P w) P w K mg base N u8 scope f cd A outer s H E) pins U H2 s2)(j:RelV v u)
 (p:∀H' s',Inv (qp (bc P w) P w K mg base N u8 scope f cd A outer s H E) pins U H' s'->cX P w K mg base A' (envOfC u8 scope s.j.j.j f cd::outer) s' H')
 (k:∀s' dx,Inv (qp (bc P w) P w K mg base N u8 scope f cd A outer s H E) pins U (ax (ax (ax H2 (s2.j.j.j+1)<|fU (s2.j.j.j+1) C s2.j.j.j u0) dx<|.xd [(fl,v)]) (s2.j.j.j+1)<|fU (s2.j.j.j+1) C s2.j.j.j<|y0 dx) s'->H2 dx=u0->dx≠s2.j.j.j+1->Q (.j<|s2.j.j.j+1) s'):
 wpAny (model P w) A' (call (.j C) [u]) Q EE s2:=by
 have c:=g.laid (h':=ZY s2.j C [u]) (t':=s2.p) (λb o z=>xv z) (Ad5 _)<|tG Az;refine EF g.bg h.cls hi Z.fn (show 1<=sizeLine by rw[SW];decide) ?_;have F:=Sh (P:=P) (w:=w) (mg:=mg) (base:=base) Z;have t:ps.e=2:=by obtain⟨_,_,_,_,_,_,_,_,_,_,_,rfl,_⟩:=Z.ex;rfl
 refine SX<|SL (F.run _ _ _ _ ⟨[.j _,u],[]⟩ [.j _,u] [.j _,v]
  (λe H'=>e=.ai/\∃dx,H2 dx=u0/\dx≠s2.j.j.j+1/\H'=ax (ax _ dx _) _ (fU _ C s2.j.j.j<|y0 dx))
  (λ_ _ _=>False) (n.make C [u] []) ((p _ _ c).make C [u] []) (by
    have:=Z.bd ⟨ZY s2.j C [u],s2.w,s2.drawn,s2.p,s2.os⟩ [.j (s2.j.j.j+1),u] c.bg<|by simp_all
    rwa [Ac4]at this) (.j rfl<|.j j .p) ⟨_,v,C,s2.j.j.j,rfl,Xa,h,λdx z ne=>⟨rfl,dx,by rw[Ja ne]at z;exact z,ne,rfl⟩⟩) λres s' a=>?_
 cases res with
|error r=>obtain⟨_,_,_,_,_,_,_,_,_,_,_,_,_,_,_,z⟩:=a;exact z.j
|ok d=>
  cases d with
|ret q=>obtain⟨e,H',l,rv,rfl,dx,m,i,rfl⟩:=c.after a;exact⟨rv,k s' dx l m i⟩
|_=>exact False.elim a
def Ao(C:Addr)(a:Str)(E:XK)(t:TA):TS:=λ_ U H=>t U H λvs H1=>∃v,vs=[v]/\∀dx,H1 dx=u0->E (.j C) (y0 dx) (ax H1 dx<|.xd [(a,v)])
def P0(m:A.j=none)(i:lq K C fl)(hi:findIn K (.j C) "__init__"=some (some<|.j fI))(Z:qK K fl fI fd ps)(n:mg x=some (.j C))(G:Gl (qp (bc P w) P w K mg base N u8 scope f cd A outer s H E) x)
 (M:aB 2<|A.w<|envOfC u8 scope s.j.j.j f cd)(Q:PA (qp (bc P w) P w K mg base N u8 scope f cd A outer s H E) [e] t)
 (y:starEach [e] (envOfC u8 scope s.j.j.j f cd)=(false,eval e<|envOfC u8 scope s.j.j.j f cd)::starEach [] (envOfC u8 scope s.j.j.j f cd):=by rfl)(J:(x==("__debug__":Str))=false:=by decide):
 PS (qp (bc P w) P w K mg base N u8 scope f cd A outer s H E) (.w (y0<|.w (.p x np) [e] [] cpos) u0 pos)<|Ao C fl E t:=by
 intro b z U o D I h;refine AC<|SG<|PL i.cls m<|AC<|L2 (Pv<|Wi I G n ?_ J) (λv V l=>AC<|SG<|Do l) λ_ _ x=>x;refine callWith_K I.ok.mod.eQ i.kp (aD (Q cpos b z U o _ I h) ?_) y rfl;rintro B O⟨T,R,d,r,v,p,q⟩;refine⟨d.bg,?_⟩;subst p;obtain⟨u,rfl,g⟩:∃u,B=[u]/\RelV v u:=by
  cases r with
|cons g L=>cases L;exact⟨_,rfl,g⟩
 refine uE i hi Z M d g (λ_ _ I=>I.ej) λS dx c F j=>⟨_,O.j.j.j,y0 dx,rfl,c.bg,(c.aF _ _ Xa).1,?_⟩;have a:=d.aF.fresh<|Ad5 _;have k:=c.forget Xa;rw[yG j a]at k;refine zx k (c.aF _ _ Xa).1 rfl rfl rfl rfl rfl (λ_=>rfl) (Am<|Ac d.sz<|Ad5 _) ?_<|q dx F;rw[Ja<|Ne.symm j,a]
end
section
variable{prog:Program}{w:World}{A:Around}{E:Value->Shared->Prop}{s:Shared}{K:Frag}{x C dx:Addr}{fl:Str}{u:Value}{ox:Obj}{mA:Str->Option Value}
def Oy(X:K.In s.j)(r:s.j.p x=y0 ox)(N:ox.w=.j C)(G:notCls ox=k9)(H:ox.p=y0 dx)(o:s.j.Ns1 dx mA)(F:mA fl=y0 u)(B:handedIn u=k9)(D:kN K C=k9)(L:findIn K (.j C) fl=y0 u0)
 (n:findIn K (.j C) "__getattribute__"=some (some<|.w "BaseException.__getattribute__"))(J:findIn K (.j C) "__getattr__"=some none)
 (h:Q u {s with toks:=s.p+1}):wpAny (model prog w) A (getAttr (.j x) fl b) Q E s:=by
 obtain⟨R,a,c,k⟩:=vg D;obtain⟨f,g,d,t,y⟩:=s;dsimp only at X r o h;obtain⟨z,i,m⟩:=Q1 o;have I:PySem.W.InstAt f x ox C<|y0 z:=⟨r,N,G,by rw[H];exact i⟩;have l:findObj K C _ fl=y0 _:=U5 (by unfold hasDictIn;rw[a];exact k) L rfl (by rw[m,F]);have p:=I.type (M:=model prog w);have O:=looks_findIn (M:=model prog w) X n;have v:=looks_find (M:=model prog w) X I l;have sub:Looks (model prog w) f (isInstance (.j x)<|.p "BaseException") true:=I.type.a5<|looks_mroIn X (by unfold mroIn;rw[a,Ah8,FB<|by rw[sI c];decide,ER c]);have q:=PySem.F.attrBase_ValueError;have P:=q.ga.bind<|.j x;have e:(b&&onTheHeap (Value.builtin "BaseException.__getattribute__"))=false:=by cases b<;>rfl
 unfold getAttr getAttrBy;refine AC<|wpAny_mkText<|IR<|AC<|p.at<|AC<|O.at ?_;have j:(Value.builtin "BaseException.__getattribute__"==Value.builtin "object.__getattribute__")=false:=by decide+kernel
 dsimp only;rw[j,Ye,FB Y7];unfold getAttrByItsOwn hookBefore;refine AC<|(looks_findIn X J).at<|AC<|Tz<|IR ?_;unfold callGetattribute;rw[e,FB Y7]
 repeat (any_goals (first|assumption|wp_step))
 refine S4 q.ga.plain PySem.F.entry_bexc_ga<|@check_slot (model prog w) _ _ ⟨f,g,d,t+1,y⟩ "BaseException.__getattribute__" "BaseException" "__getattribute__" (.j x) [.o fl t] [] _ (by decide+kernel) (by decide+kernel) sub (PySem.F.args_bexc_ga (.j x)<|.o fl t)<|AC<|Do<|AC<|Do<|AC<|p.at<|AC<|v.at ?_;refine Do ?_;show wpAny _ _ (handedOut u) _ _ _;rw[handedOut_of B];exact Do h
end
structure hO(K:Frag)(C:Addr)(f:Str):Prop where
 ov:kN K C=k9
 no:findIn K (.j C) f=y0 u0
 ga:findIn K (.j C) "__getattribute__"=some (some<|.w "BaseException.__getattribute__")
 gh:findIn K (.j C) "__getattr__"=some none
def DO(K:Frag)(b:TE)(f:Str):TE:=λU H Q=>b U H λx H1=>∃a C dx v,x=.j a/\H1 a=y0 (hJ a C<|y0 dx)/\(∃l,H1 dx=y0 (.xd<|(f,v)::l))/\hO K C f/\Q v H1
def RQ(y:PE X e ta)(E:attributeBase e f X.env (eval e X.env)=eval e X.env):PE X (.j e f pos)<|DO X.K ta f:=by intro b s U H Q I h;refine vw E<|aD (y b s U H _ I h) ?_;rintro u B ⟨x,w,d,F,a,C,dx,v,ex,t,⟨l,A⟩,c,q⟩;subst ex;obtain rfl:u=Value.ref a:=F;obtain⟨o,m,G,z,D⟩:=(d.aF a _ t).1;obtain⟨j,n,r⟩:∃j,B.j.Ns1 dx j/\∀g,bJ _ _:=d.aF dx _ A;have k:=r f;rw[show Ag6 f _=y0 v by simp[Ag6]]at k;obtain⟨J,p,i⟩:=bJ.some_of k;exact Oy d.bg m G z (D dx rfl) n p (Z2 i) c.ov c.no c.ga c.gh ⟨v,w,d.X _,i,q⟩
noncomputable def dI(a:List Int):HO:=.dK<|a.y λk=>(.p k,.bl k9)
noncomputable def fW(a:List Int):List<|bW×Value:=a.y λk=>(.p k,.B k9)
theorem yd:∀{ks}{vs},KV (ks.y λk=>((.p k:bW),V.bl k9)) vs->vs=fW ks
|[],_,.p=>rfl
|k::ks,(a,b)::vs,.j r t=>by obtain⟨c,d⟩:=r;dsimp only at c d;subst c;cases(d);rw[yd t];rfl
theorem vN:∀ks:List Int,KV (ks.y λk=>((.p k:bW),V.bl k9))<|fW ks
|[]=>.p
|k::ks=>.j ⟨rfl,rfl⟩<|vN ks
def t7(b)(k):(valueAt (fW b)<|.p k).p=b.w k:=by
 unfold valueAt fW;rw[VH,List.find?_map,VH];induction b with
|nil=>rfl
|cons a b c=>
  rw[V8,Aj9];by_cases h:a=k
  .subst h;simp
  .have d:=beq_eq_false_iff_ne.p λe=>h e.I;rw[d,Yi,←c];simp[h]
def nY(a:List Int)(k:Int):List Int:=if a.w k then a else a++[k]
def Lo(b)(k):stored (fW b) (.p k) (.B k9)=fW (nY b k):=by
 have e:(fW b).C (λc=>c.1=.p k)=b.w k:=by
  unfold fW;rw[Vs];induction b with
|nil=>rfl
|cons a b d=>
   rw[Af2,Aj9,d];by_cases h:a=k
   .subst h;simp
   .have:¬k=a:=λe=>h e.I;simp[h,this]
 unfold stored nY;rw[e];by_cases h:b.w k=k9
 .rw[Fk h,Fk h];unfold fW;rw[Ae5];refine Vb λa _=>?_;simp only[Function.comp];split<;>rfl
 .rw[FB h,FB h];simp[fW]
section
variable{X:Cx}{pins:List<|Addr×Obj}{U:St}{H:Hp}{s:Shared}{a:Addr}{k:Int}{ks:List Int}{u r:Value}{A:Around}{E:Value->Shared->Prop}
def pz(I:Inv X pins U H s)(e:H a=y0 (dI ks)):ks.e<=sizeLine/\(a==sysModules)=y9/\s.j.DictOf (Jg X.p X.w) a (fW ks):=by obtain⟨z,b,c,rel,dd⟩:=(show aE X.p X.w H s.j a (dI ks)from I.aF a _ e);rw[Aa4]at z;rw[yd rel]at dd;exact⟨z,b,dd⟩
def EC(I:Inv X pins U H s)(e:H a=y0 (dI ks))(b:RelV (.u k) u)(h:∀s',Inv X pins U H s'->Q (.B<|ks.w k) s'):wpAny (model X.p X.w) A (compareOp .In u<|.j a) Q E s:=by obtain⟨z,c,dd⟩:=pz I e;obtain⟨t,rfl⟩:=b;refine wpAny_in_of (jr _ _ k t) c dd.mapOf ?_;rw[t7];exact h _<|I.X _
def B0(I:Inv X pins U H s)(e:H a=y0 (dI ks))(b:RelV (.u k) u)(h:∀s',Inv X pins U H s'->Q (.B<|!ks.w k) s'):wpAny (model X.p X.w) A (compareOp .j u<|.j a) Q E s:=by obtain⟨z,c,dd⟩:=pz I e;obtain⟨t,rfl⟩:=b;refine wpAny_notIn_of (jr _ _ k t) c dd.mapOf ?_;rw[t7];exact h _<|I.X _
def Dt(I:Inv X pins U H s)(e:H a=y0 (dI ks))(d:RelV (.u k) u)(n:ks.e<sizeLine)(h:∀s',Inv X pins U (ax H a<|dI<|nY ks k) s'->Q () s'):wpAny (model X.p X.w) A (setItem (.j a) u<|.B k9) Q E s:=by
 obtain⟨z,l,dd⟩:=pz I e;obtain⟨t,rfl⟩:=d;refine Vc (hsz:=by unfold fW;rwa [Aa4]) (jr _ _ k t) dd λf b g=>h _ ?_;rw[Lo]at b;have j:∃q,f.p a=y0 q:=let⟨q,_,_,i,_⟩:=b;⟨q,i⟩;refine I.write (by rw[e];exact True.intro) (.p rfl) (λm q c z=>(g.2 m c).x z) j ⟨?_,l,_,vN _,b⟩;rw[Aa4];unfold nY;split
 .exact z
 .rw[Ab9,Aj2];exact ZAA
def IW:TE:=λ_ H Q=>∀p,H p=u0->Q (.j p) (ax H p<|dI [])
def Lg:PE X (.Dict [] [] pos) IW:=λa s U H Q I h=>
 VX ⟨.j s.j.j.j,_,I.laid (o:=dI []) (λ_ _ q=>Aa _ q) (Aa3 _) ⟨Ag _,beq_eq_false_iff_ne.p<|Ne.symm<|Ab5<|yY I,[],.p,Heap.DictOf.new _⟩,rfl,h _<|I.aF.fresh<|Aa3 _⟩
end
end Lake
namespace PyProof.Rows
open PySem PySem.Spec
section
variable{prog:Program}{w:World}{A:Around}{E:Value->Shared->Prop}{s:Shared}
def qU(i:s.j.K l vs.j)(f:StrsAre vs ss)(c:vs.e<64)
 (h:∀O j,StrsAre O.p j->j.Perm ss->sortedS j=k9->Q (.j<|s.j.j.j+1) {s with heap:=sortedAll s.j vs O}):
 wpAny (model prog w) A (call (.w "sorted") [.j l]) Q E s:=by
 refine Calls.call_function_entry kind_sorted plain_sorted entry_sorted (args_sorted1 _)<|AC<|Do ?_;refine AC<|zY i ?_ (by rw[SW];exact Ag5<|Ab4 ‹_› Y7);refine AC<|UY ?_;have b:((s.j.w<|seqObj "list" #[] 0).B s.j.j.j (Obj.mapSeq (·++vs.j))).j.j=s.j.j.j+1:=by rw[Heap.size_update,size_push']
 have a:(((s.j.w<|seqObj "list" #[] 0).B s.j.j.j (Obj.mapSeq (·++vs.j))).w<|seqObj "list" vs.j 0).p (s.j.j.j+1)=some (seqObj "list" vs.j 0):=by rw[←b];exact Aa5 _ rfl
 rw[b];refine AC<|IR<|SF slot_list_sort ⟨_,a,rfl⟩ entry_list_sort (list_sort_treeK strKind_oneLt a f.keysOf (λg d rest e=>keyKind_strs<|by rwa [←e]) c λp q n=>⟨_,rfl,?_⟩)<|args_list_sort _;obtain⟨j,k,o,m⟩:=sorted_out_str f q n;exact Do ⟨_,rfl,h _ j k o m⟩
end
end PyProof.Rows
namespace Lake
open Lake renaming Vals.length->Lake.Vals.e,V.str->Lake.V.o,V.ref->Lake.V.j,V.int->Lake.V.u,Cx.env->Lake.Cx.j,Cx.prog->Lake.Cx.p,Cx.stack->Lake.Cx.B,Cx.outer->Lake.Cx.G,Inv.ok->Lake.Inv.p,Inv.base->Lake.Inv.y,Inv.pin->Lake.Inv.N,Inv.laid->Lake.Inv.T,Inv.tok->Lake.Inv.X,ck.fresh->Lake.ck.U
open PySem PySem.Spec PyProof.Rows PySem.Builtin.Str
section
variable{X:Cx}
def zQ:qo X (.w "sorted")<|fun xs H Q=>∃p,∃ss:List Str,xs=[.j p]/\dj X.K H p (ss.y V.str)/\ss.e<64/\∀j,j.Perm ss->sortedS j=true->∀l,H l=none->Q (.j l) (ax H l<|.lst<|j.y V.str):=by rintro f s U H xs t Q I r⟨p,ss,rfl,i,m,q⟩;obtain⟨u,rfl,n⟩:=xS r;cases n;obtain⟨d,rv,pl,g⟩:=I.tuple i;have a:=rv.e;rw[Aa4]at a;refine qU pl (zo rv) Y8 λc j h a2 a3=>?_;obtain⟨e,k⟩:=sortedAll_at s.j d c;refine⟨.j _,_,I.T (λb o e=>sortedAll_old e) (Ad5 _)<|show aE X.p X.w _ _ _ (.lst _)from⟨by rw[Aa4];exact(by rw[a2.length_eq];rw[Aa4]at g;exact g),c.p,e,u6 h,by simpa[seqObj]using k⟩,rfl,q j a2 a3 _<|I.aF.U<|Ad5 _⟩
theorem zD:∀n i,(∀j,i<=j->j<i+n->subAt x y j=y9)->forIn (Ak3 i n++l) ((#[]:Array Nat),0) (StrLaws.occBody x y hi 1)=forIn l (#[],0) (StrLaws.occBody x y hi 1)
|0,i,_=>rfl
|n+1,i,h=>by rw[Ai,Af,Ai5];unfold StrLaws.occBody;rw[FB<|by rw[h i (Aa3 _) Y8];exactλz=>Ab0 z.2];exact zD n (i+1) λj a b=>h j (Ag5 ‹_›) Y8
theorem uu{st:Array Nat×Nat}(a:¬st.1.j<1):∀l:List Nat,(forIn l st<|StrLaws.occBody x y hi 1).run=st
|[]=>rfl
|i::l=>by rw[Ai5];unfold StrLaws.occBody;rw[FB λz=>a z.1.1.1];exact uu a l
def Iy(g:c∉a):occurrences ⟨(a++c::b).j⟩ ⟨#[c]⟩ 0 (a++c::b).e 1=[a.e]:=by
 have f:∀j,0<=j->j<0+a.e->subAt ⟨(a++c::b).j⟩ ⟨#[c]⟩ j=false:=λj _ e=>by
  refine beq_eq_false_iff_ne.p λz=>g ?_;have z:=congrArg Aj7 z;simp only[Str.length]at z;have e:j<a.e:=by lia
  rw[UP,Vd,Ae2]at z;rw[List.drop_append_of_le_length<|Ag5 ‹_›,Ah9 e]at z;rw[show j+Array.size #[c]-j=1 by simp,Af,Ve]at z;injection z with z _
  exact z▸List.getElem_mem e
 have d:subAt ⟨(a++c::b).j⟩ ⟨#[c]⟩ a.e=true:=by refine beq_iff_eq.p ?_;apply Ah.j;simp[Str.length,Ae2]
 rw[UI,show(a++c::b).e+1-0=a.e+(b.e+2)by simp;exact VW _,←List.range'_append_1,zD _ _ f,Ai,Ai5];unfold StrLaws.occBody;rw[Fk ⟨⟨⟨by show 0<1;exact Aa3 _,(Nat.zero_le _)⟩,by simp[Str.length]⟩,by simpa using d⟩];have:=uu (x:=⟨(a++c::b).j⟩) (y:=⟨#[c]⟩) (hi:=(a++c::b).e) (st:=(#[].w<|0+a.e,0+a.e+Str.length ⟨#[c]⟩)) Y9<|Ak3 (0+a.e+1)<|b.e+1;refine(congrArg (λz=>Aj7 _) this).x ?_;simp
def M0{a:List Nat}(d:c∉a):occurrences ⟨a.j⟩ ⟨#[c]⟩ 0 a.e 1=[]:=by
 have b:∀j,0<=j->j<0+(a.e+1-0)->subAt ⟨a.j⟩ ⟨#[c]⟩ j=false:=λj _ e=>by refine beq_eq_false_iff_ne.p λz=>d ?_;have z:=congrArg Aj7 z;simp only[Str.length]at z;rw[UP,Vd,Ae2]at z;exact UQ<|Al9<|by rw[z];exact Ab8.p rfl
 rw[UI,←Ac4<|Ak3 0 _,zD _ _ b];rfl
def yc(s:List Nat)(c:Nat)(p q r:List Nat):Prop:=(s=p++c::r/\c∉p/\q=[c])\/(c∉s/\p=s/\q=[]/\r=[])
def PJ:fc X "str.partition"<|fun x vs H Q=>∃s a m b c,x=.o ⟨s.j⟩/\vs=[.o ⟨#[c]⟩]/\yc s c a m b/\s.e<=sizeLine/\∀p,H p=none->Q (.j p) (ax H p<|.tup [.o ⟨a.j⟩,.o ⟨m.j⟩,.o ⟨b.j⟩]):=by
 rintro f s U H x vs v n Q I l rv⟨z,a,m,b,c,rfl,rfl,d,r,q⟩;obtain⟨t,rfl⟩:=l;obtain⟨u,rfl,i⟩:=rv.one;obtain⟨g,rfl⟩:=i;refine SY T1 (Tb _ _ _) PySem.F.entry_str_partition (PySem.F.args_str_partition_2 _ _) (meets_str_partition _ _ t g rfl<|by assumption) ?_;have h:=I.aF.U<|Aa3 _;obtain⟨rfl,d,rfl⟩|⟨d,rfl,rfl,rfl⟩:=d
 .have e:=Iy (b:=b) d;rw[show Str.length ⟨(a++c::b).j⟩=(a++c::b).e from by simp[Str.length],e];refine⟨.j s.j.j.j,_,?_,rfl,q _ h⟩;refine I.T (λb o e=>Aa _ e) (Aa3 _) ⟨by simp only[Ab6,Ae0];decide,[.o ⟨a.j⟩ s.p,.o ⟨#[c]⟩ g,.o ⟨b.j⟩ (s.p+1)],.j ⟨_,rfl⟩<|.j ⟨_,rfl⟩<|.j ⟨_,rfl⟩ .p,?_⟩;have j:strSub ⟨(a++c::b).j⟩ 0 a.e=⟨a.j⟩:=by unfold strSub;congr 1;apply Ah.j;simp[Ae2]
  have k:strSub ⟨(a++c::b).j⟩ (a.e+Str.length ⟨#[c]⟩) (a++c::b).e=⟨b.j⟩:=by unfold strSub;congr 1;apply Ah.j;simp[Str.length,Ae2];exact Ag0 Y8
  refine⟨_,Aa5 s.j rfl,rfl,rfl,0,?_⟩;rw[j,k]
 .have e:=M0 d;rw[show Str.length ⟨a.j⟩=a.e from by simp[Str.length],e];refine⟨.j s.j.j.j,_,?_,rfl,q _ h⟩;exact I.T (λb o e=>Aa _ e) (Aa3 _) ⟨by simp only[Ab6,Ae0];decide,[.o ⟨a.j⟩ t,.o ⟨#[]⟩ s.p,.o ⟨#[]⟩ s.p],.j ⟨_,rfl⟩<|.j ⟨_,rfl⟩<|.j ⟨_,rfl⟩ .p,_,Aa5 s.j rfl,rfl,rfl,0,rfl⟩
end
noncomputable def bh:Str:=⟨#[32]⟩
noncomputable def nA(z:Str)(a:List Str):Bool:=!(u9 (z.e<bh.e)||u9 (strKind z<strKind bh))&&!(occurrences z bh 0 z.e<|z.e+1).K&&u9 (z.e<=1000)&&u9 (partsBetween z (occurrences z bh 0 z.e<|z.e+1) bh.e=a)&&u9 (a.e<=1000)
section
variable{X:Cx}
theorem Q2:∀(ps)(t),Vals (ps.y V.str)<|strsFrom t ps
|[],_=>.p
|p::ps,t=>.j ⟨_,rfl⟩<|Q2 ps<|t+1
def Lc:fc X "str.split"<|fun x vs H Q=>∃z j,x=.o z/\vs=[.o bh]/\nA z j=true/\∀p,H p=none->Q (.j p) (ax H p<|.lst<|j.y V.str):=by rintro c s U H x vs v n Q I m rv⟨z,j,rfl,rfl,a,q⟩;obtain⟨t,rfl⟩:=m;obtain⟨u,rfl,g⟩:=rv.one;obtain⟨i,rfl⟩:=g;unfold nA at a;simp only[Aa6,Bool.not_eq_true',Pi]at a;obtain⟨⟨⟨⟨l,k⟩,h⟩,d⟩,f⟩:=a;refine SY SH (Tb _ _ _) S8 (Ud _ _) (Vf z bh t i l rfl k (Ag5<|zn h)<|by rw[d];exact(Ag5<|zn f)) ?_;rw[d];refine⟨.j s.j.j.j,_,?_,rfl,q _<|I.aF.U<|Aa3 _⟩;exact I.T (λb o e=>Aa _ e) (Aa3 _)<|show aE X.p X.w _ _ _ (.lst _)from⟨by rw[Aa4];exact(Ag5<|zn f),strsFrom s.p j,0,Q2 j s.p,Aa5 s.j rfl⟩
end
open PySem PySem.Spec PyProof.Rows
noncomputable def dS(a:List<|Str×V):HO:=.dK<|a.y λp=>(.w p.1,p.2)
noncomputable def iG(a:List<|Str×V)(k:Str)(v:V):List<|Str×V:=if a.C (λp=>u9<|p.1=k)then a.y (λp=>if p.1=k then(p.1,v)else p)else a++[(k,v)]
theorem vn:∀{c:List<|Str×V}{vs},KV (c.y λp=>((.w p.1:bW),p.2)) vs->(vs.C λj=>j.1=.w k)=c.C λp=>u9<|p.1=k
|[],_,.p=>rfl
|p::c,(a,b)::vs,.j r t=>by obtain⟨d,e⟩:=r;rw[Af2,Af2,vn t,←d];by_cases q:p.1=k<;>simp[q]
theorem wY:∀{c:List<|Str×V}{vs},KV (c.y λp=>((.w p.1:bW),p.2)) vs->bJ (c.p k) (valueAt vs<|.w k)
|[],_,.p=>trivial
|p::c,(a,b)::vs,.j r t=>by
  obtain⟨e,f⟩:=r;have d:=wY (k:=k) t;unfold valueAt at d⊢;rw[V8,Ac1,←e];by_cases q:p.1=k
  .rw[beq_iff_eq.p q.I];simp only[q,decide_true];exact f
  .rw[beq_eq_false_iff_ne.p λz=>q z.I];have:¬(Sum.inr p.1:bW)=.w k:=λz=>q (by injection z);simp only[this,decide_false];exact d
def My(d:RelV v u)(h:KV (kvs.y λp=>((.w p.1:bW),p.2)) vs):KV ((iG kvs k v).y λp=>((.w p.1:bW),p.2))<|stored vs (.w k) u:=by
 unfold iG stored;rw[vn h];by_cases c:(kvs.C λp=>u9<|p.1=k)=k9
 .rw[Fk c,Fk c];clear c;induction kvs generalizing vs with
|nil=>cases h;exact .p
|cons p kvs g=>
   cases h with
|@cons _ q _ vs r t=>
    obtain⟨a,b⟩:=q;obtain⟨e,f⟩:=r;subst e;refine .j ?_<|g t;by_cases q:p.1=k
    .subst q;simp only[Os];exact⟨trivial,d⟩
    .have:¬(Sum.inr p.1:bW)=.w k:=λz=>q (by injection z);simp only[q,this,S5];exact⟨trivial,f⟩
 .rw[FB c,FB c,Ae8];exact Paired.snoc h ⟨rfl,d⟩
section
variable{X:Cx}{pins:List<|Addr×Obj}{U:St}{H:Hp}{s:Shared}{a:Addr}{k:Str}{kvs:List<|Str×V}{u r:Value}{A:Around}{E:Value->Shared->Prop}
def j7(I:Inv X pins U H s)(e:H a=y0 (dS kvs)):kvs.e<=sizeLine/\(a==sysModules)=y9/\∃vs,KV (kvs.y λp=>((.w p.1:bW),p.2)) vs/\s.j.DictOf (Jg X.p X.w) a vs:=by obtain⟨z,b,vs,rel,dd⟩:=(show aE X.p X.w H s.j a (dS kvs)from I.aF a _ e);rw[Aa4]at z;exact⟨z,b,vs,rel,dd⟩
def DP(I:Inv X pins U H s)(e:H a=y0 (dS kvs))(c:RelV (.o k) u)(l:kvs.p k=y0 v)(h:∀j s',Inv X pins U H s'->RelV v j->Q j s'):wpAny (model X.p X.w) A (getItem (.j a) u) Q E s:=by obtain⟨z,g,f,rel,dd⟩:=j7 I e;obtain⟨t,rfl⟩:=c;obtain⟨j,d,b⟩:=bJ.some_of (by rw[←l];exact wY rel);exact wpAny_getItem_of (jh _ _ k t) dd.mapOf d<|h j _ (I.X _) b
def tM(r:bJ o q):q.p=o.p:=by
 cases o with
|none=>rw[bJ.none_of r];rfl
|some v=>obtain⟨u,rfl,_⟩:=bJ.some_of r;rfl
def Ob(I:Inv X pins U H s)(e:H a=y0 (dS kvs))(b:RelV (.o k) u)(h:∀s',Inv X pins U H s'->Q (.B (kvs.p k).p) s'):wpAny (model X.p X.w) A (compareOp .In u<|.j a) Q E s:=by obtain⟨z,c,d,rel,dd⟩:=j7 I e;obtain⟨t,rfl⟩:=b;refine wpAny_in_of (jh _ _ k t) c dd.mapOf ?_;rw[tM<|wY rel];exact h _<|I.X _
def PM(I:Inv X pins U H s)(e:H a=y0 (dS kvs))(b:RelV (.o k) u)(h:∀s',Inv X pins U H s'->Q (.B<|!(kvs.p k).p) s'):wpAny (model X.p X.w) A (compareOp .j u<|.j a) Q E s:=by obtain⟨z,c,d,rel,dd⟩:=j7 I e;obtain⟨t,rfl⟩:=b;refine wpAny_notIn_of (jh _ _ k t) c dd.mapOf ?_;rw[tM<|wY rel];exact h _<|I.X _
def DB(kvs)(k)(v):(iG kvs k v).e<=kvs.e+1:=by
 unfold iG;split
 .rw[Aa4];exact Ad5 _
 .simp
def Od(I:Inv X pins U H s)(e:H a=y0 (dS kvs))(d:RelV (.o k) u)(rv:RelV v r)(p:kvs.e<sizeLine)(h:∀s',Inv X pins U (ax H a<|dS<|iG kvs k v) s'->Q () s'):wpAny (model X.p X.w) A (setItem (.j a) u r) Q E s:=by
 obtain⟨z,m,j,rel,dd⟩:=j7 I e;obtain⟨t,rfl⟩:=d;have o:j.e<=sizeLine:=by rwa [←Paired.length rel,Aa4]
 refine Vc (jh _ _ k t) dd λf b g=>h _ ?_;have l:∃q,f.p a=y0 q:=let⟨q,_,_,i,_⟩:=b;⟨q,i⟩;refine I.write (by rw[e];exact True.intro) (.p rfl) (λn q c z=>(g.2 n c).x z) l ⟨?_,m,_,My rv rel,b⟩;rw[Aa4];have:=DB kvs k v;exact Ac ‹_› ‹_›
def Dn:TE:=λ_ H Q=>∀p,H p=u0->Q (.j p) (ax H p<|dS [])
def Pq:PE X (.Dict [] [] pos) Dn:=λa s U H Q I h=>
 VX ⟨.j s.j.j.j,_,I.T (o:=dS []) (λ_ _ q=>Aa _ q) (Aa3 _) ⟨Ag _,beq_eq_false_iff_ne.p<|Ne.symm<|Ab5<|yY I,[],.p,Heap.DictOf.new _⟩,rfl,h _<|I.aF.U<|Aa3 _⟩
end
open PySem PySem.Spec PySem.Calls PySem.W PyProof.Rows
section
variable{prog:Program}{w:World}{A:Around}{E:Value->Shared->Prop}{s:Shared}
theorem JR(f:t≠it):∀n i s Q,s.j.IsListIter it t i->s.j.L t y8->i+n<=y8.j→
 (∀h',Heap.IsListIter h' it t (i+n)->Af5 it s.j h'->Q ((y8.p.L i).M n) {s with heap:=h'})->wpAny (model prog w) A (draw (.j it) n) Q E s
|0,i,s,Q,e,_,_,j=>by exact Do<|by simpa using j s.j e<|Af5.refl ..
|n+1,i,s,Q,e,l,o,j=>by
  have g:i<y8.j:=by lia
  refine AC<|Uz e l (x:=y8[i]) (by simp[g]) λk c a=>?_;refine AC<|IR<|JR f n (i+1) _ _ c (l.extBut a.A f) Y8 λh b d=>Do ?_;have m:y8.p.L i=y8[i]::y8.p.L (i+1):=by simp[Ah9,g]
  have:=j h (by rw[show i+(n+1)=i+1+n by lia];exact b)<|a.trans d;rw[m,Ve]at this;exact this
def Xy(m:A.j=u0)(g:s.j.L t y8)
 (l:∀h',Ak6 s.j.j.j s.j h'->Q y8.p {s with heap:=h'}):wpAny (model prog w) A (unpackItems (.j t) y8.j u0) Q E s:=by
 have f:t≠s.j.j.j:=by obtain⟨o,n,_⟩:=g;exact Ab5<|Aa9 n
 refine AC ?_
 .unfold notIterableAtAll;refine AC<|Ut g.typeIs slot_list_iter.p<|Do ?_;refine AC<|IR<|S2 g<|AC<|IR<|JR f y8.j 0 _ _ ⟨_,Aa5 _ rfl,rfl,rfl⟩ (g.push _) Y8 λk c a=>?_;have h:List.take y8.j (List.drop 0 y8.p)=y8.p:=by rw[Am1];exact Ag0<|by simp
  rw[h,FB Y9];refine AC<|IR<|UJ m c ((g.push _).extBut a.A f) Y9 λi d=>Do<|l i λb o j e=>d b o j<|a.A b o j<|Aa _ e
def Ww{x1}(c:A.j=u0)(b:s.j.L t y8)
 (d:(assignEach elts env).e=y8.j)(a:(assignEach elts env).findIdx? (·.1)=u0)
 (h:∀h',Ak6 s.j.j.j s.j h'->wpAny (model prog w) A (assignInOrder ((assignEach elts env).y (·.2)) y8.p) Q E {s with heap:=h'}):
 wpAny (model prog w) A (assign (.L elts x1 pos) env<|.j t) Q E s:=by
 rw[assign_Tuple];refine AC<|SG ?_;unfold unpack;rw[d,a];exact AC<|IR<|Xy c b h
end
def HE(K:Aa1)(n:Nat)(t:lN):TG:=λv U H Q=>∃a xs,v=.j a/\bu K H a xs/\xs.e=n/\t xs U H Q
def HR(w:X.calm=k9)(h:kz X es t)
 (j:(assignEach es X.j).e=n:=by rfl)(f:(assignEach es X.j).findIdx? (·.1)=none:=by rfl):PG X (.L es k pos)<|HE X.K n t:=by
 intro c s U H v u Q I r d;obtain⟨a,g,m,i,p,d⟩:=d;subst m;cases r;obtain⟨q,rv,l,y⟩:=I.list i;exact Ww (I.p.hd w) l.Q (by simp[j,←p,rv.e]) f λx hx=>h c _ U H g _ Q (I.kept λb o e=>hx b o (Ab5<|Aa9 e) e) (by simp_all) d
open PySem PySem.Spec PySem.Calls PyProof.Rows
section
variable{X:Cx}
def OT:fc X "int.bit_length"<|fun x xs H Q=>∃i:Int,x=.u i/\xs=[]/\Q (.u ((Builtin.Int.intBits i:Nat):Int)) H:=by rintro a s U H x xs v c Q I b rv⟨i,rfl,rfl,q⟩;obtain⟨t,rfl⟩:=b;cases rv;exact call_int_bit_length ⟨.u _,H,I.X _,⟨_,rfl⟩,q⟩
end
def dm(H H':Hp):Prop:=∀a o,H a=y0 o->H' a=y0 o
def dm.refl:dm H H:=λ_ _ h=>h
def dm.trans (a:dm H H1)(b:dm H1 H2):dm H H2:=λx o h=>b x o<|a x o h
def bu.le {K:Aa1}(h:bu K H a xs)(l:dm H H'):bu K H' a xs:=by
 obtain h|h:=h
 .refine .p ?_;obtain h|⟨u,h⟩:=h
  .exact .p<|l _ _ h
  .exact .w ⟨u,l _ _ h⟩
 .exact .w h
noncomputable def gB(g:Int->Int):Int->List Int->Int
|b,[]=>b
|b,x::xs=>if g x<g b then gB g x xs else gB g b xs
def xX{id:String}(b:(args.C (·.1)||kws.C (·.1.w))=y9)
 (h:wpAny M A (evalArgs (.w id) k9 args kws) (λa j=>wpAny M A (call (.w id) (first++a.pos) a.kw) Q E j) E s):
 wpAny M A (callWith pos (.w id) first args kws) Q E s:=by
 refine AC<|IR<|L2 h (λa j c=>AC<|SG ?_) λ_ _ x=>x;simp only[b];exact AC<|Do<|AC<|L2 c (λr d e=>AC<|IR<|VN<|Do e) λ_ _ x=>x
section
variable{X:Cx}{pins:List<|Addr×Obj}{U:St}{H0:Hp}{q l S J:Addr}{is:List Int}{g:Int->Int}{R:Result->Shared->Prop}
def p9(X:Cx)(U:St)(a:Hp)(q:Addr)(is:List Int)(g:Int->Int):Prop:=∀(pins:List<|Addr×Obj)(s:Shared)(H:Hp)(n:Int)(t:Tok),n∈is->Inv X pins U H s->dm a H→
 wpAny (model X.p X.w) X.A.p (call (.j q) [.u n t]) (EP X pins U λv H'=>v=.u (g n)/\dm H H') (λ_ _=>False) s
def bt.keep (h:bt X pins H b)(n:H' b=u0):bt X pins H' b:=⟨n,h.2⟩
def MR(T:p9 X U H0 q is g)(w:n∈is)(I:Inv X pins U H s)(e:dm H0 H)(j:bt X pins H S)(p:bt X pins H J)(f:s.j.p S=y0 oS)(d:s.j.p J=y0 oJ)(dS:∀v,oS.j≠.w v)(m:∀v,oJ.j≠.w v)
 (k:∀t' s' H',Inv X pins U H' s'->dm H0 H'->bt X pins H' S->bt X pins H' J->s'.j.p S=y0 oS->s'.j.p J=y0 oJ->Q (.u (g n) t') s'):
 wpAny (model X.p X.w) X.A.p (call (.j q) [.u n t]) Q E s:=by
 have r:=I.pinned (λb a=>by
  obtain rfl|a:=Aa8.j a
  .exact j
  .rwa [Ab8.j a])<|λb a=>by
  obtain rfl|a:=Aa8.j a
  .exact⟨_,f,dS⟩
  .rw[Ab8.j a];exact⟨_,d,m⟩
 refine L2 (T _ s H n t w r e) (λu s' o=>?_) λ_ _ z=>z.j;obtain⟨v,H',c,l,rfl,le⟩:=o;obtain⟨t',rfl⟩:=l;have i:=c.N _<|Aa7 _<|Aa7 _<|Zf Y9 f;have h:=c.N _<|Aa7 _<|Aa7 _<|Zf Y9 d;exact k t' s' H' c.bG (e.trans le) (j.keep i.2.1) (p.keep h.2.1) i.1 h.1
def BS(g:Int->Int):Option Int->Array Value->Prop
|none,a=>a=#[]
|some n,a=>∃t u,a=#[.u n t,.u (g n) u]
set_option backward.eqns.nonrecursive true in
def nW(g:Int->Int):Option Int->List Int->Int
|none,n::r=>gB g n r
|some n,r=>gB g n r
|_,_=>0
set_option tactic.hygienic true in
def IX(hh:X.A.j=u0)(T:p9 X U H0 q is g)(hl:bu X.K H0 l<|is.y .u)(hlJ:l≠J)(C:S≠J):∀(rest:List Int)(j:Nat)(y:Option Int)(bs:Array Value)(c:Nat)(s:Shared)(H:Hp),is.L j=rest->j<=is.e->(y=u0->rest≠[])->Inv X pins U H s->dm H0 H->bt X pins H S->bt X pins H J→
 s.j.p S=y0 (seqObj "list" bs c)->BS g y bs->s.j.IsListIter J l j->(∀t s' H',Inv X pins U H' s'->dm H0 H'->R (.ok<|.j<|.u (nW g y rest) t) s')->codeAny (model X.p X.w) X.A (.w "min.loop" ⟨[.j J,.j q,.j S],[]⟩) R s:=by
 have d:(toString "min"++toString ".loop":String)="min.loop":=by decide
 intro rest;induction rest with
|nil=>
  intro j y bs c s H hd hj hn I O fS fJ Q a G hR;cases y with
 |none=>exact absurd rfl<|hn rfl
 |some nb=>
  obtain⟨tv,tb,rfl⟩:=a;obtain⟨f,rv,pl,-⟩:=I.list<|hl.le O;have il:f.e=is.e:=by rw[←rv.e,Aa4]
  have W:=Walks.list (prog:=X.p) (w:=X.w) (A:=X.A.p) hh J l hlJ f.j;refine SM UA ?_;rw[Th SO _];show wpAny _ X.A.p _ _ _ _;refine AC<|SS Q rfl ?_;show wpAny _ X.A.p (tryCatch (pyNext<|.j J) _>>=_) _ _ _;refine AC<|TV<|W.done _ _ _ ⟨by rw[Ab7,il,←(Nat.le_antisymm hj<|List.drop_eq_nil_iff.j hd)];exact G,pl.Q⟩ λN E k=>?_;have D:=k S _ (by simpa using C) Q;have s1:=Af5.update N S<|Obj.mapSeq λ_=>(#[]:Array Value);show wpAny _ X.A.p (updateSeq S (λ_=>#[])>>=_) _ _ _;refine AC<|Uu D rfl<|AC<|Tu<|Do ?_;have I1:Inv X pins U H {s with heap:=N,toks:=E}:=I.cc (ch:=[J]) k λb a=>by rwa [Ab8.j a]
  exact hR _ _ _ (I1.cc (ch:=[S]) (λb o a e=>(s1.2 b<|by simpa using a).x e) λb a=>by rwa [Ab8.j a]) O
|cons n rest ih=>
  intro j y bs c s H hd hj hn I O fS fJ Q a G hR;obtain⟨f,rv,pl,-⟩:=I.list<|hl.le O;have il:f.e=is.e:=by rw[←rv.e,Aa4]
  have en:is[j]?=y0 n:=by have:=congrArg (·[0]?) hd;simpa using this
  have M:j<is.e:=(Ab3.j en).1;have W:=Walks.list (prog:=X.p) (w:=X.w) (A:=X.A.p) hh J l hlJ f.j;refine SM UA ?_;rw[Th SO _];show wpAny _ X.A.p (seqItems? (.j S)>>=_) _ _ _;refine AC<|SS Q rfl ?_;show wpAny _ X.A.p (tryCatch (pyNext<|.j J) _>>=_) _ _ _;refine AC<|TV<|W.item j _ _ _ (by rwa [Ab7,il]) ⟨G,pl.Q⟩ λv N E hP hst' k=>?_;obtain⟨u,hu,ru⟩:=rv.get (i:=j) (x:=.u n) (by rw[Ad,en];rfl);obtain⟨p,rfl⟩:=ru;obtain rfl:v=.u n p:=by
   have:f[j]?=y0 v:=by simpa using hP
   rw[hu]at this;exact(Ae3.inj this).I
  obtain⟨oJ,hoJ,V,F⟩:=id hst'.1;have I1:Inv X pins U H {s with heap:=N,toks:=E}:=I.cc (ch:=[J]) k λb a=>by rwa [Ab8.j a]
  have D:N.p S=y0 _:=k S _ (by simpa using C) Q;show wpAny _ X.A.p (tryCatch (holding [.u n p]<|call (.j q) [.u n p]) _>>=_) _ _ _;refine AC<|TV<|IR<|MR T (Ag2 en) I1 O fS fJ D hoJ (λv z=>by cases z) (λv z=>by rw[F]at z;cases z) λB s2 H2 I2 hH2 fS2 Z m Y=>?_;have L:is.L (j+1)=rest:=by have:=congrArg List.tail hd;simpa[Yf]using this
  have s1:=Af5.update s2.j S<|Obj.mapSeq λ_=>#[.u n p,.u (g n) B];obtain⟨c2,hc2⟩:∃c2,(s2.j.B S<|Obj.mapSeq fun _=>#[.u n p,.u (g n) B]).p S=y0 (seqObj "list" #[.u n p,.u (g n) B] c2):=⟨_,V6 m fun _=>#[.u n p,.u (g n) B]⟩;have K:=λ(he:nW g y (n::rest)=nW g (y0 n) rest)=>ih (j+1) (y0 n) _ c2 {s2 with heap:=_} H2 L M (λz=>nomatch z) (I2.cc (ch:=[S]) (λb o a e=>(s1.2 b<|by simpa using a).x e) λb a=>by rwa [Ab8.j a]) hH2 fS2 Z hc2 ⟨_,_,rfl⟩ ⟨oJ,(s1.2 J C.I).x Y,V,F⟩ λt s' H' I' l'=>he▸hR t s' H' I' l';cases y with
|none=>cases a;show wpAny _ X.A.p (updateSeq S (λ_=>#[.u n p,.u (g n) B])>>=_) _ _ _;refine AC<|Uu m rfl ?_;rw[d];exact Do ⟨TB SO _,K rfl⟩
|some nb=>
   obtain⟨tv,tb,rfl⟩:=a;show wpAny _ X.A.p (tryCatch (holding [.u n p,.u (g n) B]<|richCompare .Lt (.u (g n) B) (.u (g nb) tb)>>=_) _>>=_) _ _ _;refine AC<|TV<|IR<|AC<|CmpOf.ints_lt (prog:=X.p) (w:=X.w) (A:=X.A.p) (P:=λ(i:Nat) v=>∃t,v=.u (if i=0 then g n else g nb) t) (λi=>if i=0 then g n else g nb) (λi v h=>h) 0 1 _ _ _ _ _ ⟨B,rfl⟩ ⟨tb,rfl⟩<|AC<|IR<|SA ?_;refine AC<|Tu<|Do ?_;show wpAny _ X.A.p (if u9 (g n<g nb)=k9 then _ else _) _ _ _;by_cases r:g n<g nb
   .rw[Fk<|On r];refine AC<|Uu m rfl<|AC<|Tu ?_;rw[d];exact Do ⟨TB SO _,K<|Fk r⟩
   .rw[FB<|by rw[FS r];exact Ab0];refine AC<|Tu ?_;rw[d];refine Do ⟨TB SO _,ih (j+1) (y0 nb) _ c _ H2 L M (λz=>nomatch z) I2 hH2 fS2 Z m ⟨_,_,rfl⟩ ⟨oJ,Y,V,F⟩ λt s' H' I' l'=>?_⟩;have:=hR t s' H' I' l'
    rwa [nW,gB,FB r]at this
def RO(h:X.A.j=u0)(T:p9 X U H q (n::is) g)(I:Inv X pins U H s)(f:bu X.K H l<|(n::is).y .u)(i:∀t s' H',Inv X pins U H' s'->dm H H'->Q (.u (gB g n is) t) s'):
 wpAny (model X.p X.w) X.A (call (.w "min") [.j l] [(Str.ofString "key",.j q)]) Q E s:=by
 have c:(toString "min"++toString ".loop")="min.loop":=by decide
 obtain⟨j,rv,pl,-⟩:=I.list f;have a:=pl.Q;obtain⟨m,d,_⟩:=id a;refine kmk_tree PySem.F.kind_min PySem.F.plain_min PySem.F.entry_min (kmk_min_key _ _)<|AC<|Tf (show Builtin.Builtins.bindParams "min" ["key","default"] 0 ⟨[],[_]⟩=pure [some _,none]from rfl) ?_;refine AC<|Do<|AC<|S2 a ?_;refine AC<|UY ?_<|Ag _;have k:(s.j.w {cls:=.p "list_iterator",data:=.p #[.j l,.u 0 0]}).j.j=s.j.j.j+1:=size_push' ..;exact Do ⟨TB SO _,IX h T f (Ab5<|Aa9 d) Y9 _ 0 u0 _ _ _ H rfl (Ag _) (λ_ z=>nomatch z) (I.kept λb u e=>Aa _<|Aa _ e) dm.refl (I.dT Y9<|I.aF.U Y9) (I.dT (Aa3 _)<|I.aF.U<|Aa3 _) (Aa5 _ rfl) rfl ⟨_,Aa _<|Aa5 _ rfl,rfl,rfl⟩ i⟩
end
def MM(K:Aa1)(sp:Sp)(E:XK)(a:TE):TE:=λU H Q=>a U H λx H1=>∃(l:Addr)(n:Int)(is:List Int)(g:Int->Int),x=.j l/\bu K H1 l ((n::is).y .u)/\(∀m∈n::is,∀H2,dm H1 H2->sp [.u m] H2 (λv H3=>v=.u (g m)/\dm H2 H3) E)/\∀H2,dm H1 H2->Q (.u<|gB g n is) H2
section
variable{X:Cx}{CX:eB}{k:Nat}{f:Addr}{fd:FuncData}{ps:List Str}{sp:Sp}{E:XK}{x fn:Str}{p p2 kp pos:Pos}{e:Expr}{te:TE}
def Fm(hc:X.calm=true)(hg:Gl X x)(S:X.mg x=none)(Y:bootBuiltins x=some (.w "min"))(F:aX X.p X.w X.K X.mg X.base CX k f fd ps sp)(hr:aB (k+1) X.A)(A:Gl X fn)(D:X.mg fn=some (.j f))(hb:Binds X.K fd ps [])
 (T:∀outer H s e s',¬CX outer H s E e s')(he:PE X e te)(hn:x≠"__name__":=by decide)(B:(x==("__debug__":Str))=false:=by decide)(o:(fn==("__debug__":Str))=false:=by decide)
 (y:starEach [e] X.j=(y9,eval e X.j)::starEach [] X.j:=by rfl):PE X (.w (.p x p) [e] [⟨y0<|Str.ofString "key",.p fn p2,kp⟩] pos)<|MM X.K sp E te:=by
 intro a s U H Q I h;refine Pv<|Zm I hg S Y ?_ hn B;have ha:=qc he Jf y;have hk:PK X [⟨y0<|Str.ofString "key",.p fn p2,kp⟩]<|sx (tC<|.j f) mB:=Dm (Jp A D rfl o) MQ;have M:=ha pos a s U H (λj i=>match j with
|[v]=>∃l n is g,v=.j l/\bu X.K i l ((n::is).y .u)/\(∀m∈n::is,∀b,dm i b->sp [.u m] b (λv H3=>v=.u (g m)/\dm b H3) E)/\∀b,dm i b->Q (.u<|gB g n is) b
|_=>False) I h
 .refine xX (by rw[y];rfl) ?_;rw[y]at M⊢;refine evalArgs_kw rfl<|aD M ?_;rintro us s1 ⟨j,i,L,r1,O⟩;obtain⟨v,rfl⟩:∃v,j=[v]:=by
   match j,O with
|[v],_=>exact⟨v,rfl⟩
  obtain⟨l,n,is,g,rfl,hl,C,Z⟩:=O;refine aD (hk pos a s1 U i (λJ b=>J=[.j f]/\b=i) L ?_) λws s2 ⟨J,b,I2,rz,ez,eH⟩=>?_
  .exact⟨rfl,rfl⟩
  subst ez eH;obtain⟨u,rfl,P⟩:=r1.one;obtain⟨w,rfl,G⟩:=rz.one;obtain rfl:u=.j l:=P;obtain rfl:w=.j f:=G;refine RO (L.p.hd hc) (λa s H d t q I W=>?_) I2 hl λt s' K R l'=>⟨.u _,K,R,⟨_,rfl⟩,Z K l'⟩;have c:=C d q H W;have N:Vals [V.int d] [Value.int d t]:=.j ⟨_,rfl⟩ .p;refine SX<|SL (F.run X.A.p X.B s H ⟨[.u d t],[]⟩ [.u d t] [.u d] _ E hr.in1 I.ej.in1 (hb s [.u d t] I.bg<|by rw[Ac4,←N.e];exact F.len _ _ _ _ c) N c) λr s' z=>?_;cases r with
|error e=>exact T _ _ _ _ _ z
|ok fl=>
   cases fl with
|ret u=>exact I.after z
|_=>exact False.elim z
end
noncomputable def Cx.ec (X:Cx)(x:Addr):Cx:={X with A:=X.A.mark<|y0<|.j x,calm:=y9,xe:=λ_ _=>False}
section
variable{X:Cx}{pins:List<|Addr×Obj}{U:St}{H:Hp}{s:Shared}{x:Addr}
theorem Inv.ec (I:Inv X pins U H s)(x:Addr):Inv (X.ec x) pins U H s:=
 ⟨⟨I.p.mod,I.p.kind,I.p.glob,I.p.blt,I.p.above,I.p.inj,I.p.has,I.p.lQ,(λz=>nomatch z),I.p.frames,I.p.fA,I.p.mj,I.p.bs,I.p.f7,I.p.fj,I.p.fu,I.p.cJ,I.p.ia⟩,I.os,I.bare,I.y,I.loc,I.cell,I.free,I.bj,I.N,I.aF,I.len⟩
def Inv.gg (ok:X.Ok)(I:Inv (X.ec x) pins U H s):Inv X pins U H s:=⟨ok,I.os,I.bare,I.y,I.loc,I.cell,I.free,I.bj,I.N,I.aF,I.len⟩
end
def r9(K:Frag)(W:Addr)(a:Nat)(th:TS)(D:jH)(U:St):XK:=λcls b H2=>∃C,cls=.j C/\iP K C/\kitCls K (.j C) (.j W)=y0 k9∧
 ∀x,H2 x=u0->th {nx:=λc H'=>D.nx (c.B a u0) H',rt:=λ_ _=>False} (U.B a<|y0<|.j x) (ax H2 x<|hJ x C b)
def px(X:Cx)(E0:Value->Shared->Prop)(d:List ExceptHandler)(a:List<|Addr×Obj)(D:jH)(b:Value)(e:Shared):Prop:=
 wpAny (model X.p X.w) X.A (noteFrame b X.j) (λ_ c=>wpAny (model X.p X.w) X.A (setFlight b u0) (λ_ f=>wpAny (model X.p X.w) X.A (handleBy b X.j d) (SP X a D) E0 f) E0 c) E0 e
abbrev sr(X:Cx)(a:List<|Addr×Obj)(D:jH)(b:List ExceptHandler):=px X X.xe b a D
def oQ{E:Value->Shared->Prop}{m c:Shared}(e:X.B=X.j::X.G)(w:X.j.B=y0 X.j.j)(r:Inv X pins U H1 m)(v:c.os=m.os)(l:AllBare c.w)(s:Ae6 B X.B x C0 tt c.j)(un:Un (bA X.B) [] H1 H' m.j c.j)(p:ck X.p X.w H' c.j)
 (comp:∀b o,c.j.p b=y0 o->((∃u,H' b=y0 u)\/∃u,m.j.p b=y0 u)->b∉bA X.B->B.p b=y0 o)
 (k:∀j,Ae6 B (X.j::X.G) x C0 tt j->c.j.y j->DK c.j j->Inv X pins U H' {c with heap:=j}->Q () {c with heap:=j}):
 wpAny (model X.p X.w) X.A (noteFrame (.j x) X.j) (λ_=>wpAny (model X.p X.w) X.A (setFlight (.j x) u0) Q E) E c:=by
 rw[e]at s;refine wR (R:=λf=>Al7 B _ x C0 tt X.j.j f/\c.j.y f) (tR _ _) (λt k=>wpAny_looks_onW (by rw[←e];exact r.p.frames) w s λf a b=>k f ⟨a,b⟩) λf ⟨g,h⟩ n=>wR (R:=λj=>Ae6 B _ x C0 tt j/\f.y j) (ju _ _) (λt k=>wpAny_landsW g λj a b=>k j ⟨a,b⟩) ?_;rintro j ⟨d,i⟩ q;exact k j d (h.trans i) (n.trans q)<|x9 r v l un p comp d.1 (by rw[e];exact d.2.2.1)<|h.trans i
def zB(a:Inv X pins U H s)(g:Gl X wx)(e:X.mg wx=some (.j W))(c:(wx==("__debug__":Str))=false)(d:mroIn X.K W (.p "BaseException")=some true)(ex:ExcAt s.j x C)(f:kitCls X.K (.j C) (.j W)=some b)(k:R (.ok<|if b then .brk else .next) s):
 codeAny (model X.p X.w) A (.handlers (.j x) [.j (y0<|.p wx wq) u0 [] hp] X.j) R s:=
 codeAny_handlers_test<|Ti a.p.kind g (Uk (by rw[a.p.glob];exact a.mod.glob.keeps a.bk) e<|x5 a.bg ex f d k) c
def zF{g c:Shared}(i:X.B=X.j::X.G)(q:Inv X pins U H1 g)(p:c.os=g.os)(e:AllBare c.w)(un:Un (bA X.B) [] H1 H' g.j c.j)(n:ck X.p X.w H' c.j)
 (comp:∀b o,c.j.p b=y0 o->((∃u,H' b=y0 u)\/∃u,g.j.p b=y0 u)->b∉bA X.B->B.p b=y0 o)(h:Ae6 B (X.j::X.G) x C0 tt h5)(m:c.j.y h5)
 (k:∀j,Ae6 B (X.j::X.G) x C0 tt j->h5.y j->DK h5 j->Inv X pins U H' {c with heap:=j}->Q () {c with heap:=j}):wpAny M A (setFlight (.j x) u0) Q E {c with heap:=h5}:=by
 refine wR (R:=λj=>Ae6 B (X.j::X.G) x C0 tt j/\h5.y j) (ju _ _) (λr k=>lands_againW h λj a b=>k j ⟨a,b⟩) ?_;rintro j ⟨d,f⟩ l;exact k j d f l<|x9 q p e un n comp d.1 (by rw[i];exact d.2.2.1)<|m.trans f
def uS{a d:Shared}(h:Inv X pins U H1 a)(i:Ae6 B X.B x C0 tt d.j)(c:ck X.p X.w H' d.j)(comp:∀b o,d.j.p b=y0 o->((∃u,H' b=y0 u)\/∃u,a.j.p b=y0 u)->b∉bA X.B->B.p b=y0 o)(new:a.j.p x=u0):H' x=none:=by
 cases z:H' x with
|none=>rfl
|some u=>
  obtain⟨o,g⟩:=(c x u z).there;have f:=comp x o g (.p ⟨u,z⟩) λhx=>by obtain⟨_,j,e,_⟩:=h.stack.mem hx;rw[new]at e;cases e
  rw[i.2.1]at f;cases f
def Nq
 (r:X.B=X.j::X.G)(hf:X.j.B=some X.j.j)(G:X.ex=[])(hW:Gl X wx)(H:X.mg wx=some (.j W))(t:mroIn X.K W (.p "BaseException")=some true)(N:X.N.N)(j:X.N[ie]?=some n)(f:X.j.p.j.p n=some .local)
 (E:(wx==("__debug__":Str))=false)(hb:b≠[])(hS:∀x,cE (X.ec x) b th)
 (h:Inv X pins U H1 s1)(hq:bc X.p X.w X.B H1 s1 (r9 X.K W ie th D U) ev s'):sr X pins D [.j (y0<|.p wx wq) (y0 n) b O] ev s':=by
 obtain⟨b0,b,rfl⟩:=T2 hb;obtain⟨x,C0,tt,B,H',od,rfl,P,d,s,un,g,comp,new,w,C,hC,Z,T,Y⟩:=hq;cases hC;refine oQ r hf h P d s un g comp λh5 i A F I5=>?_;refine Tj (zB I5 hW H E t (i.there) T<|codeAny_handlers_suite_as ?_)<|λz=>nomatch z;refine zF r h P d un g comp i A λh6 I sm6 L I6=>?_;have l:=uS h s g comp new;have a:∀b o,s1.j.p b=y0 o->b≠x:=λb o z e=>by rw[e,new]at z;cases z
 obtain⟨o6,S,M,c6,V,_⟩:=I.first;refine Ws (by
   refine I6.gF l (λz=>?_) (λy c z=>?_) (λp O=>?_) (λb u z=>?_)<|F3 M c6 (by unfold notCls;rw[V]) λdx z=>?_
   .obtain⟨m,⟨o,_,_,k,_⟩,_⟩:=h.loc;exact a _ o k z.I
   .obtain⟨_,o,k,_⟩:=h.cell y c z;exact a c o k
   .exact a p.1 _ (h.N p O).1
   .obtain⟨o,k⟩:=h.y.there b u z (by rw[G];simp);exact a b o k
   .obtain⟨o,e0,d0⟩:=w.1 dx z;obtain⟨o',e1,d1⟩:=(F.trans L) x o e0;have:=M.I.x e1;cases this;exact d1.1.x d0) N j (.p f) (v:=.j x) rfl (λs8 Q=>L2 (hS x pins s8 _ _ _ (Q.ec x)<|Y x l) (λs s9 z=>?_) λ_ _ z=>False.elim z)<|.w f
 cases s with
|next=>obtain⟨U',H',J,q⟩:=z;exact Ha (J.gg Q.p) N j f λR K=>⟨_,_,K,q⟩
|ret u=>obtain⟨_,_,_,_,_,q⟩:=z;exact q.j
|brk=>obtain⟨_,_,_,q⟩:=z;exact q.j
|cont=>obtain⟨_,_,_,q⟩:=z;exact q.j
open PySem PySem.Spec PySem.Calls PySem.W PyProof.Rows Builtin
def XM:entryFor table "proto.unchain"=some Builtin.«proto.unchain»:=entryFor_of_fast<|by kernel_rfl
section
variable{prog:Program}{w:World}{A:Around}{E:Value->Shared->Prop}{s:Shared}{x e:Addr}{ox oe:Obj}{vs us:Array Value}
def zv(b:A.j=y0 (.j x))(d:s.j.p x=y0 ox)(c:ox.j=.p vs)(h2:vs[2]?=y0 .y)(ne:x≠e)(g:s.j.p e=y0 oe)(a:oe.j=.p us)(f:2<us.j)
 (h:E (.j e) {s with heap:=s.j.B e (Obj.mapFields (·.y 2<|.j x))}):wpAny (model prog w) A (raiseNew<|.j e:Sem α) Q E s:=by
 refine AC<|wpAny_handled ?_;rw[b];dsimp only;rw[Fk<|show _=k9 by simp[ne]];refine AC<|IR<|UH<|SM XM ?_;refine AC<|Re d c h2 ?_
 wp_walk
 rw[a];dsimp only;rw[Fk f];exact wpAny_update g<|VO h
end
noncomputable def Ox(C t:Addr)(a:Option Addr)(x:Addr):Obj:={cls:=.j C,dict:=a,data:=.p #[.j t,.y,.j x,.y,.B k9,.y]}
def Rh{prog:Program}{w:World}{A:Around}{E:Value->Shared->Prop}{s:Shared}{env:Env}{v:Sem Value}{K:Frag}{C x:Addr}{k:Nat}{p pos:Pos}{Q:Flow->Shared->Prop}(I:jY K C=k9)(q:A.j=y0 (.j x))
 (h:wpAny (model prog w) A v (λv j=>∃e t O ox vs,v=.j e/\K.In j.j/\j.j.p e=y0 (fV C t O)/\j.j.p x=y0 ox/\ox.j=.p vs/\vs[2]?=y0 .y/\x≠e/\C≠e∧
   ∀h',(∀b o,b≠e->j.j.p b=y0 o->h'.p b=y0 o)->h'.p e=y0 (Ox C t O x)->E (.j e) {j with heap:=h'}) E s):wpAny (model prog w) A (raiseStmt env (y0 v)<|y0<|do let v←eval (.y .y k p) env;standAt pos;pure v) Q E s:=by
 unfold raiseStmt;refine AC<|L2 h (λv j G=>?_) λ_ _ x=>x;obtain⟨e,t,O,ox,vs,rfl,X,y,hx,D,u,ne,V,r⟩:=G;obtain⟨H,S,N,P,bs,B,R,sub,J,F,dd,W,L,U,Y,Z,m,-,-,T⟩:=Zn X I;have f:(Value.ref C::H).w (.p "BaseException")=true:=by rw[Aj9,T.hasType PySem.F.excBase_ValueError.hasBase,Uc]
 have c:j.j.p e=y0 {cls:=.j C,dict:=O,data:=.p #[.j t,.y,.y,.y,.B y9,.y]}:=y;obtain⟨i,g,d,tk,M⟩:=j;refine AC<|IR<|AC<|wpAny_Constant_none<|AC<|SG<|Do<|AC<|Do ?_
 repeat (first|with_reducible refine SV c ?_|with_reducible refine SV m ?_|(with_reducible refine TQ m ?_;rw[f])|wp_step)
 have l:=Ad1 (Obj.mapFields (·.y 4<|Value.bool k9)) (Ad1 (Obj.mapFields (·.y 3 Value.none)) c rfl) rfl;have n:∀b o,b≠e->i.p b=y0 o->((i.B e (Obj.mapFields (·.y 3 Value.none))).B e (Obj.mapFields (·.y 4<|Value.bool k9))).p b=y0 o:=λb o a z=>by rw[Ad2 _ _<|Ne.symm a,Ad2 _ _<|Ne.symm a];exact z
 exact zv q (n x ox ne hx) D u ne l rfl Y9 (r _ (λb o a z=>by rw[Ad2 _ _<|Ne.symm a];exact n b o a z) (Ad1 (Obj.mapFields (·.y 2<|Value.ref x)) l rfl))
section
variable{X:Cx}{pins:List<|Addr×Obj}{U:St}{H:Hp}{s:Shared}
def Inv.left (I:Inv X pins U H s)(d:H e=y0 (.ext φ))(k:∀b u,b≠e->s.j.p b=y0 u->h'.p b=y0 u)(z:h'.p e=y0 o):Inv X pins U (gO H e) {s with heap:=h'}:=by
 have f:=I.write (o:=.ext λh=>h.p e=y0 o) (t':=s.p) (by rw[d];exact True.intro) (.p rfl) k ⟨_,z⟩ ⟨z,⟨_,z⟩,λ_ _ z k=>k _ z⟩;have c:=f.forget Xa;have eq:gO (ax H e<|.ext λh=>h.p e=y0 o) e=gO H e:=by
  funext b;by_cases a:b=e
  .rw[a,Wz,Wz]
  .rw[zZ a,zZ a,Ja a]
 rwa [eq]at c
def Inv.twice (I:Inv X pins U (ax H dx<|.xd [p]) s):Inv X pins U (ax H dx<|.xd [p,p]) s:=by
 have ne:∀b o,ax H dx (.xd [p]) b=y0 o->(∀fs,o≠.xd fs)->ax H dx (.xd [p,p]) b=y0 o:=λb o q n=>by
  by_cases d:b=dx
  .rw[d,Xa]at q;cases q;exact absurd rfl<|n _
  .rw[Ja d]at q⊢;exact q
 have nn:∀b,ax H dx (.xd [p]) b=u0->ax H dx (.xd [p,p]) b=none:=λb q=>by
  by_cases d:b=dx
  .rw[d,Xa]at q;cases q
  .rw[Ja d]at q⊢;exact q
 refine⟨I.p,I.os,I.bare,⟨I.y.keep,I.y.slot,λb u e n hx=>nn b<|I.y.free b u e n hx,I.y.there,λb g q=>ne b _ (I.y.cV b g q) (λ_ z=>by cases z),λb u v q=>ne b _ (I.y.cM b u v q)<|λ_ z=>by cases z⟩,
  I.loc,I.cell,nn _ I.free,λy c q=>nn _<|I.bj y c q,λp h=>?_,λb u q=>?_,I.len⟩
 .obtain⟨i,a2,a3⟩:=I.N p h;exact⟨i,nn _ a2,a3⟩
 .by_cases d:b=dx
  .rw[d,Xa]at q;cases q;obtain⟨k,l,j⟩:=I.aF dx _ Xa;refine⟨k,by rw[d];exact l,λf=>?_⟩;have:=j f;obtain⟨a,b⟩:=p;simp[Ag6]at this⊢;cases q:f==a<;>rw[q]at this<;>exact this
  .rw[Ja d]at q;exact(I.aF b u<|by rwa [Ja d]).c9 (λ_ _ _ z=>z)<|λc z=>ne c _ z<|λ_ z=>by cases z
end
section
variable{prog:Program}{w:World}{A:Around}{E:Value->Shared->Prop}{s:Shared}{x t:Addr}{ox:Obj}{vx:Array Value}
def Oz(q:A.j=y0 (.j x))(p:s.j.p x=y0 ox)(g:ox.j=.p vx)(h2:vx[2]?=y0 .y)(d:x≠it)
 (c:s.j.G it t i)(v:s.j.K t y8)(l:y8[i]?=u0)
 (r:∀h',Ak6 it s.j h'->Q u0 {s with heap:=h'}):wpAny (model prog w) A (pyNext<|.j it) Q E s:=by
 obtain⟨o,f,C,j⟩:=id c;obtain⟨B,h,_,y,e⟩:=v;unfold pyNext;refine AC<|Tz<|SE c.typeIs TF
 <|SF TF c.typeIs PySem.F.entry_tuple_iterator_next ?_<|PySem.F.args_tuple_iterator_next_1 _
 show wpAny _ _ (field (.j it) 0>>=_) _ _ s;refine AC<|Re f j (x:=.j t) rfl ?_;show wpAny _ _ _ _ _ s;rw[FB<|show¬((Value.ref t==Value.none)=k9)from Ab0];show wpAny _ _ _ _ _ s;refine AC<|Re f j rfl ?_;show wpAny _ _ _ _ _ s;refine AC<|SS h e ?_;simp only[Af1,l];refine AC<|UO<|AC<|TU f j Y9 ?_;show wpAny _ _ _ _ _ _;refine AC ?_;simp only[newExc,newTuple];refine AC<|S1 ?_ (by size_fits);refine AC<|Tf (a:=Value.none) (by first|rfl|(simp only[firstArgMember];rfl)) ?_;refine S1 ?_ (by size_fits);have m:∀b u,b≠it->s.j.p b=some u->((s.j.B it (Obj.mapFields (·.y 0 Value.none))).w {cls:=.p "tuple",data:=.j ([]:List Value).j}).p b=some u:=fun b u k z=>Aa _ (by rw[Heap.get?_update_other _ _<|Ne.symm k];exact z);refine zv q (Aa _<|m x ox d p) g h2 (Ab5<|Aa9<|m x ox d p) (Aa5 _ rfl) rfl (by simp;exact SB _ _) ?_;refine AC<|VY ⟨_,Ad1 _ (Aa5 _ rfl) rfl,rfl⟩ isSubtype_stop ?_;refine Do<|r _ λb u k z=>?_;have n:=m b u k z;rw[Ad2 _ _<|Aj3<|Aa9 n];exact Aa _ n
def MB(p:A.j=y0 (.j x))(n:s.j.p x=y0 ox)(k:ox.j=.p vx)(h2:vx[2]?=y0 .y)(h:s.j.K t y8)
 (r:∀h',Ak6 s.j.j.j s.j h'->Q y8.p {s with heap:=h'}):wpAny (model prog w) A (unpackItems (.j t) y8.j u0) Q E s:=by
 have i:t≠s.j.j.j:=by obtain⟨o,q,_⟩:=h;exact Ab5<|Aa9 q
 have f:=Ab5<|Aa9 n;refine AC<|AC<|Ut h.typeIs PySem.F.slot_tuple_iter.p ?_;refine Do<|AC<|IR<|Td h ?_;refine AC<|IR<|wpAny_draw_tuple i y8.j 0 _ _ ⟨_,Aa5 _ rfl,rfl,rfl⟩ (h.push _) Y8 λl c a=>?_;have g:List.take y8.j (List.drop 0 y8.p)=y8.p:=by rw[Am1];exact Ag0 Y9
 rw[g,FB Y9];refine AC<|IR<|Oz p (a.A x ox f<|Aa _ n) k h2 f c ((h.push _).extBut a.A i) Y9 λj d=>?_;exact Do<|r j λb o m e=>d b o m<|a.A b o m<|Aa _ e
end
def lU(X:Cx):Prop:=∃x ox vx,X.A.j=y0 (.j x)/\ox.j=.p vx/\vx[2]?=y0 .y/\∀pins U H s,Inv X pins U H s->s.j.p x=y0 ox
def IA(B:lU X)(h:kz X es t)
 (q:(assignEach es X.j).e=n:=by rfl)(f:(assignEach es X.j).findIdx? (·.1)=none:=by rfl):PG X (.L es k pos)<|A2 X.K n t:=by
 intro c s U H v u Q I r d;obtain⟨a,i,y,m,z,d⟩:=d;subst y;cases r;obtain⟨g,rv,w,D⟩:=I.tuple m;obtain⟨x,E,F,A,p,j,l⟩:=B;refine AC<|SG ?_;unfold unpack;rw[show(assignEach es X.j).e=g.j.j by simp[q,←z,rv.e],f];exact AC<|IR<|MB A (l c U H s I) p j w λC hx=>h c _ U H i _ Q (I.kept λb o e=>hx b o (Ab5<|Aa9 e) e) (by simp_all) d
def l6(A:Around)(a:List Env)(s:Shared)(H:Hp):Prop:=∃x ox vx,A.j=y0 (.j x)/\ox.j=.p vx/\vx[2]?=y0 .y/\s.j.p x=y0 ox/\H x=u0/\x∉bA a
structure kO(P:Program)(w:World)(K:Frag)(mg:Str->Option Value)(base:Heap)(CX:eB)(k:Nat)(f:Addr)(fd:FuncData)(ps:List Str)(sp:Sp):Prop where
 len:∀vs H Q E,sp vs H Q E->vs.e=ps.e
 run:∀(A:Around)(outer:List Env)(s:Shared)(H:Hp)(args:Args)(us:List Value)(vs:List V)(Q:VK)(E:XK),aB k A->cX P w K mg base A outer s H->l6 A outer s H->BindsTo s fd args (ps.a1 us)->Vals vs us->sp vs H Q E→
  codeAny (model P w) A (.j (.j f) args) (CR CX outer P w H s Q E) s
def RD{K:Frag}(h:l6 A outer s H):lU<|qp CX P w K mg base N u8 scope f cd A outer s H E:=by obtain⟨x,b,e,c,i,d,j,k,g⟩:=h;exact⟨x,b,e,c,i,d,λa U H s I=>I.y.keep x b j k g<|by show x∉[];simp⟩
def K6{K:Frag}{g kV c h a ct j:Value}
 (i:K.p f=y0 ⟨j,od,.func<|Ai9 name u8 params body scope g kV c h an a ct,osl⟩)(e:Al K a u8=k9)(S:Wk N ps scope)
 (len:∀vs H Q E,sp vs H Q E->vs.e=ps.e)
 (b:∀A outer s H vs Q E,aB k (A.w<|envOfC u8 scope s.j.j.j f a)->l6 A outer s H->sp vs H Q E→
   ∃t,cE (qp CX P w K mg base N u8 scope f a A outer s H E) body t/\t {nx:=λ_ H'=>Q .ai H',rt:=Q} (Wx N vs) H):
 kO P w K mg base CX (k+1) f (Ai9 name u8 params body scope g kV c h an a ct) ps sp:=⟨len,λ_ _ _ _ _ _ _ _ _ m o l n r d=>BI i e S (len _ _ _ _ d) m o n r λz=>b _ _ _ _ _ _ _ z l d⟩
def gK.Dp {K:Frag}{st:Stmt}(F:gK K x u8 st f fd)(S:Wk N ps<|Jd st)(len:∀vs H Q E,sp vs H Q E->vs.e=ps.e)
 (a:∀j A outer s H vs Q E,aB k (A.w<|envOfC u8 (Jd st) s.j.j.j f j)->l6 A outer s H->sp vs H Q E→
   ∃t,cE (qp (bc P w) P w K mg base N u8 (Jd st) f j A outer s H E) (Xr st) t/\t {nx:=λ_ H'=>Q .ai H',rt:=Q} (Wx N vs) H):kO P w K mg base (bc P w) (k+1) f fd ps sp:=by
 obtain⟨n,l,kV,d,o,m,j,ct,i,rfl,e,b⟩:=F.ex;exact K6 e b S len λA outer s H vs Q E h g c=>a j A outer s H vs Q E h g c
def iO(X:Cx)(a:Addr)(e:Expr)(t:TA):Prop:=∀(ox:Obj)(vx:Array Value)(c:Pos)(pins:List<|Addr×Obj)(s:Shared)(U:St)(H:Hp)(Q:List V->Hp->Prop),Inv X ((a,ox)::pins) U H s->ox.j=.p vx->vx[2]?=y0 .y->t U H Q→
 wpAny (model X.p X.w) X.A (spliced<|backTo c<|starEach [e] X.j) (λus b=>∃vs H1,Inv X ((a,ox)::pins) U H1 b/\Vals vs us/\Q vs H1) X.xe s
def iO.imp (h:iO X xa e t)(k:∀U H Q,t' U H Q->t U H Q):iO X xa e t':=λg d f c s U H Q I a b q=>h g d f c s U H Q I a b<|k _ _ _ q
def R8(v:X.A.j=y0 (.j xa))(d:X.B=X.j::X.G)(R:X.j.B=y0 X.j.j)
 (F:kO X.p X.w X.K X.mg X.base (bc X.p X.w) k f fd ps sp)(M:aB k X.A)(K:Gl X fx)(w:X.mg fx=some (.j f))(L:keepIn X.K (.j f)=true)(N:Binds X.K fd ps [])(T:PA X (e::es) t)(j:(fx==("__debug__":Str))=false)
 (E:starEach (e::es) X.j=(y9,eval e X.j)::starEach es X.j)(i:(backTo cp<|starEach es X.j).C (·.1)=y9)(Z:starEach [.w (.p fx p) (e::es) [] cp] X.j=(y9,eval (.w (.p fx p) (e::es) [] cp) X.j)::starEach [] X.j):
 iO X xa (.w (.p fx p) (e::es) [] cp)<|λU H Q=>t U H λvs H1=>sp vs H1 (λy H2=>Q [y] H2) λ_ _ _=>False:=by
 intro A V c n s U H Q I b x h;show wpAny _ _ (spliced<|_::backTo c _) _ _ s;refine Tn<|Pv<|Wi I K w ?_ j;refine callWith_K I.p.mod.eQ L (aD (T cp _ s U H _ I h) ?_) E i;rintro m l⟨vs,H1,a,r,q⟩;refine⟨a.bg,?_⟩;have P:(m++[]).e=ps.e:=by rw[Ac4,←r.e];exact F.len _ _ _ _ q
 obtain⟨B,C,D,W,_⟩:=a.N _<|Aa7 _ Aa2;have J:l6 X.A X.B l H1:=⟨xa,A,V,v,b,x,B,C,λz=>by
  rw[d]at z;rcases Aa8.j (show xa∈X.j.j::bA X.G by unfold bA at z;rw[Ag8,R]at z;exact z)with z|z
  .exact D z
  .exact W z⟩
 refine SX<|SL (F.run X.A X.B l H1 ⟨m,[]⟩ _ vs _ _ M a.ej J (N l m a.bg P) (by simp_all) q) λres Y g=>?_;cases res with
|ok O=>
  cases O with
 |ret u=>obtain⟨y,H2,S,o,G⟩:=a.after g;exact Ts ⟨[y],H2,S,.j o .p,G⟩
 |_=>exact False.elim g
|error ev=>obtain⟨_,_,_,_,_,_,_,_,_,_,_,_,_,_,_,z⟩:=g;exact z.j
def eW(K:Frag)(W b:Addr)(a:Str)(E:XK)(t:TA)(U:St):XK:=λcls c H2=>∃C,cls=.j C/\iP K C/\kitCls K (.j C) (.j W)=y0 k9/\i6 c H2∧
 t U H2 λvs H3=>∃v,vs=[v]/\∀dx,H3 dx=u0->E (.j b) (y0 dx) (ax H3 dx<|.xd [(a,v),(a,v)])
def nU(X:Cx)(E:XK)(d:Addr)(a:Str)(t:TA)(b:List Stmt):Prop:=∀(c:Addr)(ox:Obj)(vs:Array Value)(pins:List<|Addr×Obj)(U:St)(H:Hp)(s:Shared)(Q:Flow->Shared->Prop),Inv X ((c,ox)::pins) U H s->ox.j=.p vs->vs[2]?=y0 .y→
 (t U H λvs H3=>∃v,vs=[v]/\∀dx,H3 dx=u0->E (.j d) (y0 dx) (ax H3 dx<|.xd [(a,v),(a,v)]))->wpAny (model X.p X.w) (X.A.mark<|y0<|.j c) (execs b X.j) Q X.xe s
def Rg
 (d:X.B=X.j::X.G)(hf:X.j.B=some X.j.j)(J:X.ex=[])(V:Gl X wx)(w:X.mg wx=some (.j W))(s:mroIn X.K W (.p "BaseException")=some true)
 (r:(wx==("__debug__":Str))=false)(hb:b≠[])(K:nU X E C2 fl t b)(i:∀hd,PassesOwnAt (model X.p X.w) (X.A.mark hd) X.A X.j X.xe)
 (h:Inv X pins U H1 s1)(N:bc X.p X.w X.B H1 s1 (eW X.K W C2 fl E t U) ev s'):
 wpAny (model X.p X.w) X.A (noteFrame ev X.j) (λ_ s2=>wpAny (model X.p X.w) X.A (setFlight ev u0) (λ_ s3=>wpAny (model X.p X.w) X.A (handleBy ev X.j [.j (y0<|.p wx wq) u0 b j]) Q X.xe s3) X.xe s2) X.xe s':=by
 obtain⟨b0,b,rfl⟩:=T2 hb;obtain⟨x,C0,tt,B,G,od,rfl,D,c,fl,un,f,comp,new,u,C,hC,Z,T,P,q2⟩:=N;cases hC;refine oQ d hf h D c fl un f comp λh5 g n A I5=>Tj (zB I5 V w r s g.there T ?_)<|λz=>nomatch z;refine UB<|zF d h D c un f comp g n λL fl6 sm6 l F=>?_;have a:∀b o,s1.j.p b=y0 o->b≠x:=λb o z e=>by rw[e,new]at z;cases z
 obtain⟨y,k,e6,H,Y⟩:=(u.2 P).dk<|A.trans l;have S:Inv X ((x,y)::pins) U G {s' with heap:=L}:=F.bD λp j=>by
  rcases Aa8.j j with rfl|j
  .refine⟨e6,(uS h fl f comp new),λz=>?_,λz=>?_,λv q=>by rw[show y.j=_ from H]at q;cases q⟩
   .obtain⟨m,⟨o,_,_,M,_⟩,_⟩:=h.loc;exact a _ o M z.I
   .have:x∈bA X.B:=by rw[d];exact Ah1.p<|by obtain⟨O,h1,R⟩:=Ah1.j z;exact⟨O,Aa0 _ h1,R⟩
    obtain⟨_,o2,I,_⟩:=h.stack.mem this;rw[new]at I;cases I
  .exact F.N p<|Aa7 _ j
 exact wpAny_passesOwnAt (i _)<|K x y k pins U G _ _ S H Y q2
def Rn(K:Frag)(W b:Addr)(c:Str)(E:XK)(a:TA)(sp:Sp)(t:TA):TS:=λD U H=>t U H λvs H1=>sp vs H1 (λy H2=>D.rt y H2)<|eW K W b c E a U
def Pf{X:Cx}{E:XK}{k:Nat}{f W K:Addr}{G:FuncData}{ps:List Str}{sp:Sp}{i g j:Str}{p C rp N R pos:Pos}{e:Expr}{es:List Expr}{t J:TA}{b:List Stmt}
 (n:X.B=X.j::X.G)(hf:X.j.B=some X.j.j)(l:X.ex=[])(Z:Gl X g)(B:X.mg g=some (.j W))(x:mroIn X.K W (.p "BaseException")=some true)
 (w:(g==("__debug__":Str))=false)(hb:b≠[])(O:nU X E K j J b)(m:∀hd,PassesOwnAt (model X.p X.w) (X.A.mark hd) X.A X.j X.xe)
 (F:aX X.p X.w X.K X.mg X.base (bc X.p X.w) k f G ps sp)(hr:aB k X.A)(hg:Gl X i)(Q:X.mg i=y0 (.j f))
 (hk:keepIn X.K (.j f)=true)(o:Binds X.K G ps [])(ha:PA (X.b6 λ_ _=>False) (e::es) t)(A:(i==("__debug__":Str))=false)(Y:starEach (e::es) X.j=(false,eval e X.j)::starEach es X.j)(v:(backTo C<|starEach es X.j).C (·.1)=false):
 PS X (.Try [.p (y0<|.w (.p i p) (e::es) [] C) rp] [.j (y0<|.p g N) u0 b R] [] [] pos)<|Rn X.K W K j E J sp t:=by
 intro c s U H D I h;refine Ue<|SR<|T3<|Pv<|Wi I hg Q ?_ A;refine callWith_K I.p.mod.eQ hk (L2 (ha C c s U H _ (I.b6 _) h) ?_ λ_ _ z=>False.elim z) Y v;rintro M L⟨T,V,a,r,q⟩;refine⟨a.bg,?_⟩;have a:=a.bE;refine SX<|SL (F.run X.A X.B L V ⟨M,[]⟩ _ T _ _ hr a.ej (o L M a.bg<|by rw[Ac4,←r.e];exact F.len _ _ _ _ q) (by simp_all) q) λres s' d=>?_;cases res with
|ok j=>
  cases j with
 |ret u=>obtain⟨y,S,I2,P,q2⟩:=a.after d;exact⟨y,U,S,I2,P,q2⟩
 |next=>exact False.elim d
 |brk=>exact False.elim d
 |cont=>exact False.elim d
|error ev=>exact Rg n hf l Z B x w hb O m a d
section
variable{P:Program}{w:World}{K:Frag}{mg:Str->Option Value}{base:Heap}{N:List Str}{u8:Str}{scope:Scope}{f:Addr}{cd:Value}{A:Around}{outer:List Env}{s:Shared}{H:Hp}{E:XK}
def NP(m:lq K C fl)(hi:findIn K (.j C) "__init__"=some (some<|.j fI))(Z:qK K fl fI fd ps)(O:mg x=some (.j C))(hg:Gl (qp (bc P w) P w K mg base N u8 scope f cd A outer s H E) x)
 (hr:∀B,aB 2<|(A.w<|envOfC u8 scope s.j.j.j f cd).mark B)(ha:∀j,iO (((qp (bc P w) P w K mg base N u8 scope f cd A outer s H E).b6 λ_ _=>False).ec j) j e t)
 (T:starEach [e] (envOfC u8 scope s.j.j.j f cd)=(false,eval e<|envOfC u8 scope s.j.j.j f cd)::starEach [] (envOfC u8 scope s.j.j.j f cd):=by rfl)(B:(x==("__debug__":Str))=false:=by decide):
 nU (qp (bc P w) P w K mg base N u8 scope f cd A outer s H E) E C fl t [.w (y0<|.w (.p x np) [e] [] cpos) (y0<|.y .y kc pc) pos]:=by
 intro j n J b U R W Q I c D h;refine SR ?_;have G:=(I.b6 λ_ _=>False).ec j;refine AC<|SG<|Rh m.cls rfl<|AC<|L2 (Pv<|Wi G hg O ?_ B) (λv s3 M=>AC<|SG<|Do M) λ_ _ x=>x;refine callWith_K I.p.mod.eQ m.kp (L2 (ha j n J cpos b W U R _ G c D h) ?_ λ_ _ z=>False.elim z) T rfl;rintro X l⟨vs,H2,d,r,v,S,q⟩;refine⟨d.bg,?_⟩;subst S;obtain⟨u,rfl,y⟩:∃u,X=[u]/\RelV v u:=by
  cases r with
|cons y r2=>cases r2;exact⟨_,rfl,y⟩
 have k:=(d.gg (I.b6 λ_ _=>False).p).bE;refine uE m hi Z (hr _) k y (λ_ _ I=>((I.b6 λ_ _=>False).ec j).ej) λs' dx i Y F=>?_;have a:=k.aF.U<|Ad5 _;have o:=(i.aF _ _ Xa).1;have ne:j≠l.j.j.j+1:=λz=>by have:=(i.N _<|Aa7 _ Aa2).2.1;rw[show(j,n).1=l.j.j.j+1 from z,Xa]at this;cases this
 have nC:C≠l.j.j.j+1:=λz=>by obtain⟨_,_,_,_,_,_,_,_,_,_,_,_,_,_,_,_,V,_⟩:=Zn k.bg m.cls;have lt:=Aa9 V;rw[z]at lt;exact Nat.not_succ_lt_self lt
 refine⟨_,l.j.j.j,y0 dx,n,J,rfl,i.bg,o,((i.N _<|Aa7 _ Aa2).1),c,D,ne,nC,λh' kp g=>?_⟩;have L:=i.left Xa kp g;rw[yG F a]at L;refine zx L.twice g rfl rfl rfl rfl rfl (λz=>?_) (Am<|Ac k.sz<|Ad5 _) ?_<|q dx Y
 .obtain⟨p,z⟩:=z dx rfl;rw[Xa]at z;cases z
 .rw[Ja<|Ne.symm F,a]
end
noncomputable def aN(c:Nat):Nat->List Nat->List Nat->List (List Nat)
|_,p,[]=>[p]
|0,p,s=>[p++s]
|n+1,p,x::s=>if x=c then p::aN c n [] s else aN c (n+1) (p++[x]) s
noncomputable def Qq(c:Nat):Nat->Nat->List Nat->List Nat
|0,_,_=>[]
|_+1,_,[]=>[]
|n+1,i,x::s=>if x=c then i::Qq c n (i+1) s else Qq c (n+1) (i+1) s
def jM:Qq c 0 i s=[]:=by cases s<;>simp[Qq]
def Cq{x s:List Nat}(h:x.L i=a::s):subAt ⟨x.j⟩ ⟨#[c]⟩ i=u9 (a=c):=by
 unfold subAt;have e:(Str.mk x.j).j.extract i (i+(Str.mk #[c]).e)=#[a]:=by apply Ah.j;simp[Str.length,h]
 rw[e];by_cases q:a=c
 .subst q;simp
 .simp[q]
theorem ZO{x:List Nat}:∀s i st,x.L i=s->st.2<=i->i<=x.e->(forIn (Ak3 i<|s.e+1) st<|StrLaws.occBody ⟨x.j⟩ ⟨#[c]⟩ x.e lim).run.fst.p=st.1.p++Qq c (lim-st.1.j) i s
|[],i,st,f,k,l=>by
  have:x.e<=i:=List.drop_eq_nil_iff.j f;rw[Ae0,Ai,Ai5];unfold StrLaws.occBody;rw[FB λz=>by have:=z.1.2;simp[Str.length]at this;lia];have e:∀n,Qq c n i []=[]:=λn=>by cases n<;>rfl
  rw[e];simp
|a::s,i,st,f,k,l=>by
  have o:i<x.e:=by
   rcases Nat.lt_or_ge i x.e with h|h
   .exact h
   .rw[List.drop_eq_nil_of_le h]at f;cases f
  have d:x.L (i+1)=s:=by rw[←Yf,f];rfl
  rw[Ab6,Ai,Ai5];unfold StrLaws.occBody;rw[Cq f];by_cases g:st.1.j<lim
  .obtain⟨m,j⟩:∃m,lim-st.1.j=m+1:=⟨lim-st.1.j-1,by lia⟩;by_cases q:a=c
   .rw[Fk ⟨⟨⟨g,k⟩,by simp[Str.length];lia⟩,by simp[q]⟩];have b:=ZO (c:=c) (lim:=lim) s (i+1) (st.1.w i,i+Str.length ⟨#[c]⟩) d (by simp[Str.length]) Y8;unfold StrLaws.occBody at b;refine Eq.trans b ?_;rw[j];simp only[Qq,q,Os];have:lim-(st.1.w i).j=m:=by rw[Array.size_push];lia
    rw[this];simp
   .rw[FB λz=>q<|Da z.2];have b:=ZO (c:=c) (lim:=lim) s (i+1) (st.1,st.2) d (by show st.2<=i+1;exact Af9 ‹_›) Y8;unfold StrLaws.occBody at b;refine Eq.trans b ?_;rw[j];simp only[Qq,q,S5]
  .rw[FB λz=>g z.1.1.1];have b:=ZO (c:=c) (lim:=lim) s (i+1) (st.1,st.2) d (by show st.2<=i+1;exact Af9 ‹_›) Y8;unfold StrLaws.occBody at b;refine Eq.trans b ?_;have e:lim-st.1.j=0:=by lia
   rw[e,jM,jM]
def BG(s)(c lim):occurrences ⟨s.j⟩ ⟨#[c]⟩ 0 (Str.length ⟨s.j⟩) lim=Qq c lim 0 s:=by
 have e:Str.length ⟨s.j⟩=s.e:=by simp[Str.length]
 rw[e,UI];have:=ZO (c:=c) (lim:=lim) s 0 (#[],0) rfl (Aa3 _)<|Ag _;simpa using this
def J3{x a p s:List Nat}(h:x=a++p++s):strSub ⟨x.j⟩ a.e (a.e+p.e)=⟨p.j⟩:=by subst h;unfold strSub;congr 1;apply Ah.j;simp[Ae2]
theorem wF:∀s n j p,x=j++p++s->StrLaws.partsFrom ⟨x.j⟩ 1 j.e (Qq c n (j.e+p.e) s)=(aN c n p s).y λz=>⟨z.j⟩
|[],n,j,p,h=>by
  have e:Qq c n (j.e+p.e) []=[]:=by cases n<;>rfl
  have b:aN c n p []=[p]:=by cases n<;>rfl
  rw[e,b];have l:Str.length ⟨x.j⟩=j.e+p.e:=by rw[h];simp[Str.length]
  show[strSub _ _ _]=_;rw[l,J3 h];rfl
|a::s,0,j,p,h=>by
  show[strSub _ _ _]=_;have l:Str.length ⟨x.j⟩=j.e+(p++a::s).e:=by rw[h];simp[Str.length,U0]
  rw[l,J3 (s:=[])<|by rw[h];simp];rfl
|a::s,n+1,j,p,h=>by
  by_cases q:a=c
  .simp only[Qq,aN,q,Os,StrLaws.partsFrom,Ac3];rw[J3 h];congr 1;have:=wF (x:=x) (c:=c) s n (j++p++[a]) [] (by rw[h];simp);simpa[U0]using this
  .simp only[Qq,aN,q,S5];have:=wF (x:=x) (c:=c) s (n+1) j (p++[a]) (by rw[h];simp);rw[Ab9,←U0]at this;exact this
theorem WY:∀s n i p,Qq c n i s=[]->aN c n p s=[p++s]
|[],n,i,p,_=>by cases n<;>simp[aN]
|a::s,0,i,p,_=>rfl
|a::s,n+1,i,p,h=>by
  simp only[Qq]at h;split at h
  .cases h
  .rename_i q;simp only[aN,q,S5];rw[WY s (n+1) (i+1) _ h,Ah6];rfl
theorem wA:∀s n p,(aN c n p s).e<=s.e+1
|[],n,p=>by cases n<;>exact Aa3 _
|a::s,0,p=>by simp[aN]
|a::s,n+1,p=>by
  simp only[aN];split
  .have:=wA (c:=c) s n [];simp;exact‹_›
  .have:=wA (c:=c) s (n+1)<|p++[a];simp;exact Af9 ‹_›
def Nt(x):u9 (Builtin.Str.strKind x<Builtin.Str.strKind ⟨#[32]⟩)=false:=by
 have:Builtin.Str.strKind ⟨#[32]⟩=1:=by decide+kernel
 rw[this,decide_eq_false_iff_not];unfold Builtin.Str.strKind;split
 .lia
 .split<;>lia
theorem qV:∀(ys:List<|List Nat)(k),Vals (ys.y λz=>V.str ⟨z.j⟩)<|strsFrom k<|ys.y λz=>⟨z.j⟩
|[],_=>.p
|y::ys,k=>.j ⟨_,rfl⟩<|qV ys _
section
variable{X:Cx}
def uR{rest:List Value}{L:Nat}{d:List<|Addr×Obj}{f:Shared}{U:St}{H:Hp}{Q:VK}(I:Inv X d U H f)(r:s.e+2<=sizeLine)(a:argsOk "str.split" ⟨.o ⟨s.j⟩ t::.o ⟨#[32]⟩ u::rest,[]⟩)
 (n:(u9 (Str.length ⟨s.j⟩<Str.length ⟨#[32]⟩)||u9 (Builtin.Str.strKind ⟨s.j⟩<Builtin.Str.strKind ⟨#[32]⟩))=k9->Meets (Builtin.«str.split» ⟨.o ⟨s.j⟩ t::.o ⟨#[32]⟩ u::rest,[]⟩) (listOfItself ⟨s.j⟩ t))
 (l:(u9 (Str.length ⟨s.j⟩<Str.length ⟨#[32]⟩)||u9 (Builtin.Str.strKind ⟨s.j⟩<Builtin.Str.strKind ⟨#[32]⟩))=y9->(occurrences ⟨s.j⟩ ⟨#[32]⟩ 0 (Str.length ⟨s.j⟩) L).K=k9->Meets (Builtin.«str.split» ⟨.o ⟨s.j⟩ t::.o ⟨#[32]⟩ u::rest,[]⟩) (listOfItself ⟨s.j⟩ t))
 (k:(u9 (Str.length ⟨s.j⟩<Str.length ⟨#[32]⟩)||u9 (Builtin.Str.strKind ⟨s.j⟩<Builtin.Str.strKind ⟨#[32]⟩))=y9->(occurrences ⟨s.j⟩ ⟨#[32]⟩ 0 (Str.length ⟨s.j⟩) L).K=y9->Str.length ⟨s.j⟩<=sizeLine->(partsBetween ⟨s.j⟩ (occurrences ⟨s.j⟩ ⟨#[32]⟩ 0 (Str.length ⟨s.j⟩) L)<|Str.length ⟨#[32]⟩).e<=sizeLine->Meets (Builtin.«str.split» ⟨.o ⟨s.j⟩ t::.o ⟨#[32]⟩ u::rest,[]⟩) (λ_ R s'=>R (.ok<|.j<|.j s'.j.j.j) {s' with toks:=s'.p+(partsBetween ⟨s.j⟩ (occurrences ⟨s.j⟩ ⟨#[32]⟩ 0 (Str.length ⟨s.j⟩) L)<|Str.length ⟨#[32]⟩).e,heap:=s'.j.w {cls:=.p "list",data:=.j (strsFrom s'.p<|partsBetween ⟨s.j⟩ (occurrences ⟨s.j⟩ ⟨#[32]⟩ 0 (Str.length ⟨s.j⟩) L)<|Str.length ⟨#[32]⟩).j}}))
 (q:∀p,H p=u0->Q (.j p) (ax H p<|.lst<|(aN 32 L [] s).y λz=>V.str ⟨z.j⟩)):wpAny (model X.p X.w) X.A (call (.w "str.split")<|.o ⟨s.j⟩ t::.o ⟨#[32]⟩ u::rest) (EP X d U Q) X.xe f:=by
 have v:=SW;have g:Str.length ⟨s.j⟩=s.e:=by simp[Str.length]
 have laid:∀{ys:List _}{j:List Value}{tk:Nat},aN 32 L [] s=ys->Vals (ys.y fun z=>V.str ⟨z.j⟩) j->EP X d U Q _ {f with toks:=tk,heap:=f.j.w {cls:=.p "list",data:=.j j.j}}:=fun e rv=>
  ⟨.j f.j.j.j,_,I.T (λb o e=>Aa _ e) (Aa3 _)<|show aE X.p X.w _ _ _ (.lst _)from⟨by rw[Aa4,←e];have:=wA (c:=32) s L [];lia,_,0,rv,Aa5 f.j rfl⟩,rfl,by have:=q _<|I.aF.U<|Aa3 _;rw[e]at this;exact this⟩
 cases h:(u9 (Str.length ⟨s.j⟩<Str.length ⟨#[32]⟩)||u9 (Builtin.Str.strKind ⟨s.j⟩<Builtin.Str.strKind ⟨#[32]⟩))with
|true=>
  refine SY SH (Tb _ _ _) S8 a (n h)<|laid (ys:=[s]) ?_<|.j ⟨_,rfl⟩ .p;rw[Nt,Yh,Pi,g]at h;cases s with
 |nil=>cases L<;>rfl
 |cons _ _=>simp[Str.length]at h
|false=>
  cases i:(occurrences ⟨s.j⟩ ⟨#[32]⟩ 0 _ L).K with
|true=>refine SY SH (Tb _ _ _) S8 a (l h i)<|laid (ys:=[s]) ?_<|.j ⟨_,rfl⟩ .p;rw[BG]at i;exact WY s L 0 []<|Ac8.j i
|false=>
   have e:partsBetween ⟨s.j⟩ (occurrences ⟨s.j⟩ ⟨#[32]⟩ 0 (Str.length ⟨s.j⟩) L) (Str.length ⟨#[32]⟩)=(aN 32 L [] s).y λz=>⟨z.j⟩:=by rw[BG,StrLaws.partsBetween_eq];exact wF s L [] [] rfl
   have m:=k h i (Ac (Tg _ _) ‹_›) (by rw[e,Aa4];have:=wA (c:=32) s L [];lia);rw[e]at m;refine SY SH (Tb _ _ _) S8 a m<|laid rfl ?_;exact qV _ _
def qX:fc X "str.split"<|fun x vs H Q=>∃s L,x=.o ⟨s.j⟩/\((vs=[.o ⟨#[32]⟩]/\L=s.e+1)\/(vs=[.o ⟨#[32]⟩,.u 2]/\L=2))/\s.e+2<=sizeLine/\∀p,H p=none->Q (.j p) (ax H p<|.lst<|(aN 32 L [] s).y fun z=>V.str ⟨z.j⟩):=by
 rintro e o U H x vs v r Q I m rv⟨s,L,rfl,j,g,q⟩;obtain⟨t,rfl⟩:=m;have f:Str.length ⟨s.j⟩=s.e:=by simp[Str.length]
 obtain⟨rfl,rfl⟩|⟨rfl,rfl⟩:=j
 .obtain⟨u,rfl,h⟩:=rv.one;obtain⟨i,rfl⟩:=h;exact uR I g (Ud _ _) (meets_str_split_cannot_occur _ _ _ _) (λa b=>meets_str_split_not_found _ _ _ _ a rfl b) (λa b c d=>Vf _ _ _ _ a rfl b c d) q
 .obtain⟨u,w,rfl,k,l⟩:=Z6 rv;obtain⟨i,rfl⟩:=k;obtain⟨n,rfl⟩:=l;exact uR I g (PySem.F.args_str_split_3 _ _ _) (meets_str_split_max_cannot_occur _ _ 2 _ _ _ rfl) (λa b=>meets_str_split_max_not_found _ _ 2 _ _ _ rfl a rfl b) (λa b c d=>meets_str_split_sep_max _ _ 2 _ _ _ rfl a rfl b c d) q
end
open PySem PySem.Spec PyProof.Rows PyProof.Rows.KTD PyProof.V
section
variable{δ:Type}{R:δ->Value->Prop}{D:List<|Str×δ}{prog:Program}{w:World}{A:Around}{E:Value->Shared->Prop}{s:Shared}{a:Addr}{k:Str}{tk:Tok}
def Xk(T:TabOf R s.j a D):s.TypeIs (.j a) "dict":=let⟨_,o,_,_,c,b,_⟩:=T;⟨o,c,b.1⟩
def M1(T:TabOf R h a D):∀b,Value.ref a=.j b->∃j,h.p b=y0 j/\j.p=none:=
 λb e=>by injection e with e;subst e;exact let⟨_,o,_,_,d,c,_⟩:=T;⟨o,d,c.2.1⟩
def rF(T:TabOf R s.j a D)(h1:∀d v,datumAt k D=y0 d->R d v->Q (y0 v) {s with toks:=s.p+1})(h2:datumAt k D=u0->Q u0 {s with toks:=s.p+1}):wpAny (model prog w) A (dictGet a<|.o k tk) Q E s:=by
 obtain⟨_,o,c,r,j,q,m,h⟩:=T;refine AC<|VP<|AC<|kt_dictFind_strs j m (by obtain⟨l⟩:=c;simpa using h.exact) ?_;have f:Q (findBy (λk v=>v.isStr k) c k) {s with toks:=s.p+1}:=by
  rw[show findBy (λk v=>v.isStr k) c k=(c.p.find? λe=>e.key.isStr k).y (·.val)by obtain⟨l⟩:=c;simp[findBy]];cases b:datumAt k D with
|some d=>obtain⟨v,p,g⟩:=h.find_some b;rw[p];exact h1 d v b g
|none=>rw[h.find_none b];exact h2 b
 rw[findBy_of_findIdx?]at f;cases n:c.findIdx? λe=>e.key.isStr k with
|none=>rw[n]at f;exact Do f
|some i=>rw[n]at f;exact AC<|wpAny_dictEntries j m<|Do f
def NG(T:TabOf R s.j a D)(c:datumAt k D=y0 d)(h:∀v,R d v->Q v {s with toks:=s.p+1}):wpAny (model prog w) A (getItem (.j a)<|.o k tk) Q E s:=by
 unfold getItem
 try with_reducible refine IR ?_
 refine AC<|T4 (Xk T) rfl<|AC<|SE (Xk T) VI<|SF VI (Xk T) entry_dict_getitem ?_<|args_dict_getitem _ _;show wpAny _ _ (dictGet a _>>=_) _ _ s;exact AC<|rF T (λf v g e=>Do ⟨v,rfl,Do<|h v<|by simp_all⟩) λb=>by rw[c]at b;cases b
def ua{Q:Bool->Shared->Prop}(T:TabOf R s.j a D)(h:Q (inKeys k D) {s with toks:=s.p+1}):wpAny (model prog w) A (contains (.j a)<|.o k tk) Q E s:=by
 unfold contains
 try with_reducible refine IR ?_
 refine AC<|Ut (Xk T) slot_dict_contains.p ?_;rw[FB Y9];refine AC<|wpAny_callSpecialUnlessNone?_slot (Xk T) Vv<|SF Vv (Xk T) entry_dict_contains ?_<|args_dict_contains _ _;show wpAny _ _ (dictGet a _>>=_) _ _ s;refine AC<|rF T (λd v b _=>?_) λc=>?_
 .rw[←isSome_datumAt,b]at h;show wpAny _ _ _ _ _ _;exact Do ⟨_,rfl,SA h⟩
 .rw[←isSome_datumAt,c]at h;show wpAny _ _ _ _ _ _;exact AC<|wpAny_pendingKey_other T.1<|Do ⟨_,rfl,SA h⟩
def Po{b:Value}(T:TabOf R s.j a D)(h1:∀d v,datumAt k D=y0 d->R d v->Q v {s with toks:=s.p+1})(h2:datumAt k D=u0->Q b {s with toks:=s.p+1}):wpAny (model prog w) A (call (.w "dict.get") [.j a,.o k tk,b]) Q E s:=by refine call_meetsIn UK (Xk T) PySem.F.entry_dict_get (PySem.F.args_dict_get_3 _ _ _) (S:=λ_ c s=>TabOf R s.j a D/\(∀d v,datumAt k D=y0 d->R d v->c (.ok<|.j v) {s with toks:=s.p+1})/\(datumAt k D=u0->c (.ok<|.j b) {s with toks:=s.p+1})) (.of_wp ?_) ⟨T,h1,h2⟩;rintro A c s⟨T,h1,h2⟩;show wpAny _ _ (dictGet a _>>=_) _ _ s;refine AC<|rF T (λd v g e=>Do ⟨v,rfl,h1 d v g e⟩) λf=>?_;show wpAny _ _ _ _ _ _;exact AC<|wpAny_missed_other T.1<|Do ⟨b,rfl,h2 f⟩
end
def iV{c:Type}(L:c->Value->Bool)(K:Aa1)(a:Addr)(T:List<|Str×c):Prop:=tabLook L (λb=>K.p b) a T=k9
section
variable{δ:Type}{L:δ->Value->Bool}{X:Cx}{pins:List<|Addr×Obj}{U:St}{H:Hp}{s:Shared}{a:Addr}{T:List<|Str×δ}
def Qw(I:Inv X pins U H s)(b:iV L X.K a T):TabOf (λd v=>L d v=k9) s.j a T:=tab_of_look (λ_ _ x=>x) I.bg b
def FQ(L:δ->Value->Bool)(K:Aa1):R2:=λx y H Q=>∃a T k d,x=.j a/\y=.o k/\iV L K a T/\datumAt k T=y0 d/\∀u,L d u=k9->∃v,RelV v u/\Q v H
def DM:gd X<|FQ L X.K:=by intro b c e s U H x y v u Q I m f h g;obtain⟨a,T,k,d,rfl,rfl,l,j,q⟩:=h;cases m;obtain⟨t,rfl⟩:=f;have T:=Qw I l;exact VT (Xk T) slot_dict_getitem.p (NG T j λu i=>let⟨v,r,q⟩:=q u i;⟨v,H,I.X _,r,q⟩) g
def II:lO X "dict"<|fun x _=>∃a T,x=.j a/\iV L X.K a T:=by rintro c s U H x v I r⟨a,T,rfl,b⟩;cases r;exact⟨Xk<|Qw I b,M1<|Qw I b⟩
def Ib(L:δ->Value->Bool)(K:Aa1):V->List V->Hp->VK->Prop:=λx xs H Q=>∃a T k z,x=.j a/\xs=[.o k,z]/\iV L K a T/\(∀d,datumAt k T=y0 d->∀u,L d u=k9->∃v,RelV v u/\Q v H)/\(datumAt k T=u0->Q z H)
def Nl:fc X "dict.get"<|Ib L X.K:=by rintro b s U H x m v n Q I l rv⟨a,T,k,z,rfl,rfl,i,j,c⟩;cases l;obtain⟨u,w,rfl,g,h⟩:=Z6 rv;obtain⟨t,rfl⟩:=g;exact Po (Qw I i) (λd u e f=>let⟨v,r,q⟩:=j d e u f;⟨v,H,I.X _,r,q⟩) λe=>⟨z,H,I.X _,h,c e⟩
def mW(L:δ->Value->Bool)(K:Aa1)(neg:Bool):R2:=λy x H Q=>∃a T k,x=.j a/\y=.o k/\iV L K a T/\Q (.bl<|if neg then !(datumAt k T).p else(datumAt k T).p) H
def uT:bB X (compareOp .In)<|mW L X.K y9:=by rintro b s U H x y v u Q I f c ⟨a,T,k,ex,d,e,q⟩;subst ex d;cases c;obtain⟨t,rfl⟩:=f;exact AC<|ua (Qw I e)<|Do ⟨.bl _,H,I.X _,rfl,by rw[←isSome_datumAt];exact q⟩
def yJ:bB X (compareOp .j)<|mW L X.K k9:=by rintro b s U H x y v u Q I f c ⟨a,T,k,ex,d,e,q⟩;subst ex d;cases c;obtain⟨t,rfl⟩:=f;exact AC<|ua (Qw I e)<|Do ⟨.bl _,H,I.X _,rfl,by rw[←isSome_datumAt];exact q⟩
end
noncomputable def oi(a:List<|Str×V)(k:Str):List<|Str×V:=a.a2 λp=>u9<|p.1≠k
theorem sT:∀{kvs}{vs},KV (kvs.y λp=>((.w p.1:bW),p.2)) vs->KV ((oi kvs k).y λp=>((.w p.1:bW),p.2)) (without vs<|.w k)
|[],_,.p=>.p
|p::kvs,(a,b)::vs,.j r t=>by
  obtain⟨d,e⟩:=r;subst d;have c:=sT (k:=k) t;unfold oi without at c⊢;by_cases q:p.1=k
  .subst q;simpa using c
  .have:¬(Sum.inr p.1:bW)=.w k:=λz=>q (by injection z);rw[Ag7<|by simpa using q,Ag7<|by simpa using this,Ac3];exact .j ⟨rfl,e⟩ c
section
variable{X:Cx}{pins:List<|Addr×Obj}{U:St}{H:Hp}{s:Shared}{a:Addr}{k:Str}{kvs:List<|Str×V}
def B2:fc X "dict.pop"<|fun x xs H Q=>∃a kvs k v,x=.j a/\xs=[.o k]/\H a=some (dS kvs)/\kvs.p k=some v/\Q v (ax H a<|dS<|oi kvs k):=by rintro f s U H x xs v B Q I y rv⟨a,kvs,k,z,rfl,rfl,e,l,q⟩;cases y;obtain⟨u,rfl,h⟩:=rv.one;obtain⟨t,rfl⟩:=h;obtain⟨g,r,o,rel,dd⟩:=j7 I e;obtain⟨w,m,d⟩:=bJ.some_of (by rw[←l];exact wY rel);refine call_meetsIn UL dd.mapOf.typeIs PySem.F.entry_dict_pop (PySem.F.args_dict_pop_2 _ _) (meets_dict_pop_there _ a (jh _ _ k t) [] (.p rfl) rfl) ⟨o,w,dd,by rw[←Paired.length rel,Aa4];exact g,m,λi b j=>?_⟩;have p:∃q,i.p a=y0 q:=let⟨q,_,_,n,_⟩:=b;⟨q,n⟩;refine⟨z,_,I.write (by rw[e];exact True.intro) (.p rfl) (λA q c z=>(j.2 A c).x z) p<|show aE X.p X.w _ _ _ (dS _)from⟨?_,r,_,sT rel,b⟩,d,q⟩;rw[Aa4];exact Ac (List.length_filter_le _ _) g
def F1:lO X "dict"<|fun x H=>∃a kvs,x=.j a/\H a=some (dS kvs):=by
 rintro c s U H x v I r⟨a,kvs,rfl,e⟩;cases r;obtain⟨_,_,g,_,dd⟩:=j7 I e;refine⟨dd.mapOf.typeIs,λb e=>?_⟩;injection e with e
 subst e;obtain⟨o,h,i,d,f,_⟩:=dd;exact⟨o,d,f.2.1⟩
end
end Lake
namespace PySem
open Sem (wp)
def aP(b:Bool)(h:Heap)(i l:Addr)(k:Nat):Prop:=match b with
|false=>h.IsListIter i l k
|true=>h.G i l k
def cx(b:Bool)(h:Heap)(l:Addr)(a:Array Value):Prop:=match b with
|false=>h.L l a
|true=>h.K l a
noncomputable abbrev nk(b:Bool):String:=cond b "tuple_iterator" "list_iterator"
def aP.at(x:aP b h i l k)(f:∀o,h.p i=y0 o->h'.p i=y0 o):aP b h' i l k:=by cases b<;>obtain⟨o,q,r⟩:=x<;>exact⟨o,f o q,r⟩
def aP.A (x:aP b h i l k)(e:Ak6 c h h')(n:i≠c):aP b h' i l k:=x.at λo q=>e _ _ n q
def aP.obj (x:aP b h i l k):∃o,h.p i=y0 o/\o.j=.p #[.j l,.u k 0]:=by cases b<;>obtain⟨o,q,_,r⟩:=x<;>exact⟨o,q,r⟩
theorem cx.A (x:cx b h l xs)(e:Ak6 c h h')(n:l≠c):cx b h' l xs:=by
 cases b
 .exact Heap.IsList.extBut x e n
 .exact Heap.IsTuple.extBut x e n
theorem cx.push (x:cx b h l xs)(o):cx b (h.w o) l xs:=by
 cases b
 .exact Heap.IsList.push x o
 .exact Heap.IsTuple.push x o
def cx.lt (x:cx b h l xs):l<h.j.j:=by cases b<;>obtain⟨o,e,_⟩:=x<;>exact Aa9 e
def aP.mk (g:h.p i=y0 {cls:=.p<|nk b,data:=.p #[.j l,.u 0 0]}):aP b h i l 0:=by cases b<;>exact⟨_,g,rfl,rfl⟩
section
variable{prog:Program}{w:World}{A:Around}{E:Value->Shared->Prop}{s:Shared}{b:Bool}
def qB(a:cx b s.j l xs)(c:Q (.j s.j.j.j) {s with heap:=s.j.w {cls:=.p<|nk b,data:=.p #[.j l,.u 0 0]}}):wpAny (model prog w) A (pyIter<|.j l) Q E s:=by
 cases b
 .exact S2 a c
 .exact Td a c
def vD(a:aP b s.j it l i)(c:cx b s.j l xs)(e:xs[i]?=y0 x)(d:∀h',aP b h' it l (i+1)->Af5 it s.j h'->Q x {s with heap:=h'}):wpAny (model prog w) A (Builtin.SmallTypes.nextOf<|.j it) Q E s:=by
 cases b
 .exact wpAny_nextOf_list_item a c e d
 .exact Lake.bR a c e d
def Bc(d:A.j=u0)(a:aP b s.j it l i)(c:cx b s.j l xs)(f:xs[i]?=u0)(g:∀h' e,Heap.ExtBut it s.j h'->(∃o,h'.p e=y0 o/\o.w=.p "StopIteration")->E (.j e) {s with heap:=h'}):wpAny (model prog w) A (Builtin.SmallTypes.nextOf<|.j it) Q E s:=by
 cases b
 .exact wpAny_nextOf_list_end d a c f g
 .exact Lake.b7 d a c f g
end
variable{b1 b2:Bool}
section
variable{prog:Program}{w:World}{A:Around}{E:Value->Shared->Prop}{s:Shared}
def Rv{Q:Value->Shared->Prop}(hh:A.j=u0)(D:ZipApart z TI TO i1 i2 l1 l2)
 (hz:IsZip s.j z TI TO .y)(hTI:IsPair s.j TI (.j i1)<|.j i2)(hTO:IsPair s.j TO a b)(h1:aP b1 s.j i1 l1 k1)(h2:aP b2 s.j i2 l2 k2)(hl1:cx b1 s.j l1 xs)(Z:cx b2 s.j l2 ys)
 (hQ:∀x y h',xs[k1]?=y0 x->ys[k2]?=y0 y->IsZip h' z TI TO (rawInt s.j.j.j)->IsPair h' TO x y->aP b1 h' i1 l1 (k1+1)->aP b2 h' i2 l2 (k2+1)->IsPair h' s.j.j.j x y->h'.j.j=s.j.j.j+1->(∀c o,c≠z->c≠TO->c≠i1->c≠i2->s.j.p c=y0 o->h'.p c=y0 o)->Q (.j s.j.j.j) {s with heap:=h'})
 (hE:∀h' e,(xs[k1]?=u0\/ys[k2]?=u0)->(∀c o,c≠z->c≠TO->c≠i1->c≠i2->s.j.p c=y0 o->h'.p c=y0 o)->(∃o,h'.p e=y0 o/\o.w=.p "StopIteration")->E (.j e) {s with heap:=h'}):
 wpAny (model prog w) A (Builtin.«zip.__next__» ⟨[.j z],[]⟩) (λfin s'=>∃v,fin=.done (.j v)/\Q v s') E s:=by
 show wpAny _ _ (field (.j z) 2>>=_) _ _ _;refine AC<|Re hz rfl (x:=.B y9) rfl ?_;show wpAny _ _ _ _ _ _;refine AC<|Re hz rfl rfl<|AC<|SS hTI rfl ?_;show wpAny _ _ _ _ _ _;refine AC ?_;unfold Builtin.SmallTypes.ownedTupleIsFree;refine AC<|Re hz rfl rfl<|Do ?_;simp only[Os];refine AC<|UO<|AC<|Re hz rfl rfl ?_;refine AC<|Te hz Y9 λY l h=>?_;replace l:IsZip Y z TI TO .ellipsis:=l;refine AC ?_;simp only[List.zipIdx_cons,List.zipIdx_nil,Ai5,List.forIn_nil];refine AC<|AC<|UX ?_;show wpAny _ _ _ _ _ _;cases hx:xs[k1]? with
|none=>
  refine AC<|Bc hh (h1.A h.A D.i1z) (hl1.A h.A D.l1z) hx λP e f he=>?_;obtain⟨oe,u,K⟩:=he;have O:IsZip P z TI TO .ellipsis:=f _ _ D.i1z.I l;have T:e≠z:=λx=>by subst x;rw[O]at u;cases u;simp at K
  refine Te O Y9 λN _ g=>hE N e (.p hx) (λc o F _ S _ x=>g.A _ _ F<|f _ _ S<|h.A _ _ F x) ⟨oe,g.A _ _ T u,K⟩
|some x=>
  refine AC<|vD (h1.A h.A D.i1z) (hl1.A h.A D.l1z) hx λP V f=>Do ?_;have B:IsPair P TO a b:=f.A _ _ D.TOi1<|h.A _ _ D.TOz hTO;refine AC<|SS B rfl<|AC<|UR B λN n g=>?_;replace n:IsPair N TO x b:=n;refine AC<|Tu<|Do<|AC<|AC<|UX ?_;show wpAny _ _ _ _ _ _;cases hy:ys[k2]? with
|none=>
   refine AC<|Bc hh (((h2.A h.A D.i2z).A f.A D.i12.I).A g.A D.TOi2.I)
    (((Z.A h.A D.l2z).A f.A D.l2i1).A g.A D.l2TO) hy λI e j he=>?_
   obtain⟨oe,u,K⟩:=he;have H:IsZip I z TI TO .ellipsis:=j _ _ D.i2z.I<|g.A _ _ D.TOz.I<|f.A _ _ D.i1z.I l;have T:e≠z:=λx=>by subst x;rw[H]at u;cases u;simp at K
   refine Te H Y9 λd _ i=>hE d e (.w hy) (λc o F X S c4 x=>i.A _ _ F<|j _ _ c4<|g.A _ _ X<|f.A _ _ S<|h.A _ _ F x) ⟨oe,i.A _ _ T u,K⟩
|some y=>
   refine AC<|vD (((h2.A h.A D.i2z).A f.A D.i12.I).A g.A D.TOi2.I)
    (((Z.A h.A D.l2z).A f.A D.l2i1).A g.A D.l2TO) hy λI U j=>Do ?_
   have C:IsPair I TO x b:=j.A _ _ D.TOi2 n;refine AC<|SS C rfl<|AC<|UR C λd k i=>?_;replace k:IsPair d TO x y:=k;refine AC<|Tu<|Do<|Do<|AC<|SS k rfl ?_;refine AC<|wpAny_newTuple ?_;have hsz:d.j.j=s.j.j.j:=by rw[i.1,j.1,g.1,f.1,h.1]
   have J:IsZip d z TI TO .ellipsis:=i.A _ _ D.TOz.I<|j.A _ _ D.i2z.I<|g.A _ _ D.TOz.I<|f.A _ _ D.i1z.I l;have W:∀c o,c≠z->c≠TO->c≠i1->c≠i2->s.j.p c=y0 o->d.p c=y0 o:=λc o F X S c4 e=>
    i.A _ _ X<|j.A _ _ c4<|g.A _ _ X<|f.A _ _ S<|h.A _ _ F e
   have L:aP b1 d i1 l1<|k1+1:=((V.A g.A D.TOi1.I).A j.A D.i12).A i.A D.TOi1.I;have M:aP b2 d i2 l2<|k2+1:=U.A i.A D.TOi2.I;have R:z<d.j.j:=Aa9 J;have hTOlt:TO<d.j.j:=Aa9 k;have hi1lt:i1<d.j.j:=by obtain⟨_,e,_⟩:=L.obj;exact Aa9 e
   have hi2lt:i2<d.j.j:=by obtain⟨_,e,_⟩:=M.obj;exact Aa9 e
   show wpAny _ _ (Builtin.SmallTypes.ownedTupleHandOut (.j z) (.j d.j.j)>>=_) _ _ _;refine AC ?_;unfold Builtin.SmallTypes.ownedTupleHandOut;refine AC<|Te (Aa _ J) Y9 λh₇ q r=>?_;replace q:IsZip h₇ z TI TO<|rawInt d.j.j:=q;refine Te q Y9 λp m t=>?_;replace m:IsZip p z TI TO<|rawInt d.j.j:=m;have up:∀c o,c≠z->d.p c=y0 o->p.p c=y0 o:=λc o F e=>t.A _ _ F<|r.A _ _ F<|Aa _ e;have G:IsPair p d.j.j x y:=t.A _ _ (Aj3 R)<|r.A _ _ (Aj3 R)<|Aa5 _ rfl;have hz8:p.j.j=d.j.j+1:=by rw[t.1,r.1,Ad6]
   rw[hsz]at m G hz8;refine Do ⟨_,rfl,?_⟩;show Q (.j d.j.j) _;rw[hsz];exact hQ x y p hx hy m (up _ _ D.TOz k) (L.at λo e=>up _ o D.i1z e) (M.at λo e=>up _ o D.i2z e) G hz8 λc o F X S c4 e=>up c o F<|W c o F X S c4 e
def Jj(k:A.j=u0)(D:ZipApart z TI TO i1 i2 l1 l2)
 (i:IsZip s.j z TI TO .y)(d:IsPair s.j TI (.j i1)<|.j i2)(g:IsPair s.j TO a b)(h1:aP b1 s.j i1 l1 k1)(h2:aP b2 s.j i2 l2 k2)(h:cx b1 s.j l1 xs)(f:cx b2 s.j l2 ys)
 (p:∀x y h',xs[k1]?=y0 x->ys[k2]?=y0 y->IsZip h' z TI TO (rawInt s.j.j.j)->IsPair h' TO x y->aP b1 h' i1 l1 (k1+1)->aP b2 h' i2 l2 (k2+1)->IsPair h' s.j.j.j x y->h'.j.j=s.j.j.j+1->(∀c o,c≠z->c≠TO->c≠i1->c≠i2->s.j.p c=y0 o->h'.p c=y0 o)->Q (y0<|.j s.j.j.j) {s with heap:=h'})
 (B:∀h',(xs[k1]?=u0\/ys[k2]?=u0)->(∀c o,c≠z->c≠TO->c≠i1->c≠i2->s.j.p c=y0 o->h'.p c=y0 o)->Q u0 {s with heap:=h'}):wpAny (model prog w) A (pyNext<|.j z) Q E s:=by
 have j:s.TypeIs (.j z) "zip":=⟨_,i,rfl⟩;refine AC<|Tz<|SE j V9
 <|SF V9 j F.entry_zip_next (Rv k D i d g h1 h2 h f (λx y h' t u n a2 a3 a4 a5 a6 a7=>Do<|p x y h' t u n a2 a3 a4 a5 a6 a7) λh' e q r m=>?_)<|F.args_zip_next_1 _
 obtain⟨o,l,v⟩:=m;exact AC<|VY ⟨o,l,v⟩ isSubtype_stop<|Do<|B _ q r
end
abbrev m4(a:Bool)(h:Heap)(b:Addr):Heap:=h.w {cls:=.p<|nk a,data:=.p #[.j b,.u 0 0]}
noncomputable abbrev nH(d c:Bool)(h:Heap)(b a:Addr):Heap:=(m4 d h b).w {cls:=.p<|nk c,data:=.p #[.j a,.u 0 0]}
abbrev nK(b d:Bool)(h:Heap)(a c:Addr):Heap:=(nH b d h a c).w {cls:=.p "tuple",data:=.j #[.j h.j.j,.j (m4 b h a).j.j]}
abbrev n8(d c:Bool)(h:Heap)(b a:Addr):Heap:=(nK d c h b a).w {cls:=.p "tuple",data:=.j #[.y,.y]}
abbrev l3(d c:Bool)(h:Heap)(b a:Addr):Heap:=(n8 d c h b a).w {cls:=.p "zip",data:=.p #[.y,.B false,.B false,.j (nH d c h b a).j.j,.j (nK d c h b a).j.j]}
def WI(a b:Addr)(i ys:Array Value):
 Meets (Builtin.«zip.__new__» ⟨[.p "zip",.j a,.j b],[]⟩)<|fun _ R s=>cx b1 s.j a i/\cx b2 s.j b ys∧
  R (.ok<|.j<|.j (n8 b1 b2 s.j a b).j.j) {s with heap:=l3 b1 b2 s.j a b}:=
 .of_wp λprog w A R s h=>by
  obtain⟨k,g,d,tk,j⟩:=s;obtain⟨e,c,h⟩:=h;have f:=sub_zip
  wp_walk using qB e,qB<|cx.push c _
  exact⟨_,rfl,h⟩
section
variable{prog:Program}{w:World}{A:Around}{E:Value->Shared->Prop}{s:Shared}
def x6(f:cx b1 s.j l1 xs)(g:cx b2 s.j l2 ys)
 (h:∀h',IsZip h' (s.j.j.j+4) (s.j.j.j+2) (s.j.j.j+3) .y->IsPair h' (s.j.j.j+2) (.j s.j.j.j) (.j<|s.j.j.j+1)→
   IsPair h' (s.j.j.j+3) .y .y->aP b1 h' s.j.j.j l1 0->aP b2 h' (s.j.j.j+1) l2 0->h'.j.j=s.j.j.j+5→
   (∀c o,s.j.p c=y0 o->h'.p c=y0 o)->Q (.j<|s.j.j.j+4) {s with heap:=h'}):
 wpAny (model prog w) A (call (.p "zip") [.j l1,.j l2]) Q E s:=by
 refine callType_new F.called_zip Y7 (F.typeCall_zip_2 _ _) (F.newCall_zip_2 _ _) (λobj=>F.args_object_init_3 obj _ _) F.entry_zip_new
  (WI l1 l2 xs ys) ⟨f,g,?_⟩
 have i:(m4 b1 s.j l1).j.j=s.j.j.j+1:=Ad6 ..;have b:(nH b1 b2 s.j l1 l2).j.j=s.j.j.j+2:=by rw[Ad6,i]
 have d:(nK b1 b2 s.j l1 l2).j.j=s.j.j.j+3:=by rw[Ad6,b]
 have e:(n8 b1 b2 s.j l1 l2).j.j=s.j.j.j+4:=by rw[Ad6,d]
 have a:(l3 b1 b2 s.j l1 l2).p (n8 b1 b2 s.j l1 l2).j.j=y0 _:=Aa5 _ rfl;have l:(l3 b1 b2 s.j l1 l2).p (nK b1 b2 s.j l1 l2).j.j=y0 _:=Aa _<|Aa5 _ rfl;have k:(l3 b1 b2 s.j l1 l2).p (nH b1 b2 s.j l1 l2).j.j=y0 _:=Aa _<|Aa _<|Aa5 _ rfl;have j:(l3 b1 b2 s.j l1 l2).p (m4 b1 s.j l1).j.j=y0 _:=Aa _<|Aa _<|Aa _<|Aa5 _ rfl;show _/\_;rw[b,d,e]at a;rw[i,b]at k;rw[d]at l;rw[i]at j;rw[e]
 exact⟨⟨_,a,rfl⟩,h _ a k l (aP.mk<|Aa _<|Aa _<|Aa _<|Aa _<|Aa5 _ rfl) (aP.mk j) (by rw[Ad6,e]) λc o x=>
  Aa _<|Aa _<|Aa _<|Aa _<|Aa _ x⟩
end
end PySem
namespace Lake
open Lake renaming Vals.length->Lake.Vals.e,V.ref->Lake.V.j,Cx.env->Lake.Cx.j,Cx.prog->Lake.Cx.p,Cx.stack->Lake.Cx.B,ck.fresh->Lake.ck.U,Inv.kept->Lake.Inv.M,Inv.turned->Lake.Inv.a0
open PySem PySem.Spec PyProof.Rows
def cz(b:Bool)(K:Aa1)(H:Hp)(l:Addr)(a:List V):Prop:=match b with
|false=>bu K H l a
|true=>dj K H l a
section
variable{X:Cx}{pins:List<|Addr×Obj}{U:St}{H:Hp}{s:Shared}{b:Bool}{l:Addr}{xs ys:List V}
def Inv.cN (I:Inv X pins U H s)(a:cz b X.K H l xs):∃j,Vals xs j/\cx b s.j l j.j:=by
 cases b
 .obtain⟨j,rv,p,_⟩:=I.list a;exact⟨j,rv,p.Q⟩
 .obtain⟨j,rv,p,_⟩:=I.tuple a;exact⟨j,rv,p⟩
def Inv.cH (I:Inv X pins U H s)(h1:cz b X.K H l xs)(h2:cz b X.K H l ys):xs=ys:=by
 cases b
 .exact I.gj h1 h2
 .exact I.fG h1 h2
end
variable{b1 b2:Bool}
noncomputable def m1(c b:Bool)(K:Aa1)(l a:Addr):It:=
 ⟨λi H=>∃xs x ys y,cz c K H l xs/\xs[i]?=y0 x/\cz b K H a ys/\ys[i]?=y0 y,
   λi H v H'=>∃p x y,H p=u0/\v=.j p/\H'=ax H p (.tup [x,y])/\(∀xs,cz c K H l xs->xs[i]?=y0 x)/\∀ys,cz b K H a ys->ys[i]?=y0 y,
   λi H=>∃xs ys,cz c K H l xs/\cz b K H a ys/\min xs.e ys.e=i⟩
def Mr{K:Aa1}(z TI TO i1 i2 l a)(D:ZipApart z TI TO i1 i2 l a):lT P w K (.L elts x1 tp) (m1 b1 b2 K l a) [z,TI,TO,i1,i2] z
<|λi h=>IsZip h z TI TO .y/\IsPair h TI (.j i1) (.j i2)/\(∃c d,IsPair h TO c d)/\aP b1 h i1 l i/\aP b2 h i2 a i where
 mem:=by simp
 obj:=λi h r b g=>by
  obtain⟨C,j,⟨c,d,m⟩,B,F⟩:=r;obtain⟨o1,q1,d1⟩:=B.obj;obtain⟨o2,T,d2⟩:=F.obj;simp only[Aa8,Ac7,SJ]at g;rcases g with e|e|e|e|e
  .rw[e];exact⟨_,C,λv z=>by cases z⟩
  .rw[e];exact⟨_,j,λv z=>by cases z⟩
  .rw[e];exact⟨_,m,λv z=>by cases z⟩
  .rw[e];exact⟨o1,q1,λv z=>by rw[d1]at z;cases z⟩
  .rw[e];exact⟨o2,T,λv z=>by rw[d2]at z;cases z⟩
 keep:=λi h h' r k=>by obtain⟨C,j,⟨c,d,m⟩,B,F⟩:=r;exact⟨k z Y9 _ C,k TI Y9 _ j,⟨c,d,k TO Y9 _ m⟩,B.at λo e=>k i1 Y9 o e,F.at λo e=>k i2 Y9 o e⟩
 item:=by
  intro X hP hw hK W i t s U H E I R r hg;subst hP hw hK;obtain⟨C,j,⟨c,d,m⟩,B,F⟩:=r;obtain⟨xs,x,ys,y,Q,hx,n,hy⟩:=hg;obtain⟨O,rv,p⟩:=I.cN Q;obtain⟨A,J,Z⟩:=I.cN n;obtain⟨u,hu,ru⟩:=rv.get hx;obtain⟨u2,M,Y⟩:=J.get hy;refine Jj (I.ok.hd W) D C j m B F p Z (λu' v' h3 ex L a1 a2 a3 a4 a5 a6 S=>?_) λ_ he _=>absurd he (by simp[hu,M]);rw[Al3]at ex L;cases hu.I.x ex;cases M.I.x L;refine⟨_,rfl,wpAny_letOwnedTupleGo_zip a1 λh4 hz4 sb=>?_⟩;have sb:Af5 z h3 h4:=sb;have lt:∀{c o},s.j.p c=y0 o->c≠s.j.j.j:=λe=>Ab5<|Aa9 e;have hn:=I.aF.U<|Aa3 _;have I1:Inv X t U (ax H s.j.j.j<|.tup [x,y]) {s with heap:=s.j.w {cls:=.p "tuple",data:=.j #[u,u2]}}:=by refine I.laid (λb o q=>Aa _ q) (Aa3 _) ⟨by simp only[Ab6,Ae0];rw[SW];decide,[u,u2],.j ru<|.j Y .p,?_⟩;exact⟨_,Aa5 s.j rfl,rfl,rfl,_,rfl⟩
  have fz:∀b∈[z,TI,TO,i1,i2],b≠s.j.j.j:=λb g=>by
   obtain⟨o1,q1,_⟩:=B.obj;obtain⟨o2,T,_⟩:=F.obj;simp only[Aa8,Ac7,SJ]at g;rcases g with e|e|e|e|e
   .rw[e];exact lt C
   .rw[e];exact lt j
   .rw[e];exact lt m
   .rw[e];exact lt q1
   .rw[e];exact lt T
  have I2:=I1.cc (t':=s.p) (ch:=[z,TI,TO,i1,i2]) (λb o g q=>by
   simp only[Aa8,Ac7,SJ,Ug]at g;obtain⟨b1,b2,b3,b4,b5⟩:=g;refine(sb.2 b b1).x ?_;rcases US (show(s.j.w {cls:=.p "tuple",data:=.j #[u,u2]}).p b=some o from q)with⟨V,e2⟩|V
   .rw[V,e2];exact a5
   .exact S b o b1 b3 b4 b5 V)<|λb g=>by
   obtain⟨f0,f⟩:=R b g;exact⟨by rw[Ja<|fz b g];exact f0,f⟩
  refine⟨.j s.j.j.j,_,I2,rfl,⟨s.j.j.j,x,y,hn,rfl,rfl,λzs G=>by rw[I.cH G Q];exact hx,λzs G=>by rw[I.cH G n];exact hy⟩,?_,λb g=>by rw[Ja<|fz b g];exact(R b g).1⟩;exact⟨hz4,(sb.2 TI D.TIz).x<|S _ _ D.TIz D.TITO D.TIi1 D.TIi2 j,⟨_,_,(sb.2 TO D.TOz).x a2⟩,a3.at λo e=>(sb.2 i1 D.i1z).x e,a4.at λo e=>(sb.2 i2 D.i2z).x e⟩
 done:=by
  intro X hP hw hK W i t s U H E I R r hg;subst hP hw hK;obtain⟨C,j,⟨c,d,m⟩,B,F⟩:=r;obtain⟨xs,ys,Q,n,hx⟩:=hg;obtain⟨O,rv,p⟩:=I.cN Q;obtain⟨A,J,Z⟩:=I.cN n;have hl:=rv.e;have hl2:=J.e;have N:O.j[i]?=u0\/A.j[i]?=none:=by
   rcases Nat.le_total xs.e ys.e with q|q
   .exact .p<|UC<|by rw[Ab7];rw[Ai7 q]at hx;lia
   .exact .w<|UC<|by rw[Ab7];rw[Uh q]at hx;lia
  exact Jj (I.ok.hd W) D C j m B F p Z (λ_ _ _ ex L=>by rcases N with z|z;(rw[z]at ex;cases ex);(rw[z]at L;cases L)) λh3 _ S=>⟨rfl,I.cc (λb o g q=>by simp only[Aa8,Ac7,SJ,Ug]at g;exact S b o g.1 g.2.2.1 g.2.2.2.1 g.2.2.2.2 q) R⟩
 self:=λ_ _ _ _ _ r h=>VZ r.1 h
def MP(n l t:Nat)(h1:l<n)(h2:t<n):ZipApart (n+4) (n+2) (n+3) n (n+1) l t:=by constructor<;>exactλe=>absurd (show@Eq Nat _ _ from e) Y8
def MI(K:Aa1)(b:TA):TI:=λU H R=>b U H λvs H1=>∃b1 b2 l a xs ys,vs=[.j l,.j a]/\cz b1 K H1 l xs/\cz b2 K H1 a ys/\R (m1 b1 b2 K l a) H1
def Mz(F:Gl X "zip")(x:X.mg "zip"=none)(M:PA X [a,b] ta)(z:starEach [a,b] X.j=[(false,eval a X.j),(false,eval b X.j)]:=by rfl)(g:starEach [b] X.j=[(false,eval b X.j)]:=by rfl):PI X (.L elts x1 tp) (.w (.p "zip" p) [a,b] [] pos)<|MI X.K ta:=by
 intro f s U H R I h;refine Call_<|Zm I F x OU<|P3 (aD (M pos f s U H _ I h) λS d ⟨P,B,i,C,J⟩=>?_) (by rw[z,g]) (by rw[g];rfl);obtain⟨T,Q,l,t,O,V,e,A,j,q⟩:=J;subst e;cases C with
|cons r y=>
  cases y with
|cons L k=>
   cases k;cases r;cases L;obtain⟨K,rv,o⟩:=i.cN A;obtain⟨u,D,w⟩:=i.cN j;have G:=w.lt;refine x6 o w λN m a2 a3 a4 a5 a6 E=>VZ m ?_;refine⟨d.j.j.j+4,[d.j.j.j+4,d.j.j.j+2,d.j.j.j+3,d.j.j.j,d.j.j.j+1],_,_,B,rfl,i.M E,
    Mr _ _ _ d.j.j.j _ l t<|MP _ l t o.lt G,⟨m,a2,⟨_,_,a3⟩,a4,a5⟩,λc n=>?_,q⟩
   have v:d.j.j.j<=c:=by
    simp[SJ]at n;rcases n with e|e|e|e|e<;>rw[e]<;>first|exact Aa3 _|exact Tg _ _
   exact i.dT v<|i.aF.U v
instance:BEq bW:=instBEqOfDecidableEq
noncomputable def vK(ns:List bW)(i:Nat):bW:=ns.G i<|.p 0
theorem vY:∀{ks}{us},Vals (ks.y kV) us->∀(i)(v:Value),us[i]?=y0 v->xP (vK ks i) v=k9
|[],_,.p,i,v,h=>by simp at h
|k::ks,_,.j r a,0,v,h=>by
  cases h;cases k with
 |inl i=>obtain⟨t,rfl⟩:=r;exact ZT i t
 |inr x=>obtain⟨t,rfl⟩:=r;exact qZ x t
|k::ks,_,.j r a,i+1,v,h=>vY a i v h
def zV(U:List bW)(v:bW):List bW:=if U.C (·==v)then U else U++[v]
noncomputable def WA(val:Nat->bW)(i:Nat):List bW:=((Ab1 i).y val).a0 zV []
def DL(val):WA val 0=[]:=rfl
def wn(val)(i):WA val (i+1)=zV (WA val i) (val i):=by unfold WA;rw[Al0,Ae8,Aj0];rfl
theorem wj(val):∀i,(WA val i).e<=i
|0=>by rw[DL];exact Aa3 _
|i+1=>by
  rw[wn];unfold zV;have a:=wj val i;split
  .lia
  .rw[Ab9,Aj2];lia
theorem yH(val):∀i k,(WA val i).C (·==k)=((Ab1 i).y val).C (·==k)
|0,k=>rfl
|i+1,k=>by
  rw[wn,Al0,Ae8,Uv,←yH val i k];unfold zV;by_cases h:(WA val i).C (·==val i)=k9
  .rw[Fk h];by_cases e:val i=k
   .subst e;rw[h];simp
   .have a:(val i==k)=false:=by simpa[TN]using e
    simp[a]
  .rw[FB h,Uv];rfl
def EY(U)(v k):(zV U v).C (·==k)=(U.C (·==k)||u9 (k=v)):=by
 unfold zV;by_cases h:U.C (·==v)=k9
 .rw[Fk h];by_cases e:k=v
  .subst e;rw[h];simp
  .simp[e]
 .rw[FB h,Uv];by_cases e:k=v
  .subst e;simp
  .have b:(v==k)=false:=by simpa[TN]using(λa:v=k=>e a.I)
   simp[b,e]
def Zy(U)(v):(zV U v).e=if U.C (·==v)then U.e else U.e+1:=by unfold zV;split<;>simp
def nG:Bool->String
|false=>"list"
|true=>"tuple"
section
variable{prog:Program}{w:World}{A:Around}{E:Value->Shared->Prop}{s:Shared}{R:Result->Shared->Prop}{I:Addr}{fp wr:List Addr}{G:Array GenState->Array GenState->Prop}{n:Nat}{P:Nat->Value->Prop}{St:Nat->Shared->Prop}
def Oq(W:WalksS prog w A.p I fp wr G n P St)(S)(r:S∉fp)
 (val)(g:∀i v,P i v->xP (val i) v=k9)(q:n+1<scanBound):
 ∀k i s,n-i=k->i<=n->St i s→
  s.j.SetOf (Jg prog w) S (λj=>(WA val i).C (·==j)) (WA val i).e→
  (∀s',Moved (S::wr) G s s'->s'.j.SetOf (Jg prog w) S (λj=>(WA val n).C (·==j)) (WA val n).e->R (.ok<|.j .y) s')→
  codeAny (model prog w) A (.w "set.update.loop" ⟨[.j S,.j I],[]⟩) R s:=by
 have u:=λh=>r<|W.sub _ h;have a:∀b∈wr,b∈S::wr:=λb q=>Aa0 _ q;intro k;induction k with
|zero=>
  intro i s X V c C L;have D:i=n:=by lia
  subst D;refine SM Ul ?_;rw[Th Tr _];show wpAny _ A.p _ _ _ s;refine AC<|W.done s _ _ c λs' f=>?_;show wpAny _ A.p _ _ _ s';exact Do<|L s' (f.mono a)<|by obtain⟨o,J,N,t,E,rest⟩:=C;exact⟨o,J,N,t,f.heap S _ u E,rest⟩
|succ k T=>
  intro i s X V c C L;have z:i<n:=by lia
  refine SM Ul ?_;rw[Th Tr _];show wpAny _ A.p _ _ _ s;refine AC<|W.item i s _ _ z c λv s' Y m f=>?_;have H:=g i v Y;have K:s'.j.SetOf (Jg prog w) S (λj=>(WA val i).C (·==j)) (WA val i).e:=by obtain⟨o,J,N,U,E,rest⟩:=C;exact⟨o,J,N,U,f.heap S _ u E,rest⟩
  show wpAny _ A.p _ _ _ s';refine AC<|IR ?_;unfold setAdd;refine IR<|AC<|(Jg prog w).pyHash H ?_;have d:(WA val i).e+1<scanBound:=by have:=wj val i;lia
  refine wpAny_setAddHashed_of H (by rcases xc H with⟨i,t,_,rfl⟩|⟨x,t,_,rfl⟩<;>rfl) K d λQ y B=>?_;have M:Q.SetOf _ S (λj=>(WA val _).C _) (WA val _).e:=
   SetOf_congr B (λj=>by rw[wn,EY])<|by rw[wn,Zy]
  refine Do ⟨TB Tr _,T _ _ Y8 z (W.frame _ s' _ _ m (Ad5 _) λb q o e=>?_) M λO p l=>?_⟩
  .rwa [y.2 b<|λh:b=S=>r<|by simp_all]
  .refine L O (Moved.trans W.gtrans ((f.mono a).then_heap (Ad5 _) λb o q e=>?_) p) l;rw[y.2 b<|λh:b=S=>q<|by rw[h];exact Aa2];exact e
def Fv{b:Bool}(x:cx b h l xs):∃O j V,h.p l=y0 {cls:=.p<|nG b,dict:=O,data:=.j xs j,slots:=V}:=by
 cases b
 .obtain⟨⟨_,O,_,V⟩,e,rfl,j,rfl⟩:=x;exact⟨O,j,V,e⟩
 .obtain⟨⟨_,O,_,V⟩,e,rfl,j,rfl⟩:=x;exact⟨O,j,V,e⟩
def vv(b:Bool)(T)(h:T="set"\/T="frozenset"):isSubtype (.p<|nG b) (.p T)=pure false:=by
 rcases h with rfl|rfl<;>cases b<;>rw[isSubtype_type]<;>kernel_rfl
def Ov{b:Bool}(c:A.j=u0)(it l)(a:l≠it)(y8):Walks prog w A it [it,l] [it] y8.j (λi x=>y8[i]?=y0 x)<|λi h=>aP b h it l i/\cx b h l y8:=by
 cases b
 .exact Walks.list c it l a y8
 .exact Walks.tuple c it l a y8
noncomputable abbrev gN(a:Bool):Obj:={cls:=.p "set",dict:=none,data:=.set #[] 0<|.fresh 0 0 a}
set_option maxHeartbeats 8000000 in
theorem F4{k:Bool}{b:Addr}{vs:Array Value}{ns:List bW}{Q:Value->Shared->Prop}
 (V:A.j=u0)(S:cx k s.j b vs)(hi:∀i v,vs[i]?=y0 v->xP (vK ns i) v=k9)(hb:vs.j+1<scanBound)
 (q:∀(h':Heap)(tk:Nat),h'.SetOf (Jg prog w) s.j.j.j (λO=>(WA (vK ns) vs.j).C (·==O)) (WA (vK ns) vs.j).e→
   (∀c o,c<s.j.j.j->s.j.p c=y0 o->h'.p c=y0 o)->Q (.j s.j.j.j) {s with heap:=h',toks:=tk}):
 wpAny (model prog w) A (call (.p "set") [.j b]) Q E s:=by
 obtain⟨c,tl,L⟩:=F.called_set.mro;have C:=F.called_set.made;have P:=F.called_set.sub;refine SX<|V7 ?_;show wpAny _ _ (callAny (.p "set") _) _ _ _;refine Do ⟨Tc _<|by decide+kernel,SM F.entry_type_call ?_⟩;rw[Around.under_plain (weight_type_call_type "set" [.j b] []) rfl];have h1:=F.called_set.notType;have h2:=F.called_set.canCreate;have hct:=F.typeCall_set_1<|.j b
 repeat (any_goals (first|assumption|wp_step))
 refine SL (code_set_new_1 (.j b) (E:=E) (Q₁:=λT f=>∃a:Bool,T=.j s.j.j.j/\f={s with heap:=s.j.w<|gN a}) λa=>⟨a,rfl,rfl⟩) λr f D=>?_;cases r with
|error e=>exact D
|ok fl=>
  cases fl with
|ret T=>
   obtain⟨a,rfl,rfl⟩:=D;have K:(s.j.w<|gN a).p s.j.j.j=y0 (gN a):=Aa5 _ rfl;have hT:Shared.TypeIs {s with heap:=s.j.w<|gN a} (.j s.j.j.j) "set":=⟨_,K,rfl⟩;have hli:=F.called_set.init.p;have hbi:=F.called_set.init.bind<|.j s.j.j.j
   repeat (any_goals (first|assumption|wp_step))
   refine SL (S4 (R:=wants (λr g=>r=.y/\∃h' tk,g={s with heap:=h',toks:=tk}∧
    h'.SetOf (Jg prog w) s.j.j.j (λO=>(WA (vK ns) vs.j).C (·==O)) (WA (vK ns) vs.j).e∧
    (∀c o,c<s.j.j.j->s.j.p c=y0 o->h'.p c=y0 o)) E) F.called_set.init.plain F.entry_set_init<|check_set_init_1 hT ?_) λl g d=>?_
   .obtain⟨X,W,Z,n⟩:=Fv S;have J:(s.j.w<|gN a).p b=y0 {cls:=.p<|nG k,dict:=X,data:=.j vs W,slots:=Z}:=Aa _ n;have M:=vv k "set" Y7;have N:=vv k "frozenset" Y7;have hne:(Value.type (nG k)==Value.type "dict")=false:=by cases k<;>decide
    have t:=cx.push S<|gN a;unfold Builtin.«set.__init__»noKeywords Builtin.Frozenset.updateFrom;generalize x:pyIter=PI
    wp_walk
    subst x;refine qB t<|AC<|UH ?_;have p:b<s.j.j.j:=Aa9 n;have H:A.p.p.p.j=none:=by simp[V]
    have I:(s.j.w<|gN a).j.j=s.j.j.j+1:=Ad6 ..;have m:b≠(s.j.w<|gN a).j.j:=by rw[I];exact Ab5<|Ak2 p
    have G:s.j.j.j∉[(s.j.w<|gN a).j.j,b]:=by rw[I];simp only[Aa8,Ac7,SJ,Ug];exact⟨Ab5<|Ae4 _,Aj3 p⟩
    refine Oq ((Ov H _ b m vs).toS) s.j.j.j
     G (vK ns) hi hb (vs.j-0) 0 _ Y8 (Ag _)
     ⟨aP.mk<|Aa5 _ rfl,cx.push t _⟩ ?hS0 ?hR
    case hS0=>exact SetOf_congr ((setObjOf_fresh (knd:=Jg prog w) a).setOf (Aa _ K)<|by unfold scanBound;lia) (λ_=>rfl) rfl
    case hR=>
     intro Y u j;obtain⟨h',g',d',z,y⟩:=Y;have eg:g'=s.w:=u.gens;have ed:d'=s.drawn:=u.drawn;have eo:y=s.os:=u.os;subst eg;subst ed;subst eo;show wpAny _ _ _ _ _ _;refine Do ?_;show wpAny _ _ (ret Value.none) _ _ _;refine Do ⟨rfl,h',z,rfl,j,λc o U e=>u.heap c o ?_<|Aa _<|Aa _ e⟩;simp only[Aa8,Ac7,SJ,Ug];exact⟨Ab5 U,by show c≠(s.j.w<|gN a).j.j;rw[I];exact Ab5<|Ak2 U⟩
   .cases l with
 |error e=>exact d
 |ok h=>
     cases h with
 |ret r=>
      obtain⟨rfl,h',tk,rfl,j,B⟩:=d
      repeat (any_goals (first|assumption|wp_step))
      exact q _ _ j B
 |_=>exact d.j
|_=>exact D.j
end
section
variable{X:Cx}
def nR(a:List bW):Nat:=(WA (vK a) a.e).e
def RU:bootBuiltins "len"=some (.w "len"):=by decide+kernel
def Ce:bootBuiltins "set"=some (.p "set"):=by decide+kernel
def EO(K:Aa1)(c:TA):TE:=λU H Q=>c U H λvs H1=>∃b a,∃ks:List bW,vs=[.j a]/\cz b K H1 a (ks.y kV)/\ks.e<1000/\Q (.int (nR ks:Nat)) H1
def PR{a:Expr}{y:TA}{p p2 pos d:Pos}(S:X.calm=true)(N:Gl X "len")(z:X.mg "len"=none)(n:Gl X "set")(w:X.mg "set"=none)(T:PA X [a] y)(B:starEach [a] X.j=[(false,eval a X.j)]):
 PE X (.w (.p "len" p) [.w (.p "set" p2) [a] [] d] [] pos)<|EO X.K y:=by
 intro f s U H Q I h;refine Call_<|Zm I N z RU<|TJ (Tn<|Call_<|Zm I n w Ce<|P3 (aD (T d f s U H _ I h) ?_) B rfl) rfl rfl;rintro us s1⟨W,E,m,J,P⟩;obtain⟨Z,l,g,e,D,Y,q⟩:=P;subst e;cases J with
|cons r C=>
  cases C;cases r;obtain⟨j,rv,pl⟩:=m.cN D;have c:j.e=g.e:=by have:=rv.e;rw[Aa4]at this;lia
  have O:=wj (vK g) g.e;refine F4 (m.ok.hd S) pl (λi v h=>vY rv i v<|by simpa using h) (by rw[Ab7,c];unfold scanBound;exact PP ‹_› Y7) λV tk x M=>Ts ?_;have G:j.j.j=g.e:=by rw[Ab7];exact c
  rw[G]at x;obtain⟨o,F,ep,t,A,k,L,_,_,_,R,e⟩:=x;have K:F.j=nR g:=by unfold nR;exact‹_›
  refine call_len_set A k L R Y8 ⟨.int _,E,(m.M λb u e=>M b u (Aa9 e) e).tok _,⟨_,by rw[K]⟩,q⟩
end
section
variable{prog:Program}{w:World}{A:Around}{E:Value->Shared->Prop}{s:Shared}{b:Bool}
def BA(x:cx b h l xs):∃o n,h.p l=y0 o/\o.j=.j xs n:=by
 cases b
 .obtain⟨o,q,_,n,d⟩:=x;exact⟨o,n,q,d⟩
 .obtain⟨o,q,_,n,d⟩:=x;exact⟨o,n,q,d⟩
def JU(x:cx b h l xs)(y:aP b h i l k):l≠i:=λz=>by obtain⟨o,n,q,d⟩:=BA x;obtain⟨e,c,a⟩:=y.obj;rw[z,c]at q;cases q;rw[d]at a;cases a
def tx(c:A.j=u0)(it t)(y8)(a:t≠it):Draws prog w A it [it,t] y8.j (λi x=>y8[i]?=y0 x)<|λi h=>aP b h it t i/\cx b h t y8:=by
 cases b
 .exact Draws.list c it t a y8
 .exact Lz c it t y8 a
def NL(a:cx b s.j l y8)(h:∀h',IsEnum h' (s.j.j.j+1) s.j.j.j 0 .y->aP b h' s.j.j.j l 0->h'.j.j=s.j.j.j+2->(∀b o,s.j.p b=y0 o->h'.p b=y0 o)->Q (.j<|s.j.j.j+1) {s with heap:=h'}):wpAny (model prog w) A (call (.p "enumerate") [.j l]) Q E s:=by
 cases b
 .exact call_enumerate_list a h
 .exact qu a h
end
noncomputable def n5(b:Bool)(K:Aa1)(a:Addr):It:=
 ⟨λi H=>∃xs x,cz b K H a xs/\xs[i]?=y0 x,λi H x H'=>∃p y,H p=u0/\x=.j p/\H'=ax H p (.tup [.int (i:Int),y])/\∀xs,cz b K H a xs->xs[i]?=y0 y,λi H=>∃xs,cz b K H a xs/\xs.e=i⟩
def Iu(K:Aa1)(c:TA):TI:=λU H R=>c U H λvs H1=>∃b a xs,vs=[.j a]/\cz b K H1 a xs/\R (n5 b K a) H1
def RJ{K:Aa1}{b:Bool}(a it e)(p:e≠it):lT P w K (.L elts x1 tp) (n5 b K a) [e,it] e<|λi h=>(∃j,IsEnum h e it (i:Int) j)/\aP b h it a i where
 mem:=by simp
 obj:=λi h f b g=>by
  obtain⟨⟨j,q⟩,f⟩:=f;obtain⟨o,q2,d⟩:=f.obj;rcases Aa8.j g with z|z
  .subst z;exact⟨_,q,λv z=>by cases z⟩
  .rw[Ab8.j z];exact⟨o,q2,λv z=>by rw[d]at z;cases z⟩
 keep:=λi h h' f k=>⟨let⟨j,q⟩:=f.1;⟨j,k e Y9 _ q⟩,f.2.at λo q=>k it Y9 o q⟩
 item:=by
  intro X Z O N L i m s U H E I G f R;subst Z O N;obtain⟨⟨j,A⟩,c⟩:=f;obtain⟨xs,x,F,hx⟩:=R;obtain⟨l,rv,B⟩:=I.cN F;obtain⟨u,hu,ru⟩:=rv.get hx;have r:=JU B c;have T:a≠e:=λz=>by obtain⟨o,n,q,d⟩:=BA B;rw[z,A]at q;cases q;cases d
  obtain⟨f0,f1,f2,f3,f4,f5⟩:=G e Y9;obtain⟨D,W,g2,Y,V,S⟩:=G it Y9;have M:=by have:=Ab3.j hu;simpa using this.1
  have t:X.A.p.j=none:=I.ok.hd L;refine wpAny_pyNext_enum_itemD (tx t it a l.j r) A ⟨c,B⟩ M p (by simp[p,Ne.symm T]) λy h1 tk hy ho J hT hsz hk=>?_;have ey:y=u:=by rw[Al3]at hy;rw[hu]at hy;cases hy;rfl
  subst ey;refine⟨_,rfl,wpAny_letOwnedTupleGo_enum ho λh2 Q sb=>?_⟩;have sb:=sb;have hep:=Aj3<|Aa9 A;have hn:=I.aF.U<|Aa3 _;have I1:Inv X m U (ax H s.j.j.j<|.tup [.int (i:Int),x]) {s with heap:=s.j.w {cls:=.p "tuple",data:=.j #[.u i tk,y]},toks:=tk+1}:=by refine I.laid (λb o q=>Aa _ q) (Aa3 _) ⟨by simp only[Ab6,Ae0];rw[SW];decide,[.u i tk,y],.j ⟨_,rfl⟩<|.j ru .p,?_⟩;exact⟨_,Aa5 s.j rfl,rfl,rfl,_,rfl⟩
  have C:it<s.j.j.j:=by obtain⟨o,q,_⟩:=c.obj;exact Aa9 q
  have ee:=Aa9 A;have I2:=I1.dN (ch:=[e,it]) (t':=tk+1) (λb o g q=>by
   have b1:b≠e:=λz=>g (by simp[z]);have b2:b≠it:=λz=>g (by simp[z]);refine(sb.2 b b1).x ?_;rcases US (show(s.j.w {cls:=.p "tuple",data:=.j #[.u i tk,y]}).p b=some o from q)with⟨z,z2⟩|z
   .rw[z,z2];exact hT
   .exact hk b o b1 b2 z) λb g=>by
   rcases Aa8.j g with z|z
   .rw[z,Ja<|Ab5 ee];exact⟨f0,f1,f3,f4,f5⟩
   .rw[Ab8.j z,Ja<|Ab5 C];exact⟨D,W,Y,V,S⟩
  refine⟨.j s.j.j.j,_,I2,rfl,⟨s.j.j.j,x,hn,rfl,rfl,λys hy=>by rw[I.cH hy F];exact hx⟩,⟨⟨y,by simpa using Q⟩,?_⟩,λb g=>?_⟩
  .exact J.1.at λo q=>(sb.2 it<|Ne.symm p).x q
  .rcases Aa8.j g with z|z
   .rw[z,Ja<|Ab5 ee];exact f0
   .rw[Ab8.j z,Ja<|Ab5 C];exact D
 done:=by
  intro X Z O N L i m s U H E I G f R;subst Z O N;obtain⟨⟨j,A⟩,c⟩:=f;obtain⟨xs,F,hx⟩:=R;obtain⟨l,rv,B⟩:=I.cN F;have r:=JU B c;obtain⟨D,W,g2,Y,V,S⟩:=G it Y9;have hl:=rv.e;have t:X.A.p.j=none:=I.ok.hd L;have hi:i=l.j.j:=by simp;lia
  subst hi;exact wpAny_pyNext_enum_endD (tx t it a l.j r) A ⟨c,B⟩ λh' eb=>⟨rfl,I.a0 (λb o g q=>eb b o g q) D W Y V S⟩
 self:=λ_ _ _ _ _ f h=>VJ f.1.choose_spec h
def Ec(v:Gl X "enumerate")(k:X.mg "enumerate"=none)(B:PA X [a] ta)(m:starEach [a] X.j=[(false,eval a X.j)]:=by rfl):PI X (.L elts x1 tp) (.w (.p "enumerate" p) [a] [] pos)<|Iu X.K ta:=by
 intro f s U H R I h;refine Call_<|Zm I v k XH<|P3 (aD (B pos f s U H _ I h) ?_) m rfl;rintro G g⟨E,o,d,t,y⟩;obtain⟨F,b,C,e,n,q⟩:=y;subst e;cases t with
|cons r l=>
  cases l;cases r;obtain⟨A,rv,pl⟩:=d.cN n;refine NL pl λD j i x u=>VJ j ?_;refine⟨g.j.j.j+1,[g.j.j.j+1,g.j.j.j],_,_,o,rfl,d.M u,RJ b g.j.j.j _<|Nat.succ_ne_self _,⟨⟨_,by simpa using j⟩,i⟩,λc w=>?_,q⟩;obtain z|z:=Aa8.j w
  .rw[z];exact d.dT (Ad5 _)<|d.aF.U<|Ad5 _
  .rw[Ab8.j z];exact d.dT (Aa3 _)<|d.aF.U<|Aa3 _
noncomputable def ll(b:Bool)(K:Aa1)(a:Addr):It:=
 ⟨λi H=>∃xs x,cz b K H a xs/\xs[i]?=y0 x,λi H x H'=>H'=H/\∀xs,cz b K H a xs->xs[i]?=y0 x,λi H=>∃xs,cz b K H a xs/\xs.e<=i⟩
def CD{K:Aa1}{b:Bool}(a it):lT P w K tg (ll b K a) [it] it<|λi h=>aP b h it a i where
 mem:=by simp
 obj:=λi h f b g=>by
  have e:=by simpa using g
  subst e;obtain⟨o,e,d⟩:=f.obj;exact⟨o,e,λv z=>by rw[d]at z;cases z⟩
 keep:=λi h m f k=>f.at λo e=>k it Y9 o e
 item:=by
  intro X N C D L i j s U H E I B f F;subst N C D;obtain⟨R,x,r,hx⟩:=F;obtain⟨J,rv,p⟩:=I.cN r;obtain⟨u,O,Q⟩:=rv.get hx;obtain⟨t,y,T,q,A,n⟩:=B it Y9;have inj:∀G,cz b X.K H a G->G[i]?=y0 x:=λG hy=>by rw[I.cH hy r];exact hx
  cases b
  all_goals
   first
|refine Uz f p (by simpa using O) λm l sb=>?_
|refine wpAny_pyNext_tuple_item f p (by simpa using O) λm l sb=>?_
   have S:Inv X j U H {s with heap:=m}:=I.a0 (λb o g e=>(sb.2 b g).x e) t y q A n;obtain⟨o,e,c,d⟩:=id l;exact⟨u,rfl,pw e c d Y7 ⟨x,H,S,Q,⟨rfl,inj⟩,l,λb g=>(B b g).1⟩⟩
 done:=by
  intro X N C D L i j s U H E I B f F;subst N C D;obtain⟨R,r,hx⟩:=F;obtain⟨J,rv,p⟩:=I.cN r;obtain⟨t,y,T,q,A,n⟩:=B it Y9;have V:=rv.e;cases b
  .exact UJ (I.ok.hd L) f p (by simp;lia) λm M=>⟨rfl,I.a0 (λb o g e=>M b o g e) t y q A n⟩
  .exact wpAny_pyNext_tuple_end (I.ok.hd L) f p (by simp;lia) λm M=>⟨rfl,I.a0 (λb o g e=>M b o g e) t y q A n⟩
 self:=by
  cases b
  .exactλ_ _ _ _ _ f h=>wpAny_pyIter_listiter f h
  .exactλ_ _ _ _ _ f h=>wpAny_pyIter_tupleiter f h
noncomputable def kM(x:Str):It:=⟨λi _=>∃c,x.j[i]?=y0 c,λi H y H'=>H'=H/\∃c,x.j[i]?=y0 c/\y=.str ⟨#[c]⟩,λi _=>x.j[i]?=u0⟩
def vj{K:PySem.W.Frag}(it)(x)(t)(F:n="str_ascii_iterator"\/n="str_iterator"):lT P w K tg (kM x) [it] it<|fun i h=>h.IsStrIter it n x t i:=by
 rcases F with rfl|rfl
 all_goals exact{
   mem:=by simp,
   obj:=λi h a b j=>by
    have e:=by simpa using j
    subst e;obtain⟨o,e,c,d⟩:=a;exact⟨o,e,λv z=>by rw[d]at z;cases z⟩,
   keep:=λi h m a k=>by obtain⟨o,e,c,d⟩:=a;exact⟨o,k it Y9 o e,c,d⟩,
   item:=by
    intro X M D G B i g s U H E I A a y;obtain⟨c,hx⟩:=y;obtain⟨q,r,L,p,u,l⟩:=A it Y9
    first|refine wpAny_pyNext_ascii_item a hx λm f sb=>?_|refine wpAny_pyNext_wide_item a hx λm f sb=>?_
    obtain⟨o,e,J,d⟩:=id f;exact⟨_,rfl,pw e J d Y7 ⟨.str ⟨#[c]⟩,H,(I.a0 (λb o j e=>(sb.2 b j).x e) q r p u l),⟨_,rfl⟩,⟨rfl,c,hx,rfl⟩,f,λb j=>(A b j).1⟩⟩,
   done:=by
    intro X M D G B i g s U H E I A a y;obtain⟨q,r,L,p,u,l⟩:=A it Y9
    first|exact wpAny_pyNext_ascii_end (I.ok.hd B) a y λm C=>⟨rfl,I.a0 C q r p u l⟩|exact wpAny_pyNext_wide_end (I.ok.hd B) a y λm C=>⟨rfl,I.a0 C q r p u l⟩,
   self:=λ_ _ _ _ _ a h=>by first|exact wpAny_pyIter_striter_ascii a h|exact wpAny_pyIter_striter_wide a h}
def R9(K:Aa1)(tl:TE):TI:=λU H R=>tl U H λx H1=>(∃b a,x=.j a/\(∃xs,cz b K H1 a xs)/\R (ll b K a) H1)\/∃z,x=.str z/\R (kM z) H1
def pW(u:PE X l tl):PI X tg l<|R9 X.K tl:=by
 intro d s U H R I h;refine aD (u d s U H _ I h) ?_;rintro v g ⟨x,j,i,k,w⟩;have f:∀c∈[g.j.j.j],bt X d j c:=λc r=>by
  have e:=by simpa using r
  subst e;exact i.dT (Aa3 _)<|i.aF.U<|Aa3 _
 obtain⟨b,a,e,⟨A,n⟩,q⟩|⟨z,e,q⟩:=w
 .subst e;cases k;obtain⟨y,rv,p⟩:=i.cN n;exact qB p ⟨g.j.j.j,[g.j.j.j],_,_,j,rfl,i.M λb o e=>Aa _ e,CD a _,aP.mk<|Aa5 _ rfl,f,q⟩
 .subst e;obtain⟨t,rfl⟩:=k;cases m:z.j.all (·<128)with
|true=>exact wpAny_pyIter_ascii m ⟨g.j.j.j,[g.j.j.j],_,_,j,rfl,i.M λb o e=>Aa _ e,vj _ z t<|.p rfl,⟨_,Aa5 _ rfl,rfl,rfl⟩,f,q⟩
|false=>exact wpAny_pyIter_wide m ⟨g.j.j.j,[g.j.j.j],_,_,j,rfl,i.M λb o e=>Aa _ e,vj _ z t<|.w rfl,⟨_,Aa5 _ rfl,rfl,rfl⟩,f,q⟩
open PySem PySem.Spec PySem.Calls PySem.W PyProof.Rows
def cy(X:Cx)(c:List (Addr×Obj)->jH->Value->Shared->Prop)(d:jH->St->V->Hp->Prop)(e:Expr)(t:TS):Prop:=
 ∀(pins:List<|Addr×Obj)(s:Shared)(U:St)(H:Hp)(D:jH)(a:Value->Shared->Prop),Inv X pins U H s->t D U H->(∀u b y H2,Inv X pins U H2 b->RelV y u->d D U y H2->a u b)→
  wpAny (model X.p X.w) X.A (eval e X.j) a (c pins D) s
def cy.imp (h:cy X Ln κ e t)(k:∀D U H,t' D U H->t D U H):cy X Ln κ e t':=λa s U H D b I q c=>h a s U H D b I (k _ _ _ q) c
abbrev XO(X:Cx)(c:List (Addr×Obj)->jH->Value->Shared->Prop)(d:jH->St->XK):Prop:=∀{pins:List<|Addr×Obj}{D:jH}{U:St}{H1:Hp}{a s':Shared}{b:Value},Inv X pins U H1 a->bc X.p X.w X.B H1 a (d D U) b s'->c pins D b s'
section
variable{X:Cx}{k:Nat}{f W:Addr}{fd:FuncData}{ps:List Str}{sp:Sp}{Ln:List (Addr×Obj)->jH->Value->Shared->Prop}{κ:jH->St->V->Hp->Prop}{eL:jH->St->XK}
def Br(i:XO X Ln eL)
 (F:aX X.p X.w X.K X.mg X.base (bc X.p X.w) k f fd ps sp)(g:aB k X.A)(h:Binds X.K fd ps [])(a:Inv X pins U H1 s1)(r:Vals vs us)(q:sp vs H1 (λy H2=>κ D U y H2)<|eL D U)
 (d:∀u j y H2,Inv X pins U H2 j->RelV y u->κ D U y H2->Qv u j):wpAny (model X.p X.w) X.A (call (.j f) us) Qv (Ln pins D) s1:=by
 have m:(us++[]).e=ps.e:=by rw[Ac4,←r.e];exact F.len _ _ _ _ q
 refine SX<|SL (F.run X.A X.B s1 H1 ⟨us,[]⟩ _ vs _ _ g a.ej (h s1 us a.bg m) (by simp_all) q) λres o b=>?_;cases res with
|ok l=>
  cases l with
 |ret u=>obtain⟨y,H2,n,c,e⟩:=a.after b;exact d _ _ _ _ n c e
 |_=>exact False.elim b
|error p=>exact i a b
def Ot(n:∀a b,¬X.xe a b)(x:XO X Ln eL)
 (F:aX X.p X.w X.K X.mg X.base (bc X.p X.w) k f fd ps sp)(v:aB k X.A)(o:Gl X fx)(j:X.mg fx=y0 (.j f))
 (u:keepIn X.K (.j f)=true)(w:Binds X.K fd ps [])(A:PA X (e::es) t)(g:(fx==("__debug__":Str))=false)(m:starEach (e::es) X.j=(false,eval e X.j)::starEach es X.j)(d:(backTo cp<|starEach es X.j).C (·.1)=false):
 cy X Ln κ (.w (.p fx p) (e::es) [] cp)<|λD U H=>t U H λvs H1=>sp vs H1 (λy H2=>κ D U y H2)<|eL D U:=λc s U H D B I h l=>Pv<|Wi I o j (callWith_K I.ok.mod.eQ u (L2 (A cp c s U H _ I h) (by rintro E C⟨vs,H1,i,r,q⟩;exact⟨i.bg,Br x F v w i r q l⟩) λ_ _ z=>(n _ _ z).j) m d) g
def P1(p:∀a b,¬X.xe a b)(N:XO X Ln eL)(E:PE X o ta)(c:cP X.K C)(j:lF X.K C m f)
 (F:aX X.p X.w X.K X.mg X.base (bc X.p X.w) k f fd ps sp)(L:aB k X.A)(M:Binds X.K fd ps [])(P:PA X (e::es) t)
 (g:starEach (e::es) X.j=(y9,eval e X.j)::starEach es X.j)(i:(backTo pos<|starEach es X.j).C (·.1)=y9)
 (G:xU X.j o m apos pos (e::es) pl):
 cy X Ln κ (.w (.j o m apos) (e::es) [] pos)<|λD U H=>rf C m sp [] (eL D U) ta t U H λy H2=>κ D U y H2:=by
 intro d s U H D Q I h A;refine methodCall_KW (L2 (E d s U H _ I h) ?_ λ_ _ z=>(p _ _ z).j) G;rintro u K⟨x,B,n,O,a,dx,fs,ex,w,l,q⟩;subst ex;obtain rfl:u=Value.ref a:=O;refine Zw n w c j l<|callWith_K I.ok.mod.eQ j.kp (L2 (P pos d K U B _ n q) ?_ λ_ _ z=>(p _ _ z).j) g i;rintro R S⟨vs,H2,v,r,J⟩;refine⟨v.bg,?_⟩;exact Br (vs:=.j a::(vs++[])) N F L M v (.j rfl<|by simp_all) J A
def Sk(h:cy X (λpins D=>sr X pins D<|d::hs) (λD U _ H=>D.nx U H) e t)(b:swapsWith e u0 ep.p X.j=pure y9):PS X (.Try [.Expr e ep] (d::hs) [] [] pos) t:=λpins s U H D I q=>
 Ue<|SR<|wpAny_Expr_any (h pins s U H D _ I q λu g y f a i c=>Ta<|Ta ⟨U,f,a,c⟩) I.quiet b
def Ny{E0:Value->Shared->Prop}(d:∀a b,¬X.xe a b)(h:cy X (px X E0<|p::hs) (λD U y H=>g y U H λj H'=>te j H' D.rt) e t)(w:PG X tg g)(C:PE X e2 te)
 (c:swapsWithSole [tg] e ap.p X.j=pure y9)(l:swappedStores [tg] e X.j=pure u0)(h1:(assignEach [tg] X.j).y (·.2)=[assign tg X.j])(I:Inv X pins U H s)(q:t D U H):wpAny (model X.p X.w) X.A (exec (.Try [.j [tg] e ap,.p (y0 e2) rp] (p::hs) [] [] pos) X.j) (SP X pins D) E0 s:=by
 refine Ue<|SR<|U4 (h pins s U H D _ I q λu F y k E f o=>?_) c l;rw[h1];refine L2 (w pins F U k y u _ E f o) ?_ λ_ _ z=>(d _ _ z).j;rintro _ B⟨j,H',n,i⟩;refine SR<|T3<|L2 (C pins B j H' _ n i) ?_ λ_ _ z=>(d _ _ z).j;rintro v G⟨x,H4,r,A,m⟩;exact⟨x,j,H4,r,A,m⟩
end
def p8(P:Program)(w:World)(L:Addr):eB:=λouter H s E e s'=>∃(x C t:Addr)(B:Heap)(H':Hp)(a:Option Addr),e=.j x/\s'.os=s.os/\AllBare s'.w∧
 Al7 B outer x (.j C) (.j t) L s'.j/\Un (bA outer) [] H H' s.j s'.j/\ck P w H' s'.j∧
 (∀b o,s'.j.p b=y0 o->((∃u,H' b=y0 u)\/∃u,s.j.p b=y0 u)->b∉bA outer->B.p b=y0 o)/\s.j.p x=u0/\((∀dx,a=y0 dx->∃o,s'.j.p x=y0 o/\o.p=y0 dx)/\(i6 a H'->eK s'.j x))/\E (.j C) a H'
section
variable{M:Model}{A:Around}{E:Value->Shared->Prop}{s:Shared}{base:Heap}{e L:Addr}{cls a0:Value}
def j4(c:env.B=y0 L)(b:Al7 base (env::outer) e cls a0 L s.j)(f:∀h',Ae6 base outer e cls a0 h'->s.j.y h'->Q () {s with heap:=h'}):wpAny M A (leaving env<|.j e) Q E s:=by refine AC<|wpAny_noteFrame_againW c b.2.2.2<|wpAny_landsW b λh' a sm=>?_;obtain⟨d,h,⟨_,_,i⟩,g⟩:=a;exact f h' ⟨d,h,i,g⟩ sm
def O1(x:Ae6 base l e cls a0 s.j)(z:∀h',Al7 base l e cls a0 L h'->s.j.y h'->Q () {s with heap:=h'}):wpAny M A (setFlight (.j e)<|y0 L) Q E s:=by
 obtain⟨B,D,y,C,n,T,F,ts,r,j,t,v,m,k,p,g,w⟩:=x;have h:=(Array.getElem?_eq_some_iff.j w).1;have a:∀b,b≠T->(s.j.B T (Obj.mapFields (·.y 3<|(y0 L).elim Value.none λf=>rawInt f))).p b=s.j.p b:=λb c=>Ad2 _ _<|Ne.symm c;have u:∀b o,s.j.p b=y0 o->(∀n,o.j≠.p n)->b≠T:=λb o c d q=>by
  rw[q,p]at c;injection c with c;subst c;exact d ts g
 refine AC<|Re r t v ?_;refine TU p g h<|z _ ⟨λb o i=>(a b λq=>by rw[q,m]at i;cases i).x<|B b o i,D,y.of_keeps λb o c d=>⟨o,(a b<|u b o c d).x c,rfl⟩,?_⟩ λb o c d=>⟨o.slots,(a b<|u b o c d).x c⟩;exact⟨C,n,T,_,_,(a e<|Ne.symm k).x r,j,t,v,m,k,Ad1 _ p<|UG<|Tp g _,Tp g _,by simp[h]⟩
def ND(o:env.B=y0 L)(d:Ae6 base l e cls a0 s.j)(h:∀h',Al7 base l e cls a0 L h'->s.j.y h'->DK s.j h'->E (.j e) {s with heap:=h'}):wpAny M A (PySem.passOn what (.j e) env:Sem α) Q E s:=by have c:=d;obtain⟨_,_,_,v,t,T,u,ts,m,f,n,p,j,g,w,i,r⟩:=c;unfold PySem.passOn;refine AC<|Re m n p ?_;rw[FB Y9,o];exact AC<|wR (R:=λh'=>Al7 base l e cls a0 L h'/\s.j.y h') (ju _ _) (λq k=>O1 d λh' a b=>k h' ⟨a,b⟩)<|by rintro h'⟨a,b⟩dk;exact VO<|h h' a b dk
end
def rR(K:Frag)(W:Addr)(t:Str)(E:XK)(D:jH):XK:=λcls a H2=>∃C,cls=.j C/\iP K C/\((kitCls K (.j C) (.j W)=y0 k9/\D.rt (.str t) H2)\/(kitCls K (.j C) (.j W)=y0 y9/\E cls a H2))
def HU{E0:Value->Shared->Prop}
 (c:X.B=X.j::X.outer)(Q:X.j.B=some X.j.j)(P:Gl X wx)(w:X.mg wx=some (.j W))(l:mroIn X.K W (.p "BaseException")=some true)
 (k:(wx==("__debug__":Str))=false)(G:∀{pins}{U}{H}{s}{e}{s'},Inv X pins U H s->p8 X.p X.w X.j.j X.B H s E e s'->E0 e s')
 (A:Inv X pins U H1 s1)(hq:bc X.p X.w X.B H1 s1 (rR X.K W t E D) ev s'):px X E0 [.j (y0<|.p wx wq) u0 [.p (y0<|.y (.o t) O cp) rp] hp] pins D ev s':=by
 obtain⟨x,S,tt,B,N,V,rfl,F,b,I,un,f,comp,new,p,C,hC,Z,n⟩:=hq;cases hC;refine oQ c Q A F b I un f comp λh5 d i K R=>?_;have m:=d.there;rcases n with⟨O,n⟩|⟨O,n⟩
 rotate_left
 .refine Tj (zB R P w k l m O<|wpAny_handleBy_nil<|ND Q d λY a y h=>?_)<|λz=>nomatch z;obtain⟨L,j,g⟩:=yj A un f comp a.1 (by rw[c];exact a.2.2.1)<|i.trans y;have dk:=K.trans h;refine G A ⟨x,S,tt,B,N,V,rfl,F,b,by rw[c];exact a,L,j,g,new,⟨λdx z=>?_,λz=>(p.2 z).dk dk⟩,n⟩;obtain⟨o,e1,e2⟩:=p.1 dx z;obtain⟨o',e3,e4⟩:=dk x o e1;exact⟨o',e3,e4.1.x e2⟩
 refine Tj (zB R P w k l m O<|UB ?_)<|λz=>nomatch z;refine zF c A F b un f comp d i λY fl6 y h M=>SR<|L2 (pJ xL pins _ U N {nx:=λ_ _=>False,rt:=D.rt} (M.ec x) n) (λI s9 z=>?_) λ_ _ z=>False.elim z;cases I with
|ret u=>obtain⟨v,U',T,J,r,q⟩:=z;exact⟨v,U',T,J.gg M.ok,r,q⟩
|next=>obtain⟨_,_,_,q⟩:=z;exact q.j
|brk=>obtain⟨_,_,_,q⟩:=z;exact q.j
|cont=>obtain⟨_,_,_,q⟩:=z;exact q.j
end Lake
set_option genSizeOfSpec false
namespace Lake.M
abbrev Tx:=List Nat
class Cn where
 lim:Nat
 b30:Int
 b62:Int
 b64:Int
 bp:Int
 n64:Nat
noncomputable abbrev vA:Cn:=⟨1000000,1073741824,4611686018427387904,18446744073709551616,1000000,18446744073709551616⟩
def uD:∃c:Cn,c=vA:=⟨_,rfl⟩
noncomputable instance(priority:=low) cnI:Cn:=Classical.choose uD
def Za:cnI=vA:=Classical.choose_spec uD
noncomputable def aR[Cn]:Nat:=Cn.lim
def kU[Cn]:Int:=Cn.b30
def kb[Cn]:Int:=Cn.b62
def ea[Cn]:Int:=Cn.b64
def BP[Cn]:Int:=Cn.bp
def nI[Cn]:Nat:=Cn.n64
def Gc:aR=1000000:=(congrArg (λc:Cn=>c.lim) Za).x Y7
def GJ:kU=1073741824:=(congrArg (λc:Cn=>c.b30) Za).x Y7
def Kb:kb=2^62:=(congrArg (λc:Cn=>c.b62) Za).x Y7
def GR:ea=2^64:=(congrArg (λc:Cn=>c.b64) Za).x Y7
def Ke:BP=1000000:=(congrArg (λc:Cn=>c.bp) Za).x Y7
def GB:nI=2^64:=(congrArg (λc:Cn=>c.n64) Za).x Y7
variable[Cn]
set_option genInjectivity true
set_option genCtorIdx true
inductive D where
|ai
|bl (b:Bool)
|int (i:Int)
|str (s:Tx)
|tup (xs:List D)
|lst (xs:List D)
|ref (r:Nat)
|exc (c:String)(fs:List<|Tx×D)
|err (c f:String)(d:D)
set_option genCtorIdx false
open M renaming D.str->Lake.M.D.o,D.ref->Lake.M.D.j,D.int->Lake.M.D.u,D.tup->Lake.M.D.p,D.lst->Lake.M.D.w,D.exc->Lake.M.D.y,D.bl->Lake.M.D.K,D.err->Lake.M.D.B
set_option genCtorIdx true
inductive W where
|v (d:D)
|own (xs:List D)
|bor (xs:List D)
set_option genCtorIdx false
open M renaming W.own->Lake.M.W.j,W.bor->Lake.M.W.p
set_option genCtorIdx true
inductive Cell where
|lst (xs:List D)
|gP (ks:List Int)
|gq (kvs:List<|Tx×D)
|obj (c:String)(fs:List<|String×D)
set_option genCtorIdx false
open M renaming Cell.lst->Lake.M.Cell.w
abbrev AH:=List Cell
abbrev Sl:=List<|Option W
set_option genCtorIdx true
inductive R(α:Type) where
|ok (a:α)(h:AH)
|exc (d:D)(h:AH)
|fail
set_option genCtorIdx false
open M renaming R.ok->Lake.M.R.p,R.fail->Lake.M.R.w,R.exc->Lake.M.R.y
noncomputable def R.bind {c b:Type}:R c->(c->AH->R b)->R b
|.p a h,f=>f a h
|.y d h,_=>.y d h
|.w,_=>.w
open M renaming R.bind->Lake.M.R.j
set_option genCtorIdx true
inductive O where
|next (Y:Sl)(h:AH)
|ret (w:W)(h:AH)
|brk (Y:Sl)(h:AH)
|cont (Y:Sl)(h:AH)
|exc (d:D)(h:AH)
|fail
set_option genCtorIdx false
open M renaming O.fail->Lake.M.O.w,O.ret->Lake.M.O.j,O.exc->Lake.M.O.y,O.next->Lake.M.O.p
noncomputable def O.seq:O->(Sl->AH->O)->O
|.p Y h,f=>f Y h
|o,_=>o
noncomputable def R.bw {b:Type}:R b->(b->AH->O)->O
|.p a h,f=>f a h
|.y d h,_=>.y d h
|.w,_=>.w
open M renaming R.bw->Lake.M.R.B
section
variable{α β:Type}
@[simp]theorem R.af (a)(h)(f:α->AH->R β):(R.ok a h).j f=f a h:=rfl
@[simp]theorem R.di (d)(h)(f:α->AH->R β):(R.exc d h).j f=.y d h:=rfl
@[simp]theorem R.aQ (a)(h)(f:α->AH->O):(R.ok a h).B f=f a h:=rfl
@[simp]theorem O.cC (Y)(h)(f):(O.next Y h).seq f=f Y h:=rfl
@[simp]theorem O.e7 (w)(h)(f):(O.ret w h).seq f=.j w h:=rfl
@[simp]theorem O.eY (d)(h)(f):(O.exc d h).seq f=.y d h:=rfl
end
set_option genInjectivity false
set_option genCtorIdx true
inductive Op where
|add|sub|mul|fdiv|mod|pow|shl|shr|band|bor
 deriving DecidableEq
set_option genCtorIdx false
open M renaming Op.add->Lake.M.Op.j
set_option genCtorIdx true
inductive Cp where
|eq|ne|lt|le|gt|ge|mem|dP|kJ
 deriving DecidableEq
inductive Ty where
|ai|bool|int|str|list|tuple
 deriving DecidableEq
inductive Mt where
|index|join|starts|dh|part
 deriving DecidableEq
inductive Bi where
|len|list|tuple|sum|all|any|divmod|min
 deriving DecidableEq
set_option genCtorIdx false
set_option genInjectivity false
mutual
inductive E where
|var (i:Nat)
|con (x:String)
|int (i:Int)
|bl (b:Bool)
|ai
|str (s:Tx)
|tup (es:Es)
|lst (es:Es)
|bin (o:Op)(a b:E)
|cmp (o:Cp)(a b:E)
|chain (o p:Cp)(a b c:E)
|eT (neg:Bool)(a:E)
|neg (a:E)
|inv (a:E)
|not (a:E)
|and (a b:E)
|or (a b:E)
|call (f:String)(es:Es)
|bi (b:Bi)(es:Es)
|dR (a:E)(t:Ty)
|bO (a:E)(one:Bool)(ts:List String)
|ix (a b:E)
|fT (a lo:E)
|eC (a hi:E)
|comp (tg:List Nat)(one:Bool)(k:Nat)(az:List Nat)(it:It)(y7:Bool)(c elt:E)
|dH
|cQ (neg:Bool)(a:E)(i:Nat)
|dA
|share (a:E)
|cS (a:E)
|cO (a:E)
|dF (a:E)
|bY (a:E)
|c8 (a:E)
|i8 (s:Tx)(ts:List Tx)
|cW (m:Mt)(a:E)(es:Es)
|gp (c:String)(a:E)
|fE (c:String)(es:Es)
|dO (ps:List<|Tx⊕Nat)
|cU (a:E)
|cm (a:E)
|xf (i:Nat)(f:String)
|make (c q:String)(es:Es)
|aM (a:E)(c f:String)
|aI (a:E)(c m q:String)(es:Es)
|fe (a:E)
|fi (f:String)(a:E)
|lh (o a:E)
|eJ (neg:Bool)(a o:E)
|iZ (neg:Bool)(c:String)(a:E)
|eA (two:Bool)(a:E)
inductive Es where
|nil
|cons (e:E)(es:Es)
inductive It where
|seq (e:E)
|aA (a:E)
|zip (a b:E)
|enum (e:E)
end
set_option genInjectivity true
mutual
inductive S where
|set (i:Nat)(e:E)
|ae (i:Nat)(e:E)
|dw (is:List Nat)(e:E)
|d7 (i:Nat)(k e:E)
|bN (o k e:E)
|app (i:Nat)(e:E)
|ext (i:Nat)(e:E)
|ef (i:Nat)(e:E)
|b9 (i:Nat)(c f:String)(e:E)
|gb (is:List Nat)(e:E)
|fP (a e:E)
|ex (e:E)
|ret (e:E)
|iff (c:E)(a b:Ss)
|fm (n:Nat)(c:E)(b:Ss)
|for (tg:List Nat)(one:Bool)(it:It)(b:Ss)
|raise (c:String)(es:Es)
|gC (o k:E)(j:Nat)(e:E)
|gv (f:String)(es:Es)(c k fl g:String)(es2:Es)
|dD (o k e:E)
|et (o k:E)
|fM (o:E)(c m q:String)(es:Es)(k:String)(nm:Nat)(hb:Ss)
|ft (is:List Nat)(f:String)(es:Es)(e:E)(k:String)(t:Tx)
|aZ (i:Nat)(c f:String)(e:E)
|bx (c f:String)(e:E)
|ah
inductive Ss where
|nil
|cons (s:S)(ss:Ss)
end
noncomputable section
mutual
@[simp,reducible]noncomputable def Gf:D->Bool
|.j _=>y9
|.p xs=>Gd xs
|.w xs=>Gd xs
|.y _ _=>y9
|.B _ _ _=>y9
|_=>k9
@[simp,reducible]noncomputable def Gd:List D->Bool
|[]=>k9
|x::xs=>Gf x&&Gd xs
end
mutual
@[simp,reducible]noncomputable def dep:D->Nat
|.p xs=>GY xs+1
|.w xs=>GY xs+1
|_=>0
@[simp,reducible]noncomputable def GY:List D->Nat
|[]=>0
|x::xs=>max (dep x)<|GY xs
end
def Cell.pure (n:Nat):Cell->Bool
|.obj _ fs=>fs.T λp=>match p.2 with
 |.j r=>u9<|r<n
 |d=>Gf d
|_=>k9
def GQ(h:AH):Bool:=h.T<|Cell.pure h.e
@[simp,reducible]noncomputable def K2:D->D->Bool
|.w _,.w []=>k9
|.p _,.p []=>k9
|_,_=>y9
@[reducible]def Kc(a b:D):Bool:=Gf a&&Gf b&&(u9 (dep a<150)||K2 a b)
mutual
@[simp]noncomputable def res(h:AH):D->D
|.j r=>match h[r]? with
 |some (.w xs)=>.w xs
 |_=>.j r
|.p xs=>.p<|GX h xs
|.w xs=>.w<|GX h xs
|d=>d
@[simp]noncomputable def GX(h:AH):List D->List D
|[]=>[]
|x::xs=>res h x::GX h xs
end
mutual
noncomputable def cw:D->D->Bool
|.ai,.ai=>k9
|.K a,.K b=>a==b
|.u i,.u j=>i==j
|.K a,.u j=>(a.j:Int)==j
|.u i,.K b=>i==(b.j:Int)
|.o s,.o t=>s==t
|.p xs,.p ys=>GM xs ys
|.w xs,.w ys=>GM xs ys
|_,_=>y9
noncomputable def GM:List D->List D->Bool
|[],[]=>k9
|x::xs,y::ys=>cw x y&&GM xs ys
|_,_=>y9
end
@[simp]theorem zC0:cw .ai .ai=k9:=rfl
@[simp]theorem zC1{a b}:cw (.K a) (.K b)=(a==b):=rfl
@[simp]theorem zC2{a b}:cw (.u a) (.u b)=(a==b):=rfl
@[simp]theorem zC3{a b}:cw (.o a) (.o b)=(a==b):=rfl
@[simp]theorem zC4{a b}:cw (.p a) (.p b)=GM a b:=rfl
@[simp]theorem zC5{a b}:cw (.w a) (.w b)=GM a b:=rfl
@[simp]theorem zC6:GM [] []=k9:=rfl
@[simp]theorem zC7{x y a b}:GM (x::a) (y::b)=(cw x y&&GM a b):=rfl
noncomputable def dY(s:Tx):List D:=s.y λc=>.o [c]
noncomputable def W.d:W->Option D
|.v d=>y0 d
|.j xs=>y0<|.w xs
|.p _=>u0
noncomputable def W.arg:W->W
|.j xs=>.p xs
|w=>w
@[simp]theorem W.mF (d):(W.v d).arg=.v d:=rfl
@[simp]theorem W.ig (xs):(W.own xs).arg=.p xs:=rfl
@[simp]theorem W.hI (xs):(W.bor xs).arg=.p xs:=rfl
def W.dd (h:AH):W->D
|.v d=>res h d
|.j xs=>.w<|GX h xs
|.p xs=>.w<|GX h xs
open M renaming W.dd->Lake.M.W.y
noncomputable def W.bT (h:AH):W->Option (List D)
|.v (.w xs)=>y0 xs
|.j xs=>y0 xs
|.p xs=>y0 xs
|.v (.j r)=>match h[r]? with
 |some (.w xs)=>y0 xs
 |_=>u0
|_=>u0
noncomputable def W.seq? (h:AH):W->Option (List D)
|.v (.p xs)=>y0 xs
|.v (.w xs)=>y0 xs
|.j xs=>y0 xs
|.p xs=>y0 xs
|.v (.j r)=>match h[r]? with
 |some (.w xs)=>y0 xs
 |_=>u0
|_=>u0
noncomputable def R.of {b:Type}(h:AH):Option b->R b
|some a=>.p a h
|none=>.w
@[simp]noncomputable abbrev av(d:D)(h:AH):R W:=.p (.v d) h
noncomputable def GV:W->Option Bool
|.v (.K b)=>y0 b
|.v (.u i)=>y0<|i !=0
|_=>u0
@[simp]theorem R.aw (h)(a:α):R.of h (y0 a)=.p a h:=rfl
@[simp]theorem W.yU (d):(W.v d).d=y0 d:=rfl
@[simp]theorem W.mH (xs):(W.own xs).d=y0 (.w xs):=rfl
@[simp]theorem W.Pk (h)(d):(W.v d).y h=res h d:=rfl
@[simp]theorem W.oR (h)(xs):(W.own xs).y h=.w (GX h xs):=rfl
@[simp]theorem W.rE (h)(xs):(W.bor xs).y h=.w (GX h xs):=rfl
@[simp]theorem Gz(b):GV (.v<|.K b)=y0 b:=rfl
@[simp]theorem Fy(i):GV (.v<|.u i)=y0 (i !=0):=rfl
noncomputable def KG(i j:Int):Option Int:=
 if 0<=i then(if 0<=j then y0 ((i.j&&&j.j:Nat):Int)else y0 ((i.j-(i.j&&&(-j-1).j):Nat):Int))else u0
noncomputable def lW(i j:Int):Option Int:=if 0<=i/\0<=j then y0 ((i.j|||j.j:Nat):Int)else u0
def Gm(o:Op)(i j:Int):Option Int:=match o with
|.j=>y0<|i+j
|.sub=>y0<|i-j
|.mul=>if(-(ea)<i/\i<ea)\/(-(ea)<j/\j<ea)then y0 (i*j)else u0
|.fdiv=>if 0<j/\j<kU then y0 (i/j)else u0
|.mod=>if 0<j then y0 (i%j)else u0
|.pow=>if 0<=j/\j<=BP/\i.p<nI then y0 (i^j.j)else u0
|.shl=>if 0<=j/\j<=BP/\i.p<nI then y0 (i*2^j.j)else u0
|.shr=>if 0<=j then y0 (i/2^j.j)else u0
|.band=>KG i j
|.bor=>lW i j
noncomputable def W.int?:W->Option Int
|.v (.u i)=>y0 i
|_=>u0
open M renaming W.int?->Lake.M.W.w
noncomputable def W.aU:W->Option Tx
|.v (.o s)=>y0 s
|_=>u0
open M renaming W.aU->Lake.M.W.B
noncomputable def W.cT:W->Option (List D)
|.v (.p s)=>y0 s
|_=>u0
def K5(a ys:List D)(h:AH):R W:=if a.e+ys.e<=aR then .p (.j<|a++ys) h else .w
noncomputable def KW(a:List D)(j:Int)(h:AH):R W:=if-1000<=j/\j<=1000/\a.e*j.j<=aR then .p (.j (Ab j.j a).Z) h else .w
noncomputable def K0(a b:W)(h:AH):R W:=match a.B,b.B with
|some s,y0 t=>if s.e+t.e<=aR then av (.o<|s++t) h else .w
|_,_=>match a.cT,b.cT with
|some xs,y0 ys=>if xs.e+ys.e<=aR then av (.p<|xs++ys) h else .w
|_,_=>match a.bT h,b.bT h with
|some xs,y0 ys=>K5 xs ys h
|_,_=>.w
noncomputable def W.iS (h:AH):W->Option (List D)
|.j xs=>y0 xs
|.p xs=>y0 xs
|.v (.j r)=>match h[r]? with
 |some (.w xs)=>y0 xs
 |_=>u0
|_=>u0
def K1(a b:W)(h:AH):R W:=match a.B,b.w with
|some s,y0 j=>if 0<=j/\j<=1000/\s.e*j.j<=aR then av (.o (Ab j.j s).Z) h else .w
|_,_=>match a.iS h,b.w with
|some xs,y0 j=>KW xs j h
|_,_=>.w
def GN(o:Op)(a b:W)(h:AH):R W:=match a.w,b.w with
|some i,y0 j=>(R.of h<|Gm o i j).j λk h=>av (.u k) h
|_,_=>match o with
|.j=>K0 a b h
|.mul=>K1 a b h
|_=>.w
def inD(x:D)(a:List D):Bool:=a.C λy=>cw y x
@[simp,reducible]noncomputable def GO:D->Bool
|.ai=>k9
|.K _=>k9
|.u _=>k9
|.o _=>k9
|_=>y9
def KO(a b:W)(h:AH):Option Bool:=match b.y h with
|.w ys=>if Gf (a.y h)&&Gd ys&&u9 (GY ys<140)then y0 (inD (a.y h) ys)else u0
|_=>u0
def Kd(a b:W)(h:AH):Option Bool:=match a.B,b.B with
|some s,y0 t=>match s with
 |[c]=>y0<|t.w c
 |_=>u0
|_,_=>match a.d,b.seq? h with
|some d,y0 xs=>if GO d&&xs.T GO then y0 (inD d xs)else KO a b h
|_,_=>u0
noncomputable def KQ(o:Cp)(i j:Int):Option Bool:=match o with
|.lt=>y0<|u9<|i<j
|.le=>y0<|u9<|i<=j
|.gt=>y0<|u9<|j<i
|.ge=>y0<|u9<|j<=i
|_=>u0
noncomputable def KM:W->W->Option Bool
|.v .ai,.v (.K _)=>y0 y9
|.v (.K b),.v (.K c)=>y0<|b==c
|_,_=>u0
def Gs(o:Cp)(a b:W)(h:AH):Option Bool:=match o with
|.eq=>if Kc (a.y h) (b.y h)then y0 (cw (a.y h)<|b.y h)else u0
|.ne=>if Kc (a.y h) (b.y h)then y0 (!cw (a.y h) (b.y h))else u0
|.mem=>Kd a b h
|.dP=>(Kd a b h).y (!·)
|.kJ=>KM a b
|o=>match a.w,b.w with
|some i,y0 j=>KQ o i j
|_,_=>u0
noncomputable def cL(n:Nat)(i:Int):Option Nat:=if 0<=i then(if i<n then y0 i.j else u0)else if-(n:Int)<=i then y0 (i+n).j else u0
def bX{a:Type}(b:List a)(i:Int):Option a:=(cL b.e i).j λj=>b[j]?
noncomputable def bU(a b:W)(h:AH):Option D:=match b.w with
|some i=>match a.B with
 |some s=>if s.e<=aR then(bX s i).y λc=>.o [c]else u0
 |none=>(a.seq? h).j λxs=>bX xs i
|none=>u0
def aS(n d:Nat):Option Int->Nat
|none=>d
|some v=>if v<0 then(v+n).j else min v.j n
noncomputable def cut{b:Type}(a:List b)(c hi:Option Int):List b:=(a.L<|aS a.e 0 c).M<|aS a.e a.e hi-aS a.e 0 c
def ku(a:W)(b hi:Option Int)(h:AH):R W:=match a.B with
|some s=>if s.e<=aR then av (.o<|cut s b hi) h else .w
|none=>match a.cT with
|some xs=>av (.p<|cut xs b hi) h
|none=>match a.bT h with
|some xs=>.p (.j<|cut xs b hi) h
|none=>.w
noncomputable def Kx:List D->Option Int
|[]=>y0 0
|.u i::r=>(Kx r).y (i+·)
|_::_=>u0
noncomputable def GU:List D->Option (List Int)
|[]=>y0 []
|.u i::r=>(GU r).y (i::·)
|_::_=>u0
noncomputable def GC:List D->Option (List Tx)
|[]=>y0 []
|.o s::r=>(GC r).y (s::·)
|_::_=>u0
noncomputable def Mv:List Int->Option Int
|[]=>u0
|i::r=>y0<|r.a0 (λa b=>if b<a then b else a) i
noncomputable def Kf(x:Tx):List Tx->List Tx
|[]=>[x]
|y::ys=>if y<x then y::Kf x ys else x::y::ys
def GH:List Tx->List Tx
|[]=>[]
|x::xs=>Kf x<|GH xs
noncomputable def Kk(x:Tx):List Tx->Option Nat
|[]=>u0
|y::ys=>if y=x then y0 0 else(Kk x ys).y (·+1)
noncomputable def Gv(s:Tx):List Tx->Tx
|[]=>[]
|[x]=>x
|x::y::r=>x++s++Gv s (y::r)
noncomputable def KA:List D->Option (List Bool)
|[]=>y0 []
|.K b::r=>(KA r).y (b::·)
|_::_=>u0
noncomputable def yh(b:Bi)(w:W)(h:AH):R W:=match b with
|.len=>match w.B with
 |some s=>if s.e<=aR then av (.u s.e) h else .w
 |none=>(R.of h<|w.seq? h).j λxs h=>av (.u xs.e) h
|.list=>(R.of h<|w.seq? h).j λxs h=>.p (.j xs) h
|.tuple=>(R.of h<|w.seq? h).j λxs h=>av (.p xs) h
|.sum=>(R.of h<|(w.bT h).j λxs=>if xs.e<=aR then Kx xs else u0).j λi h=>av (.u i) h
|.all=>(R.of h<|(w.bT h).j KA).j λbs h=>av (.K<|bs.T id) h
|.any=>(R.of h<|(w.bT h).j KA).j λbs h=>av (.K<|bs.C id) h
|.min=>(R.of h<|((w.bT h).j GU).j Mv).j λi h=>av (.u i) h
|_=>.w
noncomputable def mf(m:Mt)(x:W)(h:AH):Bool:=match m with
|.index=>x.cT.p
|.join=>x.B.p
|.dh=>(x.bT h).p
|.starts=>x.B.p
|.part=>x.B.p
@[simp]theorem Rb(s)(h):mf .join (.v<|.o s) h=true:=rfl
@[simp]theorem yC(s)(h):mf .starts (.v<|.o s) h=true:=rfl
@[simp]theorem E8(s)(h):mf .part (.v<|.o s) h=true:=rfl
noncomputable def GW(c:Nat):Tx->Option (Tx×Tx)
|[]=>u0
|x::s=>if x=c then y0 ([],s)else(GW c s).y λp=>(x::p.1,p.2)
noncomputable def GS(s t:Tx):Option D:=match t with
|[c]=>match GW c s with
 |some p=>y0<|.p [.o p.1,.o [c],.o p.2]
 |none=>y0<|.p [.o s,.o [],.o []]
|_=>u0
noncomputable def G9(s t:Tx):Option Bool:=y0<|t.a4 s
noncomputable def fq[BEq α]:List α->List α->Nat
|_,[]=>0
|a,x::xs=>(if a.C (·==x)then 0 else 1)+fq (a++[x]) xs
noncomputable def Ky:Nat->List D->List D
|_,[]=>[]
|i,d::ds=>.p [.u (i:Int),d]::Ky (i+1) ds
def KK(d:D):List D->Option Nat
|[]=>u0
|y::ys=>if cw y d=k9 then y0 0 else(KK d ys).y (·+1)
def KH(a b:W)(h:AH):Option Nat:=match b.y h with
|.w ys=>if(Gf (a.y h)&&Gd ys&&u9 (GY ys<140))&&u9 (ys.e<=aR)then KK (a.y h) ys else u0
|_=>u0
def mM(m:Mt)(x:W)(ws:List W)(h:AH):R W:=match m,ws with
|.index,[w]=>(R.of h<|x.cT.j GC).j λts h=>(R.of h w.B).j λt h=>(R.of h<|Kk t ts).j λn h=>if ts.e<=aR then av (.u (n:Int)) h else .w
|.join,[w]=>(R.of h x.B).j λs h=>(R.of h<|(w.bT h).j GC).j λts h=>if(Gv s ts).e<=aR/\ts.e<=aR/\s.e<=aR then av (.o<|Gv s ts) h else .w
|.dh,[w]=>(R.of h<|KH w x h).j λn h=>av (.u (n:Int)) h
|.part,[w]=>(R.of h x.B).j λs h=>(R.of h w.B).j λt h=>(R.of h<|GS s t).j λd h=>if s.e<=aR then av d h else .w
|.starts,[w]=>(R.of h x.B).j λs h=>(R.of h w.B).j λt h=>(R.of h<|G9 s t).j λb h=>av (.K b) h
|_,_=>.w
noncomputable def yV(b:Bi)(i j:Int)(h:AH):R W:=match b with
|.divmod=>if 0<j/\j<kU then av (.p [.u (i/j),.u (i%j)]) h else .w
|_=>.w
def eO(b:Bi)(ws:List W)(h:AH):R W:=match ws with
|[w]=>yh b w h
|[v,w]=>(R.of h v.w).j λi h=>(R.of h w.w).j λj h=>yV b i j h
|_=>.w
@[simp]theorem Kj(o)(i j)(h):GN o (.v<|.u i) (.v<|.u j) h=(R.of h<|Gm o i j).j λk h=>av (.u k) h:=rfl
@[simp]theorem xl(i j):Gm .j i j=y0 (i+j):=rfl
@[simp]theorem yS(s u)(h):GN .j (.v<|.o s) (.v<|.o u) h=if s.e+u.e<=aR then av (.o<|s++u) h else .w:=rfl
@[simp]theorem xB(s u)(h):GN .j (.v<|.p s) (.v<|.p u) h=if s.e+u.e<=aR then av (.p<|s++u) h else .w:=rfl
@[simp]theorem CC(s u)(h):GN .j (.v<|.w s) (.j u) h=if s.e+u.e<=aR then .p (.j<|s++u) h else .w:=rfl
@[simp]theorem NW(s u)(h):GN .j (.j s) (.j u) h=if s.e+u.e<=aR then .p (.j<|s++u) h else .w:=rfl
@[simp]theorem LA(s u)(h):GN .j (.p s) (.j u) h=if s.e+u.e<=aR then .p (.j<|s++u) h else .w:=rfl
@[simp]theorem Z0(i j)(h):Gs .lt (.v<|.u i) (.v<|.u j) h=y0 (u9<|i<j):=rfl
@[simp]theorem rg(i j)(h):Gs .le (.v<|.u i) (.v<|.u j) h=y0 (u9<|i<=j):=rfl
@[simp]theorem ya(i j)(h):Gs .gt (.v<|.u i) (.v<|.u j) h=y0 (u9<|j<i):=rfl
@[simp]theorem OQ(a b)(h):Gs .eq a b h=if Kc (a.y h) (b.y h)then y0 (cw (a.y h)<|b.y h)else none:=rfl
@[simp]theorem Sz(a b)(h):Gs .ne a b h=if Kc (a.y h) (b.y h)then y0 (!cw (a.y h) (b.y h))else none:=rfl
@[simp]theorem int?_int(i):(W.v<|.u i).w=y0 i:=rfl
@[simp]theorem len_str(s)(h):eO .len [.v (.o s)] h=if s.e<=aR then av (.u s.e) h else .w:=rfl
@[simp]theorem Q8(s)(h):eO .len [.v (.p s)] h=av (.u s.e) h:=rfl
@[simp]theorem WO(s)(h):eO .len [.v (.w s)] h=av (.u s.e) h:=rfl
@[simp]theorem D6(s)(h):eO .list [.v (.p s)] h=.p (.j s) h:=rfl
@[simp]theorem Sy(s)(h):eO .tuple [.v (.p s)] h=av (.p s) h:=rfl
@[simp]theorem MZ(s)(h):eO .tuple [.j s] h=av (.p s) h:=rfl
@[simp]theorem Ih(s)(h):eO .sum [.j s] h=(R.of h<|if s.e<=aR then Kx s else u0).j λi h=>av (.u i) h:=rfl
@[simp]theorem Lv(i j)(h):eO .divmod [.v (.u i),.v (.u j)] h=if 0<j/\j<kU then av (.p [.u (i/j),.u (i%j)]) h else .w:=rfl
@[simp]theorem rZ(s)(i)(h):bU (.v<|.o s) (.v<|.u i) h=if s.e<=aR then(bX s i).y λc=>.o [c]else none:=rfl
@[simp]theorem gi(s)(i)(h):bU (.v<|.p s) (.v<|.u i) h=bX s i:=rfl
@[simp]theorem vQ(s)(i)(h):bU (.v<|.w s) (.v<|.u i) h=bX s i:=rfl
@[simp]theorem EW(s)(lo hi)(h):ku (.v<|.w s) lo hi h=.p (.j<|cut s lo hi) h:=rfl
abbrev cP:=List<|String×String
noncomputable def GK(a:cP):Nat->String->List String
|0,_=>[]
|n+1,c=>c::match a.p c with
|some b=>GK a n b
|none=>[]
noncomputable def Nf:W->Option Ty
|.v .ai=>y0 .ai
|.v (.K _)=>y0 .bool
|.v (.u _)=>y0 .int
|.v (.o _)=>y0 .str
|.v (.p _)=>y0 .tuple
|.v (.w _)=>y0 .list
|.j _=>y0 .list
|.p _=>y0 .list
|.v (.j _)=>u0
|.v (.y _ _)=>u0
|.v (.B _ _ _)=>u0
noncomputable def Ty.le:Ty->Ty->Bool
|.bool,.int=>k9
|a,b=>u9<|a=b
def dR(t:Ty)(w:W):Option Bool:=(Nf w).y λu=>u.le t
@[simp]theorem xE(t)(s):dR t (.v<|.o s)=y0 (Ty.le .str t):=rfl
@[simp]theorem Ty.cA (t):Ty.le t t=true:=by cases t<;>rfl
def bO(a:cP)(w:W)(ts:List String):Option Bool:=match w with
|.v (.y c [])=>y0<|ts.C (GK a 8 c).w
|.v (.B c _ _)=>y0<|ts.C (GK a 8 c).w
|_=>u0
@[simp]noncomputable def Gi:Sl->Nat->Option W
|[],_=>u0
|x::_,0=>x
|_::r,n+1=>Gi r n
@[simp]noncomputable def GF:Sl->Nat->W->Sl
|[],_,_=>[]
|_::r,0,w=>y0 w::r
|x::r,n+1,w=>x::GF r n w
def Gn(Y:Sl)(i:Nat):Option W:=match Gi Y i with
|some (.j xs)=>y0<|.p xs
|o=>o
@[simp]theorem Ka(e:Gi Y i=y0 (.j xs)):Gn Y i=y0 (.p xs):=by simp[Gn,e]
@[simp]theorem Ku(e:Gi Y i=y0 (.v d)):Gn Y i=y0 (.v d):=by simp[Gn,e]
@[simp]theorem GZ(e:Gi Y i=y0 (.p xs)):Gn Y i=y0 (.p xs):=by simp[Gn,e]
@[simp]noncomputable def aC:List Nat->List D->Sl->Option Sl
|[],[],Y=>y0 Y
|i::is,d::ds,Y=>aC is ds<|GF Y i<|.v d
|_,_,_=>u0
def Gx(tg:List Nat)(one:Bool)(d:D)(Y:Sl):Option Sl:=match one with
|true=>match tg with
 |[i]=>y0<|GF Y i<|.v d
 |_=>u0
|false=>match d with
|.p ds=>aC tg ds Y
|_=>u0
noncomputable def Gu(step:D->AH->R (Option D)):List D->AH->R (List D)
|[],h=>.p [] h
|d::ds,h=>match step d h with
|.p o h1=>match Gu step ds h1 with
 |.p r h2=>.p (match o with|some x=>x::r|none=>r) h2
 |_=>.w
|_=>.w
structure Fx where
 call:String->List W->AH->R W
 cl:cP
 con:List<|String×D
open M renaming Fx.call->Lake.M.Fx.j
noncomputable def G8(h:AH):Option W->Option (Nat×List D)
|some (.v (.j r))=>match h[r]? with
 |some (.w xs)=>y0 (r,xs)
 |_=>u0
|_=>u0
noncomputable def GD(h:AH):Option W->Option (Nat×String×List (String×D))
|some (.v (.j r))=>match h[r]? with
 |some (.obj c fs)=>y0 (r,c,fs)
 |_=>u0
|_=>u0
noncomputable def bf(f:String)(d:D):List (String×D)->List (String×D)
|[]=>[(f,d)]
|(g,x)::r=>if g=f then(g,d)::r else(g,x)::bf f d r
noncomputable def cm(i:Int):Tx:=(toString i).toList.y Char.toNat
def K4:W->Option Tx
|.v (.o s)=>y0 s
|.v (.u i)=>if 0<=i/\i<1000000 then y0 (cm i)else u0
|_=>u0
noncomputable def K3(w:W)(h:AH):R W:=match w with
|.v (.u i)=>if 0<=i/\i<1000000 then av (.o<|cm i) h else .w
|_=>.w
noncomputable def KZ(s:Tx):Option Nat:=if cm ((s.a0 (λa c=>a*10+(c-48)) 0:Nat):Int)=s/\s.a0 (λa c=>a*10+(c-48)) 0<1000000 then y0 (s.a0 (λa c=>a*10+(c-48)) 0)else u0
def KL(w:W)(h:AH):R W:=match w with
|.v (.o s)=>(R.of h<|KZ s).j λn h=>av (.u (n:Int)) h
|_=>.w
@[simp]noncomputable def u7:W->Option (List D)
|.v (.w xs)=>y0 xs
|.v (.p xs)=>y0 xs
|.j xs=>y0 xs
|_=>u0
noncomputable def KU(T:List<|Tx×D)(w:W)(h:AH):R W:=match w with
|.v (.o k)=>match T.p k with
 |some d=>av d h
 |none=>.w
|_=>.w
noncomputable def KB(T:List<|Tx×D)(ws:List W)(h:AH):R W:=match ws with
|[.v (.o k),.v z]=>match T.p k with
 |some d=>av d h
 |none=>av z h
|_=>.w
noncomputable def KJ(Y:Sl):List (Tx⊕Nat)->Option Tx
|[]=>y0 []
|.p s::ps=>(KJ Y ps).y (s++·)
|.w i::ps=>((Gi Y i).j K4).j λt=>(KJ Y ps).y (t++·)
noncomputable def KC(o:Option Tx)(h:AH):R W:=match o with
|some t=>if t.e<=aR then av (.o t) h else .w
|none=>.w
noncomputable def Kv(h:AH):Option W->Option (Nat×List Int)
|some (.v (.j r))=>match h[r]? with
 |some (.gP ks)=>y0 (r,ks)
 |_=>u0
|_=>u0
def Kp(a:List Int)(k:Int):List Int:=if a.w k then a else a++[k]
noncomputable def cQ(neg:Bool)(w:W)(o:Option<|Nat×List Int)(h:AH):R W:=match w,o with
|.v (.u k),y0 (_,ks)=>av (.K<|if neg then !ks.w k else ks.w k) h
|_,_=>.w
noncomputable def GT(h:AH):Option W->Option (Nat×List (Tx×D))
|some (.v (.j r))=>match h[r]? with
 |some (.gq ks)=>y0 (r,ks)
 |_=>u0
|_=>u0
noncomputable def Kh(a:List<|Tx×D)(k:Tx)(d:D):List<|Tx×D:=if a.C (λp=>u9<|p.1=k)then a.y (λp=>if p.1=k then(p.1,d)else p)else a++[(k,d)]
noncomputable def tJ(w:W)(o:Option<|Nat×List (Tx×D))(h:AH):R W:=match w,o with
|.v (.o k),y0 (_,ks)=>match ks.p k with
 |some d=>av d h
 |none=>.w
|_,_=>.w
noncomputable def KS(neg:Bool)(w:W)(o:Option<|Nat×List (Tx×D))(h:AH):R W:=match w,o with
|.v (.o k),y0 (_,ks)=>av (.K<|if neg then !(ks.p k).p else(ks.p k).p) h
|_,_=>.w
noncomputable def aN(c:Nat):Nat->Tx->Tx->List Tx
|_,p,[]=>[p]
|0,p,s=>[p++s]
|n+1,p,x::s=>if x=c then p::aN c n [] s else aN c (n+1) (p++[x]) s
set_option backward.eqns.nonrecursive true in
def Kz(two:Bool)(w:W)(h:AH):R W:=match w with
|.v (.o s)=>if s.e+2<=aR then .p (.j<|(aN 32 (if two then 2 else s.e+1) [] s).y .o) h else .w
|_=>.w
noncomputable def KN(neg:Bool)(T:List<|Tx×D)(w:W)(h:AH):R W:=match w with
|.v (.o k)=>av (.K<|if neg then !(T.p k).p else(T.p k).p) h
|_=>.w
noncomputable def KR(a:List<|Tx×D)(k:Tx):List<|Tx×D:=a.a2 λp=>u9<|p.1≠k
noncomputable def Kl(i:Int):Nat:=if i=0 then 0 else Nat.log2 i.p+1
noncomputable def Kg:R W->Option Int
|.p (.v (.u y)) []=>y0 y
|_=>u0
noncomputable def G6(a:Int->R W):Int->Int->List Int->Option Int
|b,_,[]=>y0 b
|b,c,x::xs=>(Kg<|a x).j λk=>if k<c then G6 a x k xs else G6 a b c xs
set_option backward.eqns.nonrecursive true in
def Kt(a:Int->R W):Option (List Int)->Option Int
|some (x::xs)=>(Kg<|a x).j λk=>G6 a x k xs
|_=>u0
mutual
noncomputable def eval(F:Fx):E->Sl->AH->R W
|.var i,Y,h=>match Gn Y i with
 |some w=>.p w h
 |none=>.w
|.con x,_,h=>match F.con.p x with
 |some d=>av d h
 |none=>.w
|.int i,_,h=>av (.u i) h
|.bl b,_,h=>av (.K b) h
|.ai,_,h=>av .ai h
|.str s,_,h=>av (.o s) h
|.tup es,Y,h=>(Gk F es Y h).j λds h=>av (.p ds) h
|.lst es,Y,h=>(Gk F es Y h).j λds h=>.p (.j ds) h
|.bin o a b,Y,h=>(eval F a Y h).j λx h=>(eval F b Y h).j λy h=>GN o x y h
|.cmp o a b,Y,h=>(eval F a Y h).j λx h=>(eval F b Y h).j λy h=>(R.of h<|Gs o x y h).j λc h=>av (.K c) h
|.chain o p a b c,Y,h=>(eval F a Y h).j λx h=>(eval F b Y h).j λy h=>(R.of h<|Gs o x y h).j λt h=>match t with
 |true=>(eval F c Y h).j λz h=>(R.of h<|Gs p y z h).j λc h=>av (.K c) h
 |false=>av (.K y9) h
|.eT neg a,Y,h=>(eval F a Y h).j λx h=>match x with
 |.v .ai=>av (.K<|!neg) h
 |_=>av (.K neg) h
|.neg a,Y,h=>(eval F a Y h).j λx h=>(R.of h x.w).j λi h=>av (.u<|-i) h
|.inv a,Y,h=>(eval F a Y h).j λx h=>(R.of h x.w).j λi h=>av (.u<|-i-1) h
|.not a,Y,h=>(eval F a Y h).j λx h=>(R.of h<|GV x).j λc h=>av (.K<|!c) h
|.and a b,Y,h=>(eval F a Y h).j λx h=>(R.of h<|GV x).j λc h=>match c with
 |true=>eval F b Y h
 |false=>.p x h
|.or a b,Y,h=>(eval F a Y h).j λx h=>(R.of h<|GV x).j λc h=>match c with
 |true=>.p x h
 |false=>eval F b Y h
|.call f es,Y,h=>(Gg F es Y h).j λws h=>F.j f (ws.y W.arg) h
|.bi b es,Y,h=>(Gg F es Y h).j λws h=>eO b ws h
|.dR a t,Y,h=>(eval F a Y h).j λx h=>(R.of h<|dR t x).j λc h=>av (.K c) h
|.bO a _ ts,Y,h=>(eval F a Y h).j λx h=>(R.of h<|bO F.cl x ts).j λc h=>av (.K c) h
|.ix a b,Y,h=>(eval F a Y h).j λx h=>(eval F b Y h).j λy h=>(R.of h<|bU x y h).j λd h=>av d h
|.fT a lo,Y,h=>(eval F a Y h).j λx h=>(eval F lo Y h).j λl h=>(R.of h l.w).j λl h=>ku x (y0 l) u0 h
|.eC a hi,Y,h=>(eval F a Y h).j λx h=>(eval F hi Y h).j λu h=>(R.of h u.w).j λu h=>ku x u0 (y0 u) h
|.comp tg one k az it y7 c elt,Y,h=>(Gp F it Y h).j λds h=>
  if ds.e<=aR then
   (Gu (λd h=>match Gx tg one d (Ab k u0++az.y λj=>Gn Y j)with
|none=>.w
|some Y'=>(if y7 then(eval F c Y' h).j λx h=>R.of h (GV x)else .p k9 h).j λb h=>match b with
|true=>(eval F elt Y' h).j λy h=>(R.of h y.d).j λy h=>.p (y0 y) h
|false=>.p u0 h) ds h).j λys h=>.p (.j ys) h
  else .w
|.dH,_,h=>av (.j h.e)<|h++[.gP []]
|.dA,_,h=>av (.j h.e)<|h++[.gq []]
|.cQ neg a i,Y,h=>(eval F a Y h).j λx h=>cQ neg x (Kv h<|Gi Y i) h
|.cS a,Y,h=>(eval F a Y h).j λw h=>(R.of h w.d).j λd h=>av d h
|.share a,Y,h=>(eval F a Y h).j λx h=>match x with
 |.j xs=>if Gd xs then av (.j h.e) (h++[.w xs])else .w
 |_=>.w
|.cO a,Y,h=>(eval F a Y h).j λx h=>(R.of h<|x.cT.j GU).j λis h=>if is.e<1000 then av (.u ((fq [] is:Nat):Int)) h else .w
|.dF a,Y,h=>(eval F a Y h).j λx h=>(R.of h<|(x.bT h).j GC).j λts h=>if ts.e<1000 then av (.u ((fq [] ts:Nat):Int)) h else .w
|.bY a,Y,h=>(eval F a Y h).j λx h=>(R.of h x.w).j λn h=>if 0<=n/\n<=1000 then .p (.j<|(Ab1 n.j).y λ(i:Nat)=>.u (i:Int)) h else .w
|.i8 _ ts,Y,h=>.p (.j<|ts.y .o) h
|.c8 a,Y,h=>(eval F a Y h).j λx h=>(R.of h<|x.cT.j GC).j λts h=>if ts.e<64 then .p (.j<|(GH ts).y .o) h else .w
|.cW m a es,Y,h=>(eval F a Y h).j λx h=>if mf m x h then(Gg F es Y h).j λws h=>mM m x ws h else .w
|.gp c a,Y,h=>match F.con.p c with
 |some (.y _ (r::T))=>(eval F a Y h).j λw h=>KU (r::T) w h
 |_=>.w
|.fE c es,Y,h=>match F.con.p c with
 |some (.y _ (r::T))=>(Gg F es Y h).j λws h=>KB (r::T) ws h
 |_=>.w
|.dO ps,Y,h=>KC (KJ Y ps) h
|.cU a,Y,h=>(eval F a Y h).j λw h=>K3 w h
|.cm a,Y,h=>(eval F a Y h).j λw h=>KL w h
|.xf i f,Y,h=>match Gi Y i with
 |some (.v (.B _ g d))=>if g=f then .p (.v d) h else .w
 |_=>.w
|.make c q es,Y,h=>(Gg F es Y h).j λws h=>(F.j q (.v (.j h.e)::ws.y W.arg)<|h++[.obj c []]).j λw h'=>match w with
 |.v .ai=>av (.j h.e) h'
 |_=>.w
|.aM a c f,Y,h=>(eval F a Y h).j λw h=>match GD h (y0 w)with
 |some (_,c',fs)=>if c'=c then(R.of h<|fs.p f).j λd h=>av d h else .w
 |none=>.w
|.aI a c m q es,Y,h=>(eval F a Y h).j λw h=>match GD h (y0 w)with
 |some (r,c',fs)=>if c'=c/\(fs.p m).w=k9 then(Gg F es Y h).j λws h=>F.j q (.v (.j r)::ws.y W.arg) h else .w
 |none=>.w
|.fe a,Y,h=>(eval F a Y h).j λw h=>(R.of h w.w).j λi h=>av (.u ((Kl i:Nat):Int)) h
|.lh o a,Y,h=>(eval F o Y h).j λx h=>match GT h (y0 x)with
 |some _=>(eval F a Y h).j λk h=>tJ k (GT h<|y0 x) h
 |none=>.w
|.eJ neg a o,Y,h=>(eval F a Y h).j λk h=>(eval F o Y h).j λx h=>KS neg k (GT h<|y0 x) h
|.iZ neg c a,Y,h=>match F.con.p c with
 |some (.y _ (r::T))=>(eval F a Y h).j λw h=>KN neg (r::T) w h
 |_=>.w
|.eA two a,Y,h=>(eval F a Y h).j λw h=>Kz two w h
|.fi f a,Y,h=>(eval F a Y h).j λw h=>(R.of h<|Kt (λx=>F.j f [.v (.u x)] [])<|(w.bT h).j GU).j λi h=>av (.u i) h
noncomputable def Gg(F:Fx):Es->Sl->AH->R (List W)
|.nil,_,h=>.p [] h
|.cons e es,Y,h=>(eval F e Y h).j λw h=>(Gg F es Y h).j λws h=>.p (w::ws) h
noncomputable def Gk(F:Fx):Es->Sl->AH->R (List D)
|.nil,_,h=>.p [] h
|.cons e es,Y,h=>(eval F e Y h).j λw h=>(R.of h w.d).j λd h=>(Gk F es Y h).j λds h=>.p (d::ds) h
noncomputable def Gp(F:Fx):It->Sl->AH->R (List D)
|.seq e,Y,h=>(eval F e Y h).j λw h=>match w with
 |.v (.o s)=>.p (dY s) h
 |.v (.p xs)=>.p xs h
 |.v (.w xs)=>.p xs h
 |.j xs=>.p xs h
 |.p xs=>.p xs h
 |_=>.w
|.aA a,Y,h=>(eval F a Y h).j λw h=>(R.of h w.w).j λn h=>if-(kb)<=n/\n<kb then .p ((Ab1 n.j).y λ(i:Nat)=>.u (i:Int)) h else .w
|.enum e,Y,h=>(eval F e Y h).j λw h=>(R.of h<|u7 w).j λxs h=>.p (Ky 0 xs) h
|.zip a b,Y,h=>(eval F a Y h).j λx h=>(eval F b Y h).j λy h=>match x,y with
|.j xs,.v (.p ys)=>.p ((xs.a1 ys).y λp=>.p [p.1,p.2]) h
|.v (.p xs),.j ys=>.p ((xs.a1 ys).y λp=>.p [p.1,p.2]) h
|_,_=>.w
end
@[simp]theorem zEe1{F i Y h}:eval F (.var i) Y h=match Gn Y i with
 |some w=>.p w h
 |none=>.w:=rfl
@[simp]theorem zEe2{F x Y h}:eval F (.con x) Y h=match F.con.p x with
 |some d=>av d h
 |none=>.w:=rfl
@[simp]theorem zEe3{F i Y h}:eval F (.int i) Y h=av (.u i) h:=rfl
@[simp]theorem zEe4{F b Y h}:eval F (.bl b) Y h=av (.K b) h:=rfl
@[simp]theorem zEe5{F Y h}:eval F .ai Y h=av .ai h:=rfl
@[simp]theorem zEe6{F s Y h}:eval F (.str s) Y h=av (.o s) h:=rfl
@[simp]theorem zEe7{F es Y h}:eval F (.tup es) Y h=(Gk F es Y h).j λds h=>av (.p ds) h:=rfl
@[simp]theorem zEe8{F es Y h}:eval F (.lst es) Y h=(Gk F es Y h).j λds h=>.p (.j ds) h:=rfl
@[simp]theorem zEe9{F o a b Y h}:eval F (.bin o a b) Y h=(eval F a Y h).j λx h=>(eval F b Y h).j λy h=>GN o x y h:=rfl
@[simp]theorem zEe10{F o a b Y h}:eval F (.cmp o a b) Y h=((eval F a Y h).j λx h=>(eval F b Y h).j λy h=>(R.of h<|Gs o x y h).j λc h=>av (.K c) h):=rfl
@[simp]theorem zEe11{F o p a b c Y h}:eval F (.chain o p a b c) Y h=((eval F a Y h).j λx h=>(eval F b Y h).j λy h=>(R.of h<|Gs o x y h).j λt h=>match t with
 |true=>(eval F c Y h).j λz h=>(R.of h<|Gs p y z h).j λc h=>av (.K c) h
 |false=>av (.K y9) h):=rfl
@[simp]theorem zEe12{F neg a Y h}:eval F (.eT neg a) Y h=((eval F a Y h).j λx h=>match x with
 |.v .ai=>av (.K<|!neg) h
 |_=>av (.K neg) h):=rfl
@[simp]theorem zEe13{F a Y h}:eval F (.neg a) Y h=((eval F a Y h).j λx h=>(R.of h x.w).j λi h=>av (.u<|-i) h):=rfl
@[simp]theorem zEe15{F a Y h}:eval F (.not a) Y h=((eval F a Y h).j λx h=>(R.of h<|GV x).j λc h=>av (.K<|!c) h):=rfl
@[simp]theorem zEe16{F a b Y h}:eval F (.and a b) Y h=((eval F a Y h).j λx h=>(R.of h<|GV x).j λc h=>match c with
 |true=>eval F b Y h
 |false=>.p x h):=rfl
@[simp]theorem zEe17{F a b Y h}:eval F (.or a b) Y h=((eval F a Y h).j λx h=>(R.of h<|GV x).j λc h=>match c with
 |true=>.p x h
 |false=>eval F b Y h):=rfl
@[simp]theorem zEe18{F f es Y h}:eval F (.call f es) Y h=(Gg F es Y h).j λws h=>F.j f (ws.y W.arg) h:=rfl
@[simp]theorem zEe19{F b es Y h}:eval F (.bi b es) Y h=(Gg F es Y h).j λws h=>eO b ws h:=rfl
@[simp]theorem zEe20{F a t Y h}:eval F (.dR a t) Y h=((eval F a Y h).j λx h=>(R.of h<|dR t x).j λc h=>av (.K c) h):=rfl
@[simp]theorem zEe22{F a b Y h}:eval F (.ix a b) Y h=((eval F a Y h).j λx h=>(eval F b Y h).j λy h=>(R.of h<|bU x y h).j λd h=>av d h):=rfl
@[simp]theorem zEe23{F a lo Y h}:eval F (.fT a lo) Y h=(eval F a Y h).j λx h=>(eval F lo Y h).j λl h=>(R.of h l.w).j λl h=>ku x (y0 l) u0 h:=rfl
@[simp]theorem zEe24{F a hi Y h}:eval F (.eC a hi) Y h=(eval F a Y h).j λx h=>(eval F hi Y h).j λu h=>(R.of h u.w).j λu h=>ku x u0 (y0 u) h:=rfl
@[simp]theorem zEe25{F tg one k az it y7 c elt Y h}:eval F (.comp tg one k az it y7 c elt) Y h=(Gp F it Y h).j λds h=>
  if ds.e<=aR then
   (Gu (λd h=>match Gx tg one d (Ab k u0++az.y λj=>Gn Y j)with
|none=>.w
|some Y'=>(if y7 then(eval F c Y' h).j λx h=>R.of h (GV x)else .p k9 h).j λb h=>match b with
|true=>(eval F elt Y' h).j λy h=>(R.of h y.d).j λy h=>.p (y0 y) h
|false=>.p u0 h) ds h).j λys h=>.p (.j ys) h
  else .w:=rfl
@[simp]theorem zEe28{F neg a i Y h}:eval F (.cQ neg a i) Y h=((eval F a Y h).j λx h=>cQ neg x (Kv h<|Gi Y i) h):=rfl
@[simp]theorem zEe30{F a Y h}:eval F (.share a) Y h=(eval F a Y h).j λx h=>match x with
 |.j xs=>if Gd xs then av (.j h.e) (h++[.w xs])else .w
 |_=>.w:=rfl
@[simp]theorem zEe32{F a Y h}:eval F (.dF a) Y h=((eval F a Y h).j λx h=>(R.of h<|(x.bT h).j GC).j λts h=>if ts.e<1000 then av (.u ((fq [] ts:Nat):Int)) h else .w):=rfl
@[simp]theorem zEe34{F u0z ts Y h}:eval F (.i8 u0z ts) Y h=(.p (.j<|ts.y .o) h):=rfl
@[simp]theorem zEe35{F a Y h}:eval F (.c8 a) Y h=((eval F a Y h).j λx h=>(R.of h<|x.cT.j GC).j λts h=>if ts.e<64 then .p (.j<|(GH ts).y .o) h else .w):=rfl
@[simp]theorem zEe36{F m a es Y h}:eval F (.cW m a es) Y h=(eval F a Y h).j λx h=>if mf m x h then(Gg F es Y h).j λws h=>mM m x ws h else .w:=rfl
@[simp]theorem zEe37{F c a Y h}:eval F (.gp c a) Y h=match F.con.p c with
 |some (.y _ (r::T))=>(eval F a Y h).j λw h=>KU (r::T) w h
 |_=>.w:=rfl
@[simp]theorem zEe38{F c es Y h}:eval F (.fE c es) Y h=match F.con.p c with
 |some (.y _ (r::T))=>(Gg F es Y h).j λws h=>KB (r::T) ws h
 |_=>.w:=rfl
@[simp]theorem zEe39{F ps Y h}:eval F (.dO ps) Y h=KC (KJ Y ps) h:=rfl
@[simp]theorem zEe41{F a Y h}:eval F (.cm a) Y h=(eval F a Y h).j λw h=>KL w h:=rfl
@[simp]theorem zEe42{F i f Y h}:eval F (.xf i f) Y h=match Gi Y i with
 |some (.v (.B _ g d))=>if g=f then .p (.v d) h else .w
 |_=>.w:=rfl
@[simp]theorem zEe44{F a c f Y h}:eval F (.aM a c f) Y h=((eval F a Y h).j λw h=>match GD h (y0 w)with
 |some (_,c',fs)=>if c'=c then(R.of h<|fs.p f).j λd h=>av d h else .w
 |none=>.w):=rfl
@[simp]theorem zEe45{F a c m q es Y h}:eval F (.aI a c m q es) Y h=(eval F a Y h).j λw h=>match GD h (y0 w)with
 |some (r,c',fs)=>if c'=c/\(fs.p m).w=k9 then(Gg F es Y h).j λws h=>F.j q (.v (.j r)::ws.y W.arg) h else .w
 |none=>.w:=rfl
@[simp]theorem zEe48{F neg a o Y h}:eval F (.eJ neg a o) Y h=((eval F a Y h).j λk h=>(eval F o Y h).j λx h=>KS neg k (GT h<|y0 x) h):=rfl
@[simp]theorem zEe49{F neg c a Y h}:eval F (.iZ neg c a) Y h=match F.con.p c with
 |some (.y _ (r::T))=>(eval F a Y h).j λw h=>KN neg (r::T) w h
 |_=>.w:=rfl
@[simp]theorem zEe51{F f a Y h}:eval F (.fi f a) Y h=((eval F a Y h).j λw h=>(R.of h<|Kt (λx=>F.j f [.v (.u x)] [])<|(w.bT h).j GU).j λi h=>av (.u i) h):=rfl
@[simp]theorem zEg1{F Y h}:Gg F .nil Y h=.p [] h:=rfl
@[simp]theorem zEg2{F e es Y h}:Gg F (.cons e es) Y h=(eval F e Y h).j λw h=>(Gg F es Y h).j λws h=>.p (w::ws) h:=rfl
@[simp]theorem zEk1{F Y h}:Gk F .nil Y h=.p [] h:=rfl
@[simp]theorem zEk2{F e es Y h}:Gk F (.cons e es) Y h=(eval F e Y h).j λw h=>(R.of h w.d).j λd h=>(Gk F es Y h).j λds h=>.p (d::ds) h:=rfl
@[simp]theorem zEp1{F e Y h}:Gp F (.seq e) Y h=(eval F e Y h).j λw h=>match w with
 |.v (.o s)=>.p (dY s) h
 |.v (.p xs)=>.p xs h
 |.v (.w xs)=>.p xs h
 |.j xs=>.p xs h
 |.p xs=>.p xs h
 |_=>.w:=rfl
@[simp]theorem zEp2{F a Y h}:Gp F (.aA a) Y h=(eval F a Y h).j λw h=>(R.of h w.w).j λn h=>if-(kb)<=n/\n<kb then .p ((Ab1 n.j).y λ(i:Nat)=>.u (i:Int)) h else .w:=rfl
noncomputable def ng:W->Option (List D)
|.v (.o s)=>y0<|dY s
|.v (.p xs)=>y0 xs
|.v (.w xs)=>y0 xs
|.j xs=>y0 xs
|_=>u0
noncomputable def nz:W->Option (List D)
|.v (.o s)=>y0<|dY s
|.v (.p xs)=>y0 xs
|.v (.w xs)=>y0 xs
|.p xs=>y0 xs
|_=>u0
@[simp]theorem Kr(xs):ng (.v<|.p xs)=y0 xs:=rfl
@[simp]theorem Kw(xs):ng (.v<|.w xs)=y0 xs:=rfl
@[simp]theorem Ko(xs):ng (.j xs)=y0 xs:=rfl
@[simp]theorem Ks(xs):nz (.v<|.p xs)=y0 xs:=rfl
@[simp]theorem Kn(xs):nz (.v<|.w xs)=y0 xs:=rfl
@[simp]theorem Km(xs):nz (.p xs)=y0 xs:=rfl
@[simp]noncomputable def GL:E->Option Nat
|.var i=>y0 i
|_=>u0
@[simp]def Gr(F:Fx)(it:It)(Y:Sl)(h:AH):R<|List D:=match it with
|.seq e=>match GL e with
 |some i=>R.of h<|(Gi Y i).j nz
 |none=>(eval F e Y h).j λw h=>R.of h<|ng w
|it=>Gp F it Y h
noncomputable def Gw(b:D->Sl->Option Sl)(a:Sl->AH->O):List D->Sl->AH->O
|[],Y,h=>.p Y h
|d::ds,Y,h=>match b d Y with
|none=>.w
|some Y1=>match a Y1 h with
|.p c h2=>Gw b a ds c h2
|.cont c h2=>Gw b a ds c h2
|.brk c h2=>.p c h2
|o=>o
noncomputable def GP(c:Sl->AH->R Bool)(a:Sl->AH->O):Nat->Sl->AH->O
|0,_,_=>.w
|n+1,Y,h=>(c Y h).B λb h1=>match b with
|false=>.p Y h1
|true=>match a Y h1 with
|.p d h2=>GP c a n d h2
|.cont d h2=>GP c a n d h2
|.brk d h2=>.p d h2
|o=>o
def Gj(F:Fx)(e:E)(Y:Sl)(h:AH):R Bool:=(eval F e Y h).j λx h=>R.of h<|GV x
def GE:D->Bool
|.y _ _=>k9
|.B _ _ d=>Gf d
|_=>y9
def GI(d:D)(n:Nat)(h:AH):AH:=if GE d&&GQ (h.M n)then h.M n else h
noncomputable def gE:D->D
|.p [d]=>d
|d=>d
def KI(a:cP)(c k b:String)(d:D)(r:R<|List D):O:=match bO a (.v d) [c]with
|some true=>match r with
 |.p [y] h=>.y (.p [.B k b y]) h
 |_=>.w
|_=>.w
def KP(b:cP)(c:String)(nm:Nat)(e:Sl->AH->O)(Y:Sl)(d:D)(h:AH):O:=match bO b (.v d) [c]with
|some true=>match e (GF Y nm<|.v d) h with
 |.p a h'=>.p (a.B nm u0) h'
 |_=>.w
|_=>.w
noncomputable def kT(call:String->List W->AH->R W)(q:String)(r:Nat)(Y:Sl):R (List W)->O
|.p a h=>match call q (.v (.j r)::a.y W.arg) h with
 |.p _ h1=>.p Y h1
 |.y d h1=>.y (gE d)<|GI (gE d) h.e h1
 |.w=>.w
|_=>.w
def KY(call:String->List W->AH->R W)(c:cP)(is:List Nat)(f:String)(b:Sl->AH->R W)(k:String)(t:Tx)(Y:Sl):R (List W)->O
|.p a h=>match call f (a.y W.arg) h with
 |.p (.v (.p ds)) h1=>match aC is ds Y with
   |some Y'=>match b Y' h1 with
    |.p (.v d) h2=>.j (.v d) h2
    |_=>.w
   |none=>.w
 |.y d h1=>match bO c (.v d) [k]with
   |some true=>.j (.v<|.o t)<|GI d h.e h1
   |some false=>.y d h1
   |none=>.w
 |_=>.w
|_=>.w
def nu(a:cP)(c:String)(nm:Nat)(b:Sl->AH->O)(Y:Sl):O->O
|.y d h=>KP a c nm b Y d h
|o=>o
noncomputable def gm:W->Option (D×D)
|.v (.p [a,b])=>y0 (a,b)
|_=>u0
def Kq(w a b:W)(Y:Sl)(h:AH):O:=match w,a,b with
|.v d,.v (.j r),.v (.u j)=>match h[r]? with
 |some (.w xs)=>match cL xs.e j with
   |some n=>if GO d then .p Y (h.B r<|.w<|xs.B n d)else .w
   |none=>.w
 |_=>.w
|_,_,_=>.w
mutual
noncomputable def exec(F:Fx):S->Sl->AH->O
|.set i e,Y,h=>(eval F e Y h).B λw h=>match w with
 |.p _=>.w
 |w=>.p (GF Y i w) h
|.ae i e,Y,h=>(eval F e Y h).B λw h=>match w.d with
 |some d=>.p (GF Y i<|.v d) h
 |none=>.w
|.dw is e,Y,h=>(eval F e Y h).B λw h=>match w with
 |.v (.p ds)=>match aC is ds Y with
   |some Y'=>.p Y' h
   |none=>.w
 |_=>.w
|.d7 i k e,Y,h=>(eval F e Y h).B λw h=>match Gi Y i with
 |some (.j xs)=>(eval F k Y h).B λkw h=>match w,kw with
   |.v d,.v (.u j)=>if GO d then(match cL xs.e j with
|some n=>.p (GF Y i<|.j<|xs.B n d) h
|none=>.w)else .w
   |_,_=>.w
 |_=>.w
|.gC o k j e,Y,h=>(eval F e Y h).B λw h=>match gm w with
 |some (d1,d2)=>(eval F o Y h).B λow h=>(eval F k Y h).B λkw h=>if GO d2 then(match Kq (.v d1) ow kw Y h with
|.p Y h=>.p (GF Y j<|.v d2) h
|_=>.w)else .w
 |none=>.w
|.bN o k e,Y,h=>(eval F e Y h).B λw h=>(eval F o Y h).B λow h=>(eval F k Y h).B λkw h=>Kq w ow kw Y h
|.app i e,Y,h=>match Gi Y i with
 |some (.j xs)=>(eval F e Y h).B λw h=>match w.d with
   |some d=>if xs.e<aR then .p (GF Y i<|.j<|xs++[d]) h else .w
   |none=>.w
 |_=>.w
|.ext i e,Y,h=>match Gi Y i with
 |some (.j xs)=>(eval F e Y h).B λw h=>match w with
   |.j ys=>if xs.e+ys.e<aR then .p (GF Y i<|.j<|xs++ys) h else .w
   |_=>.w
 |_=>.w
|.b9 i c f e,Y,h=>(eval F e Y h).B λw h=>match w.d with
 |some d=>match GD h (Gi Y i)with
   |some (r,c',fs)=>if c'=c/\Gf d=k9/\fs.e<100 then .p Y (h.B r<|.obj c<|bf f d fs)else .w
   |none=>.w
 |none=>.w
|.gb is e,Y,h=>(eval F e Y h).B λw h=>match w with
 |.j ds=>match aC is ds Y with
   |some Y'=>.p Y' h
   |none=>.w
 |_=>.w
|.ef i e,Y,h=>match Kv h (Gi Y i)with
 |some _=>(eval F e Y h).B λw h=>match w,Kv h (Gi Y i)with
   |.v (.u k),y0 (r,ks)=>if ks.e<aR then .p Y (h.B r<|.gP<|Kp ks k)else .w
   |_,_=>.w
 |none=>.w
|.fP a e,Y,h=>(eval F a Y h).B λo h=>match G8 h (y0 o)with
 |some _=>(eval F e Y h).B λw h=>match w.d,G8 h (y0 o)with
   |some d,y0 (r,xs)=>if xs.e<aR/\Gf d=k9 then .p Y (h.B r<|.w<|xs++[d])else .w
   |_,_=>.w
 |none=>.w
|.ex e,Y,h=>(eval F e Y h).B λ_ h=>.p Y h
|.ret e,Y,h=>match GL e with
 |some i=>match Gi Y i with
   |some (.p _)=>.w
   |some w=>.j w h
   |none=>.w
 |none=>(eval F e Y h).B λw h=>match w with
 |.p _=>.w
 |w=>.j w h
|.iff c a b,Y,h=>(Gj F c Y h).B λt h=>match t with
 |true=>execs F a Y h
 |false=>execs F b Y h
|.fm n c b,Y,h=>GP (λY h=>Gj F c Y h) (λY h=>execs F b Y h) n Y h
|.for tg one it b,Y,h=>(Gr F it Y h).B λds h=>Gw (Gx tg one) (λY h=>execs F b Y h) ds Y h
|.raise c es,Y,h=>(Gg F es Y h).B λ_ h=>.y (.y c []) h
|.bx c f e,Y,h=>(Gk F (.cons e .nil) Y h).B λds h=>match ds with
 |[d]=>.y (.B c f d) h
 |_=>.w
|.dD o k e,Y,h=>(eval F e Y h).B λw h=>(eval F o Y h).B λx h=>match GT h (y0 x)with
 |some _=>(eval F k Y h).B λkw h=>match w,kw,GT h (y0 x)with
   |.v d,.v (.o t),y0 (r,ks)=>if ks.e<aR/\Gf d=k9 then .p Y (h.B r<|.gq<|Kh ks t d)else .w
   |_,_,_=>.w
 |none=>.w
|.et o k,Y,h=>(eval F o Y h).B λx h=>match GT h (y0 x)with
 |some _=>(eval F k Y h).B λkw h=>match kw,GT h (y0 x)with
   |.v (.o t),y0 (r,ks)=>if(ks.p t).p then .p Y (h.B r<|.gq<|KR ks t)else .w
   |_,_=>.w
 |none=>.w
|.fM o c m q es k nm hb,Y,h=>match eval F o Y h with
 |.p w h=>match GD h (y0 w)with
   |some (r,c',fs)=>if c'=c/\(fs.p m).w=k9 then nu F.cl k nm (λY h=>execs F hb Y h) Y (kT F.j q r Y<|Gg F es Y h)else .w
   |none=>.w
 |_=>.w
|.ft is f es e k t,Y,h=>KY F.j F.cl is f (λY h=>eval F e Y h) k t Y<|Gg F es Y h
|.gv f es c k fl g es2,Y,h=>match Gg F es Y h with
 |.p ws h=>match F.j f (ws.y W.arg) h with
   |.p (.v d) h=>.j (.v d) h
   |.y d h1=>KI F.cl c k fl d<|Gk F (.cons (.call g es2) .nil) Y<|GI d h.e h1
   |_=>.w
 |_=>.w
|.aZ i c f e,Y,h=>(eval F e Y h).B λw h=>match w with
 |.v d=>match GD h (Gi Y i)with
   |some (r,c',fs)=>if c'=c/\fs.e<100 then .p Y (h.B r<|.obj c<|bf f d fs)else .w
   |none=>.w
 |_=>.w
|.ah,_,_=>.w
noncomputable def execs(F:Fx):Ss->Sl->AH->O
|.nil,Y,h=>.p Y h
|.cons s ss,Y,h=>(exec F s Y h).seq λY h=>execs F ss Y h
end
@[simp]theorem zEx1{F i e Y h}:exec F (.set i e) Y h=(eval F e Y h).B λw h=>match w with
 |.p _=>.w
 |w=>.p (GF Y i w) h:=rfl
@[simp]theorem zEx2{F i e Y h}:exec F (.ae i e) Y h=((eval F e Y h).B λw h=>match w.d with
 |some d=>.p (GF Y i<|.v d) h
 |none=>.w):=rfl
@[simp]theorem zEx3{F is e Y h}:exec F (.dw is e) Y h=(eval F e Y h).B λw h=>match w with
 |.v (.p ds)=>match aC is ds Y with
   |some Y'=>.p Y' h
   |none=>.w
 |_=>.w:=rfl
@[simp]theorem zEx4{F i k e Y h}:exec F (.d7 i k e) Y h=((eval F e Y h).B λw h=>match Gi Y i with
 |some (.j xs)=>(eval F k Y h).B λkw h=>match w,kw with
   |.v d,.v (.u j)=>if GO d then(match cL xs.e j with
|some n=>.p (GF Y i<|.j<|xs.B n d) h
|none=>.w)else .w
   |_,_=>.w
 |_=>.w):=rfl
@[simp]theorem zEx5{F o k j e Y h}:exec F (.gC o k j e) Y h=((eval F e Y h).B λw h=>match gm w with
 |some (d1,d2)=>(eval F o Y h).B λow h=>(eval F k Y h).B λkw h=>if GO d2 then(match Kq (.v d1) ow kw Y h with
|.p Y h=>.p (GF Y j<|.v d2) h
|_=>.w)else .w
 |none=>.w):=rfl
@[simp]theorem zEx6{F o k e Y h}:exec F (.bN o k e) Y h=(eval F e Y h).B λw h=>(eval F o Y h).B λow h=>(eval F k Y h).B λkw h=>Kq w ow kw Y h:=rfl
@[simp]theorem zEx7{F i e Y h}:exec F (.app i e) Y h=(match Gi Y i with
 |some (.j xs)=>(eval F e Y h).B λw h=>match w.d with
   |some d=>if xs.e<aR then .p (GF Y i<|.j<|xs++[d]) h else .w
   |none=>.w
 |_=>.w):=rfl
@[simp]theorem zEx8{F i e Y h}:exec F (.ext i e) Y h=(match Gi Y i with
 |some (.j xs)=>(eval F e Y h).B λw h=>match w with
   |.j ys=>if xs.e+ys.e<aR then .p (GF Y i<|.j<|xs++ys) h else .w
   |_=>.w
 |_=>.w):=rfl
@[simp]theorem zEx10{F is e Y h}:exec F (.gb is e) Y h=(eval F e Y h).B λw h=>match w with
 |.j ds=>match aC is ds Y with
   |some Y'=>.p Y' h
   |none=>.w
 |_=>.w:=rfl
@[simp]theorem zEx11{F i e Y h}:exec F (.ef i e) Y h=(match Kv h (Gi Y i)with
 |some _=>(eval F e Y h).B λw h=>match w,Kv h (Gi Y i)with
   |.v (.u k),y0 (r,ks)=>if ks.e<aR then .p Y (h.B r<|.gP<|Kp ks k)else .w
   |_,_=>.w
 |none=>.w):=rfl
@[simp]theorem zEx13{F e Y h}:exec F (.ex e) Y h=(eval F e Y h).B λ_ h=>.p Y h:=rfl
@[simp]theorem zEx14{F e Y h}:exec F (.ret e) Y h=match GL e with
 |some i=>match Gi Y i with
   |some (.p _)=>.w
   |some w=>.j w h
   |none=>.w
 |none=>(eval F e Y h).B λw h=>match w with
 |.p _=>.w
 |w=>.j w h:=rfl
@[simp]theorem zEx15{F c a b Y h}:exec F (.iff c a b) Y h=(Gj F c Y h).B λt h=>match t with
 |true=>execs F a Y h
 |false=>execs F b Y h:=rfl
@[simp]theorem zEx16{F n c b Y h}:exec F (.fm n c b) Y h=GP (λY h=>Gj F c Y h) (λY h=>execs F b Y h) n Y h:=rfl
@[simp]theorem zEx17{F tg one it b Y h}:exec F (.for tg one it b) Y h=(Gr F it Y h).B λds h=>Gw (Gx tg one) (λY h=>execs F b Y h) ds Y h:=rfl
@[simp]theorem zEx18{F c es Y h}:exec F (.raise c es) Y h=(Gg F es Y h).B λ_ h=>.y (.y c []) h:=rfl
@[simp]theorem zEx19{F c f e Y h}:exec F (.bx c f e) Y h=(Gk F (.cons e .nil) Y h).B λds h=>match ds with
 |[d]=>.y (.B c f d) h
 |_=>.w:=rfl
@[simp]theorem zEx20{F o k e Y h}:exec F (.dD o k e) Y h=((eval F e Y h).B λw h=>(eval F o Y h).B λx h=>match GT h (y0 x)with
 |some _=>(eval F k Y h).B λkw h=>match w,kw,GT h (y0 x)with
   |.v d,.v (.o t),y0 (r,ks)=>if ks.e<aR/\Gf d=k9 then .p Y (h.B r<|.gq<|Kh ks t d)else .w
   |_,_,_=>.w
 |none=>.w):=rfl
@[simp]theorem zEx22{F o c m q es k nm hb Y h}:exec F (.fM o c m q es k nm hb) Y h=(match eval F o Y h with
 |.p w h=>match GD h (y0 w)with
   |some (r,c',fs)=>if c'=c/\(fs.p m).w=k9 then nu F.cl k nm (λY h=>execs F hb Y h) Y (kT F.j q r Y<|Gg F es Y h)else .w
   |none=>.w
 |_=>.w):=rfl
@[simp]theorem zEx23{F is f es e k t Y h}:exec F (.ft is f es e k t) Y h=(KY F.j F.cl is f (λY h=>eval F e Y h) k t Y<|Gg F es Y h):=rfl
@[simp]theorem zEx24{F f es c k fl g es2 Y h}:exec F (.gv f es c k fl g es2) Y h=(match Gg F es Y h with
 |.p ws h=>match F.j f (ws.y W.arg) h with
   |.p (.v d) h=>.j (.v d) h
   |.y d h1=>KI F.cl c k fl d<|Gk F (.cons (.call g es2) .nil) Y<|GI d h.e h1
   |_=>.w
 |_=>.w):=rfl
@[simp]theorem zEx25{F i c f e Y h}:exec F (.aZ i c f e) Y h=((eval F e Y h).B λw h=>match w with
 |.v d=>match GD h (Gi Y i)with
   |some (r,c',fs)=>if c'=c/\fs.e<100 then .p Y (h.B r<|.obj c<|bf f d fs)else .w
   |none=>.w
 |_=>.w):=rfl
@[simp]theorem zEs1{F Y h}:execs F .nil Y h=.p Y h:=rfl
@[simp]theorem zEs2{F s ss Y h}:execs F (.cons s ss) Y h=(exec F s Y h).seq λY h=>execs F ss Y h:=rfl
structure Fn where
 ps:Nat
 n:Nat
 body:Ss
structure Prog where
 fns:List<|String×Fn
 cl:cP
 con:List<|String×D
def W.keep:W->Bool
|.v d=>Gf d
|.j xs=>Gd xs
|.p _=>k9
noncomputable def fin(n:Nat)(w:W)(h:AH):R W:=if h.e=n then .p w h else if w.keep&&GQ (h.M n)then .p w (h.M n)else .p w h
def Gy(n:Nat):O->R W
|.j w h=>match w with
 |.p _=>.w
 |w=>fin n w h
|.p _ h=>fin n (.v .ai) h
|.y d h=>.y d h
|_=>.w
@[simp]theorem Gb(d)(h h':AH)(e:h'.e=h.e):Gy h.e (.j (.v d) h')=.p (.v d) h':=by simp[Gy,fin,e]
@[simp]theorem Gq(xs)(h h':AH)(e:h'.e=h.e):Gy h.e (.j (.j xs) h')=.p (.j xs) h':=by simp[Gy,fin,e]
@[simp]theorem GA(Y)(h h':AH)(e:h'.e=h.e):Gy h.e (.p Y h')=.p (.v .ai) h':=by simp[Gy,fin,e]
@[simp]theorem Ki(d)(n)(h):Gy n (.y d h)=.y d h:=rfl
def run(F:Fx)(d:Fn)(ws:List W)(h:AH):R W:=if ws.e=d.ps then Gy h.e (execs F d.body (ws.y y0++Ab (d.n-d.ps) u0) h)else .w
def call(p:Prog):Nat->String->List W->AH->R W
|0,_,_,_=>.w
|k+1,f,a,h=>match p.fns.p f with
|some d=>run ⟨call p k,p.cl,p.con⟩ d a h
|none=>.w
def Ga(e:p.fns.p f=y0 d)(k)(ws)(h)(a:ws.e=d.ps):
 call p (k+1) f ws h=Gy h.e (execs ⟨call p k,p.cl,p.con⟩ d.body (ws.y y0++Ab (d.n-d.ps) u0) h):=by
 rw[call,e];simp[run,a]
end
end Lake.M
namespace Lake.MS
open M renaming D.str->Lake.M.D.o,D.ref->Lake.M.D.j,D.int->Lake.M.D.u,D.tup->Lake.M.D.p,D.lst->Lake.M.D.w,D.exc->Lake.M.D.y,D.bl->Lake.M.D.K,D.err->Lake.M.D.B,Es.cons->Lake.M.Es.j,Es.nil->Lake.M.Es.p,E.call->Lake.M.E.j,E.comp->Lake.M.E.M,E.chain->Lake.M.E.a4,E.share->Lake.M.E.a6,Fx.call->Lake.M.Fx.j,R.bind->Lake.M.R.j,R.ok->Lake.M.R.p,R.fail->Lake.M.R.w,O.fail->Lake.M.O.w,O.next->Lake.M.O.p,W.own->Lake.M.W.j,W.bor->Lake.M.W.p,Ty.list->Lake.M.Ty.K,Prog.fns->Lake.M.Prog.w,It.enum->Lake.M.It.p
open Lake renaming V.str->Lake.V.o,V.ref->Lake.V.j,V.int->Lake.V.u,V.bl->Lake.V.K,Cx.env->Lake.Cx.j,Cx.prog->Lake.Cx.p,HO.lst->Lake.HO.w,Inv.list->Lake.Inv.K
open PySem PySem.Spec
structure Ge where
 K:Aa1
 ca:String->Addr
 cl:M.cP
 own:List String
 ma:String->Addr
open Lake renaming MS.Ge.ca->Lake.MS.Ge.j
structure dB(Γ:Ge)(c:String):Prop where
 k:iP Γ.K<|Γ.j c
 own:∀t∈Γ.own,Ak9 Γ.K (.j<|Γ.j c) (.j<|Γ.j t)=y0 ((M.GK Γ.cl 8 c).w t)
 ve:PySem.W.kitOne Γ.K (.j<|Γ.j c) (.p "ValueError")=some ((M.GK Γ.cl 8 c).w "ValueError")
structure Gh where
 fz:Addr->Prop
 aG:Nat->Addr
 n:Nat
open Lake renaming MS.Gh.aG->Lake.MS.Gh.j,MS.Gh.fz->Lake.MS.Gh.y
def fg(Γ:Ge)(G:Gh)(H:Hp)(a:Addr)(vs:List V):Prop:=(G.y a/\H a=y0 (.tup vs))∨
 ∃(o:Obj)(b:Array Value)(n:Nat),Γ.K.p a=some o/\o.w=.p "tuple"/\o.p=none/\o.j=.j b n/\b.j<=sizeLine/\Vals vs b.p
def vZ(Γ:Ge)(a:Addr)(vs:List V):Prop:=∃(o:Obj)(b:Array Value)(n:Nat),Γ.K.p a=some o/\o.w=.p "list"/\o.p=none/\o.j=.j b n/\b.j<=sizeLine/\Vals vs b.p
def kn(Γ:Ge)(G:Gh)(H:Hp)(a:Addr)(vs:List V):Prop:=(G.y a/\Rd H a (.w vs))\/vZ Γ a vs
def fg.sq (h:fg Γ G H a vs):dj Γ.K H a vs:=h.j (λz=>.p<|.p z.2)<|by rintro⟨o,b,n,d,e,_,c⟩;exact .w ⟨o,b,n,d,e,c⟩
def fg.pl (h:fg Γ G H a vs):tf Γ.K H a:=h.j (λz=>.p ⟨_,z.2⟩)<|by rintro⟨o,_,_,b,d,c,_⟩;exact .w ⟨o,b,d,c⟩
def kn.sq (h:kn Γ G H a vs):bu Γ.K H a vs:=h.j (λz=>.p z.2) λz=>.w z
noncomputable def ar(s:M.Tx):Str:=⟨s.j⟩
noncomputable def p7(K:Aa1)(a:Addr)(f:List Value->Bool):Bool:=match K.p a with
|some o=>(match o.j with
|.j b _=>u9 (o.w=.p "tuple"/\o.p=none/\b.j<=100)&&f b.p
|_=>y9)
|none=>y9
def zAD:Value->Addr
|.j a=>a
|_=>0
theorem zAI{u:Value}{x:V}(h:Sv u=y0 x):RelV x u:=by cases u<;>cases h<;>first|rfl|exact⟨_,rfl⟩
mutual
noncomputable def fZ(K:Aa1):M.D->Value->Bool
|.u i,u=>u9<|Sv u=y0 (.u i)
|.o s,u=>u9<|Sv u=y0 (.o<|ar s)
|.p ds,u=>u9 (u=.j (zAD u))&&p7 K (zAD u) λus=>gA K ds us
|_,_=>y9
noncomputable def gA(K:Aa1):List M.D->List Value->Bool
|[],[]=>k9
|d::ds,u::us=>fZ K d u&&gA K ds us
|_,_=>y9
end
def lK(T:List<|M.Tx×M.D):List<|Str×M.D:=T.y λp=>(ar p.1,p.2)
def FF(Γ:Ge)(a:Addr)(T:List<|M.Tx×M.D):Prop:=iV (fZ Γ.K) Γ.K a<|lK T
mutual
def au(Γ:Ge)(G:Gh)(H:Hp):M.D->V->Prop
|.ai,v=>v=.ai
|.K b,v=>v=.K b
|.u i,v=>v=.u i
|.o s,v=>v=.o (ar s)
|.p ds,v=>∃a vs,v=.j a/\fg Γ G H a vs/\aa Γ G H ds vs
|.w ds,v=>∃a vs,v=.j a/\kn Γ G H a vs/\aa Γ G H ds vs
|.j r,v=>r<G.n/\v=.j (G.j r)
|.y c fs,v=>(fs=[]/\∃x,v=.j x/\G.y x/\H x=y0 (hJ x (Γ.j c) u0)/\dB Γ c)\/(fs≠[]/\∃a,v=.j a/\FF Γ a fs)
|.B c f d,v=>∃x dx u,v=.j x/\G.y x/\G.y dx/\H x=y0 (hJ x (Γ.j c)<|y0 dx)/\(∃l,H dx=y0 (.xd<|(Str.ofString f,u)::l))/\dB Γ c/\hO Γ.K (Γ.j c) (Str.ofString f)/\au Γ G H d u
def aa(Γ:Ge)(G:Gh)(H:Hp):List M.D->List V->Prop
|[],vs=>vs=[]
|d::ds,vs=>∃v r,vs=v::r/\au Γ G H d v/\aa Γ G H ds r
end
set_option tactic.hygienic true in
def P4(h:p7 Γ.K a f=k9):∃us,f us=k9/\∀vs,Vals vs us->∀G H,fg Γ G H a vs:=by
 unfold p7 at h;split at h
 .rename_i o e;split at h
  .rename_i b n c;obtain⟨d,j⟩:=(Aa6 _ _).mp h;obtain⟨i,k,g⟩:=Da d;exact⟨_,j,λvs r G H=>.w ⟨o,b,n,e,i,k,c,Ac g<|by rw[SW];decide,r⟩⟩
  .cases h
 .cases h
mutual
theorem mU{Γ:Ge}:∀{d:M.D}{u:Value},fZ Γ.K d u=k9->∃v,RelV v u/\∀G H,au Γ G H d v
|.u _,_,h=>⟨.u _,zAI<|Da h,λ_ _=>rfl⟩
|.o _,_,h=>⟨.o _,zAI<|Da h,λ_ _=>rfl⟩
|.p _,u,h=>by obtain⟨h0,h⟩:=(Aa6 _ _).mp h;obtain⟨us,h1,h2⟩:=P4 h;obtain⟨vs,r,h3⟩:=eS h1;exact⟨.j _,Da (p:=u=_) h0,λG H=>⟨_,vs,rfl,h2 vs r G H,h3 G H⟩⟩
|.ai,_,h|.K _,_,h|.w _,_,h|.j _,_,h|.y _ _,_,h|.B _ _ _,_,h=>(Bool.false_ne_true h).elim
theorem eS{Γ:Ge}:∀{ds:List M.D}{us:List Value},gA Γ.K ds us=k9->∃vs,Vals vs us/\∀G H,aa Γ G H ds vs
|[],[],_=>⟨[],.p,λ_ _=>rfl⟩
|d::ds,u::us,h=>by obtain⟨h1,h2⟩:=(Aa6 _ _).mp h;obtain⟨v,r1,h3⟩:=mU h1;obtain⟨vs,r2,h4⟩:=eS h2;exact⟨v::vs,.j r1 r2,λG H=>⟨v,vs,rfl,h3 G H,h4 G H⟩⟩
end
def bq(Γ:Ge)(G:Gh)(H:Hp)(a:Addr):M.Cell->Prop
|.lst xs=>M.Gd xs=k9/\∃vs,H a=y0 (.w vs)/\aa Γ G H xs vs
|.gP ks=>H a=y0 (dI ks)
|.gq ks=>M.Gd (ks.y (·.2))=k9/\∃us,H a=y0 (dS<|(ks.y λp=>ar p.1).a1 us)/\aa Γ G H (ks.y (·.2)) us
|.obj c fs=>∃dx us,H a=y0 (.ins (Γ.j c) dx<|(fs.y λp=>Str.ofString p.1).a1 us)/\aa Γ G H (fs.y (·.2)) us
structure ag(Γ:Ge)(G:Gh)(h:M.AH)(H:Hp):Prop where
 len:h.e=G.n
 any:∀r c,h[r]?=y0 c->¬G.y (G.j r)/\bq Γ G H (G.j r) c
 inj:∀r s,r<G.n->s<G.n->G.j r=G.j s->r=s
 live:∀a,G.y a->∃o,H a=y0 o
open Lake renaming MS.ag.len->Lake.MS.ag.j,MS.ag.any->Lake.MS.ag.C,MS.ag.live->Lake.MS.ag.p
def eu(G:Gh)(a:Addr):Prop:=∀r,r<G.n->G.j r≠a
structure Ext(G:Gh)(H:Hp)(G':Gh)(H':Hp):Prop where
 keep:∀a o,H a=y0 o->eu G a->H' a=y0 o
 le:G.n<=G'.n
 aG:∀r,r<G.n->G'.j r=G.j r
 new:∀r,G.n<=r->r<G'.n->H (G'.j r)=u0
 fz:∀a,G.y a->G'.y a
 old:∀a,G'.y a->G.y a\/H a=u0
 cells:∀r,r<G.n->(∃o,H (G.j r)=y0 o)->∃o,H' (G.j r)=y0 o
open Lake renaming MS.Ext.keep->Lake.MS.Ext.j,MS.Ext.cells->Lake.MS.Ext.w
def aj(Γ:Ge)(G:Gh)(H:Hp):M.W->V->Prop
|.v d,v=>au Γ G H d v
|.j xs,v=>∃a vs,v=.j a/\¬G.y a/\eu G a/\H a=y0 (.w vs)/\aa Γ G H xs vs
|.p xs,v=>∃a vs,v=.j a/\eu G a/\Rd H a (.w vs)/\aa Γ G H xs vs
def gT:M.W->Bool
|.j _=>k9
|.p _=>k9
|_=>y9
structure ao(Γ:Ge)(G:Gh)(Y:M.Sl)(h:M.AH)(U:St)(H:Hp):Prop where
 len:Y.e=U.e
 slot:∀i w,M.Gi Y i=y0 w->∃v,U[i]?=y0 (y0 v)/\aj Γ G H w v
 apart:∀i j xs w a,i≠j->M.Gi Y i=y0 (.j xs)->M.Gi Y j=y0 w->gT w=k9->U[i]?=y0 (y0<|.j a)->U[j]?≠y0 (y0<|.j a)
 heap:ag Γ G h H
open Lake renaming MS.ao.heap->Lake.MS.ao.j,MS.ao.slot->Lake.MS.ao.w,MS.ao.apart->Lake.MS.ao.p
section
variable{Γ:Ge}{G G' G1 G2:Gh}{H H' H1 H2:Hp}{h h':M.AH}{Y:M.Sl}{U:St}
def ag.cell (R:ag Γ G h H)(r)(xs)(e:h[r]?=y0 (M.Cell.lst xs)):¬G.y (G.j r)/\∃vs,H (G.j r)=y0 (.w vs)/\aa Γ G H xs vs:=⟨(R.C r _ e).1,(R.C r _ e).2.2⟩
def ag.pure (R:ag Γ G h H)(r:Nat)(xs)(e:h[r]?=y0 (M.Cell.lst xs)):M.Gd xs=true:=(R.C r _ e).2.1
theorem ag.obj (R:ag Γ G h H)(r)(c)(fs)(e:h[r]?=y0 (M.Cell.obj c fs)):¬G.y (G.j r)/\∃dx us,H (G.j r)=y0 (.ins (Γ.j c) dx<|(fs.y λp=>Str.ofString p.1).a1 us)/\aa Γ G H (fs.y (·.2)) us:=R.C r _ e
def ag.lt (R:ag Γ G h H)(e:h[r]?=y0 c):r<G.n:=by rw[←R.j];exact(Ab3.j e).1
def ag.at(R:ag Γ G h H)(hi:i<G.n):∃c,h[i]?=y0 c:=⟨_,Ab2<|by rwa [R.j]⟩
def bq.there (z:bq Γ G H a c):∃o,H a=y0 o:=by
 cases c with
|gP b=>exact⟨_,z⟩
|_=>obtain⟨_,_,z,_⟩:=z;exact⟨_,z⟩
def ag.o9 (r:ag Γ G h H)(hi:i<G.n):¬G.y (G.j i):=let⟨_,e⟩:=r.at hi;(r.C i _ e).1
def ag.off (r:ag Γ G h H)(b:G.y a):eu G a:=λi c z=>r.o9 c<|z▸b
theorem ag.there (r:ag Γ G h H)(hi:i<G.n):∃o,H (G.j i)=y0 o:=let⟨_,e⟩:=r.at hi;(r.C i _ e).2.there
def Ext.refl:Ext G H G H:=⟨λ_ _ e _=>e,Aa3 _,λ_ _=>rfl,λr a b=>absurd a<|Al8.p b,λ_ z=>z,λ_ z=>.p z,λ_ _ z=>z⟩
theorem Ext.none (e:Ext G H G' H')(f:ag Γ G h H)(z:H' a=u0):H a=none:=by
 cases q:H a with
|none=>rfl
|some o=>
  by_cases b:eu G a
  .rw[e.j a o q b]at z;cases z
  .unfold eu at b;have:∃r,r<G.n/\G.j r=a:=Classical.byContradiction λg=>b λr f z=>g ⟨r,f,z⟩;obtain⟨r,c,rfl⟩:=this;obtain⟨i,d⟩:=e.w r c ⟨o,q⟩;rw[z]at d;cases d
def Ext.off (e:Ext G H G' H')(d:H a=y0 o)(b:eu G a):eu G' a:=λr f z=>by
 by_cases c:r<G.n
 .rw[e.aG r c]at z;exact b r c z
 .have:=e.new r (Nat.not_lt.j c) f;rw[z,d]at this;cases this
def Ext.trans (b:Ext G H G1 H1)(f:ag Γ G h H)(d:Ext G1 H1 G2 H2):Ext G H G2 H2 where
 keep:=λa o z e=>d.j a o (b.j a o z e)<|b.off z e
 le:=Ac b.le d.le
 aG:=λr c=>by rw[d.aG r<|Ab4 c b.le,b.aG r c]
 new:=λr g i=>by
  by_cases c:r<G1.n
  .rw[d.aG r c];exact b.new r g c
  .exact b.none f<|d.new r (Nat.not_lt.j c) i
 fz:=λa z=>d.fz a<|b.fz a z
 old:=λa z=>(d.old a z).j (λz=>b.old a z) λz=>.w<|b.none f z
 cells:=λr c z=>by
  have:=d.w r (Ab4 c b.le)<|by rw[b.aG r c];exact b.w r c z
  rwa [b.aG r c]at this
def Ext.rd (e:Ext G H G' H')(z:Rd H a u)(b:eu G a):Rd H' a u:=z.j (λz=>.p<|e.j a _ z b)<|by rintro⟨o,z⟩;exact .w ⟨o,e.j a _ z b⟩
structure Mon(G:Gh)(H:Hp)(G':Gh)(H':Hp):Prop where
 keep:∀a o,G.y a->H a=y0 o->H' a=y0 o
 le:G.n<=G'.n
 aG:∀r,r<G.n->G'.j r=G.j r
 fz:∀a,G.y a->G'.y a
def Ext.mon (e:Ext G H G' H')(b:ag Γ G h H):Mon G H G' H':=⟨λa o z q=>e.j a o q<|b.off z,e.le,e.aG,e.fz⟩
def Mon.rd (e:Mon G H G' H')(z:Rd H a u)(b:G.y a):Rd H' a u:=z.j (λz=>.p<|e.keep a _ b z)<|by rintro⟨o,z⟩;exact .w ⟨o,e.keep a _ b z⟩
mutual
theorem au.mon (e:Mon G H G' H'):∀{d:M.D}{v:V},au Γ G H d v->au Γ G' H' d v
|.ai,_,z=>z
|.K _,_,z=>z
|.u _,_,z=>z
|.o _,_,z=>z
|.p _,_,z7=>by obtain⟨a,vs,z1,z2,z3⟩:=z7;exact⟨a,vs,z1,z2.j (λz=>.p ⟨e.fz a z.1,e.keep a _ z.1 z.2⟩) λz=>.w z,aa.mon e z3⟩
|.w _,_,z7=>by obtain⟨a,vs,z1,z2,z3⟩:=z7;exact⟨a,vs,z1,z2.j (λz=>.p ⟨e.fz a z.1,e.rd z.2 z.1⟩) .w,aa.mon e z3⟩
|.j r,_,z7=>by obtain⟨z1,z2⟩:=z7;exact⟨Ab4 z1 e.le,by rw[e.aG r z1];exact z2⟩
|.y c fs,_,z=>z.imp (by rintro⟨z0,x,z1,z2,z3,z4⟩;exact⟨z0,x,z1,e.fz x z2,e.keep x _ z2 z3,z4⟩) id
|.B c f d,_,z7=>by obtain⟨x,dx,u,z1,z2,z3,z4,z5,z6,z7,z8⟩:=z7;exact⟨x,dx,u,z1,e.fz x z2,e.fz dx z3,e.keep x _ z2 z4,z5.imp λ_ z=>e.keep dx _ z3 z,z6,z7,au.mon e z8⟩
 theorem aa.mon (e:Mon G H G' H'):∀{ds:List M.D}{vs:List V},aa Γ G H ds vs->aa Γ G' H' ds vs
|[],_,z=>z
|_::_,_,z7=>by obtain⟨v,r,z1,z2,z3⟩:=z7;exact⟨v,r,z1,au.mon e z2,aa.mon e z3⟩
 end
theorem bq.mon (e:Mon G H G' H')(k:∀o,H a=y0 o->H' a=y0 o)(z:bq Γ G H a c):bq Γ G' H' a c:=by
 cases c with
|lst j=>obtain⟨f,h,d,b⟩:=z;exact⟨f,h,k _ d,b.mon e⟩
|gP i=>exact k _ z
|gq i=>obtain⟨f,g,d,b⟩:=z;exact⟨f,g,k _ d,b.mon e⟩
|obj c fs=>obtain⟨dx,g,d,b⟩:=z;exact⟨dx,g,k _ d,b.mon e⟩
def au.ext (e:Ext G H G' H')(a:ag Γ G h H)(z:au Γ G H d v):au Γ G' H' d v:=z.mon<|e.mon a
def aa.ext (e:Ext G H G' H')(a:ag Γ G h H)(z:aa Γ G H d v):aa Γ G' H' d v:=z.mon<|e.mon a
theorem aj.ext (e:Ext G H G' H')(j:ag Γ G h H)(z:aj Γ G H w v):aj Γ G' H' w v:=by
 cases w with
|v d=>exact au.ext e j z
|own l=>
  obtain⟨a,f,g,k,c,b,i⟩:=z;refine⟨a,f,g,λq=>?_,e.off b c,e.j a _ b c,aa.ext e j i⟩;obtain q|q:=e.old a q
  .exact k q
  .rw[b]at q;cases q
|bor l=>
  obtain⟨a,f,g,c,b,i⟩:=z;refine⟨a,f,g,?_,e.rd b c,aa.ext e j i⟩;obtain b|⟨o,b⟩:=b
  .exact e.off b c
  .exact e.off b c
theorem ao.ext (s:ao Γ G Y h U H)(e:Ext G H G' H')(c:ag Γ G' h' H'):ao Γ G' Y h' U H' where
 len:=s.len
 slot:=λi w z=>let⟨v,b,a⟩:=s.w i w z;⟨v,b,a.ext e s.j⟩
 apart:=s.p
 heap:=c
theorem aa.length:∀{ds}{vs},aa Γ G H ds vs->ds.e=vs.e
|[],_,rfl=>rfl
|_::_,_,z7=>by obtain⟨_,_,rfl,_,z⟩:=z7;exact congrArg (·+1)<|aa.length z
theorem aa.get:∀{ds}{vs}{i:Nat}{d},aa Γ G H ds vs->ds[i]?=y0 d->∃v,vs[i]?=y0 v/\au Γ G H d v
|[],_,_,_,_,e=>by simp at e
|_::_,_,0,_,z7,e=>by obtain⟨v,_,rfl,z,_⟩:=z7;simp at e;subst e;exact⟨v,rfl,z⟩
|_::_,_,i+1,_,z7,e=>by obtain⟨_,_,rfl,_,z⟩:=z7;obtain⟨v,a,b⟩:=aa.get z (by simpa using e);exact⟨v,by simpa using a,b⟩
theorem aa.append:∀{ds es}{vs us},aa Γ G H ds vs->aa Γ G H es us->aa Γ G H (ds++es) (vs++us)
|[],_,_,_,rfl,z=>z
|_::_,_,_,_,z7,z=>by obtain⟨v,r,rfl,b,a⟩:=z7;exact⟨v,r++_,rfl,b,aa.append a z⟩
theorem aa.drop:∀{ds}{vs}(n),aa Γ G H ds vs->aa Γ G H (ds.L n) (vs.L n)
|_,_,0,z=>z
|[],_,_+1,rfl=>rfl
|_::_,_,n+1,z7=>by obtain⟨_,_,rfl,_,z⟩:=z7;exact aa.drop n z
theorem aa.take:∀{ds}{vs}(n),aa Γ G H ds vs->aa Γ G H (ds.M n) (vs.M n)
|_,_,0,_=>rfl
|[],_,_+1,rfl=>rfl
|_::_,_,n+1,z7=>by obtain⟨v,r,rfl,a,z⟩:=z7;exact⟨v,r.M n,rfl,a,aa.take n z⟩
theorem aa.set (z:au Γ G H d v):∀{ds}{vs} i,aa Γ G H ds vs->aa Γ G H (ds.B i d) (vs.B i v)
|[],_,_,rfl=>rfl
|_::_,_,0,z7=>by obtain⟨_,r,rfl,_,a⟩:=z7;exact⟨v,r,rfl,z,a⟩
|_::_,_,i+1,z7=>by obtain⟨u,r,rfl,b,a⟩:=z7;exact⟨u,r.B i v,rfl,b,aa.set z i a⟩
noncomputable def Gh.more (G:Gh)(a:Addr):Gh:={G with fz:=λb=>G.y b\/b=a}
open Lake renaming MS.Gh.more->Lake.MS.Gh.p
def zr(o)(b:H p=u0):Ext G H G<|ax H p o where
 keep:=λa u z _=>by rw[Ja<|Zb z b];exact z
 le:=Aa3 _
 aG:=λ_ _=>rfl
 new:=λr c d=>absurd c<|Al8.p d
 fz:=λ_ z=>z
 old:=λ_ z=>.p z
 cells:=(by rintro r _⟨u,z⟩;exact⟨u,by rw[Ja<|Zb z b];exact z⟩)
def We(o)(b:H p=u0):Ext G H (G.p p)<|ax H p o where
 keep:=λa u z _=>by rw[Ja<|Zb z b];exact z
 le:=Aa3 _
 aG:=λ_ _=>rfl
 new:=λr c d=>absurd c<|Al8.p d
 fz:=λ_ z=>.p z
 old:=λa z=>z.j .p λe=>.w<|e▸b
 cells:=(by rintro r _⟨u,z⟩;exact⟨u,by rw[Ja<|Zb z b];exact z⟩)
def ag.new (r:ag Γ G h H)(o)(b:H p=u0):ag Γ G h<|ax H p o where
 len:=r.j
 any:=λi c z=>⟨(r.C i c z).1,(r.C i c z).2.mon ((zr o b).mon r) λu q=>by rw[Ja<|Zb q b];exact q⟩
 inj:=r.inj
 live:=λa z=>let⟨u,q⟩:=r.p a z;⟨u,by rw[Ja<|Zb q b];exact q⟩
def ag.fh (r:ag Γ G h H)(o)(b:H p=u0):ag Γ (G.p p) h<|ax H p o where
 len:=r.j
 any:=λi c z=>by obtain⟨g,d⟩:=r.C i c z;obtain⟨u,f⟩:=d.there;exact⟨λq=>q.j g<|Zb f b,d.mon ((We o b).mon r) λu q=>by rw[Ja<|Zb q b];exact q⟩
 inj:=r.inj
 live:=λa z=>z.j (λz=>let⟨u,q⟩:=r.p a z;⟨u,by rw[Ja<|Zb q b];exact q⟩) λe=>⟨o,by rw[e];exact Xa⟩
def Zo(a):Mon G H (G.p a) H:=⟨λ_ _ _ z=>z,Aa3 _,λ_ _=>rfl,λ_ z=>.p z⟩
theorem Ext.more (e:Ext G H G1 H1)(c:H a=Option.none):Ext G H (G1.p a) H1:=
 ⟨e.j,e.le,e.aG,e.new,λb z=>.p<|e.fz b z,λb z=>z.j (λz=>e.old b z) λz=>.w<|z▸c,e.w⟩
theorem ag.more (r:ag Γ G h H)(d:eu G a)(f:∃o,H a=y0 o):ag Γ (G.p a) h H where
 len:=r.j
 any:=λi c z=>⟨λq=>q.j (r.C i c z).1 λe=>d i (r.lt z) e,(r.C i c z).2.mon (Zo a) λ_ q=>q⟩
 inj:=r.inj
 live:=λb z=>z.j (λz=>r.p b z) λe=>e▸f
theorem aj.more (z:aj Γ G H w v)(j:gT w=k9->v≠.j a):aj Γ (G.p a) H w v:=by
 cases w with
|v d=>exact au.mon (Zo a) z
|own l=>obtain⟨b,h,c,k,f,g,i⟩:=z;exact⟨b,h,c,λq=>q.j k λe=>j rfl<|e▸c,f,g,i.mon<|Zo a⟩
|bor l=>obtain⟨b,h,c,f,g,i⟩:=z;exact⟨b,h,c,f,g,i.mon<|Zo a⟩
theorem ao.more (s:ao Γ G Y h U H)(b:eu G a)(f:∃o,H a=y0 o)(g:∀i w,M.Gi Y i=y0 w->gT w=k9->U[i]?≠y0 (y0<|.j a)):ao Γ (G.p a) Y h U H where
 len:=s.len
 slot:=λi w z=>by obtain⟨v,c,d⟩:=s.w i w z;exact⟨v,c,d.more λq e=>g i w z q<|e▸c⟩
 apart:=s.p
 heap:=s.j.more b f
def ay(Y:M.Sl)(U:St)(H:Hp):M.W->V->Prop
|.v _,_=>True
|.j _,v=>∃a,v=.j a/\H a=u0
|.p _,v=>∃(i:Nat)(w:M.W),M.Gi Y i=y0 w/\gT w=k9/\U[i]?=y0 (y0 v)
def ay.back (e:Ext G H G1 H1)(g:ag Γ G h H)(z:ay Y U H1 w v):ay Y U H w v:=by
 cases w with
|v d=>trivial
|own c=>obtain⟨a,f,b⟩:=z;exact⟨a,f,e.none g b⟩
|bor c=>exact z
def ao.cR (s:ao Γ G Y h U H)(e:M.Gi Y i=y0 w)(j:gT w=k9)(q:U[i]?=y0 (y0<|.j a)):∃o,H a=y0 o:=by
 obtain⟨v,f,g⟩:=s.w i w e;rw[q]at f;cases f;cases w with
|v d=>cases j
|own k=>obtain⟨b,l,f,_,_,c,_⟩:=g;cases f;exact⟨_,c⟩
|bor k=>
  obtain⟨b,l,f,_,c,_⟩:=g;cases f;obtain c|⟨o,c⟩:=c
  .exact⟨_,c⟩
  .exact⟨_,c⟩
def kK(Γ:Ge)(E:XK)(d:M.D)(G:Gh)(H:Hp):Prop:=(∀c,d=.y c []->dB Γ c->E (.j<|Γ.j c) u0 H)∧
 (∀c f a,d=.B c f a->dB Γ c->hO Γ.K (Γ.j c) (Str.ofString f)->∀dx u,G.y dx->H dx=y0 (.xd [(Str.ofString f,u)])->au Γ G H a u->E (.j<|Γ.j c) (y0 dx) H)∧
 ∀c f a,d=.p [.B c f a]->dB Γ c->hO Γ.K (Γ.j c) (Str.ofString f)->∀dx u,G.y dx->H dx=y0 (.xd [(Str.ofString f,u),(Str.ofString f,u)])->au Γ G H a u->E (.j<|Γ.j c) (y0 dx) H
def ak{b:Type}(Γ:Ge)(E:XK)(G:Gh)(H:Hp)(r:M.R b)(P:b->M.AH->Gh->Hp->Prop):Prop:=match r with
|.p a h'=>∀G' H',Ext G H G' H'->ag Γ G' h' H'->P a h' G' H'
|.exc d h'=>∀G' H',Ext G H G' H'->ag Γ G' h' H'->kK Γ E d G' H'
|.w=>False
def ak.on (p:ak Γ E G H r P)(e:Ext G H G1 H1)(d:ag Γ G h H):ak Γ E G1 H1 r P:=by
 cases r with
|fail=>exact p
|_=>exactλc f b a=>p c f (e.trans d b) a
def tD(Γ:Ge)(E:XK)(m:M.Sl->M.AH->M.R M.W):TE:=λU H Q=>∃G Y h,ao Γ G Y h U H/\ak Γ E G H (m Y h) λw h' G' H'=>∀v,aj Γ G' H' w v->ay Y U H w v->Q v H'
def cD(Γ:Ge)(E:XK)(m:M.Sl->M.AH->M.R Bool):TT:=λU H Q=>∃G Y h,ao Γ G Y h U H/\ak Γ E G H (m Y h) λb _ _ H'=>Q b H'
def Ji(b:ag Γ G0 h0 H0)(a:Ext G0 H0 G H)(s:ao Γ G Y h U H)
 (p:ak Γ E G0 H0 ((m Y h).j f) P)
 (k:∀w v h1 G1 H1,Ext G0 H0 G1 H1->Ext G H G1 H1->ao Γ G1 Y h1 U H1->aj Γ G1 H1 w v->ay Y U H w v->ak Γ E G0 H0 (f w h1) P->Q v H1):tD Γ E m U H Q:=by
 refine⟨G,Y,h,s,?_⟩;cases q:m Y h with
|ok w h1=>rw[q]at p;exactλG1 H1 e i v g c=>k w v h1 G1 H1 (a.trans b e) e (s.ext e i) g c p
|exc d h1=>rw[q]at p;exact ak.on p a b
|fail=>rw[q]at p;exact p
noncomputable def br{m:M.Sl->M.AH->M.R M.W}{f:M.W->M.AH->M.R α}{P Q}(s:ao Γ G Y h U H)(p:ak Γ E G H ((m Y h).j f) P):=Ji (Q:=Q) s.j Ext.refl s p
def QN(a:ag Γ G0 h0 H0)(c:Ext G0 H0 G H)(s:ao Γ G Y h U H)
 (p:ak Γ E G0 H0 ((m Y h).j f) P)
 (k:∀b h1 G1 H1,Ext G0 H0 G1 H1->Ext G H G1 H1->ao Γ G1 Y h1 U H1->ak Γ E G0 H0 (f b h1) P->Q b H1):cD Γ E m U H Q:=by
 refine⟨G,Y,h,s,?_⟩;cases q:m Y h with
|ok w h1=>rw[q]at p;exactλG1 H1 e g=>k w h1 G1 H1 (c.trans a e) e (s.ext e g) p
|exc d h1=>rw[q]at p;exact ak.on p c a
|fail=>rw[q]at p;exact p
def iz(Γ:Ge)(E:XK)(m:M.Sl->M.AH->M.R (List M.D)):TA:=λU H Q=>∃G Y h,ao Γ G Y h U H/\ak Γ E G H (m Y h) λds _ G' H'=>∀vs,aa Γ G' H' ds vs->Q vs H'
def aW(Γ:Ge)(G:Gh)(H:Hp):List M.W->List V->Prop
|[],vs=>vs=[]
|w::a,vs=>∃v r,vs=v::r/\aj Γ G H w v/\aW Γ G H a r
theorem aW.ext (e:Ext G H G' H')(a:ag Γ G h H):∀{ws}{vs},aW Γ G H ws vs->aW Γ G' H' ws vs
|[],_,z=>z
|_::_,_,z7=>by obtain⟨v,r,d,b,c⟩:=z7;exact⟨v,r,d,aj.ext e a b,aW.ext e a c⟩
theorem aW.length:∀{ws}{vs},aW Γ G H ws vs->ws.e=vs.e
|[],_,rfl=>rfl
|_::_,_,z7=>by obtain⟨_,_,rfl,_,z⟩:=z7;exact congrArg (·+1)<|aW.length z
def fF(Γ:Ge)(E:XK)(m:M.Sl->M.AH->M.R (List M.W)):TA:=λU H Q=>∃G Y h,ao Γ G Y h U H/\ak Γ E G H (m Y h) λa _ G' H'=>∀vs,aW Γ G' H' a vs->Q vs H'
def uz(a:ag Γ G0 h0 H0)(b:Ext G0 H0 G H)(s:ao Γ G Y h U H)
 (p:ak Γ E G0 H0 ((m Y h).j f) P)
 (k:∀ds vs h1 G1 H1,Ext G0 H0 G1 H1->Ext G H G1 H1->ao Γ G1 Y h1 U H1->aa Γ G1 H1 ds vs->ak Γ E G0 H0 (f ds h1) P->Q vs H1):iz Γ E m U H Q:=by
 refine⟨G,Y,h,s,?_⟩;cases q:m Y h with
|ok w h1=>rw[q]at p;exactλG1 H1 e c vs z=>k w vs h1 G1 H1 (b.trans a e) e (s.ext e c) z p
|exc d h1=>rw[q]at p;exact ak.on p b a
|fail=>rw[q]at p;exact p
def Zh(a:ag Γ G0 h0 H0)(b:Ext G0 H0 G H)(s:ao Γ G Y h U H)
 (p:ak Γ E G0 H0 ((m Y h).j f) P)
 (k:∀ds vs h1 G1 H1,Ext G0 H0 G1 H1->Ext G H G1 H1->ao Γ G1 Y h1 U H1->aW Γ G1 H1 ds vs->ak Γ E G0 H0 (f ds h1) P->Q vs H1):fF Γ E m U H Q:=by
 refine⟨G,Y,h,s,?_⟩;cases q:m Y h with
|ok w h1=>rw[q]at p;exactλG1 H1 e c vs z=>k w vs h1 G1 H1 (b.trans a e) e (s.ext e c) z p
|exc d h1=>rw[q]at p;exact ak.on p b a
|fail=>rw[q]at p;exact p
theorem ak.of (p:ak Γ E G H ((M.R.of h o).j f) P):∃b,o=y0 b/\ak Γ E G H (f b h) P:=by
 cases o with
|none=>exact p.j
|some b=>exact⟨b,rfl,p⟩
def ak.at(p:ak Γ E G H (.p a h) P)(e:Ext G H G1 H1)(b:ag Γ G1 h H1):P a h G1 H1:=p G1 H1 e b
def mi(e:Ext G H G1 H1)(s:ao Γ G1 Y h U H1)(p:ao Γ G Y h' U H)(r:aj Γ G1 H1 w v)(f:ay Y U H w v)(c:w.d=y0 d):
 ∃G2,Ext G H G2 H1/\ao Γ G2 Y h U H1/\au Γ G2 H1 d v/\Mon G1 H1 G2 H1:=by
 cases w with
|v A=>cases c;exact⟨G1,e,s,r,⟨λ_ _ _ z=>z,Aa3 _,λ_ _=>rfl,λ_ z=>z⟩⟩
|own m=>cases c;obtain⟨a,n,rfl,y,l,j,x⟩:=r;obtain⟨b,t,k⟩:=f;cases t;refine⟨G1.p a,e.more k,s.more l ⟨_,j⟩ λi w q u z=>?_,⟨a,n,rfl,.p ⟨.w rfl,.p j⟩,x.mon<|Zo a⟩,Zo a⟩;obtain⟨o,g⟩:=p.cR q u z;rw[k]at g;cases g
|bor m=>cases c
end
open PySem PySem.Spec PyProof.Rows
mutual
def RV(hp:Heap):M.D->Value->Prop
|.ai,u=>u=.y
|.K b,u=>u=.B b
|.u i,u=>∃t,u=.u i t
|.o s,u=>∃t,u=.o (ar s) t
|.p ds,u=>∃(a:Addr)(its:List Value),u=.j a/\IsTup hp a its.j/\cg hp ds its
|.w ds,u=>∃(a:Addr)(its:List Value),u=.j a/\hp.L a its.j/\cg hp ds its
|.j _,_=>False
|.y _ _,_=>False
|.B _ _ _,_=>False
def cg(hp:Heap):List M.D->List Value->Prop
|[],us=>us=[]
|d::ds,us=>∃u r,us=u::r/\RV hp d u/\cg hp ds r
end
theorem cg.length:∀{ds}{us},cg hp ds us->ds.e=us.e
|[],_,rfl=>rfl
|_::_,_,z7=>by obtain⟨_,_,rfl,_,z⟩:=z7;exact congrArg (·+1)<|cg.length z
open Lake renaming MS.cg.length->Lake.MS.cg.e
theorem cg.get:∀{ds}{us}{j:Nat}{u},cg hp ds us->us[j]?=y0 u->∃d,ds[j]?=y0 d/\RV hp d u
|[],_,_,_,rfl,e=>by simp at e
|d::_,_,0,_,z7,e=>by obtain⟨v,_,rfl,z,_⟩:=z7;simp at e;subst e;exact⟨d,rfl,z⟩
|_::_,_,j+1,_,z7,e=>by obtain⟨_,_,rfl,_,z⟩:=z7;obtain⟨v,a,b⟩:=cg.get z (by simpa using e);exact⟨v,by simpa using a,b⟩
section
variable{X:Cx}{Γ:Ge}{G:Gh}{H:Hp}{h:M.AH}{pins:List<|Addr×Obj}{U:St}{s:Shared}
mutual
theorem au.iQ (I:Inv X pins U H s)(hK:X.K=Γ.K):∀{d:M.D}{x:V}{u:Value},au Γ G H d x->RelV x u->M.Gf d=k9->RV s.j d u
|.ai,_,_,rfl,r,_=>r
|.K _,_,_,rfl,r,_=>r
|.u _,_,_,rfl,r,_=>r
|.o _,_,_,rfl,r,_=>r
|.p ds,_,_,⟨a,vs,rfl,z2,z3⟩,r,n=>by cases r;obtain⟨its,r1,p1,_⟩:=I.tuple<|hK▸z2.sq;exact⟨a,its,rfl,p1,aa.iQ I hK z3 r1<|by simpa[M.Gf]using n⟩
|.w ds,_,_,⟨a,vs,rfl,z2,z3⟩,r,n=>by cases r;obtain⟨its,r1,p1,_⟩:=I.K<|hK▸z2.sq;exact⟨a,its,rfl,p1.Q,aa.iQ I hK z3 r1<|by simpa[M.Gf]using n⟩
|.j _,_,_,_,_,n=>by simp[M.Gf]at n
|.y _ _,_,_,_,_,n=>by simp[M.Gf]at n
|.B _ _ _,_,_,_,_,n=>by simp[M.Gf]at n
theorem aa.iQ (I:Inv X pins U H s)(hK:X.K=Γ.K):∀{ds:List M.D}{xs:List V}{us:List Value},aa Γ G H ds xs->Vals xs us->M.Gd ds=k9->cg s.j ds us
|[],_,_,rfl,.p,_=>rfl
|d::ds,_,_,⟨v,r,rfl,z1,z2⟩,.j r1 r2,n=>by
  have n':M.Gf d=k9/\M.Gd ds=true:=by simpa[M.Gd]using n
  exact⟨_,_,rfl,au.iQ I hK z1 r1 n'.1,aa.iQ I hK z2 r2 n'.2⟩
end
mutual
theorem au.rv (I:Inv X pins U H s)(hK:X.K=Γ.K)(hr:ag Γ G h H):∀{d:M.D}{x:V}{u:Value},au Γ G H d x->RelV x u->M.Gf (M.res h d)=k9->RV s.j (M.res h d) u
|.ai,_,_,rfl,r,_=>r
|.K _,_,_,rfl,r,_=>r
|.u _,_,_,rfl,r,_=>r
|.o _,_,_,rfl,r,_=>r
|.p ds,_,_,⟨a,vs,rfl,z2,z3⟩,r,n=>by cases r;obtain⟨its,r1,p1,_⟩:=I.tuple<|hK▸z2.sq;rw[M.res]at n⊢;exact⟨a,its,rfl,p1,aa.rv I hK hr z3 r1<|by simpa[M.Gf]using n⟩
|.w ds,_,_,⟨a,vs,rfl,z2,z3⟩,r,n=>by cases r;obtain⟨its,r1,p1,_⟩:=I.K<|hK▸z2.sq;rw[M.res]at n⊢;exact⟨a,its,rfl,p1.Q,aa.rv I hK hr z3 r1<|by simpa[M.Gf]using n⟩
|.j i,_,_,⟨hi,e⟩,r,n=>by
  subst e;cases r;rw[M.res]at n⊢;cases q:h[i]? with
 |none=>rw[q]at n;simp[M.Gf]at n
 |some c=>
   cases c with
 |lst xs=>rw[q]at n;obtain⟨_,vs,z2,z3⟩:=hr.cell i xs q;obtain⟨its,r1,p1,_⟩:=I.K<|bu.of (K:=X.K) z2;exact⟨_,its,rfl,p1.Q,aa.iQ I hK z3 r1<|by simpa[M.Gf]using n⟩
 |obj c fs=>rw[q]at n;simp[M.Gf]at n
 |gP ks=>rw[q]at n;simp[M.Gf]at n
 |gq ks=>rw[q]at n;simp[M.Gf]at n
|.y _ _,_,_,_,_,n=>by simp[M.res,M.Gf]at n
|.B _ _ _,_,_,_,_,n=>by simp[M.res,M.Gf]at n
theorem aa.rv (I:Inv X pins U H s)(hK:X.K=Γ.K)(hr:ag Γ G h H):∀{ds:List M.D}{xs:List V}{us:List Value},aa Γ G H ds xs->Vals xs us->M.Gd (M.GX h ds)=k9->cg s.j (M.GX h ds) us
|[],_,_,rfl,.p,_=>rfl
|d::ds,_,_,⟨v,r,rfl,z1,z2⟩,.j r1 r2,n=>by
  rw[M.GX]at n⊢;have n':M.Gf (M.res h d)=k9/\M.Gd (M.GX h ds)=true:=by simpa[M.Gd]using n
  exact⟨_,_,rfl,au.rv I hK hr z1 r1 n'.1,aa.rv I hK hr z2 r2 n'.2⟩
end
theorem aj.rv (I:Inv X pins U H s)(e:X.K=Γ.K)(j:ag Γ G h H)(z:aj Γ G H w x)(r:RelV x u)(n:M.Gf (w.dd h)=k9):RV s.j (w.dd h) u:=by
 cases w with
|v d=>exact au.rv I e j z r n
|own l=>obtain⟨a,k,rfl,_,_,g,i⟩:=z;cases r;obtain⟨b,f,c,_⟩:=I.K<|bu.of g;exact⟨a,b,rfl,c.Q,aa.rv I e j i f<|by simp_all⟩
|bor l=>obtain⟨a,k,rfl,_,g,i⟩:=z;cases r;obtain⟨b,f,c,_⟩:=I.K<|.p g;exact⟨a,b,rfl,c.Q,aa.rv I e j i f<|by simp_all⟩
end
def Wp(h:ar a=ar b):a=b:=by have:=congrArg Str.cps h;simpa[ar]using this
def WZ{c ys:List Value}(h1:IsTup hp a c.j)(h2:IsTup hp a ys.j):c=ys:=by obtain⟨o,e,_,n,f⟩:=h1;obtain⟨g,b,_,h,d⟩:=h2;rw[e]at b;cases b;rw[f]at d;cases d;rfl
def xK{e:Heap}{c ys:List Value}(h1:e.L a c.j)(h2:e.L a ys.j):c=ys:=by obtain⟨o,f,_,n,g⟩:=h1;obtain⟨h,b,_,i,d⟩:=h2;rw[f]at b;cases b;rw[g]at d;cases d;rfl
def jy(h1:IsTup hp a xs)(h2:hp.L a ys):False:=by obtain⟨o,d,e,_⟩:=h1;obtain⟨f,b,c,_⟩:=h2;rw[d]at b;cases b;rw[e]at c;exact absurd c Y7
mutual
theorem RV.inj {hp:Heap}:∀{d e:M.D}{u:Value},RV hp d u->RV hp e u->d=e
|.ai,e,_,rfl,q=>by cases e<;>first|rfl|(simp[RV]at q)
|.K _,e,_,rfl,q=>by cases e<;>first|(simp[RV]at q;done)|(have q:=q;simp[RV]at q;try rw[q])
|.u _,e,_,z7,q=>by obtain⟨t,rfl⟩:=z7;cases e<;>first|(simp[RV]at q;done)|(have q:=q;simp[RV]at q;try rw[q])
|.o _,e,_,z7,q=>by
  obtain⟨t,rfl⟩:=z7;cases e with
 |str z=>
   obtain⟨t',q⟩:=q;injection q with q1 q2
   rw[Wp q1]
 |_=>simp[RV]at q
|.p ds,e,_,z7,q=>by
  obtain⟨a,its,rfl,p,r⟩:=z7;cases e with
 |tup es=>obtain⟨b,its2,e,p2,r2⟩:=q;cases e;cases WZ p p2;rw[cg.inj r r2]
 |lst es=>obtain⟨b,its2,e,p2,r2⟩:=q;cases e;exact(jy p p2).j
 |_=>simp[RV]at q
|.w ds,e,_,z7,q=>by
  obtain⟨a,its,rfl,p,r⟩:=z7;cases e with
 |lst es=>obtain⟨b,its2,e,p2,r2⟩:=q;cases e;cases xK p p2;rw[cg.inj r r2]
 |tup es=>obtain⟨b,its2,e,p2,r2⟩:=q;cases e;exact(jy p2 p).j
 |_=>simp[RV]at q
|.j _,_,_,q,_=>q.j
|.y _ _,_,_,q,_=>q.j
|.B _ _ _,_,_,q,_=>q.j
theorem cg.inj {hp:Heap}:∀{d e:List M.D}{u:List Value},cg hp d u->cg hp e u->d=e
|[],e,_,rfl,q=>by
  cases e with
 |nil=>rfl
 |cons a b=>obtain⟨_,_,z,_⟩:=q;cases z
|d::ds,e,_,z7,q=>by
  obtain⟨u,r,rfl,z1,z2⟩:=z7;cases e with
|nil=>cases(show _::_=[]from q)
|cons a b=>obtain⟨_,_,z,y1,y2⟩:=q;cases z;rw[RV.inj z1 y1,cg.inj z2 y2]
end
mutual
theorem RV.refl {hp:Heap}:∀{d:M.D}{u:Value},RV hp d u->M.cw d d=k9
|.ai,_,_=>rfl
|.K _,_,_=>by simp
|.u _,_,_=>by simp
|.o _,_,_=>by simp
|.p ds,_,z7=>by obtain⟨_,_,_,_,r⟩:=z7;rw[M.zC4];exact cg.refl r
|.w ds,_,z7=>by obtain⟨_,_,_,_,r⟩:=z7;rw[M.zC5];exact cg.refl r
|.j _,_,q=>q.j
|.y _ _,_,q=>q.j
|.B _ _ _,_,q=>q.j
theorem cg.refl {hp:Heap}:∀{d:List M.D}{u:List Value},cg hp d u->M.GM d d=k9
|[],_,_=>rfl
|d::ds,_,z7=>by obtain⟨_,_,_,z1,z2⟩:=z7;exact by rw[M.zC7,RV.refl z1,cg.refl z2];rfl
 end
def ky(c ys:List M.D)(j:Nat):Bool:=match c[j]?,ys[j]? with
|some a,y0 b=>M.cw a b
|_,_=>k9
def ZH(n)(e):(Ab1<|n+1).T e=(e 0&&(Ab1 n).T λj=>e<|j+1):=by rw[Aj,Ah7,Vr];rfl
theorem Z4:∀(xs ys),xs.e=ys.e->(Ab1 xs.e).T (ky xs ys)=M.GM xs ys
|[],[],_=>rfl
|[],_::_,h=>by simp at h
|_::_,[],h=>by simp at h
|x::xs,y::ys,h=>by rw[Ab6,ZH,M.zC7];have a:=Z4 xs ys (by simpa using h);rw[←a];rfl
theorem sU:∀(xs ys),M.GM xs ys=k9->xs.e=ys.e
|[],[],_=>rfl
|[],_::_,h|_::_,[],h=>(Bool.false_ne_true h).elim
|x::xs,y::ys,h=>by rw[M.zC7,Aa6]at h;rw[Ab6,Ab6,sU xs ys h.2]
def yW(h:xs.e≠ys.e):M.GM xs ys=false:=by
 cases e:M.GM xs ys with
|false=>rfl
|true=>exact absurd (sU xs ys e) h
open SeqAt in
structure dz(A:Around)(s:Shared)(u v:Value)(b:Bool):Prop where
 rc:RcAt A s u v b
 ne:RcNeAt A s u v<|!b
 eq:EqAt A s u v b
section
open SeqAt
variable{A:Around}{s:Shared}
theorem QB:∀{ds}{j:Nat}{d},ds[j]?=y0 d->M.dep d<=M.GY ds
|[],_,_,e=>by simp at e
|x::a,0,d,e=>by simp at e;subst e;simp only[M.GY];lia
|x::a,j+1,d,e=>by have:=QB (by simpa using e);simp only[M.GY];lia
def nO(b:Bool):((if b then(1:Int)else 0))=((b.j:Nat):Int):=by cases b<;>rfl
def tX(a b):(ar a==ar b)=(a==b):=by
 by_cases h:a=b
 .subst h;simp
 .have c:=λe=>h<|Wp e;rw[beq_eq_false_iff_ne.p h,beq_eq_false_iff_ne.p c]
def Z1(g:s.j.L l its.j)(f:s.j.L b its2.j)(k:cg s.j xs its)(m:cg s.j ys its2)(i:A.y<cLine)
 (x:∀(j:Nat) a c u v,xs[j]?=y0 a->ys[j]?=y0 c->RV s.j a u->RV s.j c v->EqAt A.p s u v (M.cw a c)):dz A s (.j l) (.j b)<|M.GM xs ys:=by
 have q:∀j y (w:j<its2.j.j),EqAt A.p s its.j[j] its2.j[j]<|ky xs ys j:=λj y w=>by
  obtain⟨a,o,z⟩:=k.get (j:=j) (u:=its.j[j]) Y9;obtain⟨c,p,t⟩:=m.get (j:=j) (u:=its2.j[j]) Y9;have:=x j a c _ _ o p z t;unfold ky
  rwa [o,p]
 have r:=k.e;have B:=m.e;have two:RcAt A s (.j l) (.j b) (M.GM xs ys)/\RcNeAt A s (.j l) (.j b) (!M.GM xs ys):=by
  by_cases n:xs.e=ys.e
  .have d:its.j.j=its2.j.j:=by simp;lia
   have e:(Ab1 its.j.j).T (ky xs ys)=M.GM xs ys:=by rw[Ab7,←r];exact Z4 xs ys n
   have a:=RcAt.lists g f d i q;have c:=RcNeAt.lists g f d i q;rw[e]at a c;exact⟨a,c⟩
  .have d:(its.j.j !=its2.j.j)=true:=by simp;lia
   rw[yW n];exact⟨RcAt.lists_lengths g f d i,RcNeAt.lists_lengths g f d i⟩
 refine⟨two.1,two.2,?_⟩;by_cases h:l=b
 .subst h;cases xK g f;cases cg.inj k m;rw[cg.refl k];exact EqAt.same _
 .exact EqAt.of_refs h two.1
def JK(k:IsTup s.j l its.j)(i:IsTup s.j b its2.j)(g:cg s.j xs its)(h:cg s.j ys its2)(m:A.y<cLine)
 (t:∀(j:Nat) a c u v,xs[j]?=y0 a->ys[j]?=y0 c->RV s.j a u->RV s.j c v->EqAt A.p s u v (M.cw a c)):dz A s (.j l) (.j b)<|M.GM xs ys:=by
 have p:∀j w (r:j<its2.j.j),EqAt A.p s its.j[j] its2.j[j]<|ky xs ys j:=λj w r=>by
  obtain⟨a,n,x⟩:=g.get (j:=j) (u:=its.j[j]) Y9;obtain⟨c,o,q⟩:=h.get (j:=j) (u:=its2.j[j]) Y9;have:=t j a c _ _ n o x q;unfold ky
  rwa [n,o]
 have e:((Ab1<|min its.j.j its2.j.j).T (ky xs ys)&&its.j.j==its2.j.j)=M.GM xs ys:=by
  rw[Ab7,Ab7,←g.e,←h.e];by_cases f:xs.e=ys.e
  .rw[←f,Yo,Z4 xs ys f];simp
  .rw[yW f];simp[f]
 have a:=RcAt.tuples k i m p;have c:=RcNeAt.tuples k i m p;rw[e]at a c;refine⟨a,c,?_⟩;by_cases d:l=b
 .subst d;cases WZ k i;cases cg.inj g h;rw[cg.refl g];exact EqAt.same _
 .exact EqAt.of_refs d a
def dz.of (h:dz A s u v b)(e:b=b'):dz A s u v b':=e▸h
def BX:∀(n:Nat)(d e:M.D)(A:Around)(u v:Value),M.dep d<=n->A.y+n<cLine->RV s.j d u->RV s.j e v->dz A s u v (M.cw d e):=by
 intro n;induction n with
|zero=>
  intro d e A u v B L m f;have c:A.y<cLine:=ZAA;cases d with
 |ai=>
   cases(show u=.y from m);cases e with
   |ai=>cases(show v=.y from f);exact⟨RcAt.none_none,RcNeAt.none_none,EqAt.same _⟩
   |bl b=>cases(show v=.B b from f);exact⟨RcAt.none_bool b,RcNeAt.none_bool b,EqAt.none_bool b⟩
   |int i=>obtain⟨t,rfl⟩:=f;exact⟨RcAt.none_int i t,RcNeAt.none_int i t,EqAt.none_int i t⟩
   |str z=>obtain⟨t,rfl⟩:=f;exact⟨RcAt.none_str _ t,RcNeAt.none_str _ t,EqAt.none_str _ t⟩
   |tup o=>obtain⟨a,k,rfl,p,_⟩:=f;exact⟨RcAt.none_tuple p c,RcNeAt.none_tuple p c,EqAt.none_tuple p c⟩
   |lst o=>obtain⟨a,k,rfl,p,_⟩:=f;exact⟨RcAt.none_list p c,RcNeAt.none_list p c,EqAt.none_list p c⟩
   |ref _=>exact f.j
   |exc _ _=>exact f.j
   |err _ _ _=>exact f.j
 |bl x=>
   cases(show u=.B x from m);cases e with
   |ai=>cases(show v=.y from f);exact⟨RcAt.bool_none x,RcNeAt.bool_none x,EqAt.bool_none x⟩
   |bl b=>cases(show v=.B b from f);exact⟨RcAt.bool_bool x b,RcNeAt.bool_bool x b,EqAt.bool_bool x b⟩
   |int i=>obtain⟨t,rfl⟩:=f;exact(dz.mk (RcAt.bool_int x i t) (RcNeAt.bool_int x i t)<|EqAt.bool_int x i t).of<|by rw[nO];rfl
   |str z=>obtain⟨t,rfl⟩:=f;exact⟨RcAt.bool_str x _ t,RcNeAt.bool_str x _ t,EqAt.bool_str x _ t⟩
   |tup o=>obtain⟨a,k,rfl,p,_⟩:=f;exact⟨RcAt.bool_tuple x p c,RcNeAt.bool_tuple x p c,EqAt.bool_tuple x p c⟩
   |lst o=>obtain⟨a,k,rfl,p,_⟩:=f;exact⟨RcAt.bool_list x p c,RcNeAt.bool_list x p c,EqAt.bool_list x p c⟩
   |ref _=>exact f.j
   |exc _ _=>exact f.j
   |err _ _ _=>exact f.j
 |int x=>
   obtain⟨g,rfl⟩:=m;cases e with
   |ai=>cases(show v=.y from f);exact⟨RcAt.int_none x g,RcNeAt.int_none x g,EqAt.int_none x g⟩
   |bl b=>cases(show v=.B b from f);exact(dz.mk (RcAt.int_bool x g b) (RcNeAt.int_bool x g b)<|EqAt.int_bool x g b).of<|by rw[nO];rfl
   |int i=>obtain⟨t,rfl⟩:=f;exact⟨RcAt.int_int x g i t,RcNeAt.int_int x g i t,EqAt.int_int x g i t⟩
   |str z=>obtain⟨t,rfl⟩:=f;exact⟨RcAt.int_str x g _ t,RcNeAt.int_str x g _ t,EqAt.int_str x g _ t⟩
   |tup o=>obtain⟨a,k,rfl,p,_⟩:=f;exact⟨RcAt.int_tuple x g p c,RcNeAt.int_tuple x g p c,EqAt.int_tuple x g p c⟩
   |lst o=>obtain⟨a,k,rfl,p,_⟩:=f;exact⟨RcAt.int_list x g p c,RcNeAt.int_list x g p c,EqAt.int_list x g p c⟩
   |ref _=>exact f.j
   |exc _ _=>exact f.j
   |err _ _ _=>exact f.j
 |str x=>
   obtain⟨g,rfl⟩:=m;cases e with
   |ai=>cases(show v=.y from f);exact⟨RcAt.str_none _ g,RcNeAt.str_none _ g,EqAt.str_none _ g⟩
   |bl b=>cases(show v=.B b from f);exact⟨RcAt.str_bool _ g b,RcNeAt.str_bool _ g b,EqAt.str_bool _ g b⟩
   |int i=>obtain⟨t,rfl⟩:=f;exact⟨RcAt.str_int _ g i t,RcNeAt.str_int _ g i t,EqAt.str_int _ g i t⟩
   |str z=>obtain⟨t,rfl⟩:=f;exact(dz.mk (RcAt.str_str _ g _ t) (RcNeAt.str_str _ g _ t)<|EqAt.str_str _ g _ t).of<|by rw[tX];rfl
   |tup o=>obtain⟨a,k,rfl,p,_⟩:=f;exact⟨RcAt.str_tuple _ g p c,RcNeAt.str_tuple _ g p c,EqAt.str_tuple _ g p c⟩
   |lst o=>obtain⟨a,k,rfl,p,_⟩:=f;exact⟨RcAt.str_list _ g p c,RcNeAt.str_list _ g p c,EqAt.str_list _ g p c⟩
   |ref _=>exact f.j
   |exc _ _=>exact f.j
   |err _ _ _=>exact f.j
 |ref _=>exact m.j
 |exc _ _=>exact m.j
 |err _ _ _=>exact m.j
 |_=>simp only[M.dep]at B;lia
|succ n y=>
  intro d e A u v B L m f;have c:A.y<cLine:=by lia
  cases d with
|tup C=>
   obtain⟨l,w,rfl,h,K⟩:=m;have r:M.GY C<=n:=by simp only[M.dep]at B;exact S3 ‹_›
   cases e with
 |ai=>cases(show v=.y from f);exact⟨RcAt.tuple_none h c,RcNeAt.tuple_none h c,EqAt.tuple_none h c⟩
 |bl b=>cases(show v=.B b from f);exact⟨RcAt.tuple_bool b h c,RcNeAt.tuple_bool b h c,EqAt.tuple_bool b h c⟩
 |int i=>obtain⟨t,rfl⟩:=f;exact⟨RcAt.tuple_int i t h c,RcNeAt.tuple_int i t h c,EqAt.tuple_int i t h c⟩
 |str z=>obtain⟨t,rfl⟩:=f;exact⟨RcAt.tuple_str _ t h c,RcNeAt.tuple_str _ t h c,EqAt.tuple_str _ t h c⟩
 |tup o=>obtain⟨a,k,rfl,p,q⟩:=f;rw[M.zC4];exact JK h p K q c λj I G E F J N D H=>(y I G A.p E F (Ac (QB J) r) (by show A.y+1+n<cLine;lia) D H).eq
 |lst o=>obtain⟨a,k,rfl,p,_⟩:=f;exact⟨RcAt.tuple_list h p c,RcNeAt.tuple_list h p c,EqAt.tuple_list h p c⟩
 |ref _=>exact f.j
 |exc _ _=>exact f.j
 |err _ _ _=>exact f.j
|lst C=>
   obtain⟨l,w,rfl,h,K⟩:=m;have r:M.GY C<=n:=by simp only[M.dep]at B;exact S3 ‹_›
   cases e with
 |ai=>cases(show v=.y from f);exact⟨RcAt.list_none h c,RcNeAt.list_none h c,EqAt.list_none h c⟩
 |bl b=>cases(show v=.B b from f);exact⟨RcAt.list_bool b h c,RcNeAt.list_bool b h c,EqAt.list_bool b h c⟩
 |int i=>obtain⟨t,rfl⟩:=f;exact⟨RcAt.list_int i t h c,RcNeAt.list_int i t h c,EqAt.list_int i t h c⟩
 |str z=>obtain⟨t,rfl⟩:=f;exact⟨RcAt.list_str _ t h c,RcNeAt.list_str _ t h c,EqAt.list_str _ t h c⟩
 |lst o=>obtain⟨a,k,rfl,p,q⟩:=f;rw[M.zC5];exact Z1 h p K q c λj I G E F J N D H=>(y I G A.p E F (Ac (QB J) r) (by show A.y+1+n<cLine;lia) D H).eq
 |tup o=>obtain⟨a,k,rfl,p,_⟩:=f;exact⟨RcAt.list_tuple h p c,RcNeAt.list_tuple h p c,EqAt.list_tuple h p c⟩
 |ref _=>exact f.j
 |exc _ _=>exact f.j
 |err _ _ _=>exact f.j
|ai=>exact y .ai e A u v Y9 (Ag5 ‹_›) m f
|ref _=>exact m.j
|exc _ _=>exact m.j
|err _ _ _=>exact m.j
|_=>exact y _ e A u v Y9 (Ag5 ‹_›) m f
end
def aq(Γ:Ge)(E:XK)(G:Gh)(H:Hp)(r:M.R M.W)(Q:VK):Prop:=ak Γ E G H r λw _ G' H'=>∀v,aj Γ G' H' w v->ay [] [] H w v->Q v H'
section
open Lake renaming MS.aa.length->Lake.MS.aa.e
variable{X:Cx}{Γ:Ge}{G:Gh}{H:Hp}{h:M.AH}{pins:List<|Addr×Obj}{U:St}{s:Shared}{Q:VK}{E:XK}
theorem aq.v (p:aq Γ E G H (.p (.v d) h) Q)(a:ag Γ G h H){v:V}(z:au Γ G H d v):Q v H:=p G H Ext.refl a v z trivial
def ag.l4 (c:ag Γ G h H)(b:H a=u0):¬G.y a:=λq=>by obtain⟨o,z⟩:=c.p a q;rw[b]at z;cases z
def ag.iB (c:ag Γ G h H)(b:H a=u0):eu G a:=λr d e=>by obtain⟨o,q⟩:=c.there d;rw[e,b]at q;cases q
theorem aq.own (p:aq Γ E G H (.p (.j xs) h) Q)(c:ag Γ G h H)(z:aa Γ G H xs vs)(a)(b:H a=u0):Q (.j a)<|ax H a<|.w vs:=
 p G _ (zr _ b) (c.new _ b) _ ⟨a,vs,rfl,c.l4 b,c.iB b,Xa,z.ext (zr _ b) c⟩ ⟨a,rfl,b⟩
theorem aq.tup (p:aq Γ E G H (.p (.v<|.p xs) h) Q)(c:ag Γ G h H)(z:aa Γ G H xs vs)(a)(b:H a=u0):Q (.j a)<|ax H a<|.tup vs:=
 p _ _ (We _ b) (c.fh _ b) _ ⟨a,vs,rfl,.p ⟨.w rfl,Xa⟩,z.ext (We _ b) c⟩ trivial
theorem aq.of (p:aq Γ E G H ((M.R.of h o).j f) Q):∃b,o=y0 b/\aq Γ E G H (f b h) Q:=ak.of p
def aq.mk (p:ak Γ E G0 H0 r λw _ G' H'=>∀v,aj Γ G' H' w v->ay Y U H0 w v->Q v H')(e:Ext G0 H0 G H)(f:ag Γ G0 h0 H0):aq Γ E G H r Q:=by
 cases r with
|ok w k=>
  refineλG' H' g b v m h=>p G' H' (e.trans f g) b v m ?_;cases w with
 |v d=>trivial
 |own j=>obtain⟨a,c,l⟩:=h;exact⟨a,c,e.none f l⟩
 |bor j=>obtain⟨i,w,c,_⟩:=h;simp at c
|exc d k=>exactλG' H' g b=>p G' H' (e.trans f g) b
|fail=>exact p
theorem aj.lst (j:ag Γ G h H)(z:aj Γ G H w v)(e:w.bT h=y0 xs):∃a vs,v=.j a/\bu Γ.K H a vs/\aa Γ G H xs vs:=by
 cases w with
|v d=>
  cases d with
 |lst i=>cases e;obtain⟨a,vs,g,b,f⟩:=z;exact⟨a,vs,g,b.sq,f⟩
 |ref r=>
   obtain⟨k,g⟩:=z;have e:(match h[r]? with|some (M.Cell.lst zs)=>y0 zs|_=>u0)=y0 xs:=e;cases q:h[r]? with
   |none=>rw[q]at e;cases e
   |some c=>
    cases c with
   |lst i=>rw[q]at e;cases e;obtain⟨_,vs,b,f⟩:=j.cell r _ q;exact⟨_,vs,g,bu.of b,f⟩
   |_=>rw[q]at e;cases e
 |_=>cases e
|own i=>cases e;obtain⟨a,vs,g,_,_,b,f⟩:=z;exact⟨a,vs,g,bu.of b,f⟩
|bor i=>cases e;obtain⟨a,vs,g,_,b,f⟩:=z;exact⟨a,vs,g,.p b,f⟩
theorem aj.sd (j:ag Γ G h H)(z:aj Γ G H w v)(e:w.iS h=y0 xs):∃a vs,v=.j a/\Rd H a (.w vs)/\aa Γ G H xs vs:=by
 cases w with
|v d=>
  cases d with
 |ref r=>
   obtain⟨k,g⟩:=z;have e:(match h[r]? with|some (M.Cell.lst zs)=>y0 zs|_=>u0)=y0 xs:=e;cases q:h[r]? with
   |none=>rw[q]at e;cases e
   |some c=>
    cases c with
   |lst i=>rw[q]at e;cases e;obtain⟨_,vs,b,f⟩:=j.cell r _ q;exact⟨_,vs,g,.p b,f⟩
   |_=>rw[q]at e;cases e
 |_=>cases e
|own i=>cases e;obtain⟨a,vs,g,_,_,b,f⟩:=z;exact⟨a,vs,g,.p b,f⟩
|bor i=>cases e;obtain⟨a,vs,g,_,b,f⟩:=z;exact⟨a,vs,g,b,f⟩
theorem aj.seq (j:ag Γ G h H)(z:aj Γ G H w v)(e:w.seq? h=y0 xs):∃a vs,v=.j a/\(bu Γ.K H a vs\/dj Γ.K H a vs)/\aa Γ G H xs vs:=by
 have b:w.bT h=y0 xs->∃a vs,v=.j a/\(bu Γ.K H a vs\/dj Γ.K H a vs)/\aa Γ G H xs vs:=λe=>by obtain⟨a,vs,g,c,f⟩:=z.lst j e;exact⟨a,vs,g,.p c,f⟩
 cases w with
|v d=>
  cases d with
 |tup i=>cases e;obtain⟨a,vs,g,c,f⟩:=z;exact⟨a,vs,g,.w c.sq,f⟩
 |lst i=>exact b e
 |ref r=>exact b e
 |_=>cases e
|_=>exact b e
def En(I:Inv X pins U H s)(r:Rd H a<|.w vs):vs.e<=sizeLine/\∃j n,Vals vs j/\vs.e=j.e/\s.j.p a=y0 {cls:=.p "list",data:=.j j.j n}:=by obtain⟨z,j,n,r,e⟩:=r.ok I.aF;exact⟨z,j,n,r,r.length,e⟩
def Xe:M.aR<=sizeLine:=by rw[M.Gc];decide
def Ri(K:Aa1):R2:=λx y H Q=>∃l b xs zs,x=.j l/\y=.j b/\bu K H l xs/\bu K H b zs/\xs.e+zs.e<=sizeLine/\∀p,H p=u0->Q (.j p) (ax H p<|.w<|xs++zs)
def B5:bB X (binaryOp .Add)<|Ri X.K:=by
 rintro j s U H x y v u Q I G t⟨l,b,K,L,rfl,rfl,w,D,N,q⟩;cases G;cases t;obtain⟨c,r,B,_⟩:=I.K w;obtain⟨a,p,C,_⟩:=I.K D;have M:=r.length;have O:=p.length;have z:c.j++a.j=(c++a).j:=by simp
 obtain⟨⟨cls,dd,m,F⟩,k,J,n,E⟩:=id B.Q;obtain⟨⟨o,i,g,h⟩,d,e,A,f⟩:=id C.Q;subst J E e f;refine T8 ⟨_,k,rfl⟩ ⟨_,d,rfl⟩ noFill_list_add seq_list_add PySem.F.slot_list_add PySem.F.entry_list_add (PySem.F.args_list_add_2 _ _) (list_addW l b c.j a.j n A dd i F h<|by simp_all) ⟨k,d,?_⟩;rw[z];exact⟨.j _,_,I.mG (r.append p)<|by simp_all,rfl,q _ I.fresh⟩
def B3:R2:=λx y H Q=>∃l k xs,x=.j l/\y=.u k/\Rd H l (.w xs)/\-(2^63)<=k/\k<2^63/\xs.e*k.j<=sizeLine∧
 ∀p,H p=u0->Q (.j p) (ax H p<|.w (Ab k.j xs).Z)
def C5:bB X (binaryOp .Mult) B3:=by
 intro g s U H x y v u Q I G j h;obtain⟨l,k,J,rfl,rfl,p,E,A,i,q⟩:=h;cases G;obtain⟨t,rfl⟩:=j;obtain⟨z,b,n,r,D,e⟩:=En I p;have d:b.j.j*k.j<=sizeLine:=by rw[Ab7,←D];exact i
 have c:¬Builtin.List.listTooLong (b.j.j*k.j)=true:=by rw[Be d];exact Ab0
 have f:List.foldl (λC w=>C++w) #[] (Ab (if b.j.isEmpty=k9 then 0 else k.j) b.j)=(Ab k.j b).Z.j:=by
  have B:=λm=>by have:=XY b m [];rw[Af3]at this;exact this
  rw[B];cases b with
|nil=>simp
|cons a K=>rw[FB Y9]
 refine wpAny_binaryOp_repeat_ref rfl ⟨_,e,rfl⟩ (λo=>V4 o k t) noFill_list_mul F.fills_int_mul Ya repeat_list F.slot_int_index.p
 <|SY Ya (V4 s k t) F.entry_int_rmul (F.args_int_rmul_2 _ _) (int___rmul___int_list k t l b.j n)
    ⟨e,rfl,⟨_,e,rfl⟩,SY F.slot_list_mul ⟨_,e,rfl⟩ F.entry_list_mul (F.args_list_mul_2 _ _) (AutoListH.list___mul___list_int_3 l b.j n k t (by
      rw[fitsIndex_both E A];exact Ab0) (by
      have:sizeLine<=(2^63-1)/8:=by decide
      lia) c) ⟨e,?_⟩⟩
 rw[f];exact⟨.j _,_,I.mG (r.rep k.j)<|by rw[Ei,Yn];exact i,rfl,q _ I.fresh⟩
theorem aa.rep (z:aa Γ G H ds vs):∀k:Nat,aa Γ G H (Ab k ds).Z (Ab k vs).Z
|0=>rfl
|k+1=>by exact z.append<|aa.rep z k
def J6(a b:Nat):Builtin.bitAnd (a:Int) (b:Int)=((a&&&b:Nat):Int):=by rfl
def NI(a:Nat)(j)(b:¬0<=j):Builtin.bitAnd (a:Int) j=((a-(a&&&(-j-1).j):Nat):Int):=by
 have e:(Builtin.bitNot j).j=(-j-1).j:=by unfold Builtin.bitNot;exact by with_reducible rfl
 unfold Builtin.bitAnd;rw[On<|SK a,FS b];show a-((a&&&(Builtin.bitNot j).j:Nat):Int)=_;rw[e];have:=@Nat.and_le_left a (-j-1).j;lia
def pH(a b:Nat):Builtin.bitOr (a:Int) (b:Int)=((a|||b:Nat):Int):=by
 have e:¬0<=Builtin.bitNot a:=by unfold Builtin.bitNot;lia
 have f:¬0<=Builtin.bitNot b:=by unfold Builtin.bitNot;lia
 have c:(Builtin.bitNot<|Builtin.bitNot a).j=a:=by unfold Builtin.bitNot;lia
 have d:(Builtin.bitNot<|Builtin.bitNot b).j=b:=by unfold Builtin.bitNot;lia
 unfold Builtin.bitOr Builtin.bitAnd;rw[FS e,FS f];show Builtin.bitNot (Builtin.bitNot _)=_;rw[c,d];unfold Builtin.bitNot;lia
def Lw(h:M.KG i j=y0 k):Builtin.bitAnd i j=k:=by
 unfold M.KG at h;split at h
 .rename_i d;obtain⟨a,rfl⟩:=Ai8 d;split at h
  .rename_i c;obtain⟨b,rfl⟩:=Ai8 c;cases h;exact J6 a b
  .rename_i c;cases h;exact NI a j c
 .cases h
def Co(h:M.lW i j=y0 k):Builtin.bitOr i j=k:=by
 unfold M.lW at h;split at h
 .rename_i c;obtain⟨a,rfl⟩:=Ai8 c.1;obtain⟨b,rfl⟩:=Ai8 c.2;cases h;exact pH a b
 .cases h
noncomputable def mS:M.Op->Operator
|.add=>.Add|.sub=>.Sub|.mul=>.Mult|.fdiv=>.FloorDiv|.mod=>.Mod|.pow=>.Pow|.shl=>.LShift|.shr=>.RShift|.band=>.BitAnd|.bor=>.BitOr
def He(Γ:Ge)(E:XK)(o:M.Op):R2:=λx y H Q=>∃G h a b,ag Γ G h H/\aj Γ G H a x/\aj Γ G H b y/\aq Γ E G H (M.GN o a b h) Q
def Qj(s t):ar s++ar t=ar (s++t):=by show Str.mk _=Str.mk _;simp[ar]
def Qc(s):(ar s).e=s.e:=by show s.j.j=s.e;simp
def HV(e:M.Gm o i j=y0 k)(I:Inv X pins U H s)(a:RelV (.u i) v)(b:RelV (.u j) u)(q:Q (.u k) H):
 wpAny (model X.p X.w) X.A (binaryOp (mS o) v u) (EP X pins U Q) X.xe s:=by
 cases o with
|add=>cases e;exact R5 pins s U H _ _ v u Q I a b ⟨i,j,rfl,rfl,q⟩
|sub=>cases e;exact Ie pins s U H _ _ v u Q I a b ⟨i,j,rfl,rfl,q⟩
|mul=>
  simp only[M.Gm,M.GR,M.GB]at e;split at e
  .rename_i c;cases e;exact Oj pins s U H _ _ v u Q I a b ⟨i,j,rfl,rfl,c,q⟩
  .cases e
|fdiv=>
  simp only[M.Gm,M.GJ,M.GB]at e;split at e
  .rename_i c;cases e;exact RM pins s U H _ _ v u Q I a b ⟨i,j,rfl,rfl,c,q⟩
  .cases e
|mod=>
  simp only[M.Gm,M.GB]at e;split at e
  .rename_i c;cases e;exact Nw pins s U H _ _ v u Q I a b ⟨i,j,rfl,rfl,c,q⟩
  .cases e
|pow=>
  simp only[M.Gm,M.Ke,M.GB]at e;split at e
  .rename_i c;cases e;exact FU pins s U H _ _ v u Q I a b ⟨i,j,rfl,rfl,c,q⟩
  .cases e
|shl=>
  simp only[M.Gm,M.Ke,M.GB]at e;split at e
  .rename_i c;cases e;exact Ng pins s U H _ _ v u Q I a b ⟨i,j,rfl,rfl,c,q⟩
  .cases e
|shr=>
  simp only[M.Gm,M.GB]at e;split at e
  .rename_i c;cases e;exact O6 pins s U H _ _ v u Q I a b ⟨i,j,rfl,rfl,c,q⟩
  .cases e
|band=>exact FZ pins s U H _ _ v u Q I a b ⟨i,j,rfl,rfl,by dsimp only;rw[Lw e];exact q⟩
|bor=>exact Pc pins s U H _ _ v u Q I a b ⟨i,j,rfl,rfl,by dsimp only;rw[Co e];exact q⟩
theorem aj.int (z:aj Γ G H w v)(e:w.int?=y0 i):v=.u i:=by
 cases w with
|v d=>
  cases d with
 |int j=>cases e;exact z
 |_=>cases e
|_=>cases e
theorem aj.str (z:aj Γ G H w v)(e:w.aU=y0 i):v=.o (ar i):=by
 cases w with
|v d=>
  cases d with
 |str j=>cases e;exact z
 |_=>cases e
|_=>cases e
theorem aj.tup (z:aj Γ G H w v)(e:w.cT=y0 xs):∃a vs,v=.j a/\fg Γ G H a vs/\aa Γ G H xs vs:=by
 cases w with
|v d=>
  cases d with
 |tup j=>cases e;exact z
 |_=>cases e
|_=>cases e
set_option tactic.hygienic true in
def Pz(o)  (A:X.K=Γ.K):bB X (binaryOp<|mS o)<|He Γ E o:=by
 rintro d s U H x y v u Q I t n ⟨G,h,T,R,f,B,C,p⟩;have S:=Xe;unfold M.GN at p;split at p
 .rename_i i j g l;obtain⟨k,e,p⟩:=p.of;cases B.int g;cases C.int l;exact HV e I t n<|p.v f rfl
 .split at p
  .--add
    unfold M.K0 at p;split at p
    .rename_i a b g l;cases B.str g;cases C.str l;split at p
     .rename_i c;exact LG d s U H _ _ v u Q I t n ⟨_,_,rfl,rfl,by rw[Qc,Qc];exact Ac ‹_› ‹_›,by rw[Qj];exact p.v f rfl⟩
     .exact p.j
    .split at p
     .rename_i L P g l;obtain⟨a,q,rfl,r,m⟩:=B.tup g;obtain⟨b,K,rfl,F,w⟩:=C.tup l;split at p
      .rename_i c;have N:=m.e;have O:=w.e;by_cases ex:q=[]
       .subst ex;have:L=[]:=Ah0 N;subst this;exact Pp d s U H _ _ v u Q I t n ⟨a,b,K,rfl,rfl,A▸r.sq,A▸F.sq,p.v f ⟨b,K,rfl,F,w⟩⟩
       refine RI d s U H _ _ v u Q I t n ⟨a,b,q,K,rfl,rfl,A▸r.sq,A▸F.sq,ex,by lia,λe=>?_,λe J D=>p.tup f (m.append w) J D⟩
       .subst e;have:P=[]:=Ah0 O;subst this;rw[Ac4]at p;exact p.v f ⟨a,q,rfl,r,m⟩
      .exact p.j
     .split at p
      .rename_i L P g l;obtain⟨a,q,rfl,r,m⟩:=B.lst f g;obtain⟨b,K,rfl,F,w⟩:=C.lst f l;unfold M.K5 at p;split at p
       .have N:=m.e;have O:=w.e;exact B5 d s U H _ _ v u Q I t n ⟨a,b,q,K,rfl,rfl,A▸r,A▸F,by lia,λJ D=>p.own f (m.append w) J D⟩
       .exact p.j
      .exact p.j
  .--mul
    unfold M.K1 at p;split at p
    .rename_i z j g l;cases B.str g;cases C.int l;split at p
     .rename_i c;rw[M.Gc]at c;refine Dc d s U H _ _ v u Q I t n ⟨_,j,rfl,rfl,c.1,c.2.1,by rw[Qc];exact c.2.2,?_⟩;have e:iL (ar z) j.j=ar (Ab j.j z).Z:=by apply vF;rw[ZD];rfl
      rw[e];exact p.v f rfl
     .exact p.j
    split at p
    .rename_i L j g l;obtain⟨a,q,rfl,r,m⟩:=B.sd f g;cases C.int l;unfold M.KW at p;split at p
     .rename_i c;exact C5 d s U H _ _ v u Q I t n ⟨a,j,q,rfl,rfl,r,by lia,by lia,by rw[←m.e];lia,λJ D=>p.own f (m.rep j.j) J D⟩
     .exact p.j
    .exact p.j
  .exact p.j
noncomputable def fX:M.Cp->CmpOp
|.eq=>.Eq|.ne=>.NotEq|.lt=>.Lt|.le=>.LtE|.gt=>.Gt|.ge=>.GtE|.mem=>.In|.dP=>.j|.kJ=>.Is
def ke(Γ:Ge)(o:M.Cp):R2:=λx y H Q=>∃G h a c b,ag Γ G h H/\aj Γ G H a x/\aj Γ G H c y/\M.Gs o a c h=y0 b/\Q (.K b) H
def EA(e:M.KQ o i j=y0 b)(I:Inv X pins U H s)(a:RelV (.u i) v)(c:RelV (.u j) u)(q:Q (.K b) H):
 wpAny (model X.p X.w) X.A (compareOp (fX o) v u) (EP X pins U Q) X.xe s:=by
 cases o with
|lt=>cases e;exact N0 pins s U H _ _ v u Q I a c ⟨i,j,rfl,rfl,q⟩
|le=>cases e;exact M4 pins s U H _ _ v u Q I a c ⟨i,j,rfl,rfl,q⟩
|gt=>cases e;exact Ci pins s U H _ _ v u Q I a c ⟨i,j,rfl,rfl,q⟩
|ge=>cases e;exact Md pins s U H _ _ v u Q I a c ⟨i,j,rfl,rfl,q⟩
|_=>cases e
def vt(c:M.Kc d e=k9)(o:A.y+150<cLine)(g:RV s.j d u)(i:RV s.j e v):dz A s u v<|M.cw d e:=by
 obtain h|h:=Aj5.j (Af7.j c).2
 .exact BX 150 _ _ A u v (Ag5<|Da h) o g i
 .unfold M.K2 at h;split at h
  .obtain⟨l,b,rfl,f,m⟩:=g;obtain⟨a,n,rfl,p,q⟩:=i;exact Z1 f p m q Y8 λj a c u v r k=>by simp at k
  .obtain⟨l,b,rfl,f,m⟩:=g;obtain⟨a,n,rfl,p,q⟩:=i;exact JK f p m q Y8 λj a c u v r k=>by simp at k
  .cases h
def LD(f:X.K=Γ.K)(m:aB k X.A):bB X (compareOp .Eq)<|ke Γ .eq:=by
 rintro a s U H x y v u Q I n i ⟨G,h,p,o,b,d,j,l,e,q⟩;simp only[M.Gs]at e;split at e
 .rename_i c;cases e;have g:=Af7.j (Af7.j c).1;exact(vt c (by have:=m.un;lia) (j.rv I f d n g.1)<|l.rv I f d i g.2).rc _ _ _ _ ⟨.K _,H,I,rfl,q⟩
 .cases e
def Ca(f:X.K=Γ.K)(m:aB k X.A):bB X (compareOp .NotEq)<|ke Γ .ne:=by
 rintro a s U H x y v u Q I n i ⟨G,h,p,o,b,d,j,l,e,q⟩;simp only[M.Gs]at e;split at e
 .rename_i c;cases e;have g:=Af7.j (Af7.j c).1;exact(vt c (by have:=m.un;lia) (j.rv I f d n g.1)<|l.rv I f d i g.2).ne _ _ _ _ ⟨.K _,H,I,rfl,q⟩
 .cases e
end
def PE.imp (h:PE X e t)(k:∀U H Q,t' U H Q->t U H Q):PE X e t':=λa s U H Q I q=>h a s U H Q I<|k _ _ _ q
def PT.imp (h:PT X e t)(k:∀U H Q,t' U H Q->t U H Q):PT X e t':=λa s U H Q I q=>h a s U H Q I<|k _ _ _ q
def PA.imp (h:PA X e t)(k:∀U H Q,t' U H Q->t U H Q):PA X e t':=λb a s U H Q I q=>h b a s U H Q I<|k _ _ _ q
section
variable{X:Cx}{Γ:Ge}{G:Gh}{H:Hp}{h:M.AH}{pins:List<|Addr×Obj}{U:St}{s:Shared}{Q:VK}{E:XK}
def aW.one (z:aW Γ G H [w] vs):∃v,vs=[v]/\aj Γ G H w v:=by obtain⟨v,r,rfl,b,a⟩:=z;cases(show r=[]from a);exact⟨v,rfl,b⟩
def aW.two (z:aW Γ G H [w,w'] vs):∃v j,vs=[v,j]/\aj Γ G H w v/\aj Γ G H w' j:=by obtain⟨v,r,rfl,c,a⟩:=z;obtain⟨j,rfl,b⟩:=a.one;exact⟨v,j,rfl,c,b⟩
def su(Γ:Ge)(E:XK)(b:M.Bi):List V->Hp->VK->Prop:=λxs H Q=>∃G h a,ag Γ G h H/\aW Γ G H a xs/\aq Γ E G H (M.eO b a h) Q
def nV{K:Aa1}(h:bu K H a vs\/dj K H a vs):bu K H a vs\/dj K H a vs:=h
noncomputable def sP:M.Bi->Value
|.len=>.w "len"|.list=>.p "list"|.tuple=>.p "tuple"|.sum=>.w "sum"|.all=>.w "all"|.any=>.w "any"
|.divmod=>.w "divmod"|.min=>.w "min"
def aq.of2 {f:α->β->M.AH->M.R M.W}(p:aq Γ E G H ((M.R.of h o).j λa h=>(M.R.of h o').j λb h=>f a b h) Q):∃a b,o=y0 a/\o'=y0 b/\aq Γ E G H (f a b h) Q:=by obtain⟨a,e,p⟩:=p.of;obtain⟨b,c,p⟩:=p.of;exact⟨a,b,e,c,p⟩
theorem W7:∀{xs}{vs}{bs},M.KA xs=y0 bs->aa Γ G H xs vs->vs=bs.y V.bl
|[],_,_,e,z=>by cases e;exact z
|x::xs,_,bs,e,z7=>by
  obtain⟨v,r,f,c,d⟩:=z7;subst f;cases x with
|bl b=>obtain⟨g,a,rfl⟩:=Ac6.j<|e;cases(c);rw[W7 a d];rfl
|_=>cases e
theorem A8:∀{xs}{vs}{n},M.Kx xs=y0 n->aa Γ G H xs vs->∃ns:List Int,vs=ns.y V.int/\n=gL ns
|[],_,_,e,z=>by cases e;exact⟨[],z,rfl⟩
|x::xs,_,n,e,z7=>by
  obtain⟨v,r,d,c,a⟩:=z7;subst d;cases x with
|int i=>have e:=e;obtain⟨k,f,rfl⟩:=Ac6.j e;obtain⟨ns,g,b⟩:=A8 f a;cases(c);exact⟨i::ns,by rw[g];rfl,by rw[b];rfl⟩
|_=>cases e
theorem Ju:∀{xs}{vs}{ns},M.GU xs=y0 ns->aa Γ G H xs vs->vs=ns.y V.int
|[],_,_,e,z=>by cases e;exact z
|x::xs,_,ns,e,z7=>by
  obtain⟨v,r,f,c,d⟩:=z7;subst f;cases x with
|int b=>obtain⟨g,a,rfl⟩:=Ac6.j<|e;cases(c);rw[Ju a d];rfl
|_=>cases e
theorem zt:∀{xs}{vs}{ns},M.GC xs=y0 ns->aa Γ G H xs vs->vs=(ns.y ar).y V.str
|[],_,_,e,z=>by cases e;exact z
|x::xs,_,ns,e,z7=>by
  obtain⟨v,r,f,c,d⟩:=z7;subst f;cases x with
|str b=>obtain⟨g,a,rfl⟩:=Ac6.j<|e;cases(show v=.o (ar b)from c);rw[zt a d];rfl
|_=>cases e
theorem Jz:∀(ts:List M.Tx),aa Γ G H (ts.y .o)<|(ts.y ar).y V.str
|[]=>rfl
|t::ts=>⟨_,_,rfl,rfl,Jz ts⟩
theorem uq(x):∀{ys},ys.Pairwise (λa b=>¬b<a)->(M.Kf x ys).Pairwise (λa b=>¬b<a)
|[],_=>Um _ _
|y::ys,h=>by
  have e:=Ai4.j h;unfold M.Kf;split
  .rename_i q;refine Ai4.p ⟨λz d=>?_,uq x e.2⟩;have:z=x\/z∈ys:=by
    have g:∀{x}{ys},z∈M.Kf x ys->z=x\/z∈ys:=by
     intro x ys;induction ys with
|nil=>intro h;simp[M.Kf]at h;exact .p h
|cons y ys f=>
      intro h;unfold M.Kf at h;split at h
      .rcases Aa8.j h with h|h
       .exact .w<|h▸Aa2
       .exact(f h).imp id<|Aa0 _
      .rcases Aa8.j h with h|h
       .exact .p h
       .exact .w h
    exact g d
   rcases this with rfl|d
   .exactλc=>List.lt_irrefl _<|List.lt_trans c q
   .exact e.1 z d
  .rename_i q;refine Ai4.p ⟨λz d=>?_,h⟩;rcases Aa8.j d with rfl|d
   .exact q
   .exact Yj q<|e.1 z d
theorem u4:∀xs:List M.Tx,(M.GH xs).Pairwise<|λa b=>¬b<a
|[]=>.nil
|x::xs=>uq x<|u4 xs
theorem QZ(x):∀ys:List M.Tx,(M.Kf x ys).Perm<|x::ys
|[]=>.refl _
|y::ys=>by
  unfold M.Kf;by_cases q:y<x
  .rw[Fk q];exact((QZ x ys).cons y).trans<|.swap x y ys
  .rw[FB q]
theorem zL:∀xs:List M.Tx,(M.GH xs).Perm xs
|[]=>.refl _
|x::xs=>(QZ x<|M.GH xs).trans<|(zL xs).cons x
theorem yu:∀{l}{p},risingS p l=k9->(p::l).Pairwise (λa b=>¬b.j.p<a.j.p)
|[],p,_=>Um _ _
|x::r,p,h=>by
  have h:(!ltCps x.j.p p.j.p&&risingS x r)=true:=h;rw[Aa6,ltCps_eq]at h;have d:=by simpa using h.1
  have e:=yu h.2;refine Ai4.p ⟨λz c=>?_,e⟩;rcases Aa8.j c with rfl|c
  .exact d
  .exact Yj d<|(Ai4.j e).1 z c
def IL(s):ar s.j.p=s:=by cases s;simp[ar]
def L3(g:ss.Perm<|ts.y ar)(d:sortedS ss=k9):ss=(M.GH ts).y ar:=by
 have c:=by
  have:=g.map<|λs=>s.j.p;rw[Ae5]at this;have e:((λs:Str=>s.j.p)∘ar)=id:=by funext t;simp[ar]
  rw[e,Ys]at this;exact this
 have f:(ss.y λs=>s.j.p).Pairwise<|λa b=>¬b<a:=by
  rw[VL];cases ss with
|nil=>exact .nil
|cons p l=>exact yu d
 rw[←(List.Perm.eq_of_pairwise (λa b _ _ x y=>List.le_antisymm x y) f (u4 ts)<|c.trans (zL ts).symm),Ae5];have e:(ar∘λs:Str=>s.j.p)=id:=by funext t;exact IL t
 rw[e,Ys]
def Hg(ns):∀n:Int,JH (λa b=>u9<|a<b) ns n=ns.a0 (λa b=>if b<a then b else a) n:=by
 induction ns with
|nil=>intro n;rfl
|cons m ns c=>intro n;show JH _ ns _=_;rw[c,Ah5];simp[Pi]
def EB(b)(u:X.K=Γ.K)(J:b≠.len->X.calm=k9):qo X (sP b)<|su Γ E b:=by
 rintro f s U H S t Q I r ⟨G,h,T,g,F,p⟩;have Y:=Xe;unfold M.eO at p;split at p
 .rename_i w;obtain⟨v,rfl,z⟩:=F.one;cases b with
|len=>
   simp only[M.yh]at p;split at p
   .rename_i y e;cases z.str e;split at p
    .exact W0 f s U H _ t Q I r ⟨_,rfl,by rw[Qc];exact Ac ‹_› ‹_›,by rw[Qc];exact p.v g rfl⟩
    .exact p.j
   .obtain⟨C,e,p⟩:=p.of;obtain⟨a,o,rfl,k,m⟩:=z.seq g e;refine jV f s U H _ t Q I r ⟨a,o,rfl,u▸nV k,?_⟩;rw[←m.length];exact p.v g rfl
|list=>obtain⟨C,e,p⟩:=p.of;obtain⟨a,o,rfl,k,m⟩:=z.seq g e;exact xT f s U H _ t Q I r ⟨a,o,rfl,u▸nV k,λl x=>p.own g m l x⟩
|tuple=>
   obtain⟨C,e,D⟩:=p.of;clear p;cases w with
 |v d=>
    cases d with
    |tup K=>cases e;obtain⟨a,o,rfl,k,m⟩:=z;exact Xf f s U H _ t Q I r ⟨a,o,rfl,.w ⟨u▸k.sq,D.v g ⟨a,o,rfl,k,m⟩⟩⟩
    |lst K=>obtain⟨a,o,rfl,k,m⟩:=aj.lst g z e;exact Xf f s U H _ t Q I r ⟨a,o,rfl,.p ⟨u▸k,λl x=>D.tup g m l x⟩⟩
    |ref q=>obtain⟨a,o,rfl,k,m⟩:=aj.lst g z e;exact Xf f s U H _ t Q I r ⟨a,o,rfl,.p ⟨u▸k,λl x=>D.tup g m l x⟩⟩
    |_=>cases e
 |own K=>obtain⟨a,o,rfl,k,m⟩:=aj.lst g z e;exact Xf f s U H _ t Q I r ⟨a,o,rfl,.p ⟨u▸k,λl x=>D.tup g m l x⟩⟩
 |bor K=>obtain⟨a,o,rfl,k,m⟩:=aj.lst g z e;exact Xf f s U H _ t Q I r ⟨a,o,rfl,.p ⟨u▸k,λl x=>D.tup g m l x⟩⟩
|divmod=>exact p.j
|min=>
   obtain⟨n,e,p⟩:=p.of;obtain⟨is,B,A⟩:=Ac0.j e;obtain⟨C,R,N⟩:=Ac0.j B;obtain⟨a,o,rfl,k,m⟩:=aj.lst g z R;cases Ju N m;cases is with
 |nil=>cases A
 |cons i is=>cases A;refine RY (J Y7) f s U H _ t Q I r ⟨a,i,is,rfl,u▸k,?_⟩;rw[Hg];exact p.v g rfl
|sum=>
   obtain⟨n,e,p⟩:=p.of;obtain⟨C,B,A⟩:=Ac0.j e;split at A;rotate_left
   .cases A
   obtain⟨a,o,rfl,k,m⟩:=aj.lst g z B;obtain⟨O,rfl,rfl⟩:=A8 A m;exact NY (J Y7) f s U H _ t Q I r ⟨a,O,rfl,u▸k,p.v g rfl⟩
|all=>obtain⟨bs,e,p⟩:=p.of;obtain⟨C,B,A⟩:=Ac0.j e;obtain⟨a,o,rfl,k,m⟩:=aj.lst g z B;cases W7 A m;exact Bk k9 (J Y7) f s U H _ t Q I r ⟨a,bs,rfl,u▸k,p.v g rfl⟩
|any=>obtain⟨bs,e,p⟩:=p.of;obtain⟨C,B,A⟩:=Ac0.j e;obtain⟨a,o,rfl,k,m⟩:=aj.lst g z B;cases W7 A m;exact Bk y9 (J Y7) f s U H _ t Q I r ⟨a,bs,rfl,u▸k,p.v g rfl⟩
 .rename_i w W;obtain⟨v,V,rfl,z,L⟩:=F.two;obtain⟨i,j,e,P,p⟩:=p.of2;cases z.int e;cases L.int P;cases b with
|divmod=>
   simp[M.yV,M.GJ]at p;split at p
   .rename_i c;exact z9 f s U H _ t Q I r ⟨i,j,rfl,c,λl x=>p.tup g ⟨_,_,rfl,rfl,_,_,rfl,rfl,rfl⟩ l x⟩
   .exact p.j
|_=>exact p.j
 .exact p.j
noncomputable def iE:M.Ty->String
|.ai=>"NoneType"|.bool=>"bool"|.int=>"int"|.str=>"str"|.K=>"list"|.tuple=>"tuple"
def Xu(K):∀u t,t≠.ai->Ak9 K (.p<|iE u) (.p<|iE t)=y0 (M.Ty.le u t):=by
 intro u t a;cases u<;>cases t<;>first|exact absurd rfl a|kernel_rfl
def Lr(Γ:Ge):List V->Hp->VK->Prop:=λxs H Q=>∃G h w x t b,xs=[x,.ty (iE t)]/\t≠.ai/\ag Γ G h H/\aj Γ G H w x/\M.dR t w=y0 b/\Q (.K b) H
def OW(D:X.K=Γ.K):qo X (.w "isinstance")<|Lr Γ:=by
 rintro k s U H L O Q I r ⟨G,h,w,x,t,b,hx,g,R,z,e,q⟩;subst hx;obtain⟨u,P,rfl,j,E⟩:=Z6 r;cases E;have fin:∀tk,EP X k U Q _ {s with toks:=tk}:=λtk=>⟨.K b,H,I.tok tk,rfl,q⟩;have lst:∀{a}{l},x=.j a->Rd H a (.w l)->M.Ty.le .K t=b->wpAny (model X.p X.w) X.A (call (.w "isinstance") [u,.p (iE t)]) (EP X k U Q) X.xe s:=by
  intro a l ex rd J;subst ex J;obtain rd|⟨o,rd⟩:=rd
  .exact wh I j (.lst rd) (Xu _ .K t g) fin
  .exact wh I j (.cS rd) (Xu _ .K t g) fin
 cases w with
|v d=>
  cases d with
 |ai=>cases e;cases(z);exact wh I j .ai (Xu _ .ai t g) fin
 |bl c=>cases e;cases(z);exact wh I j (.bl c) (Xu _ .bool t g) fin
 |int i=>cases e;cases(z);exact wh I j (.int i) (Xu _ .int t g) fin
 |str y=>cases e;cases(z);exact wh I j (.str _) (Xu _ .str t g) fin
 |tup B=>
   cases e;obtain⟨a,l,rfl,f,F⟩:=z;obtain⟨_,f⟩|⟨o,C,n,p,A,K,_⟩:=f
   .exact wh I j (.tup f) (Xu _ .tuple t g) fin
   .cases j;exact Ae7 Vm I.bg ⟨o,I.bg a o<|D▸p,A⟩ (Xu _ .tuple t g) (λz=>nomatch z) fin
 |lst B=>
   cases e;obtain⟨a,l,m,f,F⟩:=z;obtain f|⟨o,C,n,p,A,K,_⟩:=f
   .exact lst m f.2 rfl
   .subst m;cases j;exact Ae7 Am4 I.bg ⟨o,I.bg a o<|D▸p,A⟩ (Xu _ .K t g) (λz=>nomatch z) fin
 |ref N=>cases e
 |exc c fs=>cases e
 |err _ _ _=>cases e
|own B=>cases e;obtain⟨a,l,m,_,_,f,_⟩:=z;exact lst m (.p f) rfl
|bor B=>cases e;obtain⟨a,l,m,_,f,_⟩:=z;exact lst m f rfl
def og(z:aj Γ G H w x)(e:M.GV w=y0 b):lM x b:=by
 cases w with
|v d=>cases d<;>cases e<;>cases z<;>rfl
|_=>cases e
end
abbrev zc(x:String):Str:=Str.ofString x
example:("len":Str)=zc "len":=rfl
structure oZ where
 fl:List<|String×String
 mt:List<|String×String×String
 eh:List<|String×String
 ms:List String
 er:List<|String×String
structure Cg where
 fns:List String
 own:List String
 gs:List String
 d4:List String
 ob:oZ
 cb:Bool
 qf:List String
 qh:List String
 uh:Bool
open Lake renaming MS.Cg.own->Lake.MS.Cg.j,MS.Cg.fns->Lake.MS.Cg.w,MS.Cg.ob->Lake.MS.Cg.y
structure Cf extends Cg where
 sc:Scope
 N:List Str
open Lake renaming MS.Cf.sc->Lake.MS.Cf.p
noncomputable def Cg.q (g:Cg):Cg:=⟨g.qf,g.j,[],[],⟨g.y.fl,[],[],[],[]⟩,y9,[],[],y9⟩
noncomputable def Cg.z (g:Cg):Cg:=⟨[],g.j,[],[],⟨g.y.fl,[],[],[],[]⟩,y9,[],[],y9⟩
noncomputable def Cg.h (g:Cg):Cg:=⟨[],g.j,[],[],⟨g.y.fl,[],[],[],[]⟩,y9,[],[],k9⟩
noncomputable def eI(a:Scope)(x:Str):Bool:=match a.j.p x with
|some .local=>k9
|some .w=>k9
|some .C=>k9
|_=>y9
noncomputable def iK(a:Scope)(x:Str):Bool:=match a.j.p x with
|some .globalImplicit=>k9
|_=>y9
noncomputable def kI(a:Scope)(x:Str):Bool:=match a.j.p x with
|some .local=>k9
|some .w=>k9
|_=>y9
noncomputable def dJ(x:Str):Bool:=!(x==("__debug__":Str))&&!(x==("__classdict__":Str))
noncomputable def pF:M.Bi->String
|.len=>"len"|.list=>"list"|.tuple=>"tuple"|.sum=>"sum"|.all=>"all"|.any=>"any"|.divmod=>"divmod"|.min=>"min"
noncomputable def bF:List String:=["len","int","list","tuple","sum","all","any","sorted","divmod","str","min","max","abs","isinstance","bool","range","reversed","zip","enumerate","set","dict","ValueError"]
noncomputable def ph:Expr->Str->Bool
|.p y _,x=>y==x
|_,_=>y9
def aY(a:Scope)(x:String)(e:Expr):Bool:=ph e (zc x)&&iK a (zc x)&&dJ (zc x)
noncomputable def vJ:M.Mt->String
|.index=>"index"|.join=>"join"|.starts=>"startswith"|.dh=>"index"|.part=>"partition"
noncomputable def Wo:Expr->Bool
|.w _ [] _ _=>y9
|_=>k9
noncomputable def zq(cf:Cf):List Nat->List Expr->Bool
|[],[]=>k9
|i::is,.p x _::es=>u9 (cf.N[i]?=y0 x)&&kI cf.p x&&zq cf is es
|_,_=>y9
def ip(cf:Cf)(x:String)(e:Expr):Bool:=cf.cb&&aY cf.p x e
def xY(cf:Cf)(is:List Nat)(es:List Expr):Bool:=cf.cb&&zq cf is es
def pN(cf:Cf)(is:List Nat)(es:List Expr):Bool:=(cf.cb||cf.uh)&&zq cf is es
def uP(cf:Cf)(b:M.Bi)(e:Expr):Bool:=(cf.cb||u9 (b=.len))&&aY cf.p (pF b) e
def Qe(cf:Cf)(tg:List Nat)(one:Bool)(e:Expr):Bool:=match one,e with
|true,.p x p=>(match tg with|[_]=>k9|_=>y9)&&zq cf tg [.p x p]
|false,.L es _ _=>xY cf tg es
|_,_=>y9
def Qa:Expr->Bool
|.Starred ..=>y9
|_=>k9
noncomputable def Wb:Expr->Bool
|.Slice ..=>y9
|_=>k9
def Je:Expr->Bool
|.Set ..=>y9
|_=>k9
noncomputable def qD(cf:Cf):List Nat->List Str->Bool
|[],[]=>k9
|j::a,x::xs=>u9 (cf.N[j]?=y0 x)&&u9 (cf.p.j.p x=y0 .w\/cf.p.j.p x=y0 .C)&&qD cf a xs
|_,_=>y9
def j9(cf:Cf)(a:Scope)(N:List Str)(k:Nat)(az:List Nat):Bool:=
 cf.cb&&u9 (a.p=.j)&&u9 (a.j.y Prod.fst).N&&a.j.T (λy=>u9<|y.2=.local->a.j.p y.1=y0 .local)&&
 a.j.T (λy=>u9<|y.2=.C->cf.p.j.p y.1=y0 .w\/cf.p.j.p y.1=y0 .C)&&(N.L k).T (λx=>u9<|a.j.p x=y0 .C)&&
 qD cf az (N.L k)&&u9 (k<=N.e)&&decide N.N&&decide az.N
noncomputable def Pa:Expr->List Str
|.p x _=>[x]
|.L es _ _=>es.X λ|.p x _=>y0 x|_=>u0
|_=>[]
def xt(cf:Cf)(t:Expr)(az:List Nat):List Str:=Pa t++az.X λj=>cf.N[j]?
noncomputable def f6:M.E->Bool
|.a6 _=>y9
|.cS _=>y9
|.not a=>f6 a
|.and a b=>f6 a&&f6 b
|.or a b=>f6 a&&f6 b
|_=>k9
noncomputable def fN(neg:Bool):CmpOp:=if neg then .j else .In
def aT{P:Prop}(h:y9=k9):P:=nomatch h
set_option backward.match.sparseCases false
noncomputable def lC{a:Type}(l:List a)(f:a->List a->Bool):Bool:=match l with
|x::r=>f x r
|_=>y9
noncomputable def oS{a:Type}(l:Option a)(f:a->Bool):Bool:=match l with
|some x=>f x
|_=>y9
@[elab_as_elim]theorem kC{P:List α->Prop}(k:∀x r,f x r=k9->P (x::r)):∀l,lC l f=k9->P l:=by rintro(_|_)<;>first|exact aT|exact k _ _
@[elab_as_elim]theorem kS{P:Option α->Prop}(k:∀x,f x=k9->P (y0 x)):∀l,oS l f=k9->P l:=by rintro(_|_)<;>first|exact aT|exact k _
noncomputable def xr(e:Expr)(f:Str->Bool):Bool:=match e with
|.p x _=>f x
|_=>y9
@[elab_as_elim]theorem jq{P:Expr->Prop}(k:∀x p,f x=k9->P (.p x p)):∀e,xr e f=k9->P e:=by rintro(_|_)<;>first|exact aT|exact k _ _
def Wj(e:Expr)(f:Const->Bool):Bool:=match e with
|.y x _ _=>f x
|_=>y9
@[elab_as_elim]theorem Jl{P:Expr->Prop}(k:∀x n p,f x=k9->P (.y x n p)):∀e,Wj e f=k9->P e:=by rintro(_|_)<;>first|exact aT|exact k _ _ _
def lG(e:Expr)(f:List Expr->Bool):Bool:=match e with
|.L x _ _=>f x
|_=>y9
@[elab_as_elim]theorem mP{P:Expr->Prop}(k:∀x n p,f x=k9->P (.L x n p)):∀e,lG e f=k9->P e:=by rintro(_|_)<;>first|exact aT|exact k _ _ _
def tO(e:Expr)(f:List Expr->Bool):Bool:=match e with
|.List x _=>f x
|_=>y9
@[elab_as_elim]theorem Hw{P:Expr->Prop}(k:∀x p,f x=k9->P (.List x p)):∀e,tO e f=k9->P e:=by rintro(_|_)<;>first|exact aT|exact k _ _
noncomputable def sL(e:Expr)(f:Expr->Operator->Expr->Bool):Bool:=match e with
|.BinOp x o y _=>f x o y
|_=>y9
@[elab_as_elim]theorem R7{P:Expr->Prop}(k:∀x o y p,f x o y=k9->P (.BinOp x o y p)):∀e,sL e f=k9->P e:=by rintro(_|_)<;>first|exact aT|exact k _ _ _ _
noncomputable def kA(e:Expr)(f:Expr->List CmpOp->List Expr->Bool):Bool:=match e with
|.G x o y _=>f x o y
|_=>y9
@[elab_as_elim]theorem kL{P:Expr->Prop}(k:∀x o y p,f x o y=k9->P (.G x o y p)):∀e,kA e f=k9->P e:=by rintro(_|_)<;>first|exact aT|exact k _ _ _ _
noncomputable def nh(e:Expr)(f:UnaryOp->Expr->Bool):Bool:=match e with
|.M o x _=>f o x
|_=>y9
@[elab_as_elim]theorem rB{P:Expr->Prop}(k:∀o x p,f o x=k9->P (.M o x p)):∀e,nh e f=k9->P e:=by rintro(_|_)<;>first|exact aT|exact k _ _ _
noncomputable def rm(e:Expr)(f:BoolOp->List Expr->Pos->Bool):Bool:=match e with
|.C o x p=>f o x p
|_=>y9
@[elab_as_elim]theorem yg{P:Expr->Prop}(k:∀o x p,f o x p=k9->P (.C o x p)):∀e,rm e f=k9->P e:=by rintro(_|_)<;>first|exact aT|exact k _ _ _
noncomputable def Zd(e:Expr)(f:Expr->List Expr->List Keyword->Pos->Bool):Bool:=match e with
|.w g x l p=>f g x l p
|_=>y9
@[elab_as_elim]theorem Wc{P:Expr->Prop}(k:∀g x l p,f g x l p=k9->P (.w g x l p)):∀e,Zd e f=k9->P e:=by rintro(_|_)<;>first|exact aT|exact k _ _ _ _
def f9(e:Expr)(f:Expr->Expr->Bool):Bool:=match e with
|.B x y _=>f x y
|_=>y9
@[elab_as_elim]theorem g9{P:Expr->Prop}(k:∀x y p,f x y=k9->P (.B x y p)):∀e,f9 e f=k9->P e:=by rintro(_|_)<;>first|exact aT|exact k _ _ _
noncomputable def o5(e:Expr)(f:Option Expr->Option Expr->Option Expr->Bool):Bool:=match e with
|.Slice x y z _=>f x y z
|_=>y9
@[elab_as_elim]theorem Bq{P:Expr->Prop}(k:∀x y z p,f x y z=k9->P (.Slice x y z p)):∀e,o5 e f=k9->P e:=by rintro(_|_)<;>first|exact aT|exact k _ _ _ _
noncomputable def uy(e:Expr)(f:Expr->List Comprehension->Scope->Bool):Bool:=match e with
|.K y g s _=>f y g s
|_=>y9
@[elab_as_elim]theorem uw{P:Expr->Prop}(k:∀y g s p,f y g s=k9->P (.K y g s p)):∀e,uy e f=k9->P e:=by rintro(_|_)<;>first|exact aT|exact k _ _ _ _
noncomputable def Xo(e:Expr)(f:Expr->Str->Pos->Bool):Bool:=match e with
|.j x n p=>f x n p
|_=>y9
@[elab_as_elim]theorem xq{P:Expr->Prop}(k:∀x n p,f x n p=k9->P (.j x n p)):∀e,Xo e f=k9->P e:=by rintro(_|_)<;>first|exact aT|exact k _ _ _
noncomputable def uj(e:Expr)(f:List Expr->Bool):Bool:=match e with
|.JoinedStr x _=>f x
|_=>y9
@[elab_as_elim]theorem Mp{P:Expr->Prop}(k:∀x p,f x=k9->P (.JoinedStr x p)):∀e,uj e f=k9->P e:=by rintro(_|_)<;>first|exact aT|exact k _ _
noncomputable def Bo(e:Expr)(f:Expr->Int->Option Expr->Bool):Bool:=match e with
|.FormattedValue x c z _=>f x c z
|_=>y9
@[elab_as_elim]theorem Ct{P:Expr->Prop}(k:∀x c z p,f x c z=k9->P (.FormattedValue x c z p)):∀e,Bo e f=k9->P e:=by rintro(_|_)<;>first|exact aT|exact k _ _ _ _
noncomputable def pX(e:Expr)(f:List (Option Expr)->List Expr->Bool):Bool:=match e with
|.Dict x y _=>f x y
|_=>y9
@[elab_as_elim]theorem uJ{P:Expr->Prop}(k:∀x y p,f x y=k9->P (.Dict x y p)):∀e,pX e f=k9->P e:=by rintro(_|_)<;>first|exact aT|exact k _ _ _
noncomputable def eU(e:Stmt)(f:List Expr->Expr->Bool):Bool:=match e with
|.j t v _=>f t v
|_=>y9
@[elab_as_elim]theorem fQ{P:Stmt->Prop}(k:∀t v p,f t v=k9->P (.j t v p)):∀e,eU e f=k9->P e:=by rintro(_|_)<;>first|exact aT|exact k _ _ _
def km(e:Stmt)(f:Expr->Bool):Bool:=match e with
|.Expr v _=>f v
|_=>y9
@[elab_as_elim]theorem lg{P:Stmt->Prop}(k:∀v p,f v=k9->P (.Expr v p)):∀e,km e f=k9->P e:=by rintro(_|_)<;>first|exact aT|exact k _ _
noncomputable def me(e:Stmt)(f:Option Expr->Bool):Bool:=match e with
|.p v _=>f v
|_=>y9
@[elab_as_elim]theorem nc{P:Stmt->Prop}(k:∀v p,f v=k9->P (.p v p)):∀e,me e f=k9->P e:=by rintro(_|_)<;>first|exact aT|exact k _ _
def vG(e:Stmt)(f:Expr->List Stmt->List Stmt->Bool):Bool:=match e with
|.If x y z _=>f x y z
|_=>y9
@[elab_as_elim]theorem Ft{P:Stmt->Prop}(k:∀x y z p,f x y z=k9->P (.If x y z p)):∀e,vG e f=k9->P e:=by rintro(_|_)<;>first|exact aT|exact k _ _ _ _
def uL(e:Stmt)(f:Expr->List Stmt->List Stmt->Bool):Bool:=match e with
|.While x y z _=>f x y z
|_=>y9
@[elab_as_elim]theorem Ro{P:Stmt->Prop}(k:∀x y z p,f x y z=k9->P (.While x y z p)):∀e,uL e f=k9->P e:=by rintro(_|_)<;>first|exact aT|exact k _ _ _ _
noncomputable def yL(e:Stmt)(f:Expr->Expr->List Stmt->List Stmt->Bool):Bool:=match e with
|.For t i y z _=>f t i y z
|_=>y9
@[elab_as_elim]theorem R6{P:Stmt->Prop}(k:∀t i y z p,f t i y z=k9->P (.For t i y z p)):∀e,yL e f=k9->P e:=by rintro(_|_)<;>first|exact aT|exact k _ _ _ _ _
noncomputable def n6(e:Stmt)(f:Option Expr->Option Expr->Bool):Bool:=match e with
|.w x y _=>f x y
|_=>y9
@[elab_as_elim]theorem rk{P:Stmt->Prop}(k:∀x y p,f x y=k9->P (.w x y p)):∀e,n6 e f=k9->P e:=by rintro(_|_)<;>first|exact aT|exact k _ _ _
set_option backward.match.sparseCases true
def vB(cf:Cf)(i:Nat)(x:Str):Bool:=u9 (cf.N[i]?=y0 x)&&eI cf.p x&&dJ x
noncomputable def kZ{a:Type}(l:List a)(b:Bool):Bool:=l.K&&b
noncomputable def n0(e:Stmt)(f:List Stmt->List ExceptHandler->Bool):Bool:=match e with
|.Try a b c d _=>kZ c<|kZ d<|f a b
|_=>y9
noncomputable def oa(e:ExceptHandler)(f:Option Expr->Option Str->List Stmt->Bool):Bool:=match e with
|.j a b c _=>f a b c
noncomputable def mJ(cf:Cf):List (M.Tx⊕Nat)->List Expr->Bool
|[],l=>l.K
|.p t::ps,l=>lC l λe es=>Wj e λc=>u9 (c=.o (ar t))&&mJ cf ps es
|.w i::ps,l=>lC l λe es=>Bo e λx c z=>u9 (c=-1)&&z.w&&xr x (vB cf i)&&mJ cf ps es
noncomputable def we:Expr->Bool
|.L ..=>y9
|_=>k9
def xJ:M.It->Expr->Bool
|.p _,e=>!we e
|.zip _ _,e=>!we e
|_,_=>k9
mutual
noncomputable def wb(cf:Cf):M.E->Expr->Bool
|.var i,e=>xr e<|vB cf i
|.con c,e=>aY cf.p c e
|.int i,e=>Wj e λj=>u9<|j=.int i
|.bl i,e=>Wj e λj=>u9<|j=.bool i
|.ai,e=>Wj e λj=>u9<|j=.y
|.str i,e=>Wj e λj=>u9<|j=.o (ar i)
|.tup es,e=>lG e λxs=>u9 (xs.e<=1000)&&aO cf es xs
|.lst es,e=>tO e λxs=>u9 (xs.e<=1000)&&aO cf es xs
|.bin o a b,e=>sL e λx p y=>u9 (p=mS o)&&wb cf a x&&wb cf b y
|.cmp o a b,e=>kA e λx p y=>lC y λy r=>u9 (p=[fX o]/\r=[])&&Je y&&wb cf a x&&wb cf b y
|.a4 o q a b c,e=>kA e λx p y=>lC y λy r=>lC r λz r=>u9 (p=[fX o,fX q]/\r=[])&&Je z&&wb cf a x&&wb cf b y&&wb cf c z
|.eT neg a,e=>kA e λx p y=>lC y λy r=>Wj y λj=>u9 (p=[if neg then .IsNot else .Is]/\r=[])&&u9 (j=.y)&&wb cf a x
|.neg a,e=>nh e λo x=>u9 (o=.USub)&&wb cf a x
|.inv a,e=>nh e λo x=>u9 (o=.Invert)&&wb cf a x
|.not a,e=>nh e λo x=>u9 (o=.Not)&&wb cf a x
|.and a b,e=>rm e λo x p=>lC x λx r=>lC r λy r=>u9 (o=.And)&&wb cf a x&&bif r.K then wb cf b y else wb cf b<|.C .And (y::r) p
|.or a b,e=>rm e λo x p=>lC x λx r=>lC r λy r=>u9 (o=.Or)&&wb cf a x&&bif r.K then wb cf b y else wb cf b<|.C .Or (y::r) p
|.j f es,e=>Zd e λg xs l _=>kZ l<|lC xs λx r=>aY cf.p f g&&cf.w.w f&&aO cf es (x::r)
|.bi b es,e=>Zd e λg xs l _=>kZ l<|lC xs λx r=>uP cf b g&&aO cf es (x::r)
|.dR a t,e=>Zd e λg xs l _=>kZ l<|lC xs λx r=>lC r λy r=>kZ r<|aY cf.p "isinstance" g&&aY cf.p (iE t) y&&decide (t≠.ai)&&Qa x&&wb cf a x
|.bO a one ts,e=>Zd e fun g xs l _=>kZ l<|lC xs fun x r=>lC r fun y r=>kZ r<|aY cf.p "isinstance" g&&Qa x&&wb cf a x&&(one&&lC ts fun t r=>kZ r<|aY cf.p t y&&(decide (t="ValueError")||cf.j.w t))
|.ix a b,e=>f9 e λx y=>Wb y&&wb cf a x&&wb cf b y
|.fT a lo,e=>f9 e λx y=>o5 y λl u z=>oS l λl=>u.w&&z.w&&wb cf a x&&wb cf lo l
|.eC a hi,e=>f9 e λx y=>o5 y λl u z=>oS u λu=>l.w&&z.w&&wb cf a x&&wb cf hi u
|.M tg one k az it y7 c elt,e=>uy e λy g scope=>lC g λg r=>
  u9 (g.is_async=0/\r=[])&&j9 cf scope (xt cf g.target az) k az&&tg.T (λi=>u9<|i<k)&&Qe {cf with sc:=scope,N:=xt cf g.target az} tg one g.target&&(xJ it g.target&&dG cf it g.iter)&&wb {cf with sc:=scope,N:=xt cf g.target az} elt y&&
   bif y7 then(lC g.ifs λz r=>kZ r<|f6 c&&wb {cf with sc:=scope,N:=xt cf g.target az} c z)else g.ifs.K
|.dH,e=>pX e λx y=>x.K&&y.K
|.dA,e=>pX e λx y=>x.K&&y.K
|.cQ neg a i,e=>kA e λx p y=>lC y λy r=>xr y λy=>u9 (p=[fN neg]/\r=[])&&vB cf i y&&wb cf a x
|.a6 a,e=>wb cf a e
|.cS a,e=>wb cf a e
|.cO a,e=>Zd e λg xs l _=>kZ l<|lC xs λx r=>kZ r<|Zd x λg2 xs l _=>kZ l<|lC xs λx r=>kZ r<|ip cf "len" g&&aY cf.p "set" g2&&Qa x&&wb cf a x
|.dF a,e=>Zd e λg xs l _=>kZ l<|lC xs λx r=>kZ r<|Zd x λg2 xs l _=>kZ l<|lC xs λx r=>kZ r<|ip cf "len" g&&aY cf.p "set" g2&&Qa x&&wb cf a x
|.bY a,e=>Zd e λg xs l _=>kZ l<|lC xs λx r=>kZ r<|Zd x λg2 xs l _=>kZ l<|lC xs λx r=>kZ r<|ip cf "list" g&&aY cf.p "range" g2&&Qa x&&wb cf a x
|.i8 s ts,e=>Zd e λg xs l q=>kZ l<|lC xs λx r=>kZ r<|Xo g λo n p=>Wj o λc=>Wj x λc2=>decide (n=zc "split")&&decide (c=.o (ar s))&&decide (c2=.o bh)&&(p.j==q.p)&&nA (ar s) (ts.y ar)
|.c8 a,e=>Zd e λg xs l _=>kZ l<|lC xs λx r=>kZ r<|aY cf.p "sorted" g&&Qa x&&wb cf a x
|.cW m a es,e=>Zd e λg xs l q=>kZ l<|lC xs λx r=>kZ r<|Xo g λo n p=>u9 (n=zc (vJ m))&&(p.j==q.p)&&Wo o&&wb cf a o&&aO cf es [x]
|.gp c a,e=>f9 e λg y=>aY cf.p c g&&Wb y&&wb cf a y
|.fE c es,e=>Zd e λg xs l q=>kZ l<|lC xs λx r=>lC r λy r=>kZ r<|Xo g λg n p=>aY cf.p c g&&u9 (n=zc "get")&&(p.j==q.p)&&aO cf es [x,y]
|.dO ps,e=>uj e λxs=>lC xs λx r=>lC r λy r=>mJ cf ps<|x::y::r
|.cU a,e=>Zd e λg xs l _=>kZ l<|lC xs λx r=>kZ r<|aY cf.p "str" g&&Qa x&&wb cf a x
|.cm a,e=>Zd e λg xs l _=>kZ l<|lC xs λx r=>kZ r<|aY cf.p "int" g&&Qa x&&wb cf a x
|.xf i f,e=>Xo e λx n _=>xr x λx=>vB cf i x&&u9 (n=zc f)
|.make c q es,e=>Zd e λg ys l _=>kZ l<|aY cf.p c g&&cf.y.eh.w (c,q)&&aO cf es ys
|.aM a c f,e=>Xo e λx n _=>u9 (n=zc f)&&cf.y.fl.w (c,f)&&Wo x&&wb cf a x
|.aI a c m q es,e=>Zd e λg ys l s=>kZ l<|Xo g λx n p=>u9 (n=zc m)&&cf.y.mt.w (c,m,q)&&(p.j==s.p)&&u9 (ys.e<=20)&&Wo x&&wb cf a x&&aO cf es ys
|.fe a,e=>Zd e λg ys l s=>kZ l<|kZ ys<|Xo g λx n p=>u9 (n=zc "bit_length")&&(p.j==s.p)&&Wo x&&wb cf a x
|.lh o a,e=>f9 e λg y=>Wb y&&wb cf o g&&wb cf a y
|.eJ neg a o,e=>kA e λx p y=>lC y λy r=>u9 (p=[fN neg]/\r=[])&&Je y&&wb cf a x&&wb cf o y
|.iZ neg c a,e=>kA e λx p y=>lC y λy r=>u9 (p=[fN neg]/\r=[])&&aY cf.p c y&&wb cf a x
|.eA two a,e=>Zd e fun g xs l q=>kZ l<|Xo g fun o n p=>lC xs fun x r=>Wj x fun c=>decide (n=zc "split")&&decide (c=.o bh)&&(p.j==q.p)&&Wo o&&(wb cf a o&&bif two then(lC r fun y r=>kZ r<|Wj y fun c=>decide<|c=.int 2)else r.K)
|.fi f a,e=>Zd e λg ys l _=>lC ys λx r=>kZ r<|lC l λw r=>kZ r<|u9 (w.arg=y0 (zc "key"))&&aY cf.p f w.value&&cf.w.w f&&ip cf "min" g&&Qa x&&wb cf a x
noncomputable def aO(cf:Cf):M.Es->List Expr->Bool
|.p,xs=>xs.K
|.j e es,xs=>lC xs λx xs=>Qa x&&wb cf e x&&aO cf es xs
noncomputable def dG(cf:Cf):M.It->Expr->Bool
|.seq a,e=>Je e&&wb cf a e
|.aA a,e=>Zd e λg xs l _=>kZ l<|lC xs λx r=>kZ r<|aY cf.p "range" g&&Qa x&&wb cf a x
|.zip a b,e=>Zd e λg xs l _=>kZ l<|lC xs λx r=>lC r λy r=>kZ r<|aY cf.p "zip" g&&Qa x&&Qa y&&wb cf a x&&wb cf b y
|.p _,_=>y9
end
noncomputable def Jm:Expr->Bool
|.K ..=>y9
|.SetComp ..=>y9
|.DictComp ..=>y9
|_=>k9
noncomputable def pG(cf:Cf)(i:Nat)(x:Str):Bool:=u9 (cf.N[i]?=y0 x)&&u9 (cf.p.j.p x=y0 .local)
def Qz(cf:Cf)(i:Nat)(x:Str):Bool:=u9 (cf.N[i]?=y0 x)&&kI cf.p x
def WT(cf:Cf)(i:Nat)(m:Str)(e:Expr)(a:Pos):Bool:=Xo e λx n p=>xr x λx=>vB cf i x&&u9 (n=m)&&(p.j==a.p)
def rJ(cf:Cf):M.It->Expr->Bool
|.seq a,e=>Je e&&wb cf a e
|.aA a,e=>dG cf (.aA a) e
|.zip a b,e=>dG cf (.zip a b) e
|.p a,e=>Zd e λg xs l _=>kZ l<|lC xs λx r=>kZ r<|aY cf.p "enumerate" g&&Qa x&&wb cf a x
noncomputable def Cr:Expr->Bool
|.p _ _=>k9
|.B _ _ _=>k9
|_=>y9
def BL(cf:Cf)(c:String)(nm:Nat)(a:List ExceptHandler)(q:List Stmt->Bool):Bool:=lC a λx r=>kZ r<|oa x λw n b=>oS w λw=>oS n λn=>aY cf.p c w&&cf.d4.w c&&pG cf nm n&&!b.K&&q b
def uG(cf:Cf)(c:String)(t:M.Tx)(a:List ExceptHandler):Bool:=lC a λx r=>kZ r<|oa x λw n b=>oS w λw=>lC b λs r=>kZ r<|me s λv=>oS v λv=>Wj v λj=>n.w&&aY cf.p c w&&cf.d4.w c&&u9 (j=.o (ar t))
noncomputable def r4(cf:Cf)(f:String)(ys:List Stmt)(q:List Expr->Bool):Bool:=lC ys λs r=>kZ r<|me s λv=>oS v λe=>Zd e λg xs l _=>kZ l<|lC xs λx r=>aY cf.p f g&&cf.w.w f&&q (x::r)
def pb(cf:Cf)(c k h d:String)(e:List ExceptHandler)(q:List Expr->Bool):Bool:=lC e λx r=>kZ r<|oa x λw n b=>oS w λw=>lC b λs r=>kZ r<|n6 s λa z=>oS a λa=>oS z λz=>Wj z λj=>Zd a λg xs l _=>kZ l<|lC xs λy r=>kZ r<|n.w&&u9 (j=.y)&&aY cf.p c w&&cf.d4.w c&&(aY cf.p k g&&(cf.cb&&cf.y.er.w (k,h))&&(Zd y λf ys i _=>kZ i<|lC ys λm r=>aY cf.p d f&&cf.qh.w d&&q (m::r)))
mutual
noncomputable def yp(cf:Cf):M.S->Stmt->Bool
|.set i e,st=>eU st λts v=>lC ts λt r=>xr t λx=>kZ r<|Qz cf i x&&wb cf e v
|.ae i e,st=>eU st λts v=>lC ts λt r=>xr t λx=>kZ r<|Qz cf i x&&wb cf e v
|.dw is e,st=>eU st λts v=>lC ts λt r=>lG t λts=>kZ r<|pN cf is ts&&we v&&wb cf e v
|.d7 i kx e,st=>eU st λts v=>lC ts λt r=>f9 t λx y=>xr x λx=>kZ r<|vB cf i x&&Wb y&&we v&&Jm v&&wb cf kx y&&wb cf e v
|.gC o kx j e,st=>eU st λts v=>lC ts λt r=>kZ r<|lG t λts=>lC ts λt1 r=>lC r λt2 r=>kZ r<|f9 t1 λx y=>xr t2 λa=>Wb y&&we v&&(cf.cb&&Qz cf j a)&&wb cf o x&&(wb cf kx y&&wb cf e v)
|.bN o kx e,st=>eU st λts v=>lC ts λt r=>f9 t λx y=>kZ r<|Wb y&&we v&&Jm v&&wb cf o x&&wb cf kx y&&wb cf e v
|.app i e,st=>km st λc=>Zd c λf xs l p=>kZ l<|lC xs λv r=>kZ r<|WT cf i "append" f p&&Qa v&&wb cf e v
|.ext i e,st=>km st λc=>Zd c λf xs l p=>kZ l<|lC xs λv r=>kZ r<|WT cf i "extend" f p&&Qa v&&wb cf e v
|.b9 i c f e,st=>eU st λts v=>lC ts λt r=>Xo t λx n _=>xr x λx=>kZ r<|vB cf i x&&(u9 (n=zc f)&&cf.y.fl.w (c,f)&&wb cf e v)
|.gb is e,st=>eU st λts v=>lC ts λt r=>lG t λes=>kZ r<|xY cf is es&&we v&&wb cf e v
|.ef i e,st=>eU st λts v=>lC ts λt r=>f9 t λx y=>xr x λx=>kZ r<|vB cf i x&&Wb y&&we v&&Jm v&&wb cf e y&&wb cf (.bl k9) v
|.fP a e,st=>km st λc=>Zd c λf xs l p=>kZ l<|lC xs λv r=>kZ r<|Xo f λx n q=>u9 (n="append")&&(q.j==p.p)&&Qa v&&wb cf a x&&(wb cf e v&&Cr x)
|.ex e,st=>km st λv=>Jm v&&wb cf e v
|.ret e,st=>me st λv=>oS v λv=>wb cf e v
|.iff c a b,st=>vG st λx ys zs=>f6 c&&wb cf c x&&cK cf a ys&&cK cf b zs
|.fm _ c b,st=>uL st λx ys zs=>kZ zs<|f6 c&&wb cf c x&&cK cf b ys
|.for tg one it b,st=>yL st λt iter ys zs=>kZ zs<|(cf.cb&&xJ it t)&&Qe cf tg one t&&rJ cf it iter&&cK cf b ys
|.bx c f e,st=>n6 st λa b=>oS a λa=>Zd a λg xs l _=>kZ l<|lC xs λx r=>kZ r<|b.w&&aY cf.p c g&&(cf.cb&&cf.y.er.w (c,f))&&aO cf (.j e .p) [x]
|.raise c es,st=>n6 st λa b=>oS a λa=>Zd a λg xs l _=>kZ l<|lC xs λx r=>b.w&&aY cf.p c g&&(cf.cb&&cf.gs.w c)&&u9 ((x::r).e<=1000)&&aO cf es (x::r)
|.gv f es c k fl g es2,st=>n0 st λb hs=>r4 cf f b (λxs=>aO cf es xs)&&pb cf c k fl g hs (λxs=>aO {cf with toCg:=cf.toCg.q} es2 xs)
|.dD o kx e,st=>eU st λts v=>lC ts λt r=>f9 t λx y=>kZ r<|Wb y&&wb cf o x&&wb cf kx y&&wb cf e v
|.et o kx,st=>km st λc=>Zd c λf xs l p=>kZ l<|lC xs λx r=>kZ r<|Xo f λy n q=>u9 (n="pop")&&(q.j==p.p)&&Wo y&&Qa x&&(wb cf o y&&wb cf kx x)
|.fM o c m q es k nm hb,st=>n0 st λb hs=>lC b λs r=>kZ r<|km s λe=>Zd e λg ys l s=>kZ l<|Xo g λx n p=>lC ys λy ys=>u9 (n=zc m)&&cf.y.mt.w (c,m,q)&&(p.j==s.p)&&u9 ((y::ys).e<=20)&&(Wo x&&wb cf o x&&aO cf es (y::ys)&&BL cf k nm hs (λz=>cK {cf with toCg:=cf.toCg.q} hb z))
|.ft is f es e k t,st=>n0 st λb hs=>lC b λs r=>lC r λs2 r=>kZ r<|eU s λts v=>lC ts λtg r=>kZ r<|lG tg λts=>Zd v λg xs l _=>kZ l<|lC xs λx r=>me s2 λv2=>oS v2 λv2=>xY cf is ts&&aY cf.p f g&&cf.w.w f&&aO cf es (x::r)&&(wb cf e v2&&uG cf k t hs)
|.aZ i c f e,st=>eU st λts v=>lC ts λt r=>Xo t λx n _=>xr x λx=>kZ r<|vB cf i x&&u9 (n=zc f)&&cf.y.fl.w (c,f)&&wb cf e v
|.ah,_=>k9
noncomputable def cK(cf:Cf):M.Ss->List Stmt->Bool
|.nil,sts=>sts.K
|.cons s ss,sts=>lC sts λst sts=>yp cf s st&&cK cf ss sts
end
structure vf(X:Cx)(k:Nat)(x:Str)(ps:List Str)(sp:Sp):Prop where
 ex:∃f fd,aX X.p X.w X.K X.mg X.base (bc X.p X.w) k f fd ps sp/\Binds X.K fd ps []/\Ag1 X.K (.j f)=k9/\X.mg x=y0 (.j f)
def n9:M.W->Bool
|.j _=>y9
|_=>k9
def eG(Γ:Ge)(m:List M.W->M.AH->M.R M.W):Sp:=λvs H Q E=>∃G h a,ag Γ G h H/\aW Γ G H a vs/\(∀w∈a,n9 w=k9)/\aq Γ E G H (m a h) Q
structure Go(Γ:Ge)(F:M.Fx)(X:Cx)(E:XK)(k:Nat)(cf:Cf):Prop where
 N:X.N=cf.N
 K:X.K=Γ.K
 cl:F.cl=Γ.cl
 ow:cf.j=Γ.own
 nd:cf.N.N
 gy:∀x,eI cf.p x=k9->lH X.j.p x
 lb:∀x,cf.p.j.p x=y0 .local->X.j.p.j.p x=y0 .local
 gU:∀x,kI cf.p x=k9->lR X.j.p x/\(X.fn x=k9\/X.j.p.j.p x=y0 .local)
 kj:∀x,(cf.p.j.p x=y0 .w\/cf.p.j.p x=y0 .C)->X.j.y x=y0 .w\/X.j.y x=y0 .C
 gl:∀x,iK cf.p x=k9->Gl X x
 calm:cf.cb=k9->X.calm=k9
 room:aB k X.A
 bQ:aB (k+1) X.A
 pass:wm (bc X.p X.w) X E
 blt:∀x,x∈bF->X.mg (zc x)=u0
 con:∀x d,F.con.p x=y0 d->∃u v,X.mg (zc x)=y0 u/\RelV v u/\∀G H,au Γ G H d v
 fn:∀f,cf.w.w f=k9->∃ps,vf X k (zc f) ps (eG Γ<|F.j f)
 lz:∀f,cf.qf.w f=k9->∃ps,vf X 2 (zc f) ps (eG Γ<|F.j f)
 cls:∀c,cf.j.w c=k9->X.mg (zc c)=y0 (.j<|Γ.j c)
 fld:∀c f,cf.y.fl.w (c,f)=k9->cP X.K (Γ.j c)/\bZ X.K (Γ.j c) (zc f)
 gY:∀c m q,cf.y.mt.w (c,m,q)=k9->cP X.K (Γ.j c)/\∃fa fd ps,lF X.K (Γ.j c) (zc m) fa/\aX X.p X.w X.K X.mg X.base (bc X.p X.w) k fa fd ps (eG Γ<|F.j q)/\Binds X.K fd ps []
 eh:∀c q,cf.y.eh.w (c,q)=k9->X.mg (zc c)=y0 (.j<|Γ.j c)/\∃fa fd ps,Mk X.K (Γ.j c) fa/\aX X.p X.w X.K X.mg X.base (bc X.p X.w) k fa fd ps (eG Γ<|F.j q)/\Binds X.K fd ps []
open Lake renaming MS.Go.calm->Lake.MS.Go.C,MS.Go.blt->Lake.MS.Go.p,MS.Go.room->Lake.MS.Go.w,MS.Go.gl->Lake.MS.Go.y
@[elab_as_elim]theorem kE{P:List α->Prop}(k:b=k9->P []):∀l,kZ l b=k9->P l:=by rintro(_|_)<;>first|exact aT|exact k
@[elab_as_elim]theorem oq{P:Stmt->Prop}(k:∀a b p,f a b=k9->P (.Try a b [] [] p)):∀e,n0 e f=k9->P e:=by
 rintro(_|_)<;>first|exact aT|exactλh=>kE (λh=>kE (λh=>k _ _ _ h) _ h) _ h
@[elab_as_elim]theorem pe{P:ExceptHandler->Prop}(k:∀a b c p,f a b c=k9->P (.j a b c p)):∀e,oa e f=k9->P e
|.j _ _ _ _,h=>k _ _ _ _ h
def a2(h:(a&&b)=k9):a=k9/\b=true:=Af7.j h
def a3(h:(a&&b&&c)=k9):a=k9/\b=k9/\c=true:=⟨(a2 (a2 h).1).1,(a2 (a2 h).1).2,(a2 h).2⟩
def a4(h:(a&&b&&c&&d)=k9):a=k9/\b=k9/\c=k9/\d=true:=⟨(a3 (a2 h).1).1,(a3 (a2 h).1).2.1,(a3 (a2 h).1).2.2,(a2 h).2⟩
def a5(h:(a&&b&&c&&d&&e)=k9):a=k9/\b=k9/\c=k9/\d=k9/\e=true:=⟨(a2 (a4 h).1).1,(a2 (a4 h).1).2,(a4 h).2⟩
def a6(h:(a&&b&&c&&d&&e&&f)=k9):a=k9/\b=k9/\c=k9/\d=k9/\e=k9/\f=true:=⟨(a2 (a5 h).1).1,(a2 (a5 h).1).2,(a5 h).2⟩
def a7(h:(a&&b&&c&&d&&e&&f&&g)=k9):a=k9/\b=k9/\c=k9/\d=k9/\e=k9/\f=k9/\g=true:=⟨(a2 (a6 h).1).1,(a2 (a6 h).1).2,(a6 h).2⟩
def nn(h:o.w=k9):o=none:=Ad8.j h
def gG(h:vB cf i x=k9):cf.N[i]?=y0 x/\eI cf.p x=k9/\dJ x=true:=⟨Da (a3 h).1,(a3 h).2⟩
def zb(h:aY sc x e=true):∃p,e=.p (zc x) p/\iK sc (zc x)=true/\(zc x==("__debug__":Str))=false:=by
 unfold aY at h;rw[Aa6,Aa6]at h;obtain⟨⟨b,c⟩,a⟩:=h;unfold dJ at a;rw[Aa6]at a;cases e with
|Name y p=>
  have:y=zc x:=by simpa[ph]using b
  subst this;exact⟨p,rfl,c,by simpa using a.1⟩
|_=>simp[ph]at b
def Xg(h:x∈bF):zc x≠("__name__":Str):=by
 have:(bF.T λx=>decide<|zc x≠"__name__")=true:=by decide+kernel
 exact Da<|Af0.j this x h
section
variable{Γ:Ge}{F:M.Fx}{X:Cx}{E:XK}{k:Nat}{cf:Cf}
section
variable{G:Gh}{H:Hp}{h:M.AH}{Y:M.Sl}{U:St}{Q:VK}
def ak.val (p:ak Γ E G0 H0 (.p w h) λw _ G' H'=>∀v,aj Γ G' H' w v->ay Y U H0 w v->Q v H')(e:Ext G0 H0 G H)(a:ag Γ G h H)(z:aj Γ G H w v)(f:ay Y U H0 w v):Q v H:=
 p G H e a v z f
end
def IJ(c:Go Γ F X E k cf)(u:cf.N[i]?=y0 x)(j:eI cf.p x=k9)(b:dJ x=k9):PE X (.p x pos)<|tD Γ E<|M.eval F<|.var i:=by
 unfold dJ at b;rw[Aa6]at b;refine PE.imp (zu (by rwa [c.N]) (c.gy x j) (by simpa using b.1)<|by simpa using b.2) λU H Q n=>?_;obtain⟨G,Y,h,s,p⟩:=n;rw[M.zEe1]at p;cases q:M.Gi Y i with
|none=>simp[M.Gn,q]at p;exact p.j
|some w=>
  obtain⟨v,e,r⟩:=s.w i w q;refine⟨v,e,?_⟩;cases w with
|v d=>rw[M.Ku q]at p;exact ak.val p Ext.refl s.j r trivial
|own g=>rw[M.Ka q]at p;obtain⟨a,m,o,y,f,l,t⟩:=r;exact ak.val p Ext.refl s.j ⟨a,m,o,f,.p l,t⟩ ⟨i,_,q,rfl,e⟩
|bor g=>rw[M.GZ q]at p;exact ak.val p Ext.refl s.j r ⟨i,_,q,rfl,e⟩
def Ij(b:Go Γ F X E k cf)(n:aY cf.p c e=k9):PE X e<|tD Γ E<|M.eval F<|.con c:=by
 obtain⟨p,rfl,m,i⟩:=zb n;cases q:F.con.p c with
|none=>rintro f s U H Q I ⟨G,Y,h,g,a⟩;rw[M.zEe2,q]at a;exact a.j
|some d=>obtain⟨u,v,j,rv,rd⟩:=b.con c d q;refine PE.imp (Jp (b.y _ m) j rv i) λU H Q l=>?_;obtain⟨G,Y,h,g,a⟩:=l;rw[M.zEe2,q]at a;exact ak.val a Ext.refl g.j (rd G H) trivial
def IF:PE X (.y (.int i) j pos)<|tD Γ E<|M.eval F<|.int i:=PE.imp sZ<|by rintro U H Q⟨G,Y,h,s,p⟩;exact ak.val p Ext.refl s.j rfl trivial
def K7:PE X (.y (.bool i) j pos)<|tD Γ E<|M.eval F<|.bl i:=PE.imp Pg<|by rintro U H Q⟨G,Y,h,s,p⟩;exact ak.val p Ext.refl s.j rfl trivial
def IS:PE X (.y .y j pos)<|tD Γ E<|M.eval F .ai:=PE.imp Fo<|by rintro U H Q⟨G,Y,h,s,p⟩;exact ak.val p Ext.refl s.j rfl trivial
def Hc:PE X (.y (.o<|ar i) j pos)<|tD Γ E<|M.eval F<|.str i:=PE.imp xL<|by rintro U H Q⟨G,Y,h,s,p⟩;exact ak.val p Ext.refl s.j rfl trivial
section
variable{a b c:M.E}{x y z:Expr}{pos:Pos}
def Cw(e:Go Γ F X E k cf)(A:PE X x<|tD Γ E<|M.eval F a)(r:PE X y<|tD Γ E<|M.eval F b):PE X (.BinOp x (mS o) y pos)<|tD Γ E<|M.eval F<|.bin o a b:=by refine PE.imp (Lk (Pz (E:=E) o e.K) A r) λU H Q i=>?_;obtain⟨G,Y,h,s,p⟩:=i;exact br s p λw v1 J I C u t d n D l=>Ji s.j u d l λg v2 j f B v c z q K m=>⟨f,j,w,g,z.j,n.ext c d.j,q,aq.mk m v s.j⟩
def X2(z:au Γ G H d v)(f:M.GO d=k9):zI v=true:=by
 cases d with
|ai=>cases(z);rfl
|bl _=>cases(z);rfl
|int _=>cases(z);rfl
|str _=>cases(z);rfl
|_=>exact absurd (f) Ab0
theorem ZQ:∀{ds}{vs},aa Γ G H ds vs->ds.T M.GO=k9->vs.T zI=k9
|[],_,rfl,_=>rfl
|d::ds,_,z7,f=>by obtain⟨v,r,rfl,b,a⟩:=z7;rw[Ah7,Aa6]at f⊢;exact⟨X2 b f.1,ZQ a f.2⟩
def N3(z:au Γ G H d v)(y:au Γ G H e u)(f:M.GO d=k9)(c:M.GO e=k9):hY v u=M.cw d e:=by
 cases d with
|ai=>
  cases(z);cases e with
 |ai=>cases(y);rfl
 |bl _=>cases(y);rfl
 |int _=>cases(y);rfl
 |str _=>cases(y);rfl
 |_=>exact absurd (c) Ab0
|bl a=>
  cases(z);cases e with
 |ai=>cases(y);rfl
 |bl _=>cases(y);rfl
 |int j=>cases(y);show(_==j)=(a.j==j);rw[nO]
 |str _=>cases(y);rfl
 |_=>exact absurd (c) Ab0
|int i=>
  cases(z);cases e with
 |ai=>cases(y);rfl
 |bl b=>cases(y);show(i==(if b then(1:Int)else 0))=(i==b.j);rw[nO]
 |int _=>cases(y);rfl
 |str _=>cases(y);rfl
 |_=>exact absurd (c) Ab0
|str i=>
  cases(z);cases e with
 |ai=>cases(y);rfl
 |bl _=>cases(y);rfl
 |int _=>cases(y);rfl
 |str j=>cases(y);exact tX i j
 |_=>exact absurd (c) Ab0
|_=>exact absurd (f) Ab0
theorem yq(z:au Γ G H d v)(b:M.GO d=k9):∀{ds}{vs},aa Γ G H ds vs->ds.T M.GO=k9->iY v vs=M.inD d ds
|[],_,rfl,_=>rfl
|e::ds,_,z7,f=>by obtain⟨u,r,rfl,g,c⟩:=z7;rw[Ah7,Aa6]at f;have a:=yq z b c f.2;unfold iY M.inD at a⊢;rw[Af2,Af2,a,N3 g z f.1 b]
def aj.ml (z:aj Γ G H w v)(e:w.d=y0 d)(f:M.GO d=k9):au Γ G H d v:=by
 cases w with
|v b=>cases e;exact z
|own a=>cases e;exact absurd (f) Ab0
|bor a=>cases e
theorem sR(b:∀c y,RV hp c y->ee y=M.cw c d):∀{ys}{us},cg hp ys us->us.C ee=M.inD d ys
|[],_,rfl=>rfl
|c::ys,_,z7=>by obtain⟨u,r,rfl,f,e⟩:=z7;have a:=sR b e;unfold M.inD at a⊢;rw[Af2,Af2,a,b c u f]
def Bz(e:aB k X.A)(n:M.GY ys<140)(i:RV s.j d v)(rs:cg s.j ys its):∃O:Value->Bool,(∀c y,RV s.j c y->O y=M.cw c d)/\∀y,y∈its.j->SeqAt.EqAt X.A.p s y v (O y):=by
 have f:∃O:Value->Bool,∀c y,RV s.j c y->O y=M.cw c d:=⟨λy=>@u9 (∃a,RV s.j a y/\M.cw a d=k9)<|Ai1 _,λc y z=>by
  cases q:M.cw c d with
|true=>exact@On _ (Ai1 _) ⟨c,z,q⟩
|false=>exact@FS _ (Ai1 _) λ⟨d,l,h⟩=>by rw[RV.inj l z,q]at h;cases h⟩
 obtain⟨O,g⟩:=f;refine⟨O,g,λy hy=>?_⟩;obtain⟨j,m⟩:=List.getElem?_of_mem<|List.mem_toArray.j hy;obtain⟨a,b,rd⟩:=rs.get m;rw[g a y rd];exact(BX 140 a _ X.A.p y v (by have:=QB b;lia) (by have:=e.un;lia) rd i).eq
set_option tactic.hygienic true in
def L6(l:X.K=Γ.K)(f:aB k X.A)(neg:Bool){x y:V}(I:Inv X pins U H s)(B:RelV x v)(r:RelV y u){b:Bool}(n:ag Γ G h H)
 (w:aj Γ G H w1 x)(z:aj Γ G H w2 y)(e:M.KO w1 w2 h=y0 b)(q:Q (.K<|if neg then !b else b) H):wpAny (model X.p X.w) X.A (compareOp (if neg then .j else .In) v u) (EP X pins U Q) X.xe s:=by
 unfold M.KO at e;split at e
 .rename_i C A;split at e
  .rename_i c;cases e;have m:=by simpa using c
   have j:=z.rv I l n r (by simp_all);rw[A]at j;obtain⟨a,g,rfl,o,rs⟩:=j;obtain⟨d,t,i⟩:=Bz f m.2 (w.rv I l n B m.1.1) rs;have p:g.j.any d=M.inD (w1.dd h) C:=by rw[List.any_toArray];exact sR t rs
   cases neg with
|true=>exact Vp d o i ⟨.K _,H,I,rfl,by rw[p];exact q⟩
|false=>exact V3 d o i ⟨.K _,H,I,rfl,by rw[p];exact q⟩
  .cases e
 .cases e
set_option tactic.hygienic true in
def tZ(n:X.K=Γ.K)(m:aB k X.A)(neg:Bool){x y:V}(I:Inv X pins U H s)(g:RelV x v)(f:RelV y u){b:Bool}(C:ag Γ G h H)
 (o:aj Γ G H w1 x)(p:aj Γ G H w2 y)(e:M.Kd w1 w2 h=y0 b)(q:Q (.K<|if neg then !b else b) H):wpAny (model X.p X.w) X.A (compareOp (if neg then .j else .In) v u) (EP X pins U Q) X.xe s:=by
 unfold M.Kd at e;split at e
 .rename_i i j r t;split at e
  .rename_i c;cases e;cases o.str r;cases p.str t;have B:(!(Builtin.Str.occurrences (ar j) (ar [c]) 0 (ar j).e 1).K)=j.w c:=by have:=PySem.StrLaws.found_one (ar j) c;refine this.x ?_;rw[Al4,Pi,Af4];simp[ar]
   cases neg with
|true=>exact jW pins s U H _ _ v u Q I g f ⟨_,_,rfl,rfl,by rw[B];exact q⟩
|false=>exact Hv pins s U H _ _ v u Q I g f ⟨_,_,rfl,rfl,by rw[B];exact q⟩
  .cases e
 .split at e
  .rename_i d D r t;split at e
   .rename_i c;rw[Aa6]at c;cases e;have z:=o.ml r c.1;obtain⟨a,w,rfl,A,l⟩:=p.seq C t;rw[←yq z c.1 l c.2]at q;cases neg with
|true=>exact XV pins s U H _ _ v u Q I g f ⟨a,w,rfl,n▸nV A,X2 z c.1,ZQ l c.2,q⟩
|false=>exact Dk pins s U H _ _ v u Q I g f ⟨a,w,rfl,n▸nV A,X2 z c.1,ZQ l c.2,q⟩
   .exact L6 n m neg I g f C o p e q
  .cases e
def xM(g:Go Γ F X E k cf)(o):bB X (compareOp<|fX o)<|ke Γ o:=by
 have w:∀{o},(∀f d h b,M.Gs o f d h=y0 b->(match M.W.int? f,M.W.int? d with
|some i,y0 j=>M.KQ o i j
|_,_=>u0)=y0 b)->bB X (compareOp<|fX o) (ke Γ o):=by
  rintro o A a s U H x y v u Q I p l ⟨G,h,f,d,b,r,m,n,e,q⟩;have e:=A f d h b e;split at e
  .rename_i B z;cases m.int B;cases n.int z;exact EA e I p l q
  .cases e
 cases o with
|eq=>exact LD g.K g.w
|ne=>exact Ca g.K g.w
|mem=>rintro a s U H x y v u Q I p l ⟨G,h,f,d,b,r,m,n,e,q⟩;exact tZ g.K g.w y9 I p l r m n e q
|dP=>
  rintro a s U H x y v u Q I p l ⟨G,h,f,d,b,r,m,n,e,q⟩;have e:(M.Kd f d h).y (!·)=y0 b:=e;cases z:M.Kd f d h with
 |none=>rw[z]at e;cases e
 |some c=>rw[z]at e;cases e;exact tZ g.K g.w k9 I p l r m n z q
|kJ=>
  rintro a s U H x y v u Q I p l ⟨G,h,f,d,b,r,m,n,e,q⟩;have e:M.KM f d=y0 b:=e;unfold M.KM at e;split at e
  .cases e;cases m;cases n;cases p;obtain⟨t,rfl⟩:=l;exact wpAny_is_plain rfl<|rP I q rfl
  .cases e;cases m;cases n;obtain⟨t,rfl⟩:=p;obtain⟨C,rfl⟩:=l;exact PyProof.Rows.is_bool<|rP I q rfl
  .cases e
|_=>exact w λ_ _ _ _ e=>e
def Wf(h:Je e=k9):behindInMarks o e=false:=by
 cases e<;>first|rfl|(simp[Je]at h)
def uO(z:Go Γ F X E k cf)(s:ao Γ G Y h U H)
 (p:ak Γ E G H ((M.eval F a Y h).j λx h=>(M.eval F b Y h).j λy h=>(M.R.of h<|M.Gs o x y h).j λc h=>.p c h) λc _ _ H'=>R (.K c) H'):
 mL (ke Γ o) (tD Γ E<|M.eval F a) (tD Γ E<|M.eval F b) U H R:=by
 refine br s p λw v1 I D B u t f n C m=>Ji s.j u f m λj v2 l i A v d g r J e=>?_;obtain⟨c,q,e⟩:=e.of;exact⟨i,l,w,j,c,g.j,n.ext d f.j,r,q,e.at v g.j⟩
def ak.map {f:α->β}(p:ak Γ E G H (r.j λa h=>.p (f a) h) P):ak Γ E G H r λa h G' H'=>P (f a) h G' H':=by
 cases r with
|_=>exact p
def jd(r:M.R α)(f)(g:β->M.AH->M.R γ):(r.j f).j g=r.j λa h=>(f a h).j g:=by cases r<;>rfl
def M8(j:Go Γ F X E k cf)(u:Je y=k9)(z:PE X x<|tD Γ E<|M.eval F a)(t:PE X y<|tD Γ E<|M.eval F b):PE X (.G x [fX o] [y] pos)<|tD Γ E<|M.eval F<|.cmp o a b:=by
 refine PE.imp (XQ (xM j o) z t<|Wf u) λU H Q m=>?_;obtain⟨G,Y,h,s,p⟩:=m;rw[M.zEe10]at p;refine uO j s ?_;have n:ak Γ E G H (((M.eval F a Y h).j λx h=>(M.eval F b Y h).j λy h=>(M.R.of h<|M.Gs o x y h).j λc h=>.p c h).j λc h=>.p (M.W.v<|.K c) h) λw _ i g=>∀v,aj Γ i g w v->ay Y U H w v->Q v g:=by simpa only[jd,M.R.af]using p
 have f:=n.map;cases q:(M.eval F a Y h).j λx h=>(M.eval F b Y h).j λy h=>(M.R.of h _).j λc h=>.p c h with
|ok c l=>rw[q]at f;exactλi g e r=>f i g e r _ rfl trivial
|exc d l=>rw[q]at f;exact f
|fail=>rw[q]at f;exact f
def Dg(f:Go Γ F X E k cf)(m:Je y=k9)(n:PE X x<|tD Γ E<|M.eval F a)(l:PE X y<|tD Γ E<|M.eval F b):PT X (.G x [fX o] [y] pos)<|cD Γ E<|M.Gj F<|.cmp o a b:=by
 refine PT.imp (zN (xM f o) n l<|Wf m) λU H Q g=>?_;obtain⟨G,Y,h,s,p⟩:=g;unfold M.Gj at p;rw[M.zEe10]at p;refine uO f s ?_;have d:=by simpa only[jd,M.R.af,M.Gz,M.R.aw]using p
 cases q:(M.eval F a Y h).j λx h=>(M.eval F b Y h).j λy h=>(M.R.of h _).j λc h=>.p c h with
|ok c t=>rw[q]at d;exactλr i e j=>⟨c,rfl,d r i e j⟩
|_=>rw[q]at d;exact d
end
end
section
variable{Γ:Ge}{F:M.Fx}{X:Cx}{E:XK}{k:Nat}{cf:Cf}{a b c:M.E}{x y z:Expr}{pos:Pos}
def ZB(r:M.R α):(r.j λw h=>.p w h)=r:=by cases r<;>rfl
def Dr(r:Go Γ F X E k cf)(o:PE X x<|tD Γ E<|M.eval F a)(e:∀j,isTrue x X.j j=(do let v←j;standAt x.pos;holding [v]<|truthy v)):PT X x<|cD Γ E<|M.Gj F a:=by
 refine PT.imp (Nv o e) λU H Q c=>?_;obtain⟨G,Y,h,s,p⟩:=c;refine br s p λn v1 w i d m l g f u b=>?_;cases q:M.GV n with
|none=>rw[q]at b;exact b.j
|some t=>rw[q]at b;exact⟨t,og f q,b i d m g.j⟩
def Mn(l:PE X x ta):PE X (.M .Not x pos)<|λU H Q=>ta U H λv H1=>∃t,lM v t/\Q (.K<|!t) H1:=λa s U H Q I h=>UnaryOp_<|aD (l a s U H _ I h)<|by rintro v g⟨x,H1,e,f,t,j,i⟩;exact not_of<|aD (nP a g U H1 x v (λc d=>Q (.K<|!c) d) e f ⟨t,j,i⟩)<|by rintro c m⟨b,k,q⟩;exact⟨.K<|!c,b,k,rfl,q⟩
def Cd(j:Go Γ F X E k cf)(i:PE X x<|tD Γ E<|M.eval F a):PE X (.M .Not x pos)<|tD Γ E<|M.eval F<|.not a:=by refine PE.imp (Mn i) λU H Q c=>?_;obtain⟨G,Y,h,s,p⟩:=c;refine br s p λr v1 o n l g f e d m b=>?_;obtain⟨t,q,b⟩:=b.of;exact⟨t,og d q,ak.val b g e.j rfl trivial⟩
def OZ(d:PT X x<|cD Γ E<|M.Gj F a):PT X (.M .Not x pos)<|cD Γ E<|M.Gj F<|.not a:=by
 refine PT.imp (HK d) λU H Q c=>?_;obtain⟨G,Y,h,s,p⟩:=c;unfold M.Gj at p;rw[M.zEe15]at p;have e:ak Γ E G H ((M.Gj F a Y h).j λt h=>.p (!t) h) λb _ _ f=>Q b f:=by unfold M.Gj;simpa only[jd,M.R.af,M.Gz,M.R.aw]using p
 exact⟨G,Y,h,s,e.map⟩
def Ep{rest:List Expr}(o:PE X x ta)(l:PE X (.C .And (y::rest) pos) tb):PE X (.C .And (x::y::rest) pos)<|λU H Q=>ta U H λv H1=>∃t,lM v t/\if t=k9 then tb U H1 Q else Q v H1:=by
 intro a s U H Q I h;refine BoolOp_and<|aD (o a s U H _ I h) ?_;rintro v j⟨x,H1,i,e,t,m,k⟩;refine aD (nP a j U H1 x v (λc d=>if c=k9 then tb U d Q else Q x d) i e ⟨t,m,k⟩) λc n g=>?_;obtain⟨b,f,q⟩:=g;cases c with
|true=>exact l a n U b Q f q
|false=>exact⟨x,b,f,e,q⟩
def C3{rest:List Expr}(o:PE X x ta)(l:PE X (.C .Or (y::rest) pos) tb):PE X (.C .Or (x::y::rest) pos)<|λU H Q=>ta U H λv H1=>∃t,lM v t/\if t=k9 then Q v H1 else tb U H1 Q:=by
 intro a s U H Q I h;refine BoolOp_or<|aD (o a s U H _ I h) ?_;rintro v j⟨x,H1,i,e,t,m,k⟩;refine aD (nP a j U H1 x v (λc d=>if c=k9 then Q x d else tb U d Q) i e ⟨t,m,k⟩) λc n g=>?_;obtain⟨b,f,q⟩:=g;cases c with
|false=>exact l a n U b Q f q
|true=>exact⟨x,b,f,e,q⟩
def uU(z:Go Γ F X E k cf){rest:List Expr}(w:PE X x<|tD Γ E<|M.eval F a)(n:PE X (.C .And (y::rest) pos)<|tD Γ E<|M.eval F b):PE X (.C .And (x::y::rest) pos)<|tD Γ E<|M.eval F<|.and a b:=by
 refine PE.imp (Ep w n) λU H Q i=>?_;obtain⟨G,Y,h,s,p⟩:=i;refine br s p λL v1 K J D d o f e l c=>?_;obtain⟨t,q,c⟩:=c.of;refine⟨t,og e q,?_⟩;cases t with
|true=>exact Ji s.j d f (by rwa [ZB]) λB v2 I A C r g v m u j=>ak.val j r v.j m<|u.back d s.j
|false=>exact ak.val c d f.j e l
def sV(z:Go Γ F X E k cf){rest:List Expr}(w:PE X x<|tD Γ E<|M.eval F a)(n:PE X (.C .Or (y::rest) pos)<|tD Γ E<|M.eval F b):PE X (.C .Or (x::y::rest) pos)<|tD Γ E<|M.eval F<|.or a b:=by
 refine PE.imp (C3 w n) λU H Q i=>?_;obtain⟨G,Y,h,s,p⟩:=i;refine br s p λL v1 K J D d o f e l c=>?_;obtain⟨t,q,c⟩:=c.of;refine⟨t,og e q,?_⟩;cases t with
|false=>exact Ji s.j d f (by rwa [ZB]) λB v2 I A C r g v m u j=>ak.val j r v.j m<|u.back d s.j
|true=>exact ak.val c d f.j e l
def Ml:M.Gj F (.and a b) Y h=(M.Gj F a Y h).j λt h=>match t with
|true=>M.Gj F b Y h
|false=>.p y9 h:=by
 unfold M.Gj;rw[M.zEe16];simp only[jd];congr 1;funext w h1;cases q:M.GV w with
|none=>rfl
|some t=>
  cases t with
|true=>rfl
|false=>simp[q]
def Pt:M.Gj F (.or a b) Y h=(M.Gj F a Y h).j λt h=>match t with
|true=>.p k9 h
|false=>M.Gj F b Y h:=by
 unfold M.Gj;rw[M.zEe17];simp only[jd];congr 1;funext w h1;cases q:M.GV w with
|none=>rfl
|some t=>
  cases t with
|false=>rfl
|true=>simp[q]
def uo{rest:List Expr}(A:PT X x<|cD Γ E<|M.Gj F a)(q:PW X (.C .And (y::rest) pos)<|cD Γ E<|M.Gj F b):PW X (.C .And (x::y::rest) pos)<|cD Γ E<|M.Gj F<|.and a b:=by
 rintro k c v U H Q I ⟨G,Y,h,s,p⟩;refine PH A q k c v U H Q I ?_;rw[Ml]at p;refine QN s.j Ext.refl s p λt D o l e r d m=>?_;cases t with
|true=>exact QN s.j e d (f:=λw h=>.p w h) (by rwa [ZB]) λB C g j u i z n=>n g j u z.j
|false=>exact m o l e d.j
def vi{rest:List Expr}(A:PT X x<|cD Γ E<|M.Gj F a)(q:PW X (.C .Or (y::rest) pos)<|cD Γ E<|M.Gj F b):PW X (.C .Or (x::y::rest) pos)<|cD Γ E<|M.Gj F<|.or a b:=by
 rintro k c v U H Q I ⟨G,Y,h,s,p⟩;refine CF A q k c v U H Q I ?_;rw[Pt]at p;refine QN s.j Ext.refl s p λt D o l e r d m=>?_;cases t with
|false=>exact QN s.j e d (f:=λw h=>.p w h) (by rwa [ZB]) λB C g j u i z n=>n g j u z.j
|true=>exact m o l e d.j
def Mb(i:PE X x<|tD Γ E<|M.eval F a):PE X (.M .USub x pos)<|tD Γ E<|M.eval F<|.neg a:=by refine PE.imp (uk N8 i) λU H Q c=>?_;obtain⟨G,Y,h,s,p⟩:=c;refine br s p λn v1 m l j g f e d k b=>?_;obtain⟨t,q,b⟩:=b.of;exact⟨t,d.int q,ak.val b g e.j rfl trivial⟩
def Hm(j:PE X x<|tD Γ E<|M.eval F a):PE X (.M .Invert x pos)<|tD Γ E<|M.eval F<|.inv a:=by
 refine PE.imp (uk HN j) λU H Q c=>?_;obtain⟨G,Y,h,s,p⟩:=c;refine br s p λo v1 n m k i g f d l b=>?_;obtain⟨t,q,b⟩:=b.of;refine⟨t,d.int q,?_⟩;have e:Builtin.bitNot t=-t-1:=by unfold Builtin.bitNot;exact by with_reducible rfl
 exact ak.val b i f.j rfl trivial
def Bu(r:aj Γ G H w v):(v=.ai)↔w=.v .ai:=by
 constructor
 .intro e;subst e;cases w with
|v d=>
   cases d with
 |ai=>rfl
 |bl _=>cases(r)
 |int _=>cases(r)
 |str _=>cases(r)
 |ref _=>obtain⟨_,e⟩:=r;cases e
 |exc _ _=>rcases r with⟨_,_,e,_⟩|⟨_,_,e,_⟩<;>cases e
 |err _ _ _=>obtain⟨_,_,_,e,_⟩:=r;cases e
 |_=>obtain⟨_,_,e,_⟩:=r;cases e
|_=>obtain⟨_,_,e,_⟩:=r;cases e
 .intro e;subst e;exact r
noncomputable def rD(neg:Bool):M.W->Bool
|.v .ai=>!neg
|_=>neg
def sY:M.eval F (.eT neg a) Y h=(M.eval F a Y h).j λw h=>M.av (.K<|rD neg w) h:=by
 rw[M.zEe12];congr 1;funext w h1;cases w with
|v d=>cases d<;>rfl
|_=>rfl
def yi(r:aj Γ G H w v)(neg:Bool):(if neg then !u9 (v=.ai)else u9 (v=.ai))=rD neg w:=by
 by_cases a:v=.ai
 .have b:=(Bu r).j a;subst b a;cases neg<;>rfl
 .have b:=λe=>a<|(Bu r).p e;rw[(FS a)];have c:rD neg w=neg:=by
   cases w with
|v d=>cases d<;>first|rfl|exact absurd rfl b
|_=>rfl
  rw[c];cases neg<;>rfl
def CM(d:PE X x<|tD Γ E<|M.eval F a):PE X (.G x [if neg then .IsNot else .Is] [.y .y j pos'] pos)<|tD Γ E<|M.eval F<|.eT neg a:=by
 have b:∀U H Q,tD Γ E (M.eval F<|.eT neg a) U H Q->tD Γ E _ U H λv c=>Q (.K<|if neg then !u9 (v=.ai)else decide _) c:=λU H Q e=>by obtain⟨G,Y,h,s,p⟩:=e;rw[sY]at p;refine br s p λq v1 o n c l k i g m f=>?_;rw[yi g neg];exact ak.val f l i.j rfl trivial
 cases neg with
|true=>exact PE.imp (AY<|Ax d) b
|false=>exact PE.imp (AY<|vy d) b
def Mw(i:PE X x<|tD Γ E<|M.eval F a):PT X (.G x [if neg then .IsNot else .Is] [.y .y j pos'] pos)<|cD Γ E<|M.Gj F<|.eT neg a:=by
 have g:∀U H Q,cD Γ E (M.Gj F<|.eT neg a) U H Q->tD Γ E _ U H λv b=>Q (if neg then !u9 (v=.ai)else decide _) b:=λU H Q l=>by obtain⟨G,Y,h,s,p⟩:=l;unfold M.Gj at p;rw[sY,jd]at p;refine br s p λJ v1 I y b B A u o D m=>?_;rw[yi o neg];exact m y b B u.j
 have fin:∀U H Q,cD Γ E _ U H Q->tD Γ E (M.eval F a) U H λv b=>∃c,V.bl _=.K c/\Q c b:=λU H Q t=>by
  obtain⟨G,Y,h,s,p⟩:=g U H Q t;refine⟨G,Y,h,s,?_⟩;cases q:M.eval F a Y h with
|ok w k=>rw[q]at p;exactλC n e z v r f=>⟨_,rfl,p C n e z v r f⟩
|exc d k=>rw[q]at p;exact p
|fail=>rw[q]at p;exact p
 cases neg with
|true=>exact PT.imp (BU<|Ax i) fin
|false=>exact PT.imp (BU<|vy i) fin
def AJ(h:Je e'=k9):lastMarks [o,o'] [e,e']=false:=Wf h
def BM(L:Go Γ F X E k cf)(s:ao Γ G Y h U H)
 (u:∀b h' G' H',P (.v<|.K b) h' G' H'->R (.K b) H')(p:ak Γ E G H (M.eval F (.a4 o o' a b c) Y h) P):
 ri (ke Γ o) (ke Γ o') (tD Γ E<|M.eval F a) (tD Γ E<|M.eval F b) (tD Γ E<|M.eval F c) U H R:=by
 refine br s p λJ v1 V T Q D C m B S z=>Ji s.j D m z λl v2 y v N r g e n W d=>?_;obtain⟨t,j,d⟩:=d.of;refine⟨v,y,J,l,t,e.j,B.ext g m.j,n,j,t,rfl,?_⟩;cases t with
|true=>refine Ji s.j r e d λx v3 w K H3 I f q A O i=>?_;obtain⟨t,j,i⟩:=i.of;exact⟨K,w,l,x,t,q.j,n.ext f e.j,A,j,u _ _ _ _<|i.at I q.j⟩
|false=>exact u _ _ _ _<|d.at r e.j
def C6(d:Go Γ F X E k cf)  (i:Je z=k9)(g:PE X x<|tD Γ E<|M.eval F a)(e:PE X y<|tD Γ E<|M.eval F b)(f:PE X z<|tD Γ E<|M.eval F c):
 PE X (.G x [fX o,fX o'] [y,z] pos)<|tD Γ E<|M.eval F<|.a4 o o' a b c:=
 PE.imp (O4 (xM d o) (xM d o') g e f<|AJ i)<|by rintro U H Q⟨G,Y,h,s,p⟩;exact BM d s (λb l j m q=>q _ rfl trivial) p
def Eb(g:Go Γ F X E k cf)  (l:Je z=k9)(u:PE X x<|tD Γ E<|M.eval F a)(r:PE X y<|tD Γ E<|M.eval F b)(t:PE X z<|tD Γ E<|M.eval F c):
 PT X (.G x [fX o,fX o'] [y,z] pos)<|cD Γ E<|M.Gj F<|.a4 o o' a b c:=by
 refine PT.imp (PQ (xM g o) (xM g o') u r t<|AJ l) λU H Q m=>?_;obtain⟨G,Y,h,s,p⟩:=m;refine BM g s (P:=λw _ _ f=>∀b,w=.v (.K b)->Q b f) (λb i j f q=>⟨b,rfl,q b rfl⟩) ?_;unfold M.Gj at p;cases q:M.eval F _ Y h with
|ok w i=>rw[q]at p;exactλj f e n b v=>by subst v;exact p j f e n
|exc d i=>rw[q]at p;exact p
|fail=>rw[q]at p;exact p
end
def ja(h:Qa e=k9):starEach (e::es) env=(y9,eval e env)::starEach es env:=by
 cases e<;>first|rfl|(simp[Qa]at h)
def Ze(h:∀e∈es,Qa e=k9):(backTo pos<|starEach es env).C (·.1)=false:=by
 induction es with
|nil=>rfl
|cons e r c=>rw[ja<|h e Aa2];show(y9||(backTo pos _).C _)=y9;rw[c λb a=>h b<|Aa0 _ a];rfl
section
variable{Γ:Ge}{F:M.Fx}{X:Cx}{E:XK}{k:Nat}{cf:Cf}{a b c:M.E}{x y z:Expr}{pos:Pos}{es:M.Es}{xs:List Expr}
def D5:PA X []<|iz Γ E<|M.Gk F .p:=PA.imp Jf<|by rintro U H Q⟨G,Y,h,s,p⟩;exact p G H Ext.refl s.j [] rfl
def Pl(z:Qa x=k9)(y:PE X x<|tD Γ E<|M.eval F a)(o:PA X xs<|iz Γ E<|M.Gk F es):PA X (x::xs)<|iz Γ E<|M.Gk F<|.j a es:=by refine PA.imp (qc y o<|ja z) λU H Q g=>?_;obtain⟨G,Y,h,s,p⟩:=g;refine br s p λK v1 J I D t r m l k c=>?_;obtain⟨d,q,c⟩:=c.of;obtain⟨B,u,f,rd,_⟩:=mi t m s l k q;exact uz s.j u f c λA e C w H3 v b n j i=>i w H3 v n.j (v1::e) ⟨v1,e,rfl,rd.ext b f.j,j⟩
def HG:PA X []<|fF Γ E<|M.Gg F .p:=PA.imp Jf<|by rintro U H Q⟨G,Y,h,s,p⟩;exact p G H Ext.refl s.j [] rfl
def F0(t:Qa x=k9)(r:PE X x<|tD Γ E<|M.eval F a)(l:PA X xs<|fF Γ E<|M.Gg F es):PA X (x::xs)<|fF Γ E<|M.Gg F<|.j a es:=by refine PA.imp (qc r l<|ja t) λU H Q e=>?_;obtain⟨G,Y,h,s,p⟩:=e;exact br s p λB v1 A z w n m d j y f=>Zh s.j n d f λu c v q H3 o b k i g=>g q H3 o k.j (v1::c) ⟨v1,c,rfl,j.ext b d.j,i⟩
def sQ{f:List M.D->M.W}{g:List V->HO}(o:PE X x λU H Q=>iz Γ E (M.Gk F es) U H λvs H1=>vs.e<=sizeLine/\∀p,H1 p=u0->Q (.j p) (ax H1 p<|g vs))
 (z:∀{G H h ds vs Q},aq Γ E G H (.p (f ds) h) Q->ag Γ G h H->aa Γ G H ds vs->∀a,H a=u0->Q (.j a) (ax H a<|g vs))(n:∀Y h,M.eval F m Y h=(M.Gk F es Y h).j λds h=>.p (f ds) h)
 (D:xs.e<=1000)(b:∀Y h ds h',M.Gk F es Y h=.p ds h'->ds.e=xs.e):PE X x<|tD Γ E<|M.eval F m:=by
 refine PE.imp o λU H Q r=>?_;obtain⟨G,Y,h,s,p⟩:=r;rw[n]at p;cases q:M.Gk F es Y h with
|ok e k=>
  refine uz s.j Ext.refl s (f:=λds h=>if ds.e=xs.e then .p (f ds) h else .w) (P:=λw h' A i=>∀v,aj Γ A i w v->ay Y U H w v->Q v i) ?_ λds vs I C H1 y u t j c=>?_
  .rw[q]at p⊢;show ak Γ E G H (if e.e=xs.e then .p _ k else .w) _
   rwa [Fk<|b _ _ _ _ q]
  .by_cases l:ds.e=xs.e
   .rw[Fk l]at c;have B:=j.length;exact⟨Ag5<|zn Y8,z (aq.mk c y s.j) t.j j⟩
   .rw[FB l]at c;exact c.j
|exc d k=>rw[q]at p;exact⟨G,Y,h,s,by rw[q];exact p⟩
|fail=>rw[q]at p;exact p.j
def L4(r:aj Γ G H w v):aj Γ G H w.arg v:=by
 cases w with
|v d=>exact r
|own c=>obtain⟨a,f,g,_,b,e,h⟩:=r;exact⟨a,f,g,b,.p e,h⟩
|bor c=>exact r
theorem xi:∀{ws}{vs},aW Γ G H ws vs->aW Γ G H (ws.y M.W.arg) vs
|[],_,z=>z
|_::_,_,z7=>by obtain⟨v,r,c,a,b⟩:=z7;exact⟨v,r,c,L4 a,xi b⟩
def Jh(ws:List M.W):∀w∈ws.y M.W.arg,n9 w=true:=λw a=>by obtain⟨u,_,rfl⟩:=Ae9.j a;cases u<;>rfl
def LO(a:Go Γ F X E k cf)(u:aY cf.p f g=k9)(z:cf.w.w f=k9)(c:∀e∈x::xs,Qa e=k9)(C:PA X (x::xs)<|fF Γ E<|M.Gg F es):PE X (.w g (x::xs) [] pos)<|tD Γ E<|M.eval F<|.j f es:=by obtain⟨p,rfl,m,d⟩:=zb u;obtain⟨j,I,J,b,D,B,i⟩:=(a.fn f z).imp λj h=>h.ex;refine PE.imp (NS b a.w (a.y _ m) i B D .p a.pass C d (ja<|c _ Aa2)<|Ze λe o=>c e<|Aa0 _ o) λU H Q l=>?_;obtain⟨G,Y,h,s,p⟩:=l;refine Zh s.j Ext.refl s p λq K A v L y w t r n=>?_;rw[Ac4];exact⟨v,A,_,t.j,xi r,Jh q,aq.mk n y s.j⟩
def MC(b:M.Bi):bootBuiltins (zc<|pF b)=y0 (sP b):=by cases b<;>decide+kernel
def yz(b):pF b∈bF:=by cases b<;>decide
def Dx(c:Go Γ F X E k cf){b:M.Bi}(r:uP cf b g=k9)(t:∀e∈x::xs,Qa e=k9)(q:PA X (x::xs)<|fF Γ E<|M.Gg F es):PE X (.w g (x::xs) [] pos)<|tD Γ E<|M.eval F<|.bi b es:=by
 obtain⟨p,rfl,m,f⟩:=zb (a2 r).2;have i:=c.p _<|yz b;have n:=Xg<|yz b;have l:=MC b;have j:qo X _<|su Γ E b:=EB b c.K<|λB=>c.C<|(Aj5.j (a2 r).1).j id λz=>absurd (Da z) B;have a:∀U H Q,tD Γ E (M.eval F<|.bi b es) U H Q->se (su Γ E b) (fF Γ E _) U H Q:=λU H Q u=>by obtain⟨G,Y,h,s,p⟩:=u;refine Zh s.j Ext.refl s p λy K J C L I D d A v=>?_;exact⟨C,J,y,d.j,A,aq.mk v I s.j⟩
 have d:=ja (env:=X.j) (es:=xs)<|t _ Aa2;have o:=Ze (env:=X.j) (pos:=pos) λe w=>t e<|Aa0 _ w;cases b with
|list=>exact PE.imp (xu j (c.y _ m) i l q n f d o) a
|tuple=>exact PE.imp (xu j (c.y _ m) i l q n f d o) a
|_=>exact PE.imp (zA j (c.y _ m) i l q n f d o) a
def aJ(h:Wo o=k9)(w):attributeBase o n env w=w:=by
 cases o with
|Call f a b p=>
  cases a with
 |nil=>exact absurd (h) Ab0
 |cons x a=>cases f<;>rfl
|_=>rfl
theorem vT(t):∀{ts}{n},M.Kk t ts=y0 n->lA (ar t) (ts.y ar)=y0 n
|[],_,e=>by cases e
|y::ys,n,e=>by
  unfold M.Kk at e;rw[Ac3,lA];split at e
  .rename_i q;cases e;rw[Fk<|by rw[q]]
  .rename_i q;obtain⟨k,e1,rfl⟩:=Ac6.j e;rw[FB<|λc=>q<|by have:=congrArg (λs:Str=>s.j.p) c;simpa[ar]using this,vT t e1];rfl
theorem tV(z):∀ts:List M.Tx,Str.join (ar z) (ts.y ar)=ar (M.Gv z ts)
|[]=>rfl
|[t]=>rfl
|t::u::r=>by have a:=tV z<|u::r;simp only[Ac3,Str.join,M.Gv]at a⊢;rw[a,Qj,Qj]
theorem yD{z:M.Tx}:∀ts:List M.Tx,(M.Gv z ts).e+z.e=(ts.y λt=>t.e+z.e).sum+(if ts=[]then z.e else 0)
|[]=>by simp[M.Gv]
|[t]=>by simp[M.Gv]
|t::u::r=>by have a:=yD (z:=z)<|u::r;simp only[M.Gv,Yk]at a⊢;simp at a⊢;lia
theorem Au(z):∀ts:List M.Tx,((ts.y ar).y (·.e)).sum+(ts.y ar).e*(ar z).e=(ts.y λt=>t.e+z.e).sum
|[]=>by simp
|t::ts=>by have a:=Au z ts;simp only[Ac3,Yk,Qc,Ab6,Ym]at a⊢;lia
theorem BN{c:Nat}:∀{s a b},M.GW c s=y0 (a,b)->s=a++c::b/\c∉a
|[],_,_,h=>by cases h
|x::s,a,b,h=>by
  rw[M.GW]at h;split at h
  .rename_i e;cases h;exact⟨by rw[e];rfl,by simp⟩
  .rename_i e;obtain⟨⟨k,j⟩,d,i⟩:=Ac6.j h;cases i;obtain⟨f,g⟩:=BN d;exact⟨congrArg (x::·) f,λz=>(Aa8.j z).j (λz=>e z.I) g⟩
theorem vL{c:Nat}:∀{s},M.GW c s=u0->c∉s
|[],_,z=>by cases z
|x::s,h,z=>by
  rw[M.GW]at h;split at h
  .cases h
  .rename_i e;exact(Aa8.j z).j (λz=>e z.I)<|vL<|Option.map_eq_none_iff.j h
set_option tactic.hygienic true in
def Se(h:M.GS s t=y0 d):∃c a m b,t=[c]/\yc s c a m b/\d=.p [.o a,.o m,.o b]:=by
 unfold M.GS at h;split at h
 .rename_i c;split at h
  .rename_i p e;cases h;obtain⟨f,g⟩:=BN e;exact⟨c,_,_,_,rfl,.p ⟨f,g,rfl⟩,rfl⟩
  .rename_i e;cases h;exact⟨c,_,_,_,rfl,.w ⟨vL e,rfl,rfl,rfl⟩,rfl⟩
 .cases h
def IM{z t:M.Tx}{b:Bool}(h:M.G9 z t=y0 b):Txt.startswith (ar z) (ar t)=b:=by
 cases h;unfold Txt.startswith Builtin.Str.subAt;have l:=Qc;rw[l,l,Am8];have e:((ar z).j.extract 0 t.e==(ar t).j)=(z.M t.e==t):=by
  by_cases q:z.M t.e=t
  .rw[q,S6,TN];apply Ah.j;simp[ar,q]
  .rw[beq_eq_false_iff_ne.p q,beq_eq_false_iff_ne];intro w;have w:=congrArg Aj7 w;simp[Ae2]at w;exact q w
 rw[e];cases q:t.a4 z with
|true=>obtain⟨r,rfl⟩:=List.isPrefixOf_iff_prefix.j q;simp
|false=>rw[Bool.and_eq_false_iff];refine .w<|beq_eq_false_iff_ne.p λw=>?_;have:=List.isPrefixOf_iff_prefix.p<|w▸List.take_prefix t.e z;rw[this]at q;cases q
theorem vI{a:Value->Bool}(b:∀c y,RV hp c y->a y=M.cw c d):∀{ys}{us}{j},cg hp ys us->M.KK d ys=y0 j->∃y,us[j]?=y0 y/\a y=k9/\∀m z,m<j->us[m]?=y0 z->a z=y9
|[],_,_,rfl,h=>by cases h
|c::ys,_,j,z7,h=>by
  obtain⟨u,r,rfl,k,o⟩:=z7;rw[M.KK]at h;by_cases q:M.cw c d=k9
  .rw[Fk q]at h;cases h;exact⟨u,rfl,by rw[b c u k];exact q,λm z f=>absurd f<|Ai6 m⟩
  .rw[FB q]at h;obtain⟨i,e,rfl⟩:=Ac6.j h;obtain⟨y,p,n,l⟩:=vI b o e;refine⟨y,p,n,λm z f g=>?_⟩;cases m with
|zero=>cases g;rw[b c u k];simpa using q
|succ m=>exact l m z (S3 ‹_›) g
def E9(Γ:Ge):V->List V->Hp->VK->Prop:=λx vs H Q=>∃G h a b y j,vs=[y]/\ag Γ G h H/\aj Γ G H a x/\aj Γ G H b y/\M.KH b a h=y0 j/\Q (.u (j:Nat)) H
def Lj(t:X.K=Γ.K)(d:aB k X.A):fc X "list.index"<|E9 Γ:=by
 rintro i s U H x vs v us Q I R rv ⟨G,h,w1,W,y,j,N,A,J,L,e,q⟩;subst N;obtain⟨u,rfl,B⟩:=rv.one;unfold M.KH at e;split at e
 .rename_i ys P;split at e
  .rename_i c;have w:=by simpa using c
   have r:=J.rv I t A R (by simp_all);rw[P]at r;obtain⟨a,g,rfl,O,rs⟩:=r;obtain⟨D,F,E⟩:=Bz d w.1.2 (L.rv I t A B w.1.1.1) rs;obtain⟨z,S,h2,C⟩:=vI F rs e;obtain⟨⟨cls,dd,p,T⟩,n,V,k,K⟩:=id O;subst V K;have l:=rs.e;obtain⟨hj,Z⟩:=Ab3.j S;have hL:=M.Gc;exact SY Uo ⟨_,n,rfl⟩ PySem.F.entry_list_index (PySem.F.args_list_index_2 _ _) (PySem.SeqAt.list_indexAt a g.j k dd T u D j (by simp_all) Y8 (by simp_all)<|λm Y f=>C m _ f Y9) ⟨n,E,⟨.u j,H,I.kept λb o e=>e,⟨_,rfl⟩,q⟩⟩
  .cases e
 .cases e
def DV(W:Go Γ F X E k cf)(T:(apos.j==cpos.p)=k9)(S:Wo o=k9)(y:Qa x=k9)(ha:PE X o<|tD Γ E<|M.eval F a)(hw:PA X [x]<|fF Γ E<|M.Gg F es):
 PE X (.w (.j o (zc<|vJ m) apos) [x] [] cpos)<|tD Γ E<|M.eval F<|.cW m a es:=by
 cases m with
|index=>
  refine PE.imp (Zj PySem.F.plainAttrs_tuple PySem.F.slot_tuple_index PySem.F.type_tuple_index B4 Fd ha hw (aJ S _) (by rw[ja y];rfl) T (ja y) rfl) λU H Q L=>?_;obtain⟨G,Y,h,s,p⟩:=L;rw[M.zEe36]at p;refine br s p λg v1 Z G1 H1 C J q A f1 f=>?_;split at f
  .rename_i N;obtain⟨xs,ex⟩:=Ad3.j<|show g.cT.p=k9 from N;obtain⟨b,vs,rfl,z2,z3⟩:=A.tup ex;refine⟨⟨b,rfl,W.K▸z2.pl⟩,Zh s.j C q f λI us r G2 H2 K i v O e=>?_⟩;obtain⟨b',vs',eb,z2',z3'⟩:=aj.ext (w:=.v<|.p xs) i q.j ⟨b,vs,rfl,z2,z3⟩;cases eb;cases I with
|nil=>exact e.j
|cons w B=>
    cases B with
|cons _ _=>exact e.j
|nil=>
     obtain⟨u,rfl,D⟩:=O.one;have e:ak Γ E G H ((M.R.of r<|g.cT.j M.GC).j λts h=>(M.R.of h w.aU).j λt h=>(M.R.of h<|M.Kk t ts).j λn h=>if ts.e<=M.aR then M.av (.u (n:Int)) h else .w) _:=e;obtain⟨ts,j,e⟩:=e.of;obtain⟨t,R,e⟩:=e.of;obtain⟨n,V,e⟩:=e.of;cases D.str R;rw[ex,Ah8]at j;cases zt j z3';split at e
     .exact⟨b,ar t,n,ts.y ar,rfl,rfl,W.K▸fg.sq z2',vT t V,(aq.mk e K s.j).v v.j rfl⟩
     .exact e.j
  .exact f.j
|dh=>
  refine PE.imp (Zj S9 Uo PySem.F.type_list_index Fl (Lj W.K W.w) ha hw (aJ S _) (by rw[ja y];rfl) T (ja y) rfl) λU H Q L=>?_;obtain⟨G,Y,h,s,p⟩:=L;rw[M.zEe36]at p;refine br s p λg v1 Z G1 H1 C J q A f1 f=>?_;split at f
  .rename_i N;obtain⟨ys,ey⟩:=Ad3.j<|show(g.bT Z).p=k9 from N;obtain⟨b,vs,rfl,z2,z3⟩:=aj.lst q.j A ey;refine⟨⟨b,vs,rfl,W.K▸z2⟩,Zh s.j C q f λI us r G2 H2 K i v O e=>?_⟩;cases I with
|nil=>exact e.j
|cons w B=>
    cases B with
|cons _ _=>exact e.j
|nil=>obtain⟨u,rfl,D⟩:=O.one;have e:ak Γ E G H ((M.R.of r<|M.KH w g r).j λn h=>M.av (.u (n:Int)) h) _:=e;obtain⟨n,j,e⟩:=e.of;exact⟨G2,r,g,w,u,n,rfl,v.j,A.ext i q.j,D,j,(aq.mk e K s.j).v v.j rfl⟩
  .exact f.j
|starts=>
  refine PE.imp (Zj SQ PySem.F.slot_str_startswith PySem.F.type_str_startswith qM NR ha hw (aJ S _) (by rw[ja y];rfl) T (ja y) rfl) λU H Q L=>?_;obtain⟨G,Y,h,s,p⟩:=L;rw[M.zEe36]at p;refine br s p λg v1 Z G1 H1 C J q A f1 f=>?_;split at f
  .rename_i N;obtain⟨z,P⟩:=Ad3.j<|show g.aU.p=k9 from N;cases A.str P;refine⟨⟨_,rfl⟩,Zh s.j C q f λI us r G2 H2 K i v O e=>?_⟩;cases I with
|nil=>exact e.j
|cons w B=>
    cases B with
|cons _ _=>exact e.j
|nil=>obtain⟨u,rfl,D⟩:=O.one;have e:ak Γ E G H ((M.R.of r g.aU).j λs h=>(M.R.of h w.aU).j λt h=>(M.R.of h<|M.G9 s t).j λb h=>M.av (.K b) h) _:=e;obtain⟨z',j,p3⟩:=e.of;obtain⟨t,R,p4⟩:=p3.of;obtain⟨b,V,p5⟩:=p4.of;rw[P]at j;cases j;cases D.str R;refine⟨ar z,ar t,rfl,rfl,?_⟩;rw[IM V];exact(aq.mk p5 K s.j).v v.j rfl
  .exact f.j
|part=>
  refine PE.imp (Zj SQ T1 PySem.F.type_str_partition qM PJ ha hw (aJ S _) (by rw[ja y];rfl) T (ja y) rfl) λU H Q L=>?_;obtain⟨G,Y,h,s,p⟩:=L;rw[M.zEe36]at p;refine br s p λg v1 Z G1 H1 C J q A f1 f=>?_;split at f
  .rename_i N;obtain⟨z,P⟩:=Ad3.j<|show g.aU.p=k9 from N;cases A.str P;refine⟨⟨_,rfl⟩,Zh s.j C q f λI us r G2 H2 K i v O e=>?_⟩;cases I with
|nil=>exact e.j
|cons w B=>
    cases B with
|cons _ _=>exact e.j
|nil=>
     obtain⟨u,rfl,D⟩:=O.one;have e:ak Γ E G H ((M.R.of r g.aU).j λs h=>(M.R.of h w.aU).j λt h=>(M.R.of h<|M.GS s t).j λd h=>if s.e<=M.aR then M.av d h else .w) _:=e;obtain⟨z',j,p3⟩:=e.of;obtain⟨t,R,p4⟩:=p3.of;obtain⟨d,V,p5⟩:=p4.of;rw[P]at j;cases j;cases D.str R;split at p5
     .rename_i hz;obtain⟨c,a,m,b,rfl,S,rfl⟩:=Se V;exact⟨_,a,m,b,c,rfl,rfl,S,Ac hz<|by rw[M.Gc,SW];decide,λl T=>(aq.mk p5 K s.j).tup v.j ⟨_,_,rfl,rfl,_,_,rfl,rfl,_,_,rfl,rfl,rfl⟩ l T⟩
     .exact p5.j
  .exact f.j
|join=>
  refine PE.imp (Zj SQ PySem.F.slot_str_join PySem.F.type_str_join qM Fe ha hw (aJ S _) (by rw[ja y];rfl) T (ja y) rfl) λU H Q L=>?_;obtain⟨G,Y,h,s,p⟩:=L;rw[M.zEe36]at p;refine br s p λg v1 Z G1 H1 C J q A f1 f=>?_;split at f
  .rename_i N;obtain⟨z,P⟩:=Ad3.j<|show g.aU.p=k9 from N;cases A.str P;refine⟨⟨_,rfl⟩,Zh s.j C q f λI us r G2 H2 K i v O e=>?_⟩;cases I with
|nil=>exact e.j
|cons w B=>
    cases B with
|cons _ _=>exact e.j
|nil=>
     obtain⟨u,rfl,D⟩:=O.one;have e:ak Γ E G H ((M.R.of r g.aU).j λs h=>(M.R.of h<|(w.bT h).j M.GC).j λts h=>if(M.Gv s ts).e<=M.aR/\ts.e<=M.aR/\s.e<=M.aR then M.av (.o<|M.Gv s ts) h else .w) _:=e;obtain⟨z',j,e⟩:=e.of;obtain⟨ts,R,e⟩:=e.of;rw[P]at j;cases j;obtain⟨ys,V,q4⟩:=Ac0.j R;obtain⟨b,vs,rfl,y2,y3⟩:=aj.lst v.j D V;cases zt q4 y3;split at e
     .rename_i c;rw[M.Gc]at c;refine⟨ar z,b,ts.y ar,rfl,rfl,W.K▸y2,?_,?_⟩
      .unfold JoinOk;rw[StrLaws.joinTotal];have hf:=yD (z:=z) ts;have hs:=Au z ts;have:¬(((ts.y ar).y (·.e)).sum+(ts.y ar).e*(ar z).e>sizeLine):=by
        have:sizeLine>=3000000:=by decide
        split at hf<;>lia
       rw[show Builtin.Str.tooLong (((ts.y ar).y (·.e)).sum+(ts.y ar).e*(ar z).e)=y9 from FS this];rfl
      .rw[tV];exact(aq.mk e K s.j).v v.j rfl
     .exact e.j
  .exact f.j
def HC:"set"∈bF:=by decide
def O7:"len"∈bF:=by decide
def OC:"range"∈bF:=by decide
def Ld(a b):(ar a==ar b)=(a==b):=by rw[Al4,TN,TN];exact⟨λe=>by simpa[ar]using e,λe=>by rw[e]⟩
def Fb[BEq α](f:α->bW)(p:∀a b,(f a==f b)=(a==b))(ts):nR (ts.y f)=M.fq [] ts:=by
 have k:∀n c rest,ts=c++rest->c.e=n->(WA (vK<|ts.y f) n).e+M.fq c rest=(WA (vK<|ts.y f) (ts.y f).e).e:=by
  intro n c rest;induction rest generalizing n c with
|nil=>intro d e;rw[Ac4]at d;rw[M.fq,Nat.add_zero,←e,d,Aa4]
|cons x q m=>
   intro d e;have g:vK (ts.y f) n=f x:=by rw[vK,Ac9,Ad,d,Ad7 Y8,e,Vw];rfl
   rw[←(m (n+1) (c++[x]) (by simp_all)<|by simp[e]),M.fq,wn,g];have l:(Ab1 n).y (vK<|ts.y f)=c.y f:=by refine VV (by simp[e]) λi r h=>?_;rw[Aa4]at h;rw[An0,Vu,vK,Ac9,Ad,d,Ae1 h,Ab2 h,An0];rfl
   have j:=yH (vK<|ts.y f) n<|f x;rw[l,Vs]at j;have o:((λy=>y==f x)∘f)=λy=>y==x:=by funext y;exact p y x
   rw[o]at j;rw[Zy,j];split<;>lia
 have:=k 0 [] ts rfl rfl;rw[show(WA _ 0).e=0 from rfl,Am8]at this;exact this.I
def Bx[BEq α](d:Go Γ F X E k cf)(q:ip cf "len" g=true)(i:aY cf.p "set" g2=true)(r:Qa x=true)(L:PE X x<|tD Γ E<|M.eval F a)(b)(n:M.W->M.AH->Option (List α))(f:α->bW)(K:∀a b,(f a==f b)=(a==b))(m)(t:∀Y h,M.eval F m Y h=(M.eval F a Y h).j fun x h=>(M.R.of h<|n x h).j fun ts h=>if ts.e<1000 then M.av (.u ((M.fq [] ts:Nat):Int)) h else .w)
 (C:∀{G H h w v ts},ag Γ G h H->aj Γ G H w v->n w h=y0 ts->∃l,v=.j l/\cz b Γ.K H l (ts.y<|kV∘f)):PE X (.w g [.w g2 [x] [] pos2] [] pos)<|tD Γ E<|M.eval F m:=by
 obtain⟨p,rfl,y,N⟩:=zb (a2 q).2;obtain⟨O,rfl,j,A⟩:=zb i;refine PE.imp (PR (d.C (a2 q).1) (d.y _ y) (d.p _ O7) (d.y _ j) (d.p _ HC) (qc L Jf<|ja r)<|ja r) λU H Q u=>?_;obtain⟨G,Y,h,s,p⟩:=u;rw[t]at p;refine br s p λT v1 S B P I D o z R e=>?_;obtain⟨ts,J,e⟩:=e.of;obtain⟨l,rfl,sq⟩:=C o.j z J;split at e
 .rename_i c;refine⟨b,l,ts.y f,rfl,by rw[Ae5];exact d.K▸sq,by rw[Aa4];exact c,?_⟩;rw[Fb f K];exact e B _ I o.j _ rfl trivial
 .exact e.j
def Ck(d:Go Γ F X E k cf)(m:ip cf "len" g=true)(c:aY cf.p "set" g2=true)(o:Qa x=true)(n:PE X x<|tD Γ E<|M.eval F a):PE X (.w g [.w g2 [x] [] pos2] [] pos)<|tD Γ E<|M.eval F<|.cO a:=
 Bx d m c o n k9 (λx _=>x.cT.j M.GU) .p (λa b=>by rw[Al4];simp) _ (λ_ _=>rfl) λ_ r e=>by obtain⟨p,j,h⟩:=Ac0.j e;obtain⟨l,q,rfl,i,f⟩:=r.tup j;cases Ju h f;exact⟨l,rfl,i.sq⟩
def Ee(f:Go Γ F X E k cf)(n:ip cf "len" g=true)(c:aY cf.p "set" g2=true)(q:Qa x=true)(p:PE X x<|tD Γ E<|M.eval F a):PE X (.w g [.w g2 [x] [] pos2] [] pos)<|tD Γ E<|M.eval F<|.dF a:=
 Bx f n c q p y9 (λx h=>(x.bT h).j M.GC) (λt=>.w<|ar t) (λa b=>by rw[←Ld a b,Al4];simp) _ (λ_ _=>rfl) λo r e=>by obtain⟨s,m,j⟩:=Ac0.j e;obtain⟨l,u,rfl,d,i⟩:=aj.lst o r m;cases zt j i;rw[Ae5]at d;exact⟨l,rfl,d⟩
def Iv:"list"∈bF:=by decide
def uQ:"sorted"∈bF:=by decide
def M5(b:Go Γ F X E k cf)(j:ip cf "list" g=true)(e:aY cf.p "range" g2=true)(m:Qa x=true)(B:PE X x<|tD Γ E<|M.eval F a):PE X (.w g [.w g2 [x] [] pos2] [] pos)<|tD Γ E<|M.eval F<|.bY a:=by
 obtain⟨p,rfl,r,C⟩:=zb (a2 j).2;obtain⟨D,rfl,f,u⟩:=zb e;refine PE.imp (D2 (b.C (a2 j).1) (b.y _ r) (b.p _ Iv) (b.y _ f) (b.p _ OC) (qc B Jf<|ja m)<|ja m) λU H Q o=>?_;obtain⟨G,Y,h,s,p⟩:=o;refine br s p λN v1 L K I y w v t J d=>?_;obtain⟨n,A,d⟩:=d.of;cases t.int A;split at d
 .rename_i c
  refine⟨n.j,by rw[Va c.1],by lia,λl z=>?_⟩;exact aq.own (aq.mk d y s.j) v.j (by
    induction Ab1 n.j with
|nil=>rfl
|cons i is q=>exact⟨_,_,rfl,rfl,q⟩) l z
 .exact d.j
def E6(l:Go Γ F X E k cf){s:M.Tx}{ts:List M.Tx}{k1 k2:Nat}{f p2 b c:Pos}(i:(b.j==c.p)=k9)(g:nA (ar s) (ts.y ar)=k9):
 PE X (.w (.j (.y (.o<|ar s) k1 f) (zc "split") b) [.y (.o bh) k2 p2] [] c)<|tD Γ E<|M.eval F<|.i8 s ts:=by
 refine PE.imp (Zj SQ SH Tv qM Lc xL (qc xL Jf rfl) rfl rfl i rfl rfl) λU H Q e=>?_;obtain⟨G,Y,h,d,p⟩:=e;rw[M.zEe34]at p;exact⟨⟨_,rfl⟩,ar s,ts.y ar,rfl,rfl,g,λa j=>aq.own (aq.mk p Ext.refl d.j) d.j (Jz _) a j⟩
theorem q9(c):∀s n p,Lake.aN c n p s=M.aN c n p s
|[],n,p=>by cases n<;>rfl
|a::s,0,p=>rfl
|a::s,n+1,p=>by rw[Lake.aN,M.aN,q9 c s n,q9 c s<|n+1]
set_option tactic.hygienic true in
def tS(w:Go Γ F X E k cf)(g:(apos.j==cpos.p)=k9)(i:Wo o=k9)(l:PE X o<|tD Γ E<|M.eval F a):
 PE X (.w (.j o (zc "split") apos) (.y (.o bh) k1 j::cond two [.y (.int 2) k2 p2] []) [] cpos)<|tD Γ E<|M.eval F<|.eA two a:=by
 have b:∀{U H Q}{d},d=V.str bh::cond two [.u 2] []->tD Γ E (M.eval F<|.eA two a) U H Q->tD Γ E (M.eval F a) U H λx e=>(∃z,x=.o z)/\∃s L,x=.o ⟨s.j⟩/\((d=[.o ⟨#[32]⟩]/\L=s.e+1)\/(d=[.o ⟨#[32]⟩,.u 2]/\L=2))/\s.e+2<=sizeLine/\∀p,e p=u0->Q (.j p) (ax e p<|.w<|(Lake.aN 32 L [] s).y λz=>V.str ⟨z.j⟩):=by
  rintro U H Q d n ⟨G,Y,h,s,p⟩;refine br s p λB v1 A t e v u r q y j=>?_;unfold M.Kz at j;split at j
  .rename_i z;cases(show v1=.o (ar z)from q);split at j
   .rename_i c;refine⟨⟨_,rfl⟩,z,if two then 2 else z.e+1,rfl,?_,by have:=Xe;exact Ab4 ‹_› ‹_›,λp m=>?_⟩
    .rw[n];cases two
     .exact .p ⟨rfl,rfl⟩
     .exact .w ⟨rfl,rfl⟩
    .rw[q9];have:=Jz (Γ:=Γ) (G:=t) (H:=e)<|M.aN 32 (if two then 2 else z.e+1) [] z;rw[Ae5]at this;exact aq.own (aq.mk j v s.j) r.j this p m
   .exact j.j
  .exact j.j
 cases two with
|false=>exact PE.imp (Zj SQ SH Tv qM qX l (qc xL Jf rfl) (aJ i _) rfl g rfl rfl) λU H Q f=>b rfl f
|true=>exact PE.imp (Zj SQ SH Tv qM qX l (qc xL (qc sZ Jf rfl) rfl) (aJ i _) rfl g rfl rfl) λU H Q f=>b rfl f
def DG(e:Go Γ F X E k cf)(y:aY cf.p "sorted" g=true)(f:Qa x=true)(D:PE X x<|tD Γ E<|M.eval F a):PE X (.w g [x] [] pos)<|tD Γ E<|M.eval F<|.c8 a:=by
 obtain⟨p,rfl,r,i⟩:=zb y;refine PE.imp (zA zQ (e.y _ r) (e.p _ uQ) (by decide+kernel) (qc D Jf<|ja f) (Xg uQ) i (ja f) rfl) λU H Q q=>?_;obtain⟨G,Y,h,s,p⟩:=q;refine br s p λR v1 P O L B A v u N d=>?_;obtain⟨ts,C,d⟩:=d.of;obtain⟨J,w,m⟩:=Ac0.j C;obtain⟨l,K,rfl,t,j⟩:=u.tup w;cases zt m j;split at d
 .rename_i c;refine⟨l,ts.y ar,rfl,e.K▸t.sq,by rw[Aa4];exact c,λI o n b z=>?_⟩;rw[L3 o n];exact aq.own (aq.mk d B s.j) v.j (Jz _) b z
 .exact d.j
def OR(b:Go Γ F X E k cf)(j:t≠.ai)(A:aY cf.p "isinstance" g=true)(C:aY cf.p (iE t) y=true)(m:Qa x=true)(L:PE X x<|tD Γ E<|M.eval F a):PE X (.w g [x,y] [] pos)<|tD Γ E<|M.eval F<|.dR a t:=by
 obtain⟨p,rfl,u,n⟩:=zb A;obtain⟨q,rfl,o,w⟩:=zb C;have e:iE t∈bF:=by cases t<;>first|exact absurd rfl j|decide
 have d:"isinstance"∈bF:=by decide
 have f:PE X (.p (zc<|iE t) q)<|tC<|.ty<|iE t:=Av (b.y _ o) (b.p _ e) (by cases t<;>first|exact absurd rfl j|decide+kernel) rfl (Xg e) w;refine PE.imp (zA (OW b.K) (b.y _ u) (b.p _ d) (Yc) (qc L (qc f Jf)<|ja m) (Xg d) n (ja m) rfl) λU H Q r=>?_;obtain⟨G,Y,h,s,p⟩:=r;rw[M.zEe20]at p;refine br s p λK v1 J B N I D l z O i=>?_;obtain⟨c,v,i⟩:=i.of;exact⟨B,J,K,v1,t,c,rfl,j,l.j,z,v,ak.val i I l.j rfl trivial⟩
set_option tactic.hygienic true in
def F5{b:Bool}(r:aj Γ G H w v)(e:M.bO cl w ts=y0 b):∃c x j,v=.j x/\H x=y0 (hJ x (Γ.j c) j)/\dB Γ c/\b=ts.C (M.GK cl 8 c).w:=by
 unfold M.bO at e;split at e
 .rename_i c;obtain⟨_,x,g,_,h,a⟩|⟨z,_⟩:=r
  .exact⟨c,x,u0,g,h,a,(Ae3.inj e).I⟩
  .exact absurd rfl z
 .rename_i c f d;obtain⟨x,dx,u,g,l,h,a,n,i,m,k⟩:=r;exact⟨c,x,y0 dx,g,a,i,(Ae3.inj e).I⟩
 .cases e
def BZ(d:Go Γ F X E k cf)(n:t="ValueError"\/cf.j.w t=true)(S:aY cf.p "isinstance" g=true)(T:aY cf.p t y=true)(f:Qa x=true)(Z:PE X x<|tD Γ E<|M.eval F a):
 PE X (.w g [x,y] [] pos)<|tD Γ E<|M.eval F<|.bO a k9 [t]:=by
 obtain⟨p,rfl,N,B⟩:=zb S;obtain⟨q,rfl,u,w⟩:=zb T;have j:"isinstance"∈bF:=by decide
 have fin:∀v,PE X _ (tC v)->(∀c,dB Γ c->∀x b,b=[t].C (M.GK Γ.cl 8 c).w->∀e H Q,H x=y0 _->Q (.K b) H->yK X.K [.j x,v] H Q)→
  PE X (.w (.p _ p) [x,.p (zc t) q] [] pos) (tD Γ E<|M.eval F<|.bO a k9 [t]):=λv D o=>by
  refine PE.imp (zA Nd (d.y _ N) (d.p _ j) Yc (qc Z (qc D Jf)<|ja f) (Xg j) B (ja f) rfl) λU H Q K=>?_;obtain⟨G,Y,h,s,p⟩:=K;refine br s p λw1 v1 h1 G1 L W V R P f1 m=>?_;obtain⟨b,O,m⟩:=m.of;obtain⟨c,J,e,rfl,C,I,A⟩:=F5 P O;rw[d.cl]at A;exact o c I J b A e L Q C<|ak.val m W R.j rfl trivial
 by_cases l:cf.j.w t=k9
 .refine fin (.j _) (Jp (d.y _ u) (d.cls t l) rfl w) λc i x b r e H Q f q=>?_;have o:=i.own t (by rw[←d.ow];exact Af4.j l);refine⟨x,Γ.j c,e,b,d.K▸i.k,f,.p ⟨Γ.j t,rfl,?_⟩,q⟩;rw[d.K,o,r];simp
 .have n:=n.j id λz=>absurd z l;subst n;have iY:"ValueError"∈bF:=by decide
  refine fin (.ty "ValueError") (Av (d.y _ u) (d.p _ iY) D7 rfl (Xg iY) w) fun c i x b r e H Q f q=>⟨x,Γ.j c,e,b,d.K▸i.k,f,.w<|.p ⟨"ValueError",rfl,?_⟩,q⟩;rw[d.K,i.ve,r];simp
theorem aa.bX (z:aa Γ G H ds vs)(e:M.bX ds i=y0 d):∃v,Lake.bX vs i=y0 v/\au Γ G H d v:=by
 unfold M.bX at e;unfold Lake.bX;rw[z.length]at e;cases q:M.cL vs.e i with
|none=>rw[q]at e;cases e
|some j=>
  rw[q]at e;obtain⟨v,c,a⟩:=z.get<|e;refine⟨v,?_,a⟩;have b:Lake.cL vs.e i=y0 j:=q
  rwa [b]
def ZN(a:Wb y=k9):uN y:=by
 intro o i;cases y<;>first|rfl|(simp[Wb]at a)
set_option tactic.hygienic true in
def I0(r:Go Γ F X E k cf)(N:Wb y=k9)(S:PE X x<|tD Γ E<|M.eval F a)(L:PE X y<|tD Γ E<|M.eval F b):PE X (.B x y pos)<|tD Γ E<|M.eval F<|.ix a b:=by
 refine PE.imp (oN Nh S L<|ZN N) λU H Q B=>?_;obtain⟨G,Y,h,s,p⟩:=B;refine br s p λR v1 h1 G1 Z P O w j f1 D=>Ji s.j P w D λV v2 C T W z n o J f2 g=>?_;obtain⟨d,q,g⟩:=g.of;have j:=j.ext n w.j;unfold M.bU at q;split at q
 .rename_i i K;cases J.int K;split at q
  .rename_i m I;cases j.str I;split at q
   .rename_i hl;cases c:M.bX m i with
|none=>rw[c]at q;cases q
|some ch=>
     rw[c]at q;cases q;refine .w<|.w ⟨ar m,i,ch,rfl,rfl,by rw[Qc];have:=Xe;exact Ac ‹_› ‹_›,?_,ak.val g z o.j rfl trivial⟩;have:(ar m).j.p=m:=by simp[ar]
     exact c
   .cases q
  .cases c:R.seq? C with
|none=>rw[c]at q;cases q
|some ds=>
    rw[c]at q;obtain⟨l,u,rfl,f,A⟩:=j.seq o.j c;obtain⟨v,e,rd⟩:=A.bX<|q;have t:=ak.val g z o.j rd trivial;obtain f|f:=f
    .exact .p ⟨l,u,i,v,rfl,rfl,r.K▸f,e,t⟩
    .exact .w<|.p ⟨l,u,i,v,rfl,rfl,r.K▸f,e,t⟩
 .cases q
end
section
variable{Γ:Ge}{F:M.Fx}{X:Cx}{E:XK}{k:Nat}{cf:Cf}{a b c:M.E}{x y z:Expr}{pos p2:Pos}
def rj(a:List α)(lo hi):M.cut a lo hi=(a.L<|HT.aS a.e 0 lo).M (HT.aS a.e a.e hi-HT.aS a.e 0 lo):=by
 unfold M.cut;have e:∀d o,M.aS a.e d o=HT.aS a.e d o:=λd o=>by cases o<;>rfl
 rw[e,e]
theorem aa.cut (z:aa Γ G H ds vs)(lo hi):aa Γ G H (M.cut ds lo hi)<|mD vs lo hi:=by rw[rj,z.length];exact(z.drop _).take _
set_option tactic.hygienic true in
def vc{b hi:Option Int}(k:ag Γ G0 h0 H0)(e:Ext G0 H0 G H)(i:ag Γ G h H)(r:aj Γ G H w v)
 (p:ak Γ E G0 H0 (M.ku w b hi h) λw _ G' H'=>∀v,aj Γ G' H' w v->ay Y U H0 w v->Q v H'):((rV Γ.K v b hi H Q\/oH Γ.K v b hi H Q)\/oF Γ.K v b hi H Q)\/oG v b hi H Q:=by
 unfold M.ku at p;split at p
 .rename_i z q;cases r.str q;split at p
  .rename_i c;have o:=Xe;refine .w ⟨_,rfl,by rw[Qc];exact Ac ‹_› ‹_›,?_⟩;have s:lP (ar z) b hi=ar (M.cut z b hi):=by unfold lP;rw[Qc,rj];simp[ar]
   exact aq.v (aq.mk p e k) i rfl
  .exact p.j
 .split at p
  .rename_i j q;obtain⟨l,d,rfl,g,f⟩:=r.tup q;by_cases c:HT.aS d.e 0 b=0/\HT.aS d.e d.e hi=d.e
   .have n:M.cut j b hi=j:=by rw[rj,f.length,c.1,c.2,Am1,Yp,←f.length,An]
    rw[n]at p;exact .p<|.w ⟨l,d,rfl,g.sq,c.1,c.2,p G H e i _ ⟨l,d,rfl,g,f⟩ trivial⟩
   .exact .p<|.p<|.w ⟨l,d,rfl,g.sq,c,λa m=>aq.tup (aq.mk p e k) i (f.cut b hi) a m⟩
  .split at p
   .rename_i j q;obtain⟨l,d,rfl,g,f⟩:=r.lst i q;exact .p<|.p<|.p ⟨l,d,rfl,g,λa m=>aq.own (aq.mk p e k) i (f.cut b hi) a m⟩
   .exact p.j
def Hs(K:Aa1):V->Option Int->Option Int->Hp->VK->Prop:=λx lo hi H Q=>((rV K x lo hi H Q\/oH K x lo hi H Q)\/oF K x lo hi H Q)\/oG x lo hi H Q
def t9:gH X<|Hs X.K:=((iA.or Cc).or LC).or rb
def Pw(e:Go Γ F X E k cf){c:M.E}(v:PE X x<|tD Γ E<|M.eval F a)(t:PE X l<|tD Γ E<|M.eval F c):PE X (.B x (.Slice (y0 l) u0 u0 p2) pos)<|tD Γ E<|M.eval F<|.fT a c:=by refine PE.imp (Bg t9 v (BQ t) td) λU H Q f=>?_;obtain⟨G,Y,h,s,p⟩:=f;refine br s p λJ v1 I D A q o d m C j=>Ji s.j q d j λy v2 B w z r b u n K p2=>?_;obtain⟨i,g,p2⟩:=p2.of;exact⟨i,n.int g,e.K▸vc s.j r u.j (m.ext b d.j) p2⟩
def IK(d:Go Γ F X E k cf)(t:PE X x<|tD Γ E<|M.eval F a)(e:PE X u<|tD Γ E<|M.eval F hi):PE X (.B x (.Slice u0 (y0 u) u0 p2) pos)<|tD Γ E<|M.eval F<|.eC a hi:=by refine PE.imp (Bg t9 t td<|BQ e) λU H Q f=>?_;obtain⟨G,Y,h,s,p⟩:=f;refine br s p λI v1 D C z o n c l B j=>Ji s.j o c j λw v2 A v y q b r m J p2=>?_;obtain⟨i,g,p2⟩:=p2.of;exact⟨i,m.int g,d.K▸vc s.j q r.j (l.ext b c.j) p2⟩
noncomputable def Gh.cell (G:Gh)(a:Addr):Gh:={G with aG:=λr=>if r=G.n then a else G.j r,n:=G.n+1}
def Bh(a):Mon G H (G.cell a) H:=⟨λ_ _ _ z=>z,Ad5 _,λr b=>by show(if r=G.n then a else G.j r)=_;rw[FB<|Ab5 ‹_›],λ_ z=>z⟩
def Xz{a:Addr}{c:M.Cell}(d:ag Γ G h H)(n:¬G.y a)(l:eu G a)(z:bq Γ G H a c):ag Γ (G.cell a) (h++[c]) H where
 len:=by rw[Ab9,d.j];rfl
 any:=λr g q=>by
  show¬G.y (if r=G.n then a else G.j r)/\bq Γ (G.cell a) H (if r=G.n then a else G.j r) g;by_cases j:r=G.n
  .rw[Fk j];rw[j,←d.j,Ad7<|Aa3 _,Vw]at q;cases q;exact⟨n,z.mon (Bh a) λ_ e=>e⟩
  .rw[FB j];have i:r<G.n:=by have:=(Ab3.j q).1;rw[Ab9,d.j]at this;simp at this;lia
   rw[Ae1<|by rw[d.j];exact i]at q;exact⟨(d.C r g q).1,(d.C r g q).2.mon (Bh a) λ_ e=>e⟩
 inj:=λr s k m e=>by
  have k:r<G.n+1:=k;have m:s<G.n+1:=m;have e:(if r=G.n then a else G.j r)=(if s=G.n then a else G.j s):=e;by_cases f:r=G.n
  .by_cases b:s=G.n
   .lia
   .rw[Fk f,FB b]at e;exact absurd e.I<|l s Y8
  .by_cases b:s=G.n
   .rw[FB f,Fk b]at e;exact absurd e<|l r Y8
   .rw[FB f,FB b]at e;exact d.inj r s Y8 Y8 e
 live:=d.p
def MK{a:Addr}(d:ag Γ G h H)(b:¬G.y a)(c:eu G a)(e:H a=y0 (.w vs))(z:aa Γ G H xs vs)(f:M.Gd xs=k9):ag Γ (G.cell a) (h++[.lst xs]) H:=Xz d b c ⟨f,vs,e,z⟩
def HW{a:Addr}(d:ag Γ G h H)(b:¬G.y a)(c:eu G a)(e:H a=y0 (.ins (Γ.j c0) dx0 [])):ag Γ (G.cell a) (h++[.obj c0 []]) H:=Xz d b c ⟨dx0,[],e,rfl⟩
def jA{a:Addr}(e:Ext G0 H0 G H)(f:H0 a=u0):Ext G0 H0 (G.cell a) H where
 keep:=e.j
 le:=Ac e.le<|Ad5 _
 aG:=λr g=>by show(if r=G.n then a else G.j r)=_;rw[FB<|by have:=e.le;lia];exact e.aG r g
 new:=λr d b=>by
  have b:r<G.n+1:=b;show H0 (if r=G.n then a else G.j r)=u0;by_cases c:r=G.n
  .rw[Fk c];exact f
  .rw[FB c];exact e.new r d Y8
 fz:=e.fz
 old:=e.old
 cells:=e.w
def Fs:PE X (.Dict [] [] pos)<|tD Γ E<|M.eval F .dH:=by refine PE.imp Lg λU H Q d=>?_;obtain⟨G,Y,h,s,p⟩:=d;intro a b;have c:=s.j.new (dI []) b;refine ak.val p (jA (zr _ b) b) (Xz c (λz=>by obtain⟨o,q⟩:=s.j.p a z;rw[b]at q;cases q) (s.j.iB b) Xa) ?_ trivial;show h.e<G.n+1/\V.ref a=.j (if h.e=G.n then a else G.j h.e);rw[s.j.j,Fk rfl];exact⟨Ae4 _,rfl⟩
def O9:PE X (.Dict [] [] pos)<|tD Γ E<|M.eval F .dA:=by refine PE.imp Pq λU H Q c=>?_;obtain⟨G,Y,h,s,p⟩:=c;intro a b;refine ak.val p (jA (zr _ b) b) (Xz (s.j.new _ b) (λz=>by obtain⟨o,q⟩:=s.j.p a z;rw[b]at q;cases q) (s.j.iB b) ⟨rfl,[],Xa,rfl⟩) ?_ trivial;show h.e<G.n+1/\V.ref a=.j (if h.e=G.n then a else G.j h.e);rw[s.j.j,Fk rfl];exact⟨Ae4 _,rfl⟩
def yw(e:M.Kv h o=y0 (r,ks)):o=y0 (.v<|.j r)/\h[r]?=y0 (.gP ks):=by
 unfold M.Kv at e;split at e
 .split at e
  .rename_i q;cases e;exact⟨rfl,q⟩
  .cases e
 .cases e
def wo(s:ao Γ G Y h U H)(e:M.Kv h (M.Gi Y i)=y0 (r,ks)):U[i]?=y0 (y0<|.j<|G.j r)/\H (G.j r)=y0 (dI ks):=by obtain⟨b,a⟩:=yw e;obtain⟨v,f,c⟩:=s.w i _ b;obtain⟨g,d⟩:=(c);subst d;exact⟨f,(s.j.C r _ a).2⟩
abbrev dv(a:List<|M.Tx×M.D)(us:List V):List<|Str×V:=(a.y λp=>ar p.1).a1 us
def Of(e:M.GT h o=y0 (r,ks)):o=y0 (.v<|.j r)/\h[r]?=y0 (.gq ks):=by
 unfold M.GT at e;split at e
 .split at e
  .rename_i q;cases e;exact⟨rfl,q⟩
  .cases e
 .cases e
def tW(a b):(ar a==ar b)=(a==b):=by
 cases q:a==b with
|true=>rw[eq_of_beq q];exact S6 _
|false=>exact beq_eq_false_iff_ne.p λz=>(beq_eq_false_iff_ne.j q)<|Wp z
section
variable{G:Gh}{H:Hp}
theorem rQ{k:M.Tx}:∀{ks}{us},aa Γ G H (ks.y (·.2)) us->ks.p k=y0 d->∃v,(dv ks us).p (ar k)=y0 v/\au Γ G H d v
|[],_,_,e=>by cases e
|(g,x)::fs,_,z7,e=>by
  obtain⟨v,r,rfl,b,a⟩:=z7;rw[Ac1]at e;show∃w,((ar g,v)::dv fs r).p (ar k)=y0 w/\_;rw[Ac1,tW];cases q:k==g with
|true=>rw[q]at e;cases e;exact⟨v,rfl,b⟩
|false=>rw[q]at e;exact rQ a e
theorem ou{k:M.Tx}:∀{ks}{us},aa Γ G H (ks.y (·.2)) us->((dv ks us).p<|ar k).p=(ks.p k).p
|[],_,_=>rfl
|(g,x)::fs,_,z7=>by
  obtain⟨v,r,rfl,b,a⟩:=z7;show(((ar g,v)::dv fs r).p<|ar k).p=_;rw[Ac1,Ac1,tW];cases q:k==g with
|true=>rfl
|false=>exact ou a
theorem yR{k:M.Tx}:∀{ks}{us},aa Γ G H (ks.y (·.2)) us->((dv ks us).C λp=>u9<|p.1=ar k)=ks.C λp=>u9<|p.1=k
|[],_,_=>rfl
|(g,x)::fs,_,z7=>by obtain⟨v,r,rfl,b,a⟩:=z7;show(u9 (ar g=ar k)||(dv fs r).C λp=>u9<|p.1=ar k)=(u9 (g=k)||fs.C λp=>u9<|p.1=k);rw[yR a];congr 1;exact decide_eq_decide.p ⟨Wp,congrArg ar⟩
theorem yb{k:M.Tx}(rv:au Γ G H d v):∀{ks}{us},aa Γ G H (ks.y (·.2)) us->∃j,aa Γ G H ((ks.y λp=>if p.1=k then(p.1,d)else p).y (·.2)) j/\((dv ks us).y λp=>if p.1=ar k then(p.1,v)else p)=dv (ks.y λp=>if p.1=k then(p.1,d)else p) j
|[],_,rfl=>⟨[],rfl,rfl⟩
|(g,x)::fs,_,z7=>by
  obtain⟨u,r,rfl,f,e⟩:=z7;obtain⟨j,a,b⟩:=yb rv e;by_cases q:g=k
  .refine⟨v::j,?_,?_⟩
   .simp only[Ac3,q,Os];exact⟨v,j,rfl,rv,a⟩
   .show(if ar g=ar k then(ar g,v)else(ar g,u))::(dv fs r).y _=dv ((if g=k then(g,d)else(g,x))::fs.y _) (v::j);rw[b,Fk<|congrArg ar q,Fk q];rfl
  .have c:=λz=>q<|Wp z;refine⟨u::j,?_,?_⟩
   .simp only[Ac3,q,S5];exact⟨u,j,rfl,f,a⟩
   .show(if ar g=ar k then(ar g,v)else(ar g,u))::(dv fs r).y _=dv ((if g=k then(g,d)else(g,x))::fs.y _) (u::j);rw[b,FB c,FB q];rfl
theorem xO{k:M.Tx}(rv:au Γ G H d v):∀{ks}{us},aa Γ G H (ks.y (·.2)) us->aa Γ G H ((ks++[(k,d)]).y (·.2)) (us++[v])/\dv ks us++[(ar k,v)]=dv (ks++[(k,d)]) (us++[v])
|[],_,rfl=>⟨⟨v,[],rfl,rv,rfl⟩,rfl⟩
|(g,x)::fs,_,z7=>by obtain⟨u,r,rfl,b,a⟩:=z7;exact⟨⟨u,_,rfl,b,(xO rv a).1⟩,congrArg ((ar g,u)::·) (xO rv a).2⟩
def RR{k:M.Tx}(rv:au Γ G H d v)(z:aa Γ G H (ks.y (·.2)) us):∃j,aa Γ G H ((M.Kh ks k d).y (·.2)) j/\iG (dv ks us) (ar k) v=dv (M.Kh ks k d) j:=by
 unfold M.Kh iG;rw[yR z];by_cases c:(ks.C λp=>u9<|p.1=k)=k9
 .rw[Fk c,Fk c];exact yb rv z
 .rw[FB c,FB c];exact⟨_,xO rv z⟩
end
theorem bM:∀{ds},M.Gd ds=k9↔∀d∈ds,M.Gf d=k9
|[]=>⟨λ_ _ h=>absurd h Ac7,λ_=>rfl⟩
|d::ds=>by rw[Aa6,bM,Aj4]
def Fh{k:M.Tx}(a:M.Gf d=k9)(z:M.Gd (ks.y (·.2))=k9):M.Gd ((M.Kh ks k d).y (·.2))=true:=by
 rw[bM]at z⊢;unfold M.Kh;split
 .intro y hy;rw[Ae5,Ae9]at hy;obtain⟨p,b,rfl⟩:=hy;dsimp only[Function.comp];split
  .exact a
  .exact z _<|Vg b
 .intro y hy;rw[Ae8,Ad9]at hy;obtain hy|hy:=hy
  .exact z y hy
  .cases Ab8.j hy;exact a
def Lu(z:aa Γ G H (ks.y (·.2)) us):(dv ks us).e=ks.e:=by have:=z.length;rw[Aa4]at this;rw[Ah4,Aa4];lia
def F7:R2:=λx y H Q=>∃k a kvs v,y=.o k/\x=.j a/\H a=y0 (dS kvs)/\kvs.p k=y0 v/\Q v H
def Si:gd X F7:=by rintro b c e s U H x y v u Q I n h ⟨k,a,j,d,m,ex,f,l,q⟩ i;subst ex m;cases n;obtain⟨_,_,_,_,dd⟩:=j7 I f;exact VT dd.mapOf.typeIs slot_dict_getitem.p (DP I f h l λp o g r=>⟨_,H,g,r,q⟩) i
def HM(neg:Bool):R2:=λx y H Q=>∃k a kvs,x=.o k/\y=.j a/\H a=y0 (dS kvs)/\Q (.K<|if neg then !(kvs.p k).p else(kvs.p k).p) H
def Bf(neg):bB X (compareOp<|fN neg)<|HM neg:=by
 rintro c j U H x y v u Q I d f ⟨k,a,i,ex,h,e,q⟩;subst ex h;cases f;cases neg with
|false=>exact Ob I e d λg b=>⟨.K _,H,b,rfl,q⟩
|true=>exact PM I e d λg b=>⟨.K _,H,b,rfl,q⟩
def Mq:V->V->V->Hp->(Hp->Prop)->Prop:=λo i v H Q=>∃k a kvs,i=.o k/\o=.j a/\H a=y0 (dS kvs)/\kvs.e<sizeLine/\Q (ax H a<|dS<|iG kvs k v)
def MW:nJ X Mq:=by rintro b n U H o i v ov m u Q I ro e rv ⟨k,a,l,f,d,h,g,q⟩;subst f d;cases ro;exact Od I h e rv g λj c=>⟨_,c,q⟩
def ON(neg:Bool):R2:=λx y H Q=>∃k a ks,x=.u k/\y=.j a/\H a=y0 (dI ks)/\Q (.K<|if neg then !ks.w k else ks.w k) H
def sJ(neg):bB X (compareOp<|fN neg)<|ON neg:=by
 rintro c j U H x y v u Q I d f ⟨k,a,i,ex,h,e,q⟩;subst ex h;cases f;cases neg with
|false=>exact EC I e d λg b=>⟨.K _,H,b,rfl,q⟩
|true=>exact B0 I e d λg b=>⟨.K _,H,b,rfl,q⟩
def OD:V->V->V->Hp->(Hp->Prop)->Prop:=λo i v H Q=>∃k a ks,i=.u k/\o=.j a/\v=.K k9/\H a=y0 (dI ks)/\ks.e<sizeLine/\Q (ax H a<|dI<|M.Kp ks k)
def DA:nJ X OD:=by rintro b p U H o i v ov n u Q I ro f rv ⟨k,a,m,g,e,d,j,h,q⟩;subst g e d;cases ro;cases rv;exact Dt I j f h λl c=>⟨_,c,q⟩
def yn(q:tD Γ E (M.eval F<|.a6 a) U H Q):tD Γ E (M.eval F a) U H Q:=by
 obtain⟨G,Y,h,s,p⟩:=q;refine br s p λv v1 c f y t r g o n b=>?_;cases v with
|own d=>
  obtain⟨l,x,rfl,m,i,j,w⟩:=o;obtain⟨z,k,u⟩:=n;cases k;have b:ak Γ E G H (if M.Gd d=k9 then M.av _ (c++[.lst d])else .w) _:=b;by_cases e:M.Gd d=k9;rotate_left
  .rw[FB e]at b;exact b.j
  rw[Fk e]at b;refine ak.val b (jA t u) (MK g.j m i j w e) ?_ trivial;show c.e<f.n+1/\V.ref l=.j (if c.e=f.n then l else f.j c.e);rw[g.j.j,Fk rfl];exact⟨Ae4 _,rfl⟩
|_=>exact b.j
def vX(g:tD Γ E (M.eval F<|.cS a) U H Q):tD Γ E (M.eval F a) U H Q:=by obtain⟨G,Y,h,s,p⟩:=g;refine br s p λt v1 r o n j i f e c b=>?_;obtain⟨d,q,b⟩:=b.of;obtain⟨m,k,l,rd,_⟩:=mi j f s e c q;exact ak.val b k l.j rd trivial
end
structure wE(Γ:Ge)(J:It)(ds:List M.D)(C:Gh->Hp->Prop):Prop where
 go:∀i G H,C G H->i<ds.e->J.go i H
 fy:∀i G H x H',C G H->i<ds.e->J.fy i H x H'->∃G',Ext G H G' H'/\(∀h,ag Γ G h H->ag Γ G' h H')/\∃d,ds[i]?=y0 d/\au Γ G' H' d x
 stop:∀i G H,C G H->ds.e<=i->i<=ds.e->J.stop i H
 keep:∀G H G' H' h,C G H->Ext G H G' H'->ag Γ G h H->C G' H'
noncomputable def Zg(Y:M.Sl)(U:St)(H:Hp):Hp:=λa=>open Classical in if∃(i:Nat)(xs:List M.D),M.Gi Y i=y0 (.j xs)/\U[i]?=y0 (y0<|.j a)then u0 else H a
def gQ(Γ:Ge)(E:XK)(a:Bool)(m:M.Sl->M.AH->M.R (List M.D)):TI:=λU H R=>∃G Y h,ao Γ G Y h U H/\ak Γ E G H (m Y h) λds _ G' H'=>∀J C,wE Γ J ds C->C G' H'->(a=k9->C G' (Zg Y U H'))->R J H'
def PI.imp (h:PI X tg e t)(k:∀U H R,t' U H R->t U H R):PI X tg e t':=λa s U H R I q=>h a s U H R I<|k _ _ _ q
section
variable{Γ:Ge}{F:M.Fx}{X:Cx}{E:XK}{k:Nat}{cf:Cf}{a b c:M.E}{x y z tg:Expr}{pos p2:Pos}{lp:Bool}
def oj(Γ:Ge)(G:Gh)(H:Hp)(l:Addr)(vs:List V):Prop:=(Rd H l (.w vs)/\eu G l)\/vZ Γ l vs
def CL(Γ:Ge)(ds:List M.D)(l:Addr)(vs:List V)(G:Gh)(H:Hp):Prop:=oj Γ G H l vs/\aa Γ G H ds vs
def oj.sq (z:oj Γ G H l vs):bu Γ.K H l vs:=z.j (λz=>.p z.1) .w
def kn.pA (z:kn Γ G H l vs)(a:ag Γ G h H):oj Γ G H l vs:=z.j (λz=>.p ⟨z.2,a.off z.1⟩) .w
def CL.keep (z:CL Γ ds l vs G H)(e:Ext G H G' H')(d:ag Γ G h H):CL Γ ds l vs G' H':=by
 obtain⟨a,c⟩:=z;refine⟨?_,c.ext e d⟩;obtain⟨a,b⟩|a:=a
 .refine .p ⟨e.rd a b,?_⟩;obtain a|⟨o,a⟩:=a
  .exact e.off a b
  .exact e.off a b
 .exact .w a
def CT(Γ:Ge)(ds:List M.D)(l:Addr)(vs:List V)(G:Gh)(H:Hp):Prop:=fg Γ G H l vs/\aa Γ G H ds vs
def fg.mon (z:fg Γ G H l vs)(e:Mon G H G' H'):fg Γ G' H' l vs:=z.j (λz=>.p ⟨e.fz l z.1,e.keep l _ z.1 z.2⟩) λz=>.w z
def CS(b:Bool)(Γ:Ge)(ds:List M.D)(l:Addr)(vs:List V)(G:Gh)(H:Hp):Prop:=match b with
|false=>CL Γ ds l vs G H
|true=>CT Γ ds l vs G H
section
variable{b:Bool}{ds:List M.D}{l:Addr}{vs:List V}{G G':Gh}{H H':Hp}{h:M.AH}
theorem CS.sq (c:CS b Γ ds l vs G H):cz b Γ.K H l vs:=by
 cases b
 .exact(c).1.sq
 .exact(c).1.sq
def CS.rel (c:CS b Γ ds l vs G H):aa Γ G H ds vs:=by
 cases b
 .exact(c).2
 .exact(c).2
theorem CS.keep (c:CS b Γ ds l vs G H)(e:Ext G H G' H')(a:ag Γ G h H):CS b Γ ds l vs G' H':=by
 cases b
 .exact CL.keep c e a
 .exact⟨(c).1.mon<|e.mon a,(c).2.ext e a⟩
def CS.walk {b:Bool}{K:Aa1}(d:K=Γ.K):wE Γ (ll b K l) ds<|CS b Γ ds l vs where
 go:=λi G H c a=>by obtain⟨v,e,_⟩:=c.rel.get<|Ab2 a;exact⟨vs,v,d▸c.sq,e⟩
 fy:=by rintro i G H x f c a ⟨e,y⟩;subst e;obtain⟨v,e,rd⟩:=c.rel.get<|Ab2 a;have:=y vs<|d▸c.sq;rw[e]at this;cases this;exact⟨G,Ext.refl,λ_ q=>q,_,Ab2 a,rd⟩
 stop:=λi G H c a _=>⟨vs,d▸c.sq,by rw[←c.rel.length];exact a⟩
 keep:=λG H j f h z e g=>z.keep e g
end
def CZ.walk {l a:Addr}{K:Aa1}(d:K=Γ.K):wE Γ (m1 b1 b2 K l a) ((xs.a1 ys).y λp=>.p [p.1,p.2])<|λG H=>CS b1 Γ xs l vs G H/\CS b2 Γ ys a us G H where
 go:=by rintro i G H ⟨c,b⟩ g;rw[Aa4,Ah4]at g;obtain⟨v,e,_⟩:=c.rel.get<|Ab2 (show i<xs.e by lia);obtain⟨v2,r,_⟩:=b.rel.get<|Ab2 (show i<ys.e by lia);exact⟨vs,v,us,v2,d▸c.sq,e,d▸b.sq,r⟩
 fy:=by
  rintro i G H x A ⟨c,b⟩ g ⟨p,n,f,k,ex,B,s,m⟩;rw[Aa4,Ah4]at g;subst ex B;have i1:i<xs.e:=by lia
  have i2:i<ys.e:=by lia
  obtain⟨v,e,rd⟩:=c.rel.get<|Ab2 i1;obtain⟨v2,r,t⟩:=b.rel.get<|Ab2 i2;have y:=s vs<|d▸c.sq;rw[e]at y;cases y;have w:=m us<|d▸b.sq;rw[r]at w;cases w;have u:Mon G H (G.more p)<|ax H p<|.tup [n,f]:=⟨λa o C q=>by rw[Ja<|Zb q k];exact q,Aa3 _,λ_ _=>rfl,λ_ z=>Or.inl z⟩;refine⟨G.more p,We _ k,λh j=>j.fh _ k,.p [xs[i],ys[i]],?_,⟨p,[n,f],rfl,.p ⟨.w rfl,Xa⟩,⟨n,[f],rfl,rd.mon u,⟨f,[],rfl,t.mon u,rfl⟩⟩⟩⟩;rw[Ad,Ab2<|by rw[Ah4];exact g,List.getElem_zip];rfl
 stop:=by rintro i G H ⟨c,b⟩ s m;rw[Aa4,Ah4]at s m;exact⟨vs,us,d▸c.sq,d▸b.sq,by rw[←c.rel.length,←b.rel.length];lia⟩
 keep:=(by rintro G H D A h⟨c,b⟩e j;exact⟨c.keep e j,b.keep e j⟩)
def Rc{b:Int}:wE Γ (mY b n) ((Ab1 n).y λ(i:Nat)=>M.D.int<|b+(i:Int))<|λ_ _=>True where
 go:=λi G H _ a=>show i<n by simpa using a
 fy:=λi G H x d _ a c=>by
  obtain⟨e,y⟩:=c;subst e y;have a:=by simpa using a
  exact⟨G,Ext.refl,λ_ q=>q,.u<|b+i,by simp[a],rfl⟩
 stop:=λi G H _ a _=>show n<=i by simpa using a
 keep:=λ_ _ _ _ _ _ _ _=>trivial
def ZE{z:M.Tx}:wE Γ (kM<|ar z) (M.dY z)<|λ_ _=>True where
 go:=λi G H _ a=>by
  have a:=by simpa[M.dY]using a
  exact⟨z[i],by simp[ar,a]⟩
 fy:=λi G H x g _ a f=>by
  obtain⟨e,c,b,d⟩:=f;subst e d;have a:=by simpa[M.dY]using a
  have b:=by simpa[ar]using b
  exact⟨G,Ext.refl,λ_ q=>q,.o [c],by simp[M.dY,b],rfl⟩
 stop:=λi G H _ a _=>by
  have a:=by simpa[M.dY]using a
  show(ar z).j[i]?=u0;simp[ar,a]
 keep:=λ_ _ _ _ _ _ _ _=>trivial
def Xh(a:¬∃i xs,M.Gi Y i=y0 (.j xs)/\U[i]?=y0 (y0<|.j l)):Zg Y U H l=H l:=by unfold Zg;rw[FB a]
def Wm(s:ao Γ G Y h U H)(e:M.Gi Y i=y0 (.j xs))(c:U[i]?=y0 (y0<|.j l)):¬G.y l/\eu G l/\∃vs,H l=y0 (.w vs)/\aa Γ G H xs vs:=by obtain⟨v,b,a,vs,d,f,g,k,j⟩:=s.w i _ e;rw[c]at b;cases b;cases d;exact⟨f,g,vs,k,j⟩
def Js(s:ao Γ G Y h U H):Mon G H G<|Zg Y U H:=by
 refine⟨λa o z e=>?_,Aa3 _,λ_ _=>rfl,λ_ z=>z⟩
 rwa [Xh<|by rintro⟨i,d,b,c⟩;exact(Wm s b c).1 z]
def IB(w:Go Γ F X E k cf)(N:PE X x<|tD Γ E<|M.eval F a):PI X tg x<|gQ Γ E y9<|M.Gp F<|.seq a:=by
 refine PI.imp (pW N) λU H R D=>?_;obtain⟨G,Y,h,s,p⟩:=D;refine br s p λL v1 K t g y I r n O i=>?_;have fin:∀b {f},ak Γ E G H (.p f K) (λf x A q=>∀J C,wE Γ J f C->C A q->(y9=k9->C A (Zg Y U q))->R J q)->(∃l c,v1=.j l/\CS b Γ f l c t g)->(∃b a,v1=.j a/\(∃B,cz b X.K g a B)/\R (ll b X.K a) g)\/∃z,v1=.o z/\R (kM z) g:=λb _ p ⟨l,c,e,j⟩=>
  .p ⟨b,l,e,⟨c,w.K▸j.sq⟩,p t g y r.j _ _ (CS.walk w.K) j λz=>absurd z Ab0⟩
 cases L with
|v d=>
  cases d with
 |tup f=>obtain⟨l,c,e,j⟩:=n;exact fin k9 i ⟨l,c,e,j⟩
 |lst f=>obtain⟨l,c,e,j,m⟩:=n;exact fin y9 i ⟨l,c,e,j.pA r.j,m⟩
 |str z=>cases(show v1=.o (ar z)from n);exact .w ⟨_,rfl,i t g y r.j _ _ ZE trivial λz=>absurd z Ab0⟩
 |_=>exact i.j
|own f=>obtain⟨l,c,e,_,m,o,u⟩:=n;exact fin y9 i ⟨l,c,e,.p ⟨.p o,m⟩,u⟩
|bor f=>obtain⟨l,c,e,m,o,u⟩:=n;exact fin y9 i ⟨l,c,e,.p ⟨o,m⟩,u⟩
def ES:"zip"∈bF:=by decide
def Bv(o:Go Γ F X E k cf)(P:lp=k9->∀{G0 G}{Y}{O h}{U}{H0 H},ao Γ G0 Y O U H0->ao Γ G Y h U H->∀{xs}{v}{b},aj Γ G H (cond b (.v<|.p xs)<|.j xs) v->ay Y U H0 (cond b (.v<|.p xs)<|.j xs) v->∃l vs,v=.j l/\CS b Γ xs l vs G H/\CS b Γ xs l vs G (Zg Y U H))
 (hg:aY cf.p "zip" g=true)(T:Qa x=true)(N:Qa y=true)(ha:PE X x<|tD Γ E<|M.eval F a)(hb:PE X y<|tD Γ E<|M.eval F b):PI X (.L elts x1 tp) (.w g [x,y] [] pos)<|gQ Γ E lp<|M.Gp F<|.zip a b:=by
 obtain⟨p0,rfl,I,h3⟩:=zb hg;refine PI.imp (Mz (o.y _ I) (o.p _ ES) (qc ha (qc hb Jf<|ja N)<|ja T) (by rw[ja T,ja N];rfl)<|by rw[ja N];rfl) λU H R qq=>?_;obtain⟨G,Y,h,s,p⟩:=qq;refine br s p λw1 v1 h1 G1 H1 e1 e1' L r1 f1 p1=>Ji s.j e1 L p1 λw2 v2 I m c e2 w s2 W Z u=>?_;have at_:∀{G0}{O}{H0},ao Γ G0 Y O U H0->∀{b}{xs}{v},aj Γ m c (cond b (.v<|.p xs)<|.j xs) v->ay Y U H0 (cond b (.v<|.p xs)<|.j xs) v->∃l vs,v=.j l/\CS b Γ xs l vs m c/\(lp=k9->CS b Γ xs l vs m (Zg Y U c)):=by
  intro G0 O H0 s0 b xs v r f;cases lp with
|true=>obtain⟨l,vs,j,q,i⟩:=P rfl s0 s2 r f;exact⟨l,vs,j,q,λ_=>i⟩
|false=>
   cases b with
|true=>obtain⟨l,vs,j,q,i⟩:=r;exact⟨l,vs,j,⟨q,i⟩,λz=>absurd z Ab0⟩
|false=>obtain⟨l,vs,j,_,i,D,q5⟩:=r;exact⟨l,vs,j,⟨.p ⟨.p D,i⟩,q5⟩,λz=>absurd z Ab0⟩
 have fin:∀n e {xs d},ak Γ E G H (.p ((xs.a1 d).y λp=>M.D.tup [p.1,p.2]) I) (λds _ S K=>∀J C,wE Γ J ds C->C S K->(lp=k9->C S (Zg Y U K))->R J K)->aj Γ m c _ v1->ay Y U H (cond n _<|.j xs) v1->aj Γ m c (cond e (.v<|.p d)<|.j d) v2->ay Y U H1 (cond e (.v<|.p d)<|.j d) v2→
  ∃n e l a xs d,[v1,v2]=[.j l,.j a]/\cz n X.K c l xs/\cz e X.K c a d/\R (m1 n e X.K l a) c:=λn e {xs d} p j q i D=>by
  obtain⟨l,vs,rfl,Q,A⟩:=at_ s j q;obtain⟨l2,us,rfl,V,B⟩:=at_ L i D;exact⟨n,e,l,l2,vs,us,rfl,o.K▸Q.sq,o.K▸V.sq,p m c e2 s2.j _ _ (CZ.walk o.K) ⟨Q,V⟩ λz=>⟨A z,B z⟩⟩
 have t:=r1.ext w L.j;split at u
 .exact fin y9 k9 u t f1 W Z
 .exact fin k9 y9 u t f1 W Z
 .exact u.j
def FV(n:Int):((Ab1 n.j).y λ(i:Nat)=>M.D.int (i:Int))=(Ab1 n.j).y λ(i:Nat)=>M.D.int<|0+(i:Int):=by congr 1;funext i;rw[Int.zero_add]
def MD:"range"∈bF:=by decide
def JG(d:Go Γ F X E k cf)(o:aY cf.p "range" g=true)(e:Qa x=true)(v:PE X x<|tD Γ E<|M.eval F a):PI X tg (.w g [x] [] pos)<|gQ Γ E lp<|M.Gp F<|.aA a:=by
 obtain⟨p,rfl,j,w⟩:=zb o;refine PI.imp (Cb (d.y _ j) (d.p _ MD) (qc v Jf<|ja e)<|ja e) λU H R f=>?_;obtain⟨G,Y,h,s,p⟩:=f;refine br s p λA v1 z r i u t m l y b=>?_;obtain⟨n,q,b⟩:=b.of;split at b
 .rename_i c;rw[M.Kb]at c;cases l.int q;rw[FV]at b;exact⟨n,rfl,c.1,c.2,b r i u m.j _ _ Rc trivial λ_=>trivial⟩
 .exact b.j
end
section
variable{Γ:Ge}{F:M.Fx}{X:Cx}{E:XK}{k:Nat}{cf:Cf}
theorem Qh:∀(Y)(i j)(w),M.Gi (M.GF Y i w) j=if j=i/\i<Y.e then y0 w else M.Gi Y j
|[],i,j,w=>by simp
|x::r,0,0,w=>by simp
|x::r,0,j+1,w=>by simp
|x::r,i+1,0,w=>by simp
|x::r,i+1,j+1,w=>by
  have:=Qh r i j w;simp only[M.GF,M.Gi,this,Ab6];by_cases h:j=i/\i<r.e
  .rw[Fk h,Fk Y8]
  .rw[FB h,FB Y8]
theorem Zq:∀(Y)(i)(w),(M.GF Y i w).e=Y.e
|[],_,_=>rfl
|_::_,0,_=>rfl
|_::r,i+1,w=>by simp[Zq r i w]
theorem Jr:∀{Y}{i}{w},M.Gi Y i=y0 w->i<Y.e
|[],_,_,e=>by simp at e
|_::_,0,_,_=>by simp
|_::r,i+1,w,e=>by have:=Jr (by simpa using e);simp;exact‹_›
theorem ao.set (s:ao Γ G Y h U H)(r:aj Γ G H w v)
 (n:gT w=k9->∀j O,j≠i->M.Gi Y j=y0 O->gT O=k9->∀a,v=.j a->U[j]?≠y0 (y0<|.j a)):ao Γ G (M.GF Y i w) h (U.B i<|y0 v) H where
 len:=by rw[Zq,Ae];exact s.len
 slot:=λj O e=>by
  rw[Qh]at e;by_cases c:j=i/\i<Y.e
  .rw[Fk c]at e;cases e;obtain⟨rfl,c⟩:=c;exact⟨v,Ac2<|by rw[←s.len];exact c,r⟩
  .rw[FB c]at e;have B:=λz=>c ⟨z,by subst z;exact Jr e⟩;obtain⟨y,A,x⟩:=s.w j O e;exact⟨y,by rw[Ac5<|Ne.symm B];exact A,x⟩
 apart:=λp q t O a b f d m l=>by
  rw[Qh]at f d;by_cases k:p=i/\i<Y.e
  .rw[Fk k]at f;cases f;obtain⟨rfl,k⟩:=k;rw[FB<|λz=>b z.1.I]at d;rw[Ac2<|by rw[←s.len];exact k]at l;cases l;rw[Ac5 b];exact n rfl q O (Ne.symm b) d m a rfl
  .rw[FB k]at f;have o:=λz=>k ⟨z,by subst z;exact Jr f⟩;rw[Ac5<|Ne.symm o]at l;by_cases g:q=i/\i<Y.e
   .rw[Fk g]at d;cases d;obtain⟨rfl,g⟩:=g;rw[Ac2<|by rw[←s.len];exact g];intro z;cases z;exact n m p _ o f rfl a rfl l
   .rw[FB g]at d;have u:=λz=>g ⟨z,by subst z;exact Jr d⟩;rw[Ac5<|Ne.symm u];exact s.p p q t O a b f d m l
 heap:=s.j
def ao.ek (s:ao Γ G Y h U H)(r:au Γ G H d v):ao Γ G (M.GF Y i<|.v d) h (U.B i<|y0 v) H:=s.set r λz=>by cases z
noncomputable def gS:List Nat->List V->St->St
|i::is,v::vs,U=>gS is vs<|U.B i<|y0 v
|_,_,U=>U
theorem ZK:∀{is}{ds}{vs}{Y j}{U},M.aC is ds Y=y0 j->aa Γ G H ds vs->ao Γ G Y h U H->ao Γ G j h (gS is vs U) H/\is.e=vs.e
|[],[],_,_,_,_,e,rfl,s=>by cases e;exact⟨s,rfl⟩
|[],_::_,_,_,_,_,e,_,_=>by simp[M.aC]at e
|_::_,[],_,_,_,_,e,_,_=>by simp[M.aC]at e
|i::is,d::ds,_,_,_,_,e,z7,s=>by obtain⟨v,r,rfl,f,a⟩:=z7;obtain⟨b,c⟩:=ZK (by simpa[M.aC]using e) a<|s.ek f;exact⟨b,congrArg (·+1) c⟩
def gM(Γ:Ge)(tg:List Nat)(one:Bool):TG:=λv U H Q=>match one with
|true=>∃i,tg=[i]/\Q (U.B i<|y0 v) H
|false=>∃G ds vs a,v=.j a/\fg Γ G H a vs/\aa Γ G H ds vs/\tg.e=vs.e/\Q (gS tg vs U) H
theorem Qs(b:Go Γ F X E k cf):∀{is}{es},zq cf is es=k9->kz X es (λvs U H Q=>vs.e=is.e/\Q (gS is vs U) H)
|[],[],_=>λa s U H vs d Q I r h=>by have c:=Ah0 h.1;subst c;exact ub a s U H [] d Q I r ⟨rfl,h.2⟩
|[],_::_,h=>by simp[zq]at h
|_::_,[],h=>by simp[zq]at h
|i::is,e::es,h=>by
  cases e with
|Name x p=>
   simp only[zq,Aa6,Pi]at h;obtain⟨⟨m,l⟩,g⟩:=h;have j:=Qs b g;have c:=b.gU x l;have f:=JP (Z9 (pos:=p) (by rw[b.N];exact b.nd) (by rw[b.N];exact m) c.1 c.2) j;intro a s U H vs d Q I r q;refine f a s U H vs d Q I r ?_;cases vs with
 |nil=>simp at q
 |cons v vs=>refine⟨v,vs,rfl,?_⟩;exact⟨by simpa using q.1,q.2⟩
|_=>simp[zq]at h
theorem JN:∀{is}{es},zq cf is es=k9->(assignEach es env).e=is.e/\(assignEach es env).findIdx? (·.1)=u0
|[],[],_=>⟨rfl,rfl⟩
|[],_::_,h=>by simp[zq]at h
|_::_,[],h=>by simp[zq]at h
|i::is,e::es,h=>by
  cases e with
|Name x p=>simp only[zq,Aa6]at h;obtain⟨b,c⟩:=JN h.2;have a:assignEach (.p x p::es) env=(y9,assign (.p x p) env)::assignEach es env:=rfl;rw[a];refine⟨congrArg (·+1) b,?_⟩;rw[List.findIdx?_cons];simp[c]
|_=>simp[zq]at h
def Jn(c:Go Γ F X E k cf)(h:Qe cf tg one e=k9):PG X e<|gM Γ tg one:=by
 cases one with
|true=>
  cases e with
 |Name x p=>
   simp[Qe,Aa6]at h;cases tg with
   |nil=>simp at h
   |cons i r=>
    cases r with
   |cons _ _=>simp at h
   |nil=>simp only[zq,Aa6,Pi]at h;obtain⟨_,⟨z,o⟩,_⟩:=h;have l:=c.gU x o;have f:=Z9 (pos:=p) (by rw[c.N];exact c.nd) (by rw[c.N];exact z) l.1 l.2;intro b s U H v u Q I r q;obtain⟨j,e,q⟩:=q;cases e;exact f b s U H v u Q I r q
 |_=>simp[Qe]at h
|false=>
  cases e with
|Tuple B n p=>obtain⟨y,h⟩:=a2<|h;obtain⟨t,d⟩:=JN h;intro b s U H v u Q I r q;obtain⟨G,A,m,a,rfl,w,C,g,q⟩:=q;exact(uB (c.C y) (Qs c h) t d) b s U H _ u Q I r ⟨a,m,rfl,c.K▸w.sq,g.I,g.I,q⟩
|_=>simp[Qe]at h
def MJ(c:Go Γ F X E k cf)(l:cf.uh=k9->lU X)(h:pN cf tg es=k9):PG X (.L es n p)<|gM Γ tg y9:=by
 obtain⟨j,h⟩:=a2 h;obtain z|z:=Aj5.j j
 .exact Jn c<|show xY cf tg es=k9 by unfold xY;rw[z,h];rfl
 .obtain⟨g,d⟩:=JN h;intro b s U H v u Q I r q;obtain⟨G,m,f,a,rfl,i,o,e,q⟩:=q;exact(IA (l z) (Qs c h) g d) b s U H _ u Q I r ⟨a,f,rfl,c.K▸i.sq,e.I,e.I,q⟩
def EI(Γ:Ge)(tg:List Nat):TG:=λv U H Q=>∃a vs,v=.j a/\bu Γ.K H a vs/\tg.e=vs.e/\Q (gS tg vs U) H
def H9(c:Go Γ F X E k cf){tg:List Nat}{es:List Expr}{n:Nat}{p:Pos}(h:xY cf tg es=k9):PG X (.L es n p)<|EI Γ tg:=by obtain⟨j,h⟩:=a2 h;obtain⟨g,d⟩:=JN h;intro b s U H v u Q I r q;obtain⟨a,f,rfl,i,e,q⟩:=q;exact(HR (c.C j) (Qs c h) g d) b s U H _ u Q I r ⟨a,f,rfl,c.K▸i,e.I,e.I,q⟩
def Xj(k)(l):∀i,M.Gi (Ab k u0++l) (k+i)=M.Gi l i:=by
 induction k with
|zero=>intro i;simp
|succ k a=>intro i;rw[Ad0,show k+1+i=(k+i)+1 by lia];exact a i
def Qp(k)(l):∀{i},i<k->M.Gi (Ab k u0++l) i=none:=by
 induction k with
|zero=>intro i h;lia
|succ k a=>
  intro i h;cases i with
|zero=>rfl
|succ i=>rw[Ad0];exact a<|S3 ‹_›
theorem qA:∀(l)(i),M.Gi l i=(l[i]?).join
|[],_=>by simp
|_::_,0=>by simp
|_::r,i+1=>by simpa using qA r i
def ZL(s:ao Γ G Y h U H)(e:M.Gn Y j=y0 w):∃v,U[j]?=y0 (y0 v)/\aj Γ G H w v/\(gT w=k9->∃O,M.Gi Y j=y0 O/\gT O=k9)/\n9 w=true:=by
 unfold M.Gn at e;cases q:M.Gi Y j with
|none=>rw[q]at e;cases e
|some O=>
  obtain⟨v,c,b⟩:=s.w j O q;rw[q]at e;cases O with
|v d=>cases e;exact⟨v,c,b,λz=>(by cases z),rfl⟩
|own k=>cases e;obtain⟨a,l,i,n,f,m,g⟩:=b;exact⟨v,c,⟨a,l,i,f,.p m,g⟩,λ_=>⟨_,rfl,rfl⟩,rfl⟩
|bor k=>cases e;exact⟨v,c,b,λ_=>⟨_,rfl,rfl⟩,rfl⟩
def kB(k:Nat)(az:List Nat)(Y:M.Sl):M.Sl:=Ab k u0++az.y λj=>M.Gn Y j
def L7(s:ao Γ G Y h U H)(kk)(az)(d:Ub.e=kk+az.e)(f:∀i,i<az.e->Ub[kk+i]?=y0 ((U[az.G i 0]?).join)):
 ao Γ G (kB kk az Y) h Ub H where
 len:=by unfold kB;rw[Ab9,Ad4,Aa4,d]
 slot:=λi w e=>by
  unfold kB at e;by_cases g:i<kk
  .rw[Qp kk _ g]at e;cases e
  .obtain⟨j,rfl⟩:∃j,i=kk+j:=⟨i-kk,by lia⟩;rw[Xj,qA,Ad]at e;cases q:az[j]? with
|none=>rw[q]at e;cases e
|some c=>rw[q]at e;have e:=e;obtain⟨v,n,m,_⟩:=ZL s e;have o:=(Ab3.j q).1;refine⟨v,?_,m⟩;rw[f j o,Ac9,q];show y0 ((U[c]?).join)=_;rw[n];rfl
 apart:=λi j p w a l b r t u=>by
  exfalso;unfold kB at b;by_cases g:i<kk
  .rw[Qp kk _ g]at b;cases b
  .obtain⟨k,rfl⟩:∃j,i=kk+j:=⟨i-kk,by lia⟩;rw[Xj,qA,Ad]at b;cases q:az[k]? with
|none=>rw[q]at b;cases b
|some c=>rw[q]at b;have b:=b;obtain⟨_,_,_,_,z⟩:=ZL s b;cases z
 heap:=s.j
end
def Qf{env:Env}{a:NameKind}(b:a≠.C){names x}(h:names.p x=y0 a):(i9 env names).p x=y0 a:=by rw[rl,h,Ak7,FB];simp[b]
section
open Lake renaming MS.Ext.trans->Lake.MS.Ext.x
variable{Γ:Ge}{F:M.Fx}{X:Cx}{E:XK}{k:Nat}{cf:Cf}
structure lj(cf:Cf)(scope:Scope)(N:List Str)(k:Nat)(az:List Nat):Prop where
 kind:scope.p=.j
 HB:(scope.j.y Prod.fst).N
 names:∀y∈scope.j,y.2=.local->scope.j.p y.1=y0 .local
 free:∀y∈scope.j,y.2=.C->cf.p.j.p y.1=y0 .w\/cf.p.j.p y.1=y0 .C
 kD:∀x∈N.L k,scope.j.p x=y0 .C
 az:qD cf az (N.L k)=k9
 le:k<=N.e
 nd:N.N
 cb:cf.cb=k9
def XF(h:j9 cf scope N kk az=k9):lj cf scope N kk az:=by simp only[j9,Aa6,Pi,Af0]at h;obtain⟨⟨⟨⟨⟨⟨⟨⟨⟨e,c⟩,g⟩,b⟩,i⟩,j⟩,f⟩,d⟩,a⟩,k⟩:=h;exact⟨c,g,b,i,j,f,d,a,e⟩
theorem wS(a:Go Γ F X E k cf):∀{az}{xs},qD cf az xs=k9->cG X az xs
|[],[],_=>trivial
|[],_::_,h=>by simp[qD]at h
|_::_,[],h=>by simp[qD]at h
|j::e,x::xs,h=>by simp only[qD,Aa6,Pi]at h;obtain⟨⟨b,d⟩,c⟩:=h;exact⟨by rw[a.N];exact b,a.kj x d,wS a c⟩
def WS(a:Go Γ F X E k cf)(h:lj cf scope N kk az):QT X scope N kk az:=
 ⟨h.kind,h.HB,h.names,λy hy b=>a.kj y.1<|h.free y hy b,h.kD,wS a h.az,h.le⟩
def yZ(h:eI sc x=k9):sc.j.p x=y0 .local\/sc.j.p x=y0 .w\/sc.j.p x=y0 .C:=by
 unfold eI at h;split at h
 .rename_i q;exact .p q
 .rename_i q;exact .w<|.p q
 .rename_i q;exact .w<|.w q
 .cases h
def BC(h:kI sc x=k9):sc.j.p x=y0 .local\/sc.j.p x=y0 .w:=by
 unfold kI at h;split at h
 .rename_i q;exact .p q
 .rename_i q;exact .w q
 .cases h
def WD(h:iK sc x=k9):sc.j.p x=y0 .globalImplicit:=by
 unfold iK at h;split at h
 .rename_i q;exact q
 .cases h
def qx(a:Go Γ F X E k cf)(h:lj cf scope N kk az)(C:Addr)(o:List Addr)(s:Shared)(H:Hp):Go Γ F (Wd X N scope C o s H) E0 k {cf with sc:=scope,N:=N} where
 N:=rfl
 K:=a.K
 cl:=a.cl
 ow:=a.ow
 nd:=h.nd
 gy:=λx hx=>by
  rcases yZ hx with q|q|q
  .exact .p<|Qf Y7 q
  .exact .w<|.p<|Qf Y7 q
  .exact .w<|zl q
 lb:=λx hx=>Qf Y7 hx
 gU:=λx hx=>by
  rcases BC hx with q|q
  .exact⟨.p<|Qf Y7 q,.w<|Qf Y7 q⟩
  .exact⟨.w<|Qf Y7 q,.p<|On q⟩
 kj:=λx hx=>by
  rcases hx with q|q
  .exact .p<|Qf Y7 q
  .exact zl q
 gl:=λx hx=>Qf Y7<|WD hx
 calm:=a.C
 room:=a.w
 bQ:=a.bQ
 pass:=λn U y v e u _ r=>by obtain⟨x,z,t,B,w,_,_,_,_,_,_,_,_,_,_,p⟩:=r;exact p.j
 blt:=a.p
 con:=a.con
 fn:=λf l=>by obtain⟨b,d,g,m,j,c,i⟩:=(a.fn f l).imp λb h=>h.ex;exact⟨b,⟨d,g,m,j,c,i⟩⟩
 lz:=λf l=>by obtain⟨b,d,g,m,j,c,i⟩:=(a.lz f l).imp λb h=>h.ex;exact⟨b,⟨d,g,m,j,c,i⟩⟩
 cls:=a.cls
 fld:=a.fld
 gY:=a.gY
 eh:=a.eh
theorem Bt:∀(is)(vs)(U)(j),j∉is->(gS is vs U)[j]?=U[j]?
|[],_,_,_,_=>rfl
|_::_,[],_,_,_=>rfl
|i::is,v::vs,U,j,h=>by show(gS is vs<|U.B i<|y0 v)[j]?=U[j]?;rw[Bt is vs _ j λz=>h<|Aa0 _ z,Ac5<|λz:i=j=>h<|by rw[z];exact Aa2]
theorem zG:∀(is)(vs)(U),(gS is vs U).e=U.e
|[],_,_=>rfl
|_::_,[],_=>rfl
|i::is,v::vs,U=>by show(gS is vs<|U.B i<|y0 v).e=U.e;rw[zG is vs,Ae]
def af(e:M.Gx tg one d Y=y0 Y')(r:au Γ G H d x)(s:ao Γ G Y h U H)
 (g:∀O,ao Γ G Y' h O H->(∀j,j∉tg->O[j]?=U[j]?)->O.e=U.e->Q O H):gM Γ tg one x U H Q:=by
 cases one with
|true=>
  cases tg with
 |nil=>cases e
 |cons i o=>
   cases o with
 |cons _ _=>cases e
 |nil=>cases e;exact⟨i,rfl,g _ (s.ek r) (λj c=>Ac5 λz=>c<|by simp[z])<|Ae ..⟩
|false=>
  cases d with
|tup k=>obtain⟨a,b,rfl,m,f⟩:=r;obtain⟨l,n⟩:=ZK (e) f s;exact⟨G,k,b,a,rfl,m,f,n,g _ l (λj c=>Bt tg b U j c)<|zG tg b U⟩
|_=>cases e
def ZX{step:M.D->M.AH->M.R (Option M.D)}:∀{ds}{h}{d}{h'},M.Gu step ds h≠.exc d h'
|[],_,_,_=>λe=>by cases e
|x::ds,h,d,h'=>λe=>by
  rw[M.Gu]at e;split at e
  .split at e<;>cases e
  .cases e
set_option tactic.hygienic true in
def Ly{step:M.D->M.AH->M.R (Option M.D)}(e:M.Gu step (x::ds) h=.p ys hf):∃o h1 r,step x h=.p o h1/\M.Gu step ds h1=.p r hf/\ys=(match o with|some y=>y::r|none=>r):=by
 rw[M.Gu]at e;split at e
 .rename_i o h1 a;split at e
  .rename_i r c b;cases e;exact⟨o,h1,r,a,b,rfl⟩
  .cases e
 .cases e
def lI(F:M.Fx)(tg:List Nat)(one:Bool)(e:M.Sl)(a:Bool)(c elt:M.E):M.D->M.AH->M.R (Option M.D):=λd h=>match M.Gx tg one d e with
|none=>.w
|some Y'=>(if a then(M.eval F c Y' h).j λx h=>M.R.of h (M.GV x)else .p k9 h).j λb h=>match b with
|true=>(M.eval F elt Y' h).j λy h=>(M.R.of h y.d).j λy h=>.p (y0 y) h
|false=>.p u0 h
def Fu:M.eval F (.M tg one kk az it y7 c elt) Y h=(M.Gp F it Y h).j λds h=>
 if ds.e<=M.aR then(M.Gu (lI F tg one (kB kk az Y) y7 c elt) ds h).j λys h=>.p (.j ys) h else .w:=by
 rw[M.zEe25];rfl
noncomputable def j8(F:M.Fx)(a:Bool)(c:M.E):M.Sl->M.AH->M.R Bool:=λY h=>if a then M.Gj F c Y h else .p k9 h
def ze{r:M.R α}(e:r.j f=.p b h):∃a h1,r=.p a h1/\f a h1=.p b h:=by
 cases r with
|ok a h1=>exact⟨a,h1,rfl,e⟩
|_=>cases e
def W6(a:Je iter=k9):∀v,foldedSetIterable iter env v=pure v:=λv=>by cases iter<;>first|rfl|(simp[Je]at a)
set_option tactic.hygienic true in
def Ew(e:lI F tg one Yb y7 c elt d h=.p o h2):
 ∃O b j,M.Gx tg one d Yb=y0 O/\j8 F y7 c O h=.p b j/\(b=y9->o=u0/\h2=j)/\(b=k9->∃w y,M.eval F elt O j=.p w h2/\w.d=y0 y/\o=y0 y):=by
 unfold lI at e;split at e
 .cases e
 .rename_i O g;obtain⟨b,j,k,qr⟩:=ze e;refine⟨O,b,j,g,k,λz=>?_,λz=>?_⟩
  .subst z;cases(qr);exact⟨rfl,rfl⟩
  .subst z;obtain⟨w,l,i,qr⟩:=ze<|qr;obtain⟨y,m,a,qr⟩:=ze qr;cases f:w.d with
|none=>rw[f]at a;cases a
|some y'=>rw[f]at a;cases a;cases qr;exact⟨w,_,i,f,rfl⟩
def Ph(Γ:Ge)(st:M.D->M.AH->M.R (Option M.D))(ds ys:List M.D)(f:M.AH)(e:Gh)(d:Hp)(C:Gh->Hp->Prop)(b:Nat)(az:List Nat)(U:St)(i m:Nat)(c:List V)(a:St)(H':Hp):Prop:=∃G' h' done rest,(m=ds.e-i/\i<=ds.e/\done.e<=i)/\Ext e d G' H'/\ag Γ G' h' H'/\C G' H'/\aa Γ G' H' done c∧
 M.Gu st (ds.L i) h'=.p rest f/\ys=done++rest/\a.e=b+az.e/\∀j,j<az.e->a[b+j]?=y0 ((U[az.G j 0]?).join)
def FJ{tg:List Nat}{one a:Bool}{K:Nat}{az:List Nat}{c elt:M.E}{ds:List M.D}{G u:Gh}{Y:M.Sl}{h h1:M.AH}{J:It}{C:Gh->Hp->Prop}(htk:∀i∈tg,i<K){U:St}{H B:Hp}{Q:VK}
 (s:ao Γ G Y h U H)(e1:Ext G H u B)(l:ag Γ u h1 B)(c0:C u B)
 (keep:∀G H G' H' h,C G H->Ext G H G' H'->ag Γ G h H->C G' H')
 (wg:∀i G' h' H',Ext u B G' H'->ag Γ G' h' H'->C G' H'->i<ds.e->J.go i H'/\∀x O,J.fy i H' x O->∃V,Ext G' H' V O/\ag Γ V h' O/\∃d,ds[i]?=y0 d/\au Γ V O d x)
 (ws:∀G' h' H',Ext u B G' H'->ag Γ G' h' H'->C G' H'->J.stop ds.e H')
 (p:ak Γ E G H (if ds.e<=M.aR then(M.Gu (lI F tg one (kB K az Y) a c elt) ds h1).j (λys h=>.p (.j ys) h)else .w) λw h' G' H'=>∀v,aj Γ G' H' w v->ay Y U H w v->Q v H'):
 Ar J (gM Γ tg one) (cD Γ E0<|j8 F a c) (tD Γ E0<|M.eval F elt) (mn K az U) B Q:=by
 by_cases hL:ds.e<=M.aR;rotate_left
 .rw[FB hL]at p;exact p.j
 rw[Fk hL]at p;cases Z:M.Gu (lI F tg one _ a c elt) ds h1 with
|exc d h'=>exact absurd Z ZX
|fail=>rw[Z]at p;exact p.j
|ok ys hf=>
  rw[Z]at p;have hLs:=Xe;refine⟨Ph Γ (lI F tg one (kB K az Y) a c elt) ds ys hf u B C K az U,⟨ds.e,?_⟩,?_⟩
  .refine⟨u,h1,[],ys,⟨by simp,Ag _,Aa3 _⟩,Ext.refl,l,c0,rfl,Z,rfl,?_,λj W=>?_⟩
   .unfold mn;rw[Ab9,Ad4,Aa4]
   .unfold mn;rw[Ad7 Y9,Ad4,Nat.add_sub_cancel_left,Ad,Ab2 W,Ac9,Ab2 W];rfl
  .rintro i m yv Ub H' ⟨G',h',done,rest,⟨rfl,hi',hd⟩,q,g,L,rd,X,n,k,t⟩;have ldone:=rd.length;by_cases A:i<ds.e
   .have edr:ds.L i=ds[i]::ds.L _:=Ah9 A;rw[edr]at X;obtain⟨o,h2,r,qs,T,er⟩:=Ly X;obtain⟨Y',b,h3,qb,y,qf,qt⟩:=Ew qs;obtain⟨wj1,wj2⟩:=wg i G' h' H' q g L A;refine .w ⟨wj1,by lia,_,λyv' Ub' O w=>⟨ds.e-(i+1),(Vh ‹_›<|Ae4 _),w⟩,λx O hy=>?_⟩;obtain⟨V,x4,e,d,ed,rdx⟩:=wj2 x O hy;have L:=keep _ _ _ _ h' L x4 g;have rd:=rd.ext x4 g;have q:=q.x l x4;cases(Ab2 A).I.x ed;have sb:=L7 (s.ext (e1.x s.j q) e) K az k t;refine af qb rdx sb λU2 s2 N S=>?_;have f:∀j,j<az.e->U2[K+j]?=y0 _:=λj W=>by rw[N _ λz=>by have:=htk _ z;lia];exact t j W
    refine⟨V,Y',h',s2,?_⟩;rw[y];intro G3 H3 P R;have s3:=s2.ext P R;cases b with
|false=>refine pV ?_;obtain⟨rfl,rfl⟩:=qf rfl;exact⟨G3,_,done,r,⟨rfl,by lia,(Af9 ‹_›)⟩,q.x l P,R,keep _ _ _ _ h' L P e,rd.ext P e,T,by rw[n,er],by rw[S];exact k,f⟩
|true=>refine oo ?_;obtain⟨w,dd,qe,qw,rfl⟩:=qt rfl;refine⟨G3,Y',h3,s3,?_⟩;rw[qe];intro V H4 e4 hr4 v rw' fw;obtain⟨G5,e5,s5,rdv,m5⟩:=mi e4 (s3.ext e4 hr4) s3 rw' fw qw;have I:=P.x e e5;refine⟨G5,_,done++[dd],r,⟨rfl,by lia,by rw[Ab9,Aj2];exact TC ‹_›⟩,q.x l I,s5.j,keep _ _ _ _ h' L I e,(rd.ext I e).append ⟨v,[],rfl,rdv,rfl⟩,T,?_,by rw[S];exact k,f⟩;rw[n,er];simp
   .have ei:i=ds.e:=by lia
    subst ei;rw[V0]at X;cases(show M.R.ok _ h'=.p rest hf from X);rw[Ac4]at n;subst n;exact .p ⟨ws G' _ H' q g L,by lia,λD hD=>aq.own (aq.mk (p) (e1.x s.j q) s.j) g rd D hD⟩
def sO(j:∀i∈tg,i<kk)(n:tD Γ E (M.eval F<|.M tg one kk az it y7 c elt) U H Q):
 ni kk az (gQ Γ E y9<|M.Gp F it) (λ_ _ _ _=>gM Γ tg one) (λ_ _ _ _=>cD Γ E0<|j8 F y7 c) (λ_ _ _ _=>tD Γ E0<|M.eval F elt) U H Q:=by
 obtain⟨G,Y,h,s,p⟩:=n;rw[Fu]at p;refine⟨G,Y,h,s,?_⟩;cases l:M.Gp F it Y h with
|ok r B=>rw[l]at p;intro A v q k J C d m _ w t D;exact FJ j s q k m d.keep (λi f u e _ o b a=>⟨d.go i f e b a,λx g hy=>(d.fy i f e x g b a hy).imp λy z=>⟨z.1,z.2.1 _ o,z.2.2⟩⟩) (λf _ e _ _ b=>d.stop _ f e b (Aa3 _)<|Aa3 _) p
|_=>rw[l]at p;exact p
def So(d:Go Γ F X E k cf)(a:lj cf scope N kk az)
 (g:az.e=(N.L kk).e)(e:Qe {cf with sc:=scope,N:=N} tg one t=k9)(f:∀i∈tg,i<kk)(b:Je iter=k9)
 (hi:PI X t iter<|gQ Γ E y9<|M.Gp F it)
 (l:∀C fp s H,PE (Wd X N scope C fp s H) y<|tD Γ E0<|M.eval F elt)
 (h:∀C fp s H,iu (Wd X N scope C fp s H) ifs<|cD Γ E0<|j8 F y7 c):
 PE X (.K y [⟨t,iter,ifs,0⟩] scope pos)<|tD Γ E<|M.eval F<|.M tg one kk az it y7 c elt:=
 PE.imp (LZ (WS d a) hi (λC fp s H=>Jn (qx d a C fp s H) e) h l (d.C a.cb)<|W6 b) λU H Q j=>sO f j
def De(a:Go Γ F X E k cf)(r:cf.N[i]?=y0 x)(p:kI cf.p x=k9)(f:swapsWith (.K y [⟨t,iter,ifs,0⟩] scope p0) (y0<|.p x pos2) pos.p X.j=pure k9)(b:lj cf scope N kk az)
 (m:az.e=(N.L kk).e)(g:Qe {cf with sc:=scope,N:=N} tg one t=k9)(h:∀i∈tg,i<kk)(e:Je iter=k9)
 (hi:PI X t iter<|gQ Γ E y9<|M.Gp F it)
 (n:∀C fp s H,PE (Wd X N scope C fp s H) y<|tD Γ E0<|M.eval F elt)
 (o:∀C fp s H,iu (Wd X N scope C fp s H) ifs<|cD Γ E0<|j8 F y7 c):
 PS X (.j [.p x pos2] (.K y [⟨t,iter,ifs,0⟩] scope p0) pos)<|iW (tD Γ E<|M.eval F<|.M tg one kk az it y7 c elt)<|JW i:=by
 have l:=a.gU x p;have j:=Dw (by rw[a.N];exact a.nd) (by rwa [a.N]) l.1 (WS a b) hi (λC fp s H=>Jn (qx a b C fp s H) g) o n f (a.C b.cb) (W6 e) l.2;exactλd s U H D I q=>j d s U H D I<|sO h q
def ZV(e:M.G8 h o=y0 (r,xs)):o=y0 (.v<|.j r)/\h[r]?=y0 (.lst xs):=by
 unfold M.G8 at e;split at e
 .split at e
  .rename_i q;cases e;exact⟨rfl,q⟩
  .cases e
 .cases e
def qv(b:Go Γ F X E k cf)(h1:cf.N[i]?=y0 x)(h2:eI cf.p x=k9)(a:dJ x=k9):PE X (.p x p)<|l7 i:=by unfold dJ at a;rw[Aa6]at a;exact zu (by rwa [b.N]) (b.gy x h2) (by simpa using a.1)<|by simpa using a.2
set_option tactic.hygienic true in
def Mf(d:Go Γ F X E k cf)(h1:cf.N[i]?=y0 y)(h2:eI cf.p y=k9)(e:dJ y=k9)(q:PE X x<|tD Γ E<|M.eval F a):PE X (.G x [fN neg] [.p y j] pos)<|tD Γ E<|M.eval F<|.cQ neg a i:=by
 refine PE.imp (XQ (sJ neg) q (qv d h1 h2 e)<|Wf rfl) λU H Q f=>?_;obtain⟨G,Y,h,s,p⟩:=f;refine br s p λw v1 h1 m u o n b l v j=>?_;unfold M.cQ at j;split at j
 .rename_i t r g c;cases l;exact⟨_,(wo b c).1,t,_,g,rfl,rfl,(wo b c).2,j m _ o b.j _ rfl trivial⟩
 .exact j.j
set_option tactic.hygienic true in
def Pd(d:Go Γ F X E k cf)(h1:cf.N[i]?=y0 y)(h2:eI cf.p y=k9)(e:dJ y=k9)(q:PE X x<|tD Γ E<|M.eval F a):PT X (.G x [fN neg] [.p y j] pos)<|cD Γ E<|M.Gj F<|.cQ neg a i:=by
 refine PT.imp (zN (sJ neg) q (qv d h1 h2 e)<|Wf rfl) λU H Q f=>?_;obtain⟨G,Y,h,s,p⟩:=f;unfold M.Gj at p;rw[M.zEe28,jd]at p;refine br s p λw v1 h1 m u o n b l v j=>?_;unfold M.cQ at j;split at j
 .rename_i t r g c;cases l;exact⟨_,(wo b c).1,t,_,g,rfl,rfl,(wo b c).2,_,rfl,j m _ o b.j⟩
 .exact j.j
theorem QK(k:M.Tx):∀(T:List<|M.Tx×M.D),KTD.datumAt (ar k) (lK T)=T.p k
|[]=>rfl
|(x,d)::T=>by
  show(if u9 (ar k=ar x)=k9 then y0 d else KTD.datumAt (ar k) (lK T))=_;rw[Ac1];by_cases e:k=x
  .subst e;rw[Fk<|On rfl,S6]
  .rw[FB<|by simpa usingλz=>e<|Wp z,beq_eq_false_iff_ne.p e,QK k T]
def yf(b:Go Γ F X E k cf){c n:String}{T:List<|M.Tx×M.D}(q:F.con.p c=y0 (.y n T))(ne:T≠[]):∃a,X.mg (zc c)=y0 (.j a)/\iV (fZ X.K) X.K a (lK T):=by
 obtain⟨u,v,f,rv,rd⟩:=b.con c _ q;rcases rd ⟨λ_=>False,λ_=>0,0⟩ (λ_=>u0)with⟨z,_⟩|⟨_,a,e,d⟩
 .exact absurd z ne
 .subst e;cases rv;exact⟨a,f,b.K▸d⟩
set_option tactic.hygienic true in
def oY(m:Go Γ F X E k cf){c:String}{e:Expr}{j:M.E}{f:M.Tx×M.D->List (M.Tx×M.D)->M.Sl->M.AH->M.R M.W}(i:∀Y h,M.eval F j Y h=match F.con.p c with
|some (.y _ (r::T))=>f r T Y h
|_=>.w)(k:∀b r T,X.mg (zc c)=y0 (.j b)->iV (fZ X.K) X.K b (lK<|r::T)->PE X e (tD Γ E<|f r T)):PE X e<|tD Γ E<|M.eval F j:=by
 cases q:F.con.p c with
|none=>rintro g s U H Q I ⟨G,Y,h,l,a⟩;rw[i,q]at a;exact a.j
|some d=>
  have aT:(∀n r T,d≠.y n (r::T))->PE X e (tD Γ E<|M.eval F j):=by
   rintro o g s U H Q I ⟨G,Y,h,l,a⟩;rw[i,q]at a;split at a
   .rename_i n r T z;cases z;exact(o _ _ _ rfl).j
   .exact a.j
  cases d with
|exc n fs=>
   cases fs with
 |nil=>exact aT λ_ _ _ z=>nomatch z
 |cons r T=>
    obtain⟨b,t,p⟩:=yf m q<|V1 _ _;refine PE.imp (k b r T t p) ?_;rintro U H Q⟨G,Y,h,l,a⟩;refine⟨G,Y,h,l,?_⟩
    rwa [i,q]at a
|_=>exact aT λ_ _ _ z=>nomatch z
set_option tactic.hygienic true in
def L8(f:Go Γ F X E k cf){c:String}{g y:Expr}{pos:Pos}{a:M.E}(x:aY cf.p c g=k9)(A:Wb y=k9)(I:PE X y<|tD Γ E<|M.eval F a):PE X (.B g y pos)<|tD Γ E<|M.eval F<|.gp c a:=by
 obtain⟨J,rfl,n,D⟩:=zb x;refine oY f (λY h=>M.zEe37) λb r T j q=>?_;refine PE.imp (oN (DM (L:=fZ X.K)) (Jp (v:=.j b) (f.y _ n) j rfl D) I<|ZN A) ?_;rintro U H Q ⟨G,Y,h,s,p⟩;refine br s p λO v1 N z m C B t o K e=>?_;unfold M.KU at e;split at e
 .rename_i i;cases(show v1=.o (ar i)from o);split at e
  .rename_i d w;exact⟨b,_,ar i,d,rfl,rfl,q,by rw[QK,w],λu l=>let⟨v,r,rd⟩:=mU<|f.K▸l;⟨v,r,ak.val e C t.j (rd z m) trivial⟩⟩
  .exact e.j
 .exact e.j
set_option tactic.hygienic true in
def Ig(e:Go Γ F X E k cf){neg:Bool}{c:String}{x g:Expr}{pos:Pos}{a:M.E}(o:aY cf.p c g=k9)(y:PE X x<|tD Γ E<|M.eval F a):PE X (.G x [fN neg] [g] pos)<|tD Γ E<|M.eval F<|.iZ neg c a:=by
 obtain⟨z,rfl,j,w⟩:=zb o;refine oY e (λY h=>M.zEe49) λb r T i m=>?_;have q:bB X (compareOp<|fN neg)<|mW (fZ X.K) X.K neg:=by
  cases neg
  .exact uT
  .exact yJ
 refine PE.imp (XQ q y (Jp (v:=.j b) (e.y _ j) i rfl w)<|Wf rfl) ?_;rintro U H Q⟨G,Y,h,s,p⟩;refine br s p λI v1 D C A u t n l B d=>?_;unfold M.KN at d;split at d
 .rename_i f;cases(show v1=.o (ar f)from l);exact⟨b,_,ar f,rfl,rfl,m,by rw[QK];exact ak.val d u n.j rfl trivial⟩
 .exact d.j
set_option tactic.hygienic true in
def NJ(f:Go Γ F X E k cf){neg:Bool}{c:String}{x g:Expr}{pos:Pos}{a:M.E}(y:aY cf.p c g=k9)(J:PE X x<|tD Γ E<|M.eval F a):PT X (.G x [fN neg] [g] pos)<|cD Γ E<|M.Gj F<|.iZ neg c a:=by
 obtain⟨K,rfl,m,D⟩:=zb y;by_cases w:∃n r T,F.con.p c=y0 (.y n<|r::T)
 .obtain⟨n,r,T,q⟩:=w;obtain⟨b,l,t⟩:=yf f q<|V1 _ _;have z:bB X (compareOp<|fN neg)<|mW (fZ X.K) X.K neg:=by
   cases neg
   .exact uT
   .exact yJ
  refine PT.imp (zN z J (Jp (v:=.j b) (f.y _ m) l rfl D)<|Wf rfl) ?_;rintro U H Q ⟨G,Y,h,s,p⟩;unfold M.Gj at p;rw[M.zEe49,q]at p;rw[jd]at p;refine br s p λP v1 O A L C B u o N d=>?_;unfold M.KN at d;split at d
  .rename_i j;cases(show v1=.o (ar j)from o);exact⟨b,_,ar j,rfl,rfl,t,_,rfl,by rw[QK];exact d A _ C u.j⟩
  .exact d.j
 .rintro i s U H Q I ⟨G,Y,h,R,e⟩;unfold M.Gj at e;rw[M.zEe49]at e;split at e
  .rename_i n r T q;exact(w ⟨_,_,_,q⟩).j
  .exact e.j
set_option tactic.hygienic true in
def Nr(n:Go Γ F X E k cf){c:String}{g x y:Expr}{f i:Pos}{es:M.Es}(V:aY cf.p c g=k9)(hl:(f.j==i.p)=k9)(D:∀e∈[x,y],Qa e=k9)(ha:PA X [x,y]<|fF Γ E<|M.Gg F es):PE X (.w (.j g (zc "get") f) [x,y] [] i)<|tD Γ E<|M.eval F<|.fE c es:=by
 obtain⟨p0,rfl,R,g3⟩:=zb V;refine oY n (λY h=>M.zEe38) λb r T K A=>?_;have w:∀{a:Env},starEach [x,y] a=(y9,eval x a)::starEach [y] a:=ja<|D x Y9;have l:∀{a:Env},starEach [y] a=[_]:=ja<|D y Y9;refine PE.imp (Zj Up UK PySem.F.type_dict_get (II (L:=fZ X.K)) (Nl (L:=fZ X.K)) (Jp (v:=.j b) (n.y _ R) K rfl g3) ha rfl (by rw[w,l];rfl) hl w<|by rw[l];rfl) ?_;rintro U H Q ⟨G,Y,h,s,p⟩;refine⟨⟨b,_,rfl,A⟩,Zh s.j Ext.refl s p λws us h1 W O C Z B S j=>?_⟩;unfold M.KB at j;split at j
 .rename_i I z;obtain⟨P,r,rfl,t,o⟩:=S;obtain⟨J,r,rfl,q,o⟩:=o;cases o;cases(show P=.o (ar I)from t);refine⟨b,_,ar I,J,rfl,rfl,A,λd m u N=>?_,λm=>?_⟩
  .rw[QK]at m;rw[m]at j;obtain⟨v,r,rd⟩:=mU<|n.K▸N;exact⟨v,r,ak.val j C B.j (rd W O) trivial⟩
  .rw[QK]at m;rw[m]at j;exact ak.val j C B.j q trivial
 .exact j.j
def mQ:(M.Tx⊕Nat)->(Str⊕Nat)
|.p t=>.p<|ar t
|.w i=>.w i
theorem xF(a:Go Γ F X E k cf):∀{ps}{es},mJ cf ps es=k9->qN X (ps.y mQ) es
|[],es,h=>Ac8.j h
|.p t::ps,es,h=>by refine kC (λe es h=>?_) es h;refine Jl (λc n p h=>?_) e h;obtain⟨g,f⟩:=a2 h;cases Da g;exact⟨_,_,rfl,⟨_,_,rfl⟩,xF a f⟩
|.w i::ps,es,h=>by refine kC (λe es h=>?_) es h;refine Ct (λx c z p h=>?_) e h;obtain⟨g,f,b,j⟩:=a4 h;cases Da g;cases nn f;refine jq (λx p b=>?_) x b;obtain⟨l,o,d⟩:=gG b;obtain⟨d,m⟩:=a2 d;exact⟨_,_,rfl,⟨x,_,_,rfl,by rw[a.N];exact l,a.gy x o,by simpa using d,by simpa using m⟩,xF a j⟩
def xA(i):Str.ofString (toString i)=ar (M.cm i):=by unfold ar M.cm;rw[Tw]
def x2{i:Int}(h:0<=i/\i<1000000):i.p.log2<1920:=by
 have a:i.p<2^20:=by lia
 by_cases z:i.p=0
 .rw[z];decide
 .exact Vt ((Nat.log2_lt z).p a) Y7
set_option tactic.hygienic true in
theorem Z7(s:ao Γ G Y h U H):∀{ps}{t},M.KJ Y ps=y0 t->iM U (ps.y mQ)=y0 (ar t)
|[],t,e=>by cases e;rfl
|.p u::ps,t,e=>by obtain⟨c,b,rfl⟩:=Ac6.j e;show(iM U<|ps.y mQ).y _=_;rw[Z7 s b,←Qj];rfl
|.w i::ps,t,e=>by
  obtain⟨u,k,l⟩:=Ac0.j e;obtain⟨w,m,a⟩:=Ac0.j k;obtain⟨c,b,rfl⟩:=Ac6.j l;obtain⟨v,f,r⟩:=s.w i w m;have d:n3 v=y0 (ar u):=by
   unfold M.K4 at a;split at a
   .cases a;cases(show v=.o (ar _)from r);rfl
   .split at a
    .rename_i j g;cases a;cases(r);show(if j.p.log2<1920 then y0 (Str.ofString<|toString j)else u0)=_;rw[Fk<|x2 g,xA]
    .cases a
   .cases a
  show(((U[i]?).j id).j n3).j (λx=>(iM U<|ps.y mQ).y (x++·))=_;rw[f];show(n3 v).j (λx=>(iM U<|ps.y mQ).y (x++·))=_;rw[d,Z7 s b,←Qj];rfl
set_option tactic.hygienic true in
def LS(a:Go Γ F X E k cf)(h:mJ cf ps (x::y::xs)=k9):PE X (.JoinedStr (x::y::xs) pos)<|tD Γ E<|M.eval F<|.dO ps:=by
 refine PE.imp (Nu<|xF a h) λU H Q b=>?_;obtain⟨G,Y,h,s,p⟩:=b;rw[M.zEe39]at p;unfold M.KC at p;split at p
 .rename_i t c;split at p
  .rename_i d;exact⟨ar t,Z7 s c,by rw[Qc];have:=Xe;exact Ac ‹_› ‹_›,ak.val p Ext.refl s.j rfl trivial⟩
  .exact p.j
 .exact p.j
def Pu(d:Go Γ F X E k cf)(q:aY cf.p "str" g=true)(e:Qa x=true)(u:PE X x<|tD Γ E<|M.eval F a):PE X (.w g [x] [] pos)<|tD Γ E<|M.eval F<|.cU a:=by
 obtain⟨p,rfl,l,f⟩:=zb q;have c:"str"∈bF:=by decide
 refine PE.imp (xu Pn (d.y _ l) (d.p _ c) (by decide+kernel) (qc u Jf<|ja e) (Xg c) f (ja e) rfl) λU H Q j=>?_;obtain⟨G,Y,h,s,p⟩:=j;refine br s p λA v1 z y v t r n m w b=>?_;unfold M.K3 at b;split at b
 .rename_i i;cases(m);split at b
  .rename_i o;exact⟨i,rfl,x2 o,xA i▸ak.val b t n.j rfl trivial⟩
  .exact b.j
 .exact b.j
set_option tactic.hygienic true in
def Sn(e:Go Γ F X E k cf){g x:Expr}{pos:Pos}{a:M.E}(u:aY cf.p "int" g=true)(f:Qa x=true)(y:PE X x<|tD Γ E<|M.eval F a):PE X (.w g [x] [] pos)<|tD Γ E<|M.eval F<|.cm a:=by
 obtain⟨p,rfl,m,i⟩:=zb u;have b:"int"∈bF:=by decide
 refine PE.imp (xu Ou (e.y _ m) (e.p _ b) (by decide+kernel) (qc y Jf<|ja f) (Xg b) i (ja f) rfl) λU H Q l=>?_;obtain⟨G,Y,h,s,p⟩:=l;refine br s p λJ v1 I D A w v t r C d=>?_;unfold M.KL at d;split at d
 .rename_i z;cases(show v1=.o (ar z)from r);obtain⟨n,q,o⟩:=d.of;obtain⟨j,B⟩:M.cm (n:Int)=z/\n<1000000:=by
   unfold M.KZ at q;split at q
   .rename_i c;cases q;exact c
   .cases q
  subst j;refine⟨_,(n:Int),rfl,?_,xA (n:Int)▸PySem.W.KIN.num_reads (SK _) Y8,ak.val o w t.j rfl trivial⟩;rw[←xA];exact Ac (PySem.W.KT.len_num (SK _) Y8) Y7
 .exact d.j
def u1(h:Str.ofString a=Str.ofString b):a=b:=by
 rw[Tw,Tw]at h;have e:=by have:=congrArg (λs:Str=>s.j.p) h;simpa using this
 have inj:∀(l m:List Char),l.y Char.toNat=m.y Char.toNat->l=m:=by
  intro l;induction l with
|nil=>intro m q;cases m with|nil=>rfl|cons _ _=>cases q
|cons c l f=>
   intro m q;cases m with
|nil=>cases q
|cons d m=>simp[List.cons.injEq]at q;rw[Char.toNat_inj.j q.1,f m q.2]
 exact String.toList_inj.j<|inj _ _ e
def Xq(e:M.GD h o=y0 (r,c,fs)):o=y0 (.v<|.j r)/\h[r]?=y0 (.obj c fs):=by
 unfold M.GD at e;split at e
 .split at e
  .rename_i q;cases e;exact⟨rfl,q⟩
  .cases e
 .cases e
def ur(s:ao Γ G Y h U H)(e:M.GD h (M.Gi Y i)=y0 (r,c,fs)):U[i]?=y0 (y0<|.j<|G.j r):=by obtain⟨v,b,a⟩:=s.w i _ (Xq e).1;rw[b,((show r<G.n/\v=.j (G.j r)from a)).2]
noncomputable abbrev iy(fs:List<|String×M.D):List Str:=fs.y λp=>Str.ofString p.1
section
variable{G:Gh}{H:Hp}
def vS(a b):(zc a==Str.ofString b)=(a==b):=by
 cases q:a==b with
|true=>rw[eq_of_beq q];exact S6 _
|false=>exact beq_eq_false_iff_ne.p λz=>(beq_eq_false_iff_ne.j q)<|u1 z
theorem ym:∀{fs}{us},aa Γ G H (fs.y (·.2)) us->fs.p f=y0 d->∃v,((iy fs).a1 us).p (zc f)=y0 v/\au Γ G H d v
|[],_,_,e=>by cases e
|(g,x)::fs,_,z7,e=>by
  obtain⟨v,r,rfl,b,a⟩:=z7;rw[Ac1]at e;show∃w,(((Str.ofString g),v)::(iy fs).a1 r).p (zc f)=y0 w/\_;rw[Ac1,vS];cases q:f==g with
|true=>rw[q]at e;cases e;exact⟨v,rfl,b⟩
|false=>rw[q]at e;exact ym a e
theorem Zt:∀{fs}{us:List V},fs.p f=u0->((iy fs).a1 us).p (zc f)=u0
|[],_,_=>rfl
|(g,x)::fs,[],_=>rfl
|(g,x)::fs,v::r,e=>by
  rw[Ac1]at e;show(((Str.ofString g),v)::(iy fs).a1 r).p (zc f)=u0;rw[Ac1,vS];cases q:f==g with
|true=>rw[q]at e;cases e
|false=>rw[q]at e;exact Zt e
theorem jR(rv:au Γ G H d v):∀{fs}{us},aa Γ G H (fs.y (·.2)) us->∃j,aa Γ G H ((M.bf f d fs).y (·.2)) j/\Lake.bf (zc f) v ((iy fs).a1 us)=(iy<|M.bf f d fs).a1 j
|[],_,z=>by cases z;exact⟨[v],⟨v,[],rfl,rv,rfl⟩,rfl⟩
|(g,x)::fs,_,z7=>by
  obtain⟨u,r,rfl,e,c⟩:=z7;show∃j,aa Γ G H ((if g=f then(g,d)::fs else(g,x)::M.bf f d fs).y (·.2)) j/\(if Str.ofString g=zc f then(Str.ofString g,v)::(iy fs).a1 r else(Str.ofString g,u)::Lake.bf (zc f) v ((iy fs).a1 r))=(iy<|if g=f then(g,d)::fs else(g,x)::M.bf f d fs).a1 j;by_cases q:g=f
  .rw[Fk q,Fk<|congrArg Str.ofString q];exact⟨v::r,⟨v,r,rfl,rv,c⟩,rfl⟩
  .rw[FB q,FB λz=>q<|u1 z];obtain⟨j,a,b⟩:=jR rv c;exact⟨u::j,⟨u,j,rfl,e,a⟩,by rw[b];rfl⟩
end
set_option tactic.hygienic true in
def RC(a:Go Γ F X E k cf)(h1:cf.N[i]?=y0 x)(h2:eI cf.p x=k9)(b:dJ x=k9):PE X (.j (.p x p1) (zc f) pos)<|tD Γ E<|M.eval F<|.xf i f:=by
 refine PE.imp (RQ (qv a h1 h2 b) rfl) λU H Q m=>?_;obtain⟨G,Y,h,s,p⟩:=m;rw[M.zEe42]at p;split at p
 .rename_i c g d q;split at p
  .rename_i r;subst r;obtain⟨v,n,l,dx,u,rfl,y,w,j,t,z,o,e⟩:=s.w i _ q;exact⟨_,n,l,Γ.j c,dx,u,rfl,j,t,a.K▸o,ak.val p Ext.refl s.j e trivial⟩
  .exact p.j
 .exact p.j
def JL(e:Ext G H G1 H1)(a:r<G.n):aj Γ G1 H1 (.v<|.j r)<|.j<|G.j r:=⟨Ab4 a e.le,by rw[e.aG r a]⟩
def j6(b:attributeBase o name env (eval o env)=eval o env)(c:methodCallForm args.e (backTo pos<|starEach args env) (backToKw pos<|keywordEach [] env)=k9)(a:(apos.j==pos.p)=k9):xU env o name apos pos args<|do return (←importBound o env).getD k9:=by
 unfold xU;have d:methodCallForm (args.e+([]:List Keyword).e) _ _=true:=c;have e:methodCallPos k9 o env apos pos=pure pos:=by unfold methodCallPos;simp[a]
 rw[arm_eval_Call,b];unfold methodCall;rw[d];simp only[e,calleeOf,Os,pure_bind]
def tU(h:∀e∈args,Qa e=k9)(c:args.e<29):methodCallForm args.e (backTo pos<|starEach args env) (backToKw pos<|keywordEach [] env)=true:=by
 unfold methodCallForm;have a:(backTo pos<|starEach args env).T (λx=>!x.1)=true:=by have:=Ze (env:=env) (pos:=pos) h;rw[Af0];intro x hx;rw[VB]at this;simpa using this x hx
 rw[a];have b:(backToKw pos<|keywordEach [] env)=[]:=rfl;rw[b];simp;exact Nat.lt_succ_of_lt ‹_›
def make_core{c k:String}{es:M.Es}{U:St}{H:Hp}{Q:VK}(J:tD Γ E (M.eval F<|.make c k es) U H Q):rG (Γ.j c) (eG Γ<|F.j k) [] E (fF Γ E<|M.Gg F es) U H Q:=by
 obtain⟨G,Y,h,s,p⟩:=J;refine Zh s.j Ext.refl s p λy I i f x A O g L b=>?_;intro a dx n z ne;rw[Ac4];have u:ax x dx (.own a) a=none:=by rwa [Ja<|Ne.symm ne]
 have D:Ext f _ f<|ax _ a<|.ins (Γ.j c) dx []:=zr _ u;have K:=(g.j.new (.own a) z).new (.ins (Γ.j c) dx []) u;have N:=HW K (g.j.l4 n) (g.j.iB n) Xa;have t:=jA ((zr _ z).x g.j D) n;have q:aj Γ (f.cell a) (ax (ax x dx<|.own a) a<|.ins (Γ.j c) dx []) (.v<|.j i.e)<|.j a:=by show i.e<f.n+1/\V.ref a=.j (if i.e=f.n then a else f.j i.e);rw[g.j.j,Fk rfl];exact⟨Ae4 _,rfl⟩
 refine⟨f.cell a,i++[.obj c []],.v _::y.y M.W.arg,N,⟨.j a,I,rfl,q,aW.ext t g.j<|xi L⟩,λw l=>?_,?_⟩
 .obtain rfl|l:=Aa8.j l
  .rfl
  .exact Jh y w l
 .cases o:F.j k _<|i++[.obj c []]with
|fail=>rw[o]at b;exact b.j
|exc d C=>rw[o]at b;exactλr m j e=>b r m ((A.x s.j t).x s.j j) e
|ok w C=>
   rw[o]at b;intro r m j e v rv _;cases w with
|own _=>exact b.j
|bor _=>exact b.j
|v d=>
    cases d with
|ai=>refine⟨rv,?_⟩;have b:=b;have B:=q.1;exact b r m ((A.x s.j t).x s.j j) e _ ⟨Ab4 B j.le,by rw[j.aG _ B];exact q.2⟩ trivial
|_=>exact b.j
def IZ(a:Go Γ F X E k cf){c b:String}{g y:Expr}{ys:List Expr}{pos:Pos}{es:M.Es}(n:aY cf.p c g=k9)(i:cf.y.eh.w (c,b)=k9)(h:∀e∈y::ys,Qa e=k9)(p:PA X (y::ys)<|fF Γ E<|M.Gg F es):
 PE X (.w g (y::ys) [] pos)<|tD Γ E<|M.eval F<|.make c b es:=by
 obtain⟨t,rfl,m,o⟩:=zb n;obtain⟨d,r,s,u,mk,f,q⟩:=a.eh c b i;exact PE.imp (Hb mk f a.bQ (a.y _ m) d q .p a.pass p o (ja<|h _ Aa2)<|Ze λe l=>h e<|Aa0 _ l) λU H Q j=>make_core j
def CN(a:Go Γ F X E k cf){c b:String}{g:Expr}{pos:Pos}(l:aY cf.p c g=k9)(f:cf.y.eh.w (c,b)=k9):PE X (.w g [] [] pos)<|tD Γ E<|M.eval F<|.make c b .p:=by obtain⟨r,rfl,j,m⟩:=zb l;obtain⟨d,o,q,t,mk,e,n⟩:=a.eh c b f;refine PE.imp (IE mk e a.bQ (a.y _ j) d n .p a.pass m) λU H Q i=>?_;obtain⟨G,Y,h,s,p⟩:=make_core i;exact p G H Ext.refl s.j [] rfl
def Sf(i:Go Γ F X E k cf)(l:cf.y.fl.w (c,f)=k9)(g:Wo x=k9)(L:PE X x<|tD Γ E<|M.eval F a):PE X (.j x (zc f) pos)<|tD Γ E<|M.eval F<|.aM a c f:=by
 refine PE.imp (Hu L<|aJ g _) λU H Q t=>?_;obtain⟨G,Y,h,s,p⟩:=t;refine br s p λw v K e N I D j z O b=>?_;cases q:M.GD K (y0 w)with
|none=>rw[q]at b;exact b.j
|some o=>
  obtain⟨r,A,fs⟩:=o;rw[q]at b;dsimp only at b;split at b
  .rename_i g;subst g;obtain⟨d,B,b⟩:=b.of;obtain⟨C,J⟩:=Xq q;cases C;obtain⟨P,dx,R,n,m⟩:=j.j.obj r _ fs J;obtain⟨u,y,rv⟩:=ym m B;exact⟨e.j r,Γ.j A,dx,_,u,((show r<e.n/\v=.j (e.j r)from z)).2,n,(i.fld _ _ l).1,(i.fld _ _ l).2,y,ak.val b I j.j rv trivial⟩
  .exact b.j
def L5(d:Go Γ F X E k cf)(I:cf.y.mt.w (c,m,q0)=k9)(hl:(apos.j==pos.p)=k9)(z:(y::ys).e<=20)(t:Wo x=k9)(D:PE X x<|tD Γ E<|M.eval F a)(u:∀e∈y::ys,Qa e=k9)(ha:PA X (y::ys)<|fF Γ E<|M.Gg F es):
 PE X (.w (.j x (zc m) apos) (y::ys) [] pos)<|tD Γ E<|M.eval F<|.aI a c m q0 es:=by
 obtain⟨N,fa,fd,ps,O,j,bd⟩:=d.gY c m q0 I;refine PE.imp (O5 D N O j d.w bd .p d.pass ha (ja<|u _ Aa2) (Ze λe S=>u e<|Aa0 _ S)<|j6 (aJ t _) (tU u<|PP ‹_› Y7) hl) λU H Q L=>?_;obtain⟨G,Y,h,s,p⟩:=L;refine br s p λw v h1 l H1 e1 Z B T f1 b=>?_;cases q:M.GD h1 (y0 w)with
|none=>rw[q]at b;exact b.j
|some o=>
  obtain⟨r,c',fs⟩:=o;rw[q]at b;dsimp only at b;split at b
  .rename_i t;obtain⟨rfl,z⟩:=t;obtain⟨W,n⟩:=Xq q;cases W;obtain⟨f,rfl⟩:=(show r<l.n/\v=.j (l.j r)from T);obtain⟨nf,dx,us,J,ru⟩:=B.j.obj r _ fs n;refine⟨l.j r,dx,_,rfl,J,Zt<|Ad8.j z,Zh s.j e1 B b λA K P C H2 n g s2 V R=>?_⟩;rw[Ac4];refine⟨C,P,.v _::A.y M.W.arg,s2.j,⟨.j _,K,rfl,JL g f,xi V⟩,λw i=>?_,aq.mk R n s.j⟩;obtain rfl|i:=Aa8.j i
   .rfl
   .exact Jh A w i
  .exact b.j
def Iq(e:Go Γ F X E k cf)(t:cf.y.mt.w (c,m,q0)=k9)(K:(apos.j==pos.p)=k9)(i:Wo x=k9)(n:PE X x<|tD Γ E<|M.eval F a):
 PE X (.w (.j x (zc m) apos) [] [] pos)<|tD Γ E<|M.eval F<|.aI a c m q0 .p:=by
 obtain⟨A,R,S,T,O,g,N⟩:=e.gY c m q0 t;refine PE.imp (MX n A O g e.w N .p e.pass<|j6 (aJ i _) rfl K) λU H Q z=>?_;obtain⟨G,Y,h,s,p⟩:=z;refine br s p λw v l d V J I j C W b=>?_;cases q:M.GD l (y0 w)with
|none=>rw[q]at b;exact b.j
|some o=>
  obtain⟨r,c',fs⟩:=o;rw[q]at b;dsimp only at b;split at b
  .rename_i i;obtain⟨rfl,B⟩:=i;obtain⟨D,L⟩:=Xq q;cases D;obtain⟨f,rfl⟩:=(show r<d.n/\v=.j (d.j r)from C);obtain⟨Z,dx,us,y,P⟩:=j.j.obj r _ fs L;refine⟨d.j r,dx,_,rfl,y,Zt<|Ad8.j B,?_⟩;have b:=b;refine⟨d,l,[.v _],j.j,⟨.j _,[],rfl,JL Ext.refl f,rfl⟩,λw u=>?_,aq.mk b J s.j⟩;cases Ab8.j u;rfl
  .exact b.j
def WV{G:Gh}{h:M.AH}{H:Hp}(g:ag Γ G h H){w:M.W}{v:V}(z:aj Γ G H w v){r:Nat}{a:List<|M.Tx×M.D}(e:M.GT h (y0 w)=y0 (r,a)):w=.v (.j r)/\h[r]?=y0 (.gq a)/\r<G.n/\v=.j (G.j r)/\M.Gd (a.y (·.2))=k9/\∃us,H (G.j r)=y0 (dS<|dv a us)/\aa Γ G H (a.y (·.2)) us:=by obtain⟨c,b⟩:=Of e;cases c;obtain⟨f,d⟩:=(show r<G.n/\v=.j (G.j r)from z);exact⟨rfl,b,f,d,(g.C r _ b).2⟩
set_option tactic.hygienic true in
def Cj(P:Go Γ F X E k cf){x y:Expr}{pos:Pos}{o a:M.E}(t:Wb y=k9)(m:PE X x<|tD Γ E<|M.eval F o)(L:PE X y<|tD Γ E<|M.eval F a):PE X (.B x y pos)<|tD Γ E<|M.eval F<|.lh o a:=by
 refine PE.imp (oN Si m L<|ZN t) ?_;rintro U H Q⟨G,Y,h,s,p⟩;refine br s p λw0 v0 D W Z J n g O T c=>?_;cases q:M.GT D (y0 w0)with
|none=>rw[q]at c;exact c.j
|some rx=>
  obtain⟨r,C⟩:=rx;rw[q]at c;obtain⟨rfl,_,z,rfl,_⟩:=WV g.j O q;refine Ji s.j J g c λw1 v1 h1 G1 R K f i B V b=>?_;unfold M.tJ at b;split at b
  .rename_i N r' S l;cases B;obtain⟨A,_,_,e,_,us,j,u⟩:=WV i.j (JL f z) l;cases A;split at b
   .rename_i d I;obtain⟨v,w,rv⟩:=rQ u I;exact⟨ar N,_,_,v,rfl,e,j,w,(aq.mk b K s.j).v i.j rv⟩
   .exact b.j
  .exact b.j
set_option tactic.hygienic true in
def CK(B:Go Γ F X E k cf){neg:Bool}{x y:Expr}{pos:Pos}{a o:M.E}(j:Je y=k9)(z:PE X x<|tD Γ E<|M.eval F a)(g:PE X y<|tD Γ E<|M.eval F o):PE X (.G x [fN neg] [y] pos)<|tD Γ E<|M.eval F<|.eJ neg a o:=by
 refine PE.imp (XQ (Bf neg) z g<|Wf j) ?_;rintro U H Q⟨G,Y,h,s,p⟩;refine br s p λS v1 R P J v u q n N m=>?_;refine Ji s.j v q m λD v2 L C I w i d t T b=>?_;unfold M.KS at b;split at b
 .rename_i A r K f;cases n;obtain⟨_,_,_,c,_,O,e,l⟩:=WV d.j t f;exact⟨ar A,_,_,rfl,c,e,by rw[ou l];exact ak.val b w d.j rfl trivial⟩
 .exact b.j
set_option tactic.hygienic true in
def Dq(C:Go Γ F X E k cf){neg:Bool}{x y:Expr}{pos:Pos}{a o:M.E}(m:Je y=k9)(A:PE X x<|tD Γ E<|M.eval F a)(j:PE X y<|tD Γ E<|M.eval F o):PT X (.G x [fN neg] [y] pos)<|cD Γ E<|M.Gj F<|.eJ neg a o:=by
 refine PT.imp (zN (Bf neg) A j<|Wf m) ?_;rintro U H Q ⟨G,Y,h,s,p⟩;unfold M.Gj at p;rw[M.zEe48,jd]at p;refine br s p λS v1 R P J w v t q N d=>?_;rw[jd]at d;refine Ji s.j w t d λD v2 L f I z l e u T b=>?_;unfold M.KS at b;split at b
 .rename_i B r K i;cases q;obtain⟨_,_,_,c,_,O,g,n⟩:=WV e.j u i;exact⟨ar B,_,_,rfl,c,g,_,rfl,by rw[ou n];exact b f _ z e.j⟩
 .exact b.j
def Fi(r:Go Γ F X E k cf)(m:(apos.j==pos.p)=k9)(n:Wo x=k9)(c:PE X x<|tD Γ E<|M.eval F a):
 PE X (.w (.j x (zc "bit_length") apos) [] [] pos)<|tD Γ E<|M.eval F<|.fe a:=by
 refine PE.imp (Ds PySem.F.plainAttrs_int slot_int_bit_length type_int_bit_length OT c (aJ n _) m) λU H Q d=>?_;obtain⟨G,Y,h,s,p⟩:=d;refine br s p λw v z y t l j f e u b=>?_;obtain⟨i,g,b⟩:=b.of;cases e.int g;have o:Builtin.Int.intBits i=M.Kl i:=by
  unfold Builtin.Int.intBits M.Kl;by_cases q:i=0
  .rw[Fk q,Fk<|by rw[q];rfl]
  .rw[FB q,FB<|by simpa using q]
 refine⟨rfl,i,rfl,rfl,?_⟩;rw[o];exact ak.val b l f.j rfl trivial
def LI(b:ag Γ G h H)(l:dm H H'):Ext G H G H'/\ag Γ G h H':=
 ⟨⟨λa o e _=>l a o e,Aa3 _,λ_ _=>rfl,λr d g=>absurd d<|Al8.p g,λ_ h=>h,λ_ h=>.p h,by rintro r _⟨o,e⟩;exact⟨o,l _ _ e⟩⟩,
  ⟨b.j,λr c e=>⟨(b.C r c e).1,(b.C r c e).2.mon ⟨λa o _ e=>l a o e,Aa3 _,λ_ _=>rfl,λ_ h=>h⟩ λo e=>l _ _ e⟩,b.inj,λa f=>(b.p a f).imp λo e=>l _ _ e⟩⟩
def gf(a:Int->M.R M.W)(m:Int):Int:=(M.Kg<|a m).getD 0
theorem Z3:∀{is}{b i},M.G6 key b (gf key b) is=y0 i->(∀m∈is,∃y,M.Kg (key m)=y0 y)/\i=gB (gf key) b is
|[],b,i,h=>⟨λm a=>absurd a Ac7,(Ae3.inj h).I⟩
|x::is,b,i,h=>by
  rw[M.G6]at h;cases q:M.Kg (key x)with
|none=>rw[q]at h;cases h
|some y=>
   have e:gf key x=y:=by rw[gf,q];rfl
   rw[q,Ah8]at h;rw[gB,e];by_cases c:y<gf key b
   .rw[Fk c,←e]at h;rw[Fk c];obtain⟨d,f⟩:=Z3 h;exact⟨λm a=>(Aa8.j a).j (λz=>z▸⟨y,q⟩)<|d m,f⟩
   .rw[FB c]at h;rw[FB c];obtain⟨d,f⟩:=Z3 h;exact⟨λm a=>(Aa8.j a).j (λz=>z▸⟨y,q⟩)<|d m,f⟩
set_option tactic.hygienic true in
def B9(h:M.Kt key o=y0 i):∃n is,o=y0 (n::is)/\(∀m∈n::is,∃y,M.Kg (key m)=y0 y)/\i=gB (gf key) n is:=by
 match o,h with
|some (n::is),h=>
  rw[M.Kt]at h;cases q:M.Kg (key n)with
|none=>rw[q]at h;cases h
|some y=>
   have e:gf key n=y:=by rw[gf,q];rfl
   rw[q,Ah8,←e]at h;obtain⟨a,c⟩:=Z3 h;exact⟨n,is,rfl,λm b=>(Aa8.j b).j (λz=>z▸⟨y,q⟩)<|a m,c⟩
def AX:"min"∈bF:=by decide
def LW(h:M.Kg r=y0 y):r=.p (.v<|.u y) []:=by
 unfold M.Kg at h;split at h
 .cases h;rfl
 .cases h
def Me(b:Go Γ F X E k cf)(j:w.arg=some (zc "key"))(D:aY cf.p f w.value=true)(hf:cf.w.w f=true)(N:ip cf "min" g=true)(S:Qa x=true)(Z:PE X x<|tD Γ E<|M.eval F a):
 PE X (.w g [x] [w] pos)<|tD Γ E<|M.eval F<|.fi f a:=by
 obtain⟨p0,rfl,g2,g3⟩:=zb (a2 N).2;obtain⟨wa,wv,wq⟩:=w;obtain⟨u,d,f2,O⟩:=zb D;have d:=d;have j:=j;subst d j;obtain⟨ps,fa,fd,C,T,kp,A⟩:=(b.fn f hf).imp λps h=>h.ex;refine PE.imp (Fm (E:=E0) (b.C (a2 N).1) (b.y _ g2) (b.p _ AX) (by decide+kernel) C b.bQ (b.y _ f2) A T (λJ H s e s' W=>by obtain⟨x,C',t,B,K,_,_,_,_,_,_,_,_,_,_,hE⟩:=W;exact hE.j) Z (Xg AX) g3 O<|ja S) λU H Q qq=>?_;obtain⟨G,Y,h,s,p⟩:=qq;rw[M.zEe51]at p;refine br s p λw v h1 G1 H1 d e1' L r1 f1 u=>?_;obtain⟨i,R,u⟩:=u.of;obtain⟨n,is,eo,hk,rfl⟩:=B9 R;obtain⟨xs,ex,I⟩:=Ac0.j eo;obtain⟨l,vs,rfl,sq,rd⟩:=r1.lst L.j ex;cases Ju I rd;refine⟨l,n,is,gf λx=>F.j f [.v (.u x)] [],rfl,b.K▸sq,λm A K _=>?_,λK le=>?_⟩
 .obtain⟨y,hy⟩:=hk m A;have P:gf (λx=>F.j f [.v (.u x)] []) m=y:=by rw[gf,hy];rfl
  refine⟨⟨λ_=>False,λ_=>0,0⟩,[],[.v (.u m)],⟨rfl,λr c e=>by simp at e,λr s z=>absurd z<|Ai6 _,λa ha=>ha.j⟩,⟨.u m,[],rfl,rfl,rfl⟩,λw j=>by rw[Ab8.j j];rfl,?_⟩;rw[LW hy];intro G' H' e z v rv _;exact⟨by rw[rv,P],λa o q=>e.j a o q λr z=>absurd z<|Ai6 _⟩
 .obtain⟨x1,V⟩:=LI L.j le;exact ak.val u (d.x s.j x1) V rfl trivial
end
def PW.e8 (h:PT X (.C op vs pos) t):PW X (.C op vs pos) t:=λb a s U H Q I q=>by have:=h a s U H Q I q;exact this
theorem ww:∀{es}{xs}{Y}{h}{ds}{h'},aO cf es xs=k9->M.Gk F es Y h=.p ds h'->ds.e=xs.e
|.p,xs,_,_,_,_,c,e=>by cases Ac8.j c;rw[M.zEk1]at e;cases e;rfl
|.j a es,xs,Y,h,ds,h',c,e=>by refine kC (λx r c=>?_) xs c;obtain⟨w,k,i,e⟩:=ze e;obtain⟨d,g,j,e⟩:=ze e;obtain⟨r,f,b,e⟩:=ze e;cases e;rw[Ab6,Ab6,ww (a2 c).2 b]
theorem Jb:∀{es}{xs},aO cf es xs=k9->∀e∈xs,Qa e=k9
|.p,xs,c=>by cases Ac8.j c;intro e b;cases b
|.j a es,xs,c=>by
  refine kC (λx r c=>?_) xs c;intro e b;rcases Aa8.j b with rfl|b
  .exact(a3 c).1
  .exact Jb (a2 c).2 e b
theorem QC:∀{az}{xs},qD cf az xs=k9->az.e=xs.e
|[],[],_=>rfl
|[],_::_,h=>by simp[qD]at h
|_::_,[],h=>by simp[qD]at h
|j::a,x::xs,h=>by simp only[qD,Aa6]at h;exact congrArg (·+1)<|QC h.2
def ME(h:Zd e f=k9):Je e=true:=by refine Wc (λg x l p h=>?_) e h;rfl
def JT{cf:Cf}{it:M.It}{e:Expr}(h:dG cf it e=k9):Je e=true:=by
 cases it with
|seq a=>exact(a2 h).1
|enum a=>exact aT h
|_=>exact ME h
section
variable{Γ:Ge}{F:M.Fx}{k:Nat}
def bo(a:Go Γ F X E k cf)(r:PE X x<|tD Γ E<|M.eval F m)(b:∀j,isTrue x X.j j=(do let v←j;standAt x.pos;holding [v]<|truthy v)):PE X x (tD Γ E<|M.eval F m)/\(f6 m=k9->PT X x (cD Γ E<|M.Gj F m)):=⟨r,λ_=>Dr a r b⟩
mutual
theorem Qb:∀(m:M.E){X:Cx}{E:XK}{cf:Cf}{e:Expr},Go Γ F X E k cf->wb cf m e=k9->PE X e (tD Γ E<|M.eval F m)/\(f6 m=k9->PT X e (cD Γ E<|M.Gj F m))
|.var i,X,E,cf,e,go,h=>by refine jq (λx p h=>?_) e h;obtain⟨h1,h2,h3⟩:=gG h;exact bo go (IJ go h1 h2 h3) λ_=>rfl
|.con c,X,E,cf,e,go,h=>by have r:=Ij go h;obtain⟨p,rfl,_,_⟩:=zb h;exact bo go r λ_=>rfl
|.int i,X,E,cf,e,go,h=>by refine Jl (λx n p h=>?_) e h;cases Da h;exact bo go IF λ_=>rfl
|.bl i,X,E,cf,e,go,h=>by refine Jl (λx n p h=>?_) e h;cases Da h;exact bo go K7 λ_=>rfl
|.ai,X,E,cf,e,go,h=>by refine Jl (λx n p h=>?_) e h;cases Da h;exact bo go IS λ_=>rfl
|.str i,X,E,cf,e,go,h=>by refine Jl (λx n p h=>?_) e h;cases Da h;exact bo go Hc λ_=>rfl
|.tup es,X,E,cf,e,go,h=>by refine mP (λx n p h=>?_) e h;obtain⟨h1,h2⟩:=a2 h;exact bo go (sQ (FN<|iF es go h2) aq.tup (λ_ _=>M.zEe7) (Da h1) λY hh ds h' q=>ww h2 q) λ_=>rfl
|.lst es,X,E,cf,e,go,h=>by refine Hw (λx p h=>?_) e h;obtain⟨h1,h2⟩:=a2 h;exact bo go (sQ (DD<|iF es go h2) aq.own (λ_ _=>M.zEe8) (Da h1) λY hh ds h' q=>ww h2 q) λ_=>rfl
|.bin o a b,X,E,cf,e,go,h=>by refine R7 (λx o y p h=>?_) e h;obtain⟨h0,h1,h2⟩:=a3 h;cases Da h0;exact bo go (Cw go (Qb a go h1).1 (Qb b go h2).1) λ_=>rfl
|.cmp o a b,X,E,cf,e,go,h=>by refine kL (λx o y p h=>?_) e h;refine kC (λy r h=>?_) y h;obtain⟨h0,hs,h1,h2⟩:=a4 h;obtain⟨rfl,rfl⟩:=Da h0;exact⟨M8 go hs (Qb a go h1).1 (Qb b go h2).1,λ_=>Dg go hs (Qb a go h1).1 (Qb b go h2).1⟩
|.a4 o q a b c,X,E,cf,e,go,h=>by refine kL (λx o y p h=>?_) e h;refine kC (λy r h=>?_) y h;refine kC (λz r h=>?_) r h;obtain⟨h0,hs,h1,h2,h3⟩:=a5 h;obtain⟨rfl,rfl⟩:=Da h0;exact⟨C6 go hs (Qb a go h1).1 (Qb b go h2).1 (Qb c go h3).1,λ_=>Eb go hs (Qb a go h1).1 (Qb b go h2).1 (Qb c go h3).1⟩
|.eT neg a,X,E,cf,e,go,h=>by refine kL (λx o y p h=>?_) e h;refine kC (λy r h=>?_) y h;refine Jl (λj n p h=>?_) y h;obtain⟨h0,h1,h2⟩:=a3 h;obtain⟨rfl,rfl⟩:=Da h0;cases Da h1;exact⟨CM (Qb a go h2).1,λ_=>Mw (Qb a go h2).1⟩
|.neg a,X,E,cf,e,go,h=>by refine rB (λo x p h=>?_) e h;cases Da (a2 h).1;exact bo go (Mb (Qb a go (a2 h).2).1) λ_=>rfl
|.inv a,X,E,cf,e,go,h=>by refine rB (λo x p h=>?_) e h;cases Da (a2 h).1;exact bo go (Hm (Qb a go (a2 h).2).1) λ_=>rfl
|.not a,X,E,cf,e,go,h=>by refine rB (λo x p h=>?_) e h;cases Da (a2 h).1;exact⟨Cd go (Qb a go (a2 h).2).1,λt=>OZ<|(Qb a go (a2 h).2).2 t⟩
|.and a b,X,E,cf,e,go,h=>by
  refine yg (λo x p h=>?_) e h;refine kC (λx r h=>?_) x h;refine kC (λy r h=>?_) r h;obtain⟨h0,h1,h2⟩:=a3 h;cases Da h0;cases r with
 |nil=>exact⟨uU go (Qb a go h1).1<|A3 (Qb b go h2).1,λt=>(uo ((Qb a go h1).2 (a2 t).1)<|LL<|(Qb b go h2).2 (a2 t).2).pt⟩
 |cons z r=>exact⟨uU go (Qb a go h1).1 (Qb b go h2).1,λt=>(uo ((Qb a go h1).2 (a2 t).1)<|PW.e8<|(Qb b go h2).2 (a2 t).2).pt⟩
|.or a b,X,E,cf,e,go,h=>by
  refine yg (λo x p h=>?_) e h;refine kC (λx r h=>?_) x h;refine kC (λy r h=>?_) r h;obtain⟨h0,h1,h2⟩:=a3 h;cases Da h0;cases r with
 |nil=>exact⟨sV go (Qb a go h1).1<|A3 (Qb b go h2).1,λt=>(vi ((Qb a go h1).2 (a2 t).1)<|FP<|(Qb b go h2).2 (a2 t).2).pt⟩
 |cons z r=>exact⟨sV go (Qb a go h1).1 (Qb b go h2).1,λt=>(vi ((Qb a go h1).2 (a2 t).1)<|PW.e8<|(Qb b go h2).2 (a2 t).2).pt⟩
|.j f es,X,E,cf,e,go,h=>by refine Wc (λg x l p h=>?_) e h;refine kE (λh=>?_) l h;refine kC (λx r h=>?_) x h;obtain⟨h1,h2,h3⟩:=a3 h;have r:=LO (pos:=p) go h1 h2 (Jb h3)<|bP es go h3;obtain⟨p,rfl,_,_⟩:=zb h1;exact bo go r λ_=>rfl
|.bi b es,X,E,cf,e,go,h=>by refine Wc (λg x l p h=>?_) e h;refine kE (λh=>?_) l h;refine kC (λx r h=>?_) x h;obtain⟨h1,h3⟩:=a2 h;have r:=Dx (pos:=p) go h1 (Jb h3)<|bP es go h3;obtain⟨p,rfl,_,_⟩:=zb (a2 h1).2;exact bo go r λ_=>rfl
|.dR a t,X,E,cf,e,go,h=>by refine Wc (λg x l p h=>?_) e h;refine kE (λh=>?_) l h;refine kC (λx r h=>?_) x h;refine kC (λy r h=>?_) r h;refine kE (λh=>?_) r h;obtain⟨h1,h2,h3,h4,h5⟩:=a5 h;have r:=OR (pos:=p) go (Da h3) h1 h2 h4 (Qb a go h5).1;obtain⟨p,rfl,_,_⟩:=zb h1;exact bo go r λ_=>rfl
|.bO a one ts,X,E,cf,e,go,h=>by refine Wc (λg x l p h=>?_) e h;refine kE (λh=>?_) l h;refine kC (λx r h=>?_) x h;refine kC (λy r h=>?_) r h;refine kE (λh=>?_) r h;obtain⟨h1,h2,h3,h4⟩:=a4 h;obtain⟨rfl,h4⟩:=a2 h4;refine kC (λt r h=>?_) ts h4;refine kE (λh=>?_) r h;obtain⟨h5,h6⟩:=a2 h;simp only[Yd,Pi]at h6;have r:=BZ (pos:=p) go h6 h1 h5 h2 (Qb a go h3).1;obtain⟨p,rfl,_,_⟩:=zb h1;exact bo go r λ_=>rfl
|.ix a b,X,E,cf,e,go,h=>by refine g9 (λx y p h=>?_) e h;obtain⟨h1,h2,h3⟩:=a3 h;exact bo go (I0 go h1 (Qb a go h2).1 (Qb b go h3).1) λ_=>rfl
|.fT a lo,X,E,cf,e,go,h=>by refine g9 (λx y p h=>?_) e h;refine Bq (λl u z p2 h=>?_) y h;refine kS (λl h=>?_) l h;obtain⟨h0,h1,h2,h3⟩:=a4 h;cases nn h0;cases nn h1;exact bo go (Pw go (Qb a go h2).1 (Qb lo go h3).1) λ_=>rfl
|.eC a hi,X,E,cf,e,go,h=>by refine g9 (λx y p h=>?_) e h;refine Bq (λl u z p2 h=>?_) y h;refine kS (λu h=>?_) u h;obtain⟨h0,h1,h2,h3⟩:=a4 h;cases nn h0;cases nn h1;exact bo go (IK go (Qb a go h2).1 (Qb hi go h3).1) λ_=>rfl
|.M tg one kk az it y7 c elt,X,E,cf,e,go,h=>by
  refine uw (λy g s p h=>?_) e h;refine kC (λg r h=>?_) g h;obtain⟨t,iter,ifs,z⟩:=g;obtain⟨h0,h1,h2,h3,h4,h5,h6⟩:=a7 h;obtain⟨rfl,rfl⟩:=Da h0;simp only[Af0,Pi]at h2;have sc:=XF h1;have ht:∀C fp w H,iu (Wd X (xt cf t az) s C fp w H) ifs<|cD Γ E0<|j8 F y7 c:=λC fp w H=>by
   have gc:=qx go sc C fp w H;cases y7 with
|true=>refine kC (λz r h=>?_) ifs h6;refine kE (λh=>?_) r h;exact Aq<|(Qb c gc (a2 h).2).2 (a2 h).1
|false=>cases Ac8.j h6;rintro pins s1 U H1 Q I ⟨G,Y,h,st,p⟩;exact tT pins s1 U H1 Q I<|p G H1 Ext.refl st.j
  exact bo go (So go sc (QC sc.az) h3 h2 (JT (a2 h4).2) (my it go (a2 h4).2 (a2 h4).1) (λC fp s H=>(Qb elt (qx go sc C fp s H) h5).1) ht) λ_=>rfl
|.dH,X,E,cf,e,go,h=>by refine uJ (λx y p h=>?_) e h;cases Ac8.j (a2 h).1;cases Ac8.j (a2 h).2;exact bo go Fs λ_=>rfl
|.dA,X,E,cf,e,go,h=>by refine uJ (λx y p h=>?_) e h;cases Ac8.j (a2 h).1;cases Ac8.j (a2 h).2;exact bo go O9 λ_=>rfl
|.cQ neg a i,X,E,cf,e,go,h=>by refine kL (λx o y p h=>?_) e h;refine kC (λy r h=>?_) y h;refine jq (λy p1 h=>?_) y h;obtain⟨h0,h1,h4⟩:=a3 h;obtain⟨rfl,rfl⟩:=Da h0;obtain⟨h1,h2,h3⟩:=gG h1;exact⟨Mf go h1 h2 h3 (Qb a go h4).1,λ_=>Pd go h1 h2 h3 (Qb a go h4).1⟩
|.a6 a,X,E,cf,e,go,h=>⟨PE.imp (Qb a go h).1 λ_ _ _ q=>yn q,λt=>aT t⟩
|.cS a,X,E,cf,e,go,h=>⟨PE.imp (Qb a go h).1 λ_ _ _ q=>vX q,λt=>aT t⟩
|.cO a,X,E,cf,e,go,h=>by refine Wc (λg x l p h=>?_) e h;refine kE (λh=>?_) l h;refine kC (λx r h=>?_) x h;refine kE (λh=>?_) r h;refine Wc (λg2 x l p2 h=>?_) x h;refine kE (λh=>?_) l h;refine kC (λx r h=>?_) x h;refine kE (λh=>?_) r h;obtain⟨h1,h2,h3,h4⟩:=a4 h;exact bo go (Ck go h1 h2 h3 (Qb a go h4).1) λ_=>rfl
|.dF a,X,E,cf,e,go,h=>by refine Wc (λg x l p h=>?_) e h;refine kE (λh=>?_) l h;refine kC (λx r h=>?_) x h;refine kE (λh=>?_) r h;refine Wc (λg2 x l p2 h=>?_) x h;refine kE (λh=>?_) l h;refine kC (λx r h=>?_) x h;refine kE (λh=>?_) r h;obtain⟨h1,h2,h3,h4⟩:=a4 h;exact bo go (Ee go h1 h2 h3 (Qb a go h4).1) λ_=>rfl
|.bY a,X,E,cf,e,go,h=>by refine Wc (λg x l p h=>?_) e h;refine kE (λh=>?_) l h;refine kC (λx r h=>?_) x h;refine kE (λh=>?_) r h;refine Wc (λg2 x l p2 h=>?_) x h;refine kE (λh=>?_) l h;refine kC (λx r h=>?_) x h;refine kE (λh=>?_) r h;obtain⟨h1,h2,h3,h4⟩:=a4 h;exact bo go (M5 go h1 h2 h3 (Qb a go h4).1) λ_=>rfl
|.i8 s ts,X,E,cf,e,go,h=>by refine Wc (λg x l p h=>?_) e h;refine kE (λh=>?_) l h;refine kC (λx r h=>?_) x h;refine kE (λh=>?_) r h;refine xq (λo n q h=>?_) g h;refine Jl (λc k1 p1 h=>?_) o h;refine Jl (λc2 k2 p2 h=>?_) x h;obtain⟨h1,h2,h3,h4,h5⟩:=a5 h;cases Da h1;cases Da h2;cases Da h3;exact bo go (E6 go h4 h5) λ_=>rfl
|.c8 a,X,E,cf,e,go,h=>by refine Wc (λg x l p h=>?_) e h;refine kE (λh=>?_) l h;refine kC (λx r h=>?_) x h;refine kE (λh=>?_) r h;obtain⟨h1,h2,h3⟩:=a3 h;exact bo go (DG go h1 h2 (Qb a go h3).1) λ_=>rfl
|.gp c a,X,E,cf,e,go,h=>by refine g9 (λx y p h=>?_) e h;obtain⟨h1,h2,h3⟩:=a3 h;exact bo go (L8 go h1 h2 (Qb a go h3).1) λ_=>rfl
|.fE c es,X,E,cf,e,go,h=>by refine Wc (λg x l p h=>?_) e h;refine kE (λh=>?_) l h;refine kC (λx r h=>?_) x h;refine kC (λy r h=>?_) r h;refine kE (λh=>?_) r h;refine xq (λg n q h=>?_) g h;obtain⟨h1,h2,h3,h4⟩:=a4 h;cases Da h2;exact bo go (Nr go h1 h3 (Jb h4)<|bP es go h4) λ_=>rfl
|.dO ps,X,E,cf,e,go,h=>by refine Mp (λx p h=>?_) e h;refine kC (λx r h=>?_) x h;refine kC (λy r h=>?_) r h;exact bo go (LS go h) λ_=>rfl
|.cU a,X,E,cf,e,go,h=>by refine Wc (λg x l p h=>?_) e h;refine kE (λh=>?_) l h;refine kC (λx r h=>?_) x h;refine kE (λh=>?_) r h;obtain⟨h1,h2,h3⟩:=a3 h;exact bo go (Pu go h1 h2 (Qb a go h3).1) λ_=>rfl
|.cm a,X,E,cf,e,go,h=>by refine Wc (λg x l p h=>?_) e h;refine kE (λh=>?_) l h;refine kC (λx r h=>?_) x h;refine kE (λh=>?_) r h;obtain⟨h1,h2,h3⟩:=a3 h;exact bo go (Sn go h1 h2 (Qb a go h3).1) λ_=>rfl
|.xf i f,X,E,cf,e,go,h=>by refine xq (λx n q h=>?_) e h;refine jq (λx p h=>?_) x h;obtain⟨h,h0⟩:=a2 h;obtain⟨h1,h2,h3⟩:=gG h;cases Da h0;exact bo go (RC go h1 h2 h3) λ_=>rfl
|.make c q es,X,E,cf,e,go,h=>by
  refine Wc (λg x l p h=>?_) e h;refine kE (λh=>?_) l h;obtain⟨h1,h2,h3⟩:=a3 h;cases x with
 |nil=>
   cases es with
   |cons _ _=>exact aT h3
   |nil=>exact bo go (CN go h1 h2) λ_=>rfl
 |cons y ys=>exact bo go (IZ go h1 h2 (Jb h3)<|bP es go h3) λ_=>rfl
|.aM a c f,X,E,cf,e,go,h=>by refine xq (λx n q h=>?_) e h;obtain⟨h0,h1,h2,h3⟩:=a4 h;cases Da h0;exact bo go (Sf go h1 h2 (Qb a go h3).1) λ_=>rfl
|.aI a c m q es,X,E,cf,e,go,h=>by
  refine Wc (λg ys l p h=>?_) e h;refine kE (λh=>?_) l h;refine xq (λx n p2 h=>?_) g h;obtain⟨h0,h1,h2,h3,h4,h5,h6⟩:=a7 h;cases Da h0;cases ys with
 |nil=>
   cases es with
   |cons _ _=>exact aT h6
   |nil=>exact bo go (Iq go h1 h2 h4 (Qb a go h5).1) λ_=>rfl
 |cons y ys=>exact bo go (L5 go h1 h2 (Da h3) h4 (Qb a go h5).1 (Jb h6)<|bP es go h6) λ_=>rfl
|.fe a,X,E,cf,e,go,h=>by refine Wc (λg ys l p h=>?_) e h;refine kE (λh=>?_) l h;refine kE (λh=>?_) ys h;refine xq (λx n p2 h=>?_) g h;obtain⟨h0,h1,h2,h3⟩:=a4 h;cases Da h0;exact bo go (Fi go h1 h2 (Qb a go h3).1) λ_=>rfl
|.lh o a,X,E,cf,e,go,h=>by refine g9 (λg y p h=>?_) e h;obtain⟨h1,h2,h3⟩:=a3 h;exact bo go (Cj go h1 (Qb o go h2).1 (Qb a go h3).1) λ_=>rfl
|.eJ neg a o,X,E,cf,e,go,h=>by refine kL (λx p y q h=>?_) e h;refine kC (λy r h=>?_) y h;obtain⟨h0,h1,h2,h3⟩:=a4 h;obtain⟨rfl,rfl⟩:=Da h0;exact⟨CK go h1 (Qb a go h2).1 (Qb o go h3).1,λ_=>Dq go h1 (Qb a go h2).1 (Qb o go h3).1⟩
|.iZ neg c a,X,E,cf,e,go,h=>by refine kL (λx p y q h=>?_) e h;refine kC (λy r h=>?_) y h;obtain⟨h0,h1,h2⟩:=a3 h;obtain⟨rfl,rfl⟩:=Da h0;exact⟨Ig go h1 (Qb a go h2).1,λ_=>NJ go h1 (Qb a go h2).1⟩
|.eA two a,X,E,cf,e,go,h=>by
  refine Wc (λg x l p h=>?_) e h;refine kE (λh=>?_) l h;refine xq (λo n q h=>?_) g h;refine kC (λx r h=>?_) x h;refine Jl (λc n' p1 h=>?_) x h;obtain⟨h1,h2,h3,h4,h5⟩:=a5 h;cases Da h1;cases Da h2;cases two with
 |false=>cases Ac8.j (a2 h5).2;exact bo go (tS (k2:=0) (p2:=p) go h3 h4 (Qb a go (a2 h5).1).1) λ_=>rfl
 |true=>refine kC (λy r h6=>?_) r (a2 h5).2;refine kE (λh6=>?_) r h6;refine Jl (λc n' p1 h6=>?_) y h6;cases Da h6;exact bo go (tS (two:=k9) go h3 h4 (Qb a go (a2 h5).1).1) λ_=>rfl
|.fi f a,X,E,cf,e,go,h=>by refine Wc (λg ys l p h=>?_) e h;refine kC (λx r h=>?_) ys h;refine kE (λh=>?_) r h;refine kC (λw r h=>?_) l h;refine kE (λh=>?_) r h;obtain⟨h0,h1,h2,h3,h4,h5⟩:=a6 h;exact bo go (Me go (Da h0) h1 h2 h3 h4 (Qb a go h5).1) λ_=>rfl
|.cW m a es,X,E,cf,e,go,h=>by refine Wc (λg x l p h=>?_) e h;refine kE (λh=>?_) l h;refine kC (λx r h=>?_) x h;refine kE (λh=>?_) r h;refine xq (λo n q h=>?_) g h;obtain⟨h1,h3,h4,h5,h6⟩:=a5 h;cases Da h1;exact bo go (DV go h3 h4 (Jb h6 _ Aa2) (Qb a go h5).1<|bP es go h6) λ_=>rfl
theorem iF:∀(es:M.Es){X:Cx}{E:XK}{cf:Cf}{xs:List Expr},Go Γ F X E k cf->aO cf es xs=k9->PA X xs (iz Γ E<|M.Gk F es)
|.p,X,E,cf,xs,go,h=>by cases Ac8.j h;exact D5
|.j a es,X,E,cf,xs,go,h=>by refine kC (λx r h=>?_) xs h;obtain⟨h1,h2,h3⟩:=a3 h;exact Pl h1 (Qb a go h2).1<|iF es go h3
theorem bP:∀(es:M.Es){X:Cx}{E:XK}{cf:Cf}{xs:List Expr},Go Γ F X E k cf->aO cf es xs=k9->PA X xs (fF Γ E<|M.Gg F es)
|.p,X,E,cf,xs,go,h=>by cases Ac8.j h;exact HG
|.j a es,X,E,cf,xs,go,h=>by refine kC (λx r h=>?_) xs h;obtain⟨h1,h2,h3⟩:=a3 h;exact F0 h1 (Qb a go h2).1<|bP es go h3
theorem my:∀(it:M.It){X:Cx}{E:XK}{cf:Cf}{tg e:Expr},Go Γ F X E k cf->dG cf it e=k9->xJ it tg=k9->PI X tg e (gQ Γ E y9<|M.Gp F it)
|.seq a,X,E,cf,tg,e,go,h,_=>IB go (Qb a go (a2 h).2).1
|.aA a,X,E,cf,tg,e,go,h,_=>by refine Wc (λg x l p h=>?_) e h;refine kE (λh=>?_) l h;refine kC (λx r h=>?_) x h;refine kE (λh=>?_) r h;obtain⟨h1,h2,h3⟩:=a3 h;exact JG go h1 h2 (Qb a go h3).1
|.zip a b,X,E,cf,tg,e,go,h,ht=>by
  cases tg with
 |Tuple elts x1 tp=>refine Wc (λg x l p h=>?_) e h;refine kE (λh=>?_) l h;refine kC (λx r h=>?_) x h;refine kC (λy r h=>?_) r h;refine kE (λh=>?_) r h;obtain⟨h1,h2,h3,h4,h5⟩:=a5 h;exact Bv go (λz=>absurd z Ab0) h1 h2 h3 (Qb a go h4).1 (Qb b go h5).1
 |_=>exact aT ht
|.p a,X,E,cf,tg,e,go,h,_=>aT h
end
end
structure Bs where
 G:Gh
 H:Hp
 h:M.AH
structure aV(Γ:Ge)(B:Bs)(G:Gh)(Y:M.Sl)(h:M.AH)(U:St)(H:Hp):Prop where
 st:ao Γ G Y h U H
 ext:Ext B.G B.H G H
 hr:ag Γ B.G B.h B.H
 own:∀i xs a,M.Gi Y i=y0 (.j xs)->U[i]?=y0 (y0<|.j a)->B.H a=u0
open Lake renaming MS.aV.own->Lake.MS.aV.j,MS.aV.ext->Lake.MS.aV.J,MS.aV.st->Lake.MS.aV.p
def aK(Γ:Ge)(E:XK)(B:Bs)(o:M.O)(D:jH):Prop:=match o with
|.p Y h=>∀G U H,aV Γ B G Y h U H->D.nx U H
|.ret w h=>∀G v H,Ext B.G B.H G H->ag Γ G h H->aj Γ G H w v->ay [] [] B.H w v->D.rt v H
|.brk Y h=>∀G U H,aV Γ B G Y h U H->D.bk U H
|.cont Y h=>∀G U H,aV Γ B G Y h U H->D.ct U H
|.exc d h=>∀G H,Ext B.G B.H G H->ag Γ G h H->kK Γ E d G H
|.w=>False
def bS(Γ:Ge)(E:XK)(m:M.Sl->M.AH->M.O):TS:=λD U H=>∃B G Y h,aV Γ B G Y h U H/\aK Γ E B (m Y h) D
def PS.imp {st:Stmt}(h:PS X st t)(k:∀D U H,t' D U H->t D U H):PS X st t':=λa s U H D I q=>h a s U H D I<|k _ _ _ q
def cE.imp {st:List Stmt}(h:cE X st t)(k:∀D U H,t' D U H->t D U H):cE X st t':=λa s U H D I q=>h a s U H D I<|k _ _ _ q
section
variable{Γ:Ge}{E:XK}{B:Bs}{G G1:Gh}{Y:M.Sl}{h h1:M.AH}{U:St}{H H1:Hp}{D:jH}
def aV.on (s:aV Γ B G Y h U H)(e:Ext G H G1 H1)(a:ag Γ G1 h1 H1):aV Γ B G1 Y h1 U H1:=⟨s.p.ext e a,s.J.trans s.hr e,s.hr,s.j⟩
theorem aK.exc (s:aV Γ B G Y h U H)(p:aK Γ E B (.exc d h1) D):ak Γ E G H (.exc d h1) P:=λa c e b=>p a c (s.J.trans s.hr e) b
def Xb(s:aV Γ B G Y h U H)(p:aK Γ E B ((m Y h).bw f) D)
 (k:∀w v h1 G1 H1,Ext G H G1 H1->aV Γ B G1 Y h1 U H1->aj Γ G1 H1 w v->ay Y U H w v->aK Γ E B (f w h1) D->Q v H1):tD Γ E m U H Q:=by
 refine⟨G,Y,h,s.p,?_⟩;cases q:m Y h with
|ok w h1=>rw[q]at p;exactλG1 H1 e c v b a=>k w v h1 G1 H1 e (s.on e c) b a p
|exc d h1=>rw[q]at p;exact aK.exc s p
|fail=>rw[q]at p;exact p
def BB(s:aV Γ B G Y h U H)(p:aK Γ E B ((m Y h).bw f) D)
 (k:∀b h1 G1 H1,Ext G H G1 H1->aV Γ B G1 Y h1 U H1->aK Γ E B (f b h1) D->Q b H1):cD Γ E m U H Q:=by
 refine⟨G,Y,h,s.p,?_⟩;cases q:m Y h with
|ok w h1=>rw[q]at p;exactλG1 H1 e a=>k w h1 G1 H1 e (s.on e a) p
|exc d h1=>rw[q]at p;exact aK.exc s p
|fail=>rw[q]at p;exact p
theorem aV.set (m:aV Γ B G Y h U H)(e:Ext G H G1 H1)(s:aV Γ B G1 Y h1 U H1)(r:aj Γ G1 H1 w v)(f:ay Y U H w v)(x:∀xs,w≠.p xs):aV Γ B G1 (M.GF Y i w) h1 (U.B i<|y0 v) H1:=by
 refine⟨s.p.set r λy j A t g l a u z=>?_,s.J,s.hr,λj xs a g k=>?_⟩
 .cases w with
|v d=>cases y
|bor xs=>exact x xs rfl
|own xs=>obtain⟨b,p,n⟩:=f;subst u;cases p;obtain⟨o,q⟩:=m.p.cR g l z;rw[n]at q;cases q
 .rw[Qh]at g;by_cases c:j=i/\i<Y.e
  .rw[Fk c]at g;cases g;obtain⟨rfl,c⟩:=c;rw[Ac2<|by rw[←s.p.len];exact c]at k;cases k;obtain⟨b,p,n⟩:=f;cases p;exact m.J.none m.hr n
  .rw[FB c]at g;have t:=λz=>c ⟨z,by subst z;exact Jr g⟩;rw[Ac5<|Ne.symm t]at k;exact s.j j xs a g k
def aV.fz (a:aV Γ B G Y h U H)(e:Ext G H G1 H1)(s:aV Γ B G1 Y h1 U H1)(r:aj Γ G1 H1 w v)(f:ay Y U H w v)(g:w.d=y0 d):∃G2,Ext G H G2 H1/\aV Γ B G2 Y h1 U H1/\au Γ G2 H1 d v:=by obtain⟨G2,b,c,rd,_⟩:=mi e s.p a.p r f g;exact⟨G2,b,⟨c,a.J.trans a.hr b,s.hr,s.j⟩,rd⟩
def aV.ek (s:aV Γ B G Y h U H)(r:au Γ G H d v):aV Γ B G (M.GF Y i<|.v d) h (U.B i<|y0 v) H:=aV.set s Ext.refl s r trivial λa z=>by cases z
theorem aV.aC:∀{is}{ds}{vs}{Y j}{U},M.aC is ds Y=y0 j->aa Γ G H ds vs->aV Γ B G Y h U H->aV Γ B G j h (gS is vs U) H/\is.e=vs.e
|[],[],_,_,_,_,e,rfl,s=>by cases e;exact⟨s,rfl⟩
|[],_::_,_,_,_,_,e,_,_=>by simp[M.aC]at e
|_::_,[],_,_,_,_,e,_,_=>by simp[M.aC]at e
|i::is,d::ds,_,_,_,_,e,z7,s=>by obtain⟨v,r,rfl,f,a⟩:=z7;obtain⟨b,c⟩:=aV.aC (by simpa[M.aC]using e) a<|s.ek f;exact⟨b,congrArg (·+1) c⟩
def rN(e:M.Gx tg one d Y=y0 Y')(r:au Γ G H d x)(s:aV Γ B G Y h U H)(c:∀j,aV Γ B G Y' h j H->Q j H):gM Γ tg one x U H Q:=by
 cases one with
|true=>
  cases tg with
 |nil=>cases e
 |cons i m=>
   cases m with
 |cons _ _=>cases e
 |nil=>cases e;exact⟨i,rfl,c _<|s.ek r⟩
|false=>
  cases d with
|tup k=>obtain⟨a,l,rfl,g,b⟩:=r;obtain⟨n,f⟩:=aV.aC (e) b s;exact⟨G,k,l,a,rfl,g,b,f,c _ n⟩
|_=>cases e
def aV.write (s:aV Γ B G Y h U H)(k:M.Gi Y i=y0 (.j xs))(m:U[i]?=y0 (y0<|.j a))(r:aa Γ G H ys us):aV Γ B G (M.GF Y i<|.j ys) h U<|ax H a<|.w us:=by
 obtain⟨I,of,X,Z,_⟩:=Wm s.p k m;have O:=s.j i xs a k m;have mon:Mon G H G<|ax H a<|.w us:=⟨λb o z q=>by rw[Ja<|λe:b=a=>I<|e▸z];exact q,Aa3 _,λ_ _=>rfl,λ_ z=>z⟩;have S:=Jr k;refine⟨⟨by rw[Zq];exact s.p.len,λj w e=>?_,λp q y w b L g f W Q=>?_,(by refine⟨s.p.j.j,λq c e=>⟨(s.p.j.C q c e).1,(s.p.j.C q c e).2.mon mon λo z=>by rw[Ja<|of q<|s.p.j.lt e];exact z⟩,s.p.j.inj,λb z=>?_⟩;obtain⟨o,q⟩:=s.p.j.p b z;exact⟨o,by rw[Ja<|λe:b=a=>I<|e▸z];exact q⟩)⟩,⟨λb o q C=>?_,s.J.le,s.J.aG,s.J.new,s.J.fz,s.J.old,λq D z=>?_⟩,s.hr,λj y b g f=>?_⟩
 .rw[Qh]at e;by_cases c:j=i/\i<Y.e
  .rw[Fk c]at e;cases e;obtain⟨rfl,_⟩:=c;exact⟨.j a,m,a,us,rfl,I,of,Xa,r.mon mon⟩
  .rw[FB c]at e;have P:=λz=>c ⟨z,by subst z;exact Jr e⟩;obtain⟨v,J,E⟩:=s.p.w j w e;refine⟨v,J,?_⟩;cases w with
|v d=>exact au.mon mon E
|own V=>obtain⟨b,bs,rfl,T,x,n,K⟩:=E;have u:b≠a:=λz=>s.p.p i j xs _ a (Ne.symm P) k e rfl m<|z▸J;exact⟨b,bs,rfl,T,x,by rw[Ja u];exact n,K.mon mon⟩
|bor V=>
    obtain⟨b,bs,rfl,x,n,K⟩:=E;have u:b≠a:=λz=>s.p.p i j xs _ a (Ne.symm P) k e rfl m<|z▸J;refine⟨b,bs,rfl,x,?_,K.mon mon⟩;obtain n|⟨o,n⟩:=n
    .exact .p<|by rwa [Ja u]
    .exact .w ⟨o,by rw[Ja u];exact n⟩
 .rw[Qh]at g f;have F:∃l,M.Gi Y p=y0 (.j l):=by
   by_cases c:p=i/\i<Y.e
   .exact⟨xs,by rw[c.1];exact k⟩
   .rw[FB c]at g;exact⟨y,g⟩
  have N:∃t,M.Gi Y q=y0 t/\gT t=true:=by
   by_cases c:q=i/\i<Y.e
   .exact⟨.j xs,by rw[c.1];exact k,rfl⟩
   .rw[FB c]at f;exact⟨w,f,W⟩
  obtain⟨l,F⟩:=F;obtain⟨t,N,A⟩:=N;exact s.p.p p q l t b L F N A Q
 .rw[Ja<|λe:b=a=>by rw[e,O]at q;cases q];exact s.J.j b o q C
 .obtain⟨o,R⟩:=s.J.w q D z;have:B.G.j q≠a:=λe=>by have:=of q<|Ab4 D s.J.le;rw[s.J.aG q D]at this;exact this e
  exact⟨o,by rw[Ja this];exact R⟩
 .rw[Qh]at g;by_cases c:j=i/\i<Y.e
  .obtain⟨rfl,_⟩:=c;rw[m]at f;cases f;exact O
  .rw[FB c]at g;exact s.j j y b g f
theorem Qx:∀(xs)(n){d},M.Gd xs=k9->M.Gf d=k9->M.Gd (xs.B n d)=k9
|[],_,_,_,_=>rfl
|x::xs,0,d,h,a=>by have h:=h;rw[Aa6]at h;show(M.Gf d&&M.Gd xs)=k9;rw[a,h.2];rfl
|x::xs,n+1,d,h,a=>by have h:=h;rw[Aa6]at h;show(M.Gf x&&M.Gd (xs.B n d))=k9;rw[h.1,Qx xs n h.2 a];rfl
def aV.ew (s:aV Γ B G Y h U H)(n:h[r]?=y0 c0)(z:bq Γ G (ax H (G.j r) o1) (G.j r) c1):aV Γ B G Y (h.B r c1) U<|ax H (G.j r) o1:=by
 have D:=(Ab3.j n).1;have f:=s.p.j.lt n;have l:=s.p.j.o9 f;have mon:Mon G H G<|ax H _ o1:=⟨λb o w q=>by rw[Ja<|λe:b=G.j r=>l<|e▸w];exact q,Aa3 _,λ_ _=>rfl,λ_ w=>w⟩;refine⟨⟨s.p.len,λj w e=>?_,s.p.p,(by
   refine⟨by rw[Ae];exact s.p.j.j,λq c e=>?_,s.p.j.inj,λb w=>?_⟩
   .by_cases c:q=r
    .subst c;rw[Ac2 D]at e;cases e;exact⟨l,z⟩
    .rw[Ac5<|Ne.symm c]at e;exact⟨(s.p.j.C q _ e).1,(s.p.j.C q _ e).2.mon mon λo w=>by rw[Ja λx=>c<|s.p.j.inj q r (s.p.j.lt e) f x];exact w⟩
   .obtain⟨o,q⟩:=s.p.j.p b w;exact⟨o,by rw[Ja<|λe:b=G.j r=>l<|e▸w];exact q⟩)⟩,⟨λb o q i=>?_,s.J.le,s.J.aG,s.J.new,s.J.fz,s.J.old,λq p w=>?_⟩,s.hr,s.j⟩
 .obtain⟨v,y,k⟩:=s.p.w j w e;refine⟨v,y,?_⟩;cases w with
|v d=>exact au.mon mon k
|own u=>obtain⟨b,bs,rfl,t,a,g,m⟩:=k;exact⟨b,bs,rfl,t,a,by rw[Ja<|Ne.symm<|a r f];exact g,m.mon mon⟩
|bor u=>
   obtain⟨b,bs,rfl,a,g,m⟩:=k;refine⟨b,bs,rfl,a,?_,m.mon mon⟩;obtain g|⟨o,g⟩:=g
   .exact .p<|by rwa [Ja<|Ne.symm<|a r f]
   .exact .w ⟨o,by rw[Ja<|Ne.symm<|a r f];exact g⟩
 .have C:b≠G.j r:=λe=>by
   by_cases c:r<B.G.n
   .exact i r c<|by rw[←s.J.aG r c];exact e.I
   .have:=s.J.new r (Nat.not_lt.j c) f;rw[←e,q]at this;cases this
  rw[Ja C];exact s.J.j b o q i
 .by_cases c:B.G.j q=G.j r
  .exact⟨_,by rw[c];exact Xa⟩
  .obtain⟨o,A⟩:=s.J.w q p w;exact⟨o,by rw[Ja c];exact A⟩
def JB(a:ag Γ G h H)(c:r<G.n)(o):Mon G H G<|ax H (G.j r) o:=⟨λb o w q=>by rw[Ja<|λe:b=G.j r=>a.o9 c<|e▸w];exact q,Aa3 _,λ_ _=>rfl,λ_ w=>w⟩
def aV.cell (s:aV Γ B G Y h U H)(a:h[r]?=y0 (.lst xs))(b:M.Gd ys=k9)(z:aa Γ G H ys us):aV Γ B G Y (h.B r<|.lst ys) U<|ax H (G.j r)<|.w us:=
 s.ew a ⟨b,us,Xa,z.mon<|JB s.p.j (s.p.j.lt a) _⟩
def aV.iI (s:aV Γ B G Y h U H)(a:h[r]?=y0 (.obj c0 xs))(z:aa Γ G H (ys.y (·.2)) us):aV Γ B G Y (h.B r<|.obj c0 ys) U<|ax H (G.j r)<|.ins (Γ.j c0) dx0<|(ys.y λp=>Str.ofString p.1).a1 us:=
 s.ew a ⟨dx0,us,Xa,z.mon<|JB s.p.j (s.p.j.lt a) _⟩
end
structure eM(Γ:Ge)(F:M.Fx)(X:Cx)(E:XK)(k:Nat)(cf:Cf):Prop extends Go Γ F X E k cf where
 hU:PassesOwn (model X.p X.w) X.A X.j X.xe
 held:wm (p8 X.p X.w X.j.j) X E
 fA:X.stack=X.j::X.outer
 kh:X.j.B=y0 X.j.j
 ex:X.ex=[]
 gs:∀c,cf.cb=true->cf.gs.w c=true->iK cf.p (zc c)=true->(zc c==("__debug__":Str))=false->dB Γ c/\∀(np cpos pos:Pos)(e:Expr)(es:List Expr)(t:TA),PA X (e::es) t->(∀e'∈e::es,Qa e'=true)→
  PS X (.w (y0<|.w (.p (zc c) np) (e::es) [] cpos) u0 pos) (vP (Γ.j c) E t)
 lD:∀c f,cf.cb=true->cf.y.er.w (c,f)=true->iK cf.p (zc c)=true->(zc c==("__debug__":Str))=false->dB Γ c/\hO Γ.K (Γ.j c) (zc f)/\∀(np cpos pos:Pos)(e:Expr)(t:TA),PA X [e] t->Qa e=true→
  PS X (.w (y0<|.w (.p (zc c) np) [e] [] cpos) u0 pos) (Ao (Γ.j c) (zc f) E t)
 o3:∀c f,cf.cb=true->cf.y.er.w (c,f)=true->iK cf.p (zc c)=true->(zc c==("__debug__":Str))=false->dB Γ c/\hO Γ.K (Γ.j c) (zc f)/\∀(np cpos pos pc:Pos)(kc:Nat)(e:Expr)(t:TA),(∀xa,iO (X.cZ.ec xa) xa e t)->Qa e=true→
  nU X E (Γ.j c) (zc f) t [.w (y0<|.w (.p (zc c) np) [e] [] cpos) (y0<|.y .y kc pc) pos]
 ra:cf.uh=k9->lU X
 pK:∀f,cf.qh.w f=k9->∃ps fa fd,kO X.p X.w X.K X.mg X.base (bc X.p X.w) 2 fa fd ps (eG Γ<|F.j f)/\Binds X.K fd ps []/\Ag1 X.K (.j fa)=k9/\X.mg (zc f)=y0 (.j fa)
 pat:∀hd,PassesOwnAt (model X.p X.w) (X.A.mark hd) X.A X.j X.xe
 d4:∀c,cf.d4.w c=true->PySem.W.mroIn X.K (Γ.j c) (.p "BaseException")=some true/\cf.j.w c=true/\2<=k
section
open Lake renaming MS.aa.length->Lake.MS.aa.e
variable{Γ:Ge}{F:M.Fx}{X:Cx}{E:XK}{k:Nat}{cf:Cf}
def WF(h:Qz cf i x=k9):cf.N[i]?=y0 x/\kI cf.p x=true:=by simpa[Qz]using h
def NT(h:pG cf i x=k9):cf.N[i]?=y0 x/\cf.p.j.p x=y0 .local:=by simpa[pG]using h
def jf(h:Jm v=k9):swapsWith v t l env=pure false:=by
 cases v<;>first|rfl|(simp[Jm]at h)
def zK:swapsWith v (y0<|.j o n p) l env=pure false:=by cases v<;>rfl
def qT(b:Go Γ F X E k cf)(a:Qz cf i x=k9)(c:PE X v<|tD Γ E<|M.eval F m)(d:swapsWith v (y0<|.p x p) pos.p X.j=pure y9):
 PS X (.j [.p x p] v pos)<|iW (tD Γ E<|M.eval F m)<|JW i:=by
 obtain⟨f,e⟩:=WF a;have a:=b.gU x e;exact HA (by rw[b.N];exact b.nd) (by rwa [b.N]) a.1 c d a.2
noncomputable def yk:M.E->Bool
|.a6 _=>k9
|.cS _=>k9
|.M ..=>k9
|_=>y9
def Ia(h:wb cf m v=k9)(a:yk m=y9):Jm v=true:=by
 cases v with
|ListComp _ _ _ _=>cases m<;>first|exact aT h|(exact absurd (a) An1)
|SetComp _ _ _ _=>cases m<;>first|exact aT h|(exact absurd (a) An1)
|DictComp _ _ _ _ _=>cases m<;>first|exact aT h|(exact absurd (a) An1)
|_=>rfl
def Df(d:Cf)(a:Bool)(b:List Expr)(c:M.E):Bool:=bif a then(lC b λz r=>kZ r<|f6 c&&wb d c z)else b.K
def Rr{tg:List Nat}{one a:Bool}{b:Nat}{az:List Nat}{it:M.It}{c elt:M.E}{v:Expr}(h:wb cf (.M tg one b az it a c elt) v=k9):∃y t iter ifs scope p0,v=.K y [⟨t,iter,ifs,0⟩] scope p0∧
 lj cf scope (xt cf t az) b az/\(∀i∈tg,i<b)/\Qe {cf with sc:=scope,N:=xt cf t az} tg one t=k9/\(xJ it t&&dG cf it iter)=k9/\wb {cf with sc:=scope,N:=xt cf t az} elt y=k9∧
 Df {cf with sc:=scope,N:=xt cf t az} a ifs c=true:=by
 refine uw (λy g s p h=>kC (λg r h=>?_) g h) v h;obtain⟨t,iter,ifs,z⟩:=g;obtain⟨l,m,d,e,f,k,j⟩:=a7 h;obtain⟨rfl,rfl⟩:=Da l;simp[Pi]at d;exact⟨y,t,iter,ifs,s,p,rfl,XF m,d,e,f,k,j⟩
def Ek(f:Go Γ F X E k cf){v:Expr}{i:Nat}{x:Str}{p pos:Pos}(w:Qz cf i x=k9){tg:List Nat}{one a:Bool}{A:Nat}{az:List Nat}{it:M.It}{c elt:M.E}(h:wb cf (.M tg one A az it a c elt) v=k9):
 PS X (.j [.p x p] v pos)<|iW (tD Γ E<|M.eval F<|.M tg one A az it a c elt)<|JW i:=by
 obtain⟨y,t,l,e,d,D,rfl,m,J,B,n,K,o⟩:=Rr h;obtain⟨b,u⟩:∃b,swapsWith (.K y [⟨t,l,e,0⟩] d D) (y0<|.p x p) pos.p X.j=pure b:=⟨_,rfl⟩;cases b with
|false=>exact qT f w ((Qb _ f h).1) u
|true=>
  obtain⟨N,L⟩:=WF w;have O:∀C j s H,iu (Wd X _ d C j s H) e<|cD Γ E0<|j8 F a c:=λC j s H=>by
   cases a with
|true=>refine kC (λz r h=>kE (λh=>?_) r h) e o;exact Aq<|(Qb c (qx f m C j s H) (a2 h).2).2 (a2 h).1
|false=>cases Ac8.j o;rintro g P U q Q I ⟨G,Y,h,R,p⟩;exact tT g P U q Q I<|p G q Ext.refl R.j
  exact De f N L u m (QC m.az) B J (JT (a2 n).2) (my it f (a2 n).2 (a2 n).1) (λC j s H=>(Qb elt (qx f m C j s H) K).1) O
def xb(a:Go Γ F X E k cf)(b:Qz cf i x=k9)(h:wb cf m v=k9)(c:yk m=y9):PS X (.j [.p x p] v pos)<|iW (tD Γ E<|M.eval F m)<|JW i:=
 qT a b (Qb m a h).1<|jf<|Ia h c
theorem nt(c:Go Γ F X E k cf){v:Expr}{i:Nat}{x:Str}{p pos:Pos}(b:Qz cf i x=k9):∀(m:M.E),wb cf m v=k9->PS X (.j [.p x p] v pos) (iW (tD Γ E<|M.eval F m)<|JW i)
|.a6 a,h=>PS.imp (nt c b a h) λD U H q=>yn q
|.cS a,h=>PS.imp (nt c b a h) λD U H q=>vX q
|.M ..,h=>Ek c b h
|.lh ..,h=>xb c b h rfl
|.eJ ..,h=>xb c b h rfl
|.iZ ..,h=>xb c b h rfl
|.eA ..,h=>xb c b h rfl
|.dH,h=>xb c b h rfl
|.cQ ..,h=>xb c b h rfl
|.dA,h=>xb c b h rfl
|.var _,h=>xb c b h rfl
|.con _,h=>xb c b h rfl
|.int _,h=>xb c b h rfl
|.bl _,h=>xb c b h rfl
|.ai,h=>xb c b h rfl
|.str _,h=>xb c b h rfl
|.tup _,h=>xb c b h rfl
|.lst _,h=>xb c b h rfl
|.bin ..,h=>xb c b h rfl
|.cmp ..,h=>xb c b h rfl
|.a4 ..,h=>xb c b h rfl
|.eT ..,h=>xb c b h rfl
|.neg _,h=>xb c b h rfl
|.inv _,h=>xb c b h rfl
|.not _,h=>xb c b h rfl
|.and ..,h=>xb c b h rfl
|.or ..,h=>xb c b h rfl
|.j ..,h=>xb c b h rfl
|.bi ..,h=>xb c b h rfl
|.dR ..,h=>xb c b h rfl
|.bO ..,h=>xb c b h rfl
|.ix ..,h=>xb c b h rfl
|.fT ..,h=>xb c b h rfl
|.eC ..,h=>xb c b h rfl
|.cO _,h=>xb c b h rfl
|.dF _,h=>xb c b h rfl
|.bY _,h=>xb c b h rfl
|.c8 _,h=>xb c b h rfl
|.i8 ..,h=>xb c b h rfl
|.cW ..,h=>xb c b h rfl
|.gp ..,h=>xb c b h rfl
|.fE ..,h=>xb c b h rfl
|.dO _,h=>xb c b h rfl
|.cU _,h=>xb c b h rfl
|.cm _,h=>xb c b h rfl
|.xf ..,h=>xb c b h rfl
|.make ..,h=>xb c b h rfl
|.aM ..,h=>xb c b h rfl
|.aI ..,h=>xb c b h rfl
|.fe ..,h=>xb c b h rfl
|.fi ..,h=>xb c b h rfl
def DN(b:Go Γ F X E k cf)(o:Qz cf i x=k9)(h:wb cf m v=k9):PS X (.j [.p x p] v pos)<|bS Γ E<|M.exec F<|.set i m:=by
 refine PS.imp (nt b o m h) λD U H d=>?_;obtain⟨B,G,Y,h,s,p⟩:=d;refine Xb s p λw v q l e n j g f a=>?_;cases w with
|bor c=>exact a.j
|_=>exact a l _ e<|aV.set s n j g f λc z=>by cases z
def N9(b:Go Γ F X E k cf)(o:Qz cf i x=k9)(h:wb cf m v=k9):PS X (.j [.p x p] v pos)<|bS Γ E<|M.exec F<|.ae i m:=by
 refine PS.imp (nt b o m h) λD U H e=>?_;obtain⟨B,G,Y,h,s,p⟩:=e;refine Xb s p λw v y t f n l j g a=>?_;cases q:w.d with
|none=>rw[q]at a;exact a.j
|some d=>rw[q]at a;obtain⟨c,u,r,rd⟩:=aV.fz s n l j g q;exact a c _ f<|r.ek rd
def wt:swapsWithSole [.L ts n p] v l env=pure false:=by cases v<;>rfl
def ql(h:we v=k9):swappedStores [.L ts n p] v env=pure none:=by
 cases v<;>first|rfl|(simp[we]at h)
def O2(c:Go Γ F X E k cf)(u:cf.uh=k9->lU X)(l:pN cf is ts=k9)(i:we v=k9)(h:wb cf m v=k9):PS X (.j [.L ts n p] v pos)<|bS Γ E<|M.exec F<|.dw is m:=by
 refine PS.imp (JF (Qb m c h).1 (MJ c u l) wt (ql i) rfl) λD U H f=>?_;obtain⟨B,G,Y,h,s,p⟩:=f;refine Xb s p λw v t r g z o j y a=>?_;cases w with
|v d=>
  cases d with
 |tup b=>
   have a:aK Γ E B (match M.aC is b Y with|some Y'=>.p Y' t|none=>.w) D:=a;cases q:M.aC is b Y with
   |none=>rw[q]at a;exact a.j
   |some Y'=>rw[q]at a;exact rN (show M.Gx is y9 (.p b) Y=y0 Y' from q) j o λx e=>a r x g e
 |_=>exact a.j
|_=>exact a.j
def Iw(c:Go Γ F X E k cf){v:Expr}{is:List Nat}{ts:List Expr}{n:Nat}{p pos:Pos}(r:xY cf is ts=k9)(l:we v=k9){m:M.E}(h:wb cf m v=k9):PS X (.j [.L ts n p] v pos)<|bS Γ E<|M.exec F<|.gb is m:=by
 refine PS.imp (JF (Qb m c h).1 (H9 c r) wt (ql l) rfl) λD U H i=>?_;obtain⟨B,G,Y,h,s,p⟩:=i;refine Xb s p λw v y u j J t o I b=>?_;cases w with
|own d=>
  have b:aK Γ E B (match M.aC is d Y with|some Y'=>.p Y' y|none=>.w) D:=b;cases q:M.aC is d Y with
 |none=>rw[q]at b;exact b.j
 |some Y'=>rw[q]at b;obtain⟨a,g,rfl,C,A,f,z⟩:=o;obtain⟨e,x⟩:=aV.aC q z t;exact⟨a,g,rfl,bu.of f,x,b u _ j e⟩
|_=>exact b.j
def jt:swapsWithSole [.B x y p] v l env=pure false:=by cases v<;>rfl
def xo:swappedStores [.B x y p] v env=pure none:=by cases v<;>rfl
def wG(a:Wb y=k9)(v):assign (.B x y p) env v=(do
 let ov←holding [v]<|eval x env;let j←holding [v,ov]<|eval y env
 standAt p
 holding [v,ov,j]<|setItem ov j v
 release [v,ov,j] []):=by
 cases y<;>first|rfl|(simp[Wb]at a)
def XA(a:M.GO d=k9)(z:au Γ G H d v):au Γ G' H' d v:=by
 cases d with
|ai=>exact z
|bl _=>exact z
|int _=>exact z
|str _=>exact z
|_=>exact absurd (a) Ab0
def XJ(a:M.GO d=k9):M.Gf d=true:=by
 cases d<;>first|rfl|exact absurd (a) Ab0
set_option tactic.hygienic true in
def W3(b:Go Γ F X E k cf)(P:Wb y=k9)(i:wb cf o x=k9)(N:wb cf kx y=k9)(h:wb cf m v=k9):PS X (.j [.B x y p] v pos)<|bS Γ E<|M.exec F<|.bN o kx m:=by
 refine PS.imp (JF (Qb m b h).1 (JX (Qb o b i).1 (Qb kx b N).1 qO<|wG P) jt xo rfl) λD U H z=>?_;obtain⟨B,G,Y,h,s,p⟩:=z;refine Xb s p λw v h1 G1 H1 e1 L K f1 A=>Xb L A λow ov h2 S W e2 g O f2 C=>Xb g C λkw iv T Q H3 R e J Z a=>?_;unfold M.Kq at a;split at a
 .rename_i d r j;split at a
  .rename_i c q;split at a
   .rename_i n l;split at a
    .rename_i f;obtain⟨V,I⟩:=(aj.ext R g.p.j O);subst I;cases(J);obtain⟨_,u,t,rv⟩:=e.p.j.cell r c q;refine⟨_,u,j,n,rfl,rfl,t,by rw[←rv.e];exact l,?_⟩;exact a Q U _<|e.cell q (Qx c n (e.p.j.pure r c q)<|XJ f)<|aa.set (XA f K) n rv
    .exact a.j
   .exact a.j
  .exact a.j
 .exact a.j
def PB(h:M.gm w=y0 (a,b)):w=.v (.p [a,b]):=by
 unfold M.gm at h;split at h
 .cases h;rfl
 .cases h
set_option tactic.hygienic true in
def NO(e:Go Γ F X E k cf)(hy:Wb y=k9)(hn:we v=k9)(I:(cf.cb&&Qz cf j a)=k9)(W:wb cf o x=k9)(hk:wb cf kx y=k9)(h:wb cf m v=k9):PS X (.j [.L [.B x y p,.p a pa] n pt] v pos)<|bS Γ E<|M.exec F<|.gC o kx j m:=by
 obtain⟨P,j2⟩:=WF (a2 I).2;have J:=e.gU a j2;refine PS.imp (JF (Qb m e h).1 (uB (e.C (a2 I).1)<|JP (JX (Qb o e W).1 (Qb kx e hk).1 qO<|wG hy)<|JP (Z9 (by rw[e.N];exact e.nd) (by rw[e.N];exact P) J.1 J.2) ub) wt (ql hn) rfl) λD U H qq=>?_;obtain⟨B,G,Y,h,s,p⟩:=qq;refine Xb s p λw v h1 G1 H1 z s1 r1 f1 l=>?_;cases u:M.gm w with
|none=>rw[u]at l;exact l.j
|some dd=>
  obtain⟨d1,d2⟩:=dd;cases PB u;obtain⟨b,C,rfl,R,v1,r',rfl,N,v2,S,rfl,Z,rfl⟩:=(r1);refine⟨b,[v1,v2],rfl,e.K▸R.sq,rfl,v1,[v2],rfl,?_⟩;refine Xb s1 l λow ov h2 G2 H2 e2 L r2 f2 p2=>?_;refine Xb L p2 λkw iv h3 A H3 V i Q f3 f=>?_;split at f;rotate_left
  .exact f.j
  rename_i g;cases c:M.Kq _ ow kw Y h3 with
|next Y' h'=>
   rw[c]at f;unfold M.Kq at c;split at c
   .rename_i d r T z;cases z;split at c
    .rename_i t q;split at c
     .rename_i n qn;split at c
      .rename_i K;cases c;obtain⟨h4,h5⟩:=(aj.ext V L.p.j r2);subst h5;cases(Q);have rd:au Γ A H3 d1 v1:=XA K N;obtain⟨_,C,hv,rv⟩:=i.p.j.cell r t q;refine⟨_,C,T,n,rfl,rfl,hv,by rw[←rv.e];exact qn,?_⟩;have O:=i.cell q (Qx t n (i.p.j.pure r t q)<|XJ K)<|aa.set rd n rv;exact⟨v2,[],rfl,rfl,f A _ _<|O.ek<|XA g Z⟩
      .cases c
     .cases c
    .cases c
   .cases c
|_=>rw[c]at f;exact f.j
def Ba(b:Go Γ F X E k cf)(h:WT cf i m e cpos=k9):∃o apos,e=.j o m apos/\PE X o (l7 i)/\attributeBase o m X.j (eval o X.j)=eval o X.j/\(apos.j==cpos.p)=true:=by refine xq (λx n q h=>jq (λx p h=>?_) x h) e h;obtain⟨h,c,f⟩:=a3 h;obtain⟨g,d,a⟩:=gG h;cases Da c;unfold dJ at a;rw[Aa6]at a;exact⟨_,_,rfl,zu (by rwa [b.N]) (b.gy x d) (by simpa using a.1)<|by simpa using a.2,rfl,f⟩
def FE(j:Go Γ F X E k cf)(P:WT cf i "append" f cpos=true)(c:Qa v=true)(h:wb cf m v=true):PS X (.Expr (.w f [v] [] cpos) pos)<|bS Γ E<|M.exec F<|.app i m:=by
 obtain⟨o,n,rfl,pv,N,y⟩:=Ba j P;refine PS.imp (xC (Zj S9 Ui Uj (λ_ _ _ _ _ _=>nL) ZU pv (qc (Qb m j h).1 Jf<|ja c) N (by rw[ja c];rfl) y (ja c) rfl)<|jf rfl) λD U H A=>?_;obtain⟨B,G,Y,h,s,p⟩:=A;rw[M.zEx7]at p;cases q:M.Gi Y i with
|none=>rw[q]at p;exact p.j
|some w0=>
  rw[q]at p;cases w0 with
|own t=>
   obtain⟨v0,g,a,C,rfl,V,S,z,z5⟩:=s.p.w i _ q;refine⟨.j a,g,.p ⟨rfl,C,bu.of z⟩,Xb s p λw v Q Z T O K J I b=>?_⟩;cases e:w.d with
 |none=>rw[e]at b;exact b.j
 |some d=>
    rw[e]at b;obtain⟨x,e2,u,rd⟩:=aV.fz s O K J I e;have b:aK Γ E B (if t.e<M.aR then .p _ Q else .w) D:=b;by_cases r:t.e<M.aR
    .rw[Fk r]at b;obtain⟨W,of,L,R,rs⟩:=Wm u.p q g;have l:=rs.e;exact⟨a,L,v,rfl,rfl,R,by have:=Xe;lia,b x U _<|u.write q g<|rs.append ⟨v,[],rfl,rd,rfl⟩⟩
    .rw[FB r]at b;exact b.j
|_=>exact p.j
def E1(r:Go Γ F X E k cf)(P:WT cf i "extend" f cpos=true)(e:Qa v=true)(h:wb cf m v=true):PS X (.Expr (.w f [v] [] cpos) pos)<|bS Γ E<|M.exec F<|.ext i m:=by
 obtain⟨o,x,rfl,pv,l,C⟩:=Ba r P;refine PS.imp (xC (Zj S9 PySem.F.slot_list_extend PySem.F.type_list_extend (λ_ _ _ _ _ _=>nL) OL pv (qc (Qb m r h).1 Jf<|ja e) l (by rw[ja e];rfl) C (ja e) rfl)<|jf rfl) λD U H J=>?_;obtain⟨B,G,Y,h,s,p⟩:=J;rw[M.zEx8]at p;cases q:M.Gi Y i with
|none=>rw[q]at p;exact p.j
|some w0=>
  rw[q]at p;cases w0 with
|own A=>
   obtain⟨v0,j,a,K,rfl,V,S,I,z5⟩:=s.p.w i _ q;refine⟨.j a,j,.p ⟨rfl,K,bu.of I⟩,Xb s p λw v Q O T e1 y L W c=>?_⟩;cases w with
 |own u=>
    obtain⟨b,n,rfl,_,_,l,d⟩:=L;have c:aK Γ E B (if A.e+u.e<M.aR then .p _ Q else .w) D:=c;by_cases z:A.e+u.e<M.aR
    .rw[Fk z]at c;obtain⟨Z,of,N,R,rs⟩:=Wm y.p q j;have t:=rs.e;have g:=d.e;exact⟨a,b,N,n,rfl,rfl,R,l,by have:=Xe;lia,c O U _<|y.write q j<|rs.append d⟩
    .rw[FB z]at c;exact c.j
 |_=>exact c.j
|_=>exact p.j
theorem jK:∀{xs ys},M.Gd xs=k9->M.Gd ys=k9->M.Gd (xs++ys)=k9
|[],_,_,h=>h
|x::xs,ys,h,a=>by have h:=h;rw[Aa6]at h;show(M.Gf x&&M.Gd (xs++ys))=k9;rw[h.1,jK h.2 a];rfl
set_option tactic.hygienic true in
def C7(u:Go Γ F X E k cf)(hx:attributeBase x "append" X.j (eval x X.j)=eval x X.j)(J:(apos.j==cpos.p)=true)(i:Qa v=true)(ha:wb cf a x=true)(h:wb cf m v=true):PS X (.Expr (.w (.j x "append" apos) [v] [] cpos) pos)<|bS Γ E<|M.exec F<|.fP a m:=by
 refine PS.imp (xC (Zj S9 Ui Uj (λ_ _ _ _ _ _=>nL) ZU (Qb a u ha).1 (qc (Qb m u h).1 Jf<|ja i) hx (by rw[ja i];rfl) J (ja i) rfl)<|jf rfl) λD U H L=>?_;obtain⟨B,G,Y,h,s,p⟩:=L;refine Xb s p λo vo S G0 H0 e0 j r0 f0 c=>?_;cases q:M.G8 S (y0 o)with
|none=>rw[q]at c;exact c.j
|some rx=>
  rw[q]at c;obtain⟨Z,Q⟩:=ZV q;cases Z;obtain⟨e,rfl⟩:=(r0);obtain⟨_,l,g,_⟩:=j.p.j.cell rx.1 rx.2 Q;refine⟨.p ⟨rfl,l,bu.of g⟩,Xb j c λw v h1 G1 H1 W R P O b=>?_⟩;split at b
  .rename_i d r f N V;obtain⟨C,e2,t,rd⟩:=aV.fz j W R P O N;by_cases A:f.e<M.aR/\M.Gf d=k9
   .rw[Fk A]at b;obtain⟨I,n⟩:=ZV V;cases I;obtain⟨_,T,K,y⟩:=t.p.j.cell _ f n;have z:=y.e;exact⟨_,T,v,by rw[e2.aG _ e],rfl,K,by have:=Xe;lia,b C U _<|t.cell n (jK (t.p.j.pure _ f n)<|by simp_all)<|y.append ⟨v,[],rfl,rd,rfl⟩⟩
   .rw[FB A]at b;exact b.j
  .exact b.j
def j5(a:Go Γ F X E k cf)(h1:cf.N[i]?=y0 x)(h2:eI cf.p x=k9)(u:dJ x=k9)(l:cf.y.fl.w (c,f)=k9)(h:wb cf m v=k9):PS X (.j [.j (.p x j) (zc f) p2] v pos)<|bS Γ E<|M.exec F<|.aZ i c f m:=by
 refine PS.imp (BF (qv a h1 h2 u) (Qb m a h).1 zK) λD U H z=>?_;obtain⟨B,G,Y,h,s,p⟩:=z;refine Xb s p λw v h1 g L Q e A N j=>?_;cases w with
|v d=>
  cases q:M.GD h1 (M.Gi Y i)with
 |none=>rw[q]at j;exact j.j
 |some o=>
   obtain⟨r,C,fs⟩:=o;rw[q]at j;dsimp only at j;split at j
   .rename_i J;obtain⟨rfl,R⟩:=J;obtain⟨S,n⟩:=Xq q;obtain⟨O,dx,P,y,t⟩:=e.p.j.obj r _ fs n;obtain⟨I,b,K⟩:=jR (A) t;refine⟨_,ur e.p q,g.j r,Γ.j C,dx,_,rfl,y,(a.fld _ _ l).1,(a.fld _ _ l).2,?_,?_⟩
    .rw[Ah4,Aa4];lia
    .rw[K];exact j g U _<|e.iI n b
   .exact j.j
|_=>exact j.j
def zU(a:Go Γ F X E k cf)(h1:cf.N[i]?=y0 x)(h2:eI cf.p x=k9)(u:dJ x=k9)(n:cf.y.fl.w (c,f)=k9)(h:wb cf m v=k9):PS X (.j [.j (.p x j) (zc f) p2] v pos)<|bS Γ E<|M.exec F<|.b9 i c f m:=by
 refine PS.imp (BF (qv a h1 h2 u) (Qb m a h).1 zK) λD U H A=>?_;obtain⟨B,G,Y,h,s,p⟩:=A;refine Xb s p λw v h1 V Q L K I C j=>?_;cases e:w.d with
|none=>rw[e]at j;exact j.j
|some d=>
  rw[e]at j;obtain⟨l,W,g,rd⟩:=aV.fz s L K I C e;cases q:M.GD h1 (M.Gi Y i)with
|none=>rw[q]at j;exact j.j
|some o=>
   obtain⟨r,J,fs⟩:=o;rw[q]at j;dsimp only at j;split at j
   .rename_i O;obtain⟨rfl,S,Z⟩:=O;have t:=(Xq q).2;obtain⟨R,dx,T,z,y⟩:=g.p.j.obj r _ fs t;obtain⟨N,b,P⟩:=jR rd y;refine⟨_,ur g.p q,l.j r,Γ.j J,dx,_,rfl,z,(a.fld _ _ n).1,(a.fld _ _ n).2,?_,?_⟩
    .rw[Ah4,Aa4];lia
    .rw[P];exact j l U _<|g.iI t b
   .exact j.j
set_option tactic.hygienic true in
def NM(c:Go Γ F X E k cf)(h1:cf.N[i]?=y0 x)(h2:eI cf.p x=k9)(n:dJ x=k9)(J:Wb y=k9)(A:wb cf kx y=k9)(h:wb cf (.bl k9) v=k9):PS X (.j [.B (.p x p) y p2] v pos)<|bS Γ E<|M.exec F<|.ef i kx:=by
 refine PS.imp (JF (Qb _ c h).1 (JX (qv c h1 h2 n) (Qb kx c A).1 DA<|wG J) jt xo rfl) λD U H o=>?_;obtain⟨B,G,Y,h,s,p⟩:=o;rw[M.zEx11]at p;refine⟨G,Y,h,s.p,?_⟩;intro O Q I e v0 iQ _;have j:=s.on I e;cases q:M.Kv h (M.Gi Y i)with
|none=>rw[q]at p;exact p.j
|some rx=>
  obtain⟨T,z⟩:=rx;rw[q]at p;have m:=(wo j.p q).1;refine⟨_,m,Xb j p λw P h1 C L S l u N b=>?_⟩;split at b
  .rename_i K r t g;split at b
   .rename_i R;obtain⟨a,f⟩:=wo l.p g;have d:=by rw[m]at a;exact Ae3.inj<|Ae3.inj a
    cases u;exact⟨K,_,t,rfl,d,iQ,f,by have:=Xe;exact Ab4 ‹_› ‹_›,b C U _<|l.ew (yw g).2 Xa⟩
   .exact b.j
  .exact b.j
set_option tactic.hygienic true in
def RE(f:Go Γ F X E k cf){x y v:Expr}{p2 pos:Pos}(hy:Wb y=k9){o i m:M.E}(J:wb cf o x=k9)(V:wb cf i y=k9)(h:wb cf m v=k9):PS X (.j [.B x y p2] v pos)<|bS Γ E<|M.exec F<|.dD o i m:=by
 refine PS.imp (JF (Qb m f h).1 (JX (Qb o f J).1 (Qb i f V).1 MW<|wG hy) jt xo rfl) λD U H K=>?_;obtain⟨B,G,Y,h,s,p⟩:=K;refine Xb s p λw v h1 Z L e1 u R f1 N=>Xb u N λw0 v0 T G0 H0 e0 j r0 f0 c=>?_;cases q:M.GT T (y0 w0)with
|none=>rw[q]at c;exact c.j
|some rx=>
  obtain⟨r,S⟩:=rx;rw[q]at c;obtain⟨rfl,_,O,rfl,_⟩:=WV j.p.j r0 q;refine Xb j c λkw iv h2 C H2 A e W f2 p2=>?_;split at p2
  .rename_i d t r' ks er;split at p2
   .rename_i hL;obtain⟨P,z,_,g,Q,us,I,n⟩:=WV e.p.j (JL A O) er;cases P;cases W;obtain⟨l,a,b⟩:=RR (((show au Γ Z L d v from R).ext e0 u.p.j).ext A j.p.j) n;refine⟨ar t,_,_,rfl,g,I,by rw[Lu n];have:=Xe;lia,?_⟩;rw[b];exact p2 C U _<|e.ew z ⟨Fh hL.2 Q,l,Xa,a.mon<|JB e.p.j (e.p.j.lt z) _⟩
   .exact p2.j
  .exact p2.j
theorem A5{G:Gh}{H:Hp}{k:M.Tx}:∀{c:List<|M.Tx×M.D}{us:List V},aa Γ G H (c.y (·.2)) us->∃j,aa Γ G H ((M.KR c k).y (·.2)) j/\oi (dv c us) (ar k)=dv (M.KR c k) j
|[],_,rfl=>⟨[],rfl,rfl⟩
|(g,x)::fs,_,z7=>by
  obtain⟨u,r,rfl,f,e⟩:=z7;obtain⟨j,a,b⟩:=A5 (k:=k) e;show∃j,aa Γ G H (((((g,x)::fs).a2 λp=>u9<|p.1≠k)).y (·.2)) j/\(((ar g,u)::dv fs r).a2 λp=>u9<|p.1≠ar k)=dv (((g,x)::fs).a2 λp=>u9<|p.1≠k) j;by_cases q:g=k
  .subst q;rw[Ak5 Y9,Ak5 Y9];exact⟨j,a,b⟩
  .have d:¬ar g=ar k:=λz=>q<|Wp z;rw[Ag7<|by simpa using q,Ag7<|by simpa using d];exact⟨u::j,⟨u,j,rfl,f,a⟩,congrArg ((ar g,u)::·) b⟩
set_option tactic.hygienic true in
def C1(w:Go Γ F X E k cf){x y:Expr}{c e pos:Pos}{o n:M.E}(L:(c.j==e.p)=k9)(hc:Wo x=k9)(m:Qa y=k9)(K:wb cf o x=k9)(h:wb cf n y=k9):PS X (.Expr (.w (.j x "pop" c) [y] [] e) pos)<|bS Γ E<|M.exec F<|.et o n:=by
 refine PS.imp (xC (Zj Up UL PySem.F.type_dict_pop F1 B2 (Qb o w K).1 (qc (Qb n w h).1 Jf<|ja m) (aJ hc _) (by rw[ja m];rfl) L (ja m) rfl)<|jf rfl) λD U H O=>?_;obtain⟨B,G,Y,h,s,p⟩:=O;refine Xb s p λw0 v0 W G0 H0 e0 A r0 f0 g=>?_;cases q:M.GT W (y0 w0)with
|none=>rw[q]at g;exact g.j
|some rx=>
  obtain⟨r,T⟩:=rx;rw[q]at g;obtain⟨rfl,_,Q,rfl,_,us0,l,_⟩:=WV A.p.j r0 q;refine⟨⟨_,_,rfl,l⟩,Xb A g λkw iv h2 I H2 e2 i r2 f2 f=>?_⟩;split at f
  .rename_i t r' ks er;split at f
   .rename_i hL;obtain⟨R,C,_,j,S,us,J,z⟩:=WV i.p.j (JL e2 Q) er;cases R;cases r2;obtain⟨d,V⟩:=Ad3.j hL;obtain⟨v,P,_⟩:=rQ z V;obtain⟨u,a,b⟩:=A5 z;refine⟨_,_,ar t,v,j,rfl,J,P,?_⟩;rw[b];refine f I U _<|i.ew C ⟨bM.p λd Z=>?_,u,Xa,a.mon<|JB i.p.j (i.p.j.lt C) _⟩;obtain⟨p,N,rfl⟩:=Ae9.j Z;exact bM.j S _<|Vg (Al1.j N).1
   .exact f.j
  .exact f.j
set_option tactic.hygienic true in
def EX(c:Go Γ F X E k cf)(h1:cf.N[i]?=y0 x)(h2:eI cf.p x=k9)(e:dJ x=k9)(I:Wb y=k9)(A:wb cf kx y=k9)(h:wb cf m v=k9):PS X (.j [.B (.p x p) y p2] v pos)<|bS Γ E<|M.exec F<|.d7 i kx m:=by
 unfold dJ at e;rw[Aa6]at e;refine PS.imp (JF (Qb m c h).1 (JX (zu (pos:=p) (by rwa [c.N]) (c.gy x h2) (by simpa using e.1)<|by simpa using e.2) (Qb kx c A).1 qO<|wG I) jt xo rfl) λD U H t=>?_;obtain⟨B,G,Y,h,s,p⟩:=t;refine Xb s p λw v h1 G1 R e1 g u T b=>?_;cases q:M.Gi Y i with
|none=>rw[q]at b;exact b.j
|some w0=>
  rw[q]at b;cases w0 with
|v d=>exact b.j
|bor K=>exact b.j
|own K=>
   obtain⟨v0,f,a,Q,rfl,S,N,P,z5⟩:=g.p.w i _ q;refine⟨.j a,f,Xb g b λZ V h2 o O e2 l C f2 p2=>?_⟩;split at p2
   .rename_i d j;split at p2
    .rename_i J;split at p2
     .rename_i n r;cases(C);obtain⟨W,of,z,L,rs⟩:=Wm l.p q f;refine⟨_,z,j,n,rfl,rfl,L,by rw[←rs.e];exact r,?_⟩;exact p2 o U _<|l.write q f<|aa.set (XA J u) n rs
     .exact p2.j
    .exact p2.j
   .exact p2.j
end
section
variable{Γ:Ge}{E:XK}{B:Bs}{G:Gh}{Y:M.Sl}{h:M.AH}{U:St}{H:Hp}{D:jH}
def N4(b:M.Gi Y i=y0 (.j xs))(c:U[i]?=y0 (y0<|.j a)):Zg Y U H a=none:=by unfold Zg;rw[Fk ⟨i,xs,b,c⟩]
def uf(e:Zg Y U H a=y0 o):H a=y0 o:=by
 unfold Zg at e;split at e
 .cases e
 .exact e
def MF(s:ao Γ G Y h U H):ag Γ G h<|Zg Y U H where
 len:=s.j.j
 any:=λr c e=>⟨(s.j.C r c e).1,(s.j.C r c e).2.mon (Js s) λo z=>by rw[Xh<|by rintro⟨i,f,b,d⟩;exact(Wm s b d).2.1 r (s.j.lt e) rfl];exact z⟩
 inj:=s.j.inj
 live:=λa z=>by obtain⟨o,q⟩:=s.j.p a z;exact⟨o,by rw[Xh<|by rintro⟨i,f,b,d⟩;exact(Wm s b d).1 z];exact q⟩
def pC(G:Gh)(Y:M.Sl)(h:M.AH)(U:St)(H:Hp):Bs:=⟨G,Zg Y U H,h⟩
def JE(s:aV Γ B G Y h U H):Ext B.G B.H G<|Zg Y U H where
 keep:=λa o e d=>by rw[Xh λ⟨i,c,b,f⟩=>by rw[s.j i c a b f]at e;cases e];exact s.J.j a o e d
 le:=s.J.le
 aG:=s.J.aG
 new:=s.J.new
 fz:=s.J.fz
 old:=s.J.old
 cells:=λr j z=>by obtain⟨o,q⟩:=s.J.w r j z;refine⟨o,?_⟩;rw[Xh λg=>by obtain⟨i,c,b,f⟩:=g;obtain⟨u,z⟩:=z;rw[s.j i c _ b f]at z;cases z];exact q
def P7(s:aV Γ B G Y h U H):aV Γ (pC G Y h U H) G Y h U H where
 st:=s.p
 ext:=⟨λa o e _=>uf e,Aa3 _,λ_ _=>rfl,λr h1 h2=>absurd h1<|Al8.p h2,λ_ z=>z,λ_ z=>.p z,by rintro r hr⟨o,z⟩;exact⟨o,uf z⟩⟩
 hr:=MF s.p
 own:=λi xs a e1 e2=>N4 e1 e2
def HX(s:aV Γ B G Y h U H)(b:aV Γ (pC G Y h U H) G2 Y2 h2 U2 H2):aV Γ B G2 Y2 h2 U2 H2:=
 ⟨b.p,(JE s).trans s.hr b.J,s.hr,λi e a c d=>(JE s).none s.hr<|b.j i e a c d⟩
def D0(s:aV Γ B G Y h U H)(p:aK Γ E B o D):aK Γ E (pC G Y h U H) o D:=by
 cases o with
|ret w n=>
  refineλb v c e g r f=>p b v c ((JE s).trans s.hr e) g r ?_;cases w with
 |v d=>trivial
 |own j=>obtain⟨a,l,i⟩:=f;exact⟨a,l,(JE s).none s.hr i⟩
 |bor j=>exact f
|exc d n=>exactλb c e g=>p b c ((JE s).trans s.hr e) g
|fail=>exact p
|_=>exactλb m c k=>p b m c<|HX s k
end
section
variable{Γ:Ge}{F:M.Fx}{X:Cx}{E:XK}{k:Nat}{cf:Cf}
def CL.hide (s:ao Γ G Y h U H)(c:CL Γ ds l vs G H)(b:¬∃i xs,M.Gi Y i=y0 (.j xs)/\U[i]?=y0 (y0<|.j l)):CL Γ ds l vs G<|Zg Y U H:=by
 obtain⟨a,e⟩:=c;refine⟨?_,e.mon<|Js s⟩;obtain⟨a,d⟩|a:=a
 .refine .p ⟨?_,d⟩;obtain a|⟨o,a⟩:=a
  .exact .p<|by rwa [Xh b]
  .exact .w ⟨o,by rw[Xh b];exact a⟩
 .exact .w a
def CL.iJ (s:ao Γ G Y h U H)(a:kn Γ G H l vs)(b:aa Γ G H ds vs):CL Γ ds l vs G<|Zg Y U H:=by
 refine⟨?_,b.mon<|Js s⟩;obtain a|a:=a
 .exact(CL.hide s ⟨.p ⟨a.2,s.j.off a.1⟩,b⟩<|by rintro⟨j,e,c,d⟩;exact(Wm s c d).1 a.1).1
 .exact .w a
def CT.hide (s:ao Γ G Y h U H)(c:CT Γ ds l vs G H):CT Γ ds l vs G<|Zg Y U H:=⟨c.1.mon<|Js s,c.2.mon<|Js s⟩
def XW(h:M.GL a=y0 i):a=.var i:=by
 cases a<;>first|(cases h;rfl)|cases h
def P9(h:wb cf (.var i) e=k9):∃x p,e=.p x p/\cf.N[i]?=y0 x/\eI cf.p x=k9/\dJ x=true:=by exact jq (λx p h=>⟨_,_,rfl,gG h⟩) e h
def yT(b:Go Γ F X E k cf)(h:wb cf (.var i) e=k9):PE X e<|l7 i:=by obtain⟨x,p,rfl,d,c,a⟩:=P9 h;unfold dJ at a;rw[Aa6]at a;exact zu (by rwa [b.N]) (b.gy x c) (by simpa using a.1)<|by simpa using a.2
def j1(s:ao Γ G Y h U H)(e:M.Gi Y i=y0 w)(k:w=.v (.w xs)\/w=.p xs):
 ∃l vs,U[i]?=y0 (y0<|.j l)/\CL Γ xs l vs G H/\CL Γ xs l vs G (Zg Y U H):=by
 obtain⟨v,g,r⟩:=s.w i w e;obtain rfl|rfl:=k
 .obtain⟨l,vs,rfl,b,a⟩:=r;exact⟨l,vs,g,⟨b.pA s.j,a⟩,CL.iJ s b a⟩
 .obtain⟨l,vs,rfl,b,a,m⟩:=r;have c:CL Γ xs l vs G H:=⟨.p ⟨a,b⟩,m⟩;refine⟨l,vs,g,c,c.hide s λ⟨j,o,f,n⟩=>?_⟩;have d:j≠i:=λz=>by rw[z,e]at f;cases f
  exact s.p j i o _ l d f e rfl n g
def jm(i:ao Γ G0 Y h0 U H0)(s:ao Γ G Y h U H)(r:aj Γ G H w v)(f:ay Y U H0 w v)(d:w=.v (.w xs)\/w=.j xs):
 ∃l vs,v=.j l/\CL Γ xs l vs G H/\CL Γ xs l vs G (Zg Y U H):=by
 obtain rfl|rfl:=d
 .obtain⟨l,vs,rfl,b,a⟩:=r;exact⟨l,vs,rfl,⟨b.pA s.j,a⟩,CL.iJ s b a⟩
 .obtain⟨l,vs,rfl,b,a,e,p⟩:=r;obtain⟨q,g,k⟩:=f;cases g;have c:CL Γ xs l vs G H:=⟨.p ⟨.p e,a⟩,p⟩;refine⟨l,vs,rfl,c,c.hide s λ⟨j,t,n,m⟩=>?_⟩;obtain⟨o,z⟩:=i.cR n rfl m;rw[k]at z;cases z
def XN{i G:Gh}{Y:M.Sl}{j h:M.AH}{U:St}{e H:Hp}(g:ao Γ i Y j U e)(s:ao Γ G Y h U H){a:List M.D}{v:V}{b:Bool}(r:aj Γ G H (cond b (.v<|.p a)<|.j a) v)(f:ay Y U e (cond b (.v<|.p a)<|.j a) v):∃l vs,v=.j l/\CS b Γ a l vs G H/\CS b Γ a l vs G (Zg Y U H):=by
 cases b with
|true=>obtain⟨l,vs,rfl,d,c⟩:=r;exact⟨l,vs,rfl,⟨d,c⟩,CT.hide s ⟨d,c⟩⟩
|false=>exact jm g s r f<|.w rfl
def Sg(o:Go Γ F X E k cf)(O:wb cf a e=k9):PI X tg e<|gQ Γ E k9<|M.Gr F<|.seq a:=by
 cases q:M.GL a with
|some i=>
  cases XW q;refine PI.imp (pW<|yT o O) λU H R K=>?_;obtain⟨G,Y,h,s,p⟩:=K;have p:ak Γ E G H (M.R.of h _) λx _ j g=>∀J C,wE Γ J x C->C j g->(k9=k9->C j _)->R J g:=p;cases u:M.Gi Y i with
 |none=>rw[u]at p;exact p.j
 |some w=>
   rw[u]at p;have fin:∀b {c},ak Γ E G H (.p c h) (λx _ j g=>∀J C,wE Γ J x C->C j g->(k9=k9->C j (Zg Y U g))->R J g)->(∃l f,U[i]?=y0 (y0<|.j l)/\CS b Γ c l f G H/\CS b Γ c l f G (Zg Y U H))→
    ∃v,U[i]?=y0 (y0 v)/\((∃b a,v=.j a/\(∃c,cz b X.K H a c)/\R (ll b X.K a) H)\/∃z,v=.o z/\R (kM z) H):=λb _ p ⟨l,f,n,y,I⟩=>
    ⟨_,n,.p ⟨b,l,rfl,⟨f,o.K▸y.sq⟩,p G H Ext.refl s.j _ _ (CS.walk o.K) y λ_=>I⟩⟩
   cases w with
 |v d=>
    cases d with
   |lst c=>exact fin y9 p<|j1 s u<|.p rfl
   |tup c=>obtain⟨v,n,l,f,rfl,z⟩:=s.w i _ u;exact fin k9 p ⟨l,f,n,z,CT.hide s z⟩
   |str z=>obtain⟨v,n,r⟩:=s.w i _ u;cases(show v=.o (ar z)from r);exact⟨_,n,.w ⟨_,rfl,p G H Ext.refl s.j _ _ ZE trivial λ_=>trivial⟩⟩
   |_=>exact p.j
 |bor c=>exact fin y9 p<|j1 s u<|.w rfl
 |own c=>exact p.j
|none=>
  refine PI.imp (pW (Qb a o O).1) λU H R K=>?_;obtain⟨G,Y,h,s,p⟩:=K;have p:=by unfold M.Gr at p;dsimp only at p;rw[q]at p;exact p
  refine br s p λS v1 Q D m N P A B L t=>?_;have fin:∀b {c},ak Γ E G H (.p c Q) (λx _ j g=>∀J C,wE Γ J x C->C j g->(k9=k9->C j (Zg Y U g))->R J g)->(∃l f,v1=.j l/\CS b Γ c l f D m/\CS b Γ c l f D (Zg Y U m))->(∃b a,v1=.j a/\(∃c,cz b X.K m a c)/\R (ll b X.K a) m)\/∃z,v1=.o z/\R (kM z) m:=λb _ p ⟨l,f,n,y,I⟩=>
   .p ⟨b,l,n,⟨f,o.K▸y.sq⟩,p D m N A.j _ _ (CS.walk o.K) y λ_=>I⟩
  cases S with
|v d=>
   cases d with
 |lst c=>exact fin y9 t<|jm s A B L<|.p rfl
 |tup c=>exact fin k9 t<|XN s A (b:=k9) B trivial
 |str z=>cases(show v1=.o (ar z)from B);exact .w ⟨_,rfl,t D m N A.j _ _ ZE trivial λ_=>trivial⟩
 |_=>exact t.j
|own c=>exact fin y9 t<|jm s A B L<|.w rfl
|bor c=>exact t.j
theorem wB:∀(ds)(i),(M.Ky i ds).e=ds.e
|[],_=>rfl
|d::ds,i=>congrArg (·+1)<|wB ds<|i+1
theorem AS:∀(ds)(j i)(h:i<ds.e),(M.Ky j ds)[i]?=y0 (.p [.u ((j+i:Nat):Int),ds[i]])
|d::ds,j,0,_=>rfl
|d::ds,j,i+1,h=>by have:=AS ds (j+1) i (by simpa using h);rw[show j+1+i=j+(i+1)by lia]at this;simpa[M.Ky]using this
def DQ:"enumerate"∈bF:=by decide
def CS.mv {b:Bool}{l:Addr}{vs:List V}{K:Aa1}(g:K=Γ.K):wE Γ (n5 b K l) (M.Ky 0 ds)<|CS b Γ ds l vs where
 go:=λi G H c d=>by rw[wB]at d;obtain⟨v,e,_⟩:=c.rel.get<|Ab2 d;exact⟨vs,v,g▸c.sq,e⟩
 fy:=by rintro i G H x n c d ⟨p,y,f,ex,r,hy⟩;rw[wB]at d;subst ex r;obtain⟨v,e,rd⟩:=c.rel.get<|Ab2 d;have:=hy vs<|g▸c.sq;rw[e]at this;cases this;refine⟨G.more p,We _ f,λh j=>j.fh _ f,.p [.u i,ds[i]],by rw[AS ds 0 i d,Am8],⟨p,[.u i,y],rfl,.p ⟨.w rfl,Xa⟩,⟨.u i,[y],rfl,rfl,⟨y,[],rfl,?_,rfl⟩⟩⟩⟩;have k:Mon G H (G.more p)<|ax H p<|.tup [.u i,y]:=⟨λa o t q=>by rw[Ja<|Zb q f];exact q,Aa3 _,λ_ _=>rfl,λ_ z=>Or.inl z⟩;exact rd.mon k
 stop:=λi G H c s m=>by rw[wB]at s m;exact⟨vs,g▸c.sq,by rw[←c.rel.length];lia⟩
 keep:=λG H u n h z e j=>z.keep e j
def E7(c:Go Γ F X E k cf)(y:aY cf.p "enumerate" g=true)(t:Qa x=true)(C:wb cf a x=true):PI X (.L elts x1 tp) (.w g [x] [] pos)<|gQ Γ E true<|M.Gr F<|.p a:=by
 obtain⟨I,rfl,w,D⟩:=zb y;refine PI.imp (Ec (c.y _ w) (c.p _ DQ) (qc (Qb a c C).1 Jf<|ja t)<|ja t) λU H R v=>?_;obtain⟨G,Y,h,s,p⟩:=v;refine br s p λK v1 J n d A z i m o j=>?_;obtain⟨e,q,j⟩:=j.of;have fin:∀b,(∃l f,v1=.j l/\CS b Γ e l f n d/\CS b Γ e l f n (Zg Y U d))->∃b a e,[v1]=[.j a]/\cz b X.K d a e/\R (n5 b X.K a) d:=by rintro b ⟨l,f,B,r,u⟩;subst B;exact⟨b,l,f,rfl,c.K▸r.sq,j n d A i.j _ _ (CS.mv c.K) r λ_=>u⟩
 unfold M.u7 at q;split at q
 .cases q;exact fin y9<|jm s i m o<|.p rfl
 .cases q;exact fin k9<|XN s i m trivial
 .cases q;exact fin y9<|jm s i m o<|.w rfl
 .cases q
def LV(c:Go Γ F X E k cf){it:M.It}{e tg:Expr}(m:xJ it tg=k9)(h:rJ cf it e=k9):PI X tg e (gQ Γ E k9<|M.Gr F it)/\Je e=true:=by
 cases it with
|seq a=>exact⟨Sg c (a2 h).2,(a2 h).1⟩
|aA a=>refine Wc (λg x l p h=>kE (λh=>?_) l h) e h;refine kC (λx r h=>kE (λh=>?_) r h) x h;obtain⟨j,i,d⟩:=a3 h;exact⟨JG c j i (Qb a c d).1,rfl⟩
|zip a b=>
  cases tg with
 |Tuple f s o=>refine Wc (λg x l p h=>kE (λh=>?_) l h) e h;refine kC (λx r h=>kC (λy r h=>?_) r h) x h;refine kE (λh=>?_) r h;obtain⟨j,i,d,n,q⟩:=a5 h;exact⟨Bv c (λ_=>XN) j i d (Qb a c n).1 (Qb b c q).1,rfl⟩
 |_=>exact aT m
|enum a=>
  cases tg with
|Tuple f s o=>refine Wc (λg x l p h=>kE (λh=>?_) l h) e h;refine kC (λx r h=>kE (λh=>?_) r h) x h;obtain⟨j,i,d⟩:=a3 h;exact⟨E7 c j i d,rfl⟩
|_=>exact aT m
end
section
variable{Γ:Ge}{G G0:Gh}{H H0:Hp}{h:M.AH}
noncomputable def Gh.cut (G:Gh)(n:Nat):Gh:={G with n:=n}
mutual
theorem au.cut (n:Nat):∀{d:M.D}{v:V},M.Gf d=k9->au Γ G H d v->au Γ (G.cut n) H d v
|.ai,_,_,z=>z
|.K _,_,_,z=>z
|.u _,_,_,z=>z
|.o _,_,_,z=>z
|.p _,_,q,z7=>by obtain⟨a,vs,z1,z2,z3⟩:=z7;exact⟨a,vs,z1,z2,aa.fk n (by simpa[M.Gf]using q) z3⟩
|.w _,_,q,z7=>by obtain⟨a,vs,z1,z2,z3⟩:=z7;exact⟨a,vs,z1,z2,aa.fk n (by simpa[M.Gf]using q) z3⟩
|.j r,_,q,_=>by simp[M.Gf]at q
|.y c fs,_,q,z=>by simp[M.Gf]at q
|.B c f d,_,q,z=>by simp[M.Gf]at q
theorem aa.fk (n:Nat):∀{ds:List M.D}{vs:List V},M.Gd ds=k9->aa Γ G H ds vs->aa Γ (G.cut n) H ds vs
|[],_,_,z=>z
|d::ds,_,q,z7=>by
  obtain⟨v,r,z1,z2,z3⟩:=z7;have q':M.Gf d=k9/\M.Gd ds=true:=by simpa[M.Gd]using q
  exact⟨v,r,z1,au.cut n q'.1 z2,aa.fk n q'.2 z3⟩
end
theorem aa.mI (n):∀{fs:List<|String×M.D}{us},(fs.T λp=>match p.2 with|.j r=>u9<|r<n|d=>M.Gf d)=k9->aa Γ G H (fs.y (·.2)) us->aa Γ (G.cut n) H (fs.y (·.2)) us
|[],_,_,z=>z
|(x,d)::fs,_,q,z7=>by
  obtain⟨v,r,c,a,b⟩:=z7;rw[Ah7,Aa6]at q;refine⟨v,r,c,?_,aa.mI n q.2 b⟩;cases d with
|ref k=>exact⟨Da q.1,a.2⟩
|_=>exact au.cut n q.1 a
theorem ag.cut (r:ag Γ G h H){n:Nat}(f:n<=G.n)(m:M.GQ (h.M n)=k9):ag Γ (G.cut n) (h.M n) H where
 len:=by rw[Af6,r.j];exact Ai7 f
 any:=λi c e=>by
  have t:i<n:=by have:=(Ab3.j e).1;rw[Af6]at this;lia
  have l:c.pure (h.M n).e=true:=Af0.j m c<|Ag2 e;rw[Af6,r.j,Ai7 f]at l;rw[T7 t]at e;obtain⟨s,g⟩:=r.C i c e;refine⟨s,?_⟩;cases c with
|lst v=>obtain⟨d,o,a,b⟩:=g;exact⟨d,o,a,aa.fk n d b⟩
|gP p=>exact g
|gq p=>obtain⟨d,k,a,b⟩:=g;exact⟨d,k,a,aa.fk n d b⟩
|obj c fs=>obtain⟨dx,k,a,b⟩:=g;exact⟨dx,k,a,aa.mI n l b⟩
 inj:=λi j u q e=>r.inj i j (Ab4 u f) (Ab4 q f) e
 live:=r.p
theorem Ext.cut (e:Ext G0 H0 G H):Ext G0 H0 (G.cut G0.n) H:=⟨e.j,Aa3 _,e.aG,λr a b=>absurd a<|Al8.p b,e.fz,e.old,e.w⟩
theorem aj.cut (n)(k:n<=G.n)(q:w.keep=k9)(j:∀xs,w≠.p xs)(z:aj Γ G H w v):aj Γ (G.cut n) H w v:=by
 cases w with
|v d=>exact au.cut n q z
|own xs=>obtain⟨a,f,g,b,c,e,h⟩:=z;exact⟨a,f,g,b,λr i=>c r<|Ab4 i k,e,aa.fk n q h⟩
|bor xs=>exact absurd rfl<|j xs
end
section
open Lake renaming MS.Ext.trans->Lake.MS.Ext.x
variable{Γ:Ge}{F:M.Fx}{X:Cx}{E:XK}{k:Nat}{cf:Cf}
def OG(a:Go Γ F X E k cf)(e:Jm v=k9)(h:wb cf m v=k9):PS X (.Expr v pos)<|bS Γ E<|M.exec F<|.ex m:=by refine PS.imp (xC (Qb m a h).1<|jf e) λD U H b=>?_;obtain⟨B,G,Y,h,s,p⟩:=b;exact Xb s p λw v n g c l f j i d=>d g U c f
def RG(s:aV Γ B G Y h U H)(f:ay Y U H w v)(e:∀xs,w≠.p xs):ay [] [] B.H w v:=by
 cases w with
|v d=>trivial
|own xs=>obtain⟨a,c,b⟩:=f;exact⟨a,c,s.J.none s.hr b⟩
|bor xs=>exact absurd rfl<|e xs
def DU(j:Go Γ F X E k cf)(h:wb cf m v=k9):PS X (.p (y0 v) pos)<|bS Γ E<|M.exec F<|.ret m:=by
 cases q:M.GL m with
|some i=>
  cases XW q;refine PS.imp (pJ<|yT j h) λD U H f=>?_;obtain⟨B,G,Y,h,s,p⟩:=f;rw[M.zEx14,q]at p;dsimp only at p;cases e:M.Gi Y i with
 |none=>rw[e]at p;exact p.j
 |some w=>
   rw[e]at p;obtain⟨v,t,r⟩:=s.p.w i w e;refine⟨v,t,?_⟩;cases w with
 |bor b=>exact p.j
 |v d=>exact p G v H s.J s.p.j r trivial
 |own b=>have x:=r;obtain⟨a,y,rfl,_⟩:=x;exact p G _ H s.J s.p.j r ⟨a,rfl,s.j i b a e t⟩
|none=>
  refine PS.imp (pJ (Qb m j h).1) λD U H f=>?_;obtain⟨B,G,Y,h,s,p⟩:=f;have p:aK Γ E B ((M.eval F m Y h).bw λw h=>match w with
|.p _=>.w
|w=>.ret w h) D:=by
   rw[M.zEx14,q]at p;exact p
  refine Xb s p λw v C o l A c n u g=>?_;cases w with
|bor b=>exact g.j
|v d=>exact g o v l c.J c.p.j n trivial
|own b=>exact g o v l c.J c.p.j n<|RG s u λb z=>by cases z
def Ra(k:PT X x<|cD Γ E<|M.Gj F c)(l:cE X ys<|bS Γ E<|M.execs F a)(j:cE X zs<|bS Γ E<|M.execs F b):PS X (.If x ys zs pos)<|bS Γ E<|M.exec F<|.iff c a b:=by
 refine PS.imp (DY k l j) λD U H i=>?_;obtain⟨B,G,Y,h,s,p⟩:=i;refine BB s p λt g f m n e d=>?_;cases t with
|true=>exact oo ⟨B,f,Y,g,e,d⟩
|false=>exact pV ⟨B,f,Y,g,e,d⟩
def Py{st:Stmt}(h1:PS X st<|bS Γ E<|M.exec F s)(h2:cE X sts<|bS Γ E<|M.execs F ss):cE X (st::sts)<|bS Γ E<|M.execs F<|.cons s ss:=by
 refine cE.imp (M7 h1 h2) λD U H c=>?_;obtain⟨B,G,Y,h,b,p⟩:=c;rw[M.zEs2]at p;refine⟨B,G,Y,h,b,?_⟩;cases q:M.exec F s Y h with
|next d a=>rw[q]at p;exactλf i g e=>⟨B,f,d,a,e,p⟩
|_=>rw[q]at p;exact p
def LN:cE X []<|bS Γ E<|M.execs F .nil:=cE.imp Ma<|by rintro D U H⟨B,G,Y,h,s,p⟩;exact p G U H s
def Nz(z:eM Γ F X E k cf)(J:PT X x<|cD Γ E<|M.Gj F c)(I:cE X ys<|bS Γ E<|M.execs F b):PS X (.While x ys [] pos)<|bS Γ E<|M.exec F<|.fm n c b:=by
 refine PS.imp (Lm z.hU J I) λD U H A=>?_;obtain⟨B,G,Y,h,s,p⟩:=A;refine⟨λm U H=>∃G Y h,aV Γ B G Y h U H/\aK Γ E B (M.GP (λY h=>M.Gj F c Y h) (λY h=>M.execs F b Y h) m Y h) D,⟨n,G,Y,h,s,p⟩,?_⟩;rintro m U H ⟨G,Y,h,s,p⟩;cases m with
|zero=>exact p.j
|succ m=>
  refine BB s p λt i v C K u a=>?_;cases t with
|false=>exact pV<|a v U C u
|true=>
   refine oo ⟨_,λy r w=>⟨m,Ae4 _,w⟩,B,v,Y,i,u,?_⟩;have a:aK Γ E B (match M.execs F b Y i with
|.p e d=>M.GP (λY h=>M.Gj F c Y h) (λY h=>M.execs F b Y h) m e d
|.cont e d=>M.GP (λY h=>M.Gj F c Y h) (λY h=>M.execs F b Y h) m e d
|.brk e d=>.p e d
|o=>o) D:=a
   cases q:M.execs F b Y i with
|next g f=>rw[q]at a;exactλl y r j=>⟨l,g,f,j,a⟩
|cont g f=>rw[q]at a;exactλl y r j=>⟨l,g,f,j,a⟩
|_=>rw[q]at a;exact a
def RZ(v:eM Γ F X E k cf)(T:(cf.cb&&xJ it t)=k9)(ht:Qe cf tg one t=k9)(hi:rJ cf it iter=k9)(hb:cE X ys<|bS Γ E<|M.execs F b):
 PS X (.For t iter ys [] pos)<|bS Γ E<|M.exec F<|.for tg one it b:=by
 obtain⟨li,ls⟩:=LV v.toGo (a2 T).2 hi;refine PS.imp (Fp v.hU (v.C (a2 T).1) li (Jn v.toGo ht) hb<|W6 ls) λD U H qq=>?_;obtain⟨B,G,Y,h,s,p⟩:=qq;rw[M.zEx17]at p;refine⟨G,Y,h,s.p,?_⟩;cases q:M.Gr F it Y h with
|exc d Z=>rw[q]at p;exact aK.exc s p
|fail=>rw[q]at p;exact p
|ok f Z=>
  rw[q]at p;intro G1 H1 e hr J C y c0 R;have W:=s.on e hr;have p1:=D0 W p;have cB:=R rfl;have s2:=P7 W;refine⟨λi m S r=>∃u z n,(m=f.e-i/\i<=f.e)/\aV Γ _ u z n S r/\aK Γ E _ (M.Gw _ (λY h=>M.execs F b Y h) (f.L i) z n) D,
   ⟨f.e,G1,Y,Z,⟨by simp,Ag _⟩,s2,p1⟩,?_⟩
  rintro i m S r ⟨u,z,n,⟨rfl,hi'⟩,l,a⟩;have L:=y.keep _ _ _ _ _ cB l.J l.hr;by_cases c:i<f.e
  .refine .w ⟨y.go i u r L c,_,λU2 H2 w=>⟨f.e-(i+1),(Vh ‹_›<|Ae4 _),w⟩,λx N hy=>?_⟩;obtain⟨G4,x4,K,d,V,I⟩:=y.fy i u r x N L c hy;have l:=l.on x4<|K _ l.p.j;have O:f.L i=d::f.L (i+1):=by rw[Ah9 c];rw[Ab2 c]at V;cases V;rfl
   rw[O,M.Gw]at a;cases P:M.Gx tg one d z with
|none=>rw[P]at a;exact a.j
|some Y1=>
    rw[P]at a;refine rN P I l λU2 s3=>⟨_,G4,Y1,n,s3,?_⟩;have a:aK Γ E _ (match M.execs F b Y1 n with
|.p j g=>M.Gw _ (λY h=>M.execs F b Y h) _ j g
|.cont j g=>M.Gw _ (λY h=>M.execs F b Y h) _ j g
|.brk j g=>.p j g
|o=>o) D:=a
    cases q:M.execs F b Y1 n with
|next j g=>rw[q]at a;exactλQ U3 H3 A=>⟨Q,j,g,⟨rfl,by lia⟩,A,a⟩
|cont j g=>rw[q]at a;exactλQ U3 H3 A=>⟨Q,j,g,⟨rfl,by lia⟩,A,a⟩
|_=>rw[q]at a;exact a
  .have ei:i=f.e:=by lia
   subst ei;rw[V0]at a;exact .p ⟨y.stop _ u r L (Aa3 _)<|Aa3 _,a u S r l⟩
open Lake renaming MS.eM.toGo->Lake.MS.eM.j
theorem WJ:∀{es}{xs}{Y}{h}{ds}{h'},aO cf es xs=k9->M.Gg F es Y h=.p ds h'->ds.e=xs.e
|.p,xs,_,_,_,_,c,e=>by cases Ac8.j c;rw[M.zEg1]at e;cases e;rfl
|.j a es,xs,Y,h,ds,h',c,e=>by refine kC (λx r c=>?_) xs c;obtain⟨w,f,d,e⟩:=ze e;obtain⟨r,g,b,e⟩:=ze e;cases e;rw[Ab6,Ab6,WJ (a2 c).2 b]
theorem JJ:∀(Y)(i j),M.Gi (Y.B i u0) j=if j=i then u0 else M.Gi Y j
|[],i,j=>by simp
|x::r,0,0=>by simp
|x::r,0,j+1=>by simp
|x::r,i+1,0=>by simp
|x::r,i+1,j+1=>by simpa using JJ r i j
def aV.clear (s:aV Γ B G Y h U H):aV Γ B G (Y.B i u0) h (U.B i u0) H:=by
 have ne:∀{j w},M.Gi _ j=y0 w->j≠i/\M.Gi Y j=y0 w:=λ{j w} e=>by
  rw[JJ]at e;split at e
  .cases e
  .rename_i b;exact⟨b,e⟩
 have f:∀{j},j≠i->(U.B i u0)[j]?=U[j]?:=λ{j} b=>Ac5<|Ne.symm b;refine⟨⟨by rw[Ae,Ae];exact s.p.len,λj w e=>?_,λp q g w a k c d t l=>?_,s.p.j⟩,s.J,s.hr,λj g a c d=>?_⟩
 .obtain⟨b,e⟩:=ne e;obtain⟨v,r,o⟩:=s.p.w j w e;exact⟨v,by rw[f b];exact r,o⟩
 .obtain⟨m,c⟩:=ne c;obtain⟨n,d⟩:=ne d;rw[f m]at l;rw[f n];exact s.p.p p q g w a k c d t l
 .obtain⟨b,c⟩:=ne c;rw[f b]at d;exact s.j j g a c d
def K8(b:eM Γ F X E k cf)(t:aY cf.p c g=k9)(f:(cf.cb&&cf.gs.w c)=k9)(w:(x::xs).e<=1000)(a:aO cf es (x::xs)=k9):
 PS X (.w (y0<|.w g (x::xs) [] cpos) u0 pos)<|bS Γ E<|M.exec F<|.raise c es:=by
 obtain⟨z,rfl,o,i⟩:=zb t;obtain⟨j,l⟩:=b.gs c (a2 f).1 (a2 f).2 o i;refine PS.imp (l _ _ _ _ _ _ (bP es b.j a)<|Jb a) λD U H m=>?_;obtain⟨B,G,Y,h,s,p⟩:=m;rw[M.zEx18]at p;refine⟨G,Y,h,s.p,?_⟩;cases q:M.Gg F es Y h with
|exc d y=>rw[q]at p;exact aK.exc s p
|fail=>rw[q]at p;exact p
|ok C y=>rw[q]at p;intro u n e v A r;refine⟨?_,(p u n (s.J.x s.hr e) v).1 c rfl j⟩;rw[←r.length,WJ a q];exact Ag5<|zn w
def R0(i:eM Γ F X E k cf)(z:aY cf.p c g=k9)(m:(cf.cb&&cf.y.er.w (c,f))=k9)(j:aO cf (.j e .p) [x]=k9):
 PS X (.w (y0<|.w g [x] [] cpos) u0 pos)<|bS Γ E<|M.exec F<|.bx c f e:=by
 obtain⟨I,rfl,y,n⟩:=zb z;obtain⟨t,o,u⟩:=i.lD c f (a2 m).1 (a2 m).2 y n;refine PS.imp (u _ _ _ _ _ (iF _ i.j j)<|Jb j _ Aa2) λD U H w=>?_;obtain⟨B,G,Y,h,s,p⟩:=w;rw[M.zEx19]at p;refine⟨G,Y,h,s.p,?_⟩;cases q:M.Gk F _ Y h with
|exc d C=>rw[q]at p;exact aK.exc s p
|fail=>rw[q]at p;exact p
|ok b C=>
  rw[q]at p;intro L K A l J r;cases b with
|nil=>exact p.j
|cons d b=>
   cases b with
|cons _ _=>exact p.j
|nil=>obtain⟨v,N,rfl,rd,rfl⟩:=r;exact⟨v,rfl,λdx a=>(p _ _ ((s.J.x s.hr A).x s.hr<|We _ a)<|l.fh _ a).2.1 c f d rfl t o dx v (.w rfl) Xa<|rd.ext (We _ a) l⟩
def wM{c w:String}{b:Bool}(a:dB Γ c)(d:w∈Γ.own)(f:(M.GK Γ.cl 8 c).w w=b):PySem.W.kitCls Γ.K (.j<|Γ.j c) (.j<|Γ.j w)=y0 b:=by
 have h:=a.own w d;rw[f]at h;unfold Ak9 at h;split at h
 .rename_i e;have e:=by simpa using e
  rw[←e,←h];exact a.k.slf
 .exact h
def x0{c w:String}(d:dB Γ c)(a:w∈Γ.own)(b:(M.GK Γ.cl 8 c).w w=k9):PySem.W.kitCls Γ.K (.j<|Γ.j c) (.j<|Γ.j w)=y0 true:=wM d a b
theorem Go.cZ (a:Go Γ F X E k cf):Go Γ F X.cZ E0 k cf:=⟨a.N,a.K,a.cl,a.ow,a.nd,a.gy,a.lb,a.gU,a.kj,a.y,a.C,a.w,a.bQ,λn U H s e r _ p=>by
 obtain⟨x,u,t,B,q,_,_,_,_,_,_,_,_,_,_,o⟩:=p;exact o.j,a.p,a.con,λf l=>by
 obtain⟨b,d,g,m,j,c,i⟩:=(a.fn f l).imp λb h=>h.ex;exact⟨b,⟨d,g,m,j,c,i⟩⟩,λf l=>by
 obtain⟨b,d,g,m,j,c,i⟩:=(a.lz f l).imp λb h=>h.ex;exact⟨b,⟨d,g,m,j,c,i⟩⟩,a.cls,a.fld,a.gY,a.eh⟩
theorem PS.cZ {st:Stmt}(h:PS X.cZ st t):PS X st t:=λa s U H D I q=>L2 (h a s U H D (I.b6 _) q) (λ_ _ z=>SP.bE z) λ_ _ z=>False.elim z
theorem eM.ec (a:eM Γ F X E k cf)(A:2<=k)(x:Addr):eM Γ F (X.cZ.ec x) E0 2 {cf with toCg:=cf.toCg.q} where
 N:=a.N
 K:=a.K
 cl:=a.cl
 ow:=a.ow
 nd:=a.nd
 gy:=a.gy
 lb:=a.lb
 gU:=a.gU
 kj:=a.kj
 gl:=a.y
 calm:=λz=>nomatch z
 room:=⟨λq=>absurd q Y7,by have:=a.bQ.dp;show X.A.depth+2+5<_;lia,by have:=a.bQ.un;show X.A.y+16*2+200<_;lia⟩
 bQ:=⟨λq=>absurd q Y7,by have:=a.bQ.dp;show X.A.depth+3+5<_;lia,by have:=a.bQ.un;show X.A.y+16*3+200<_;lia⟩
 pass:=λb U H s e o _ g=>by obtain⟨x,w,t,B,p,_,_,_,_,_,_,_,_,_,_,d⟩:=g;exact d.j
 blt:=a.p
 con:=a.con
 fn:=λf i=>by obtain⟨j,n,r,y,v,l,u⟩:=(a.lz f i).imp λj h=>h.ex;exact⟨j,⟨n,r,y,v,l,u⟩⟩
 lz:=λf i=>aT i
 cls:=a.cls
 fld:=a.fld
 gY:=λc m q h=>aT h
 eh:=λc q h=>aT h
 hU:=PassesOwn.never
 held:=λb U H s e o _ g=>by obtain⟨x,w,t,B,p,_,_,_,_,_,_,_,_,_,_,d⟩:=g;exact d.j
 pat:=λ_=>PassesOwnAt.never
 o3:=λc f z=>nomatch z
 ra:=λz=>nomatch z
 pK:=λf z=>aT z
 fA:=a.fA
 kh:=a.kh
 ex:=a.ex
 gs:=λc z=>nomatch z
 lD:=λc f z=>nomatch z
 d4:=λc z=>aT z
def Rf{A i:Gh}{h1 h2:M.AH}{x e:Hp}{d:M.D}{T:XK}{R:String->Option Addr->Prop}(C:ag Γ A h1 x)(B:Ext A x i e)(m:ag Γ i h2 e)
 (k:∀(b:String)(F:Option Addr),(∀O c,M.bO O (.v<|M.gE d) [c]=y0 ([c].C (M.GK O 8 b).w))->dB Γ b->(∃j,Ext A x j e/\ag Γ j (M.GI (M.gE d) h1.e h2) e/\∀y,e y=u0->au Γ (j.more y) (ax e y<|hJ y (Γ.j b) F) (M.gE d) (.j y))->T (.j<|Γ.j b) F e):kK Γ T d i e:=by
 have G:=C.j;have H:∀d,M.GE d=k9->∃j,Ext A x j e/\ag Γ j (M.GI d h1.e h2) e/\(∀a,i.y a->j.y a)/\∀{f:M.D}{v:V},M.Gf f=k9->au Γ i e f v->au Γ j e f v:=λd J=>by
  unfold M.GI;rw[J,U1];cases K:M.GQ (h2.M h1.e)with
|true=>exact⟨_,G▸B.cut,m.cut (by rw[G];exact B.le) K,λ_ h=>h,λq z=>au.cut _ q z⟩
|false=>exact⟨i,B,m,λ_ h=>h,λ_ z=>z⟩
 have E:∀(b p) f dx u l,M.gE d=.B b p f->dB Γ b->hO Γ.K _ _->i.y dx->e dx=y0 _->au Γ i e f u->T _ _ e:=λb p f dx u l r g s w o t=>by
  rw[r]at k;cases q:M.Gf f with
|true=>obtain⟨j,D,n,fz,I⟩:=H (.B b p f) q;exact k b _ (λ_ _=>rfl) g ⟨_,D,n,λy hy=>⟨y,dx,u,rfl,.w rfl,.p<|fz _ w,Xa,⟨l,by rw[Ja<|Zb o hy];exact o⟩,g,s,(I q t).ext (We _ hy) n⟩⟩
|false=>exact k b _ (λ_ _=>rfl) g ⟨i,B,by rw[M.GI,show M.GE (.B b p f)=y9 from q,Yg,FB Ab0];exact m,λy hy=>⟨y,dx,u,rfl,.w rfl,.p w,Xa,⟨l,by rw[Ja<|Zb o hy];exact o⟩,g,s,t.ext (We _ hy) m⟩⟩
 refine⟨λb r g=>?_,λb p f r g s dx u w o t=>E b p f dx u [] (by rw[r];rfl) g s w o t,λb p f r g s dx u w o t=>E b p f dx u _ (by rw[r];rfl) g s w o t⟩;subst r;obtain⟨j,D,n,-,-⟩:=H (.y b []) rfl;exact k b u0 (λ_ _=>rfl) g ⟨_,D,n,λy hy=>.p ⟨rfl,y,rfl,.w rfl,Xa,g⟩⟩
def RS(b:eM Γ F X E k cf){B:Bs}{s e:Gh}{Y:M.Sl}{h1 h2:M.AH}{U:St}{n f:Hp}{D:jH}{d:M.D}{c:String}{nm:Nat}{i:M.Ss}(u:cf.j.w c=k9)(r:aV Γ B s Y h1 U n)(x:Ext s n e f)(j:ag Γ e h2 f)
 (p:aK Γ E B (M.KP F.cl c nm (λY h=>M.execs F i Y h) Y (M.gE d)<|M.GI (M.gE d) h1.e h2) D):kK Γ (r9 X.cZ.K (Γ.j c) nm (bS Γ E0<|M.execs F i) D U) d e f:=by
 unfold M.KP at p;refine Rf (R:=λ_ _=>True) r.p.j x j ?_;rintro o t ix m ⟨H,z,a,l⟩;rw[ix]at p;cases g:[c].C (M.GK F.cl 8 o).w with
|false=>rw[g]at p;exact p.j
|true=>
  rw[g]at p;refine⟨_,rfl,b.K▸m.k,b.K▸x0 m (by rw[←b.ow];exact Af4.j u) (by rw[←b.cl];simpa using g),λy hy=>?_⟩;refine⟨B,_,_,_,((r.on z a).on (We _ hy)<|a.fh (hJ y (Γ.j o) t) hy).ek<|l y hy,?_⟩;dsimp only at p;cases q:M.execs F i _ (M.GI _ h1.e h2)with
|next G C=>rw[q]at p;exactλA I w v=>p A _ w v.clear
|_=>rw[q]at p;exact p.j
def Hh(a:eM Γ F X E k cf){o:M.E}{c m J A:String}{es:M.Es}{nm:Nat}{hb:M.Ss}{x y:Expr}{ys:List Expr}{b Z ep pos:Pos}{T:List ExceptHandler}{q:List Stmt->Bool}(hm:cf.y.mt.w (c,m,J)=k9)(hl:(b.j==Z.p)=k9)(hn:(y::ys).e<=20)(N:Wo x=k9)(hx:wb cf o x=k9)(C:aO cf es (y::ys)=k9)(h2:BL cf A nm T q=k9)
 (ih:2<=k->∀x z,q z=k9->cE (X.cZ.ec x) z (bS Γ E0<|M.execs F hb)):PS X (.Try [.Expr (.w (.j x (zc m) b) (y::ys) [] Z) ep] T [] [] pos)<|bS Γ E<|M.exec F<|.fM o c m J es A nm hb:=by
 refine kC (λR r h=>?_) T h2;refine kE (λh=>?_) r h;refine pe (λw n z p h=>?_) R h;refine kS (λw h=>?_) w h;refine kS (λn h=>?_) n h;obtain⟨g1,g2,g3,g4,g5⟩:=a5 h;obtain⟨p1,rfl,g6,g7⟩:=zb g1;obtain⟨K,ho,hk⟩:=a.d4 A g2;obtain⟨n1,n2⟩:=NT g3;obtain⟨cl,fa,fd,ps,mt,P,bd⟩:=a.gY c m J hm;have g:=Jb C;have hL:XO X.cZ (λi D=>sr X.cZ i D [.j (y0<|.p _ p1) _ z p])<|λD U=>r9 X.cZ.K _ nm _ D U:=Nq (X:=X.cZ) a.fA a.kh a.ex (a.y _ g6) (a.cls A ho) K (by show X.N.N;rw[a.N];exact a.nd) (by show X.N[nm]?=_;rw[a.N];exact n1) (a.lb n n2) g7 (λe=>by rw[e]at g4;cases g4) λx=>ih hk x z g5;refine PS.cZ<|Sk (cy.imp (P1 (X:=X.cZ) (λ_ _ z=>z) hL (Qb o a.j.cZ hx).1 cl mt P a.w bd (bP es a.j.cZ C) (ja<|g _ Aa2) (Ze λe C=>g e<|Aa0 _ C)<|j6 (aJ N _) (tU g<|PP ‹_› Y7) hl) ?_)<|jf rfl;rintro D U H⟨B,G,Y,h,s,p⟩;refine⟨G,Y,h,s.p,?_⟩;rw[M.zEx22]at p;cases q:M.eval F o Y h with
|ok w L=>
  rw[q]at p;dsimp only at p;intro I H0 e0 t v r0 f0;cases Q:M.GD L (y0 w)with
 |none=>rw[Q]at p;exact p.j
 |some ob=>
   obtain⟨r,c',fs⟩:=ob;rw[Q]at p;dsimp only at p;split at p
   .rename_i N;obtain⟨rfl,hn⟩:=N;obtain⟨u,j⟩:=Xq Q;cases u;obtain⟨O,rfl⟩:=(show r<I.n/\v=.j (I.j r)from r0);obtain⟨nf,dx,us,hv,ru⟩:=t.obj r _ fs j;have s0:=s.on e0 t;refine⟨I.j r,dx,_,rfl,hv,Zt<|Ad8.j hn,?_⟩;refine⟨I,Y,L,s0.p,?_⟩;cases q1:M.Gg F es Y L with
|ok ws W=>
     rw[q1]at p;intro G1 H1 u l vs r1;rw[Ac4];have s1:=s0.on u l;refine⟨G1,W,.v _::ws.y M.W.arg,l,⟨.j _,vs,rfl,JL u O,xi r1⟩,λw S=>?_,?_⟩
     .rcases Aa8.j S with rfl|S
      .rfl
      .exact Jh ws w S
     unfold M.kT at p;dsimp only at p;cases V:F.j J _ W with
 |fail=>rw[V]at p;exact p.j
 |ok w' h2=>rw[V]at p;exactλG2 H2 j f v' rv _=>p G2 U H2<|s1.on j f
 |exc d h2=>rw[V]at p;exactλG2 H2 j f=>RS a ho s1 j f p
|_=>rw[q1]at p;exact p.j
   .exact p.j
|_=>rw[q]at p;exact p.j
def Sj(i:eM Γ F X E k cf){B:Bs}{w h:Gh}{Y:M.Sl}{h1 h2:M.AH}{U:St}{s b:Hp}{D:jH}{d:M.D}{c:String}{t:M.Tx}(I:cf.j.w c=k9)(v:aV Γ B w Y h1 U s)(o:Ext w s h b)(f:ag Γ h h2 b)
 (p:aK Γ E B (match M.bO F.cl (.v d) [c]with
|some true=>.ret (.v<|.o t)<|M.GI d h1.e h2
|some false=>.exc d h2
|none=>.w) D):kK Γ (rR X.cZ.K (Γ.j c) (ar t) E D) d h b:=by
 have x:=v.p.j.j;have O:∃q,Ext w s q b/\ag Γ q (M.GI d h1.e h2) b:=by
  unfold M.GI;split
  .rename_i z;exact⟨_,x▸o.cut,f.cut (by rw[x];exact o.le) (a2 z).2⟩
  .exact⟨h,o,f⟩
 have l:∀a r,M.bO F.cl _ [c]=y0 ([c].C (M.GK F.cl 8 a).w)->dB Γ a->(kK Γ E d h b->E _ r b)->rR X.cZ.K _ _ E D _ r b:=λa r ix g e=>by
  have L:(M.GK Γ.cl 8 a).w c=[c].C (M.GK F.cl 8 a).w:=by rw[←i.cl];simp
  have n:=wM g (by rw[←i.ow];exact Af4.j I) L;rw[ix]at p;refine⟨_,rfl,i.K▸g.k,?_⟩;cases A:[c].C (M.GK F.cl 8 a).w with
|false=>rw[A]at p n;exact .w ⟨i.K▸n,e<|p h b (v.on o f).J f⟩
|true=>rw[A]at p n;obtain⟨q,N,m⟩:=O;exact .p ⟨i.K▸n,p q _ b (v.on N m).J m rfl trivial⟩
 refine⟨λa j g=>?_,λa C y j g G dx u K J H=>?_,λa C y j _ _ _ _ _ _ _=>by subst j;exact p.j⟩
 .subst j;exact l a u0 rfl g λz=>z.1 a rfl g
 .subst j;exact l a _ rfl g λz=>z.2.1 a C y rfl g G dx u K J H
def Ir(a:eM Γ F X E k cf){is:List Nat}{f c:String}{es:M.Es}{e:M.E}{t:M.Tx}{ts V:List Expr}{g x v2:Expr}{n:Nat}{tp cp Z rp pos:Pos}{N:List ExceptHandler}(h1:xY cf is ts=k9)(hg:aY cf.p f g=k9)(hf:cf.w.w f=k9)(u:aO cf es (x::V)=k9)(hr:wb cf e v2=k9)(h2:uG cf c t N=k9):
 PS X (.Try [.j [.L ts n tp] (.w g (x::V) [] cp) Z,.p (y0 v2) rp] N [] [] pos)<|bS Γ E<|M.exec F<|.ft is f es e c t:=by
 refine kC (λK r h=>kE (λh=>?_) r h) N h2;refine pe (λw n z p h=>kS (λw h=>?_) w h) K h;refine kC (λs r h=>kE (λh=>?_) r h) z h;refine nc (λv p h=>kS (λv h=>?_) v h) s h;refine Jl (λj i p h=>?_) v h;obtain⟨g0,g1,g2,g3⟩:=a4 h;cases nn g0;cases Da g3;obtain⟨p1,rfl,g6,g7⟩:=zb g1;obtain⟨y,S,hk⟩:=a.d4 c g2;obtain⟨p0,rfl,k2,k3⟩:=zb hg;obtain⟨ps,fa,fd,A,bd,kp,hm⟩:=(a.fn f hf).imp λps h=>h.ex;have o:=Jb u;intro Q s0 U H D I qq;refine L2 (Ny (X:=X.cZ) (λ_ _ z=>z) (cy.imp (Ot (λ_ _ z=>z) (HU a.fA a.kh (a.y _ g6) (a.cls c S) y g7 λI hq=>a.held _ _ _ _ _ _ I.bE hq) A a.w (a.y _ k2) hm kp bd (bP es a.j.cZ u) k3 (ja<|o _ Aa2)<|Ze λe u=>o e<|Aa0 _ u) ?_) (Jn a.j.cZ (one:=y9) h1) (Qb e a.j.cZ hr).1 wt (ql rfl) rfl (I.b6 _) qq) (λ_ _ z=>SP.bE z) λ_ _ z=>z;rintro D U H⟨B,G,Y,h,s,p⟩;refine⟨G,Y,h,s.p,?_⟩;rw[M.zEx23]at p;cases q:M.Gg F es Y h with
|exc d h1=>rw[q]at p;exact p.j
|fail=>rw[q]at p;exact p.j
|ok ws h1=>
  rw[q]at p;intro G1 H1 e1 l vs r1;have T:=s.on e1 l;refine⟨G1,h1,_,l,xi r1,Jh ws,?_⟩;unfold M.KY at p;dsimp only at p;cases O:F.j f _ h1 with
|fail=>rw[O]at p;exact p.j
|exc d h2=>rw[O]at p;exactλR H2 C b=>Sj a S T C b p
|ok w' h2=>
   rw[O]at p;intro R H2 C b v' rv _;cases w' with
|own _=>exact p.j
|bor _=>exact p.j
|v d=>
    cases d with
|tup P=>
     dsimp only at p;cases L:M.aC is P Y with
 |none=>rw[L]at p;exact p.j
 |some Y'=>
      rw[L]at p;refine rN (show M.Gx is y9 (.p P) Y=y0 Y' from L) rv (T.on C b) λU' W=>⟨R,Y',h2,W.p,?_⟩;dsimp only at p;cases J:M.eval F e Y' h2 with
 |exc d h3=>rw[J]at p;exact p.j
 |fail=>rw[J]at p;exact p.j
 |ok w3 h3=>
       rw[J]at p;cases w3 with
 |v d=>exactλG3 H3 e3 m v3 r3 _=>p G3 v3 H3 (W.on e3 m).J m r3 trivial
 |_=>exact p.j
|_=>exact p.j
def Cz(l:eM Γ F X E k cf)(K:cf.j.w c=k9)(w:dB Γ k2)(t:hO Γ.K (Γ.j k2)<|zc fl)(I:aV Γ B G1 Y h1 U H1)(A:Ext G1 H1 G2 H2)(i:ag Γ G2 h2 H2)
 (p:aK Γ E B (M.KI F.cl c k2 fl d<|M.Gk F (.j m .p) Y<|M.GI d h1.e h2) D):kK Γ (eW X.K (Γ.j c) (Γ.j k2) (zc fl) E (iz Γ E0<|M.Gk F<|.j m .p) U) d G2 H2:=by
 unfold M.KI at p;have h:∀a s,M.bO F.cl _ [c]=y0 ([c].C (M.GK F.cl 8 a).w)->dB Γ a->i6 s H2->(∃e,Ext G1 H1 e H2/\ag Γ e (M.GI d h1.e h2) H2)→
  eW X.K _ _ _ E (iz Γ E0<|M.Gk F _) U _ s H2:=λa s ix f O ⟨e,Q,C⟩=>by
  rw[ix]at p;cases x:[c].C (M.GK F.cl 8 a).w with
|false=>rw[x]at p;exact p.j
|true=>
   rw[x]at p;refine⟨_,rfl,l.K▸f.k,l.K▸x0 f (by rw[←l.ow];exact Af4.j K) (by rw[←l.cl];simpa using x),O,?_⟩;have n:=I.on Q C;refine⟨e,Y,_,n.p,?_⟩;cases q:M.Gk F _ Y (M.GI d h1.e h2)with
|fail=>rw[q]at p;exact p.j
|exc H L=>rw[q]at p;exact p.j
|ok o L=>
    rw[q]at p;intro W H4 N j V r;cases o with
|nil=>exact p.j
|cons y o=>
     cases o with
|cons _ _=>exact p.j
|nil=>obtain⟨v,r',rfl,rd,rfl⟩:=r;exact⟨v,rfl,λdx b=>(p _ _ ((n.J.x n.hr N).x n.hr<|We _ b)<|j.fh _ b).2.2 k2 fl y rfl w t dx v (.w rfl) Xa<|rd.ext (We _ b) j⟩
 have G:=I.p.j.j;have J:∃e,Ext G1 H1 e H2/\ag Γ e (M.GI d h1.e h2) H2:=by
  unfold M.GI;split
  .rename_i z;exact⟨_,G▸A.cut,i.cut (by rw[G];exact A.le) (a2 z).2⟩
  .exact⟨G2,A,i⟩
 refine⟨λa g f=>?_,λa R H g f S dx u Z P T=>?_,λa R H g _ _ _ _ _ _ _=>by subst g;exact p.j⟩
 .subst g;exact h a u0 rfl f (λ_ z=>nomatch z) J
 .subst g;exact h a _ rfl f (λ_ z=>by cases z;exact⟨_,P⟩) J
def Oi(h:r4 cf f ys q=k9):∃g x xs O j,ys=[.p (y0<|.w g (x::xs) [] O) j]/\aY cf.p f g=k9/\cf.w.w f=k9/\q (x::xs)=true:=by refine kC (λs r h=>kE (λh=>?_) r h) ys h;refine nc (λv p h=>kS (λe h=>?_) v h) s h;refine Wc (λg xs l p h=>kE (λh=>?_) l h) e h;exact kC (λx r h=>⟨_,_,_,_,_,rfl,a3 h⟩) xs h
def Cv(h:pb cf c k2 fl f2 hs q=k9):∃w g V y ys O cp kc Z rp hp,hs=[.j (y0 w) u0 [.w (y0<|.w g [.w V (y::ys) [] O] [] cp) (y0<|.y .y kc Z) rp] hp]/\aY cf.p c w=k9/\cf.d4.w c=k9/\aY cf.p k2 g=k9/\cf.cb=k9/\cf.y.er.w (k2,fl)=k9/\aY cf.p f2 V=k9/\cf.qh.w f2=k9/\q (y::ys)=true:=by refine kC (λx r h=>kE (λh=>?_) r h) hs h;refine pe (λw n b p h=>kS (λw h=>?_) w h) x h;refine kC (λs r h=>kE (λh=>?_) r h) b h;refine rk (λa z p h=>kS (λa h=>?_) a h) s h;refine kS (λz h=>Jl (λj i p h=>?_) z h) z h;refine Wc (λg o l p h=>kE (λh=>?_) l h) a h;refine kC (λy r h=>kE (λh=>?_) r h) o h;obtain⟨C,v,m,u,f⟩:=a5 h;obtain⟨f,k,d⟩:=a3 f;cases nn C;cases Da v;refine Wc (λV ys B D d=>kE (λd=>?_) B d) y d;refine kC (λE r d=>?_) ys d;obtain⟨t,A,e⟩:=a3 d;exact⟨_,_,_,_,_,_,_,_,_,_,_,rfl,m,u,f,(a2 k).1,(a2 k).2,t,A,e⟩
def CA(a:eM Γ F X E k cf){f c k2 W u:String}{es i:M.Es}{ys:List Stmt}{hs:List ExceptHandler}{pos:Pos}(h1:r4 cf f ys (λxs=>aO cf es xs)=k9)(h2:pb cf c k2 W u hs (λxs=>aO {cf with toCg:=cf.toCg.q} i xs)=k9):PS X (.Try ys hs [] [] pos)<|bS Γ E<|M.exec F<|.gv f es c k2 W u i:=by
 obtain⟨g,x,xs,cp,rp,rfl,f1,P,f3⟩:=Oi h1;obtain⟨w,g2,g3,y,yr,R,cp2,kc,pc,rp2,hp,rfl,w1,w2,w3,w4,w5,v1,v2,w6⟩:=Cv h2;obtain⟨p0,rfl,f4,f5⟩:=zb f1;obtain⟨p1,rfl,w7,w8⟩:=zb w1;obtain⟨p2,rfl,w9,T⟩:=zb w3;obtain⟨p3,rfl,v3,v4⟩:=zb v1;obtain⟨ps,fa,fd,K,bd,kp,hm⟩:=(a.fn f P).imp λps h=>h.ex;obtain⟨hb,ho,hk⟩:=a.d4 c w2;obtain⟨Z,L,rh⟩:=a.o3 k2 W w4 w5 w9 T;obtain⟨qs,qa,qd,S,qb,qk,qm⟩:=a.pK u v2;have C:=Jb f3;have I:=Jb w6;have arg:∀A,iO _ A (.w (.p (zc u) p3) (y::yr) [] R)<|iz Γ E0<|M.Gk F<|.j (.j u i) .p:=λA=>by
  refine iO.imp (R8 (X:=X.cZ.ec A) rfl a.fA a.kh S (a.ec hk A).w (a.y _ v3) qm qk qb (bP i (a.ec hk A).j w6) v4 (ja<|I _ Aa2) (Ze λe N=>I e<|Aa0 _ N) rfl) λU H Q qq=>?_;obtain⟨G,Y,h,s,p⟩:=qq;rw[M.zEk2,M.zEe18]at p;refine⟨G,Y,h,s,?_⟩;cases q:M.Gg F i Y h with
|ok O h1=>
   rw[q]at p;intro J H1 o j vs V;refine⟨J,h1,_,j,xi V,Jh O,?_⟩;simp only[M.R.af]at p;cases n:F.j u _ h1 with
 |fail=>rw[n]at p;exact p
 |exc d h2=>rw[n]at p;exactλr m l b=>p r m (o.x s.j l) b
 |ok w' h2=>
    rw[n]at p;intro r m l b t rv fv;cases w' with
 |v d=>exact p r m (o.x s.j l) b [t] ⟨t,[],rfl,rv,rfl⟩
 |bor xs=>exact p.j
 |own xs=>have z:=s.ext o j;obtain⟨G3,e3,s3,rd,_⟩:=mi l (z.ext l b) z rv fv rfl;exact p G3 m (o.x s.j e3) s3.j [t] ⟨t,[],rfl,rd,rfl⟩
|_=>rw[q]at p;exact p
 refine PS.imp (Pf a.fA a.kh a.ex (a.y _ w7) (a.cls c ho) hb w8 Y9 (rh _ _ _ _ _ _ _ arg rfl) a.pat K a.w (a.y _ f4) hm kp bd (bP es a.j.cZ f3) f5 (ja<|C _ Aa2)<|Ze λe N=>C e<|Aa0 _ N) ?_;rintro D U H ⟨B,G,Y,h,s,p⟩;rw[M.zEx24]at p;refine⟨G,Y,h,s.p,?_⟩;cases q:M.Gg F es Y h with
|ok O h1=>
  rw[q]at p;intro J H1 o j vs V;have z:=s.on o j;refine⟨J,h1,_,j,xi V,Jh O,?_⟩;dsimp only at p;cases n:F.j f _ h1 with
 |fail=>rw[n]at p;exact p.j
 |ok w' h2=>
   rw[n]at p;intro r m l b t rv _;cases w' with
   |own _=>exact p.j
   |bor _=>exact p.j
   |v d=>exact p r t m (z.on l b).J b rv trivial
 |exc d h2=>rw[n]at p;exactλr m l b=>Cz a ho Z L z l b p
|_=>rw[q]at p;exact p.j
end
section
open Lake renaming MS.eM.toGo->Lake.MS.eM.j
variable{Γ:Ge}{F:M.Fx}{k:Nat}{X:Cx}{E:XK}{cf:Cf}
mutual
theorem HQ:∀(m:M.S)(X:Cx)(E:XK)(k:Nat)(cf:Cf)(st:Stmt),eM Γ F X E k cf->yp cf m st=k9->PS X st (bS Γ E<|M.exec F m)
|.set i e=>λX E κ cf st go h=>by refine fQ (λts v p h=>?_) st h;refine kC (λt r h=>?_) ts h;refine jq (λx p1 h=>?_) t h;refine kE (λh=>?_) r h;exact DN go.j (a2 h).1 (a2 h).2
|.ae i e=>λX E κ cf st go h=>by refine fQ (λts v p h=>?_) st h;refine kC (λt r h=>?_) ts h;refine jq (λx p1 h=>?_) t h;refine kE (λh=>?_) r h;exact N9 go.j (a2 h).1 (a2 h).2
|.dw is e=>λX E κ cf st go h=>by refine fQ (λts v p h=>?_) st h;refine kC (λt r h=>?_) ts h;refine mP (λx n p1 h=>?_) t h;refine kE (λh=>?_) r h;obtain⟨h1,h2,h3⟩:=a3 h;exact O2 go.j go.ra h1 h2 h3
|.d7 i kx e=>λX E κ cf st go h=>by refine fQ (λts v p h=>?_) st h;refine kC (λt r h=>?_) ts h;refine g9 (λx y p1 h=>?_) t h;refine jq (λx p2 h=>?_) x h;refine kE (λh=>?_) r h;obtain⟨h0,h4,_,h5,h6,h7⟩:=a6 h;obtain⟨h1,h2,h3⟩:=gG h0;exact EX go.j h1 h2 h3 h4 h6 h7
|.b9 i c f e=>λX E κ cf st go h=>by refine fQ (λts v p h=>?_) st h;refine kC (λt r h=>?_) ts h;refine xq (λx n p1 h=>?_) t h;refine jq (λx p2 h=>?_) x h;refine kE (λh=>?_) r h;obtain⟨h0,h⟩:=a2 h;obtain⟨hn,h4,h6⟩:=a3 h;obtain⟨h1,h2,h3⟩:=gG h0;cases Da hn;exact zU go.j h1 h2 h3 h4 h6
|.gb is e=>λX E κ cf st go h=>by refine fQ (λts v p h=>?_) st h;refine kC (λt r h=>?_) ts h;refine mP (λx n p1 h=>?_) t h;refine kE (λh=>?_) r h;obtain⟨h1,h2,h3⟩:=a3 h;exact Iw go.j h1 h2 h3
|.ef i e=>λX E κ cf st go h=>by refine fQ (λts v p h=>?_) st h;refine kC (λt r h=>?_) ts h;refine g9 (λx y p1 h=>?_) t h;refine jq (λx p2 h=>?_) x h;refine kE (λh=>?_) r h;obtain⟨h0,h4,_,h5,h6,h7⟩:=a6 h;obtain⟨h1,h2,h3⟩:=gG h0;exact NM go.j h1 h2 h3 h4 h6 h7
|.gC o kx j e=>λX E κ cf st go h=>by refine fQ (λts v p h=>?_) st h;refine kC (λt r h=>?_) ts h;refine kE (λh=>?_) r h;refine mP (λts n p h=>?_) t h;refine kC (λt1 r h=>?_) ts h;refine kC (λt2 r h=>?_) r h;refine kE (λh=>?_) r h;refine g9 (λx y p1 h=>?_) t1 h;refine jq (λa p2 h=>?_) t2 h;obtain⟨h1,h2,h3,h4,h5⟩:=a5 h;obtain⟨h5,h6⟩:=a2 h5;exact NO go.j h1 h2 h3 h4 h5 h6
|.bN o kx e=>λX E κ cf st go h=>by refine fQ (λts v p h=>?_) st h;refine kC (λt r h=>?_) ts h;refine g9 (λx y p1 h=>?_) t h;refine kE (λh=>?_) r h;obtain⟨h1,_,_,h4,h5,h6⟩:=a6 h;exact W3 go.j h1 h4 h5 h6
|.app i e=>λX E κ cf st go h=>by refine lg (λc p h=>?_) st h;refine Wc (λf x l q h=>?_) c h;refine kE (λh=>?_) l h;refine kC (λv r h=>?_) x h;refine kE (λh=>?_) r h;obtain⟨h1,h2,h3⟩:=a3 h;exact FE go.j h1 h2 h3
|.ext i e=>λX E κ cf st go h=>by refine lg (λc p h=>?_) st h;refine Wc (λf x l q h=>?_) c h;refine kE (λh=>?_) l h;refine kC (λv r h=>?_) x h;refine kE (λh=>?_) r h;obtain⟨h1,h2,h3⟩:=a3 h;exact E1 go.j h1 h2 h3
|.fP a e=>λX E κ cf st go h=>by
  refine lg (λc p h=>?_) st h;refine Wc (λf x l q h=>?_) c h;refine kE (λh=>?_) l h;refine kC (λv r h=>?_) x h;refine kE (λh=>?_) r h;refine xq (λx n q h=>?_) f h;obtain⟨h0,h1,h2,h3,h4⟩:=a5 h;rw[Aa6]at h4;cases Da h0;refine C7 go.j ?_ h1 h2 h3 h4.1;cases x with
 |Name _ _=>rfl
 |Subscript _ _ _=>rfl
 |_=>cases h4.2
|.aZ i c f e=>λX E κ cf st go h=>by refine fQ (λts v p h=>?_) st h;refine kC (λt r h=>?_) ts h;refine xq (λx n p1 h=>?_) t h;refine jq (λx p2 h=>?_) x h;refine kE (λh=>?_) r h;obtain⟨h0,hn,h4,h6⟩:=a4 h;obtain⟨h1,h2,h3⟩:=gG h0;cases Da hn;exact j5 go.j h1 h2 h3 h4 h6
|.ah=>λX E κ cf st go h=>(by rintro pins s U H D I⟨B,G,Y,h,s',p⟩;exact p.j)
|.ex e=>λX E κ cf st go h=>by refine lg (λv p h=>?_) st h;exact OG go.j (a2 h).1 (a2 h).2
|.ret e=>λX E κ cf st go h=>by refine nc (λv p h=>?_) st h;refine kS (λv h=>?_) v h;exact DU go.j h
|.iff c a b=>λX E κ cf st go h=>by refine Ft (λx y z p h=>?_) st h;obtain⟨h0,h1,h2,h3⟩:=a4 h;exact Ra ((Qb c go.j h1).2 h0) (dc a _ _ _ _ _ go h2)<|dc b _ _ _ _ _ go h3
|.fm n c b=>λX E κ cf st go h=>by refine Ro (λx y z p h=>?_) st h;refine kE (λh=>?_) z h;obtain⟨h0,h1,h2⟩:=a3 h;exact Nz go ((Qb c go.j h1).2 h0)<|dc b _ _ _ _ _ go h2
|.for tg one it b=>λX E κ cf st go h=>by refine R6 (λt i y z p h=>?_) st h;refine kE (λh=>?_) z h;obtain⟨h1,h2,h3,h4⟩:=a4 h;exact RZ go h1 h2 h3<|dc b _ _ _ _ _ go h4
|.bx c f e=>λX E κ cf st go h=>by refine rk (λx y p h=>?_) st h;refine kS (λx h=>?_) x h;refine Wc (λg x l q h=>?_) x h;refine kE (λh=>?_) l h;refine kC (λx r h=>?_) x h;refine kE (λh=>?_) r h;obtain⟨h0,h1,h2,h3⟩:=a4 h;cases nn h0;exact R0 go h1 h2 h3
|.raise c es=>λX E κ cf st go h=>by refine rk (λx y p h=>?_) st h;refine kS (λx h=>?_) x h;refine Wc (λg x l q h=>?_) x h;refine kE (λh=>?_) l h;refine kC (λx r h=>?_) x h;obtain⟨h0,h1,h2,h3,h4⟩:=a5 h;cases nn h0;exact K8 go h1 h2 (Da h3) h4
|.dD o kx e=>λX E κ cf st go h=>by refine fQ (λts v p h=>?_) st h;refine kC (λt r h=>?_) ts h;refine g9 (λx y p1 h=>?_) t h;refine kE (λh=>?_) r h;obtain⟨h4,h5,h6,h7⟩:=a4 h;exact RE go.j h4 h5 h6 h7
|.et o kx=>λX E κ cf st go h=>by refine lg (λc p h=>?_) st h;refine Wc (λf x l q h=>?_) c h;refine kE (λh=>?_) l h;refine kC (λx r h=>?_) x h;refine kE (λh=>?_) r h;refine xq (λy n p1 h=>?_) f h;obtain⟨h1,h2,h3,h4,h5⟩:=a5 h;cases Da h1;exact C1 go.j h2 h3 h4 (a2 h5).1 (a2 h5).2
|.fM o c m q es k2 nm hb=>λX E κ cf st go h=>by refine oq (λb hs p h=>?_) st h;refine kC (λs r h=>?_) b h;refine kE (λh=>?_) r h;refine lg (λe p1 h=>?_) s h;refine Wc (λg ys l p2 h=>?_) e h;refine kE (λh=>?_) l h;refine xq (λx n p3 h=>?_) g h;refine kC (λy ys h=>?_) ys h;obtain⟨h1,h2,h3,h4,h5⟩:=a5 h;obtain⟨h6,h7,h8,h9⟩:=a4 h5;cases Da h1;exact Hh go h2 h3 (Da h4) h6 h7 h8 h9 λhk x z hz=>dc hb _ _ _ _ _ (go.ec hk x) hz
|.ft is f es e k2 t=>λX E κ cf st go h=>by refine oq (λb hs p h=>?_) st h;refine kC (λs r h=>?_) b h;refine kC (λs2 r h=>?_) r h;refine kE (λh=>?_) r h;refine fQ (λts v p1 h=>?_) s h;refine kC (λtg r h=>?_) ts h;refine kE (λh=>?_) r h;refine mP (λts n p2 h=>?_) tg h;refine Wc (λg xs l p3 h=>?_) v h;refine kE (λh=>?_) l h;refine kC (λx r h=>?_) xs h;refine nc (λv2 p4 h=>?_) s2 h;refine kS (λv2 h=>?_) v2 h;obtain⟨h1,h2,h3,h4,h5⟩:=a5 h;exact Ir go h1 h2 h3 h4 (a2 h5).1 (a2 h5).2
|.gv f es c k2 fl f2 es2=>λX E κ cf st go h=>by refine oq (λy hs p h=>?_) st h;exact CA go (a2 h).1 (a2 h).2
theorem dc:∀(m:M.Ss)(X:Cx)(E:XK)(k:Nat)(cf:Cf)(sts:List Stmt),eM Γ F X E k cf->cK cf m sts=k9->cE X sts (bS Γ E<|M.execs F m)
|.nil=>λX E κ cf sts go h=>by cases Ac8.j h;exact LN
|.cons s ss=>λX E κ cf sts go h=>by refine kC (λst r h=>?_) sts h;exact Py (HQ s _ _ _ _ _ go (a2 h).1)<|dc ss _ _ _ _ _ go (a2 h).2
end
end
section
variable{P:Program}{w:World}{K:Aa1}{mg:Str->Option Value}{base:Heap}{N:List Str}{u8:Str}{scope:Scope}{f:Addr}{cd:Value}{A:Around}{outer:List Env}{s:Shared}{H:Hp}{E:XK}
def yM{d:List<|Addr×Obj}{U:St}{j H':Hp}{e a:Shared}{x C t:Addr}{B h2:Heap}{h:Option Addr}(I:Inv (qp (bc P w) P w K mg base N u8 scope f cd A outer s H E) d U j e)(l:a.os=e.os)(g:AllBare a.w)(r:B.StaysIn a.j)(p:a.j.C B<|envOfC u8 scope s.j.j.j f cd::outer)
 (un:Un (bA<|envOfC u8 scope s.j.j.j f cd::outer) [] j H' e.j a.j)(i:ck P w H' a.j)(comp:∀b o,a.j.p b=y0 o->((∃u,H' b=y0 u)\/∃u,e.j.p b=y0 u)->b∉bA (envOfC u8 scope s.j.j.j f cd::outer)->B.p b=y0 o)(new:e.j.p x=u0)
 (v:(∀dx,h=y0 dx->∃o,a.j.p x=y0 o/\o.p=y0 dx)/\(i6 h H'->eK a.j x))(m:E (.j C) h H')(y:Ae6 B outer x (.j C) (.j t) h2)(D:a.j.y h2)(dk:DK a.j h2):bc P w outer H s E (.j x) {a with heap:=h2}:=
 Ay (x9 I l g un i comp r p λb o z _=>⟨o.slots,z⟩) (λb o z c n=>comp b o z (c.imp id<|by rintro⟨u,q⟩;exact I.base.there b u q<|by show b∉([]:List Addr);simp) n) (by
  cases z:s.j.p x with
|none=>rfl
|some u=>obtain⟨F,k⟩:=I.base.there x u z (by show x∉([]:List Addr);simp);rw[new]at k;cases k) v m y D dk
def DR:wm (bc P w) (qp (bc P w) P w K mg base N u8 scope f cd A outer s H E) E:=by intro pins U H1 s1 ev s' I hq;obtain⟨x,C,t,B,H',od,rfl,os,bare,fl,un,aF,comp,new,hd,hE⟩:=hq;refine L2 (JA (Xw _ _)<|wpAny_leaves_onW (Q:=λ_ s2=>∃h2,s2={s' with heap:=h2}/\Ae6 B outer x _ _ h2/\s'.j.y h2) (E:=λ_ _=>False) I.ok.frames rfl fl λh2 x1 x4=>⟨h2,rfl,x1,x4⟩) (λ_ s2 z=>?_) λ_ _ z=>z.1.j;obtain⟨⟨h2,rfl,x1,x4⟩,dk⟩:=z;exact yM I os bare fl.1 fl.2.2.1 un aF comp new hd hE x1 x4 dk
def X4:wm (p8 P w s.j.j.j) (qp (bc P w) P w K mg base N u8 scope f cd A outer s H E) E:=by intro h U p u q i I m;obtain⟨x,C,t,B,r,o,rfl,k,b,e,un,c,comp,new,n,l⟩:=m;refine L2 (JA (Xw _ _)<|j4 (Q:=λ_ j=>∃a,j={i with heap:=a}/\Ae6 B outer x _ _ a/\i.j.y a) (E:=λ_ _=>False) rfl e λa d g=>⟨a,rfl,d,g⟩) (λ_ j z=>?_) λ_ _ z=>z.1.j;obtain⟨⟨a,rfl,d,g⟩,dk⟩:=z;exact yM I k b e.1 e.2.2.1 un c comp new n l d g dk
end
structure Txt(K:Aa1)(mg:Str->Option Value)(f:String) where
 st:Stmt
 fa:Addr
 fd:FuncData
 N:List Str
 ps:List Str
structure Z5{K:Aa1}{mg:Str->Option Value}{f:String}(t:Txt K mg f)(d:M.Fn)(g:Cg):Prop where
 fn:∃x u8,gK K x u8 t.st t.fa t.fd
 bd:Binds K t.fd t.ps []
 sc:Wk t.N t.ps<|Jd t.st
 n:t.N.e=d.n
 p:t.ps.e=d.ps
 le:d.ps<=d.n
 kG:cK ⟨g,Jd t.st,t.N⟩ d.body (Xr t.st)=k9
structure da(Γ:Ge)(p:M.Prog)(mg:Str->Option Value)(g:Cg):Prop where
 cl:p.cl=Γ.cl
 ow:g.j=Γ.own
 blt:∀x,x∈bF->mg (zc x)=u0
 con:∀x d,p.con.p x=y0 d->∃u v,mg (zc x)=y0 u/\RelV v u/\∀G H,au Γ G H d v
 cls:∀c,g.j.w c=k9->mg (zc c)=y0 (.j<|Γ.j c)
 gs:∀c,g.gs.w c=k9->dB Γ c/\oy Γ.K (Γ.j c)=k9/\mg (zc c)=y0 (.j<|Γ.j c)
 lD:∀c f,g.y.er.w (c,f)=true->dB Γ c/\hO Γ.K (Γ.j c) (zc f)/\lq Γ.K (Γ.j c) (zc f)/\mg (zc c)=some (.j<|Γ.j c)/\∃fI fd ps,PySem.W.findIn Γ.K (.j<|Γ.j c) "__init__"=some (some<|.j fI)/\qK Γ.K (zc f) fI fd ps
 d4:∀c,g.d4.w c=true->PySem.W.mroIn Γ.K (Γ.j c) (.p "BaseException")=some true/\g.j.w c=true
 fld:∀c f,g.y.fl.w (c,f)=k9->cP Γ.K (Γ.j c)/\bZ Γ.K (Γ.j c) (zc f)
 gY:∀c m q,g.y.mt.w (c,m,q)=k9->cP Γ.K (Γ.j c)/\g.y.ms.w q=k9/\lF Γ.K (Γ.j c) (zc m) (Γ.ma q)
 eh:∀c q,g.y.eh.w (c,q)=k9->mg (zc c)=y0 (.j<|Γ.j c)/\g.y.ms.w q=k9/\Mk Γ.K (Γ.j c) (Γ.ma q)
section
variable{P:Program}{w:World}{Γ:Ge}{mg:Str->Option Value}{base:Heap}{p:M.Prog}
theorem da.z (a:da Γ p mg g):da Γ p mg g.z:=⟨a.cl,a.ow,a.blt,a.con,a.cls,λc h=>aT h,λc f h=>aT h,λc h=>aT h,a.fld,λc m q h=>aT h,λc q h=>aT h⟩
theorem da.h (a:da Γ p mg g):da Γ p mg g.h:=⟨a.cl,a.ow,a.blt,a.con,a.cls,λc h=>aT h,λc f h=>aT h,λc h=>aT h,a.fld,λc m q h=>aT h,λc q h=>aT h⟩
def OX(g:ag Γ G h H)(r:aW Γ G H ws vs)(y:∀w∈ws,n9 w=k9)(p:N.e=n):aV Γ ⟨G,H,h⟩ G (ws.y y0++Ab (n-ws.e) u0) h (Wx N vs) H:=by
 have get:∀{i}{w},M.Gi (ws.y y0++Ab (n-ws.e) u0) i=y0 w->ws[i]?=y0 w:=λ{i w} e=>by
  rw[qA]at e;by_cases x:i<ws.e
  .rw[Ae1<|by simp_all,Ad]at e;cases q:ws[i]? with
|none=>rw[q]at e;cases e
|some w'=>rw[q]at e;exact e
  .rw[Ad7<|by simp_all,Ak4]at e;split at e<;>cases e
 have rel:∀{ws}{vs}{i:Nat}{w},aW Γ G H ws vs->ws[i]?=y0 w->∃v,vs[i]?=y0 v/\aj Γ G H w v:=by
  intro ws;induction ws with
|nil=>intro vs i w _ e;simp at e
|cons a r m=>
   rintro vs i w ⟨v,A,c,u,s⟩ e;subst c;cases i with
|zero=>simp at e;subst e;exact⟨v,rfl,u⟩
|succ i=>obtain⟨t,z,o⟩:=m s (by assumption);exact⟨t,by simpa using z,o⟩
 have b:∀{i}{d},M.Gi _ i≠y0 (.j d):=λ{i d} e=>by have:=y _<|Ag2<|get e;cases this
 refine⟨⟨?_,λi w e=>?_,λi j d w a l c=>absurd c b,g⟩,Ext.refl,g,λi d a c=>absurd c b⟩
 .unfold Wx;rw[Ab9,Ab9,Aa4,Aa4,Ad4,Ad4,p,r.length]
 .obtain⟨v,k,f⟩:=rel r<|get e;refine⟨v,?_,f⟩;unfold Wx;have x:=(Ab3.j k).1;rw[Ae1<|by simp_all,Ad,k];rfl
def Mo(l:ag Γ G h H)(p:aq Γ E G H (M.Gy h.e o) Q):aK Γ E ⟨G,H,h⟩ o {nx:=λ_ H'=>Q .ai H',rt:=Q}:=by
 have g:∀{w}{c}{b}{H'}{v},_->aq Γ E G H (M.fin h.e w c) Q->Ext G H b H'->ag Γ b c H'->aj Γ b H' w v->ay [] [] H w v->Q v H':=λ{w c b H' v} m p e a r f=>by
  unfold M.fin at p;split at p
  .exact p b H' e a v r f
  .split at p
   .rename_i j;rw[Aa6,l.j]at j;rw[l.j]at p;exact p _ H' e.cut (a.cut e.le j.2) v (r.cut G.n e.le j.1 m) f
   .exact p b H' e a v r f
 cases o with
|next Y c=>exactλb n H' k=>g (λi z=>by cases z) p k.J k.p.j rfl trivial
|ret w c=>
  cases w with
 |bor i=>exact p.j
 |v d=>exactλb v H' e a r f=>g (λi z=>by cases z) p e a r f
 |own i=>exactλb v H' e a r f=>g (λi z=>by cases z) p e a r f
|exc d c=>exact p
|brk Y c=>exact p.j
|cont Y c=>exact p.j
|fail=>exact p.j
end
def MG(r:aB k A)(h:2<=k)(hd):aB 2<|A.mark hd:=
 ⟨λq=>absurd q Y7,by have:=r.dp;show A.depth+2+5<_;lia,by have:=r.un;show A.y+16*2+200<_;lia⟩
section
variable{P:Program}{w:World}{Γ:Ge}{mg:Str->Option Value}{base:Heap}{p:M.Prog}{g:Cg}
def kR(P:Program)(w:World)(Γ:Ge)(mg:Str->Option Value)(base:Heap)(r:Nat)(m:List M.W->M.AH->M.R M.W)(f:String):Prop:=
 ∃ps a fd,aX P w Γ.K mg base (bc P w) r a fd ps (eG Γ m)/\Binds Γ.K fd ps []/\Ag1 Γ.K (.j a)=k9/\mg (zc f)=y0 (.j a)
def sk(P:Program)(w:World)(Γ:Ge)(mg:Str->Option Value)(base:Heap)(r:Nat)(m:List M.W->M.AH->M.R M.W)(q:String):Prop:=
 ∃ps fd,aX P w Γ.K mg base (bc P w) r (Γ.ma q) fd ps (eG Γ m)/\Binds Γ.K fd ps []
def oX(P:Program)(w:World)(Γ:Ge)(mg:Str->Option Value)(base:Heap)(m:List M.W->M.AH->M.R M.W)(f:String):Prop:=
 ∃ps a fd,kO P w Γ.K mg base (bc P w) 2 a fd ps (eG Γ m)/\Binds Γ.K fd ps []/\Ag1 Γ.K (.j a)=k9/\mg (zc f)=y0 (.j a)
def vU(a:p.w.p f=y0 d)(b:ws.e≠d.ps):M.call p (k+1) f ws h=.w:=by rw[M.call,a];simp[M.run,b]
def uA(ok:Z5 t d g)(b:p.w.p f=y0 d):eG Γ (M.call p (k+1) f) vs H Q E->vs.e=t.ps.e:=by
 rintro⟨G,h,c,i,rs,e,q⟩;by_cases a:c.e=d.ps
 .rw[←rs.length,a,ok.p]
 .rw[vU b a]at q;exact q.j
def tq(a:da Γ p mg g){f:String}{d:M.Fn}{t:Txt Γ.K mg f}(ok:Z5 t d g)(hf:p.w.p f=y0 d)(k r:Nat)(S:g.cb=k9->3<=r)(hr2:∀c,g.d4.w c=k9->2<=r)(ih:∀h,g.w.w h=k9->kR P w Γ mg base r (M.call p k h) h)
 (iq:∀h,g.qf.w h=k9->kR P w Γ mg base 2 (M.call p k h) h)(iqh:∀h,g.qh.w h=k9->oX P w Γ mg base (M.call p k h) h)(im:∀q,g.y.ms.w q=k9->sk P w Γ mg base r (M.call p k q) q)
 {b:Str}{y:Value}{A:Around}{i:List Env}{s:Shared}{H:Hp}{vs:List V}{Q:VK}{E:XK}(room:aB (r+1)<|A.w<|envOfC b (Jd t.st) s.j.j.j t.fa y)(j:g.uh=k9->lU (qp (bc P w) P w Γ.K mg base t.N b (Jd t.st) t.fa y A i s H E))(sp:eG Γ (M.call p (k+1) f) vs H Q E):
 ∃t',cE (qp (bc P w) P w Γ.K mg base t.N b (Jd t.st) t.fa y A i s H E) (Xr t.st) t'/\t' {nx:=λ_ H'=>Q .ai H',rt:=Q} (Wx t.N vs) H:=by
 obtain⟨G,h,ws,hr,rs,no,q⟩:=sp;by_cases hl:ws.e=d.ps;rotate_left
 .rw[vU hf hl]at q;exact q.j
 rw[M.Ga hf k ws h hl]at q;have calm:g.cb=k9->A.j=none:=λz=>room.hd<|TC<|S z;refine⟨bS Γ E<|M.execs ⟨M.call p k,p.cl,p.con⟩ d.body,dc d.body _ _ r _ _ ?_ ok.kG,?_⟩
 .refine{N:=rfl,K:=rfl,cl:=a.cl,ow:=a.ow,nd:=ok.sc.nd,gy:=λx j=>yZ j,lb:=λx j=>j,gU:=λx j=>⟨BC j,.p rfl⟩,kj:=λx j=>j,gl:=λx j=>WD j,calm:=λz=>by rw[show Cx.calm _=A.j.w from rfl,calm z];rfl,room:=room.mono<|Ad5 _,bQ:=room,pass:=DR,held:=X4,blt:=a.blt,con:=a.con,fn:=λh o=>?_,lz:=λh o=>?_,ra:=j,pK:=iqh,cls:=a.cls,fld:=a.fld,gY:=λc m q hq=>?_,eh:=λc q hq=>?_,hU:=LQ,fA:=rfl,kh:=rfl,ex:=rfl,gs:=λc L u o C=>?_,lD:=λc f L u o C=>?_,o3:=λc f L u o C=>?_,pat:=λ_=>PassesOwnAt.leaving,d4:=λc u=>⟨(a.d4 c u).1,(a.d4 c u).2,hr2 c u⟩}
  .obtain⟨n,fa,l,D,B,T,Y⟩:=ih h o;exact⟨n,⟨fa,l,D,B,T,Y⟩⟩
  .obtain⟨n,fa,l,D,B,T,Y⟩:=iq h o;exact⟨n,⟨fa,l,D,B,T,Y⟩⟩
  .obtain⟨z1,z2,U⟩:=a.gY c m q hq;obtain⟨n,l,D,B⟩:=im q z2;exact⟨z1,_,l,n,U,D,B⟩
  .obtain⟨z1,z2,U⟩:=a.eh c q hq;obtain⟨n,l,D,B⟩:=im q z2;exact⟨z1,_,l,n,U,D,B⟩
  .obtain⟨J,ei,I⟩:=a.gs c u;exact⟨J,λnp v O e es t R F=>D8 (calm L) ei I (WD o) R (ja<|F _ Aa2) (Ze λe he=>F e<|Aa0 _ he) C⟩
  .obtain⟨J,W,X,I,fI,l,n,hi,Z⟩:=a.lD c f u;exact⟨J,W,λnp v O e t R F=>P0 (calm L) X hi Z I (WD o) (room.mono Y8) R (ja F) C⟩
  .obtain⟨J,W,X,I,fI,l,n,hi,Z⟩:=a.lD c f u;exact⟨J,W,λnp v O pc kc e t R F=>NP X hi Z I (WD o) (λC=>MG room (Ac Y7<|Af9<|S L) C) R (ja F) C⟩
 .refine⟨⟨G,H,h⟩,G,ws.y y0++Ab _ u0,h,?_,Mo hr q⟩;have:=OX hr rs no ok.n;rw[hl]at this;exact this
def nq(y:da Γ p mg g){t:Txt Γ.K mg f}(ok:Z5 t d g)(m:p.w.p f=y0 d)(k r)(o:g.uh=y9)(j:g.cb=k9->3<=r)(i:∀c,g.d4.w c=k9->2<=r)(v:∀h,g.w.w h=k9->kR P w Γ mg base r (M.call p k h) h)
 (C:∀h,g.qf.w h=k9->kR P w Γ mg base 2 (M.call p k h) h)(e:∀h,g.qh.w h=k9->oX P w Γ mg base (M.call p k h) h)(B:∀q,g.y.ms.w q=k9->sk P w Γ mg base r (M.call p k q) q):aX P w Γ.K mg base (bc P w) (r+2) t.fa t.fd t.ps<|eG Γ<|M.call p (k+1) f:=by
 obtain⟨x,l,F⟩:=ok.fn;exact gK.Bw F ok.sc (λu H Q E=>uA ok m) λn A b s H u Q E a=>tq y ok m k r j i v C e B a λz=>by rw[o]at z;cases z
def O0(j:da Γ p mg g){t:Txt Γ.K mg f}(ok:Z5 t d g.h)(e:p.w.p f=y0 d)(k):kO P w Γ.K mg base (bc P w) 2 t.fa t.fd t.ps<|eG Γ<|M.call p (k+1) f:=by obtain⟨x,c,F⟩:=ok.fn;exact gK.Dp F ok.sc (λi H Q E=>uA ok e) λh A b s H i Q E a l=>tq j.h ok e k 0 (λz=>nomatch z) (λ_ z=>aT z) (λ_ z=>aT z) (λ_ z=>aT z) (λ_ z=>aT z) (λ_ z=>aT z) a λ_=>RD l
def x3(r)(f)(fa)(fd)(ps):aX P w Γ.K mg base (bc P w) r fa fd ps<|eG Γ<|M.call p 0 f:=
 ⟨by rintro g H Q E⟨G,h,d,e,rs,c,q⟩;exact q.j,by rintro A a s H b i g Q E _ _ _ _⟨G,h,d,e,rs,c,q⟩;exact q.j⟩
def pj(Γ:Ge)(mg:Str->Option Value)(p:M.Prog)(g:Cg)(f:String):Prop:=∃d,p.w.p f=y0 d/\∃t:Txt Γ.K mg f,Z5 t d g/\Ag1 Γ.K (.j t.fa)=k9/\mg (zc f)=y0 (.j t.fa)
def Rq(n:da Γ p mg g)(u:g.uh=y9)(all:∀f,g.w.w f=k9->pj Γ mg p g f)(m:∀f,g.qf.w f=k9->pj Γ mg p g.z f)(l:∀f,g.qh.w f=k9->pj Γ mg p g.h f)
 (i:∀q,g.y.ms.w q=k9->∃d,p.w.p q=y0 d/\∃t:Txt Γ.K mg q,Z5 t d g/\t.fa=Γ.ma q):∀k,(∀f,g.w.w f=k9->kR P w Γ mg base (2*k+3) (M.call p k f) f)/\(∀f,g.qf.w f=k9->kR P w Γ mg base 2 (M.call p k f) f)/\(∀f,g.qh.w f=k9->oX P w Γ mg base (M.call p k f) f)/\∀q,g.y.ms.w q=k9->sk P w Γ mg base (2*k+3) (M.call p k q) q:=by
 intro k;induction k with
|zero=>
  refine⟨λf c=>?_,λf c=>?_,λf c=>?_,λq o=>?_⟩
  .obtain⟨d,b,t,ok,e,a⟩:=all f c;exact⟨t.ps,t.fa,t.fd,x3 _ f _ _ _,ok.bd,e,a⟩
  .obtain⟨d,b,t,ok,e,a⟩:=m f c;exact⟨t.ps,t.fa,t.fd,x3 _ f _ _ _,ok.bd,e,a⟩
  .obtain⟨d,b,t,ok,e,a⟩:=l f c;exact⟨t.ps,t.fa,t.fd,⟨by rintro y H Q E⟨G,h,B,C,rs,D,q⟩;exact q.j,by rintro A r s H x F y Q E _ _ _ _ _⟨G,h,B,C,rs,D,q⟩;exact q.j⟩,ok.bd,e,a⟩
  .obtain⟨d,b,t,ok,v⟩:=i q o;exact⟨t.ps,t.fd,x3 _ q _ _ _,ok.bd⟩
|succ k j=>
  refine⟨λf c=>?_,λf c=>?_,λf c=>?_,λq o=>?_⟩
  .obtain⟨d,b,t,ok,e,a⟩:=all f c;exact⟨t.ps,t.fa,t.fd,nq n ok b k _ u (λ_=>(SB _ _)) (λ_ _=>(SB _ _)) j.1 j.2.1 j.2.2.1 j.2.2.2,ok.bd,e,a⟩
  .obtain⟨d,b,t,ok,e,a⟩:=m f c;exact⟨t.ps,t.fa,t.fd,nq n.z ok b k 0 rfl (λz=>nomatch z) (λ_ z=>aT z) (λ_ z=>aT z) (λ_ z=>aT z) (λ_ z=>aT z) λ_ z=>aT z,ok.bd,e,a⟩
  .obtain⟨d,b,t,ok,e,a⟩:=l f c;exact⟨t.ps,t.fa,t.fd,O0 n ok b k,ok.bd,e,a⟩
  .obtain⟨d,b,t,ok,v⟩:=i q o;exact⟨t.ps,t.fd,v▸nq n ok b k _ u (λ_=>(SB _ _)) (λ_ _=>(SB _ _)) j.1 j.2.1 j.2.2.1 j.2.2.2,ok.bd⟩
def sf(K:Aa1):Sp:=λvs H Q _=>∃(a:Addr)(ns:List Int),vs=[.j a]/\bu K H a (ns.y V.int)/\ns.e<=63/\∀H',Q (.K k9) H'
theorem y4:∀(ns:List Int),aa Γ G H (ns.y M.D.int)<|ns.y V.int
|[]=>rfl
|n::ns=>⟨_,_,rfl,rfl,y4 ns⟩
def N7(F:aX P w Γ.K mg base (bc P w) n fa fd ps<|eG Γ<|M.call p k "law")(gz:∀ns:List Int,ns.e<=63->∃h',M.call p k "law" [.v (.w<|ns.y .u)] []=.p (.v<|.K true) h'):
 aX P w Γ.K mg base m9 n fa fd ps<|sf Γ.K:=by
 refine aX.calm F ?_;rintro x H Q E ⟨a,ns,i,d,l,q⟩;subst i;obtain⟨h',u⟩:=gz ns l;have fin:∀G:Gh,ag Γ G [] H->kn Γ G H a _->eG Γ (M.call p k "law") [.j a] H Q (fun _ _ _=>False):=fun G m t=>by
  refine⟨G,[],[.v (.w _)],m,⟨.j a,[],rfl,⟨a,ns.y V.int,rfl,t,y4 ns⟩,rfl⟩,λw h=>?_,?_⟩
  .cases Ab8.j h;rfl
  .rw[u];intro y j _ _ v r _;cases(r);exact q j
 obtain d|d:=d
 .refine fin ⟨λb=>b=a,λ_=>0,0⟩ ⟨rfl,λr c e=>by simp at e,λr s g=>absurd g<|Ai6 _,λb f=>?_⟩<|.p ⟨rfl,d⟩;subst f;obtain z|⟨o,z⟩:=d
  .exact⟨_,z⟩
  .exact⟨_,z⟩
 .exact fin ⟨λ_=>False,λ_=>0,0⟩ ⟨rfl,λr c e=>by simp at e,λr s g=>absurd g<|Ai6 _,λb f=>f.j⟩<|.w d
def walk{l:PySem.W.OpenLaw}{K:Params->Aa1}(k)(m:aB k callerA)(g:l.most=y0 63)(b:d.params.defaults=[])
 (e:∀w h,YP w h->(K w.j).In h)
 (F:∀w mg j h,(K w.j).In h->h.Ns mainGlobals mg->mg d.name=y0 (.j j)→
   ∃fd:FuncData,(∀s u,BindsTo s fd ⟨[u],[]⟩ [(x,u)])/\∀base:Heap,(K w.j).In base->base.Ns mainGlobals mg->aX l.prog w (K w.j) mg base m9 k j fd [x] (sf<|K w.j)):
 PySem.W.WalkO q loose XP YP l.row.toRowW d []<|λf vs=>PySem.call f vs:=
 Lake.hV g Y7 b m e F (λ_ _ a i n _ c=>⟨a,i,rfl,c,n,λ_=>rfl⟩) λ_ _ _ _ _ z=>z
end
open PySem PySem.W PyProof.Rows KTD
theorem uZ{f g:Str->Option (Str×Value)}:∀{l:List Str},(∀n∈l,f n=g n)->l.X f=l.X g
|[],_=>rfl
|a::l,h=>by rw[Ag8,Ag8,h a Aa2,uZ λn b=>h n<|Aa0 _ b]
theorem BJ:∀{ps:List Str}{us:List Value},ps.N->us.e=ps.e->ps.X (λn=>((ps.a1 us).p n).y (n,·))=ps.a1 us
|[],us,_,_=>rfl
|p::ps,[],_,h=>by cases h
|p::ps,u::us,b,h=>by have a:=Ah3.j b;rw[Vx,List.filterMap_cons_some<|by rw[List.lookup_cons_self];rfl];congr 1;refine(uZ λn c=>?_).x<|BJ a.2<|Nat.succ.inj h;rw[Ac1,beq_eq_false_iff_ne.p (λe=>a.1<|e▸c:n≠p)]
def R4{ps:List Str}{us:List Value}(h:us.e=ps.e)(a:n∈ps):((ps.a1 us).p n).p=true:=by
 induction ps generalizing us with
|nil=>cases a
|cons p ps b=>
  cases us with
|nil=>cases h
|cons u us=>
   rw[Vx,Ac1];cases e:n==p with
|true=>rfl
|false=>exact b (Nat.succ.inj h)<|(Aa8.j a).resolve_left<|beq_eq_false_iff_ne.j e
noncomputable abbrev d5(a:FuncData):List Str:=a.j.args.y (·.arg)
def E5(h1:fd.j.posonlyargs=[])(h2:fd.j.vararg=u0)(h3:fd.j.kwonlyargs=[])(h4:fd.j.kwarg=u0)(h5:fd.defaults=.y)(nd:(d5 fd).N)(hl:us.e=(d5 fd).e):bindArgs fd ⟨us,[]⟩=pure ((d5 fd).a1 us):=by
 have e:∀k,((d5 fd).M k).a2 (λn=>(((d5 fd).a1 us).p n).w)=[]:=λk=>List.filter_eq_nil_iff.p λn hn=>by
  have:=R4 hl<|Al9 hn;cases q:((d5 fd).a1 us).p n with
|none=>rw[q]at this;cases this
|some _=>simp
 obtain⟨n,q,⟨po,as,va,ko,kd,ka,df⟩,b,sc,g,cl,d,kV,doc,pm,an,cd,ct,bi⟩:=fd;cases h1;cases h2;cases h3;cases h4;cases h5;refine(FB ?_).x<|(FB ?_).x ?_
 .simpa using Am9 hl
 .exactλz=>by have z':=(congrArg (λl:List Str=>!l.K)<|e _).I.x z;cases z'
 .refine Eq.trans ?_<|congrArg pure<|BJ nd hl;rw[show∀k,List.drop k (none.getD #[]).p=[]fromλk=>List.drop_nil,List.zip_nil_right];exact congrArg (λl:List Str=>(pure _:Sem _))<|Ac4 _
noncomputable def mr(K:Frag)(a:Addr)(f:FuncData->List Stmt->Bool):Bool:=match K.p a with
|some ⟨_,_,.func fd,_⟩=>(match fd.body with
|.stmts b=>f fd b
|_=>y9)
|_=>y9
def rC{K:Frag}(h:mr K a f=k9):∃V O fd j b,K.p a=y0 ⟨V,O,.func fd,j⟩/\fd.body=.stmts b/\f fd b=true:=by
 unfold mr at h;split at h
 .rename_i e;split at h
  .rename_i c;exact⟨_,_,_,_,_,e,c,h⟩
  .cases h
 .cases h
def lX(K:Frag)(a:Addr)(b:FuncData)(N:List Str):Prop:=
 (b.globals=mainGlobals/\b.builtins=builtinsNs/\b.closure=[]/\b.defaults=.y)/\codeIn K b.code b.qualname=k9/\keepIn K (.j a)=k9∧
 (b.j.posonlyargs.K=k9/\b.j.vararg.w=k9/\b.j.kwonlyargs.K=k9/\b.j.kwarg.w=k9)∧
 b.p.p=.j/\b.p.isCoroutine=y9/\b.p.isGenerator=y9/\N.N/\N.M (d5 b).e=d5 b/\(∀x∈d5 b,b.p.j.p x=y0 .local\/b.p.j.p x=y0 .w)/\∀y∈b.p.j,y.2≠.C
instance{K:Frag}{a:Addr}{fd:FuncData}{N:List Str}:Decidable<|lX K a fd N:=by unfold lX;infer_instance
def tK{K:Frag}(l:K.p a=y0 ⟨oc,od,.func fd,sl⟩)(o:fd.body=.stmts b)(p:lX K a fd N):
 ∃st x q,Xr st=b/\Jd st=fd.p/\gK K x q st a fd/\Wk N (d5 fd) fd.p/\∀us:List Value,us.e=(d5 fd).e->bindArgs fd ⟨us,[]⟩=pure ((d5 fd).a1 us):=by
 obtain⟨⟨g,bi,k,d⟩,i,s,⟨h,a2,a3,a4⟩,m,t,n,c,e,j,f⟩:=p;refine⟨.FunctionDef fd.name fd.j b [] u0 [] fd.p u0 fd.name ⟨0,0,0,0⟩,fd.name,fd.qualname,rfl,rfl,⟨⟨oc,od,fd.kwdefaults,fd.doc,fd.pyModule,fd.annotations,fd.code,fd.closureTuple,sl,?_,l,i⟩,s⟩,⟨m,t,n,c,e,j,f⟩,λus r=>E5 (Ac8.j h) (Ad8.j a2) (Ac8.j a3) (Ad8.j a4) d (e▸(VE _ _).nodup c) r⟩;cases fd;cases o;cases g;cases bi;cases k;cases d;rfl
noncomputable def k6:Option (Option Value)->Addr
|some (y0 (.j a))=>a
|_=>0
abbrev bI(K:Frag)(c:String):Addr:=k6<|nsIn K mainGlobals<|zc c
abbrev kP(K:Frag)(c:String):Prop:=nsIn K mainGlobals (zc c)=y0 (y0<|.j<|bI K c)
noncomputable def ir(K:Frag)(a:oZ)(q:String):Addr:=match a.mt.find? (·.2.2==q)with
|some (c,m,_)=>k6<|findIn K (.j<|bI K c)<|zc m
|none=>match a.eh.find? (·.2==q)with
|some (c,_)=>k6<|findIn K (.j<|bI K c) "__init__"
|none=>0
noncomputable def NA(a:Scope):List Str:=a.j.X λy=>if y.2=.local\/y.2=.w then y0 y.1 else u0
def XP(K:Frag)(a:M.cP)(own:List String)(c:String):Prop:=((findIn K (.j<|bI K c) "__getattribute__"=some (some<|.w "BaseException.__getattribute__")/\findIn K (.j<|bI K c) "__getattr__"=some none/\findIn K (.j<|bI K c) "__class__"=some (some<|.w "object.__class__"))∧
 specialIn K (.w "object.__class__") "__get__"=some (some<|.w "getset_descriptor.__get__")/\takesIn K (.w "object.__class__")=some true/\mroIn K (bI K c) (.p "object")=some true/\mroIn K (bI K c) (.p "BaseException")=some true/\kitCls K (.j<|bI K c) (.j<|bI K c)=some true/\(clsIn K<|bI K c).p=true)∧
 (∀t∈own,kitOne K (.j<|bI K c) (.j<|bI K t)=some ((M.GK a 8 c).w t))/\kitOne K (.j<|bI K c) (.p "ValueError")=some ((M.GK a 8 c).w "ValueError")/\kP K c
instance{K:Frag}{cl:M.cP}{own:List String}{c:String}:Decidable<|XP K cl own c:=by unfold XP;infer_instance
def lZ(K:Frag)(p:M.Prog)(g:Cg)(nm:List<|String×List String)(a:Addr)(f:String):Bool:=mr K a λfd b=>match p.w.p f with
|some d=>(λN=>u9 (lX K a fd N/\N.e=d.n/\(d5 fd).e=d.ps/\d.ps<=d.n)&&cK ⟨g,fd.p,N⟩ d.body b)<|((nm.p f).y λl=>l.y zc).getD<|NA fd.p
|none=>y9
def wX{K:Frag}(mg)(h:lZ K p g nm a f=k9):
 ∃d,p.w.p f=y0 d/\∃t:Txt K mg f,Z5 t d g/\t.fa=a/\keepIn K (.j a)=k9/\∃O j V,K.p a=y0 ⟨O,j,.func t.fd,V⟩/\t.ps=d5 t.fd/\∀us:List Value,us.e=t.ps.e->bindArgs t.fd ⟨us,[]⟩=pure (t.ps.a1 us):=by
 obtain⟨O,j,Z,V,b,l,u,h⟩:=rC h;cases e:p.w.p f with
|none=>rw[e]at h;cases h
|some d=>rw[e]at h;generalize ((nm.p f).y λl=>l.y zc).getD _=N at h;obtain⟨v,i⟩:=(Aa6 _ _).mp h;obtain⟨q,m,n,r⟩:=Da v;obtain⟨w,x,o,rfl,s,F,c,k⟩:=tK l u q;rw[←s]at c i;exact⟨d,rfl,⟨w,a,Z,_,d5 Z⟩,⟨⟨x,o,F⟩,.all k,c,m,n,r,i⟩,rfl,F.kp,O,j,V,l,rfl,k⟩
noncomputable def AA(f n m:Str)(b:List Stmt):Bool:=lC b λst r=>kZ r<|eU st λts v=>lC ts λt r=>kZ r<|Xo t λx g _=>xr x λa=>xr v λc=>u9 (a=n)&&u9 (g=f)&&u9 (c=m)
def FO(h:AA f n m b=k9):∃V p2 j O,b=[.j [.j (.p n V) f p2] (.p m j) O]:=by refine kC (λi r h=>kE (λh=>?_) r h) b h;refine fQ (λts v p h=>kC (λt r h=>?_) ts h) i h;refine kE (λh=>xq (λx g p h=>?_) t h) r h;refine jq (λa p h=>jq (λc p h=>?_) v h) x h;obtain⟨d,k,e⟩:=a3 h;cases Da d;cases Da k;cases Da e;exact⟨_,_,_,_,rfl⟩
def sM(K:Frag)(f:Str)(a:Addr):Bool:=mr K a λfd b=>match d5 fd with
|[n,m]=>u9 (lX K a fd [n,m]/\(n==("__debug__":Str))=false/\(m==("__debug__":Str))=false/\(n==("__classdict__":Str))=false/\(m==("__classdict__":Str))=false)&&AA f n m b
|_=>y9
set_option tactic.hygienic true in
def Lf{K:Frag}(h:sM K f a=k9)(t:isFn K (.j a)=k9):∃fd ps,qK K f a fd ps:=by
 obtain⟨A,z,fd,B,b,l,r,h⟩:=rC h;split at h
 .rename_i n m e;obtain⟨u,i⟩:=(Aa6 _ _).mp h;obtain⟨q,d⟩:=Da u;obtain⟨v,x,g,rfl,o,F,c,y⟩:=tK l r q;obtain⟨j,k,p,w,s⟩:=FO i;rw[←o]at c;exact⟨fd,d5 fd,⟨x,g,v,_,n,m,j,k,p,w,F,e,rfl,c,s,d⟩,.all y,beq_iff_eq.j t⟩
 .cases h
def rO(K:Frag)(d:M.D)(u:Value):Bool:=match d,u with
|.y _ fs,.j a=>!fs.K&&tabLook (fZ K) (λb=>K.p b) a (lK fs)
|d,u=>fZ K d u
def yO(K:Frag)(x:String)(d:M.D):Bool:=match nsIn K mainGlobals (zc x)with
|some (y0 u)=>rO K d u
|_=>y9
def DS{Γ:Ge}{d:M.D}{u:Value}(h:rO Γ.K d u=k9):∃v,RelV v u/\∀G H,au Γ G H d v:=by
 unfold rO at h;split at h
 .obtain⟨b,a⟩:=(Aa6 _ _).mp h;exact⟨.j _,rfl,λ_ _=>.w ⟨λe=>(by simp_all),_,rfl,a⟩⟩
 .exact mU h
theorem vp:∀{l:List<|String×α}{x}{d},l.p x=y0 d->(x,d)∈l
|(k,v)::l,x,d,h=>by
  rw[Ac1]at h;by_cases q:(x==k)=k9
  .rw[q]at h;cases h;rw[eq_of_beq q];exact Aa2
  .rw[SN q]at h;exact Aa0 _<|vp h
abbrev A1(K:Frag)(C:Addr):Prop:=plainGet K C Str.empty=true/\hasDictIn K C=true/\plainOver K C=true/\findIn K (.j C) "__setattr__"=some (some<|.w "object.__setattr__")
def zJ(K:Frag)(p:M.Prog)(g:Cg)(nm:List<|String×List String)(L:List String):Prop:=∀f∈L,kP K f/\lZ K p g nm (bI K f) f=true
instance zI{K:Frag}{p:M.Prog}{g:Cg}{nm:List<|String×List String}{L:List String}:Decidable<|zJ K p g nm L:=by unfold zJ;infer_instance
def rW(K:Frag)(p:M.Prog)(g:Cg)(nm:List<|String×List String):Prop:=
 (∀x∈bF,nsIn K mainGlobals (zc x)=y0 u0)/\(∀x∈p.con,yO K x.1 x.2=k9)/\(∀c∈g.j,kP K c)/\(∀c∈g.gs,XP K p.cl g.j c/\oy K (bI K c)=k9)∧
 (∀c∈g.y.er,XP K p.cl g.j c.1/\(jY K (bI K c.1)=true/\kN K (bI K c.1)=true/\findIn K (.j<|bI K c.1) "__setattr__"=some (some<|.w "object.__setattr__")/\findIn K (.j<|bI K c.1) (zc c.2)=some none/\keepIn K (.j<|bI K c.1)=true)∧
   findIn K (.j<|bI K c.1) "__init__"=some (some<|.j<|k6<|findIn K (.j<|bI K c.1) "__init__")/\sM K (zc c.2) (k6<|findIn K (.j<|bI K c.1) "__init__")=true/\isFn K (.j<|k6<|findIn K (.j<|bI K c.1) "__init__")=true)∧
 (∀c∈g.d4,mroIn K (bI K c) (.p "BaseException")=some true/\g.j.w c=true)∧
 (∀c∈g.y.fl,A1 K (bI K c.1)/\findIn K (.j<|bI K c.1) (zc c.2)=y0 u0)∧
 (∀c∈g.y.mt,A1 K (bI K c.1)/\g.y.ms.w c.2.2=k9/\findIn K (.j<|bI K c.1) (zc c.2.1)=y0 (y0<|.j<|ir K g.y c.2.2)/\isFn K (.j<|ir K g.y c.2.2)=k9/\keepIn K (.j<|ir K g.y c.2.2)=k9)∧
 (∀c∈g.y.eh,kP K c.1/\g.y.ms.w c.2=true/\makesIn K (bI K c.1)=true/\findIn K (.j<|bI K c.1) "__init__"=some (some<|.j<|ir K g.y c.2)/\isFn K (.j<|ir K g.y c.2)=true/\keepIn K (.j<|bI K c.1)=true)∧
 zJ K p g nm (g.w.take 40)/\(∀q∈g.y.ms,lZ K p g nm (ir K g.y q) q=true)/\(∀f∈g.qf,kP K f/\lZ K p g.z nm (bI K f) f=true)/\(∀f∈g.qh,kP K f/\lZ K p g.h nm (bI K f) f=true)/\g.uh=false/\g.w.w "law"=true/\mr K (bI K "law") (fun fd _=>decide<|d5 fd=[("_law_script":Str)])=true
set_option synthInstance.maxSize 1000 in
instance{K:Frag}{p:M.Prog}{g:Cg}{nm:List<|String×List String}:Decidable<|rW K p g nm:=by unfold rW;infer_instance
def Zr  [BEq α][LawfulBEq α]{l:List α}(h:l.w x=k9):x∈l:=Af4.j h
def XP.ok {K:Frag}{p:M.Prog}(h:XP K p.cl own c):dB ⟨K,bI K,p.cl,own,ir K ob⟩ c:=by obtain⟨⟨⟨d,a2,a3⟩,a4,a5,a6,a7,a,e⟩,b,c,_⟩:=h;exact⟨⟨d,a2,a3,a4,a5,a6,a7,a,e⟩,b,c⟩
set_option tactic.hygienic true in
def kF{l:OpenLaw}{K:Frag}(p)(g)(nm)(k)(X:K.In h)(G:h.Ns mainGlobals mg)(N:mg "law"=some (.j fa))(T:decide (rW K p g nm)=true)(T2:decide (zJ K p g nm ((g.w.drop 40).take 40))=true)(T3:decide (zJ K p g nm ((g.w.drop 40).drop 40))=true)
 (gz:∀ns:List Int,ns.e<=63->∃h',M.call p (k+1) "law" [.v (.w<|ns.y .u)] []=.p (.v<|.K true) h'):
 ∃fd:FuncData,(∀s v,BindsTo s fd ⟨[v],[]⟩ [("_law_script",v)])/\∀base:Heap,K.In base->base.Ns mainGlobals mg->aX l.prog w K mg base m9 (2*k+3+2) fa fd ["_law_script"] (sf K):=by
 obtain⟨t1,t0,t2,t3,t4,t5,t6,Z,t8,J,R,S,W,U,E,O⟩:=Da T;replace J:zJ K p g nm g.w:=λf n=>by
  rw[←List.take_append_drop 40 g.w,←List.take_append_drop 40 (g.w.drop 40)]at n;obtain n|n:=Ad9.j n;exact J f n;obtain n|n:=Ad9.j n;exact Da T2 f n;exact Da T3 f n
 have V:da ⟨K,bI K,p.cl,g.j,ir K g.y⟩ p mg g:=by
  refine⟨rfl,rfl,λx hx=>mg_none_of X G<|t1 x hx,λx d j=>?_,λc a=>mg_of X G<|t2 c<|Zr a,λc a=>?_,λc f a=>?_,λc a=>t5 c<|Zr a,λc f a=>?_,λc m q a=>?_,λc q a=>?_⟩
  .have z:=t0 _<|vp j;unfold yO at z;split at z
   .rename_i u e;obtain⟨v,r⟩:=DS (Γ:=⟨K,bI K,p.cl,g.j,ir K g.y⟩) z;exact⟨u,v,mg_of X G e,r⟩
   .cases z
  .have z:=t3 c<|Zr a;exact⟨z.1.ok,z.2,mg_of X G z.1.2.2.2⟩
  .obtain⟨z,⟨B,y,C,o,A⟩,H,L,Q⟩:=t4 (c,f)<|Zr a;obtain⟨fd,ps,i⟩:=Lf L Q;exact⟨z.ok,⟨y,o,z.1.1.1,z.1.1.2.1⟩,⟨B,y,C,o,A⟩,mg_of X G z.2.2.2,_,fd,ps,H,i⟩
  .obtain⟨⟨B,y,C,o⟩,A⟩:=t6 (c,f)<|Zr a;exact⟨⟨B,y,C,o⟩,A⟩
  .obtain⟨⟨B,y,C,o⟩,A,H,L,Q⟩:=Z (c,m,q)<|Zr a;exact⟨⟨B,y,C,o⟩,A,H,L,Q⟩
  .obtain⟨B,y,C,o,A,H⟩:=t8 (c,q)<|Zr a;exact⟨mg_of X G B,y,C,o,A,H⟩
 have at_:∀f,g.w.w f=k9->mg (zc f)=y0 (.j<|bI K f):=λf n=>mg_of X G (J f<|Zr n).1;have e:bI K "law"=fa:=by have:=(at_ "law" E).I.x N;cases this;rfl
 obtain⟨d,j,t,ok,b,D,oc,od,sl,Y,ep,bd⟩:=wX mg (J "law"<|Zr E).2;obtain⟨_,_,fd,_,_,F,_,z⟩:=rC O;rw[Y]at F;cases F;have z:=ep.x<|Da z;refine⟨t.fd,λs v=>.of_eq<|(bd [v]<|by rw[z];rfl).x<|by rw[z];rfl,λbase _ _=>?_⟩;have I:=Rq (P:=l.prog) (w:=w) (base:=base) V U (λf n=>by
  obtain⟨d,j,t,ok,b,D,_⟩:=wX mg (J f<|Zr n).2;exact⟨d,j,t,ok,b▸D,b▸at_ f n⟩) (λf n=>by
  obtain⟨d,j,t,ok,b,D,_⟩:=wX mg (S f<|Zr n).2;exact⟨d,j,t,ok,b▸D,b▸mg_of X G (S f<|Zr n).1⟩) (λf n=>by
  obtain⟨d,j,t,ok,b,D,_⟩:=wX mg (W f<|Zr n).2;exact⟨d,j,t,ok,b▸D,b▸mg_of X G (W f<|Zr n).1⟩) (λq hq=>by
  obtain⟨d,j,t,ok,b,_⟩:=wX mg<|R q<|Zr hq;exact⟨d,j,t,ok,b⟩) k
 have:=N7 (nq V ok j k _ U (λ_=>(SB _ _)) (λ_ _=>(SB _ _)) I.1 I.2.1 I.2.2.1 I.2.2.2) gz
 rwa [b,e,z]at this
end Lake.MS
namespace Lake.M
open M renaming E.str->Lake.M.E.o,E.int->Lake.M.E.u,E.tup->Lake.M.E.p,E.call->Lake.M.E.j,E.lst->Lake.M.E.w,E.bin->Lake.M.E.y,E.cmp->Lake.M.E.C,E.bl->Lake.M.E.K,E.comp->Lake.M.E.M,E.ix->Lake.M.E.N,E.ai->Lake.M.E.T,E.con->Lake.M.E.X,E.var->Lake.M.E.a0,E.not->Lake.M.E.a1,D.str->Lake.M.D.o,D.int->Lake.M.D.u,D.tup->Lake.M.D.p,Ss.cons->Lake.M.Ss.j,Ss.nil->Lake.M.Ss.p,Es.cons->Lake.M.Es.j,Es.nil->Lake.M.Es.p,R.ok->Lake.M.R.p,S.ret->Lake.M.S.j,S.set->Lake.M.S.B,S.iff->Lake.M.S.p,S.ae->Lake.M.S.w,S.ah->Lake.M.S.y,S.raise->Lake.M.S.C,Op.add->Lake.M.Op.j,Op.mod->Lake.M.Op.w,Op.mul->Lake.M.Op.p,Op.band->Lake.M.Op.y,It.seq->Lake.M.It.j,Bi.len->Lake.M.Bi.j,Bi.tuple->Lake.M.Bi.G,Bi.all->Lake.M.Bi.T,O.next->Lake.M.O.p,Cp.eq->Lake.M.Cp.j,Cp.mem->Lake.M.Cp.p,Cp.ne->Lake.M.Cp.w
noncomputable abbrev yl:Tx:=[115,111,109,101,32,110,111,32,108,101,97,115,116,32,109,111,115,116,32,101,97,99,104,32,105,110,32,97,110,100,32,111,114,32,110,111,116,32,115,97,109,101,32,97,108,108,32,110,111,110,101,32,107,105,110,100,32,116,105,101,32,115,97,121]
noncomputable abbrev du:Tx:=[107,105,110,100,32]
noncomputable abbrev dn:Tx:=[115,111,109,101]
noncomputable abbrev lE:Tx:=[116,101,108,108,32,97,32,115,97,121,32,115,111,109,101,32]
abbrev eZ:Tx:=[116,117,114,110,101,100]
noncomputable abbrev eP:Tx:=[116,104,101,111,114,121]
abbrev dC:Tx:=[116,101,108,108]
abbrev o4:Tx:=[97,98,99,100,101,102,103,104,105,106,107,108,109,110,111,112,113,114,115,116,117,118,119,120,121,122]
noncomputable abbrev eD:Tx:=[32,105,110,32,126]
abbrev fO:Tx:=[59,32,116,105,101,32]
abbrev eR:Tx:=[108,101,97,115,116]
noncomputable abbrev kr:Tx:=[59,32,115,97,121,32,115,111,109,101,32]
abbrev fK:Tx:=[119,111,114,108,100]
abbrev J2:Tx:=[115,97,109,101]
noncomputable abbrev kX:Tx:=[116,101,108,108,32,97,32,115,97,121,32]
abbrev lY:Tx:=[116,101,108,108,32,113,32,107,105,110,100,32]
abbrev gu:Tx:=[115,104,111,119,32]
abbrev gx:Tx:=[116,105,101,32,112]
abbrev ZA:Tx:=[105,110]
noncomputable abbrev gX:Tx:=[107,101,101,112,115]
noncomputable abbrev rY:Tx:=[116,101,108,108,32,97,32,115,97,121,32,32,115,111,109,101,32,32,40]
abbrev hA:Tx:=[115,111,109,101,32]
noncomputable abbrev zH:Tx:=[111,107]
abbrev gw:Tx:=[107,105,110,100]
abbrev gr:Tx:=[115,104,111,119]
abbrev eV:Tx:=[110,111,116]
abbrev mX:Tx:=[116,101,108,108,32,97,32,107,105,110,100,32]
abbrev gW:Tx:=[110,111,110,101]
abbrev gJ:Tx:=[109,111,115,116]
noncomputable abbrev uc:Tx:=[116,101,108,108,32,102,117,108,108,116,101,120,116,32,115,97,121,32,110,111,32,112]
noncomputable abbrev iR:Tx:=[116,101,108,108,32]
abbrev hX:Tx:=[115,105,122,101]
noncomputable abbrev Bd:Tx:=[116,101,108,108,32,97,32,115,97,121,32,108,101,97,115,116,32,49,48,48,32]
noncomputable abbrev oD:Tx:=[116,101,108,108,32,111,32,116,105,101,32,112]
noncomputable abbrev n4:Tx:=[115,97,121,32,115,111,109,101,32]
abbrev gI:Tx:=[116,105,101]
noncomputable abbrev iX:Tx:=[110,97,109,101]
abbrev nM:Tx:=[108,101,116,116,101,114]
abbrev nS:Tx:=[102,105,103,117,114,101]
noncomputable abbrev AM:Tx:=[116,101,108,108,32,97,32,32,115,97,121,32,115,111,109,101,32]
noncomputable abbrev mN:Tx:=[98,114,111,107,101,110]
abbrev l0:Tx:=[115,104,111,119,32,113]
abbrev fH:Tx:=[110,111]
abbrev mE:Tx:=[98,108,97,110,107]
abbrev ic:Tx:=[97,110,100]
abbrev ib:Tx:=[115,97,121]
noncomputable abbrev y6:Tx:=[115,111,109,101,32,97,98,99,100,101,102,103,104,105]
noncomputable abbrev p6:Tx:=[115,97,109,101,32,97,32,113,32,49]
abbrev mu:Tx:=[59,32,115,97,121,32]
abbrev mm:Tx:=[98,101,103,105,110]
abbrev pY:Tx:=[48,49,50,51,52,53,54,55,56,57]
noncomputable abbrev mZ:Tx:=[115,104,111,119,32,97]
noncomputable abbrev vM:Tx:=[116,101,108,108,32,101,32,116,105,101,32,113]
noncomputable abbrev rn:Tx:=[102,105,110,100,32,113,32,49]
noncomputable abbrev oK:Tx:=[32,115,111,109,101,32,32,40]
abbrev l8:Tx:=[100,114,111,112]
noncomputable abbrev kv:Tx:=[97,108,108]
abbrev yE:Tx:=[116,101,108,108,32,113,32,116,105,101,32]
abbrev yB:Tx:=[116,101,108,108,32,97,32,116,105,101,32]
abbrev ij:Tx:=[111,114]
abbrev nX:Tx:=[101,113,117,97,108]
noncomputable abbrev nT:Tx:=[112,97,112,101,114]
abbrev mC:Tx:=[116,105,101,32]
abbrev oP:Tx:=[106,111,105,110,101,100]
abbrev mO:Tx:=[101,97,99,104]
abbrev l5:Tx:=[115,97,121,32]
abbrev r6:Tx:=[99,108,111,115,101,100]
abbrev rL:Tx:=[100,114,111,112,32,113]
abbrev pS:Tx:=[115,104,111,119,32,101]
abbrev AE:Tx:=[43,45,38,46,126,94,40,41,91,93,61]
noncomputable abbrev yP:Tx:=[108,101,97,115,116,32,49,48,48,32]
abbrev m7:Tx:=[112,108,117,115]
abbrev nQ:Tx:=[108,101,115,115]
noncomputable abbrev AN:Tx:=[101,97,99,104,108,101,97,115,116]
noncomputable abbrev um:Tx:=[99,111,117,110,116,32,111,32,51]
noncomputable abbrev tm:Tx:=[102,117,108,108,116,101,120,116]
abbrev lV:Tx:=[97,111,101]
abbrev S.r (c x:E):S:=.p c (.j (.j x) .p) .p
noncomputable abbrev E.v0:E:=.a0 0
open M renaming E.v0->Lake.M.E.B
abbrev E.v1:E:=.a0 1
open M renaming E.v1->Lake.M.E.G
abbrev E.v2:E:=.a0 2
open M renaming E.v2->Lake.M.E.L
noncomputable abbrev E.v3:E:=.a0 3
open M renaming E.v3->Lake.M.E.Z
abbrev E.v4:E:=.a0 4
abbrev E.v5:E:=.a0 5
noncomputable abbrev E.v6:E:=.a0 6
abbrev E.v7:E:=.a0 7
abbrev E.v8:E:=.a0 8
abbrev E.v9:E:=.a0 9
abbrev E.i0:E:=.u 0
abbrev E.i1:E:=.u 1
abbrev E.i2:E:=.u 2
abbrev E.i3:E:=.u 3
abbrev E.i4:E:=.u 4
abbrev Es.a (x:E):Es:=.j x .p
abbrev Es.b (x y:E):Es:=.j x<|.j y .p
abbrev Es.c (x y z:E):Es:=.j x<|.j y<|.j z .p
noncomputable abbrev Es.d (x y z u:E):Es:=.j x<|.j y<|.j z<|.j u .p
noncomputable abbrev Es.f (x y z u v:E):Es:=.j x<|.j y<|.j z<|.j u<|.j v .p
noncomputable abbrev Es.g (x y z u v w:E):Es:=.j x<|.j y<|.j z<|.j u<|.j v<|.j w .p
noncomputable abbrev Ss.a (x:S):Ss:=.j x .p
noncomputable abbrev Ss.b (x y:S):Ss:=.j x<|.j y .p
abbrev Ss.c (x y z:S):Ss:=.j x<|.j y<|.j z .p
noncomputable abbrev Ss.d (x y z u:S):Ss:=.j x<|.j y<|.j z<|.j u .p
noncomputable abbrev Ss.f (x y z u v:S):Ss:=.j x<|.j y<|.j z<|.j u<|.j v .p
noncomputable abbrev Ss.g (x y z u v w:S):Ss:=.j x<|.j y<|.j z<|.j u<|.j v<|.j w .p
noncomputable abbrev Ss.k (x y z u v w a b:S):Ss:=.j x<|.j y<|.j z<|.j u<|.j v<|.j w<|.j a<|.j b .p
noncomputable abbrev Ss.m (x y z u v w a b c:S):Ss:=.j x<|.j y<|.j z<|.j u<|.j v<|.j w<|.j a<|.j b<|.j c .p
noncomputable abbrev Ss.q (x y z u v w a b c d e f g:S):Ss:=.j x<|.j y<|.j z<|.j u<|.j v<|.j w<|.j a<|.j b<|.j c<|.j d<|.j e<|.j f<|.j g .p
def Sb:Fn:=⟨1,1,.a<|.j<|.and (.dR .B .int)<|.a1<|.dR .B .bool⟩
def L9:Fn:=⟨2,2,.a<|.j<|.and (.j "is_whole"<|.a .B)<|.chain .le .lt .i0 .B .G⟩
def xH:E:=.M [0] k9 1 [] (.j .B) y9 (.K k9)<|.C .p .B<|.X "FIGURES"
noncomputable def qW:Fn:=⟨2,2,.b (.r (.or (.a1<|.chain .le .le .i1 (.bi .j<|.a .B) .G)<|.a1<|.bi .T<|.a xH)<|.K y9)<|.j<|.or (.C .j .B<|.o [48])<|.a1<|.cW .starts .B<|.a<|.o [48]⟩
noncomputable def zW:E:=.M [0] k9 1 [1,0] (.aA<|.y .p .B .B) k9 (.y .y (.y .shr .G .B) .i1)<|.bi .divmod<|.b .B .L
def CB:Fn:=⟨2,2,.a<|.j zW⟩
def xm:Ss:=.a<|.w 2<|.y .bor .L<|.y .shl .i1<|.y .j (.y .p .Z .B) .v4
def xx:Fn:=⟨2,5,.c (.w 2 .i0) (.for [3,4] y9 (.j .G) xm)<|.j .L⟩
def CQ:Fn:=⟨2,2,.a<|.j<|.y .y .B<|.inv .G⟩
def NV:E:=.M [0,1] false 2 [] (.j<|.j "pairs_of"<|.b .B .G) false (.K true)<|.p<|.b .G .B
def Fq:Fn:=⟨2,2,.a<|.j<|.j "gathered"<|.b .B NV⟩
def EL:Fn:=⟨1,1,.a<|.j<|.y .sub (.y .shl .i1<|.y .p .B .B) .i1⟩
noncomputable def ZG:Fn:=⟨3,3,.d (.r (.C .p .L<|.N .B .i1)<|.N (.N .G .i2)<|.cW .index (.N .B .i1)<|.a .L) .y .y .y⟩
def Cy:Fn:=⟨3,3,.m (.p (.C .j .G<|.o J2) (.a .y) .p) (.p (.C .j .G<|.o kv) (.a .y) .p) (.p (.C .j .G<|.o gW) (.a .y) .p) (.p (.C .j .G<|.o m7) (.a .y) .p) (.p (.C .j .G<|.o nQ) (.a .y) .p) (.p (.C .j .G<|.o [98,111,116,104]) (.a .y) .p) (.p (.C .j .G<|.o oP) (.a .y) .p) (.r (.C .j .G<|.o eZ)<|.j "turned"<|.b .B<|.N .L .i0) .y⟩
def J1:E:=.M [0] k9 1 [0,1] (.j<|.fT .L .i1) y9 (.K k9)<|.j "value"<|.c .G .L .B
def x8:Fn:=⟨3,4,.c (.r (.C .j (.N .L .i0)<|.o iX)<|.j "value_of_name"<|.c .B .G<|.N .L .i1) (.w 3 J1)<|.j<|.j "made"<|.c (.N .G .i0) (.N .L .i0) .Z⟩
def Du:Fn:=⟨3,4,.d (.w 3<|.j "pairs_of"<|.b .B .L) (.r (.C .p .G<|.p<|.b (.o eR)<|.o gJ)<|.w<|.a<|.bi .j<|.a .Z) .y .y⟩
def qP:Fn:=⟨3,4,.m (.w 3<|.N .L .i0) (.p (.C .j .Z<|.o eV) (.a .y) .p) (.p (.C .j .Z<|.o ic) (.a .y) .p) (.p (.C .j .Z<|.o ij) (.a .y) .p) (.r (.C .j .Z<|.o ZA)<|.C .j (.j "without"<|.b (.j "value"<|.c .B .G<|.N .L .i1)<|.j "value"<|.c .B .G<|.N .L .i2) .i0) (.p (.C .j .Z<|.o nX) (.a .y) .p) (.r (.C .j .Z<|.o dn)<|.C .w (.j "value"<|.c .B .G<|.N .L .i1) .i0) (.r (.C .j .Z<|.o fH)<|.C .j (.j "value"<|.c .B .G<|.N .L .i1) .i0) .y⟩
def zf:Ss:=.a<|.r (.a1<|.j "keeps"<|.c .B .G .v4) .Z
def Zp:Fn:=⟨3,5,.b (.for [3,4] y9 (.enum .L) zf)<|.j .T⟩
def HI:Fn:=⟨3,5,.k (.w 3<|.N .L .i0) (.p (.C .j .Z<|.o iX) (.b (.w 4<|.N .L .i1)<|.j<|.p<|.b (.j "value_of_name"<|.c .B (.N .G .i0) .v4)<|.j "value_of_name"<|.c .B (.N .G .i1) .v4) .p) .y .y .y .y .y .y⟩
def OP:Fn:=⟨2,2,.c (.r .B<|.K k9) (.r .G<|.K y9)<|.j .T⟩
def M9:Fn:=⟨1,1,.a<|.j<|.j "settled"<|.b (.C .kJ .B<|.K false)<|.C .kJ .B<|.K true⟩
def JI:E:=.M [0] k9 1 [2] (.j .v5) y9 (.K k9)<|.C .le .B .G
def QI:E:=.M [0] k9 1 [2] (.j .v4) y9 (.K k9)<|.C .gt .B .G
def qI:E:=.M [0] k9 1 [2] (.j .v4) y9 (.K k9)<|.C .ge .B .G
def XI:E:=.M [0] k9 1 [2] (.j .v5) y9 (.K k9)<|.C .lt .B .G
def XT:Fn:=⟨4,6,.d (.w 4<|.j "counts"<|.c .B .G<|.N .Z .i0) (.w 5<|.j "counts"<|.c .B .G<|.N .Z .i1) (.r (.C .p .G<|.p<|.b (.o eR)<|.o AN)<|.j "settled"<|.b (.bi .T<|.a qI)<|.bi .any<|.a XI)<|.j<|.j "settled"<|.b (.bi .T<|.a JI)<|.bi .any<|.a QI⟩
def XZ:Fn:=⟨3,4,.f (.w 3<|.N .L .i0) (.r (.C .j .Z<|.o eV)<|.j "not_told"<|.a<|.j "told"<|.c .B .G<|.N .L .i1) (.p (.C .j .Z<|.o ic) (.a .y) .p) (.p (.C .j .Z<|.o ij) (.a .y) .p)<|.j<|.j "fact_told"<|.c .B .G .L⟩
def jG:Fn:=⟨3,6,.k (.w 3<|.N .L .i0) (.w 4<|.N (.N .G .i0) .i0) (.w 5<|.j "bounds"<|.c .B .G<|.N .L<|.neg .i1) (.r (.C .j .Z<|.o dn)<|.j "count_told"<|.d .v4 (.o eR) .i1 .v5) (.r (.C .j .Z<|.o fH)<|.j "count_told"<|.d .v4 (.o gJ) .i0 .v5) .y .y .y⟩
def FG:Fn:=⟨1,1,.a<|.j<|.j "is_below"<|.b .B<|.y .j (.X "GREATEST_SIZE") .i1⟩
def Q7:E:=.M [0] k9 1 [] (.j .B) y9 (.K k9)<|.C .p .B<|.X "LETTERS"
noncomputable def WR:Fn:=⟨1,1,.b (.r (.or (.a1<|.dR .B .str)<|.a1<|.chain .le .le .i1 (.bi .j<|.a .B)<|.X "MOST_LETTERS")<|.K false)<|.j<|.bi .T<|.a Q7⟩
def QW:Fn:=⟨1,1,.a<|.j<|.and (.j "is_word"<|.a .B)<|.C .dP .B<|.X "TAKEN"⟩
def jn:E:=.M [0] k9 1 [] (.j .L) y9 (.K k9)<|.j "is_name"<|.a .B
noncomputable def QL:Fn:=⟨2,3,.f (.w 2<|.y .j (.bi .list<|.a .B)<|.bi .list<|.a .G) (.p (.a1<|.bi .T<|.a jn) (.a<|.C "NoName"<|.a<|.o [97,32,110,97,109,101,32,105,115,32,111,110,101,32,116,111,32,101,105,103,104,116,32,115,109,97,108,108,32,108,101,116,116,101,114,115,32,97,110,100,32,110,111,32,116,97,107,101,110,32,119,111,114,100]) .p) (.p (.C .lt (.dF .L)<|.bi .j<|.a .L) (.a<|.C "NoName"<|.a<|.o [97,32,110,97,109,101,32,105,115,32,116,111,108,100,32,111,110,99,101]) .p) (.p (.or (.C .gt (.bi .j<|.a .B)<|.X "MOST_NAMES")<|.C .gt (.bi .j<|.a .G)<|.X "MOST_NAMES") (.a<|.C "NoName"<|.a<|.o [116,104,101,114,101,32,97,114,101,32,97,116,32,109,111,115,116,32,102,111,117,114,32,107,105,110,100,115,32,97,110,100,32,102,111,117,114,32,116,105,101,115]) .p)<|.j<|.p<|.b (.bi .G<|.j (.c8 .B) .p)<|.bi .G<|.j (.c8 .G) .p⟩
noncomputable def CI:Fn:=⟨2,2,.a<|.j<|.y .j (.y .p (.w<|.a .G)<|.bi .j<|.a<|.N .B .i0)<|.y .p (.w<|.a<|.y .p .G .G)<|.bi .j<|.a<|.N .B .i1⟩
def ML:Fn:=⟨2,2,.a<|.j<|.bi .sum<|.a<|.j "widths"<|.b .B .G⟩
def X1:Fn:=⟨1,1,.a<|.p (.a1<|.j "is_size"<|.a .B) (.a<|.C "NoSize"<|.a<|.o [97,32,115,105,122,101,32,105,115,32,97,32,119,104,111,108,101,32,110,117,109,98,101,114,32,102,114,111,109,32,48,32,116,111,32,52]) .p⟩
def ZZ:Fn:=⟨3,4,.c (.ex<|.j "check_size"<|.a .G) (.w 3<|.j "bits"<|.b .B .G)<|.p (.C .gt .Z .L) (.a<|.bx "TooBig" "bits" .Z) .p⟩
def Dl:Ss:=.b (.w 2<|.y .bor .L<|.y .shl .v5 .Z)<|.w 3<|.y .j .Z .v4
def P2:Fn:=⟨2,6,.d (.w 2 .i0) (.w 3 .i0) (.for [4,5] y9 (.zip (.j "widths"<|.b .B<|.N .G .i0)<|.y .j (.N .G .i1)<|.N .G .i2) Dl)<|.j .L⟩
def j0:Ss:=.b (.app 3<|.y .y .v4<|.y .sub (.y .shl .i1 .v5) .i1)<|.w 4<|.y .shr .v4 .v5
def Li:Fn:=⟨3,7,.j (.ex<|.j "check_size"<|.a .G)<|.g (.p (.a1<|.j "is_below"<|.b .L<|.y .shl .i1<|.j "bits"<|.b .B .G) (.a<|.C "NoCode"<|.a<|.o [97,32,99,111,100,101,32,105,115,32,97,32,119,104,111,108,101,32,110,117,109,98,101,114,32,102,114,111,109,32,48,32,116,111,32,50,32,116,111,32,116,104,101,32,98,105,116,115,32,108,101,115,115,32,49]) .p) (.B 3<|.w .p) (.w 4 .L) (.for [5] true (.j<|.j "widths"<|.b .B .G) j0) (.w 6<|.bi .j<|.a<|.N .B .i0)<|.j<|.p<|.c .G (.bi .G<|.a<|.eC .Z .v6)<|.bi .G<|.a<|.fT .Z .v6⟩
noncomputable def zE:Fn:=⟨2,2,.b (.p (.C .gt (.bi .j<|.a .G)<|.X "MOST_SAYINGS") (.a<|.C "Crowded"<|.a<|.o [97,32,116,104,101,111,114,121,32,104,97,115,32,97,116,32,109,111,115,116,32,116,119,101,108,118,101,32,115,97,121,105,110,103,115]) .p)<|.j<|.p<|.b .B<|.bi .G<|.a .G⟩
def qQ:E:=.M [0,1] false 2 [3] (.j<|.j "pairs_of"<|.b .G<|.j "every"<|.a .G) false (.K true)<|.p<|.c .L .B .G
def zR:Ss:=.a<|.ext 2 qQ
def JO:E:=.M [0] k9 1 [3] (.aA .G) y9 (.K k9)<|.p<|.c .G .B .B
def QQ:Ss:=.a<|.ext 2 JO
noncomputable def Q5:Fn:=⟨2,4,.d (.B 2<|.w .p) (.for [3] k9 (.j<|.N .B .i0) QQ) (.for [3] k9 (.j<|.N .B .i1) zR)<|.j .L⟩
noncomputable def qR:Fn:=⟨3,3,.b (.p (.or (.a1<|.dR .B .tuple)<|.C .w (.bi .j<|.a .B) .L) (.a .y) .p)<|.j<|.and (.dR (.N .B .i0) .str)<|.C .j (.N .B .i0) .G⟩
def Qy:Fn:=⟨3,3,.f (.aZ 0 "Cases" "words"<|.N .G .i0) (.aZ 0 "Cases" "sayings"<|.N .G .i1) (.aZ 0 "Cases" "size" .L) (.b9 0 "Cases" "places"<|.j "places_of"<|.b (.N .G .i0) .L)<|.aZ 0 "Cases" "whole"<|.y .sub (.y .shl .i1<|.bi .j<|.j (.aM .B "Cases" "places") .p) .i1⟩
def Wn:Fn:=⟨2,2,.a<|.j<|.j "world_of"<|.j (.aM .B "Cases" "words")<|.j (.aM .B "Cases" "size")<|.a .G⟩
def Zl:Fn:=⟨4,5,.b (.w 4<|.p<|.j (.aI .B "Cases" "world_of_code" "Cases.world_of_code"<|.a .L)<|.j (.aI .B "Cases" "world_of_code" "Cases.world_of_code"<|.a .Z) .p)<|.j<|.j "told"<|.j (.aM .B "Cases" "words")<|.b .v4<|.N (.aM .B "Cases" "sayings") .G⟩
def jz:Fn:=⟨4,5,.f (.p (.j "is_tuple_of"<|.c .G (.o mN) .i2) (.b (.w 4<|.N .G .i1)<|.j<|.and (.j "is_below"<|.b .v4<|.bi .j<|.j (.aM .B "Cases" "sayings") .p)<|.C .kJ (.aI .B "Cases" "truth" "Cases.truth"<|.c .v4 .L .Z)<|.K false) .p) .y .y .y .y⟩
def XU:Ss:=.a<|.p (.dR .L .tuple) (.a<|.ext 1<|.j "names_in"<|.a .L) .p
noncomputable def Ni:Fn:=⟨1,3,.d (.r (.C .j (.N .B .i0)<|.o iX)<|.w<|.a<|.N .B .i1) (.B 1<|.w .p) (.for [2] k9 (.j<|.fT .B .i1) XU)<|.j .G⟩
def wC:Ss:=.a<|.p (.C .p (.N .v5 .i0) .L) (.a<|.w 3<|.y .bor .Z<|.y .shl .i1 .v4) .p
def QM:Fn:=⟨2,6,.d (.w 2<|.j "names_in"<|.a .G) (.w 3 .i0) (.for [4,5] false (.enum<|.aM .B "Cases" "places") wC)<|.j .Z⟩
def Wy:E:=.C .gt .B .i0
def Zz:Ss:=.b (.w 0<|.y .y .B<|.y .sub .B .i1)<|.w 1<|.y .j .G .i1
def QH:Fn:=⟨1,2,.c (.w 1 .i0) (.fm 100000 Wy Zz)<|.j .G⟩
def Xp:E:=.M [0] k9 1 [0] (.j<|.N .G .i1) y9 (.K k9)<|.j "needed_bits"<|.j (.aM .G "Search" "cases")<|.a .B
def Jx:Fn:=⟨3,3,.b (.aZ 0 "Search" "cases"<|.make "Cases" "Cases.__init__"<|.b .G .L)<|.b9 0 "Search" "needs" Xp⟩
noncomputable def wc:Fn:=⟨2,2,.a<|.j<|.aI .B "Search" "told_of_case" "Search.told_of_case"<|.j .G<|.j .i0<|.j (.aM (.aM .B "Search" "cases") "Cases" "whole") .p⟩
noncomputable def Ql:E:=.M [0] k9 1 [0,3,2] (.j .G) y9 (.K k9)<|.y .y (.y .y (.N (.aM .G "Search" "needs") .B) .L)<|.inv .Z
def xn:Fn:=⟨4,6,.c (.w 4 Ql) (.w 5<|.fi "how_many_set" .v4)<|.j<|.y .sub (.fe<|.y .y .v5<|.neg .v5) .i1⟩
noncomputable def Xc:Ss:=.c (.w 6<|.aI (.aM .B "Search" "cases") "Cases" "truth" "Cases.truth"<|.c .v5 .L .Z) (.r (.C .kJ .v6<|.K false)<|.p<|.b (.o nT)<|.p<|.b (.o mN) .v5)<|.p (.eT false .v6) (.a<|.app 4 .v5) .p
def Xd:Fn:=⟨4,7,.d (.B 4<|.w .p) (.for [5] k9 (.j .G) Xc) (.r (.C .j .v4<|.w .p)<|.p<|.j (.o fK)<|.j (.aI (.aM .B "Search" "cases") "Cases" "world_of_code" "Cases.world_of_code"<|.a .L) .p)<|.j<|.aI .B "Search" "told_of_halves" "Search.told_of_halves"<|.c .v4 .L .Z⟩
noncomputable def xk:Fn:=⟨4,11,.k (.w 4<|.aI .B "Search" "chosen_place" "Search.chosen_place"<|.c .G .L .Z) (.w 5<|.y .shl .i1 .v4) (.w 6<|.aI .B "Search" "told_of_case" "Search.told_of_case"<|.c .G (.y .bor .L .v5) .Z) (.r (.or (.C .j (.N .v6 .i0)<|.o fK)<|.aI (.aM .B "Search" "cases") "Cases" "is_shown" "Cases.is_shown"<|.c (.N .v6 .i1) .L .Z) .v6) (.w 7<|.aI .B "Search" "told_of_case" "Search.told_of_case"<|.c .G .L<|.y .y .Z<|.inv .v5) (.r (.C .j (.N .v7 .i0)<|.o fK) .v7) (.dw [8,9,10]<|.N (.aM (.aM .B "Search" "cases") "Cases" "places") .v4)<|.j<|.p<|.b (.o nT)<|.p<|.g (.o [115,112,108,105,116]) .v8 .v9 (.a0 10) (.N .v6 .i1)<|.N .v7 .i1⟩
def AW:Fn:=⟨2,2,.b (.ex<|.j "check_bits"<|.c (.N .B .i0) .G<|.X "MOST_BITS")<|.j<|.aI (.make "Search" "Search.__init__"<|.b .B .G) "Search" "told_of_sayings" "Search.told_of_sayings"<|.a<|.bY<|.bi .j<|.a<|.N .B .i1⟩
def jS:Ss:=.c (.dw [4,5]<|.j "found"<|.b .B .Z) (.r (.C .j .v4<|.o fK)<|.p<|.b .v5 .L)<|.fP .L .v5
def Lp:Fn:=⟨2,6,.j (.ex<|.j "check_bits"<|.c (.N .B .i0) .G<|.X "MOST_BITS")<|.j (.B 2<|.share<|.w .p)<|.j (.for [3] true (.aA<|.y .j .G .i1) jS)<|.a<|.bx "NoWorld" "papers" .L⟩
noncomputable def XR:Fn:=⟨1,1,.a<|.p (.C .ge (.bi .j<|.a<|.N .B .i1)<|.X "MOST_SAYINGS") (.a<|.C "Crowded"<|.a<|.o [97,32,116,104,101,111,114,121,32,111,102,32,116,119,101,108,118,101,32,115,97,121,105,110,103,115,32,104,97,115,32,110,111,32,114,111,111,109,32,102,111,114,32,111,110,101,32,109,111,114,101]) .p⟩
def qS:Fn:=⟨3,5,.d (.dw [3,4] .B) (.ex<|.j "check_bits"<|.c .Z .G<|.X "MOST_BITS") (.ex<|.j "check_room"<|.a .B)<|.j<|.j "found"<|.b (.p<|.b .Z<|.y .j .v4<|.p<|.a<|.p<|.b (.o eV) .L) .G⟩
def OJ:Fn:=⟨3,6,.d (.dw [3,4] .B) (.p (.a1<|.j "is_below"<|.b .L<|.bi .j<|.a .v4) (.a<|.bx "NoNumber" "number" .L) .p) (.w 5<|.y .j (.eC .v4 .L)<|.fT .v4<|.y .j .L .i1)<|.j<|.j "found"<|.b (.p<|.b .Z<|.y .j .v5<|.p<|.a<|.p<|.b (.o eV)<|.N .v4 .L) .G⟩
def zi:Ss:=.c (.dw [9,10]<|.j "follows"<|.c (.N .Z<|.y .sub .i1 .v6) .v5 .v8) (.r (.C .j .v9<|.o fK)<|.p<|.c (.o fK) (.a0 10)<|.y .sub .i1 .v6) .y
def Wu:Ss:=.a<|.for [7,8] y9 (.enum<|.N (.N .Z .v6) .i1) zi
def Zu:Ss:=.a<|.for [6] k9 (.aA .i2) Wu
def a9:Fn:=⟨3,11,.k (.p (.C .w (.N .B .i0)<|.N .G .i0) (.a<|.C "Unlike"<|.a<|.o [116,104,101,111,114,105,101,115,32,111,102,32,116,104,101,32,115,97,109,101,32,119,111,114,100,115,32,97,114,101,32,104,101,108,100,32,97,103,97,105,110,115,116,32,111,110,101,32,97,110,111,116,104,101,114]) .p) (.ex<|.j "check_bits"<|.c (.N .B .i0) .L<|.X "MOST_BITS") (.ex<|.j "check_room"<|.a .B) (.ex<|.j "check_room"<|.a .G) (.w 3<|.p<|.b .B .G) (.B 4<|.share<|.w .p) (.for [5] true (.aA<|.y .j .L .i1) Zu) .y⟩
def jw:E:=.M [0] k9 1 [3] (.aA .G) k9 (.C .dP .B .G)<|.y .j .G<|.p<|.a .B
def xw:Ss:=.a<|.ext 2 jw
def QG:Fn:=⟨2,4,.c (.B 2<|.w .p) (.for [3] k9 (.j .B) xw)<|.j .L⟩
def xQ:Ss:=.a<|.B 1<|.j "longer_by_one"<|.b .G .B
def J8:Fn:=⟨1,3,.d (.ex<|.j "check_size"<|.a .B) (.B 1<|.w<|.a<|.p .p) (.for [2] true (.aA .B) xQ)<|.j .G⟩
def qF:E:=.M [0] k9 1 [1] (.j .B) y9 (.K k9)<|.j "is_below"<|.b .B .G
noncomputable def WQ:Fn:=⟨2,2,.b (.p (.or (.a1<|.dR .B .tuple)<|.C .w (.bi .j<|.a .B) .G) (.a .y) .p)<|.j<|.and (.bi .T<|.a qF)<|.C .j (.cO .B) .G⟩
def qz:Ss:=.a<|.p (.y .y (.y .shr .B .Z) .i1) (.a<|.w 2<|.y .bor .L<|.y .shl .i1 .v4) .p
def qJ:Fn:=⟨2,5,.c (.w 2 .i0) (.for [3,4] y9 (.enum .G) qz)<|.j .L⟩
def Xn:E:=.M [0,1] false 2 [1] (.j<|.j "pairs_of"<|.b .L .B) false (.K true)<|.p<|.b (.N .L .B)<|.N .L .G
def Jk:Fn:=⟨2,3,.b (.w 2<|.bi .j<|.a .G)<|.j<|.j "gathered"<|.b .L Xn⟩
def X6:E:=.M [0] k9 1 [2] (.j .v5) y9 (.K k9)<|.j "renamed_tie"<|.b .B .G
def W8:E:=.M [0] k9 1 [2] (.j .v4) y9 (.K k9)<|.j "renamed_kind"<|.b .B .G
def MT:Fn:=⟨3,8,.f (.dw [3,4,5] .G) (.p (.a1<|.j "is_renaming"<|.b .L .Z) (.a .y) .p) (.w 6<|.bi .G<|.a W8) (.w 7<|.bi .G<|.a X6)<|.j<|.p<|.c .Z .v6 .v7⟩
def QF:E:=.M [0] true 1 [0,1] (.j<|.j "renamings"<|.a<|.N .G .i0) false (.K true)<|.j "code"<|.b .G<|.j "renamed"<|.c .G .L .B
def QO:Fn:=⟨2,2,.a<|.j QF⟩
def LH:Fn:=⟨2,2,.a<|.j<|.j "world_of"<|.c .B (.N .G .i0)<|.bi .min<|.a<|.j "codes_alike"<|.b .B .G⟩
def wH:E:=.M [0] true 1 [0,1] (.j<|.j "renamings"<|.a<|.N .G .i0) true (.C .j (.j "renamed"<|.c .G .L .B) .L) .B
def zS:Fn:=⟨2,2,.a<|.j wH⟩
def zk:Ss:=.j (.ef 2 .v6) .p
def zh:Ss:=.a<|.p (.cQ true .v4 2) (.c (.w 5<|.j "world_of"<|.c .B .G .v4) (.app 3 .v5)<|.for [6] true (.j<|.j "codes_alike"<|.b .B .v5) zk) .p
def Wq:Fn:=⟨2,7,.d (.B 2 .dH) (.B 3<|.w .p) (.for [4] k9 (.aA<|.y .shl .i1<|.j "bits"<|.b .B .G) zh)<|.j .Z⟩
def FK:E:=.M [0] true 1 [2,3] (.j<|.j "all_forms"<|.b .L .G) true (.eT false<|.j "first_broken"<|.c .G .B .L) .B
def HY:Fn:=⟨2,4,.c (.dw [2,3] .B) (.ex<|.j "check_bits"<|.c .L .G<|.X "MOST_LISTED_BITS")<|.j FK⟩
def XS:E:=.M [0] k9 1 [3,0] (.j .L) y9 (.K k9)<|.y .fdiv .G<|.bi .j<|.a<|.j "likenesses"<|.b (.N .L .i0) .B
def Om:Fn:=⟨2,4,.c (.w 2<|.j "unlike"<|.b .B .G) (.w 3<|.bi .j<|.a<|.j "renamings"<|.a .G)<|.j<|.bi .sum<|.a XS⟩
def Hk:Fn:=⟨2,2,.b (.r (.C .j (.N .B .i0)<|.o mN)<|.C .j (.N .B .i1) .G)<|.j<|.or (.j "uses"<|.b (.N .B .i4) .G)<|.j "uses"<|.b (.N .B<|.u 5) .G⟩
def EG:E:=.M [0] k9 1 [0] (.j .G) k9 (.j "uses"<|.b .G .B) .B
def PU:Fn:=⟨2,2,.a<|.j EG⟩
def wU:Fn:=⟨2,2,.b (.r (.C .j (.N .B .i0)<|.o mN)<|.p<|.b (.o mN)<|.cW .dh .G<|.a<|.N .B .i1)<|.j<|.y .j (.eC .B .i4)<|.p<|.b (.j "renumbered"<|.b (.N .B .i4) .G)<|.j "renumbered"<|.b (.N .B<|.u 5) .G⟩
def qY:E:=.C .lt (.bi .j<|.a .Z)<|.bi .j<|.a .G
noncomputable def JZ:Ss:=.c (.w 4<|.bi .j<|.a .Z) (.dw [5,6]<|.aI .B "Search" "told_of_sayings" "Search.told_of_sayings"<|.a<|.y .j (.eC .G .v4)<|.fT .G<|.y .j .v4 .i1)<|.p (.C .j .v5<|.o fK) (.a<|.fP .Z .v6)<|.b .y .y
def FW:Fn:=⟨3,7,.c (.B 3<|.share<|.w .p) (.fm 100000 qY JZ)<|.j<|.p<|.c .G (.j "renumbered"<|.b .L .G) .Z⟩
def MN:Fn:=⟨2,6,.g (.ex<|.j "check_bits"<|.c (.N .B .i0) .G<|.X "MOST_BITS") (.w 2<|.make "Search" "Search.__init__"<|.b .B .G) (.B 3<|.bY<|.bi .j<|.a<|.N .B .i1) (.dw [4,5]<|.aI .L "Search" "told_of_sayings" "Search.told_of_sayings"<|.a .Z) (.p (.C .j .v4<|.o fK) (.a .y) .p)<|.j<|.j "narrowed"<|.j .L<|.j (.cS<|.j "used"<|.b .v5 .Z)<|.a .v5⟩
noncomputable def jj:Fn:=⟨1,1,.j (.r (.C .p .B<|.X "LETTERS")<|.o nM)<|.j (.r (.C .p .B<|.X "FIGURES")<|.o nS)<|.j (.r (.C .p .B<|.X "SINGLE_SIGNS")<|.o [115,105,110,103,108,101])<|.j (.r (.C .j .B<|.o [32])<|.o mE)<|.a<|.bx "NoText" "row" .T⟩
def wf:Ss:=.c (.w 4<|.j "sort_of_sign"<|.a .Z) (.p (.and (.C .j .v4 .L)<|.C .p .v4<|.p<|.b (.o nM)<|.o nS) (.a<|.d7 1 (.neg .i1)<|.y .j (.N .G<|.neg .i1) .Z)<|.a<|.p (.C .w .v4<|.o mE) (.a<|.app 1 .Z) .p)<|.w 2 .v4
def Jw:Fn:=⟨1,5,.d (.B 1<|.w .p) (.w 2<|.o mE) (.for [3] k9 (.j .B) wf)<|.j .G⟩
def wy:Fn:=⟨1,1,.b (.p (.C .j .B<|.X "MOST_WITHIN") (.a .y) .p)<|.j<|.y .j .B .i1⟩
noncomputable def Zv:Fn:=⟨3,3,.c (.aZ 0 "Reader" "names"<|.y .j (.N .G .i0)<|.N .G .i1) (.aZ 0 "Reader" "signs" .L)<|.aZ 0 "Reader" "place" .i0⟩
noncomputable def Xs:Fn:=⟨1,1,.b (.r (.C .lt (.aM .B "Reader" "place")<|.bi .j<|.j (.aM .B "Reader" "signs") .p)<|.N (.aM .B "Reader" "signs")<|.aM .B "Reader" "place")<|.j<|.o []⟩
noncomputable def wu:Fn:=⟨1,2,.c (.w 1<|.aI .B "Reader" "here" "Reader.here" .p) (.aZ 0 "Reader" "place"<|.y .j (.aM .B "Reader" "place") .i1)<|.j .G⟩
def Xi:Fn:=⟨2,2,.a<|.p (.C .w (.aI .B "Reader" "take" "Reader.take" .p) .G) (.a .y) .p⟩
def Jv:E:=.C .j (.aI .B "Reader" "here" "Reader.here" .p)<|.o ij
def zw:Ss:=.b .y .y
def jE:Fn:=⟨2,3,.c (.w 2<|.aI .B "Reader" "part" "Reader.part"<|.a .G) (.fm 100000 Jv zw)<|.j .L⟩
def qE:E:=.C .j (.aI .B "Reader" "here" "Reader.here" .p)<|.o ic
def XE:Ss:=.b .y .y
def ZM:Fn:=⟨2,3,.c (.w 2<|.aI .B "Reader" "unit" "Reader.unit"<|.a .G) (.fm 100000 qE XE)<|.j .L⟩
noncomputable def Wt:Fn:=⟨2,2,.c (.p (.C .j (.aI .B "Reader" "here" "Reader.here" .p)<|.o eV) (.b .y .y) .p) (.p (.C .j (.aI .B "Reader" "here" "Reader.here" .p)<|.o [91]) (.d .y .y .y .y) .p)<|.j<|.aI .B "Reader" "fact" "Reader.fact"<|.a .G⟩
noncomputable def cu:Fn:=⟨2,3,.f (.w 2<|.aI .B "Reader" "here" "Reader.here" .p) (.p (.C .p .L<|.p<|.b (.o dn)<|.o fH) (.b (.ex<|.aI .B "Reader" "take" "Reader.take" .p)<|.j<|.p<|.j .L<|.j (.aI .B "Reader" "expression" "Reader.expression"<|.a .G) .p) .p) (.r (.C .p .L<|.p<|.b (.o eR)<|.o gJ)<|.aI .B "Reader" "count_fact" "Reader.count_fact"<|.b (.o []) .G) (.p (.C .j .L<|.o mO) (.b .y .y) .p)<|.j<|.aI .B "Reader" "pair_fact" "Reader.pair_fact"<|.a .G⟩
noncomputable def Wr:Fn:=⟨3,5,.d (.w 3<|.aI .B "Reader" "take" "Reader.take" .p) (.p (.C .dP .Z<|.p<|.b (.o eR)<|.o gJ) (.a .y) .p) (.w 4<|.aI .B "Reader" "limit" "Reader.limit" .p) .y⟩
def zJ:Fn:=⟨1,2,.c (.w 1<|.aI .B "Reader" "take" "Reader.take" .p) (.p (.a1<|.j "is_written"<|.b .G<|.X "MOST_FIGURES_reading") (.a<|.bx "NoText" "row" .T) .p) .y⟩
noncomputable def Qd:Fn:=⟨2,4,.d (.w 2<|.aI .B "Reader" "expression" "Reader.expression"<|.a .G) (.w 3<|.aI .B "Reader" "take" "Reader.take" .p) (.p (.C .dP .Z<|.p<|.b (.o ZA)<|.o [61]) (.a<|.bx "NoText" "row" .T) .p)<|.j<|.p<|.j (.gp "SORTS" .Z)<|.j .L<|.j (.aI .B "Reader" "expression" "Reader.expression"<|.a .G) .p⟩
def xg:E:=.C .p (.aI .B "Reader" "here" "Reader.here" .p)<|.p<|.b (.o [43])<|.o [45]
def Qm:Ss:=.b .y .y
def Jq:Fn:=⟨2,3,.c (.w 2<|.aI .B "Reader" "term" "Reader.term"<|.a .G) (.fm 100000 xg Qm)<|.j .L⟩
def jD:E:=.C .j (.aI .B "Reader" "here" "Reader.here" .p)<|.o [38]
def WE:Ss:=.b .y .y
def JM:Fn:=⟨2,3,.c (.w 2<|.aI .B "Reader" "factor" "Reader.factor"<|.a .G) (.fm 100000 jD WE)<|.j .L⟩
def zy:E:=.C .j (.aI .B "Reader" "here" "Reader.here" .p)<|.o [46]
def qy:Ss:=.b .y .y
def jF:Fn:=⟨2,3,.c (.w 2<|.aI .B "Reader" "atom" "Reader.atom"<|.a .G) (.fm 100000 zy qy)<|.j .L⟩
def cq:Fn:=⟨2,4,.j (.w 2<|.aI .B "Reader" "take" "Reader.take" .p)<|.j (.r (.C .p .L<|.p<|.b (.o [126])<|.o [94])<|.p<|.j (.gp "SORTS" .L)<|.j (.aI .B "Reader" "atom" "Reader.atom"<|.a<|.j "one_deeper"<|.a .G) .p)<|.j (.p (.C .j .L<|.o [40]) (.c (.w 3<|.aI .B "Reader" "expression" "Reader.expression"<|.a<|.j "one_deeper"<|.a .G) (.ex<|.aI .B "Reader" "take_just" "Reader.take_just"<|.a<|.o [41])<|.j .Z) .p)<|.j (.p (.C .p .L<|.p<|.c (.o J2) (.o kv)<|.o gW) (.a .y) .p)<|.j (.r (.C .p .L<|.aM .B "Reader" "names")<|.p<|.b (.o iX) .L)<|.a<|.bx "NoText" "row" .T⟩
def Qk:Fn:=⟨2,5,.g (.p (.a1<|.dR .G .str) (.a .y) .p) (.w 2<|.j "signs_of"<|.a .G) (.w 3<|.make "Reader" "Reader.__init__"<|.b .B .L) (.w 4<|.aI .Z "Reader" "saying" "Reader.saying"<|.a .i0) (.p (.C .lt (.aM .Z "Reader" "place")<|.bi .j<|.a .L) (.a<|.bx "NoText" "row" .T) .p)<|.j .v4⟩
def Qo:Fn:=⟨2,3,.c (.w 2<|.j "shown_expression"<|.a .B) (.p (.C .lt (.fE "EXPRESSION_RANKS"<|.b (.N .B .i0)<|.X "ATOM_RANK") .G) (.a .y) .p)<|.j .L⟩
def qi:Fn:=⟨1,3,.m (.w 1<|.N .B .i0) (.r (.C .j .G<|.o iX)<|.N .B .i1) (.p (.C .p .G<|.p<|.c (.o J2) (.o kv)<|.o gW) (.a .y) .p) (.w 2<|.gp "SIGNS" .G) (.r (.C .p .G<|.p<|.b (.o eZ)<|.o r6)<|.y .j .L<|.j "expression_of_rank"<|.b (.N .B .i1)<|.X "ATOM_RANK") .y .y .y .y⟩
def Zi:Fn:=⟨1,4,.g (.w 1<|.gp "WORDS"<|.N .B .i0) (.w 2<|.j "shown_expression"<|.a<|.N .B<|.neg .i1) (.p (.C .p (.N .B .i0)<|.p<|.b (.o ZA)<|.o nX) (.b (.w 3<|.j "shown_expression"<|.a<|.N .B .i1)<|.j<|.dO [.w 3,.p [32],.w 1,.p [32],.w 2]) .p) (.r (.C .p (.N .B .i0)<|.p<|.b (.o dn)<|.o fH)<|.dO [.w 1,.p [32],.w 2]) .y .y⟩
def jg:Fn:=⟨1,2,.d (.w 1<|.N .B .i0) (.p (.C .j .G<|.o eV) (.a .y) .p) (.p (.C .p .G<|.p<|.b (.o ic)<|.o ij) (.d .y .y .y .y) .p)<|.j<|.j "shown_fact"<|.a .B⟩
noncomputable def jZ:Fn:=⟨1,3,.b (.dw [1,2] .B)<|.j<|.y .j (.y .j (.bi .j<|.a<|.N .G .i0)<|.bi .j<|.a<|.N .G .i1)<|.bi .j<|.a .L⟩
def c5:Fn:=⟨2,7,.j (.dw [2,3] .B)<|.j (.p (.a1<|.dR .G .str) (.a .y) .p)<|.j (.dw [4,5,6]<|.cW .part .G<|.a<|.o [32])<|.j (.r (.C .j .v4<|.o ib)<|.j "theory_of"<|.b .L<|.y .j .Z<|.p<|.a<|.j "read_saying"<|.b .L .v6)<|.j (.r (.and (.C .j .v4<|.o gw)<|.C .j .Z<|.p .p)<|.j "theory_of"<|.b (.j "words_of"<|.b (.y .j (.N .L .i0)<|.p<|.a .v6)<|.N .L .i1)<|.p .p)<|.j (.r (.and (.C .j .v4<|.o gI)<|.C .j .Z<|.p .p)<|.j "theory_of"<|.b (.j "words_of"<|.b (.N .L .i0)<|.y .j (.N .L .i1)<|.p<|.a .v6)<|.p .p)<|.a<|.bx "NoText" "row" .T⟩
def qL:Fn:=⟨2,2,.j (.gv "taken" (.b .B .G) "WorldError" "NoText" "row" "rows_taken"<|.a .B) .p⟩
def zm:E:=.M [0] k9 1 [] (.j .L) y9 (.K k9)<|.y .j (.o l5)<|.j "shown_saying"<|.a .B
def Wl:E:=.M [0] k9 1 [] (.j<|.N .G .i1) y9 (.K k9)<|.y .j (.o mC) .B
def Xl:E:=.M [0] k9 1 [] (.j<|.N .G .i0) y9 (.K k9)<|.y .j (.o du) .B
def zp:Fn:=⟨1,4,.f (.dw [1,2] .B) (.B 3 Xl) (.ext 3 Wl) (.ext 3 zm)<|.j .Z⟩
def Ik:Fn:=⟨2,2,.c (.r (.C .j .B<|.o eP)<|.j "is_word"<|.a .G) (.r (.C .j .B<|.o [114,111,119])<|.K true)<|.j<|.j "is_written"<|.b .G<|.gp "MOST_FIGURES_desk" .B⟩
def Qr:Fn:=⟨1,1,.b (.r (.cW .starts .B<|.a<|.o iR)<|.eA k9 .B)<|.j<|.eA y9 .B⟩
def Jy:E:=.M [0,1] y9 2 [] (.zip .L<|.fT .G .i1) y9 (.K k9)<|.j "fits"<|.b .B .G
def xj:Fn:=⟨1,3,.j (.p (.a1<|.dR .B .str) (.a<|.C "NoRow"<|.a<|.o [97,32,114,111,119,32,105,115,32,97,32,116,101,120,116]) .p)<|.g (.w 1<|.j "split_row"<|.a .B) (.p (.iZ true "SHAPES"<|.N .G .i0) (.a<|.C "NoRow"<|.a<|.o [110,111,32,114,111,119,32,98,101,103,105,110,115,32,115,111]) .p) (.w 2<|.gp "SHAPES"<|.N .G .i0) (.p (.C .w (.bi .j<|.a .G)<|.y .j (.bi .j<|.a .L) .i1) (.a<|.C "NoRow"<|.a<|.o [97,32,114,111,119,32,104,97,115,32,97,115,32,109,97,110,121,32,119,111,114,100,115,32,97,115,32,105,116,115,32,102,105,114,115,116,32,111,110,101,32,97,115,107,115,32,102,111,114]) .p) (.p (.a1<|.bi .T<|.a Jy) (.a<|.C "NoRow"<|.a<|.o [101,97,99,104,32,119,111,114,100,32,105,115,32,111,102,32,116,104,101,32,115,111,114,116,32,116,104,97,116,32,105,116,115,32,112,108,97,99,101,32,97,115,107,115,32,102,111,114]) .p)<|.j .G⟩
def WH:Fn:=⟨2,4,.c (.dw [2,3]<|.j "found"<|.b .B .G) (.p (.C .j .L<|.o nT) (.a .y) .p)<|.j<|.cU<|.j "code"<|.b (.N .B .i0) .Z⟩
def ZI:Fn:=⟨2,4,.j (.ft [2,3] "smallest" (.b .B .G) (.cU<|.N .L .i0) "NoWorld" gW) .p⟩
def jI:Fn:=⟨2,4,.c (.w 2<|.j "how_many"<|.b .B .G) (.w 3<|.bi .j<|.a<|.j "unlike"<|.b .B .G)<|.j<|.dO [.w 2,.p [32],.w 3]⟩
def jO:Fn:=⟨3,4,.b (.w 3<|.N .B .i0)<|.j<|.cU<|.j "code"<|.b .Z<|.j "form"<|.b .Z<|.j "world_of"<|.c .Z .G .L⟩
def zj:Fn:=⟨3,6,.d (.dw [3,4] .B) (.w 5<|.j "first_broken"<|.c .Z (.j "world_of"<|.c .Z .G .L) .v4) (.r (.eT false .v5)<|.o [121,101,115])<|.j<|.cU .v5⟩
def xz:Fn:=⟨3,5,.c (.dw [3,4]<|.j "matters"<|.c .B .G .L) (.r (.C .j .Z<|.o nT)<|.o fH)<|.j<|.cU<|.j "code"<|.b (.N .B .i0) .v4⟩
def Xt:E:=.M [0] k9 1 [] (.j .L) y9 (.K k9)<|.cU .B
def wz:Fn:=⟨2,5,.j (.ft [2,3,4] "quarrel" (.b .B .G) (.cW .join (.o [32])<|.a Xt) "Kept" gW) .p⟩
def wk:Fn:=⟨3,7,.g (.w 3<|.j "same_or_parted"<|.c .B .G .L) (.p (.C .j (.N .Z .i0)<|.o J2) (.a .y) .p) (.w 4<|.N .Z .i1) (.w 5<|.N .v4 .i0) (.w 6<|.j "code"<|.b (.N .B .i0) .v4)<|.j<|.dO [.w 5,.p [32],.w 6]⟩
def zz:Fn:=⟨3,3,.d (.r (.C .j .B<|.o [102,105,110,100])<|.j "found_answer"<|.b .G .L) (.r (.C .j .B<|.o eR)<|.j "least_answer"<|.b .G .L) (.r (.C .j .B<|.o [99,111,117,110,116])<|.j "count_answer"<|.b .G .L)<|.j<|.j "quarrel_answer"<|.b .G .L⟩
def zg:Fn:=⟨4,4,.c (.r (.C .j .B<|.o [102,111,114,109])<|.j "form_answer"<|.c .G .L .Z) (.r (.C .j .B<|.o gX)<|.j "keeps_answer"<|.c .G .L .Z)<|.j<|.j "matters_answer"<|.c .G .L .Z⟩
def QE:Fn:=⟨1,1,.a<|.aZ 0 "Desk" "theories" .dA⟩
noncomputable def xG:Fn:=⟨2,2,.b (.p (.eJ k9 .G<|.aM .B "Desk" "theories") (.a<|.C "NoStand"<|.a<|.o [110,111,32,116,104,101,111,114,121,32,115,116,97,110,100,115,32,98,121,32,116,104,101,32,119,111,114,100]) .p)<|.j<|.lh (.aM .B "Desk" "theories") .G⟩
def zd:Fn:=⟨2,4,.g (.w 2<|.j "parts_of_row"<|.a .G) (.p (.C .j (.N .L .i0)<|.o mm) (.j (.dD (.aM .B "Desk" "theories") (.N .L .i1)<|.X "EMPTY")<|.a<|.j<|.o zH) .p) (.w 3<|.aI .B "Desk" "standing" "Desk.standing"<|.a<|.N .L .i1) (.p (.C .j (.N .L .i0)<|.o dC) (.j (.dD (.aM .B "Desk" "theories") (.N .L .i1)<|.j "with_row"<|.b .Z<|.N .L .i2)<|.a<|.j<|.o zH) .p) (.p (.C .j (.N .L .i0)<|.o l8) (.j (.et (.aM .B "Desk" "theories")<|.N .L .i1)<|.a<|.j<|.o zH) .p)<|.j<|.aI .B "Desk" "answer" "Desk.answer"<|.b .L .Z⟩
def Jc:Fn:=⟨3,4,.f (.r (.C .j (.N .G .i0)<|.o gr)<|.cW .join (.o [59,32])<|.a<|.j "shown_theory"<|.a .L) (.r (.C .j (.N .G .i0)<|.o J2)<|.j "same_answer"<|.j .L<|.j (.aI .B "Desk" "standing" "Desk.standing"<|.a<|.N .G .i2)<|.a<|.cm<|.N .G .i3) (.w 3<|.cm<|.N .G .i2) (.r (.C .j (.bi .j<|.a .G) .i3)<|.j "answer_of_size"<|.c (.N .G .i0) .L .Z)<|.j<|.j "answer_of_number"<|.d (.N .G .i0) .L .Z<|.cm<|.N .G .i3⟩
def XG:Fn:=⟨1,1,.a<|.j<|.w<|.c .B .i0<|.bi .sum<|.a<|.eC .B .i1⟩
noncomputable def wK:Fn:=⟨1,1,.c (.bN .B .i1<|.y .j (.N .B .i1) .i1) (.bN .B .i2<|.y .w (.y .j (.y .p (.u 7)<|.N .B .i1)<|.bi .sum<|.a<|.eC (.N .B .i0)<|.u 9)<|.u 16777213)<|.p (.C .lt (.N .B .i1)<|.bi .j<|.a<|.N .B .i0) (.a<|.bN .B .i2<|.N (.N .B .i0)<|.N .B .i1) .p⟩
noncomputable def WL:Fn:=⟨2,3,.c (.p (.a1<|.chain .le .lt .i0 (.N .B .i2)<|.y .pow (.u 10)<|.u 18) (.b (.gC .B .i2 2<|.bi .divmod<|.b (.N .B .i2) .G)<|.j .L) .p) (.bN .B .i2<|.y .w (.y .j (.y .j (.y .p (.N .B .i2)<|.u 742939)<|.y .p (.N .B .i1)<|.u 65063)<|.u 40503)<|.u 16777213)<|.j<|.y .w (.y .fdiv (.y .p (.N .B .i2)<|.y .j (.y .w (.N .B .i2)<|.u 4093)<|.u 7)<|.u 64) .G⟩
def Wg:Ss:=.c (.w 8<|.y .j (.y .j (.eC .v4 .v6)<|.N .L<|.y .w (.y .j .Z<|.y .p (.u 5) .v5)<|.u 26)<|.fT .v4 .v6) (.p (.C .p .v8<|.i8 yl [dn,fH,eR,gJ,mO,ZA,ic,ij,eV,J2,kv,gW,gw,gI,ib]) (.a<|.w 8<|.y .j .v8<|.o [113]) .p)<|.app 7 .v8
def jk:Ss:=.a<|.w 4<|.y .j .v4<|.N .L<|.j "_law_draw"<|.b .B<|.u 26
def Qt:E:=.M [0] k9 1 [2,3] (.aA .G) y9 (.K k9)<|.y .p (.N .G .L)<|.y .j .B .i1
def JD:Fn:=⟨2,9,.m (.w 2<|.o o4) (.w 3<|.j "_law_draw"<|.b .B<|.u 26) (.r (.C .j (.j "_law_draw"<|.b .B .i3) .i0) Qt) (.w 4<|.o []) (.for [5] true (.aA<|.j "_law_draw"<|.b .B<|.u 6) jk) (.w 6<|.j "_law_draw"<|.b .B<|.y .j (.bi .j<|.a .v4) .i1) (.B 7<|.w .p) (.for [5] true (.aA .G) Wg)<|.j .v7⟩
def jN:Fn:=⟨1,2,.f (.w 1<|.w<|.d (.bO .B true ["NoSize"]) (.bO .B true ["NoPair"]) (.bO .B true ["NoName"])<|.bO .B true ["NoCode"]) (.w 1<|.y .j .G<|.w<|.d (.bO .B true ["NoText"]) (.bO .B true ["Crowded"]) (.bO .B true ["TooBig"])<|.bO .B true ["NoWorld"]) (.w 1<|.y .j .G<|.w<|.d (.bO .B true ["NoRenaming"]) (.bO .B true ["NoNumber"]) (.bO .B true ["Broken"])<|.bO .B true ["Kept"]) (.w 1<|.y .j .G<|.w<|.d (.bO .B true ["Unlike"]) (.bO .B true ["NoRow"]) (.bO .B true ["NoStand"])<|.bO .B true ["ValueError"])<|.j .G⟩
def xR:E:=.M [0] k9 1 [0] (.aA<|.u 16) y9 (.K k9)<|.or (.C .j .B .G)<|.C .j .B<|.u 15
def WC:Fn:=⟨1,1,.a<|.j xR⟩
def jl:Fn:=⟨1,2,.j (.w 1<|.w<|.j (.o [])<|.j (.o [32])<|.g (.o mm) (.o [98,101,103,105,110,32,65]) (.o [98,101,103,105,110,32,97,32,98]) (.o [98,101,103,105,110,32,97,98,99,100,101,102,103,104,105]) (.o [98,101,103,105,110,32])<|.o [32,98,101,103,105,110,32,97])<|.j (.w 1<|.y .j .G<|.w<|.j (.o [66,101,103,105,110,32,97])<|.j (.o dC)<|.g (.o [116,101,108,108,32,97]) (.o [116,101,108,108,32,65,32,107,105,110,100,32,98]) (.o [116,101,108,108,32,32,107,105,110,100,32,98]) (.o l8) (.o [100,114,111,112,32,97,32,97])<|.o gr)<|.m (.w 1<|.y .j .G<|.w<|.j (.o [115,104,111,119,32,97,32])<|.g (.o [115,104,111,119,32,65]) (.o [102,105,110,100,32,97]) (.o [102,105,110,100,32,97,32,49,48]) (.o [102,105,110,100,32,97,32,120]) (.o [102,105,110,100,32,97,32,49,32,49])<|.o [102,105,110,100,32,97,32,45,49]) (.w 1<|.y .j .G<|.w<|.j (.o [102,105,110,100,32,97,32])<|.g (.o [102,105,110,100,32,97,32,48,49]) (.o [108,101,97,115,116,32,97]) (.o [108,101,97,115,116,32,97,32,49,32,50]) (.o [108,101,97,115,116,32,49,32,97]) (.o [99,111,117,110,116,32,97])<|.o [99,111,117,110,116,32,97,32,50,32]) (.w 1<|.y .j .G<|.w<|.g (.o [102,111,114,109,32,97,32,49]) (.o [102,111,114,109,32,97,32,49,32,48,49]) (.o [102,111,114,109,32,97,32,49,32,49,50,51,52,53,54]) (.o [102,111,114,109,32,97,32,49,32,120]) (.o [102,111,114,109,32,97,32,49,32,45,49])<|.o [107,101,101,112,115,32,97,32,49]) (.w 1<|.y .j .G<|.w<|.f (.o [107,101,101,112,115,32,97,32,49,32,49,32,49]) (.o [107,101,101,112,115,32,97,32,49,49,32,49]) (.o [109,97,116,116,101,114,115,32,97,32,49]) (.o [109,97,116,116,101,114,115,32,97,32,49,32,49,48,48])<|.o [109,97,116,116,101,114,115,32,97,32,49,32,48,48]) (.w 1<|.y .j .G<|.w<|.g (.o [109,97,116,116,101,114,115,32,97,32,49,32,45,49]) (.o [113,117,97,114,114,101,108,32,97]) (.o [113,117,97,114,114,101,108,32,97,32,49,32,49]) (.o [115,97,109,101,32,97,32,98]) (.o [115,97,109,101,32,97,32,98,32,49,50])<|.o [115,97,109,101,32,65,32,98,32,49]) (.w 1<|.y .j .G<|.w<|.g (.o [115,97,109,101,32,97,32,49]) (.y .j (.o du) .B) (.y .j (.o n4) .B) (.o [119,111,114,108,100,115,32,97,32,49]) (.o [102,105,110,100,32,65,32,49])<|.o [102,105,110,100,32,122,122]) (.w 1<|.y .j .G<|.w<|.g (.o [115,97,109,101,32,97,32,122,122,32,120]) (.o [116,101,108,108,32,122,122]) (.o [115,104,111,119,32,97,10]) (.o [115,104,111,119,9,97]) (.o [102,105,110,100,32,97,32,50,10])<|.o [100,114,111,112,32,97,10]) (.w 1<|.y .j .G<|.w<|.a<|.o [115,97,109,101,32,97,32,97,32,49,10])<|.j .G⟩
noncomputable def xh:Fn:=⟨1,2,.f (.w 1<|.w<|.g (.o rL) (.o l0) (.o rn) (.o [108,101,97,115,116,32,113,32,57]) (.o [99,111,117,110,116,32,113,32,50])<|.o [102,111,114,109,32,113,32,49,32,57,57,57,57,57]) (.w 1<|.y .j .G<|.w<|.g (.o [107,101,101,112,115,32,113,32,49,32,49]) (.o [109,97,116,116,101,114,115,32,113,32,49,32,57,57]) (.o [113,117,97,114,114,101,108,32,113,32,55]) (.o p6) (.o [115,97,109,101,32,113,32,97,32,57])<|.o [115,97,109,101,32,113,32,113,32,49]) (.w 1<|.y .j .G<|.w<|.f (.y .j (.o lY) .B) (.o [116,101,108,108,32,113,32]) (.o [116,101,108,108,32,113,113,32,115,97,121]) (.o [102,105,110,100,32,98,32,49])<|.o [115,104,111,119,32,122,122,122,122,122,122,122,122]) (.w 1<|.y .j .G<|.w<|.a<|.o [116,101,108,108,32,113,32,115,97,121,32,115,111,109,101])<|.j .G⟩
def Xm:Fn:=⟨2,3,.j (.w 2<|.w<|.c (.p<|.c (.o [102,105,110,100,32,97,32,53]) .i0 .T) (.p<|.c (.o [108,101,97,115,116,32,97,32,57]) .i0 .T)<|.p<|.c (.o [99,111,117,110,116,32,97,32,55]) .i0 .T)<|.j (.w 2<|.y .j .L<|.w<|.c (.p<|.c (.o [102,111,114,109,32,97,32,54,32,48]) .i0 .T) (.p<|.c (.o [107,101,101,112,115,32,97,32,53,32,48]) .i0 .T)<|.p<|.c (.o [109,97,116,116,101,114,115,32,97,32,53,32,48]) .i0 .T)<|.j (.w 2<|.y .j .L<|.w<|.c (.p<|.c (.o [113,117,97,114,114,101,108,32,97,32,56]) .i0 .T) (.p<|.c (.o [115,97,109,101,32,97,32,97,32,53]) .i0 .T)<|.p<|.c (.o [102,105,110,100,32,97,32,52]) (.u 6)<|.u 20)<|.j (.w 2<|.y .j .L<|.w<|.c (.p<|.c (.o [108,101,97,115,116,32,97,32,52]) (.u 6)<|.u 20) (.p<|.c (.o [99,111,117,110,116,32,97,32,51]) (.u 6)<|.u 12)<|.p<|.c (.o [99,111,117,110,116,32,97,32,52]) (.u 6)<|.u 20)<|.j (.w 2<|.y .j .L<|.w<|.c (.p<|.c (.o [109,97,116,116,101,114,115,32,97,32,52,32,49]) (.u 6)<|.u 20) (.p<|.c (.o [113,117,97,114,114,101,108,32,97,32,52]) (.u 6)<|.u 20)<|.p<|.c (.o [115,97,109,101,32,97,32,97,32,52]) (.u 6)<|.u 20)<|.j (.w 2<|.y .j .L<|.w<|.c (.p<|.c (.o [102,111,114,109,32,97,32,49,32,52]) .i3 .T) (.p<|.c (.o [102,111,114,109,32,97,32,48,32,49]) .i3 .T)<|.p<|.c (.o [107,101,101,112,115,32,97,32,50,32,54,52]) .i3 .T)<|.j (.w 2<|.y .j .L<|.w<|.c (.p<|.c (.o [107,101,101,112,115,32,97,32,49,32,57,57,57,57,57]) .i3 .T) (.p<|.c (.o [102,111,114,109,32,101,32,52,32,49]) .i3 .T)<|.p<|.c (.o [109,97,116,116,101,114,115,32,97,32,49,32,50]) (.u 9) .i2)<|.j (.w 2<|.y .j .L<|.w<|.c (.p<|.c (.o [109,97,116,116,101,114,115,32,97,32,55,32,57,57]) (.u 9)<|.u 99) (.p<|.c (.o [109,97,116,116,101,114,115,32,101,32,49,32,48]) (.u 9) .i0)<|.p<|.c (.o [115,97,109,101,32,97,32,111,32,49]) (.u 12) .T)<|.q (.w 2<|.y .j .L<|.w<|.c (.p<|.c (.o [115,97,109,101,32,111,32,101,32,55]) (.u 12) .T) (.p<|.c (.y .j (.o mX) .B) .i4 .i4)<|.p<|.c (.o [116,101,108,108,32,97,32,107,105,110,100,32,113]) .i4 .i4) (.w 2<|.y .j .L<|.w<|.c (.p<|.c (.o [116,101,108,108,32,97,32,116,105,101,32,113]) .i4 .i4) (.p<|.c (.o [116,101,108,108,32,97,32]) .i4 .i4)<|.p<|.c (.o [116,101,108,108,32,97,32,115,97,121]) .i4 .i4) (.w 2<|.y .j .L<|.w<|.b (.p<|.c (.o [116,101,108,108,32,97,32,115,97,121,32,115,111,109,101,32,97,98,99,100,101,102,103,104,105]) .i4 .i4)<|.p<|.c (.y .j (.o kX) .B) .i4 .i4) (.w 2<|.y .j .L<|.w<|.b (.p<|.c (.y .j (.o AM) .B) .i4 .i4)<|.p<|.c (.y .j (.y .j (.o lE) .B)<|.o [32,41]) .i4 .i4) (.w 2<|.y .j .L<|.w<|.c (.p<|.c (.o [116,101,108,108,32,101,32,115,97,121,32,115,111,109,101,32,113]) .i4 .i0) (.p<|.c (.o [116,101,108,108,32,101,32,107,105,110,100]) .i4 .i0)<|.p<|.c (.o [116,101,108,108,32,101,32,107,105,110,100,32,101,97,99,104]) .i4 .i0) (.w 2<|.y .j .L<|.w<|.c (.p<|.c (.o [116,101,108,108,32,101,32,107,105,110,100,32,32,113]) .i4 .i0) (.p<|.c (.o [116,101,108,108,32,101,32,116,105,101,32,81]) .i4 .i0)<|.p<|.c (.o [116,101,108,108,32,101,32,116,105,101,32,97,98,99,100,101,102,103,104,105]) .i4 .i0) (.w 2<|.y .j .L<|.w<|.c (.p<|.c (.o oD) .i4 .i1) (.p<|.c (.o [116,101,108,108,32,111,32,107,105,110,100,32,112]) .i4 .i1)<|.p<|.c (.o [116,101,108,108,32,101,32,114,111,119]) .i4 .i0) (.w 2<|.y .j .L<|.w<|.b (.p<|.c (.y .j (.o Bd) .G) .i4 .i4)<|.p<|.c (.o uc) .i4<|.u 13) (.w 2<|.y .j .L<|.w<|.b (.p<|.c (.o [115,97,109,101,32,102,117,108,108,116,101,120,116,32,102,117,108,108,116,101,120,116,32,49]) (.u 5) .T)<|.p<|.c (.o [109,97,116,116,101,114,115,32,102,117,108,108,116,101,120,116,32,49,32,49,50]) (.u 9)<|.u 12) (.w 2<|.y .j .L<|.w<|.b (.p<|.c (.o [116,101,108,108,32,101,32,107,105,110,100,32,113,10]) .i4 .i0)<|.p<|.c (.o [116,101,108,108,32,101,32,115,97,121,9,110,111,32,97,108,108]) .i4 .i0) (.w 2<|.y .j .L<|.w<|.b (.p<|.c (.y .j (.y .j (.o lE) .G)<|.o [10]) .i4 .i4)<|.p<|.c (.o [116,101,108,108,32,116,105,101,32,107,105,110,100,32,105]) .i4<|.u 8) (.w 2<|.y .j .L<|.w<|.b (.p<|.c (.o [116,101,108,108,32,116,105,101,32,116,105,101,32,105]) .i4<|.u 8)<|.p<|.c (.o [107,101,101,112,115,32,111,32,52,32,54,53,53,51,54]) .i3 .T)<|.j .L⟩
def bb:Fn:=⟨2,5,.j (.w 2 .T)<|.j (.fM .B "Desk" "say" "Desk.say" (.a .G) "WorldError" 3<|.f (.w 4 .T) (.p (.bO .Z true ["NoText"]) (.a<|.w 4<|.xf 3 "row") .p) (.p (.bO .Z true ["TooBig"]) (.a<|.w 4<|.xf 3 "bits") .p) (.p (.bO .Z true ["NoNumber"]) (.a<|.w 4<|.xf 3 "number") .p)<|.w 2<|.p<|.b (.j "_law_classes"<|.a .Z) .v4)<|.a<|.j .L⟩
def ji:E:=.M [0,1] y9 2 [0] (.j .Z) y9 (.K k9)<|.C .j (.aI .L "Desk" "say" "Desk.say"<|.a .B) .G
def zT:E:=.M [0] k9 1 [] (.aA<|.u 11) y9 (.K k9)<|.y .j (.cU .B)<|.o [32,49,49]
def zX:E:=.M [0] k9 1 [0] (.j .L) y9 (.K k9)<|.aI .G "Desk" "say" "Desk.say"<|.a .B
noncomputable def ZW:E:=.M [0] k9 1 [] (.j<|.w<|.d (.o [101]) (.o [102]) (.o [103])<|.o [104]) y9 (.K k9)<|.y .j (.o [116,101,108,108,32,116,105,101,32,116,105,101,32]) .B
noncomputable def QY:E:=.M [0] k9 1 [] (.j<|.w<|.d (.o [97]) (.o [98]) (.o [99])<|.o [100]) y9 (.K k9)<|.y .j (.o [116,101,108,108,32,116,105,101,32,107,105,110,100,32]) .B
def ba:Fn:=⟨2,4,.j (.w 2<|.y .j (.w<|.b (.o [98,101,103,105,110,32,102,117,108,108,116,101,120,116])<|.o [116,101,108,108,32,102,117,108,108,116,101,120,116,32,116,105,101,32,112])<|.y .p (.w<|.a<|.o uc)<|.u 11)<|.j (.w 2<|.y .j .L<|.w<|.b (.o [116,101,108,108,32,102,117,108,108,116,101,120,116,32,115,97,121,32,115,111,109,101,32,112])<|.o [98,101,103,105,110,32,116,105,101])<|.j (.w 2<|.y .j .L QY)<|.m (.w 2<|.y .j .L ZW) (.p (.C .w zX<|.y .p (.w<|.a<|.o zH)<|.bi .j<|.a .L) (.a .y) .p) (.p (.C .dP (.aI .B "Desk" "say" "Desk.say"<|.a<|.o [113,117,97,114,114,101,108,32,102,117,108,108,116,101,120,116,32,49]) zT) (.a .y) .p) (.B 3<|.w<|.d (.p<|.b (.o [107,101,101,112,115,32,97,32,52,32,48])<|.o [48]) (.p<|.b (.o [107,101,101,112,115,32,97,32,52,32,57,57,57,57,57])<|.o [49]) (.p<|.b (.o [102,111,114,109,32,97,32,52,32,56])<|.o [49])<|.p<|.b (.o [102,111,114,109,32,97,32,52,32,51,50,55,54,56])<|.o [51,50]) (.B 3<|.y .j .Z<|.w<|.b (.p<|.b (.o [109,97,116,116,101,114,115,32,102,117,108,108,116,101,120,116,32,49,32,49,49])<|.o [48])<|.p<|.b (.o [108,101,97,115,116,32,102,117,108,108,116,101,120,116,32,50])<|.o gW) (.B 3<|.y .j .Z<|.w<|.c (.p<|.b (.o [109,97,116,116,101,114,115,32,102,117,108,108,116,101,120,116,32,49,32,49,48])<|.o fH) (.p<|.b (.o [107,101,101,112,115,32,111,32,52,32,54,53,53,51,53])<|.o [121,101,115])<|.p<|.b (.o [108,101,97,115,116,32,111,32,52])<|.o [48]) (.B 3<|.y .j .Z<|.w<|.c (.p<|.b (.o [102,111,114,109,32,111,32,52,32,54,53,53,51,53])<|.o [54,53,53,51,53]) (.p<|.b (.o [102,111,114,109,32,116,105,101,32,49,32,57,57])<|.o [57,57])<|.p<|.b (.o [107,101,101,112,115,32,102,117,108,108,116,101,120,116,32,52,32,48])<|.o [49,49]) (.p .G (.a<|.app 3<|.p<|.b (.o um)<|.o [53,49,50,32,49,48,52]) .p)<|.j<|.bi .T<|.a ji⟩
def qG:Fn:=⟨3,5,.f (.w 3<|.j "_law_draw"<|.b .B .i4) (.p (.C .j .Z .i0) (.b (.w 4<|.y .j (.j "_law_no_rows"<|.a .G)<|.w<|.f (.u 5) .T (.w<|.a<|.o mZ) (.p<|.b (.o gr)<|.o [97])<|.K true)<|.j<|.p<|.c (.N .v4<|.j "_law_draw"<|.b .B<|.bi .j<|.a .v4) (.u 13) .T) .p) (.p (.C .j .Z .i1) (.b (.w 4<|.j "_law_no_stands"<|.a .G)<|.j<|.p<|.c (.N .v4<|.j "_law_draw"<|.b .B<|.bi .j<|.a .v4) (.u 14) .T) .p) (.w 4<|.j "_law_others"<|.b .G .L)<|.j<|.N .v4<|.j "_law_draw"<|.b .B<|.bi .j<|.a .v4⟩
noncomputable def vz:E:=.M [0] k9 1 [4] (.j<|.w<|.c (.o [97]) (.o [111])<|.o [101]) y9 (.K k9)<|.aI .G "Desk" "say" "Desk.say"<|.a<|.y .j (.o gu) .B
def uK:E:=.M [0] k9 1 [4] (.j<|.a0 15) y9 (.K k9)<|.aI .G "Desk" "say" "Desk.say"<|.a .B
def JQ:Ss:=.f (.ex<|.j "_law_turn"<|.a .G) (.dw [9,10,11]<|.j "_law_row"<|.c .G .L .Z) (.p (.C .w (.j "_law_refused"<|.b .v4 .v9)<|.p<|.b (.j "_law_class"<|.a<|.a0 10)<|.a0 11) (.a .y) .p) (.w 12<|.j "_law_draw"<|.b .G .i3)<|.p (.C .w (.aI .v4 "Desk" "say" "Desk.say"<|.a<|.y .j (.o gu)<|.N (.o lV)<|.a0 12)<|.N .v6<|.a0 12) (.a .y) .p
noncomputable def yt:E:=.M [0] k9 1 [4] (.j<|.w<|.c (.o [97]) (.o [111])<|.o [101]) y9 (.K k9)<|.aI .G "Desk" "say" "Desk.say"<|.a<|.y .j (.o gu) .B
def Bb:E:=.M [0] k9 1 [4] (.j .v5) y9 (.K k9)<|.aI .G "Desk" "say" "Desk.say"<|.a .B
def d9:Fn:=⟨1,16,.j (.B 1<|.share<|.j "_law_start"<|.a .B)<|.j (.gb [2,3]<|.j "_law_names"<|.b .G .i2)<|.j (.w 4<|.make "Desk" "Desk.__init__" .p)<|.j (.w 5<|.w<|.d (.o [98,101,103,105,110,32,97]) (.y .j (.o mX) .L) (.y .j (.o yB) .Z)<|.y .j (.y .j (.o rY) .Z)<|.o [41])<|.j (.w 5<|.y .j .v5<|.w<|.d (.y .j (.y .j (.y .j (.o kX) .Z)<|.o eD) .Z) (.o [98,101,103,105,110,32,111]) (.o oD)<|.o [98,101,103,105,110,32,101])<|.j (.p (.C .w Bb<|.y .p (.w<|.a<|.o zH)<|.u 8) (.a .y) .p)<|.j (.p (.a1<|.j "_law_tops"<|.b .v4<|.C .j (.j "_law_draw"<|.b .G<|.u 8) .i0) (.a .y) .p)<|.q (.w 6 yt) (.w 7<|.y .j (.y .j (.y .j (.y .j (.y .j (.y .j (.y .j (.y .j (.y .j (.o du) .L)<|.o fO) .Z)<|.o kr) .Z)<|.o mu) .Z)<|.o eD) .Z) (.p (.C .w .v6<|.w<|.c .v7 (.o gx)<|.o []) (.a .y) .p) (.for [8] true (.aA<|.u 10) JQ) (.w 13<|.N (.w<|.d (.o l0) (.o rn) (.y .j (.o lY) .L)<|.o p6)<|.j "_law_draw"<|.b .G .i4) (.w 14<|.p<|.b (.j "_law_class"<|.a<|.u 14) .T) (.w 15<|.w<|.c (.o [98,101,103,105,110,32,113]) (.y .j (.o lY) .L)<|.y .j (.o yE) .Z) (.p (.or (.C .w (.j "_law_refused"<|.b .v4<|.a0 13)<|.a0 14)<|.C .w uK<|.y .p (.w<|.a<|.o zH) .i3) (.a .y) .p) (.p (.C .w (.aI .v4 "Desk" "say" "Desk.say"<|.a<|.o l0)<|.y .j (.y .j (.y .j (.o du) .L)<|.o fO) .Z) (.a .y) .p) (.p (.C .j (.eC (.a0 13) .i4)<|.o dC) (.a<|.p (.C .w (.j "_law_refused"<|.b .v4<|.a0 13)<|.p<|.b (.j "_law_class"<|.a .i4) .i2) (.a .y) .p)<|.a<|.p (.eT true<|.j "_law_refused"<|.b .v4<|.a0 13) (.a .y) .p) (.p (.or (.C .w (.aI .v4 "Desk" "say" "Desk.say"<|.a<|.o rL)<|.o zH)<|.C .w (.j "_law_refused"<|.b .v4<|.a0 13)<|.a0 14) (.a .y) .p) (.p (.C .w vz .v6) (.a .y) .p)<|.j<|.and (.C .j (.aI .v4 "Desk" "say" "Desk.say"<|.a<|.o vM)<|.o zH)<|.C .j (.aI .v4 "Desk" "say" "Desk.say"<|.a<|.o pS)<|.o [116,105,101,32,113]⟩
def prog:Prog:=⟨[("is_whole",Sb),("is_below",L9),("is_written",qW),("pairs_of",CB),("gathered",xx),("without",CQ),("turned",Fq),("every",EL),("value_of_name",ZG),("made",Cy),("value",x8),("counts",Du),("keeps",qP),("first_broken",Zp),("bounds",HI),("settled",OP),("not_told",M9),("count_told",XT),("told",XZ),("fact_told",jG),("is_size",FG),("is_word",WR),("is_name",QW),("words_of",QL),("widths",CI),("bits",ML),("check_size",X1),("check_bits",ZZ),("code",P2),("world_of",Li),("theory_of",zE),("places_of",Q5),("is_tuple_of",qR),("Cases.__init__",Qy),("Cases.world_of_code",Wn),("Cases.truth",Zl),("Cases.is_shown",jz),("names_in",Ni),("needed_bits",QM),("how_many_set",QH),("Search.__init__",Jx),("Search.told_of_sayings",wc),("Search.chosen_place",xn),("Search.told_of_case",Xd),("Search.told_of_halves",xk),("found",AW),("smallest",Lp),("check_room",XR),("follows",qS),("matters",OJ),("same_or_parted",a9),("longer_by_one",QG),("renamings",J8),("is_renaming",WQ),("renamed_kind",qJ),("renamed_tie",Jk),("renamed",MT),("codes_alike",QO),("form",LH),("likenesses",zS),("all_forms",Wq),("unlike",HY),("how_many",Om),("uses",Hk),("used",PU),("renumbered",wU),("narrowed",FW),("quarrel",MN),("sort_of_sign",jj),("signs_of",Jw),("one_deeper",wy),("Reader.__init__",Zv),("Reader.here",Xs),("Reader.take",wu),("Reader.take_just",Xi),("Reader.saying",jE),("Reader.part",ZM),("Reader.unit",Wt),("Reader.fact",cu),("Reader.count_fact",Wr),("Reader.limit",zJ),("Reader.pair_fact",Qd),("Reader.expression",Jq),("Reader.term",JM),("Reader.factor",jF),("Reader.atom",cq),("read_saying",Qk),("expression_of_rank",Qo),("shown_expression",qi),("shown_fact",Zi),("shown_saying",jg),("rows_taken",jZ),("taken",c5),("with_row",qL),("shown_theory",zp),("fits",Ik),("split_row",Qr),("parts_of_row",xj),("found_answer",WH),("least_answer",ZI),("count_answer",jI),("form_answer",jO),("keeps_answer",zj),("matters_answer",xz),("quarrel_answer",wz),("same_answer",wk),("answer_of_size",zz),("answer_of_number",zg),("Desk.__init__",QE),("Desk.standing",xG),("Desk.say",zd),("Desk.answer",Jc),("_law_start",XG),("_law_turn",wK),("_law_draw",WL),("_law_names",JD),("_law_classes",jN),("_law_class",WC),("_law_no_rows",jl),("_law_no_stands",xh),("_law_others",Xm),("_law_refused",bb),("_law_tops",ba),("_law_row",qG),("law",d9)],[("WorldError","ValueError"),("NoSize","WorldError"),("NoPair","WorldError"),("NoName","WorldError"),("NoCode","WorldError"),("NoText","WorldError"),("Crowded","WorldError"),("TooBig","WorldError"),("NoWorld","WorldError"),("NoRenaming","WorldError"),("NoNumber","WorldError"),("Broken","WorldError"),("Kept","WorldError"),("Unlike","WorldError"),("NoRow","WorldError"),("NoStand","WorldError")],[("FIGURES",.o pY),("GREATEST_SIZE",.u 4),("MOST_LETTERS",.u 8),("LETTERS",.o o4),("TAKEN",.p [.o dn,.o fH,.o eR,.o gJ,.o mO,.o ZA,.o ic,.o ij,.o eV,.o J2,.o kv,.o gW,.o gw,.o gI,.o ib]),("MOST_NAMES",.u 4),("MOST_SAYINGS",.u 12),("MOST_BITS",.u 16),("MOST_LISTED_BITS",.u 9),("SINGLE_SIGNS",.o AE),("MOST_WITHIN",.u 20),("MOST_FIGURES_reading",.u 2),("SORTS",.exc "" [([43],.o m7),([45],.o nQ),([126],.o eZ),([94],.o r6),(ZA,.o ZA),([61],.o nX)]),("ATOM_RANK",.u 4),("EXPRESSION_RANKS",.exc "" [(m7,.u 1),(nQ,.u 1),([98,111,116,104],.u 2),(oP,.u 3)]),("SIGNS",.exc "" [(m7,.o [43]),(nQ,.o [45]),([98,111,116,104],.o [38]),(oP,.o [46]),(eZ,.o [126]),(r6,.o [94])]),("WORDS",.exc "" [(ZA,.o ZA),(nX,.o [61]),(dn,.o dn),(fH,.o fH),(eR,.o eR),(gJ,.o gJ),(AN,.o [101,97,99,104,32,108,101,97,115,116]),([101,97,99,104,109,111,115,116],.o [101,97,99,104,32,109,111,115,116])]),("MOST_FIGURES_desk",.exc "" [(hX,.u 1),([110,117,109,98,101,114],.u 2),([99,111,100,101],.u 5)]),("SHAPES",.exc "" [(mm,.p [.o eP]),(dC,.p [.o eP,.o [114,111,119]]),(l8,.p [.o eP]),(gr,.p [.o eP]),([102,105,110,100],.p [.o eP,.o hX]),(eR,.p [.o eP,.o hX]),([99,111,117,110,116],.p [.o eP,.o hX]),([102,111,114,109],.p [.o eP,.o hX,.o [99,111,100,101]]),(gX,.p [.o eP,.o hX,.o [99,111,100,101]]),([109,97,116,116,101,114,115],.p [.o eP,.o hX,.o [110,117,109,98,101,114]]),([113,117,97,114,114,101,108],.p [.o eP,.o hX]),(J2,.p [.o eP,.o eP,.o hX])]),("EMPTY",.p [.p [.p [],.p []],.p []])]⟩
abbrev k8[Cn](m:Nat):Fx:=⟨call prog m,prog.cl,prog.con⟩
noncomputable abbrev W.i (n:Nat):W:=.v<|.u (n:Int)
abbrev W.r (n:Nat):W:=.v<|.ref n
noncomputable abbrev W.s (t:Tx):W:=.v<|.o t
abbrev W.b (b:Bool):W:=.v<|.bl b
abbrev W.t (t:List D):W:=.v<|.p t
abbrev W.l (t:List D):W:=.v<|.lst t
abbrev si(n:Nat):Option W:=y0<|.i n
noncomputable abbrev D.n (n:Nat):D:=.u (n:Int)
@[simp]theorem GG(i)(d)(Y):Gx [i] k9 d Y=y0 (GF Y i<|.v d):=rfl
@[simp]theorem G7(tg)(ds)(Y):Gx tg y9 (.p ds) Y=aC tg ds Y:=rfl
theorem Xv(f):∀ds,(∀d∈ds,step d h=.p (f d) h)->Gu step ds h=.p (ds.X f) h
|[],_=>rfl
|d::ds,a=>by have b:=Xv f ds λd c=>a d<|Aa0 _ c;rw[Gu,a d Aa2];simp only[b];cases q:f d<;>simp[q]
def Zk(f)(hi:Gp F it Y h=.p ds h)(a:ds.e<=aR)
 (l:∀d∈ds,∃O,Gx tg one d (Ab k u0++az.y λj=>Gn Y j)=y0 O/\∃w,eval F elt O h=.p w h/\w.d=y0 (f d)):
 eval F (.M tg one k az it y9 c elt) Y h=.p (.own<|ds.y f) h:=by
 rw[zEe25,hi,R.af,Fk a,Xv<|λd=>y0<|f d]
 .simp[List.filterMap_eq_map']
 intro d i;obtain⟨O,g,w,b,e⟩:=l d i;rw[g];simp[b,e]
def Xx(bnd)(body)(d)(ds)(Y)(h):Gw bnd body (d::ds) Y h=match bnd d Y with
|none=>.fail
|some Y1=>match body Y1 h with
|.p a b=>Gw bnd body ds a b
|.cont a b=>Gw bnd body ds a b
|.brk a b=>.p a b
|o=>o:=rfl
def Zc(a:bnd d Y=y0 Y1)(b:body Y1 h=.p Y2 h2):Gw bnd body (d::ds) Y h=Gw bnd body ds Y2 h2:=by rw[Xx,a];simp[b]
@[simp]theorem HJ(i j):Gm .w i j=if 0<j then y0 (i%j)else none:=rfl
@[simp]theorem Nm(i j):Gm .fdiv i j=if 0<j/\j<kU then y0 (i/j)else none:=rfl
def W4(a b:Nat)(h:a<2^64):Gm .p (a:Int) (b:Int)=y0 ((a*b:Nat):Int):=by
 have c:(-ea<a/\a<ea)\/(-ea<b/\b<ea):=by rw[GR];lia
 show(if _ then _ else _)=_;rw[Fk c,V5]
def yA(m)(a:d∈(Ab1 m).y λi=>D.n i):∃i:Nat,i<m/\d=.n i:=by obtain⟨i,b,rfl⟩:=Ae9.j a;exact⟨i,Af8.j b,rfl⟩
def WP(e:eval F a Y h=.p (.i m) h)(c:m<=1000000):Gp F (.aA a) Y h=.p ((Ab1 m).y λi=>.n i) h:=by
 have b:-kb<=m/\m<kb:=by rw[Kb];lia
 rw[zEp2,e,R.af,int?_int,R.aw,R.af,Fk b,Af1]
def za(e:exec F s Y h=.p Y1 h1):execs F (.j s ss) Y h=execs F ss Y1 h1:=by rw[zEs2,e,O.cC]
def Wa(e:exec F s Y h=.ret w h1):execs F (.j s ss) Y h=.ret w h1:=by rw[zEs2,e,O.e7]
def qH(e:Gj F c Y h=.p k9 h1):exec F (.p c a b) Y h=execs F a Y h1:=by rw[zEx15,e,R.aQ]
def hG(e:Gj F c Y h=.p y9 h1):exec F (.p c a b) Y h=execs F b Y h1:=by rw[zEx15,e,R.aQ]
def Zx(a:GL e=u0)(q:eval F e Y h=.p (.own xs) h1):exec F (.j e) Y h=.ret (.own xs) h1:=by rw[zEx14,a];simp[q,R.aQ]
def jc(a:GL e=u0)(q:eval F e Y h=.p (.v d) h1):exec F (.j e) Y h=.ret (.v d) h1:=by rw[zEx14,a];simp[q,R.aQ]
def xp(e:h[r]?=y0 (.lst xs))(i):bU (.r r) (.v<|.u i) h=bX xs i:=by simp[bU,W.aU,W.seq?,e]
def rH(x y z:D):bX [x,y,z] 0=y0 x:=rfl
def la(x y z:D):bX [x,y,z] 1=y0 y:=rfl
def n7(x y z:D):bX [x,y,z] 2=y0 z:=rfl
def Sx:cL 3 2=y0 2:=rfl
def Jt(a:eval F e Y h=.p (.v d) h)(b:Gn Y i=y0 (.r r))(c:h[r]?=y0 (.lst xs))(k:cL xs.e j=y0 n)(f:GO d=k9)(g:h2=h.B r (.lst<|xs.B n d)):
 exec F (.bN (.a0 i) (.u j) e) Y h=.p Y h2:=by
 subst g;simp only[zEx6,a,R.aQ,zEe1,zEe3,b,Kq,c,k,f,Os]
def W2(a b)(h:-(2:Int)^64<b/\b<2^64):Gm .p a b=y0 (a*b):=by
 have c:(-ea<a/\a<ea)\/(-ea<b/\b<ea):=by rw[GR];exact .w h
 show(if _ then _ else _)=_;rw[Fk c]
def B8(a b)(h:-(2:Int)^64<a/\a<2^64):Gm .p a b=y0 (a*b):=by
 have c:(-ea<a/\a<ea)\/(-ea<b/\b<ea):=by rw[GR];exact .p h
 show(if _ then _ else _)=_;rw[Fk c]
def QD(a b)(h:0<b):Gm .w a b=y0 (a%b):=by rw[HJ,Fk h]
def LM(a b)(h:0<b)(h2:b<1073741824):Gm .fdiv a b=y0 (a/b):=by rw[Nm,Fk ⟨h,by rw[GJ];exact h2⟩]
def PD(i j)(h):Gs .j (.v<|.u i) (.v<|.u j) h=y0 (u9<|i=j):=by rfl
theorem jX:∀xs:List Int,Kx (xs.y .u)=y0 xs.sum
|[]=>rfl
|x::xs=>by simp[Kx,jX xs]
def Ms(f:α->β)(xs)(lo hi):cut (xs.y f) lo hi=(cut xs lo hi).y f:=by simp[cut,List.map_take]
def EK(a:List α)(lo hi):(cut a lo hi).e<=a.e:=by simp[cut,Ai0];lia
abbrev fB:Tx:=o4
def Lx(i:Nat)(h:i<26):bX fB (i:Int)=y0 (97+i):=by
 have:∀i:Nat,i<26->bX fB i=y0 (97+i):=by decide
 exact this i h
def HZ(a:List α)(n:Nat):cut a u0 (y0 (n:Int))=a.M n:=by
 have b:¬((n:Int)<0):=by lia
 simp only[cut,aS,b,S5,Af1,Am1,Yp];by_cases q:n<=a.e
 .rw[Ai7 q]
 .rw[Uh Y8,Ag0<|Aa3 _,Ag0 Y8]
def Rp(a:List α)(n:Nat):cut a (y0 (n:Int)) u0=a.L n:=by
 have b:¬((n:Int)<0):=by lia
 simp[cut,aS,b,Af1];by_cases q:n<=a.e
 .rw[Ai7 q,Ag0 Y9]
 .rw[Uh Y8,UD<|Aa3 _,UD Y8,List.take_nil]
def rb(s)(lo hi)(h)(a:s.e<=aR):ku (.s s) lo hi h=.p (.s<|cut s lo hi) h:=by show(if s.e<=aR then _ else _)=_;rw[Fk a]
def mul_str(s)(n)(h)(a:n<=1000)(h2:s.e*n<=1000000):GN .p (.s s) (.i n) h=.p (.v<|.o (Ab n s).Z) h:=by show(if 0<=(n:Int)/\(n:Int)<=1000/\s.e*(n:Int).j<=aR then _ else _)=_;rw[Fk ⟨(SK _),by lia,by rw[Gc,Af1];exact h2⟩,Af1]
def add_str(s u)(h)(a:s.e+u.e<=1000000):GN .j (.s s) (.s u) h=.p (.s<|s++u) h:=by rw[yS,Fk<|by rw[Gc];exact a]
def jx(i)(hi:i<26)(h):bU (.s fB) (.i i) h=y0 (.o [97+i]):=by rw[rZ,Fk<|by rw[Gc];decide,Lx i hi];rfl
def A6(f:Nat->α)(m)(h:m<=8)(d:∀i,i<8->∀j,j<8->i≠j->f i≠f j):((Ab1 m).y f).N:=by rw[List.Nodup,VL];refine List.Pairwise.imp_of_mem ?_<|List.nodup_range;intro a b e g c;exact d a (by have:=Af8.j e;exact Ab4 ‹_› ‹_›) b (by have:=Af8.j g;exact Ab4 ‹_› ‹_›) c
def OK(a b:Nat)(c:0<b):Gm .w (a:Int) (b:Int)=y0 ((a%b:Nat):Int):=by rw[QD _ _ Y8];rfl
def j3(a:List α)(i)(h:i<a.e):bX a (i:Int)=a[i]?:=by have:(i)<a.e:=‹_›;simp[bX,cL,this]
def WG(i j)(h):Gs .j (.i i) (.i j) h=y0 (u9<|i=j):=by rw[PD];congr 1;exact decide_eq_decide.p Y8
def jb(e:Gj F c Y h=.p y9 h):execs F (.j (.p c a .p) ss) Y h=execs F ss Y h:=za<|hG e
def sS(f)(b:eval F e Y h=.p (.i n) h)(m:n<=1000)
 (l:∀i,i<n->∃w,eval F elt (si i::az.y λj=>Gn Y j) h=.p w h/\w.d=y0 (f i)):eval F (.M [0] k9 1 az (.aA e) y9 (.K k9) elt) Y h=.p (.own<|(Ab1 n).y f) h:=by
 rw[Zk (λd=>match d with|.u i=>f i.j|d=>d) (WP b<|ZAA)<|by simp;rw[Gc];exact ZAA]
 .simp[Function.comp_def]
 .intro d c;obtain⟨i,g,rfl⟩:=yA _ c;obtain⟨w,a,k⟩:=l i g;exact⟨_,rfl,w,a,by simpa using k⟩
theorem BY(s):∀ts:List Tx,inD (.o s) (ts.y .o)=u9 (s∈ts)
|[]=>rfl
|t::ts=>by
  have a:=BY s ts;simp only[inD]at a;by_cases q:t=s
  .subst q;simp[inD]
  .have b:¬s=t:=λe=>q e.I;simp only[inD,Ac3,Af2,a,Aa8,b,false_or];simp[q]
def B6(ts:List Tx):(ts.y D.str).T GO=true:=by simp
def WX(s)(ts:List Tx)(w)(h)(a:w.seq? h=y0 (ts.y .o))(h2:w.aU=u0):Kd (.s s) w h=y0 (u9<|s∈ts):=by unfold Kd;rw[h2];simp only[W.aU,W.yU,a,B6,U1,Os,BY]
def Fc(s)(ts:List Tx)(h):Gs .p (.s s) (.own<|ts.y .o) h=y0 (u9<|s∈ts):=WX s ts (.own _) h rfl rfl
def Iz(e:Gn Y i=si n)(a:n<=1000000):Gr F (.aA<|.a0 i) Y h=.p ((Ab1 n).y λi=>.n i) h:=WP (by rw[zEe1,e]) a
end Lake.M
local macro_rules|`(tactic|simp![$xs,*])=>do
 let y:=((("e1 e10 e11 e12 e13 e15 e16 e17 e18 e19 e2 e20 e22 e23 e24 e25 e28 e3 e30 e32 e34 e35 e36 e37 e38 e39 e4 e41 e42 e44 e45 e48 e49 e5 e51 e6 e7 e8 e9 g1 g2 k1 k2 p1 p2 s1 s2 x1 x10 x11 x13 x14 x15 x16 x17 x18 x19 x2 x20 x22 x23 x24 x25 x3 x4 x5 x6 x7 x8".splitOn " ").map λx=>"Lake.M.zE"++x)++"Lake.M.Gj Lake.M.Gr Lake.M.GL Lake.M.Gn Lake.M.Gi Lake.M.GF Lake.M.aC Lake.M.R.af Lake.M.R.aQ Lake.M.R.aw Lake.M.O.cC Lake.M.O.e7 Lake.M.O.eY Lake.M.W.yU Lake.M.W.mH Lake.M.W.mF Lake.M.W.ig Lake.M.W.hI List.map_cons List.map_nil List.cons_append List.nil_append Nat.reduceSub List.replicate_succ List.replicate_zero Lake.M.Gz Bool.not_true Bool.not_false Lake.M.Kj Option.bind_some Lake.M.Kn Lake.M.Km Lake.M.Ks Lake.M.Ko Lake.M.Kw Lake.M.Kr Lake.M.int?_int Lake.M.Gb Lake.M.Gq Lake.M.Ki Lake.M.GA Lake.M.GG Lake.M.G7".splitOn " ").toArray.map λx=>Lean.mkNode ``Lean.Parser.Tactic.simpLemma #[Lean.mkNullNode,Lean.mkNullNode,Lean.mkIdent (`_root_++x.toName)]
 `(tactic|simp only[$y,*,$xs,*])
namespace Lake.M
abbrev Yt:="Desk.say"
abbrev Yu:="_law_refused"
abbrev Yv:="Reader"
abbrev Yw:="Reader.expression"
abbrev Yx:="read_saying"
abbrev Yy:="_law_draw"
abbrev Yz:="Desk.standing"
abbrev YA:="with_row"
abbrev YB:="Reader.fact"
abbrev YC:="Reader.atom"
abbrev YD:="taken"
abbrev YE:="Reader.pair_fact"
abbrev YF:="theories"
abbrev YG:="Reader.saying"
abbrev YH:="parts_of_row"
abbrev YI:="Desk.answer"
abbrev YJ:="signs_of"
abbrev YK:="words_of"
abbrev YL:="Desk"
abbrev YM:="Reader.here"
abbrev YN:="Reader.take"
abbrev YO:="renamed_tie"
abbrev YQ:="Reader.__init__"
abbrev YR:="place"
abbrev YS:="WorldError"
abbrev YT:="same_or_parted"
abbrev YU:="Search.told_of_sayings"
abbrev YV:="sort_of_sign"
abbrev YW:="shown_theory"
abbrev YX:="Search.told_of_case"
abbrev YY:="NoText"
abbrev YZ:="NoName"
abbrev Y0:="say"
abbrev Y3:="Reader.unit"
abbrev Y4:="one_deeper"
abbrev Y5:="rows_taken"
abbrev Y6:="_law_class"
open M renaming E.str->Lake.M.E.o,E.int->Lake.M.E.u,E.tup->Lake.M.E.p,E.call->Lake.M.E.j,E.bin->Lake.M.E.y,E.v0->Lake.M.E.B,E.cmp->Lake.M.E.C,E.v1->Lake.M.E.G,E.v2->Lake.M.E.L,E.comp->Lake.M.E.M,E.ix->Lake.M.E.N,D.str->Lake.M.D.o,D.int->Lake.M.D.u,D.tup->Lake.M.D.p,D.lst->Lake.M.D.w,D.bl->Lake.M.D.K,D.ai->Lake.M.D.T,Ss.cons->Lake.M.Ss.j,Ss.nil->Lake.M.Ss.p,Es.cons->Lake.M.Es.j,Es.nil->Lake.M.Es.p,Fx.call->Lake.M.Fx.j,R.bind->Lake.M.R.j,R.ok->Lake.M.R.p,R.fail->Lake.M.R.w,R.exc->Lake.M.R.y,W.own->Lake.M.W.j,W.bor->Lake.M.W.p,O.ret->Lake.M.O.j,O.exc->Lake.M.O.y,O.next->Lake.M.O.p,Op.add->Lake.M.Op.j,Op.mul->Lake.M.Op.p,Bi.len->Lake.M.Bi.j,Prog.con->Lake.M.Prog.X,Cp.eq->Lake.M.Cp.j,Cp.mem->Lake.M.Cp.p,Fn.body->Lake.M.Fn.j
abbrev bC(ns:List Int)(i:Nat)(v:Int):Cell:=.lst [.w (ns.y .u),.n i,.u v]
def N6:Gm .pow 10 18=y0 1000000000000000000:=by
 have:(0:Int)<=18/\18<=BP/\(10:Int).p<nI:=by rw[Ke,GB];decide
 show(if _ then _ else _)=_;rw[Fk this];rfl
def MU(v)(e:eval F (.N .B<|.u 2) Y h=.p (.v<|.u v) h):Gj F (.not<|.chain .le .lt (.u 0) (.N .B<|.u 2)<|.y .pow (.u 10)<|.u 18) Y h=.p (!(u9 (0<=v)&&u9 (v<1000000000000000000))) h:=by
 rw[Gj,zEe15,show eval F _ Y h=.p (.b<|u9 (0<=v)&&u9 (v<1000000000000000000)) h by
  rw[zEe11,zEe3,R.af,e,R.af];by_cases q:0<=v
  .simp![rg,Z0,N6,q,decide_true,U1]
  .simp![rg,q,decide_false,Yg]]
 simp![]
def jJ(k)(e:h[r]?=y0 (bC ns i v))(B:0<m)(D:m<1073741824):
 ∃d j,d<m/\call prog (k+1) Yy [.r r,.i m] h=.p (.i d) (h.B r<|bC ns i j):=by
 rw[Ga rfl _ _ _ rfl];have a:(0:Int)<(m:Int):=by lia
 have i2:eval (k8 k) (.N .B<|.u 2) [y0 (.r r),si m,u0] h=.p (.v<|.u v) h:=by simp![xp e,n7]
 have l:=MU v i2;show∃d j,_/\Gy _ (execs _ _ [y0 (.r r),si m,u0] h)=_;simp only[WL];have g:∀x:Int,∃d:Nat,d<m/\x%(m:Int)=(d:Int):=λx=>⟨(x%(m:Int)).j,by have:=Am6 x a;have:=Al6 x<|Yq a;lia,by have:=Al6 x<|Yq a;lia⟩;cases c:(u9 (0<=v)&&u9 (v<1000000000000000000))with
|false=>
  obtain⟨d,f,b⟩:=g v;refine⟨d,v/(m:Int),f,?_⟩;have q:eO .divmod [.v (.u v),.i m] h=av (.p [.u (v/(m:Int)),.n d]) h:=by rw[Lv,Fk ⟨a,by rw[GJ];lia⟩,b]
  rw[Wa]
  .exact Gb _ h _<|by rw[Ae]
  refine(qH<|by rw[l,c];rfl).x ?_;refine(za<|by rw[zEx5,show eval (k8 k) (.bi .divmod<|.b (.N .B<|.u 2) .G) [y0 (.r r),si m,u0] h=av (.p [.u (v/(m:Int)),.n d]) h by simp![xp e,n7,q]];simp![av,gm,Kq,e,Sx,GO,Os];rfl).x ?_;exact Wa rfl
|true=>
  rw[Aa6,Pi,Pi]at c;have p:Gm .p v 742939=y0 _:=W2 _ _ Y7;have o:Gm .p (i:Int) 65063=y0 _:=W2 _ _ Y7;have w0:Gm .mod _ 16777213=y0 ((v*742939+(i:Int)*65063+40503)%16777213):=QD _ _ Y7;have u:=Al6 (v*742939+(i:Int)*65063+40503) (show(16777213:Int)≠0 by decide);have y:=Am6 (v*742939+(i:Int)*65063+40503) (show(0:Int)<16777213 by decide);generalize C:(v*742939+(i:Int)*65063+40503)%16777213=w at w0 u y;have i1:eval (k8 k) (.N .B<|.u 1) [y0 (.r r),si m,u0] h=.p (.i i) h:=by simp![xp e,la]
  obtain⟨d,f,b⟩:=g<|w*(w%4093+7)/64;refine⟨d,w,f,?_⟩;rw[jb<|by rw[l,On c.1,On c.2];rfl];rw[za (h1:=h.B r<|bC ns i w)<|Jt (by simp![xp e,la,n7,p,o,xl,w0]) rfl e rfl rfl rfl];have A:=Al6 w (show(4093:Int)≠0 by decide);have E:=Am6 w (show(0:Int)<4093 by decide);have t:Gm .mod w 4093=y0 (w%4093):=QD _ _ Y7;have s:Gm .p w (w%4093+7)=y0 (w*(w%4093+7)):=W2 _ _ Y8;have z:Gm .fdiv (w*(w%4093+7)) 64=y0 (w*(w%4093+7)/64):=LM _ _ Y7 Y7;have n:Gm .mod (w*(w%4093+7)/64) (m:Int)=y0 ((d:Nat):Int):=by rw[QD _ _ a,b]
  rw[Wa (w:=.i d) (h1:=h.B r<|bC ns i w)<|jc rfl<|by simp![xp<|Ac2<|(Ab3.j e).1,n7,t,xl,s,z,n]];exact Gb _ h _<|by rw[Ae]
def sH{ns:List Int}(b:ns.e<=63)(q:eval F e Y h=.p (.l<|ns.y .u) h):∃s,eval F (.bi .sum<|.a<|.eC e<|.u j) Y h=.p (.v<|.u s) h:=by
 have a:(cut ns u0<|y0 j).e<=aR:=by have:=EK ns u0<|y0 j;rw[Gc];lia
 refine⟨(cut ns u0<|y0 j).sum,?_⟩;simp![q,EW,Ms,Ih,jX,Aa4,a,Os]
def Et(k)(ns:List Int)(a:ns.e<=63)(h):∃v,call prog (k+1) "_law_start" [.l (ns.y .u)] h=.p (.j [.w (ns.y .u),.n (0),.u v]) h:=by show∃v,Gy _ (execs _ _ [y0 _] h)=_;obtain⟨s,e⟩:=sH (F:=(k8 k)) (e:=.var 0) (Y:=[y0 (.l<|ns.y .u)]) (h:=h) a (by simp![]);refine⟨s,?_⟩;simp only[XG];rw[Wa (w:=.j [.w (ns.y .u),.n (0),.u s]) (h1:=h)<|Zx rfl<|by generalize E.bi _ _=X at e⊢;simp![e];rfl,Gq _ _ _ rfl]
def NB(k)(t:ns.e<=63)(e:h[r]?=y0 (bC ns i v)):
 ∃j:Int,call prog (k+1) "_law_turn" [.r r] h=.p (.v .T) (h.B r<|bC ns (i+1) j):=by
 rw[Ga rfl _ _ _ rfl];have l:r<h.e:=(Ab3.j e).1;have c:(h.B r<|bC ns (i+1) v)[r]?=y0 _:=Ac2 l;show∃j,Gy _ (execs _ _ [y0 _] h)=_;simp only[wK];obtain⟨s,g⟩:=sH (F:=(k8 k)) (e:=.N .B<|.u 0) (Y:=[y0 (.r r)]) (h:=h.B r<|bC ns (i+1) v) t (by simp![xp c,rH]);have p:Gm .p 7 _=y0 (7*((i+1:Nat):Int)):=B8 _ _ Y7;have o:∀x:Int,Gm .mod x 16777213=y0 _:=λx=>QD _ _ Y7;have a:∀x y,(h.B r<|bC ns (i+1) x).B r _=h.B r (bC ns (i+1) y):=λx y=>Aj8 ..;have i1:((i:Int)+1)=((i+1:Nat):Int):=rfl;generalize n:(7*((i+1:Nat):Int)+s)%16777213=w;have f:(h.B r<|bC ns (i+1) w)[r]?=y0 _:=Ac2 l;rw[za (h1:=h.B r<|bC ns (i+1) v)<|Jt (by simp![xp e,la,xl,i1]) rfl e rfl rfl rfl];rw[za<|Jt (by generalize E.bi _ _=X at g⊢;simp![g,xp c,la,p,xl,o,n]) rfl c rfl rfl (a v w).I];have m:Gj (k8 k) (.C .lt (.N .B<|.u 1)<|.bi .j<|.a<|.N .B<|.u 0) [y0 (.r r)] (h.B r<|bC ns (i+1) w)=.p (u9<|i+1<ns.e) (h.B r<|bC ns (i+1) w):=by have:(u9<|((i+1:Nat):Int)<(ns.e:Int))=u9 (i+1<ns.e):=decide_eq_decide.p Y8;simp![xp f,la,rH,WO,av,Aa4,Z0,this]
 by_cases q:i+1<ns.e
 .refine⟨ns[i+1],?_⟩;have b:bX (ns.y D.int) ((i+1:Nat):Int)=y0 (.u ns[i+1]):=by rw[j3 _ _<|by rw[Aa4];exact q,Ad,Ab2 q];rfl
  rw[za<|(qH<|by rw[m,On q]).x<|by rw[za<|Jt (d:=.u ns[i+1]) (by simp![xp f,rH,la,vQ,b]) rfl f rfl rfl (a w _).I,zEs1]];rw[zEs1];exact GA _ h _<|by rw[Ae]
 .refine⟨w,?_⟩;rw[jb<|by rw[m,FS q],zEs1];exact GA _ h _<|by rw[Ae]
abbrev cj:List Tx:=[dn,fH,eR,gJ,mO,ZA,ic,ij,eV,J2,kv,gW,gw,gI,ib]
noncomputable def xI(st:Tx)(at' f k:Nat):Tx:=st.M at'++[97+(f+5*k)%26]++st.L at'
def cn(st:Tx)(at' f k:Nat):Tx:=if xI st at' f k∈cj then xI st at' f k++[113]else xI st at' f k
def vm(h:at'<=st.e):(cn st at' f k)[at']?=y0 (97+(f+5*k)%26):=by
 have b:(xI st at' f k)[at']?=y0 (97+(f+5*k)%26):=by unfold xI;rw[Ah6,Ad7<|by simp_all,Af6,Ai7 h,Vw];rfl
 unfold cn;split
 .rwa [Ae1 (Ab3.j b).1]
 .exact b
def La(a:st.e<=6):(cn st at' f k).e<=8:=by
 have b:(xI st at' f k).e<=7:=by unfold xI;rw[Ab9,Ab9,Af6,Ai0];simp only[Ab6,Ae0];lia
 unfold cn;split
 .rw[Ab9];simp[Ae0];exact ZAA
 .lia
def aH(t:Tx):Prop:=t≠[]/\(∀c∈t,97<=c/\c<123)/\t.e<=8/\t∉cj
def DT:∀t∈cj,t++[113]∉cj:=by decide
def NZ(e:st.e<=6)(d:∀c∈st,97<=c/\c<123):aH<|cn st at' f k:=by
 have b:∀c∈xI st at' f k,97<=c/\c<123:=λc a=>by
  unfold xI at a;rw[Ad9,Ad9,Ab8]at a;obtain(a|rfl)|a:=a
  .exact d c<|Al9 a
  .have:=Nat.mod_lt (f+5*k) (show 0<26 by decide);lia
  .exact d c<|UQ a
 refine⟨?_,λc a=>?_,La e,?_⟩
 .unfold cn;split
  .simp
  .exact(by unfold xI;simp)
 .unfold cn at a;split at a
  .obtain a|a:=Ad9.j a
   .exact b c a
   .cases Ab8.j a;decide
  .exact b c a
 .unfold cn;split
  .rename_i q;exact DT _ q
  .rename_i q;exact q
def B7:∀f<26,∀j<2,Ab (j+1) (97+f)∉cj:=by decide
def IC(st)(at' f m)(h:at'<=st.e)(b:m<=8):((Ab1 m).y<|cn st at' f).N:=A6 _ m b λi c j d ne z=>by have a:=vm (f:=f) (k:=i) h;rw[z,(vm h)]at a;have:=Ae3.inj a;lia
abbrev dg(r m:Nat)(f:Nat)(e b c d a:Option W):Sl:=[y0 (.r r),si m,y0 (.s fB),si f,e,b,c,d,a]
theorem vh(k):∀(l:List Nat) h v st x,h[r]?=y0 (bC ns i v)->st.e+l.e<=6->(∀c∈st,97<=c/\c<123)->∃O Z V,(O.e<=6/\∀c∈O,97<=c/\c<123)∧
 Gw (Gx [5] k9) (λY h=>execs (k8<|k+1) jk Y h) (l.y λj=>D.n j) (dg r m f (y0<|.s st) x u0 u0 u0) h=.p (dg r m f (y0<|.s O) V u0 u0 u0) (h.B r<|bC ns i Z)
|[],h,v,st,x,e,g,n=>⟨st,v,x,⟨by simpa using g,n⟩,by
  rw[show h.B r (bC ns i v)=h by
   refine List.ext_getElem? λj=>?_;by_cases q:r=j
   .subst q;rw[Ac2 (Ab3.j e).1,e]
   .rw[Ac5 q]]
  rfl⟩
|j::l,h,v,st,x,e,g,n=>by
  rw[Ab6]at g;obtain⟨d,v1,s,b⟩:=jJ k e (m:=26) Y7 Y7;have t:=(Ab3.j e).1
  obtain⟨O,Z,V,p,o⟩:=vh k l (h.B r<|bC ns i v1) v1 (st++[97+d]) (si j) (Ac2 t) (by rw[Ab9];simp;lia)<|λc a=>by
   rcases Ad9.j a with a|a
   .exact n c a
   .cases Ab8.j a;lia
  rw[Aj8]at o;refine⟨O,Z,V,p,?_⟩;have b:call prog (k+1) Yy [.r r,.v (.u 26)] h=.p (.i d) (h.B r<|bC ns i v1):=b;rw[Ac3,Zc (Y1:=dg r m f (y0<|.s st) (si j) u0 u0 u0) rfl<|by unfold jk;rw[za (Y1:=dg r m f (y0<|.s<|st++[97+d]) (si j) u0 u0 u0) (h1:=h.B r<|bC ns i v1)<|by simp![b,jx d s,add_str st [97+d] _<|by simp;lia],zEs1],o]
theorem uW(l:st.e<=6)(h):∀c j V O,j+c<=100->∃Z x8',Gw (Gx [5] k9) (λY h=>execs F Wg Y h) ((Ab1 c).y λi=>D.n<|j+i) (dg r m f (y0<|.s st) V (si at') (y0<|.j<|((Ab1 j).y<|cn st at' f).y .o) O) h=.p (dg r m f (y0<|.s st) Z (si at') (y0<|.j<|((Ab1<|j+c).y<|cn st at' f).y .o) x8') h
|0,j,V,O,_=>⟨V,O,rfl⟩
|c+1,j,V,O,G=>by
  obtain⟨y,B,e⟩:=uW l h c (j+1) (si<|j) (y0<|.s<|cn st at' f j) Y8;refine⟨y,B,?_⟩;have x:execs F Wg (dg r m f (y0<|.s st) (si<|j) (si at') (y0<|.j<|((Ab1 j).y<|cn st at' f).y .o) O) h=.p (dg r m f (y0<|.s st) (si<|j) (si at') (y0<|.j<|((Ab1<|j+1).y<|cn st at' f).y .o)<|y0<|.s<|cn st at' f j) h:=by
   have s:Gm .p 5 (j:Int)=y0 ((5*j:Nat):Int):=W4 5 j Y7;have v:((f:Int)+((5*j:Nat):Int))=((f+5*j:Nat):Int):=rfl;have z:Gm .mod ((f+5*j:Nat):Int) 26=y0 (((f+5*j)%26:Nat):Int):=OK _ 26 Y7;have A:=jx ((f+5*j)%26) (Nat.mod_lt _ Y7) h;have p:st.e<=aR:=by rw[Gc];exact ZAA
   have w:=HZ st at';have g:=Rp st at';have C:(st.M at').e<=6:=by rw[Af6];lia
   have H:(st.L at').e<=6:=by rw[Ai0];lia
   have n:=add_str (st.M at') [97+(f+5*j)%26] h (by simp only[Ab6,Ae0];exact PP ‹_› Y7);have a2:=add_str (st.M at'++[97+(f+5*j)%26]) (st.L at') h (by rw[Ab9];simp only[Ab6,Ae0];lia);have E:(xI st at' f j).e<=13:=by unfold xI;rw[Ab9,Ab9];simp only[Ab6,Ae0];lia
   have a3:=add_str (xI st at' f j) [113] h (by simp only[Ab6,Ae0];exact PP ‹_› Y7);have d:=Fc (xI st at' f j) cj h;have k:(((Ab1 j).y<|cn st at' f).y D.str).e<aR:=by rw[Gc,Aa4,Aa4,VG];lia
   have o:((Ab1<|j+1).y<|cn st at' f).y D.str=((Ab1 j).y<|cn st at' f).y D.str++[.o (cn st at' f j)]:=by rw[Al0];simp
   unfold Wg;rw[za (Y1:=dg r m f (y0<|.s st) (si<|j) (si at') (y0<|.j<|((Ab1 j).y<|cn st at' f).y .o)<|y0<|.s<|xI st at' f j)<|by simp![rb,p,w,g,s,xl,v,z,A,n,a2];rfl];have b:Gj F (.C .p .v8<|.i8 yl cj) (dg r m f (y0<|.s st) (si<|j) (si at') (y0<|.j<|((Ab1 j).y<|cn st at' f).y .o)<|y0<|.s<|xI st at' f j) h=.p (u9<|xI st at' f j∈cj) h:=by rw[Gj,zEe10,zEe1];rw[show Gn (dg r m f (y0<|.s st) (si<|j) (si at') (y0<|.j<|((Ab1 j).y<|cn st at' f).y .o)<|y0<|.s<|xI st at' f j) 8=y0 (.s<|xI st at' f j)from rfl,R.af,zEe34,R.af,d];rfl
   have a:∀t:Tx,t=cn st at' f j->execs F (.a<|.app 7 .v8) (dg r m f (y0<|.s st) (si<|j) (si at') (y0<|.j<|((Ab1 j).y<|cn st at' f).y .o)<|y0<|.s t) h=.p (dg r m f (y0<|.s st) (si<|j) (si at') (y0<|.j<|((Ab1<|j+1).y<|cn st at' f).y .o)<|y0<|.s<|cn st at' f j) h:=λt u=>by subst u;rw[o];simp![k,Os]
   by_cases q:xI st at' f j∈cj
   .rw[za (Y1:=dg r m f (y0<|.s st) (si<|j) (si at') (y0<|.j<|((Ab1 j).y<|cn st at' f).y .o)<|y0<|.s<|xI st at' f j++[113]) (h1:=h)<|(qH<|by rw[b,On q]).x<|by simp![a3]];exact a _<|by rw[cn,Fk q]
   .rw[jb<|by rw[b,FS q]];exact a _<|by rw[cn,FB q]
  rw[Aj,Ac3,Ae5,Zc rfl x];have:((λi=>D.n<|j+i)∘Nat.succ)=λi=>D.n<|j+1+i:=by funext i;show D.n (j+(i+1))=_;rw[show j+(i+1)=j+1+i by lia]
  rw[this,e,show j+1+c=j+(c+1)by lia]
def D1(c k:Nat):(Ab k [c]).Z=Ab k c:=by simp
def Hj(k)(e:h[r]?=y0 (bC ns i v))(W:m<=2):∃(N:List Tx)(I:Int),N.e=m/\N.N/\(∀t∈N,aH t)/\call prog (k+2) "_law_names" [.r r,.i m] h=.p (.j<|N.y .o) (h.B r<|bC ns i I):=by
 have p:∀w,_[r]?=y0 (bC ns i w):=λw=>Ac2<|(Ab3.j e).1;have E:∀w,(h.B r<|bC ns i w).e=h.e:=λw=>Ae ..;rw[Ga rfl _ _ _ rfl];show∃N I,_/\_/\_/\Gy _ _=_;simp only[JD];obtain⟨f,v1,L,D⟩:=jJ k e (m:=26) Y7 Y7;have D:call prog _ Yy [.r r,.v (.u 26)] h=.p _ _:=D;obtain⟨d,v2,X,s⟩:=jJ k (p v1) (m:=3) Y7 Y7;rw[Aj8]at s;have s:call prog _ Yy [.r r,.v (.u 3)] _=.p _ _:=s;rw[za (Y1:=[y0 (.r r),si m,y0 (.s fB),u0,u0,u0,u0,u0,u0]) (h1:=h) rfl,za (Y1:=dg r m f u0 u0 u0 u0 u0) (h1:=h.B r<|bC ns i v1)<|by simp![D]];have Q:∀h,Gs .j _ (.v<|.u 0) h=y0 _:=λh=>WG d 0 h;have M:Gj (k8<|k+1) (.C .j (.j Yy<|.b .B<|.u 3)<|.u 0) (dg r m f none none none none none) (h.B r<|bC ns i v1)=.p (decide<|d=0) (h.B r<|bC ns i v2):=by simp![s,Q]
 by_cases q:d=0
 .refine⟨(Ab1 m).y λj=>Ab (j+1)<|97+f,v2,by simp,A6 _ m (ZAA)<|λa U b K ne z=>by have:=congrArg List.length z;simp at this;lia,λt B=>?_,?_⟩
  .obtain⟨j,C,rfl⟩:=Ae9.j B;have:=Af8.j C;refine⟨by simp[Ad0],λc x=>?_,by rw[Ad4];lia,B7 f L j<|Ab4 ‹_› ‹_›⟩;rw[(List.mem_replicate.j x).2];lia
  .rw[Wa (w:=.j<|((Ab1 m).y λj=>Ab (j+1)<|97+f).y .o) (h1:=h.B r<|bC ns i v2)<|(qH (h1:=h.B r<|bC ns i v2)<|by rw[M,On q]).x<|Wa<|Zx rfl ?_]
   .exact Gq _ h _<|E v2
   .unfold Qt;rw[sS (n:=m) (λj=>.o<|Ab (j+1)<|97+f) rfl (ZAA) λj C=>⟨.s<|Ab (j+1)<|97+f,?_,rfl⟩]
    .rw[Ae5];rfl
    .have y:((j:Int)+1)=((j+1:Nat):Int):=rfl;have H:=mul_str [97+f] (j+1) (h.B r<|bC ns i v2) Y8 (by simp;lia);rw[D1]at H;simp![jx f L,xl,y,H]
 .rw[za (Y1:=dg r m f u0 u0 u0 u0 u0) (h1:=h.B r<|bC ns i v2)<|(hG (h1:=h.B r<|bC ns i v2)<|by rw[M,FS q]).x rfl,za (Y1:=dg r m f (y0<|.s []) u0 u0 u0 u0) (h1:=h.B r<|bC ns i v2) rfl];obtain⟨c,v3,x,u⟩:=jJ k (p v2) (m:=6) Y7 Y7;rw[Aj8]at u;have u:call prog (k+1) Yy [.r r,.v (.u 6)] (h.B r<|bC ns i v2)=.p (.i c) (h.B r<|bC ns i v3):=u;obtain⟨g,v4,o,⟨l,A⟩,G⟩:=vh k (ns:=ns) (i:=i) (r:=r) (m:=m) (f:=f) (Ab1 c) (h.B r<|bC ns i v3) v3 [] u0 (p v3) (by simp;exact Ag5 ‹_›) (λc x=>by cases x);rw[Aj8]at G;have S:Gr (k8<|k+1) (.aA<|.j Yy<|.b .B<|.u 6) (dg r m f (some<|.s []) none none none none) (h.B r<|bC ns i v2)=.p ((List.range c).y fun i=>.n i) (h.B r<|bC ns i v3):=by
   have K:-kb<=(c:Int)/\(c:Int)<kb:=by rw[Kb];lia
   simp![u];rw[Fk K,Af1]
  rw[za (Y1:=dg r m f (y0<|.s g) o u0 u0 u0) (h1:=h.B r<|bC ns i v4)<|by rw[zEx17,S,R.aQ];exact G];obtain⟨a,v5,U,J⟩:=jJ k (p v4) (m:=g.e+1) (SB _ _) Y8;rw[Aj8]at J;have P:g.e<=aR:=by rw[Gc];exact ZAA
  have y:((g.e:Int)+1)=((g.e+1:Nat):Int):=rfl;rw[za (Y1:=dg r m f (y0<|.s g) o (si a) u0 u0) (h1:=h.B r<|bC ns i v5)<|by simp![len_str,P,Os,av,xl,y,J],za (Y1:=dg r m f (y0<|.s g) o (si a) (y0<|.j []) u0) (h1:=h.B r<|bC ns i v5) rfl];obtain⟨T,V,O⟩:=uW (F:=(k8<|k+1)) (r:=r) (m:=m) (f:=f) (at':=a) l (h.B r<|bC ns i v5) m 0 o u0 Y8;simp only[Am8]at O;rw[za (Y1:=dg r m f (y0<|.s g) T (si a) (y0<|.j<|((Ab1 m).y<|cn g a f).y .o) V) (h1:=h.B r<|bC ns i v5)<|by rw[zEx17,Iz (n:=m) rfl<|ZAA,R.aQ];exact O];refine⟨(Ab1 m).y<|cn g a f,v5,by simp,IC g a f m (S3 ‹_›)<|ZAA,λt B=>?_,?_⟩
  .obtain⟨j,C,rfl⟩:=Ae9.j B;exact NZ l A
  .rw[Wa (w:=.j<|((Ab1 m).y<|cn g a f).y .o) (h1:=h.B r<|bC ns i v5) rfl];exact Gq _ h _<|E v5
abbrev sv(d:D):Option W:=y0<|.v d
noncomputable abbrev b8(ts:List Tx):D:=.p<|ts.y .o
def qg(s t)(h):Gs .j (.s s) (.s t) h=y0 (s==t):=by simp[Kc]
def Zs(t)(ts)(h):Gs .p (.s t) (.v<|b8 ts) h=y0 (u9<|t∈ts):=WX t ts (.v<|b8 ts) h rfl rfl
def Wh(e:Gj F c Y h=.p k9 h)(r:exec F s Y h=.j w h):execs F (.j (.iff c (.j s .p) .p) ss) Y h=.j w h:=Wa<|(qH e).x<|Wa r
def Mm(a l)(h):Gs .lt (.i a) (.i l) h=y0 (u9<|a<l):=by rw[Z0];congr 1;rw[decide_eq_decide];lia
abbrev ff(N T:List Tx)(p:Nat):List<|String×D:=[("names",b8 N),("signs",.w<|T.y .o),(YR,.n p)]
def rh(g:AH)(N T:List Tx)(p:Nat):AH:=g++[Cell.obj Yv (ff N T p)]
def qj(g)(N T)(p q):(rh g N T q).e=(rh g N T p).e:=by simp[rh]
def XL(g)(N T)(p):GD (rh g N T p) (y0<|.r g.e)=y0 (g.e,Yv,ff N T p):=by simp[GD,rh]
def R3(g)(N T)(p q):(rh g N T p).B g.e (.obj Yv<|ff N T q)=rh g N T q:=by simp[rh]
section
variable{F:Fx}{g:AH}{N T:List Tx}{p:Nat}{Y:Sl}
def HL(a:Gi Y 0=y0 (.r g.e)):eval F (.aM .B Yv "names") Y (rh g N T p)=.p (.v<|b8 N) (rh g N T p):=by rw[zEe44,zEe1,Gn,a];simp only[R.af,XL];rfl
def kW(a:Gi Y 0=y0 (.r g.e))(b:((ff N T p).p m).w=k9)(e:Gg F es Y (rh g N T p)=.p ws (rh g N T p)):
 eval F (.aI .B Yv m q es) Y (rh g N T p)=F.j q (.r g.e::ws.y W.arg) (rh g N T p):=by
 rw[zEe45,zEe1,Gn,a];simp[XL,b,e]
end
def yo(N T)(p):(ff N T p).p "signs"=some (.w<|T.y .o):=rfl
def so(N T)(p):(ff N T p).p YR=some (.n p):=rfl
noncomputable def tk(T:List Tx)(p:Nat):Tx:=T.G p []
def Rl{T:List Tx}(h:p<T.e):(T.y D.str)[p]?=y0 (.o<|tk T p):=by simp[tk,h]
def Mx(h:¬p<T.e):tk T p=[]:=by simp[tk,Ac9];rw[List.getElem?_eq_none<|VU ‹_›];rfl
def vH(m)(g)(N T)(p):call prog (m+1) YM [.r g.e] (rh g N T p)=.p (.s<|tk T p) (rh g N T p):=by
 rw[Ga rfl _ _ _ rfl];simp only[Xs];show Gy _ (execs _ _ [y0 _] _)=_;have z:Gs .lt (.i p) (.v<|.u<|(T.y D.str).e) (rh g N T p)=y0 (u9<|p<T.e):=by rw[Mm,Aa4]
 have b:eO .j [.l _] _=.p (.v<|.u<|(T.y D.str).e) (rh g N T p):=rfl;have a:Gj (k8 m) (.C .lt (.aM .B Yv YR)<|.bi .j<|.j (.aM .B Yv "signs") .p) [some (.r g.e)] (rh g N T p)=.p (decide<|p<T.e) (rh g N T p):=by simp![XL,yo,so,Os,b,z,av]
 by_cases q:p<T.e
 .rw[On q]at a;rw[Wh a<|jc rfl ?_,Gb _ _ _ rfl];simp![XL,yo,so,Os,vQ,j3 (T.y D.str) p<|by simp_all,Rl q]
 .rw[FS q]at a;rw[jb a,Wa rfl,Gb _ _ _ rfl,Mx q]
def CU(N T)(p q):bf YR (.n q) (ff N T p)=ff N T q:=rfl
def DX(N T)(p):(ff N T p).e<100:=by show 3<100;decide
def IQ(m)(g)(N T)(p):call prog (m+2) YN [.r g.e] (rh g N T p)=.p (.s<|tk T p) (rh g N T<|p+1):=by
 rw[Ga rfl _ _ _ rfl];simp only[wu];show Gy _ (execs _ _ [y0 _,u0] _)=_;have a:=kW (F:=(k8<|m+1)) (N:=N) (T:=T) (p:=p) (Y:=[y0 (.r g.e),u0]) (m:="here") (q:=YM) (es:=.p) rfl rfl rfl;rw[za (Y1:=[y0 _,y0 _])<|by rw[zEx2,(a.x<|vH m g N T p)];rfl];have b:eval (k8<|m+1) (.y .j (.aM .B Yv YR)<|.u 1) [some (.r g.e),some (.s<|tk T p)] (rh g N T p)=.p (.i<|p+1) (rh g N T p):=by
  have z:Gm .j p 1=y0 ((p+1:Nat):Int):=by rw[xl];rfl
  simp![XL,so,Os,av,z]
 rw[za (Y1:=[y0 _,y0 (.s _)])]
 .rw[Wa rfl,Gb _ _ _<|qj g N T p _]
 .rw[zEx25,b,R.aQ];show(match GD _ (y0 _)with|some (r,c,fs)=>_|none=>_)=_;rw[XL];show(if _ then _ else _)=_;rw[Fk ⟨rfl,DX N T p⟩,CU,R3]
section
variable{m:Nat}{g:AH}{N T:List Tx}{p:Nat}{Y:Sl}
def J5(a:Gi Y 0=y0 (.r g.e)):eval (k8<|m+1) (.aI .B Yv "here" YM .p) Y (rh g N T p)=.p (.s<|tk T p) (rh g N T p):=
 (kW (ws:=[]) a rfl rfl).x<|vH m g N T p
def XC(a:Gi Y 0=y0 (.r g.e)):eval (k8<|m+2) (.aI .B Yv "take" YN .p) Y (rh g N T p)=.p (.s<|tk T p) (rh g N T<|p+1):=
 (kW (ws:=[]) a rfl rfl).x<|IQ m g N T p
def vd(a:Gi Y 0=y0 (.r g.e)):exec (k8<|m+2) (.ex<|.aI .B Yv "take" YN .p) Y (rh g N T p)=.p Y (rh g N T<|p+1):=by rw[zEx13,XC a];rfl
def wL(t)(a:Gi Y 0=y0 (.r g.e)):Gj (k8<|m+1) (.C .j (.aI .B Yv "here" YM .p)<|.o t) Y (rh g N T p)=.p (tk T p==t) (rh g N T p):=by rw[Gj,zEe10,J5 a];simp only[R.af,zEe6,qg,R.aw,Gz,av]
end
def J9(F)(Y)(h)(a b):eval F (.p<|.b (.o a)<|.o b) Y h=.p (.v<|b8 [a,b]) h:=by simp![];rfl
def ID(F)(Y)(h)(a b c):eval F (.p<|.c (.o a) (.o b)<|.o c) Y h=.p (.v<|b8 [a,b,c]) h:=by simp![];rfl
def PY(m)(g)(N T)(p)(t)(b:tk T p=t):call prog (m+3) "Reader.take_just" [.r g.e,.s t] (rh g N T p)=.p (.v .T) (rh g N T<|p+1):=by
 rw[Ga rfl _ _ _ rfl];simp only[Xi];show Gy _ (execs _ _ [y0 _,y0 _] _)=_;have z:Gs .ne (.s<|tk T p) (.s t) (rh g N T<|p+1)=y0 false:=by rw[b];simp[Kc]
 have a:Gj (k8<|m+2) (.C .ne (.aI .B Yv "take" YN .p) .G) [some (.r g.e),some (.s t)] (rh g N T p)=.p false (rh g N T<|p+1):=by rw[Gj,zEe10,XC rfl];simp only[R.af,zEe1,Gn,Gi,z,R.aw,Gz,av]
 rw[za<|by rw[hG a];rfl];show Gy _ (.p _ _)=_;rw[GA _ _ _<|qj g N T p _]
def Pj(m w)(h)(c:w<20):call prog (m+1) Y4 [.i w] h=.p (.i<|w+1) h:=by
 rw[Ga rfl _ _ _ rfl];have z:Gs .j (.i w) (.v<|.u 20) h=y0 false:=by
  have:=WG w 20 h
  rwa [FS<|Ab5 ‹_›]at this
 have a:Gm .j w 1=y0 ((w+1:Nat):Int):=by rw[xl];rfl
 have b:prog.X.p "MOST_WITHIN"=some _:=rfl;simp![wy,z,a,b]
def Qi(e:Gi Y i=sv d):eval F (.var i) Y h=.p (.v d) h:=by rw[zEe1,Gn,e]
def Q4(e:Gi Y i=y0 (.s t))(a b):Gj F (.C .p (.var i)<|.p<|.b (.o a)<|.o b) Y h=.p (u9<|t∈[a,b]) h:=by rw[Gj,zEe10,Qi e,R.af,J9,R.af,Zs];rfl
def sW(e:Gi Y i=y0 (.s t))(a b c):Gj F (.C .p (.var i)<|.p<|.c (.o a) (.o b)<|.o c) Y h=.p (u9<|t∈[a,b,c]) h:=by rw[Gj,zEe10,Qi e,R.af,ID,R.af,Zs];rfl
def fR(e:Gi Y i=y0 (.s t))(a):Gj F (.C .j (.var i)<|.o a) Y h=.p (t==a) h:=by rw[Gj,zEe10,Qi e,R.af,zEe6];simp only[R.af,qg,R.aw,Gz]
abbrev bK:D:=.err YY "row" .T
section
variable{F:Fx}{e:E}{Y:Sl}{h h1:AH}{d:D}{ss:Ss}
def QS(a:GL e=u0)(q:eval F e Y h=.y d h1):execs F (.j (.ret e) ss) Y h=.y d h1:=by rw[zEs2,zEx14,a];simp[q];rfl
def xy(q:eval F e Y h=.y d h1):execs F (.j (.ae i e) ss) Y h=.y d h1:=by rw[zEs2,zEx2,q];rfl
def jp(q:eval F e Y h=.p (.v d) h1):execs F (.j (.ae i e) ss) Y h=execs F ss (GF Y i<|.v d) h1:=by rw[zEs2,zEx2,q];rfl
def vC(d:eval F a Y h=.p (.v d1) h1):(∀d2 h2,eval F b Y h1=.p (.v d2) h2->eval F (.p<|.j a<|.j b .p) Y h=.p (.t [d1,d2]) h2)/\∀x h2,eval F b Y h1=.y x h2->eval F (.p<|.j a<|.j b .p) Y h=.y x h2:=by refine⟨λd2 h2 c=>?_,λx h2 c=>?_⟩<;>(rw[zEe7,zEk2,d];simp[zEk2];rw[c];rfl)
end
def Qg(a:Gi Y 0=y0 (.r g.e))(h1:Gi Y i=sv w)(b:((ff N T p).p k).w=k9):
 eval (k8 m) (.aI .B Yv k q<|.a<|.var i) Y (rh g N T p)=call prog m q [.r g.e,.v w] (rh g N T p):=by
 have e:Gg (k8 m) (.a<|.var i) Y (rh g N T p)=.p [.v w] (rh g N T p):=by simp[Gn,h1,R.aw]
 rw[kW a b e];rfl
def vW(c:w<20)(a:Gi Y 0=y0 (.r g.e))(h1:Gi Y 1=si w)(b:((ff N T p).p k).w=k9):
 eval (k8<|m+1) (.aI .B Yv k q<|.a<|.j Y4<|.a .G) Y (rh g N T p)=call prog (m+1) q [.r g.e,.i (w+1)] (rh g N T p):=by
 have e:Gg (k8<|m+1) (.a<|.j Y4<|.a .G) Y (rh g N T p)=.p [.i (w+1)] (rh g N T p):=by simp[Gn,h1,Pj m w _ c]
 rw[kW a b e];rfl
def N2(e:Gj F c Y h=.p y9 h1):exec F (.fm (n+1) c b) Y h=.p Y h1:=by rw[zEx16,GP,e];rfl
def ye(a:Gi Y 0=y0 (.r g.e))(h2:Gi Y 2=y0 (.s t)):Gj F (.C .p .L<|.aM .B Yv "names") Y (rh g N T p)=.p (decide<|t∈N) (rh g N T p):=by rw[Gj,zEe10,Qi h2,R.af,HL a];simp[Zs,av]
abbrev Rk(g:AH)(N T:List Tx)(m:Nat)(nm:String)(w p:Nat):R W:=call prog m nm [.r g.e,.i w]<|rh g N T p
section
variable{g:AH}{N T:List Tx}{m w p q:Nat}{d:D}{h':AH}
def up(e:prog.fns.p nm=some ⟨2,3,.c (.ae 2<|.aI .B Yv k s<|.a .G) (.fm 100000 c b)<|.ret .L⟩)(f:((ff N T p).p k).w=true)(h:Rk g N T m s w p=.p (.v d) (rh g N T q))(a:∀Y,Gi Y 0=some (.r g.e)->Gj (k8 m) c Y (rh g N T q)=.p false (rh g N T q)):Rk g N T (m+1) nm w p=.p (.v d) (rh g N T q):=by rw[Rk,Ga e _ _ _ rfl,jp<|by rw[Qg rfl rfl f];exact h,show execs _ _ _ _=_ from(za<|N2<|a _ rfl).x<|Wa rfl];exact Gb _ _ _<|qj ..
def l9(b:prog.fns.p nm=some ⟨2,3,.j (.ae 2<|.aI .B Yv k s<|.a .G) ss⟩)(c:((ff N T p).p k).w=true)(a:Rk g N T m s w p=.y bK h'):Rk g N T (m+1) nm w p=.y bK h':=by rw[Rk,Ga b _ _ _ rfl,xy<|by rw[Qg rfl rfl c];exact a];rfl
def lr(b:Rk g N T (m+1) YC w p=.p (.v d) (rh g N T q))(h1:tk T q∉[([46]:Tx),[38],[43],[45]]):Rk g N T (m+4) Yw w p=.p (.v d) (rh g N T q):=by simp[Ug]at h1;refine up rfl rfl (up rfl rfl (up rfl rfl b λY a=>(wL [46] a).x<|by rw[beq_eq_false_iff_ne.p h1.1]) λY a=>(wL [38] a).x<|by rw[beq_eq_false_iff_ne.p h1.2.1]) λY a=>?_;rw[xg,Gj,zEe10,J5 a,R.af,J9];simp only[R.af,Zs,R.aw,Gz,av];rw[FS<|by simp[h1.2.2.1,h1.2.2.2]]
def BR(a:Rk g N T m YC w p=.y bK h'):Rk g N T (m+3) Yw w p=.y bK h':=l9 rfl rfl<|l9 rfl rfl<|l9 rfl rfl a
abbrev om(g:AH)(w:Nat)(x y:Option W):Sl:=[y0 (.r g.e),si w,x,y]
def at_(o)(a:Gy (rh g N T p).e o=r)(e:∀b ss,cq.j=.j b ss->execs (k8<|m+2) ss (om g w (y0<|.s<|tk T p) u0) (rh g N T<|p+1)=o):Rk g N T (m+3) YC w p=r:=by rw[Rk,Ga rfl _ _ _ rfl,←a,←e _ _ rfl];exact congrArg _<|jp<|XC rfl
def lJ(h:tk T p∉[([126]:Tx),[94],[40],J2,kv,gW]):Rk g N T (m+3) YC w p=if tk T p∈N then .p (.t [.o iX,.o (tk T p)]) (rh g N T<|p+1)else .y bK (rh g N T<|p+1):=by
 simp[Ug]at h;obtain⟨a,b,c,e,f,i⟩:=h;have j:∀u v,tk T p≠u->tk T p≠v->Gj (k8<|m+2) (.C .p .L<|.p<|.b (.o u)<|.o v) (om g w (y0<|.s<|tk T p) u0) _=.p y9 (rh g N T<|p+1):=λu v o n=>(Q4 rfl _ _).x (by rw[FS<|by simp_all]);split;next y=>
  refine at_ _ (Gb _ _ _<|qj ..) λl k d=>?_;cases d;rw[jb<|j _ _ a b,jb<|(fR rfl _).x<|by rw[beq_eq_false_iff_ne.p c],jb<|(sW rfl _ _ _).x<|by rw[FS<|by simp_all]];exact Wh ((ye rfl rfl).x<|by rw[On y])<|jc rfl<|by simp![]
 next y=>
  refine at_ (.y bK _) rfl λl k d=>?_;cases d;rw[jb<|j _ _ a b,jb<|(fR rfl _).x<|by rw[beq_eq_false_iff_ne.p c],jb<|(sW rfl _ _ _).x<|by rw[FS<|by simp_all],jb<|(ye rfl rfl).x<|by rw[FS y]];rfl
end
section
variable{g:AH}{N T:List Tx}{m w p q:Nat}{d:D}{h':AH}
def NF(a:w<20)(h:tk T p=[126])(e:Rk g N T (m+2) YC (w+1) (p+1)=.p (.v d) (rh g N T q)):Rk g N T (m+3) YC w p=.p (.t [.o eZ,d]) (rh g N T q):=by refine at_ _ (Gb _ _ _<|qj ..) λf c b=>?_;cases b;rw[h];exact Wa<|(qH<|(Q4 rfl _ _).x rfl).x<|Wa<|jc rfl<|(vC rfl).1 d _<|by rwa [vW a rfl rfl rfl]
def Mj(a:w<20)(h:tk T p=[40])(b:Rk g N T (m+3) Yw (w+1) (p+1)=.p (.v d) (rh g N T q))(h2:tk T q=[41]):Rk g N T (m+4) YC w p=.p (.v d) (rh g N T<|q+1):=by refine at_ _ (Gb _ _ _<|qj ..) λi f c=>?_;cases c;rw[h,jb<|(Q4 rfl _ _).x rfl];refine Wa<|(qH<|(fR rfl _).x rfl).x ?_;rw[jp<|by rw[vW a rfl rfl rfl];exact b];have e:eval (k8<|m+3) (.aI _ Yv "take_just" "Reader.take_just"<|.a<|.o [41]) (om g w (some<|.s [40])<|sv d) _=.p _ _:=(kW rfl rfl rfl).x<|PY m g N T q [41] h2;exact(za (by rw[zEx13];exact congrArg (R.bw · _) e)).x<|Wa rfl
abbrev rs(g:AH)(w:Nat)(x:Option W):Sl:=[y0 (.r g.e),si w,x]
def nr(o)(a:Gy (rh g N T p).e o=r)(e:∀b ss,cu.j=.j b ss->execs (k8<|m+1) ss (rs g w<|y0<|.s<|tk T p) (rh g N T p)=o):Rk g N T (m+2) YB w p=r:=by rw[Rk,Ga rfl _ _ _ rfl,←a,←e _ _ rfl];exact congrArg _<|jp<|J5 rfl
def Q6(h:tk T p=dn):(∀{d q},Rk g N T (m+2) Yw w (p+1)=.p (.v d) (rh g N T q)->Rk g N T (m+3) YB w p=.p (.t [.o dn,d]) (rh g N T q))/\∀{h'},Rk g N T (m+2) Yw w (p+1)=.y bK h'->Rk g N T (m+3) YB w p=.y bK h':=by
 have c:=vC (F:=(k8<|m+2)) (a:=.var 2) (b:=.aI .B Yv "expression" Yw<|.a .G) (Y:=rs g w<|some<|.s dn) (h1:=rh g N T<|p+1) rfl;refine⟨λ{d q} e=>nr _ (Gb _ _ _<|qj ..) λj i f=>?_,λ{h'} e=>nr (.y bK h') rfl λj i f=>?_⟩
 all_goals
  cases f;rw[h]
 .exact Wa<|(qH<|(Q4 rfl _ _).x rfl).x<|(za<|vd rfl).x<|Wa<|jc rfl<|c.1 d _<|by rwa [Qg rfl rfl rfl]
 .rw[zEs2,show exec _ _ _ _=_ from(qH<|(Q4 rfl _ _).x rfl).x<|(za<|vd rfl).x<|QS rfl<|c.2 _ _<|by rw[Qg rfl rfl rfl];exact e];rfl
def rr(h:tk T p∉[(dn:Tx),fH,eR,gJ,mO]):(∀{d q},Rk g N T (m+1) YE w p=.p (.v d) (rh g N T q)->Rk g N T (m+2) YB w p=.p (.v d) (rh g N T q))/\∀{h'},Rk g N T (m+1) YE w p=.y bK h'->Rk g N T (m+2) YB w p=.y bK h':=by
 simp[Ug]at h;refine⟨λ{d q} e=>nr _ (Gb _ _ _<|qj ..) λc b a=>?_,λ{h'} e=>nr (.y bK h') rfl λc b a=>?_⟩
 all_goals
  cases a;rw[jb<|(Q4 rfl _ _).x<|by simp_all,jb<|(Q4 rfl _ _).x<|by simp_all,jb<|(fR rfl _).x<|by rw[beq_eq_false_iff_ne.p h.2.2.2.2]]
 .exact Wa<|jc rfl<|by rwa [Qg rfl rfl rfl]
 .exact QS rfl<|by rwa [Qg rfl rfl rfl]
end
def Ed(a:bnd d Y=y0 Y1)(b:body Y1 h=.y e h2):Gw bnd body (d::ds) Y h=.y e h2:=by rw[Xx,a];simp[b]
def oE:prog.X.p "FIGURES"=some (.o pY):=rfl
abbrev jv:Tx:=[108,101,116,116,101,114]
abbrev lB:Tx:=[102,105,103,117,114,101]
abbrev sF:Tx:=[115,105,110,103,108,101]
abbrev xD:Tx:=[98,108,97,110,107]
abbrev rM:Tx:=pY
abbrev m3:Tx:=AE
noncomputable def bV(c:Nat):Tx:=if fB.w c=k9 then jv else if rM.w c=k9 then lB else if m3.w c=k9 then sF else xD
def eF(c:Nat):Prop:=bV c≠xD\/c=32
def uM(c)(t)(h):Gs .p (.s [c]) (.s t) h=y0 (t.w c):=rfl
def pO:prog.X.p "LETTERS"=some (.o fB):=rfl
def W5:prog.X.p "SINGLE_SIGNS"=some (.o m3):=rfl
def ZP(a:F.con.p x=y0 (.o t))(e:Gi Y 0=y0 (.s [c])):Gj F (.C .p .B<|.con x) Y h=.p (t.w c) h:=by rw[Gj,zEe10,Qi e,R.af,zEe2,a];simp only[R.af,uM,R.aw,Gz]
def ED(m c)(h)(f:eF c):call prog (m+1) YV [.s [c]] h=.p (.s<|bV c) h:=by
 rw[Ga rfl _ _ _ rfl];simp only[jj];unfold bV;by_cases a:fB.w c=k9
 .rw[Fk a,Wh (by rw[ZP pO rfl,a])<|jc rfl rfl,Gb _ _ _ rfl]
 .rw[FB a,jb<|by rw[ZP pO rfl,SN a]];by_cases d:rM.w c=k9
  .rw[Fk d,Wh (by rw[ZP oE rfl,d])<|jc rfl rfl,Gb _ _ _ rfl]
  .rw[FB d,jb<|by rw[ZP oE rfl,SN d]];by_cases b:m3.w c=k9
   .rw[Fk b,Wh (by rw[ZP W5 rfl,b])<|jc rfl rfl,Gb _ _ _ rfl]
   .rw[FB b,jb<|by rw[ZP W5 rfl,SN b]];have e:c=32:=by
     obtain z|z:=f
     .unfold bV at z;rw[FB a,FB d,FB b]at z;exact absurd rfl z
     .exact z
    subst e;rw[Wh (by rw[fR rfl];rfl)<|jc rfl rfl,Gb _ _ _ rfl]
def i7(a:Tx)(c:Nat):Prop:=bV c=a/\(bV c=jv\/bV c=lB)
instance(a:Tx)(c:Nat):Decidable<|i7 a c:=inferInstanceAs (Decidable<|_/\_)
def dM(x:List Tx×Tx)(c:Nat):List Tx×Tx:=
 if i7 x.2 c then(x.1.dropLast++[x.1.getLastD []++[c]],bV c)else if bV c≠xD then(x.1++[[c]],bV c)else(x.1,bV c)
abbrev dZ(t:Tx)(S:List Tx)(a:Tx)(x y:Option W):Sl:=[y0 (.s t),y0 (.j<|S.y .o),y0 (.s a),x,y]
def inv(S:List Tx)(a:Tx)(n:Nat):Prop:=(a=jv\/a=lB->S≠[])/\S.e<=n/\∀x∈S,x.e<=n
def AV{S:List Tx}(h:inv S a n):inv (dM (S,a) c).1 (dM (S,a) c).2<|n+1:=by
 unfold dM;split
 .rename_i q;have q:i7 a c:=q;have b:=h.1 (by rcases q.2 with z|z<;>rw[←q.1,z]<;>simp);refine⟨λ_=>by simp,?_,λx hx=>?_⟩
  .show(S.dropLast++_).e<=_;have:=h.2.1;simp;exact Af9 ‹_›
  .obtain hx|hx:=Ad9.j hx
   .exact Af9<|h.2.2 x<|(List.dropLast_prefix S).subset hx
   .rw[Ab8.j hx];have:S.getLastD []∈S:=by rw[List.getLastD_eq_getLast?,List.getLast?_eq_getLast b];exact List.getLast_mem b
    have:=h.2.2 _ this;rw[Ab9];exact TC this
 .split
  .refine⟨λ_=>by simp,by have:=h.2.1;simp;exact this,λx hx=>?_⟩;obtain hx|hx:=Ad9.j hx
   .exact Af9<|h.2.2 x hx
   .rw[Ab8.j hx];simp
  .rename_i q;refine⟨λz=>?_,Af9 h.2.1,λx hx=>Af9<|h.2.2 x hx⟩;have z:bV c=jv\/bV c=lB:=z;rw[(Am2.j q)]at z;rcases z with z|z<;>exact absurd z Y7
def PZ(xs)(x:α):bX (xs++[x]) (-1)=y0 x/\cL (xs++[x]).e (-1)=y0 xs.e:=by
 have:cL (xs++[x]).e (-1)=y0 xs.e:=by unfold cL;congr 1;simp;lia
 refine⟨?_,this⟩;unfold bX;rw[this];simp
def yI(m)(h)(t){S:List Tx}(j:inv S a n)(p:n<=900000)(o:eF c)(y):
 execs (k8<|m+1) wf (dZ t S a (y0<|.s [c]) y) h=.p (dZ t (dM (S,a) c).1 (dM (S,a) c).2 (y0<|.s [c])<|y0<|.s<|bV c) h:=by
 simp only[wf];refine(za<|by simp![(ED m c h o)];rfl).x ?_;have d:Gj (k8<|m+1) (.and (.C .j .v4 .L)<|.C .p .v4<|.p<|.b (.o nM)<|.o nS) (dZ t S a (y0<|.s [c])<|y0<|.s<|bV c) h=.p (u9<|i7 a c) h:=by
  have g:eval (k8<|m+1) (.C .j .v4 .L) (dZ t S a (y0<|.s [c])<|y0<|.s<|bV c) h=.p (.b<|bV c==a) h:=by simp![qg]
  have l:eval (k8<|m+1) (.C .p .v4<|.p<|.b (.o nM)<|.o nS) (dZ t S a (y0<|.s [c])<|y0<|.s<|bV c) h=.p (.b<|u9<|bV c∈[jv,lB]) h:=by rw[zEe10,Qi rfl,R.af,J9,R.af,Zs];rfl
  rw[Gj,zEe16,g];simp only[R.af,Gz,R.aw];by_cases q:bV c=a
  .rw[show(bV c==a)=k9 from by simp[q]];simp only[l,R.af,Gz,R.aw];congr 1;rw[decide_eq_decide];unfold i7;simp[q]
  .rw[show(bV c==a)=y9 from by simp[q]];have:¬i7 a c:=λz=>q z.1;simp[Gz,this]
 unfold dM;by_cases q:i7 a c
 .rw[On q]at d;have e:S≠[]:=j.1 (by rcases q.2 with z|z<;>rw[←q.1,z]<;>simp);obtain⟨b,x,rfl⟩:∃b x,S=b++[x]:=⟨S.dropLast,S.getLast e,(List.dropLast_concat_getLast e).I⟩;have hx:=j.2.2 x Y9;rw[za (Y1:=dZ t (b++[x++[c]]) a (y0<|.s [c])<|y0<|.s<|bV c) (h1:=h)]
  .simp only[Fk q];simp![];simp
  .rw[qH d];have k:=PZ (b.y D.str)<|.o x;have g:eval (k8<|m+1) (.y .j (.N .G<|.neg<|.u 1) .v3) (dZ t (b++[x]) a (y0<|.s [c])<|y0<|.s<|bV c) h=.p (.s<|x++[c]) h:=by rw[zEe9,zEe22,zEe1,Gn];simp only[Gi,R.af,zEe1,zEe3,zEe13,av,int?_int,R.aw,Ae8,Ac3,Al2];rw[show bU (.p<|b.y D.str++[D.str x]) (.v<|.u<|-1) h=y0 (.o x)from k.1];simp only[R.aw,R.af,Gn,Gi,yS];rw[Fk<|by rw[Gc];simp;lia]
   rw[za]
   .rfl
   .rw[zEx4,g,R.aQ];simp only[Gi,zEe3,zEe13,av,R.af,R.aQ,int?_int,R.aw,Ae8,Ac3,Al2,GO,Os,k.2,GF];simp
 .rw[FS q]at d;rw[FB q];by_cases f:bV c≠xD
  .rw[Fk f];rw[za (Y1:=dZ t (S++[[c]]) a (y0<|.s [c])<|y0<|.s<|bV c) (h1:=h)]
   .simp![]
   .rw[hG d,za]
    .rfl
    .have i:Gj (k8<|m+1) (.C .ne .v4<|.o mE) (dZ t S a (y0<|.s [c])<|y0<|.s<|bV c) h=.p k9 h:=by
      have z:Gs .ne (.s<|bV c) (.s xD) h=y0 true:=by simp[Kc,f]
      simp![z]
     rw[qH i];have:=j.2.1;simp![];rw[Fk<|by rw[Gc];simp;lia];simp
  .rw[FB f];rw[za (Y1:=dZ t S a (y0<|.s [c])<|y0<|.s<|bV c) (h1:=h)]
   .simp![]
   .rw[hG d,za]
    .rfl
    .have i:Gj (k8<|m+1) (.C .ne .v4<|.o mE) (dZ t S a (y0<|.s [c])<|y0<|.s<|bV c) h=.p y9 h:=by
      have z:Gs .ne (.s<|bV c) (.s xD) h=y0 false:=by rw[(Am2.j f)];simp[Kc]
      simp![z]
     rw[hG i];rfl
theorem By(m)(h)(t):∀j,(∀c∈j,eF c)->∀{S}{a}{n} x y,inv S a n->n+j.e<=900000→
 ∃O V,Gw (Gx [3] k9) (λY h=>execs (k8<|m+1) wf Y h) (dY j) (dZ t S a x y) h=.p (dZ t (j.a0 dM (S,a)).1 (j.a0 dM (S,a)).2 O V) h
|[],_,S,a,n,x,y,_,_=>⟨x,y,rfl⟩
|c::j,e,S,a,n,x,y,d,g=>by have i:n+(j.e+1)<=900000:=g;have b:=yI m h t d (Ac (Tg _ _) ‹_›) (e c Aa2) y;obtain⟨O,V,f⟩:=By m h t j (λc q=>e c<|Aa0 _ q) (y0<|.s [c]) (y0<|.s<|bV c) (AV d) Y8;refine⟨O,V,?_⟩;rw[show dY (c::j)=.o [c]::dY j from rfl,Zc rfl b];exact f
def wP(m)(h)(t)(b:∀c∈t,eF c)(e:t.e<=900000):call prog (m+2) YJ [.s t] h=.p (.j<|(t.a0 dM ([],xD)).1.y .o) h:=by
 rw[Ga rfl _ _ _ rfl];simp only[Jw];rw[za rfl,za rfl];obtain⟨x,y,d⟩:=By m h t t b u0 u0 (S:=[]) (a:=xD) (n:=0) ⟨λz=>absurd z Y7,Aa3 _,λx hx=>by cases hx⟩<|Vi ‹_› _;rw[za (Y1:=dZ t (t.a0 dM _).1 (t.a0 dM _).2 x y)]
 .rw[Wa rfl,Gq _ _ _ rfl]
 .rwa [zEx17]
def Sd(m c)(h)(f:¬eF c):call prog (m+1) YV [.s [c]] h=.y bK h:=by
 rw[Ga rfl _ _ _ rfl];simp only[jj];have q:bV c=xD/\c≠32:=by unfold eF at f;exact⟨Am2.j λz=>f<|.p z,λz=>f<|.w z⟩
 have e:fB.w c=y9/\rM.w c=y9/\m3.w c=false:=by
  have z:=q.1;unfold bV at z;split at z
  .exact absurd z Y7
  .split at z
   .exact absurd z Y7
   .split at z
    .exact absurd z Y7
    .rename_i a b d;exact⟨SN a,SN b,SN d⟩
 rw[jb<|by rw[ZP pO rfl,e.1],jb<|by rw[ZP oE rfl,e.2.1],jb<|by rw[ZP W5 rfl,e.2.2],jb<|by rw[fR rfl];simp[q.2]];rfl
theorem sE(m)(h)(t):∀j,(∃c∈j,¬eF c)->∀{S}{a}{n} x y,inv S a n->n+j.e<=900000→
 Gw (Gx [3] k9) (λY h=>execs (k8<|m+1) wf Y h) (dY j) (dZ t S a x y) h=.y bK h
|[],e,S,a,n,x,y,_,_=>by obtain⟨_,z,_⟩:=e;cases z
|c::j,e,S,a,n,x,y,g,k=>by
  have l:n+(j.e+1)<=900000:=k;rw[show dY (c::j)=.o [c]::dY j from rfl];by_cases q:eF c
  .rw[Zc rfl<|yI m h t g (Ac (Tg _ _) ‹_›) q y];refine sE m h t j ?_ _ _ (AV g) Y8;obtain⟨d,b,f⟩:=e;rcases Aa8.j b with rfl|b
   .exact absurd q f
   .exact⟨d,b,f⟩
  .have i:=Sd m c h q;refine Ed (Y1:=dZ t S a (y0<|.s [c]) y) rfl ?_;simp only[wf];rw[zEs2,show exec (k8<|m+1) (.ae 4<|.j YV<|.a .v3) (dZ t S a (some<|.s [c]) y) h=.y bK h by simp![i];rfl];rfl
def X9(m)(h)(t)(a:∃c∈t,¬eF c)(b:t.e<=900000):call prog (m+2) YJ [.s t] h=.y bK h:=by rw[Ga rfl _ _ _ rfl];simp only[Jw];rw[za rfl,za (Y1:=dZ t [] xD u0 u0) rfl];rw[zEs2,zEx17,show Gr (k8 _) _ _ h=.p _ h from rfl,R.aQ,(sE m h t t a u0 u0 (n:=0) ⟨λz=>absurd z Y7,Aa3 _,λx hx=>by cases hx⟩<|Vi ‹_› _)];rfl
theorem uH(s)(b:s=jv\/s=lB):∀w S (x:Tx),(∀c∈w,bV c=s)->w.a0 dM (S++[x],s)=(S++[x++w],s)
|[],S,x,_=>by simp
|c::w,S,x,h=>by have a:=h c Aa2;rw[Ah5,dM,Fk ⟨a,by rw[a];exact b⟩];simp only[List.dropLast_concat,List.getLastD_concat,a];rw[uH s b w S (x++[c]) λd e=>h d<|Aa0 _ e];simp
def Ap(h:97<=c/\c<123):fB.w c=true:=by
 have:∀c,c<123->97<=c->fB.w c=true:=by decide
 exact this c Y8 h.1
def Q9(h:97<=c/\c<123):bV c=jv:=by rw[bV,Fk<|Ap h]
def sg(d:aH y)(S)(f:a≠jv):y.a0 dM (S,a)=(S++[y],jv):=by
 cases y with
|nil=>exact absurd rfl d.1
|cons c g=>have b:=Q9<|d.2.1 c Aa2;rw[Ah5,show dM _ c=(S++[[c]],jv)by unfold dM;rw[FB<|λz=>f<|z.1.I.x b,Fk<|by rw[b];decide,b],uH jv (.p rfl) g S [c] λc e=>Q9<|d.2.1 c<|Aa0 _ e];rfl
def o7(a:aH y):∀c∈y,eF c:=λc b=>.p<|by rw[Q9<|a.2.1 c b];decide
def wQ{a b:Tx}(h:∀c∈a,eF c)(h2:∀c∈b,eF c):∀c∈a++b,eF c:=λc d=>(Ad9.j d).j (h c)<|h2 c
instance(c:Nat):Decidable<|eF c:=inferInstanceAs (Decidable<|_\/_)
abbrev c3(s:Tx):D:=.p [.o iX,.o s]
noncomputable def cY(x y:Tx):D:=.p [.p [.p [.o x],.p [.o y]],.p [.p [.o dn,c3 y],.p [.o ZA,c3 y,.p [.o eZ,c3 y]]]]
noncomputable def m6:D:=.p [.p [.p [],.p [.o [112]]],.p []]
noncomputable def BD:D:=.p [.p [.p [],.p []],.p []]
noncomputable def yx:D:=.p [.p [.p [],.p [.o [112]]],.p (Ab 11 (.p [.o fH,c3 [112]])++[.p [.o dn,c3 [112]]])]
noncomputable def tY:D:=.p [.p [.p [.o [97],.o [98],.o [99],.o [100]],.p [.o [101],.o [102],.o [103],.o [104]]],.p []]
def dX(x y:Tx):List<|Tx×D:=[([97],cY x y),([111],m6),([101],BD),(tm,yx),(gI,tY)]
noncomputable def HD(ps:List D)(d:List<|Tx×D):AH:=[.lst ps,.obj YL [(YF,.ref 2)],.gq d]
noncomputable def cls(n:Int):D:=.w<|(Ab1 16).y λ(k:Nat)=>.K<|u9 ((k:Int)=n)||u9 (k=15)
abbrev wD(K T:List Tx):D:=.p [b8 K,b8 T]
section
variable{F:Fx}{Y:Sl}{h h1:AH}
def PX(e:eval F a Y h=.p (.v d1) h1)(f:eval F b Y h1=.p (.v d2) h2):(∀d3 j,eval F c Y h2=.p (.v d3) j->eval F (.p<|.j a<|.j b<|.j c .p) Y h=.p (.t [d1,d2,d3]) j)/\∀x j,eval F c Y h2=.y x j->eval F (.p<|.j a<|.j b<|.j c .p) Y h=.y x j:=by refine⟨λd3 j d=>?_,λx j d=>?_⟩<;>(rw[zEe7,zEk2,e];simp[zEk2];rw[f];simp[R.aw];rw[d];rfl)
end
section
variable{g:AH}{N T:List Tx}{m w p q:Nat}{d d2:D}{h':AH}
def D3(h1:Rk g N T (m+2) Yw w p=.p (.v d) (rh g N T q))(h2:tk T q=ZA)(a:Rk g N T (m+2) Yw w (q+1)=.p (.v d2) (rh g N T q2)):Rk g N T (m+3) YE w p=.p (.t [.o ZA,d,d2]) (rh g N T q2):=by rw[Rk,Ga rfl _ _ _ rfl];simp only[Qd];rw[jp<|by rw[Qg rfl rfl rfl];exact h1,jp<|XC rfl,h2,jb<|rfl];exact(congrArg _<|Wa<|jc rfl<|(PX rfl rfl).1 d2 _<|by rwa [Qg rfl rfl rfl]).x<|Gb _ _ _<|qj ..
def Le(h1:Rk g N T (m+2) Yw w p=.y bK h'):Rk g N T (m+3) YE w p=.y bK h':=by rw[Rk,Ga rfl _ _ _ rfl];simp only[Qd];rw[xy<|by rw[Qg rfl rfl rfl];exact h1];rfl
def MO(h1:Rk g N T (m+2) Yw w p=.p (.v d) (rh g N T q))(h2:tk T q=[]):Rk g N T (m+3) YE w p=.y bK (rh g N T<|q+1):=by rw[Rk,Ga rfl _ _ _ rfl];simp only[Qd];rw[jp<|by rw[Qg rfl rfl rfl];exact h1,jp<|XC rfl,h2];rfl
def BV(h:tk T p∉[(eV:Tx),[91]]):(∀{d q},Rk g N T (m+1) YB w p=.p (.v d) (rh g N T q)->Rk g N T (m+2) Y3 w p=.p (.v d) (rh g N T q))/\∀{h'},Rk g N T (m+1) YB w p=.y bK h'->Rk g N T (m+2) Y3 w p=.y bK h':=by
 simp[Ug]at h;have e:Rk g N T (m+2) Y3 w p=Gy (rh g N T p).e (execs (k8<|m+1) (.a<|.ret<|.aI .B Yv "fact" YB<|.a .G) [some (.r g.e),si w]<|rh g N T p):=by rw[Rk,Ga rfl _ _ _ rfl];simp only[Wt];show Gy _ (execs _ _ [y0 _,si w] _)=_;rw[jb<|(wL _ rfl).x<|by rw[beq_eq_false_iff_ne.p h.1],jb<|(wL _ rfl).x<|by rw[beq_eq_false_iff_ne.p h.2]]
 refine⟨λa=>?_,λa=>?_⟩
 .rw[e,Wa<|jc rfl<|by rw[Qg rfl rfl rfl];exact a];exact Gb _ _ _<|qj ..
 .rw[e,QS rfl<|by rw[Qg rfl rfl rfl];exact a];rfl
def pZ(b:Rk g N T (m+1) YB w p=.p (.v d) (rh g N T q))(h:tk T p∉[(eV:Tx),[91]])(h2:tk T q∉[(ic:Tx),ij]):Rk g N T (m+4) YG w p=.p (.v d) (rh g N T q):=by exact up rfl rfl (up rfl rfl ((BV h).1 b) λY a=>(wL ic a).x<|by simp_all) λY a=>(wL ij a).x<|by simp_all
def pU(a:Rk g N T (m+1) YB w p=.y bK h')(h:tk T p∉[(eV:Tx),[91]]):Rk g N T (m+4) YG w p=.y bK h':=l9 rfl rfl<|l9 rfl rfl<|(BV h).2 a
end
section
variable{ps:List D}{dd:List<|Tx×D}{x y t:Tx}{T:List Tx}{m q:Nat}{v:D}{h':AH}{r:R W}
abbrev rt(x y t:Tx)(T:List Tx)(a b:Option W):Sl:=[sv (wD [x] [y]),y0 (.s t),y0 (.l<|T.y .o),a,b]
def vR(a:call prog m YJ [.s t] (HD ps dd)=.p (.j<|T.y .o) (HD ps dd))(b:exec (k8 m) (.ae 3<|.make Yv YQ<|.b .B .L) (rt x y t T none none) (HD ps dd)=.p (rt x y t T (some<|.r 3) none) (rh (HD ps dd) [x,y] T 0)):call prog (m+1) Yx [.v (wD [x] [y]),.s t] (HD ps dd)=Gy 3 (execs (k8 m) (.c (.ae 4<|.aI .v3 Yv "saying" YG<|.a<|.u 0) (.iff (.C .lt (.aM .v3 Yv YR)<|.bi .j<|.a .L) (.a<|.bx YY "row" .ai) .p)<|.ret .v4) (rt x y t T (some<|.r 3) none)<|rh (HD ps dd) [x,y] T 0):=by rw[Ga rfl _ _ _ rfl];simp only[Qk];rw[jb<|by simp![];rfl,za (Y1:=rt x y t T u0 u0) (h1:=HD ps dd)<|by simp![a],za b];rfl
def m8(a:call prog m YJ [.s t] (HD ps dd)=.p (.j<|T.y .o) (HD ps dd))(b:exec (k8 m) (.ae 3<|.make Yv YQ<|.b .B .L) (rt x y t T none none) (HD ps dd)=.p (rt x y t T (some<|.r 3) none) (rh (HD ps dd) [x,y] T 0))(c:Rk (HD ps dd) [x,y] T m YG 0 0=.y bK h'):call prog (m+1) Yx [.v (wD [x] [y]),.s t] (HD ps dd)=.y bK h':=by rw[vR a b,xy<|by exact c];rfl
def pT(a:call prog m YJ [.s t] (HD ps dd)=.p (.j<|T.y .o) (HD ps dd))(b:exec (k8 m) (.ae 3<|.make Yv YQ<|.b .B .L) (rt x y t T none none) (HD ps dd)=.p (rt x y t T (some<|.r 3) none) (rh (HD ps dd) [x,y] T 0))(c:Rk (HD ps dd) [x,y] T m YG 0 0=.p (.v v) (rh (HD ps dd) [x,y] T q))(d:Gy 3 (execs (k8 m) (.b (.iff (.C .lt (.aM .v3 Yv YR)<|.bi .j<|.a .L) (.a<|.bx YY "row" .ai) .p)<|.ret .v4) (rt x y t T (some<|.r 3)<|sv v)<|rh (HD ps dd) [x,y] T q)=r):call prog (m+1) Yx [.v (wD [x] [y]),.s t] (HD ps dd)=r:=by
 rwa [vR a b,jp<|by exact c]
end
section
variable{ps:List D}{dd:List<|Tx×D}{x y:Tx}{m:Nat}(hx:aH x)(hy:aH y)
def IU(t)(h:aH x)(a:t∈cj\/t.C (λc=>!u9 (97<=c/\c<123))=k9):x≠t:=λe=>by
 subst e;obtain a|a:=a
 .exact h.2.2.2 a
 .obtain⟨c,d,b⟩:=List.any_eq_true.j a;have:=h.2.1 c d;rw[On this]at b;cases b
def RK(T:List Tx)(h:aH x)(a:T.T (λt=>u9 (t∈cj)||t.C (λc=>!u9 (97<=c/\c<123)))=k9):x∉T:=λe=>by have:=Af0.j a x e;rw[Yd]at this;exact IU x h (this.imp_left Da) rfl
include hy
omit hy in
theorem nB{a b:Tx}{S:List Tx}{s:Tx}(d:aH y)(f:∀c∈a,eF c)(h:∀c∈b,eF c)(i:a.e+b.e<=100)(e:a.a0 dM ([],xD)=(S,s))(g:s≠jv):call prog (m+2) YJ [.s (a++y++b)] (HD ps dd)=.p (.j<|(b.a0 dM (S++[y],jv)).1.y .o) (HD ps dd):=by rw[wP m _ _ (wQ (wQ f<|o7 d) h)<|by have:=d.2.2.1;simp;lia,Aj0,Aj0,e,sg d _ g]
omit hy in
theorem iN(a:aH y)(T:List Tx)(h:T.T (λt=>u9 (t∈cj)||t.C (λc=>!u9 (97<=c/\c<123)))=k9):y∉T:=RK T a h
def Ej:call prog (m+15) Yx [.v (wD [x] [y]),.s (oK++y++[41])] (HD ps dd)=.p (.t [.o dn,c3 y]) (HD ps dd):=by
 refine pT (nB hy Y7 Y7 Y7 rfl Y7) (by rw[Za];rfl) (pZ ((Q6 rfl).1<|lr (Mj Y7 rfl (lr ((lJ<|iN hy _ rfl).x<|Fk<|Aa0 _ Aa2) ?_) rfl) ?_) ?_ ?_) rfl
 all_goals exact SD rfl
def Hi:call prog (m+15) Yx [.v (wD [x] [y]),.s (y++eD++y)] (HD ps dd)=.p (.t [.o ZA,c3 y,.p [.o eZ,c3 y]]) (HD ps dd):=by
 have b:=wP (m+12) (HD ps dd) (y++eD++y) (wQ (wQ (o7 hy) Y7)<|o7 hy) (by have:=hy.2.2.1;simp;lia);rw[Aj0,Aj0,sg hy [] Y7,show List.foldl dM _ eD=([y,ZA,[126]],sF)from rfl,sg hy _ Y7]at b;have a:∀{p w}{m},tk [y,ZA,[126],y] p=y->Rk _ [x,y] [y,ZA,[126],y] _ YC w p=.p _ _:=fun{p w m} e=>by have:=lJ (g:=HD ps dd) (N:=[x,y]) (m:=m) (w:=w) (by rw[e];exact iN hy _ rfl);rw[e,Fk<|Aa0 _ Aa2]at this;exact this
 refine pT b (by rw[Za];rfl) (pZ ((rr<|iN hy _ rfl).1<|D3 (lr (a rfl) ?_) rfl<|lr (NF Y7 rfl<|a rfl) ?_) (iN hy _ rfl) ?_) rfl
 all_goals exact SD rfl
include hx
def Ry:∃j,call prog (m+15) Yx [.v (wD [x] [y]),.s []] (HD ps dd)=.y bK (HD ps dd++j):=
 ⟨[_],m8 (wP _ _ [] Y7 Y7) (by rw[Za];rfl)<|pU ((rr<|SD rfl).2<|Le<|BR<|(lJ<|SD rfl).x<|FB λz=>by simp[SJ]at z;exact z.j (λz=>hx.1 z.I) λz=>hy.1 z.I)<|SD rfl⟩
def IH:∃j,call prog (m+15) Yx [.v (wD [x] [y]),.s y6] (HD ps dd)=.y bK (HD ps dd++j):=
 ⟨[_],m8 (wP _ _ _ Y7 Y7) (by rw[Za];rfl)<|pU ((Q6 rfl).2<|BR<|(lJ<|SD rfl).x<|FB λz=>by
   have l:∀t:Tx,aH t->([97,98,99,100,101,102,103,104,105]:Tx)≠t:=λt h e=>absurd (e▸h).2.2.1 Y7;obtain z|z:=Aa8.j z
   .exact l _ hx z
   .exact l _ hy<|Ab8.j z)<|SD rfl⟩
omit hy
def Rj:∃j,call prog (m+15) Yx [.v (wD [x] [y]),.s x] (HD ps dd)=.y bK (HD ps dd++j):=by have c:=nB (ps:=ps) (dd:=dd) (m:=m+12) (a:=[]) (b:=[]) hx Y7 Y7 Y7 rfl Y7;rw[Ac4,Af3]at c;exact⟨[_],m8 c (by rw[Za];rfl)<|pU ((rr<|iN hx _ rfl).2<|MO (lr ((lJ<|iN hx _ rfl).x<|Fk Aa2)<|SD rfl) rfl)<|iN hx _ rfl⟩
def NX:∃j,call prog (m+15) Yx [.v (wD [x] [y]),.s (hA++x++[32,41])] (HD ps dd)=.y bK (HD ps dd++j):=by
 refine⟨[_],pT (nB hx Y7 Y7 Y7 rfl Y7) (by rw[Za];rfl) (pZ ((Q6 rfl).1<|lr ((lJ<|iN hx _ rfl).x<|Fk Aa2) ?_) ?_ ?_) rfl⟩
 all_goals exact SD rfl
omit hx
include hy
def MH:∃j,call prog (m+15) Yx [.v (wD [x] [y]),.s (yP++y++[])] (HD ps dd)=.y bK (HD ps dd++j):=
 ⟨[_],m8 (T:=[eR,[49,48,48],y]) (nB (m:=m+12) hy Y7 Y7 Y7 rfl Y7) (by rw[Za];rfl)<|by rw[Rk,Za];rfl⟩
def LJ:∃j,call prog (m+15) Yx [.v (wD [x] [y]),.s (hA++y++[10])] (HD ps dd)=.y bK (HD ps dd++j):=by
 refine⟨[],?_⟩;rw[Ac4,Ga rfl _ _ _ rfl];simp only[Qk];rw[jb<|by simp![];rfl,xy]
 .rfl
 .exact X9 _ _ _ ⟨10,by simp,by decide⟩<|by have:=hy.2.2.1;simp;exact ZAA
end
def Fg(bs):KA (bs.y .K)=y0 bs:=by
 induction bs with
|nil=>rfl
|cons b bs a=>rw[Ac3,KA,a];rfl
def J4{bs:List Bool}(q:eval F e Y h=.p (.j<|bs.y .K) h):eval F (.bi .all<|.j e .p) Y h=.p (.b<|bs.T id) h:=by rw[zEe19,zEg2,q];show((R.of h _).j _)=_;rw[show W.bT h _=y0 (bs.y D.bl)from rfl,Ah8,Fg];simp[av]
def Oc{t L:Tx}(hi:Gp F it Y h=.p (dY t) h)(g:t.e<=90000)(f:∀c,eval F el (y0 (.s [c])::az.y λj=>Gn Y j) h=.p (.b<|L.w c) h):
 eval F (.bi .all<|.a<|.M [0] k9 1 az it y9 (.bl k9) el) Y h=.p (.b<|t.T L.w) h:=by
 have e:eval F (.M [0] k9 1 az it y9 (.bl k9) el) Y h=.p (.j<|(dY t).y λd=>match d with|.o [c]=>.K<|L.w c|_=>.T) h:=by refine Zk (λd=>match d with|.o [c]=>.K _|_=>.T) hi (by rw[Gc];simp[dY];exact ZAA) ?_;intro d b;obtain⟨c,i,rfl⟩:=Ae9.j b;exact⟨y0 _::az.y λj=>Gn Y j,rfl,.b _,f c,rfl⟩
 have a:(dY t).y (λd=>match d with|.o [c]=>D.bl<|L.w c|_=>.T)=(t.y L.w).y .K:=by simp[dY,Ae5]
 rw[a]at e;rw[J4 e,Vr];rfl
def Oe(t)(a:t.e<=90000)(h):eO .j [.s t] h=av (.n t.e) h:=by rw[len_str,Fk<|by rw[Gc];exact ZAA]
abbrev eX(c:String):D:=.exc c []
def CW:execs F (.j (.raise c<|.a<|.o s) ss) Y h=.y (eX c) h:=rfl
def mw(e:Gj F c Y h=.p k9 h)(r:execs F (.j s .p) Y h=.y d h1):execs F (.j (.iff c (.j s .p) .p) ss) Y h=.y d h1:=by rw[zEs2,qH e,r,O.eY]
theorem zo:∀ts:List Tx,GC (ts.y .o)=y0 ts
|[]=>rfl
|t::ts=>by simp[GC,zo ts]
def Pb(k)(f:aH t)(h):call prog (k+1) "is_word" [.s t] h=.p (.b true) h:=by
 obtain⟨a,b,c,_⟩:=f;have a:=List.length_pos_iff.p a;rw[Ga rfl _ _ _ rfl];have e:prog.X.p "MOST_LETTERS"=some _:=rfl;simp only[WR];have i:u9 (1<=(t.e:Int))=true:=On Y8;have j:u9 ((t.e:Int)<=(8:Int))=true:=On Y8;rw[jb<|by simp![xE,Ty.cA,(Oe t (ZAA) h),rg,e,i,j]];have d:=Oc (it:=.seq .B) (el:=.C .p .B<|.con "LETTERS") (az:=[]) (Y:=[some (.s t)]) (h:=h) (L:=fB) rfl (ZAA) fun c=>by rw[zEe10,Qi rfl,R.af,zEe2,show(k8 k).con.p "LETTERS"=some (.o fB)from rfl];simp only[R.af,uM,R.aw]
 rw[Af0.p λc g=>Ap<|b c g]at d;exact(congrArg _<|Wa<|jc rfl<|d).x<|Gb _ _ _ rfl
def Em(k)(a:aH t)(h):call prog (k+2) "is_name" [.s t] h=.p (.b true) h:=by
 rw[Ga rfl _ _ _ rfl];obtain⟨L,b⟩:∃L,L=cj.y D.str:=⟨_,rfl⟩;have lt:prog.X.p "TAKEN"=some (.p L):=by rw[b];rfl
 have c:Gs .dP (.s t) (.t L) h=y0 true:=by rw[b];show(Kd (.s t) (.v<|b8 cj) h).y (!·)=_;rw[show Kd (.s t) (.v<|b8 cj) h=y0 (decide _)from Zs t cj h,FS a.2.2.2];rfl
 simp![QW,(Pb k a h),lt,c]
def oW(k)(r:A.e<=2/\B.e<=2)(l:∀t∈A++B,aH t)(h):call prog (k+3) YK [.v (b8 A),.v (b8 B)] h=if fq [] (A++B)<(A++B).e then .y (eX YZ) h else .p (.v<|wD (GH A)<|GH B) h:=by
 obtain⟨x,v⟩:=r;rw[Ga rfl _ _ _ rfl];have i:prog.X.p "MOST_NAMES"=some _:=rfl;have j:(A.y D.str).e+(B.y D.str).e<=aR:=by rw[Gc];simp;lia
 simp only[QL];show Gy _ (execs _ _ [sv _,sv _,u0] h)=_;rw[za (Y1:=[sv _,sv _,y0 (.l<|(A++B).y .o)])<|by simp![D6,NW,j,Os];rw[Ae8]];have f:=J4<|by
   have:eval (k8<|k+2) jn [sv (b8 A),sv (b8 B),y0 (.l<|(A++B).y .o)] h=.p (.j<|((A++B).y D.str).y λ_=>.K k9) h:=by rw[jn,Zk (λ_=>.K k9) (by rfl)<|by rw[Gc];simp;lia];intro d q;obtain⟨t,p,rfl⟩:=Ae9.j q;refine⟨[y0 _],rfl,.b k9,?_,rfl⟩;simp![Em k (l t p) h]
   rw[this,Ae5,Ae5];rfl
 rw[show((A++B).y λ_=>k9).T id=k9 by simp]at f;have e:∀a,(W.v<|D.lst a).bT h=y0 a:=λ_=>rfl;have g:(A++B).e<1000:=by simp;lia
 have u:∀ts:List Tx,(W.v<|b8 ts).cT=y0 _:=λ_=>rfl;have n:A.e<64:=PP ‹_› Y7;have m:B.e<64:=PP ‹_› Y7;have b:u9 (((fq []<|A++B:Nat):Int)<((((A++B).y D.str).e:Nat):Int))=u9 (fq [] (A++B)<(A++B).e):=decide_eq_decide.p (by rw[Aa4];lia);rw[jb<|by rw[Gj,zEe15,f];rfl];split;(next c=>rw[mw (by simp![e,zo,g,Os,WO,Z0,b,On c]) CW];rfl);next c=>
  rw[jb<|by simp![e,zo,g,Os,WO,Z0,b,FS c]];have o:u9 ((4:Int)<((A.y D.str).e:Int))=false:=FS (by rw[Aa4];lia);have s:u9 ((4:Int)<((B.y D.str).e:Int))=false:=FS (by rw[Aa4];lia);rw[jb<|by simp![Q8,i,ya,o,s],Wa (w:=.v<|wD (GH A)<|GH B) (h1:=h)<|jc rfl<|by simp![u,zo,n,m,Os,MZ,av]];exact Gb _ _ _ rfl
def oM(k)(w)(ss)(c:ss.e<=12)(h):call prog (k+1) "theory_of" [.v w,.t ss] h=.p (.t [w,.p ss]) h:=by rw[Ga rfl _ _ _ rfl];have a:prog.X.p "MOST_SAYINGS"=some _:=rfl;have b:u9 (12<(ss.e:Int))=false:=FS Y8;simp only[zE];rw[jb<|by simp![Q8,a,ya,b]];exact Gb _ _ _ rfl
section
variable{k:Nat}{ps:List D}{dd:List<|Tx×D}{s a b:Tx}{wd d:D}{ss:List D}{h h':AH}
def L1(e:GW 32 s=y0 (a,b))(f:s.e<=1000):mM .part (.s s) [.s [32]] h=.p (.t [.o a,.o [32],.o b]) h:=by
 have c:GS s [32]=y0 (.p [.o a,.o [32],.o b]):=by simp[GS,e]
 show((R.of h<|y0 s).j λs h=>(R.of h<|y0 [32]).j λt h=>(R.of h _).j λd h=>if s.e<=aR then av d h else .w)=_;rw[R.aw,R.af,R.aw,R.af,c,R.aw,R.af,Fk<|by rw[Gc];exact ZAA]
noncomputable abbrev uX(c:D)(ss:List D)(s a b:Tx):Sl:=[y0 (.t [c,.p ss]),y0 (.s s),sv c,y0 (.t ss),y0 (.s a),y0 (.s [32]),y0 (.s b)]
def kH(o)(d:Gy h.e o=r)(e:GW 32 s=y0 (a,b))(c:s.e<=1000)(z:∀b1 b2 j st,c5.j=.j b1 (.j b2<|.j j st)->execs (k8 k) st (uX wd ss s a b) h=o):call prog (k+1) YD [.t [wd,.p ss],.s s] h=r:=by rw[Ga rfl _ _ _ rfl,←d,←z _ _ _ _ rfl];simp only[c5];rw[za (Y1:=[y0 _,y0 _,sv wd,y0 _,u0,u0,u0]) rfl,jb<|by simp![xE,Ty.cA],za (Y1:=uX wd ss s a b) (h1:=h)<|by simp![E8,Os,L1 e c]]
def oI(e:GW 32 s=y0 (ib,b))(f:s.e<=1000)(n:ss.e<=3):(call prog (k+1) Yx [.v wd,.s b] h=.p (.v d) h->call prog (k+2) YD [.t [wd,.p ss],.s s] h=.p (.t [wd,.p (ss++[d])]) h)/\(call prog (k+1) Yx [.v wd,.s b] h=.y bK h'->call prog (k+2) YD [.t [wd,.p ss],.s s] h=.y bK h'):=by
 refine⟨λa=>kH _ (Gb _ _ _ rfl) e f λm l g i c=>?_,λa=>kH (.y bK h') rfl e f λm l g i c=>?_⟩
 .cases c;have ct:GN .j (.t ss) (.t [d]) h=.p (.t<|ss++[d]) h:=by rw[xB,Fk<|by rw[Gc];simp;exact ZAA]
  have j:=oM k wd (ss++[d]) (by simp;exact ZAA) h;exact Wh ((fR rfl _).x rfl)<|jc rfl<|by simp![a,ct,j]
 .cases c;exact mw ((fR rfl _).x rfl)<|QS rfl<|by simp![a,R.di]
end
section
variable{k:Nat}{ps:List D}{dd:List<|Tx×D}{s b w:Tx}{th th' d:D}{ss:List D}{h h':AH}
def AG(e:GW 32 s=y0 (gw,b))(f:s.e<=1000)(o:A.e<=1)(a:call prog (k+3) YK [.v (b8<|A++[b]),.v (b8 B)] h=r):(∀w,r=.p (.v w) h->call prog (k+4) YD [.t [wD A B,.p []],.s s] h=.p (.t [w,.p []]) h)/\(r=.y (eX YZ) h->call prog (k+4) YD [.t [wD A B,.p []],.s s] h=.y (eX YZ) h):=by
 have ct:GN .j (.v<|b8 A) (.t [.o b]) h=.p (.v<|b8<|A++[b]) h:=by rw[xB,Fk<|by rw[Gc];simp;exact ZAA,b8,Ae8];rfl
 have g:Gs .j (.t []) (.t []) h=y0 true:=rfl;have i0:bU (.v<|wD A B) (.v<|.u 0) h=y0 _:=rfl;have i1:bU (.v<|wD A B) (.v<|.u 1) h=y0 _:=rfl;have i:Gs .j (.s gw) (.s gw) h=y0 true:=qg ..;refine⟨λw d=>kH _ (Gb _ _ _ rfl) e f λn m j l c=>?_,λd=>kH (.y _ h) rfl e f λn m j l c=>?_⟩
 .cases c;rw[d]at a;rw[jb<|(fR rfl _).x rfl];exact Wh (by simp![i,g])<|jc rfl<|by simp![i0,i1,ct,a,oM _ w [] Y9 h]
 .cases c;rw[d]at a;rw[jb<|(fR rfl _).x rfl];exact mw (by simp![i,g])<|QS rfl<|by simp![i0,i1,ct,a,R.di]
def Nb{w:D}(e:GW 32 s=y0 (gI,b))(a:s.e<=1000)(m:B.e<=1)(g:call prog (k+3) YK [.v (b8 A),.v (b8<|B++[b])] h=.p (.v w) h):call prog (k+4) YD [.t [wD A B,.p []],.s s] h=.p (.t [w,.p []]) h:=by
 have ct:GN .j (.v<|b8 B) (.t [.o b]) h=.p (.v<|b8<|B++[b]) h:=by rw[xB,Fk<|by rw[Gc];simp;exact ZAA,b8,Ae8];rfl
 have c:Gs .j (.t []) (.t []) h=y0 true:=rfl;have i0:bU (.v<|wD A B) (.v<|.u 0) h=y0 _:=rfl;have i1:bU (.v<|wD A B) (.v<|.u 1) h=y0 _:=rfl;have d:Gs .j (.s gI) (.s gw) h=y0 false:=qg ..;have f:Gs .j (.s gI) (.s gI) h=y0 true:=qg ..;refine kH _ (Gb _ _ _ rfl) e a λo n j l i=>?_;cases i;rw[jb<|(fR rfl _).x rfl,jb<|by simp![d]];exact Wh (by simp![f,c])<|jc rfl<|by simp![i0,i1,ct,g,oM _ w [] Y9 h]
def nj(e:call prog k YD [.v d,.v x] h=.p (.v r) h):call prog (k+1) YA [.v d,.v x] h=.p (.v r) h:=by rw[Ga rfl _ _ _ rfl];simp only[qL];rw[Wa<|by rw[zEx24];show(match call prog k YD [.v d,.v x] h with|.p (.v d) h=>_|.y d a=>_|_=>_)=_;rw[e]];exact Gb _ _ _ rfl
def vq(e:call prog k YD [.v th,.v x] (HD ps dd)=.y d (HD ps dd++hh))(c:GE d=true)(ix:bO prog.cl (.v d) [YS]=some true)(f:call prog k Y5 [.v th] (HD ps dd)=.p (.i n) (HD ps dd)):call prog (k+1) YA [.v th,.v x] (HD ps dd)=.y (.p [.err YY "row" (.n n)]) (HD ps dd):=by
 rw[Ga rfl _ _ _ rfl];show Gy _ (execs _ _ [sv th,sv x] _)=_;have b:GI d (HD ps dd).e (HD ps dd++hh)=HD ps dd:=by unfold GI;rw[List.take_left,c];rfl
 show Gy _ (O.seq (match call prog k YD [.v th,.v x] (HD ps dd)with|.p (.v d) h=>_|.y d g=>_|_=>_) _)=_;rw[e];dsimp only;rw[b];have a:Gk (k8 k) (.a<|.j Y5<|.a .B) [sv th,sv x] (HD ps dd)=.p [.n n] (HD ps dd):=by simp![f]
 rw[a,KI,ix];rfl
set_option tactic.hygienic true in
def Hq(e:(iR:Tx).a4 s=k9)(b:s.e<=1000):call prog (k+1) "split_row" [.s s] h=.p (.j<|(aN 32 2 [] s).y .o) h:=by
 rw[Ga rfl _ _ _ rfl];simp only[Qr];have a:mM .starts (.s s) [.s iR] h=.p (.b k9) h:=by show av _ h=_;rw[e]
 have c:Kz k9 (.s s) h=.p (.j<|(aN 32 2 [] s).y .o) h:=by rw[Kz,Fk<|by rw[Gc];lia];rfl
 rw[Wa<|(qH (h1:=h)<|by simp![yC,Os,a]).x<|Wa<|Zx rfl<|by assumption];exact Gq _ _ _ rfl
end
section
variable{k:Nat}{ps:List D}{dd:List<|Tx×D}{s r w:Tx}{th th' d:D}{h h':AH}
def tu(e:(iR:Tx).a4 s=k9)(c:s.e<=1000)(b:aN 32 2 [] s=[dC,w,r])(a:w∈[([97]:Tx),[113]]):call prog (k+5) YH [.s s] (HD ps dd)=.p (.l [.o dC,.o w,.o r]) (HD ps dd):=by
 rw[Ga rfl _ _ _ rfl];simp only[xj];have sp:=Hq (k:=k+3) (h:=HD ps dd) e c;rw[b]at sp;rw[jb<|by simp![xE,Ty.cA],za (Y1:=[y0 (.s s),y0 (.l [.o dC,.o w,.o r]),u0]) (h1:=HD ps dd)<|by simp![sp]];simp[Aa8,Ac7,SJ]at a;rw[Za];rcases a with rfl|rfl<;>rfl
def Lq(e:(iR:Tx).a4 s=true)(g:s.e<=1000)(h:aN 32 2 [] s=[dC,w,r])(i:w∈[([97]:Tx),[113]]){F:Fx}(b:F=(k8<|k+5))(l:dd.e<=100)(st:F.j Yz [.r 1,.s w] (HD ps dd)=.p (.v th) (HD ps dd)):(F.j YA [.v th,.s r] (HD ps dd)=.p (.v th') (HD ps dd)->Gf th'=true->call prog (k+6) Yt [.r 1,.s s] (HD ps dd)=.p (.s zH) (HD ps<|Kh dd w th'))/\(F.j YA [.v th,.s r] (HD ps dd)=.y d h'->call prog (k+6) Yt [.r 1,.s s] (HD ps dd)=.y d h'):=by
 have p:F.j YH [.s s] (HD ps dd)=.p (.l [.o dC,.o w,.o r]) (HD ps dd):=by rw[b];exact tu (k:=k) (ps:=ps) (dd:=dd) e g h i
 rw[Ga (f:=Yt) (d:=zd) rfl _ _ _ rfl];simp only[zd,←b];show(_->_->Gy _ (execs _ _ [y0 (.r 1),y0 (.s s),u0,u0] _)=_)/\(_->Gy _ (execs _ _ [y0 (.r 1),y0 (.s s),u0,u0] _)=_);rw[za (Y1:=[y0 (.r 1),y0 (.s s),y0 (.l [.o dC,.o w,.o r]),u0]) (h1:=HD ps dd)<|by simp![p],jb<|show _=R.ok y9 _ from rfl,za (Y1:=[y0 (.r 1),y0 (.s s),y0 (.l [.o dC,.o w,.o r]),sv th]) (h1:=HD ps dd) (by rw[zEx2];exact congrArg (R.bw · _) st)];have c:eval F (.j YA<|.b .v3<|.N .L<|.u 2) [some (.r 1),some (.s s),some (.l [.o dC,.o w,.o r]),sv th] _=F.j YA [.v th,.s r] (HD ps dd):=rfl;refine⟨λa j=>?_,λa=>?_⟩
 .refine(congrArg _<|Wa<|(qH (h1:=HD ps dd) rfl).x<|(za (Y1:=[y0 (.r 1),y0 (.s s),y0 (.l [.o dC,.o w,.o r]),sv th]) (h1:=HD ps<|Kh dd w th') ?_).x<|Wa (w:=.s zH) rfl).x rfl;rw[zEx20,c,a];show(if dd.e<aR/\Gf th'=k9 then _ else _)=_;rw[Fk ⟨by rw[Gc];exact PP ‹_› Y7,j⟩];rfl
 .rw[zEs2,qH (h1:=HD ps dd) rfl,zEs2,zEx20,c,a];rfl
end
abbrev a8(A B:List Tx)(ss:List D):D:=.p [wD A B,.p ss]
abbrev cv(y:Tx):D:=.p [.o dn,c3 y]
abbrev de(y:Tx):D:=.p [.o ZA,c3 y,.p [.o eZ,c3 y]]
noncomputable abbrev rK(x:Tx):Tx:=107::([105,110,100,32]++x)
abbrev rT(x:Tx):Tx:=116::([105,101,32]++x)
abbrev rS(t:Tx):Tx:=115::([97,121,32]++t)
noncomputable abbrev tl(w:Nat)(t:Tx):Tx:=[116,101,108,108,32,w,32]++t
section
variable{k:Nat}{ps:List D}{dd:List<|Tx×D}{x y:Tx}
def DJ(a:aH x):call prog (k+3) YK [.v (b8<|[]++[x]),.v (b8 [])] h=.p (.v<|wD [x] []) h:=(oW k Y9 (by simp_all) h).x rfl
def Dz(c:aH x)(b:aH y)(a:x≠y):call prog (k+3) YK [.v (b8 [x]),.v (b8<|[]++[y])] h=.p (.v<|wD [x] [y]) h:=
 (oW k Y9 (by simp_all) h).x<|FB<|by simp[fq,a]
def Rm(b:aH x)(a:aH y):call prog (k+3) YK [.v (b8<|[x]++[x]),.v (b8 [y])] h=.y (eX YZ) h:=
 (oW k Y9 (by simpa using⟨b,a⟩) h).x<|Fk<|by simp[fq];split<;>lia
def AQ(a:[w]∈[([97]:Tx),[113]]):aN 32 2 [] (tl w<|c::r)=[dC,[w],c::r]:=by
 simp[and_true]at a;rcases a with rfl|rfl<;>rfl
def sy(e:r.e<=90)(a:[w]∈[([97]:Tx),[113]])(b:dd.e<=100)(st:call prog (k+5) Yz [.r 1,.s [w]] (HD ps dd)=.p (.v th) (HD ps dd)):(call prog (k+5) YA [.v th,.s (c::r)] (HD ps dd)=.p (.v th') (HD ps dd)->Gf th'=true->call prog (k+6) Yt [.r 1,.s (tl w<|c::r)] (HD ps dd)=.p (.s zH) (HD ps<|Kh dd [w] th'))/\(call prog (k+5) YA [.v th,.s (c::r)] (HD ps dd)=.y d h'->call prog (k+6) Yt [.r 1,.s (tl w<|c::r)] (HD ps dd)=.y d h'):=
 Lq rfl (by simp;exact ZAA) (AQ a) a rfl b st
def sC(a:aH x):call prog (k+20) YA [.v (a8 [] [] []),.s (rK x)] h=.p (.v<|a8 [x] [] []) h:=by have:=a.2.2.1;exact nj<|(AG rfl (by simp;exact ZAA) Y7<|DJ a).1 _ rfl
def A7(c:aH x)(a:aH y)(b:x≠y):call prog (k+20) YA [.v (a8 [x] [] []),.s (rT y)] h=.p (.v<|a8 [x] [y] []) h:=by have:=a.2.2.1;exact nj<|Nb rfl (by simp;exact ZAA) Y7<|Dz c a b
def DC(a:aH y):call prog (k+20) YA [.v (a8 [x] [y] []),.s (rS<|oK++y++[41])] (HD ps dd)=.p (.v<|a8 [x] [y] [cv y]) (HD ps dd):=by have:=a.2.2.1;exact nj<|(oI (h':=[]) rfl (by simp;exact ZAA) Y7).1<|Ej a
def FX(a:aH y):call prog (k+20) YA [.v (a8 [x] [y] [cv y]),.s (rS<|y++eD++y)] (HD ps dd)=.p (.v<|a8 [x] [y] [cv y,de y]) (HD ps dd):=by have:=a.2.2.1;exact nj<|(oI (h':=[]) rfl (by simp;lia) Y9).1<|Hi a
end
section
variable{k:Nat}{ps:List D}{dd:List<|Tx×D}{x y:Tx}
def RB(th):call prog (k+20) Yz [.r 1,.s [97]] (HD ps [([97],th)])=.p (.v th) (HD ps [([97],th)]):=by rw[Za];rfl
def sa(a:r.e<=90)(e:call prog (k+20) YA [.v th,.s (c::r)] (HD ps [([97],th)])=.p (.v th') (HD ps [([97],th)]))(b:Gf th'=true):call prog (k+21) Yt [.r 1,.s (tl 97<|c::r)] (HD ps [([97],th)])=.p (.s zH) (HD ps [([97],th')]):=by exact((sy (d:=.T) (h':=[]) a Y9 Y9<|RB th).1 e b)
def LR(a:aH x):call prog (k+21) Yt [.r 1,.s (tl 97<|rK x)] (HD ps [([97],a8 [] [] [])])=.p (.s zH) (HD ps [([97],a8 [x] [] [])]):=by have l:=a.2.2.1;have b:=sa (by simp;exact ZAA) (sC (k:=k) (h:=HD ps [([97],a8 [] [] [])]) a) rfl;exact b
def Nn(c:aH x)(a:aH y)(d:x≠y):call prog (k+21) Yt [.r 1,.s (tl 97<|rT y)] (HD ps [([97],a8 [x] [] [])])=.p (.s zH) (HD ps [([97],a8 [x] [y] [])]):=by have l:=a.2.2.1;have b:=sa (by simp;exact ZAA) (A7 (k:=k) (h:=HD ps [([97],a8 [x] [] [])]) c a d) rfl;exact b
def RW(a:aH y):call prog (k+21) Yt [.r 1,.s (tl 97<|rS<|oK++y++[41])] (HD ps [([97],a8 [x] [y] [])])=.p (.s zH) (HD ps [([97],a8 [x] [y] [cv y])]):=by have l:=a.2.2.1;have b:=sa (by simp;exact ZAA) (DC (k:=k) (ps:=ps) (x:=x) a) rfl;exact b
def Io(a:aH y):call prog (k+21) Yt [.r 1,.s (tl 97<|rS<|y++eD++y)] (HD ps [([97],a8 [x] [y] [cv y])])=.p (.s zH) (HD ps [([97],a8 [x] [y] [cv y,de y])]):=by have l:=a.2.2.1;have b:=sa (by simp;lia) (FX (k:=k) (ps:=ps) (x:=x) a) rfl;exact b
end
section
variable{k:Nat}{ps:List D}{dd:List<|Tx×D}{x y:Tx}
def ny(e:call prog (k+2) Yt [.r 1,.v row] (HD ps dd)=.y d (HD ps dd))(a:∀b1 b2 ss j,bb.j=.j b1 (.j b2 ss)->b2=.fM .B YL Y0 Yt (.a .G) YS 3 j->Gy 3 ((nu prog.cl YS 3 (fun Y h=>execs (k8<|k+2) j Y h) [some (.r 1),sv row,sv .T,none,none]<|.y (gE d)<|HD ps dd).seq fun Y h=>execs (k8<|k+2) ss Y h)=r):call prog (k+3) Yu [.r 1,.v row] (HD ps dd)=r:=by
 rw[Ga rfl _ _ _ rfl,←a _ _ _ _ rfl rfl];simp only[bb];rw[za (Y1:=[y0 (.r 1),sv row,sv .T,u0,u0]) rfl,zEs2,zEx22];have t:kT (call prog<|k+2) Yt 1 [some (.r 1),sv row,sv .T,none,none] (.p [.v row]<|HD ps dd)=.y (gE d) (HD ps dd):=by
  show(match call prog (k+2) Yt [.r 1,.v row] (HD ps dd)with|.p _ b=>_|.y d b=>_|.w=>_)=_;rw[e];show O.exc _ _=_;have:GI (gE d) (HD ps dd).e (HD ps dd)=HD ps dd:=by unfold GI;rw[An];split<;>rfl
  rw[this]
 show Gy 3 ((nu _ _ _ _ _<|kT (call prog<|k+2) Yt 1 [some (.r 1),sv row,sv .T,none,none]<|.p [.v row]<|HD ps dd).seq _)=_;rw[t]
def AZ(e:call prog (k+2) Yt [.r 1,.v row] (HD ps dd)=.y (.p [.err YY "row" (.n n)]) (HD ps dd)):call prog (k+3) Yu [.r 1,.v row] (HD ps dd)=.p (.t [cls 4,.n n]) (HD ps dd):=by refine ny e λf d c g a b=>?_;cases a;cases b;rw[Za];rfl
end
section
variable{k:Nat}{ps:List D}{x y:Tx}
def oh(b:r.e<=90)(e:call prog (k+19) YD [.v (cY x y),.s (c::r)] (HD ps<|dX x y)=.y d (HD ps (dX x y)++hh))(a:GE d=true)(ix:bO prog.cl (.v d) [YS]=some true):call prog (k+22) Yu [.r 1,.s (tl 97<|c::r)] (HD ps<|dX x y)=.p (.t [cls 4,.n 4]) (HD ps<|dX x y):=by have w:=vq e a ix (by rw[Za];rfl);have s:=(sy (th':=.T) (w:=97) b Y9 (by simp[dX])<|by rw[Za];rfl).2 w;exact AZ s
def wT(a:t.e<=80)(e:∃j,call prog (k+18) Yx [.v (wD [x] [y]),.s t] (HD ps<|dX x y)=.y bK (HD ps (dX x y)++j)):call prog (k+22) Yu [.r 1,.s (tl 97<|rS t)] (HD ps<|dX x y)=.p (.t [cls 4,.n 4]) (HD ps<|dX x y):=by obtain⟨j,e⟩:=e;exact oh (by simp;exact ZAA) ((oI (ss:=[cv y,de y]) (d:=.T) rfl (by simp;exact ZAA) Y9).2 e) rfl rfl
def MA(b:aH x):call prog (k+22) Yu [.r 1,.s (tl 97<|rK x)] (HD ps<|dX x y)=.p (.t [cls 4,.n 4]) (HD ps<|dX x y):=by
 have:=b.2.2.1;have a:(rK x).e<=1000:=by simp;exact ZAA
 have q:call prog (k+19) YD [.v (cY x y),.s _] _=.y bK _:=kH (ss:=[cv y,de y]) (.y bK<|HD ps<|dX x y) rfl rfl a fun g f d e c=>by cases c;rfl
 exact oh (by simp;exact ZAA) q rfl rfl
end
section
variable{k:Nat}{ps:List D}{x y:Tx}
abbrev RF(k:Nat)(ps:List D)(x y t:Tx):Prop:=call prog (k+22) Yu [.r 1,.s (tl 97 t)] (HD ps<|dX x y)=.p (.t [cls 4,.n 4]) (HD ps<|dX x y)
def C4(b:aH x)(a:aH y):RF k ps x y<|rS y6:=wT Y7<|IH b a
def Np(a:aH x):RF k ps x y<|rS x:=wT (by have:=a.2.2.1;exact ZAA)<|Rj a
def Fj(a:aH x):RF k ps x y<|rS<|hA++x++[32,41]:=wT (by have:=a.2.2.1;simp;exact ZAA)<|NX a
def Fz(a:aH y):RF k ps x y<|rS<|yP++y++[]:=wT (by have:=a.2.2.1;simp;exact ZAA)<|MH a
def Ez(a:aH y):RF k ps x y<|rS<|hA++y++[10]:=wT (by have:=a.2.2.1;simp;exact ZAA)<|LJ a
def Eh(a:aH x):RF k ps x y<|32::(n4++x):=by
 have:=a.2.2.1;have q:call prog (k+19) YD [.v (cY x y),.s (32::(n4++x))] _=.y bK _:=kH (.y bK<|HD ps<|dX x y) rfl rfl (by simp;exact ZAA) fun f e c d b=>by cases b;rfl
 exact oh (by simp;exact ZAA) q rfl rfl
def Rt(c:aH x)(b:aH y):RF k ps x y ib:=by obtain⟨a,e⟩:=Ry (ps:=ps) (dd:=dX x y) (m:=k+3) c b;exact oh Y7 (by rw[Ga rfl _ _ _ rfl];simp only[c5];rw[za (Y1:=[sv _,y0 _,sv _,y0 _,u0,u0,u0]) rfl,jb<|by simp![xE,Ty.cA],za (Y1:=[sv _,y0 _,sv (wD [x] [y]),y0 _,y0 _,y0 _,y0 _])<|by rw[Za];rfl];rw[mw (h1:=HD ps (dX x y)++a) (d:=bK) ((fR rfl _).x rfl)<|QS rfl<|by simp![e,R.di]];rfl) rfl rfl
end
section
variable{k:Nat}{ps:List D}{dd:List<|Tx×D}{x y:Tx}
theorem o8(c):∀x p n,(∀a∈x,a≠c)->aN c n p x=[p++x]
|[],p,n,_=>by rw[Ac4];cases n<;>rfl
|a::x,p,0,_=>rfl
|a::x,p,n+1,h=>by rw[aN,FB<|h a Aa2,o8 c x (p++[a]) (n+1) λb d=>h b<|Aa0 _ d,Ah6];rfl
def oA(b:(c,n)=("NoRow",13)\/(c,n)=("NoStand",14))(e:call prog (k+2) Yt [.r 1,.v row] (HD ps dd)=.y (eX c) (HD ps dd)):call prog (k+3) Yu [.r 1,.v row] (HD ps dd)=.p (.t [cls n,.T]) (HD ps dd):=by
 rcases b with h|h<;>
 .cases h;refine ny e λi g f j a d=>?_;cases a;cases d;rw[Za];rfl
def sq(a:r.e<=90)(st:call prog (k+5) Yz [.r 1,.s [113]] (HD ps dd)=.y (eX "NoStand") (HD ps dd)):call prog (k+6) Yt [.r 1,.s (tl 113<|c::r)] (HD ps dd)=.y (eX "NoStand") (HD ps dd):=by rw[Ga rfl _ _ _ rfl];simp only[zd];rw[za (by rw[zEx2];exact congrArg (R.bw · _)<|tu rfl (by simp;exact ZAA) (AQ Y9) Y9)];rw[jb<|show _=R.ok y9 _ from rfl,xy<|by exact st];rfl
def u5(a:aH x):call prog (k+22) Yu [.r 1,.s (tl 113<|rK x)] (HD ps<|dX x y)=.p (.t [cls 14,.T]) (HD ps<|dX x y):=by
 have:=a.2.2.1;have l:([105,110,100,32]++x).e<=90:=by simp;exact ZAA
 have s:=sq (k:=k+15) (ps:=ps) (dd:=dX x y) (c:=107) l (by rw[Za];rfl);exact oA (.w rfl) s
end
section
variable{k:Nat}{ps:List D}{dd:List<|Tx×D}{x y:Tx}
def Bl(c:aH x):∀a∈x,a≠32:=λa b=>by have:=c.2.1 a b;lia
set_option tactic.hygienic true in
def Sw{s:Tx}(e:(iR:Tx).a4 s=y9)(b:s.e<=1000):call prog (k+1) "split_row" [.s s] h=.p (.j<|(aN 32 (s.e+1) [] s).y .o) h:=by
 rw[Ga rfl _ _ _ rfl];simp only[Qr];have a:mM .starts (.s s) [.s iR] h=.p (.b y9) h:=by show av _ h=_;rw[e]
 have c:Kz y9 (.s s) h=.p (.j<|(aN 32 (s.e+1) [] s).y .o) h:=by rw[Kz,Fk<|by rw[Gc];lia];rfl
 rw[jb<|by simp![yC,Os,a],Wa<|Zx rfl<|by assumption];exact Gq _ _ _ rfl
set_option tactic.hygienic true
def uC(e:(iR:Tx).a4 s=y9)(c:s.e<=1000)(b:aN 32 (s.e+1) [] s=w::us)(a:w∈[(gw:Tx),ib])(g:us.e<=3):call prog (k+4) Yt [.r 1,.s s] (HD ps dd)=.y (eX "NoRow") (HD ps dd):=by
 have sp:=Sw (k:=k+1) e c (h:=HD ps dd);rw[b]at sp;have p:call prog (k+3) YH [.s s] (HD ps dd)=.y (eX "NoRow") (HD ps dd):=by
  rw[Ga rfl _ _ _ rfl];simp only[xj];rw[jb<|by simp![xE,Ty.cA],za (Y1:=[y0 (.s s),y0 (.l<|(w::us).y .o),u0]) (h1:=HD ps dd)<|by simp![sp]];simp only[Aa8,Ac7,SJ]at a;rw[Za]
  match us,g with
|[],_=>rcases a with rfl|rfl<;>rfl
|[_],_=>rcases a with rfl|rfl<;>rfl
|[_,_],_=>rcases a with rfl|rfl<;>rfl
|[_,_,_],_=>rcases a with rfl|rfl<;>rfl
 rw[Ga (f:=Yt) (d:=zd) rfl _ _ _ rfl];simp only[zd];rw[xy<|by exact p];rfl
def Pm(a:aH x):call prog (k+22) Yu [.r 1,.s (rK x)] (HD ps dd)=.p (.t [cls 13,.T]) (HD ps dd):=by
 have:=a.2.2.1;have e:aN 32 ((rK x).e+1) [] (rK x)=[gw,x]:=by show gw::aN 32 _ [] x=_;rw[o8 32 x [] _<|Bl a];rfl
 have s:=uC (k:=k+17) (ps:=ps) (dd:=dd) rfl (by simp;exact ZAA) e Y9 Y9;exact oA (.p rfl) s
def Cm(a:aH x):call prog (k+22) Yu [.r 1,.s (rS<|hA++x)] (HD ps dd)=.p (.t [cls 13,.T]) (HD ps dd):=by
 have:=a.2.2.1;have e:aN 32 ((rS<|hA++x).e+1) [] (rS<|hA++x)=[ib,dn,x]:=by show ib::dn::aN 32 _ [] x=_;rw[o8 32 x [] _<|Bl a];rfl
 have s:=uC (k:=k+17) (ps:=ps) (dd:=dd) rfl (by simp;exact ZAA) e Y9 Y9;exact oA (.p rfl) s
end
section
variable{k:Nat}{ps:List D}{x y:Tx}
abbrev dQ(x y:Tx)(th:D):List<|Tx×D:=dX x y++[([113],th)]
def yX(th):call prog (k+20) Yz [.r 1,.s [113]] (HD ps<|dQ x y th)=.p (.v th) (HD ps<|dQ x y th):=by rw[Za];rfl
def sb(a:r.e<=90)(e:call prog (k+20) YA [.v th,.s (c::r)] (HD ps<|dQ x y th)=.p (.v th') (HD ps<|dQ x y th))(b:Gf th'=true):call prog (k+21) Yt [.r 1,.s (tl 113<|c::r)] (HD ps<|dQ x y th)=.p (.s zH) (HD ps<|dQ x y th'):=by exact((sy (d:=.T) (h':=[]) a Y9 (by simp[dX])<|yX th).1 e b)
def K9(a:aH x):call prog (k+21) Yt [.r 1,.s (tl 113<|rK x)] (HD ps<|dQ x y<|a8 [] [] [])=.p (.s zH) (HD ps<|dQ x y<|a8 [x] [] []):=by have l:=a.2.2.1;have b:=sb (by simp;exact ZAA) (sC (k:=k) (h:=HD ps<|dQ x y<|a8 [] [] []) a) rfl;exact b
def FT(c:aH x)(a:aH y)(d:x≠y):call prog (k+21) Yt [.r 1,.s (tl 113<|rT y)] (HD ps<|dQ x y<|a8 [x] [] [])=.p (.s zH) (HD ps<|dQ x y<|a8 [x] [y] []):=by have l:=a.2.2.1;have b:=sb (by simp;exact ZAA) (A7 (k:=k) (h:=HD ps<|dQ x y<|a8 [x] [] []) c a d) rfl;exact b
def Na(a:aH x)(d:aH y):call prog (k+22) Yu [.r 1,.s (tl 113<|rK x)] (HD ps<|dQ x y<|a8 [x] [y] [])=.p (.t [cls 4,.n 2]) (HD ps<|dQ x y<|a8 [x] [y] []):=by
 have l:=a.2.2.1;have c:call prog (k+19) Y5 [.v (a8 [x] [y] [])] (HD ps<|dQ x y<|a8 [x] [y] [])=.p (.i 2) (HD ps<|dQ x y<|a8 [x] [y] []):=by rw[Za];rfl
 have b:call prog (k+19) YD [.v (a8 [x] [y] []),.v (.o<|rK x)] (HD ps<|dQ x y<|a8 [x] [y] [])=.y (eX YZ) (HD ps (dQ x y<|a8 [x] [y] [])++[]):=by rw[List.append_nil];exact((AG rfl (by simp;exact ZAA) Y9<|Rm a d).2 rfl)
 have s:=(sy (th':=.T) (by simp;exact ZAA) Y9 (by simp[dX])<|yX _).2<|vq b rfl rfl c;exact AZ s
end
section
variable{k:Nat}{x y:Tx}{a b:D}{n:Nat}{h:AH}
def AL:call prog (k+1) "value_of_name" [.v (wD [x] [y]),.t [a,b,.p [.n n]],.s y] h=.p (.i n) h:=by
 have i1:bU (.v<|wD [x] [y]) (.v<|.u 1) h=y0 _:=rfl;have c:Gs .p (.s y) (.v<|b8 [y]) h=y0 true:=by rw[Zs];simp
 have ix:mM .index (.v<|b8 [y]) [.s y] h=.p (.i 0) h:=by show((R.of h<|y0 [y]).j λts h=>(R.of h<|y0 y).j λt h=>(R.of h<|Kk t ts).j λn h=>if ts.e<=aR then av (.u n) h else .w)=_;rw[R.aw,R.af,R.aw,R.af,show Kk y [y]=y0 0 by simp[Kk],R.aw,R.af,Fk<|by rw[Gc];simp]
 have i2:bU (.t [a,b,.p [.n n]]) (.v<|.u 2) h=y0 _:=rfl;have d:mf .index (.v<|b8 [y]) h=true:=rfl;have i3:bU (.t [.n n]) (.i 0) h=y0 _:=rfl;refine(congrArg _<|Wh (by simp![i1,c])<|jc rfl<|by simp![i1,i2,d,Os,ix,i3]).x<|Gb _ _ _ rfl
end
section
variable{k:Nat}{ps:List D}{dd:List<|Tx×D}{x y:Tx}
def Ow(a:aH y):call prog (k+3) "shown_expression" [.v (.p [.o eZ,c3 y])] (HD ps dd)=.p (.s<|126::y) (HD ps dd):=by
 have:=a.2.2.1;have e:call prog (k+2) "expression_of_rank" [.v (c3 y),.v (.u 4)] (HD ps dd)=.p (.s y) (HD ps dd):=by rw[Za];rfl
 have c:=add_str [126] y (HD ps dd) (by simp;lia);rw[Ga rfl _ _ _ rfl];simp only[qi];rw[za rfl,jb<|by rw[Za];rfl,jb<|by rw[Za];rfl,za<|by rw[Za];rfl];have b:prog.X.p "ATOM_RANK"=some _:=rfl;have i1:bU (.v<|.p [.o eZ,c3 y]) (.v<|.u 1) (HD ps dd)=y0 _:=rfl;exact(congrArg _<|Wh (by rw[Za];rfl)<|jc rfl<|by assumption).x<|Gb _ _ _ rfl
def Cu(a:aH y):call prog (k+5) "shown_saying" [.v (cv y)] (HD ps dd)=.p (.s<|hA++y) (HD ps dd):=by
 have:=a.2.2.1;have e:call prog (k+4) "shown_fact" [.v (cv y)] (HD ps dd)=.p (.s<|hA++y) (HD ps dd):=by rw[Ga rfl _ _ _ rfl];simp only[Zi];rw[za<|by rw[Za];rfl,za<|by rw[Za];rfl,jb<|by rw[Za];rfl];refine(congrArg _<|Wh (by rw[Za];rfl)<|jc rfl ?_).x<|Gb _ _ _ rfl;show(if(dn++([32]++(y++[]))).e<=aR then _ else _)=_;rw[Fk<|by rw[Gc];simp;exact ZAA];show av (.o<|dn++([32]++(y++[]))) _=_;rw[Ac4];rfl
 rw[Ga rfl _ _ _ rfl];simp only[jg];rw[za rfl,jb<|by rw[Za];rfl,jb<|by rw[Za];rfl,Wa<|jc rfl<|by exact e];rfl
def Hy(a:aH y):call prog (k+5) "shown_saying" [.v (de y)] (HD ps dd)=.p (.s<|y++eD++y) (HD ps dd):=by
 have:=a.2.2.1;have e:call prog (k+4) "shown_fact" [.v (de y)] (HD ps dd)=.p (.s<|y++eD++y) (HD ps dd):=by rw[Ga (d:=Zi) rfl _ _ _ rfl];simp only[Zi];rw[za (Y1:=[sv _,y0 _,u0,u0]) (h1:=HD ps dd)<|by rw[Za];rfl,za (Y1:=[sv (de y),y0 (.s ZA),y0 (.s<|126::y),u0]) (h1:=HD ps dd) (by rw[zEx2];exact congrArg (R.bw · _)<|Ow (k:=k) (ps:=ps) (dd:=dd) a)];refine(congrArg _<|Wa (w:=.s<|y++eD++y)<|(qH (h1:=HD ps dd)<|by rw[Za];rfl).x<|(za (Y1:=[sv (de y),y0 (.s ZA),y0 (.s<|126::y),y0 (.s y)]) (h1:=HD ps dd)<|by rw[Za];rfl).x<|Wa<|jc rfl ?_).x<|Gb _ _ _ rfl;show(if(y++([32]++(ZA++([32]++(126::y++[]))))).e<=aR then _ else _)=_;rw[Fk<|by rw[Gc];simp;lia];show av (.o<|y++([32]++(ZA++([32]++(126::y++[]))))) _=_;rw[Ac4,Ah6];rfl
 rw[Ga (d:=jg) rfl _ _ _ rfl];simp only[jg];rw[za (Y1:=[sv (de y),y0 (.s ZA)]) (h1:=HD ps dd) rfl,jb<|by rw[Za];rfl,jb<|by rw[Za];rfl,Wa<|jc rfl<|by exact e];rfl
end
section
variable{k:Nat}{ps:List D}{dd:List<|Tx×D}{x y:Tx}
abbrev ro(x y:Tx)(T:List Tx):List D:=((du++x)::(mC++y)::T).y .o
abbrev tA(y:Tx):List Tx:=[l5++(hA++y),l5++(y++eD++y)]
def vr(g:aH x)(j:aH y)(l:T.e<=9)(e:eval (k8<|k+5) zm [sv (a8 [x] [y] ss),sv (wD [x] [y]),y0 (.t ss),y0 (.j<|ro x y [])] (HD ps dd)=.p (.j<|T.y .o) (HD ps dd)):call prog (k+6) YW [.v (a8 [x] [y] ss)] (HD ps dd)=.p (.j<|ro x y T) (HD ps dd):=by
 have:=g.2.2.1;have:=j.2.2.1;rw[Ga rfl _ _ _ rfl];simp only[zp];have b:=add_str du x (HD ps dd) (by simp;lia);have a2:=add_str mC y (HD ps dd) (by simp;lia);have f (i:Int)(p z:Tx)(Y:Sl)(h:Gp (k8<|k+5) (.seq<|.N .G<|.u i) Y (HD ps dd)=.p [.o z] (HD ps dd))(a:GN .j (.s p) (.s z) (HD ps dd)=.p (.s<|p++z) (HD ps dd)):eval (k8<|k+5) (.M [0] k9 1 [] (.seq<|.N .G<|.u i) y9 (.bl k9)<|.y .j (.o p) .B) Y (HD ps dd)=.p (.j [.o (p++z)]) (HD ps dd):=by refine Zk (λ_=>.o<|p++z) h (by rw[Gc];simp) λd c=>?_;cases Ab8.j c;exact⟨[y0 _],rfl,.s _,by simp![av,a],rfl⟩
 rw[za rfl];rw[za<|by rw[zEx1,Xl,f 0 _ x _ rfl b];rfl];rw[za (Y1:=[sv (a8 [x] [y] ss),sv (wD [x] [y]),y0 (.t ss),y0 (.j<|ro x y [])])<|by rw[zEx8,Wl,f 1 _ y _ rfl a2,Za];rfl];rw[za (Y1:=[sv (a8 [x] [y] ss),sv (wD [x] [y]),y0 (.t ss),y0 (.j<|ro x y T)])<|by rw[zEx8,e];show(if 2+(T.y D.str).e<aR then _ else _)=_;rw[Fk<|by rw[Gc,Aa4];lia];rfl];rfl
def RX(c:aH x)(a:aH y):call prog (k+6) YW [.v (cY x y)] (HD ps dd)=.p (.j<|ro x y<|tA y) (HD ps dd):=by
 have:=a.2.2.1;refine vr (ss:=[cv y,de y]) c a Y9 ?_;refine Zk (ds:=[cv y,de y]) (λd=>match d with|.p [_,_]=>.o _|_=>.o _) rfl (by rw[Gc];simp) λd b=>?_;simp[SJ]at b;obtain rfl|rfl:=b
 .exact⟨_,rfl,.s _,by simp![Cu a];exact add_str l5 _ _<|by simp;lia,rfl⟩
 .exact⟨_,rfl,.s _,by simp![Hy a];exact add_str l5 _ _<|by simp;lia,rfl⟩
def jo{k:Nat}{T:List Tx}{w:Tx}{th:D}(b:w∈[([97]:Tx),[113]])(c:(Gv [59,32] T).e<=1000/\T.e<=9)(st:call prog (k+20) Yz [.r 1,.s w] (HD ps dd)=.p (.v th) (HD ps dd))(e:call prog (k+19) YW [.v th] (HD ps dd)=.p (.j<|T.y .o) (HD ps dd)):call prog (k+21) Yt [.r 1,.s (gu++w)] (HD ps dd)=.p (.s<|Gv [59,32] T) (HD ps dd):=by
 have p:call prog (k+20) YH [.s (gu++w)] (HD ps dd)=.p (.l [.o gr,.o w]) (HD ps dd):=by
  simp only[Aa8,Ac7,SJ]at b;rw[Za];rcases b with rfl|rfl<;>rfl
 have a:call prog (k+20) YI [.r 1,.l [.o gr,.o w],.v th] (HD ps dd)=.p (.s<|Gv [59,32] T) (HD ps dd):=by rw[Ga (f:=YI) (d:=Jc) rfl _ _ _ rfl];simp only[Jc];refine(congrArg _<|Wh (w:=.s<|Gv [59,32] T) (by rw[Za];rfl)<|jc rfl ?_).x rfl;simp![e,Rb,Os];show((R.of _<|GC<|T.y .o).j λts h=>if(Gv [59,32] ts).e<=aR/\ts.e<=aR/\2<=aR then av (.o<|Gv [59,32] ts) h else .w)=_;rw[zo,R.aw,R.af,Fk<|by rw[Gc];lia]
 rw[Ga (f:=Yt) (d:=zd) rfl _ _ _ rfl];simp only[zd];show Gy _ _=_;rw[za (Y1:=[y0 (.r 1),y0 (.s<|gu++w),y0 (.l [.o gr,.o w]),u0]) (h1:=HD ps dd) (by rw[zEx2];exact congrArg (R.bw · _) p),jb<|show _=R.ok y9 _ from rfl,za (Y1:=[y0 (.r 1),y0 (.s<|gu++w),y0 (.l [.o gr,.o w]),sv th]) (h1:=HD ps dd) (by rw[zEx2];exact congrArg (R.bw · _) st),jb<|show _=R.ok y9 _ from rfl,jb<|show _=R.ok y9 _ from rfl,Wa<|jc rfl<|by exact a];rfl
abbrev fY(x y:Tx):Tx:=Gv [59,32]<|(du++x)::(mC++y)::tA y
abbrev vE(x y:Tx):Tx:=Gv [59,32] [du++x,mC++y]
def sX(b:aH x)(a:aH y):call prog (k+21) Yt [.r 1,.s mZ] (HD ps<|dX x y)=.p (.s<|fY x y) (HD ps<|dX x y):=by have:=b.2.2.1;have:=a.2.2.1;exact jo Y9 (by simp[Gv];lia) (by rw[Za];rfl)<|RX b a
def Bp(b:aH x)(a:aH y):call prog (k+21) Yt [.r 1,.s l0] (HD ps<|dQ x y<|a8 [x] [y] [])=.p (.s<|vE x y) (HD ps<|dQ x y<|a8 [x] [y] []):=by have:=b.2.2.1;have:=a.2.2.1;exact jo Y9 (by simp[Gv];lia) (by rw[Za];rfl)<|vr b a Y9<|by rw[Za];rfl
end
section
variable{k:Nat}{ps:List D}{dd:List<|Tx×D}{x y:Tx}{a b:D}{n:Nat}{h:AH}
def oB:call prog (k+2) "value" [.v (wD [x] [y]),.t [a,b,.p [.n n]],.v (c3 y)] h=.p (.i n) h:=by exact(congrArg _<|Wh (by rw[Za];rfl)<|jc rfl<|by exact AL).x<|Gb _ _ _ rfl
def A4(c:Gs .ne (.i n) (.v<|.u 0) h=y0 r):call prog (k+3) "keeps" [.v (wD [x] [y]),.t [a,b,.p [.n n]],.v (cv y)] h=.p (.b r) h:=by rw[Ga rfl _ _ _ rfl];simp only[qP];have i1:bU (.v<|cv y) (.v<|.u 1) h=y0 _:=rfl;exact(congrArg _<|Wh (by rw[Za];rfl)<|jc rfl<|by simp![i1,oB,c]).x<|Gb _ _ _ rfl
abbrev wI:W:=.t [.u 4,.p [.u 15],.p [.n 6249]]
def EJ:call prog (k+19) "keeps" [.v (wD [x] [y]),wI,.v (de y)] (HD ps dd)=.p (.b false) (HD ps dd):=by
 have v:call prog (k+18) "value" [.v (wD [x] [y]),wI,.v (.p [.o eZ,c3 y])] (HD ps dd)=.p (.i 21033) (HD ps dd):=by
  rw[Ga (d:=x8) rfl _ _ _ rfl];simp only[x8];have a:eval (k8<|k+17) J1 [sv (wD [x] [y]),y0 wI,sv (.p [.o eZ,c3 y]),u0] _=.p _ _:=
   Zk (h:=HD ps dd) (ds:=[c3 y]) (λ_=>.n 6249) (by rw[Za];rfl) (by rw[Gc];simp) λd e=>by cases Ab8.j e;exact⟨_,rfl,.i 6249,by exact oB,rfl⟩
  rw[jb<|by rw[Za];rfl,za (Y1:=[sv (wD [x] [y]),y0 wI,sv (.p [.o eZ,c3 y]),y0 (.l [.n 6249])]) (h1:=HD ps dd) (by rw[zEx2];exact congrArg (R.bw · _) a),Za];rfl
 rw[Ga (d:=qP) rfl _ _ _ rfl];simp only[qP];have i1:bU (.v<|de y) (.v<|.u 1) (HD ps dd)=y0 (c3 y):=rfl;have i2:bU (.v<|de y) (.v<|.u 2) (HD ps dd)=y0 (.p [.o eZ,c3 y]):=rfl;have w:call prog (k+18) "without" [.i 6249,.i 21033] (HD ps dd)=.p (.i 2112) (HD ps dd):=by rw[Za];rfl
 have c:Gs .j (.i 2112) (.v<|.u 0) (HD ps dd)=y0 false:=rfl;have b:call prog (k+18) "value" [.v (wD [x] [y]),wI,.v (c3 y)] (HD ps dd)=.p (.i 6249) (HD ps dd):=oB;rw[za (Y1:=[sv (wD [x] [y]),y0 wI,sv (de y),y0 (.s ZA)]) (h1:=HD ps dd) rfl,jb<|by rw[Za];rfl,jb<|by rw[Za];rfl,jb<|by rw[Za];rfl];exact(congrArg _<|Wh (w:=.b y9) (by rw[Za];rfl)<|jc rfl<|by simp![i1,i2,b,v,w,c]).x<|Gb _ _ _ rfl
end
section
variable{k:Nat}{ps:List D}{dd:List<|Tx×D}{x y:Tx}
def Nj:bU (.l<|d::l) (.v<|.u 0) h=y0 d:=by simp[bX,cL]
def ET:∀f∈[(gr:Tx),gX,J2],∀t∈[(mm:Tx),dC,l8],(f==t)=false:=by decide
def ux(g:f∈[(gr:Tx),gX,J2])(p:call prog (k+20) YH [.s row] (HD ps dd)=.p (.l<|.o f::.o w::R') (HD ps dd))(st:call prog (k+20) Yz [.r 1,.s w] (HD ps dd)=.p (.v th) (HD ps dd))(a:call prog (k+20) YI [.r 1,.l (.o f::.o w::R'),.v th] (HD ps dd)=r)(i:(∃d,r=.p (.v d) (HD ps dd))\/∃d,r=.y d (HD ps dd)):call prog (k+21) Yt [.r 1,.s row] (HD ps dd)=r:=by
 have b (t:Tx)(h:t∈[(mm:Tx),dC,l8])(Y:Sl)(c:Gi Y 2=y0 (.l<|.o f::.o w::R')):Gj (k8<|k+20) (.C .j (.N .L<|.u 0)<|.o t) Y (HD ps dd)=.p y9 (HD ps dd):=by have:=ET f g t h;rw[Gj,zEe10,zEe22,Qi c];simp![Nj,av,qg,this]
 rw[Ga (f:=Yt) (d:=zd) rfl _ _ _ rfl];simp only[zd];show Gy _ _=_;rw[za (Y1:=[y0 (.r 1),y0 (.s row),y0 (.l<|.o f::.o w::R'),u0]) (h1:=HD ps dd) (by rw[zEx2];exact congrArg (R.bw · _) p),jb<|b _ Y9 _ rfl];have i1:bU (.l<|.o f::.o w::R') (.v<|.u 1) (HD ps dd)=y0 (.o w):=by
  have e:cL (R'.e+1+1) 1=y0 1:=by simp[cL];lia
  simp[bU,W.int?,W.aU,W.seq?,bX,e]
 rw[za (Y1:=[y0 (.r 1),y0 (.s row),y0 (.l<|.o f::.o w::R'),sv th]) (h1:=HD ps dd) (by rw[zEx2,zEe45];simp![i1];exact congrArg (R.bw · _) st),jb<|b _ Y9 _ rfl,jb<|b _ Y9 _ rfl];rcases i with⟨d,rfl⟩|⟨d,rfl⟩
 .rw[Wa<|jc rfl<|by exact a];rfl
 .rw[QS rfl<|by exact a];rfl
def pd(a:bnd d Y=y0 Y1)(b:body Y1 h=.j w h2):Gw bnd body (d::ds) Y h=.j w h2:=by rw[Xx,a];simp[b]
abbrev wO:D:=.p [.u 4,.p [.u 0],.p [.n 0]]
abbrev wJ:D:=.p [.u 4,.p [.u 15],.p [.n 6249]]
def fb(k0:call prog (k+16) "keeps" [.v (wD [x] [y]),.v w,.v (cv y)] (HD ps dd)=.p (.b<|m !=0) (HD ps dd))(k1:m=0\/m=1/\call prog (k+16) "keeps" [.v (wD [x] [y]),.v w,.v (de y)] (HD ps dd)=.p (.b false) (HD ps dd)):call prog (k+17) "first_broken" [.v (wD [x] [y]),.v w,.t [cv y,de y]] (HD ps dd)=.p (.i m) (HD ps dd):=by
 rw[Ga rfl _ _ _ rfl];simp only[Zp];rw[Wa (w:=.i m) (h1:=HD ps dd)]
 .rfl
 rw[zEx17,show Gr _ _ _ _=R.ok [.p [.n 0,cv y],.p [.n 1,de y]] (HD ps dd)by rw[Za];rfl,R.aQ];obtain rfl|⟨rfl,k1⟩:=k1
 .refine pd (Y1:=[sv _,sv w,y0 _,si 0,sv _]) rfl ?_;rw[zf,Wh (by simp![k0];rfl) rfl]
 .rw[Zc (Y1:=[sv _,sv w,y0 _,si 0,sv _]) rfl<|by rw[zf,jb<|by simp![k0];rfl];rfl];refine pd (Y1:=[sv _,sv w,y0 _,si 1,sv _]) rfl ?_;rw[zf,Wh (w:=.i 1) (by simp![k1]) rfl]
noncomputable abbrev oV(t:Tx):Tx:=[107,101,101,112,115,32,97,32,52,32]++t
def vb{t:Tx}{c m:Nat}{w:D}(a:(t,c,m,w)∈[(([48]:Tx),0,0,wO),([57,57,57,57,57],99999,1,wJ)])(e:call prog (k+17) "first_broken" [.v (wD [x] [y]),.v w,.t [cv y,de y]] (HD ps<|dX x y)=.p (.i m) (HD ps<|dX x y)):call prog (k+21) Yt [.r 1,.s (oV t)] (HD ps<|dX x y)=.p (.s [48+m]) (HD ps<|dX x y):=by
 have g:call prog (k+18) "keeps_answer" [.v (cY x y),.v (.u 4),.i c] (HD ps<|dX x y)=.p (.s [48+m]) (HD ps<|dX x y):=by
  rw[Ga (d:=zj) rfl _ _ _ rfl];simp only[zj];rw[za (Y1:=[sv (cY x y),sv (.u 4),si c,sv (wD [x] [y]),y0 (.t [cv y,de y]),u0]) (h1:=HD ps<|dX x y) rfl];have j:call prog (k+17) "world_of" [.v (wD [x] [y]),.v (.u 4),.i c] (HD ps<|dX x y)=.p (.v w) (HD ps<|dX x y):=by
   rw[Za];simp only[Aa8,Ac7,SJ,Prod.mk.injEq]at a;rcases a with⟨rfl,rfl,rfl,rfl⟩|⟨rfl,rfl,rfl,rfl⟩<;>rfl
  rw[za (Y1:=[sv (cY x y),sv (.u 4),si c,sv (wD [x] [y]),y0 (.t [cv y,de y]),si m]) (h1:=HD ps<|dX x y)<|by simp![j,e],jb rfl,Za];simp only[Aa8,Ac7,SJ,Prod.mk.injEq]at a;rcases a with⟨rfl,rfl,rfl,rfl⟩|⟨rfl,rfl,rfl,rfl⟩<;>rfl
 simp only[Aa8,Ac7,SJ,Prod.mk.injEq]at a;refine ux (k:=k) (f:=gX) (w:=[97]) (R':=[.o [52],.o t]) (th:=cY x y) Y9 (by rw[Za];rcases a with⟨rfl,rfl,rfl,rfl⟩|⟨rfl,rfl,rfl,rfl⟩<;>rfl) (by rw[Za];rfl) ?_<|.p ⟨_,rfl⟩;have l:call prog (k+19) "answer_of_number" [.s gX,.v (cY x y),.v (.u 4),.i c] (HD ps<|dX x y)=.p (.s [48+m]) (HD ps<|dX x y):=by rw[Ga (d:=zg) rfl _ _ _ rfl];simp only[zg];rw[jb rfl];exact(congrArg _<|Wh (w:=.s [48+m]) rfl<|jc rfl<|by exact g).x rfl
 rw[Ga (f:=YI) (d:=Jc) rfl _ _ _ rfl];simp only[Jc];rw[jb rfl,jb rfl,za (Y1:=[y0 (.r 1),y0 (.l [.o gX,.o [97],.o [52],.o t]),sv (cY x y),sv (.u 4)]) (h1:=HD ps<|dX x y)<|by rw[Za];rfl,jb rfl];have h:KL (.s t) (HD ps<|dX x y)=.p (.i c) (HD ps<|dX x y):=by
  rcases a with⟨rfl,rfl,rfl,rfl⟩|⟨rfl,rfl,rfl,rfl⟩<;>rfl
 have i:bU (.l [.o gX,.o [97],.o [52],.o t]) (.v<|.u 3) (HD ps<|dX x y)=y0 (.o t):=rfl;have b:bU (.l [.o gX,.o [97],.o [52],.o t]) (.v<|.u 0) (HD ps<|dX x y)=y0 (.o gX):=rfl;rw[Wa (w:=.s [48+m]) (h1:=HD ps<|dX x y)<|jc rfl<|by simp![b,i,h,l]];rfl
def EH:call prog (k+21) Yt [.r 1,.s (oV [48])] (HD ps<|dX x y)=.p (.s [48]) (HD ps<|dX x y):=vb (c:=0) (w:=wO) Y9<|fb (A4 rfl)<|.p rfl
def IV(a:3<=k):call prog (k+21) Yt [.r 1,.s (oV [57,57,57,57,57])] (HD ps<|dX x y)=.p (.s [49]) (HD ps<|dX x y):=by obtain⟨k,rfl⟩:∃j,k=j+3:=⟨k-3,((Vy ‹_›).symm)⟩;exact vb (c:=99999) Y9<|fb (A4 rfl)<|.w ⟨rfl,EJ⟩
end
section
variable{k:Nat}{ps:List D}{dd:List<|Tx×D}{x y:Tx}
def MV:Gs .ne (.v<|wD [x] [y]) (.v<|wD [x] [y]) (HD ps dd)=y0 false:=by show(if k9=k9 then y0 (!cw (wD [x] [y]) (wD [x] [y]))else u0)=_;simp
def uV(z:∀j st,a9.j=.j j st->Gy 3 (execs (k8 k) st [sv (a8 [x] [y] A),sv (a8 [x] [y] B),si n,u0,u0,u0,u0,u0,u0,u0,u0]<|HD ps dd)=r):call prog (k+1) YT [.v (a8 [x] [y] A),.v (a8 [x] [y] B),.i n] (HD ps dd)=r:=by have i0 C:bU (.v<|a8 [x] [y] C) (.v<|.u 0) (HD ps dd)=y0 _:=rfl;rw[Ga rfl _ _ _ rfl,←z _ _ rfl];simp only[a9];show Gy 3 (execs _ _ [sv _,sv _,si n,u0,u0,u0,u0,u0,u0,u0,u0] _)=_;rw[jb<|by simp![i0,MV]]
noncomputable abbrev md(w n:Nat):Tx:=[115,97,109,101,32,97,32,w,32,n]
def AD{w n:Nat}{B:List D}{r:R W}(b:n∈[49,52,53])(e:w∈[97,113])(st:call prog (k+20) Yz [.r 1,.s [97]] (HD ps dd)=.p (.v<|cY x y) (HD ps dd))(j:call prog (k+19) Yz [.r 1,.s [w]] (HD ps dd)=.p (.v<|a8 [x] [y] B) (HD ps dd))(a:call prog (k+19) "same_answer" [.v (cY x y),.v (a8 [x] [y] B),.i (n-48)] (HD ps dd)=r)(g:(∃d,r=.p (.v d) (HD ps dd))\/∃d,r=.y d (HD ps dd)):call prog (k+21) Yt [.r 1,.s (md w n)] (HD ps dd)=r:=by
 have h:KL (.s [n]) (HD ps dd)=.p (.i<|n-48) (HD ps dd):=by
  simp only[Aa8,Ac7,SJ]at b;rcases b with rfl|rfl|rfl<;>rfl
 have i:bU (.l [.o J2,.o [97],.o [w],.o [n]]) (.v<|.u 2) (HD ps dd)=y0 _:=rfl;have m:bU (.l [.o J2,.o [97],.o [w],.o [n]]) (.v<|.u 3) (HD ps dd)=y0 _:=rfl;refine ux (k:=k) (f:=J2) (w:=[97]) (R':=[.o [w],.o [n]]) (th:=cY x y) Y9 ?_ st ?_ g
 .simp only[Aa8,Ac7,SJ]at b e;rw[Za];rcases b with rfl|rfl|rfl<;>rcases e with rfl|rfl<;>rfl
 rw[Ga (f:=YI) (d:=Jc) rfl _ _ _ rfl];simp only[Jc];rw[jb rfl];have c:eval (k8<|k+19) (.j "same_answer"<|.j .L<|.j (.aI .B YL "standing" Yz<|.a<|.N .G<|.u 2)<|.a<|.cm<|.N .G<|.u 3) [some (.r 1),some (.l [.o J2,.o [97],.o [w],.o [n]]),sv (cY x y),none] (HD ps dd)=r:=by have o:GD (HD ps dd) (y0<|.r 1)=y0 (1,YL,[(YF,.ref 2)]):=rfl;have l:([(YF,D.ref 2)]:List<|String×D).p "standing"=none:=rfl;simp![o,l,i,m,h,Ai3,UT,Os,j];exact a
 rcases g with⟨d,rfl⟩|⟨d,rfl⟩
 .rw[Wh rfl<|jc rfl<|by exact c];rfl
 .rw[mw rfl<|QS rfl<|by exact c];rfl
def vk(h:n=53/\d=eX "NoSize"\/n=52/\d=.err "TooBig" "bits" (.u 20)):call prog (k+21) Yt [.r 1,.s (md 97 n)] (HD ps<|dX x y)=.y d (HD ps<|dX x y):=by
 refine AD (by rcases h with h|h<;>simp[h.1]) Y9 (by rw[Za];rfl) (by rw[Za];rfl) ?_<|.w ⟨_,rfl⟩;have e:call prog (k+18) YT [.v (cY x y),.v (cY x y),.i (n-48)] _=.y d (HD ps<|dX x y):=uV fun c b a=>by
  cases a;rw[Za];rcases h with⟨rfl,rfl⟩|⟨rfl,rfl⟩<;>rfl
 rw[Ga rfl _ _ _ rfl];simp only[wk];rw[xy<|by exact e];rfl
def E4:call prog (k+22) Yu [.r 1,.s (md 97 53)] (HD ps<|dX x y)=.p (.t [cls 0,.T]) (HD ps<|dX x y):=ny (vk<|.p ⟨rfl,rfl⟩) fun e d c f a b=>by cases a;cases b;rw[Za];rfl
def DE:call prog (k+22) Yu [.r 1,.s (md 97 52)] (HD ps<|dX x y)=.p (.t [cls 6,.u 20]) (HD ps<|dX x y):=ny (vk<|.w ⟨rfl,rfl⟩) fun e d c f a b=>by cases a;cases b;rw[Za];rfl
end
section
variable{k:Nat}{ps:List D}{dd:List<|Tx×D}{x y:Tx}{h:AH}
abbrev sN(y:Tx):D:=.p [.o eV,cv y]
abbrev wZ:D:=.p [.u 0,.p [.u 0],.p [.n 0]]
noncomputable abbrev HS(ps:List D)(dd:List<|Tx×D)(x y:Tx):AH:=HD ps dd++[.lst [],.obj "Search" [("cases",.ref 5),("needs",.w [.u 0])],.obj "Cases" [("words",wD [x] [y]),("sayings",.p [sN y]),("size",.u 0),("places",.w []),("whole",.u 0)]]
def bo:call prog (k+2) "bounds" [.v (wD [x] [y]),.t [wZ,wZ],.v (c3 y)] h=.p (.t [.n 0,.n 0]) h:=by
 rw[Ga rfl _ _ _ rfl];have i j (c:j=0\/j=1):bU (.t [wZ,wZ]) (.v<|.int j) h=y0 wZ:=by rcases c with rfl|rfl<;>rfl
 have v:=AL (k:=k) (x:=x) (y:=y) (a:=.int 0) (b:=.tup [.int 0]) (n:=0) (h:=h);exact(congrArg _<|Wa<|(qH<|by rw[Za];kernel_rfl).trans<|(za (Y1:=[sv (wD [x] [y]),y0 (.t [wZ,wZ]),sv (c3 y),y0 (.s iX),y0 (.s y)]) (h1:=h) rfl).trans<|Wa<|jc rfl<|by simp![i 0<|.inl rfl,i 1<|.inr rfl,v,av]).trans<|Gb _ _ _ rfl
def tN:call prog (k+9) "told" [.v (wD [x] [y]),.t [wZ,wZ],.v (sN y)] (HS ps dd x y)=.p (.b true) (HS ps dd x y):=by
 have f:call prog (k+7) "fact_told" [.v (wD [x] [y]),.t [wZ,wZ],.v (cv y)] (HS ps dd x y)=.ok (.b false) (HS ps dd x y):=by
  rw[Ga rfl _ _ _ rfl];simp only[jG];rw[za rfl,za rfl,za (by rw[zEx2];exact congrArg (R.bw · _)<|bo (k:=k+4)),Za]
  kernel_rfl
 have t:call prog (k+8) "told" [.v (wD [x] [y]),.t [wZ,wZ],.v (cv y)] (HS ps dd x y)=.ok (.b false) (HS ps dd x y):=by rw[Ga (d:=XZ) rfl _ _ _ rfl];simp only[XZ];rw[za (Y1:=[sv (wD [x] [y]),y0 (.t [wZ,wZ]),sv (cv y),y0 (.s dn)]) (h1:=HS ps dd x y) rfl,jb rfl,jb rfl,jb rfl,Wa<|jc rfl<|by exact f];rfl
 rw[Ga (d:=XZ) rfl _ _ _ rfl];simp only[XZ];have a:call prog (k+8) "not_told" [.b false] (HS ps dd x y)=.ok (.b true) (HS ps dd x y):=by rw[Za];kernel_rfl
 have i1:bU (.v<|sN y) (.v<|.int 1) (HS ps dd x y)=y0 (cv y):=rfl;rw[za (Y1:=[sv (wD [x] [y]),y0 (.t [wZ,wZ]),sv (sN y),y0 (.s eV)]) (h1:=HS ps dd x y) rfl,Wh (w:=.b k9) rfl<|jc rfl<|by simp![i1,t,a]];rfl
def ct:call prog (k+10) "Cases.truth" [.r 5,.v (.u 0),.v (.u 0),.v (.u 0)] (HS ps dd x y)=.p (.b true) (HS ps dd x y):=by rw[Ga (f:="Cases.truth") (d:=Zl) rfl _ _ _ rfl];simp only[Zl];rw[za (Y1:=[y0 (.r 5),sv (.int 0),sv (.int 0),sv (.int 0),y0 (.t [wZ,wZ])]) (h1:=HS ps dd x y)<|by rw[Za];kernel_rfl,Wa<|jc rfl<|by exact tN (k:=k)];rfl
def tc:call prog (k+11) YX [.r 4,.p [.u 0],.v (.u 0),.v (.u 0)] (HS ps dd x y)=.p (.t [.o fK,wZ]) (HS ps dd x y):=by
 rw[Ga (f:=YX) (d:=Xd) rfl _ _ _ rfl];simp only[Xd];rw[za (Y1:=[y0 _,y0 _,sv _,sv _,y0 _,u0,u0]) (h1:=HS ps dd x y) rfl,za (Y1:=[y0 _,y0 _,sv _,sv _,y0 _,sv _,y0 _]) (h1:=HS ps dd x y)]
 .rw[Za];kernel_rfl
 rw[zEx17,show Gr _ _ _ _=R.ok [.int 0] (HS ps dd x y)from rfl,R.aQ,Zc (Y1:=[y0 _,y0 _,sv _,sv _,y0 _,sv _,u0]) (Y2:=[y0 _,y0 _,sv _,sv _,y0 _,sv _,y0 _]) (h2:=HS ps dd x y) rfl]
 .rfl
 show execs _ Xc _ _=_;rw[Xc,za (Y1:=[y0 _,y0 _,sv _,sv _,y0 _,sv _,y0 _]) (h1:=HS ps dd x y) (by rw[zEx2];exact congrArg (R.bw · _)<|ct (k:=k))];rfl
end
section
variable{k:Nat}{ps:List D}{dd:List<|Tx×D}{x y:Tx}{h:AH}
abbrev pq(x y:Tx):D:=.p [wD [x] [y],.p [sN y]]
abbrev H3(ps:List D)(dd:List<|Tx×D):AH:=HD ps dd++[.lst []]
abbrev wW:W:=.t [.o fK,wZ]
def ts:call prog (k+12) YU [.r 4,.p [.u 0]] (HS ps dd x y)=.p wW (HS ps dd x y):=by rw[Ga (f:=YU) (d:=wc) rfl _ _ _ rfl];simp only[wc];rw[Wa<|jc rfl<|by exact tc (k:=k)];rfl
def fo:call prog (k+13) "found" [.v (pq x y),.v (.u 0)] (H3 ps dd)=.p wW (H3 ps dd):=by
 rw[Ga rfl _ _ _ rfl];simp only[AW];rw[za<|by rw[Za];kernel_rfl];have mk:eval (k8<|k+12) (.make "Search" "Search.__init__"<|.b .v0 .v1) [sv (pq x y),sv (.int 0)] (H3 ps dd)=.ok (.r 4) (HS ps dd x y):=by rw[Za];kernel_rfl
 have b:Gg (k8<|k+12) (.a<|.bY<|.bi .len<|.a<|.ix .v0<|.int 1) [sv (pq x y),sv (.int 0)] (HS ps dd x y)=.ok [.own [.int 0]] (HS ps dd x y):=by rw[Za];kernel_rfl
 have a:GD (HS ps dd x y) (y0<|.r 4)=y0 _:=rfl;rw[Wa<|jc rfl<|by rw[zEe45,mk,R.af,a];simp only[];rw[Fk ⟨trivial,rfl⟩,b];exact ts];rfl
def CH:call prog (k+14) "follows" [.v (a8 [x] [y] []),.v (.u 0),.v (cv y)] (H3 ps dd)=.p wW (H3 ps dd):=by
 rw[Ga rfl _ _ _ rfl];simp only[qS];rw[za rfl,za (Y1:=[sv (a8 [x] [y] []),sv (.int 0),sv (cv y),sv (wD [x] [y]),y0 (.t [])]) (h1:=H3 ps dd)<|by rw[Za];kernel_rfl,za (Y1:=[sv (a8 [x] [y] []),sv (.int 0),sv (cv y),sv (wD [x] [y]),y0 (.t [])]) (h1:=H3 ps dd)<|by rw[Za];kernel_rfl];have a:GN .add (.t []) (.t [sN y]) (H3 ps dd)=.ok (.t [sN y]) (H3 ps dd):=by rw[xB,Fk<|by rw[Gc];simp];rfl
 rw[Wa (w:=wW) (h1:=H3 ps dd)<|jc rfl<|by simp![av,a,fo (k:=k)]];rfl
def fr(e:Gr F it Y h=.p (d::ds) h)(c:Gx is one d Y=y0 Y1)(a:execs F b Y1 h=.j w h):execs F (.j (.for is one it b) ss) Y h=.j w h:=Wa<|by rw[zEx17,e,R.aQ,pd c a]
abbrev tQ(x y:Tx)(l:List<|Option W):Sl:=sv (cY x y)::sv (a8 [x] [y] [])::si 1::l
abbrev tP(x y:Tx)(l:List<|Option W):Sl:=tQ x y<|y0 (.t [cY x y,a8 [x] [y] []])::y0 (.r 3)::l
def Eu:call prog (k+15) YT [.v (cY x y),.v (a8 [x] [y] []),.i 1] (HD ps dd)=.p (.t [.o fK,wZ,.u 1]) (HD ps dd):=uV (A:=[cv y,de y]) (B:=[]) fun b c a=>by
 cases a
 iterate 3 rw[za (Y1:=tQ x y [u0,u0,u0,u0,u0,u0,u0,u0]) (h1:=HD ps dd)<|by rw[Za];kernel_rfl]
 rw[za (Y1:=tQ x y [y0 _,u0,u0,u0,u0,u0,u0,u0]) (h1:=HD ps dd) rfl,za (Y1:=tP x y [u0,u0,u0,u0,u0,u0]) (h1:=H3 ps dd)<|by rw[Za];kernel_rfl];rw[fr (d:=.int 0) (ds:=[.int 1]) (Y1:=tP x y [sv _,u0,u0,u0,u0,u0]) (w:=.t [.str fK,wZ,.int 1]) (by rw[Za];kernel_rfl) rfl]
 .rfl
 refine fr (d:=.int 0) (ds:=[.int 1]) (Y1:=tP x y [sv _,sv _,u0,u0,u0,u0]) (by rw[Za];kernel_rfl) rfl ?_;refine fr (d:=.tup [.int 0,cv y]) (ds:=[.tup [.int 1,de y]]) (Y1:=tP x y [sv _,sv _,sv _,sv _,u0,u0]) (by rw[Za];kernel_rfl) rfl ?_;have f:=CH (k:=k) (ps:=ps) (dd:=dd) (x:=x) (y:=y);rw[zi,za (Y1:=tP x y [sv _,sv _,sv _,sv _,y0 _,sv wZ]) (h1:=H3 ps dd) (by rw[zEx3];exact congrArg (R.bw · _) f),Wh (w:=.t [.str fK,wZ,.int 1]) rfl rfl]
def Ll:∃d,call prog (k+21) Yt [.r 1,.s (md 113 49)] (HD ps<|dQ x y<|a8 [x] [y] [])=.p (.v d) (HD ps<|dQ x y<|a8 [x] [y] []):=by
 refine⟨.str [48,32,48],AD (x:=x) (y:=y) (B:=[]) Y9 Y9 (by rw[Za];kernel_rfl) (by rw[Za];kernel_rfl) ?_<|.inl ⟨_,rfl⟩⟩;have e:=Eu (k:=k+3) (ps:=ps) (dd:=dQ x y<|a8 [x] [y] []) (x:=x) (y:=y);rw[Ga rfl _ _ _ rfl];simp only[wk];rw[jp<|by exact e,Za]
 kernel_rfl
end
section
variable{k:Nat}{ps:List D}{dd:List<|Tx×D}{x y:Tx}{h:AH}
def mq(a:A.e+B.e<=90000):GN .j (.l A) (.j B) h=.p (.j<|A++B) h:=by rw[CC,Fk<|by rw[Gc];exact ZAA]
def fL[Cn](ps:List D)(x y:Tx):D->R W
|.p [r,_,_]=>call prog 39 Yu [.r 1,.v r]<|HD ps<|dX x y
|_=>.w
def gR(ps:List D)(x y:Tx):D->R W
|.p [_,.u n,e]=>.p (.t [cls n,e])<|HD ps<|dX x y
|_=>.w
noncomputable def ug:D->Bool
|.p [_,.u _,.T]=>k9
|.p [_,.u _,.u _]=>k9
|_=>y9
abbrev pL(e:D):Prop:=e=.T\/∃i,e=.u i
def AR(x y:Tx)(L:List D):Prop:=∀i<L.e,∃(r e:D)(n:Int),L.G i .T=.p [r,.u n,e]/\pL e/\∀ps,call prog 39 Yu [.r 1,.v r] (HD ps<|dX x y)=.p (.t [cls n,e]) (HD ps<|dX x y)
def uY{L:List D}{f g:D->R W}(P:List Nat)(m:((Ab1 L.e).a2 (!P.w ·)).y (λi=>f<|L.G i .T)=((Ab1 L.e).a2 (!P.w ·)).y λi=>g<|L.G i .T)(a:∀i∈P,f (L.G i .T)=g (L.G i .T))(hi:i<L.e):f (L.G i .T)=g (L.G i .T):=by
 by_cases q:i∈P
 .exact a i q
 .exact Am7.j m i<|by simp[hi,q]
def al(P:List Nat)(b:L.T ug=k9)(m:∀ps,((Ab1 L.e).a2 (!P.w ·)).y (λi=>fL ps x y<|L.G i .T)=((Ab1 L.e).a2 (!P.w ·)).y λi=>gR ps x y<|L.G i .T)(c:∀ps,∀i∈P,fL ps x y (L.G i .T)=gR ps x y (L.G i .T)):AR x y L:=λi a=>by
 have q ps:=uY P (m ps) (c ps) a;have t:=Af0.j b (L.G i .T) (by simp[a]);revert q;generalize L.G i .T=d at t;intro q;unfold ug at t;split at t
 .exact⟨_,_,_,rfl,.p rfl,q⟩
 .exact⟨_,_,_,rfl,.w ⟨_,rfl⟩,q⟩
 .cases t
def sp{L:List D}(b:call prog 39 Yu [.r 1,.v r] (HD ps<|dX x y)=.p (.t [cls n,e]) (HD ps<|dX x y))(a:L.G i .T=.p [r,.u n,e]):fL ps x y (L.G i .T)=gR ps x y (L.G i .T):=by
 rwa [a]
noncomputable abbrev t3(n:Int)(d:D):D:=.p [d,.u n,.T]
def m2:List D:=[.u 5,.T,.w [.o mZ],.p [.o gr,.o [97]],.K k9]
def OB(c:aH x):∃L:List D,(∀k h,call prog (k+1) "_law_no_rows" [.s x] h=.p (.l L) h)/\L.e=60/\AR x y ((L++m2).y<|t3 13):=by
 have:=c.2.2.1;refine⟨?L,λk h=>?a,?b⟩
 case a=>
  rw[Ga (d:=jl) rfl _ _ _ rfl];simp only[jl];have e:=add_str du x h (by simp;lia);have a2:=add_str n4 x h (by simp;lia);refine Eq.trans (congrArg _<|za<|by simp![];rfl) ?_
  repeat refine Eq.trans (congrArg _<|za<|by simp![e,a2];rw[mq Y9];rfl) ?_
  simp![];rfl
 case b=>
  refine⟨rfl,al [48,49] rfl (λf=>?_) λf=>?_⟩
  .rw[Za];kernel_rfl
  .rw[Aj4,T6];exact⟨sp (Pm (k:=17) c) rfl,sp (Cm (k:=17) c) rfl⟩
def Sr(c:aH x):∃L:List D,(∀k h,call prog (k+1) "_law_no_stands" [.s x] h=.p (.l L) h)/\L.e=18/\AR x y (L.y<|t3 14):=by
 have:=c.2.2.1;refine⟨?L,λk h=>?a,?b⟩
 case a=>
  rw[Ga (d:=xh) rfl _ _ _ rfl];simp only[xh];have e:=add_str lY x h (by simp;lia);refine Eq.trans (congrArg _<|za<|by simp![];rfl) ?_
  repeat refine Eq.trans (congrArg _<|za<|by simp![e];rw[mq Y9];rfl) ?_
  simp![];rfl
 case b=>
  refine⟨rfl,al [12] rfl (λf=>?_) λf=>?_⟩
  .rw[Za];kernel_rfl
  .rw[T6];exact sp (u5 (k:=17) c) rfl
def Sa(c:aH x)(f:aH y):∃L:List D,(∀k h,call prog (k+1) "_law_others" [.s x,.s y] h=.p (.l L) h)/\L.e=53/\AR x y L:=by
 have:=c.2.2.1;have:=f.2.2.1;refine⟨?L,λk h=>?a,?b⟩
 case a=>
  rw[Ga (d:=Xm) rfl _ _ _ rfl];simp only[Xm];have i:=add_str mX x h (by simp;lia);have a2:=add_str kX x h (by simp;lia);have a3:=add_str AM x h (by simp;lia);have a4:=add_str lE x h (by simp;lia);have a5:=add_str (lE++x) [32,41] h (by simp;lia);have a6:=add_str Bd y h (by simp;lia);have a7:=add_str lE y h (by simp;lia);have g:=add_str (lE++y) [10] h (by simp;lia);simp only[Af,Af3]at a5 g;refine Eq.trans (congrArg _<|za<|by simp![av];rfl) ?_
  repeat refine Eq.trans (congrArg _<|za<|by simp![av,i,a2,a3,a4,a5,a6,a7,g];rw[mq Y9];rfl) ?_
  simp![];rfl
 case b=>
  refine⟨rfl,al [7,14,25,29,30,31,32,33,43,49] rfl (λps=>?_) λps=>?_⟩
  .rw[Za];kernel_rfl
  .have e:=Fz (k:=17) (ps:=ps) (x:=x) f;rw[Ac4]at e
   repeat rw[Aj4]
   exact⟨sp (E4 (k:=17)) rfl,sp (DE (k:=17)) rfl,sp (MA (k:=17) c) rfl,sp (Rt (k:=17) c f) rfl,sp (C4 (k:=17) c f) rfl,sp (Np (k:=17) c) rfl,sp (Eh (k:=17) c) rfl,sp (Fj (k:=17) c) rfl,sp e rfl,sp (Ez (k:=17) f) rfl,nofun⟩
end
section
variable{k:Nat}{dd:List<|Tx×D}{x y:Tx}{ns:List Int}{i:Nat}{v:Int}
abbrev pk(ns:List Int)(i:Nat)(v:Int):List D:=[.w (ns.y .u),.n i,.u v]
def dr(k)(ns)(i)(v)(dd)(a:0<m)(b:m<1000):∃d j,d<m/\call prog (k+1) Yy [.r 0,.i m] (HD (pk ns i v) dd)=.p (.i d) (HD (pk ns i j) dd):=jJ k rfl a<|ZAA
def dx(k)(ns)(i)(v)(dd)(f:0<L.e)(h1:L.e<1000):∃j O,j<L.e/\∀a b c,eval (k8<|k+1) (.N .v4<|.j Yy<|.b .B<|.bi .j<|.a .v4) [some (.r 0),a,b,c,some (.l L)] (HD (pk ns i v) dd)=.p (.v<|L.G j .T) (HD (pk ns i O) dd):=by
 obtain⟨j,O,d,e⟩:=dr k ns i v dd f h1;refine⟨j,O,d,λa b c=>?_⟩;have ix:bU (.l L) (.i j) (HD (pk ns i O) dd)=y0 (L.G j .T):=by
  have:cL L.e j=y0 j:=by simp[cL];lia
  simp[bX,this,d,List.getD]
 simp![WO,e,ix,av]
abbrev iD:E:=.N .v4<|.j Yy<|.b .B<|.bi .j<|.a .v4
abbrev ZR(x y:Tx)(r e:D)(n:Int):Prop:=pL e/\∀ps,call prog 39 Yu [.r 1,.v r] (HD ps<|dX x y)=.p (.t [cls n,e]) (HD ps<|dX x y)
def dt(k)(ns)(i)(v)(dd)(a:AR x y<|L.y<|t3 m)(f:0<L.e)(h1:L.e<1000):∃r e n O,(∀a b c,eval (k8<|k+1) (.p<|.j iD<|.b (.u m) .ai) [y0 (.r 0),a,b,c,y0 (.l L)] (HD (pk ns i v) dd)=.p (.t [r,.u n,e]) (HD (pk ns i O) dd))/\ZR x y r e n:=by
 obtain⟨j,v2,h,d⟩:=dx k ns i v dd f h1;obtain⟨r,e,n,g,z⟩:=a j (by simp_all);have g:t3 m (L.G j .T)=.p [r,.u n,e]:=by rw[←g];simp[List.getD,h]
 refine⟨r,e,n,v2,λa b c=>?_,z⟩;show _=R.ok (W.v _) _;rw[←g,zEe7,zEk2,d];simp![av]
def R1(c:aH x)(H:aH y):∃r e n O,call prog (k+3) "_law_row" [.r 0,.s x,.s y] (HD (pk ns i v) dd)=.p (.t [r,.u n,e]) (HD (pk ns i O) dd)/\ZR x y r e n:=by
 obtain⟨D,E,f,I⟩:=OB c;obtain⟨J,F,o,C⟩:=Sr c;obtain⟨l,B,t,a2⟩:=Sa c H;obtain⟨d,v1,K,b⟩:=dr _ ns i v dd (m:=4) Y7 Y7;have b:call prog (k+2) Yy [.r 0,.v (.u 4)] _=.p _ _:=b;rw[Ga (d:=qG) rfl _ _ _ rfl];simp only[qG];have q (j:Nat)(h:AH):Gs .j _ _ h=y0 _:=WG d j h;have p (h:AH):Gs .j _ (.v<|.u 0) h=y0 _:=q 0 h;have w (h:AH):Gs .j _ (.v<|.u 1) h=y0 _:=q 1 h;show∃r e n O,Gy 3 (execs _ _ [y0 _,y0 _,y0 (.s y),u0,u0] _)=_/\_;rw[za (Y1:=[y0 (.r 0),y0 (.s x),y0 (.s y),si d,u0]) (h1:=HD (pk ns i v1) dd)<|by simp![b]];by_cases A:d=0
 .obtain⟨r,e,n,v2,a,z⟩:=dt _ ns i v1 dd I (by simp[m2]) (by simp[f,m2]);refine⟨r,e,n,v2,(congrArg _<|Wa<|(qH (h1:=HD (pk ns i v1) dd)<|by simp![p,On A]).x<|(za (Y1:=[y0 (.r 0),y0 (.s x),y0 (.s y),si d,y0 (.l<|D++m2)]) (h1:=HD (pk ns i v1) dd) ?_).x<|Wa<|jc rfl<|a _ _ _).x rfl,z⟩;simp![E,av];rw[mq<|by simp[f]];rfl
 rw[jb<|by simp![p,FS A]];by_cases s:d=1
 .obtain⟨r,e,n,v2,a,z⟩:=dt _ ns i v1 dd C (by simp[o]) (by simp[o]);exact⟨r,e,n,v2,(congrArg _<|Wa<|(qH (h1:=HD (pk ns i v1) dd)<|by simp![w,On s]).x<|(za (Y1:=[y0 (.r 0),y0 (.s x),y0 (.s y),si d,y0 (.l J)]) (h1:=HD (pk ns i v1) dd)<|by simp![F]).x<|Wa<|jc rfl<|a _ _ _).x rfl,z⟩
 rw[jb<|by simp![w,FS s]];obtain⟨j,v2,G,u⟩:=dx _ ns i v1 dd (L:=l) (by simp[t]) (by simp[t]);obtain⟨r,e,n,g,z⟩:=a2 j G;refine⟨r,e,n,v2,?_,z⟩;rw[g]at u;rw[za (Y1:=[y0 (.r 0),y0 (.s x),y0 (.s y),si d,y0 (.l l)]) (h1:=HD (pk ns i v1) dd)<|by simp![B],Wa<|jc rfl<|u _ _ _];rfl
end
section
variable{k:Nat}{ps:List D}{dd:List<|Tx×D}{x y:Tx}{ns:List Int}{i:Nat}{v:Int}{h:AH}
theorem tH:∀l:List Bool,GM (l.y .K) (l.y .K)=k9
|[]=>rfl
|b::l=>by simp[tH l]
def nF(a:pL e):Gs .ne (.t [cls n,e]) (.t [cls n,e]) h=y0 false:=by
 have c:cw (cls n) (cls n)=true:=tH<|(Ab1 16).y λ(k:Nat)=>u9 (k=n)||u9 (k=15);obtain rfl|⟨z,rfl⟩:=a
 .show(if k9=k9 then y0 (!cw (.p [cls n,.T]) (.p [cls n,.T]))else u0)=_;simp[c]
 .show(if k9=k9 then y0 (!cw (.p [cls n,.u z]) (.p [cls n,.u z]))else u0)=_;simp[c]
def sj(t):Gs .ne (.s t) (.s t) h=y0 false:=by simp[Kc]
def pf(n):call prog (k+1) Y6 [.v (.u n)] h=.p (.j<|(List.range 16).y fun(k:Nat)=>.K<|decide ((k:Int)=n)||decide (k=15)) h:=by
 rw[Ga rfl _ _ _ rfl];simp only[WC];rw[Wa<|Zx rfl ?_]
 .exact Gq _ _ _ rfl
 refine sS (λk=>.K _) rfl Y7 λj c=>⟨.b _,?_,rfl⟩;have a:Gs .j (.i j) (.v<|.u n) h=y0 (decide _):=OQ ..;have b:Gs .j _ (.v<|.u 15) h=y0 _:=WG j 15 h;by_cases q:j=n
 .simp![a,On q];rfl
 .simp![a,b,FS q];rfl
noncomputable abbrev TL(ns:List Int)(x y:Tx)(a:Option W)(l:List<|Option W):Sl:=[y0 (.l<|ns.y .u),y0 (.r 0),y0 (.s x),y0 (.s y),y0 (.r 1),a,y0 (.l [.o (fY x y),.o gx,.o []]),y0 (.s<|fY x y)]++l
def Im(K:ns.e<=63)(s:aH x)(q:aH y)(a b c d e f g:Option W):∃(A:Int)(E C B O:Option W),execs (k8 39) JQ (TL ns x y a [b,c,d,e,f,u0,u0,u0]) (HD (pk ns i v)<|dX x y)=.p (TL ns x y a [b,E,C,B,O,u0,u0,u0]) (HD (pk ns (i+1) A)<|dX x y):=by
 obtain⟨v1,p⟩:=NB 38 (h:=HD (pk ns i v)<|dX x y) (r:=0) K rfl;have p:call prog 39 "_law_turn" [.r 0] _=.ok _ (HD (pk ns (i+1) v1)<|dX x y):=p;obtain⟨r,z,n,v2,L,u,M⟩:=R1 (k:=36) (ns:=ns) (i:=i+1) (v:=v1) (dd:=dX x y) s q;obtain⟨m,v3,j,l⟩:=dr 38 ns _ v2 _ (m:=3) Y7 Y7;have l:call prog 39 Yy [.r 0,.v (.int 3)] _=.ok _ (HD (pk ns (i+1) v3)<|dX x y):=l;refine⟨v3,sv r,sv<|.int n,sv z,si m,?_⟩;unfold JQ;rw[za (Y1:=TL ns x y a [b,c,d,e,f,u0,u0,u0]) (h1:=HD (pk ns (i+1) v1)<|dX x y)<|by simp![p]];rw[za (Y1:=TL ns x y a [b,sv r,sv (.int n),sv z,f,u0,u0,u0]) (h1:=HD (pk ns (i+1) v2)<|dX x y)<|by simp![L]];rw[jb<|by simp![M,pf];exact congrArg (λo=>(R.bind (R.of _ o) _).bind _)<|nF (n:=n) u];rw[za (Y1:=TL ns x y a [b,sv r,sv (.int n),sv z,si m,u0,u0,u0]) (h1:=HD (pk ns (i+1) v3)<|dX x y)<|by simp![l]];have F (m:Nat)(j:m<3):∃t:Tx,bU (.v<|.str lV) (.i m) (HD (pk ns (i+1) v3)<|dX x y)=y0 (.str [(lV:List Nat).getD m 0])/\bU (.l [.str (fY x y),.str gx,.str []]) (.i m) (HD (pk ns (i+1) v3)<|dX x y)=y0 (.str t)/\call prog 39 Yt [.r 1,.s (115::104::111::119::32::[(lV:List Nat).getD m 0])] (HD (pk ns (i+1) v3)<|dX x y)=.ok (.s t) (HD (pk ns (i+1) v3)<|dX x y):=by
  match m,j with
|0,_=>exact⟨_,by rw[Za];rfl,rfl,sX (k:=18) s q⟩
|1,_=>exact⟨[116,105,101,32,112],by rw[Za];rfl,rfl,by rw[Za];kernel_rfl⟩
|2,_=>exact⟨[],by rw[Za];rfl,rfl,by rw[Za];kernel_rfl⟩
 obtain⟨t,H,N,J⟩:=F m j;have w:GD (HD (pk ns (i+1) v3)<|dX x y) (y0<|.r 1)=y0 (1,YL,[(YF,.ref 2)]):=rfl;have G:([(YF,D.ref 2)]:List<|String×D).lookup Y0=none:=rfl;have I:=add_str gu [(lV:List Nat).getD m 0] (HD (pk ns (i+1) v3)<|dX x y) Y9;rw[jb<|by simp![w,G,Ai3,UT,Os,H,I,av,J,N,sj]];rfl
theorem uF(j:ns.e<=63)(k:aH x)(g:aH y)(a):∀m ds i v b c d e f,ds.e=m->∃O V b' c' d' Z f',Gw (Gx [8] k9) (λY h=>execs (k8 39) JQ Y h) ds (TL ns x y a [b,c,d,e,f,u0,u0,u0]) (HD (pk ns i v)<|dX x y)=.p (TL ns x y a [b',c',d',Z,f',u0,u0,u0]) (HD (pk ns O V)<|dX x y)
|_,[],i,v,b,c,d,e,f,_=>⟨i,v,b,c,d,e,f,rfl⟩
|_,z::ds,i,v,b,c,d,e,f,_=>by obtain⟨v1,s,l,t,r,q⟩:=Im j k g a (sv z) c d e f u0;obtain⟨i2,v2,p,n,o,u,A,w⟩:=uF j k g a _ ds (i+1) v1 (sv z) s l t r rfl;exact⟨i2,v2,p,n,o,u,A,(Zc (by rw[GG];rfl) q).x w⟩
end
section
variable{k:Nat}{ps:List D}{dd:List<|Tx×D}{x y:Tx}{h:AH}
noncomputable def mz:Nat->Ss->Ss
|0,_=>.p
|_+1,.p=>.p
|n+1,.j s ss=>.j s<|mz n ss
noncomputable def eE:Nat->Ss->Ss
|0,ss=>ss
|_+1,.p=>.p
|n+1,.j _ ss=>eE n ss
theorem yQ:∀n ss {Y Y1}{h h1},execs F (mz n ss) Y h=.p Y1 h1->execs F ss Y h=execs F (eE n ss) Y1 h1
|0,ss,Y,Y1,h,h1,e=>by cases e;rfl
|n+1,.p,Y,Y1,h,h1,e=>by cases e;rfl
|n+1,.j s ss,Y,Y1,h,h1,e=>by
  rw[mz,zEs2]at e;rw[zEs2,eE];cases q:exec F s Y h with
|next a b=>rw[q,O.cC]at e;rw[O.cC,yQ n ss e]
|_=>rw[q]at e;cases e
def Px(o:O)(i:Nat):Option W:=match o with
|.p Y _=>Gi Y i
|_=>u0
def d3(x y:Tx):List<|Tx×D:=[([97],cY x y),([111],m6),([101],BD)]
def Di{b:W}:∃r,execs (k8 38) (mz 6 ba.j) [y0 (.r 1),y0 b,u0,u0] (HD ps<|d3 x y)=.p [y0 (.r 1),y0 b,r,u0] (HD ps<|dX x y):=by
 refine⟨Px (execs (k8 38) (mz 6 ba.body) [y0 (.r 1),y0 b,u0,u0]<|HD ps<|d3 x y) 2,?_⟩;rw[Za]
 kernel_rfl
end
section
variable{ps:List D}{x y:Tx}{h:AH}
def oz(a:A.e+B.e<=90000):GN .j (.p A) (.j B) h=.p (.j<|A++B) h:=by rw[LA,Fk<|by rw[Gc];exact ZAA]
def fD[Cn](ps:List D)(x y:Tx):D->R W
|.p [.o r,.o _]=>call prog 38 Yt [.r 1,.s r]<|HD ps<|dX x y
|_=>.w
def gD(ps:List D)(x y:Tx):D->R W
|.p [_,t]=>.p (.v t)<|HD ps<|dX x y
|_=>.p (.v .T)<|HD ps<|dX x y
set_option tactic.hygienic true in
def Eg(l:L.e<=1000)(m:∀F Y h,eval F ce Y h=.p (.v c) h)(a:∀d∈L++[c],fD ps x y d=gD ps x y d):Gy 3 (execs (k8 38) (.b (.iff .G (.a<|.app 3 ce) .p)<|.ret<|.bi .all<|.a ji) [y0 (.r 1),y0 (.b b),r,y0 (.j L)]<|HD ps<|dX x y)=.p (.b k9) (HD ps<|dX x y):=by
 have g L' (l:L'.e<=1001)(a:∀d∈L',fD ps x y d=gD ps x y d):eval (k8 38) (.bi .all<|.a ji) [y0 (.r 1),y0 (.b b),r,y0 (.j L')] (HD ps<|dX x y)=.p (.b k9) (HD ps<|dX x y):=by
  have:eval (k8 38) ji [y0 (.r 1),y0 (.b b),r,y0 (.j L')] (HD ps<|dX x y)=.p (.j<|L'.y λ_=>.K k9) (HD ps<|dX x y):=by
   refine Zk (λ_=>.K k9) rfl (by rw[Gc];exact ZAA) λd f=>?_;have q:=a d f;unfold fD at q;split at q
   .rename_i r t;have k:GD (HD ps<|dX x y) (y0<|.r 1)=y0 _:=rfl;have i:([(YF,D.ref 2)]).p Y0=none:=rfl;have j:Gs .j (.s t) (.s t) (HD ps<|dX x y)=y0 true:=by rw[qg,S6]
    have q:call prog 38 Yt [.r 1,.s r] _=.p _ _:=q;exact⟨[y0 _,y0 _,y0 _],rfl,.b k9,by simp![k,i,Ai3,UT,Os,q,j,av],rfl⟩
   .unfold gD at q;split at q<;>cases q
  have e:(L'.y λ_=>D.bl k9)=(L'.y λ_=>k9).y .K:=by rw[Ae5];rfl
  rw[e]at this;rw[J4 this];simp
 cases b
 .rw[jb<|by rw[Za];rfl,Wa<|jc rfl<|g L (Af9 ‹_›) λd f=>a d<|Ag3 _ f];rfl
 .have n:L.e<aR:=by rw[Gc];exact PP ‹_›<|by decide
  rw[za (Y1:=[y0 (.r 1),y0 (.b k9),r,y0 (.j<|L++[c])]) (h1:=HD ps<|dX x y)<|(qH<|by rw[Za];rfl).x<|by simp_all,Wa<|jc rfl<|g _ (by simp;exact ZAA) a];rfl
end
section
variable{k:Nat}{h:AH}{F:Fx}
def Ls(f)(hi:Gp F it Y h=.p ds h)(a:ds.e<=aR)
 (l:∀d∈ds,∃O,Gx tg one d (Ab k u0++az.y λj=>Gn Y j)=y0 O/\Gj F c O h=.p (f d).p h/\∀y,f d=y0 y->eval F elt O h=.p (.v y) h):
 eval F (.M tg one k az it k9 c elt) Y h=.p (.j<|ds.X f) h:=by
 rw[zEe25,hi,R.af,Fk a,Xv f]
 .rfl
 intro d g;obtain⟨O,b,i,e⟩:=l d g;rw[b];show((Gj F c O h).j _)=_;rw[i];cases q:f d with
|some y=>simp[e y q]
|none=>simp
def J6(a b:Nat):KG (a:Int) (b:Int)=y0 ((a&&&b:Nat):Int):=by simp[KG]
def pH(a b:Nat):lW (a:Int) (b:Int)=y0 ((a|||b:Nat):Int):=by simp[lW]
def Mc(t k):(t/2^k&&&1:Nat)=(t.j k).j:=by
 rw[Vz,←Nat.shiftRight_eq_div_pow,Nat.testBit,Nat.and_comm,Vz];have:=Nat.mod_two_eq_zero_or_one<|t>>>k;rcases this with e|e<;>rw[e]<;>rfl
noncomputable def PF(t:Nat):List Nat:=(Ab1 9).X λi=>if t.j i=k9 then y0 i else u0
abbrev pQ(q:Nat×Nat):D:=.p [.n q.1,.n q.2]
def C8:call prog (k+1) "pairs_of" [.i 3,.i t] h=.p (.j<|(PF t).y fun p=>pQ (p/3,p%3)) h:=by
 have e:Gp (k8 k) (.aA<|.y .p .B .B) [si 3,si t] h=.p ((Ab1 9).y .n) h:=WP (by have:Gm .p _ _=y0 _:=W4 3 3<|SB _ _;simp![this,av])<|SB _ _;have b:=Ls (tg:=[0]) (one:=k9) (k:=1) (az:=[1,0]) (c:=.y .band (.y .shr .G .B)<|.u 1) (elt:=.bi .divmod<|.b .B .L) (λd=>match d with|.u i=>if t.j i.j=k9 then y0 (pQ (i.j/3,i.j%3))else u0|_=>u0) e (by rw[Gc];simp) λd f=>by
  obtain⟨i,l,rfl⟩:=yA _ f;have a:Gm .shr t i=y0 ((t/2^i:Nat):Int):=by simp[Gm,Int.natCast_pow]
  have g:Gm .band _ 1=y0 (((t.j i).j:Nat):Int):=(J6 _ 1).x (by rw[Mc]);refine⟨[si i,si t,si 3],rfl,?_,λy hy=>?_⟩
  .simp![a,g,Fy];rw[Af1];cases t.j i<;>rfl
  .have hy:(if t.j i=k9 then y0 (pQ _)else u0)=y0 y:=hy;split at hy<;>cases hy;have j:(0:Int)<((3:Nat):Int)/\((3:Nat):Int)<kU:=by rw[GJ];exact by decide
   simp[Gn,GJ,pQ,D.n]
 refine(congrArg _<|Wa<|Zx rfl b).x<|(Gq _ _ _ rfl).x ?_;rw[Vn,PF,List.map_filterMap];congr;funext i;show(if t.j i=k9 then _ else _)=Option.map _ _;split<;>rfl
abbrev gM(t:Nat)(L:List<|Nat×Nat):Nat:=L.a0 (λt q=>t|||2^(q.1*3+q.2)) t
theorem AO:∀L t x y,(∀q∈L,q.1<9/\q.2<9)->∃j O,Gw (Gx [3,4] y9) (λY h=>execs F xm Y h) (L.y pQ) [si 3,y0 l,si t,x,y] h=.p [si 3,y0 l,si (gM t L),j,O] h
|[],t,x,y,_=>⟨x,y,rfl⟩
|q::L,t,x,y,a=>by
  have i:=a q Aa2;obtain⟨j,O,e⟩:=AO L (t|||2^(q.1*3+q.2)) (si q.1) (si q.2) λr f=>a r<|Aa0 _ f;refine⟨j,O,?_⟩;have c:Gm .p q.1 (3:Nat)=y0 ((q.1*3:Nat):Int):=W4 _ _ Y8;have g:Gm .j (q.1*3:Nat) q.2=y0 ((q.1*3+q.2:Nat):Int):=rfl;have d:Gm .shl 1 (q.1*3+q.2:Nat)=y0 ((2^(q.1*3+q.2):Nat):Int):=by show(if _ then _ else _)=_;rw[Fk ⟨(SK _),by rw[Ke];lia,by rw[GB];decide⟩,Yr,Af1];simp
  have b:Gm .bor t ((2^(q.1*3+q.2):Nat))=y0 ((t|||2^(q.1*3+q.2):Nat):Int):=pH ..;rw[Ac3,Zc (Y1:=[si 3,y0 l,si t,si q.1,si q.2]) (Y2:=[si 3,y0 l,si (t|||2^(q.1*3+q.2)),si q.1,si q.2]) (h2:=h) rfl<|by rw[xm];simp![c,g,d,b,av],e];rfl
def F2{o:List Nat}(v:o.e=3)(f:∀a∈o,a<3):call prog (k+2) YO [.i t,.t (o.y .n)] h=.p (.i<|gM 0<|(PF t).y fun p=>(o.G (p/3) 0,o.G (p%3) 0)) h:=by
 rw[Ga (d:=Jk) rfl _ _ _ rfl];simp only[Jk];rw[za (Y1:=[si t,y0 (.t<|o.y .n),si 3]) (h1:=h)<|by simp![Q8,Aa4,v]];have lt:∀j,o.G j 0<9:=λj=>by
  rw[List.getD];cases q:o[j]? with
|none=>simp
|some a=>have:=f a<|Ag2 q;simp;exact Ac ‹_›<|by decide
 have ix {a:Nat}(w:a<3):bU (.t<|o.y .n) (.i a) h=y0 (.n<|o.G a 0):=by
  have:cL o.e (a:Int)=y0 a:=by simp[cL];lia
  simp[bU,W.int?,W.aU,W.seq?,bX,this,List.getD,show a<o.e by lia]
 have r:eval (k8<|k+1) Xn [si t,y0 (.t<|o.y .n),si 3] h=.p (.j<|((PF t).y λp=>(o.G (p/3) 0,o.G (p%3) 0)).y pQ) h:=by
  refine(Zk (h:=h) (ds:=(PF t).y λp=>pQ (p/3,p%3)) (λd=>match d with|.p [.u a,.u b]=>pQ (o.G a.j 0,o.G b.j 0)|_=>d) (by simp![C8]) ?_ λd s=>?_).x ?_
  .rw[Gc,Aa4];exact Ac (List.length_filterMap_le ..) Y9
  .obtain⟨p,c,rfl⟩:=Ae9.j s;obtain⟨i,u,c⟩:=Ah1.j c;have:p<9:=by
    split at c
    .cases c;exact Af8.j u
    .cases c
   exact⟨[si _,si _,y0 _],rfl,.v<|pQ (o.G (p/3) 0,o.G (p%3) 0),by simp![ix (a:=p/3) Y8,ix (a:=p%3) Y8,av],rfl⟩
  .rw[Ae5,Ae5];rfl
 obtain⟨m,n,e⟩:=AO (F:=(k8 k)) (h:=h) (l:=.p<|((PF t).y λp=>(o.G (p/3) 0,o.G (p%3) 0)).y pQ) ((PF t).y λp=>(o.G (p/3) 0,o.G (p%3) 0)) 0 u0 u0 λq g=>by obtain⟨p,_,rfl⟩:=Ae9.j g;exact⟨lt _,lt _⟩
 refine(congrArg _<|Wa<|jc rfl ?_).x<|Gb _ _ _ rfl;simp![r];exact(by rw[Ga (d:=xx) rfl _ _ _ rfl];simp only[xx];rw[za (Y1:=[si 3,y0 (.p<|((PF t).y λp=>(o.G (p/3) 0,o.G (p%3) 0)).y pQ),si 0,u0,u0]) (h1:=h) rfl,za (Y1:=[si 3,y0 (.p<|((PF t).y λp=>(o.G (p/3) 0,o.G (p%3) 0)).y pQ),si (gM 0<|(PF t).y λp=>(o.G (p/3) 0,o.G (p%3) 0)),m,n]) (h1:=h) (by rw[zEx17];exact(congrArg (R.bw · _)<|show Gr _ _ _ _=R.ok _ h from rfl).x e)];exact(congrArg _<|Wa rfl).x<|Gb _ _ _ rfl)
def sA(t:Nat)(o:List Nat):Nat:=gM 0<|(PF t).y λp=>(o.G (p/3) 0,o.G (p%3) 0)
end
section
variable[Cn]
def ot(ov:Nat->String->List W->AH->Option (R W)):Nat->String->List W->AH->R W
|0,_,_,_=>.w
|k+1,f,a,h=>match ov k f a h with
|some r=>r
|none=>match prog.fns.p f with
|some d=>run ⟨ot ov k,prog.cl,prog.X⟩ d a h
|none=>.w
theorem pI(a:∀k f ws h r,ov k f ws h=y0 r->call prog (k+1) f ws h=r):∀k,ot ov k=call prog k
|0=>rfl
|k+1=>by
  funext f ws h;rw[ot,call,pI a k];cases q:ov k f ws h with
|none=>rfl
|some r=>exact(a _ _ _ _ _ q).I.x<|by rw[call]
end
def zN:D->Option Nat
|.int (.ofNat a)=>some a
|_=>none
def zL:List D->Option (List Nat)
|[]=>some []
|d::r=>(zN d).bind fun a=>(zL r).map (a::·)
def zV:W->Option D
|.v d=>some d
|_=>none
def zQQ:D->List D
|.tup l=>l
|_=>[.ai]
theorem zNi{d}(h:zN d=some a):d=.n a:=by
 cases d with
|int i=>cases i<;>cases h;rfl
|_=>cases h
theorem zLi:∀{ds l},zL ds=some l->ds=l.map .n
|[],_,h=>by cases h;rfl
|d::r,l,h=>by
 obtain⟨a,p,h⟩:=Option.bind_eq_some_iff.mp h
 obtain⟨m,q,rfl⟩:=Option.map_eq_some_iff.mp h
 rw[zNi p,zLi q];rfl
theorem zVi{w}(h:zV w=some d):w=.v d:=by
 cases w<;>cases h;rfl
theorem zQQi{d}(h:zL (zQQ d)=some l):d=.tup (l.map .n):=by
 cases d with
|tup _=>rw[←zLi h];rfl
|_=>cases h
noncomputable def nZ(k:Nat)(ws:List W)(h:AH):Option (R W):=match ws with
|[a,b]=>((zV a).bind zN).bind fun t=>((zV b).bind fun d=>zL (zQQ d)).bind fun l=>if 0<k/\l.length=3/\∀x∈l,x<3 then some (.ok (.i (sA t l)) h)else none
|_=>none
def tr(e:nZ k ws h=y0 r):call prog (k+1) YO ws h=r:=by
 unfold nZ at e;split at e
 .obtain⟨t,p,e⟩:=Option.bind_eq_some_iff.mp e
  obtain⟨d,p,p2⟩:=Option.bind_eq_some_iff.mp p
  obtain⟨l,q,e⟩:=Option.bind_eq_some_iff.mp e
  obtain⟨d',q,q2⟩:=Option.bind_eq_some_iff.mp q
  rw[zVi p,zVi q,zNi p2,zQQi q2];split at e
  .next z=>
   cases e;obtain⟨j,rfl⟩:=Nat.exists_eq_succ_of_ne_zero (Nat.ne_of_gt z.1);exact F2 z.2.1 z.2.2
  .cases e
 .cases e
noncomputable def Lh:List<|List Nat:=[[0,1,2],[0,2,1],[1,0,2],[1,2,0],[2,0,1],[2,1,0]]
def cF(t:Nat):List Nat:=Lh.y<|sA t
abbrev wl(t:Nat):D:=.p [.u 3,.p [],.p [.n t]]
noncomputable abbrev w0:D:=.p [.p [],.p [.o [112]]]
noncomputable def FM:Nat:=6703903964971298549787012499102923063764390931032378776707169432372489872544890548013141262042371156468264365752915147618013979725098387921310472321302223
def FL:List Nat:=(Ab1 512).a2 FM.j
section
variable{k:Nat}{a b c:Cell}{S:List Int}
noncomputable abbrev H4(a b c:Cell)(S:List Int):AH:=[a,b,c,.gP S]
def CO(k t:Nat):Prop:=∀a b c S,call prog (k+9) "world_of" [.v w0,.v (.u 3),.i t] (H4 a b c S)=.p (.v<|wl t) (H4 a b c S)/\call prog (k+9) "codes_alike" [.v w0,.v (wl t)] (H4 a b c S)=.p (.j<|(cF t).y .n) (H4 a b c S)
def CV:FL.y (fun t=>call prog (k+9) "world_of" [.v w0,.v (.u 3),.i t]<|H4 a b c S)=FL.y fun t=>.p (.v<|wl t)<|H4 a b c S:=by rw[Za];kernel_rfl
def yN(k:Nat)(f:String)(ws:List W)(h:AH):Option<|R W:=if f=YO then nZ k ws h else none
def IG(k)(f)(ws)(h)(r)(e:yN k f ws h=y0 r):call prog (k+1) f ws h=r:=by
 unfold yN at e;split at e;next q=>subst q;exact tr e
 .cases e
def Ex:FL.y (fun t=>call prog (k+9) "codes_alike" [.v w0,.v (wl t)]<|H4 a b c S)=FL.y fun t=>.p (.j<|(cF t).y .n)<|H4 a b c S:=by rw[←pI IG,Za];kernel_rfl
end
section
variable{k:Nat}{a b c:Cell}{S:List Int}
abbrev tF(A:List Nat)(x y z:Option W):Sl:=[sv w0,sv (.u 3),y0 (.r 3),y0 (.j<|A.y wl),x,y,z]
def mx(S:List Int)(M:Nat):Prop:=∀n:Nat,S.w (n:Int)=M.j n
def zev{M n:Nat}(h:mx S M):mx (Kp S n) (M|||2^n)/\(Kp S n).e<=S.e+1:=by
 have q:=h n;unfold Kp;refine⟨λm=>?_,by split<;>simp⟩;rw[Nat.testBit_or,Nat.testBit_two_pow,←h m];split;next e=>
  by_cases z:n=m
  .subst z;rw[e];rfl
  .simp[z]
 next e=>
  by_cases z:n=m
  .subst z;simp
  .simp[z,show m≠(n:Int)by lia]
theorem tE:∀(l:List Nat) S M z,mx S M->S.e+l.e<=9000->∃V Z,mx V (l.a0 (λM c=>M|||2^c) M)/\V.e<=S.e+l.e/\Gw (Gx [6] k9) (λY h=>execs F zk Y h) (l.y .n) (tF A x y z) (H4 a b c S)=.p (tF A x y Z) (H4 a b c V)
|[],S,M,z,h,_=>⟨S,z,h,Aa3 _,rfl⟩
|n::l,S,M,z,h,d=>by
  obtain⟨h1,g⟩:=zev h;rw[Ab6]at d;obtain⟨V,Z,i,j,e⟩:=tE l (Kp S n) (M|||2^n) (si n) h1 Y8;refine⟨V,Z,i,by rw[Ab6];lia,?_⟩;have f:S.e<aR:=by rw[Gc];lia
  rw[Ac3,Zc rfl<|by rw[zk,za (Y1:=tF A x y<|si n) (h1:=H4 a b c<|Kp S n)<|by rw[zEx11];show(if S.e<aR then O.next _ _ else O.fail)=_;rw[Fk f];rfl];rfl,e]
def oU:List Nat->Nat->Bool
|[],_=>k9
|n::l,M=>(M.j n !=FM.j n)&&oU l (if FM.j n then(cF n).a0 (λM c=>M|||2^c) M else M)
theorem oO(p:∀t,FM.j t=k9->t<512->CO k t):∀l S M A x y z,mx S M->S.e+6*l.e<=9000/\A.e+l.e<=900->(∀n∈l,n<512)->oU l M=k9->∃S' V Z j,Gw (Gx [4] k9) (λY h=>execs (k8<|k+9) zh Y h) (l.y .n) (tF A x y z) (H4 a b c S)=.p (tF (A++l.a2 FM.j) V Z j) (H4 a b c S')
|[],S,M,A,x,y,z,_,_,_,_=>⟨S,x,y,z,by rw[List.filter_nil,Ac4];rfl⟩
|n::l,S,M,A,x,y,z,h,s,o,q=>by
  obtain⟨s,C⟩:=s;rw[Ab6]at s C;simp only[oU,Aa6]at q;obtain⟨D,d⟩:=q;have v:=h n;have w:eval (k8<|k+9) (.cQ k9 .v4 2) (tF A (si n) y z) (H4 a b c S)=.p (.b<|!S.w (n:Int)) (H4 a b c S):=rfl;have g:Gj (k8<|k+9) (.cQ k9 .v4 2) (tF A (si n) y z) (H4 a b c S)=.p (FM.j n) (H4 a b c S):=by rw[Gj,w,v];revert D;cases M.j n<;>cases FM.j n<;>simp
  cases f:FM.j n with
|false=>rw[f]at d g;obtain⟨S',V,Z,j,e⟩:=oO p l S M A (si n) y z h ⟨by lia,(Ag5 ‹_›)⟩ (λm i=>o m<|Aa0 _ i) d;refine⟨S',V,Z,j,?_⟩;rw[Ac3,Zc (Y1:=tF A (si n) y z) rfl<|by rw[zh,jb g];rfl,e,Ak5<|by simp[f]]
|true=>
   rw[f]at d g;obtain⟨G,F⟩:=p n f (o n Aa2) a b c S;obtain⟨r,u,i1,B,E⟩:=tE (cF n) S M z h (by show S.e+6<=_;lia);obtain⟨S',V,Z,j,e⟩:=oO p l r _ (A++[n]) (si n) (sv<|wl n) u i1 ⟨by have:r.e<=S.e+6:=B;lia,by simp;lia⟩ (λm i=>o m<|Aa0 _ i) d;refine⟨S',V,Z,j,?_⟩;rw[Ac3,Zc (Y1:=tF A (si n) y z) rfl ?_,e,Ag7 f,Ah6]
   .rfl
   rw[zh,za<|(qH g).x ?_]
   .rfl
   rw[za (Y1:=tF A (si n) (sv<|wl n) z) (h1:=H4 a b c S)<|by simp![G]];rw[za (Y1:=tF (A++[n]) (si n) (sv<|wl n) z) (h1:=H4 a b c S)<|by rw[zEx7];show(if(A.y wl).e<aR then O.next _ _ else O.fail)=_;rw[Fk<|by rw[Gc,Aa4];lia];show _=O.next [sv w0,sv (.u 3),y0 (.r 3),y0 (.j<|(A++[n]).y wl),si n,sv (wl n),z] _;rw[Ae8];rfl];rw[za (Y1:=tF (A++[n]) (si n) (sv<|wl n) u) (h1:=H4 a b c r)<|by rw[zEx17,show Gr _ _ _ _=R.ok ((cF n).y .n) (H4 a b c S)by simp![F],R.aQ];exact E];rfl
def HF(h:∀t,FM.j t=k9->t<512->CO k t)(m:GQ [a,b,c]=k9):call prog (k+10) "all_forms" [.v w0,.v (.u 3)] [a,b,c]=.p (.j<|FL.y wl) [a,b,c]:=by
 obtain⟨f,g,l,i,e⟩:=oO (k:=k) (a:=a) (b:=b) (c:=c) h (Ab1 512) [] 0 [] u0 u0 u0 (λn=>by simp) ⟨by simp,by simp⟩ (λn o=>Af8.mp o) (by decide+kernel);rw[Ga (d:=Wq) rfl _ _ _ rfl];simp only[Wq];rw[za (Y1:=[sv w0,sv (.int 3),y0 (.r 3),u0,u0,u0,u0]) (h1:=H4 a b c []) rfl,za (Y1:=tF [] u0 u0 u0) (h1:=H4 a b c []) rfl,za (Y1:=tF FL g l i) (h1:=H4 a b c f)]
 .have j:Gd (FL.map wl)=true:=by kernel_rfl
  show(if(4:Nat)=3 then R.ok (W.own<|FL.map wl) (H4 a b c f)else if(Gd (FL.map wl)&&GQ [a,b,c])=k9 then R.ok (W.own<|FL.map wl) [a,b,c]else .ok (.own<|FL.map wl) (H4 a b c f))=_;rw[m,j];rfl
 rw[zEx17,show Gr _ _ _ _=R.ok ((Ab1 512).map .n) (H4 a b c [])by rw[Za];kernel_rfl,R.aQ];exact e
end
noncomputable def vV:List W->Bool
|[.v (.p [.p [],.p [.o s]]),.v (.u n)]=>s==[112]&&n==3
|_=>y9
noncomputable def vO(k:Nat)(ws:List W):AH->Option (R W)
|[a,b,c]=>if 9<=k/\vV ws=k9/\GQ [a,b,c]=k9 then y0 (.p (.j<|FL.y wl) [a,b,c])else u0
|_=>u0
def ov(k:Nat)(f:String)(ws:List W)(h:AH):Option<|R W:=if f=YO then nZ k ws h else if f="all_forms" then vO k ws h else none
def Og(h:FM.j t=k9)(d:t<512):CO k t:=λa b c S=>by have m:=Al1.p ⟨Af8.p d,h⟩;exact⟨Am7.j CV t m,Am7.j Ex t m⟩
def CY(k)(f)(ws)(h)(r)(e:ov k f ws h=y0 r):call prog (k+1) f ws h=r:=by
 unfold ov at e;split at e;(next q=>subst q;exact tr e);split at e;next q=>
  subst q;unfold vO at e;split at e
  .split at e;next q=>
    obtain⟨d,a,c⟩:=q;unfold vV at a;split at a
    .simp[TN]at a;obtain⟨rfl,rfl⟩:=a;obtain⟨j,rfl⟩:∃j,k=j+9:=⟨k-9,((Vy ‹_›).symm)⟩;cases e;exact HF (λt h b=>Og h b) c
    .cases a
   .cases e
  .cases e
 .cases e
def Hf{ps:List D}{x y:Tx}:call prog 38 Yt [.r 1,.s um] (HD ps<|dX x y)=.p (.s [53,49,50,32,49,48,52]) (HD ps<|dX x y):=by
 rw[←pI CY,Za]
 kernel_rfl
section
variable{ps:List D}{x y:Tx}{h:AH}
def Mg{L:List D}{f g:D->R W}(P:List Nat)(m:((Ab1 L.e).a2 (!P.w ·)).y (λi=>f<|L.G i .T)=((Ab1 L.e).a2 (!P.w ·)).y λi=>g<|L.G i .T)(c:∀i∈P,f (L.G i .T)=g (L.G i .T))(d)(b:d∈L):f d=g d:=by obtain⟨i,a,rfl⟩:=List.getElem_of_mem b;simpa[a]using uY P m c a
def IY(b:Bool):call prog 39 "_law_tops" [.r 1,.b b] (HD ps<|d3 x y)=.p (.b true) (HD ps<|dX x y):=by
 obtain⟨r,e⟩:=Di (ps:=ps) (x:=x) (y:=y) (b:=.b b);rw[Ga (d:=ba) rfl _ _ _ rfl];show Gy 3 (execs _ ba.body [y0 (.r 1),y0 (.b b),u0,u0] _)=_;rw[yQ 6 _ e];simp only[ba,eE];refine Eq.trans (congrArg _<|za<|by simp![av];rfl) ?_;refine Eq.trans (congrArg _<|za<|by simp![av];rw[oz Y9];rfl) ?_;refine Eq.trans (congrArg _<|za<|by simp![av];rw[oz Y9];rfl) ?_;refine Eq.trans (congrArg _<|za<|by simp![av];rw[oz Y9];rfl) ?_;refine Eg Y9 (λF Y h=>by simp![av];rfl) λd a=>?_
 exact Mg (f:=fD ps x y) (g:=gD ps x y) [0,1,12] (by rw[Za];kernel_rfl) (by
  repeat rw[Aj4]
  exact⟨EH (k:=17),IV (k:=17) Y7,Hf,nofun⟩) d a
end
section
variable{ps:List D}{x y:Tx}{h:AH}{ns:List Int}
abbrev bz:D:=.o zH
abbrev rA:E:=.aI .G YL Y0 Yt<|.a .B
def Ch(ps:List D):List Tx->List (Tx×D)->List (Tx×D)->Prop
|[],d,a=>d=a
|r::rs,d,a=>∃b,call prog 39 Yt [.r 1,.s r] (HD ps d)=.p (.v bz) (HD ps b)/\Ch ps rs b a
theorem uI(a:∀r d O,call prog 39 Yt [.r 1,.s r] (HD ps d)=.p (.v bz) (HD ps O)->step (.o r) (HD ps d)=.p (some bz) (HD ps O)):∀rs d j,Ch ps rs d j->Gu step (rs.y .o) (HD ps d)=.p (rs.y fun _=>bz) (HD ps j)
|[],d,j,e=>by cases e;rfl
|r::rs,d,j,z7=>by obtain⟨O,e,c⟩:=z7;rw[Ac3,Gu,a r d O e];simp only[uI a rs O j c,Ac3]
def AF{rs:List Tx}(h:Gi Y 4=y0 (.r 1))(hi:Gi Y i=y0 (.l<|rs.y .o))(k:rs.e<=1000)(c:Ch ps rs d d'):eval (k8 39) (.M [0] k9 1 [4] (.seq<|.var i) y9 (.bl k9) rA) Y (HD ps d)=.p (.j<|rs.y λ_=>bz) (HD ps d'):=by
 have a:Gn Y 4=y0 (.r 1):=by rw[Gn,h]
 rw[zEe25,show Gp _ _ _ _=R.ok _ (HD ps d)by rw[zEp1,Qi hi];rfl,R.af,Fk<|by rw[Gc,Aa4];exact ZAA,uI (λr d f e=>?_) rs d d' c]
 .rfl
 have j:GD (HD ps d) (y0<|.r 1)=y0 _:=rfl;have b:([(YF,D.ref 2)]).p Y0=none:=rfl;have g:eval (k8 39) rA [y0 (.s r),y0 (.r 1)] (HD ps d)=.p (.v bz) (HD ps f):=by simp![j,b,Ai3,UT,Os,e]
 simp only[Ac3,Al2,a,Ad0,List.replicate_zero,Af,Af3,GG,GF];show(R.bind (eval _ rA [y0 _,y0 _] _) _)=_;rw[g];rfl
def ud{Y:Sl}(p:aH x)(n:aH y)(f:Gi Y 4=y0 (.r 1)):eval (k8 39) yt Y (HD ps<|dX x y)=.p (.j [.o (fY x y),.o gx,.o []]) (HD ps<|dX x y):=by
 have m:Gn Y 4=y0 (.r 1):=by rw[Gn,f]
 have g:GD (HD ps<|dX x y) (y0<|.r 1)=y0 (1,YL,[(YF,.ref 2)]):=rfl;have i:([(YF,D.ref 2)]:List<|String×D).lookup Y0=none:=rfl;have b:=sX (k:=18) (ps:=ps) p n;have l:call prog 39 Yt [.r 1,.s [115,104,111,119,32,111]] (HD ps<|dX x y)=.ok (.s gx) (HD ps<|dX x y):=by rw[Za];kernel_rfl
 have o:call prog 39 Yt [.r 1,.s pS] (HD ps<|dX x y)=.ok (.s []) (HD ps<|dX x y):=by rw[Za];kernel_rfl
 have b:call prog 39 Yt [.r 1,.s mZ] (HD ps<|dX x y)=.ok (.s<|fY x y) (HD ps<|dX x y):=b;refine(Zk (h:=HD ps<|dX x y) (ds:=[.str [97],.str [111],.str [101]]) (λd=>match d with|.str [97]=>.str<|fY x y|.str [111]=>.str [116,105,101,32,112]|_=>.str []) rfl (by rw[Gc];simp) λd c=>?_).trans rfl;have a {w t:Tx}(q:w.length=1)(e:call prog 39 Yt [.r 1,.s (gu++w)] (HD ps<|dX x y)=.ok (.s t) (HD ps<|dX x y)):eval (k8 39) (.aI .v1 YL Y0 Yt<|.a<|.bin .add (.str gu) .v0) [some (.s w),Gn Y 4] (HD ps<|dX x y)=.ok (.s t) (HD ps<|dX x y):=by have j:=add_str gu w (HD ps<|dX x y) (by simp;lia);rw[m];simp![g,i,Ai3,UT,Os,av,j];exact e
 simp only[Aa8,Ac7,SJ]at c;rcases c with rfl|rfl|rfl
 .exact⟨_,rfl,_,a rfl b,rfl⟩
 .exact⟨_,rfl,_,a rfl l,rfl⟩
 .exact⟨_,rfl,_,a rfl o,rfl⟩
end
section
variable{ps:List D}{x y:Tx}{h:AH}{ns:List Int}
noncomputable abbrev r5(x y:Tx):List Tx:=[[98,101,103,105,110,32,97],116::101::108::108::32::97::32::107::105::110::100::32::x,116::101::108::108::32::97::32::116::105::101::32::y,116::101::108::108::32::97::32::115::97::121::32::32::115::111::109::101::32::32::40::(y++[41]),116::101::108::108::32::97::32::115::97::121::32::(y++eD++y),[98,101,103,105,110,32,111],oD,[98,101,103,105,110,32,101]]
def Ff(c:aH x)(a:aH y)(d:x≠y):Ch ps (r5 x y) []<|d3 x y:=by have b:=LR (k:=18) (ps:=ps) c;have a2:=Nn (k:=18) (ps:=ps) c a d;have a3:=RW (k:=18) (ps:=ps) (x:=x) a;have a4:=Io (k:=18) (ps:=ps) (x:=x) a;simp only[tl,rK,rT,rS,Af,Af3]at b a2 a3 a4;refine⟨[([97],a8 [] [] [])],by rw[Za];kernel_rfl,_,b,_,a2,_,a3,_,a4,[([97],cY x y),([111],a8 [] [] [])],by rw[Za];kernel_rfl,[([97],cY x y),([111],m6)],by rw[Za];kernel_rfl,d3 x y,by rw[Za];kernel_rfl,rfl⟩
noncomputable abbrev rq(x y:Tx):List Tx:=[[98,101,103,105,110,32,113],116::101::108::108::32::113::32::107::105::110::100::32::x,116::101::108::108::32::113::32::116::105::101::32::y]
def Ip(a:aH x)(c:aH y)(d:x≠y):Ch ps (rq x y) (dX x y)<|dQ x y<|a8 [x] [y] []:=by have b:=K9 (k:=18) (ps:=ps) (y:=y) a;have a2:=FT (k:=18) (ps:=ps) a c d;exact⟨dQ x y _,by rw[Za];kernel_rfl,_,b,_,a2,rfl⟩
abbrev F9:Fx:=(k8 39)
abbrev bL:Ss:=d9.j
noncomputable abbrev TS(ns:List Int)(x y:Tx)(l:List<|Option W):Sl:=y0 (.l<|ns.y .u)::y0 (.r 0)::y0 (.s x)::y0 (.s y)::y0 (.r 1)::l
def B1(ns)(d:ns.e<=63):∃x y v,aH x/\aH y/\x≠y/\execs F9 bL [y0 (.l<|ns.y .u),u0,u0,u0,u0,u0,u0,u0,u0,u0,u0,u0,u0,u0,u0,u0] []=execs F9 (eE 3 bL) (TS ns x y [u0,u0,u0,u0,u0,u0,u0,u0,u0,u0,u0]) (HD (pk ns 0 v) []):=by
 obtain⟨v0,j⟩:=Et 38 ns d [];have i:Gd [.lst (ns.map .int),.n 0,.int v0]=true:=by
  have:∀l:List Int,Gd (l.map .int)=true:=λl=>by
   induction l with
|nil=>rfl
|cons a l f=>simp[f]
  simp[this]
 obtain⟨N,v1,e,g,c,b⟩:=Hj 37 (h:=[.lst (pk ns 0 v0)]) (r:=0) (m:=2) rfl Y7;obtain⟨x,y,rfl⟩:∃x y,N=[x,y]:=by
  match N,e with
|[x,y],_=>exact⟨x,y,rfl⟩
 have b:call prog 39 "_law_names" [.r 0,.v (.int 2)] [.lst _]=.ok _ [.lst _]:=b;refine⟨x,y,v1,c x Y9,c y Y9,by simpa using g,?_⟩;simp only[bL,d9,eE];rw[za (Y1:=[y0 _,y0 (.r 0),u0,u0,u0,u0,u0,u0,u0,u0,u0,u0,u0,u0,u0,u0])<|by simp![j,i,Os];rfl];rw[za (Y1:=[y0 (.l<|ns.map .int),y0 (.r 0),y0 (.s x),y0 (.s y),u0,u0,u0,u0,u0,u0,u0,u0,u0,u0,u0,u0]) (h1:=[.lst (pk ns 0 v1)])<|by simp![b]];rw[za (Y1:=TS ns x y [u0,u0,u0,u0,u0,u0,u0,u0,u0,u0,u0]) (h1:=HD _ [])<|by rw[Za];kernel_rfl]
def P5(b:aH x)(c:aH y):execs F9 (eE 3 bL) (TS ns x y [u0,u0,u0,u0,u0,u0,u0,u0,u0,u0,u0]) h=execs F9 (eE 5 bL) (TS ns x y [y0 (.l<|(r5 x y).y .o),u0,u0,u0,u0,u0,u0,u0,u0,u0,u0]) h:=by have d:=b.2.2.1;have e:=c.2.2.1;have a:=add_str mX x h (by simp;lia);have a2:=add_str yB y h (by simp;lia);have a3:=add_str rY y h (by simp;lia);have a4:=add_str (rY++y) [41] h (by simp;exact ZAA);have a5:=add_str kX y h (by simp;lia);have a6:=add_str (kX++y) eD h (by simp;exact ZAA);have a7:=add_str (kX++y++eD) y h (by simp;lia);simp only[Af,Af3]at a4 a6 a7;simp only[bL,eE];refine Eq.trans (za<|by simp![a,a2,a3,a4];rfl) ?_;refine Eq.trans (za<|by simp![a5,a6,a7];rw[mq Y9];rfl) ?_;rfl
def Hz:Gs .ne (.j [bz,bz,bz,bz,bz,bz,bz,bz]) (.j [bz,bz,bz,bz,bz,bz,bz,bz]) h=y0 false:=rfl
def ui:Gs .ne (.l [.o a,.o gx,.o []]) (.j [.o a,.o gx,.o []]) h=y0 false:=by show(if k9=k9 then y0 (!cw _ _)else u0)=_;simp
def FA(e:aH x)(b:aH y)(q:x≠y):∃O,execs F9 (eE 5 bL) (TS ns x y [y0 (.l<|(r5 x y).y .o),u0,u0,u0,u0,u0,u0,u0,u0,u0,u0]) (HD (pk ns 0 v) [])=execs F9 (eE 10 bL) (TL ns x y (y0<|.l<|(r5 x y).y .o) [u0,u0,u0,u0,u0,u0,u0,u0]) (HD (pk ns 0 O)<|dX x y):=by
 obtain⟨d,v1,A,c⟩:=dr 38 ns 0 v _ (m:=8) Y7 Y7;have c:call prog 39 Yy [.r 0,.v (.u 8)] _=.p _ (HD (pk ns 0 v1)<|d3 x y):=c;have B:=e.2.2.1;have z:=b.2.2.1;refine⟨v1,?_⟩;have s:eval F9 Bb (TS ns x y [y0 (.l<|(r5 x y).y .o),u0,u0,u0,u0,u0,u0,u0,u0,u0,u0]) _=.p (.j [bz,bz,bz,bz,bz,bz,bz,bz]) (HD (pk ns 0 v)<|d3 x y):=AF rfl rfl Y9<|Ff e b q;have w (h:AH):Gs .j _ (.v<|.u 0) h=y0 _:=WG d 0 h;have r:=ud (ps:=pk ns 0 v1) (Y:=TS ns x y [y0 (.l<|(r5 x y).y .o),u0,u0,u0,u0,u0,u0,u0,u0,u0,u0]) e b rfl;have t:eval F9 (.y .p (.lst<|.a<|.o zH)<|.u 8) (TS ns x y [y0 (.l<|(r5 x y).y .o),u0,u0,u0,u0,u0,u0,u0,u0,u0,u0]) (HD (pk ns 0 v)<|d3 x y)=.p (.j [bz,bz,bz,bz,bz,bz,bz,bz]) (HD (pk ns 0 v)<|d3 x y):=by rw[Za];rfl
 simp only[bL,d9,eE];rw[za (h1:=HD (pk ns 0 v)<|d3 x y)<|hG (by rw[Gj,zEe10,s,R.af,t,R.af,Hz];rfl)|>.x rfl,za (Y1:=TS ns x y [y0 (.l<|(r5 x y).y .o),u0,u0,u0,u0,u0,u0,u0,u0,u0,u0]) (h1:=HD (pk ns 0 v1)<|dX x y)<|hG (by simp![c,w,av,(IY (ps:=pk ns 0 v1) (x:=x) (y:=y)<|u9<|d=0)])|>.x rfl,za (Y1:=TS ns x y [y0 (.l<|(r5 x y).y .o),y0 (.l [.o (fY x y),.o gx,.o []]),u0,u0,u0,u0,u0,u0,u0,u0,u0]) (h1:=HD (pk ns 0 v1)<|dX x y)<|by rw[zEx2,r];rfl];obtain⟨H,p⟩:∃H,H=HD (pk ns 0 v1) (dX x y):=⟨_,rfl⟩;have u:=add_str du x H (by simp;lia);have i:=add_str (du++x) fO H (by simp;exact ZAA);have j:=add_str (du++x++fO) y H (by simp;lia);have k:=add_str (du++x++fO++y) kr H (by simp;lia);have f:=add_str (du++x++fO++y++kr) y H (by simp;lia);have l:=add_str (du++x++fO++y++kr++y) mu H (by simp;lia);have o:=add_str (du++x++fO++y++kr++y++mu) y H (by simp;lia);have n:=add_str (du++x++fO++y++kr++y++mu++y) eD H (by simp;lia);have g:=add_str (du++x++fO++y++kr++y++mu++y++eD) y H (by simp;lia);simp only[Af,Af3]at i j k f l o n g;rw[←p,za (Y1:=TL ns x y (y0<|.l<|(r5 x y).y .o) [u0,u0,u0,u0,u0,u0,u0,u0]) (h1:=H)<|by simp![av,u,i,j,k,f,l,o,n,g];simp[Gv]];rw[jb<|by simp![av,(ui (a:=fY x y) (h:=H))]]
end
section
variable{ps:List D}{dd:List<|Tx×D}{x y:Tx}{h:AH}{ns:List Int}{k:Nat}
def CP(j:ns.e<=63)(k:aH x)(l:aH y)(a:Option W)(v:Int):∃(h:Nat)(g:Int)(b c d e f:Option W),execs F9 (eE 10 bL) (TL ns x y a [u0,u0,u0,u0,u0,u0,u0,u0]) (HD (pk ns 0 v)<|dX x y)=execs F9 (eE 11 bL) (TL ns x y a [b,c,d,e,f,u0,u0,u0]) (HD (pk ns h g)<|dX x y):=by obtain⟨i,g,b,c,d,e,f,q⟩:=uF j k l a _ _ 0 v u0 u0 u0 u0 u0 rfl;refine⟨i,g,b,c,d,e,f,za ?_⟩;rw[zEx17,show Gr _ _ _ _=R.ok _ (HD _ _)by rw[Za];rfl,R.aQ];exact q
def BW(e:call prog (k+2) Yt [.r 1,.v row] (HD ps dd)=.p (.v d) (HD ps dd)):call prog (k+3) Yu [.r 1,.v row] (HD ps dd)=.p (.v .T) (HD ps dd):=by
 rw[Ga rfl _ _ _ rfl];simp only[bb];have t:kT (call prog<|k+2) Yt 1 [some (.r 1),sv row,sv .T,none,none] (.p [.v row]<|HD ps dd)=.p [some (.r 1),sv row,sv .T,none,none] (HD ps dd):=by show(match call prog _ Yt [.r 1,.v row] (HD ps dd)with|.p _ a=>_|.y d a=>_|.w=>_)=_;rw[e]
 show Gy 3 ((nu _ _ _ _ _<|kT _ Yt 1 [some _,sv row,sv .T,none,none]<|.p [.v row] _).seq _)=_;rw[t];rfl
noncomputable abbrev aL(x:Tx):List D:=[.o l0,.o rn,.o (116::101::108::108::32::113::32::107::105::110::100::32::x),.o p6]
abbrev dq(x y:Tx):List<|Tx×D:=dQ x y<|a8 [x] [y] []
structure QR(x y r:Tx):Prop where
 a (ps:List D):call prog 39 Yu [.r 1,.s r] (HD ps<|dX x y)=.p (.t [cls 14,.T]) (HD ps<|dX x y)
 b:∃(t:Tx)(n:D),(∀h,ku (.s r) u0 (y0 4) h=.p (.s t) h)/\((t==dC)=k9/\n=.p [cls 4,.u 2]\/(t==dC)=y9/\n=.T)/\∀ps,call prog 39 Yu [.r 1,.s r] (HD ps<|dq x y)=.p (.v n) (HD ps<|dq x y)
def qr(a:aH x)(f:aH y):∀d<4,∃r,(aL x).G d .T=.o r/\QR x y r
|0,_=>⟨_,rfl,λps=>by rw[Za];kernel_rfl,_,.T,λh=>by rw[Za];rfl,.w ⟨rfl,rfl⟩,λps=>BW (k:=36)<|Bp (k:=17) a f⟩
|1,_=>⟨_,rfl,λps=>by rw[Za];kernel_rfl,_,.T,λh=>by rw[Za];rfl,.w ⟨rfl,rfl⟩,λps=>by rw[Za];kernel_rfl⟩
|2,_=>by have b:=λps=>u5 (k:=17) (ps:=ps) (y:=y) a;have c:=λps=>Na (k:=17) (ps:=ps) a f;simp only[tl,rK,Af,Af3]at b c;refine⟨_,rfl,b,dC,.p [cls 4,.u 2],λh=>?_,.p ⟨rfl,rfl⟩,c⟩;have:=a.2.2.1;show(if(x.e+12)<=aR then av _ h else .w)=_;rw[Fk<|by rw[Gc];lia];rfl
|3,_=>⟨_,rfl,λps=>by rw[Za];kernel_rfl,_,.T,λh=>by rw[Za];rfl,.w ⟨rfl,rfl⟩,λps=>by obtain⟨d,e⟩:=Ll (k:=17) (ps:=ps) (x:=x) (y:=y);exact BW (k:=36) e⟩
end
section
variable{ps:List D}{dd:List<|Tx×D}{x y:Tx}{h:AH}{ns:List Int}{k:Nat}
def dE(x y:Tx):List<|Tx×D:=[([97],cY x y),([111],m6),([101],.p [.p [.p [],.p [.o [113]]],.p []]),(tm,yx),(gI,tY)]
def Ht(a:j<L.e):bU (.j L) (.i j) h=y0 (L.G j .T):=by
 have:cL L.e j=y0 j:=by simp[cL];exact‹_›
 simp[bU,W.aU,W.seq?,bX,this,a,List.getD]
def nD(a:Gi Y 4=y0 (.r 1))(e:F.j Yt [.r 1,.s r] (HD ps dd)=R'):eval F (.aI .v4 YL Y0 Yt<|.a<|.o r) Y (HD ps dd)=R':=by
 rwa [zEe45,Qi a]
section
variable{F:Fx}{a b:E}{Y:Sl}{h1 h2:AH}
def gk(d:eval F a Y h=.p w h1)(e:eval F b Y h1=.p w' h2)(q:Gs c w w' h2=y0 r):eval F (.C c a b) Y h=.p (.b r) h2:=by rw[zEe10,d,R.af,e,R.af,q];rfl
def As(c:eval F a Y h=.p (.b y9) h1)(d:eval F b Y h1=.p (.b y9) h2):Gj F (.or a b) Y h=.p y9 h2:=by rw[Gj,zEe17,c,R.af];simp[d]
def kY(b:eval F a Y h=.p (.b r) h1):Gj F a Y h=.p r h1:=by rw[Gj,b,R.af,Gz];rfl
def lL(e:Gj F a Y h=.p y9 h1):execs F (.j (.iff a s2 .p) ss) Y h=execs F ss Y h1:=za<|(hG e).x rfl
end
def Lb(z:aH x)(s:aH y)(X:x≠y)(a b c d e f:Option W)(i:Nat)(v:Int):∃h',execs F9 (eE 11 bL) (TL ns x y a [b,c,d,e,f,u0,u0,u0]) (HD (pk ns i v)<|dX x y)=.j (.b k9) h':=by
 obtain⟨j,v1,J,C⟩:=dr 38 ns i v (dX x y) (m:=4) Y7 Y7;have C:call prog 39 Yy [.r 0,.v (.int 4)] (HD (pk ns i v)<|dX x y)=.ok (.i j) (HD (pk ns i v1)<|dX x y):=C;obtain⟨r,er,⟨F,t,n,V,U,qb⟩⟩:=qr z s j J;have lx:=z.2.2.1;have ly:=s.2.2.1;have G:=λh=>add_str lY x h (by simp;lia);have a2:=λh=>add_str yE y h (by simp;lia);have ix:=Ht (L:=aL x) (h:=HD (pk ns i v1)<|dX x y) J;rw[er]at ix;obtain⟨T,l⟩:∃T,T=TL ns x y a [b,c,d,e,f,y0 (.s r),y0 (.t [cls 14,.ai]),y0 (.l<|(rq x y).map .str)]:=⟨_,rfl⟩;have g:Gi T 4=y0 (.r 1):=by rw[l];rfl
 have u:Gi T 13=y0 (.s r):=by rw[l];rfl
 have o:Gi T 14=y0 (.t [cls 14,.ai]):=by rw[l];rfl
 simp only[bL,d9,eE];rw[za (Y1:=TL ns x y a [b,c,d,e,f,y0 (.s r),u0,u0]) (h1:=HD (pk ns i v1)<|dX x y)<|by simp![av,G,C,ix],za (Y1:=TL ns x y a [b,c,d,e,f,y0 (.s r),y0 (.t [cls 14,.ai]),u0]) (h1:=HD (pk ns i v1)<|dX x y)<|by simp![pf,av];rfl,za (Y1:=T) (h1:=HD (pk ns i v1)<|dX x y)<|by rw[l];simp![av,G,a2]];have ref {H:AH}{w:R W}(q:call prog 39 Yu [.r 1,.s r] H=w):eval F9 (.call Yu<|.b .v4<|.var 13) T H=w:=by rw[zEe18];simp![g,u];exact q
 obtain⟨p,S⟩:∃p,p=pk ns i v1:=⟨_,rfl⟩;rw[←S];have s2:eval F9 uK T (HD p<|dX x y)=.ok (.own [bz,bz,bz]) (HD p<|dq x y):=AF (i:=15) g (by rw[l];rfl) Y9<|Ip z s X;have Q:eval F9 (.bin .mul (.lst<|.a<|.str zH)<|.int 3) T (HD p<|dq x y)=.ok (.own [bz,bz,bz]) (HD p<|dq x y):=by rw[Za];rfl
 rw[lL<|As (gk (ref<|F p) (Qi o)<|nF<|.inl rfl)<|gk s2 Q rfl];have N:=add_str du x (HD p<|dq x y) (by simp;lia);have E:=add_str (du++x) fO (HD p<|dq x y) (by simp;lia);have d3:=add_str (du++x++fO) y (HD p<|dq x y) (by simp;lia);simp only[Af,Af3]at E d3;have Z:eval F9 (.bin .add (.bin .add (.bin .add (.str du) .v2)<|.str fO) .v3) T (HD p<|dq x y)=.ok (.s<|vE x y) (HD p<|dq x y):=by rw[l];simp![av,N,E,d3];simp[Gv]
 rw[lL<|kY<|gk (nD g<|Bp (k:=18) z s) Z<|sj _];have K:∀A,execs F9 (.cons (.iff (.cmp .eq (.eC (.var 13)<|.int 4)<|.str dC) (.a<|.iff (.cmp .ne (.call Yu<|.b .v4<|.var 13)<|.tup<|.b (.call Y6<|.a<|.int 4)<|.int 2) (.a .ah) .nil)<|.a<|.iff (.eT true<|.call Yu<|.b .v4<|.var 13) (.a .ah) .nil) A) T (HD p<|dq x y)=execs F9 A T (HD p<|dq x y):=fun A=>by
  have I:eval F9 (.eC (.var 13)<|.int 4) T (HD p<|dq x y)=.ok (.s t) (HD p<|dq x y):=by rw[zEe24,Qi u];simp![av,V]
  have q:=qb p;rcases U with⟨D,rfl⟩|⟨D,rfl⟩
  .have Y:eval F9 (.tup<|.b (.call Y6<|.a<|.int 4)<|.int 2) T (HD p<|dq x y)=.ok (.t [cls 4,.int 2]) (HD p<|dq x y):=by simp![pf,av];rfl
   exact za<|(qH<|kY<|gk I rfl<|(qg ..).trans<|congrArg y0 D).trans<|(lL<|kY<|gk (ref q) Y<|nF<|.inr ⟨2,rfl⟩).trans rfl
  .exact za<|(hG<|kY<|gk I rfl<|(qg ..).trans<|congrArg y0 D).trans<|(lL<|kY (r:=y9)<|by rw[zEe12,ref q];rfl).trans rfl
 rw[K];have B:call prog 39 Yt [.r 1,.s rL] (HD p<|dq x y)=.ok (.v bz) (HD p<|dX x y):=by rw[Za];kernel_rfl
 rw[lL<|As (gk (nD g B) rfl<|sj _)<|gk (ref<|F p) (Qi o)<|nF<|.inl rfl];have M:Gi T 6=y0 (.l [.str (fY x y),.str gx,.str []]):=by rw[l];rfl
 have O:Gs .ne (.own [.str (fY x y),.str gx,.str []]) (.l [.str (fY x y),.str gx,.str []]) (HD p<|dX x y)=y0 false:=ui;rw[lL<|kY<|gk (show eval F9 vz T _=_ from ud (ps:=p) z s g) (Qi M) O];have c1:call prog 39 Yt [.r 1,.s vM] (HD p<|dX x y)=.ok (.v bz) (HD p<|dE x y):=by rw[Za];kernel_rfl
 have P:call prog 39 Yt [.r 1,.s pS] (HD p<|dE x y)=.ok (.s [116,105,101,32,113]) (HD p<|dE x y):=by rw[Za];kernel_rfl
 refine⟨_,Wa<|jc rfl (h1:=HD p<|dE x y) ?_⟩;rw[zEe16,gk (r:=k9) (nD g c1) rfl rfl,R.af];exact gk (nD g P) rfl rfl
def gz(ns:List Int)(hl:ns.e<=63):∃h',call prog 40 "law" [.v (.w<|ns.y .u)] []=.p (.v<|.K true) h':=by
 obtain⟨x,y,v1,hx,hy,hn,q1⟩:=B1 ns hl;obtain⟨v3,q3⟩:=FA hx hy hn;obtain⟨i,v4,b,c,d,e,f,q4⟩:=CP hl hx hy _ v3;obtain⟨h',q5⟩:=Lb hx hy hn _ b c d e f i v4;show∃h',Gy 0 (execs F9 bL [y0 _,u0,u0,u0,u0,u0,u0,u0,u0,u0,u0,u0,u0,u0,u0,u0] [])=_;rw[(q1.x<|(P5 hx hy).x<|q3.x<|q4.x q5)];simp only[Gy,fin];split
 .exact⟨_,rfl⟩
 .split<;>exact⟨_,rfl⟩
end
end Lake.M
namespace Lake.MS
open PySem PyProof.Rows
noncomputable def Oa:List String:=["is_whole","is_below","is_written","pairs_of","gathered","without","turned","every","value_of_name","made","value","counts","keeps","first_broken","bounds","settled","not_told","count_told","told","fact_told","is_size","is_word","is_name","words_of","widths","bits","check_size","check_bits","code","world_of","theory_of","places_of","is_tuple_of","names_in","needed_bits","how_many_set","found","smallest","check_room","follows","matters","same_or_parted","longer_by_one","renamings","is_renaming","renamed_kind","renamed_tie","renamed","codes_alike","form","likenesses","all_forms","unlike","how_many","uses","used","renumbered","narrowed","quarrel","sort_of_sign","signs_of","one_deeper","read_saying","expression_of_rank","shown_expression","shown_fact","shown_saying","rows_taken","taken","with_row","shown_theory","fits","split_row","parts_of_row","found_answer","least_answer","count_answer","form_answer","keeps_answer","matters_answer","quarrel_answer","same_answer","answer_of_size","answer_of_number","_law_start","_law_turn","_law_draw","_law_names","_law_classes","_law_class","_law_no_rows","_law_no_stands","_law_others","_law_refused","_law_tops","_law_row","law"]
noncomputable def NH:List String:=["WorldError","NoSize","NoPair","NoName","NoCode","NoText","Crowded","TooBig","NoWorld","NoRenaming","NoNumber","Broken","Kept","Unlike","NoRow","NoStand"]
noncomputable def NQ:List String:=["NoName","NoSize","NoCode","Crowded","Unlike","NoRow","NoStand"]
noncomputable def Ey:List String:=["WorldError","NoWorld","Kept"]
def OM:List String:=["_law_classes"]
def Ef:List String:=["rows_taken"]
noncomputable def FR:oZ:=⟨[("Cases","words"),("Cases","sayings"),("Cases","size"),("Cases","places"),("Cases","whole"),("Search","cases"),("Search","needs"),("Reader","names"),("Reader","signs"),("Reader","place"),("Desk","theories")],[("Cases","world_of_code","Cases.world_of_code"),("Cases","truth","Cases.truth"),("Cases","is_shown","Cases.is_shown"),("Search","told_of_sayings","Search.told_of_sayings"),("Search","chosen_place","Search.chosen_place"),("Search","told_of_case","Search.told_of_case"),("Search","told_of_halves","Search.told_of_halves"),("Reader","here","Reader.here"),("Reader","take","Reader.take"),("Reader","take_just","Reader.take_just"),("Reader","saying","Reader.saying"),("Reader","part","Reader.part"),("Reader","unit","Reader.unit"),("Reader","fact","Reader.fact"),("Reader","count_fact","Reader.count_fact"),("Reader","limit","Reader.limit"),("Reader","pair_fact","Reader.pair_fact"),("Reader","expression","Reader.expression"),("Reader","term","Reader.term"),("Reader","factor","Reader.factor"),("Reader","atom","Reader.atom"),("Desk","standing","Desk.standing"),("Desk","say","Desk.say"),("Desk","answer","Desk.answer")],[("Cases","Cases.__init__"),("Search","Search.__init__"),("Reader","Reader.__init__"),("Desk","Desk.__init__")],["Cases.__init__","Cases.world_of_code","Cases.truth","Cases.is_shown","Search.__init__","Search.told_of_sayings","Search.chosen_place","Search.told_of_case","Search.told_of_halves","Reader.__init__","Reader.here","Reader.take","Reader.take_just","Reader.saying","Reader.part","Reader.unit","Reader.fact","Reader.count_fact","Reader.limit","Reader.pair_fact","Reader.expression","Reader.term","Reader.factor","Reader.atom","Desk.__init__","Desk.standing","Desk.say","Desk.answer"],[("TooBig","bits"),("NoWorld","papers"),("NoNumber","number"),("NoText","row")]⟩
noncomputable def Oo:List<|String×List String:=[("value_of_name",["words","world","name"]),("counts",["size","sort","tie","pairs"]),("bounds",["words","part","expression","sort","name"]),("fact_told",["words","part","fact","sort","size","last"]),("Cases.is_shown",["self","paper","low","high","number"]),("Reader.unit",["self","within"]),("Reader.expression",["self","within","left"]),("shown_expression",["expression","sort","sign"]),("shown_fact",["fact","word","last","first"]),("shown_saying",["saying","sort"]),("_law_names",["_law_pack","_law_many","_law_letters","_law_first","_law_stem","_law_k","_law_at","_law_names_here","_law_name"]),("law",["_law_script","_law_pack","_law_x","_law_y","_law_desk","_law_rows","_law_shows","_law_due","_law_k","_law_row_here","_law_number","_law_extra","_law_at","_law_asked","_law_none","_law_again"])]
def Mu:Cg:=⟨Oa,NH,NQ,Ey,FR,k9,OM,Ef,y9⟩
end Lake.MS
namespace PySem.W.Fast
def tw3932705743178346800:=Nat
def tw8546921807548327831:=Nat
def tw15669964396270766804:=Nat
def tw9205979181854437322:=Nat
def tw4260555900649201757:=Nat
def tw249827335913827334:=Nat
def tw11273594187452174147:=Nat
def tw8422468482867673874:=Nat
def tw3226691444803802325:=Nat
def tw12248756238841938638:=Nat
def tw10734670289491419520:=Nat
def tw13725744445260202971:=Nat
def tw6136706631033270829:=Nat
def tw18193624762906426124:=Nat
def tw6468129132171209176:=Nat
def tw9134177854762439180:=Nat
def tw9061473387917480810:=Nat
def tw1065379057669466552:=Nat
def tw10402850353084146821:=Nat
def tw13621978091140698278:=Nat
def tw13177544381002234348:=Nat
def tw5364430127197754186:=Nat
def tw10047865739639827405:=Nat
def tw17206686409653426312:=Nat
def tw8580598778090220316:=Nat
def tw6534262304282917118:=Nat
def tw9995215458185500399:=Nat
def tw6222924193286009854:=Nat
def tw523437175181737004:=Nat
def tw11928777758740593587:=Nat
def tw14412914388995324813:=Nat
def tw10760052967391290252:=Nat
def tw7509534500932320529:=Nat
def tw433831179803070001:=Nat
def tw11068941912247478925:=Nat
def tw5765604582728031302:=Nat
def tw7200937439568384544:=Nat
def tw15819336385647614472:=Nat
def tw16722645219696328003:=Nat
def tw4996989813391381652:=Nat
def tw2629702338126304475:=Nat
def tw8663729372689793248:=Nat
def tw6309463321351074021:=Nat
def tw15839417521809349337:=Nat
def tw5016817832363963006:=Nat
def tw6690264657991880645:=Nat
def tw16814343353632348394:=Nat
def tw2252699781462430241:=Nat
def tw10438514630935383065:=Nat
def tw8371665045448623585:=Nat
def tw2669464783544010849:=Nat
def tw16452078020944917018:=Nat
def tw6581781849279179054:=Nat
def tw2948059264159864773:=Nat
def tw1720381922197776842:=Nat
def tw804033943308740610:=Nat
def tw11352809534436541094:=Nat
def tw7824651703681262272:=Nat
def tw6057086481202513667:=Nat
def tw4530790632590934613:=Nat
def tw13252163573376130210:=Nat
def tw11275695478468241546:=Nat
def tw12459130071636090116:=Nat
def tw11447117861028829225:=Nat
def tw9080516980500167397:=Nat
def tw2603653780046750377:=Nat
def tw6798804474685915910:=Nat
def tw14718068079162371826:=Nat
def tw13967906887513764478:=Nat
def tw1096079922866203330:=Nat
def tw3002600339791343092:=Nat
def tw13995001712580554018:=Nat
def tw784038710958328844:=Nat
def tw15908420219707473107:=Nat
def tw16573104750551120940:=Nat
def tw17298227902378588093:=Nat
def tw17282176585419330947:=Nat
def tw17976882392232312037:=Nat
def tw6023480186494526028:=Nat
def tw10549602989650746866:=Nat
def tw17425562965544710731:=Nat
def tw17498578639108721637:=Nat
def tw7836300104550097828:=Nat
def tw85058733953690996:=Nat
def tw266041264683785324:=Nat
def tw381822688777933868:=Nat
def tw1672086618515402691:=Nat
def tw15762144847448731374:=Nat
def tw13022032413360727874:=Nat
def tw12490945163102971272:=Nat
def tw1447743436093079434:=Nat
def tw2114534090979224182:=Nat
def tw10023910169199026936:=Nat
def tw7998934693992189198:=Nat
def tw9456994550210137737:=Nat
def tw1619401100394079775:=Nat
def tw15008660337994096103:=Nat
def tw13084169900275149124:=Nat
def tw10173918615721769730:=Nat
def tw5356779188818787767:=Nat
def tw11636402763830213816:=Nat
def tw18386393322359051528:=Nat
def tw9381994114719620674:=Nat
def tw6713228157148119421:=Nat
def tw14562791322877974480:=Nat
def tw2902050096116231007:=Nat
def tw3003890120245295038:=Nat
def tw1611870248475891125:=Nat
def tw3208581494752480848:=Nat
def tw9676199171991427348:=Nat
def tw14791125183274802517:=Nat
def tw2495012972423352698:=Nat
def tw4253927195919633960:=Nat
def tw17699980493037862502:=Nat
def tw9623905221682626895:=Nat
def tw4185578938460055227:=Nat
def tw5016063477749663558:=Nat
def tw1412764923843052667:=Nat
def tw3794517189744165131:=Nat
def tw633358408177107926:=Nat
def tw10589268652943126921:=Nat
def tw15661027736707666888:=Nat
def tw12832485580691473832:=Nat
def tw3931730690149362587:=Nat
def tw1221318889557442978:=Nat
def tw8309353995236014854:=Nat
def tw16448338683817070809:=Nat
def tw3104072326100749021:=Nat
def tw4862832335701998342:=Nat
def tw17712630077459203721:=Nat
def tw2137100550601591431:=Nat
def tw8312843398636389680:=Nat
def tw9894108475442123710:=Nat
def tw1274454079922201399:=Nat
def tw12786575528493318850:=Nat
def tw7417304430050756058:=Nat
def tw12353827451046309815:=Nat
def tw3560030843095733099:=Nat
def tw5627408338530249692:=Nat
def tw16873589852396368861:=Nat
def tw11206661500245691918:=Nat
def tw13084957151372885955:=Nat
def tw10193055663161461527:=Nat
def tw13784587113974269115:=Nat
def tw2598241219467081934:=Nat
def tw502084403228131437:=Nat
def tw11006006174898363324:=Nat
def tw8542580514860782233:=Nat
def tw14992635407716499355:=Nat
def tw9331245863768177774:=Nat
def tw3113477816030293536:=Nat
def tw3413264739453350072:=Nat
def tw18349184500735642159:=Nat
def tw12637681780710354914:=Nat
def tw8841000180012407538:=Nat
def tw17121494554023937163:=Nat
def tw3876724416777908852:=Nat
def tw10853028075536142700:=Nat
def tw10296068398003133615:=Nat
def tw16999198588631953087:=Nat
def tw4626010778753169601:=Nat
def tw2505143248105070240:=Nat
def tw4752866289060765808:=Nat
def tw3745475964648317541:=Nat
def tw7567989631476123954:=Nat
def tw18027953321413142455:=Nat
def tw13703747899046049919:=Nat
def tw4399685042810375370:=Nat
def tw10571149690787759379:=Nat
def tw9789420786908257249:=Nat
def tw3325338638565955235:=Nat
def tw17493665489361889739:=Nat
def tw6839555932871975701:=Nat
def tw2906131707431130499:=Nat
def tw17293437559203425892:=Nat
def tw2233141439724783548:=Nat
def tw7924178177038767739:=Nat
def tw11733508404462884197:=Nat
def tw11908496044639866185:=Nat
def tw5149722185353409653:=Nat
def tw12836268356550573040:=Nat
def tw4589190688746638950:=Nat
def tw13950366115338585772:=Nat
def tw15114105479729582215:=Nat
def tw4197856837425019052:=Nat
def tw12542386046203241742:=Nat
def tw14750572583455102743:=Nat
def tw7435379172091701425:=Nat
def tw16058786252709341178:=Nat
def tw3100351843403897824:=Nat
def tw10145894382988225144:=Nat
def tw16628582288925014497:=Nat
def tw3138694520680783235:=Nat
def tw331142816580030253:=Nat
def tw1574119229425526353:=Nat
def tw9675427195940307419:=Nat
def tw9528576354874744629:=Nat
def tw8334087887961608431:=Nat
def tw5795299143579304292:=Nat
def tw6726578689171136583:=Nat
def tw12265843340326732788:=Nat
def tw13450596995625620604:=Nat
def tw12623539420268674390:=Nat
def tw13980871457928885327:=Nat
def tw17945911936034484932:=Nat
def tw15119026433207325934:=Nat
def tw5432168363469252346:=Nat
def tw26875012717981334:=Nat
def tw17080659148898445944:=Nat
def tw7767641369600225653:=Nat
def tw3411908964800732560:=Nat
def tw1601049286493826965:=Nat
def tw129669288748277602:=Nat
def tw7316640044396654952:=Nat
def tw3417591991570224463:=Nat
def tw11841802264114618028:=Nat
def tw12671981271806404468:=Nat
def tw12244527586041819648:=Nat
def tw3431989952541603681:=Nat
def tw2855395636252112236:=Nat
def tw17836117561562450186:=Nat
def tw12405506775873071460:=Nat
def tw5045880914672345772:=Nat
def tw1370544815829877994:=Nat
def tw17505781777684161178:=Nat
def tw14798305624031233332:=Nat
def tw7430316792087325470:=Nat
def tw7622942240084645747:=Nat
def tw11364696444064678027:=Nat
def tw3857547830580245709:=Nat
def tw2971462351967178857:=Nat
def tw10021222066399683135:=Nat
def tw10779127366691675293:=Nat
def tw5572248830296049831:=Nat
def tw15928853327387548432:=Nat
def tw3193777163311975904:=Nat
def tw2018932703092240329:=Nat
def tw17618171704226922635:=Nat
def tw17313947411241652017:=Nat
def tw2827919912041039921:=Nat
def tw17903802705626652206:=Nat
def tw15119761846826567454:=Nat
def tw744104698351993706:=Nat
def tw11698420517484297281:=Nat
def tw1041966469035015077:=Nat
def tw11472858152074269336:=Nat
def tw12706896210914952470:=Nat
def tw18206276751168861977:=Nat
def tw18410777985610372622:=Nat
def tw16306305349832117824:=Nat
def tw17741949247842640309:=Nat
def tw18233488739264866809:=Nat
def tw7220724107162592850:=Nat
def tw1173795600287032364:=Nat
def tw10401480879991430363:=Nat
def tw750915788086015060:=Nat
def tw5123265157374000477:=Nat
def tw7652418645271040730:=Nat
def tw6347047937056350336:=Nat
def tw9841939880685499030:=Nat
def tw8325170232642346852:=Nat
def tw14977265646922550514:=Nat
def tw17949702462341371184:=Nat
def tw11058476628407892067:=Nat
def tw6556134373553595229:=Nat
def tw1109266135635580456:=Nat
def tw14451536109684788297:=Nat
def tw12790750471234380353:=Nat
def tw7761428142517953064:=Nat
def tw17101996724196590728:=Nat
def tw16009763077727720105:=Nat
def tw11950282030921792318:=Nat
def tw3831563358747499710:=Nat
def tw17836593106663700163:=Nat
def tw9159718714533860508:=Nat
def tw8000289916402064113:=Nat
def tw11671246513899825231:=Nat
def tw14201548434290335766:=Nat
def tw822929638613962875:=Nat
def tw15194265520138675774:=Nat
def tw10570952323196230432:=Nat
def tw4032006834434110033:=Nat
def tw4765769762318518596:=Nat
def tw2104780304829726012:=Nat
def tw15370467484480932644:=Nat
def tw4287194786487611845:=Nat
def tw11552109785795845813:=Nat
def tw355753163965317719:=Nat
def tw688513582304595996:=Nat
def tw10812359783348762105:=Nat
def tw8822567361896437495:=Nat
def tw14459861759327060408:=Nat
def tw10754181282650831740:=Nat
def tw16839527601120647212:=Nat
def tw5526146192462567767:=Nat
def tw6451206930455414647:=Nat
def tw3219456942465885927:=Nat
def tw1893048461102578210:=Nat
def tw10081194983167182213:=Nat
def tw17400383905489634989:=Nat
def tw12226738582994475957:=Nat
def tw5793937995962172884:=Nat
def tw16862220212885570762:=Nat
def tw6183261771402578290:=Nat
def tw18176247410202874246:=Nat
def tw1650819628913700379:=Nat
def tw8389646440874367863:=Nat
def tw9481594596887890371:=Nat
def tw17772214503107953109:=Nat
def tw15889224827834615424:=Nat
def tw3224754587416867173:=Nat
def tw17318987709158422486:=Nat
def tw14773407998438673800:=Nat
def tw6501966065016077722:=Nat
def tw17153316338423963581:=Nat
def tw16528724447448893427:=Nat
def tw5780761377528237673:=Nat
def tw11293704664667617525:=Nat
def tw15978181875308627690:=Nat
def tw9533209926986081410:=Nat
def tw13374493716414403614:=Nat
def tw1197872174488313511:=Nat
def tw5193789088383169300:=Nat
def tw7400864640266257426:=Nat
def tw17881479429416199956:=Nat
def tw10671800161466747300:=Nat
def tw3620694883746251563:=Nat
def tw15184952834754368766:=Nat
def tw17683872250057127287:=Nat
def tw5757481396016590966:=Nat
def tw4404734785739668415:=Nat
def tw329309106336854512:=Nat
def tw12167721158195350325:=Nat
def tw14614652115627807352:=Nat
def tw17355254870195641388:=Nat
def tw15293648486493978722:=Nat
def tw7329643634621232265:=Nat
def tw5077983744231135496:=Nat
def tw17140278883583642665:=Nat
def tw14234155547427759806:=Nat
def tw1546453818713390372:=Nat
def tw663980014115128963:=Nat
def tw3600261849869013451:=Nat
def tw1004186033115760027:=Nat
def tw14633646695610152210:=Nat
def tw7257863660991585388:=Nat
def tw17472494793751834579:=Nat
def tw16474003455642671942:=Nat
def tw4133445978958702010:=Nat
def tw4910670966927212605:=Nat
def tw3679412650760471218:=Nat
def tw16227182648431458615:=Nat
def tw7124731033463885084:=Nat
def tw14983847670319734217:=Nat
def tw13319990989601262963:=Nat
def tw14683602323230946591:=Nat
def tw14962644175080673481:=Nat
def tw4794997751567992675:=Nat
def tw2101077347155486156:=Nat
def tw8915457490345666961:=Nat
def tw55234920424145975:=Nat
def tw8111833536358152924:=Nat
def tw16212492064799659372:=Nat
def tw5198441886549317963:=Nat
def tw18285145761677765814:=Nat
def tw16621540629369740506:=Nat
def tw15301819494757772748:=Nat
def tw16729783920492303998:=Nat
def tw3034471776983228380:=Nat
def tw6111639328488219766:=Nat
def tw5961104322467303448:=Nat
def tw7150865730255381636:=Nat
def tw18110624542232754710:=Nat
def tw18371146957390721082:=Nat
def tw17398197578935172288:=Nat
def tw1304897589085082909:=Nat
def tw17306116558629555746:=Nat
def tw15146690893182375700:=Nat
def tw12824890542109811674:=Nat
def tw2615985836944975246:=Nat
def tw17375638858621062221:=Nat
def tw8210175476880815744:=Nat
def tw7809836967165266905:=Nat
def tw10051724583878802202:=Nat
def tw3385256425290737504:=Nat
def tw4640045812558287680:=Nat
def tw17290445444564737301:=Nat
def tw12339678690962101843:=Nat
def tw3671378141060769014:=Nat
def tw4817746520592532486:=Nat
def tw16148449294987175975:=Nat
def tw2809229291471233056:=Nat
def tw16643677471438148909:=Nat
def tw1240759906643091236:=Nat
def tw14600599273983648783:=Nat
def tw3227367589561449512:=Nat
def tw5840412472506400594:=Nat
def tw16143751652738302193:=Nat
def tw7568671845807447260:=Nat
def tw5233375479123641649:=Nat
def tw2146934055640675523:=Nat
def tw13292419165030325441:=Nat
def tw5029471266637407679:=Nat
def tw6954527038578925848:=Nat
def tw9735025549897967317:=Nat
def tw16014543025781219198:=Nat
def tw8485130800961429492:=Nat
def tw15211580011852529666:=Nat
def tw15123955685845018106:=Nat
def tw9615266889893565826:=Nat
def tw8253804476274407959:=Nat
def tw16668312636139323383:=Nat
def tw5808324041184962691:=Nat
def tw2961642023297930914:=Nat
def tw7599739207846368106:=Nat
def tw7516209822449765077:=Nat
def tw3934564137008896877:=Nat
def tw2397528132688303483:=Nat
def tw18042660693271884952:=Nat
def tw968680633942280727:=Nat
def tw6007920239295903612:=Nat
def tw4957617696845399707:=Nat
def tw4228653607797106965:=Nat
def tw14554844702111995981:=Nat
def tw8987494010654308827:=Nat
def tw16718452758497429142:=Nat
def tw3635298275740319369:=Nat
def tw18240638722973418659:=Nat
def tw13618838754698733569:=Nat
def tw12010725689440352307:=Nat
def tw8774586726881515518:=Nat
def tw4013293082737093104:=Nat
def tw17422043646479551970:=Nat
def tw2857834029722998966:=Nat
def tw8088611707563669447:=Nat
def tw2976953815663634197:=Nat
def tw2116537276883760482:=Nat
def tw13769812948154111620:=Nat
def tw13676413367136360372:=Nat
def tw11346714496470519296:=Nat
def tw3953717781785869337:=Nat
def tw14009380544525730645:=Nat
def tw1441442122750346370:=Nat
def tw5544749609735122927:=Nat
def tw3414227421213383015:=Nat
def tw11280569035649426223:=Nat
def tw12253174292232664273:=Nat
def tw6204182072482513991:=Nat
def tw2715826801075523752:=Nat
def tw11512349000630426655:=Nat
def tw10707576151344116769:=Nat
def tw9185638937395830264:=Nat
def tw7733487022904213628:=Nat
def tw6645459461767388985:=Nat
def tw18391550792036625024:=Nat
def tw18184656123172693370:=Nat
def tw13848896043230725919:=Nat
def tw65662304548779801:=Nat
def tw6580907024237217787:=Nat
def tw2474425708039383403:=Nat
def tw1588530636225852426:=Nat
def tw15783276947872501633:=Nat
def tw1267589818649765790:=Nat
def tw12108538520207411862:=Nat
def tw5391028361449139585:=Nat
def tw2765364506789436088:=Nat
def tw14539702671579281306:=Nat
def tw13116989823914645266:=Nat
def tw12147146625800593515:=Nat
def tw6672919229330307330:=Nat
def tw5139500289174312465:=Nat
def tw12024239981161607971:=Nat
def tw11884013253526352115:=Nat
def tw11809695904571824468:=Nat
def tw7779652477619858535:=Nat
def tw6719835966677113191:=Nat
def tw14731059485116063510:=Nat
def tw13867350460388783771:=Nat
def tw14463760708455796001:=Nat
def tw13412336977643904459:=Nat
def tw90538177179984408:=Nat
def tw11148768151111153772:=Nat
def tw5240523429994445662:=Nat
def tw18104917870244666992:=Nat
def tw6668176259618614940:=Nat
def tw6176693369440551683:=Nat
def tw16474676127461997970:=Nat
def tw11090271735087008414:=Nat
def tw15468737266094397308:=Nat
def tw2199654696897009008:=Nat
def tw1733122345416222652:=Nat
def tw11849021418739717298:=Nat
def tw10532257173594859835:=Nat
def tw10527285338863309599:=Nat
def tw3112673159093926742:=Nat
def tw2658629335158181805:=Nat
def tw16942990657872806677:=Nat
def tw14834474229168818862:=Nat
def tw11174172776447617475:=Nat
def tw8947862483946847649:=Nat
def tw6808734335304218874:=Nat
def tw2582646087016616427:=Nat
def tw5551927658568840319:=Nat
def tw17228854437052723699:=Nat
def tw16903477836451927891:=Nat
def tw10618690878202985007:=Nat
def tw4670824447388635233:=Nat
def tw17168032164811183153:=Nat
def tw8097978349215165998:=Nat
def tw9836293253261366508:=Nat
def tw8950099316134880460:=Nat
def tw8696154205339643169:=Nat
def tw16723144028604755486:=Nat
def tw16416221290129990817:=Nat
def tw15719864322939696049:=Nat
def tw13362060512374170379:=Nat
def tw7790078319233997300:=Nat
def tw7690113966960842965:=Nat
def tw7333074468199864963:=Nat
def tw211450732214059420:=Nat
def tw16575479601041994588:=Nat
def tw18286561299519084317:=Nat
def tw8293958645760311649:=Nat
def tw16913789848940171320:=Nat
def tw16135239135612746117:=Nat
def tw11394686844064628332:=Nat
def tw318611371951428940:=Nat
def tw18369637053701119222:=Nat
def tw10799327313461294949:=Nat
def tw9539825680422393526:=Nat
def tw9907220250093969053:=Nat
def tw18292370322690759825:=Nat
def tw8527448143882012810:=Nat
def tw11906409162730107665:=Nat
def tw780825983266956148:=Nat
def tw7634435046930336151:=Nat
def tw9427966026287795574:=Nat
def tw4110569707826965719:=Nat
def tw14165430256718297812:=Nat
def tw83542113050188428:=Nat
def tw7895606584144363163:=Nat
def tw18242464533039652630:=Nat
def tw5207854400668644386:=Nat
def tw4022503740782160639:=Nat
def tw7184780112437948990:=Nat
def tw3275290146320845916:=Nat
def tw18043622299925356378:=Nat
def tw14581777324104753404:=Nat
def tw9544232236964097684:=Nat
def tw16766552432089318137:=Nat
def tw3170271246342922067:=Nat
def tw1684461977358015350:=Nat
def tw1381444406246035747:=Nat
def tw11985379756159201059:=Nat
def tw16091143412220957897:=Nat
def tw1595363258897230384:=Nat
def tw7817493176652307178:=Nat
def tw13886140740138734243:=Nat
def tw13042796967639625006:=Nat
def tw8736072724761476850:=Nat
def tw416559675324531228:=Nat
def tw3215458349608094874:=Nat
def tw13298695279960139081:=Nat
def tw11524835448925379969:=Nat
def tw7262794842591629573:=Nat
def tw6497619400617573646:=Nat
def tw1784274528070874057:=Nat
def tw16209293367274592469:=Nat
def tw16007248380013405316:=Nat
def tw13307974471163862262:=Nat
def tw13119850714921316180:=Nat
def tw8143652090047386913:=Nat
def tw6291401168948753485:=Nat
def tw18179912007419130463:=Nat
def tw9648969104962149365:=Nat
def tw3210186325644798767:=Nat
def tw1430720820513500888:=Nat
def tw13705561747811436905:=Nat
def tw6429426087967052087:=Nat
def tw16513356716574122302:=Nat
def tw18254623302346959124:=Nat
def tw14356844840160171894:=Nat
def tw11333993098865562551:=Nat
def tw17680708428071444770:=Nat
def tw16398081712924024549:=Nat
def tw12893300430206897563:=Nat
def tw5654874674633597288:=Nat
def tw9719830324145746246:=Nat
def tw8933639841229542119:=Nat
def tw3573942999860068903:=Nat
def tw4162397878997212037:=Nat
def tw6060864108220013367:=Nat
def tw4997112214472249271:=Nat
def tw11953099893429291728:=Nat
def tw18355565584950093277:=Nat
def tw13302007242825635267:=Nat
def tw12111417169631792790:=Nat
def tw15934589683935873216:=Nat
def tw15809476626087859475:=Nat
def tw14672932412542349678:=Nat
def tw982955010546579752:=Nat
def tw8666974179631858077:=Nat
def tw8226691102457067270:=Nat
def tw330590016256687209:=Nat
def tw13681167676515447494:=Nat
def tw5598394268416548655:=Nat
def tw5895622096040411552:=Nat
def tw11685041041833784614:=Nat
def tw7889764991541397806:=Nat
def tw9072645797487444440:=Nat
def tw6220074727686701312:=Nat
def tw2229970581968676660:=Nat
def tw17191680811394166757:=Nat
def tw9739340712112012773:=Nat
def tw413450238743459338:=Nat
def tw2053184641902375072:=Nat
def tw17774822189745393228:=Nat
def tw13169660039190604715:=Nat
def tw12255358447094166530:=Nat
def tw843743922522696211:=Nat
def tw588790409307167418:=Nat
def tw12518395915891856682:=Nat
def tw9588615191303960916:=Nat
def tw6749245248484460893:=Nat
def tw9286199299129329336:=Nat
def tw11201151106964303070:=Nat
def tw9059168195156844048:=Nat
def tw9657497876124135419:=Nat
def tw618388134559241652:=Nat
def tw1107817822552822687:=Nat
def tw10680458897534837689:=Nat
def tw6253773512312972075:=Nat
def tw1874113741467507497:=Nat
def tw1834824743759357137:=Nat
def tw10555658704873023096:=Nat
def tw7864369412905298387:=Nat
def tw212768344985010998:=Nat
def tw17991106872265473952:=Nat
def tw17375927357748935797:=Nat
def tw15584559433964513782:=Nat
def tw10605353202305901979:=Nat
def tw17968215131871572442:=Nat
def tw17027952128200433833:=Nat
def tw7440450922365278394:=Nat
def tw7299745854572878656:=Nat
def tw6413999049789910513:=Nat
def tw6022062464638244862:=Nat
def tw4906435112657632912:=Nat
def tw17554949135116151583:=Nat
def tw17008747789346053853:=Nat
def tw16593102885914043672:=Nat
def tw10483980323460037823:=Nat
def tw10429985210916148505:=Nat
def tw9199362272133465880:=Nat
def tw7986479518222143261:=Nat
def tw7193018162108219949:=Nat
def tw5539050625737292248:=Nat
def tw21765759521346592:=Nat
def tw183695141272644238:=Nat
def tw17821480293724215894:=Nat
def tw15810405416027371043:=Nat
def tw9634799621259855945:=Nat
def tw9371725312387504215:=Nat
def tw3880711707003304671:=Nat
def tw3645347833538550379:=Nat
def tw3384173654014613795:=Nat
def tw2344894648251135965:=Nat
def tw1832599670630069762:=Nat
def tw14022994475441948552:=Nat
def tw12460903845343072626:=Nat
def tw12421879388476096007:=Nat
def tw7660081555069838006:=Nat
def tw3947164904874639536:=Nat
def tw2815969448248618799:=Nat
def tw1783178231304236459:=Nat
def tw13888851971464434165:=Nat
def tw10945510986985777674:=Nat
def tw6753621561464347984:=Nat
def tw2768061241488067023:=Nat
def tw1207083291841475342:=Nat
def tw10159383589753295870:=Nat
def tw6301693291947432369:=Nat
def tw5377073083081502819:=Nat
def tw5083654418504567619:=Nat
def tw3022080307761183746:=Nat
def tw15271380314404518516:=Nat
def tw13432841494210454947:=Nat
def tw13153465717437107005:=Nat
def tw11583044949346052781:=Nat
def tw10354302822471040548:=Nat
def tw9015015294138385452:=Nat
def tw7908387281263406501:=Nat
def tw13791189245218581676:=Nat
def tw12628743385406758032:=Nat
def tw256119553552866098:=Nat
def tw2025693708556289027:=Nat
def tw9951897293979017588:=Nat
def tw5053150445867558716:=Nat
def tw1848623961952238822:=Nat
def tw15688088568763351796:=Nat
def tw8605743882460148006:=Nat
def tw7665266613577672450:=Nat
def tw573337897242919660:=Nat
def tw55410157593913774:=Nat
def tw5025329352985010315:=Nat
def tw233628985346727574:=Nat
def tw16881489895118281247:=Nat
def tw8966892606506691936:=Nat
def tw8024525683386484009:=Nat
def tw6880301096682531655:=Nat
def tw6835226928050980135:=Nat
def tw3908583933412007632:=Nat
def tw3645500083420488400:=Nat
def tw14680542205693579640:=Nat
def tw14345773086223560352:=Nat
def tw1276925688412126242:=Nat
def tw5318603615544036042:=Nat
def tw4337859257818486439:=Nat
def tw121796785143687111:=Nat
def tw17273412952105372505:=Nat
def tw9921169446591790209:=Nat
def tw7461718531980926928:=Nat
def tw4528256537137932593:=Nat
def tw2478391936117431488:=Nat
def tw18040144512259816362:=Nat
def tw167749172300588329:=Nat
def tw16563000884943490471:=Nat
def tw16012445318177345802:=Nat
def tw12811661478343989099:=Nat
def tw12323333401937811000:=Nat
def tw12283363324223976391:=Nat
def tw10853247552638319850:=Nat
def tw16510782744821749556:=Nat
def tw4802956878958595890:=Nat
def tw17378507505568790970:=Nat
def tw7279382342807569996:=Nat
def tw18445643726742885330:=Nat
def tw14287460196753451789:=Nat
def tw8469592446227833091:=Nat
def tw18138528202289636955:=Nat
def tw5981079356255948755:=Nat
def tw5311906085286500804:=Nat
def tw13980760396409603991:=Nat
def tw16603444549765352606:=Nat
def tw16335660753138652713:=Nat
def tw15162978629160370737:=Nat
def tw1431826772713173716:=Nat
def tw11396255994615802603:=Nat
def tw17271536510821401591:=Nat
def tw6519833392594592335:=Nat
def tw5483744322493220176:=Nat
def tw1800744238170930610:=Nat
def tw17444157868950618071:=Nat
def tw13258381772229495835:=Nat
def tw14104759623879962941:=Nat
def tw8488003161718986028:=Nat
def tw3138257954988908456:=Nat
def tw1917626063339310470:=Nat
def tw16576106054450854756:=Nat
def tw16558231631303786814:=Nat
def tw16165631025115017150:=Nat
def tw16043642784871236386:=Nat
def tw8778244507152168935:=Nat
def tw6833769783227089298:=Nat
def tw6180423107623733521:=Nat
def tw5433442692851069050:=Nat
def tw371371333980786690:=Nat
def tw3623200078774250617:=Nat
def tw17024666122615044253:=Nat
def tw16176879877351919025:=Nat
def tw15857081176528684519:=Nat
def tw14739420526075720808:=Nat
def tw1281333997634248946:=Nat
def tw1254816026612184910:=Nat
def tw11814929103512112812:=Nat
end PySem.W.Fast
set_option tactic.hygienic true
open PySem PySem.W PyProof.Rows
namespace Lake
def zVq(p:Program):Program:={p with main:={p.main with body:=p.main.body.drop 165}}
def zVl(p:Program):List Str:=p.boundNames.filter fun n=>!(n=="law")
def zPf:Obj->Option Obj
|⟨_,_,.freed,_⟩=>none
|o=>some o
def zPk:Nat->List Nat->List Obj->List (Option Obj)
|_,[],_=>[]
|i,a::r,l=>match Nat.ble i a with
 |true=>match l.drop (a-i) with
  |o::m=>zPf o::zPk (a+1) r m
  |[]=>[none]
 |false=>[none]
theorem zPk_of:∀{r i l}{os:List Obj},zPk i r l=os.map some->(∀a∈r,i<=a)/\r.map (fun a=>l[a-i]?.bind zPf)=os.map some
|[],i,l,os,h=>⟨nofun,h⟩
|a::r,i,l,[],h=>by
 unfold zPk at h;split at h
 .split at h<;>cases h
 .cases h
|a::r,i,l,p::os,h=>by
 unfold zPk at h;split at h
 next q=>
  have q:=Nat.le_of_ble_eq_true q
  split at h
  next o m e=>
   obtain⟨h1,h2⟩:=List.cons.inj h
   obtain⟨x,y⟩:=zPk_of h2
   have g (n):l[a-i+n]?=(o::m)[n]?:=by rw[←e,List.getElem?_drop]
   refine⟨fun b hb=>?_,?_⟩
   .obtain rfl|hb:=List.mem_cons.mp hb
    .exact q
    .have:=x b hb;omega
   .rw[List.map_cons,List.map_cons,←y,show l[a-i]?=some o from g 0]
    refine congr (congrArg _ h1) (List.map_congr_left fun b hb=>?_)
    have:=x b hb
    rw[show b-i=a-i+(b-(a+1)+1) by omega,g]
    rfl
  .cases h
 .cases h
theorem zPk_get{as:List Addr}{h:Heap}{K:Frag}(e:zPk 0 as h.objs.toList=K.map fun p=>some p.2):as.map h.get?=K.map fun p=>some p.2:=by
 refine Eq.trans (List.map_congr_left fun a _=>?_) ((zPk_of (os:=K.map (·.2)) (by rw[e,List.map_map];rfl)).2.trans List.map_map)
 rw[Nat.sub_zero,Array.getElem?_toList]
 unfold Heap.get?
 cases h.objs[a]? with
 |none=>rfl
 |some o=>obtain⟨_,_,x,_⟩:=o;cases x<;>rfl
theorem PySem.W.holds_open{r:OpenRow}{q:Program}{loose:List Str}{Xt:Shared->Bool}{XP:(Str->Option Value)->Heap->Prop}{α:Type}{Yf:Shared->α}{Ya:World->α}{YP:World->Heap->Prop}{d:DefRec}{kwd:List (Str×Expr)}{N:Nat}{as:List Addr}{K:Params->Frag}(left:LeftO r.prog (zVq r.prog) (zVl r.prog) (recOk r.records) (fun s:Shared=>zPk 0 as s.heap.objs.toList) (fun w=>(K w.params).map fun p=>some p.2) N)(hY:∀w (s:Shared),as.map s.heap.get?=(K w.params).map (fun p=>some p.2)->YP w s.heap)(hYk:∀w h h',YP w h->(∀b o,h.get? b=some o->h'.get? b=some o)->YP w h')(_:∀s,Xt s=true->XP (s.heap.nsMap mainGlobals) s.heap)(_:∀mg h h',XP mg h->(∀b o,h.get? b=some o->h'.get? b=some o)->XP mg h')(e:defOf (zVq r.prog) r.name=some (d,kwd))(hp:r.prog.theDef r.name=some (d.params,d.body,d.scope))(hk:kwWritten? d.params.kwonlyargs d.params.kw_defaults=some kwd)(_:∀s,Xt s=true->RecFacts r.records s.heap)(f:(!r.writes||r.records.isEmpty)=true)(k:r.wellSaid=true)(ok:(chainsOk (zVq r.prog)&&opensWell r.prog&&(frees r.toRowW&&r.within.isEmpty))=true)(hb:r.prog.bare)(hw:r.toRowW.promised)(call:WalkO (zVq r.prog) (zVl r.prog) (fun _ _=>True) YP r.toRowW d kwd fun f vs=>PySem.call f vs):r.Holds:=
 _root_.PySem.W.holds_open left (fun w s e=>hY w s (zPk_get e)) hYk (fun _ _=>trivial) (fun _ _ _ _ _=>trivial) e hp hk (fun _ e=>recFacts_of e) f k ok hb hw call
set_option maxHeartbeats 0 in
open_top t for PySem.Challenge.rw_worldfind_k72_desk_refused
theorem zT1(P):decide (MS.rW (t.heap_39 P) M.prog MS.Mu MS.Oo)=true:=by kernel_rfl
theorem zT2(P):decide (MS.zJ (t.heap_39 P) M.prog MS.Mu MS.Oo ((MS.Mu.fns.drop 40).take 40))=true:=by kernel_rfl
theorem zT3(P):decide (MS.zJ (t.heap_39 P) M.prog MS.Mu MS.Oo ((MS.Mu.fns.drop 40).drop 40))=true:=by kernel_rfl
theorem zT:PySem.Challenge.rw_worldfind_k72_desk_refused.Holds:=t (by
 refine MS.walk (l:=PySem.Challenge.rw_worldfind_k72_desk_refused) (x:= "_law_script") (2*40+3) ⟨fun _=>rfl,by decide,by decide⟩ rfl rfl (fun w h Y=>PySem.W.kIn_of Y) ?F
 case F=>
  intro w mg fa h KX G hmg;exact MS.kF M.prog MS.Mu MS.Oo 39 KX G hmg (zT1 _) (zT2 _) (zT3 _) M.gz)
end Lake
theorem PySem.Challenge.cw_worldfind_k72_desk_refused_holds : PySem.Challenge.rw_worldfind_k72_desk_refused.Holds :=
 Lake.zT
