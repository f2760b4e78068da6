import PyProof.Rows.All
import Wide.All
import OpenK.AllK
import Wide.FinOn
import Lean
import PyProof.EqAt
import PyProof.EqKinds
import PyProof.TupleCall
import PyProof.NeKinds
import PyProof.NsDelKeeps
import KE.KRevSl
import PyProof.StrWalks
import PyProof.ConsumeWalk
import PyProof.SumWalk
import PyProof.Rows.SortStr
import PyProof.SumWalkG
import PyProof.StrCalls2
import PyProof.StrLawsIdx
import PyProof.WalkInts
import PyProof.StrOps2
import PyProof.SliceStr2
import PyProof.Draws
import PyProof.EnumMake
import PyProof.Rows.SetFrom
import PyProof.SetRoads
import PyProof.WalksMore
import PyProof.ListRange
import PyProof.TupleOfSeq
import PyProof.TupleOfGen
import PyProof.Rows.SortShell
import PyProof.ZipIter
import PyProof.DictStraight
import PyProof.TupleKey
import PyProof.DictRoadsH
import PyProof.DictTruth
import PyProof.Rows.TupTab
import KE.KTabLook
import PyProof.FString
import PyProof.CallStr
import KE.KIntText
import PyProof.Rows.Range3
import PyProof.DictRoads
import PyProof.Rows.StrNews2
import KE.KDictOf
import KE.KMinKey
import PyProof.AttrMissHeap
import PyProof.FactsAll.zip
import PySem.Challenge.RW_worldfind_k70_rows_refused
set_option Elab.async false
set_option linter.all false
set_option maxRecDepth 100000
set_option compiler.extract_closed false
set_option genSizeOf false
set_option tactic.hygienic false
set_option genInjectivity false
set_option backward.eqns.nonrecursive false
set_option bootstrap.genMatcherCode false
noncomputable section
open List renaming mem_cons_self->Aa,mem_cons_of_mem->Aa0,replicate->Aa1,length_append->Aa2,mem_cons->Aa6,getElem?_eq_getElem->Aa7,mem_append_right->Aa8,length_map->Ab,length_cons->Ab1,mem_singleton->Ab2,mem_append->Ab4,lookup_cons->Ab8,not_mem_nil->Ab9,size_toArray->Ac,getElem?_eq_some_iff->Ac1,range->Ac2,map_cons->Ac3,replicate_succ->Ac4,getD_eq_getElem?_getD->Ac5,getElem?_set_self->Ac6,append_nil->Ac7,map_append->Ad,length_set->Ad0,getElem?_set_ne->Ad1,mem_map->Ad3,mem_append_left->Ad4,getElem?_append_right->Ad5,all_eq_true->Ad6,contains_iff_mem->Ad8,getElem?_append_left->Ad9,length_nil->Ae0,getElem?_map->Ae1,length_replicate->Ae3,length_take->Ae4,isEmpty_iff->Ae5,drop_eq_getElem_cons->Ae8,pairwise_cons->Af2,foldl_cons->Af3,map_map->Af4,append_assoc->Af8,nodup_cons->Ag0,length->Ag3,eq_nil_of_length_eq_zero->Ag4,mem_of_mem_take->Ag5,flatten_cons->Ag7,lookup->Ag9,getElem_mem->Ah0,extract_eq_drop_take->Ah1,filterMap_cons->Ah3,length_drop->Ah4,take_of_length_le->Ah5,nil_append->Ah7,any_cons->Ah9,all_cons->Ai,cons_append->Ai2,mem_replicate->Ai8,mem_filterMap->Ai9,drop_of_length_le->Aj1,take_left->Aj2,mem_range->Aj3,map_nil->Aj4,length_singleton->Aj5,all_map->Aj6,take_length->Aj7,mem_of_getElem?->Aj9,Pairwise->Ak,reverse_cons->Al0,nodup_append->Al1,pairwise_singleton->Al3,length_eq_zero_iff->Al4,getElem?_replicate->Al5,take_append_drop->Am0,of_mem_zip->Am1,mem_of_mem_drop->Am6,drop_zero->An,replicate_zero->An0,pairwise_map->An4,nil_lt_cons->Ao,getElem_map->Ao0,any_eq_true->Ao1,contains_cons->OU,exists_cons_of_ne_nil->Pp,getElem?_take_of_lt->Pz,filterMap_cons_some->PP,any_append->P0,forIn_cons->P5,range_succ_eq_map->Rg,nodup_nil->Rr,cons_lt_cons_iff->Rt,set_append_right->Ru,extract_toArray->Ry,dropLast_concat->Rz,getLastD_concat->RA,sum_cons->RE,length_reverse->RM,toList_toArray->RN,take_succ_cons->RO,filterMap_map->RX,zip_cons_cons->R5,any_eq_false->R9,take_sublist->Se,foldl_append->Sh,range'_succ->Sr,drop_length->Su,isEmpty_nil->Sw,range_succ->SA,not_lt_nil->SF,lt_irrefl->SH,le_trans->SJ,map_take->SK,map_id->SO
open PySem.Heap renaming get?_push_of_some->Aa3,lt_size->Ab3,get?_push_size->Ab6,get?_update_other->Ae7,get?_update_self->Ag1,FlyingW->Ah8,size_push->Ai1,get?_none_of_le->Am7,get?_update_ne->An1,SameBut->An6
open Nat renaming le_refl->Aa4,lt_of_lt_of_le->Ab5,ne_of_lt->Ab7,le_trans->Ac0,le_succ->Ac9,pow_le_pow_right->Ae,lt_succ_self->Ae9,zero_le->Af0,le_succ_of_le->Af9,lt_irrefl->Ag,le_of_lt->Ag2,mod_lt->Ai6,le_max_right->Aj8,not_lt_zero->Ak3,min_eq_left->Ak4,le_max_left->Ak5,lt_succ_of_lt->Al2,ne_of_gt->Am3,le_of_eq->Am4,not_le->An5,zero_add->An8,lt_trans->An9,le_of_lt_succ->IR,lt_of_le_of_lt->KM,le_add_left->L2,succ_le_succ->Oo,le_of_not_lt->Ox,le_add_right->OE,succ_sub_one->OS,sub_lt_sub_left->Pg,two_pow_pos->Rb,add_le_add_left->RR,mul_comm->R3,sub_self->R4,sub_add_cancel->R6,min_eq_right->Sv,succ_mul->SM,sub_zero->SN
open PySem.W renaming Frag->Aa5,kia_one->Ae2,keepIn->Af6,emptyDict->Ah2,instObj->Ai4,cellsFrom_some->Ai7,findIn->Aj0,plainGet->Al,fnOf->Al7,lookIn->Al9,kitOne->Am,plainGet_of->Am2,callWith_K->Am9,kitx_list->An2,methodCall_KW->Rk,findObj_own->RH,looks_clsIn->RI,callWith_K0->RJ,kitx_tuple->RU,codeRec_of->RW,set_plain->Sa,kitx_dict->Sd,any_some->Sm
open Bool renaming and_eq_true->Aa9,false_ne_true->Ab0,and_eq_true_iff->Ag6,eq_false_iff->Ag8,false_eq_true->Ah6,true_and->Ak0,not_true->Ak1,or_eq_true_iff->Ak2,not_false->Ak9,or_eq_false_iff->Am8,and_true->An3,or_true->An7,noConfusion->Ao3,eq_iff_iff->P8,or_eq_true->Ra,false_and->Rp,false_or->RD,not_eq_true'->Sj,or_false->SI
open Option renaming bind_some->Ac8,bind_eq_some_iff->Ad2,map_eq_some_iff->Ae6,isSome_iff_exists->Af,some->Af5,isNone_iff_eq_none->Af7
open Classical renaming byContradiction->Ad7,choose_spec->Ah,choose->Ai0,not_not->Ak6,propDecidable->Ak7
open Int renaming toNat_natCast->Af1,toNat_of_nonneg->Ai5,emod_nonneg->Aj,emod_lt_of_pos->Ak8,natCast_mul->Am5,ne_of_gt->Ao2,natCast_nonneg->Oy,ediv_one->SL
open Array renaming length_toList->Ai3,toList_inj->Al6,toList->Al8
open Decidable renaming decide->k8
open Option renaming some->y0,none->u0
open Bool renaming true->k9,false->u9
open Array renaming size->Array.j,isEmpty->Array.y,toList->Array.p,setIfInBounds->Array.u
open Bool renaming toNat->Bool.j
open Eq renaming trans->Eq.x,symm->Eq.j
open False renaming elim->False.j
open Iff renaming mp->Iff.j,mpr->Iff.p
open Int renaming toNat->Int.j,natAbs->Int.p
open List renaming length->List.e,lookup->List.j,contains->List.p,map->List.u,toArray->List.w,isEmpty->List.y,take->List.A,set->List.B,Nodup->List.C,any->List.G,drop->List.J,flatten->List.L,all->List.N,getD->List.Q,reverse->List.T,foldl->List.U,filterMap->List.Y,zip->List.Z,Pairwise->List.a0
open List.Perm renaming trans->List.Perm.x,symm->List.Perm.j,append_right->List.Perm.p,length_eq->List.Perm.u,eq_of_pairwise->PL
open Nat renaming testBit->Nat.j
open Option renaming map->Option.u,bind->Option.p,isNone->Option.j,isSome->Option.w,join->Option.y
open Or renaming elim->Or.j,inl->Or.p,inr->Or.u
open PySem.Around renaming handled->PySem.Around.j,deeper->PySem.Around.p,units->PySem.Around.u,in1->PySem.Around.w,under_plainId->Rx
open PySem.Code renaming builtin->PySem.Code.u,quiet_builtin->OQ
open PySem.Const renaming none->PySem.Const.w
open PySem.Data renaming seq->PySem.Data.j,fields->PySem.Data.p,dict->PySem.Data.u
open PySem.Env renaming scope->PySem.Env.j,locals->PySem.Env.p,cells->PySem.Env.u,kindOf->PySem.Env.w
open PySem.ExceptHandler renaming ExceptHandler->PySem.ExceptHandler.j
open PySem.Expr renaming Name->PySem.Expr.j,Attribute->PySem.Expr.p,Call->PySem.Expr.u,Subscript->PySem.Expr.w,Constant->PySem.Expr.y,BoolOp->PySem.Expr.A,ListComp->PySem.Expr.B,Compare->PySem.Expr.C,Tuple->PySem.Expr.G,UnaryOp->PySem.Expr.J,Slice->PySem.Expr.L
open PySem.FuncData renaming scope->PySem.FuncData.j,params->PySem.FuncData.p
open PySem.Heap renaming objs->PySem.Heap.j,get?->PySem.Heap.p,push->PySem.Heap.u,update->PySem.Heap.w,UpToSlots->PySem.Heap.y,FunFrames->PySem.Heap.A,IsCell->PySem.Heap.B,IsList->PySem.Heap.C
open PySem.NameKind renaming free->PySem.NameKind.w,cell->PySem.NameKind.y
open PySem.Obj renaming data->PySem.Obj.j,dict->PySem.Obj.u
open PySem.Paired renaming cons->PySem.Paired.j,nil->PySem.Paired.p
open PySem.PlainL renaming isList->PySem.PlainL.I
open PySem.Pos renaming line->PySem.Pos.j,endLine->PySem.Pos.p
open PySem.Scope renaming names->PySem.Scope.j,kind->PySem.Scope.u
open PySem.ScopeKind renaming function->PySem.ScopeKind.j
open PySem.Shared renaming heap->PySem.Shared.j,toks->PySem.Shared.p,gens->PySem.Shared.u
open PySem.Slot renaming lookup->PySem.Slot.j
open PySem.Stmt renaming Assign->PySem.Stmt.j,Raise->PySem.Stmt.p
open PySem.Str renaming length->PySem.Str.e,cps->PySem.Str.j,ofString_eq_toList->O7
open PySem.Value renaming str->PySem.Value.m,int->PySem.Value.o,ref->PySem.Value.j,type->PySem.Value.p,builtin->PySem.Value.u,none->PySem.Value.w,bool->PySem.Value.y
open PySem.W.Looks renaming andThen->PySem.W.Looks.a3
open PySem.World renaming params->PySem.World.p
open PySem renaming wpAny_bind->AC,wpAny_pure->FS,wpAny_holding->Ol,wpAny_mono->Om,wpAny_Call_Name_kw->Oq,mem_of_lookup->Ou,codeAny_mono->Ow,wpAny_truthy_bool->OA,wpAny_loadPart_at->OB,wpAny_standAt->OC,sizeLine_eq->OF,wpAny_execs_nil->OH,wpAny_passesOwn->OI,codeAny_builtin->OJ,wpAny_call->OM,codeAny_call_builtin->ON,wpAny_execs_cons->OO,wpAny_getItem_str_slice->OP,call_meets->OR,wpAny_Name->OW,wpAny_callSpecial?_slot->OZ,wpAny_newObj_type->O1,wpAny_pyIter_list->O2,wpAny_field->O5,wpAny_call_entry->O8,plainObj_wpAny_Assign_Attribute->Pb,wpAny_loadName_local->Pc,post_val_or_str->Pf,wpAny_isSubtype_exc->Ph,wpAny_of_eq->Pi,wpAny_newFunctionEnv_cells->Pl,wpAny_attempt->Pm,wpAny_Assign_Name->Pq,typeIs_str->Pu,typeIs_int->Pv,strKind_is->Px,wpAny_binaryOp_repeat_ref->Py,concat_meets->PB,noFill_tuple_add->PD,wpAny_typeOf->PF,wpAny_getItem_list_slice->PJ,pushCells_keeps->PY,wpAny_Call_method_late->Re,wpAny_isTrue_Compare1->Rj,codeAny_call_function->Rl,codeAny_handlers_test->Rm,wpAny_runValue->Rn,wpAny_pyIter_revIter->Rw,seq_tuple_add->RC,wpAny_loadName_cell->RF,wpAny_loadName_free->RG,wpAny_handleBy_cons->RL,seqIndex_neg->RY,wpAny_pyIter_tuple->R1,wpAny_Return_some->R7,wpAny_assign_Name->R8,wpAny_sequenceKey->Sf,list_append->Sg,wpAny_pyIter_enum->Si,seqIndex_of->Sk,wpAny_lookBehind->Sn,pastItsLine_dict->So,wpAny_Try_except->Sq,wpAny_looks_onW->Sz,codeAny_of_tree->SB,wpAny_Dict_walk->SD
open PyProof.Rows renaming callWith_type1->Os,slot_tuple_getitem->Oz,callWith_builtin1->Pd,Subscript_->Pt,boot_isinstance->P9,subscriptTail_builtinR->Rc,Constant_none->RB
open PyProof.V renaming same_str->OG
open PySem.Calls renaming Name_function_global->OL,loadGlobal_global->OX,evalArgs_plain->Pe,Constant_str->Pj,spliced_cons->Pk,spliced_nil->Pr,callWith_builtin->Rf
open PySem.F renaming args_tuple_add_2->OT,entry_tuple_add->OY,slot_tuple_add->O4,plainAttrs_str->O6,slot_tuple_iterator_next->O9,excBase_ValueError->Pn,slot_str_partition->Po,args_tuple_mul_2->PK,slot_list_append->PM,type_list_append->PN,entry_tuple_mul->PU,plainAttrs_list->PV,slot_tuple_mul->Rh,slot_int_rmul->Ro,args_list_append_2->Rv,entry_list_append->RK,slot_list_append->R0,slot_int_rmul->SE
open PyProof.Rows.F renaming plain_set_update_loop->O0,entry_set_update_loop->PQ
open Function renaming comp_def->O3
open PySem.Heap.Ns renaming of_isNs->PZ
open PySem.SeqAt.EqAt renaming int_str->RS,str_int->RT
open PySem.SeqAt renaming notIn_listAt->RZ,in_listAt->Sx
open PySem.Heap.Ns1 renaming of_empty->Sb
open PySem.StrLaws renaming occ_eq->SG
def Da:=@if_pos
def Do:=@decide_eq_false
def Fk:=@if_neg
def FB:=@of_decide_eq_true
def FM:=@decide_eq_true
def Oi:=@if_true
def Oj:=@or_false
def On:=@decide_eq_true_eq
def Ot:=@beq_self_eq_true
def Ov:=@eq_false_of_ne_true
def OD:=@if_false
def OV:=@decide_false
def Pa:=@decide_eq_decide
def Pw:=@beq_iff_eq
def PX:=@decide_eq_false_iff_not
def Ri:=@decide_true
def YA{p:Prop}(h:p:=by decide):p:=h
def YB{p:Prop}(h:p:=by lia):p:=h
def YC{p:Prop}(h:p:=by simp):p:=h
def YD{a b c:Nat}(h:a<=b:=by assumption)(g:b<=c:=by decide):a<=c:=Nat.le_trans h g
namespace Lake
open PySem PySem.Spec PyProof.Rows
abbrev eO:=Sum Int Str
noncomputable def yI:eO->Value->Bool
|.inl k,v=>Value.isInt k v
|.inr x,v=>Value.isStrOf x v
noncomputable def Le(w:World):eO->Int
|.inl k=>hashInt k
|.inr x=>hashStr w x
def Ze:∀{k}{v},yI k v=k9->(∃i t,k=Sum.inl i/\v=Value.int i t)\/(∃x t,k=Sum.inr x/\v=Value.str x t)
|.inl i,v,h=>by obtain⟨t,e⟩:=Value.isInt_shape h;exact .p ⟨i,t,rfl,e⟩
|.inr x,v,h=>by obtain⟨t,e⟩:=Value.isStrOf_shape h;exact .u ⟨x,t,rfl,e⟩
def Nj(a b):k8 ((Sum.inl a:eO)=Sum.inl b)=(a==b):=by grind
def MM(a b):k8 ((Sum.inr a:eO)=Sum.inr b)=k8 (a=b):=by simp
def M6(a)(b):k8 ((Sum.inl a:eO)=Sum.inr b)=false:=Do<|λq=>nomatch q
def Ib(a)(b):k8 ((Sum.inr a:eO)=Sum.inl b)=false:=Do<|λq=>nomatch q
noncomputable def tW(prog:Program)(w:World):PySem.KeyKind prog w eO where
 is:=yI
 hash:=Le w
 inj:=λv a b l f=>by
  rcases Ze l with⟨i,t,rfl,rfl⟩|⟨x,t,rfl,rfl⟩
  .rcases Ze f with⟨j,u,rfl,e⟩|⟨y,u,rfl,e⟩
   .injection e with c _;rw[c]
   .exact nomatch e
  .rcases Ze f with⟨j,u,rfl,e⟩|⟨y,u,rfl,e⟩
   .exact nomatch e
   .injection e with c _;rw[c]
 byValue:=λk v h=>by
  rcases Ze h with⟨i,t,rfl,rfl⟩|⟨x,t,rfl,rfl⟩<;>rfl
 pyHash:=λd h=>by
  rcases Ze d with⟨i,t,rfl,rfl⟩|⟨x,t,rfl,rfl⟩
  .exact wpAny_pyHash_int h
  .exact wpAny_pyHash_str h
 eqBool:=λg d h=>by
  rcases Ze g with⟨i,t,rfl,rfl⟩|⟨x,t,rfl,rfl⟩
  .rcases Ze d with⟨j,u,rfl,rfl⟩|⟨y,u,rfl,rfl⟩
   .rw[Nj]at h;exact wpAny_eqBool_int h
   .rw[M6]at h;exact RS i t y u _ _ _ _ h
  .rcases Ze d with⟨j,u,rfl,rfl⟩|⟨y,u,rfl,rfl⟩
   .rw[Ib]at h;exact RT x t j u _ _ _ _ h
   .rw[MM]at h;exact wpAny_eqBool_str h
 «strs»:=λk x t v h=>by
  rcases Ze h with⟨i,u,rfl,e⟩|⟨y,u,rfl,e⟩
  .exact nomatch e
  .injection e with c _
   subst c;cases v<;>rfl
inductive V where
|aj|bl (b:Bool)|int (i:Int)|str (x:Str)|kr (b:Array UInt8)|iJ (b:UInt64)|ref (a:Addr)|ty (n:String)
 deriving DecidableEq
open Lake renaming V.str->Lake.V.m,V.int->Lake.V.o,V.ref->Lake.V.j,V.bl->Lake.V.C
def RelV:V->Value->Prop
|.aj,u=>u=Value.none
|.C b,u=>u=Value.bool b
|.o i,u=>∃t,u=Value.int i t
|.m x,u=>∃t,u=Value.str x t
|.kr b,u=>∃t,u=Value.bytes b t
|.iJ b,u=>∃t,u=Value.float b t
|.j a,u=>u=Value.ref a
|.ty n,u=>u=Value.type n
abbrev Vals:List V->List Value->Prop:=Paired RelV
theorem Vals.length (r:Vals xs us):xs.e=us.e:=Paired.length r
open Lake renaming Vals.length->Lake.Vals.e
theorem Vals.get:∀{xs}{us}{i:Nat}{x},Vals xs us->xs[i]?=y0 x->∃u,us[i]?=y0 u/\RelV x u
|_,_,_,_,.p,e=>by simp at e
|_,_,0,_,.j r _,e=>by simp at e;subst e;exact⟨_,rfl,r⟩
|_,_,i+1,x,.j _ t,e=>by obtain⟨u,a,b⟩:=Vals.get t (by simpa using e);exact⟨u,by simpa using a,b⟩
theorem Vals.set (r:RelV x u):∀{xs}{us} i,Vals xs us->Vals (xs.B i x) (us.B i u)
|_,_,_,.p=>.p
|_,_,0,.j _ t=>.j r t
|_,_,i+1,.j q t=>.j q<|Vals.set r i t
theorem Vals.append:∀{xs ys}{us ws},Vals xs us->Vals ys ws->Vals (xs++ys) (us++ws)
|_,_,_,_,.p,s=>s
|_,_,_,_,.j r t,s=>.j r<|Vals.append t s
theorem Vals.take:∀{xs}{us}(n),Vals xs us->Vals (xs.A n) (us.A n)
|_,_,0,_=>.p
|_,_,_+1,.p=>.p
|_,_,n+1,.j r t=>.j r<|Vals.take n t
theorem Vals.drop:∀{xs}{us}(n),Vals xs us->Vals (xs.J n) (us.J n)
|_,_,0,r=>r
|_,_,_+1,.p=>.p
|_,_,n+1,.j _ t=>Vals.drop n t
def cG:Option V->Option Value->Prop
|some v,y0 u=>RelV v u
|none,none=>True
|_,_=>False
def KV{a:Type}:List (a×V)->List (a×Value)->Prop:=Paired λ(p:a×V)(q:a×Value)=>p.1=q.1/\RelV p.2 q.2
noncomputable def kV:eO->V
|.inl i=>.o i
|.inr x=>.m x
inductive HO where
|lst (xs:List V)
|tup (xs:List V)
|dK (kvs:List<|eO×V)|dT (kvs:List<|List eO×V)
|set (S:Int->Bool)(n:Nat)
|ins (C dx:Addr)(fs:List<|Str×V)
|own (x:Addr)
|xd (fs:List<|Str×V)
|met (f x:Addr)
|ib (lo hi:Int)
|eF (o:Obj)(u:HO)
|iT (ps:Array Value)
|ext (φ:Heap->Prop)
open Lake renaming HO.tup->Lake.HO.p,HO.lst->Lake.HO.u,HO.own->Lake.HO.j,HO.ins->Lake.HO.w
abbrev Hp:=Addr->Option HO
noncomputable def aG(H:Hp)(a:Addr)(o:HO):Hp:=λb=>if b=a then y0 o else H b
def Wa:aG H a o a=y0 o:=by unfold aG;rw[Da rfl]
def Qa(h:b≠a):aG H a o b=H b:=by unfold aG;rw[Fk h]
def Qb{H:Hp}(h:H a=y0 o)(h':H b=u0):a≠b:=by intro e;subst e;rw[h]at h';cases h'
def dg(h:Heap)(a:Addr)(b:Array Value):Prop:=∃o,h.p a=some o/\o.cls=.p "tuple"/\o.u=none/\∃n,o.j=.j b n
def dg.is (p:dg h a items):IsTup h a items:=let⟨o,e,c,_,n,d⟩:=p;⟨o,e,c,n,d⟩
theorem dg.lt (p:dg h a items):a<h.j.j:=p.is.lt
def dg.new (h:Heap)(items):dg (h.u {cls:=.p "tuple",data:=.j items}) h.j.j items:=⟨_,Ab6 _ rfl,rfl,rfl,_,rfl⟩
section
variable(P:Program)(w:World)
def aO(H:Hp)(h:Heap)(a:Addr):HO->Prop
|.u xs=>xs.e<=sizeLine/\∃(b:List Value)(n:Nat),Vals xs b/\h.p a=y0 {cls:=.p "list",data:=.j b.w n}
|.p xs=>xs.e<=sizeLine/\∃b:List Value,Vals xs b/\dg h a b.w
|.dK kvs=>kvs.e<=sizeLine/\(a==sysModules)=u9/\∃vs,KV kvs vs/\h.DictOf (tW P w) a vs
|.dT kvs=>kvs.e<=sizeLine/\(a==sysModules)=u9/\∃xs:List<|List eO×Addr×Value,
  Paired (λ(p:List eO×V)(q:List eO×Addr×Value)=>p.1=q.1/\H q.2.1=y0 (.p<|p.1.u kV)/\RelV p.2 q.2.2) kvs xs∧
  ∃o es d,h.p a=y0 o/\o.ExactDict/\o.j=.u es d/\es.p=xs.u (entryOfKey<|tupleKind<|tW P w)/\(xs.u (·.1)).C
|.set S n=>h.SetOf (intKind P w) a S n
|.w C dx fs=>H dx=y0 (.j a)/\fs.e<=1000/\dx≠a/\h.p a=y0 (Ai4 C dx)∧
  ∃mA,h.Ns1 dx mA/\(∀f,cG (fs.j f)<|mA f)/\PySem.Within mA (fs.u (·.1))
|.j _=>∃o,h.p a=y0 o
|.xd fs=>∃mA,h.Ns1 a mA/\∀f,cG (fs.j f)<|mA f
|.ib lo hi=>∃t u v,h.p a=y0 {cls:=.p "range",data:=.p #[.o lo t,.o hi u,.o 1 v]}
|.eF o u=>h.p a=y0 o/\aO H h a u
|.iT ps=>h.p a=y0 {cls:=.w,data:=.p ps}
|.met f x=>h.p a=y0 (PySem.W.methodObj (.j f)<|.j x)
|.ext c=>c h/\(∃o,h.p a=y0 o)/\∀h1 h2:Heap,c h1->(∀o,h1.p a=y0 o->h2.p a=y0 o)->c h2
def cZ(H:Hp)(h:Heap):Prop:=∀a o,H a=y0 o->aO P w H h a o
end
section
variable{P:Program}{w:World}{H H':Hp}{h h':Heap}{a:Addr}{o:HO}
theorem aO.lt (x:aO P w H h a o):a<h.j.j:=by
 cases o with
|lst c=>obtain⟨_,_,_,_,e⟩:=x;exact Ab3 e
|tup c=>obtain⟨_,_,_,p⟩:=x;exact p.lt
|dK b=>obtain⟨_,_,_,_,o,_,_,e,_⟩:=x;exact Ab3 e
|dT b=>obtain⟨_,_,_,_,o,_,_,e,_⟩:=x;exact Ab3 e
|set S n=>obtain⟨o,_,_,_,e,_⟩:=x;exact Ab3 e
|ins C j fs=>obtain⟨_,_,_,e,_⟩:=x;exact Ab3 e
|own y=>obtain⟨_,e⟩:=x;exact Ab3 e
|xd fs=>obtain⟨_,⟨_,_,_,e,_⟩,_⟩:=x;exact Ab3 e
|ib g i=>obtain⟨_,_,_,e⟩:=x;exact Ab3 e
|eF k u=>obtain⟨e,_⟩:=x;exact Ab3 e
|iT l=>exact Ab3<|x
|met f y=>exact Ab3<|x
|ext d=>obtain⟨_,⟨_,e⟩,_⟩:=x;exact Ab3 e
theorem Paired.mI:∀{M}{L},Paired F M L->(∀a b,F a b->G a b)->Paired G M L
|_,_,.p,_=>.p
|_,_,.j r t,f=>.j (f _ _ r)<|Paired.mI t f
def aO.cK (x:aO P w H h a o)(k:∀b u,(b=a\/H b=y0 (.j a))->h.p b=y0 u->h'.p b=y0 u)
 (I:∀b,H b=y0 (.j a)->H' b=y0 (.j a))(E:∀b xs,H b=y0 (.p xs)->H' b=y0 (.p xs)):aO P w H' h' a o:=by
 induction o with
|lst xs=>obtain⟨z,l,n,r,e⟩:=x;exact⟨z,l,n,r,k _ _ (.p rfl) e⟩
|tup xs=>obtain⟨z,l,r,g,e,c⟩:=x;exact⟨z,l,r,g,k _ _ (.p rfl) e,c⟩
|dK A=>obtain⟨z,y,F,r,g,i,j,e,c⟩:=x;exact⟨z,y,F,r,g,i,j,k _ _ (.p rfl) e,c⟩
|dT A=>obtain⟨z,y,xs,r,g,i,j,e,c⟩:=x;exact⟨z,y,xs,Paired.mI r λp q z=>⟨z.1,E _ _ z.2.1,z.2.2⟩,g,i,j,k _ _ (.p rfl) e,c⟩
|set S n=>obtain⟨g,i,j,t,e,c⟩:=x;exact⟨g,i,j,t,k _ _ (.p rfl) e,c⟩
|ins C M fs=>obtain⟨d,z,ne,e,s,⟨m,i,j,G,c⟩,r⟩:=x;exact⟨I _ d,z,ne,k _ _ (.p rfl) e,s,⟨m,i,j,k _ _ (.u d) G,c⟩,r⟩
|own y=>obtain⟨g,e⟩:=x;exact⟨g,k _ _ (.p rfl) e⟩
|xd fs=>obtain⟨s,⟨m,i,j,e,c⟩,r⟩:=x;exact⟨s,⟨m,i,j,k _ _ (.p rfl) e,c⟩,r⟩
|ib K L=>obtain⟨t,u,v,e⟩:=x;exact⟨t,u,v,k _ _ (.p rfl) e⟩
|eF g u D=>obtain⟨e,q⟩:=x;exact⟨k _ _ (.p rfl) e,D q⟩
|iT N=>have e:=x;exact k a _ (.p rfl) e
|met f y=>have e:=x;exact k a _ (.p rfl) e
|ext J=>obtain⟨p,⟨o,e⟩,B⟩:=x;exact⟨B _ _ p λo q=>k _ _ (.p rfl) q,⟨o,k _ _ (.p rfl) e⟩,B⟩
theorem cZ.lt (x:cZ P w H h)(e:H a=y0 o):a<h.j.j:=(x a o e).lt
def cZ.fresh (x:cZ P w H h)(e:h.j.j<=a):H a=none:=by
 cases q:H a with
|none=>rfl
|some u=>exact absurd (Ab5 (x.lt q) e)<|Ag _
def cZ.kept (x:cZ P w H h)(k:∀b u,h.p b=y0 u->h'.p b=y0 u):cZ P w H h':=λa o e=>
 (x a o e).cK (λb u _ q=>k b u q) (λ_ q=>q) λ_ _ q=>q
def cZ.laid (x:cZ P w H h)(k:∀b u,h.p b=y0 u->h'.p b=y0 u)(g:h.j.j<=a)(new:aO P w (aG H a o) h' a o):cZ P w (aG H a o) h':=λb u e=>by
 have f:=x.fresh g;by_cases d:b=a
 .subst d;rw[Wa]at e;cases e;exact new
 .rw[Qa d]at e;exact(x b u e).cK (λc v _ q=>k c v q) (λc q=>by rw[Qa<|Qb q f];exact q) λc i q=>by rw[Qa<|Qb q f];exact q
end
def Rd(H:Hp)(a:Addr)(u:HO):Prop:=H a=y0 u\/∃o,H a=y0 (.eF o u)
def Rd.ok (r:Rd H a u)(x:cZ P w H h):aO P w H h a u:=by
 obtain r|⟨o,r⟩:=r
 .exact x a u r
 .obtain⟨_,q⟩:=x a _ r;exact q
def nZ:Option HO->Prop
|some (.u _)=>True
|some (.dK _)=>True
|some (.dT _)=>True
|some (.set _ _)=>True
|some (.w _ _ _)=>True
|some (.ext _)=>True
|_=>False
section
variable{P:Program}{w:World}{H:Hp}{h h':Heap}{x e:Addr}{o':HO}
def cZ.write (ok:cZ P w H h)(i:nZ<|H x)(o:e=x\/H e=y0 (.j x))(k:∀b u,b≠e->h.p b=y0 u->h'.p b=y0 u)(m:∃u,h'.p e=y0 u)
 (new:aO P w (aG H x o') h' x o'):cZ P w (aG H x o') h':=λb u q=>by
 have d:∀c y,H c=y0 (.j y)->c≠x:=λc y r z=>by subst z;rw[r]at i;exact i
 have f:∀c g,H c=y0 (.p g)->c≠x:=λc g r z=>by subst z;rw[r]at i;exact i
 by_cases l:b=x
 .subst l;rw[Wa]at q;cases q;exact new
 .rw[Qa l]at q;by_cases a:b=e
  .have n:H b=y0 (.j x):=by
    obtain z|z:=o
    .exact absurd (a.x z) l
    .rw[a];exact z
   rw[q]at n;cases n;obtain⟨v,p⟩:=m;exact⟨v,by rw[a];exact p⟩
  .refine(ok b u q).cK (λc v j r=>k c v ?_ r) (λc r=>by rw[Qa<|d c b r];exact r) λc g r=>by rw[Qa<|f c g r];exact r
   obtain rfl|j:=j
   .exact a
   .rintro rfl;obtain z|z:=o
    .exact d c b j z
    .rw[j]at z;cases z;exact l rfl
end
structure Un(fs ex:List Addr)(H H':Hp)(h h':Heap):Prop where
 keep:∀b o,h.p b=y0 o->H b=u0->b∉fs->b∉ex->h'.p b=y0 o
 slot:∀b o,h.p b=y0 o->H b=u0->b∈fs->b∉ex->∃sl,h'.p b=y0 {o with slots:=sl}
 free:∀b o,h.p b=y0 o->H b=u0->b∉ex->H' b=u0
 there:∀b o,h.p b=y0 o->b∉ex->∃o',h'.p b=y0 o'
 cL:∀b xs,H b=y0 (.p xs)->H' b=y0 (.p xs)
 cA:∀b o u,H b=y0 (.eF o u)->H' b=y0 (.eF o u)
 cH:∀b ps,H b=y0 (.iT ps)->∃more,H' b=y0 (.iT<|ps++more)
open Lake renaming Un.free->Lake.Un.w,Un.keep->Lake.Un.j,Un.there->Lake.Un.p,Un.slot->Lake.Un.u
section
variable{fs fs' ex ex':List Addr}{H H1 H2:Hp}{h h1 h2 h':Heap}{a x e:Addr}{o:HO}
def Un.any (u:Un fs ex H H1 h h1)(q:h.p b=y0 ob)(n:H b=u0)(a:b∉ex):∃sl,h1.p b=y0 {ob with slots:=sl}:=by
 by_cases c:b∈fs
 .exact u.u b ob q n c a
 .exact⟨ob.slots,u.j b ob q n c a⟩
def Un.kept (k:∀b u,h.p b=y0 u->h'.p b=y0 u):Un fs ex H H h h':=
 ⟨λb a q _ _ _=>k b a q,λb a q _ _ _=>⟨a.slots,k b a q⟩,λ_ _ _ n _=>n,λb a q _=>⟨a,k b a q⟩,λ_ _ q=>q,λ_ _ _ q=>q,λ_ c q=>⟨#[],by rw[q];simp⟩⟩
def Un.refl:Un fs ex H H h h:=Un.kept λ_ _ q=>q
def Un.laid (k:∀b u,h.p b=y0 u->h'.p b=y0 u)(d:h.j.j<=a)(c:H a=u0):Un fs ex H (aG H a o) h h' where
 keep:=λb u q _ _ _=>k b u q
 slot:=λb u q _ _ _=>⟨u.slots,k b u q⟩
 free:=λb u q n _=>by rw[Qa<|Ab7<|Ab5 (Ab3 q) d];exact n
 there:=λb u q _=>⟨u,k b u q⟩
 cL:=λb e q=>by rw[Qa<|Qb q c];exact q
 cA:=λb u e q=>by rw[Qa<|Qb q c];exact q
 cH:=λb f q=>⟨#[],by rw[Qa<|Qb q c,q];simp⟩
def Un.write (c:nZ<|H x)(l:e=x\/H e=y0 (.j x))(k:∀b u,b≠e->h.p b=y0 u->h'.p b=y0 u)(d:∃u,h'.p e=y0 u):Un fs ex H (aG H x o) h h':=by
 have g:∀b,H b=u0->b≠x:=λb n z=>by subst z;rw[n]at c;exact c
 have i:∀b,H b=u0->b≠e:=λb n z=>by
  subst z;obtain r|r:=l
  .exact g b n r
  .rw[n]at r;cases r
 have f:∀b u,H b=y0 u->¬nZ (y0 u)->b≠x:=λb u q j z=>by subst z;rw[q]at c;exact j c
 refine⟨λb u q n _ _=>k b u (i b n) q,λb u q n _ _=>⟨u.slots,k b u (i b n) q⟩,λb u q n _=>by rw[Qa<|g b n];exact n,λb u q _=>?_,
  λb m q=>by rw[Qa<|f b _ q λz=>z];exact q,λb u m q=>by rw[Qa<|f b _ q λz=>z];exact q,λb p q=>⟨#[],by rw[Qa<|f b _ q λz=>z,q];simp⟩⟩
 by_cases a:b=e
 .subst a;exact d
 .exact⟨u,k b u a q⟩
end
noncomputable def eK(h:Heap)(H:Hp):List Addr:=(Ac2 h.j.j).filter λa=>(H a).w
def lH(h:Heap)(H:Hp):Heap:=PySem.W.hideAll h<|eK h H
def Nd(h)(H):(lH h H).j.j=h.j.j:=PySem.W.hideAll_size _ _
def Em(e:h.p b=y0 o)(n:H b=u0):(lH h H).p b=y0 o:=
 PySem.W.hideAll_get _ e λa=>by have q:=(List.mem_filter.j a).2;rw[n]at q;simp at q
def C5(e:(lH h H).p b=y0 o):h.p b=y0 o/\H b=none:=by
 have a:=PySem.W.of_hideAll _ e;refine⟨a,?_⟩;cases q:H b with
|none=>rfl
|some x=>have c:b∈eK h H:=List.mem_filter.p ⟨Aj3.p<|Ab3 a,by simp[q]⟩;have z:(lH h H).p b=none:=PySem.W.hideAll_none _ c;rw[z]at e;cases e
noncomputable def F5(g h:Heap)(L:Addr):List<|Addr×Obj:=(Ac2 h.j.j).Y λa=>if a=L\/(g.p a).w=k9 then u0 else(h.p a).u λo=>(a,o)
def rest(g h:Heap)(L d:Addr):List<|Addr×Obj:=(F5 g h L).filter λp=>k8<|p.1≠d
structure Mod(K:Aa5)(mg:Str->Option Value)(base:Heap):Prop where
 eZ:K.In base
 glob:base.Ns mainGlobals mg
 blt:∃mb,base.Ns builtinsNs mb/\∀x:Str,x≠"__name__"->mb x=bootBuiltins x
 nolimit:base.NoLimit
structure Cx where
 prog:Program
 w:World
 K:Aa5
 mg:Str->Option Value
 base:Heap
 A:Around
 N:List Str
 s₀:Shared
 H₀:Hp
 env:Env
 outer:List Env
 stack:List Env
 ex:List Addr
 fn:Str->Bool
 calm:Bool
 pn:List<|Addr×Obj
 xe:Value->Shared->Prop
open Lake renaming Cx.env->Lake.Cx.j,Cx.prog->Lake.Cx.p,Cx.base->Lake.Cx.u,Cx.stack->Lake.Cx.B,Cx.outer->Lake.Cx.y,Cx.xe->Lake.Cx.C,Cx.mg->Lake.Cx.J
noncomputable def bM(l:List Env):List Addr:=l.Y (·.frame)
abbrev Cx.fs (X:Cx):List Addr:=bM X.y
def ij(a:Scope)(x:Str):Prop:=a.j.j x=y0 .local\/a.j.j x=y0 .y\/a.j.j x=y0 .w
def lA(a:Scope)(x:Str):Prop:=a.j.j x=y0 .local\/a.j.j x=y0 .y
def yt(env:Env)(h:Heap)(m:Str->Option Value)(x:Str)(u:Value):Prop:=
 (env.w x=y0 .local/\m x=y0 u)\/((env.w x=y0 .y\/env.w x=y0 .w)/\∃c,env.u.j x=y0 c/\h.B c (y0 u))
structure Cx.Ok (X:Cx):Prop where
 mod:Mod X.K X.J X.u
 kind:X.j.j.u=.j
 glob:X.j.globals=mainGlobals
 blt:X.j.builtins=builtinsNs
 above:X.s₀.j.j.j<=X.j.p
 inj:∀x y c,X.j.u.j x=y0 c->X.j.u.j y=y0 c->x=y
 has:∀x,(X.j.w x=y0 .y\/X.j.w x=y0 .w)->∃c,X.j.u.j x=y0 c
 kY:∀x c,X.fn x=k9->X.j.u.j x=y0 c->X.s₀.j.j.j<=c
 hd:X.calm=k9->X.A.j=u0
 frames:X.A.frames=y0 X.B
 fW:X.B=X.y\/(X.B=X.j::X.y/\X.j.frame=y0 X.j.p)
 mx:∀b∈X.ex,b≠X.j.p/\∀x c,X.j.u.j x=y0 c->c≠b
 bs:∀b o,X.u.p b=y0 o->X.s₀.j.p b=y0 o/\X.H₀ b=u0
 g6:X.u.j.j<=X.s₀.j.j.j
 fF:∀b o,X.u.p b=y0 o->b∉X.ex
 fH:∀b∈X.ex,b∉X.fs
 cS:X.s₀.j.A X.u X.y
 iI:∀b∈X.fs,X.H₀ b=u0
open Lake renaming Cx.Ok.kind->Lake.Cx.Ok.u,Cx.Ok.above->Lake.Cx.Ok.w
structure Inv(X:Cx)(u7:List<|Addr×Obj)(U:List<|Option V)(H:Hp)(s:Shared):Prop where
 ok:X.Ok
 os:s.os=X.s₀.os
 bare:AllBare s.u
 base:Un X.fs X.ex X.H₀ H X.s₀.j s.j
 loc:∃m,s.j.Ns X.j.p m/\∀(i:Nat)(x:Str)(v:V),X.N[i]?=y0 x->U[i]?=y0 (y0 v)->ij X.j.j x->∃u,RelV v u/\yt X.j s.j m x u
 cell:∀x c,X.j.u.j x=y0 c->∃v,s.j.B c v
 free:H X.j.p=u0
 bz:∀x c,X.j.u.j x=y0 c->H c=u0
 pin:∀p∈X.pn++u7,s.j.p p.1=y0 p.2/\H p.1=u0/\p.1≠X.j.p/\p.1∉X.fs/\∀v,p.2.j≠.cell v
 aL:cZ X.p X.w H s.j
 len:U.e=X.N.e
open Lake renaming Inv.ok->Lake.Inv.j,Inv.base->Lake.Inv.u,Inv.free->Lake.Inv.w,Inv.cell->Lake.Inv.y,Inv.aL->Lake.Inv.J,Inv.pin->Lake.Inv.N,Inv.bare->Lake.Inv.Q,Inv.loc->Lake.Inv.Z
section
variable{X:Cx}{u7:List<|Addr×Obj}{U:List<|Option V}{H H':Hp}{s:Shared}{h':Heap}
def Cx.Ok.pC (ok:X.Ok)(e:X.u.p b=y0 o):b∉X.fs:=λa=>by have:=(ok.cS.mem a).1;rw[e]at this;cases this
theorem Inv.bs (I:Inv X u7 U H s):∀b o,X.u.p b=y0 o->s.j.p b=y0 o/\H b=none:=λb o e=>
 ⟨I.u.j b o (I.j.bs b o e).1 (I.j.bs b o e).2 (I.j.pC e)<|I.j.fF b o e,I.u.w b o (I.j.bs b o e).1 (I.j.bs b o e).2<|I.j.fF b o e⟩
def Inv.bk (I:Inv X u7 U H s):∀b o,X.u.p b=y0 o->s.j.p b=y0 o:=λb o e=>(I.bs b o e).1
theorem Inv.mod (I:Inv X u7 U H s):Mod X.K X.J X.u:=I.j.mod
def Inv.bE (I:Inv X u7 U H s):X.K.In s.j:=I.j.mod.eZ.keeps I.bk
theorem Inv.lt (I:Inv X u7 U H s):X.j.p<s.j.j.j:=let⟨_,a,_⟩:=I.Z;a.lt
def Inv.sz (I:Inv X u7 U H s):X.s₀.j.j.j<=s.j.j.j:=Ac0 I.j.w<|Ag2 I.lt
def Inv.rT (I:Inv X u7 U H s)(h:s.j.j.j<=a):a∉X.fs:=λb=>by obtain⟨_,o,c,_⟩:=I.j.cS.mem b;exact absurd (Ab5 (Ab3 c)<|Ac0 I.sz h)<|Ag _
def Inv.h9 (I:Inv X u7 U H s):∀x c,X.j.u.j x=y0 c->c≠X.j.p:=λx c e z=>by obtain⟨v,o,f,d⟩:=I.y x c e;obtain⟨m,⟨g,h,i,a,b,_⟩,_⟩:=I.Z;rw[z,a]at f;cases f;rw[b]at d;cases d
theorem Inv.cS (I:Inv X u7 U H s):s.j.A X.u X.y:=by
 have all:∀l,(∀b∈bM l,b∈X.fs)->X.s₀.j.A X.u l->s.j.A X.u l:=by
  intro l;induction l with
|nil=>intro _ _;trivial
|cons n r g=>intro f h;obtain⟨k,⟨L,o,d,i,m,p⟩,j⟩:=h;have a:=f L (by unfold bM;rw[Ah3,d];exact Aa);obtain⟨sl,e⟩:=I.u.u L o m (I.j.iI L a) a λz=>I.j.fH L z a;exact⟨k,⟨L,_,d,i,e,p⟩,g (λb c=>f b<|by unfold bM;rw[Ah3,d];exact Aa0 _ c) j⟩
 exact all X.y (λ_ c=>c) I.j.cS
theorem Inv.stack (I:Inv X u7 U H s):s.j.A X.u X.B:=by
 obtain e|⟨e,b⟩:=I.j.fW
 .rw[e];exact I.cS
 .rw[e];obtain⟨m,a,_⟩:=I.Z;refine .cons (by rw[I.j.u];decide) b a ?_ I.cS;exact Am7<|Ac0 I.j.g6 I.j.w
def Inv.dP (I:Inv X u7 U H s):∀b∈bM X.B,b∈X.j.p::X.fs:=λb a=>by
 obtain e|⟨e,c⟩:=I.j.fW
 .rw[e]at a;exact Aa0 _ a
 .rw[e]at a;unfold bM at a;rw[Ah3,c]at a;exact a
def Inv.cO (I:Inv X u7 U H s):∀b∈bM X.B,H b=none:=λb a=>by
 rcases Aa6.j (I.dP b a)with e|a
 .rw[e];exact I.w
 .obtain⟨_,o,c,_⟩:=I.j.cS.mem a;exact I.u.w b o c (I.j.iI b a) λz=>I.j.fH b z a
def Inv.step {ch:List Addr}(I:Inv X u7 U H s)
 (h:∀b∈ch,(b∈X.ex\/X.s₀.j.j.j<=b)/\b≠X.j.p/\(∀x c,X.j.u.j x=y0 c->c≠b)/\∀p∈X.pn++u7,p.1≠b)
 (keep:∀b o,b≠X.j.p->b∉X.fs->b∉ch->s.j.p b=y0 o->H b=u0->h'.p b=y0 o)
 (y:∀b o,b≠X.j.p->b∈X.fs->b∉ch->s.j.p b=y0 o->H b=u0->∃sl,h'.p b=y0 {o with slots:=sl})(f:∀b o,b∉ch->s.j.p b=y0 o->H b=u0->H' b=u0)
 (there:∀b o,b∉ch->s.j.p b=y0 o->∃o',h'.p b=y0 o')
 (C:∀b xs,H b=y0 (.p xs)->H' b=y0 (.p xs))(G:∀b o u,H b=y0 (.eF o u)->H' b=y0 (.eF o u))(F:∀b ps,H b=y0 (.iT ps)->∃more,H' b=y0 (.iT<|ps++more))
 (ns:∀m,s.j.Ns X.j.p m->h'.Ns X.j.p m)(J:cZ X.p X.w H' h')(Q:AllBare g'):
 Inv X u7 U H' {s with heap:=h',gens:=g',drawn:=d',toks:=t'}:=by
 have D:∀b o,X.s₀.j.p b=y0 o->b≠X.j.p:=λb o e=>Ab7<|Ab5 (Ab3 e) I.j.w;have t:∀b o,X.s₀.j.p b=y0 o->b∉X.ex->b∉ch:=λb o e a A=>by
  obtain z|z:=(h b A).1
  .exact a z
  .exact absurd (Ab5 (Ab3 e) z)<|Ag _
 have g:∀x c,X.j.u.j x=y0 c->∀v,s.j.B c v->h'.B c v:=by
  rintro x c e v ⟨o,B,L⟩;have j:=λz=>(h c z).2.2.1 x c e rfl;by_cases O:c∈X.fs
  .obtain⟨sl,q⟩:=y c o (I.h9 x c e) O j B<|I.bz x c e;exact⟨_,q,L⟩
  .exact⟨o,keep c o (I.h9 x c e) O j B<|I.bz x c e,L⟩
 refine⟨I.j,I.os,Q,⟨λb o e n A a=>?_,λb o e n A a=>?_,λb o e n a=>?_,λb o e a=>?_,λb xs e=>C b xs<|I.u.cL b xs e,λb o xs e=>G b o xs<|I.u.cA b o xs e,λb ps e=>?_⟩,?_,λx c e=>?_,?_,λx c e=>?_,λp M=>?_,J,I.len⟩
 .exact keep b o (D b o e) A (t b o e a) (I.u.j b o e n A a)<|I.u.w b o e n a
 .obtain⟨sl,w⟩:=I.u.u b o e n A a;obtain⟨K,E⟩:=y b _ (D b o e) A (t b o e a) w<|I.u.w b o e n a;exact⟨K,E⟩
 .obtain⟨o',w⟩:=I.u.p b o e a;exact f b o' (t b o e a) w<|I.u.w b o e n a
 .obtain⟨o',w⟩:=I.u.p b o e a;exact there b o' (t b o e a) w
 .obtain⟨V,w⟩:=I.u.cH b ps e;obtain⟨R,E⟩:=F b _ w;exact⟨V++R,by rw[E,Array.append_assoc]⟩
 .obtain⟨m,S,P⟩:=I.Z;refine⟨m,ns m S,λi x v w E T=>?_⟩;obtain⟨u,r,l⟩:=P i x v w E T;refine⟨u,r,?_⟩;obtain l|⟨k,c,e,z⟩:=l
  .exact .p l
  .exact .u ⟨k,c,e,g x c e _ z⟩
 .obtain⟨v,z⟩:=I.y x c e;exact⟨v,g x c e v z⟩
 .obtain⟨m,⟨o,_,_,B,_⟩,_⟩:=I.Z;exact f _ o (λz=>(h _ z).2.1 rfl) B I.w
 .obtain⟨v,o,B,L⟩:=I.y x c e;exact f c o (λz=>(h c z).2.2.1 x c e rfl) B<|I.bz x c e
 .obtain⟨e,n,ne,N,d⟩:=I.N p M;have j:=λz=>(h p.1 z).2.2.2 p M rfl;exact⟨keep p.1 p.2 ne N j e n,f p.1 p.2 j e n,ne,N,d⟩
def Inv.un (I:Inv X u7 U H s)(u:Un X.fs [] H H' s.j h')(c:cZ X.p X.w H' h'):Inv X u7 U H' {s with heap:=h',toks:=t'}:=by obtain⟨m,⟨o,l,p,h,r⟩,_⟩:=id I.Z;obtain⟨sl,k⟩:=u.any h I.w YC;exact I.step (ch:=[]) (λ_ z=>nomatch z) (λb o _ f _ e n=>u.j b o e n f YC) (λb o _ f _ e n=>u.u b o e n f YC) (λb o _ e n=>u.w b o e n YC) (λb o _ e=>u.p b o e YC) u.cL u.cA u.cH (λt j=>by obtain⟨q,g,d,a,i⟩:=j;rw[h]at a;cases a;exact⟨_,g,d,k,i⟩) c I.Q
def Inv.call (I:Inv X u7 U H s)(u:Un (bM X.B) ch H H' s.j h')(g:cZ X.p X.w H' h')(l:AllBare g')
 (f:∀b∈ch,(b∈X.ex\/X.s₀.j.j.j<=b)/\b≠X.j.p/\(∀x c,X.j.u.j x=y0 c->c≠b)/\∀p∈X.pn++u7,p.1≠b):
 Inv X u7 U H' {s with heap:=h',gens:=g',drawn:=d',toks:=t'}:=by
 obtain⟨m,⟨o,w,y,k,r⟩,_⟩:=id I.Z;obtain⟨sl,i⟩:=u.any k I.w λz=>(f _ z).2.1 rfl;exact I.step f (λb o i v a e n=>u.j b o e n (λz=>(Aa6.j<|I.dP b z).j i v) a) (λb o _ _ a e n=>u.any e n a) (λb o a e n=>u.w b o e n a) (λb o a e=>u.p b o e a) u.cL u.cA u.cH (λB t=>by obtain⟨A,j,h,d,q⟩:=t;rw[k]at d;cases d;exact⟨_,j,h,i,q⟩) g l
def Inv.turned (I:Inv X u7 U H s)(k:∀b o,b≠it->s.j.p b=y0 o->h'.p b=y0 o)(j:H it=u0)(f:it≠X.j.p)
 (h1:it∈X.ex\/X.s₀.j.j.j<=it)(h2:∀x c,X.j.u.j x=y0 c->c≠it)(w:∀p∈X.pn++u7,p.1≠it):Inv X u7 U H {s with heap:=h',toks:=t'}:=by
 have d:∀b u,H b=y0 u->b≠it:=λb u e z=>by rw[z,j]at e;cases e
 refine I.step (ch:=[it]) (λb t=>?_) (λb o _ _ a e _=>k b o (λz=>a<|by simp[z]) e) (λb o _ _ a e _=>⟨o.slots,k b o (λz=>a<|by simp[z]) e⟩) (λ_ _ _ _ n=>n)
  (λb o a e=>⟨o,k b o (λz=>a<|by simp[z]) e⟩) (λ_ _ e=>e) (λ_ _ _ e=>e) (λb y e=>⟨#[],by rw[e];simp⟩) (λm i=>?_) (λb u e=>?_) I.Q
 .have e:=by simpa using t
  subst e;exact⟨h1,f,h2,w⟩
 .obtain⟨o,g,h,l,r⟩:=i;exact⟨o,g,h,k _ o (Ne.symm f) l,r⟩
 .refine(I.J b u e).cK (λc v a q=>k c v ?_ q) (λ_ q=>q) λ_ _ q=>q;obtain z|z:=a
  .rw[z];exact d b u e
  .exact d c _ z
def Inv.tok (I:Inv X u7 U H s)(t):Inv X u7 U H {s with toks:=t}:=I.un Un.refl I.J
theorem Inv.kept (I:Inv X u7 U H s)(k:∀b u,s.j.p b=y0 u->h'.p b=y0 u):Inv X u7 U H {s with heap:=h',toks:=t'}:=I.un (Un.kept k)<|I.J.kept k
theorem Inv.laid (I:Inv X u7 U H s)(k:∀b u,s.j.p b=y0 u->h'.p b=y0 u)(c:s.j.j.j<=a)(new:aO X.p X.w (aG H a o) h' a o):
 Inv X u7 U (aG H a o) {s with heap:=h',toks:=t'}:=I.un (Un.laid k c<|I.J.fresh c)<|I.J.laid k c new
theorem Inv.write (I:Inv X u7 U H s)(d:nZ<|H x)(c:e=x\/H e=y0 (.j x))(k:∀b u,b≠e->s.j.p b=y0 u->h'.p b=y0 u)(a:∃u,h'.p e=y0 u)
 (new:aO X.p X.w (aG H x o) h' x o):Inv X u7 U (aG H x o) {s with heap:=h',toks:=t'}:=I.un (Un.write d c k a)<|I.J.write d c k a new
def Inv.bP (I:Inv X u7 U H s)(h:∀p∈pins',s.j.p p.1=y0 p.2/\H p.1=u0/\p.1≠X.j.p/\p.1∉X.fs/\∀v,p.2.j≠.cell v):Inv X pins' U H s:=
 ⟨I.j,I.os,I.Q,I.u,I.Z,I.y,I.w,I.bz,λp a=>(Ab4.j a).j (λz=>I.N p<|Ad4 _ z)<|h p,I.J,I.len⟩
def qR{N:List Str}(c:N.C){i j:Nat}(a:N[i]?=y0 x)(b:N[j]?=y0 x):i=j:=by obtain⟨f,e⟩:=Ac1.j a;obtain⟨g,d⟩:=Ac1.j b;exact(List.getElem_inj c).j<|e.x d.j
def Bq(I:Inv X u7 U H s)(hN:X.N.C)(hi:X.N[i]?=y0 x)(w:lA X.j.j x)(r:RelV v u)
 (h:∀s',Inv X u7 (U.B i<|y0 v) H s'->(∃a,An6 a s.j s'.j/\(a=X.j.p\/X.j.u.j x=y0 a))->Q () s')(hf:X.fn x=k9\/X.j.j.j.j x=y0 .local:=by first|exact .inl rfl|exact .inr rfl|assumption):wpAny M A (storeName X.j x u) Q E s:=by
 obtain⟨m,hn,hl⟩:=id I.Z;have O:(X.j.j.u==.class||(X.j.j.u==.module&&X.j.p !=X.j.globals))=false:=by rw[I.j.u];rfl
 have N:i<U.e:=by rw[I.len];exact(Ac1.j hi).1
 have h9:=I.h9;have g:∀{a}{K},(∃o,s.j.p a=y0 o/\H a=u0)->An6 a s.j K->cZ X.p X.w H K:=λ{a K} ha f b ob e=>by
  obtain⟨_,_,B⟩:=ha;refine(I.J b ob e).cK (λc V t q=>(f.2 c ?_).x q) (λ_ q=>q) λ_ _ q=>q;rintro rfl;rcases t with rfl|t
  .rw[B]at e;cases e
  .rw[B]at t;cases t
 rcases w with D|D
 .refine wpAny_storeName_local D hn (λK hn' f=>?_) O;obtain⟨oL,_,_,Y,_⟩:=id hn;refine h _ ⟨I.j,I.os,I.Q,⟨λb o e n J w=>?_,λb o e n J w=>?_,I.u.w,λb o e w=>?_,I.u.cL,I.u.cA,I.u.cH⟩,⟨_,hn',λj y W l C e3=>?_⟩,λy c e=>?_,I.w,I.bz,λp hp=>?_,g ⟨oL,Y,I.w⟩ f,by simpa using I.len⟩ ⟨_,f,.p rfl⟩
  .exact(f.2 b<|Ab7<|Ab5 (Ab3 e) I.j.w).x<|I.u.j b o e n J w
  .obtain⟨sl,l⟩:=I.u.u b o e n J w;exact⟨sl,(f.2 b<|Ab7<|Ab5 (Ab3 e) I.j.w).x l⟩
  .obtain⟨o',l⟩:=I.u.p b o e w;exact⟨o',(f.2 b<|Ab7<|Ab5 (Ab3 e) I.j.w).x l⟩
  .by_cases G:j=i
   .subst G;rw[hi]at l;cases l;rw[Ac6 N]at C;cases C;exact⟨u,r,.p ⟨D,by simp⟩⟩
   .rw[Ad1<|Ne.symm G]at C;obtain⟨u',Z,q⟩:=hl j y W l C e3;refine⟨u',Z,?_⟩;rcases q with⟨k,e⟩|⟨k,c,e,z⟩
    .refine .p ⟨k,?_⟩;have:y≠x:=λe=>G<|qR hN l<|e▸hi;simp[this,e]
    .exact .u ⟨k,c,e,z.sameBut f<|h9 y c e⟩
  .obtain⟨V,z⟩:=I.y y c e;exact⟨V,z.sameBut f<|h9 y c e⟩
  .obtain⟨e,n,ne,nf,d⟩:=I.N p hp;exact⟨(f.2 p.1 ne).x e,n,ne,nf,d⟩
 .have F:X.fn x=true:=by
   rcases hf with z|z
   .exact z
   .rw[z]at D;cases D
  obtain⟨c,t⟩:=I.j.has x<|.p D;obtain⟨V,z⟩:=I.y x c t;refine wpAny_storeName_cell I.j.u D t z<|λK R f=>?_;obtain⟨oc,P,L⟩:=id z;refine h {s with heap:=K} ⟨I.j,I.os,I.Q,⟨λb o e n J w=>?_,λb o e n J w=>?_,I.u.w,λb o e w=>?_,I.u.cL,I.u.cA,I.u.cH⟩,⟨m,hn.sameBut f<|Ne.symm<|h9 x c t,λj y W l C e3=>?_⟩,λy T e=>?_,I.w,I.bz,λp hp=>?_,g ⟨oc,P,I.bz x c t⟩ f,by simpa using I.len⟩ ⟨c,f,.u t⟩
  .exact(f.2 b<|Ab7<|Ab5 (Ab3 e)<|I.j.kY x c F t).x<|I.u.j b o e n J w
  .obtain⟨sl,l⟩:=I.u.u b o e n J w;exact⟨sl,(f.2 b<|Ab7<|Ab5 (Ab3 e)<|I.j.kY x c F t).x l⟩
  .obtain⟨o',l⟩:=I.u.p b o e w;exact⟨o',(f.2 b<|Ab7<|Ab5 (Ab3 e)<|I.j.kY x c F t).x l⟩
  .by_cases G:j=i
   .subst G;rw[hi]at l;cases l;rw[Ac6 N]at C;cases C;exact⟨u,r,.u ⟨.p D,c,t,R⟩⟩
   .rw[Ad1<|Ne.symm G]at C;obtain⟨u',Z,q⟩:=hl j y W l C e3;refine⟨u',Z,?_⟩;rcases q with q|⟨k,T,e,z'⟩
    .exact .p q
    .refine .u ⟨k,T,e,z'.sameBut f ?_⟩;rintro rfl;exact G<|qR hN l<|I.j.inj _ _ _ e t▸hi
  .by_cases S:T=c
   .subst S;exact⟨_,R⟩
   .obtain⟨w2,z2⟩:=I.y y T e;exact⟨w2,z2.sameBut f S⟩
  .obtain⟨e,n,ne,nf,d⟩:=I.N p hp;refine⟨(f.2 p.1 ?_).x e,n,ne,nf,d⟩;intro q;rw[q,P]at e;have q':=Af5.inj e;exact d V<|by rw[←q'];exact L
def Xp(I:Inv X u7 U H s)(c:X.N.C)(hi:X.N[i]?=y0 x)(b:lA X.j.j x)(r:RelV v u)
 (h:∀s',Inv X u7 (U.B i<|y0 v) H s'->Q () s')(d:X.fn x=k9\/X.j.j.j.j x=y0 .local:=by first|exact .inl rfl|exact .inr rfl|assumption):wpAny M A (storeName X.j x u) Q E s:=
 Bq I c hi b r (λs' a _=>h s' a) d
def Inv.iN (I:Inv X u7 U H s)(g:s'.os=s.os)(u:Un (bM X.B) ch H H' s.j s'.j)(a:cZ X.p X.w H' s'.j)(f:AllBare s'.u)
 (d:∀b∈ch,(b∈X.ex\/X.s₀.j.j.j<=b)/\b≠X.j.p/\(∀x c,X.j.u.j x=y0 c->c≠b)/\∀p∈X.pn++u7,p.1≠b):Inv X u7 U H' s':=by
 obtain⟨k,h,j,l,i⟩:=s';have e:=g;subst e;exact I.call u a f d
end
open Lake renaming Inv.turned->Lake.Inv.G
abbrev XK:=Value->Option Addr->Hp->Prop
abbrev St:=List<|Option V
abbrev VK:=V->Hp->Prop
abbrev TE:=St->Hp->VK->Prop
abbrev TT:=St->Hp->(Bool->Hp->Prop)->Prop
abbrev TA:=St->Hp->(List V->Hp->Prop)->Prop
structure gK where
 nx:St->Hp->Prop
 rt:VK
 bk:St->Hp->Prop:=λ_ _=>False
 ct:St->Hp->Prop:=λ_ _=>False
abbrev TS:=gK->St->Hp->Prop
def EP(X:Cx)(a:List<|Addr×Obj)(U:St)(Q:VK)(u:Value)(s':Shared):Prop:=∃v H',Inv X a U H' s'/\RelV v u/\Q v H'
def TP(X:Cx)(a:List<|Addr×Obj)(U:St)(Q:Bool->Hp->Prop)(b:Bool)(s':Shared):Prop:=∃H',Inv X a U H' s'/\Q b H'
def AP(X:Cx)(a:List<|Addr×Obj)(U:St)(Q:List V->Hp->Prop)(us:List Value)(s':Shared):Prop:=∃vs H',Inv X a U H' s'/\Vals vs us/\Q vs H'
def SP(X:Cx)(a:List<|Addr×Obj)(D:gK)(f:Flow)(s':Shared):Prop:=
 match f with
|.next=>∃b H',Inv X a b H' s'/\D.nx b H'
|.brk=>∃b H',Inv X a b H' s'/\D.bk b H'
|.cont=>∃b H',Inv X a b H' s'/\D.ct b H'
|.ret u=>∃v b H',Inv X a b H' s'/\RelV v u/\D.rt v H'
def PE(X:Cx)(e:Expr)(t:TE):Prop:=
 ∀(u7:List<|Addr×Obj)(s:Shared)(U:St)(H:Hp)(Q:VK),Inv X u7 U H s->t U H Q->wpAny (model X.p X.w) X.A (eval e X.j) (EP X u7 U Q) X.C s
def PT(X:Cx)(e:Expr)(t:TT):Prop:=
 ∀(u7:List<|Addr×Obj)(s:Shared)(U:St)(H:Hp)(Q:Bool->Hp->Prop),Inv X u7 U H s->t U H Q->wpAny (model X.p X.w) X.A (isTrue e X.j<|eval e X.j) (TP X u7 U Q) X.C s
def PW(X:Cx)(e:Expr)(t:TT):Prop:=
 ∀(a:Sem Value)(u7:List<|Addr×Obj)(s:Shared)(U:St)(H:Hp)(Q:Bool->Hp->Prop),Inv X u7 U H s->t U H Q->wpAny (model X.p X.w) X.A (isTrue e X.j a) (TP X u7 U Q) X.C s
def PW.pt (h:PW X e t):PT X e t:=h _
def PA(X:Cx)(es:List Expr)(t:TA):Prop:=
 ∀(pos:Pos)(u7:List<|Addr×Obj)(s:Shared)(U:St)(H:Hp)(Q:List V->Hp->Prop),Inv X u7 U H s->t U H Q->wpAny (model X.p X.w) X.A (spliced<|backTo pos<|starEach es X.j) (AP X u7 U Q) X.C s
def PS(X:Cx)(st:Stmt)(t:TS):Prop:=
 ∀(u7:List<|Addr×Obj)(s:Shared)(U:St)(H:Hp)(D:gK),Inv X u7 U H s->t D U H->wpAny (model X.p X.w) X.A (exec st X.j) (SP X u7 D) X.C s
def cV(X:Cx)(st:List Stmt)(t:TS):Prop:=
 ∀(u7:List<|Addr×Obj)(s:Shared)(U:St)(H:Hp)(D:gK),Inv X u7 U H s->t D U H->wpAny (model X.p X.w) X.A (execs st X.j) (SP X u7 D) X.C s
def aJ(h:wpAny M A t Q E s)(b:∀a s,Q a s->Q' a s):wpAny M A t Q' E s:=Om h b λ_ _ x=>x
section
variable{X:Cx}
def bin(k:PE X a ta)(m:PE X b tb){R:V->V->Hp->Prop}(I:Inv X u7 U H s)(h:ta U H λx H1=>tb U H1 λy H2=>R x y H2)
 {f:Value->Value->Sem α}
 (n:∀v u O x y H2,Inv X u7 U H2 O->RelV x v->RelV y u->R x y H2->wpAny (model X.p X.w) X.A (f v u) Q X.C O):
 wpAny (model X.p X.w) X.A (eval a X.j) (λv M=>wpAny (model X.p X.w) X.A (eval b X.j) (λu L=>wpAny (model X.p X.w) X.A (f v u) Q X.C L) X.C M) X.C s:=by
 refine aJ (k u7 s U H _ I h) ?_;rintro v g ⟨x,H1,e,i,l⟩;refine aJ (m u7 g U H1 _ e l) ?_;rintro u O ⟨y,H2,c,d,j⟩;exact n v u O x y H2 c i d j
def nD(i:Nat):TE:=λU H Q=>∃v,U[i]?=y0 (y0 v)/\Q v H
def tC(v:V):TE:=λ_ H Q=>Q v H
def XB(k:X.N[i]?=some x)(n:ij X.j.j x)(g:(x==("__debug__":Str))=false:=by decide)(f:(x==("__classdict__":Str))=false:=by decide):PE X (.j x pos)<|nD i:=by
 intro d s U H Q I h;obtain⟨v,e,h⟩:=h;obtain⟨m,q,o⟩:=I.Z;obtain⟨u,r,l⟩:=o i x v k e n;have fin:EP X d U Q u s:=⟨v,H,I,r,h⟩;obtain⟨b,p⟩|⟨b,c,j,a⟩:=l
 .exact OW (Pc I.j.u b q p fin) g
 .obtain b|b:=b
  .exact OW (RF I.j.u b j a fin) g
  .exact OW (RG I.j.u b j a fin f) g
def u2{i j pos}:PE X (.y (.int i) j pos)<|tC<|.o i:=λ_ _ _ H _ I h=>wpAny_Constant_int ⟨.o i,H,I.tok _,⟨_,rfl⟩,h⟩
def Bz{b j pos}:PE X (.y (.bool b) j pos)<|tC<|.C b:=λ_ _ _ H _ I h=>Constant_bool ⟨.C b,H,I,rfl,h⟩
def F3{j pos}:PE X (.y .w j pos)<|tC .aj:=λ_ _ _ H _ I h=>RB ⟨.aj,H,I,rfl,h⟩
def CJ{x j pos}:PE X (.y (.str x) j pos)<|tC<|.m x:=λ_ _ _ H _ I h=>Pj ⟨.m x,H,I.tok _,⟨_,rfl⟩,h⟩
def Gl(X:Cx)(x:Str):Prop:=X.j.w x=y0 .globalImplicit
def Zo(I:Inv X u7 U H s)(c:Gl X x)(b:X.J x=y0 u)(h:Q u s)
 (a:(x==("__debug__":Str))=false:=by decide):wpAny (model X.p X.w) X.A (eval (.j x pos) X.j) Q E s:=
 OL I.j.u c (OX (by rw[I.j.glob];exact I.mod.glob.keeps I.bk) b h) a
def Xw(I:Inv X u7 U H s)(g:Gl X x)(e:X.J x=u0)(d:bootBuiltins x=y0 u)(h:Q u s)
 (c:x≠"__name__":=by decide)(b:(x==("__debug__":Str))=false:=by decide):wpAny (model X.p X.w) X.A (eval (.j x pos) X.j) Q E s:=by
 obtain⟨i,a,f⟩:=I.mod.blt;exact OL I.j.u g (Calls.loadGlobal_builtin (by rw[I.j.glob];exact I.mod.glob.keeps I.bk) e (by rw[I.j.blt];exact a.keeps I.bk) ((f x c).x d) h) b
def JO(c:Gl X x)(b:X.J x=some u)(r:RelV v u)(a:(x==("__debug__":Str))=false:=by decide):PE X (.j x pos)<|tC v:=
 λ_ _ _ H _ I h=>Zo I c b ⟨v,H,I,r,h⟩ a
def sY(e:Gl X x)(c:X.J x=none)(d:bootBuiltins x=some u)(r:RelV v u)(b:x≠"__name__":=by decide)(a:(x==("__debug__":Str))=false:=by decide):PE X (.j x pos)<|tC v:=
 λ_ _ _ H _ I h=>Xw I e c d ⟨v,H,I,r,h⟩ b a
variable{a b:Expr}{ta tb:TE}{pos:Pos}
def PC(X:Cx)(op:CmpOp)(a b:Expr)(t:TE):Prop:=
 ∀(u7:List<|Addr×Obj)(s:Shared)(U:St)(H:Hp)(Q:VK),Inv X u7 U H s->t U H Q→
  wpAny (model X.p X.w) X.A (eval a X.j) (λv d=>wpAny (model X.p X.w) X.A (eval b X.j) (λu c=>wpAny (model X.p X.w) X.A (compareOp op v u) (EP X u7 U Q) X.C c) X.C d) X.C s
def Bd(b)(h:op≠.In)(h2:op≠.NotIn):behindInMarks op b=false:=by
 have a:(op==CmpOp.In)=false:=by cases op<;>first|rfl|exact absurd rfl h
 have c:(op==CmpOp.NotIn)=false:=by cases op<;>first|rfl|exact absurd rfl h2
 cases b<;>simp[behindInMarks,a,c]
def Iw(a:TE):TE:=λU H Q=>a U H λx H1=>Q (.C<|k8<|x=.aj) H1
def Lo(a:TE):TE:=λU H Q=>a U H λx H1=>Q (.C<|!k8 (x=.aj)) H1
def RelV.en (r:RelV x v):(v==Value.none)=k8 (x=.aj):=by
 cases x with
|aj=>cases r;rfl
|bl _=>cases r;rfl
|int _=>obtain⟨t,rfl⟩:=r;rfl
|str _=>obtain⟨t,rfl⟩:=r;rfl
|kr _=>obtain⟨t,rfl⟩:=r;rfl
|iJ _=>obtain⟨t,rfl⟩:=r;rfl
|ref _=>cases r;rfl
|ty _=>cases r;rfl
def vA{j pos'}(d:PE X a ta):PC X .Is a (.y .w j pos')<|Iw ta:=by intro b s U H Q I h;refine aJ (d b s U H _ I h) ?_;rintro v i ⟨x,e,f,c,g⟩;exact RB<|is_none_gen ⟨.C _,e,f,by rw[c.en];rfl,g⟩
def vt{j pos'}(d:PE X a ta):PC X .IsNot a (.y .w j pos')<|Lo ta:=by intro b s U H Q I h;refine aJ (d b s U H _ I h) ?_;rintro v i ⟨x,e,f,c,g⟩;exact RB<|isnot_none_gen ⟨.C _,e,f,by rw[c.en];rfl,g⟩
def tB(t:TE):TT:=λU H Q=>t U H λx H1=>∃c,x=.C c/\Q c H1
def uY(h:PC X op a b t)(h1:behindInMarks op b=false:=by first|exact Bd _ YA<|by decide|rfl):PE X (.C a [op] [b] pos) t:=λc s U H Q I d=>wpAny_Compare1 (h c s U H Q I d) h1
def Bf(h:PC X op a b t)(h1:behindInMarks op b=false:=by first|exact Bd _ YA<|by decide|rfl):PT X (.C a [op] [b] pos)<|tB t:=by intro e s U H Q I f;refine Rj (aJ (h e s U H _ I f) λv m h1=>aJ h1 λu n j=>aJ j ?_) h1;rintro c o⟨x,l,g,i,k⟩;obtain⟨d,rfl,q⟩:=k;cases i;exact OA ⟨l,g,q⟩
variable{tA tB':TT}{rest:List Expr}
def BM(t u:TT):TT:=λU H Q=>t U H λc H1=>if c=k9 then u U H1 Q else Q u9 H1
def BF(t u:TT):TT:=λU H Q=>t U H λc H1=>if c=k9 then Q k9 H1 else u U H1 Q
def IE(t:TT):TT:=λU H Q=>t U H λc H1=>Q (!c) H1
def FQ(d:PT X a tA):PW X (.A .And [a] pos) tA:=by
 intro f b s U H Q I h;refine isTrue_and<|aJ (d b s U H Q I h) λc g e=>?_;cases c with
|true=>exact isTrue_and_nil e
|false=>exact e
def Hd(d:PT X a tA):PW X (.A .Or [a] pos) tA:=by
 intro f b s U H Q I h;refine isTrue_or<|aJ (d b s U H Q I h) λc g e=>?_;cases c with
|false=>exact isTrue_or_nil e
|true=>exact e
def IB(k:PT X a tA)(j:PW X (.A .And (b::rest) pos) tB'):PW X (.A .And (a::b::rest) pos)<|BM tA tB':=by
 intro i d s U H Q I h;refine isTrue_and<|aJ (k d s U H _ I h) ?_;rintro c l ⟨e,f,g⟩;cases c with
|true=>exact j i d l U e Q f g
|false=>exact⟨e,f,g⟩
def F6(k:PT X a tA)(j:PW X (.A .Or (b::rest) pos) tB'):PW X (.A .Or (a::b::rest) pos)<|BF tA tB':=by
 intro i d s U H Q I h;refine isTrue_or<|aJ (k d s U H _ I h) ?_;rintro c l ⟨e,f,g⟩;cases c with
|true=>exact⟨e,f,g⟩
|false=>exact j i d l U e Q f g
def Np(d:PT X a tA):PT X (.J .Not a pos)<|IE tA:=by intro b s U H Q I h;exact isTrue_not<|d b s U H (λc e=>Q (!c) e) I h
def ye{op}(h:PE X a t):PE X (.A op [a] pos) t:=λb s U H Q I c=>BoolOp_one<|h b s U H Q I c
end
def bu(K:Aa5)(H:Hp)(a:Addr)(xs:List V):Prop:=
 Rd H a (.u xs)∨
  ∃(o:Obj)(b:Array Value)(n:Nat),K.j a=some o/\o.cls=.p "list"/\o.u=none/\o.j=.j b n/\b.j<=sizeLine/\Vals xs b.p
def cC(K:Aa5)(H:Hp)(a:Addr)(xs:List V):Prop:=
 Rd H a (.p xs)∨
  ∃(o:Obj)(b:Array Value)(n:Nat),K.j a=y0 o/\o.cls=.p "tuple"/\o.j=.j b n/\b.j<=sizeLine/\Vals xs b.p
noncomputable def oh:Value->Option V
|.w=>y0 .aj
|.y b=>y0<|.C b
|.o i _=>y0<|.o i
|.m x _=>y0<|.m x
|.bytes b _=>y0<|.kr b
|.float b _=>y0<|.iJ b
|.j a=>y0<|.j a
|.p n=>y0<|.ty n
|_=>u0
def RelV.abs (r:RelV x u):oh u=y0 x:=by
 cases x with
|aj=>cases r;rfl
|bl _=>cases r;rfl
|int _=>obtain⟨t,rfl⟩:=r;rfl
|str _=>obtain⟨t,rfl⟩:=r;rfl
|kr _=>obtain⟨t,rfl⟩:=r;rfl
|iJ _=>obtain⟨t,rfl⟩:=r;rfl
|ref _=>cases r;rfl
|ty _=>cases r;rfl
theorem RelV.inj (r:RelV x u)(q:RelV y u):x=y:=Af5.inj<|r.abs.j.x q.abs
theorem Vals.inj:∀{xs ys}{us},Vals xs us->Vals ys us->xs=ys
|_,_,_,.p,.p=>rfl
|_,_,_,.j r t,.j a b=>by rw[r.inj a,Vals.inj t b]
section
variable{X:Cx}{u7:List<|Addr×Obj}{U:St}{H:Hp}{s:Shared}{a:Addr}{xs ys:List V}
def bu.of {K:Aa5}(h:H a=y0 (.u xs)):bu K H a xs:=.p<|.p h
def Inv.list (I:Inv X u7 U H s)(h:bu X.K H a xs):∃L:List Value,Vals xs L/\PlainL s.j a L.w/\xs.e<=sizeLine:=by
 obtain h|⟨o,L,n,f,c,d,b,g,r⟩:=h
 .obtain⟨z,L,n,r,e⟩:=h.ok I.J;exact⟨L,r,⟨_,n,e,rfl,rfl,rfl⟩,z⟩
 .refine⟨L.p,r,⟨o,n,I.bE a o f,c,d,by simpa using b⟩,?_⟩;have e:=r.e;simp[Ai3]at e;lia
def Inv.tuple (I:Inv X u7 U H s)(h:cC X.K H a xs):∃L:List Value,Vals xs L/\IsTup s.j a L.w/\xs.e<=sizeLine:=by
 obtain h|⟨o,L,n,d,c,b,f,r⟩:=h
 .obtain⟨z,L,r,p⟩:=h.ok I.J;exact⟨L,r,p.is,z⟩
 .refine⟨L.p,r,⟨o,I.bE a o d,c,n,by simpa using b⟩,?_⟩;have e:=r.e;simp[Ai3]at e;lia
def Inv.dt (I:Inv X u7 U H s)(h:bu X.K H a xs)(h':bu X.K H a ys):xs=ys:=by
 obtain⟨c,r,⟨o,n,e,_,_,d⟩,_⟩:=I.list h;obtain⟨b,j,⟨k,l,f,_,_,g⟩,_⟩:=I.list h';rw[e]at f;cases f;rw[d]at g;injection g with i _
 have:c=b:=by simpa using congrArg Al8 i
 subst this;exact r.inj j
def Inv.fA (I:Inv X u7 U H s)(h:cC X.K H a xs)(h':cC X.K H a ys):xs=ys:=by
 obtain⟨c,r,⟨o,e,_,n,d⟩,_⟩:=I.tuple h;obtain⟨b,j,⟨k,f,_,l,g⟩,_⟩:=I.tuple h';rw[e]at f;cases f;rw[d]at g;injection g with i _
 have:c=b:=by simpa using congrArg Al8 i
 subst this;exact r.inj j
end
noncomputable abbrev Cx.cu (X:Cx)(E:Value->Shared->Prop):Cx:={X with xe:=E}
abbrev Cx.eH (X:Cx):Cx:=X.cu λ_ _=>False
theorem Cx.Ok.cu {X:Cx}(ok:X.Ok)(E:Value->Shared->Prop):(X.cu E).Ok:=
 ⟨ok.mod,ok.u,ok.glob,ok.blt,ok.w,ok.inj,ok.has,ok.kY,ok.hd,ok.frames,ok.fW,ok.mx,ok.bs,ok.g6,ok.fF,ok.fH,ok.cS,ok.iI⟩
def Cx.Ok.bS {X:Cx}(ok:(X.cu E).Ok):X.Ok:=
 ⟨ok.mod,ok.u,ok.glob,ok.blt,ok.w,ok.inj,ok.has,ok.kY,ok.hd,ok.frames,ok.fW,ok.mx,ok.bs,ok.g6,ok.fF,ok.fH,ok.cS,ok.iI⟩
section
variable{X:Cx}{u7:List<|Addr×Obj}{U:St}{H:Hp}{s:Shared}{E:Value->Shared->Prop}
theorem Inv.cu (I:Inv X u7 U H s)(E):Inv (X.cu E) u7 U H s:=⟨I.j.cu E,I.os,I.Q,I.u,I.Z,I.y,I.w,I.bz,I.N,I.J,I.len⟩
theorem Inv.bS (I:Inv (X.cu E) u7 U H s):Inv X u7 U H s:=⟨I.j.bS,I.os,I.Q,I.u,I.Z,I.y,I.w,I.bz,I.N,I.J,I.len⟩
theorem SP.bS (h:SP (X.cu E) u7 D f s'):SP X u7 D f s':=by
 cases f with
|next=>obtain⟨a,b,I,q⟩:=h;exact⟨a,b,I.bS,q⟩
|brk=>obtain⟨a,b,I,q⟩:=h;exact⟨a,b,I.bS,q⟩
|cont=>obtain⟨a,b,I,q⟩:=h;exact⟨a,b,I.bS,q⟩
|ret u=>obtain⟨v,a,b,I,r,q⟩:=h;exact⟨v,a,b,I.bS,r,q⟩
end
section
variable{X:Cx}{st:Stmt}{rest:List Stmt}{t u:TS}{e:Expr}{te:TE}{pos:Pos}
def Hl:TS:=λD U H=>D.nx U H
def K6(t u:TS):TS:=λD U H=>t {D with nx:=u D} U H
def DN:cV X [] Hl:=λ_ _ U H _ I h=>OH ⟨U,H,I,h⟩
def Nk(h1:PS X st t)(h2:cV X rest u):cV X (st::rest)<|K6 t u:=by
 intro a s U H D I h;refine OO<|aJ (h1 a s U H {D with nx:=u D} I h) λf d q=>?_;cases f with
|next=>obtain⟨c,e,b,q⟩:=q;exact h2 a d c e D b q
|ret v=>exact q
|brk=>exact q
|cont=>exact q
def Im(h1:PS X st t):cV X [st] t:=by
 intro a s U H D I h;refine OO<|aJ (h1 a s U H D I h) λf b q=>?_;cases f with
|next=>exact OH q
|ret v=>exact q
|brk=>exact q
|cont=>exact q
def Inv.quiet (I:Inv X u7 U H s):interactive X.j=false:=by simp[interactive,I.j.u]
def M8(a:TE):TS:=λD U H=>a U H λ_ H1=>D.nx U H1
def X5(c:PE X e te)(b:swapsWith e u0 pos.j X.j=pure false:=by rfl):PS X (.Expr e pos)<|M8 te:=by intro a s U H D I h;exact wpAny_Expr_any (aJ (c a s U H _ I h)<|by rintro v j⟨x,d,f,i,g⟩;exact⟨U,d,f,g⟩) I.quiet b
def Dh(a:TE):TS:=λD U H=>a U H D.rt
def uc(c:PE X e te):PS X (.Return (y0 e) pos)<|Dh te:=by intro a s U H D I h;exact R7<|aJ (c a s U H _ I h)<|by rintro v i⟨x,d,f,b,g⟩;exact⟨x,U,d,f,b,g⟩
def Mg(c:TT)(t u:TS):TS:=λD U H=>c U H λb H1=>if b=k9 then t D U H1 else u D U H1
def Hr(k:PT X c tc)(m:cV X a t)(l:cV X b u):PS X (.If c a b pos)<|Mg tc t u:=by
 intro e s U H D I h;refine wpAny_If<|aJ (k e s U H _ I h) ?_;rintro d j ⟨f,g,i⟩;cases d with
|true=>exact m e j U f D g i
|false=>exact l e j U f D g i
end
abbrev TG:=V->St->Hp->(St->Hp->Prop)->Prop
abbrev mB:=List V->St->Hp->(St->Hp->Prop)->Prop
def PG(X:Cx)(a:Expr)(t:TG):Prop:=
 ∀(u7:List<|Addr×Obj)(s:Shared)(U:St)(H:Hp)(v:V)(u:Value)(Q:St->Hp->Prop),Inv X u7 U H s->RelV v u->t v U H Q→
  wpAny (model X.p X.w) X.A (assign a X.j u) (λ_ s'=>∃b H',Inv X u7 b H' s'/\Q b H') X.C s
def kM(X:Cx)(ts:List Expr)(t:mB):Prop:=
 ∀(u7:List<|Addr×Obj)(s:Shared)(U:St)(H:Hp)(vs:List V)(us:List Value)(Q:St->Hp->Prop),Inv X u7 U H s->Vals vs us->t vs U H Q→
  wpAny (model X.p X.w) X.A (assignInOrder ((assignEach ts X.j).u (·.2)) us) (λ_ s'=>∃a H',Inv X u7 a H' s'/\Q a H') X.C s
abbrev ub:=V->V->V->Hp->(Hp->Prop)->Prop
def Ay(X:Cx)(t:ub):Prop:=
 ∀(u7:List<|Addr×Obj)(s:Shared)(U:St)(H:Hp)(o i v:V)(b a u:Value)(Q:Hp->Prop),Inv X u7 U H s->RelV o b->RelV i a->RelV v u->t o i v H Q→
  wpAny (model X.p X.w) X.A (setItem b a u) (λ_ s'=>∃H',Inv X u7 U H' s'/\Q H') X.C s
section
variable{X:Cx}{pos:Pos}
def QT(i:Nat):TG:=λv U H Q=>Q (U.B i<|y0 v) H
def Bj(d:X.N.C)(hi:X.N[i]?=y0 x)(c:lA X.j.j x)(e:X.fn x=k9\/X.j.j.j.j x=y0 .local:=by first|exact .inl rfl|exact .inr rfl|assumption):PG X (.j x pos)<|QT i:=by intro a s U H v u Q I r h;exact R8<|Xp I d hi c r (λf b=>⟨_,H,b,h⟩) e
def Fu:mB:=λvs U H Q=>vs=[]/\Q U H
def D2(t:TG)(u:mB):mB:=λvs U H Q=>∃v r,vs=v::r/\t v U H λa H'=>u r a H' Q
def Nb:kM X [] Fu:=by intro a s U H b c Q I r h;obtain⟨e,h⟩:=h;subst e;cases r;exact assignInOrder_nil ⟨U,H,I,h⟩
def Nv(h1:PG X e t)(h2:kM X es u)
 (g:(assignEach (e::es) X.j).u (·.2)=assign e X.j::(assignEach es X.j).u (·.2):=by rfl):kM X (e::es)<|D2 t u:=by
 intro a s U H m l Q I r h;obtain⟨v,n,i,h⟩:=h;subst i;cases r with
|cons r f=>rw[g];refine assignInOrder_cons<|aJ (h1 a s U H _ _ _ I r h) ?_;rintro _ c ⟨d,k,b,j⟩;exact h2 a c d k _ _ Q b f j
def vZ(K:Aa5)(n:Nat)(t:mB):TG:=λv U H Q=>∃a xs,v=.j a/\cC K H a xs/\xs.e=n/\t xs U H Q
def CS(z:X.calm=k9)(h:kM X es t)
 (w:(assignEach es X.j).e=n:=by rfl)(f:(assignEach es X.j).findIdx? (·.1)=none:=by rfl):PG X (.G es k pos)<|vZ X.K n t:=by
 intro c s U H v u Q I r d;obtain⟨a,m,x,q,i,d⟩:=d;subst x;cases r;obtain⟨p,rv,g,A⟩:=I.tuple q;refine assign_Tuple_tuple (I.j.hd z) g (by simp[w,←i,rv.e]) f λy l=>?_;have j:Inv X c U H {s with heap:=y}:=I.kept λb o e=>l b o (Ab7<|Ab3 e) e;exact h c _ U H m _ Q j (by simp_all) d
def CK(b a:TE)(t:ub):TG:=λv U H Q=>b U H λo H1=>a U H1 λi H2=>t o i v H2 λc=>Q U c
def yk(z:PE X o to)(hi:PE X i ti)(k:Ay X t)
 (n:∀v,assign (.w o i pos) X.j v=(do
   let L←holding [v]<|eval o X.j;let M←holding [v,L]<|eval i X.j
   standAt pos
   holding [v,L,M]<|setItem L M v
   release [v,L,M] []):=by intro _;rfl):PG X (.w o i pos)<|CK to ti t:=by
 intro a s U H v u Q I r h;rw[n];refine AC<|Ol<|aJ (z a s U H _ I h) ?_;rintro L e ⟨x,A,d,f,q⟩;refine AC<|Ol<|aJ (hi a e U A _ d q) ?_;rintro M m ⟨y,w,b,c,l⟩;refine AC<|OC<|AC<|Ol<|aJ (k a m U w x y v L M u _ b f c r l) ?_;rintro _ B ⟨j,p,g⟩;exact wpAny_release ⟨U,j,p,g⟩
def iZ(a:TE)(g:TG):TS:=λD U H=>a U H λx H1=>g x U H1 D.nx
def oI(l:PE X e te)(d:PG X tg g)(j:swapsWithSole [tg] e pos.j X.j=pure false:=by rfl)(b:swappedStores [tg] e X.j=pure none:=by rfl)
 (h1:(assignEach [tg] X.j).u (·.2)=[assign tg X.j]:=by rfl):PS X (.j [tg] e pos)<|iZ te g:=by
 intro a s U H D I h;refine wpAny_Assign_stores (aJ (l a s U H _ I h) ?_) j b;rintro v f⟨x,m,c,i,k⟩;rw[h1];exact aJ (d a f U m x v _ c i k) λ_ n q=>q
def DR(c:X.N.C)(hi:X.N[i]?=y0 x)(f:lA X.j.j x)(l:PE X e te)(j:swapsWith e (y0<|.j x pos') pos.j X.j=pure false:=by rfl)(n:X.fn x=k9\/X.j.j.j.j x=y0 .local:=by first|exact .inl rfl|exact .inr rfl|assumption):
 PS X (.j [.j x pos'] e pos)<|iZ te<|QT i:=by
 intro a s U H D I h;refine Pq (aJ (l a s U H _ I h) ?_) j;rintro v o⟨y,m,d,g,k⟩;exact Xp d c hi f g (λp b=>⟨_,m,b,k⟩) n
end
section
variable{X:Cx}{pos:Pos}
def EK(c:TT)(e:TS):TS:=λD U H=>∃W:Nat->St->Hp->Prop,(∃m,W m U H)/\∀m U H,W m U H→
 c U H λb H1=>if b=k9 then∃N:St->Hp->Prop,(∀a H',N a H'->∃d,d<m/\W d a H')/\e {D with nx:=N,ct:=N,bk:=D.nx} U H1 else D.nx U H1
def Fq(w:PassesOwn (model X.p X.w) X.A X.j X.C)(G:PT X c tc)(J:cV X body tb):PS X (.While c body [] pos)<|EK tc tb:=by
 intro a s U H D I h;obtain⟨W,⟨K,E⟩,e⟩:=h;refine wpAny_While<|codeAny_whileLoop (λn L=>∃r z,Inv X a r z L/\W n r z) ?_ K ⟨U,H,I,E⟩;rintro n C ⟨i,y,A,B⟩;refine OI w<|aJ (G a C i y _ A<|e n i y B) ?_;rintro b F ⟨x,t,k⟩;cases b with
|true=>
  obtain⟨N,u,k⟩:=k;refine OI w<|aJ (J a F i x _ t k) λf M j=>?_;cases f with
 |next=>obtain⟨g,d,p,o⟩:=j;obtain⟨m,l,q⟩:=u g d o;exact⟨m,l,g,d,p,q⟩
 |cont=>obtain⟨g,d,p,o⟩:=j;obtain⟨m,l,q⟩:=u g d o;exact⟨m,l,g,d,p,q⟩
 |brk=>exact j
 |ret v=>exact j
|false=>exact OH ⟨i,x,t,k⟩
end
structure It where
 go:Nat->Hp->Prop
 fM:Nat->Hp->V->Hp->Prop
 stop:Nat->Hp->Prop
def fK(X:Cx)(a:List<|Addr×Obj)(H:Hp)(b:Addr):Prop:=
 H b=u0/\b≠X.j.p/\b∉X.fs/\(b∈X.ex\/X.s₀.j.j.j<=b)/\(∀x c,X.j.u.j x=y0 c->c≠b)/\∀p∈X.pn++a,p.1≠b
def Inv.dj (I:Inv X u7 U H s)(a:s.j.j.j<=b)(f:H' b=u0):fK X u7 H' b:=by
 refine⟨f,Am3<|Ab5 I.lt a,I.rT a,.u<|Ac0 I.sz a,λx c e z=>?_,λp d z=>?_⟩
 .obtain⟨v,q⟩:=I.y x c e;exact absurd (Ab5 q.lt<|by simp_all)<|Ag _
 .exact absurd (Ab5 (Ab3 (I.N p d).1)<|by simp_all)<|Ag _
structure iG(P:Program)(w:World)(K:Aa5)(tg:Expr)(J:It)(fp:List Addr)(it:Addr)(tn:Nat->Heap->Prop):Prop where
 mem:it∈fp
 obj:∀i h,tn i h->∀b∈fp,∃o,h.p b=y0 o/\∀v,o.j≠.cell v
 keep:∀i h h',tn i h->(∀b∈fp,∀o,h.p b=y0 o->h'.p b=y0 o)->tn i h'
 item:∀(X:Cx),X.p=P->X.w=w->X.K=K->X.calm=k9->∀(i:Nat)(u7:List<|Addr×Obj)(s:Shared)(U:St)(H:Hp)(E:Value->Shared->Prop),Inv X u7 U H s->(∀b∈fp,fK X u7 H b)->tn i s.j->J.go i H→
  wpAny (model P w) X.A (pyNext<|.j it) (λr s1=>∃u,r=y0 u∧
   wpAny (model P w) X.A (letOwnedTupleGo tg (.j it) u) (λ_ s2=>∃x H',Inv X u7 U H' s2/\RelV x u/\J.fM i H x H'/\tn (i+1) s2.j/\∀b∈fp,H' b=u0) E s1) E s
 done:∀(X:Cx),X.p=P->X.w=w->X.K=K->X.calm=k9->∀(i:Nat)(u7:List<|Addr×Obj)(s:Shared)(U:St)(H:Hp)(E:Value->Shared->Prop),Inv X u7 U H s->(∀b∈fp,fK X u7 H b)->tn i s.j->J.stop i H→
  wpAny (model P w) X.A (pyNext<|.j it) (λr s1=>r=u0/\Inv X u7 U H s1) E s
 self:∀(A:Around)(i:Nat)(s:Shared)(Q:Value->Shared->Prop)(E:Value->Shared->Prop),tn i s.j->Q (.j it) s->wpAny (model P w) A (pyIter<|.j it) Q E s
abbrev TI:=St->Hp->(It->Hp->Prop)->Prop
def Be(X:Cx)(a:List<|Addr×Obj)(U:St)(tg:Expr)(R:It->Hp->Prop)(c:Value)(d:Shared):Prop:=
 ∃(e:Addr)(fp:List Addr)(f:Nat->Heap->Prop)(J:It)(H':Hp),c=.j e/\Inv X a U H' d/\iG X.p X.w X.K tg J fp e f/\f 0 d.j/\(∀b∈fp,fK X a H' b)/\R J H'
def PI(X:Cx)(tg a:Expr)(b:TI):Prop:=
 ∀(u7:List<|Addr×Obj)(s:Shared)(U:St)(H:Hp)(R:It->Hp->Prop),Inv X u7 U H s->b U H R→
  wpAny (model X.p X.w) X.A (eval a X.j) (λv c=>wpAny (model X.p X.w) X.A (pyIter v) (Be X u7 U tg R) X.C c) X.C s
def lJ(d:s.j.p it=y0 o)(b:o.cls=.p n)(c:o.j=.p vs)
 (e:["enumerate","zip","dict_itemiterator","dict_reverseitemiterator","odict_iterator","itertools.zip_longest","itertools.pairwise"].p n=false)(a:Q () s):wpAny M A (letOwnedTupleGo tg (.j it) u) Q E s:=by
 cases tg<;>first
|exact FS a
|(cases u<;>first
|exact FS a
      | (refine AC<|wpAny_load d ?_
         rw[b,c];show wpAny M A (if _=k9 then _ else _) Q E s;rw[Fk YB];exact FS a))
noncomputable def mH(K:Aa5)(a:Addr):It:=
 ⟨λi H=>∃xs x,bu K H a xs/\xs[i]?=y0 x,λi H x H'=>H'=H/\∀xs,bu K H a xs->xs[i]?=y0 x,λi H=>∃xs,bu K H a xs/\xs.e<=i⟩
noncomputable def k4(K:Aa5)(a:Addr):It:=
 ⟨λi H=>∃xs x,cC K H a xs/\xs[i]?=y0 x,λi H x H'=>H'=H/\∀xs,cC K H a xs->xs[i]?=y0 x,λi H=>∃xs,cC K H a xs/\xs.e<=i⟩
noncomputable def mz(a:Int)(n:Nat):It:=⟨λi _=>i<n,λi H x H'=>H'=H/\x=.o (a+i),λi _=>n<=i⟩
def Fp{K:Aa5}(a it):iG P w K tg (mH K a) [it] it<|λi h=>h.IsListIter it a i where
 mem:=by simp
 obj:=λi h f b j=>by
  have e:=by simpa using j
  subst e;obtain⟨o,e,c,d⟩:=f;exact⟨o,e,λv z=>by rw[d]at z;cases z⟩
 keep:=λi h J f k=>f.at λo e=>k it YC o e
 item:=by intro X t y G M i g s U H E I n f A;subst t y G;obtain⟨S,x,m,B⟩:=A;obtain⟨C,rv,p,T⟩:=I.list m;obtain⟨u,Q,R⟩:=rv.get B;obtain⟨D,q,W,r,F,L⟩:=n it YC;refine wpAny_pyNext_list_item f p.I (by simpa using Q) λJ l O=>?_;have N:Inv X g U H {s with heap:=J}:=I.G (λb o j e=>(O.2 b j).x e) D q r F L;obtain⟨o,e,c,d⟩:=id l;exact⟨u,rfl,lJ e c d YA ⟨x,H,N,R,⟨rfl,λys Y=>by rw[I.dt Y m];exact B⟩,l,λb j=>(n b j).1⟩⟩
 done:=by intro X t y G M i g s U H E I n f A;subst t y G;obtain⟨S,m,B⟩:=A;obtain⟨C,rv,p,T⟩:=I.list m;obtain⟨D,q,W,r,F,L⟩:=n it YC;have Z:=rv.e;exact wpAny_pyNext_list_end (I.j.hd M) f p.I (by simp;lia) λJ V=>⟨rfl,I.G (λb o j e=>V b o j e) D q r F L⟩
 self:=λ_ _ _ _ _ f h=>wpAny_pyIter_listiter f h
def HY{K:Aa5}(a it):iG P w K tg (k4 K a) [it] it<|λi h=>h.IsTupleIter it a i where
 mem:=by simp
 obj:=λi h f b j=>by
  have e:=by simpa using j
  subst e;obtain⟨o,e,c,d⟩:=f;exact⟨o,e,λv z=>by rw[d]at z;cases z⟩
 keep:=λi h J f k=>f.at λo e=>k it YC o e
 item:=by intro X t y G M i g s U H E I n f A;subst t y G;obtain⟨S,x,m,B⟩:=A;obtain⟨C,rv,p,T⟩:=I.tuple m;obtain⟨u,Q,R⟩:=rv.get B;obtain⟨D,q,W,r,F,L⟩:=n it YC;refine wpAny_pyNext_tuple_item f (p) (by simpa using Q) λJ l O=>?_;have N:Inv X g U H {s with heap:=J}:=I.G (λb o j e=>(O.2 b j).x e) D q r F L;obtain⟨o,e,c,d⟩:=id l;exact⟨u,rfl,lJ e c d YA ⟨x,H,N,R,⟨rfl,λys Y=>by rw[I.fA Y m];exact B⟩,l,λb j=>(n b j).1⟩⟩
 done:=by intro X t y G M i g s U H E I n f A;subst t y G;obtain⟨S,m,B⟩:=A;obtain⟨C,rv,p,T⟩:=I.tuple m;obtain⟨D,q,W,r,F,L⟩:=n it YC;have Z:=rv.e;exact wpAny_pyNext_tuple_end (I.j.hd M) f (p) (by simp;lia) λJ V=>⟨rfl,I.G (λb o j e=>V b o j e) D q r F L⟩
 self:=λ_ _ _ _ _ f h=>wpAny_pyIter_tupleiter f h
def BW{K:Aa5}(it)(lo)(n):iG P w K tg (mz lo n) [it] it<|λi h=>IsRangeIter h it (lo+(i:Nat)*1) ((n:Int)-(i:Nat)) 1 where
 mem:=by simp
 obj:=λi h a b d=>by
  have e:=by simpa using d
  subst e;exact⟨_,a,λv z=>by have C:=z;cases C⟩
 keep:=λi h q a k=>k it YC _ a
 item:=by intro X y A B r i c s U H E I g a m;subst y A B;obtain⟨x,j,L,l,p,u⟩:=g it YC;have W:=Walks.range (prog:=X.p) (w:=X.w) (I.j.hd r) it lo 1 n;refine W.item i s _ _ m a λv q tk D f G=>?_;obtain⟨t,rfl⟩:=D;have F:Inv X c U H {s with heap:=q,toks:=tk}:=I.G (λb o d e=>G b o (by simpa using d) e) x j l p u;refine⟨_,rfl,lJ f rfl rfl YA ⟨.o<|lo+i,H,F,⟨t,?_⟩,⟨rfl,rfl⟩,f,λb d=>(g b d).1⟩⟩;rw[Int.mul_one]
 done:=by intro X y A B r i c s U H E I g a m;obtain⟨x,j,L,l,p,u⟩:=g it YC;exact wpAny_pyNext_range_end (I.j.hd r) a (by have:n<=i:=m;lia) λq J=>⟨rfl,I.G (λb o d e=>J b o d e) x j l p u⟩
 self:=λ_ _ _ _ _ a h=>wpAny_pyIter_rangeiter a h
section
variable{X:Cx}{tg:Expr}
def yo{a hi:Int}(I:Inv X u7 U H s)(h1:-(2^62)<=a)(h2:a<2^62)(g:-(2^62)<=hi)(f:hi<2^62)
 (q:R (mz a (hi-a).j) H):wpAny (model X.p X.w) X.A (pyIter<|.j s.j.j.j) (Be X u7 U tg R) E {s with heap:=s.j.u {cls:=.p "range",data:=.p #[.o a t,.o hi u,.o 1 v]},toks:=tk}:=by
 refine wpAny_pyIter_range (IsRange.new ..) (small_one h1 h2 g f) ?_;have c:Inv X u7 U H {s with heap:=s.j.u {cls:=.p "range",data:=.p #[.o a t,.o hi u,.o 1 v]},toks:=tk}:=I.kept fun b o e=>Aa3 _ e;refine⟨(s.j.u {cls:=.p "range",data:=.p #[.o a t,.o hi u,.o 1 v]}).j.j,[(s.j.u {cls:=.p "range",data:=.p #[.o a t,.o hi u,.o 1 v]}).j.j],_,_,H,rfl,
  c.kept λb o e=>Aa3 _ e,BW _ a (hi-a).j,?_,λb d=>?_,q⟩
 .have i:a+(0:Nat)*1=a:=by simp
  have h:(hi-a).j-(0:Nat)=Builtin.Range.rangeSize a hi 1:=by rw[rangeSize_one];split<;>lia
  rw[i,h];exact Ab6 _ rfl
 .have e:b=(s.j.u {cls:=.p "range",data:=.p #[.o a t,.o hi u,.o 1 v]}).j.j:=by simpa using d
  subst e;exact c.dj (Aa4 _)<|c.J.fresh<|Aa4 _
def M7(a:TA):TI:=λU H R=>a U H λvs H1=>∃j:Int,vs=[.o j]/\-(2^62)<=j/\j<2^62/\R (mz 0 j.j) H1
def MU(a:TA):TI:=λU H R=>a U H λvs H1=>∃i j:Int,vs=[.o i,.o j]/\(-(2^62)<=i/\i<2^62/\-(2^62)<=j/\j<2^62)/\R (mz i (j-i).j) H1
def Hj(f:Gl X "range")(k:X.J "range"=none)(n:PA X [a] ta)(l:starEach [a] X.j=[(false,eval a X.j)]:=by rfl):PI X tg (.u (.j "range" p) [a] [] pos)<|M7 ta:=by
 intro b s U H R I h;refine Call_<|Xw I f k boot_range<|Os (aJ (n pos b s U H _ I h) ?_) l rfl;rintro o u⟨v,w,d,g,c⟩;obtain⟨j,e,c,m,q⟩:=c;subst e;cases g with
|cons r i=>cases i;obtain⟨t,rfl⟩:=r;exact call_range_1<|yo d YA YA c m<|by simp_all
def IW(l:Gl X "range")(v:X.J "range"=none)(y:PA X [a,b] ta)(w:starEach [a,b] X.j=[(false,eval a X.j),(false,eval b X.j)]:=by rfl)(c:starEach [b] X.j=[(false,eval b X.j)]:=by rfl):
 PI X tg (.u (.j "range" p) [a,b] [] pos)<|MU ta:=by
 intro d s U H R I h;refine Call_<|Xw I l v boot_range<|Os (aJ (y pos d s U H _ I h) λz A ⟨B,D,k,n,g⟩=>?_) (by rw[w,c]) (by rw[c];rfl);obtain⟨i,j,e,⟨g,x,u,o⟩,q⟩:=g;subst e;cases n with
|cons r f=>
  cases f with
|cons m f=>cases f;obtain⟨t,rfl⟩:=r;obtain⟨C,rfl⟩:=m;exact call_range_2<|yo k g x u o q
def EU(d:TI)(g:TG)(e:TS):TS:=λD U H=>d U H λJ H1=>∃W:Nat->Nat->St->Hp->Prop,(∃m,W 0 m U H1)/\∀i m U H,W i m U H→
 (J.stop i H/\D.nx U H)\/(J.go i H/\∃N:St->Hp->Prop,(∀a H',N a H'->∃b,b<m/\W (i+1) b a H')/\∀x H',J.fM i H x H'->g x U H' λc H2=>e {D with nx:=N,ct:=N,bk:=D.nx} c H2)
noncomputable def wM(a:List Addr)(h:Heap):List<|Addr×Obj:=a.Y λb=>(h.p b).u λo=>(b,o)
def zj(a:b∈fp)(e:h.p b=y0 o):(b,o)∈wM fp h:=Ai9.p ⟨b,a,by rw[e];rfl⟩
def JS(a:p∈wM fp h):p.1∈fp/\h.p p.1=y0 p.2:=by
 obtain⟨b,c,e⟩:=Ai9.j a;cases q:h.p b with
|none=>rw[q]at e;cases e
|some o=>rw[q]at e;have d:=Af5.inj e;subst d;exact⟨c,q⟩
def Inv.pinned (I:Inv X u7 U H s)(h:∀b∈fp,fK X u7 H b)(k:∀b∈fp,∃o,s.j.p b=y0 o/\∀v,o.j≠.cell v):Inv X (u7++wM fp s.j) U H s:=
 I.bP λp g=>(Ab4.j g).j (λz=>I.N p<|Aa8 _ z) λz=>by obtain⟨a,e⟩:=JS z;obtain⟨i,f,j,_⟩:=h p.1 a;obtain⟨o,c,d⟩:=k p.1 a;rw[e]at c;cases c;exact⟨e,i,f,j,d⟩
def Inv.bX (I:Inv X (u7++pl) U H s):Inv X u7 U H s:=I.bP λp a=>I.N p<|Aa8 _<|Ad4 _ a
def El(F:PassesOwn (model X.p X.w) X.A X.j X.C)(hc:X.calm=k9)(hi:PI X tg iter wi)(hg:PG X tg g)(l:cV X body tb)
 (hs:∀x,foldedSetIterable iter X.j x=pure x:=by intro _;rfl):PS X (.For tg iter body [] pos)<|EU wi g tb:=by
 intro a s U H D I h;refine wpAny_For (aJ (hi a s U H _ I h) λv s1 h1=>aJ h1 λitv s2 h2=>?_) hs;obtain⟨it,K,tn,J,H2,e,I2,T,R,Y,W,⟨m0,w0⟩,B⟩:=h2;subst e;have c:∀{t},(∀b∈K,t b=u0)->∀b∈K,fK X a t b:=λhn b l=>⟨hn b l,(Y b l).2⟩;refine codeAny_forLoop_any (λn s'=>∃i A t,Inv X a A t s'/\tn i s'.j/\(∀b∈K,t b=u0)/\W i n A t) ?_ m0 ⟨0,U,H2,I2,R,λb l=>(Y b l).1,w0⟩;rintro n S ⟨i,z,L,V,E,C,w3⟩;obtain⟨stop,qn⟩|⟨go,N,hN,step⟩:=B i n z L w3
 .refine OI F<|aJ (T.done X rfl rfl rfl hc i a S z L X.C V (c C) E stop) ?_;rintro r s4 ⟨M,I4⟩;subst M;exact OH ⟨z,L,I4,qn⟩
 .refine OI F<|aJ (T.item X rfl rfl rfl hc i a S z L X.C V (c C) E go) ?_;rintro r s4 ⟨u,M,h4⟩;subst M;refine OI F<|aJ h4 ?_;rintro _ s5 ⟨x,Z,I5,r5,y5,y,Q⟩;have P:=I5.pinned (c Q)<|T.obj _ _ y;refine OI F<|aJ (hg _ s5 z Z x u _ P r5<|step x Z y5) ?_;rintro _ s6 ⟨U6,H6,I6,q6⟩;refine OI F<|aJ (l _ s6 U6 H6 _ I6 q6) λf O w=>?_;have j:∀{k}{p},Inv X _ k p O->N k p->∃m,m<n/\∃i A t,Inv X a A t O/\tn i O.j/\(∀b∈K,t b=u0)/\W i m A t:=λ{k p} q G=>by obtain⟨m',hm,w7⟩:=hN k p G;refine⟨m',hm,i+1,k,p,q.bX,T.keep _ _ _ y λb l o e=>(q.N _<|Aa8 _<|Aa8 _<|zj l e).1,λb l=>?_,w7⟩;obtain⟨o,e,d⟩:=T.obj _ _ y b l;exact(q.N _<|Aa8 _<|Aa8 _<|zj l e).2.1
  cases f with
|next=>obtain⟨k,p,q,G⟩:=w;exact j q G
|cont=>obtain⟨k,p,q,G⟩:=w;exact j q G
|brk=>obtain⟨k,p,q,w⟩:=w;exact⟨k,p,q.bX,w⟩
|ret v=>obtain⟨x7,k,p,q,r7,w⟩:=w;exact⟨x7,k,p,q.bX,r7,w⟩
end
abbrev R2:=V->V->Hp->VK->Prop
def b7(X:Cx)(f:Value->Value->Sem Value)(r:R2):Prop:=
 ∀(u7:List<|Addr×Obj)(s:Shared)(U:St)(H:Hp)(x y:V)(v u:Value)(Q:VK),Inv X u7 U H s->RelV x v->RelV y u->r x y H Q→
  wpAny (model X.p X.w) X.A (f v u) (EP X u7 U Q) X.C s
def p9(X:Cx)(f:Value->Sem Value)(r:V->Hp->VK->Prop):Prop:=
 ∀(u7:List<|Addr×Obj)(s:Shared)(U:St)(H:Hp)(x:V)(v:Value)(Q:VK),Inv X u7 U H s->RelV x v->r x H Q→
  wpAny (model X.p X.w) X.A (f v) (EP X u7 U Q) X.C s
def Xr(X:Cx)(f:Value)(r:List V->Hp->VK->Prop):Prop:=
 ∀(u7:List<|Addr×Obj)(s:Shared)(U:St)(H:Hp)(xs:List V)(us:List Value)(Q:VK),Inv X u7 U H s->Vals xs us->r xs H Q→
  wpAny (model X.p X.w) X.A (call f us) (EP X u7 U Q) X.C s
def Bu(X:Cx)(r:V->Hp->(Bool->Hp->Prop)->Prop):Prop:=
 ∀(u7:List<|Addr×Obj)(s:Shared)(U:St)(H:Hp)(x:V)(v:Value)(Q:Bool->Hp->Prop),Inv X u7 U H s->RelV x v->r x H Q→
  wpAny (model X.p X.w) X.A (truthy v) (TP X u7 U Q) X.C s
def mP(r:R2)(a b:TE):TE:=λU H Q=>a U H λx H1=>b U H1 λy H2=>r x y H2 Q
def EI(r:V->Hp->VK->Prop)(a:TE):TE:=λU H Q=>a U H λx H1=>r x H1 Q
def rI(C:Int->Int->Prop)(g:Int->Int->V):R2:=λx y H Q=>∃i j,x=.o i/\y=.o j/\C i j/\Q (g i j) H
def iR(g:Int->Int->V):R2:=λx y H Q=>∃i j,x=.o i/\y=.o j/\Q (g i j) H
def rU(g:Int->V):V->Hp->VK->Prop:=λx H Q=>∃i,x=.o i/\Q (g i) H
section
variable{X:Cx}{a b c:Expr}{ta tb tc:TE}{pos:Pos}
def ot(k:PE X a ta)(m:PE X b tb){R:V->V->Hp->Prop}(I:Inv X u7 U H s)
 (h:ta U H λx H1=>tb U H1 λy H2=>R x y H2){f:Value->Value->Sem Value}
 (n:∀v u O x y H2,Inv X u7 U H2 O->RelV x v->RelV y u->R x y H2->wpAny (model X.p X.w) X.A (f v u) Q X.C O):
 wpAny (model X.p X.w) X.A (eval a X.j) (λv M=>wpAny (model X.p X.w) X.A (eval b X.j) (λu L=>wpAny (model X.p X.w) X.A (f v u) Q X.C L) X.C M) X.C s:=by
 refine aJ (k u7 s U H _ I h) ?_;rintro v g ⟨x,H1,e,i,l⟩;refine aJ (m u7 g U H1 _ e l) ?_;rintro u O ⟨y,H2,c,d,j⟩;exact n v u O x y H2 c i d j
def DX(k:b7 X (binaryOp op) r)(g:PE X a ta)(l:PE X b tb):PE X (.BinOp a op b pos)<|mP r ta tb:=by intro c s U H Q I h;exact wpAny_BinOp<|ot g l I h λv u f x y i d j e q=>k c f U i x y v u Q d j e q
def yp(j:p9 X (unaryOp op) r)(d:PE X a ta):PE X (.J op a pos)<|EI r ta:=by intro b s U H Q I h;exact UnaryOp_<|aJ (d b s U H _ I h)<|by rintro v i⟨x,e,f,c,g⟩;exact j b i U e x v Q f c g
def mZ{g:Int->Int->Int}
 (a:∀i j t u s Q E,C i j->Q (.o (g i j) s.p) {s with toks:=s.p+1}->wpAny (model X.p X.w) X.A (f (.o i t)<|.o j u) Q E s):
 b7 X f<|rI C λi j=>.o<|g i j:=by
 intro b s U H x y v u Q I e d h;obtain⟨i,j,rfl,rfl,k,q⟩:=h;obtain⟨t,rfl⟩:=e;obtain⟨c,rfl⟩:=d;exact a i j t c s _ _ k ⟨.o _,H,I.tok _,⟨_,rfl⟩,q⟩
def uj{g:Int->Int->Int}
 (a:∀i j t u s Q E,Q (.o (g i j) s.p) {s with toks:=s.p+1}->wpAny (model X.p X.w) X.A (f (.o i t)<|.o j u) Q E s):
 b7 X f<|iR λi j=>.o<|g i j:=by
 intro b s U H x y v u Q I e d h;obtain⟨i,j,rfl,rfl,q⟩:=h;obtain⟨t,rfl⟩:=e;obtain⟨c,rfl⟩:=d;exact a i j t c s _ _ ⟨.o _,H,I.tok _,⟨_,rfl⟩,q⟩
def nF{g:Int->Int->Bool}
 (a:∀i j t u s Q E,Q (.y<|g i j) s->wpAny (model X.p X.w) X.A (f (.o i t)<|.o j u) Q E s):
 b7 X f<|iR λi j=>.C<|g i j:=by
 intro b s U H x y v u Q I e d h;obtain⟨i,j,rfl,rfl,q⟩:=h;obtain⟨t,rfl⟩:=e;obtain⟨c,rfl⟩:=d;exact a i j t c s _ _ ⟨.C _,H,I,rfl,q⟩
def Ls(i j:Int):Prop:=0<j/\j<1073741824
def Fh(i j:Int):Prop:=0<=j/\j<=1000000/\i.p<2^64
def kz(i j:Int):Prop:=(-(2^64)<i/\i<2^64)\/(-(2^64)<j/\j<2^64)
def kz.ok (h:kz i j):IntMulOk i j:=by
 obtain⟨b,a⟩|⟨b,a⟩:=h
 .exact .of_left<|intBits_le_64 b a
 .exact .of_right<|intBits_le_64 b a
def CH:b7 X (binaryOp .Add)<|iR λi j=>.o<|i+j:=uj λ_ _ _ _ _ _ _ q=>add_int q
def DZ:b7 X (binaryOp .Sub)<|iR λi j=>.o<|i-j:=uj λ_ _ _ _ _ _ _ q=>sub_int q
def MR:b7 X (binaryOp .Mult)<|rI kz λi j=>.o<|i*j:=mZ λ_ _ _ _ _ _ _ a q=>mul_int q a.ok
def Bl:b7 X (binaryOp .FloorDiv)<|rI Ls λi j=>.o<|i/j:=mZ λi j _ _ _ _ _ a q=>by have b:=a.1;have c:=a.2;exact floordiv_int YB (by rw[Int.fdiv_eq_ediv_of_nonneg i YB];exact q)<|.p<|PyProof.noPylong_small YB
def K7:b7 X (binaryOp .Mod)<|rI (λ_ j=>0<j) λi j=>.o<|i%j:=mZ λi j _ _ _ _ _ a q=>by have b:=a;exact mod_int' YB<|by rw[Int.fmod_eq_emod_of_nonneg i YB];exact q
def C8:b7 X (binaryOp .Pow)<|rI Fh λi j=>.o<|i^j.j:=mZ λ_ _ _ _ _ _ _ a q=>pow_int_small a.1 a.2.1 a.2.2 q
def Mz{g:Int->Int}
 (a:∀i t s Q E,Q (.o (g i) s.p) {s with toks:=s.p+1}->wpAny (model X.p X.w) X.A (f<|.o i t) Q E s):
 p9 X f<|rU λi=>.o<|g i:=by
 intro b s U H x v Q I c h;obtain⟨i,rfl,q⟩:=h;obtain⟨t,rfl⟩:=c;exact a i t s _ _ ⟨.o _,H,I.tok _,⟨_,rfl⟩,q⟩
def AZ:p9 X (unaryOp .USub)<|rU λi=>.o<|-i:=Mz λ_ _ _ _ _ q=>neg_int q
end
section
variable{X:Cx}{a b c:Expr}{ta tb tc:TE}{pos:Pos}
def QH(I:Inv X u7 U H s)(q:Q (.C k) H)(e:k=k'):EP X u7 U Q (.y k') s:=by subst e;exact⟨.C k,H,I,rfl,q⟩
def IC:b7 X (compareOp .Lt)<|iR λi j=>.C<|k8<|i<j:=nF λ_ _ _ _ _ _ _ q=>lt_int q
def IZ:b7 X (compareOp .LtE)<|iR λi j=>.C<|k8<|i<=j:=nF λ_ _ _ _ _ _ _ q=>le_int q
def NP:b7 X (compareOp .Gt)<|iR λi j=>.C<|k8<|j<i:=nF λ_ _ _ _ _ _ _ q=>gt_int q
def HA:b7 X (compareOp .GtE)<|iR λi j=>.C<|k8<|j<=i:=nF λ_ _ _ _ _ _ _ q=>ge_int q
def Eo:b7 X (compareOp .Lt)<|λx y H Q=>∃i j,x=.m i/\y=.m j/\Q (.C<|k8<|i.j.p<j.j.p) H:=by intro a s U H x y v u Q I c b h;obtain⟨i,j,rfl,rfl,q⟩:=h;obtain⟨t,rfl⟩:=c;obtain⟨d,rfl⟩:=b;exact lt_str<|QH I q rfl
def BX:b7 X (compareOp .In)<|λx y H Q=>∃i j,x=.m i/\y=.m j/\Q (.C<|!(Builtin.Str.occurrences j i 0 j.e 1).y) H:=by intro a s U H x y v u Q I c b h;obtain⟨i,j,rfl,rfl,q⟩:=h;obtain⟨t,rfl⟩:=c;obtain⟨d,rfl⟩:=b;exact in_str<|QH I q rfl
def ER(l:b7 X (compareOp op) r)(i:PE X a ta)(m:PE X b tb)(e:behindInMarks op b=u9):PE X (.C a [op] [b] pos)<|mP r ta tb:=by intro c s U H Q I h;exact wpAny_Compare1 (ot i m I h λv u g x y j d k f q=>l c g U j x y v u Q d k f q) e
def AE(t:TE):TT:=λU H Q=>t U H λx H'=>∃k,x=.C k/\Q k H'
def Dr(D:b7 X (compareOp op) r)(w:PE X a ta)(E:PE X b tb)(n:behindInMarks op b=u9):PT X (.C a [op] [b] pos)<|AE<|mP r ta tb:=by intro d s U H Q I h;refine Rj (aJ (w d s U H _ I h) ?_) n;rintro v j⟨x,F,i,l,B⟩;refine aJ (E d j U F _ i B) ?_;rintro u t⟨y,C,f,g,q⟩;refine aJ (D d t U C x y v u _ f l g q) ?_;rintro c G⟨z,p,A,o,k,e,m⟩;subst e;cases o;exact OA ⟨p,A,m⟩
def rj(r c:R2)(e g b:TE):TE:=λU H Q=>e U H λx H1=>g U H1 λy H2=>r x y H2 λz a=>∃k,z=.C k∧
 (if k=k9 then b U a λf d=>c y f d Q else Q (.C u9) a)
def Fz(N:b7 X (compareOp op) r)(g:b7 X (compareOp op') r')(J:PE X a ta)(P:PE X b tb)(O:PE X c tc)
 (B:lastMarks [op,op'] [b,c]=false:=by with_unfolding_all rfl):PE X (.C a [op,op'] [b,c] pos)<|rj r r' ta tb tc:=by
 intro f s U H Q I h;refine Compare_chain (aJ (J f s U H _ I h) ?_) B;rintro v q⟨x,R,p,w,L⟩;refine chain_link<|aJ (P f q U R _ p L) ?_;rintro u F⟨y,M,n,i,E⟩;refine aJ (N f F U M x y v u _ n w i E) ?_;rintro d K⟨z,l,m,C,k,e,j⟩;subst e;cases C;refine OA ?_;cases k with
|false=>exact ite_ff ⟨.C u9,l,m,rfl,j⟩
|true=>exact ite_tt<|chain_last<|aJ (O f K U l _ m j)<|by rintro T D⟨o,G,t,S,A⟩;exact g f D U G y o u T Q t i S A
def NX(W:b7 X (compareOp op) r)(g:b7 X (compareOp op') r')(P:PE X a ta)(Z:PE X b tb)(Y:PE X c tc)
 (G:lastMarks [op,op'] [b,c]=false:=by with_unfolding_all rfl):PT X (.C a [op,op'] [b,c] pos)<|AE<|rj r r' ta tb tc:=by
 intro f s U H Q I h;refine isTrue_chain (aJ (P f s U H _ I h) ?_) G;rintro v w⟨x,H1,t,C,S⟩;refine test_link<|aJ (Z f w U H1 _ t S) ?_;rintro u N⟨y,T,o,i,L⟩;refine aJ (W f N U T x y v u _ o C i L) ?_;rintro d R⟨z,l,m,J,k,e,j⟩;subst e;cases J;refine OA ?_;cases k with
|false=>obtain⟨k',q,V⟩:=j;cases q;exact ite_ff ⟨l,m,V⟩
|true=>refine ite_tt<|test_last<|aJ (Y f R U l _ m j) ?_;rintro w' K⟨p,O,A,r4,F⟩;refine aJ (g f K U O y p u w' _ A i r4 F) ?_;rintro d' s5 ⟨z2,M,B,n,k2,D,E⟩;subst D;cases n;exact OA ⟨M,B,E⟩
def i9(K:Aa5)(x:V)(H:Hp)(k:Bool):Prop:=
 match x with
|.aj=>k=u9
|.C b=>k=b
|.o i=>k=(i !=0)
|.m y=>y.e<=sizeLine/\k=((y.e:Int) !=0)
|.kr y=>y.j<=sizeLine/\k=((y.j:Int) !=0)
|.j p=>(∃xs,bu K H p xs/\k=!xs.y)\/(∃xs,cC K H p xs/\k=!xs.y)\/∃kvs,H p=y0 (.dK kvs)/\k=!kvs.y
|_=>False
def IH(r:KV kvs vs):(!vs.y)=!kvs.y:=by cases r<;>rfl
def wL(r:Vals xs its):(!its.w.y)=!xs.y:=by cases r<;>simp
def qE:(sizeLine:Nat)<2^63:=by rw[OF];decide
def m2:Bu X<|λx H Q=>∃k,i9 X.K x H k/\Q k H:=by
 intro n s U H x v Q I d h;obtain⟨k,e,q⟩:=h;have A:=qE;have B:=OF;cases x with
|aj=>cases d;have a:=e;subst a;exact truthy_none ⟨H,I,q⟩
|bl b=>cases d;have a:=e;subst a;exact OA ⟨H,I,q⟩
|int i=>obtain⟨t,rfl⟩:=d;have a:=e;subst a;exact PySem.P.truthy_int ⟨H,I,q⟩
|str y=>obtain⟨t,rfl⟩:=d;obtain⟨z,a⟩:y.e<=sizeLine/\k=(_ !=0):=e;subst a;exact PySem.P.truthy_str YB ⟨H,I.tok _,q⟩
|kr y=>obtain⟨t,rfl⟩:=d;obtain⟨z,a⟩:y.j<=sizeLine/\k=(_ !=0):=e;subst a;exact PySem.W.truthy_bytes (YD) ⟨H,I.tok _,q⟩
|ref p=>
  cases d;have a:=e;rcases a with⟨w,f,a⟩|⟨w,f,a⟩|⟨g,f,a⟩
  .subst a;obtain⟨l,r,pl,o⟩:=I.list f;have c:=r.e;exact wpAny_truthy_list pl.I (by simp only[Ac];lia) ⟨H,I.tok _,by rw[wL r];exact q⟩
  .subst a;obtain⟨l,r,pl,o⟩:=I.tuple f;have c:=r.e;exact truthy_tuple pl (by simp only[Ac];lia) ⟨H,I.tok _,by rw[wL r];exact q⟩
  .subst a;obtain⟨o,u,j,r,m⟩:g.e<=sizeLine/\(p==sysModules)=u9/\∃j,KV g j/\s.j.DictOf _ p j:=I.J p _ f;have c:=Paired.length r;exact wpAny_truthy_dict u m YB ⟨H,I.tok _,by rw[IH r];exact q⟩
|_=>exact(e).j
def Lg(f:PE X a ta)(i:∀L,isTrue a X.j L=(do let v←L;standAt a.pos;holding [v]<|truthy v)):
 PT X a<|λU H Q=>ta U H λx H'=>∃k,i9 X.K x H' k/\Q k H':=by
 intro b s U H Q I h;exact isTrue_plain (aJ (f b s U H _ I h)<|by rintro v d⟨x,j,c,e,g⟩;exact m2 b d U j x v Q c e g)<|i _
def LX:b7 X (binaryOp .Add)<|λx y H Q=>∃i j,x=.m i/\y=.m j/\i.e+j.e<=sizeLine/\Q (.m<|i++j) H:=by intro a s U H x y v u Q I e d h;obtain⟨i,j,rfl,rfl,c,q⟩:=h;obtain⟨t,rfl⟩:=e;obtain⟨b,rfl⟩:=d;exact add_str (λb tk=>⟨.m _,H,I.tok _,⟨_,rfl⟩,q⟩) c
def jK(r:Vals [x] us):∃u,us=[u]/\RelV x u:=by
 cases r with
|cons a b=>cases b;exact⟨_,rfl,a⟩
def n9(r:Vals [x,y] us):∃u w',us=[u,w']/\RelV x u/\RelV y w':=by
 cases r with
|cons a b=>
  cases b with
|cons c d=>cases d;exact⟨_,_,rfl,a,c⟩
def XT:Xr X (.p "int")<|fun xs H Q=>(∃i,xs=[.o i]/\Q (.o i) H)\/∃k,xs=[.C k]/\Q (.o<|if k then 1 else 0) H:=by
 intro a s U H xs c Q I r h;obtain⟨i,rfl,q⟩|⟨k,rfl,q⟩:=h
 .obtain⟨u,rfl,t,rfl⟩:=jK r;exact call_int_int ⟨.o i,H,I,⟨_,rfl⟩,q⟩
 .obtain⟨u,rfl,b⟩:=jK r;cases b;exact call_int_bool ⟨.o _,H,I.tok _,⟨_,rfl⟩,q⟩
end
structure eJ(h:Heap)(x dx C:Addr)(mA:Str->Option Value):Prop where
 obj:h.p x=y0 (Ai4 C dx)
 ns:h.Ns1 dx mA
 ne:dx≠x
set_option tactic.hygienic true in
def XU{h:Heap}(n:h.Ns1 dx mA):∃L,h.p dx=y0 L/\∀name,Al9 name L=y0 (mA name):=by
 obtain⟨o,c,l,i,j,g,_,d⟩:=n;refine⟨o,i,λname=>?_⟩;have e:=d name;unfold nsFind findBy at e;rw[←Array.find?_toList]at e;unfold Al9;rw[j];dsimp only;split
 .rename_i y q;rw[q]at e;exact congrArg y0 e
 .rename_i q;rw[q]at e;have a:c.p.G (·.refKey)=false:=by rw[R9];intro y k;obtain⟨z,t,b⟩:=g y<|Array.mem_toList_iff.j k;simp[DictEntry.refKey,b]
  have f:¬c.p.G (·.refKey)=true:=by rw[a];exact Ab0
  rw[Fk f];exact congrArg y0 e
def eJ.look (I:eJ h x dx C mA):∃L,PySem.W.InstAt h x (Ai4 C dx) C (y0 L)/\∀name,Al9 name L=y0 (mA name):=
 let⟨L,b,a⟩:=XU I.ns
 ⟨L,⟨I.obj,rfl,rfl,b⟩,a⟩
section
variable{prog:Program}{w:World}{A:Around}{E:Value->Shared->Prop}{s:Shared}{K:Aa5}{x dx C f:Addr}{mA:Str->Option Value}{name:Str}{v:Value}
def LK(X:K.In s.j)(I:eJ s.j x dx C mA)(e:Al K C name=k9)(hh:PySem.W.hasDictIn K C=k9)
 (b:Aj0 K (.j C) name=y0 u0)(c:mA name=y0 v)(a:PySem.W.handedIn v=k9)(h:Q v {s with toks:=s.p+1}):
 wpAny (model prog w) A (getAttr (.j x) name expr) Q E s:=by
 obtain⟨f,J,d⟩:=I.look;exact PySem.W.get_value X J (Am2 e).1 (RH hh b rfl<|by rw[d,c]) a h
def Ff(X:K.In s.j)(I:eJ s.j x dx C mA)(a:Al K C name=k9)
 (c:Aj0 K (.j C) name=y0 (y0<|.j f))(d:PySem.W.isFn K (.j f)=k9)(e:mA name=u0)(h:Q (.j f,[.j x]) s):
 wpAny (model prog w) A (getMethod (.j x) name pl) Q E s:=by
 obtain⟨b,J,g⟩:=I.look;exact PySem.W.method_fn X J (Am2 a).1 (Am2 a).2 c (beq_iff_eq.j d) (by show(Al9 name b).u _=y0 u9;rw[g,e];rfl) h
def Eb(X:K.In s.j)(I:eJ s.j x dx C mA)
 (n:PySem.W.findIn K (.j C) "__setattr__"=some (some<|.u "object.__setattr__"))(k:PySem.W.plainOver K C=true)(i:PySem.W.takerIn K C name=some none)(hh:PySem.W.hasDictIn K C=true)
 (j:PySem.Within mA ns)(m:ns.e<=sizeLine)
 (h:∀h',eJ h' x dx C (λy=>if y=name then y0 v else mA y)->An6 dx s.j h'->Q () {s with heap:=h',toks:=s.p+2}):
 wpAny (model prog w) A (setAttr (.j x) name v) Q E s:=by
 obtain⟨t,J,r⟩:=I.look;refine Sa X J n<|PySem.W.osa_open X J k i λb=>?_;obtain⟨u,o,g⟩:=Sm hh;have l:=I.obj;refine AC<|FS<|AC<|AC<|wpAny_loadPart l<|AC<|PySem.W.Looks.here (RI X o) ?_;rw[g];refine FS<|AC<|FS<|AC ?_;refine wpAny_nsSet1 I.ns λh' c a=>?_;obtain⟨z,p,q,e,f,d⟩:=c.count<|PySem.Within.cons name v j;refine AC<|Sn e (by rw[f];exact So<|Ac0 d<|by simp_all) ?_;exact FS<|h _ ⟨(a.2 _<|Ne.symm I.ne).x I.obj,c,I.ne⟩ a
def FW(X:K.In s.j)(c:PySem.W.makesIn K C=k9)
 (hi:PySem.W.findIn K (.j C) "__init__"=some (some<|.j f))(b:PySem.W.typeIn K (.j f)=some (.p "function"))
 (h:codeAny (model prog w) (A.under<|.u "type.__call__" ⟨.j C::vs,kw⟩) (.call (.j f) ⟨.j (s.j.j.j+1)::vs,kw⟩) (PySem.W.InitBack (s.j.j.j+1) R)
   {s with heap:=(s.j.u Ah2).u<|Ai4 C s.j.j.j}):
 codeAny (model prog w) A (.call (.j C) ⟨vs,kw⟩) R s:=by
 obtain⟨hh,g,d,t,e⟩:=s;exact PySem.W.make_core (PySem.W.makes_of X c) (PySem.W.looks_findIn X hi) (λa=>PySem.W.bind_fn X a b) (.p rfl) h
end
noncomputable def bA(f:Str)(v:V):List (Str×V)->List (Str×V)
|[]=>[(f,v)]
|(g,x)::r=>if g=f then(g,v)::r else(g,x)::bA f v r
theorem wI(f g)(v):∀fs:List<|Str×V,(bA f v fs).j g=if g=f then y0 v else fs.j g
|[]=>by
  show Ag9 g [(f,v)]=_;by_cases h:g=f
  .have a:=beq_iff_eq.p h;simp only[Ag9,a,Da h]
  .have a:=beq_eq_false_iff_ne.p h;simp only[Ag9,a,Fk h]
|(k,x)::r=>by
  have c:=wI f g v r;rw[show bA f v ((k,x)::r)=(if k=f then(k,v)::r else(k,x)::bA f v r)from rfl];by_cases b:k=f
  .rw[Da b];by_cases h:g=k
   .have a:=beq_iff_eq.p h;simp only[Ag9,a,Da<|h.x b]
   .have a:=beq_eq_false_iff_ne.p h;simp only[Ag9,a,Fk<|λe:g=f=>h<|e.x b.j]
  .rw[Fk b];by_cases h:g=k
   .have a:=beq_iff_eq.p h;simp only[Ag9,a,Fk<|λe:g=f=>b<|h.j.x e]
   .have a:=beq_eq_false_iff_ne.p h;simp only[Ag9,a];exact c
theorem XH(f)(v):∀fs:List<|Str×V,f∈(bA f v fs).u (·.1)/\∀g,g∈fs.u (·.1)->g∈(bA f v fs).u (·.1)
|[]=>⟨by simp[bA],λg h=>by simp at h⟩
|(k,x)::r=>by
  obtain⟨i1,i2⟩:=XH f v r;rw[show bA f v ((k,x)::r)=(if k=f then(k,v)::r else(k,x)::bA f v r)from rfl];by_cases a:k=f
  .rw[Da a];subst a;exact⟨by simp,λg h=>by simpa using h⟩
  .rw[Fk a];refine⟨?_,λg h=>?_⟩
   .rw[Ac3];exact Aa0 _ i1
   .rw[Ac3]at h⊢;rcases Aa6.j h with e|e
    .exact Aa6.p<|.p e
    .exact Aa0 _<|i2 g e
theorem QI(f)(v):∀fs:List<|Str×V,(bA f v fs).e<=fs.e+1
|[]=>by simp[bA]
|(k,x)::r=>by
  have b:=QI f v r;rw[show bA f v ((k,x)::r)=(if k=f then(k,v)::r else(k,x)::bA f v r)from rfl];by_cases a:k=f
  .rw[Da a,Ab1,Ab1];exact Ac9 _
  .rw[Fk a,Ab1,Ab1];exact Oo ‹_›
def cG.some_of (r:cG (y0 v) o):∃u,o=y0 u/\RelV v u:=by
 cases o with
|none=>exact(r).j
|some u=>exact⟨u,rfl,r⟩
def cG.none_of (r:cG u0 o):o=none:=by
 cases o with
|none=>rfl
|some u=>exact(r).j
def zY(r:RelV v u):PySem.W.handedIn u=true:=by
 cases v with
|aj=>cases(r);rfl
|bl b=>cases(r);rfl
|int i=>obtain⟨t,e⟩:=(r);cases e;rfl
|str x=>obtain⟨t,e⟩:=(r);cases e;rfl
|kr b=>obtain⟨t,e⟩:=(r);cases e;rfl
|iJ b=>obtain⟨t,e⟩:=(r);cases e;rfl
|ref a=>cases(r);rfl
|ty n=>cases(r);rfl
section
variable{P:Program}{w:World}{H H':Hp}{h h':Heap}{a C dx:Addr}{fs fs':List<|Str×V}
def zQ(b:cZ P w H h)(e:H a=y0 (.w C dx fs)):∃mA,eJ h a dx C mA/\(∀f,cG (fs.j f)<|mA f)/\PySem.Within mA (fs.u (·.1))/\fs.e<=1000/\H dx=y0 (.j a):=by obtain⟨d,z,ne,c,mA,n,r,q⟩:=(show aO P w H h a (.w C dx fs)from b a _ e);exact⟨mA,⟨c,n,ne⟩,r,q,z,d⟩
end
structure de(K:Aa5)(C:Addr):Prop where
 pg:Al K C Str.empty=k9
 hd:PySem.W.hasDictIn K C=k9
 po:PySem.W.plainOver K C=k9
 sa:PySem.W.findIn K (.j C) "__setattr__"=some (some<|.u "object.__setattr__")
def de.get {K:Aa5}(c:de K C)(f):Al K C f=true:=c.pg
def cj(K:Aa5)(C:Addr)(f:Str):Prop:=Aj0 K (.j C) f=y0 u0
def cj.lY {K:Aa5}(n:cj K C f):PySem.W.takerIn K C f=y0 none:=by unfold PySem.W.takerIn;rw[show Aj0 K _ f=y0 u0 from n];rfl
structure Oh(K:Aa5)(C:Addr)(f:Str)(v:V)(u:Value):Prop where
 at_:Aj0 K (.j C) f=y0 (y0 u)
 rel:RelV v u
 get:PySem.W.specialIn K u "__get__"=some none
 cp:PySem.W.copiedNames.p f=u9
structure lQ(K:Aa5)(C:Addr)(m:Str)(f:Addr):Prop where
 at_:Aj0 K (.j C) m=y0 (y0<|.j f)
 fn:PySem.W.isFn K (.j f)=k9
 kp:Af6 K (.j f)=k9
section
variable{X:Cx}{u7:List<|Addr×Obj}{U:St}{H:Hp}{s:Shared}{a C dx:Addr}{fs:List<|Str×V}{f:Str}{v:V}{A:Around}{E:Value->Shared->Prop}
def MY(I:Inv X u7 U H s)(e:H a=y0 (.w C dx fs))(c:de X.K C)(n:cj X.K C f)(l:fs.j f=y0 v)
 (h:∀u s',Inv X u7 U H s'->RelV v u->Q u s'):wpAny (model X.p X.w) A (getAttr (.j a) f b) Q E s:=by
 obtain⟨i,O,r,_,_,_⟩:=zQ I.J e;obtain⟨u,g,d⟩:=cG.some_of (by rw[←l];exact r f);exact LK I.bE O (c.get f) c.hd n g (zY d)<|h u _ (I.tok _) d
def JM(I:Inv X u7 U H s)(e:H a=y0 (.w C dx fs))(c:de X.K C)(k:lQ X.K C m g)(l:fs.j m=u0)
 (h:Q (.j g,[.j a]) s):wpAny (model X.p X.w) A (getMethod (.j a) m pl) Q E s:=by
 obtain⟨d,O,r,_,_,_⟩:=zQ I.J e;have b:=cG.none_of (by rw[←l];exact r m);exact Ff I.bE O (c.get m) k.at_ k.fn b h
def IG(I:Inv X u7 U H s)(e:H a=y0 (.w C dx fs))(c:de X.K C)(n:cj X.K C f)(D:fs.e<1000)(t:RelV y u)
 (h:∀s',Inv X u7 U (aG H a<|.w C dx<|bA f y fs) s'->Q () s'):wpAny (model X.p X.w) A (setAttr (.j a) f u) Q E s:=by
 obtain⟨v,O,r,i,_,j⟩:=zQ I.J e;have p:(fs.u (·.1)).e<=sizeLine:=by rw[Ab,OF];exact YD
 refine Eb I.bE O c.sa c.po n.lY c.hd i p λw d m=>h _ ?_;have B:∃o,w.p dx=y0 o:=let⟨o,_,_,k,_⟩:=d.ns;⟨o,k⟩;refine I.write (by rw[e];exact True.intro) (.u j) (λb q x z=>(m.2 b x).x z) B ?_;refine⟨by rw[Qa O.ne];exact j,?_,O.ne,d.obj,_,d.ns,λg=>?_,λg l=>?_⟩
 .have:=QI f y fs;exact Ac0 ‹_› ‹_›
 .show cG _ _;rw[wI];by_cases q:g=f
  .rw[Da q,Da q];exact t
  .rw[Fk q,Fk q];exact r g
 .by_cases q:g=f
  .rw[q];exact(XH f y fs).1
  .refine(XH f y fs).2 g<|i g λz=>l ?_;show(if g=f then y0 u else v g)=u0;rw[Fk q];exact z
def Inv.made (I:Inv X u7 U H s):Inv X u7 U (aG (aG H s.j.j.j<|.j<|s.j.j.j+1) (s.j.j.j+1)<|.w C s.j.j.j [])
 {s with heap:=(s.j.u Ah2).u<|Ai4 C s.j.j.j}:=by
 have a:(s.j.u Ah2).p s.j.j.j=y0 Ah2:=Ab6 s.j rfl;have c:=by
  have:=Ab6 (s.j.u Ah2) (o:=Ai4 C s.j.j.j) rfl
  rwa [Ai1]at this
 have f:(s.j.u Ah2).Ns s.j.j.j<|λ_=>u0:=⟨Ah2,#[],_,a,rfl,(λe d=>absurd d YC),λ_=>rfl⟩;have g:=I.laid (o:=.j<|s.j.j.j+1) (t':=s.p) (λb u q=>Aa3 _ q) (Aa4 _) ⟨_,a⟩;refine g.laid (λb u q=>Aa3 _ q) (Am4<|Ai1 _ _) ?_;have ne:s.j.j.j≠s.j.j.j+1:=Ab7<|Ae9 _;refine⟨by rw[Qa ne,Wa],Af0 _,ne,c,λ_=>u0,(Sb f).at λo q=>Aa3 _ q,λ_=>True.intro,λy h=>absurd rfl h⟩
def tI(a:attributeBase e f env (eval e env)=eval e env)
 (h:wpAny (model prog w) A (eval e env) (λo L=>wpAny (model prog w) A (getAttr o f k9) Q E L) E s):wpAny (model prog w) A (eval (.p e f pos) env) Q E s:=
 Attribute_any_ h<|by rw[arm_eval_Attribute,a]
end
def Fg(K:Aa5)(b:TE)(f:Str):TE:=λU H Q=>b U H λx H1=>∃a C dx fs v,x=.j a/\H1 a=y0 (.w C dx fs)/\de K C/\cj K C f/\fs.j f=y0 v/\Q v H1
def H9(K:Aa5)(b c:TE)(f:Str):TS:=λD U H=>c U H λy H1=>b U H1 λx H2=>∃a C dx fs,x=.j a/\H2 a=y0 (.w C dx fs)/\de K C/\cj K C f/\fs.e<1000∧
 D.nx U (aG H2 a<|.w C dx<|bA f y fs)
section
variable{X:Cx}{o e value:Expr}{f:Str}{pos pos' tpos:Pos}{ta tv:TE}
def LZ(o:PE X e ta)(m:attributeBase e f X.j (eval e X.j)=eval e X.j):PE X (.p e f pos)<|Fg X.K ta f:=by intro b s U H Q I h;refine tI m<|aJ (o b s U H _ I h) ?_;rintro u r ⟨x,p,g,k,a,C,y,fs,v,ex,i,c,n,l,q⟩;subst ex;obtain rfl:u=Value.ref a:=k;exact MY g i c n l λw t d j=>⟨v,p,d,j,q⟩
def IV(t:PE X o ta)(e:PE X value tv)(m:swapsWith value (y0<|.p o f pos') pos.j X.j=pure u9):PS X (.j [.p o f pos'] value pos)<|H9 X.K ta tv f:=by intro b s U H D I h;refine Pb (aJ (e b s U H _ I h) ?_) m;rintro u i⟨y,z,g,r,q⟩;refine aJ (t b i U z _ g q) ?_;rintro k A⟨x,E,d,w,a,C,F,fs,ex,j,c,n,l,p⟩;subst ex;obtain rfl:k=Value.ref a:=w;exact IG d j c n l r λB v=>⟨U,_,v,p⟩
end
section
variable{X:Cx}{u7:List<|Addr×Obj}{U:St}{H:Hp}{s:Shared}{A:Around}{E:Value->Shared->Prop}{Q:Value->Shared->Prop}{c:Value}{b:Bool}
inductive fY(K:Aa5)(H:Hp):V->Value->Prop where
|aj:fY K H .aj<|.p "NoneType"
|bl (x:Bool):fY K H (.C x)<|.p "bool"
|int (i:Int):fY K H (.o i)<|.p "int"
|str (x:Str):fY K H (.m x)<|.p "str"
|iJ (x:UInt64):fY K H (.iJ x)<|.p "float"
|lst {a:Addr}{xs:List V}(e:H a=y0 (.u xs)):fY K H (.j a)<|.p "list"
|eF {a:Addr}{o:Obj}{xs:List V}(e:H a=y0 (.eF o<|.u xs)):fY K H (.j a)<|.p "list"
|tup {a:Addr}{xs:List V}(e:H a=y0 (.p xs)):fY K H (.j a)<|.p "tuple"
|dK {a:Addr}{kvs:List<|eO×V}(e:H a=y0 (.dK kvs)):fY K H (.j a)<|.p "dict"
|dT {a:Addr}{kvs:List<|List eO×V}(e:H a=y0 (.dT kvs)):fY K H (.j a)<|.p "dict"
|ins {a C dx:Addr}{fs:List<|Str×V}(e:H a=some (.w C dx fs))(cl:de K C)(ha:PySem.W.findIn K (.j C) "__class__"=some (some<|.u "object.__class__"))
  (hn:PySem.W.specialIn K (.u "object.__class__") "__get__"=some (some<|.u "getset_descriptor.__get__"))(htk:PySem.W.takesIn K (.u "object.__class__")=some true)
  (hm:PySem.W.mroIn K C (.p "object")=some true):fY K H (.j a)<|.j C
def Ql(I:Inv X u7 U H s)(f:RelV x u)(ty:fY X.K H x t)(e:Am X.K t c=y0 b)(h:∀tk,Q (.y b) {s with toks:=tk}):
 wpAny (model X.p X.w) A (call (.u "isinstance") [u,c]) Q E s:=by
 cases ty with
|aj=>cases(show u=Value.none from f);exact Ae2 PySem.W.kitx_none I.bE True.intro e (λz=>nomatch z) h
|bl y=>cases(show u=Value.bool y from f);exact Ae2 PySem.W.kitx_bool I.bE True.intro e (λz=>nomatch z) h
|int i=>obtain⟨t,q⟩:=(show∃t,u=Value.int i t from f);cases q;exact Ae2 PySem.W.kitx_int I.bE True.intro e (λz=>nomatch z) h
|str y=>obtain⟨t,q⟩:=(show∃t,u=Value.str y t from f);cases q;exact Ae2 PySem.W.kitx_str I.bE True.intro e (λz=>nomatch z) h
|iJ y=>obtain⟨t,q⟩:=(show∃t,u=Value.float y t from f);cases q;exact Ae2 PySem.W.kitx_float I.bE True.intro e (λz=>nomatch z) h
|@lst a k d=>cases(show u=Value.ref a from f);obtain⟨_,_,n,_,g⟩:=(show aO X.p X.w H s.j a (.u k)from I.J a _ d);exact Ae2 An2 I.bE ⟨_,g,rfl⟩ e (λz=>nomatch z) h
|@eF a G k d=>cases(show u=Value.ref a from f);obtain⟨_,_,_,n,_,g⟩:=(show aO X.p X.w H s.j a (.eF G _)from I.J a _ d);exact Ae2 An2 I.bE ⟨_,g,rfl⟩ e (λz=>nomatch z) h
|@tup a k d=>cases(show u=Value.ref a from f);obtain⟨_,_,_,p⟩:=(show aO X.p X.w H s.j a (.p k)from I.J a _ d);obtain⟨o,g,l,_⟩:=p;exact Ae2 RU I.bE ⟨o,g,l⟩ e (λz=>nomatch z) h
|@dK a j d=>cases(show u=Value.ref a from f);obtain⟨_,_,L,_,p⟩:=(show aO X.p X.w H s.j a (.dK j)from I.J a _ d);obtain⟨o,v,w,g,l,_⟩:=p;exact Ae2 Sd I.bE ⟨o,g,l.1⟩ e (λz=>nomatch z) h
|@dT a j d=>cases(show u=Value.ref a from f);obtain⟨_,_,k,_,o,v,w,g,l,_⟩:=(show aO X.p X.w H s.j a (.dT j)from I.J a _ d);exact Ae2 Sd I.bE ⟨o,g,l.1⟩ e (λz=>nomatch z) h
|@ins a C N fs d r F D m B=>cases(show u=Value.ref a from f);obtain⟨M,O,_⟩:=zQ I.J d;obtain⟨K,J,_⟩:=O.look;exact Ae2 (PySem.W.kitx_own (r.get _) r.hd F D m B) I.bE J e (λz=>nomatch z) h
end
structure aM(k:Nat)(A:Around):Prop where
 hd:4<=k->A.j=u0
 dp:A.depth+k+5<recursionLimit
 un:A.u+16*k+200<cLine
def aM.mono (r:aM k A)(h:j<=k):aM j A:=⟨λq=>r.hd<|Ac0 q h,by have:=r.dp;lia,by have:=r.un;lia⟩
theorem aM.deeper (r:aM (k+1) A)(env):aM k<|A.p env:=
 ⟨λq=>r.hd<|Af9 q,by have:=r.dp;show A.depth+1+k+5<_;lia,by have:=r.un;show A.u+3+16*k+200<_;lia⟩
def ET{A:Around}:(A.under<|.u "type.__call__" ⟨.j C::us,kw⟩).depth=A.depth+1:=by
 first|rfl|simp[guardIds]
def B7{A:Around}:(A.under<|.u "type.__call__" ⟨.j C::us,kw⟩).u=A.u+1:=by
 first|rfl|simp[Code.isFrame]
def aM.make (r:aM (k+1) A)(C)(us)(kw):aM k<|A.under<|.u "type.__call__" ⟨.j C::us,kw⟩:=
 ⟨λq=>r.hd<|Af9 q,by have:=r.dp;rw[ET];lia,by have:=r.un;rw[B7];lia⟩
theorem aM.depth (r:aM k A):A.depth<recursionLimit:=by have:=r.dp;lia
def oV:TA:=λ_ H Q=>Q [] H
def Nx(b:TE)(a:TA):TA:=λU H Q=>b U H λx H1=>a U H1 λxs H2=>Q (x::xs) H2
section
variable{X:Cx}{e:Expr}{es:List Expr}{te:TE}{t:TA}{pos:Pos}
def xi:PA X [] oV:=λ_ _ _ _ H Q I h=>Pr ⟨[],H,I,.p,h⟩
def Qc(m:PE X e te)(p:PA X es t)(k:starEach (e::es) X.j=(u9,eval e X.j)::starEach es X.j:=by rfl):PA X (e::es)<|Nx te t:=by intro b a s U H Q I h;rw[k];refine Pk<|aJ (m a s U H _ I h) ?_;rintro u g ⟨x,q,f,i,n⟩;exact aJ (p b a g U q _ f n)<|by rintro r v⟨j,o,c,d,l⟩;exact⟨x::j,o,c,.j i d,l⟩
def B0(t:TA):TE:=λU H Q=>t U H λxs H1=>xs.e<=sizeLine/\∀p,H1 p=u0->Q (.j p) (aG H1 p<|.p xs)
def Mv(t:TA):TE:=λU H Q=>t U H λxs H1=>xs.e<=sizeLine/\∀p,H1 p=u0->Q (.j p) (aG H1 p<|.u xs)
def sX{x1}(h:PA X es t):PE X (.G es x1 pos)<|B0 t:=by intro a s U H Q I g;refine wpAny_Tuple_spliced<|aJ (h pos a s U H _ I g) λf d ⟨k,i,c,r,z,q⟩=>⟨by rw[←r.e];exact z,?_⟩;have j:=c.J.fresh<|Aa4 _;refine⟨.j d.j.j.j,aG i d.j.j.j _,c.laid (λb u e=>Aa3 _ e) (Aa4 _) ?_,rfl,q _ j⟩;exact⟨z,f,r,⟨_,Ab6 _ rfl,rfl,rfl,_,rfl⟩⟩
def L0(h:PA X es t):PE X (.List es pos)<|Mv t:=by intro a s U H Q I g;refine wpAny_List_spliced<|aJ (h pos a s U H _ I g) λf d ⟨k,i,c,r,z,q⟩=>⟨by rw[←r.e];exact z,?_⟩;have j:=c.J.fresh<|Aa4 _;refine⟨.j d.j.j.j,aG i d.j.j.j _,c.laid (λb u e=>Aa3 _ e) (Aa4 _) ?_,rfl,q _ j⟩;exact⟨z,f,0,r,Ab6 _ rfl⟩
end
abbrev Sp:=List V->Hp->VK->XK->Prop
abbrev gm:=List Env->Hp->Shared->XK->Value->Shared->Prop
structure dQ(P:Program)(w:World)(K:Aa5)(mg:Str->Option Value)(base:Heap)(A:Around)(outer:List Env)(s:Shared)(H:Hp):Prop where
 frames:A.frames=y0 outer
 mod:Mod K mg base
 bs:∀b o,base.p b=y0 o->s.j.p b=y0 o/\H b=u0
 g6:base.j.j<=s.j.j.j
 cS:s.j.A base outer
 iI:∀b∈bM outer,H b=u0
 aL:cZ P w H s.j
 bare:AllBare s.u
def CE(a:List Env)(P:Program)(w:World)(H:Hp)(s:Shared)(Q:VK)(u:Value)(s':Shared):Prop:=
 ∃v H',s'.os=s.os/\AllBare s'.u/\Un (bM a) [] H H' s.j s'.j/\cZ P w H' s'.j/\RelV v u/\Q v H'
def CR(b:gm)(a:List Env)(P:Program)(w:World)(H:Hp)(s:Shared)(Q:VK)(E:XK)(r:Result)(s':Shared):Prop:=
 match r with
|.ok (.ret u)=>CE a P w H s Q u s'
|.ok _=>False
|.error e=>b a H s E e s'
structure bj(P:Program)(w:World)(K:Aa5)(mg:Str->Option Value)(base:Heap)(CX:gm)(k:Nat)(f:Addr)(fd:FuncData)(ps:List Str)(sp:Sp):Prop where
 len:∀vs H Q E,sp vs H Q E->vs.e=ps.e
 run:∀(A:Around)(outer:List Env)(s:Shared)(H:Hp)(args:Args)(us:List Value)(vs:List V)(Q:VK)(E:XK),aM k A->dQ P w K mg base A outer s H->BindsTo s fd args (ps.Z us)->Vals vs us->sp vs H Q E→
  codeAny (model P w) A (.call (.j f) args) (CR CX outer P w H s Q E) s
def dQ.make {K:Aa5}(e:dQ P w K mg base A outer s H)(C)(us)(kw):
 dQ P w K mg base (A.under<|.u "type.__call__" ⟨.j C::us,kw⟩) outer s H:=⟨by first|exact e.frames|(simpa[pushEnvs]using e.frames),e.mod,e.bs,e.g6,e.cS,e.iI,e.aL,e.bare⟩
section
variable{X:Cx}{u7:List<|Addr×Obj}{U:St}{H:Hp}{s s':Shared}
def Inv.eM (I:Inv X u7 U H s):dQ X.p X.w X.K X.J X.u X.A X.B s H:=
 ⟨I.j.frames,I.j.mod,I.bs,Ac0 I.j.g6 I.sz,I.stack,I.cO,I.J,I.Q⟩
def Inv.after (I:Inv X u7 U H s)(h:CE X.B X.p X.w H s Q u s'):EP X u7 U Q u s':=by obtain⟨v,i,f,a,un,c,r,q⟩:=h;obtain⟨hh,g,d,t,e⟩:=s';obtain rfl:e=s.os:=f;exact⟨v,i,I.call un c a<|λb z=>absurd z YC,r,q⟩
end
def uU(b:Sp)(a:List V)(E:XK)(t:TA):TE:=λU H Q=>t U H λvs H1=>b (vs++a) H1 Q E
def uv(C:Addr)(m:Str)(c:Sp)(b:List V)(E:XK)(d:TE)(t:TA):TE:=λU H Q=>d U H λx H1=>∃a dx fs,x=.j a/\H1 a=y0 (.w C dx fs)/\fs.j m=u0∧
 t U H1 λvs H2=>c (x::(vs++b)) H2 Q E
def HF(C:Addr)(b:Sp)(a:List V)(E:XK)(t:TA):TE:=λU H Q=>t U H λvs H1=>∀x dx,H1 x=u0->H1 dx=u0->dx≠x→
 b (.j x::(vs++a)) (aG (aG H1 dx<|.j x) x<|.w C dx []) (λv H2=>v=.aj/\Q (.j x) H2) E
def Binds(K:Aa5)(b:FuncData)(a:List Str)(ds:List Value):Prop:=
 ∀(s:Shared)(us:List Value),K.In s.j->(us++ds).e=a.e->BindsTo s b ⟨us,[]⟩ (a.Z<|us++ds)
def Binds.all {K:Aa5}(h:∀us:List Value,us.e=ps.e->bindArgs fd ⟨us,[]⟩=pure (ps.Z us)):Binds K fd ps []:=λs us _ a=>by rw[Ac7]at a⊢;exact .of_eq<|h us a
def ww(a:gm)(X:Cx)(E:XK):Prop:=∀(u7:List<|Addr×Obj)(U:St)(H:Hp)(s:Shared)(e:Value)(s':Shared),Inv X u7 U H s->a X.B H s E e s'->X.C e s'
section
variable{X:Cx}{CX:gm}{k:Nat}{f C:Addr}{fd:FuncData}{ps:List Str}{sp:Sp}{dvs:List V}{ds:List Value}{E:XK}{x m:Str}{p pos apos:Pos}{e o:Expr}{es:List Expr}{ta:TE}{t:TA}
def X9(F:bj X.p X.w X.K X.J X.u CX k f fd ps sp)(m:aM k X.A)(d:Binds X.K fd ps ds)(g:Vals dvs ds)(c:ww CX X E)
 (I:Inv X u7 U H s)(r:Vals vs us)(h:sp (vs++dvs) H Q E):wpAny (model X.p X.w) X.A (call (.j f) us) (EP X u7 U Q) X.C s:=by
 have b:=r.append g;have i:(us++ds).e=ps.e:=by rw[←b.e];exact F.len _ _ _ _ h
 refine OM<|Ow (F.run X.A X.B s H ⟨us,[]⟩ _ _ Q E m I.eM (d s us I.bE i) b h) λr l a=>?_;cases r with
|error e=>exact c u7 U H s e l I a
|ok j=>
  cases j with
|ret u=>exact I.after a
|next=>exact False.elim a
|brk=>exact False.elim a
|cont=>exact False.elim a
def Ic(F:bj X.p X.w X.K X.J X.u CX k f fd ps sp)(m:aM k X.A)(g:Gl X x)(j:X.J x=y0 (.j f))(n:Af6 X.K (.j f)=k9)(o:Binds X.K fd ps ds)(u:Vals dvs ds)(i:ww CX X E)
 (l:PA X (e::es) t)(c:(x==("__debug__":Str))=false:=by decide)(v:starEach (e::es) X.j=(false,eval e X.j)::starEach es X.j:=by rfl)(b:(backTo pos<|starEach es X.j).G (·.1)=false:=by rfl):
 PE X (.u (.j x p) (e::es) [] pos)<|uU sp dvs E t:=by
 intro a s U H Q I h;refine Oq<|Zo I g j ?_ c;refine Am9 I.j.mod.eZ n (aJ (l pos a s U H _ I h) ?_) v b;rintro w y⟨z,A,d,r,q⟩;refine⟨d.bE,?_⟩;exact X9 F m o u i d r q
def BS(F:bj X.p X.w X.K X.J X.u CX k f fd ps sp)(j:aM k X.A)(i:Gl X x)(g:X.J x=y0 (.j f))(l:Af6 X.K (.j f)=k9)(d:Binds X.K fd ps ds)(e:Vals dvs ds)(c:ww CX X E)
 (a:(x==("__debug__":Str))=false:=by decide):PE X (.u (.j x p) [] [] pos)<|uU sp dvs E oV:=by
 intro b s U H Q I h;refine Oq<|Zo I i g ?_ a;exact RJ I.bE l<|X9 F j d e c I .p h
def Iy(M:PE X o ta)(c:de X.K C)(p:lQ X.K C m f)(F:bj X.p X.w X.K X.J X.u CX k f fd ps sp)(G:aM k X.A)(J:Binds X.K fd ps ds)(K:Vals dvs ds)(y:ww CX X E)(B:PA X (e::es) t)
 (g:starEach (e::es) X.j=(u9,eval e X.j)::starEach es X.j:=by rfl)(d:(backTo pos<|starEach es X.j).G (·.1)=false:=by rfl)
 (v:eval (.u (.p o m apos) (e::es) [] pos) X.j=(do
   let L←eval o X.j
   standAt apos.atName
   let(f,first)←holding [L]<|getMethod L m pl
   callWith pos f first (backTo pos<|starEach (e::es) X.j)<|backToKw pos<|keywordEach [] X.j):=by rfl):
 PE X (.u (.p o m apos) (e::es) [] pos)<|uv C m sp dvs E ta t:=by
 intro b s U H Q I h;refine Rk (aJ (M b s U H _ I h) ?_) v;rintro u w⟨x,N,j,D,a,S,fs,ex,z,l,q⟩;subst ex;obtain rfl:u=Value.ref a:=D;refine JM j z c p l ?_;refine Am9 I.j.mod.eZ p.kp (aJ (B pos b w U N _ j q) ?_) g d;rintro O P⟨n,R,i,r,A⟩;refine⟨i.bE,?_⟩;exact X9 (vs:=.j a::n) F G J K y i (.j rfl r) A
def MW(v:PE X o ta)(c:de X.K C)(e:lQ X.K C m f)(F:bj X.p X.w X.K X.J X.u CX k f fd ps sp)(n:aM k X.A)(r:Binds X.K fd ps ds)(t:Vals dvs ds)(i:ww CX X E)
 (g:eval (.u (.p o m apos) [] [] pos) X.j=(do
   let L←eval o X.j
   standAt apos.atName
   let(f,first)←holding [L]<|getMethod L m pl
   callWith pos f first (backTo pos<|starEach [] X.j)<|backToKw pos<|keywordEach [] X.j):=by rfl):
 PE X (.u (.p o m apos) [] [] pos)<|uv C m sp dvs E ta oV:=by
 intro b s U H Q I h;refine Rk (aJ (v b s U H _ I h) ?_) g;rintro u w⟨x,z,d,p,a,y,fs,ex,j,l,q⟩;subst ex;obtain rfl:u=Value.ref a:=p;refine JM d j c e l ?_;exact RJ d.bE e.kp<|X9 (vs:=[.j a]) F n r t i d (.j rfl .p) q
structure Mk(K:Aa5)(C f:Addr):Prop where
 makes:PySem.W.makesIn K C=k9
 init:PySem.W.findIn K (.j C) "__init__"=some (some<|.j f)
 fn:PySem.W.isFn K (.j f)=k9
 kp:Af6 K (.j C)=k9
def BH(M:Mk X.K C f)(F:bj X.p X.w X.K X.J X.u CX k f fd ps sp)(o:aM (k+1) X.A)(p:Binds X.K fd ps ds)(q:Vals dvs ds)
 (l:ww CX X E)(I:Inv X u7 U H s)(r:Vals vs us)
 (h:∀x dx,H x=u0->H dx=u0->dx≠x->sp (.j x::(vs++dvs)) (aG (aG H dx<|.j x) x<|.w C dx []) (λv H2=>v=.aj/\Q (.j x) H2) E):
 wpAny (model X.p X.w) X.A (call (.j C) us) (EP X u7 U Q) X.C s:=by
 have d:=h _ s.j.j.j (I.J.fresh<|Ac9 _) (I.J.fresh<|Aa4 _)<|Ab7<|Ae9 _;have b:=Inv.made (C:=C) I;have c:Vals (V.ref (s.j.j.j+1)::(vs++dvs)) _:=.j rfl<|r.append q;have i:=by have e:=c.e;rw[F.len _ _ _ _ d]at e;exact e.j
 refine OM<|FW I.bE M.makes M.init (beq_iff_eq.j M.fn)<|Ow (F.run _ X.B _ _ ⟨Value.ref _::us,[]⟩ _ _ _ E (o.make C us [])
  (b.eM.make C us []) (p _ _ b.bE i) c d) λr t a=>?_
 cases r with
|error e=>exact l u7 U _ _ e t b a
|ok j=>
  cases j with
|ret u=>obtain⟨v,w,n,rv,g,m⟩:=b.after a;subst g;exact⟨rv,⟨V.ref _,w,n,rfl,m⟩⟩
|next=>exact False.elim a
|brk=>exact False.elim a
|cont=>exact False.elim a
def Fd(M:Mk X.K C f)(F:bj X.p X.w X.K X.J X.u CX k f fd ps sp)(m:aM (k+1) X.A)(g:Gl X x)(j:X.J x=y0 (.j C))(n:Binds X.K fd ps ds)(o:Vals dvs ds)(i:ww CX X E)
 (l:PA X (e::es) t)(c:(x==("__debug__":Str))=false:=by decide)(u:starEach (e::es) X.j=(false,eval e X.j)::starEach es X.j:=by rfl)(b:(backTo pos<|starEach es X.j).G (·.1)=false:=by rfl):
 PE X (.u (.j x p) (e::es) [] pos)<|HF C sp dvs E t:=by
 intro a s U H Q I h;refine Oq<|Zo I g j ?_ c;refine Am9 I.j.mod.eZ M.kp (aJ (l pos a s U H _ I h) ?_) u b;rintro v w⟨y,z,d,r,q⟩;refine⟨d.bE,?_⟩;exact BH M F m n o i d r q
end
section
variable{X:Cx}{CX:gm}{k:Nat}{f C:Addr}{fd:FuncData}{ps ks:List Str}{sp:Sp}{E:XK}{x m:Str}{p pos apos kpos:Pos}{e o:Expr}{es:List Expr}{kws:List Keyword}{te ta:TE}{t tk:TA}{nm:Option Str}
structure N6(K:Aa5)(fd:FuncData)(ps ks:List Str)(g:List Value->List Value->List Value)(gV:List V->List V->List V):Prop where
 to:∀(s:Shared)(us ws:List Value),K.In s.j->(g us ws).e=ps.e->BindsTo s fd ⟨us,ks.Z ws⟩ (ps.Z<|g us ws)
 rel:∀{vs:List V}{us:List Value}{zs:List V}{ws:List Value},Vals vs us->Vals zs ws->Vals (gV vs zs) (g us ws)
variable{g:List Value->List Value->List Value}{gV:List V->List V->List V}
end
structure qt(N P:List Str)(sc:Scope):Prop where
 kind:sc.u=.j
 co:sc.isCoroutine=u9
 gen:sc.isGenerator=u9
 nd:N.C
 pre:N.A P.e=P
 par:∀x∈P,sc.j.j x=y0 .local\/sc.j.j x=y0 .y
 kK:∀y∈sc.j,y.2≠.w
theorem jZ{a:Str->Option NameKind}:∀{L}{m},(∀v,(x,v)∉L)->bindL a L m x=m x
|[],_,_=>rfl
|(n,v)::r,m,h=>by
  unfold bindL;rw[jZ λw b=>h w<|Aa0 _ b];split
  .have:x≠n:=by rintro rfl;exact h v Aa
   simp[this]
  .rfl
theorem jY{a:Str->Option NameKind}:∀{L}{m},(∀v,(x,v)∉L)->bindC a L m x=m x
|[],_,_=>rfl
|(n,v)::r,m,h=>by
  unfold bindC;rw[jY λw b=>h w<|Aa0 _ b];split
  .rfl
  .have:x≠n:=by rintro rfl;exact h v Aa
   simp[this]
theorem JW{a:Str->Option NameKind}:∀{P:List Str}{vs}{i:Nat}{m},P.C->P[i]?=y0 x->vs[i]?=y0 v->a x=y0 .local→
 bindL a (P.Z vs) m x=y0 v
|[],_,_,_,_,h,_,_=>by simp at h
|_::_,[],_,_,_,_,h,_=>by simp at h
|p::P,w::vs,0,m,d,b,c,e=>by simp at b c;subst b;subst c;show bindL a ((p,w)::P.Z vs) m p=_;unfold bindL;rw[jZ λv f=>(Ag0.j d).1 (Am1 f).1,Da e];simp
|p::P,w::vs,i+1,m,d,b,c,e=>by unfold bindL;exact JW (Ag0.j d).2 (by simpa using b) (by simpa using c) e
theorem XY{a:Str->Option NameKind}:∀{P:List Str}{vs}{i:Nat}{m},P.C->P[i]?=y0 x->vs[i]?=y0 v->a x≠y0 .local→
 bindC a (P.Z vs) m x=y0 v
|[],_,_,_,_,h,_,_=>by simp at h
|_::_,[],_,_,_,_,h,_=>by simp at h
|p::P,w::vs,0,m,d,b,c,e=>by simp at b c;subst b;subst c;show bindC a ((p,w)::P.Z vs) m p=_;unfold bindC;rw[jY λv f=>(Ag0.j d).1 (Am1 f).1,Fk e];simp
|p::P,w::vs,i+1,m,d,b,c,e=>by unfold bindC;exact XY (Ag0.j d).2 (by simpa using b) (by simpa using c) e
noncomputable def xC(N:List Str)(vs:List V):St:=vs.u y0++Aa1 (N.e-vs.e) u0
noncomputable def Ju(CX:gm)(P:Program)(w:World)(K:Aa5)(mg:Str->Option Value)(base:Heap)(N:List Str)(k6:Str)(scope:Scope)(f:Addr)(cd:Value)(A:Around)(outer:List Env)(s:Shared)(H:Hp)(E:XK):Cx where
 prog:=P
 w:=w
 K:=K
 mg:=mg
 base:=base
 A:=A.p<|envOfC k6 scope s.j.j.j f cd
 N:=N
 s₀:=s
 H₀:=H
 env:=envOfC k6 scope s.j.j.j f cd
 outer:=outer
 stack:=envOfC k6 scope s.j.j.j f cd::outer
 ex:=[]
 calm:=A.j.j
 fn:=λ_=>k9
 pn:=[]
 xe:=λe s'=>wpAny (model P w) (A.p<|envOfC k6 scope s.j.j.j f cd) (leaving (envOfC k6 scope s.j.j.j f cd) e) (λ_ s''=>CX outer H s E e s'') (λe' s''=>CX outer H s E e' s'') s'
def J7{a:Scope}(h:a.j.j x=y0 .y):∃c,(cellsFrom n a.j []).j x=y0 c:=by have q:=Ai7 a.j n []<|.p h;exact Af.j q
def WV{K:Aa5}
 (S:qt N ps scope)(e0:dQ P w K mg base A outer s H)(hl:vs.e=ps.e)(r:Vals vs us)
 (x:InCallC s s.j.j.j (bindL (envOfC k6 scope s.j.j.j f cd).w (ps.Z us) λ_=>u0) (cellsFrom (s.j.j.j+1) scope.j []) (bindC (envOfC k6 scope s.j.j.j f cd).w (ps.Z us) λ_=>u0) s1):
 Inv (Ju CX P w K mg base N k6 scope f cd A outer s H E) [] (xC N vs) H s1:=by
 have hpl:ps.e<=N.e:=by have:=congrArg Ag3 S.pre;rw[Ae4]at this;lia
 obtain⟨h1,tk,rfl,hk⟩:=x.done;have noA:∀b:Addr,b∉(Ju CX P w K mg base N k6 scope f cd A outer s H E).ex:=λb z=>absurd (show b∈([]:List Addr)from z) YC;refine⟨⟨e0.mod,S.kind,rfl,rfl,Aa4 _,λy z c h1 h2=>?_,λy hy=>?_,λy c _ h=>?_,λq=>Af7.j q,Around.frames_deeper e0.frames,.u ⟨rfl,rfl⟩,λb z=>absurd z<|noA b,e0.bs,e0.g6,λb _ _=>noA b,λb z=>absurd z<|noA b,e0.cS,e0.iI⟩,
  rfl,e0.bare,Un.kept hk,⟨_,x.toInCall.ns,λi y v h1 h2 h3=>?_⟩,λy c h=>⟨_,x.cell y c h⟩,e0.aL.fresh<|Aa4 _,λy c h=>?_,λp hp=>absurd (show p∈([]:List _)from hp) YC,e0.aL.kept hk,?_⟩
 .exact name_of_addr x.apart (Ou h1)<|Ou h2
 .have hy:=hy;obtain hy|hy:=hy
  .exact J7 hy
  .exact absurd rfl<|S.kK _<|Ou hy
 .exact Ag2<|x.above y c<|Ou h
 .have hi:i<vs.e:=by
   unfold xC at h2;by_cases hi:i<vs.e
   .exact hi
   .rw[Ad5<|by simpa using hi]at h2;rw[Al5]at h2;split at h2<;>cases h2
  have ha:vs[i]?=y0 v:=by
   unfold xC at h2;rw[Ad9<|by simpa using hi,Ae1]at h2;cases e:vs[i]? with
|none=>rw[e]at h2;cases h2
|some a=>rw[e]at h2;cases h2;rfl
  obtain⟨u,hu,rv⟩:=r.get ha;have hp:ps[i]?=y0 y:=by rw[←S.pre,Pz YB];exact h1
  have ndP:ps.C:=by rw[←S.pre];exact S.nd.sublist<|Se _ _
  refine⟨u,rv,?_⟩;rcases S.par y (Aj9 hp)with k|k
  .exact .p ⟨k,JW ndP hp hu k⟩
  .obtain⟨c,e⟩:=J7 k;refine .u ⟨.p k,c,e,?_⟩;have q:=x.cell y c e;rw[XY ndP hp hu<|by show scope.j.j y≠_;rw[k];decide]at q;exact q
 .exact e0.aL.fresh<|Ag2<|x.above y c<|Ou h
 .unfold xC;show _=N.e;rw[Aa2,Ab,Ae3];lia
def Ek{K:Aa5}{dV kV doc pm cdv ct oc:Value}
 (lk:K.j f=y0 ⟨oc,od,.func<|Al7 name k6 params body scope dV kV doc pm an cdv ct,osl⟩)(hcd:PySem.W.codeIn K cdv k6=k9)(S:qt N ps scope)
 (len:∀vs H Q E,sp vs H Q E->vs.e=ps.e)
 (hbody:∀A outer s H vs Q E,aM k (A.p<|envOfC k6 scope s.j.j.j f cdv)->sp vs H Q E→
   ∃t,cV (Ju CX P w K mg base N k6 scope f cdv A outer s H E) body t/\t {nx:=λ_ H'=>Q .aj H',rt:=Q} (xC N vs) H):
 bj P w K mg base CX (k+1) f (Al7 name k6 params body scope dV kV doc pm an cdv ct) ps sp:=by
 refine⟨len,λA outer s H args us vs Q E hr e0 hb r hsp=>?_⟩;have hl:=len _ _ _ _ hsp;have KX:=e0.mod.eZ.keeps λb o e=>(e0.bs b o e).1;have lim:=e0.mod.nolimit.keeps λb o e=>(e0.bs b o e).1;have hkind:∀y∈ps.Z us,scope.j.j y.1=y0 .local\/(scope.j.j y.1=y0 .y/\((cellsFrom (s.j.j.j+1) scope.j []).j y.1).w=k9):=by
  rintro⟨n,v⟩ hy;obtain q|q:=S.par n (Am1 hy).1
  .exact .p q
  .exact .u ⟨q,Ai7 _ _ _<|.p q⟩
 refine Rl hr.depth (KX _ _ lk) rfl S.co S.gen rfl (RW KX hcd)<|hb _ _ _ _ ?_;refine Pl S.kind hkind λenv he s1 x=>?_;subst he;refine⟨lim.keeps x.toInCall.keep,codeAny_func ?_⟩;obtain⟨t,ht,hq⟩:=hbody A outer s H vs Q E (hr.deeper _) hsp;have I:Inv (Ju CX P w K mg base N k6 scope f cdv A outer s H E) [] _ H s1:=WV S e0 hl r x;refine Om (ht [] s1 _ H _ I hq) (λfl s' hs=>?_) λe s' hs=>hs;have fin:∀{U'}{H'}{v}{u},Inv (Ju CX P w K mg base N k6 scope f cdv A outer s H E) [] U' H' s'->RelV v u->Q v H'->CE outer P w H s Q u s':=
  λ{U' H' v u} J rv q=>⟨v,H',J.os,J.Q,J.u,J.J,rv,q⟩
 cases fl with
|ret u=>obtain⟨v,U',H',J,rv,q⟩:=hs;exact fin J rv q
|next=>obtain⟨U',H',J,q⟩:=hs;exact fin (v:=V.aj) J rfl q
|brk=>obtain⟨_,_,_,q⟩:=hs;exact False.elim q
|cont=>obtain⟨_,_,_,q⟩:=hs;exact False.elim q
section
variable{X:Cx}{x:Str}{p pos:Pos}{e:Expr}{es:List Expr}{t:TA}{id T:String}{r:List V->Hp->VK->Prop}
def pf(r:List V->Hp->VK->Prop)(t:TA):TE:=λU H Q=>t U H λvs H1=>r vs H1 Q
def Xm(u:Xr X (.u id) r)(i:Gl X x)(m:X.J x=none)(f:bootBuiltins x=some (.u id))(o:PA X (e::es) t)(n:x≠"__name__":=by decide)(c:(x==("__debug__":Str))=false:=by decide)
 (v:starEach (e::es) X.j=(u9,eval e X.j)::starEach es X.j:=by rfl)(b:(backTo pos<|starEach es X.j).G (·.1)=false:=by rfl):PE X (.u (.j x p) (e::es) [] pos)<|pf r t:=by
 intro a s U H Q I h;refine Oq<|Xw I i m f ?_ n c;exact Pd (aJ (o pos a s U H _ I h)<|by rintro d j⟨l,w,g,k,q⟩;exact u a j U w l d Q g k q) v b
def Jt(u:Xr X (.p T) r)(i:Gl X x)(m:X.J x=none)(f:bootBuiltins x=some (.p T))(o:PA X (e::es) t)(n:x≠"__name__":=by decide)(c:(x==("__debug__":Str))=false:=by decide)
 (v:starEach (e::es) X.j=(u9,eval e X.j)::starEach es X.j:=by rfl)(b:(backTo pos<|starEach es X.j).G (·.1)=false:=by rfl):PE X (.u (.j x p) (e::es) [] pos)<|pf r t:=by
 intro a s U H Q I h;refine Oq<|Xw I i m f ?_ n c;exact Os (aJ (o pos a s U H _ I h)<|by rintro d j⟨l,w,g,k,q⟩;exact u a j U w l d Q g k q) v b
end
end Lake
namespace HT
open PySem PyProof.Rows
section
variable{prog:Program}{w:World}{A:Around}{E:Value->Shared->Prop}{s:Shared}
def hj(o:IsTup s.j t vs.w)(r:IsTup s.j b ws.w)(l:vs≠[])
 (h1:ws=[]->Q (.j t) s)(h2:ws≠[]->Q (.j s.j.j.j) {s with heap:=s.j.u {cls:=.p "tuple",data:=.j (vs++ws).w}})
 (p:vs.e+ws.e<=sizeLine):wpAny (model prog w) A (binaryOp .Add (.j t)<|.j b) Q E s:=by
 obtain⟨⟨M,dd,L,sl⟩,f,q,n,u⟩:=id o;obtain⟨⟨k,c,j,d⟩,a,g,m,i⟩:=id r;subst q u g i;have e:vs.w++ws.w=(vs++ws).w:=by simp
 by_cases h:ws=[]
 .exact PB ⟨_,f,rfl⟩ ⟨_,a,rfl⟩ PD RC O4 OY (OT _ _)
   (tuple_addW1 t b vs.w ws.w n m dd c sl d (by simpa using l)<|by simp[h]) ⟨f,a,h1 h⟩
 .refine PB ⟨_,f,rfl⟩ ⟨_,a,rfl⟩ PD RC O4 OY (OT _ _)
   (tuple_addW2 t b vs.w ws.w n m dd c sl d (by simpa using l) (by simp_all)<|by simp_all) ⟨f,a,?_⟩
  rw[e];exact h2 h
def aV(n d:Nat):Option Int->Nat
|none=>d
|some v=>if v<0 then(v+(n:Int)).j else min v.j n
def Dw(n d)(b:d<=n)(o):aV n d o<=n:=by
 cases o with
|none=>exact b
|some v=>
  show(if v<0 then(v+n).j else min v.j n)<=n;by_cases a:v<0
  .rw[Da a];lia
  .rw[Fk a];exact Nat.min_le_right _ _
def uz(v)(n d:Nat):(if v<0 then max (v+(n:Int)) 0 else min v (n:Int))=((aV n d<|y0 v:Nat):Int):=by
 show(if v<0 then max _ 0 else min v n)=(((if v<0 then(v+(n:Int)).j else min v.j n)));by_cases a:v<0
 .simp only[Da a];lia
 .simp[Fk a];lia
def LL(a hi)(n:Nat):Builtin.Slice.sliceAdjust a hi 1 (n:Int)=(((aV n 0 a:Nat):Int),((aV n n hi:Nat):Int)):=by
 have b:¬(1<0):=by decide
 refine Prod.ext ?_ ?_
 .cases a with
|none=>rfl
|some v=>exact uz v n 0
 .cases hi with
|none=>rfl
|some v=>exact uz v n n
def HN(i j:Nat):Builtin.Slice.slicePlaces (i:Int) (j:Int) 1=j-i:=by unfold Builtin.Slice.slicePlaces;have a:1>0:=Aa4 _;simp[SL];split<;>lia
def jM(p:IsPart v o)(h:Q o s):wpAny (model prog w) A (Builtin.Slice.slicePartIndex v) Q E s:=by
 cases p with
|none=>exact slicePart_none h
|int i t=>exact slicePart_int h
def bW{a hi:Option Int}{Q:Int×Int×Nat->Shared->Prop}(d:s.j.IsSliceOf sl vl vu .w)(pl:IsPart vl a)(f:IsPart vu hi)
 (h:Q (((aV n 0 a:Nat):Int),1,aV n n hi-aV n 0 a) s):wpAny (model prog w) A (Builtin.Slice.sliceApplied (.j sl)<|pure (n:Int)) Q E s:=by
 obtain⟨g,c,e,b⟩:=id d;refine AC<|AC<|O5 c b (x:=vl) rfl<|AC<|O5 c b (x:=vu) rfl<|AC<|O5 c b rfl<|FS ?_;refine AC<|slicePart_none ?_;refine AC<|jM pl<|AC<|jM f<|AC<|FS ?_;show wpAny _ _ (match Builtin.Slice.sliceAdjust a hi 1 (n:Int)with|(a,hi)=>pure (a,(1:Int),Builtin.Slice.slicePlaces a hi 1)) _ _ s;rw[LL a hi n];show wpAny _ _ (pure _) _ _ s;rw[HN];exact FS h
def M4(xs:Array Value)(i k:Nat):((Ac2 k).Y λ(m:Nat)=>xs[((i:Int)+(m:Int)*1).j]?).w=((xs.p.J i).A k).w:=by
 have e:(λ(m:Nat)=>xs[(i+(m:Int)*1).j]?)=λm=>xs[i+m]?:=by
  funext m;have:(i+(m:Int)*1).j=i+m:=by lia
  rw[this]
 rw[e];have:=pick_run xs i k;rw[RX]at this;have a:((λx=>xs[x]?)∘λx=>i+x)=λm=>xs[i+m]?:=rfl;rw[a]at this;rw[this]
def cI{a hi:Option Int}(c:IsTup s.j t items)(i:s.j.IsSliceOf sl vl vu .w)(pl:IsPart vl a)(n:IsPart vu hi)
 (k:¬(aV items.j 0 a=0/\aV items.j items.j hi=items.j))
 (h:Q (.j s.j.j.j) {s with heap:=s.j.u {cls:=.p "tuple",data:=.j ((items.p.J<|aV items.j 0 a).A<|aV items.j items.j hi-aV items.j 0 a).w}})
 (l:items.j<=sizeLine):wpAny (model prog w) A (getItem (.j t)<|.j sl) Q E s:=by
 have b:=by show((items.p.J<|aV items.j 0 a).A<|aV items.j items.j hi-aV items.j 0 a).w.j<=sizeLine;rw[Ac,Ae4,Ah4,Ai3];lia
 have o:aV items.j items.j hi<=items.j:=Dw _ _ (Aa4 _) hi;obtain⟨m,d,g,j⟩:=id i;have f:s.TypeIs (.j sl) "slice":=⟨m,d,g⟩;unfold getItem
 try with_reducible refine Ol ?_
 refine AC<|Sf c.typeIs rfl ?_;refine AC<|OZ c.typeIs Oz
 <|O8 Oz c.typeIs entry_tuple_getitem ?_<|args_tuple_getitem _ _
 show wpAny _ _ (Builtin.Tuple.tupleItemsOf _>>=_) _ _ s;refine AC<|tupleItemsOf_ c ?_;refine AC<|PF f ?_;refine AC<|bW i pl n ?_;have e:¬((((aV items.j 0 a:Nat):Int)==0&&(1:Int)==1&&(aV items.j items.j hi-aV items.j 0 a)==items.j)=k9):=by intro q;rw[Aa9,Aa9]at q;have r:=eq_of_beq q.1.1;have p:=eq_of_beq q.2;exact k ⟨by lia,by lia⟩
 show wpAny _ _ (if _=k9 then _ else _) _ _ s;rw[Fk e,M4]
 first
|exact AC _
|exact AC<|O1 (AC<|FS<|FS ⟨_,rfl,FS h⟩) b
|exact AC _
|exact AC _
end
end HT
namespace Lake
open Lake renaming Vals.length->Lake.Vals.e,V.str->Lake.V.m,V.int->Lake.V.o,V.ref->Lake.V.j,V.bl->Lake.V.C,Cx.env->Lake.Cx.j,Cx.prog->Lake.Cx.p,HO.lst->Lake.HO.u,Inv.tuple->Lake.Inv.A,Inv.list->Lake.Inv.C,Inv.laid->Lake.Inv.T,cZ.fresh->Lake.cZ.M
open PySem PySem.Spec PyProof.Rows
abbrev TO:=St->Hp->(Option Int->Hp->Prop)->Prop
def PO(X:Cx)(e:Option Expr)(t:TO):Prop:=
 ∀(u7:List<|Addr×Obj)(s:Shared)(U:St)(H:Hp)(Q:Option Int->Hp->Prop),Inv X u7 U H s->t U H Q→
  wpAny (model X.p X.w) X.A (evalPart e X.j) (λu s'=>∃o H',Inv X u7 U H' s'/\IsPart u o/\Q o H') X.xe s
def Ed:TO:=λ_ H Q=>Q u0 H
def Ec(t:TE):TO:=λU H Q=>t U H λx H1=>∃i,x=.o i/\Q (y0 i) H1
section
variable{X:Cx}{e:Expr}{te:TE}{lo hi:Option Expr}{tl th:TO}{pos p2:Pos}
def uo:PO X u0 Ed:=by intro a s U H Q I h;exact FS ⟨u0,H,I,.none,h⟩
def WO(h:PE X e te):PO X (y0 e)<|Ec te:=by intro a s U H Q I b;refine aJ (h a s U H _ I b) ?_;rintro u j ⟨x,g,c,d,f⟩;obtain⟨i,rfl,q⟩:=f;obtain⟨t,rfl⟩:=d;exact⟨y0 i,g,c,.int i t,q⟩
def gW(X:Cx)(r:V->Option Int->Option Int->Hp->VK->Prop):Prop:=
 ∀(u7:List<|Addr×Obj)(s:Shared)(U:St)(H:Hp)(x:V)(v a b:Value)(lo hi:Option Int)(sl:Addr)(Q:VK),Inv X u7 U H s->RelV x v->s.j.IsSliceOf sl a b .w->IsPart a lo->IsPart b hi->r x lo hi H Q→
  ∃T id,typeLookup (.p T) "__getitem__"=pure (some<|.u id)/\s.TypeIs v T/\wpAny (model X.p X.w) X.A (getItem v<|.j sl) (EP X u7 U Q) X.xe s
def gW.or (h:gW X r)(h':gW X r'):gW X<|λx lo hi H Q=>r x lo hi H Q\/r' x lo hi H Q:=by
 intro a s U H x v b f lo hi sl Q I d c pl e q;obtain q|q:=q
 .exact h a s U H x v b f lo hi sl Q I d c pl e q
 .exact h' a s U H x v b f lo hi sl Q I d c pl e q
def F9(r:V->Option Int->Option Int->Hp->VK->Prop)(a:TE)(b th:TO):TE:=λU H Q=>a U H λx H1=>b U H1 λl H2=>th U H2 λu c=>r x l u c Q
def XO{r:V->Option Int->Option Int->Hp->VK->Prop}(F:gW X r)(G:PE X e te)(n:PO X lo tl)(t:PO X hi th):PE X (.w e (.L lo hi u0 p2) pos)<|F9 r te tl th:=by intro a s U H Q I h;refine Pt<|aJ (G a s U H _ I h) ?_;rintro v p ⟨x,J,m,y,C⟩;refine wpAny_Slice<|aJ (n a p U J _ m C) ?_;rintro d B⟨l,E,j,pl,A⟩;refine aJ (t a B U E _ j A) ?_;rintro f c ⟨u,g,D,K,z⟩;refine FS ?_;have w:Inv X a U g {c with heap:=c.j.u {cls:=.p "slice",data:=.p #[d,f,.w]}}:=D.kept (t':=c.p) fun b L q=>Aa3 _ q;obtain⟨T,id,i,k,o⟩:=F a {c with heap:=c.j.u {cls:=.p "slice",data:=.p #[d,f,.w]}} U g x v d f l u c.j.j.j Q w y (Heap.IsSliceOf.new ..) pl K z;exact tail_any (ops:=[.j c.j.j.j,v]) k i o<|by with_unfolding_all rfl
noncomputable def mm(xs:List V)(a hi:Option Int):List V:=(xs.J<|HT.aV xs.e 0 a).A<|HT.aV xs.e xs.e hi-HT.aV xs.e 0 a
def JH(xs:List V)(a hi:Option Int):(mm xs a hi).e<=xs.e:=by unfold mm;rw[Ae4,Ah4];lia
def rW(K:Aa5):V->Option Int->Option Int->Hp->VK->Prop:=λx lo hi H Q=>∃a xs,x=.j a/\cC K H a xs∧
 ¬(HT.aV xs.e 0 lo=0/\HT.aV xs.e xs.e hi=xs.e)/\∀p,H p=u0->Q (.j p) (aG H p<|.tup<|mm xs lo hi)
def DQ:gW X<|rW X.K:=by
 intro g s U H x v u y k n sl Q I p m pl t h;obtain⟨a,f,rfl,l,j,q⟩:=h;cases p;obtain⟨d,r,e,i⟩:=I.A l;have c:d.w.j=f.e:=by rw[Ac];exact r.e.j
 refine⟨"tuple",_,PyProof.Rows.slot_tuple_getitem.j,e.typeIs,?_⟩;refine HT.cI e m pl t (by rw[c];exact j) ?_ (by rw[c];exact i);rw[c];refine⟨.j s.j.j.j,_,I.T (t':=s.p) (o:=.tup _) (λb w q=>Aa3 _ q) (Aa4 _) ?_,rfl,q _<|I.aL.M<|Aa4 _⟩;exact⟨Ac0 (JH f k n) i,_,(r.drop _).take _,dg.new _ _⟩
def CQ(K:Aa5):R2:=λx y H Q=>∃a b xs ys,x=.j a/\y=.j b/\cC K H a xs/\cC K H b ys/\xs≠[]/\xs.e+ys.e<=sizeLine∧
 (ys=[]->Q (.j a) H)/\(ys≠[]->∀p,H p=u0->Q (.j p) (aG H p<|.tup<|xs++ys))
def Vals.dc {xs:List V}{us:List Value}(r:Vals xs us):us=[]↔xs=[]:=by
 cases r with
|nil=>simp
|cons _ _=>simp
def HG:b7 X (binaryOp .Add)<|CQ X.K:=by intro e s U H x y v u Q I r m h;obtain⟨a,b,B,C,rfl,rfl,n,t,i,f,p,l⟩:=h;cases r;cases m;obtain⟨j,d,A,_⟩:=I.A n;obtain⟨g,c,k,_⟩:=I.A t;refine HT.hj A k (λz=>i<|d.dc.j z) (λz=>⟨.j a,H,I,rfl,p<|c.dc.j z⟩) (λz=>?_) (by rw[←d.e,←c.e];exact f);refine⟨.j s.j.j.j,_,I.T (t':=s.p) (o:=.tup _) (λb D q=>Aa3 _ q) (Aa4 _) ?_,rfl,l (λw=>z<|c.dc.p w) _<|I.aL.M<|Aa4 _⟩;exact⟨by rw[Aa2];exact f,_,d.append c,dg.new _ _⟩
end
noncomputable def dU(n:Nat)(i:Int):Option Nat:=if 0<=i then(if i<n then y0 i.j else u0)else if-(n:Int)<=i then y0 (i+n).j else u0
def aY{α:Type}(xs:List α)(i:Int):Option α:=(dU xs.e i).p λj=>xs[j]?
def yl{n:Nat}{i:Int}{j:Nat}(h:dU n i=y0 j):seqIndex? i n=y0 j/\j<n/\-(n:Int)<=i/\i<n:=by
 unfold dU at h;by_cases b:0<=i
 .rw[Da b]at h;by_cases a:i<n
  .rw[Da a]at h;have e:=Af5.inj h;exact⟨by rw[Sk b a,e],by lia,by lia,a⟩
  .rw[Fk a]at h;cases h
 .rw[Fk b]at h;by_cases a:-n<=i
  .rw[Da a]at h;have e:=Af5.inj h;exact⟨by rw[RY YB a,e],by lia,a,by lia⟩
  .rw[Fk a]at h;cases h
def J6{α:Type}{xs:List α}{i:Int}{v:α}(h:aY xs i=y0 v):∃j,seqIndex? i xs.e=y0 j/\xs[j]?=y0 v/\j<xs.e/\-(xs.e:Int)<=i/\i<xs.e:=by
 unfold aY at h;cases e:dU xs.e i with
|none=>rw[e]at h;cases h
|some j=>rw[e]at h;obtain⟨a,d,c,b⟩:=yl e;exact⟨j,a,h,d,c,b⟩
def Jo{α:Type}{xs:List α}{j:Nat}{v:α}(h:xs[j]?=y0 v):aY xs (j:Int)=y0 v:=by
 have a:=(Ac1.j h).1;have e:dU xs.e j=y0 j:=by unfold dU;rw[Da<|Oy _,Da YB];simp
 unfold aY;rw[e];exact h
def J5(b:Expr):Prop:=∀o i,subscripted b u9 o i=operate [o,i] (getItem o i)
def gT(X:Cx)(r:R2):Prop:=
 ∀(value a:Expr)(u7:List<|Addr×Obj)(s:Shared)(U:St)(H:Hp)(x y:V)(v u:Value)(Q:VK),Inv X u7 U H s->RelV x v->RelV y u->r x y H Q→
  subscripted a u9 v u=operate [v,u] (getItem v u)->wpAny (model X.p X.w) X.A (subscriptTail value a v u) (EP X u7 U Q) X.xe s
def BA(X:Cx)(id:String)(r:V->List V->Hp->VK->Prop):Prop:=
 ∀(u7:List<|Addr×Obj)(s:Shared)(U:St)(H:Hp)(x:V)(xs:List V)(v:Value)(us:List Value)(Q:VK),Inv X u7 U H s->RelV x v->Vals xs us->r x xs H Q→
  wpAny (model X.p X.w) X.A (call (.u id)<|v::us) (EP X u7 U Q) X.xe s
section
variable{X:Cx}{a b:Expr}{ta tb:TE}{pos:Pos}
def gT.or {r d:R2}(h:gT X r)(h':gT X d):gT X<|λx y H Q=>r x y H Q\/d x y H Q:=by
 intro a b c s U H x y v u Q I g f q e;obtain q|q:=q
 .exact h a b c s U H x y v u Q I g f q e
 .exact h' a b c s U H x y v u Q I g f q e
def ua{r:R2}(k:gT X r)(i:PE X a ta)(m:PE X b tb)(e:J5 b):PE X (.w a b pos)<|mP r ta tb:=by intro c s U H Q I h;exact Pt<|ot i m I h λv u g x y j d l f q=>k a b c g U j x y v u Q d l f q<|e _ _
def uI(K:Aa5):R2:=λx y H Q=>∃p xs i v,x=.j p/\y=.o i/\bu K H p xs/\aY xs i=y0 v/\Q v H
def As(K:Aa5):R2:=λx y H Q=>∃p xs i v,x=.j p/\y=.o i/\cC K H p xs/\aY xs i=y0 v/\Q v H
def AM:R2:=λx y H Q=>∃z i c,x=.m z/\y=.o i/\z.e<=sizeLine/\aY z.j.p i=y0 c/\Q (.m ⟨#[c]⟩) H
def iu:gT X<|uI X.K:=by
 intro e f a s U H x y v u Q I E B h m;obtain⟨p,J,i,z,rfl,rfl,C,F,q⟩:=h;cases E;obtain⟨t,rfl⟩:=B;obtain⟨c,r,pl,K⟩:=I.C C;obtain⟨j,b,A,M,D,o⟩:=J6 F;obtain⟨w,l,d⟩:=r.get A;have n:=r.e;have L:=qE;have fin:EP X a U Q w s:=⟨z,H,I,d,q⟩;by_cases k:0<=i
 .have g:=by rw[Sk k o]at b;exact Af5.inj b
  exact item_listR pl.I k YB (by rw[g];simpa using l) fin m
 .have g:(i+c.w.j).j=j:=by rw[RY YB D]at b;rw[Ac,←n];exact Af5.inj b
  exact Rc (x:=w) pl.I.typeIs slot_list_getitem.j
   (wpAny_getItem_list_neg (Q:=λr G=>r=w/\EP X a U Q r G) pl.I YB (by simp_all) YB (by rw[g];simpa using l) ⟨rfl,fin⟩) m
def aA:gT X<|As X.K:=by
 intro c d a s U H x y v u Q I n l h k;obtain⟨p,D,i,z,rfl,rfl,m,o,q⟩:=h;cases n;obtain⟨t,rfl⟩:=l;obtain⟨f,r,pl,E⟩:=I.A m;obtain⟨j,J,e,K,F,C⟩:=J6 o;obtain⟨w,g,b⟩:=r.get e;have B:=r.e;have G:=qE;have fin:EP X a U Q w s:=⟨z,H,I,b,q⟩;exact Rc (x:=w) pl.typeIs slot_tuple_getitem.j
  (getItem_tuple (j:=j) (Q:=λr A=>r=w/\EP X a U Q r A) pl YB YB (by simp_all) (by simpa using g) ⟨rfl,fin⟩) k
def qT:gT X AM:=by
 intro a b d s U H x y v u Q I r n h m;obtain⟨z,i,c,rfl,rfl,B,w,q⟩:=h;obtain⟨t,rfl⟩:=r;obtain⟨A,rfl⟩:=n;obtain⟨j,e,l,D,o,g⟩:=J6 w;have f:z.j.p.e=z.e:=by simp[Str.length]
 rw[f]at e o g;have C:=qE;exact tail_any (Pu s z t) slot_str_getitem.j (getItem_str (c:=c) (by have p:k8 (i< -(2^63:Int))=false:=Do YB;have k:k8 (i>=2^63)=false:=Do YB;rw[p,k,SI]) (by rw[e];simpa using l) ⟨.m ⟨#[c]⟩,H,I.tok _,⟨_,rfl⟩,q⟩) m
def KL(K:Aa5):R2:=λx y H Q=>uI K x y H Q\/As K x y H Q\/AM x y H Q
def EJ:gT X<|KL X.K:=iu.or<|aA.or qT
def NJ(a:List Value)(n j:Nat)(u:Value):Obj.mapSeq (·.u j u) {cls:=.p "list",data:=.j a.w n}={cls:=.p "list",data:=.j (a.B j u).w n}:=by simp[Obj.mapSeq]
theorem Inv.lst {b:List<|Addr×Obj}{U:St}{H:Hp}{s:Shared}{p:Addr}{xs:List V}(I:Inv X b U H s)(h:H p=y0 (.u xs)):
 ∃(a:List Value)(n:Nat),Vals xs a/\s.j.p p=y0 {cls:=.p "list",data:=.j a.w n}/\xs.e<=sizeLine:=by
 obtain⟨z,a,n,r,e⟩:=I.aL p _ h;exact⟨a,n,r,e,z⟩
def Inv.kf {a:List<|Addr×Obj}{U:St}{H:Hp}{s:Shared}{p:Addr}{xs g:List V}{c its':List Value}{n d:Nat}{f:Obj->Obj}(I:Inv X a U H s)(h:H p=y0 (.u xs))
 (k:s.j.p p=y0 {cls:=.p "list",data:=.j c.w n})(i:f {cls:=.p "list",data:=.j c.w n}={cls:=.p "list",data:=.j its'.w d})(r:Vals g its')(j:g.e<=sizeLine)(t:Nat):
 Inv X a U (aG H p<|.u g) {s with heap:=s.j.w p f,toks:=t}:=by
 have e:(s.j.w p f).p p=y0 {cls:=.p "list",data:=.j its'.w d}:=by rw[Ag1 f k<|by rw[i]<;>rfl,i]
 refine I.write (x:=p) (e:=p) (by rw[h];trivial) (.p rfl) (λb u l q=>(Ae7 _ _<|Ne.symm l).x q) ⟨_,e⟩ ?_;exact⟨j,its',d,r,e⟩
def MG:V->V->V->Hp->(Hp->Prop)->Prop:=λo i v H Q=>∃p xs k j,o=.j p/\i=.o k/\H p=y0 (.u xs)/\dU xs.e k=y0 j/\Q (aG H p<|.u<|xs.B j v)
def X7:Ay X MG:=by
 intro l s U H o i v D F u Q I w x rv h;obtain⟨p,B,k,j,rfl,rfl,e,y,q⟩:=h;cases w;obtain⟨t,rfl⟩:=x;obtain⟨a,n,r,d,E⟩:=I.lst e;obtain⟨b,C,A,z⟩:=yl y;have m:=r.e;have G:=qE;have f:=
  I.kf e d (NJ a n j u) (r.set rv j) (by simp_all) s.p
 by_cases g:0<=k
 .have c:=by rw[Sk g z]at b;exact Af5.inj b
  exact PySem.W.ki_setAt d g YB (by simp_all)<|by rw[c];exact⟨_,f,q⟩
 .have c:(k+a.w.j).j=j:=by rw[RY YB A]at b;rw[Ac,←m];exact Af5.inj b
  exact PySem.W.ki_setBack d YB (by simp_all) YB<|by rw[c];exact⟨_,f,q⟩
def JX(a hi:Option Int)(n:Nat):(sliceBounds a hi u0 n).1=((HT.aV n 0 a:Nat):Int)/\(sliceBounds a hi u0 n).2.1=((HT.aV n n hi:Nat):Int)/\(sliceBounds a hi u0 n).2.2=1:=by
 refine⟨?_,?_,rfl⟩
 .cases a with
|none=>simp[sliceBounds,HT.aV]
|some i=>
   simp[sliceBounds,HT.aV,Oi];by_cases h:i<0
   .simp[h,Oi]<;>lia
   .simp[h,OD]<;>lia
 .cases hi with
|none=>simp[sliceBounds,HT.aV]
|some i=>
   simp[sliceBounds,HT.aV,Oi];by_cases h:i<0
   .simp[h,Oi]<;>lia
   .simp[h,OD]<;>lia
def QO(a:List Value)(b hi:Option Int):slicePick a.w b hi u0=((a.J<|HT.aV a.e 0 b).A<|HT.aV a.e a.e hi-HT.aV a.e 0 b).w:=by obtain⟨c,e,d⟩:=JX b hi a.w.j;unfold slicePick;rw[c,e,d];simp only[sliceRange_one,pick_run,Ac]<;>rfl
def rk(K:Aa5):V->Option Int->Option Int->Hp->VK->Prop:=λx lo hi H Q=>∃a xs,x=.j a/\bu K H a xs/\∀p,H p=u0->Q (.j p) (aG H p<|.u<|mm xs lo hi)
def ig:gW X<|rk X.K:=by intro e s U H x v t w f m sl Q I n k pl p h;obtain⟨a,i,rfl,g,q⟩:=h;cases n;obtain⟨j,r,d,l⟩:=I.C g;have c:=r.e;refine⟨"list",_,slot_list_getitem.j,d.I.typeIs,?_⟩;refine PJ d.I k pl p .none YC ?_ (by simp_all);rw[QO,←c];refine⟨.j s.j.j.j,_,I.T (t':=s.p) (o:=.u _) (λb u q=>Aa3 _ q) (Aa4 _) ?_,rfl,q _<|I.aL.M<|Aa4 _⟩;exact⟨Ac0 (JH i f m) l,_,0,(r.drop _).take _,Ab6 _ rfl⟩
noncomputable def ZJ:V->Bool
|.aj=>k9
|.C _=>k9
|.o _=>k9
|.m _=>k9
|_=>u9
noncomputable def hJ:V->V->Bool
|.aj,.aj=>k9
|.C a,.C b=>a==b
|.C a,.o b=>(if a then 1 else 0)==b
|.o a,.C b=>a==(if b then 1 else 0)
|.o a,.o b=>a==b
|.m a,.m b=>a==b
|_,_=>u9
def EH{A:Around}{s:Shared}{y x:V}{u v:Value}(e:RelV y u)(c:RelV x v)(f:ZJ y=k9)(fx:ZJ x=k9):SeqAt.EqAt A s u v<|hJ y x:=by
 cases y with
|aj=>
  cases e;cases x with
 |aj=>cases c;exact SeqAt.EqAt.same _
 |bl b=>cases c;exact SeqAt.EqAt.none_bool b
 |int b=>obtain⟨t,rfl⟩:=c;exact SeqAt.EqAt.none_int b t
 |str b=>obtain⟨t,rfl⟩:=c;exact SeqAt.EqAt.none_str b t
 |_=>exact absurd (show u9=k9 from fx) Ab0
|bl a=>
  cases e;cases x with
 |aj=>cases c;exact SeqAt.EqAt.bool_none a
 |bl b=>cases c;exact SeqAt.EqAt.bool_bool a b
 |int b=>obtain⟨t,rfl⟩:=c;exact SeqAt.EqAt.bool_int a b t
 |str b=>obtain⟨t,rfl⟩:=c;exact SeqAt.EqAt.bool_str a b t
 |_=>exact absurd (show u9=k9 from fx) Ab0
|int a=>
  obtain⟨d,rfl⟩:=e;cases x with
 |aj=>cases c;exact SeqAt.EqAt.int_none a d
 |bl b=>cases c;exact SeqAt.EqAt.int_bool a d b
 |int b=>obtain⟨t,rfl⟩:=c;exact SeqAt.EqAt.int_int a d b t
 |str b=>obtain⟨t,rfl⟩:=c;exact RS a d b t
 |_=>exact absurd (show u9=k9 from fx) Ab0
|str a=>
  obtain⟨d,rfl⟩:=e;cases x with
 |aj=>cases c;exact SeqAt.EqAt.str_none a d
 |bl b=>cases c;exact SeqAt.EqAt.str_bool a d b
 |int b=>obtain⟨t,rfl⟩:=c;exact RT a d b t
 |str b=>obtain⟨t,rfl⟩:=c;exact SeqAt.EqAt.str_str a d b t
 |_=>exact absurd (show u9=k9 from fx) Ab0
|_=>exact absurd (show u9=k9 from f) Ab0
def i6(x:V)(u:Value):Bool:=match u with
|.w=>hJ .aj x
|.y b=>hJ (.C b) x
|.o i _=>hJ (.o i) x
|.m z _=>hJ (.m z) x
|_=>u9
def sf{x y:V}{u:Value}(r:RelV y u)(f:ZJ y=k9):i6 x u=hJ y x:=by
 cases y with
|aj=>cases r;rfl
|bl b=>cases r;rfl
|int i=>obtain⟨t,rfl⟩:=r;rfl
|str z=>obtain⟨t,rfl⟩:=r;rfl
|_=>exact absurd (show u9=k9 from f) Ab0
theorem jE{x:V}:∀{xs:List V}{us:List Value},Vals xs us->xs.N ZJ=k9->us.G (i6 x)=xs.G λy=>hJ y x
|_,_,.p,_=>rfl
|y::xs,u::us,.j r t,f=>by rw[Ai,Aa9]at f;rw[Ah9,Ah9,sf r f.1,jE t f.2]
theorem Jx{A:Around}{s:Shared}{x:V}{v:Value}(b:RelV x v)(fx:ZJ x=k9):∀{xs:List V}{us:List Value},Vals xs us->xs.N ZJ=k9->∀u∈us,SeqAt.EqAt A s u v<|i6 x u
|_,_,.p,_=>λu a=>by cases a
|y::xs,u::us,.j r t,f=>λc a=>by
  rw[Ai,Aa9]at f;rcases Aa6.j a with rfl|a
  .rw[sf r f.1];exact EH r b f.1 fx
  .exact Jx b fx t f.2 c a
def i7(x:V)(xs:List V):Bool:=xs.G λy=>hJ y x
def uV(K:Aa5)(neg:Bool):R2:=λx y H Q=>∃p xs,y=.j p/\(bu K H p xs\/cC K H p xs)/\ZJ x=k9/\xs.N ZJ=k9/\Q (.C<|if neg then !i7 x xs else i7 x xs) H
def K5:b7 X (compareOp .In)<|uV X.K u9:=by
 intro c s U H x y v u Q I d g h;obtain⟨p,i,rfl,b,fx,fs,q⟩:=h;cases g;obtain b|b:=b
 .obtain⟨a,r,pl,f⟩:=I.C b;refine Sx _ pl.I (λw e=>Jx d fx r fs w<|by simp_all) ⟨.C _,H,I,rfl,?_⟩;rw[show a.w.any _=a.G (i6 x)by simp,jE r fs];exact q
 .obtain⟨a,r,pl,f⟩:=I.A b;refine SeqAt.in_tupleAt _ pl (λw e=>Jx d fx r fs w<|by simp_all) ⟨.C _,H,I,rfl,?_⟩;rw[show a.w.any _=a.G (i6 x)by simp,jE r fs];exact q
def wS:b7 X (compareOp .NotIn)<|uV X.K k9:=by
 intro c s U H x y v u Q I d g h;obtain⟨p,i,rfl,b,fx,fs,q⟩:=h;cases g;obtain b|b:=b
 .obtain⟨a,r,pl,f⟩:=I.C b;refine RZ _ pl.I (λw e=>Jx d fx r fs w<|by simp_all) ⟨.C _,H,I,rfl,?_⟩;rw[show a.w.any _=a.G (i6 x)by simp,jE r fs];exact q
 .obtain⟨a,r,pl,f⟩:=I.A b;refine SeqAt.notIn_tupleAt _ pl (λw e=>Jx d fx r fs w<|by simp_all) ⟨.C _,H,I,rfl,?_⟩;rw[show a.w.any _=a.G (i6 x)by simp,jE r fs];exact q
def wT:b7 X (compareOp .NotIn)<|λx y H Q=>∃i j,x=.m i/\y=.m j/\Q (.C<|!(!(Builtin.Str.occurrences j i 0 j.e 1).y)) H:=by intro a s U H x y v u Q I c b h;obtain⟨i,j,rfl,rfl,q⟩:=h;obtain⟨t,rfl⟩:=c;obtain⟨d,rfl⟩:=b;exact notIn_str ⟨.C _,H,I,rfl,q⟩
def QS:Xr X (.u "len")<|fun xs H Q=>∃p ys,xs=[.j p]/\(bu X.K H p ys\/cC X.K H p ys)/\Q (.o ys.e) H:=by
 intro e s U H xs i Q I r h;obtain⟨p,ys,rfl,b,q⟩:=h;obtain⟨u,rfl,g⟩:=jK r;cases g;have j:=qE;obtain b|b:=b
 .obtain⟨d,c,pl,f⟩:=I.C b;have a:=c.e;exact Calls.call_len_list pl.I (by simp[Ac]<;>lia) ⟨.o ys.e,H,I.tok _,⟨s.p+1,by rw[Ac,a]⟩,q⟩
 .obtain⟨d,c,pl,f⟩:=I.A b;have a:=c.e;exact len_tuple pl (by simp[Ac]<;>lia) ⟨.o ys.e,H,I.tok _,⟨s.p+1,by rw[Ac,a]⟩,q⟩
def JV:Xr X (.u "len")<|fun xs H Q=>∃z,xs=[.m z]/\z.e<=sizeLine/\Q (.o z.e) H:=by intro a s U H xs d Q I r h;obtain⟨z,rfl,b,q⟩:=h;obtain⟨u,rfl,t,rfl⟩:=jK r;have c:=qE;exact len_str YB ⟨.o z.e,H,I.tok _,⟨_,rfl⟩,q⟩
def zX:Xr X (.p "list")<|fun xs H Q=>∃p ys,xs=[.j p]/\(bu X.K H p ys\/cC X.K H p ys)/\∀l,H l=none->Q (.j l) (aG H l<|.u ys):=by
 intro i s U H xs x Q I r h;obtain⟨p,ys,rfl,k,q⟩:=h;obtain⟨u,rfl,w⟩:=jK r;cases w;have fin:∀a,Vals ys a->ys.e<=sizeLine->∀b d,_→
  b.p s.j.j.j=some {cls:=.p "list",dict:=none,data:=.j a.w d,slots:=#[]}->EP X i U Q _ {s with heap:=b}:=fun a c j b d g e=>
  ⟨.j s.j.j.j,_,I.T (t':=s.p) g (Aa4 _)<|show aO X.p X.w _ b _ (.u ys)from⟨j,a,d,c,e⟩,rfl,q _<|I.aL.M<|Aa4 _⟩
 obtain k|k:=k
 .obtain⟨a,c,pl,j⟩:=I.C k;have f:=c.e;obtain⟨o,m,t,n,v⟩:=pl.I;exact call_list_seq p (.p rfl) m t v (λb d g e=>fin a c j b d g e)<|by simp_all
 .obtain⟨a,c,pl,j⟩:=I.A k;have f:=c.e;obtain⟨o,m,t,n,v⟩:=pl;exact call_list_seq p (.u rfl) m t v (λb d g e=>fin a c j b d g e)<|by simp_all
def Xh:Xr X (.p "tuple")<|fun xs H Q=>∃p ys,xs=[.j p]/\((bu X.K H p ys/\∀l,H l=none->Q (.j l) (aG H l<|.tup ys))\/(cC X.K H p ys/\Q (.j p) H)):=by
 intro i s U H xs v Q I r h;obtain⟨p,ys,rfl,h⟩:=h;obtain⟨u,rfl,t⟩:=jK r;cases t;obtain⟨d,q⟩|⟨d,q⟩:=h
 .obtain⟨a,c,pl,j⟩:=I.C d;have f:=c.e;refine call_tuple_list pl.I (λn m=>?_) (by simp_all);have g:=I.kept (t':=s.p) m;have k:=
   g.T (t':=s.p) (λb o e=>Aa3 _ e) (Aa4 _)<|show aO X.p X.w _ _ _ (.tup ys)from⟨j,a,c,dg.new _ _⟩
  exact⟨.j n.j.j,_,k,rfl,q _<|g.aL.M<|Aa4 _⟩
 .obtain⟨a,c,pl,j⟩:=I.A d;exact call_tuple_same pl ⟨.j p,H,I,rfl,q⟩
def vV(K:Aa5)(T:String)(x:V)(H:Hp):Prop:=match x with
|.m _=>T="str"
|.o _=>T="int"
|.j p=>(T="list"/\∃xs,bu K H p xs)\/(T="tuple"/\∃o,K.j p=some o/\o.cls=.p "tuple"/\o.u=none)∨
  (T="dict"/\((∃kvs,H p=some (.dK kvs))\/∃kvs,H p=some (.dT kvs)))\/(T="set"/\∃S n,H p=some (.set S n))
|_=>False
def Nn{d:List<|Addr×Obj}{U:St}{H:Hp}{s:Shared}{T:String}{x:V}{v:Value}(I:Inv X d U H s)(r:RelV x v)(ty:vV X.K T x H):
 s.TypeIs v T/\∀a,v=.j a->∃L,s.j.p a=y0 L/\L.u=none:=by
 cases x with
|str z=>obtain⟨t,rfl⟩:=r;cases(show T="str" from ty);exact⟨Pu s z t,λ_ e=>nomatch e⟩
|int i=>obtain⟨t,rfl⟩:=r;cases(show T="int" from ty);exact⟨Pv s i t,λ_ e=>nomatch e⟩
|ref p=>
  cases r;obtain⟨rfl,m,k⟩|⟨rfl,o,b,l,g⟩|⟨rfl,b⟩|⟨rfl,S,n,b⟩:=ty
  .obtain⟨j,_,pl,_⟩:=I.C k;refine⟨pl.I.typeIs,λa e=>?_⟩;cases e;obtain⟨o,n,e,c,g,_⟩:=pl;exact⟨o,e,g⟩
  .refine⟨⟨o,I.bE p o b,l⟩,λa e=>?_⟩;cases e;exact⟨o,I.bE _ o b,g⟩
  .have z:∃o,s.j.p p=y0 o/\o.ExactDict:=by
    obtain⟨h,b⟩|⟨h,b⟩:=b
    .obtain⟨_,_,_,_,o,_,_,e,ex,_⟩:=I.aL p _ b;exact⟨o,e,ex⟩
    .obtain⟨_,_,_,_,o,_,_,e,ex,_⟩:=I.aL p _ b;exact⟨o,e,ex⟩
   obtain⟨o,e,ex⟩:=z;refine⟨⟨o,e,ex.1⟩,λa f=>?_⟩;cases f;exact⟨o,e,ex.2.1⟩
  .obtain⟨o,_,_,_,e,ex,_⟩:=I.aL p _ b;refine⟨⟨o,e,ex.1⟩,λa f=>?_⟩;cases f;exact⟨o,e,ex.2.1⟩
|_=>exact False.elim ty
def BE(K:Aa5)(T:String)(r:V->List V->Hp->VK->Prop)(a:TE)(t:TA):TE:=λU H Q=>a U H λx H1=>vV K T x H1/\t U H1 λxs H2=>r x xs H2 Q
variable{o e:Expr}{es:List Expr}{to:TE}{t:TA}{name:Str}{apos cpos:Pos}{T id:String}{r:V->List V->Hp->VK->Prop}
def uM(z:PlainAttrs T)(f:Slot T name id)(i:typeOf (.u id)=pure (.p "method_descriptor"))(w:BA X id r)(G:PE X o to)(D:PA X (e::es) t)
 (c:attributeBase o name X.j (eval o X.j)=eval o X.j:=by rfl)
 (d:((backTo cpos<|starEach (e::es) X.j).N (λx=>!x.1)&&(backToKw cpos<|keywordEach [] X.j).N (λx=>x.1.w)
   &&k8 ((e::es).e+([]:List Keyword).e+(if([]:List Keyword).y then 0 else 1)<30))=true:=by rfl)
 (b:(apos.p==cpos.j)=true:=by rfl)(A:starEach (e::es) X.j=(u9,eval e X.j)::starEach es X.j:=by rfl)(g:(backTo cpos<|starEach es X.j).G (·.1)=false:=by rfl):
 PE X (.u (.p o name apos) (e::es) [] cpos)<|BE X.K T r to t:=by
 intro a s U H Q I h;refine Re c d b rfl<|aJ (G a s U H _ I h) ?_;rintro v q ⟨x,K,j,k,ty,E⟩;obtain⟨J,y⟩:=Nn j k ty;refine⟨T,id,z,f,i,J,y,?_⟩;have l:=D cpos a q U K _ j E;rw[A]at l⊢;refine Rf (by assumption)<|Pe ?_;exact aJ l<|by rintro n C⟨u,F,m,p,B⟩;exact w a C U F x u v n Q m k p B
end
def mQ(X:Cx)(id:String)(r:V->List V->Hp->VK->Prop):Prop:=
 ∀(u7:List<|Addr×Obj)(s:Shared)(U:St)(H:Hp)(x:V)(xs:List V)(v:Value)(us:List Value)(Q:VK),Inv X u7 U H s->RelV x v->Vals xs us->r x xs H Q→
  wpAny (model X.p X.w) X.A (call (.u id)<|v::us) (EP X u7 U Q) X.xe s
def Vals.one:∀{x:V}{us:List Value},Vals [x] us->∃u,us=[u]/\RelV x u
|_,_,.j r .p=>⟨_,rfl,r⟩
theorem Vals.rep {xs:List V}{us:List Value}(h:Vals xs us):∀k:Nat,Vals (Aa1 k xs).L (Aa1 k us).L
|0=>.p
|k+1=>by rw[Ac4,Ac4,Ag7,Ag7];exact Vals.append h<|Vals.rep h k
theorem ZS(b:List Value):∀(k:Nat)(a:List Value),
 List.foldl (λM L=>M++L) a.w (Aa1 k b.w)=(a++(Aa1 k b).L).w
|0,a=>by simp
|k+1,a=>by
  have e:a.w++b.w=(a++b).w:=by simp
  have c:(a++b)++(Aa1 k b).L=a++(Aa1 (k+1) b).L:=by rw[Ac4,Ag7,Af8]
  rw[←c,←ZS b k<|a++b,←e,Ac4,Af3]
section
variable{X:Cx}{u7:List<|Addr×Obj}{U:St}{H:Hp}{s:Shared}{l b:Addr}{xs ys zs:List V}
def Inv.px {a its':List Value}{n:Nat}{f:Array Value->Array Value}{t':Nat}(I:Inv X u7 U H s)(c:H l=y0 (.u xs))
 (e:s.j.p l=y0 {cls:=.p "list",data:=.j a.w n})(g:f a.w=its'.w)(h:Vals ys its')(b:ys.e<=sizeLine):
 Inv X u7 U (aG H l<|.u ys) {s with heap:=s.j.w l<|Obj.mapSeq f,toks:=t'}:=by
 have q:=PySem.IsL.update e f;rw[g]at q;refine I.write (x:=l) (e:=l) (by rw[c];exact trivial) (.p rfl) (λj u d i=>(Ae7 s.j _<|Ne.symm d).x i) ⟨_,q⟩ ?_;exact⟨b,its',_,h,q⟩
def Inv.mG {a:List Value}{t':Nat}(I:Inv X u7 U H s)(c:Vals ys a)(b:ys.e<=sizeLine):
 Inv X u7 U (aG H s.j.j.j<|.u ys) {s with heap:=s.j.u {cls:=.p "list",data:=.j a.w},toks:=t'}:=
 I.T (λ_ _ q=>Aa3 _ q) (Aa4 _) ⟨b,a,0,c,Ab6 _ rfl⟩
theorem Inv.fresh (I:Inv X u7 U H s):H s.j.j.j=none:=I.aL.M<|Aa4 _
def Inv.rL (I:Inv X u7 U H s)(b:H l=y0 (.u xs)):xs.e<=sizeLine/\∃(a:List Value)(n:Nat),Vals xs a/\xs.e=a.e/\s.j.p l=y0 {cls:=.p "list",data:=.j a.w n}:=by obtain⟨z,a,n,r,e⟩:=I.aL l _ b;exact⟨z,a,n,r,r.e,e⟩
def Ig{n:Nat}(h:n<=sizeLine):Builtin.List.listTooLong n=false:=by exact Do<|Nat.not_lt.2 ‹_›
end
section
variable{X:Cx}
def MN:V->List V->Hp->VK->Prop:=λx vs H Q=>∃l xs y,x=.j l/\vs=[y]/\H l=y0 (.u xs)/\xs.e<sizeLine/\Q .aj (aG H l<|.u<|xs++[y])
def zW:mQ X "list.append" MN:=by intro c s U H x j v g Q I f rv h;obtain⟨l,k,y,rfl,rfl,b,m,q⟩:=h;cases f;obtain⟨u,rfl,d⟩:=rv.one;obtain⟨z,a,n,r,i,e⟩:=I.rL b;refine OR R0 ⟨_,e,rfl⟩ RK (Rv _ _) (Sg l a.w n u<|by simp_all) ⟨e,?_⟩;refine⟨.aj,_,I.px (its':=a++[u]) b e YC (r.append<|.j d .p) ?_,rfl,q⟩;rw[Aa2,Aj5];exact YD
def Hy{α:Type}(xs:List α)(k:Nat):(Aa1 k xs).L.e=k*xs.e:=by
 induction k with
|zero=>simp
|succ k a=>rw[Ac4,Ag7,Aa2,a,SM,Nat.add_comm]
end
end Lake
namespace Att
open PySem PySem.W PySem.Calls PyProof.Rows
def qF{P:Params}{h:Heap}:∀(ns:List Int)(vs:List Value),WellAll P h vs (ns.u WData.int)->IntsAre vs ns:=by
 intro ns;induction ns with
|nil=>intro vs w;cases w;exact .nil
|cons n ns c=>
  intro vs w;cases w with
|cons a b=>cases a;exact .cons _ _<|c _ b
def LV{l:OpenLaw}{n:Nat}(s:l.most=y0 n){P:Params}{h:Heap}{b:List WData}{c:List Value}
 (e:l.row.toRowW.claim.pre b=k9)(m:WellAll P h c b):
 ∃a vs ns,c=[Value.ref a]/\b=[WData.list (ns.u WData.int)]/\h.p a=y0 {cls:=.p "list",data:=.j vs.w}/\IntsAre vs ns/\ns.e<=n:=by
 have k:=(pre_splitW e).1;have w:=(pre_splitW e).2;obtain⟨d,r,rfl,v,p⟩:=hasAllW_cons k;obtain rfl:=hasAllW_nil p;obtain⟨z,rfl,x⟩:=hasW_list v;obtain⟨ns,rfl⟩:=items_int x;have f:ns.e<=n:=by
  have j:=by have j:=(holds_andW w).1;rw[s]at j;exact j
  have i:=condW_of j<|w_not<|w_lt w_lit<|w_len_list<|w_arg rfl;rw[Ab]at i;refine Ox λq=>?_;have t:n<((ns.e:Nat):Int):=by lia
  first
|(rw[FM t]at i;exact absurd i YA)
  |(simp at i)
 cases m with
|cons o y=>
  cases y;cases o with
|list u g=>exact⟨_,_,ns,rfl,rfl,u,qF ns _ g,f⟩
def FK(l:OpenLaw)(a:List WData):l.row.toRowW.claim.post a (.bool k9) a=true:=
 postW_of (r:=l.row.toRowW) (X:=(k9==k9))
  (show WShape.has [] _ .bool=k9 by first|rfl|decide|simp[WShape.armsAll])
  (show(WTm.eq .res _).value [] {args:=a,res:=y0 _,after:=a}=y0 (.bool _)from w_eq_bool (w_res rfl) w_lit) rfl
def eh{l:OpenLaw}{n:Nat}{q:Program}{c:List Str}{XP:(Str->Option Value)->Heap->Prop}{C:World->Heap->Prop}{d:DefRec}
 (M:l.most=y0 n)(v:d.params.defaults=[])
 (call:∀(w:World)(e b:Shared)(mg y:Str->Option Value)(j:Addr)(o:Obj)(s p g:Value)(a:Addr)(vs:List Value)(ns:List Int),
   Ground q c [] XP w e mg y b.j->C w b.j→
   b.j.p j=y0 o->o.j=.func (docDef d.name d.params d.body d.scope s p g)->b.j.CodeRec p d.name->mg d.name=y0 (.j j)→
   b.j.p a=y0 {cls:=.p "list",data:=.j vs.w}->IntsAre vs ns->ns.e<=n->b.u=#[]→
   codeAny (model l.prog w) callerA (.call (.j j) ⟨[.j a],[]⟩) (λr s'=>r=.ok (.ret<|.y k9)/\OldK b.j s'.j/\s'.os=b.os/\AllBare s'.u) b):
 WalkO q c XP C l.row.toRowW d []<|λf vs=>PySem.call f vs:=by
 intro w e b mg y G Y j o s p g J kV O P u z x E D A R m B N t F;obtain rfl:J=.w:=Dflts.none z v;obtain rfl:kV=.w:=Dflts.noKw z;obtain⟨a,vs,ns,rfl,rfl,k,h,i⟩:=LV M m t;refine enter_call<|Ow (call w e b mg y j o s p g a vs ns G Y O (fd_plain P) u x k h i E) λr s' K=>?_;obtain⟨rfl,I,Q,L⟩:=K;exact⟨.p ⟨.y k9,.bool k9,[],rfl,λ_=>rfl,.bool k9,FK l _,λ_=>⟨Ak.nil,λ_ H=>(nomatch H)⟩⟩,I,Q,L⟩
end Att
namespace Lake
open PySem PySem.Spec PyProof.Rows
theorem ZT:∀{vs:List Value}{ns:List Int},IntsAre vs ns->Vals (ns.u V.int) vs
|_,_,.nil=>.p
|_,_,.cons n t h=>.j ⟨t,rfl⟩<|ZT h
def rE(H:Hp):Prop:=∀b,H b=u0\/∃o xs,H b=y0 (.eF o<|.lst xs)
def C1{P:Program}{w:World}{K:Aa5}{mg O:Str->Option Value}{W:gm}{k:Nat}{J a:Addr}{X:FuncData}{x:Str}{sp:Sp}{c:Shared}{vs:List Value}{ns:List Int}
 (T:K.In c.j)(G:c.j.Ns mainGlobals mg)(f:c.j.Ns builtinsNs O)(R:∀x:Str,x≠"__name__"->O x=bootBuiltins x)(C:c.j.NoLimit)(hg:c.u=#[])
 (I:c.j.p a=y0 {cls:=.p "list",data:=.j vs.w})(hi:IntsAre vs ns)(Z:ns.e<=sizeLine)(hr:aM k callerA)
 (F:∀base:Heap,K.In base->base.Ns mainGlobals mg->bj P w K mg base W k J X [x] sp)(j:∀(s:Shared)(u:Value),BindsTo s X ⟨[u],[]⟩ [(x,u)])
 (S:∀H:Hp,rE H->bu K H a (ns.u V.int)->sp [.ref a] H (λv _=>v=.bl k9) λ_ _ _=>False)
 (L:∀H e s',W [] H c (λ_ _ _=>False) e s'->False):
 codeAny (model P w) callerA (.call (.j J) ⟨[.j a],[]⟩) (λr s'=>r=.ok (.ret<|.y k9)/\OldK c.j s'.j/\s'.os=c.os/\AllBare s'.u) c:=by
 have rv:=ZT hi;have y:=hi.length;have i:∀H:Hp,rE H->bu K H a (ns.u V.int)->cZ P w H c.j->(∀b,H b≠u0->b=a)->(H a≠u0->K.j a=u0)→
  codeAny (model P w) callerA (.call (.j J) ⟨[.j a],[]⟩) (λr s'=>r=.ok (.ret<|.y k9)/\OldK c.j s'.j/\s'.os=c.os/\AllBare s'.u) c:=by
  intro H hO hS A Y hK;have bF:∀{b:Addr}{o:Obj},c.j.p b=y0 o->H b=u0->(lH c.j H).p b=y0 o:=λe n=>Em e n;have Q:∀{b:Addr}{o:Obj}{D:Array DictEntry}{p:Nat},c.j.p b=y0 o->o.j=.u D p->H b=none:=λ{b o D p} e d=>by
   cases q:H b with
|none=>rfl
|some u=>have M:b=a:=Y b (by rw[q];simp);subst M;rw[I]at e;cases e;have d':Data.seq vs.w _=Data.dict D p:=d;cases d'
  have g:∀{b:Addr}{m:Str->Option Value},c.j.Ns b m->(lH c.j H).Ns b m:=λ{b m} ⟨o,D,p,e,d,r⟩=>⟨o,D,p,bF e<|Q e d,d,r⟩;have t:K.In _:=λb o e=>bF (T b o e)<|by
   cases q:H b with
|none=>rfl
|some u=>have M:b=a:=Y b (by rw[q];simp);subst M;rw[hK<|by rw[q];simp]at e;cases e
  have hM:Mod K mg _:=⟨t,g G,⟨O,g f,R⟩,let⟨mc,h1,h2⟩:=C;⟨mc,g h1,h2⟩⟩;have e0:dQ P w K mg _ callerA [] c H:=⟨rfl,hM,λb o e=>C5 e,Am4<|Nd _ _,trivial,λb f=>absurd (show b∈([]:List Addr)from f) YC,A,.of_eq hg⟩;refine Ow ((F _ t<|g G).run callerA [] c H ⟨[.j a],[]⟩ [.j a] [.ref a] _ _ hr e0 (j c _) (.j rfl .p)<|S H hO hS) λr s' h=>?_;cases r with
|error e=>exact(L H e s' h).j
|ok fl=>
   cases fl with
|next=>exact False.elim h
|brk=>exact False.elim h
|cont=>exact False.elim h
|ret u=>
    obtain⟨v,H',os,B,un,E,r',q⟩:=h;have q':v=.bl true:=q;subst q';obtain rfl:u=Value.bool true:=r';refine⟨rfl,OldK.of_keep λb o e=>?_,os,B⟩;cases q:H b with
|none=>exact un.keep b o e q (by intro z;exact absurd (show b∈([]:List Addr)from z) YC) YC
|some u=>
     obtain z|⟨ob,xs,z⟩:=hO b
     .rw[q]at z;cases z
     .have z2:=un.cA b ob _ z;obtain⟨U,_⟩:=A b _ z;obtain⟨e2,_⟩:=E b _ z2;rw[e]at U;cases U;exact e2
 cases N:K.j a with
|some o=>have e:=T a o N;rw[I]at e;cases e;refine i (λ_=>u0) (λ_=>.p rfl) (.u ⟨_,vs.w,_,N,rfl,rfl,rfl,by rw[Ac,y];exact Z,by simpa using rv⟩) (λb u z=>by have l:(none:Option HO)=y0 u:=z;cases l) (λb z=>absurd rfl z) λz=>absurd rfl z
|none=>
  refine i (fun b=>if b=a then some (.eF {cls:=.p "list",data:=.j vs.w} _)else none) (fun b=>?_) (.p<|.u ⟨{cls:=.p "list",data:=.j vs.w},Da rfl⟩) (fun b u z=>?_) (fun b z=>?_) fun _=>N
  .by_cases f:b=a
   .exact .u ⟨_,_,Da f⟩
   .exact .p<|Fk f
  .by_cases f:b=a
   .have l:=(Da f).j.x z;cases l;subst f;exact⟨I,by rw[Ab];exact Z,vs,_,rv,I⟩
   .have l:=(Fk f).j.x z;cases l
  .by_cases f:b=a
   .exact f
   .exact absurd (Fk f) z
noncomputable abbrev Oe{K:Aa5}{h:Heap}(_:K.In h):Aa5:=K
def hZ{l:PySem.W.OpenLaw}{n k:Nat}{q:Program}{c:List Str}{XP:(Str->Option Value)->Heap->Prop}{C:World->Heap->Prop}{d:DefRec}{K:Params->Aa5}{A:World->gm}{E:World->Sp}{x:Str}
 (P:l.most=y0 n)(r:n<=sizeLine)(t:d.params.defaults=[])(Q:aM k callerA)
 (R:∀(w:World)(h:Heap),C w h->(K w.p).In h)
 (F:∀(w:World)(mg:Str->Option Value)(m:Addr)(h:Heap),(K w.p).In h->h.Ns mainGlobals mg->mg d.name=y0 (.j m)→
   ∃fd:FuncData,(∀(s:Shared)(u:Value),BindsTo s fd ⟨[u],[]⟩ [(x,u)])∧
    ∀base:Heap,(K w.p).In base->base.Ns mainGlobals mg->bj l.prog w (K w.p) mg base (A w) k m fd [x] (E w))
 (z:∀(w:World)(H:Hp)(a:Addr)(ns:List Int),ns.e<=n->rE H->bu (K w.p) H a (ns.u V.int)->E w [.ref a] H (λv _=>v=.bl k9) λ_ _ _=>False)
 (p:∀(w:World)(H:Hp)(s:Shared)(e:Value)(s':Shared),A w [] H s (λ_ _ _=>False) e s'->False):
 PySem.W.WalkO q c XP C l.row.toRowW d []<|λf vs=>PySem.call f vs:=by
 refine Att.eh P t λw B j mg Z m o T U L a vs ns G Y W X O y i g b J=>?_;have D:=R w _ Y;obtain⟨fd,S,N⟩:=F w mg m _ D G.T.g y;exact C1 D G.T.g G.T.b G.T.builtins G.T.nolimit J i g (Ac0 b r) Q N S (λH I M=>z w H a ns b I M) λH e s'=>p w H j e s'
noncomputable def F4(s:Stmt):Arguments:=match s with
|.FunctionDef _ a _ _ _ _ _ _ _ _=>a
|_=>{posonlyargs:=[],args:=[],vararg:=u0,kwonlyargs:=[],kw_defaults:=[],kwarg:=u0,defaults:=[]}
noncomputable def zw(s:Stmt):List Stmt:=match s with
|.FunctionDef _ _ b _ _ _ _ _ _ _=>b
|_=>[]
noncomputable def Xe(s:Stmt):Scope:=match s with
|.FunctionDef _ _ _ _ _ _ a _ _ _=>a
|_=>{kind:=.j,names:=[],isGenerator:=u9,isCoroutine:=u9}
abbrev mS:gm:=λ_ _ _ _ _ _=>False
abbrev E0:XK:=λ_ _ _=>False
structure gH(K:Aa5)(x k6:Str)(st:Stmt)(f:Addr)(fd:FuncData):Prop where
 ex:∃(oc:Value)(od:Option Addr)(kV doc pm:Value)(an:Option Addr)(cdv ct:Value)(osl:Array<|Option Value),
  fd=Al7 x k6 (F4 st) (zw st) (Xe st) .w kV doc pm an cdv ct/\K.j f=y0 ⟨oc,od,.func fd,osl⟩/\PySem.W.codeIn K cdv k6=k9
 kp:Af6 K (.j f)=k9
def qp(h:n<=1000):n<sizeLine:=KM h YA
section
variable{X:Cx}
def pv(i)(c:X.N[i]?=some x:=by rfl)(b:ij X.env.j x:=by first|exact Or.inl rfl|exact Or.inr<|Or.inl rfl|exact Or.inr<|Or.inr rfl)(d:(x==("__debug__":Str))=false:=by decide)
 (a:(x==("__classdict__":Str))=false:=by decide):PE X (.j x pos)<|nD i:=XB c b d a
end
def rB{A B:Prop}(h:B):if u9=k9 then A else B:=by exact h
def pG{A B:Prop}(h:A):if k9=k9 then A else B:=by exact h
end Lake
set_option maxHeartbeats 4000000
namespace Lake
open Lake renaming Vals.length->Lake.Vals.e,V.str->Lake.V.m,V.ref->Lake.V.j,Inv.ok->Lake.Inv.j,Inv.base->Lake.Inv.u,Inv.free->Lake.Inv.w,Inv.cell->Lake.Inv.y,Inv.stack->Lake.Inv.B,Inv.list->Lake.Inv.C,Inv.turned->Lake.Inv.G,Inv.aL->Lake.Inv.J,Inv.kept->Lake.Inv.L,Inv.pin->Lake.Inv.N,Inv.bare->Lake.Inv.Q,Cx.env->Lake.Cx.j,Cx.prog->Lake.Cx.p,Cx.stack->Lake.Cx.B,Cx.calm->Lake.Cx.G,HO.lst->Lake.HO.u,Un.free->Lake.Un.w,Un.there->Lake.Un.p,cZ.fresh->Lake.cZ.M
open PySem PySem.Spec PyProof.Rows
noncomputable def zg(env:Env)(a:List<|Str×Addr)(y:Str×NameKind):List<|Str×Addr:=
 if y.2==.w then(match env.u.j y.1 with|some c=>(y.1,c)::a|none=>a)else a
def zO(a:Scope)(env:Env):List<|Str×Addr:=a.j.U (zg env) []
theorem Aw:∀(a:List<|Str×NameKind) L,(∀y∈a,y.2=.w->∃c,env.u.j y.1=y0 c)→
 (do
   let mut M:=L
   for (name,kind) in a do
    if kind==.w then M:=(name,←cellOf env name)::M
   return M:Sem<|List<|Str×Addr)=pure (a.U (zg env) L)
|[],L,_=>by simp
|(n,k)::r,L,h=>by
  have f:=λM=>Aw r M λy i=>h y<|Aa0 _ i;by_cases d:k=.w
  .subst d;obtain⟨c,b⟩:=h (n,.w) Aa rfl;have b:=b;have e:zg env L (n,.w)=(n,c)::L:=by show(if(NameKind.free==NameKind.free)=k9 then(match env.u.j n with|some c=>(n,c)::L|none=>L)else L)=_;rw[Da<|show(NameKind.free==NameKind.free)=k9 from rfl,b]
   rw[Af3,e,←f];simp[cellOf,b]
  .have g:(k==NameKind.free)=false:=by simpa using d
   have e:zg env L (n,k)=L:=by show(if(k==NameKind.free)=k9 then _ else L)=_;rw[g,Fk Ab0]
   rw[Af3,e,←f];simp[d]
def zP(h:∀y∈scope.j,y.2=.w->∃c,env.u.j y.1=y0 c):closureFor scope env=pure (zO scope env):=
 Aw scope.j [] h
theorem xF:∀(a:List<|Str×NameKind) L,(∀x c,L.j x=y0 c->env.u.j x=y0 c)->∀x c,(a.U (zg env) L).j x=y0 c->env.u.j x=y0 c
|[],_,h=>h
|(n,k)::r,L,h=>by
  refine xF r (zg env L (n,k)) λx c e=>?_;unfold zg at e;split at e
  .split at e
   .rename_i f d;rw[Ab8]at e;cases b:x==n with
|true=>
     rw[b]at e;have:x=n:=by simpa using b
     subst this;cases e;exact d
|false=>rw[b]at e;exact h x c e
   .exact h x c e
  .exact h x c e
theorem wU(d:env.u.j x=y0 c):∀(a:List<|Str×NameKind) M,((x,.w)∈a\/∃L,M.j x=y0 L)->∃L,(a.U (zg env) M).j x=y0 L
|[],M,h=>h.j (λz=>absurd z YC) id
|(n,k)::r,M,h=>by
  refine wU d r (zg env M (n,k)) ?_;have b:(∃L,M.j x=y0 L)->∃L,(zg env M (n,k)).j x=y0 L:=by
   rintro⟨L,e⟩;unfold zg;split
   .split
    .rw[Ab8];cases x==n with
|true=>exact⟨_,rfl⟩
|false=>exact⟨L,e⟩
    .exact⟨L,e⟩
   .exact⟨L,e⟩
  rcases h with h|h
  .rcases Aa6.j h with h|h
   .cases h;refine .u ⟨c,?_⟩;show Ag9 x (if(NameKind.free==NameKind.free)=k9 then(match env.u.j x with|some c=>(x,c)::M|none=>M)else M)=_;rw[Da<|show(NameKind.free==NameKind.free)=k9 from rfl,d];simp
   .exact .p h
  .exact .u<|b h
def QY(I:Nat->Shared->Prop)
 (j:∀n s,I n s->wpAny (model prog w) A (pyNext it) (λr O=>match r with
|none=>R (.ok .next) O
|some v=>wpAny (model prog w) A (letOwnedTupleGo tg it v) (λ_ L=>wpAny (model prog w) A (assign tg env v) (λ_ s₂=>
    wpAny (model prog w) A (forIn ifs k9 λc r=>if r=k9 then do let ok←isTrue c env<|eval c env;pure (ForInStep.yield ok)else pure (ForInStep.yield r)) (λok M=>
     if ok=k9 then wpAny (model prog w) A (eval elt env) (λx V=>
      wpAny (model prog w) A (call (.u "list.append") [acc,x]) (fun _ W=>∃m,m<n/\I m W) (notedBy (model prog w) A env fun e s'=>R (.error e) s') V) (notedBy (model prog w) A env fun e s'=>R (.error e) s') M
     else∃m,m<n/\I m M) (notedBy (model prog w) A env λe s'=>R (.error e) s') s₂) (notedBy (model prog w) A env λe s'=>R (.error e) s') L) (notedBy (model prog w) A env λe s'=>R (.error e) s') O) (notedBy (model prog w) A env λe s'=>R (.error e) s') s)
 (n)(h:I n s):codeAny (model prog w) A (.compLoop (.B elt [⟨tg,iter,ifs,0⟩] scope pos) 0 it acc env) R s:=by
 refine codeAny_loop rfl I (λn s l=>wpAny_noted ?_) n h;rw[compTurn_list];refine AC<|OC<|AC<|Om (j n s l) (λr O b=>?_) λ_ _ a=>a;cases r with
|none=>exact FS b
|some v=>
  refine AC<|Om b (λ_ L f=>AC<|Om f (λ_ s₂ i=>AC<|Om i (λok M d=>?_) λ_ _ a=>a) λ_ _ a=>a) λ_ _ a=>a;cases ok with
|false=>exact FS ⟨rfl,d⟩
|true=>exact AC<|AC<|Om d (λx V k=>AC<|Om k (λ_ W g=>FS<|FS ⟨rfl,g⟩) λ_ _ a=>a) λ_ _ a=>a
theorem q3:∀L n M,(x,NameKind.cell)∉L->(cellsFrom n L M).j x=M.j x
|[],_,_,_=>rfl
|(y,k)::r,n,M,h=>by
  unfold cellsFrom;split
  .rename_i a;have a:=by simpa using a
   subst a;rw[q3 r (n+1) _ λz=>h<|Aa0 _ z,Ab8];cases b:x==y with
|true=>
    have:x=y:=by simpa using b
    subst this;exact absurd Aa h
|false=>rfl
  .exact q3 r n M λz=>h<|Aa0 _ z
theorem j6:∀L (h:Heap) M O,(M.j x=y0 c->O\/(h.B c u0/\(x,NameKind.cell)∈L\/h.B c u0/\O))->∀lo,lo<=h.j.j→
 (cellsFrom h.j.j L M).j x=y0 c->M.j x=y0 c\/(lo<=c/\(x,NameKind.cell)∈L/\(pushCells h L).B c u0)
|[],_,_,_,_,_,_,e=>.p e
|(y,k)::r,h,M,O,l,lo,d,e=>by
  unfold cellsFrom at e;unfold pushCells;split at e
  .rename_i a;rw[Da a];have a:=by simpa using a
   subst a;have e:(cellsFrom (h.u {cls:=.p "cell",data:=.cell none}).j.j r<|(y,h.j.j)::M).j x=some c:=by rw[Ai1];exact e
   rcases j6 r (h.u {cls:=.p "cell",data:=.cell none}) _ True (fun _=>.p trivial) lo (by rw[Ai1];exact Af9 ‹_›) e with q|⟨j,i,g⟩
   .rw[Ab8]at q;cases f:x==y with
|true=>
     rw[f]at q;have:x=y:=by simpa using f
     subst this;cases q;exact .u ⟨d,List.mem_cons_self,(show(h.u {cls:=.p "cell",data:=.cell none}).B h.j.j none from⟨_,Ab6 _ rfl,rfl⟩).keeps fun b o e=>PY r _ b o e⟩
|false=>rw[f]at q;exact .p q
   .exact .u ⟨j,Aa0 _ i,g⟩
  .rename_i a;rw[Fk a];rcases j6 r h M True (λ_=>.p trivial) lo d e with q|⟨j,i,g⟩
   .exact .p q
   .exact .u ⟨j,Aa0 _ i,g⟩
theorem pM:∀(M)(n)(L),(∀x c,L.j x=y0 c->c<n)->(∀x y c,L.j x=y0 c->L.j y=y0 c->x=y)→
 ∀x y c,(cellsFrom n M L).j x=y0 c->(cellsFrom n M L).j y=y0 c->x=y
|[],_,_,_,b=>b
|(z,k)::r,n,L,a,b=>by
  unfold cellsFrom;split
  .have look:∀x c,((z,n)::L).j x=y0 c->(x=z/\c=n)\/(L.j x=y0 c):=λx c e=>by
    rw[Ab8]at e;cases d:x==z with
|true=>rw[d]at e;cases e;exact .p ⟨by simpa using d,rfl⟩
|false=>rw[d]at e;exact .u e
   refine pM r (n+1) _ (λx c e=>?_) λx y c i f=>?_
   .rcases look x c e with⟨_,q⟩|q
    .exact q▸Ae9 n
    .exact Al2<|a x c q
   .rcases look x c i with⟨l,g⟩|p<;>rcases look y c f with⟨j,h⟩|q
    .rw[l,j]
    .exact absurd (g▸a y c q)<|Ag _
    .exact absurd (h▸a x c p)<|Ag _
    .exact b x y c p q
  .exact pM r n L a b
theorem ZK:∀(a:List<|Str×NameKind) L,(a.U (zg env) L).j x=y0 c->L.j x=y0 c\/(x,NameKind.free)∈a
|[],_,h=>.p h
|(y,k)::r,L,h=>by
  rcases ZK r _ h with q|q
  .unfold zg at q;split at q
   .rename_i b;have b:=by simpa using b
    subst b;split at q
    .rw[Ab8]at q;cases d:x==y with
|true=>
      have:x=y:=by simpa using d
      subst this;exact .u Aa
|false=>rw[d]at q;exact .p q
    .exact .p q
   .exact .p q
  .exact .u<|Aa0 _ q
theorem WT{env:Env}:∀{b:List<|Str×NameKind}{x},
 ((b.u λ(n,k)=>if(k==NameKind.free&&env.j.u==.j&&env.w n==y0 .y)then(n,NameKind.cell)else(n,k)).j x=y0 .y∨
   (b.u λ(n,k)=>if(k==NameKind.free&&env.j.u==.j&&env.w n==y0 .y)then(n,NameKind.cell)else(n,k)).j x=y0 .w)->(x,.w)∈b\/(x,.y)∈b
|[],_,h=>by simp at h
|(n,k)::r,x,h=>by
  have e:=@WT env r x;rw[Ac3]at h;by_cases a:(k==NameKind.free&&env.j.u==.j&&env.w n==y0 .y)=k9
  .have f:=by rw[Aa9,Aa9]at a;simpa using a.1.1
   subst f;simp only[a,Oi,Ab8]at h;cases c:x==n with
|true=>
    have:x=n:=by simpa using c
    subst this;exact .p Aa
|false=>rw[c]at h;exact(e h).imp (Aa0 _)<|Aa0 _
  .have d:=Ag8.p a;simp only[d,Ah6,OD,Ab8]at h;cases c:x==n with
|true=>
    have:x=n:=by simpa using c
    subst this;rw[c]at h;rcases h with h|h
    .have:k=.y:=by simpa using h
     subst this;exact .u Aa
    .have:k=.w:=by simpa using h
     subst this;exact .p Aa
|false=>rw[c]at h;exact(e<|by simpa using h).imp (Aa0 _)<|Aa0 _
theorem yZ:∀{a:List<|Str×NameKind}{x}{k L},(a.u Prod.fst).C->(x,k)∈a->(x,L)∈a->k=L
|(y,j)::r,x,k,L,d,e,f=>by
  rw[Ac3,Ag0]at d;rcases Aa6.j e with c|c<;>rcases Aa6.j f with b|b
  .cases c;cases b;rfl
  .cases c;exact absurd (Ad3.p ⟨_,b,rfl⟩) d.1
  .cases b;exact absurd (Ad3.p ⟨_,c,rfl⟩) d.1
  .exact yZ d.2 c b
theorem X0:∀{a:List<|Str×NameKind}{x}{k},(a.u Prod.fst).C->(x,k)∈a->a.j x=y0 k
|(y,j)::r,x,k,b,h=>by
  rw[Ac3,Ag0]at b;rw[Ab8];rcases Aa6.j h with e|e
  .cases e;simp
  .have:(x==y)=false:=by
    cases c:x==y with
|false=>rfl
|true=>
     have:x=y:=by simpa using c
     subst this;exact absurd (Ad3.p ⟨_,e,rfl⟩) b.1
   rw[this];exact X0 b.2 e
def iX(a:Scope)(C:Addr)(env:Env):List<|Str×Addr:=cellsFrom (C+1) a.j<|zO a env
def Zy
 (d:Q (newEnv scope s.j.j.j globals (cellsFrom (s.j.j.j+1) scope.j cl) k6 u0 .w (y0 env) builtinsNs) {s with heap:=pushCells (s.j.u {cls:=.p "dict",data:=.u #[]}) scope.j}):
 wpAny M A (newFunctionEnv scope globals cl [] k6 u0 .w<|y0 env) Q E s:=by
 simp only[newFunctionEnv,Option.isSome_some,Oi];refine AC<|wpAny_alloc ?_;refine AC<|wpAny_layCells _ (λname a c=>by cases b:a==NameKind.cell<;>simp[b]) _ _ _ _ ?_;rw[show({s with heap:=s.j.u {cls:=.p "dict",data:=.u #[]}}:Shared).j.j.j=s.j.j.j+1 from Ai1 ..];exact AC<|FS<|FS d
noncomputable def We(X:Cx)(N:List Str)(a:Scope)(C:Addr)(b:List Addr)(s:Shared)(H:Hp):Cx where
 prog:=X.p
 w:=X.w
 K:=X.K
 mg:=X.mg
 base:=X.base
 A:=X.A
 N:=N
 s₀:=s
 H₀:=H
 env:=compEnvC a (iX a C X.j) C X.j
 outer:=X.B
 stack:=X.B
 ex:=b
 fn:=λx=>k8<|a.j.j x=y0 .y
 calm:=X.G
 pn:=[]
 xe:=λ_ _=>False
def cP(X:Cx):List Nat->List Str->Prop
|[],[]=>True
|j::a,x::xs=>X.N[j]?=y0 x/\(X.j.w x=y0 .y\/X.j.w x=y0 .w)/\cP X a xs
|_,_=>False
theorem cP.get {U:St}:∀{aB}{xs}{i:Nat}{x}{v},cP X aB xs->xs[i]?=y0 x->(aB.u λj=>(U[j]?).y)[i]?=y0 (y0 v)→
 ∃j:Nat,X.N[j]?=y0 x/\U[j]?=y0 (y0 v)/\(X.j.w x=y0 .y\/X.j.w x=y0 .w)
|[],[],_,_,_,_,e,_=>by simp at e
|[],_::_,_,_,_,h,_,_=>h.j
|_::_,[],_,_,_,h,_,_=>h.j
|j::d,f::xs,0,x,v,h,b,a=>by
  obtain⟨c,g,_⟩:=h;simp at b;subst b;refine⟨j,c,?_,g⟩;have a:y0 ((U[j]?).y)=y0 (y0 v):=by simpa using a
  have a:=Af5.inj a;cases q:U[j]? with
 |none=>rw[q]at a;cases a
 |some z=>rw[q]at a;have:z=y0 v:=a;rw[this]
|j::d,f::xs,i+1,x,v,h,b,a=>cP.get h.2.2 (by simpa using b)<|by simpa using a
theorem cP.length:∀{aB}{xs},cP X aB xs->aB.e=xs.e
|[],[],_=>rfl
|[],_::_,h=>h.j
|_::_,[],h=>h.j
|_::_,_::_,h=>congrArg (·+1)<|cP.length h.2.2
noncomputable def nL(k:Nat)(aB:List Nat)(U:St):St:=Aa1 k u0++aB.u λ(j:Nat)=>(U[j]?).y
def hA(X:Cx)(a:List Expr)(t:TT):Prop:=
 ∀(u7:List<|Addr×Obj)(s:Shared)(U:St)(H:Hp)(Q:Bool->Hp->Prop),Inv X u7 U H s->t U H Q→
  wpAny (model X.p X.w) X.A (forIn a k9 λc r=>if r=k9 then do let ok←isTrue c X.j<|eval c X.j;pure (ForInStep.yield ok)else pure (ForInStep.yield r)) (TP X u7 U Q) X.xe s
def IL:TT:=λ_ H Q=>Q k9 H
def sL:hA X [] IL:=λ_ _ _ H _ I h=>wpAny_tests_nil ⟨H,I,h⟩
def yg(h:PT X c t):hA X [c] t:=λa s U H Q I b=>wpAny_tests_one<|h a s U H Q I b
def AR(J:It)(g:TG)(j:TT)(l:TE)(h:St)(n:Hp)(Q:VK):Prop:=∃W:Nat->Nat->List V->St->Hp->Prop,(∃m,W 0 m [] h n)/\∀i m ys Z H,W i m ys Z H→
 (J.stop i H/\ys.e<=sizeLine/\∀D,H D=u0->Q (.j D) (aG H D<|.u ys))∨
 (J.go i H/\ys.e<sizeLine/\∃N:List V->St->Hp->Prop,(∀a d H',N a d H'->∃f,f<m/\W (i+1) f a d H')∧
   ∀x H',J.fM i H x H'->g x Z H' λc H2=>j c H2 λb e=>if b=k9 then l c e λy k=>N (ys++[y]) c k else N ys c e)
abbrev lM(α:Type):=Addr->List Addr->Shared->Hp->α
def nS(k:Nat)(aB:List Nat)(c:TI)(g:lM TG)(a:lM TT)(b:lM TE):TE:=λU H Q=>c U H λJ H1=>∀C fp s,AR J (g C fp s H1) (a C fp s H1) (b C fp s H1) (nL k aB U) H1 Q
def Inv.adopt (I:Inv X u7 U H s)(j:fK X u7 H D)(t:X.s₀.j.j.j<=D)
 (e:s.j.p D=y0 {cls:=.p "list",data:=.j its.w n})(r:Vals ys its)(v:ys.e<=sizeLine):Inv X u7 U (aG H D<|.u ys) s:=by
 obtain⟨m,C,F,G,w,l⟩:=j;have a:∀b o,H b=y0 o->aG H D (.u ys) b=y0 o:=λb o q=>by rw[Qa<|Qb q m];exact q
 have d:∀b o,X.s₀.j.p b=y0 o->b≠D:=λb o q z=>by rw[z]at q;exact absurd (Ab5 (Ab3 q) t)<|Ag _
 refine⟨I.j,I.os,I.Q,⟨I.u.keep,I.u.slot,λb o f A k=>?_,I.u.p,λb h q=>a b _<|I.u.cL b h q,λb o u q=>a b _<|I.u.cA b o u q,λb E q=>?_⟩,I.loc,I.y,?_,λx c q=>?_,λp g=>?_,λb u q=>?_,I.len⟩
 .rw[Qa<|d b o f];exact I.u.w b o f A k
 .obtain⟨more,y⟩:=I.u.cH b E q;exact⟨more,a b _ y⟩
 .rw[Qa<|Ne.symm C];exact I.w
 .rw[Qa<|w x c q];exact I.bz x c q
 .obtain⟨B,a2,a3⟩:=I.N p g;exact⟨B,by rw[Qa<|l p g];exact a2,a3⟩
 .by_cases i:b=D
  .subst i;rw[Wa]at q;cases q;exact⟨v,its,n,r,e⟩
  .rw[Qa i]at q;exact(I.J b u q).cK (λ_ _ _ z=>z) (λc z=>a c _ z) λc h z=>a c _ z
theorem jk{env:Env}:∀{b:List<|Str×NameKind}{x},b.j x=y0 .w→
 ((b.u λ(n,k)=>if(k==NameKind.free&&env.j.u==.j&&env.w n==y0 .y)then(n,NameKind.cell)else(n,k)).j x=y0 .y∨
   (b.u λ(n,k)=>if(k==NameKind.free&&env.j.u==.j&&env.w n==y0 .y)then(n,NameKind.cell)else(n,k)).j x=y0 .w)
|[],_,h=>by simp at h
|(n,k)::r,x,h=>by
  have e:=@jk env r x;rw[Ac3];rw[Ab8]at h;cases d:x==n with
|true=>
   rw[d]at h;have f:=by simpa using h
   subst f;by_cases a:(NameKind.free==NameKind.free&&env.j.u==.j&&env.w n==y0 .y)=k9
   .simp only[a,Oi,Ab8,d]
    first|exact .p rfl|exact .p trivial|simp
   .have c:=Ag8.p a;simp only[c,Ah6,OD,Ab8,d]
    first|exact .u rfl|exact .u trivial|simp
|false=>
   rw[d]at h;have q:=e h;by_cases a:(k==NameKind.free&&env.j.u==.j&&env.w n==y0 .y)=k9
   .simp only[a,Oi,Ab8,d];exact q
   .have c:=Ag8.p a;simp only[c,Ah6,OD,Ab8,d];exact q
structure zZ(X:Cx)(scope:Scope)(N:List Str)(k:Nat)(aB:List Nat):Prop where
 kind:scope.u=.j
 nd:(scope.j.u Prod.fst).C
 names:∀y∈scope.j,y.2=.local->scope.j.j y.1=y0 .local
 free:∀y∈scope.j,y.2=.w->X.j.w y.1=y0 .y\/X.j.w y.1=y0 .w
 h8:∀x∈N.J k,scope.j.j x=y0 .w
 aB:cP X aB<|N.J k
 le:k<=N.e
structure N5(sc scope:Scope)(N:List Str)(k:Nat):Prop where
 kind:scope.u=.j
 nd:(scope.j.u Prod.fst).C
 names:∀y∈scope.j,y.2=.local->scope.j.j y.1=y0 .local
 free:∀y∈scope.j,y.2=.w->sc.j.j y.1=y0 .y\/sc.j.j y.1=y0 .w
 h8:∀x∈N.J k,scope.j.j x=y0 .w
 le:k<=N.e
section
variable{X:Cx}{elt tg iter:Expr}{ifs:List Expr}{scope:Scope}{pos p0:Pos}{N:List Str}{k:Nat}{aB:List Nat}{wi:TI}{g:lM TG}{tc:lM TT}{te:lM TE}
def DG(ok:zZ X scope N k aB)(a:Inv X u7 U H2 s2)(I:∀b∈fp,fK X u7 H2 b)(Q:∀b∈fp,b<s2.j.j.j)
 (t:s2.j.j.j<=C)(M:h₁.Ns C m)(g:∀b o,s2.j.p b=y0 o->h₁.p b=y0 o)
 (d:∀x c,(iX scope C X.j).j x=y0 c->(zO scope X.j).j x=y0 c\/(C+1<=c/\(x,NameKind.cell)∈scope.j/\h₁.B c u0)):
 Inv (We X N scope C fp s2 H2) [] (nL k aB U) H2 {s2 with heap:=h₁,toks:=tk}:=by
 have sub:∀x c,(zO scope X.j).j x=y0 c->X.j.u.j x=y0 c:=xF scope.j [] λx c e=>by simp at e
 have B:∀x,(x,NameKind.free)∈scope.j->∃c,(zO scope X.j).j x=y0 c:=λx G=>by obtain⟨c,A⟩:=a.j.has x<|ok.free _ G rfl;exact wU A scope.j []<|.p G
 have lt:∀x c,(zO scope X.j).j x=y0 c->c<C+1:=λx c e=>by obtain⟨v,o,E,_⟩:=a.y x c<|sub x c e;exact Nat.lt_succ_of_le<|Ac0 (Ag2<|Ab3 E) t
 have keep:∀x c,(x,NameKind.free)∈scope.j->(zO scope X.j).j x=y0 c->(iX scope C X.j).j x=y0 c:=λx c G e=>by unfold iX;rw[q3 scope.j _ _ λz=>by cases yZ ok.nd G z];exact e
 have D:∀x,_∈scope.j\/(x,NameKind.cell)∈scope.j->∃c,(iX scope C X.j).j x=y0 c:=λx h=>by
  rcases h with h|h
  .obtain⟨c,A⟩:=B x h;exact⟨c,keep x c h A⟩
  .exact Af.j<|Ai7 scope.j _ _<|.p<|X0 ok.nd h
 refine⟨⟨a.j.mod,ok.kind,a.j.glob,a.j.blt,t,(pM scope.j _ _ lt λx y c L H=>a.j.inj x y c (sub x c L)<|sub y c H),λx h=>D x<|WT h,λx c w e=>?_,a.j.hd,a.j.frames,.p rfl,λb s=>⟨?_,λx c e=>?_⟩,
  λb o e=>a.bs b o e,Ac0 a.j.g6 a.sz,λb o e s=>?_,λb s z=>(Aa6.j<|a.dP b z).j (I b s).2.1 (I b s).2.2.1,a.B,a.cO⟩,
  rfl,a.Q,Un.kept g,⟨m,M,λi x v T n e3=>?_⟩,λx c e=>?_,a.J.M t,λx c e=>?_,λp S=>absurd (show p∈([]:List _)from S) YC,a.J.kept g,?_⟩
 .have w:=FB w;rcases d x c e with q|q
  .rcases ZK scope.j [] q with z|z
   .simp at z
   .have:=X0 ok.nd z;rw[w]at this;cases this
  .exact Ac0 t<|Ac0 (Ac9 C) q.1
 .show b≠C;exact Ab7<|Ab5 (Q b s) t
 .rcases d x c e with q|q
  .exact(I b s).2.2.2.2.1 x c<|sub x c q
  .exact Ne.symm<|Ab7<|Ab5 (Q b s)<|Ac0 t<|Ac0 (Ac9 C) q.1
 .rcases(I b s).2.2.2.1 with z|z
  .exact a.j.fF b o e z
  .have L:=Ab3 e;have H:=a.j.g6;exact absurd (Ab5 L<|Ac0 H z)<|Ag _
 .have f:k<=i:=by
   by_cases f:i<k
   .have n:(Aa1 k u0++aB.u λ(j:Nat)=>(U[j]?).y)[i]?=y0 _:=n;rw[Ad9<|by simpa using f,Al5,Da f]at n;cases n
   .lia
  have F:(N.J k)[i-k]?=y0 x:=by rw[List.getElem?_drop,show k+(i-k)=i by lia];exact T
  have J:(aB.u λ(j:Nat)=>(U[j]?).y)[i-k]?=y0 (y0 v):=by have n:(Aa1 k u0++aB.u λ(j:Nat)=>(U[j]?).y)[i]?=y0 _:=n;rw[Ad5<|by simpa using f,Ae3]at n;exact n
  obtain⟨j,W,Y,P⟩:=ok.aB.get (U:=U) F J;obtain⟨Z,hn,R⟩:=a.loc;obtain⟨u,r,l⟩:=R j x v W Y<|.u<|P.j (λz=>.p z) λz=>.u z;refine⟨u,r,.u ?_⟩;have w:=ok.h8 x<|Aj9 F;refine⟨jk w,?_⟩;obtain⟨c,A⟩:=B x<|Ou w;refine⟨c,keep x c (Ou w) A,?_⟩;rcases l with⟨V,_⟩|⟨_,c',O,o,E,K⟩
  .rcases P with z|z<;>(rw[V]at z;cases z)
  .have d:=sub x c A;rw[O]at d;cases d;exact⟨o,g _ o E,K⟩
 .rcases d x c e with q|q
  .obtain⟨v,o,E,K⟩:=a.y x c<|sub x c q;exact⟨v,o,g c o E,K⟩
  .exact⟨u0,q.2.2⟩
 .rcases d x c e with q|q
  .exact a.bz x c<|sub x c q
  .exact a.J.M<|Ac0 t<|Ac0 (Ac9 C) q.1
 .show(Aa1 k u0++aB.u λ(j:Nat)=>(U[j]?).y).e=N.e;have H:=ok.le;rw[Aa2,Ae3,Ab,ok.aB.length,Ah4];lia
def QV(use)(hc:X.G=k9)(ok:zZ X scope N k aB)(hi:PI X tg iter wi)
 (hg:∀C fp s H,PG (We X N scope C fp s H) tg<|g C fp s H)(ht:∀C fp s H,hA (We X N scope C fp s H) ifs<|tc C fp s H)(he:∀C fp s H,PE (We X N scope C fp s H) elt<|te C fp s H)
 (hs:∀x,foldedSetIterable iter X.j x=pure x)
 (I:Inv X u7 U H s)(h:nS k aB wi g tc te U H Q)
 (fin:∀(D C:Addr)(oC:Obj)(m:Str->Option Value)(H4:Hp)(s4:Shared),Inv X (u7++[(C,oC)]) U H4 s4->fK X u7 H4 C->Q (.j D) H4->(∀h:Heap,h.p C=y0 oC->h.Ns C m)→
   compPost (model X.p X.w) X.A X.xe use Q' (.j D) C (.ok .next) s4):
 wpAny (model X.p X.w) X.A (comprehension (.B elt [⟨tg,iter,ifs,0⟩] scope pos) scope X.j p0 (newList []) u9 (eval iter X.j) use) Q' X.xe s:=by
 have hcl:closureFor scope X.j=pure _:=zP λy hy hf=>I.j.has y.1<|ok.free y hy hf;refine wpAny_comprehension_free (use:=use) rfl hs hcl ok.kind ok.names<|aJ (hi u7 s U H _ I h) λv s1 h1=>aJ h1 λitv s2 h2=>?_;obtain⟨it,fp,tn,J,H2,e,I2,T,st2,f2,hW⟩:=h2;subst e;refine O1<|Zy ?_;dsimp only;generalize hHp:s2.j.u {cls:=.p "list",dict:=none,data:=.j ([]:List Value).w}=HP;have hCs:HP.j.j=s2.j.j.j+1:=by rw[←hHp,Ai1]
 generalize hDD:s2.j.j.j=D at hCs⊢;have hns0:(HP.u {cls:=.p "dict",data:=.u #[]}).Ns HP.j.j fun _=>none:=Heap.Ns.new HP _;have hlk:∀x c,(iX scope HP.j.j X.j).j x=some c->(zO scope X.j).j x=some c\/(HP.j.j+1<=c/\(x,NameKind.cell)∈scope.j/\(pushCells (HP.u {cls:=.p "dict",data:=.u #[]}) scope.j).B c none):=fun x c e=>by refine j6 scope.j _ _ True (λ_=>.p trivial) _ (by rw[Ai1];exact Aa4 _) ?_;rw[Ai1];exact e
 generalize hh1:pushCells _ scope.j=h₁ at hlk⊢;have hns₁:h₁.Ns HP.j.j λ_=>none:=by rw[←hh1];exact hns0.keeps<|PY _ _
 have hk1:∀b o,HP.p b=y0 o->h₁.p b=y0 o:=λb o e=>by rw[←hh1];exact PY _ _ b o<|Aa3 _ e
 generalize hCC:HP.j.j=C at hCs hns₁ hlk⊢;have hDC:D≠C:=by rw[hCs];exact Ab7<|Ae9 _
 have hle:s2.j.j.j<=C:=by rw[hDD,hCs];exact Ac9 _
 have hleD:s2.j.j.j<=D:=Am4 hDD;have fo:∀b∈fp,b<D:=λb hb=>by obtain⟨o,eo,_⟩:=T.obj _ _ st2 b hb;rw[←hDD];exact Ab3 eo
 have old:∀b o,s2.j.p b=y0 o->h₁.p b=y0 o:=λb o e=>by exact hk1 b o<|hHp▸Aa3 _ e
 have hacc:h₁.p D=y0 {cls:=.p "list",data:=.j ([]:List Value).w}:=by refine hk1 _ _ ?_;rw[←hHp,←hDD];exact Ab6 _ rfl
 obtain⟨W,⟨m0,w0⟩,turn⟩:=hW C fp s2;have I3:Inv _ [] _ H2 {s2 with heap:=h₁,toks:=s2.p}:=
  DG ok I2 f2 (λb hb=>by rw[hDD];exact fo b hb) hle hns₁ old hlk
 have st3:tn 0 h₁:=T.keep _ _ _ st2 λb _ o e=>old b o e;have hch:∀b∈fp,_/\b≠X.j.p/\(∀x c,X.j.u.j x=y0 c->c≠b)/\∀p∈X.pn++u7,p.1≠b:=λb hb=>⟨(f2 b hb).2.2.2.1,(f2 b hb).2.1,(f2 b hb).2.2.2.2.1,(f2 b hb).2.2.2.2.2⟩;have FD:∀{H':Hp},H' D=u0->fK X u7 H' D:=λhn=>I2.dj hleD hn;have FC:∀{H':Hp},H' C=u0->fK X u7 H' C:=λhn=>I2.dj hle hn;have sub:∀x c,(zO scope X.j).j x=y0 c->X.j.u.j x=y0 c:=xF scope.j [] λx c e=>by simp at e
 have hDst:D∉bM X.B:=λz=>(Aa6.j<|I2.dP D z).j (FD (H':=λ_=>u0) rfl).2.1 (FD (H':=λ_=>u0) rfl).2.2.1;have hDc:∀x c,(iX scope C X.j).j x=y0 c->c≠D:=λx c e=>by
  rcases hlk x c e with q|q
  .exact(FD (H':=λ_=>u0) rfl).2.2.2.2.1 x c<|sub x c q
  .exact Ne.symm<|Ab7<|Ab5 (by rw[hCs];exact Al2<|Ae9 _) q.1
 have loop:∀s₃:Shared,s₃={s2 with heap:=h₁,toks:=s2.p}→
  codeAny (model X.p X.w) X.A (.compLoop (.B elt [⟨tg,iter,ifs,0⟩] scope pos) 0 (.j it) (.j D)<|compEnvC scope (iX scope C X.j) C X.j)
   (compPost (model X.p X.w) X.A X.xe use Q' (.j D) C) s₃:=by
  rintro s₃ rfl;refine QY (λn s'=>∃i ys its kk Z H',Inv (We X N scope C fp s2 H2) [] Z H' s'/\tn i s'.j/\(∀b∈fp,H' b=u0)/\H' D=u0/\s'.j.p D=y0 {cls:=.p "list",data:=.j (its:List Value).w kk}/\Vals ys its/\W i n ys Z H') ?_ m0 ⟨0,[],[],0,_,H2,I3,st3,λb hb=>(f2 b hb).1,I2.J.M hleD,hacc,.p,w0⟩;rintro n s3 ⟨i,ys,its,kk,Z,H3,I3,st3,fr3,hD3,eD3,rv3,w3⟩;have IP:Inv (We X N scope C fp s2 H2) [(D,{cls:=.p "list",data:=.j its.w kk})] Z H3 s3:=I3.bP fun p hp=>by
   have e:p=(D,{cls:=.p "list",data:=.j its.w kk}):=by simpa using hp
   subst e;exact⟨eD3,hD3,hDC,hDst,λv z=>by cases z⟩
  have fpok:∀{H':Hp},(∀b∈fp,H' b=u0)->∀b∈fp,fK (We X N scope C fp s2 H2) [(D,{cls:=.p "list",data:=.j its.w kk})] H' b:=fun{H'} hn b hb=>by
   refine⟨hn b hb,I3.j.mx b hb|>.1,I3.j.fH b hb,.p hb,I3.j.mx b hb|>.2,λp hp=>?_⟩;have e:p=(D,{cls:=.p "list",data:=.j its.w kk}):=by have hp:p∈([]:List<|Addr×Obj)++[(D,{cls:=.p "list",data:=.j its.w kk})]:=hp;simpa using hp
   rw[e];exact Ne.symm<|Ab7<|fo b hb
  rcases turn i n ys Z H3 w3 with⟨stop,hz,q⟩|⟨go,hz,NN,hN,step⟩
  .refine aJ (T.done (We X N scope C fp s2 H2) rfl rfl rfl hc i _ s3 Z H3 _ IP (fpok fr3) st3 stop) ?_;rintro r s4 ⟨hr,I4⟩;subst hr;have I5:Inv X u7 U H3 s4:=I2.iN (ch:=fp) I4.os I4.u I4.J I4.Q hch;have I6:=I5.adopt (FD hD3) (Ac0 I2.sz hleD) ((I4.N _<|Aa8 _ Aa).1) rv3 hz;obtain⟨m,⟨oC,es,ep,hoC,hdC,hr⟩,_⟩:=I4.loc;have fC:fK X u7 (aG H3 D<|.u ys) C:=FC (by rw[Qa<|Ne.symm hDC];exact I4.w);have I7:Inv X (u7++[(C,oC)]) U (aG H3 D<|.u ys) s4:=I6.bP λp hp=>(Ab4.j hp).j (λz=>I6.N p<|Aa8 _ z) λz=>by
    have e:p=(C,oC):=by simpa using z
    subst e;exact⟨hoC,fC.1,fC.2.1,fC.2.2.1,λv z=>by rw[hdC]at z;cases z⟩
   exact fin D C oC m _ s4 I7 fC (q D hD3) λh e=>⟨oC,es,ep,e,hdC,hr⟩
  .refine aJ (T.item (We X N scope C fp s2 H2) rfl rfl rfl hc i _ s3 Z H3 _ IP (fpok fr3) st3 go) ?_;rintro r s4 ⟨u,hr,h4⟩;subst hr;refine aJ h4 ?_;rintro _ s5 ⟨x,H5,I5,r5,y5,st5,fr5⟩;have I5':=I5.pinned (fpok fr5)<|T.obj _ _ st5;refine Om (hg C fp s2 H2 _ s5 Z H5 x u _ I5' r5<|step x H5 y5) ?_ λ_ _ z=>False.elim z;rintro _ s6⟨U6,H6,I6,q6⟩;refine Om (ht C fp s2 H2 _ s6 U6 H6 _ I6 q6) ?_ λ_ _ z=>False.elim z;rintro b s7⟨H7,I7,q7⟩;have hp5:∀b∈fp,∃o,s5.j.p b=y0 o:=λb hb=>let⟨o,e,_⟩:=T.obj _ _ st5 b hb;⟨o,e⟩;cases b with
|false=>
    rw[Fk Ab0]at q7⊢;obtain⟨m',hm,w7⟩:=hN _ _ _ q7;refine⟨m',hm,i+1,ys,its,kk,U6,H7,I7.bP λp hp=>absurd hp YC,T.keep _ _ _ st5 λb hb o e=>(I7.N (b,o)<|Aa8 _<|Aa8 _<|zj hb e).1,λb hb=>?_,?_,?_,rv3,w7⟩
    .obtain⟨o,e⟩:=hp5 b hb;exact(I7.N (b,o)<|Aa8 _<|Aa8 _<|zj hb e).2.1
    .exact(I7.N _<|Aa8 _<|Ad4 _ Aa).2.1
    .exact(I7.N _<|Aa8 _<|Ad4 _ Aa).1
|true=>
    rw[Da rfl]at q7⊢;refine Om (he C fp s2 H2 _ s7 U6 H7 _ I7 q7) ?_ λ_ _ z=>False.elim z;rintro y s8⟨yv,H8,I8,r8,q8⟩;have pD:=I8.N _<|Aa8 _<|Ad4 _ Aa;have eD8:s8.j.p D=y0 {cls:=.p "list",data:=.j its.w kk}:=pD.1;have hD8:H8 D=none:=pD.2.1;have u6:=rv3.e;refine OR R0 ⟨_,eD8,rfl⟩ RK (Rv _ _) (Sg D its.w kk y<|by rw[Ac];lia) ⟨eD8,?_⟩;obtain⟨m',hm,w8⟩:=hN _ _ _ q8;have IQ:Inv (We X N scope C fp s2 H2) (wM fp s5.j) U6 H8 s8:=I8.bP λp hp=>I8.N p<|Aa8 _<|Aa8 _ hp;have e9:=PySem.IsL.update eD8 (·.push y);rw[show its.w.push y=(its++[y]).w by simp]at e9;have I9:Inv (We X N scope C fp s2 H2) (wM fp s5.j) U6 H8 {s8 with heap:=s8.j.w D (Obj.mapSeq (·.push y)),toks:=s8.p}:=
     IQ.G (it:=D) (λb o hb e=>(Ae7 s8.j (Obj.mapSeq (·.push y))<|Ne.symm hb).x e) hD8 hDC (.u hleD) hDc λp hp=>by have hp:p∈([]:List<|Addr×Obj)++wM fp s5.j:=hp;have:=fo p.1 (JS<|by simpa using hp).1;exact Ab7 this
    refine⟨m',hm,i+1,ys++[yv],its++[y],_,U6,H8,I9.bP λp hp=>absurd hp YC,T.keep _ _ _ st5 λb hb o e=>(I9.N (b,o)<|Aa8 _<|zj hb e).1,λb hb=>?_,hD8,e9,rv3.append<|.j r8 .p,w8⟩;obtain⟨o,e⟩:=hp5 b hb;exact(I9.N (b,o)<|Aa8 _<|zj hb e).2.1
 exact codeAny_compStart_list (loop _ rfl)<|T.self _ 0 _ _ _ st3<|loop _ rfl
def Lb(ok:zZ X scope N k aB)(hi:PI X tg iter wi)
 (l:∀C fp s H,PG (We X N scope C fp s H) tg<|g C fp s H)(j:∀C fp s H,hA (We X N scope C fp s H) ifs<|tc C fp s H)(u:∀C fp s H,PE (We X N scope C fp s H) elt<|te C fp s H)
 (r:X.G=true:=by rfl)(n:∀x,foldedSetIterable iter X.j x=pure x:=by intro _;rfl):PE X (.B elt [⟨tg,iter,ifs,0⟩] scope pos)<|nS k aB wi g tc te:=by
 intro i s U H Q I h;exact QV u0 r ok hi l j u n I h λD C y m p v f a q d=>⟨m,d _ (f.N _<|Aa8 _<|Aa8 _ Aa).1,λw c=>⟨.j D,p,(f.bX).G (λb o t e=>c.extBut b o t e) a.1 a.2.1 a.2.2.2.1 a.2.2.2.2.1 a.2.2.2.2.2,rfl,q⟩⟩
def MA(p:X.N.C)(d:X.N[i]?=y0 x)(w:lA X.j.j x)(ok:zZ X scope N k aB)(hi:PI X tg iter wi)
 (t:∀C fp s H,PG (We X N scope C fp s H) tg<|g C fp s H)(r:∀C fp s H,hA (We X N scope C fp s H) ifs<|tc C fp s H)(G:∀C fp s H,PE (We X N scope C fp s H) elt<|te C fp s H)
 (f:swapsWith (.B elt [⟨tg,iter,ifs,0⟩] scope p0) (y0<|.j x pos') pos.j X.j=pure true:=by rfl)
 (E:X.G=true:=by rfl)(z:∀x,foldedSetIterable iter X.j x=pure x:=by intro _;rfl)(J:X.fn x=k9\/X.j.j.j.j x=y0 .local:=by first|exact .inl rfl|exact .inr rfl|assumption):
 PS X (.j [.j x pos'] (.B elt [⟨tg,iter,ifs,0⟩] scope p0) pos)<|iZ (nS k aB wi g tc te)<|QT i:=by
 intro n s U H D I h;rw[exec_Assign_Name_used _ _ _ _ f];exact AC<|OC<|AC<|AC<|Om (QV _ E ok hi t r G z I h λy C O m B L u a q j=>R8<|Xp u p d w (v:=.j y) rfl (λK l=>⟨m,j _ (l.N _<|Aa8 _<|Aa8 _ Aa).1,λM c=>⟨_,B,(l.bX).G (λb o F e=>c.extBut b o F e) a.1 a.2.1 a.2.2.2.1 a.2.2.2.2.1 a.2.2.2.2.2,q⟩⟩) J) (λ_ P A=>FS<|FS A) λ_ _ e=>e
end
def Jw{K:Aa5}(c:Nat->List V->St->Hp->Prop)(u:xs.e<=1000)(j:c 0 [] Z0 H1)(h:∀i ys Z H,c i ys Z H->ys.e<=i)
 (o:∀i ys Z H,i<=xs.e->c i ys Z H->bu K H a xs)
 (l:∀i ys Z H x,xs[i]?=y0 x->c i ys Z H->g x Z H λZ2 H2=>tc Z2 H2 λb L=>if b=k9 then te Z2 L λy M=>c (i+1) (ys++[y]) Z2 M else c (i+1) ys Z2 L)
 (r:∀ys Z H,c xs.e ys Z H->∀D,H D=u0->Q (.j D) (aG H D<|.u ys)):AR (mH K a) g tc te Z0 H1 Q:=by
 refine⟨λi m ys Z H=>m=xs.e-i/\i<=xs.e/\c i ys Z H,⟨xs.e,by simp,Af0 _,j⟩,?_⟩;rintro i m ys Z H ⟨rfl,n,p⟩;have z:=h i ys Z H p;have q:=o i ys Z H n p;by_cases d:i<xs.e
 .refine .u ⟨⟨xs,xs[i],q,by simp[d]⟩,qp YB,c _,λs t f k=>⟨xs.e-(i+1),(Pg ‹_›<|Ae9 _),rfl,d,k⟩,λx f y=>?_⟩;obtain⟨e,y⟩:=y;subst e;exact l i ys Z _ x (y xs q) p
 .have e:i=xs.e:=by lia
  subst e;exact .p ⟨⟨xs,q,Aa4 _⟩,Ag2<|qp<|Ac0 ‹_› ‹_›,r ys Z H p⟩
noncomputable def nq(K:Aa5)(a:Addr)(n:Nat):It:=
 ⟨λi H=>∃xs,bu K H a xs/\xs.e=n/\i<n,λi H x H'=>H'=H/\∀xs,bu K H a xs->xs[n-1-i]?=y0 x,λi _=>i=n⟩
def NA{K:Aa5}(a it)(n):iG P w K tg (nq K a n) [it] it<|λi h=>h.IsRevIter it a<|(n:Int)-1-((i:Nat):Int) where
 mem:=by simp
 obj:=λi h f b l=>by
  have e:=by simpa using l
  subst e;obtain⟨o,e,c,d⟩:=f;exact⟨o,e,λv z=>by rw[d]at z;cases z⟩
 keep:=λi h D f k=>f.at λo e=>k it YC o e
 item:=by
  intro X x y C M i g s U H E I q f m;subst x y C;obtain⟨J,L,Z,hi⟩:=m;obtain⟨T,rv,p,hz⟩:=I.C L;have G:J[n-1-i]?=y0 (J[n-1-i]'(by lia)):=Aa7 YB;obtain⟨u,Q,S⟩:=rv.get G;obtain⟨A,r,W,t,B,F⟩:=q it YC;have e:n-1-(i:Nat)=((n-1-i:Nat):Int):=by lia
  have f:=f;rw[e]at f;refine wpAny_pyNext_rev_item f p.I (by simpa using Q) λD j O=>?_;have N:Inv X g U H {s with heap:=D}:=I.G (λb o l e=>(O.2 b l).x e) A r t B F;have R:(n-1-i:Nat)-1=n-1-((i+1:Nat):Int):=by lia
  rw[R]at j;obtain⟨o,e,c,d⟩:=id j;exact⟨u,rfl,lJ e c d YA ⟨_,H,N,S,⟨rfl,λys Y=>by rw[I.dt Y L];exact G⟩,j,λb l=>(q b l).1⟩⟩
 done:=by
  intro X x y C M i g s U H E I q f m;subst x y C;have m:=m;subst m;obtain⟨A,r,W,t,B,F⟩:=q it YC;have e:i-1-((i:Nat):Int)=-1:=by lia
  have f:=f;rw[e]at f;exact wpAny_pyNext_rev_end (I.j.hd M) f λD V=>⟨rfl,I.G (λb o l e=>V b o l e) A r t B F⟩
 self:=λ_ _ _ _ _ f h=>Rw f h
section
variable{X:Cx}{tg:Expr}
def MF(K:Aa5)(b:TA):TI:=λU H R=>b U H λvs H1=>∃a xs,vs=[.j a]/\bu K H1 a xs/\R (nq K a xs.e) H1
def oq(m:Gl X "reversed")(u:X.mg "reversed"=none)(x:PA X [a] ta)(v:starEach [a] X.j=[(false,eval a X.j)]:=by rfl):PI X tg (.u (.j "reversed" p) [a] [] pos)<|MF X.K ta:=by
 intro g s U H R I h;refine Call_<|Xw I m u boot_reversed<|Os (aJ (x pos g s U H _ I h) ?_) v rfl;rintro B j⟨C,A,i,n,y⟩;obtain⟨b,d,e,w,q⟩:=y;subst e;cases n with
|cons r t=>
  cases t;cases r;obtain⟨k,rv,pl,D⟩:=i.C w;refine call_reversed_list pl.I ?_;have f:k.w.j=d.e:=by rw[Ac];exact rv.e.j
  rw[f];have l:(j.j.u<|revObj b<|d.e-1).IsRevIter j.j.j.j b<|d.e-1-(0:Nat):=by refine⟨_,Ab6 _ rfl,rfl,?_⟩;rw[show d.e-1-(0:Nat)=(d.e:Int)-1 by lia]<;>rfl
  refine Rw l ?_;refine⟨j.j.j.j,[j.j.j.j],_,_,A,rfl,i.L λb o e=>Aa3 _ e,NA b _ d.e,l,λc z=>?_,q⟩;have e:=by simpa using z
  subst e;exact i.dj (Aa4 _)<|i.J.M<|Aa4 _
end
structure Ob(P:Program)(w:World)(K:Aa5)(mg:Str->Option Value)(base:Heap)(k:Nat)(x:Str)(ps:List Str)(sp:Sp):Prop where
 ex:∃f fd,bj P w K mg base mS k f fd ps sp/\Binds K fd ps []/\Af6 K (.j f)=k9/\mg x=y0 (.j f)
open PySem PySem.Spec PySem.Calls PySem.W PyProof.Rows
structure hH(K:Frag)(C:Addr):Prop where
 ga:findIn K (.j C) "__getattribute__"=some (some<|.u "BaseException.__getattribute__")
 gn:findIn K (.j C) "__getattr__"=some none
 cl:findIn K (.j C) "__class__"=some (some<|.u "object.__class__")
 get:specialIn K (.u "object.__class__") "__get__"=some (some<|.u "getset_descriptor.__get__")
 set:takesIn K (.u "object.__class__")=some true
 obj:mroIn K C (.p "object")=some true
 bas:mroIn K C (.p "BaseException")=some true
 slf:kitCls K (.j C) (.j C)=y0 k9
 cls:(clsIn K C).w=k9
def ExcAt(h:Heap)(x C:Addr):Prop:=∃o,h.p x=y0 o/\o.cls=.j C
def ExcAt.type (e:ExcAt h x C):Looks M h (typeOf<|.j x)<|.j C:=by obtain⟨o,b,a⟩:=e;rw[←a];exact(Looks.ld b).a3 Looks.now
section
variable{prog:Program}{w:World}{A:Around}{E:Value->Shared->Prop}{s:Shared}{K:Frag}{x C:Addr}
def Q2(X:K.In s.j)(I:ExcAt s.j x C)(Z:hH K C)(a:R (.ok<|.ret<|.j C) s):
 codeAny (model prog w) A (.call (.u "getset_descriptor.__get__") ⟨[.u "object.__class__",.j x,tp],[]⟩) R s:=by
 obtain⟨c,g,dd,d,b⟩:=s;have e:=I.type (M:=model prog w);have f:=looks_mroIn (M:=model prog w) X Z.obj;refine ON KF.slot_gs.plain KF.entry_gs<|KF.slot_gs.check _ _ _ _ _ _ _ _ KF.type_class (KF.args_gs _ _ _) ?_;unfold Builtin.«getset_descriptor.__get__»Builtin.Getset_descriptor.descrGet;rw[dga_obj];refine AC<|FS ?_;unfold Builtin.Getset_descriptor.descrGetter Builtin.Getset_descriptor.descrCheckInstance Builtin.Getset_descriptor.descrNameAndClass isInstance;simp only[KF.owner_class]
 repeat lk
 refine⟨OQ _<|by decide+kernel,OJ KF.entry_class ?_⟩;unfold Builtin.«object.__class__»shownTypeOf
 repeat lk
 exact a
def jX(X:K.In s.j)(I:ExcAt s.j x C)(Z:hH K C)(o:Q (y0<|.j C) {s with toks:=s.p+1}):
 wpAny (model prog w) A (getAttr? (.j x) "__class__") Q E s:=by
 obtain⟨b,e,dd,y,d⟩:=s;have j:=I.type (M:=model prog w);have q:=looks_findIn (M:=model prog w) X Z.ga;have p:=looks_findIn (M:=model prog w) X Z.gn;have r:=looks_findIn (M:=model prog w) X Z.cl;have u:=looks_specialIn (M:=model prog w) X Z.get;have k:=looks_takesIn (M:=model prog w) X Z.set;have l:=looks_mroIn (M:=model prog w) X Z.bas;have c:Looks (model prog w) b (Builtin.ObjectAttr.find (.j x) (.j C) "__class__")<|.bind (.u "getset_descriptor.__get__")<|.u "object.__class__":=by unfold Builtin.ObjectAttr.find;refine r.a3 ?_;refine Looks.andThen (show Looks (model prog w) b (Builtin.ObjectAttr.getOf<|some<|.u "object.__class__")<|some<|.u "getset_descriptor.__get__"from u) ?_;unfold Builtin.ObjectAttr.dataDescriptor?;refine Looks.andThen (a:=y0 (.u "getset_descriptor.__get__",.u "object.__class__")) (k.a3 ?_)<|Looks.tag Looks.now;exact Looks.now
 have f:∀A tk Q E t,Q (.done<|.ret<|.j C) ⟨b,e,dd,t,d⟩→
  wpAny _ A (Builtin.«object.__getattribute__» ⟨[.j x,.m "__class__" tk],[]⟩) Q E ⟨b,e,dd,t,d⟩:=fun A tk Q E t h=>by
  unfold Builtin.«object.__getattribute__»;refine AC<|Pi (a:=(Value.ref x,[Value.str "__class__" tk])) rfl ?_;dsimp only;refine AC<|Pi (a:=("__class__":Str)) rfl ?_;refine AC<|j.at<|AC<|c.at ?_;show wpAny _ _ (Builtin.ObjectAttr.bindTo _ _ _ _) _ _ _;unfold Builtin.ObjectAttr.bindTo;dsimp only;exact AC<|Ol<|OM<|Q2 X I Z<|FS h
 have i:∀A g Q E t,Q () ⟨b,e,dd,t,d⟩→
  wpAny (model prog w) A (checkBuiltinCall "BaseException.__getattribute__" ⟨[.j x,g],[]⟩) Q E ⟨b,e,dd,t,d⟩:=fun A g Q E t h=>by
  have v:builtinKind "BaseException.__getattribute__"=some .slot:=by decide+kernel
  have m:splitId "BaseException.__getattribute__"=some ("BaseException","__getattribute__"):=by decide+kernel
  have n:=F.args_bexc_ga (.j x) g;simp only[checkBuiltinCall,v,m];refine AC<|(j.a3 l:Looks (model prog w) b (isInstance (.j x)<|.p "BaseException") true).at ?_;rw[Fk YA];exact Pi n h
 unfold getAttr? getAttrBy? getAttrBy;refine AC<|wpAny_mkText<|AC<|Pm<|Ol<|AC<|j.at<|AC<|q.at ?_;show wpAny _ _ (getAttrByItsOwn _ _ _ _ _ _) _ _ _;unfold getAttrByItsOwn hookBefore;refine AC<|p.at ?_;refine AC<|Pm<|Ol ?_;show wpAny _ _ (boundAndCalled (.u "BaseException.__getattribute__") (.j x) _) _ _ _;unfold boundAndCalled;refine AC<|Pi (F.excAttr_ValueError.ga.bind _) ?_;refine OM<|ON F.excAttr_ValueError.ga.plain F.entry_bexc_ga<|i _ _ _ _ _<|f _ _ _ _ _ ?_;show wpAny _ _ (handedOut<|.j C) _ _ _;exact handed_on rfl<|FS o
end
def WN{K:Frag}(Z:hH K C):KitX K (.j x) (.j C)<|λh=>ExcAt h x C where
 ty:=λ_ _ _ I=>I.type
 it:=λM h X _=>(kit_cls X Z.slf).2.1
 ne:=λh f dd d n sl X b=>by
  rw[Ag8];intro q;have e:=Value.ref.inj<|beq_iff_eq.j q;subst e;have z:=Z.cls;cases a:K.j C with
|none=>simp[clsIn,a]at z
|some o=>have c:=X C o a;rw[b]at c;cases c;simp[clsIn,a]at z
 ca:=λX I k=>jX X I Z k
noncomputable def fS(x C:Addr)(a:Option Addr):HO:=.ext λh=>∃o,h.p x=y0 o/\o.cls=.j C/\notCls o=k9/\∀dx,a=y0 dx->o.u=y0 dx
def CP(e:h.p x=y0 o)(c:o.cls=.j C)(f:notCls o=k9)(d:∀dx,od=y0 dx->o.u=y0 dx):aO P w H h x<|fS x C od:=
 ⟨⟨o,e,c,f,d⟩,⟨o,e⟩,by rintro g i⟨o,a,b⟩k;exact⟨o,k o a,b⟩⟩
def vH(K:Frag):List V->Hp->VK->Prop:=λxs H Q=>∃x C a b,hH K C/\H x=y0 (fS x C a)∧
 ((∃(D:Addr),xs=[.j x,.j D]/\kitOne K (.j C) (.j D)=y0 b)\/(∃(T:String),xs=[.j x,.ty T]/\kitOne K (.j C) (.p T)=y0 b)∨
   ∃(t:Addr)(ds:List Addr),xs=[.j x,.j t]/\H t=y0 (.tup<|ds.u V.ref)/\kitAny K (.j C) (ds.u Value.ref)=y0 b)/\Q (.bl b) H
theorem zV:∀{ds:List Addr}{us},Vals (ds.u V.ref) us->us=ds.u Value.ref
|[],_,.p=>rfl
|_::_,_,.j r t=>by cases r;rw[zV t];rfl
def tL:Xr X (.u "isinstance")<|vH X.K:=by
 intro f s U H B w Q I r h;obtain⟨x,C,y,b,Z,k,v,q⟩:=h;have ex:ExcAt s.j x C:=let⟨o,a,b,_⟩:=(I.J x _ k).1;⟨o,a,b⟩;obtain⟨D,rfl,e⟩|⟨T,rfl,e⟩|⟨t,E,rfl,j,e⟩:=v
 .obtain⟨u,i,rfl,d,c⟩:=n9 r;cases d;cases c;exact kia_one (WN Z) I.bE ex e (λz=>nomatch z) λtk=>⟨.bl b,H,I.tok tk,rfl,q⟩
 .obtain⟨u,i,rfl,d,c⟩:=n9 r;cases d;cases c;exact kia_one (WN Z) I.bE ex e (λz=>nomatch z) λtk=>⟨.bl b,H,I.tok tk,rfl,q⟩
 .obtain⟨u,i,rfl,d,c⟩:=n9 r;cases d;cases c;obtain⟨_,m,rv,o,p,l,_,n,g⟩:=I.J t _ j;rw[zV rv]at g;obtain⟨A,F,G,sl⟩:=o;subst l g;exact kia_tup (WN Z) I.bE ex p e (λz=>nomatch z) λtk=>⟨.bl b,H,I.tok tk,rfl,q⟩
def ir(o b:Obj):Prop:=b.u=o.u/\∀vs,o.j=.p vs->∃a,b.j=.p a/\a[2]?=vs[2]?
def ir.refl (o:Obj):ir o o:=⟨rfl,λa e=>⟨a,e,rfl⟩⟩
theorem ir.trans {a b c:Obj}(x:ir a b)(y:ir b c):ir a c:=⟨y.1.x x.1,λd e=>by obtain⟨v1,i,g⟩:=x.2 d e;obtain⟨v2,f,h⟩:=y.2 v1 i;exact⟨v2,f,h.x g⟩⟩
def DK(h h':Heap):Prop:=∀b o,h.p b=y0 o->∃o',h'.p b=y0 o'/\ir o o'
theorem DK.refl (h:Heap):DK h h:=λ_ o e=>⟨o,e,.refl o⟩
theorem DK.trans {a b c:Heap}(x:DK a b)(y:DK b c):DK a c:=λi o e=>
 let⟨k,j,g⟩:=x i o e;let⟨d,f,h⟩:=y i k j
 ⟨d,f,g.trans h⟩
def gj(h:Heap)(x:Addr):Prop:=∃o vs,h.p x=y0 o/\o.j=.p vs/\vs[2]?=y0 .w
def gj.dk {h h':Heap}{x:Addr}(c:gj h x)(d:DK h h'):gj h' x:=by obtain⟨o,f,k,g,l⟩:=c;obtain⟨i,b,m⟩:=d x o k;obtain⟨a,e,j⟩:=m.2 f g;exact⟨i,a,b,e,j.x l⟩
def nI(a:Option Addr)(H:Hp):Prop:=∀dx,a=y0 dx->∃p,H dx=y0 (.xd [p])
def KD{α:Type}:Sem α->Prop
|.pure _=>True
|.raise _=>True
|.unsupported _=>True
|.finish _=>True
|.register _ _=>True
|.rule _ k=>KD<|k ()
|.at _ k=>KD<|k ()
|.load _ _ k=>∀o,KD<|k o
|.update _ _ f k=>(∀o,ir o (f o)/\(o.isFreed=u9->(f o).isFreed=u9))/\KD (k ())
|.alloc _ k=>∀a,KD<|k a
|.loadIfAlive _ k=>∀o,KD<|k o
|.point _ k=>KD<|k ()
|.fresh k=>∀t,KD<|k t
|.ask k=>∀t,KD<|k t
|.handled _ k=>∀t,KD<|k t
|.stack k=>∀t,KD<|k t
|.thread k=>∀t,KD<|k t
|_=>False
theorem KD.bind (c:∀a,KD<|f a)(h:KD m):KD<|m.bind f:=by
 induction m with
|pure a=>exact c a
|raise _=>exact trivial
|unsupported _=>exact trivial
|finish _=>exact trivial
|register _ _=>exact trivial
|rule _ k b=>exact b () h
|«at»_ k b=>exact b () h
|load _ _ k b=>exactλo=>b o<|h o
|update _ _ _ k b=>exact⟨h.1,b () h.2⟩
|alloc _ k b=>exactλo=>b o<|h o
|loadIfAlive _ k b=>exactλo=>b o<|h o
|point _ k b=>exact b () h
|fresh k b=>exactλo=>b o<|h o
|ask k b=>exactλo=>b o<|h o
|handled _ k b=>exactλo=>b o<|h o
|stack k b=>exactλo=>b o<|h o
|thread k b=>exactλo=>b o<|h o
|_=>exact False.elim h
theorem DK.push (h:Heap)(o:Obj):DK h<|h.u o:=λb u e=>⟨u,Aa3 _ e,.refl u⟩
theorem DK.update (h:Heap)(a:Addr){f:Obj->Obj}(c:∀o,ir o (f o)/\(o.isFreed=u9->(f o).isFreed=u9)):DK h<|h.w a f:=λb u e=>by
 by_cases q:a=b
 .subst q;exact⟨f u,Ag1 f e<|(c u).2 (Heap.get?_some_iff.j e).2,(c u).1⟩
 .exact⟨u,by rw[Ae7 _ _ q];exact e,.refl u⟩
def IT:∀{p}{s},KD t->DK h0 s.j->Sem.wp M Y t Q E p s→
 Sem.wp M Y t (λa p s'=>Q a p s'/\DK h0 s'.j) (λe p s'=>E e p s'/\DK h0 s'.j) p s:=by
 induction t with
|pure a=>exactλk d h=>⟨h,d⟩
|raise _=>exactλk d h=>⟨h,d⟩
|unsupported _=>exactλk d h=>h
|finish _=>exactλk d h=>h
|register _ _=>exactλk d h=>h
|rule _ t b=>exactλk d h=>b () k d h
|«at»_ t b=>exactλk d h=>b () k d h
|load _ _ t b=>exactλk d ⟨o,e,h⟩=>⟨o,e,b o (k o) d h⟩
|update a _ f t b=>exactλk d ⟨e,h⟩=>⟨e,b () k.2 (d.trans<|DK.update _ _ k.1) h⟩
|alloc o t b=>exactλk d h=>b _ (k _) (d.trans<|DK.push _ _) h
|loadIfAlive _ t b=>exactλk d h=>b _ (k _) d h
|point _ t b=>exactλk d h=>b () k d h
|fresh t b=>exactλk d h=>b _ (k _) d h
|ask t b=>exactλk d h=>b _ (k _) d h
|handled _ t b=>exactλk d h=>b _ (k _) d h
|stack t b=>exactλk d h=>b _ (k _) d h
|thread t b=>exactλk d h=>b _ (k _) d h
|_=>exactλk=>False.elim k
def QR(k:KD t)(h:wpAny M A t Q E s):
 wpAny M A t (λa s'=>Q a s'/\DK s.j s'.j) (λe s'=>E e s'/\DK s.j s'.j) s:=λY p b=>IT k (DK.refl _)<|h Y p b
def x2(v):KD<|fieldsOf v:=by
 cases v<;>first|exact trivial|skip
 refine KD.bind (λo=>?_) λ_=>trivial;split<;>exact trivial
def wC(v)(i):KD<|field v i:=by refine KD.bind (λo=>?_)<|x2 v;split<;>exact trivial
def Z4{c:Bool}(d:KD a)(e:KD b):KD<|if c then a else b:=by cases c<;>assumption
def xu(v:Value)(i:Nat)(x:Value)(hi:i≠2):KD<|setField v i x:=by
 cases v<;>first|exact trivial|skip
 refine KD.bind (λo=>?_) (m:=load _) λ_=>trivial;split
 .split
  .refine⟨λo=>?_,trivial⟩;obtain⟨c,d,a,sl⟩:=o;cases a<;>first|exact⟨.refl _,λz=>z⟩|exact⟨⟨rfl,λb e=>by cases e;exact⟨_,rfl,Array.getElem?_setIfInBounds_ne hi⟩⟩,λz=>z⟩
  .exact trivial
 .exact trivial
def WR(f)(b):KD<|entryPlaceOf f b:=by refine KD.bind (λo=>?_) λ_=>trivial;split<;>exact trivial
def W0(a b c d e)(p):KD<|EntryCells.newEntry a b c d e p:=by
 have f:∀g:Array Value,KD<|if g.j>sizeLine+2 then do
  unsupported "record:memory"
  else newObjAsIs (Value.type "traceback") (Data.fields g):=fun g=>by
  split
  .exact trivial
  .unfold newObjAsIs;exactλ_=>trivial
 exact f _
theorem q9:∀l:List Env,KD<|readyFrames l
|[]=>trivial
|env::outer=>by
  unfold readyFrames;split
  .refine KD.bind (λo=>?_) (m:=load _) λ_=>trivial;refine Z4 trivial ?_;refine KD.bind (λi=>?_) ?_
   .refine KD.bind (λb=>?_) ?_
    .refine KD.bind (λ_=>q9 outer) (m:=update _ _) ⟨λo=>⟨⟨rfl,λa e=>⟨a,e,rfl⟩⟩,λz=>?_⟩,trivial⟩;obtain⟨c,d,f,sl⟩:=o;cases f<;>exact z
    .unfold keptBack;split
     .refine Z4 trivial ?_;refine KD.bind (λ_=>by exact trivial) ?_;unfold underTheClaimsCaller;exactλ_=>trivial
     .exact trivial
   .unfold behindIsImport;refine Z4 trivial<|Z4 trivial ?_;exact KD.bind (λ_=>by exact trivial)<|wC _ _
  .exact trivial
def Lm(env):KD<|PySem.frameOf env:=by
 refine KD.bind (λl=>?_) λ_=>trivial;refine KD.bind (λo=>?_) ?_
 .split<;>exact trivial
 .unfold frameObject;split
  .exact trivial
  .exact KD.bind (λ_=>trivial)<|q9 _
def X4(e:Value)(env:Env):KD<|noteFrame e env:=by
 unfold noteFrame;split
 .refine KD.bind (λf=>?_)<|wC _ _;have d:KD (do setField e 1<|←EntryCells.newEntry f (←PySem.frameOf env) .w (rawInt ‹Addr›) .w<|←entryPlaceOf ‹Addr›<|f !=.w):=
   KD.bind (λa=>KD.bind (λb=>KD.bind (λc=>xu _ _ _ YA)<|W0 _ _ _ _ _ _)<|WR _ _)<|Lm env
  refine Z4 ?_ d;refine KD.bind (λx=>?_)<|wC _ _;refine Z4 trivial ?_;exact KD.bind (λ_=>d)<|xu _ _ _ YA
 .exact trivial
def Qs(e:Value)(f:Option Addr):KD<|setFlight e f:=by refine KD.bind (λx=>?_)<|wC _ _;exact Z4 (xu _ _ _ YA) trivial
def xK(env)(e):KD<|leaving env e:=KD.bind (λ_=>Qs e u0)<|X4 e env
def aO.there (x:aO P w H h a o):∃u,h.p a=y0 u:=by
 cases o with
|lst c=>exact⟨_,x.2.choose_spec.choose_spec.2⟩
|tup c=>obtain⟨_,_,_,u,e,_⟩:=x;exact⟨u,e⟩
|dK b=>obtain⟨_,_,_,_,u,_,_,e,_⟩:=x;exact⟨u,e⟩
|dT b=>obtain⟨_,_,_,_,u,_,_,e,_⟩:=x;exact⟨u,e⟩
|set S n=>obtain⟨u,_,_,_,e,_⟩:=x;exact⟨u,e⟩
|ins C l fs=>obtain⟨_,_,_,e,_⟩:=x;exact⟨_,e⟩
|own y=>exact x
|xd fs=>obtain⟨_,⟨u,_,_,e,_⟩,_⟩:=x;exact⟨u,e⟩
|ib d g=>obtain⟨_,_,_,e⟩:=x;exact⟨_,e⟩
|eF i u=>exact⟨_,x.1⟩
|iT j=>exact⟨_,show h.p a=y0 _ from x⟩
|met f y=>exact⟨_,show h.p a=y0 _ from x⟩
|ext k=>exact x.2.1
def bO(P:Program)(w:World):gm:=λouter H s E e s'=>∃(x C t:Addr)(B:Heap)(H':Hp)(a:Option Addr),e=.j x/\s'.os=s.os/\AllBare s'.u∧
 Ah8 B outer x (.j C) (.j t) s'.j/\Un (bM outer) [] H H' s.j s'.j/\cZ P w H' s'.j∧
 (∀b o,s'.j.p b=y0 o->((∃u,H' b=y0 u)\/∃u,s.j.p b=y0 u)->b∉bM outer->B.p b=y0 o)/\s.j.p x=u0/\((∀dx,a=y0 dx->∃o,s'.j.p x=y0 o/\o.u=y0 dx)/\(nI a H'->gj s'.j x))/\E (.j C) a H'
noncomputable def fV(C t:Addr)(a:Option Addr):Obj:={cls:=.j C,dict:=a,data:=.p #[.j t,.w,.w,.w,.y u9,.w]}
section
variable{P:Program}{w:World}{K:Frag}{mg:Str->Option Value}{base:Heap}{N:List Str}{k6:Str}{scope:Scope}{f:Addr}{cd:Value}{A:Around}{outer:List Env}{s:Shared}{H:Hp}{E:XK}
def Xz{u7:List<|Addr×Obj}{U:St}{H1:Hp}{s2:Shared}{e C t:Addr}{od:Option Addr}(I:Inv (Ju (bO P w) P w K mg base N k6 scope f cd A outer s H E) u7 U H1 s2)
 {oe:Obj}{vs:Array Value}(he:s2.j.p e=y0 oe)(hc:oe.cls=.j C)(hod:oe.u=od)(hdt:oe.j=.p vs)(v0:vs[0]?=y0 (.j t))(v1:vs[1]?=y0 .w)(v2:nI od H1->vs[2]?=y0 .w)(new:s.j.p e=u0)(h0:H1 e=u0)(q:E (.j C) od H1):(Ju (bO P w) P w K mg base N k6 scope f cd A outer s H E).xe (.j e) s2:=by
 have ff:s2.j.A base _:=I.B;have fb0:=funFrames_hide (as:=e::bM (envOfC k6 scope s.j.j.j f cd::outer)) ff λenv he a ha=>Aa0 _<|Ai9.p ⟨env,he,ha⟩;have free:∀b∈bM _,H1 b=none:=I.cO;have fe:e∉bM _:=λhm=>by obtain⟨_,o,ho,nf⟩:=ff.mem hm;rw[he]at ho;cases ho;exact nf _ hdt
 refine Om (QR (xK _ _)<|wpAny_leaving_firstW (M:=model P w) (E:=λ_ _=>False)
  (Q:=λ_ s'=>Heap.LeftW (hideAll s2.j<|e::bM (envOfC k6 scope s.j.j.j f cd::outer)) (envOfC k6 scope s.j.j.j f cd::outer) e (.j C) (.j t) s2.j s'.j/\s'={s2 with heap:=s'.j})
  (a0:=.j t) (L:=s.j.j.j) I.j.frames fb0 rfl he (λb o z=>of_hideAll _ z) (hideAll_none _<|Aa ..) hdt v1 v0 λh' hL=>⟨by rw[←hc];exact hL,rfl⟩) (λ_ s' ⟨⟨hL,hs⟩,dk⟩=>?_)<|λ_ _ z=>z.1.j
 obtain⟨k1,k2,k3,x4⟩:=hL;obtain⟨h2,g2,d2,t2,o2⟩:=s';simp only[Shared.mk.injEq]at hs;obtain⟨-,rfl,rfl,rfl,rfl⟩:=hs;have oB:∀b o,s2.j.p b=y0 o->b≠e->b∉bM _->(hideAll s2.j<|e::bM (envOfC k6 scope s.j.j.j f cd::outer)).p b=y0 o:=λb o z ne n=>hideAll_get _ z (by rw[Aa6];exactλq=>q.j ne n);have toH:∀b o,s2.j.p b=y0 o->b≠e->b∉bM (envOfC k6 scope s.j.j.j f cd::outer)->h2.p b=y0 o:=λb o z ne n=>k1 b o<|oB b o z ne n;have slotH:∀b o,b∈bM (envOfC k6 scope s.j.j.j f cd::outer)->s2.j.p b=y0 o->∃sl,h2.p b=y0 {o with slots:=sl}:=λb o hb z=>by obtain⟨_,o',z',nf⟩:=ff.mem hb;rw[z]at z';cases z';exact x4 b o z nf
 have cut:∀b,b∉bM outer->b≠s.j.j.j->b∉bM (envOfC k6 scope s.j.j.j f cd::outer):=λb n1 n2 hb=>by
  rcases Aa6.j (show b∈s.j.j.j::bM outer from hb)with z|z
  .exact n2 z
  .exact n1 z
 have old:∀b o,s.j.p b=y0 o->b≠s.j.j.j:=λb o z=>Ab7<|Ab3 z;have olde:∀b o,s.j.p b=y0 o->b≠e:=λb o z q=>by rw[q,new]at z;cases z
 have eK:∀b u,H1 b=y0 u->b≠e/\b∉bM (envOfC k6 scope s.j.j.j f cd::outer):=λb u z=>⟨λq=>(by rw[q,h0]at z;cases z),λhb=>(by rw[free b hb]at z;cases z)⟩;refine⟨e,C,t,_,H1,od,rfl,I.os,I.Q,⟨k1,hideAll_none _<|Aa ..,k2.2.2,k3⟩,⟨λb o z n hb hx=>?_,λb o z n hb hx=>?_,I.u.w,λb o z hx=>?_,I.u.cL,I.u.cA,I.u.cH⟩,λb u z=>?_,λb o z hc hb=>?_,new,⟨λdx z=>?_,λz=>gj.dk ⟨oe,vs,he,hdt,v2 z⟩ dk⟩,q⟩
 .exact toH b o (I.u.keep b o z n hb hx) (olde b o z)<|cut b hb<|old b o z
 .obtain⟨sl,z1⟩:=I.u.slot b o z n hb hx;obtain⟨sl2,z2⟩:=slotH b _ (Aa0 _ hb) z1;exact⟨sl2,z2⟩
 .obtain⟨o',z1⟩:=I.u.p b o z hx;by_cases hb:b∈bM (envOfC k6 scope s.j.j.j f cd::outer)
  .obtain⟨sl,z2⟩:=slotH b o' hb z1;exact⟨_,z2⟩
  .exact⟨o',toH b o' z1 (olde b o z) hb⟩
 .refine(I.J b u z).cK (λc v hc z1=>?_) (λ_ z1=>z1) λ_ _ z1=>z1;rcases hc with rfl|hc
  .exact toH c v z1 (eK c u z).1 (eK c u z).2
  .exact toH c v z1 (eK c _ hc).1 (eK c _ hc).2
 .have two:∃o2,s2.j.p b=y0 o2/\b≠e/\b∉bM (envOfC k6 scope s.j.j.j f cd::outer):=by
   rcases hc with⟨u,hu⟩|⟨u,hu⟩
   .obtain⟨o2,z2⟩:=(I.J b u hu).there;exact⟨o2,z2,eK b u hu⟩
   .obtain⟨o2,z2⟩:=I.u.p b u hu (by show b∉([]:List Addr);simp);exact⟨o2,z2,olde b u hu,cut b hb<|old b u hu⟩
  obtain⟨o2,z2,nb⟩:=two;have z3:=toH b o2 z2 nb.1 nb.2;rw[show h2.p b=y0 o from z]at z3;cases z3;exact oB b _ z2 nb.1 nb.2
 .obtain⟨o',e1,e2⟩:=dk e _ he;exact⟨o',e1,e2.1.x<|hod.x z⟩
def ZZ{b:List<|Addr×Obj}{U:St}{g:Hp}{d:Shared}{h':Heap}{e C:Addr}{vs:List Value}(I:Inv (Ju (bO P w) P w K mg base N k6 scope f cd A outer s H E) b U g d)
 (c:Heap.MadeExcOf d.j h' e (.j C) vs)(q:E (.j C) u0 g):(Ju (bO P w) P w K mg base N k6 scope f cd A outer s H E).xe (.j e) {d with heap:=h'}:=by
 obtain⟨t,i,_⟩:=c.there;refine Xz (I.L (t':=d.p) c.keeps) i rfl rfl rfl rfl rfl (λ_=>rfl) ?_ ?_ q
 .cases z:s.j.p e with
|none=>rfl
|some u=>obtain⟨h,a⟩:=I.u.p e u z (by show e∉[];simp);rw[c.new]at a;cases a
 .cases z:g e with
|none=>rfl
|some u=>obtain⟨h,a⟩:=(I.J e u z).there;rw[c.new]at a;cases a
end
noncomputable abbrev m1:List Value:=[.p "ValueError",.p "Exception",.p "BaseException",.p "object"]
noncomputable def nJ(x:Frag->Addr->Bool)(K:Frag)(C:Addr):Bool:=match K.j C with
|some ⟨t,_,.cls cd,l⟩=>k8 (t=.p "type"/\cd.mro=.j C::cd.mro.tail/\l=#[l.getD 0 none,l.getD 1 none,l.getD 2 none,l.getD 3 none,some (.u "ValueError.__new__"),l.getD 5 none]/\cd.hasDel=false)&&(tailIn K m1 cd.mro.tail&&(nsOkIn K cd.ns&&x K cd.ns))
|_=>u9
set_option tactic.hygienic true in
def Jr{x:Frag->Addr->Bool}{K:Frag}{h:Heap}{C:Addr}(X:K.In h)(q:nJ x K C=k9):
 ∃bm L nm M bs O sn sub ab col dd k0 k1 k2 k3 k5,h.p C=some (excClassObj nm M C L bs bm O sn sub ab col dd k0 k1 k2 k3 k5 "ValueError.__new__")/\nsOkIn K L=true/\x K L=true/\OwnTail h m1 bm:=by
 unfold nJ at q;split at q;next t dd n l e=>
  simp only[Aa9,On]at q;obtain⟨⟨rfl,a,m,g⟩,b,i,f⟩:=q;obtain⟨nm,bs,d,c,M,O,sn,sub,ab,col,k⟩:=n;dsimp only at a g b i f;generalize d.tail=j at a b;subst g a;rw[m]at e;exact⟨j,c,nm,M,bs,O,sn,sub,ab,col,dd,_,_,_,_,_,X _ _ e,i,f,tail_of_in X b⟩
 next=>cases q
abbrev rS:Frag->Addr->Bool:=nJ λK a=>nsIn K a "__init__"==some none
section
variable{P:Program}{w:World}{K:Frag}{mg:Str->Option Value}{base:Heap}{N:List Str}{k6:Str}{scope:Scope}{f:Addr}{cd:Value}{A:Around}{outer:List Env}{s:Shared}{H:Hp}{E:XK}
def vG(C:Addr)(E:XK)(t:TA):TS:=λ_ U H=>t U H λvs H1=>vs.e<=sizeLine/\E (.j C) u0 H1
def E9{x:Str}{np b pos:Pos}{e:Expr}{es:List Expr}{t:TA}{C:Addr}(hh:A.j=u0)(hq:rS K C=k9)(X:mg x=y0 (.j C))(S:Gl (Ju (bO P w) P w K mg base N k6 scope f cd A outer s H E) x)
 (ha:PA (Ju (bO P w) P w K mg base N k6 scope f cd A outer s H E) (e::es) t)
 (F:starEach (e::es) (envOfC k6 scope s.j.j.j f cd)=(u9,eval e<|envOfC k6 scope s.j.j.j f cd)::starEach es (envOfC k6 scope s.j.j.j f cd):=by rfl)
 (k:(backTo b<|starEach es<|envOfC k6 scope s.j.j.j f cd).G (·.1)=false:=by rfl)(hd:(x==("__debug__":Str))=false:=by decide):
 PS (Ju (bO P w) P w K mg base N k6 scope f cd A outer s H E) (.p (y0<|.u (.j x np) (e::es) [] b) u0 pos)<|vG C E t:=by
 intro g j U H1 D I h;obtain⟨y,Y,B,Z,bs,m,p,sub,G,d,dd,u,L,o,r,J,M,v,V,T⟩:=Jr I.mod.eZ hq;have Q:=PZ<|isNs_of_in I.mod.eZ v;have n:=nsMap_none_of_in I.mod.eZ v<|eq_of_beq V;refine wpAny_Raise_call_subT (C:=C) (nm:=B) (q:=Z) (N:=Y) (bs:=bs) (bm:=y) (hdct:=m) (sn:=p) (sub:=sub) (ab:=G) (col:=d) (dd:=dd) (k0:=u) (k1:=L) (k2:=o) (k3:=r) (k5:=J)
  Pn (mN:=_) (T.hasType PySem.F.excBase_ValueError.hasBase) hh ?_ n<|Zo I S X ⟨rfl,?_⟩ hd
 .show(backTo b<|starEach (e::es)<|envOfC k6 scope s.j.j.j f cd).G (·.1)=u9;rw[F];show(u9||(backTo b<|starEach es<|envOfC k6 scope s.j.j.j f cd).G (·.1))=u9;rw[k];rfl
 .have W:=ha b g j U H1 _ I h;show wpAny (model P w) _ (evalArgs (.j C) k9 (backTo b<|starEach (e::es)<|envOfC k6 scope s.j.j.j f cd) []) _ _ j;have c:wpAny (model P w) (A.p<|envOfC k6 scope s.j.j.j f cd) (spliced<|backTo b<|starEach (e::es)<|envOfC k6 scope s.j.j.j f cd) _ _ j:=W;rw[F]at c⊢;exact Pe<|aJ c<|by rintro O s2⟨vs,H2,i,R,z,q2⟩;exact⟨rfl,by show O.e<=sizeLine;rw[←R.e];exact z,i.bk _ _ M,Q.keeps i.bk,T.keeps i.bk,λh' a l=>ZZ i l q2⟩
def gH.Ap {st:Stmt}(F:gH K x k6 st f fd)(S:qt N ps<|Xe st)(len:∀vs H Q E,sp vs H Q E->vs.e=ps.e)
 (a:∀L A outer s H vs Q E,aM k (A.p<|envOfC k6 (Xe st) s.j.j.j f L)->sp vs H Q E→
   ∃t,cV (Ju (bO P w) P w K mg base N k6 (Xe st) f L A outer s H E) (zw st) t/\t {nx:=λ_ H'=>Q .aj H',rt:=Q} (xC N vs) H):bj P w K mg base (bO P w) (k+1) f fd ps sp:=by
 obtain⟨m,l,kV,d,j,n,L,i,h,rfl,g,b⟩:=F.ex;exact Ek g b S len λA outer s H vs Q E e c=>a L A outer s H vs Q E e c
def Ep:PassesOwn (model P w) (A.p<|envOfC k6 scope s.j.j.j f cd) (envOfC k6 scope s.j.j.j f cd) (Ju (bO P w) P w K mg base N k6 scope f cd A outer s H E).xe:=
 PassesOwn.leaving
end
section
variable{X:Cx}{u7:List<|Addr×Obj}{U:St}{H:Hp}{s:Shared}
def Inv.il (I:Inv X u7 U H s)(d:An6 X.j.p s.j h')(t:h'.Ns X.j.p m')
 (l:∀(i:Nat)(x:Str)(v:V),X.N[i]?=y0 x->U'[i]?=y0 (y0 v)->ij X.j.j x->∃u,RelV v u/\yt X.j h' m' x u)(len:U'.e=X.N.e):Inv X u7 U' H {s with heap:=h',toks:=t'}:=by
 have a:∀b o,X.s₀.j.p b=y0 o->b≠X.j.p:=λb o e=>Ab7<|Ab5 (Ab3 e) I.j.above;refine⟨I.j,I.os,I.Q,⟨λb o e n k h=>(d.2 b<|a b o e).x<|I.u.keep b o e n k h,λb o e n k h=>?_,I.u.w,λb o e h=>?_,I.u.cL,I.u.cA,I.u.cH⟩,⟨m',t,l⟩,λy c e=>?_,I.w,I.bz,λp m=>?_,λb u e=>?_,len⟩
 .obtain⟨sl,j⟩:=I.u.slot b o e n k h;exact⟨sl,(d.2 b<|a b o e).x j⟩
 .obtain⟨q,j⟩:=I.u.p b o e h;exact⟨q,(d.2 b<|a b o e).x j⟩
 .obtain⟨v,z⟩:=I.y y c e;exact⟨v,z.sameBut d<|I.h9 y c e⟩
 .obtain⟨e,n,ne,r⟩:=I.N p m;exact⟨(d.2 p.1 ne).x e,n,ne,r⟩
 .refine(I.J b u e).cK (λc v f z=>(d.2 c ?_).x z) (λ_ z=>z) λ_ _ z=>z;intro g;obtain f|f:=f
  .rw[←f,g,I.w]at e;cases e
  .rw[g,I.w]at f;cases f
def Inv.kF (I:Inv X u7 U H s)(k:H D=u0)(h1:D≠X.j.p)(l:∀x c,X.j.u.j x=y0 c->c≠D)(j:∀p∈X.pn++u7,p.1≠D)(d:∀b u,X.s₀.j.p b=y0 u->b≠D)
 (new:aO X.p X.w (aG H D o) s.j D o):Inv X u7 U (aG H D o) s:=by
 have a:∀b u,H b=y0 u->aG H D o b=y0 u:=λb u q=>by rw[Qa<|Qb q k];exact q
 refine⟨I.j,I.os,I.Q,⟨I.u.keep,I.u.slot,λb u e n i=>?_,I.u.p,λb g q=>a b _<|I.u.cL b g q,λb u v q=>a b _<|I.u.cA b u v q,λb t q=>?_⟩,I.loc,I.y,?_,λx c q=>?_,λp f=>?_,λb u q=>?_,I.len⟩
 .rw[Qa<|d b u e];exact I.u.w b u e n i
 .obtain⟨more,m⟩:=I.u.cH b t q;exact⟨more,a b _ m⟩
 .rw[Qa<|Ne.symm h1];exact I.w
 .rw[Qa<|l x c q];exact I.bz x c q
 .obtain⟨r,a2,a3⟩:=I.N p f;exact⟨r,by rw[Qa<|j p f];exact a2,a3⟩
 .by_cases h:b=D
  .subst h;rw[Wa]at q;cases q;exact new
  .rw[Qa h]at q;exact(I.J b u q).cK (λ_ _ _ z=>z) (λc z=>a c _ z) λc g z=>a c _ z
def Cm(I:Inv X u7 U H s)(x:X.N.C)(hi:X.N[i]?=y0 n)(p:X.j.j.j.j n=y0 .local)
 (h:∀s',Inv X u7 (U.B i u0) H s'->Q () s'):wpAny M A (do bindName X.j n .w;unbindBehindTheSuite X.j n hp) Q E s:=by
 have o:(X.j.j.u==.class||(X.j.j.u==.module&&X.j.p !=X.j.globals))=false:=by rw[I.j.kind];rfl
 have C:X.j.w n=y0 .local:=p;have g:i<U.e:=by rw[I.len];exact(Ac1.j hi).1
 refine AC<|wpAny_bindName<|Xp I x hi (.p p) (v:=.aj) rfl (λJ t=>?_)<|.u p;obtain⟨m,F,a⟩:=t.loc;have d:(m n).w=true:=by
  obtain⟨u,_,l⟩:=a i n .aj hi (Ac6 g)<|.p p;obtain⟨_,e⟩|⟨z,_⟩:=l
  .rw[e];rfl
  .rcases z with z|z<;>(rw[C]at z;cases z)
 refine wpAny_onRaise ?_;refine AC<|wpAny_point<|AC ?_;unfold deleteName;simp only[C,o];refine AC<|wpAny_nsDel_keeps F λK v w f=>?_;rw[d];refine FS<|wpAny_point<|h _ ?_;refine t.il f w (λj y D B q G=>?_) (by rw[Ad0];exact I.len);have b:j≠i:=λz=>by subst z;rw[Ac6 g]at q;cases q
 rw[Ad1<|Ne.symm b]at q;obtain⟨u,r,l⟩:=a j y D B (by rw[Ad1<|Ne.symm b];exact q) G;refine⟨u,r,?_⟩;obtain⟨k,e⟩|⟨k,c,e,z⟩:=l
 .refine .p ⟨k,?_⟩;have:y≠n:=λe=>b<|qR x B<|e▸hi;simp[this,e]
 .exact .u ⟨k,c,e,z.sameBut f<|t.h9 y c e⟩
end
def qH{K:Frag}(X:K.In s.j)(I:ExcAt s.j x C)(z:kitCls K (.j C) (.j W)=some true)(b:mroIn K W (.p "BaseException")=some true)(c:Q true s):
 wpAny (model prog w) A (excMatches (.j x)<|.j W) Q E s:=by
 obtain⟨a,l,dd,i,g⟩:=s;obtain⟨d,f,j⟩:=kit_cls X z;have e:=looks_mroIn (M:=model prog w) X b;have m:=I.type (M:=model prog w);have h:Looks (model prog w) a (isInstance _ _) false:=d.a3<|Looks.of_pure tc_notTuple;have k:Looks _ a (isExcClass _) true:=f.a3 e
 repeat lk
 exact c
def xG{j s':Shared}(i:Inv X u7 U H1 j)(y:s'.os=j.os)(h:AllBare s'.u)(un:Un (bM X.B) [] H1 H' j.j s'.j)(m:cZ X.p X.w H' s'.j)
 (comp:∀b o,s'.j.p b=y0 o->((∃u,H' b=y0 u)\/∃u,j.j.p b=y0 u)->b∉bM X.B->B.p b=y0 o)(f:Ah8 B X.B x (.j C) (.j t) h6)(sm:s'.j.y h6):Inv X u7 U H' {s' with heap:=h6}:=by
 have eK:∀c u,H' c=y0 u->c∉bM X.B:=λc u z d=>by obtain⟨_,o,e,_⟩:=i.B.mem d;have:=un.w c o e (i.cO c d) YC;rw[this]at z;cases z
 refine i.iN (s':={s' with heap:=h6}) (ch:=[]) y ⟨λb o e n a g=>?_,λb o e n a g=>?_,un.w,λb o e g=>?_,un.cL,un.cA,un.cH⟩ (λb u e=>?_) h λb a=>absurd a YC
 .exact f.1 b o<|comp b o (un.keep b o e n a g) (.u ⟨o,e⟩) a
 .obtain⟨sl,p⟩:=un.slot b o e n a g;obtain⟨_,k,l,s⟩:=i.B.mem a;rw[e]at l;cases l;obtain⟨q,w⟩:=sm b _ p s;exact⟨q,w⟩
 .obtain⟨k,p⟩:=un.p b o e g;by_cases a:b∈bM X.B
  .obtain⟨_,r,l,_⟩:=f.2.2.1.mem a;exact⟨r,l⟩
  .exact⟨k,f.1 b k<|comp b k p (.u ⟨o,e⟩) a⟩
 .refine(m b u e).cK (λc v d z=>?_) (λ_ z=>z) λ_ _ z=>z;obtain rfl|d:=d
  .exact f.1 c v<|comp c v z (.p ⟨u,e⟩)<|eK c u e
  .exact f.1 c v<|comp c v z (.p ⟨_,d⟩)<|eK c _ d
def jA{R:Heap->Prop}(k:KD t)(h:∀L:Unit->Shared->Prop,(∀h',R h'->L () {s with heap:=h'})->wpAny M A t L E s)(g:∀h',R h'->DK s.j h'->Q () {s with heap:=h'}):wpAny M A t Q E s:=
 Om (QR k<|h (λ_ a=>∃h',a={s with heap:=h'}/\R h') λh' r=>⟨h',rfl,r⟩) (λ_ a ⟨⟨h',e,r⟩,dk⟩=>by subst e;exact g h' r dk)<|λ_ _ z=>z.1
def Ir{X:Cx}{f:List<|Addr×Obj}{W:Addr}{O n v:Str}{E iv:Nat}{wq vp np ap hp:Pos}{U:St}{H1:Hp}{s1 s':Shared}{N:Value}{D:gK}
 (i:X.B=X.j::X.outer)(hf:X.j.frame=some X.j.p)(T:X.ex=[])(hW:Gl X O)(hmW:X.mg O=some (.j W))(hbW:mroIn X.K W (.p "BaseException")=some true)(hN:X.N.C)(j:X.N[E]?=some n)(g:X.j.j.j.j n=some .local)
 (Y:X.N[iv]?=some v)(K:X.j.j.j.j v=some .local)(hs2:swapsWith (.j n np) (some<|.j v vp) ap.j X.j=pure false)(hdW:(O==("__debug__":Str))=false)(hdn:(n==("__debug__":Str))=false)
 (h:Inv X f U H1 s1)(hq:bO X.p X.w X.B H1 s1 (λcls od H2=>∃C,cls=.j C/\hH X.K C/\kitCls X.K (.j C) (.j W)=y0 k9∧
   ∀x,H2 x=u0->D.nx (((U.B E<|y0<|.j x).B iv<|y0<|.j x).B E u0) (aG H2 x<|fS x C od)) N s'):
 wpAny (model X.p X.w) X.A (noteFrame N X.j) (λ_ s2=>wpAny (model X.p X.w) X.A (setFlight N u0) (λ_ s3=>wpAny (model X.p X.w) X.A (handleBy N X.j [.j (y0<|.j O wq) (y0 n) [.j [.j v vp] (.j n np) ap] hp]) (SP X f D) X.xe s3) X.xe s2) X.xe s':=by
 obtain⟨x,C0,tt,B,H',od,rfl,os,l,fl,un,r,comp,new,Q,C,hC,Z,kc,q2⟩:=hq;cases hC;have hfr:X.A.frames=y0 (X.j::X.outer):=by rw[←i];exact h.j.frames
 have fl0:Ah8 B (X.j::X.outer) x (.j C0) (.j tt) s'.j:=by rw[←i];exact fl
 refine jA (R:=λw=>Heap.HeldW B _ x _ _ X.j.p w/\s'.j.y w) (X4 _ _) (λQ' k=>Sz hfr hf fl0 λw a b=>k w ⟨a,b⟩) ?_;rintro w ⟨J,I⟩ dk4;refine jA (R:=λs=>Ah8 B _ x _ _ s/\w.y s) (Qs _ _) (λQ' k=>wpAny_landsW J λs a b=>k s ⟨a,b⟩) ?_;rintro s ⟨q,L⟩ S;have A:=xG h os l un r comp (by rw[i];exact q)<|I.trans L;have V:ExcAt s x C0:=q.there;refine RL (Rm<|OL A.j.kind hW (OX (by rw[A.j.glob];exact A.mod.glob.keeps A.bk) hmW ?_) hdW)<|λz=>nomatch z;refine qH A.bE V kc hbW ?_;refine codeAny_handlers_suite_as ?_;refine jA (R:=λt=>Ah8 B _ x _ _ t/\s.y t) (Qs _ _) (λQ' k=>lands_againW q λt a b=>k t ⟨a,b⟩) ?_;rintro t ⟨F,sm6⟩ dk6;have I6:=xG h os l un r comp (by rw[i];exact F)<|(I.trans L).trans sm6;have H:H' x=none:=by
  cases z:H' x with
|none=>rfl
|some u=>
   obtain⟨o,e1⟩:=(r x u z).there;have nf:x∉bM X.B:=λhx=>by obtain⟨_,o2,e2,_⟩:=h.B.mem hx;rw[new]at e2;cases e2
   have e3:=comp x o e1 (.p ⟨u,z⟩) nf;rw[fl.2.1]at e3;cases e3
 have d:∀b o,s1.j.p b=y0 o->b≠x:=λb o z e=>by rw[e,new]at z;cases z
 obtain⟨o6,vs6,e6,c6,d6,_⟩:=F.first;have I7:Inv X f U (aG H' x<|fS x C0 od) {s' with heap:=t}:=by
  refine I6.kF H (λz=>?_) (λy c z=>?_) (λp hp=>?_) (λb u z=>?_)<|CP e6 c6 (by unfold notCls;rw[d6]) λdx z=>?_
  .obtain⟨m,⟨o,_,_,G,_⟩,_⟩:=h.loc;exact d _ o G z.j
  .obtain⟨_,o,G,_⟩:=h.y y c z;exact d c o G
  .exact d p.1 _ (h.N p hp).1
  .obtain⟨o,G⟩:=h.u.p b u z (by rw[T];simp);exact d b o G
  .obtain⟨o,e0,d0⟩:=Q.1 dx z;obtain⟨o',e1,d1⟩:=((dk4.trans S).trans dk6) x o e0;have:=e6.j.x e1;cases this;exact d1.1.x d0
 refine Xp I7 hN j (.p g) (v:=.j x) rfl (λs8 I8=>?_)<|.u g;have P:E<U.e:=by rw[h.len];exact(Ac1.j j).1
 obtain⟨m8,hn8,hl8⟩:=I8.loc;obtain⟨u8,r8,l8⟩:=hl8 E n _ j (Ac6 P)<|.p g;cases r8;have M:X.j.w n=y0 .local:=g;have em:m8 n=y0 (.j x):=by
  rcases l8 with⟨_,z⟩|⟨z,_⟩
  .exact z
  .rcases z with z|z<;>(rw[M]at z;cases z)
 refine OO<|Pq (OW (Pc I8.j.kind M hn8 em ?_) hdn) hs2;refine Xp I8 hN Y (.p K) (v:=.j x) rfl (λs9 I9=>?_)<|.u K;refine OH ?_;exact Cm I9 hN j g λs10 I10=>⟨_,_,I10,q2 x H⟩
def cg(X:Cx)(h n v:Str)(j f k d e:Pos)(st:Stmt)(t:TS):Prop:=
 ∀(u7:List<|Addr×Obj)(s:Shared)(U:St)(H:Hp)(D:gK)(c:Flow->Shared->Prop),Inv X u7 U H s->t D U H->(∀s b H',Inv X u7 b H' s->D.nx b H'->c .next s)→
  wpAny (model X.p X.w) X.A (execs [st] X.j) c (λa s'=>wpAny (model X.p X.w) X.A (noteFrame a X.j) (λ_ g=>wpAny (model X.p X.w) X.A (setFlight a u0) (λ_ i=>wpAny (model X.p X.w) X.A (handleBy a X.j [.j (y0<|.j h j) (y0 n) [.j [.j v f] (.j n k) d] e]) (SP X u7 D) X.xe i) X.xe g) X.xe s') s
def Dy(h1:cg X wx n v wq vp np ap hp a t):PS X (.Try [a] [.j (y0<|.j wx wq) (y0 n) [.j [.j v vp] (.j n np) ap] hp] [] [] pos) t:=by intro b s U H D I h;exact Sq<|h1 b s U H D _ I h λf d e c q=>OH ⟨d,e,c,q⟩
def FI(K:Aa5)(b tk:TE):TE:=λU H Q=>b U H λx H1=>tk U H1 λy H2=>y=.int (-1)/\∃a xs,x=.j a/\bu K H2 a xs/\∀p,H2 p=u0->Q (.j p) (aG H2 p<|.u xs.T)
theorem yh:∀{xs}{us},Vals xs us->Vals xs.T us.T
|_,_,.p=>.p
|_::_,_::_,.j r t=>by rw[Al0,Al0];exact(yh t).append<|.j r .p
def Iz{e st:Expr}(E:PE X e te)(D:PE X st tk)(z:∀l a,subscripted (.L u0 u0 (y0 st) p2) u9 l a=operate [l,a] (getItem l a):=by intro l a;with_unfolding_all rfl):PE X (.w e (.L u0 u0 (y0 st) p2) pos)<|FI X.K te tk:=by intro c s U H Q I h;refine Pt<|aJ (E c s U H _ I h) ?_;rintro v m ⟨x,F,k,o,C⟩;refine wpAny_Slice ?_;refine FS<|FS ?_;refine aJ (D c m U F _ k C) ?_;rintro J j ⟨y,w,B,t,p⟩;obtain⟨rfl,a,K,rfl,n,q⟩:=p;obtain⟨d,rfl⟩:=t;cases o;have f:Inv X c U w {j with heap:=j.j.u {cls:=.p "slice",data:=.p #[.w,.w,.o (-1) d]}}:=B.L fun b G q=>Aa3 _ q;obtain⟨u,r,i,A⟩:=f.C n;have g:=r.e;refine tail_any i.I.typeIs slot_list_getitem.j ?_<|z _ _;refine PJ i.I (Heap.IsSliceOf.new ..) .none .none (.int (-1) d) YA ?_ (by simp_all);rw[krv_pick];refine⟨.j _,_,f.laid (λb G q=>Aa3 _ q) (Aa4 _) ?_,rfl,q _<|f.J.M<|Aa4 _⟩;exact⟨by rw[RM];exact A,_,0,yh r,Ab6 _ rfl⟩
def bj.calm {K:Frag}(F:bj P w K mg base (bO P w) k f fd ps sp)
 (h:∀vs H Q E,sp0 vs H Q E->sp vs H Q (λ_ _ _=>False)):bj P w K mg base mS k f fd ps sp0:=by
 refine⟨λvs H Q E q=>F.len vs H Q _<|h _ _ _ _ q,λA a s H b d vs Q E j m l e i=>Ow (F.run A a s H b d vs Q _ j m l e<|h _ _ _ _ i) λres p c=>?_⟩;cases res with
|ok g=>
  cases g with
 |ret u=>exact c
 |next=>exact c
 |brk=>exact c
 |cont=>exact c
|error o=>obtain⟨x,C,t,B,r,_,_,_,_,_,_,_,_,_,_,n⟩:=c;exact n
def MZ:bootBuiltins "ValueError"=some (.p "ValueError"):=by decide+kernel
noncomputable def ke(x:Str):It:=⟨λi _=>∃c,x.j[i]?=y0 c,λi H y H'=>H'=H/\∃c,x.j[i]?=y0 c/\y=.m ⟨#[c]⟩,λi _=>x.j[i]?=u0⟩
def Ll{K:PySem.W.Frag}(it)(x)(t):iG P w K tg (ke x) [it] it<|λi h=>h.IsStrIter it "str_ascii_iterator" x t i where
 mem:=by simp
 obj:=λi h a b g=>by
  have e:=by simpa using g
  subst e;obtain⟨o,e,c,d⟩:=a;exact⟨o,e,λv z=>by rw[d]at z;cases z⟩
 keep:=λi h r a k=>by obtain⟨o,e,c,d⟩:=a;exact⟨o,k it YC o e,c,d⟩
 item:=by intro X C D J B i f s U H E I l a p;obtain⟨c,A⟩:=p;obtain⟨y,m,N,n,q,u⟩:=l it YC;refine wpAny_pyNext_ascii_item a A λr j G=>?_;have F:Inv X f U H {s with heap:=r,toks:=s.p+1}:=I.G (λb o g e=>(G.2 b g).x e) y m n q u;obtain⟨o,e,M,d⟩:=id j;exact⟨_,rfl,lJ e M d YA ⟨.m ⟨#[c]⟩,H,F,⟨_,rfl⟩,⟨rfl,c,A,rfl⟩,j,λb g=>(l b g).1⟩⟩
 done:=by intro X C D J B i f s U H E I l a p;obtain⟨y,m,N,n,q,u⟩:=l it YC;exact wpAny_pyNext_ascii_end (I.j.hd B) a p λr L=>⟨rfl,I.G (λb o g e=>L b o g e) y m n q u⟩
 self:=λ_ _ _ _ _ a h=>wpAny_pyIter_striter_ascii a h
def HW{K:PySem.W.Frag}(it)(x)(t):iG P w K tg (ke x) [it] it<|λi h=>h.IsStrIter it "str_iterator" x t i where
 mem:=by simp
 obj:=λi h a b g=>by
  have e:=by simpa using g
  subst e;obtain⟨o,e,c,d⟩:=a;exact⟨o,e,λv z=>by rw[d]at z;cases z⟩
 keep:=λi h r a k=>by obtain⟨o,e,c,d⟩:=a;exact⟨o,k it YC o e,c,d⟩
 item:=by intro X C D J B i f s U H E I l a p;obtain⟨c,A⟩:=p;obtain⟨y,m,N,n,q,u⟩:=l it YC;refine wpAny_pyNext_wide_item a A λr j G=>?_;have F:Inv X f U H {s with heap:=r,toks:=s.p+1}:=I.G (λb o g e=>(G.2 b g).x e) y m n q u;obtain⟨o,e,M,d⟩:=id j;exact⟨_,rfl,lJ e M d YA ⟨.m ⟨#[c]⟩,H,F,⟨_,rfl⟩,⟨rfl,c,A,rfl⟩,j,λb g=>(l b g).1⟩⟩
 done:=by intro X C D J B i f s U H E I l a p;obtain⟨y,m,N,n,q,u⟩:=l it YC;exact wpAny_pyNext_wide_end (I.j.hd B) a p λr L=>⟨rfl,I.G (λb o g e=>L b o g e) y m n q u⟩
 self:=λ_ _ _ _ _ a h=>wpAny_pyIter_striter_wide a h
def Dn(K:Aa5)(b:TE):TI:=λU H R=>b U H λx H1=>(∃a,x=.j a/\(∃xs,bu K H1 a xs)/\R (mH K a) H1)\/(∃a,x=.j a/\(∃xs,cC K H1 a xs)/\R (k4 K a) H1)\/∃z,x=.m z/\R (ke z) H1
def oR(r:PE X l tl):PI X tg l<|Dn X.K tl:=by
 intro g s U H R I h;refine aJ (r g s U H _ I h) ?_;rintro v d ⟨x,i,c,j,y⟩;obtain⟨a,e,⟨u,m⟩,q⟩|⟨a,e,⟨u,m⟩,q⟩|⟨z,e,q⟩:=y
 .subst e;cases j;obtain⟨k,rv,p,w⟩:=c.C m;refine O2 p.I ⟨d.j.j.j,[d.j.j.j],_,_,i,rfl,c.L λb o e=>Aa3 _ e,Fp a _,⟨_,Ab6 _ rfl,rfl,rfl⟩,λb f=>?_,q⟩;have e:=by simpa using f
  subst e;exact c.dj (Aa4 _)<|c.J.M<|Aa4 _
 .subst e;cases j;obtain⟨k,rv,p,w⟩:=c.tuple m;refine R1 (p) ⟨d.j.j.j,[d.j.j.j],_,_,i,rfl,c.L λb o e=>Aa3 _ e,HY a _,⟨_,Ab6 _ rfl,rfl,rfl⟩,λb f=>?_,q⟩;have e:=by simpa using f
  subst e;exact c.dj (Aa4 _)<|c.J.M<|Aa4 _
 .subst e;obtain⟨t,rfl⟩:=j;cases n:z.j.all (·<128)with
|true=>
   refine wpAny_pyIter_ascii n ⟨d.j.j.j,[d.j.j.j],_,_,i,rfl,c.L λb o e=>Aa3 _ e,Ll _ z t,⟨_,Ab6 _ rfl,rfl,rfl⟩,λb f=>?_,q⟩;have e:=by simpa using f
   subst e;exact c.dj (Aa4 _)<|c.J.M<|Aa4 _
|false=>
   refine wpAny_pyIter_wide n ⟨d.j.j.j,[d.j.j.j],_,_,i,rfl,c.L λb o e=>Aa3 _ e,HW _ z t,⟨_,Ab6 _ rfl,rfl,rfl⟩,λb f=>?_,q⟩;have e:=by simpa using f
   subst e;exact c.dj (Aa4 _)<|c.J.M<|Aa4 _
section
variable{X:Cx}
def Vals.mK (r:Vals xs us){i:Nat}(h:us[i]?=y0 u):∃x,xs[i]?=y0 x/\RelV x u:=by
 have f:=r.e;have d:=(Ac1.j h).1;have b:i<xs.e:=by lia
 obtain⟨e,a,c⟩:=r.get<|Aa7 b;rw[h]at a;cases a;exact⟨_,Aa7 b,c⟩
def MV(bs:List Bool):(Ac2 bs.e).N (λi=>bs.Q i u9)=bs.N id:=by
 induction bs with
|nil=>rfl
|cons b bs a=>rw[Ab1,Rg,Ai,Aj6,Ai,←a];rfl
def HU{bs:List Bool}(r:Vals (bs.u V.bl) its):TruthOf P w A (λi v=>its.w[i]?=y0 v)<|λi=>bs.Q i u9:=by
 intro i v s Q E f d;obtain⟨x,a,g⟩:=r.mK (by simpa using f);rw[Ae1]at a;cases c:bs[i]? with
|none=>rw[c]at a;cases a
|some b=>
  rw[c]at a;cases a;cases g;refine OA ?_;have e:bs.Q i u9=b:=by rw[Ac5,c];rfl
  rw[←e];exact d
def BR(t:X.G=k9):Xr X (.u "all")<|fun xs H Q=>∃p,∃bs:List Bool,xs=[.j p]/\bu X.K H p (bs.u V.bl)/\Q (.bl<|bs.N id) H:=by
 intro c s U H xs v Q I r h;obtain⟨p,bs,rfl,j,q⟩:=h;obtain⟨u,rfl,l⟩:=jK r;cases l;obtain⟨d,rv,pl,w⟩:=I.C j;have a:=rv.e;rw[Ab]at a;refine call_all_walk<|O2 pl.I ?_;have f:p≠s.j.j.j:=by obtain⟨o,n,_⟩:=pl.I;exact Ab7<|Ab3 n
 refine⟨s.j.j.j,_,_,_,_,_,λi=>bs.Q i u9,rfl,Walks.list (A:=X.A.w) (I.j.hd t) _ p f d.w,⟨⟨_,Ab6 _ rfl,rfl,rfl⟩,pl.I.at λo e=>Aa3 _ e⟩,HU rv,λk tk m=>?_⟩;have g:Inv X c U H {s with heap:=k,toks:=tk}:=I.L λb o e=>m b o (by simp;exact Ab7<|Ab3 e)<|Aa3 _ e;refine⟨.bl _,H,g,?_,q⟩;show _=_;rw[Ac,←a,MV]
noncomputable def gZ:List Int->Int
|[]=>0
|i::r=>i+gZ r
theorem WS:∀(xs)(x),gZ (xs++[x])=gZ xs+x
|[],x=>by simp[gZ]
|y::a,x=>by show y+gZ (a++[x])=y+gZ a+x;rw[WS a x];lia
theorem WI(ns:List Int):∀j,j<=ns.e->preSum (λi=>ns.Q i 0) j=gZ (ns.A j)
|0,_=>rfl
|j+1,h=>by rw[preSum,WI ns j<|Ag2 ‹_›,List.take_succ,Aa7<|‹_›];show _=gZ (ns.A j++[ns[j]]);rw[WS,Ac5,Aa7<|‹_›];rfl
end
section
variable{X:Cx}
theorem xq:∀{ss}{us},Vals (ss.u V.str) us->StrsAre us ss
|[],us,r=>by cases r;exact .nil
|z::ss,us,r=>by
  cases r with
|cons h t=>obtain⟨k,rfl⟩:=h;exact .cons _ _<|xq t
theorem wZ:∀{us}{ss},StrsAre us ss->Vals (ss.u V.str) us
|_,_,.nil=>.p
|_,_,.cons _ _ h=>.j ⟨_,rfl⟩<|wZ h
def wX:Xr X (.u "sorted")<|fun xs H Q=>∃p,∃ss:List Str,xs=[.j p]/\bu X.K H p (ss.u V.str)/\ss.e<64/\∀L,L.Perm ss->sortedS L=true->∀l,H l=none->Q (.j l) (aG H l<|.u<|L.u V.str):=by
 intro f s U H xs v Q I r h;obtain⟨p,ss,rfl,k,i,q⟩:=h;obtain⟨u,rfl,m⟩:=jK r;cases m;obtain⟨d,rv,pl,g⟩:=I.C k;have a:=rv.e;rw[Ab]at a;refine sorted_strs pl.I (xq rv) YB λc L n a2 a3=>?_;obtain⟨e,t⟩:=sortedAll_at s.j d c;have j:L.e<=sizeLine:=by rw[a2.u];rw[Ab]at g;exact g
 refine⟨.j _,_,I.laid (λb o e=>sortedAll_old e) (Ac9 _)<|show aO X.p X.w _ _ _ (.u _)from⟨by rw[Ab];exact j,c.p,e,wZ n,by simpa[seqObj]using t⟩,rfl,q L a2 a3 _<|I.J.M<|Ac9 _⟩
end
section
variable{X:Cx}
noncomputable def iY(x:Str)(n:Nat):Str:=⟨(Aa1 n x.j).U (·++·) #[]⟩
theorem XW:∀n (a b:Array α),((Aa1 n a).U (·++·) b).p=b.p++(Aa1 n a.p).L
|0,a,b=>by simp
|n+1,a,b=>by rw[Ac4,Af3,XW n,Ac4,Ag7];simp
def JI(x)(n):(iY x n).j.p=(Aa1 n x.j.p).L:=by unfold iY;rw[XW];simp
def FL(x)(n):(iY x n).e=x.e*n:=by show(iY x n).j.j=x.j.j*n;rw[←Ai3,JI];simp[R3]
def yP{a b:Str}(h:a.j.p=b.j.p):a=b:=by cases a;cases b;simp[Str.mk.injEq];exact Al6.j h
def Dk:b7 X (binaryOp .Mult)<|λx y H Q=>∃z k,x=.m z/\y=.int k/\0<=k/\k<=1000/\z.e*k.j<=1000000/\Q (.m<|iY z k.j) H:=by
 intro u7 s U H x y v u Q I rx ry h;obtain⟨z,k,rfl,rfl,h0,h1,hl,q⟩:=h;obtain⟨t,rfl⟩:=rx;obtain⟨t',rfl⟩:=ry;have hsz:(iY z k.j).e<=sizeLine:=by rw[FL];exact Ac0 hl YA
 refine P.mul_str (by
  have a:¬k< -(2^63:Int):=by lia
  have b:¬k>=2^63:=by lia
  rw[Do a,Do b];rfl) (λc1 c2=>?_) (λc1 c2=>?_) ?_
 .have hk:=‹_›;have:(2:Int)^63-1>=(z.e:Int)*k:=by
   have e:((z.e*k.j:Nat):Int)=(z.e:Int)*k:=by rw[Am5,Ai5 h0]
   have:=hl;lia
  have:=Int.le_ediv_of_mul_le (c:=k) (by omega)<|‹_›;lia
 .unfold Builtin.Str.tooLong
  exact Do<|by have:sizeLine>=1000000:=by decide
               lia
 .by_cases c1:k<1
  .have hk:k=0:=by lia
   subst hk;rw[Da c1];exact⟨by decide,.m _,H,I.L λb o e=>e,⟨_,rfl⟩,q⟩
  .rw[Fk c1];by_cases c2:(k==1||z.e==0)=k9
   .rw[Da c2];have e:iY z k.j=z:=by
     apply yP;rw[JI];obtain c|c:=Ak2.j c2
     .have:k=1:=by simpa using c
      subst this;simp
     .have:z.j.p=[]:=by
       have c:z.e=0:=by simpa using c
       have c:z.j.j=0:=c;rw[←Ai3]at c;exact Ag4 c
      rw[this];simp
    rw[e]at q;exact⟨.m z,H,I,⟨t,rfl⟩,q⟩
   .rw[Fk c2];exact⟨hsz,.m _,H,I.L λb o e=>e,⟨_,rfl⟩,q⟩
def Ly:b7 X (binaryOp .Add)<|λx y H Q=>∃a b ys,x=.j a/\y=.j b/\cC X.K H a []/\cC X.K H b ys/\Q (.j b) H:=by
 intro m s U H x y v u Q I C z h;obtain⟨a,b,ys,rfl,rfl,B,E,q⟩:=h;cases C;cases z;obtain⟨t,r,F,_⟩:=I.tuple B;obtain⟨c,J,w,_⟩:=I.tuple E;cases r;obtain⟨⟨p,dd,k,sl⟩,o,D,n,G⟩:=id F;obtain⟨⟨l,f,i,j⟩,d,e,A,g⟩:=id w;subst D G e g;exact PB ⟨_,o,rfl⟩ ⟨_,d,rfl⟩ PD RC O4 OY (OT _ _)
  (tuple_addW0 a b _ c.w n A dd f sl j rfl) ⟨o,d,.j b,H,I,rfl,q⟩
def De(E:X.G=k9):Xr X (.u "sum")<|fun xs H Q=>∃p,∃ns:List Int,xs=[.j p]/\bu X.K H p (ns.u V.int)/\Q (.int<|gZ ns) H:=by
 intro g s U H xs F Q I r h;obtain⟨p,ns,rfl,y,q⟩:=h;obtain⟨u,rfl,B⟩:=jK r;cases B;obtain⟨k,rv,pl,G⟩:=I.C y;have a:=rv.e;rw[Ab]at a;refine call_sum_walkG<|O2 pl.I ?_;have d:p<s.j.j.j:=by obtain⟨o,D,_⟩:=pl.I;exact Ab3 D
 have f:s.j.j.j<(s.j.u {cls:=.p "list_iterator",data:=.p #[.j p,.o 0 0]}).j.j:=Heap.lt_size<|Ab6 _ rfl;refine⟨s.j.j.j,_,_,_,_,_,λi=>ns.Q i 0,rfl,Walks.list (A:=X.A.w) (I.j.hd E) _ p (Ab7 d) k.w,⟨⟨_,Ab6 _ rfl,rfl,rfl⟩,pl.I.at λo e=>Aa3 _ e⟩,λb c=>?_,λi v l=>?_,λz tk w C=>?_⟩
 .simp[Oj]at c;obtain rfl|rfl:=c
  .exact f
  .exact An9 d f
 .obtain⟨x,j,n⟩:=rv.mK (by simpa using l);rw[Ae1]at j;cases c:ns[i]? with
|none=>rw[c]at j;cases j
|some b=>rw[c]at j;cases j;obtain⟨t,rfl⟩:=n;exact⟨t,by show Value.int b t=Value.int (ns.Q i 0) t;rw[Ac5,c];rfl⟩
 .have m:Inv X g U H {s with heap:=z,toks:=tk}:=I.L λb o e=>C b o (by simp;exact Ab7<|Ab3 e)<|Aa3 _ e;refine⟨.int _,H,m,⟨w,?_⟩,q⟩;rw[Ac,←a,WI ns _<|Aa4 _,Aj7]
def xD(lo)(d n)(a:d<=n):(match lo with|none=>(d:Int)|some i=>max 0<|min (if i<0 then i+n else i) n)=((HT.aV n d lo:Nat):Int)/\HT.aV n d lo<=n:=by
 cases lo with
|none=>exact⟨rfl,a⟩
|some i=>
  by_cases q:i<0
  .simp[HT.aV,q,Oi];lia
  .simp[HT.aV,q,OD];lia
def XV(x:Str)(a hi:Option Int):Builtin.Str.strSliceIndices a hi 1 x.e=(Ac2<|HT.aV x.e x.e hi-HT.aV x.e 0 a).u λk=>HT.aV x.e 0 a+k:=by
 have e:Builtin.Str.strSliceIndices a hi 1 x.e=sliceRange ((HT.aV x.e 0 a)) ((HT.aV x.e x.e hi)) 1:=by rw[←(xD a 0 x.e<|Af0 _).1,←(xD hi x.e x.e<|Aa4 _).1];cases a<;>cases hi<;>rfl
 rw[e];unfold sliceRange;simp only[show(1:Int)>0 by decide,Oi,SL,Int.one_mul];have b:(if((HT.aV x.e 0 a))<((HT.aV x.e x.e hi:Nat):Int)then((HT.aV x.e x.e hi))-((HT.aV x.e 0 a:Nat):Int)+1-1 else 0).j=HT.aV x.e x.e hi-HT.aV x.e 0 a:=by split<;>lia
 rw[b];refine List.map_congr_left λk _=>?_;exact OS _
noncomputable def lE(x:Str)(a hi:Option Int):Str:=⟨((x.j.p.J<|HT.aV x.e 0 a).A<|HT.aV x.e x.e hi-HT.aV x.e 0 a).w⟩
def NC(x)(lo hi):Txt.slice x lo hi=lE x lo hi:=by
 have c:=(xD lo 0 x.e<|Af0 _).2;have a:=(xD hi x.e x.e<|Aa4 _).2;by_cases q:HT.aV x.e 0 lo<=HT.aV x.e x.e hi
 .have e:=StrLaws.sliceText_nat x q a;rw[show lE x lo hi=⟨((x.j.p.J _).A _).w⟩from rfl,←e];unfold Txt.slice StrLaws.sliceText;rw[XV x lo hi,StrLaws.strSliceIndices_plain q a]
 .have b:HT.aV x.e x.e hi-HT.aV x.e 0 lo=0:=by lia
  unfold Txt.slice lE;rw[XV x lo hi,b];rw[Fk<|by simp;lia];simp
def rD:V->Option Int->Option Int->Hp->VK->Prop:=λx lo hi H Q=>∃z,x=.m z/\z.e<=sizeLine/\Q (.m<|lE z lo hi) H
def xx:gW X rD:=by
 intro a s U H x v p r g i sl Q I m d pl n h;obtain⟨z,rfl,j,q⟩:=h;obtain⟨t,rfl⟩:=m;refine⟨"str",_,F.slot_str_getitem.j,Pu _ _ _,?_⟩;have fin:∀f k,EP X a U Q (.m (Txt.slice z g i) f) {s with toks:=k}:=λf k=>by rw[NC];exact⟨.m _,H,I.L (t':=k) λb o e=>e,⟨_,rfl⟩,q⟩
 have c:(Txt.slice z g i).e<=sizeLine:=Ac0 (Txt.slice_le z _ _) j;cases pl<;>cases n
 .exact OP (l:=u0) (u:=u0) (st:=u0) d rfl<|Pf ⟨c,fin⟩
 .exact OP (l:=u0) (u:=y0 (_,_)) (st:=u0) d rfl<|Pf ⟨c,fin⟩
 .exact OP (l:=y0 (_,_)) (u:=u0) (st:=u0) d rfl<|Pf ⟨c,fin⟩
 .exact OP (l:=y0 (_,_)) (u:=y0 (_,_)) (st:=u0) d rfl<|Pf ⟨c,fin⟩
theorem wN:∀{ss}{L},Vals (ss.u V.str) L->∃ps:List<|Str×Tok,L=strValues ps/\ps.u (·.1)=ss
|[],L,r=>by cases r;exact⟨[],rfl,rfl⟩
|n::c,L,r=>by
  cases r with
|cons h t=>obtain⟨k,rfl⟩:=h;obtain⟨ps,b,a⟩:=wN t;exact⟨(n,k)::ps,by rw[b];rfl,by rw[←a];rfl⟩
def Bt(K:Aa5):V->List V->Hp->VK->Prop:=λx vs H Q=>∃z p,∃ss:List Str,x=.m z/\vs=[.j p]/\bu K H p (ss.u V.str)/\JoinOk z ss=k9/\Q (.m<|Str.join z ss) H
def Md:mQ X "str.join"<|Bt X.K:=by intro c s U H x r v n Q I m rv h;obtain⟨z,p,f,rfl,rfl,l,a,q⟩:=h;obtain⟨t,rfl⟩:=m;obtain⟨u,rfl,g⟩:=rv.one;cases g;obtain⟨j,rv,pl,w⟩:=I.C l;obtain⟨y,rfl,i⟩:=wN rv;refine SC.join pl.I i a λd k=>⟨.m _,H,I.L λb o e=>e,⟨d,?_⟩,q⟩;show Value.str (Builtin.Str.glued z f) d=_;rw[StrLaws.glued_eq_join]
end
open PySem PySem.Spec PyProof.Rows PySem.MeetsSeq
section
variable{X:Cx}
abbrev AJ:=V->Hp->Prop
def A8(X:Cx)(T:String)(ty:AJ):Prop:=∀(u7:List<|Addr×Obj)(s:Shared)(U:St)(H:Hp)(x:V)(v:Value),Inv X u7 U H s->RelV x v->ty x H->s.TypeIs v T/\∀a,v=.j a->∃b,s.j.p a=y0 b/\b.u=u0
def KP(ty:AJ)(r:V->List V->Hp->VK->Prop)(a:TE)(t:TA):TE:=λU H Q=>a U H λx H1=>ty x H1/\t U H1 λxs H2=>r x xs H2 Q
def pP{T id:String}(B:PlainAttrs T)(f:Slot T name id)(i:typeOf (.u id)=pure (.p "method_descriptor"))(w:A8 X T ty)(z:mQ X id r)(K:PE X o to)(F:PA X (e::es) t)
 (c:attributeBase o name X.j (eval o X.j)=eval o X.j)
 (d:((backTo cpos<|starEach (e::es) X.j).N (λx=>!x.1)&&(backToKw cpos<|keywordEach [] X.j).N (λx=>x.1.w)
   &&k8 ((e::es).e+([]:List Keyword).e+(if([]:List Keyword).y then 0 else 1)<30))=k9)
 (b:(apos.p==cpos.j)=k9)(C:starEach (e::es) X.j=(u9,eval e X.j)::starEach es X.j)(g:(backTo cpos<|starEach es X.j).G (·.1)=u9):
 PE X (.u (.p o name apos) (e::es) [] cpos)<|KP ty r to t:=by
 intro a s U H Q I h;refine Re c d b rfl<|aJ (K a s U H _ I h) ?_;rintro v k ⟨x,n,j,l,M,G⟩;obtain⟨L,A⟩:=w a k U n x v j l M;refine⟨T,id,B,f,i,L,A,?_⟩;have m:=F cpos a k U n _ j G;rw[C]at m⊢;exact Rf (by assumption)<|Pe<|aJ m<|by rintro q E⟨y,J,p,u,D⟩;exact z a E U J x y v q Q p l u D
def pY:A8 X "str"<|fun x _=>∃z,x=.m z:=by intro a s U H x v I r h;obtain⟨z,rfl⟩:=h;obtain⟨t,rfl⟩:=r;exact⟨Pu s z t,λ_ e=>nomatch e⟩
end
section
variable{X:Cx}{u7:List<|Addr×Obj}{U:St}{H:Hp}{s:Shared}{h':Heap}
def Inv.hP (I:Inv X u7 U H s)(k:∀b o,b≠e->b≠it->s.j.p b=y0 o->h'.p b=y0 o)(F:H it=u0)(A:H e=u0)(l:it≠X.j.p)(f:e≠X.j.p)
 (h1:it∈X.ex\/X.s₀.j.j.j<=it)(g:e∈X.ex\/X.s₀.j.j.j<=e)(h2:∀x c,X.j.u.j x=y0 c->c≠it)(h:∀x c,X.j.u.j x=y0 c->c≠e)(E:∀p∈X.pn++u7,p.1≠it)(j:∀p∈X.pn++u7,p.1≠e):Inv X u7 U H {s with heap:=h',toks:=t'}:=by
 have d:∀b u,H b=y0 u->b≠e/\b≠it:=λb u q=>⟨λz=>(by simp_all),λz=>(by simp_all)⟩;have i:∀b o,b∉[e,it]->s.j.p b=y0 o->h'.p b=y0 o:=λb o a q=>k b o (λz=>a<|by simp[z]) (λz=>a<|by simp[z]) q;refine I.step (λb D=>?_) (λb o _ _ a e _=>i b o a e) (λb o _ _ a e _=>⟨o.slots,i b o a e⟩) (λ_ _ _ _ n=>n)
  (λb o a e=>⟨o,i b o a e⟩) (λ_ _ e=>e) (λ_ _ _ e=>e) (λb G e=>⟨#[],by rw[e];simp⟩) (λm y=>?_) (λb u q=>?_) I.Q
 .obtain z|z:=Aa6.j D
  .rw[z];exact⟨g,f,h,j⟩
  .rw[Ab2.j z];exact⟨h1,l,h2,E⟩
 .obtain⟨o,t,w,C,r⟩:=y;exact⟨o,t,w,k _ o (Ne.symm f) (Ne.symm l) C,r⟩
 .refine(I.J b u q).cK (λc v a B=>k c v ?_ ?_ B) (λ_ q=>q) λ_ _ q=>q
  .obtain z|z:=a
   .rw[z];exact(d b u q).1
   .exact(d c _ z).1
  .obtain z|z:=a
   .rw[z];exact(d b u q).2
   .exact(d c _ z).2
end
def WJ:bootBuiltins "enumerate"=some (.p "enumerate"):=by decide+kernel
section
variable{prog:Program}{w:World}{A:Around}{E:Value->Shared->Prop}{s:Shared}
noncomputable abbrev gX(a:Bool):Obj:={cls:=.p "set",dict:=none,data:=.set #[] 0<|.fresh 0 0 a}
end
def XG{f hi:Option Int}(a:IsTup s.j t vs)(e:s.j.IsSliceOf sl vl vu .w)(pl:IsPart vl f)(i:IsPart vu hi)
 (k:HT.aV vs.j 0 f=0)(h1:HT.aV vs.j vs.j hi=vs.j)(h:Q (.j t) s):wpAny (model prog w) A (getItem (.j t)<|.j sl) Q E s:=by
 obtain⟨j,d,b,g⟩:=id e;have c:s.TypeIs (.j sl) "slice":=⟨j,d,b⟩;unfold getItem
 try with_reducible refine Ol ?_
 refine AC<|Sf a.typeIs rfl<|AC<|OZ a.typeIs Oz
 <|O8 Oz a.typeIs PyProof.Rows.entry_tuple_getitem ?_<|PyProof.Rows.args_tuple_getitem _ _
 show wpAny _ _ (Builtin.Tuple.tupleItemsOf _>>=_) _ _ s;refine AC<|tupleItemsOf_ a<|AC<|PF c<|AC<|HT.bW e pl i ?_;show wpAny _ _ (if _=k9 then _ else _) _ _ s;rw[Da<|by simp_all];exact AC<|AC<|PF a.typeIs<|FS<|AC<|wpAny_rule<|FS ⟨_,rfl,FS h⟩
section
variable{X:Cx}
def rn(K:Aa5):V->Option Int->Option Int->Hp->VK->Prop:=λx lo hi H Q=>∃a xs,x=.j a/\cC K H a xs/\HT.aV xs.e 0 lo=0/\HT.aV xs.e xs.e hi=xs.e/\Q (.j a) H
def D0:gW X<|rn X.K:=by
 intro e s U H x v n u o t sl Q I k j pl m h;obtain⟨a,i,rfl,f,g,l,q⟩:=h;cases k;obtain⟨c,r,d,p⟩:=I.tuple f;have b:c.w.j=i.e:=by rw[Ac];exact r.e.j
 refine⟨"tuple",_,PyProof.Rows.slot_tuple_getitem.j,d.typeIs,?_⟩;exact XG d j pl m (by rw[b];exact g) (by rw[b];exact l) ⟨.j a,H,I,rfl,q⟩
end
end Lake
namespace PyProof.Rows
open PySem PySem.Spec
section
variable{prog:Program}{w:World}{A:Around}{E:Value->Shared->Prop}{s:Shared}
def QX{l:Addr}{vs:List Value}{Q:List Value->Shared->Prop}(e:s.j.IsTuple l vs.w)
 (h:Q vs {s with heap:=(s.j.u<|seqObj "list" #[] 0).w s.j.j.j (Obj.mapSeq (·++vs.w))})(d:vs.e<=sizeLine:=by size_fits):
 wpAny (model prog w) A (collect<|.j l) Q E s:=by
 obtain⟨o,f,b,n,c⟩:=id e;refine AC<|Rn<|OJ entry_proto_collect' ?_;refine AC<|wpAny_newList<|FS ⟨OQ _<|by decide+kernel,OJ entry_list_iadd' ?_⟩;show wpAny _ _ (Builtin.List.listExtendWith _ _ _) _ _ {s with heap:=s.j.u _};have a:(s.j.u<|seqObj "list" #[] 0).p l=some o:=Aa3 _ f;refine AC<|PF (T:="tuple") ⟨o,a,b⟩ ?_;have g:(Value.type "tuple"==Value.type "tuple")=true:=by rfl
 rw[Da YC];refine AC<|listItems_at a c ?_;refine AC<|listItems_at (xs:=#[]) (n:=0) (Ab6 _ rfl) rfl ?_;rw[Fk YC];refine AC<|listUpdate_at (xs:=#[]) (n:=0) (Ab6 _ rfl) rfl ?_ (Af0 _) (by grind);refine FS ?_;show wpAny _ A _ Q E {s with heap:=(s.j.u _).w s.j.j.j _};refine AC<|wpAny_load (get?_update_seq (Ab6 _ rfl) _) ?_;show wpAny _ _ (pure (_++vs.w).p) Q E _;rw[show(_++vs.w).p=vs by simp];exact FS h
end
end PyProof.Rows
set_option maxHeartbeats 8000000
namespace Lake
open Lake renaming V.str->Lake.V.m,V.int->Lake.V.o,V.ref->Lake.V.j,Cx.env->Lake.Cx.j,Inv.base->Lake.Inv.u,cZ.fresh->Lake.cZ.M
open PySem PySem.Spec PyProof.Rows
noncomputable def JU(U:List Str)(v:Str):List Str:=if U.G (·==v)then U else U++[v]
def XC(val:Nat->Str)(i:Nat):List Str:=((Ac2 i).u val).U JU []
def CU(val):XC val 0=[]:=rfl
def js(val)(i):XC val (i+1)=JU (XC val i) (val i):=by unfold XC;rw[SA,Ad,Sh];rfl
theorem Wo(val):∀i,(XC val i).e<=i
|0=>by rw[CU];exact Aa4 _
|i+1=>by
  rw[js];unfold JU;have a:=Wo val i;split
  .lia
  .rw[Aa2,Aj5];lia
theorem yO(val):∀i k,(XC val i).G (·==k)=((Ac2 i).u val).G (·==k)
|0,k=>rfl
|i+1,k=>by
  rw[js,SA,Ad,P0,←yO val i k];unfold JU;by_cases h:(XC val i).G (·==val i)=k9
  .rw[Da h];by_cases e:val i=k
   .subst e;rw[h];simp
   .have a:(val i==k)=false:=by simpa[Pw]using e
    simp[a]
  .rw[Fk h,P0];rfl
def Mp(U)(v k):(JU U v).G (·==k)=(U.G (·==k)||k8 (k=v)):=by
 unfold JU;by_cases h:U.G (·==v)=k9
 .rw[Da h];by_cases e:k=v
  .subst e;rw[h];simp
  .simp[e]
 .rw[Fk h,P0];by_cases e:k=v
  .subst e;simp
  .have a:(v==k)=false:=by simpa[Pw]using(λb:v=k=>e b.j)
   simp[a,e]
def wB(U)(v):(JU U v).e=if U.G (·==v)then U.e else U.e+1:=by unfold JU;split<;>simp
section
variable{prog:Program}{w:World}{A:Around}{R:Result->Shared->Prop}{I:Addr}{fp wr:List Addr}{G:Array GenState->Array GenState->Prop}{n:Nat}{P:Nat->Value->Prop}{St:Nat->Shared->Prop}
def Q6(W:WalksS prog w A.w I fp wr G n P St)(S)(l:S∉fp)
 (val)(g:∀i v,P i v->∃t,v=.m (val i) t)(f:n+1<scanBound):
 ∀k i s,n-i=k->i<=n->St i s→
  s.j.SetOf (strKind prog w) S (λL=>(XC val i).G (·==L)) (XC val i).e→
  (∀s',Moved (S::wr) G s s'->s'.j.SetOf (strKind prog w) S (λL=>(XC val n).G (·==L)) (XC val n).e->R (.ok<|.ret .w) s')→
  codeAny (model prog w) A (.u "set.update.loop" ⟨[.j S,.j I],[]⟩) R s:=by
 have u:=λh=>l<|W.sub _ h;have a:∀b∈wr,b∈S::wr:=λb f=>Aa0 _ f;intro k;induction k with
|zero=>
  intro i s U Q c B M;have H:i=n:=by lia
  subst H;refine OJ PQ ?_;rw[Rx O0 _];show wpAny _ A.w _ _ _ s;refine AC<|W.done s _ _ c λs' p=>?_;show wpAny _ A.w _ _ _ s';exact FS<|M s' (p.mono a)<|by obtain⟨o,y,z,t,K,rest⟩:=B;exact⟨o,y,z,t,p.heap S _ u K,rest⟩
|succ k N=>
  intro i s U Q c B M;have j:i<n:=by lia
  refine OJ PQ ?_;rw[Rx O0 _];show wpAny _ A.w _ _ _ s;refine AC<|W.item i s _ _ j c λv s' O m p=>?_;obtain⟨t,rfl⟩:=g i v O;have E:s'.j.SetOf (strKind prog w) S (λL=>(XC val i).G (·==L)) (XC val i).e:=by obtain⟨o,y,z,V,K,rest⟩:=B;exact⟨o,y,z,V,p.heap S _ u K,rest⟩
  show wpAny _ A.w _ _ _ s';refine AC<|Ol ?_;unfold setAdd;refine Ol ?_;refine AC<|(strKind prog w).pyHash (Px _ _ _ _) ?_;have d:(XC val i).e+1<scanBound:=by have:=Wo val i;lia
  refine wpAny_setAddHashed_of (Px _ _ _ _) rfl E d λT q C=>?_;have J:T.SetOf _ S (λL=>(XC val<|i+1).G (·==L)) (XC val<|i+1).e:=
   SetOf_congr C (λL=>by rw[js,Mp])<|by rw[js,wB]
  refine FS ⟨plainId_quiet O0 _,N (i+1) _ YB j (W.frame _ s' _ _ m (Ac9 _) λb f o e=>?_) J λD x r=>?_⟩
  .rw[q.2 b<|λh:b=S=>l<|by rw[←h];exact f];exact e
  .refine M D (Moved.trans W.gtrans ((p.mono a).then_heap (Ac9 _) λb o f e=>?_) x) r;rw[q.2 b<|λh:b=S=>f<|by rw[h];exact Aa];exact e
end
theorem ux:∀{vs}{ns},StrsAre vs ns->∀(i)(v:Value),vs[i]?=y0 v->∃t,v=.m (ns.Q i "") t
|_,_,.nil,i,v,h=>by simp at h
|_,_,.cons n t a,0,v,h=>by simp at h;exact⟨t,by rw[←h];rfl⟩
|_,_,.cons n t a,i+1,v,h=>by obtain⟨b,e⟩:=ux a i v h;exact⟨b,by rw[e];rfl⟩
section
variable{prog:Program}{w:World}{A:Around}{E:Value->Shared->Prop}{s:Shared}
set_option maxHeartbeats 8000000 in
theorem qO{b:Addr}{vs:Array Value}{ns:List Str}{Q:Value->Shared->Prop}
 (hh:A.j=u0)(ht:s.j.C b vs)(hi:StrsAre vs.p ns)(hb:vs.j+1<scanBound)
 (q:∀(h':Heap)(tk:Nat),h'.SetOf (strKind prog w) s.j.j.j (fun L=>(XC (fun i=>ns.Q i "") vs.j).G (·==L)) (XC (fun i=>ns.Q i "") vs.j).e→
   (∀c o,c<s.j.j.j->s.j.p c=y0 o->h'.p c=y0 o)->Q (.j s.j.j.j) {s with heap:=h',toks:=tk}):
 wpAny (model prog w) A (call (.p "set") [.j b]) Q E s:=by
 obtain⟨c,tl,O⟩:=F.called_set.mro;have H:=F.called_set.made;have S:=F.called_set.sub;refine OM<|SB ?_;show wpAny _ _ (callAny (.p "set") _) _ _ _;refine FS ⟨OQ _<|by decide+kernel,OJ F.entry_type_call ?_⟩;rw[Around.under_plain (weight_type_call_type "set" [.j b] []) rfl];have h1:=F.called_set.notType;have h2:=F.called_set.canCreate;have X:=F.typeCall_set_1<|.j b
 repeat (any_goals (first|assumption|wp_step))
 refine Ow (code_set_new_1 (.j b) (E:=E) (Q₁:=λU g=>∃a:Bool,U=.j s.j.j.j/\g={s with heap:=s.j.u<|gX a}) λa=>⟨a,rfl,rfl⟩) λr g I=>?_;cases r with
|error e=>exact I
|ok fl=>
  cases fl with
|ret U=>
   obtain⟨a,rfl,rfl⟩:=I;have N:(s.j.u<|gX a).p s.j.j.j=y0 (gX a):=Ab6 _ rfl;have W:Shared.TypeIs {s with heap:=s.j.u<|gX a} (.j s.j.j.j) "set":=⟨_,N,rfl⟩;have hli:=F.called_set.init.j;have hbi:=F.called_set.init.bind<|.j s.j.j.j
   repeat (any_goals (first|assumption|wp_step))
   refine Ow (ON (R:=wants (λr f=>r=.w/\∃h' tk,f={s with heap:=h',toks:=tk}∧
    h'.SetOf (strKind prog w) s.j.j.j (fun L=>(XC (fun i=>ns.Q i "") vs.j).G (·==L)) (XC (fun i=>ns.Q i "") vs.j).e∧
    (∀c o,c<s.j.j.j->s.j.p c=y0 o->h'.p c=y0 o)) E) F.called_set.init.plain F.entry_set_init<|check_set_init_1 W ?_) λx f d=>?_
   .obtain⟨⟨Y,c2,c3,c4⟩,n,j,z,l⟩:=ht;replace j:Y=.p "list":=j;replace l:c3=.j vs z:=l;subst j;subst l;have m:(s.j.u<|gX a).p b=y0 {cls:=.p "list",dict:=c2,data:=.j vs z,slots:=c4}:=Aa3 _ n;have V:=PySem.F.sub_list_set;have P:=PySem.F.sub_list_frozenset;have hne:(Value.type "list"==Value.type "dict")=false:=by decide
    have p:(s.j.u<|gX a).C b vs:=⟨_,m,rfl,z,rfl⟩;unfold Builtin.«set.__init__»noKeywords Builtin.Frozenset.updateFrom;generalize D:pyIter=PI
    wp_walk
    subst D;refine O2 p<|AC<|Rn ?_;have t:b<s.j.j.j:=Ab3 n;have C:A.w.w.w.j=none:=by simp[hh]
    have M:(s.j.u<|gX a).j.j=s.j.j.j+1:=Ai1 ..;have u:b≠(s.j.u<|gX a).j.j:=by rw[M];exact Ab7<|Al2 t
    have B:s.j.j.j∉[(s.j.u<|gX a).j.j,b]:=by rw[M];simp only[Aa6,Ab9,Oj,not_or];exact⟨Ab7<|Ae9 _,Am3 t⟩
    refine Q6 ((Walks.list C _ b u vs).toS) s.j.j.j
     B (fun i=>ns.Q i "") (fun i v hv=>ux hi i v<|by rw[Array.getElem?_toList];exact hv) hb (vs.j-0) 0 _ YB (Af0 _)
     ⟨⟨_,Ab6 _ rfl,rfl,rfl⟩,(p.push _)⟩ ?hS0 ?hR
    case hS0=>exact SetOf_congr ((setObjOf_fresh (knd:=strKind prog w) a).setOf (Aa3 _ N)<|by unfold scanBound;lia) (λ_=>rfl) rfl
    case hR=>
     intro s' y k;obtain⟨h',Z,d',K,J⟩:=s';have eg:Z=s.u:=y.gens;have ed:d'=s.drawn:=y.drawn;have eo:J=s.os:=y.os;subst eg;subst ed;subst eo;show wpAny _ _ _ _ _ _;refine FS ?_;show wpAny _ _ (ret Value.none) _ _ _;refine FS ⟨rfl,h',K,rfl,k,λc o T e=>y.heap c o ?_<|Aa3 _<|Aa3 _ e⟩;simp only[Aa6,Ab9,Oj,not_or];exact⟨Ab7 T,by show c≠(s.j.u<|gX a).j.j;rw[M];exact Ab7<|Al2 T⟩
   .cases x with
 |error e=>exact d
 |ok h=>
     cases h with
 |ret r=>
      obtain⟨rfl,h',tk,rfl,k,G⟩:=d
      repeat (any_goals (first|assumption|wp_step))
      exact q _ _ k G
 |_=>exact d.j
|_=>exact I.j
end
section
variable{X:Cx}
def l9(ss:List Str):Nat:=(XC (λi=>ss.Q i "") ss.e).e
def En:bootBuiltins "len"=some (.u "len"):=by decide+kernel
def ND:bootBuiltins "set"=some (.p "set"):=by decide+kernel
def DT(K:Aa5)(b:TA):TE:=λU H Q=>b U H λvs H1=>∃a,∃ss:List Str,vs=[.j a]/\bu K H1 a (ss.u V.str)/\ss.e<1000/\Q (.o (l9 ss:Nat)) H1
def Hn{a:Expr}{z:TA}{p M pos d:Pos}(W:X.calm=true)(E:Gl X "len")(L:X.mg "len"=none)(m:Gl X "set")(v:X.mg "set"=none)(R:PA X [a] z)(N:starEach [a] X.j=[(false,eval a X.j)]):
 PE X (.u (.j "len" p) [.u (.j "set" M) [a] [] d] [] pos)<|DT X.K z:=by
 intro f s U H Q I h;refine Call_<|Xw I E L En<|Pd (Pk<|Call_<|Xw I m v ND<|Os (aJ (R d f s U H _ I h) ?_) N rfl) rfl rfl;rintro us w⟨K,A,k,G,S⟩;obtain⟨l,g,e,P,hn,q⟩:=S;subst e;cases G with
|cons r J=>
  cases J;cases r;obtain⟨j,rv,pl,hz⟩:=k.list P;have c:j.e=g.e:=by have:=rv.length;rw[Ab]at this;lia
  have O:=Wo (λi=>g.Q i "") g.e;refine qO (b:=l) (vs:=j.w) (ns:=g) (k.ok.hd W) pl.I (by simpa using xq rv) (by rw[Ac,c];unfold scanBound;exact KM ‹_› YA) λy tk x T=>Pr ?_;have F:j.w.j=g.e:=by rw[Ac];exact c
  rw[F]at x;obtain⟨o,C,ep,t,V,n,Y,_,_,_,Z,e⟩:=x;have B:Inv X f U A {w with heap:=y,toks:=tk}:=k.kept λb u e=>T b u (Ab3 e) e;have D:C.j=l9 g:=by unfold l9;lia
  refine call_len_set (s:={w with heap:=y,toks:=tk}) V n Y Z YB ⟨.o<|l9 g,A,B.tok _,⟨_,by rw[D]⟩,q⟩
end
open Sem (wp)
abbrev K2:=List<|Int⊕List Int
section
variable(prog:Program)(w:World)
inductive xV(h:Heap):K2->List Value->Prop
|nil:xV h [] []
|int {i:Int}{t:Tok}{ks:K2}{vs:List Value}:xV h ks vs->xV h (.inl i::ks) (.o i t::vs)
|tup {l:List Int}{a:Addr}{ks:K2}{vs:List Value}:IsTupleKey (intKind prog w) h l a->xV h ks vs->xV h (.inr l::ks) (.j a::vs)
end
abbrev WK:=Int×List Int×List Int
section
variable{X:Cx}{u7:List<|Addr×Obj}{U:St}{H:Hp}{s:Shared}{a b:Addr}{k:WK}{xs:List<|WK×Addr×Value}{r:Value}{A:Around}{E:Value->Shared->Prop}
def uF(I:Inv X u7 U H s):sysModules<s.j.j.j:=by exact An9 YA<|(I.mod.glob.keeps I.bk).lt
end
open PySem.AutoSeq1 (wpAny_loadPart')
open MeetsSeq MeetsSeq2 MeetsSeq3 SeqRoads2 PySem.SeqAt
open PySem PySem.Spec PyProof.Rows PyProof.Rows.KTD PyProof.V
noncomputable def n5:PyData->V
|.int i=>.o i
|.str x=>.m x
|.bool b=>.bl b
|_=>.aj
def CB(a:flatData d=k9)(h:Flat u d):RelV (n5 d) u:=by
 cases d with
|none=>rw[h.none_inv];rfl
|bool b=>rw[h.bool_inv];rfl
|int i=>obtain⟨t,rfl⟩:=h.int_inv;exact⟨t,rfl⟩
|str x=>obtain⟨t,rfl⟩:=h.str_inv;exact⟨t,rfl⟩
|list _=>cases a
|tuple _=>cases a
|dict _=>cases a
noncomputable abbrev mi(T:List<|Str×PyData):List<|Str×Dat:=T.u λp=>(p.1,Dat.flat p.2)
section
variable{k:Str}{h:Heap}{P:Value->Prop}
def E7(e:k=x):datumAt k ((x,d)::T)=y0 d:=Da<|FM e
def vY(e:¬k=x):datumAt k ((x,d)::T)=datumAt k T:=Fk<|by simp[e]
theorem vC:∀(T){d},datumAt k T=y0 d->inKeys k (mi T)=k9
|[],_,q=>by cases q
|(x,a)::T,d,q=>by
  show(k8 (k=x)||inKeys k (mi T))=k9;by_cases e:k=x
  .rw[FM e];rfl
  .rw[vY e]at q;rw[vC T q,An7]
def Lv(q:∀v,Flat v d->P v):Opened h P<|.flat d:=by
 cases d with
|none=>exact q _ Flat.none
|bool b=>exact q _<|Flat.bool b
|int i=>exactλt=>q _<|Flat.int i t
|str x=>exactλt=>q _<|Flat.str x t
|list _=>exact q
|tuple _=>exact q
|dict _=>exact q
theorem A5:∀(T),(∀d v,datumAt k T=y0 d->Flat v d->P v)->EachL h k P (mi T)
|[],_=>trivial
|(x,d)::T,q=>by
  by_cases e:k=x
  .exact eachL_hit e<|Lv λv f=>q d v (E7 e) f
  .exact eachL_miss e<|A5 T λb v a f=>q b v ((vY e).x a) f
end
def mX(K:Aa5)(a:Addr)(T:List<|Str×PyData):Prop:=tabLook flatLooks (λb=>K.j b) a T=k9
section
variable{X:Cx}{u7:List<|Addr×Obj}{U:St}{H:Hp}{s:Shared}
def Ei(I:Inv X u7 U H s)(b:mX X.K a T):Here s.j s.j a<|mi T:=
 ⟨(tab_of_look (λ_ _ x=>flat_of_looks x) I.bE b).text,λ_ _ e=>e⟩
def Fi(T)(h:∀p∈T,flatData p.2=k9):((mi T).N λp=>KTD.plain p.2)=true:=by
 rw[Aj6,Ad6];rintro⟨x,d⟩ a;have:=h _ a;cases d<;>first|rfl|cases this
def Hk(K:Aa5):R2:=λx y H Q=>∃a T k d,x=.j a/\y=.m k/\mX K a T/\(∀p∈T,flatData p.2=k9)/\datumAt k T=y0 d/\flatData d=k9/\Q (n5 d) H
def IS:gT X<|Hk X.K:=by intro b c g s U H x y v u Q I o m h l;obtain⟨a,T,k,d,rfl,rfl,j,n,i,p,q⟩:=h;cases o;obtain⟨t,rfl⟩:=m;refine item_textA (Ei I j) (Fi T n) (vC T i) (A5 T λr w e f=>?_) l;rw[i]at e;cases e;exact⟨n5 d,H,I.tok _,CB p f,q⟩
def KW{i:Nat}(g:X.N[i]?=y0 x)(h:ij X.j.j x)(I:Inv X u7 U H s)(e:U[i]?=y0 (y0 v))(q:∀u,RelV v u->Q u s)
 (d:(x==("__debug__":Str))=false)(b:(x==("__classdict__":Str))=false):wpAny (model X.prog X.w) X.A (eval (.j x p) X.j) Q E s:=by
 obtain⟨m,k,j⟩:=I.loc;obtain⟨u,r,l⟩:=j i x v g e h;have q:=q u r;obtain⟨a,z⟩|⟨a|a,c,z1,f⟩:=l
 .exact OW (Pc I.ok.kind a k z q) d
 .exact OW (RF I.ok.kind a z1 f q) d
 .exact OW (RG I.ok.kind a z1 f q b) d
def M3:Xr X (.p "str")<|fun xs H Q=>∃i:Int,xs=[.o i]/\i.p.log2<1920/\Q (.m<|Str.ofString<|toString i) H:=by intro a s U H xs d Q I r h;obtain⟨i,rfl,b,q⟩:=h;obtain⟨u,rfl,c⟩:=r.one;obtain⟨t,rfl⟩:=c;exact PySem.P.str_of_int b ⟨.m _,H,I.tok _,⟨_,rfl⟩,q⟩
def kT:List (Str×Str)->List (Option Expr)->List Expr->Prop
|[],ks,vs=>ks=[]/\vs=[]
|(x,y)::r,ks,vs=>∃j p d c b a,ks=y0 (.y (.str x) j p)::b/\vs=.y (.str y) d c::a/\kT r b a
theorem j1:∀{T}{ks}{vs},kT T ks vs->ks.N (·.w)=k9/\ks.e=T.e/\vs.e=T.e
|[],_,_,z7=>by obtain⟨rfl,rfl⟩:=z7;exact⟨rfl,rfl,rfl⟩
|(x,y)::r,_,_,z7=>by obtain⟨j,p,g,f,e,b,rfl,rfl,ok⟩:=z7;obtain⟨a,d,c⟩:=j1 ok;exact⟨by simpa using a,by simp[d],by simp[c]⟩
theorem JE:∀{T}{ks}{vs}{s}{Q},kT T ks vs→
 (∀kvs us t,Carries (strKind X.prog X.w) us kvs->FlatPairs PyData.str kvs (T.u λp=>(PyData.str p.1,PyData.str p.2))->kvs.u (·.1)=T.u (·.1)->Q us {s with toks:=t})→
 wpAny (model X.prog X.w) X.A (evalPairs<|pairTrees ks vs X.j pos) Q X.xe s
|[],_,_,s,Q,z7,q=>by obtain⟨rfl,rfl⟩:=z7;exact pairTrees_nil_walk<|q [] [] s.p trivial .nil rfl
|(x,y)::r,_,_,s,Q,z7,q=>by obtain⟨j,p,e,d,b,a,rfl,rfl,ok⟩:=z7;exact pairTrees_cons_walk<|Pj<|Pj<|JE ok λkvs us t c f m=>q ((x,.m y _)::kvs) _ t ⟨Px _ _ _ _,rfl,c⟩ (.cons (Flat.str y _) f)<|by simp[m]
theorem Xy{K:Type}[DecidableEq K]:∀(more a:List<|K×Value),((a++more).u (·.1)).C->merged a more=a++more
|[],a,_=>by simp[merged]
|p::more,a,h=>by
  have e:stored a p.1 p.2=a++[p]:=by unfold stored;rw[Fk];intro z;obtain⟨b,c,e⟩:=Ao1.j z;rw[Ad,Al1]at h;exact h.2.2 b.1 (List.mem_map_of_mem c) p.1 YC<|FB e
  show merged (stored a p.1 p.2) more=_;rw[e,Xy more (a++[p])<|by simpa using h];simp
def Me{i:Nat}(ok:kT T ks vs)(j:T≠[])(B:T.e<=15)(E:(T.u (·.1)).C)
 (n:X.N[i]?=some x)(A:ij X.j.j x)(K:(x==("__debug__":Str))=false)(g:(x==("__classdict__":Str))=false):
 PE X (.w (.Dict ks vs p1) (.j x p2) pos)<|λU H Q=>∃k y,U[i]?=y0 (y0<|.m k)/\T.j k=y0 y/\Q (.m y) H:=by
 rintro e s U H Q I ⟨k,y,F,d,q⟩;obtain⟨J,a2,a3⟩:=j1 ok;have L:=uF I;refine Pt<|SD J (a2.x a3.j) (λz=>j<|Al4.j<|by simp_all) YB<|JE ok λa o t c f m=>⟨a,c,Heap.DictOf.new _,λG dd D=>?_⟩;have h:Inv X e U H {s with heap:=G,toks:=t+o.e}:=I.kept λb u z=>(D.2 b<|Ab7<|Ab3 z).x<|Aa3 _ z;refine KW n A h F (λu C=>?_) K g;obtain⟨tk,rfl⟩:=C;rw[Xy a []<|by simp_all,Ah7]at dd;refine item_tab_any OG (Px _ _ _ _) ⟨beq_eq_false_iff_ne.p<|Ne.symm<|Ab7 L,a,dd,f⟩ (dv:=.str y) ?_ (λv w=>?_) rfl
 .clear ok j B E a2 a3 f m;induction T with
|nil=>cases d
|cons p T l=>
   rw[Ab8]at d;by_cases z:k=p.1
   .subst z;rw[Ot]at d;cases d;simp[PySem.Spec.lookup,OG]
   .rw[beq_eq_false_iff_ne.p z]at d;have:=l d;have r:¬p.1=k:=λq=>z q.j;simp[PySem.Spec.lookup,OG,r,this]
 .obtain⟨M,rfl⟩:=w.str_inv;exact⟨.m y,H,h.tok _,⟨_,rfl⟩,q⟩
end
section
variable{X:Cx}
def EX:mQ X "str.startswith"<|fun x vs H Q=>∃z y:Str,x=.m z/\vs=[.m y]/\Q (.bl<|Txt.startswith z y) H:=by intro a s U H x vs v d Q I c rv h;obtain⟨z,y,rfl,rfl,q⟩:=h;obtain⟨t,rfl⟩:=c;obtain⟨u,rfl,b⟩:=rv.one;obtain⟨e,rfl⟩:=b;exact SC.startswith ⟨.bl _,H,I,rfl,q⟩
def NF:Xr X (.p "int")<|fun xs H Q=>∃z n,xs=[.m z]/\z.e<=640/\PySem.intText? z=some n/\Q (.o n) H:=by intro a s U H xs e Q I r h;obtain⟨z,n,rfl,b,d,q⟩:=h;obtain⟨u,rfl,c⟩:=r.one;obtain⟨t,rfl⟩:=c;exact PySem.W.KIN.call_text d b ⟨.o n,H,I.tok _,⟨_,rfl⟩,q⟩
end
noncomputable def rQ(K:Aa5)(a:Addr):It:=
 ⟨λi H=>∃xs x,bu K H a xs/\xs[i]?=y0 x,λi H x H'=>∃p y,H p=u0/\x=.j p/\H'=aG H p (.tup [.o (i:Int),y])/\∀xs,bu K H a xs->xs[i]?=y0 y,λi H=>∃xs,bu K H a xs/\xs.e=i⟩
def MP{K:Aa5}(a it e)(m:e≠it):iG P w K (.G elts x1 tp) (rQ K a) [e,it] e<|λi h=>(∃L,IsEnum h e it (i:Int) L)/\h.IsListIter it a i where
 mem:=by simp
 obj:=λi h j b F=>by
  obtain⟨⟨L,q⟩,⟨o,q2,c,d⟩⟩:=j;rcases Aa6.j F with z|z
  .subst z;exact⟨_,q,λv z=>by cases z⟩
  .rw[Ab2.j z];exact⟨o,q2,λv z=>by rw[d]at z;cases z⟩
 keep:=λi h h' j k=>⟨let⟨L,q⟩:=j.1;⟨L,k e YC _ q⟩,let⟨o,q,r⟩:=j.2;⟨o,k it YC o q,r⟩⟩
 item:=by
  intro X Q S hK W i l s U H E I N j Z;subst Q S hK;obtain⟨⟨L,A⟩,f⟩:=j;obtain⟨xs,x,M,T⟩:=Z;obtain⟨g,rv,p,hz⟩:=I.list M;obtain⟨u,hu,ru⟩:=rv.get T;have B:=p.I;have n:a≠it:=λz=>by obtain⟨o,q,c,_⟩:=B;obtain⟨o',q',D,_⟩:=f;rw[z,q']at q;cases q;rw[c]at D;exact absurd D YA
  have hae:a≠e:=λz=>by obtain⟨o,q,c,_⟩:=B;rw[z,A]at q;cases q;exact absurd (show Value.type "enumerate"=Value.type "list" from c) YA
  obtain⟨f0,f1,f2,f3,f4,f5⟩:=N e YC;obtain⟨J,R,g2,g3,g4,Y⟩:=N it YC;have hlt:=by have:=Ac1.j hu;simpa using this.1
  have t:X.A.w.j=none:=I.ok.hd W;refine wpAny_pyNext_enum_itemD (Draws.list t it a n g.w) A ⟨f,B⟩ hlt m (by simp[m,Ne.symm hae]) λy h1 tk G ho V hT hsz hk=>?_;have ey:y=u:=by rw[List.getElem?_toArray]at G;rw[hu]at G;cases G;rfl
  subst ey;refine⟨_,rfl,wpAny_letOwnedTupleGo_enum ho λh2 he2 O=>?_⟩;have O:=O;have hep:=Am3<|Ab3 A;have hn:=I.aL.M<|Aa4 _;have I1:Inv X l U (aG H s.j.j.j<|.tup [.o (i:Int),x]) {s with heap:=s.j.u {cls:=.p "tuple",data:=.j #[.o i tk,y]},toks:=tk+1}:=by refine I.laid (λb o q=>Aa3 _ q) (Aa4 _) ⟨by simp only[Ab1,Ae0];rw[OF];decide,[.o i tk,y],.j ⟨_,rfl⟩<|.j ru .p,?_⟩;exact⟨_,Ab6 s.j rfl,rfl,rfl,_,rfl⟩
  have C:it<s.j.j.j:=by obtain⟨o,q,_⟩:=f;exact Ab3 q
  have ee:=Ab3 A;have I2:=I1.hP (t':=tk+1) (λb o b1 b2 q=>by
   refine(O.2 b b1).x ?_;rcases Heap.get?_push_cases (show(s.j.u {cls:=.p "tuple",data:=.j #[.o i tk,y]}).p b=some o from q)with⟨z,z2⟩|z
   .rw[z,z2];exact hT
   .exact hk b o b1 b2 z) (by rw[Qa<|Ab7 C];exact J) (by rw[Qa<|Ab7 ee];exact f0) R f1 g3 f3 g4 f4 Y f5
  refine⟨.j s.j.j.j,_,I2,rfl,⟨s.j.j.j,x,hn,rfl,rfl,λys G=>by rw[I.dt G M];exact T⟩,⟨⟨y,by simpa using he2⟩,?_⟩,λb F=>?_⟩
  .obtain⟨o,q,r⟩:=V.1;exact⟨o,(O.2 it<|Ne.symm m).x q,r⟩
  .rcases Aa6.j F with z|z
   .rw[z,Qa<|Ab7 ee];exact f0
   .rw[Ab2.j z,Qa<|Ab7 C];exact J
 done:=by
  intro X Q S hK W i l s U H E I N j Z;subst Q S hK;obtain⟨⟨L,A⟩,f⟩:=j;obtain⟨xs,M,T⟩:=Z;obtain⟨g,rv,p,hz⟩:=I.list M;have B:s.j.C a g.w:=p.I;have n:a≠it:=λz=>by obtain⟨o,q,c,_⟩:=B;obtain⟨o',q',D,_⟩:=f;rw[z,q']at q;cases q;rw[c]at D;exact absurd D YA
  obtain⟨J,R,g2,g3,g4,Y⟩:=N it YC;have hl:=rv.length;have t:X.A.w.j=none:=I.ok.hd W;have hi:i=g.w.j:=by simp;lia
  subst hi;exact wpAny_pyNext_enum_endD (Draws.list t it a n g.w) A ⟨f,B⟩ λh' eb=>⟨rfl,I.turned (λb o F q=>eb b o F q) J R g3 g4 Y⟩
 self:=λ_ _ _ _ _ j h=>Si j.1.choose_spec h
def Il(K:Aa5)(b:TA):TI:=λU H R=>b U H λvs H1=>∃a xs,vs=[.j a]/\bu K H1 a xs/\R (rQ K a) H1
def BK(k:Gl X "enumerate")(o:X.mg "enumerate"=none)(w:PA X [a] ta)(u:starEach [a] X.j=[(false,eval a X.j)]:=by rfl):PI X (.G elts x1 tp) (.u (.j "enumerate" p) [a] [] pos)<|Il X.K ta:=by
 intro f s U H R I h;refine Call_<|Xw I k o WJ<|Os (aJ (w pos f s U H _ I h) ?_) u rfl;rintro C g⟨D,B,d,l,x⟩;obtain⟨b,E,e,v,q⟩:=x;subst e;cases l with
|cons r m=>
  cases m;cases r;obtain⟨t,rv,pl,F⟩:=d.list v;refine call_enumerate_list pl.I λG j i n y=>Si j ?_;refine⟨g.j.j.j+1,[g.j.j.j+1,g.j.j.j],_,_,B,rfl,d.kept y,MP b g.j.j.j _<|Nat.succ_ne_self _,⟨⟨_,by simpa using j⟩,i⟩,λc A=>?_,q⟩;obtain z|z:=Aa6.j A
  .rw[z];exact d.dj (Ac9 _)<|d.aL.M<|Ac9 _
  .rw[Ab2.j z];exact d.dj (Aa4 _)<|d.aL.M<|Aa4 _
open PySem PySem.Spec PySem.Calls PySem.W PyProof.Rows
def xR:List Value->Bool
|[]=>u9
|x::r=>match x with
|.j _=>xR r
|_=>x::r==m1
theorem wt{P:List Value->Prop}(a:P m1)(h1:∀c r,P r->P (.j c::r)):∀{l},xR l=k9->P l
|[],e=>by cases e
|x::r,e=>by
  unfold xR at e;split at e
  .exact h1 _ _<|wt a h1 e
  .rw[beq_iff_eq.j e];exact a
def qV(self)(e:xR l=k9):refuseLoop self "__setattr__" l=pure ():=
 wt (P:=fun l=>refuseLoop self "__setattr__" l=pure ()) (PySem.F.store_ValueError.passes self) (fun c r h=>by rw[refuseLoop_ref];exact h) e
def jU(e:xR l=true):l.p (.p "object")=true:=
 wt (P:=λl=>l.p _=k9) (by decide+kernel) (λc r h=>by rw[OU,h,An7]) e
def Ml(e:xR l=true):l.p (.p "BaseException")=true:=
 wt (P:=λl=>l.p _=k9) (by decide+kernel) (λc r h=>by rw[OU,h,An7]) e
def vM(e:xR l=k9):l.y=false:=
 wt (P:=λl=>l.y=u9) rfl (λc r h=>rfl) e
def lN(K:Frag)(C:Addr):Bool:=(clsIn K C).any λcd=>xR cd.mro&&cd.hasDict
def yj{K:Frag}(h:lN K C=k9):∃cd,clsIn K C=y0 cd/\xR cd.mro=k9/\cd.hasDict=true:=by obtain⟨cd,b,a⟩:=Sm h;rw[Aa9]at a;exact⟨cd,b,a.1,a.2⟩
section
variable{prog:Program}{w:World}{A:Around}{E:Value->Shared->Prop}{s:Shared}{K:Frag}{x C t:Addr}{f:Str}{u:Value}
def Ea(X:K.In s.j)(j:s.j.p x=some (fV C t none))(F:lN K C=true)(z:findIn K (.j C) "__setattr__"=some (some<|.u "object.__setattr__"))(N:findIn K (.j C) f=some none)
 (h:∀h',(∀b o,b≠x->s.j.p b=y0 o->h'.p b=y0 o)->h'.p x=y0 (fV C t<|y0 s.j.j.j)->h'.Ns1 s.j.j.j (λy=>if y=f then y0 u else u0)->Q () {s with heap:=h',toks:=s.p+2}):
 wpAny (model prog w) A (setAttr (.j x) f u) Q E s:=by
 obtain⟨D,q,n,H⟩:=yj F;have I:PySem.W.InstAt s.j x _ C none:=⟨j,rfl,rfl,trivial⟩;refine Sa X I z ?_;have a:=PySem.F.store_object;have sub:Looks (model prog w) s.j (isInstance _ _) true:=I.type.a3<|looks_mroIn X (by unfold mroIn;rw[q,Ac8,Fk<|by rw[vM n];decide,jU n]);have v:Looks (model prog w) s.j (mroOf<|.j C) D.mro:=(looks_clsIn X q).a3 .now;have J:=looks_findIn (M:=model prog w) X N;refine ON a.slot.plain a.entry<|@check_slot _ _ _ {s with toks:=s.p+1} "object.__setattr__" "object" "__setattr__" _ [.m f s.p,u] [] _ a.kind a.split sub (a.args _ _ u) ?_;rw[osa_eq,refuse_eq];refine AC<|AC<|I.type.here (s:={s with toks:=s.p+1})<|AC<|v.here (s:={s with toks:=s.p+1}) ?_;rw[qV _ n];refine FS<|AC<|I.type.here (s:={s with toks:=s.p+1})<|AC<|J.here (s:={s with toks:=s.p+1})<|AC<|FS ?_;have g:(s.j.u {cls:=.p "dict",data:=.u #[]}).p x=some _:=Aa3 _ j;have i:=Ab7<|Ab3 j;refine AC<|FS<|AC<|AC<|wpAny_loadPart j<|AC<|PySem.W.Looks.here (RI X q) ?_;rw[H];have r:((s.j.u {cls:=.p "dict",data:=.u #[]}).w x fun o=>{o with dict:=some s.j.j.j}).p s.j.j.j=some {cls:=.p "dict",data:=.u #[]}:=
  (An1 _ _ _ _ i.symm).x<|Ab6 _ rfl
 have l:((s.j.u {cls:=.p "dict",data:=.u #[]}).w x fun o=>{o with dict:=some s.j.j.j}).Ns s.j.j.j<|fun _=>none:=
  ⟨_,#[],_,r,rfl,λe L=>absurd L YC,λ_=>rfl⟩
 refine AC<|wpAny_alloc<|AC<|wpAny_update g<|FS ?_;refine AC<|FS<|AC<|wpAny_nsSet1 (Sb l) λh' c d=>?_;obtain⟨P,O,B,m,p,k⟩:=c.count<|PySem.Within.cons f u PySem.Within.nil;refine AC<|Sn m (by rw[p];exact So<|Ac0 k<|by rw[Ab1,Ae0,OF];exact L2 _ _) ?_;refine FS<|h h' (λb o G e=>?_) ?_ c
 .exact(d.2 b<|Ab7<|Ab3 e).x<|(An1 _ _ _ _ G).x<|Aa3 _ e
 .exact(d.2 x i).x<|Ag1 _ g rfl
end
abbrev xX:Frag->Addr->Bool:=nJ λ_ _=>k9
section
variable{prog:Program}{w:World}{A:Around}{E:Value->Shared->Prop}{h:Heap}{g:Array GenState}{d:Drawn}{t:Nat}{os:OsState}{K:Frag}{C fI:Addr}
def ZY(h:Heap)(C:Addr)(rest:List Value):Heap:=(h.u {cls:=.p "tuple",data:=.j rest.w}).u<|fV C h.j.j none
def wA{rest:List Value}(e:h.p b=y0 o):(ZY h C rest).p b=y0 o:=Aa3 _<|Aa3 _ e
def AO{rest:List Value}:(ZY h C rest).p (h.j.j+1)=y0 (fV C h.j.j u0):=by
 have:=Ab6 (h.u {cls:=.p "tuple",data:=.j rest.w}) (o:=fV C h.j.j none) rfl
 rwa [Ai1]at this
def FU{rest:List Value}{Q:Value->Shared->Prop}(X:K.In h)(v:xX K C=true)(hi:findIn K (.j C) "__init__"=some (some<|.j fI))(y:typeIn K (.j fI)=some (.p "function"))(c:rest.e<=sizeLine)
 (p:wpAny (model prog w) (A.under<|.u "type.__call__" ⟨.j C::rest,[]⟩) (call (.j fI)<|.j (h.j.j+1)::rest) (fun r s'=>r=.w/\Q (.j<|h.j.j+1) s') E ⟨ZY h C rest,g,d,t,os⟩):
 wpAny (model prog w) A (call (.j C) rest) Q E ⟨h,g,d,t,os⟩:=by
 obtain⟨u,L,P,N,bs,m,I,sub,R,l,dd,O,D,H,J,S,a,q,-,T⟩:=Jr X v;have G:=PZ<|isNs_of_in X q;have F:=Pn;have z:=tc_lookup;have U:=tc_bind<|.j C;have B:(⟨h,g,d,t,os⟩:Shared).TypeIs (.j C) "type":=⟨_,a,rfl⟩;refine OM<|SB ?_;show wpAny _ _ (callAny (.j C) _) _ _ _
 repeat (any_goals (first|assumption|with_reducible refine OB a ?_|wp_step))
 refine⟨rfl,codeAny_call_builtin_at (OQ _<|by decide+kernel) entry_typeCall<|wpAny_check_type_call_sub a ?_⟩
 repeat (first|with_reducible refine OB a ?_|with_reducible refine wpAny_madeBy_exc a ?_|wp_step)
 refine codeAny_call_builtin_code (OQ _ F.quiet)<|wpAny_check_new_subT F T a<|codeAny_exc_new_subT F T a ?_ c;show wpAny _ _ _ _ _ ⟨ZY h C rest,g,d,t,os⟩;have k:K.In<|ZY h C rest:=λb o e=>wA<|X b o e;have j:=wA (C:=C) (rest:=rest) a;have i:(ZY h C rest).p (h.j.j+1)=y0 {cls:=.j C,data:=.p #[.j h.j.j,.w,.w,.w,.y u9,.w]}:=AO;have f:(Value.ref C::u).p (.j C)=true:=by simp
 unfold isInstance
 repeat (first|with_reducible refine OB i ?_|(with_reducible refine Ph j ?_;rw[f])|wp_step)
 show wpAny _ _ (typeLookup (.j C) _) _ _ _;refine(looks_findIn (M:=model prog w) k hi).at ?_;refine Ol<|AC<|(bind_fn (M:=model prog w) k (.j<|h.j.j+1) y).at ?_;refine AC<|Om p (λr s' s=>?_) λ_ _ x=>x;obtain⟨rfl,n⟩:=s
 wp_walk
 exact n
end
noncomputable def W7(x C t:Addr)(a:Option Addr):HO:=.ext λh=>h.p x=y0 (fV C t a)
def uu(e:h.p x=y0 (fV C t od)):aO P w H h x<|W7 x C t od:=⟨e,⟨_,e⟩,λ_ _ z k=>k _ z⟩
noncomputable def g5(H:Hp)(x:Addr):Hp:=λb=>if b=x then u0 else H b
def qS(h:b≠x):g5 H x b=H b:=Fk h
def QC:g5 H x x=none:=Da rfl
section
variable{X:Cx}{u7:List<|Addr×Obj}{U:St}{H:Hp}{s:Shared}
def Inv.forget (I:Inv X u7 U H s)(a:H x=y0 (.ext L)):Inv X u7 U (g5 H x) s:=by
 have ne:∀b o,H b=y0 o->(∀L,o≠.ext L)->g5 H x b=y0 o:=λb o q n=>by rw[qS<|λe=>by rw[e,a]at q;cases q;exact n _ rfl];exact q
 have nn:∀b,H b=u0->g5 H x b=none:=λb q=>by
  unfold g5;split
  .rfl
  .exact q
 refine⟨I.ok,I.os,I.bare,⟨I.u.keep,I.u.slot,λb u e n a=>nn b<|I.u.free b u e n a,I.u.there,λb d q=>ne b _ (I.u.cL b d q) (λ_ z=>by cases z),λb u v q=>ne b _ (I.u.cA b u v q) (λ_ z=>by cases z),λb j q=>?_⟩,
  I.loc,I.cell,nn _ I.free,λy c q=>nn _<|I.bz y c q,λp g=>?_,λb u q=>?_,I.len⟩
 .obtain⟨more,h⟩:=I.u.cH b j q;exact⟨more,ne b _ h<|λ_ z=>by cases z⟩
 .obtain⟨i,a2,a3⟩:=I.pin p g;exact⟨i,nn _ a2,a3⟩
 .by_cases f:b=x
  .rw[f,QC]at q;cases q
  .rw[qS f]at q;exact(I.aL b u q).cK (λ_ _ _ z=>z) (λc z=>ne c _ z<|λ_ z=>by cases z) λc d z=>ne c _ z<|λ_ z=>by cases z
def Inv.stored (I:Inv X u7 U H s)(j:H x=y0 (W7 x C t u0))(m:RelV y u)(k:∀b o,b≠x->s.j.p b=y0 o->h'.p b=y0 o)
 (e:h'.p x=y0 (fV C t<|y0 s.j.j.j))(n:h'.Ns1 s.j.j.j<|λz=>if z=f then y0 u else u0):
 Inv X u7 U (aG (aG H s.j.j.j<|.xd [(f,y)]) x<|W7 x C t<|y0 s.j.j.j) {s with heap:=h',toks:=t'}:=by
 have c:=(I.aL x _ j).1;have d:=Ab7<|Ab3 c;have p:(h'.w x λ_=>fV C t u0).p x=y0 _:=Ag1 _ e rfl;have i:∀b,b≠x->(h'.w x λ_=>fV C t u0).p b=h'.p b:=λb a=>An1 _ _ _ _ a;have l:=I.laid (o:=.xd [(f,y)]) (t':=t') (λb o q=>by
  by_cases a:b=x
  .subst a;rw[c]at q;cases q;exact p
  .rw[i b a];exact k b o a q) (Aa4 _) ⟨_,n.at λo q=>(by rw[i _ d.symm];exact q),λg=>by
   by_cases h:g=f
   .rw[Da h];subst h;show cG (match g==g with|true=>y0 y|false=>u0) _;rw[Ot];exact m
   .rw[Fk h];show cG (match g==f with|true=>y0 y|false=>u0) _;rw[beq_eq_false_iff_ne.p h];exact trivial⟩
 refine l.write (by rw[Qa d,j];exact True.intro) (.p rfl) (λb o a q=>?_) ⟨_,e⟩<|uu e;exact(i b a).j.x q
end
structure kW(K:Frag)(C:Addr)(f:Str):Prop where
 cls:xX K C=k9
 ov:lN K C=k9
 sa:findIn K (.j C) "__setattr__"=some (some<|.u "object.__setattr__")
 no:findIn K (.j C) f=y0 u0
 kp:keepIn K (.j C)=k9
def EF(K:Frag)(b c:TE)(f:Str):TS:=λD U H=>c U H λy H1=>b U H1 λx H2=>∃a C t,x=.j a/\H2 a=y0 (W7 a C t u0)/\kW K C f/\∀dx,H2 dx=u0->dx≠a->D.nx U (aG (aG H2 dx<|.xd [(f,y)]) a<|W7 a C t<|y0 dx)
def HQ(z:PE X o ta)(j:PE X value tv)(p:swapsWith value (y0<|.p o f pos') pos.j X.j=pure u9):PS X (.j [.p o f pos'] value pos)<|EF X.K ta tv f:=by intro b s U H D I h;refine Pb (aJ (j b s U H _ I h) ?_) p;rintro u m⟨y,B,l,v,q⟩;refine aJ (z b m U B _ l q) ?_;rintro n E⟨x,F,g,A,a,C,t,ex,i,c,r⟩;subst ex;obtain rfl:n=Value.ref a:=A;have d:=(g.aL a _ i).1;exact Ea g.bE d c.ov c.sa c.no λG k e w=>⟨U,_,g.stored i v k e w,r _ (g.aL.M<|Aa4 _)<|Am3<|Ab3 d⟩
def Ez(K:Frag)(f:Str):Sp:=λvs H Q _=>∃a v C t,vs=[.j a,v]/\H a=y0 (W7 a C t u0)/\kW K C f/\∀dx,H dx=u0->dx≠a->Q .aj (aG (aG H dx<|.xd [(f,v)]) a<|W7 a C t<|y0 dx)
structure QN(K:Frag)(f:Str)(fI:Addr)(fd:FuncData)(ps:List Str):Prop where
 ex:∃x k6 st N n1 n2 p1 p2 p3 p4,gH K x k6 st fI fd/\ps=[n1,n2]/\N=[n1,n2]/\qt N ps (Xe st)/\zw st=[.j [.p (.j n1 p1) f p2] (.j n2 p3) p4]/\(n1==("__debug__":Str))=false/\(n2==("__debug__":Str))=false∧
  (n1==("__classdict__":Str))=false/\(n2==("__classdict__":Str))=false
 bd:Binds K fd ps []
 fn:typeIn K (.j fI)=y0 (.p "function")
def Mr{K:Frag}(Z:QN K f fI fd ps):bj P w K mg base (bO P w) 1 fI fd ps<|Ez K f:=by obtain⟨x,h,B,N,d,j,G,D,I,y,F,rfl,rfl,S,r,u,o,l,p⟩:=Z.ex;refine gH.Ap F S (λm H Q E ⟨a,v,C,t,e,_⟩=>by subst e;rfl) ?_;rintro k A b s H m Q E g ⟨a,v,C,t,e,n,c,q⟩;subst e;rw[r];have v1:ij _ d:=(S.par d YC).j .p λz=>.u<|.p z;have v2:ij _ j:=(S.par j YC).j .p λz=>.u<|.p z;refine⟨_,Im<|HQ (XB (i:=0) rfl v1 u l) (XB (i:=1) rfl v2 o p) rfl,?_⟩;exact⟨v,rfl,.j a,rfl,a,C,t,rfl,n,c,q⟩
def HI{M:Model}{A:Around}{E:Value->Shared->Prop}{s:Shared}{env:Env}{v:Sem Value}{K:Frag}{C:Addr}{Q:Flow->Shared->Prop}(l:xX K C=k9)(hh:A.j=u0)
 (h:wpAny M A v (λv L=>∃e t O,v=.j e/\K.In L.j/\L.j.p e=y0 (fV C t O)/\E (.j e) L) E s):wpAny M A (raiseStmt env (y0 v) u0) Q E s:=by
 unfold raiseStmt;refine AC<|Om h (λv L k=>?_) λ_ _ x=>x;obtain⟨e,t,O,rfl,X,n,o⟩:=k;obtain⟨m,y,F,z,bs,i,r,sub,G,f,dd,B,I,q,u,H,c,j,-,T⟩:=Jr X l;have p:=PZ<|isNs_of_in X j;have a:(Value.ref C::m).p (.p "BaseException")=true:=by rw[OU,T.hasType PySem.F.excBase_ValueError.hasBase,An7]
 have b:L.j.p e=y0 {cls:=.j C,dict:=O,data:=.p #[.j t,.w,.w,.w,.y u9,.w]}:=n;obtain⟨w,g,d,tk,D⟩:=L
 repeat (first|with_reducible refine OB b ?_|with_reducible refine OB c ?_|(with_reducible refine Ph c ?_;rw[a])|wp_step)
 exact wpAny_raiseNew_none hh o
section
variable{P:Program}{w:World}{K:Frag}{mg:Str->Option Value}{base:Heap}{N:List Str}{k6:Str}{scope:Scope}{f:Addr}{cd:Value}{A:Around}{outer:List Env}{s:Shared}{H:Hp}{E:XK}
def AB{g:Hp}{e d C t:Addr}{p:Str×V}(h:d≠e)(c:g e=u0):g5 (aG (aG (aG g e<|W7 e C t u0) d<|.xd [p]) e<|W7 e C t<|y0 d) e=aG g d (.xd [p]):=by
 funext b;by_cases f:b=e
 .rw[f,QC,Qa<|Ne.symm h,c]
 .rw[qS f,Qa f];by_cases a:b=d
  .rw[a,Wa,Wa]
  .rw[Qa a,Qa a,Qa f]
def uJ{h:Str}{C q:Addr}{D:FuncData}{r:List Str}{Q:Value->Shared->Prop}{I:Value->Shared->Prop}{i:Around}{d:List<|Addr×Obj}{U:St}{g:Hp}{c:Shared}{v:V}{u:Value}(p:kW K C h)(hi:findIn K (.j C) "__init__"=some (some<|.j q))(Z:QN K h q D r)(G:aM 2 i)(m:Inv (Ju (bO P w) P w K mg base N k6 scope f cd A outer s H E) d U g c)(B:RelV v u)
 (y:∀H' s',Inv (Ju (bO P w) P w K mg base N k6 scope f cd A outer s H E) d U H' s'->dQ P w K mg base i (envOfC k6 scope s.j.j.j f cd::outer) s' H')
 (k:∀s' dx,Inv (Ju (bO P w) P w K mg base N k6 scope f cd A outer s H E) d U (aG (aG (aG g (c.j.j.j+1)<|W7 (c.j.j.j+1) C c.j.j.j u0) dx<|.xd [(h,v)]) (c.j.j.j+1)<|W7 (c.j.j.j+1) C c.j.j.j<|y0 dx) s'->g dx=u0->dx≠c.j.j.j+1->Q (.j<|c.j.j.j+1) s'):
 wpAny (model P w) i (call (.j C) [u]) Q I c:=by
 have j:=m.laid (a:=c.j.j.j+1) (o:=W7 (c.j.j.j+1) C c.j.j.j u0) (h':=ZY c.j C [u]) (t':=c.p) (λb o z=>wA z) (Ac9 _)<|uu AO;refine FU m.bE p.cls hi Z.fn (show 1<=sizeLine by rw[OF];decide) ?_;have F:=Mr (P:=P) (w:=w) (mg:=mg) (base:=base) Z;have t:r.e=2:=by obtain⟨_,_,_,_,_,_,_,_,_,_,_,rfl,_⟩:=Z.ex;rfl
 refine OM<|Ow (F.run _ (envOfC k6 scope s.j.j.j f cd::outer) _ _ ⟨[.j (c.j.j.j+1),u],[]⟩ [.j (c.j.j.j+1),u] [.j (c.j.j.j+1),v]
  (λn H'=>n=.aj/\∃dx,g dx=u0/\dx≠c.j.j.j+1/\H'=aG (aG (aG g (c.j.j.j+1)<|W7 (c.j.j.j+1) C c.j.j.j u0) dx<|.xd [(h,v)]) (c.j.j.j+1) (W7 (c.j.j.j+1) C c.j.j.j<|y0 dx))
  (λ_ _ _=>False) (G.make C [u] []) ((y _ _ j).make C [u] []) (by
    have:=Z.bd ⟨ZY c.j C [u],c.u,c.drawn,c.p,c.os⟩ [.j (c.j.j.j+1),u] j.bE<|by rw[Ac7,t];rfl
    rwa [Ac7]at this) (.j rfl<|.j B .p) ⟨_,v,C,c.j.j.j,rfl,Wa,p,λdx z ne=>⟨rfl,dx,by rw[Qa ne]at z;exact z,ne,rfl⟩⟩) λres s' e=>?_
 cases res with
|error L=>obtain⟨_,_,_,_,_,_,_,_,_,_,_,_,_,_,_,z⟩:=e;exact z.j
|ok l=>
  cases l with
|ret M=>obtain⟨n,H',x,rv,rfl,dx,z1,J,rfl⟩:=j.after e;exact⟨rv,k s' dx x z1 J⟩
|next=>exact False.elim e
|brk=>exact False.elim e
|cont=>exact False.elim e
def A9(C:Addr)(a:Str)(E:XK)(t:TA):TS:=λ_ U H=>t U H λvs H1=>∃v,vs=[v]/\∀dx,H1 dx=u0->E (.j C) (y0 dx) (aG H1 dx<|.xd [(a,v)])
def EL{x i:Str}{V a pos:Pos}{e:Expr}{t:TA}{C m:Addr}{J:FuncData}{X:List Str}(hh:A.j=none)(j:kW K C i)(hi:findIn K (.j C) "__init__"=some (some<|.j m))(Z:QN K i m J X)(L:mg x=some (.j C))(F:Gl (Ju (bO P w) P w K mg base N k6 scope f cd A outer s H E) x)
 (Q:aM 2<|A.p<|envOfC k6 scope s.j.j.j f cd)(M:PA (Ju (bO P w) P w K mg base N k6 scope f cd A outer s H E) [e] t)
 (T:starEach [e] (envOfC k6 scope s.j.j.j f cd)=(false,eval e<|envOfC k6 scope s.j.j.j f cd)::starEach [] (envOfC k6 scope s.j.j.j f cd):=by rfl)(R:(x==("__debug__":Str))=false:=by decide):
 PS (Ju (bO P w) P w K mg base N k6 scope f cd A outer s H E) (.p (y0<|.u (.j x V) [e] [] a) u0 pos)<|A9 C i E t:=by
 intro c G U W D I h;rw[arm_exec_Raise];refine AC<|OC<|HI j.cls hh ?_;refine AC<|Om (Oq<|Zo I F L ?_ R) (λv s3 S=>AC<|OC<|FS S) λ_ _ x=>x;refine callWith_K (h₀:=base) I.ok.mod.eZ j.kp (aJ (M a c G U W _ I h) ?_) T rfl;rintro z n⟨Y,O,d,r,v,y,q⟩;refine⟨d.bE,?_⟩;subst y;obtain⟨u,rfl,k⟩:∃u,z=[u]/\RelV v u:=by
  cases r with
|cons k B=>cases B;exact⟨_,rfl,k⟩
 refine uJ j hi Z Q d k (λ_ _ I=>I.eM) λs' o g z1 p=>?_;refine⟨_,n.j.j.j,y0 o,rfl,g.bE,(g.aL _ _ Wa).1,?_⟩;have b:O (n.j.j.j+1)=none:=d.aL.M<|Ac9 _;have l:=g.forget Wa;rw[AB p b]at l;refine Xz l (g.aL _ _ Wa).1 rfl rfl rfl rfl rfl (λ_=>rfl) (Am7<|Ac0 d.sz<|Ac9 _) ?_<|q o z1;rw[Qa<|Ne.symm p,b]
end
section
variable{prog:Program}{w:World}{A:Around}{E:Value->Shared->Prop}{s:Shared}{K:Frag}{x C dx:Addr}{fl:Str}{u:Value}{ox:Obj}{mA:Str->Option Value}
def Mn(X:K.In s.j)(q:s.j.p x=y0 ox)(J:ox.cls=.j C)(B:notCls ox=k9)(L:ox.u=y0 dx)(r:s.j.Ns1 dx mA)(y:mA fl=y0 u)(hh:handedIn u=k9)(H:lN K C=k9)(O:findIn K (.j C) fl=y0 u0)
 (m:findIn K (.j C) "__getattribute__"=some (some<|.u "BaseException.__getattribute__"))(G:findIn K (.j C) "__getattr__"=some none)
 (h:Q u {s with toks:=s.p+1}):wpAny (model prog w) A (getAttr (.j x) fl b) Q E s:=by
 obtain⟨R,c,a,i⟩:=yj H;obtain⟨f,g,d,t,D⟩:=s;dsimp only at X q r h;obtain⟨z,n,k⟩:=XU r;have I:PySem.W.InstAt f x ox C<|y0 z:=⟨q,J,B,by rw[L];exact n⟩;have l:findObj K C _ fl=y0 _:=RH (by unfold hasDictIn;rw[c];exact i) O rfl (by rw[k,y]);have p:=I.type (M:=model prog w);have v:=looks_findIn (M:=model prog w) X m;have N:=looks_findIn (M:=model prog w) X G;have F:=looks_find (M:=model prog w) X I l;have sub:Looks (model prog w) f (isInstance (.j x)<|.p "BaseException") true:=I.type.a3<|looks_mroIn X (by unfold mroIn;rw[c,Ac8,Fk<|by rw[vM a];decide,Ml a]);have o:=PySem.F.attrBase_ValueError;have P:=o.ga.bind<|.j x;have j:(b&&onTheHeap (Value.builtin "BaseException.__getattribute__"))=false:=by cases b<;>rfl
 unfold getAttr getAttrBy;refine AC<|wpAny_mkText<|Ol<|AC<|p.at<|AC<|v.at ?_;have e:(Value.builtin "BaseException.__getattribute__"==Value.builtin "object.__getattribute__")=false:=by decide+kernel
 dsimp only;rw[e,Bool.and_false,Fk YA];unfold getAttrByItsOwn hookBefore;refine AC<|N.at<|AC<|Pm<|Ol ?_;unfold callGetattribute;rw[j,Fk YA]
 repeat (any_goals (first|assumption|wp_step))
 refine ON o.ga.plain PySem.F.entry_bexc_ga<|@check_slot (model prog w) _ _ ⟨f,g,d,t+1,D⟩ "BaseException.__getattribute__" "BaseException" "__getattribute__" (.j x) [.m fl t] [] _ (by decide+kernel) (by decide+kernel) sub (PySem.F.args_bexc_ga (.j x)<|.m fl t) ?_;refine AC<|FS<|AC<|FS<|AC<|p.at<|AC<|F.at ?_;refine FS ?_;show wpAny _ _ (handedOut u) _ _ _;rw[handedOut_of hh];exact FS h
end
structure hF(K:Frag)(C:Addr)(f:Str):Prop where
 ov:lN K C=k9
 no:findIn K (.j C) f=y0 u0
 ga:findIn K (.j C) "__getattribute__"=some (some<|.u "BaseException.__getattribute__")
 gh:findIn K (.j C) "__getattr__"=some none
def He(K:Frag)(b:TE)(f:Str):TE:=λU H Q=>b U H λx H1=>∃a C dx v,x=.j a/\H1 a=y0 (fS a C<|y0 dx)/\(∃l,H1 dx=y0 (.xd<|(f,v)::l))/\hF K C f/\Q v H1
def Dt(G:PE X e ta)(E:attributeBase e f X.j (eval e X.j)=eval e X.j):PE X (.p e f pos)<|He X.K ta f:=by intro b s U H Q I h;refine tI E<|aJ (G b s U H _ I h) ?_;rintro u n ⟨x,J,d,A,a,C,i,v,ex,t,⟨l,y⟩,c,q⟩;subst ex;obtain rfl:u=Value.ref a:=A;obtain⟨o,B,D,z,F⟩:=(d.aL a _ t).1;obtain⟨m,w,r⟩:∃m,n.j.Ns1 i m/\∀g,cG _ _:=d.aL i _ y;have j:=r f;rw[show Ag9 f _=y0 v by simp[Ag9]]at j;obtain⟨K,p,k⟩:=cG.some_of j;exact Mn d.bE B D z (F i rfl) w p (zY k) c.ov c.no c.ga c.gh ⟨v,J,d.tok _,k,q⟩
def DJ(K:Frag)(W:Addr)(e:Sp)(t:TA)(i b d:Nat):TS:=λD U H=>t U H λvs H1=>e vs H1 (λy H2=>D.nx (U.B i<|y0 y) H2) λa c H2=>∃C,a=.j C/\hH K C/\kitCls K (.j C) (.j W)=y0 k9∧
 ∀x,H2 x=u0->D.nx (((U.B b<|y0<|.j x).B d<|y0<|.j x).B b u0) (aG H2 x<|fS x C c)
def Fv
 (hX:∀a b,¬X.xe a b)(C:X.stack=X.j::X.outer)(hf:X.j.frame=y0 X.j.p)(x:X.ex=[])(F:bj X.prog X.w X.K X.mg X.base (bO X.prog X.w) k f fd ps sp)(hr:aM k X.A)(Q:Gl X fx)(Y:X.mg fx=y0 (.j f))
 (hk:keepIn X.K (.j f)=true)(hb:Binds X.K fd ps [])(ha:PA X (e::es) t)(hW:Gl X wx)(E:X.mg wx=some (.j W))(L:mroIn X.K W (.p "BaseException")=some true)(N:X.N.C)(hi:X.N[i]?=some gx)(j:X.j.j.j.j gx=some .local)(J:X.N[ie]?=some n)(o:X.j.j.j.j n=some .local)
 (B:X.N[iv]?=y0 v)(G:X.j.j.j.j v=y0 .local)
 (Z:swapsWith (.u (.j fx p) (e::es) [] cp) (y0<|.j gx gp) aq.j X.j=pure false:=by rfl)(l:swapsWith (.j n np) (y0<|.j v vp) ap.j X.j=pure false:=by rfl)
 (M:(fx==("__debug__":Str))=false:=by decide)(K:(wx==("__debug__":Str))=false:=by decide)(A:(n==("__debug__":Str))=false:=by decide)(he:starEach (e::es) X.j=(false,eval e X.j)::starEach es X.j:=by rfl)(w:(backTo cp<|starEach es X.j).G (·.1)=false:=by rfl):
 cg X wx n v wq vp np ap hp (.j [.j gx gp] (.u (.j fx p) (e::es) [] cp) aq)<|DJ X.K W sp t i ie iv:=by
 intro d s U H D Qn I h T;refine OO<|Pq ?_ Z;refine Oq<|Zo I Q Y ?_ M;refine callWith_K (h₀:=X.base) I.ok.mod.eZ hk (Om (ha cp d s U H _ I h) ?_ λ_ _ z=>(hX _ _ z).j) he w;rintro m O⟨V,H1,c,r,q⟩;refine⟨c.bE,?_⟩;have R:(m++[]).e=ps.e:=by rw[Ac7,←r.length];exact F.len _ _ _ _ q
 refine OM<|Ow (F.run X.A X.stack O H1 ⟨m,[]⟩ _ V _ _ hr c.eM (hb O m c.bE R) (by simp_all) q) λres s' g=>?_;cases res with
|ok S=>
  cases S with
 |ret u=>obtain⟨y,H2,P,ry,q2⟩:=c.after g;exact Xp P N hi (.p j) ry (λs9 I9=>OH<|T _ _ _ I9 q2)<|.u j
 |next=>exact False.elim g
 |brk=>exact False.elim g
 |cont=>exact False.elim g
|error ev=>exact Ir C hf x hW E L N J o B G l K A c g
section
variable{X:Cx}
def DW{T:List<|Str×Str}(a:T.j k=y0 y):PySem.Spec.lookup (.str k) (T.u λp=>(PyData.str p.1,PyData.str p.2))=y0 (.str y):=by
 induction T with
|nil=>cases a
|cons p T b=>
  rw[Ab8]at a;by_cases z:k=p.1
  .subst z;rw[Ot]at a;cases a;simp[PySem.Spec.lookup,OG]
  .rw[beq_eq_false_iff_ne.p z]at a;have:=b a;have c:¬p.1=k:=λq=>z q.j;simp[PySem.Spec.lookup,OG,c,this]
def Mh(ok:kT T ks vs)(E:T≠[])(P:T.e<=15)(S:(T.u (·.1)).C)(N:PE X e te)(n:J5 e):
 PE X (.w (.Dict ks vs p1) e pos)<|λU H Q=>te U H λv H1=>∃k y,v=.m k/\T.j k=y0 y/\Q (.m y) H1:=by
 intro d s U H Q I h;obtain⟨M,a2,a3⟩:=j1 ok;have O:=uF I;refine Pt<|SD M (a2.x a3.j) (λz=>E<|Al4.j<|by simp_all) YB<|JE ok λa B t c f m=>⟨a,c,Heap.DictOf.new _,λL dd G=>?_⟩;have D:Inv X d U H {s with heap:=L,toks:=t+B.e}:=I.kept λb u z=>(G.2 b<|Ab7<|Ab3 z).x<|Aa3 _ z;rw[Xy a []<|by simp_all,Ah7]at dd;have i:=I.aL.M<|Aa4 _;have A:=D.pinned (λb z=>by cases Ab2.j z;exact I.dj (Aa4 _) i) (λb z=>by cases Ab2.j z;obtain⟨o,r,w,j,_,l,_⟩:=id dd;exact⟨o,j,λv e=>by rw[l]at e;cases e⟩);refine aJ (N _ _ U H _ A h) ?_;rintro u J ⟨v,H1,x,rv,k,y,K,F,q⟩;subst K;obtain⟨tk,rfl⟩:=rv;obtain⟨o,r,w,j,l⟩:=id dd;have p:=(x.pin _<|Aa8 _<|Aa8 _<|zj (Ab2.p rfl) j).1;have g:J.j.DictOf _ s.j.j.j a:=⟨o,r,w,p,l⟩;refine item_tab_any OG (Px _ _ _ _) ⟨beq_eq_false_iff_ne.p<|Ne.symm<|Ab7 O,a,g,f⟩ (DW F) (λv C=>?_)<|n _ _;obtain⟨R,rfl⟩:=C.str_inv;exact⟨.m y,H1,x.bX.tok _,⟨_,rfl⟩,q⟩
end
end Lake
namespace PyProof.Rows
open PySem PySem.Spec
section
variable{prog:Program}{w:World}{A:Around}{E:Value->Shared->Prop}{s:Shared}
def xY(p:s.j.IsTuple l vs.w)(c:StrsAre vs ss)(d:vs.e<64)
 (h:∀M L,StrsAre M.p L->L.Perm ss->sortedS L=k9->Q (.j<|s.j.j.j+1) {s with heap:=sortedAll s.j vs M}):
 wpAny (model prog w) A (call (.u "sorted") [.j l]) Q E s:=by
 refine Calls.call_function_entry kind_sorted plain_sorted entry_sorted (args_sorted1 _) ?_;refine AC<|FS ?_;refine AC<|QX p ?_ (by rw[OF];exact Ag2<|Ab5 ‹_› YA);refine AC<|wpAny_newList ?_;have b:((s.j.u<|seqObj "list" #[] 0).w s.j.j.j (Obj.mapSeq (·++vs.w))).j.j=s.j.j.j+1:=by rw[Heap.size_update,size_push']
 have a:(((s.j.u<|seqObj "list" #[] 0).w s.j.j.j (Obj.mapSeq (·++vs.w))).u<|seqObj "list" vs.w 0).p (s.j.j.j+1)=some (seqObj "list" vs.w 0):=by rw[←b];exact Ab6 _ rfl
 rw[b];refine AC<|Ol<|O8 slot_list_sort ⟨_,a,rfl⟩ entry_list_sort (list_sort_treeK strKind_oneLt a c.keysOf (λg f rest e=>keyKind_strs<|by rw[←e];exact c) d λm j i=>⟨_,rfl,?_⟩)<|args_list_sort _;obtain⟨L,k,o,n⟩:=sorted_out_str c j i;exact FS ⟨_,rfl,h _ L k o n⟩
end
end PyProof.Rows
namespace Lake
open Lake renaming Vals.length->Lake.Vals.e,V.ref->Lake.V.j,Inv.ok->Lake.Inv.j,Inv.base->Lake.Inv.u,Cx.env->Lake.Cx.j,Cx.prog->Lake.Cx.p,Cx.stack->Lake.Cx.B,Cx.outer->Lake.Cx.y
open PySem PySem.Spec PyProof.Rows PySem.Builtin.Str
section
variable{X:Cx}
def ZR:Xr X (.u "sorted")<|fun xs H Q=>∃p,∃ss:List Str,xs=[.j p]/\cC X.K H p (ss.u V.str)/\ss.e<64/\∀L,L.Perm ss->sortedS L=true->∀l,H l=none->Q (.j l) (aG H l<|.lst<|L.u V.str):=by
 intro f s U H xs v Q I r h;obtain⟨p,ss,rfl,k,i,q⟩:=h;obtain⟨u,rfl,m⟩:=jK r;cases m;obtain⟨d,rv,pl,g⟩:=I.tuple k;have a:=rv.e;rw[Ab]at a;refine xY pl (xq rv) YB λc L n a2 a3=>?_;obtain⟨e,t⟩:=sortedAll_at s.j d c;have j:L.e<=sizeLine:=by rw[a2.u];rw[Ab]at g;exact g
 refine⟨.j _,_,I.laid (λb o e=>sortedAll_old e) (Ac9 _)<|show aO X.p X.w _ _ _ (.lst _)from⟨by rw[Ab];exact j,c.p,e,wZ n,by simpa[seqObj]using t⟩,rfl,q L a2 a3 _<|I.aL.fresh<|Ac9 _⟩
theorem xI:∀n i,(∀j,i<=j->j<i+n->subAt x y j=u9)->forIn (List.range' i n++l) ((#[]:Array Nat),0) (StrLaws.occBody x y hi 1)=forIn l (#[],0) (StrLaws.occBody x y hi 1)
|0,i,_=>rfl
|n+1,i,h=>by rw[Sr,Ai2,P5];unfold StrLaws.occBody;rw[Fk<|by rw[h i (Aa4 _) YB];exactλz=>Ab0 z.2];exact xI n (i+1) λj a b=>h j (Ag2 ‹_›) YB
theorem yS{st:Array Nat×Nat}(a:¬st.1.j<1):∀l:List Nat,(forIn l st<|StrLaws.occBody x y hi 1).run=st
|[]=>rfl
|i::l=>by rw[P5];unfold StrLaws.occBody;rw[Fk λz=>a z.1.1.1];exact yS a l
def D3(f:c∉a):occurrences ⟨(a++c::b).w⟩ ⟨#[c]⟩ 0 (a++c::b).e 1=[a.e]:=by
 have g:∀j,0<=j->j<0+a.e->subAt ⟨(a++c::b).w⟩ ⟨#[c]⟩ j=false:=λj _ d=>by
  refine beq_eq_false_iff_ne.p λz=>f ?_;have z:=congrArg Al8 z;simp only[Str.length]at z;have d:j<a.e:=by lia
  rw[Ry,RN,Ah1]at z;rw[List.drop_append_of_le_length<|Ag2 ‹_›,Ae8 d]at z;rw[show j+Array.size #[c]-j=1 by simp,Ai2,RO]at z;injection z with z _
  exact z▸Ah0 d
 have e:subAt ⟨(a++c::b).w⟩ ⟨#[c]⟩ a.e=true:=by refine beq_iff_eq.p ?_;apply Al6.j;simp[Str.length,Ah1]
 rw[SG,show(a++c::b).e+1-0=a.e+(b.e+2)by simp;exact OS _,←List.range'_append_1,xI _ _ g,Sr,P5];unfold StrLaws.occBody;rw[Da ⟨⟨⟨by show 0<1;exact Aa4 _,(Af0 _)⟩,by simp[Str.length]⟩,by simpa using e⟩];have:=yS (x:=⟨(a++c::b).w⟩) (y:=⟨#[c]⟩) (hi:=(a++c::b).e) (st:=(#[].push<|0+a.e,0+a.e+Str.length ⟨#[c]⟩)) YC<|List.range' (0+a.e+1)<|b.e+1;refine(congrArg (λz=>Al8 _) this).x ?_;simp
def KZ{a:List Nat}(b:c∉a):occurrences ⟨a.w⟩ ⟨#[c]⟩ 0 a.e 1=[]:=by
 have d:∀j,0<=j->j<0+(a.e+1-0)->subAt ⟨a.w⟩ ⟨#[c]⟩ j=false:=λj _ e=>by
  refine beq_eq_false_iff_ne.p λz=>b ?_;have z:=congrArg Al8 z;simp only[Str.length]at z;rw[Ry,RN,Ah1]at z;have m:c∈(a.J j).A (j+Array.size #[c]-j):=by rw[z];exact Ab2.p rfl
  exact Am6<|Ag5 m
 rw[SG,←Ac7<|List.range' 0 _,xI _ _ d];rfl
def A4(s:List Nat)(c:Nat)(p q r:List Nat):Prop:=(s=p++c::r/\c∉p/\q=[c])\/(c∉s/\p=s/\q=[]/\r=[])
def F8:mQ X "str.partition"<|fun x vs H Q=>∃s a m b c,x=.str ⟨s.w⟩/\vs=[.str ⟨#[c]⟩]/\A4 s c a m b/\s.e<=sizeLine/\∀p,H p=none->Q (.j p) (aG H p<|.tup [.str ⟨a.w⟩,.str ⟨m.w⟩,.str ⟨b.w⟩]):=by
 intro f s U H x vs v r Q I n rv h;obtain⟨z,a,m,b,c,rfl,rfl,d,w,q⟩:=h;obtain⟨t,rfl⟩:=n;obtain⟨u,rfl,j⟩:=rv.one;obtain⟨g,rfl⟩:=j;refine OR Po (Pu _ _ _) PySem.F.entry_str_partition (PySem.F.args_str_partition_2 _ _) (meets_str_partition _ _ t g rfl<|by assumption) ?_;have i:=I.aL.fresh<|Aa4 _;obtain⟨rfl,d,rfl⟩|⟨d,rfl,rfl,rfl⟩:=d
 .have e:=D3 (b:=b) d;rw[show Str.length ⟨(a++c::b).w⟩=(a++c::b).e from by simp[Str.length],e];refine⟨.j s.j.j.j,_,?_,rfl,q _ i⟩;refine I.laid (λb o e=>Aa3 _ e) (Aa4 _) ⟨by simp only[Ab1,Ae0];decide,[.m ⟨a.w⟩ s.p,.m ⟨#[c]⟩ g,.m ⟨b.w⟩ (s.p+1)],.j ⟨_,rfl⟩<|.j ⟨_,rfl⟩<|.j ⟨_,rfl⟩ .p,?_⟩;have l:strSub ⟨(a++c::b).w⟩ 0 a.e=⟨a.w⟩:=by unfold strSub;congr 1;apply Al6.j;simp[Ah1]
  have k:strSub ⟨(a++c::b).w⟩ (a.e+Str.length ⟨#[c]⟩) (a++c::b).e=⟨b.w⟩:=by unfold strSub;congr 1;apply Al6.j;simp[Str.length,Ah1];exact Ah5 YB
  refine⟨_,Ab6 s.j rfl,rfl,rfl,0,?_⟩;rw[l,k]
 .have e:=KZ d;rw[show Str.length ⟨a.w⟩=a.e from by simp[Str.length],e];refine⟨.j s.j.j.j,_,?_,rfl,q _ i⟩;exact I.laid (λb o e=>Aa3 _ e) (Aa4 _) ⟨by simp only[Ab1,Ae0];decide,[.m ⟨a.w⟩ t,.m ⟨#[]⟩ s.p,.m ⟨#[]⟩ s.p],.j ⟨_,rfl⟩<|.j ⟨_,rfl⟩<|.j ⟨_,rfl⟩ .p,_,Ab6 s.j rfl,rfl,rfl,0,rfl⟩
end
open PySem PySem.Spec PyProof.Rows
noncomputable def dS(a:List<|Str×V):HO:=.dK<|a.u λp=>(.inr p.1,p.2)
open PySem PySem.Spec PySem.Calls PySem.W PyProof.Rows
open PySem PySem.Spec PySem.Calls PyProof.Rows
noncomputable def Cx.fN (X:Cx)(x:Addr):Cx:={X with A:=X.A.mark<|y0<|.j x,calm:=u9,xe:=λ_ _=>False}
section
variable{X:Cx}{u7:List<|Addr×Obj}{U:St}{H:Hp}{s:Shared}{x:Addr}
theorem Inv.fN (I:Inv X u7 U H s)(x:Addr):Inv (X.fN x) u7 U H s:=
 ⟨⟨I.j.mod,I.j.kind,I.j.glob,I.j.blt,I.j.above,I.j.inj,I.j.has,I.j.kY,(λz=>nomatch z),I.j.frames,I.j.fW,I.j.mx,I.j.bs,I.j.g6,I.j.fF,I.j.fH,I.j.cS,I.j.iI⟩,I.os,I.bare,I.u,I.loc,I.cell,I.free,I.bz,I.pin,I.aL,I.len⟩
def Inv.mD (ok:X.Ok)(I:Inv (X.fN x) u7 U H s):Inv X u7 U H s:=⟨ok,I.os,I.bare,I.u,I.loc,I.cell,I.free,I.bz,I.pin,I.aL,I.len⟩
end
open PySem PySem.Spec PySem.Calls PySem.W PyProof.Rows Builtin
def JJ:fillsNumberSlot (.p "tuple") "mul"=pure false:=rfl
def FR:seqRepeat? (.p "tuple")=pure (some<|.u "tuple.__mul__"):=rfl
def FJ(a)(t)(l)(items)(n)(d)(sl):
 Meets (Builtin.«int.__rmul__» ⟨[.o a t,.j l],[]⟩)<|λ_ R s=>s.j.p l=y0 {cls:=.p "tuple",dict:=d,data:=.j items n,slots:=sl}/\R (.ok<|.ret Value.notImplemented) s:=
 .of_wp λprog w A R s h=>by obtain⟨b,g,d,tk,e⟩:=s;obtain⟨c,h⟩:=h;wp_walk;exact⟨_,rfl,h⟩
def N1(l)(items)(n)(d)(sl)(u):
 Meets (Builtin.«tuple.__mul__» ⟨[.j l,.o 1 u],[]⟩)<|λ_ R s=>s.j.p l=y0 {cls:=.p "tuple",dict:=d,data:=.j items n,slots:=sl}/\R (.ok<|.ret<|.j l) s:=
 .of_wp λprog w A R s h=>by obtain⟨a,g,d,tk,c⟩:=s;obtain⟨b,h⟩:=h;wp_walk;exact⟨_,rfl,h⟩
def NT(l)(items)(n)(d)(sl)(x)(u:Tok)(h1:1<x)(h2:x<1001)(a:items.y=u9)(p:items.j*x.j<=sizeLine)(i:List.foldl (λM L=>M++L) #[] (Aa1 x.j items)=ys)(q:ys.j<=sizeLine):
 Meets (Builtin.«tuple.__mul__» ⟨[.j l,.o x u],[]⟩)<|λ_ R s=>s.j.p l=y0 {cls:=.p "tuple",dict:=d,data:=.j items n,slots:=sl}/\R (.ok<|.ret<|Value.ref s.j.j.j) {s with heap:=s.j.u {cls:=Value.type "tuple",data:=Data.seq ys},toks:=s.p}:=
 .of_wp λprog w A R s h=>by
  obtain⟨o,g,d,tk,r⟩:=s;obtain⟨m,h⟩:=h;have b:(k8 (x< -(2^63))||k8 (x>=2^63))=false:=by rw[Am8];constructor<;>(apply Do;lia)
  have c:(items.y||x==1)=false:=by rw[a,RD];apply beq_eq_false_iff_ne.p;lia
  have j:(k8 (x<=0)||items.y)=false:=by rw[a,SI];apply Do;lia
  have f:¬((items.j:Int)*x>(2^63-1)/8):=by
   have e:((items.j*x.j:Nat):Int)=(items.j:Int)*x:=by rw[Am5,Ai5 YB]
   have:sizeLine<=(2^63-1)/8:=by decide
   lia
  have k:Tuple.tupleTooMany ((items.j:Int)*x)=false:=by
   unfold Tuple.tupleTooMany;have e:((items.j*x.j:Nat):Int)=(items.j:Int)*x:=by rw[Am5,Ai5 YB]
   apply Do;lia
  wp_walk
  rw[Fk<|by rw[b];exact Ab0]
  wp_walk
  rw[Fk<|by rw[c];exact Ab0,Fk<|by rw[j];exact Ab0,Fk f,Fk<|by simp_all];rw[i]
  wp_walk
  exact⟨_,rfl,h⟩
def L5(K:Frag):R2:=λx y H Q=>∃l k xs,x=.j l/\y=.int k/\cC K H l xs/\xs≠[]/\1<=k/\k<1001/\xs.e*k.j<=sizeLine/\(k=1->Q (.j l) H)/\(1<k->∀p,H p=u0->Q (.j p) (aG H p<|.tup (Aa1 k.j xs).L))
theorem Az(its):∀m (a:List Value),List.foldl (λM L=>M++L) a.w (Aa1 m its.w)=(a++(Aa1 m its).L).w
|0,a=>by simp
|m+1,a=>by rw[Ac4,Af3,List.append_toArray,Az its m,Ac4,Ag7,Af8]
theorem sN(r:Vals xs us):∀m:Nat,Vals (Aa1 m xs).L (Aa1 m us).L
|0=>.p
|m+1=>by exact r.append<|sN r m
def Bw:b7 X (binaryOp .Mult)<|L5 X.K:=by
 intro j s U H x y v u Q I D B h;obtain⟨l,k,i,rfl,rfl,o,w,M,z,m,C,A⟩:=h;cases D;obtain⟨t,rfl⟩:=B;obtain⟨a,r,K,_⟩:=I.tuple o;obtain⟨⟨p,dd,f,sl⟩,d,F,n,G⟩:=id K;subst F G;have L:=r.e;refine Py rfl ⟨_,d,rfl⟩ (λJ=>Pv J k t) JJ PySem.F.fills_int_mul Ro FR PySem.F.slot_int_index.j
 <|OR Ro (Pv s k t) PySem.F.entry_int_rmul (PySem.F.args_int_rmul_2 _ _) (FJ k t l a.w n dd sl) ⟨d,rfl,⟨_,d,rfl⟩,?_⟩
 by_cases E:k=1
 .subst E;exact OR Rh ⟨_,d,rfl⟩ PU (PK _ _) (N1 l a.w n dd sl t) ⟨d,.j l,H,I,rfl,C rfl⟩
 .have e:=Az a k.j [];rw[Ah7]at e;have g:=sN r k.j;have c:(Aa1 k.j i).L.e=i.e*k.j:=by simp[R3]
  refine OR Rh ⟨_,d,rfl⟩ PU (PK _ _) (NT l a.w n dd sl k t YB z ?_ (by simp_all) e<|by rw[Ac,←g.e,c];exact m) ⟨d,?_⟩
  .cases a with
|nil=>exact absurd (r.dc.j rfl) w
|cons _ _=>rfl
  .refine⟨.j s.j.j.j,_,I.laid (λb N q=>Aa3 _ q) (Aa4 _) ?_,rfl,A YB _<|I.aL.fresh<|Aa4 _⟩;exact⟨by rw[c];exact m,_,g,dg.new _ _⟩
section
variable{prog:Program}{w:World}{A:Around}{E:Value->Shared->Prop}{s:Shared}
abbrev ID(h:Heap)(z TI TO:Addr)(a:Value)(b:Bool):Prop:=h.p z=some {cls:=.p "zip",dict:=none,data:=.p #[a,.y b,.y false,.j TI,.j TO],slots:=#[]}
structure Og(h:Heap)(z TI TO i1 i2 l1 l2:Addr)(xs ys:Array Value)(i:Nat)(f0:Value)(b:Bool):Prop where
 z:ID h z TI TO f0 b
 ti:IsPair h TI (.j i1)<|.j i2
 to:∃a b,IsPair h TO a b
 i1:h.IsTupleIter i1 l1 i
 i2:h.IsTupleIter i2 l2 i
 l1:h.IsTuple l1 xs
 l2:h.IsTuple l2 ys
variable{z TI TO i1 i2 l1 l2:Addr}{xs ys:Array Value}{x y:Value}{i:Nat}
end
def QQ:entryFor table "proto.unchain"=some Builtin.«proto.unchain»:=entryFor_of_fast<|by kernel_rfl
def N9:plainId "proto.unchain"=true:=by decide+kernel
section
variable{prog:Program}{w:World}{A:Around}{E:Value->Shared->Prop}{s:Shared}{x e:Addr}{ox oe:Obj}{vs us:Array Value}
def zx(hh:A.j=y0 (.j x))(c:s.j.p x=y0 ox)(d:ox.j=.p vs)(h2:vs[2]?=y0 .w)(ne:x≠e)(f:s.j.p e=y0 oe)(a:oe.j=.p us)(b:2<us.j)
 (h:E (.j e) {s with heap:=s.j.w e (Obj.mapFields (·.u 2<|.j x))}):wpAny (model prog w) A (raiseNew<|.j e:Sem α) Q E s:=by
 refine AC<|wpAny_handled ?_;rw[hh];dsimp only;rw[Da<|show _=k9 by simp[ne]];refine AC<|Ol<|Rn<|OJ QQ ?_;refine AC<|O5 c d h2 ?_
 wp_walk
 rw[a];dsimp only;rw[Da b];exact wpAny_update f<|wpAny_throw h
end
noncomputable def FF(C t:Addr)(a:Option Addr)(x:Addr):Obj:={cls:=.j C,dict:=a,data:=.p #[.j t,.w,.j x,.w,.y k9,.w]}
def MB{prog:Program}{w:World}{A:Around}{E:Value->Shared->Prop}{s:Shared}{env:Env}{v:Sem Value}{K:Frag}{C x:Addr}{k:Nat}{p pos:Pos}{Q:Flow->Shared->Prop}(F:xX K C=k9)(hh:A.j=y0 (.j x))
 (h:wpAny (model prog w) A v (λv L=>∃e t M ox vs,v=.j e/\K.In L.j/\L.j.p e=y0 (fV C t M)/\L.j.p x=y0 ox/\ox.j=.p vs/\vs[2]?=y0 .w/\x≠e/\C≠e∧
   ∀h',(∀b o,b≠e->L.j.p b=y0 o->h'.p b=y0 o)->h'.p e=y0 (FF C t M x)->E (.j e) {L with heap:=h'}) E s):wpAny (model prog w) A (raiseStmt env (y0 v)<|y0<|do let v←eval (.y .w k p) env;standAt pos;pure v) Q E s:=by
 unfold raiseStmt;refine AC<|Om h (λv L D=>?_) λ_ _ x=>x;obtain⟨e,t,M,ox,vs,rfl,X,H,r,G,y,ne,O,J⟩:=D;obtain⟨n,U,Z,V,bs,u,R,sub,ab,q,dd,W,N,P,S,k5,i,-,-,T⟩:=Jr X F;have f:(Value.ref C::n).p (.p "BaseException")=true:=by rw[OU,T.hasType PySem.F.excBase_ValueError.hasBase,An7]
 have a:L.j.p e=y0 {cls:=.j C,dict:=M,data:=.p #[.j t,.w,.w,.w,.y u9,.w]}:=H;obtain⟨l,g,d,tk,Y⟩:=L;refine AC<|Ol<|AC<|wpAny_Constant_none<|AC<|OC<|FS<|AC<|FS ?_
 repeat (first|with_reducible refine OB a ?_|with_reducible refine OB i ?_|(with_reducible refine Ph i ?_;rw[f])|wp_step)
 have B:=Ag1 (Obj.mapFields (·.u 3 Value.none)) a rfl;have m:=Ag1 (Obj.mapFields (·.u 4<|Value.bool k9)) B rfl;have I:=Ag1 (Obj.mapFields (·.u 2<|Value.ref x)) m rfl;have j:∀b o,b≠e->l.p b=y0 o->((l.w e (Obj.mapFields (·.u 3 Value.none))).w e (Obj.mapFields (·.u 4<|Value.bool k9))).p b=y0 o:=λb o c z=>by rw[Ae7 _ _<|Ne.symm c,Ae7 _ _<|Ne.symm c];exact z
 exact zx hh (j x ox ne r) G y ne m rfl YC<|J _ (λb o c z=>by rw[Ae7 _ _<|Ne.symm c];exact j b o c z) I
section
variable{X:Cx}{u7:List<|Addr×Obj}{U:St}{H:Hp}{s:Shared}
def Inv.left (I:Inv X u7 U H s)(d:H e=y0 (.ext φ))(k:∀b u,b≠e->s.j.p b=y0 u->h'.p b=y0 u)(z:h'.p e=y0 o):Inv X u7 U (g5 H e) {s with heap:=h'}:=by
 have f:=I.write (o:=.ext λh=>h.p e=y0 o) (t':=s.p) (by rw[d];exact True.intro) (.p rfl) k ⟨_,z⟩ ⟨z,⟨_,z⟩,λ_ _ z k=>k _ z⟩;have c:=f.forget Wa;have eq:g5 (aG H e<|.ext λh=>h.p e=y0 o) e=g5 H e:=by
  funext b;by_cases a:b=e
  .rw[a,QC,QC]
  .rw[qS a,qS a,Qa a]
 rw[eq]at c;exact c
def Inv.twice (I:Inv X u7 U (aG H dx<|.xd [p]) s):Inv X u7 U (aG H dx<|.xd [p,p]) s:=by
 have ne:∀b o,aG H dx (.xd [p]) b=y0 o->(∀fs,o≠.xd fs)->aG H dx (.xd [p,p]) b=y0 o:=λb o q n=>by
  by_cases d:b=dx
  .rw[d,Wa]at q;cases q;exact absurd rfl<|n _
  .rw[Qa d]at q⊢;exact q
 have nn:∀b,aG H dx (.xd [p]) b=u0->aG H dx (.xd [p,p]) b=none:=λb q=>by
  by_cases d:b=dx
  .rw[d,Wa]at q;cases q
  .rw[Qa d]at q⊢;exact q
 refine⟨I.j,I.os,I.bare,⟨I.u.keep,I.u.slot,λb u e n i=>nn b<|I.u.free b u e n i,I.u.there,λb g q=>ne b _ (I.u.cL b g q) (λ_ z=>by cases z),λb u v q=>ne b _ (I.u.cA b u v q) (λ_ z=>by cases z),λb r q=>?_⟩,
  I.loc,I.cell,nn _ I.free,λy c q=>nn _<|I.bz y c q,λp h=>?_,λb u q=>?_,I.len⟩
 .obtain⟨more,k⟩:=I.u.cH b r q;exact⟨more,ne b _ k<|λ_ z=>by cases z⟩
 .obtain⟨l,a2,a3⟩:=I.pin p h;exact⟨l,nn _ a2,a3⟩
 .by_cases d:b=dx
  .rw[d,Wa]at q;cases q;obtain⟨j,z1,m⟩:=I.aL dx _ Wa;refine⟨j,by rw[d];exact z1,λf=>?_⟩;have:=m f;obtain⟨a,b⟩:=p;simp[Ag9]at this⊢;cases q:f==a<;>rw[q]at this<;>exact this
  .rw[Qa d]at q;exact(I.aL b u<|by rw[Qa d];exact q).cK (λ_ _ _ z=>z) (λc z=>ne c _ z<|λ_ z=>by cases z) λc g z=>ne c _ z<|λ_ z=>by cases z
end
section
variable{prog:Program}{w:World}{A:Around}{E:Value->Shared->Prop}{s:Shared}{x t:Addr}{ox:Obj}{vx:Array Value}
def K3(hh:A.j=y0 (.j x))(q:s.j.p x=y0 ox)(f:ox.j=.p vx)(h2:vx[2]?=y0 .w)(d:x≠it)
 (c:s.j.IsTupleIter it t i)(v:s.j.IsTuple t items)(h:items[i]?=u0)
 (y:∀h',Heap.ExtBut it s.j h'->Q u0 {s with heap:=h'}):wpAny (model prog w) A (pyNext<|.j it) Q E s:=by
 obtain⟨o,l,D,p⟩:=id c;obtain⟨C,e,_,B,j⟩:=v;unfold pyNext;refine AC<|Pm<|OZ (name:=Str.ofString "__next__") c.typeIs O9
 <|O8 O9 c.typeIs PySem.F.entry_tuple_iterator_next ?_<|PySem.F.args_tuple_iterator_next_1 _
 show wpAny _ _ (field (.j it) 0>>=_) _ _ s;refine AC<|O5 l p (x:=.j t) rfl ?_;show wpAny _ _ _ _ _ s;rw[Fk<|show¬((Value.ref t==Value.none)=k9)from Ab0];show wpAny _ _ _ _ _ s;refine AC<|O5 l p (x:=.o i 0) rfl ?_;show wpAny _ _ _ _ _ s;refine AC<|wpAny_seqItems e j ?_;simp only[Af1,h];refine AC<|wpAny_rule<|AC<|wpAny_setField l p YC ?_;show wpAny _ _ _ _ _ _;refine AC ?_;simp only[newExc,newTuple];refine AC<|O1 ?_ (by size_fits);refine AC (m:=firstArgMember _ _)<|Pi (a:=Value.none) (by first|rfl|(simp only[firstArgMember];rfl)) ?_;refine O1 ?_ (by size_fits);have g:∀b u,b≠it->s.j.p b=some u->((s.j.w it (Obj.mapFields (·.u 0 Value.none))).u {cls:=.p "tuple",data:=.j ([]:List Value).w}).p b=some u:=fun b u n z=>Aa3 _ (by rw[Heap.get?_update_other _ _<|Ne.symm n];exact z);have k:=Ab3<|g x ox d q;refine zx (x:=x) (ox:=ox) (vs:=vx) hh (Aa3 _<|g x ox d q) f h2 (Ab7 k) (Ab6 _ rfl) rfl (by simp;exact L2 _ _) ?_;refine AC<|wpAny_isInstance (T:="StopIteration") (b:=true) ⟨_,Heap.get?_update_self _ (Ab6 _ rfl) rfl,rfl⟩ isSubtype_stop ?_;refine FS<|y _ λb u n z=>?_;have r:=g b u n z;rw[Ae7 _ _<|Am3<|Ab3 r];exact Aa3 _ r
def KR(hh:A.j=y0 (.j x))(m:s.j.p x=y0 ox)(l:ox.j=.p vx)(h2:vx[2]?=y0 .w)(g:s.j.IsTuple t items)
 (q:∀h',Heap.ExtBut s.j.j.j s.j h'->Q items.p {s with heap:=h'}):wpAny (model prog w) A (unpackItems (.j t) items.j u0) Q E s:=by
 have h:t≠s.j.j.j:=by obtain⟨o,r,_⟩:=g;exact Ab7<|Ab3 r
 have k:=Ab7<|Ab3 m;refine AC ?_;refine AC<|wpAny_specialOf g.typeIs PySem.F.slot_tuple_iter.j ?_;refine FS ?_;refine AC<|Ol<|R1 g ?_;refine AC<|Ol<|wpAny_draw_tuple h items.j 0 _ _ ⟨_,Ab6 _ rfl,rfl,rfl⟩ (g.push _) YB λn c a=>?_;have j:List.take items.j (List.drop 0 items.p)=items.p:=by rw[An];exact Ah5 YC
 rw[j,Fk YC];have d:=(g.push _).extBut a.extBut h;refine AC<|Ol<|K3 hh (a.extBut x ox k<|Aa3 _ m) l h2 k c d YC λi f=>?_;exact FS<|q i λb o p e=>f b o p<|a.extBut b o p<|Aa3 _ e
end
def lg(X:Cx):Prop:=∃x ox vx,X.A.j=y0 (.j x)/\ox.j=.p vx/\vx[2]?=y0 .w/\∀u7 U H s,Inv X u7 U H s->s.j.p x=y0 ox
def Fb(D:lg X)(h:kM X es t)
 (z:(assignEach es X.j).e=n:=by rfl)(g:(assignEach es X.j).findIdx? (·.1)=none:=by rfl):PG X (.G es k pos)<|vZ X.K n t:=by
 intro c s U H v u Q I r d;obtain⟨a,p,A,w,j,d⟩:=d;subst A;cases r;obtain⟨f,rv,i,F⟩:=I.tuple w;obtain⟨x,J,G,C,q,E,y⟩:=D;refine AC<|OC ?_;unfold unpack;rw[show(assignEach es X.j).e=f.w.j by simp[z,←j,rv.e],g];refine AC<|Ol<|KR C (y c U H s I) q E i λB m=>?_;have l:Inv X c U H {s with heap:=B}:=I.kept λb o e=>m b o (Ab7<|Ab3 e) e;exact h c _ U H p _ Q l (by simp_all) d
def mE(A:Around)(a:List Env)(s:Shared)(H:Hp):Prop:=∃x ox vx,A.j=y0 (.j x)/\ox.j=.p vx/\vx[2]?=y0 .w/\s.j.p x=y0 ox/\H x=u0/\x∉bM a
structure lq(P:Program)(w:World)(K:Frag)(mg:Str->Option Value)(base:Heap)(CX:gm)(k:Nat)(f:Addr)(fd:FuncData)(ps:List Str)(sp:Sp):Prop where
 len:∀vs H Q E,sp vs H Q E->vs.e=ps.e
 run:∀(A:Around)(outer:List Env)(s:Shared)(H:Hp)(args:Args)(us:List Value)(vs:List V)(Q:VK)(E:XK),aM k A->dQ P w K mg base A outer s H->mE A outer s H->BindsTo s fd args (ps.Z us)->Vals vs us->sp vs H Q E→
  codeAny (model P w) A (.call (.j f) args) (CR CX outer P w H s Q E) s
def CW{K:Frag}(h:mE A outer s H):lg<|Ju CX P w K mg base N k6 scope f cd A outer s H E:=by obtain⟨x,b,j,c,i,g,e,d,k⟩:=h;exact⟨x,b,j,c,i,g,λa U H s I=>I.u.keep x b e d k<|by show x∉[];simp⟩
def EG{K:Frag}{G kV h D a B W:Value}
 (Z:K.j f=y0 ⟨W,od,.func<|Al7 name k6 params body scope G kV h D an a B,osl⟩)(p:PySem.W.codeIn K a k6=k9)(S:qt N ps scope)
 (len:∀vs H Q E,sp vs H Q E->vs.e=ps.e)
 (d:∀A outer s H vs Q E,aM k (A.p<|envOfC k6 scope s.j.j.j f a)->mE A outer s H->sp vs H Q E→
   ∃t,cV (Ju CX P w K mg base N k6 scope f a A outer s H E) body t/\t {nx:=λ_ H'=>Q .aj H',rt:=Q} (xC N vs) H):
 lq P w K mg base CX (k+1) f (Al7 name k6 params body scope G kV h D an a B) ps sp:=by
 refine⟨len,λA outer s H F O vs Q E M i Y hb r j=>?_⟩;have U:=len _ _ _ _ j;have L:=i.mod.eZ.keeps λb o e=>(i.bs b o e).1;have m:=i.mod.nolimit.keeps λb o e=>(i.bs b o e).1;have c:∀y∈ps.Z O,scope.j.j y.1=y0 .local\/(scope.j.j y.1=y0 .y/\((cellsFrom (s.j.j.j+1) scope.j []).j y.1).w=k9):=by
  rintro⟨n,v⟩ hy;obtain q|q:=S.par n (Am1 hy).1
  .exact .p q
  .exact .u ⟨q,Ai7 _ _ _<|.p q⟩
 refine Rl M.depth (L _ _ Z) rfl S.co S.gen rfl (RW L p)<|hb _ _ _ _ ?_;refine Pl S.kind c λenv he C x=>?_;subst he;refine⟨m.keeps x.toInCall.keep,codeAny_func ?_⟩;obtain⟨t,R,X⟩:=d A outer s H vs Q E (M.deeper _) Y j;have I:Inv (Ju CX P w K mg base N k6 scope f a A outer s H E) [] _ H C:=WV S i U r x;refine Om (R [] C _ H _ I X) (λT z g=>?_) λe z g=>g;have fin:∀{l}{H'}{v}{u},Inv (Ju CX P w K mg base N k6 scope f a A outer s H E) [] l H' z->RelV v u->Q v H'->CE outer P w H s Q u z:=
  λ{l H' v u} J rv q=>⟨v,H',J.os,J.bare,J.u,J.aL,rv,q⟩
 cases T with
|ret u=>obtain⟨v,l,H',J,rv,q⟩:=g;exact fin J rv q
|next=>obtain⟨l,H',J,q⟩:=g;exact fin (v:=V.aj) J rfl q
|brk=>obtain⟨_,_,_,q⟩:=g;exact False.elim q
|cont=>obtain⟨_,_,_,q⟩:=g;exact False.elim q
def gH.Nr {K:Frag}{st:Stmt}(F:gH K x k6 st f fd)(S:qt N ps<|Xe st)(len:∀vs H Q E,sp vs H Q E->vs.e=ps.e)
 (a:∀L A outer s H vs Q E,aM k (A.p<|envOfC k6 (Xe st) s.j.j.j f L)->mE A outer s H->sp vs H Q E→
   ∃t,cV (Ju (bO P w) P w K mg base N k6 (Xe st) f L A outer s H E) (zw st) t/\t {nx:=λ_ H'=>Q .aj H',rt:=Q} (xC N vs) H):lq P w K mg base (bO P w) (k+1) f fd ps sp:=by
 obtain⟨n,m,kV,d,l,o,L,j,i,rfl,h,b⟩:=F.ex;exact EG h b S len λA outer s H vs Q E e g c=>a L A outer s H vs Q E e g c
def iQ(X:Cx)(a:Addr)(e:Expr)(t:TA):Prop:=∀(ox:Obj)(vx:Array Value)(b:Pos)(u7:List<|Addr×Obj)(s:Shared)(U:St)(H:Hp)(Q:List V->Hp->Prop),Inv X ((a,ox)::u7) U H s->ox.j=.p vx->vx[2]?=y0 .w->t U H Q→
 wpAny (model X.p X.w) X.A (spliced<|backTo b<|starEach [e] X.j) (λus c=>∃vs H1,Inv X ((a,ox)::u7) U H1 c/\Vals vs us/\Q vs H1) X.xe s
def iQ.imp (h:iQ X xa e t)(k:∀U H Q,t' U H Q->t U H Q):iQ X xa e t':=λg f d c s U H Q I a b q=>h g f d c s U H Q I a b<|k _ _ _ q
def Dm{X:Cx}{d f:Addr}{w:FuncData}{v:List Str}{A:Sp}{k:Nat}{fx:Str}{p a:Pos}{e:Expr}{es:List Expr}{t:TA}(hh:X.A.j=y0 (.j d))(l:X.B=X.j::X.y)(Z:X.j.frame=y0 X.j.p)
 (F:lq X.p X.w X.K X.mg X.base (bO X.p X.w) k f w v A)(T:aM k X.A)(G:Gl X fx)(L:X.mg fx=some (.j f))(V:keepIn X.K (.j f)=true)(W:Binds X.K w v [])(R:PA X (e::es) t)(o:(fx==("__debug__":Str))=false)
 (Y:starEach (e::es) X.j=(u9,eval e X.j)::starEach es X.j)(j:(backTo a<|starEach es X.j).G (·.1)=u9)(N:starEach [.u (.j fx p) (e::es) [] a] X.j=(u9,eval (.u (.j fx p) (e::es) [] a) X.j)::starEach [] X.j):
 iQ X d (.u (.j fx p) (e::es) [] a)<|λU H Q=>t U H λvs H1=>A vs H1 (λy H2=>Q [y] H2) λ_ _ _=>False:=by
 intro B vx m x s U H Q I n D h;rw[N];show wpAny _ _ (spliced<|(u9,eval (.u (.j fx p) (e::es) [] a) X.j)::backTo m (starEach [] X.j)) _ _ s;refine Pk<|Oq<|Zo I G L ?_ o;refine callWith_K (h₀:=X.base) I.j.mod.eZ V (aJ (R a _ s U H _ I h) ?_) Y j;rintro g i⟨vs,H1,b,r,q⟩;refine⟨b.bE,?_⟩;have E:(g++[]).e=v.e:=by rw[Ac7,←r.e];exact F.len _ _ _ _ q
 obtain⟨p1,M,p3,J,_⟩:=b.pin (d,B)<|Aa8 _ Aa;have S:mE X.A X.B i H1:=⟨d,B,vx,hh,n,D,p1,M,λz=>by
  rw[l]at z;rcases Aa6.j (show d∈X.j.p::bM X.y by unfold bM at z;rw[Ah3,Z]at z;exact z)with z|z
  .exact p3 z
  .exact J z⟩
 refine OM<|Ow (F.run X.A X.B i H1 ⟨g,[]⟩ (g++[]) vs _ _ T b.eM S (W i g b.bE E) (by rw[Ac7];exact r) q) λres s' c=>?_;cases res with
|ok K=>
  cases K with
 |ret u=>obtain⟨y,H2,C,P,O⟩:=b.after c;exact Pr ⟨[y],H2,C,.j P .p,O⟩
 |next=>exact False.elim c
 |brk=>exact False.elim c
 |cont=>exact False.elim c
|error ev=>obtain⟨_,_,_,_,_,_,_,_,_,_,_,_,_,_,_,z⟩:=c;exact z.j
def eW(K:Frag)(W e:Addr)(b:Str)(E:XK)(t:TA)(U:St):XK:=λa d H2=>∃C,a=.j C/\hH K C/\kitCls K (.j C) (.j W)=y0 k9/\nI d H2∧
 t U H2 λvs c=>∃v,vs=[v]/\∀dx,c dx=u0->E (.j e) (y0 dx) (aG c dx<|.xd [(b,v),(b,v)])
def nh(X:Cx)(E:XK)(e:Addr)(c:Str)(t:TA)(b:List Stmt):Prop:=∀(a:Addr)(ox:Obj)(vs:Array Value)(u7:List<|Addr×Obj)(U:St)(H:Hp)(s:Shared)(Q:Flow->Shared->Prop),Inv X ((a,ox)::u7) U H s->ox.j=.p vs->vs[2]?=y0 .w→
 (t U H λvs d=>∃v,vs=[v]/\∀dx,d dx=u0->E (.j e) (y0 dx) (aG d dx<|.xd [(c,v),(c,v)]))->wpAny (model X.p X.w) (X.A.mark<|y0<|.j a) (execs b X.j) Q X.xe s
def BN{X:Cx}{E:XK}{d:List<|Addr×Obj}{W C2:Addr}{J F:Str}{wq y:Pos}{b:List Stmt}{t:TA}{U:St}{H1:Hp}{V s':Shared}{I:Value}{Q:Flow->Shared->Prop}
 (c:X.B=X.j::X.y)(hf:X.j.frame=some X.j.p)(hex:X.ex=[])(hW:Gl X J)(Y:X.mg J=some (.j W))(hbW:mroIn X.K W (.p "BaseException")=some true)
 (hdW:(J==("__debug__":Str))=false)(hb:b≠[])(hS:nh X E C2 F t b)(pat:∀hd,PassesOwnAt (model X.p X.w) (X.A.mark hd) X.A X.j X.xe)
 (n:Inv X d U H1 V)(hq:bO X.p X.w X.B H1 V (eW X.K W C2 F E t U) I s'):
 wpAny (model X.p X.w) X.A (noteFrame I X.j) (λ_ s2=>wpAny (model X.p X.w) X.A (setFlight I u0) (λ_ s3=>wpAny (model X.p X.w) X.A (handleBy I X.j [.j (y0<|.j J wq) u0 b y]) Q X.xe s3) X.xe s2) X.xe s':=by
 obtain⟨b0,b,rfl⟩:=Pp hb;obtain⟨x,C0,tt,B,H,od,rfl,os,g,F,un,i,comp,new,K,C,hC,Z,kc,cl,q2⟩:=hq;cases hC;have hfr:X.A.frames=y0 (X.j::X.y):=by rw[←c];exact n.j.frames
 have fl0:Ah8 B (X.j::X.y) x (.j C0) (.j tt) s'.j:=by rw[←c];exact F
 refine jA (R:=λr=>Heap.HeldW B _ x _ _ X.j.p r/\s'.j.y r) (X4 _ _) (λQ' k=>Sz hfr hf fl0 λr a b=>k r ⟨a,b⟩) ?_;rintro r ⟨D,A⟩ dk4;refine jA (R:=λj=>Ah8 B _ x _ _ j/\r.y j) (Qs _ _) (λQ' k=>wpAny_landsW D λj a b=>k j ⟨a,b⟩) ?_;rintro j ⟨h,G⟩ L;have s:=xG n os g un i comp (by rw[c];exact h)<|A.trans G;have M:ExcAt j x C0:=h.there;refine RL (Rm<|OL s.j.kind hW (OX (by rw[s.j.glob];exact s.mod.glob.keeps s.bk) Y ?_) hdW)<|λz=>nomatch z;refine qH s.bE M kc hbW ?_;refine codeAny_handlers_suite ?_;refine jA (R:=λl=>Ah8 B _ x _ _ l/\j.y l) (Qs _ _) (λQ' k=>lands_againW h λl a b=>k l ⟨a,b⟩) ?_;rintro l ⟨N,sm6⟩ dk6;have I6:=xG n os g un i comp (by rw[c];exact N)<|(A.trans G).trans sm6;have S:H x=none:=by
  cases z:H x with
|none=>rfl
|some u=>
   obtain⟨o,e1⟩:=(i x u z).there;have nf:x∉bM X.B:=λhx=>by obtain⟨_,o2,w,_⟩:=n.stack.mem hx;rw[new]at w;cases w
   have e3:=comp x o e1 (.p ⟨u,z⟩) nf;rw[F.2.1]at e3;cases e3
 have f:∀b o,V.j.p b=y0 o->b≠x:=λb o z e=>by rw[e,new]at z;cases z
 obtain⟨T,P,e6,d6,z6⟩:=(K.2 cl).dk<|(dk4.trans L).trans dk6;have I7:Inv X ((x,T)::d) U H {s' with heap:=l}:=I6.bP λp y=>by
  obtain rfl|y:=Aa6.j y
  .refine⟨e6,S,λz=>?_,λz=>?_,λv q=>by rw[show T.j=_ from d6]at q;cases q⟩
   .obtain⟨m,⟨o,_,_,ho,_⟩,_⟩:=n.loc;exact f _ o ho z.j
   .have:x∈bM X.B:=by rw[c];exact Ai9.p<|by obtain⟨O,h1,h2⟩:=Ai9.j z;exact⟨O,Aa0 _ h1,h2⟩
    obtain⟨_,o2,w,_⟩:=n.stack.mem this;rw[new]at w;cases w
  .exact I6.pin p<|Aa8 _ y
 exact wpAny_passesOwnAt (pat _)<|hS x T P d U H _ _ I7 d6 z6 q2
def Ft(K:Frag)(W a:Addr)(c:Str)(E:XK)(d:TA)(b:Sp)(t:TA):TS:=λD U H=>t U H λvs H1=>b vs H1 (λy H2=>D.rt y H2)<|eW K W a c E d U
def Nq{X:Cx}{E:XK}{k:Nat}{f W M:Addr}{K:FuncData}{G:List Str}{N:Sp}{fx i g:Str}{p l rp wq S pos:Pos}{e:Expr}{es:List Expr}{t L:TA}{b:List Stmt}
 (o:X.B=X.j::X.y)(hf:X.j.frame=some X.j.p)(n:X.ex=[])(Z:Gl X i)(w:X.mg i=some (.j W))(A:mroIn X.K W (.p "BaseException")=some true)
 (x:(i==("__debug__":Str))=false)(hb:b≠[])(R:nh X E M g L b)(C:∀hd,PassesOwnAt (model X.p X.w) (X.A.mark hd) X.A X.j X.xe)
 (F:bj X.p X.w X.K X.mg X.base (bO X.p X.w) k f K G N)(hr:aM k X.A)(P:Gl X fx)(V:X.mg fx=y0 (.j f))
 (hk:keepIn X.K (.j f)=true)(v:Binds X.K K G [])(ha:PA (X.cu λ_ _=>False) (e::es) t)(B:(fx==("__debug__":Str))=false)(he:starEach (e::es) X.j=(false,eval e X.j)::starEach es X.j)(m:(backTo l<|starEach es X.j).G (·.1)=false):
 PS X (.Try [.Return (y0<|.u (.j fx p) (e::es) [] l) rp] [.j (y0<|.j i wq) u0 b S] [] [] pos)<|Ft X.K W M g E L N t:=by
 intro c s U H D I h;refine Sq<|OO<|R7 ?_;refine Oq<|Zo I P V ?_ B;refine callWith_K (h₀:=X.base) I.j.mod.eZ hk (Om (ha l c s U H _ (I.cu _) h) ?_ λ_ _ z=>False.elim z) he m;rintro j J⟨T,H1,a,r,q⟩;refine⟨a.bE,?_⟩;have a:=a.bS;have Q:(j++[]).e=G.e:=by rw[Ac7,←r.e];exact F.len _ _ _ _ q
 refine OM<|Ow (F.run X.A X.B J H1 ⟨j,[]⟩ _ T _ _ hr a.eM (v J j a.bE Q) (by simp_all) q) λres s' d=>?_;cases res with
|ok g=>
  cases g with
 |ret u=>obtain⟨y,H2,O,ry,Y⟩:=a.after d;exact⟨y,U,H2,O,ry,Y⟩
 |next=>exact False.elim d
 |brk=>exact False.elim d
 |cont=>exact False.elim d
|error ev=>exact BN o hf n Z w A x hb R C a d
section
variable{P:Program}{w:World}{K:Frag}{mg:Str->Option Value}{base:Heap}{N:List Str}{k6:Str}{scope:Scope}{f:Addr}{cd:Value}{A:Around}{outer:List Env}{s:Shared}{H:Hp}{E:XK}
def Dp{x y:Str}{np a pos pc:Pos}{kc:Nat}{e:Expr}{t:TA}{C R:Addr}{fd:FuncData}{ps:List Str}(n:kW K C y)(hi:findIn K (.j C) "__init__"=some (some<|.j R))(Z:QN K y R fd ps)(hm:mg x=some (.j C))(hg:Gl (Ju (bO P w) P w K mg base N k6 scope f cd A outer s H E) x)
 (hr:∀G,aM 2<|(A.p<|envOfC k6 scope s.j.j.j f cd).mark G)(ha:∀L,iQ (((Ju (bO P w) P w K mg base N k6 scope f cd A outer s H E).cu λ_ _=>False).fN L) L e t)
 (he:starEach [e] (envOfC k6 scope s.j.j.j f cd)=(false,eval e<|envOfC k6 scope s.j.j.j f cd)::starEach [] (envOfC k6 scope s.j.j.j f cd):=by rfl)(G:(x==("__debug__":Str))=false:=by decide):
 nh (Ju (bO P w) P w K mg base N k6 scope f cd A outer s H E) E C y t [.p (y0<|.u (.j x np) [e] [] a) (y0<|.y .w kc pc) pos]:=by
 intro L l T d U H1 s1 Q I i J h;refine OO ?_;rw[arm_exec_Raise];have M:=(I.cu λ_ _=>False).fN L;refine AC<|OC<|MB n.cls rfl ?_;refine AC<|Om (Oq<|Zo M hg hm ?_ G) (λv s3 h3=>AC<|OC<|FS h3) λ_ _ x=>x;refine callWith_K (h₀:=base) I.j.mod.eZ n.kp (Om (ha L l T a d s1 U H1 _ M i J h) ?_ λ_ _ z=>False.elim z) he rfl;rintro X g⟨vs,H2,k,r,v,W,q⟩;refine⟨k.bE,?_⟩;subst W;obtain⟨u,rfl,D⟩:∃u,X=[u]/\RelV v u:=by
  cases r with
|cons D r2=>cases r2;exact⟨_,rfl,D⟩
 have m:=(k.mD (I.cu λ_ _=>False).j).bS;refine uJ n hi Z (hr _) m D (λ_ _ I=>((I.cu λ_ _=>False).fN L).eM) λs' F c z1 S=>?_;have b:H2 (g.j.j.j+1)=none:=m.aL.fresh<|Ac9 _;have B:=(c.pin (L,l)<|Aa8 _ Aa).1;have o:=(c.aL _ _ Wa).1;have ne:L≠g.j.j.j+1:=λz=>by have:=(c.pin (L,l)<|Aa8 _ Aa).2.1;rw[show(L,l).1=g.j.j.j+1 from z,Wa]at this;cases this
 have Y:C≠g.j.j.j+1:=λz=>by obtain⟨_,_,_,_,_,_,_,_,_,_,_,_,_,_,_,_,V,_⟩:=Jr m.bE n.cls;have lt:=Ab3 V;rw[z]at lt;exact Nat.not_succ_lt_self lt
 refine⟨_,g.j.j.j,y0 F,l,T,rfl,c.bE,o,B,i,J,ne,Y,λh' kp j=>?_⟩;have O:=c.left Wa kp j;rw[AB S b]at O;refine Xz O.twice j rfl rfl rfl rfl rfl (λz=>?_) (Am7<|Ac0 m.sz<|Ac9 _) ?_<|q F z1
 .obtain⟨p,z⟩:=z F rfl;rw[Wa]at z;cases z
 .rw[Qa<|Ne.symm S,b]
end
end Lake
set_option genSizeOfSpec false
namespace Lake.M
abbrev Tx:=List Nat
def yd:∃n:Nat,n=1000000:=⟨_,rfl⟩
noncomputable def bp:Nat:=Ai0 yd
def Gf:bp=1000000:=Ah yd
def AA:∃n:Int,n=1073741824:=⟨_,rfl⟩
noncomputable def m4:Int:=Ai0 AA
def Kj:m4=1073741824:=Ah AA
def tN:∃n:Int,n=2^62:=⟨_,rfl⟩
noncomputable def g9:Int:=Ai0 tN
def GJ:g9=2^62:=Ah tN
def AL:∃n:Int,n=2^64:=⟨_,rfl⟩
noncomputable def ek:Int:=Ai0 AL
def GV:ek=2^64:=Ah AL
def sP:∃n:Int,n=1000000:=⟨_,rfl⟩
noncomputable def BP:Int:=Ai0 sP
def Kv:BP=1000000:=Ah sP
def vr:∃n:Nat,n=2^64:=⟨_,rfl⟩
noncomputable def mW:Nat:=Ai0 vr
def GU:mW=2^64:=Ah vr
set_option genInjectivity true
inductive D where
|aj
|bl (b:Bool)
|int (i:Int)
|str (s:Tx)
|tup (xs:List D)
|lst (xs:List D)
|ref (r:Nat)
|exc (c:String)(fs:List<|Tx×D)
|err (c f:String)(d:D)
open M renaming D.str->Lake.M.D.m,D.int->Lake.M.D.o,D.ref->Lake.M.D.j,D.tup->Lake.M.D.p,D.lst->Lake.M.D.u,D.bl->Lake.M.D.C,D.err->Lake.M.D.y
inductive W where
|v (d:D)
|own (xs:List D)
|bor (xs:List D)
open M renaming W.own->Lake.M.W.j,W.bor->Lake.M.W.p
abbrev WK:=Int×List Int×List Int
inductive Cell where
|lst (xs:List D)
|kv (kvs:List<|Tx×D)
|obj (c:String)(fs:List<|String×D)
open M renaming Cell.lst->Lake.M.Cell.u
abbrev AH:=List Cell
abbrev Sl:=List<|Option W
inductive R(α:Type) where
|ok (a:α)(h:AH)
|exc (d:D)(h:AH)
|fail
open M renaming R.ok->Lake.M.R.j,R.fail->Lake.M.R.u,R.exc->Lake.M.R.w
noncomputable def R.bind {α b:Type}:R α->(α->AH->R b)->R b
|.j a h,f=>f a h
|.w d h,_=>.w d h
|.u,_=>.u
open M renaming R.bind->Lake.M.R.p
inductive O where
|next (Z:Sl)(h:AH)
|ret (w:W)(h:AH)
|brk (Z:Sl)(h:AH)
|cont (Z:Sl)(h:AH)
|exc (d:D)(h:AH)
|fail
open M renaming O.fail->Lake.M.O.u,O.ret->Lake.M.O.j,O.exc->Lake.M.O.w,O.next->Lake.M.O.p
noncomputable def O.seq:O->(Sl->AH->O)->O
|.p Z h,f=>f Z h
|o,_=>o
noncomputable def R.c5 {α:Type}:R α->(α->AH->O)->O
|.j a h,f=>f a h
|.w d h,_=>.w d h
|.u,_=>.u
section
variable{α β:Type}
@[simp]theorem R.ae (a)(h)(f:α->AH->R β):(R.ok a h).p f=f a h:=rfl
@[simp]theorem R.cD (d)(h)(f:α->AH->R β):(R.exc d h).p f=.w d h:=rfl
@[simp]theorem R.aF (a)(h)(f:α->AH->O):(R.ok a h).c5 f=f a h:=rfl
@[simp]theorem O.b3 (Z)(h)(f):(O.next Z h).seq f=f Z h:=rfl
@[simp]theorem O.fh (w)(h)(f):(O.ret w h).seq f=.j w h:=rfl
@[simp]theorem O.fk (d)(h)(f):(O.exc d h).seq f=.w d h:=rfl
end
set_option genInjectivity false
inductive Op where
|add|sub|mul|fdiv|mod|pow|shl|shr|band|bor|bxor
 deriving DecidableEq
open M renaming Op.add->Lake.M.Op.j
inductive Cp where
|eq|ne|lt|le|gt|ge|mem|br|oX|i5
 deriving DecidableEq
inductive Ty where
|aj|bool|int|str|list|tuple
 deriving DecidableEq
inductive Mt where
|join|starts|part
 deriving DecidableEq
inductive Bi where
|len|int|list|tuple|sum|all|any|sorted|divmod|str|min|max|abs
 deriving DecidableEq
open M renaming Bi.tuple->Lake.M.Bi.A
set_option genInjectivity false
mutual
inductive E where
|var (i:Nat)
|con (x:String)
|int (i:Int)
|bl (b:Bool)
|aj
|str (s:Tx)
|tup (es:Es)
|lst (es:Es)
|bin (o:Op)(a b:E)
|cmp (o:Cp)(a b:E)
|chain (o p:Cp)(a b c:E)
|cm (neg:Bool)(a:E)
|neg (a:E)
|not (a:E)
|and (a b:E)
|or (a b:E)
|call (f:String)(es:Es)
|bi (b:Bi)(es:Es)
|cN (a:E)(t:Ty)
|b9 (a:E)(one:Bool)(ts:List String)
|ix (a b:E)
|sl (a lo hi:E)
|d3 (a lo:E)
|d9 (a hi:E)
|rev (a:E)
|comp (tg:List Nat)(one:Bool)(k:Nat)(aB:List Nat)(it:It)(u5:Bool)(c elt:E)
|share (a:E)
|dH (a:E)
|dr (a:E)
|cJ (m:Mt)(a:E)(es:Es)
|fT (c:String)(a:E)
|eR (kvs:List<|Tx×Tx)(i:Nat)
|lh (kvs:List<|Tx×Tx)(a:E)
|eT (a:E)
|bV (a:E)
|xf (i:Nat)(f:String)
|make (c q:String)(es:Es)
|bY (a:E)(c f:String)
|aI (a:E)(c m q:String)(es:Es)
inductive Es where
|nil
|cons (e:E)(es:Es)
inductive It where
|seq (e:E)
|aQ (a:E)
|b6 (a b:E)
|rev (e:E)
|enum (e:E)
|cM (i:Nat)
|di (e:E)
end
set_option genInjectivity true
inductive Tb where
|ex (f:String)(es:Es)
|sv (i:Nat)(f:String)(es:Es)
|iff (c:E)(a b:Tb)
mutual
inductive S where
|set (i:Nat)(e:E)
|ag (i:Nat)(e:E)
|gk (is:List Nat)(e:E)
|ez (i:Nat)(k e:E)
|bH (o k e:E)
|app (i:Nat)(e:E)
|gz (a e:E)
|ex (e:E)
|ret (e:E)
|iff (c:E)(a b:Ss)
|e8 (n:Nat)(c:E)(b:Ss)
|for (tg:List Nat)(one:Bool)(it:It)(b:Ss)
|raise (c:String)(es:Es)
|gw (i:Nat)(f:String)(es:Es)(k:String)(nm iv:Nat)
|gs (f:String)(es:Es)(c k fl g:String)(es2:Es)
|b4 (i:Nat)(c f:String)(e:E)
|bC (c f:String)(e:E)
|ky
inductive Ss where
|nil
|cons (s:S)(ss:Ss)
end
noncomputable section
mutual
@[simp,reducible]noncomputable def Gp:D->Bool
|.j _=>u9
|.p xs=>Gi xs
|.u xs=>Gi xs
|.exc _ _=>u9
|.y _ _ _=>u9
|_=>k9
@[simp,reducible]noncomputable def Gi:List D->Bool
|[]=>k9
|x::xs=>Gp x&&Gi xs
end
mutual
@[simp,reducible]noncomputable def dep:D->Nat
|.p xs=>G8 xs+1
|.u xs=>G8 xs+1
|_=>0
@[simp,reducible]noncomputable def G8:List D->Nat
|[]=>0
|x::xs=>max (dep x)<|G8 xs
end
def Cell.pure:Cell->Bool
|.obj _ fs=>Gi (fs.u (·.2))
|_=>k9
def GE(h:AH):Bool:=h.N Cell.pure
@[simp,reducible]noncomputable def KH:D->D->Bool
|.u _,.u []=>k9
|.p _,.p []=>k9
|_,_=>u9
@[reducible]def GP(a b:D):Bool:=Gp a&&Gp b&&(k8 (dep a<150)||KH a b)
mutual
@[simp]noncomputable def res(h:AH):D->D
|.j r=>match h[r]? with
 |some (.u xs)=>.u xs
 |_=>.j r
|.p xs=>.p<|GZ h xs
|.u xs=>.u<|GZ h xs
|d=>d
@[simp]noncomputable def GZ(h:AH):List D->List D
|[]=>[]
|x::xs=>res h x::GZ h xs
end
mutual
@[simp]noncomputable def cW:D->D->Bool
|.aj,.aj=>k9
|.C a,.C b=>a==b
|.o i,.o j=>i==j
|.C a,.o j=>(a.j:Int)==j
|.o i,.C b=>i==(b.j:Int)
|.m s,.m t=>s==t
|.p xs,.p ys=>GN xs ys
|.u xs,.u ys=>GN xs ys
|_,_=>u9
@[simp]noncomputable def GN:List D->List D->Bool
|[],[]=>k9
|x::xs,y::ys=>cW x y&&GN xs ys
|_,_=>u9
end
noncomputable def c8(s:Tx):List D:=s.u λc=>.m [c]
noncomputable def W.d:W->Option D
|.v d=>y0 d
|.j xs=>y0<|.u xs
|.p _=>u0
noncomputable def W.arg:W->W
|.j xs=>.p xs
|w=>w
@[simp]theorem W.lW (d):(W.v d).arg=.v d:=rfl
@[simp]theorem W.hI (xs):(W.own xs).arg=.p xs:=rfl
@[simp]theorem W.ik (xs):(W.bor xs).arg=.p xs:=rfl
def W.dd (h:AH):W->D
|.v d=>res h d
|.j xs=>.u<|GZ h xs
|.p xs=>.u<|GZ h xs
open M renaming W.dd->Lake.M.W.w
noncomputable def W.bh (h:AH):W->Option (List D)
|.v (.u xs)=>y0 xs
|.j xs=>y0 xs
|.p xs=>y0 xs
|.v (.j r)=>match h[r]? with
 |some (.u xs)=>y0 xs
 |_=>u0
|_=>u0
noncomputable def W.seq? (h:AH):W->Option (List D)
|.v (.p xs)=>y0 xs
|.v (.u xs)=>y0 xs
|.j xs=>y0 xs
|.p xs=>y0 xs
|.v (.j r)=>match h[r]? with
 |some (.u xs)=>y0 xs
 |_=>u0
|_=>u0
noncomputable def R.of {α:Type}(h:AH):Option α->R α
|some a=>.j a h
|none=>.u
@[simp]noncomputable abbrev aC(d:D)(h:AH):R W:=.j (.v d) h
def Kb(h:AH):W->Option Bool
|.v .aj=>y0 u9
|.v (.C b)=>y0 b
|.v (.o i)=>y0<|i !=0
|.v (.m s)=>if s.e<=bp then y0 (!s.y)else u0
|.v (.p xs)=>y0<|!xs.y
|.v (.u xs)=>y0<|!xs.y
|.j xs=>y0<|!xs.y
|.p xs=>y0<|!xs.y
|_=>u0
@[simp]theorem R.af (h)(a:α):R.of h (y0 a)=.j a h:=rfl
@[simp]theorem W.eL (d):(W.v d).d=y0 d:=rfl
@[simp]theorem W.iU (xs):(W.own xs).d=y0 (.u xs):=rfl
@[simp]theorem W.E5 (h)(d):(W.v d).w h=res h d:=rfl
@[simp]theorem W.kH (h)(xs):(W.own xs).w h=.u (GZ h xs):=rfl
@[simp]theorem W.p6 (h)(xs):(W.bor xs).w h=.u (GZ h xs):=rfl
@[simp]theorem W.mr (h)(xs):(W.v<|.u xs).bh h=y0 xs:=rfl
@[simp]theorem W.hG (h)(xs):(W.own xs).bh h=y0 xs:=rfl
@[simp]theorem Gu(h)(b):Kb h (.v<|.C b)=y0 b:=rfl
noncomputable def E6(i j:Int):Option Int:=
 if 0<=i then(if 0<=j then y0 ((i.j&&&j.j:Nat):Int)else y0 ((i.j-(i.j&&&(-j-1).j):Nat):Int))else u0
noncomputable def HB(i j:Int):Option Int:=if 0<=i/\0<=j then y0 ((i.j|||j.j:Nat):Int)else u0
noncomputable def NW(i j:Int):Option Int:=if 0<=i/\0<=j then y0 ((i.j^^^j.j:Nat):Int)else u0
def Gj(o:Op)(i j:Int):Option Int:=match o with
|.j=>y0<|i+j
|.sub=>y0<|i-j
|.mul=>if(-(ek)<i/\i<ek)\/(-(ek)<j/\j<ek)then y0 (i*j)else u0
|.fdiv=>if 0<j/\j<m4 then y0 (i/j)else u0
|.mod=>if 0<j then y0 (i%j)else u0
|.pow=>if 0<=j/\j<=BP/\i.p<mW then y0 (i^j.j)else u0
|.shl=>if 0<=j/\j<=BP/\i.p<mW then y0 (i*2^j.j)else u0
|.shr=>if 0<=j then y0 (i/2^j.j)else u0
|.band=>E6 i j
|.bor=>HB i j
|.bxor=>NW i j
noncomputable def W.int?:W->Option Int
|.v (.o i)=>y0 i
|_=>u0
open M renaming W.int?->Lake.M.W.u
noncomputable def W.bc:W->Option Tx
|.v (.m s)=>y0 s
|_=>u0
noncomputable def W.ea:W->Option (List D)
|.v (.p s)=>y0 s
|_=>u0
def Ky(xs a:List D)(h:AH):R W:=if xs.e+a.e<=bp then .j (.j<|xs++a) h else .u
def Kr(xs:List D)(j:Int)(h:AH):R W:=if-1000<=j/\j<=1000/\xs.e*j.j<=bp then .j (.j (Aa1 j.j xs).L) h else .u
def KB(a b:W)(h:AH):R W:=match a.bc,b.bc with
|some s,y0 t=>if s.e+t.e<=bp then aC (.m<|s++t) h else .u
|_,_=>match a.ea,b.ea with
|some xs,y0 ys=>if xs.e+ys.e<=bp then aC (.p<|xs++ys) h else .u
|_,_=>match a.bh h,b.bh h with
|some xs,y0 ys=>Ky xs ys h
|_,_=>.u
noncomputable def W.iO (h:AH):W->Option (List D)
|.j xs=>y0 xs
|.p xs=>y0 xs
|.v (.j r)=>match h[r]? with
 |some (.u xs)=>y0 xs
 |_=>u0
|_=>u0
def KG(a b:W)(h:AH):R W:=match a.bc,b.u with
|some s,y0 j=>if 0<=j/\j<=1000/\s.e*j.j<=bp then aC (.m (Aa1 j.j s).L) h else .u
|_,_=>match a.iO h,b.u with
|some xs,y0 j=>Kr xs j h
|_,_=>match a.ea,b.u with
|some xs,y0 j=>if xs≠[]/\1<=j/\j<1001/\xs.e*j.j<=bp then aC (.p (Aa1 j.j xs).L) h else .u
|_,_=>.u
def GB(o:Op)(a b:W)(h:AH):R W:=match a.u,b.u with
|some i,y0 j=>(R.of h<|Gj o i j).p λk h=>aC (.o k) h
|_,_=>match o with
|.j=>KB a b h
|.mul=>KG a b h
|_=>.u
def inD(x:D)(xs:List D):Bool:=xs.G λy=>cW y x
@[simp,reducible]noncomputable def flat:D->Bool
|.aj=>k9
|.C _=>k9
|.o _=>k9
|.m _=>k9
|_=>u9
def KC(a b:W)(h:AH):Option Bool:=match b.w h with
|.u ys=>if Gp (a.w h)&&Gi ys&&k8 (G8 ys<140)then y0 (inD (a.w h) ys)else u0
|_=>u0
def Kh(a b:W)(h:AH):Option Bool:=match a.bc,b.bc with
|some s,y0 t=>match s with
 |[c]=>y0<|t.p c
 |_=>u0
|_,_=>match a.d,b.seq? h with
|some d,y0 xs=>if flat d&&xs.N flat then y0 (inD d xs)else KC a b h
|_,_=>u0
noncomputable def Ku(o:Cp)(i j:Int):Option Bool:=match o with
|.lt=>y0<|k8<|i<j
|.le=>y0<|k8<|i<=j
|.gt=>y0<|k8<|j<i
|.ge=>y0<|k8<|j<=i
|_=>u0
noncomputable def Kw(o:Cp)(i j:Tx):Option Bool:=match o with
|.lt=>y0<|k8<|i<j
|.ge=>y0<|!k8 (i<j)
|_=>u0
noncomputable def Ks:W->W->Option Bool
|.v .aj,.v (.C _)=>y0 u9
|.v (.C b),.v (.C c)=>y0<|b==c
|_,_=>u0
def Gm(o:Cp)(a b:W)(h:AH):Option Bool:=match o with
|.eq=>if GP (a.w h) (b.w h)then y0 (cW (a.w h)<|b.w h)else u0
|.ne=>if GP (a.w h) (b.w h)then y0 (!cW (a.w h) (b.w h))else u0
|.mem=>Kh a b h
|.br=>(Kh a b h).u (!·)
|.oX=>Ks a b
|.i5=>(Ks a b).u (!·)
|o=>match a.u,b.u with
|some i,y0 j=>Ku o i j
|_,_=>match a.bc,b.bc with
|some s,y0 t=>Kw o s t
|_,_=>u0
noncomputable def dU(n:Nat)(i:Int):Option Nat:=if 0<=i then(if i<n then y0 i.j else u0)else if-(n:Int)<=i then y0 (i+n).j else u0
def aY{α:Type}(xs:List α)(i:Int):Option α:=(dU xs.e i).p λj=>xs[j]?
def cc(a b:W)(h:AH):Option D:=match b.u with
|some i=>match a.bc with
 |some s=>if s.e<=bp then(aY s i).u λc=>.m [c]else u0
 |none=>(a.seq? h).p λxs=>aY xs i
|none=>u0
def aV(n d:Nat):Option Int->Nat
|none=>d
|some v=>if v<0 then(v+n).j else min v.j n
noncomputable def cut{α:Type}(xs:List α)(a hi:Option Int):List α:=(xs.J<|aV xs.e 0 a).A<|aV xs.e xs.e hi-aV xs.e 0 a
def eN(a:W)(b hi:Option Int)(h:AH):R W:=match a.bc with
|some s=>if s.e<=bp then aC (.m<|cut s b hi) h else .u
|none=>match a.ea with
|some xs=>aC (.p<|cut xs b hi) h
|none=>match a.bh h with
|some xs=>.j (.j<|cut xs b hi) h
|none=>.u
noncomputable def Kt:List D->Option Int
|[]=>y0 0
|.o i::r=>(Kt r).u (i+·)
|_::_=>u0
noncomputable def pR:List D->Option (List Int)
|[]=>y0 []
|.o i::r=>(pR r).u (i::·)
|_::_=>u0
noncomputable def GG:List D->Option (List Tx)
|[]=>y0 []
|.m s::r=>(GG r).u (s::·)
|_::_=>u0
noncomputable def ME:List Int->Option Int
|[]=>u0
|i::r=>y0<|r.U (λa b=>if b>a then b else a) i
noncomputable def Mq:List Int->Option Int
|[]=>u0
|i::r=>y0<|r.U (λa b=>if b<a then b else a) i
noncomputable def GR(x:Tx):List Tx->List Tx
|[]=>[x]
|y::ys=>if y<x then y::GR x ys else x::y::ys
def Gc:List Tx->List Tx
|[]=>[]
|x::xs=>GR x<|Gc xs
noncomputable def GH(s:Tx):List Tx->Tx
|[]=>[]
|[x]=>x
|x::y::r=>x++s++GH s (y::r)
noncomputable def Kc:List D->Option (List Bool)
|[]=>y0 []
|.C b::r=>(Kc r).u (b::·)
|_::_=>u0
def o9(b:Bi)(w:W)(h:AH):R W:=match b with
|.len=>match w.bc with
 |some s=>if s.e<=bp then aC (.o s.e) h else .u
 |none=>(R.of h<|w.seq? h).p λxs h=>aC (.o xs.e) h
|.int=>match w with
 |.v (.o i)=>aC (.o i) h
 |.v (.C b)=>aC (.o (b.j:Int)) h
 |_=>.u
|.list=>(R.of h<|w.seq? h).p λxs h=>.j (.j xs) h
|.A=>(R.of h<|w.seq? h).p λxs h=>aC (.p xs) h
|.sum=>(R.of h<|(w.bh h).p λxs=>if xs.e<=bp then Kt xs else u0).p λi h=>aC (.o i) h
|.all=>(R.of h<|(w.bh h).p Kc).p λbs h=>aC (.C<|bs.N id) h
|.any=>(R.of h<|(w.bh h).p Kc).p λbs h=>aC (.C<|bs.G id) h
|.max=>(R.of h<|((w.bh h).p pR).p ME).p λi h=>aC (.o i) h
|.min=>(R.of h<|((w.bh h).p pR).p Mq).p λi h=>aC (.o i) h
|.sorted=>(R.of h<|(w.bh h).p GG).p λa h=>if a.e<64 then .j (.j<|(Gc a).u .m) h else .u
|_=>.u
noncomputable def nW(m:Mt)(x:W)(h:AH):Bool:=match m with
|.join=>x.bc.w
|.starts=>x.bc.w
|.part=>x.bc.w
@[simp]theorem sH(s)(h):nW .join (.v<|.m s) h=true:=rfl
@[simp]theorem L7(s)(h):nW .starts (.v<|.m s) h=true:=rfl
@[simp]theorem yJ(s)(h):nW .part (.v<|.m s) h=true:=rfl
noncomputable def G7(c:Nat):Tx->Option (Tx×Tx)
|[]=>u0
|x::s=>if x=c then y0 ([],s)else(G7 c s).u λp=>(x::p.1,p.2)
noncomputable def Ke(s t:Tx):Option D:=match t with
|[c]=>match G7 c s with
 |some p=>y0<|.p [.m p.1,.m [c],.m p.2]
 |none=>y0<|.p [.m s,.m [],.m []]
|_=>u0
noncomputable def GW(s t:Tx):Option Bool:=match t with
|[c]=>y0<|k8<|s.head?=y0 c
|_=>u0
noncomputable def GX:List Tx->List Tx->Nat
|_,[]=>0
|a,x::xs=>(if a.G (·==x)then 0 else 1)+GX (a++[x]) xs
noncomputable def GY:Nat->List D->List D
|_,[]=>[]
|i,d::ds=>.p [.o (i:Int),d]::GY (i+1) ds
def mh(m:Mt)(x:W)(ws:List W)(h:AH):R W:=match m,ws with
|.join,[w]=>(R.of h x.bc).p λs h=>(R.of h<|(w.bh h).p GG).p λa h=>if(GH s a).e<=bp/\a.e<=bp/\s.e<=bp then aC (.m<|GH s a) h else .u
|.part,[w]=>(R.of h x.bc).p λs h=>(R.of h w.bc).p λt h=>(R.of h<|Ke s t).p λd h=>if s.e<=bp then aC d h else .u
|.starts,[w]=>(R.of h x.bc).p λs h=>(R.of h w.bc).p λt h=>(R.of h<|GW s t).p λb h=>aC (.C b) h
|_,_=>.u
def K8(b:Bi)(i j:Int)(h:AH):R W:=match b with
|.divmod=>if 0<j/\j<m4 then aC (.p [.o (i/j),.o (i%j)]) h else .u
|.min=>aC (.o<|if j<i then j else i) h
|.max=>aC (.o<|if j>i then j else i) h
|_=>.u
def cz(b:Bi)(ws:List W)(h:AH):R W:=match ws with
|[w]=>o9 b w h
|[v,w]=>(R.of h v.u).p λi h=>(R.of h w.u).p λj h=>K8 b i j h
|_=>.u
@[simp]theorem Gz(o)(i j)(h):GB o (.v<|.o i) (.v<|.o j) h=(R.of h<|Gj o i j).p λk h=>aC (.o k) h:=rfl
@[simp]theorem zc(i j):Gj .j i j=y0 (i+j):=rfl
@[simp]theorem Wr(i j):Gj .sub i j=y0 (i-j):=rfl
@[simp]theorem QD(s u)(h):GB .j (.v<|.m s) (.v<|.m u) h=if s.e+u.e<=bp then aC (.m<|s++u) h else .u:=rfl
@[simp]theorem Jn(s u)(h):GB .j (.v<|.p s) (.v<|.p u) h=if s.e+u.e<=bp then aC (.p<|s++u) h else .u:=rfl
@[simp]theorem jB(s u)(h):GB .j (.v<|.u s) (.j u) h=if s.e+u.e<=bp then .j (.j<|s++u) h else .u:=rfl
@[simp]theorem FX(s u)(h):GB .j (.v<|.u s) (.p u) h=if s.e+u.e<=bp then .j (.j<|s++u) h else .u:=rfl
@[simp]theorem jJ(s u)(h):GB .j (.j s) (.j u) h=if s.e+u.e<=bp then .j (.j<|s++u) h else .u:=rfl
@[simp]theorem CI(s u)(h):GB .j (.p s) (.j u) h=if s.e+u.e<=bp then .j (.j<|s++u) h else .u:=rfl
@[simp]theorem Qm(i j)(h):Gm .lt (.v<|.o i) (.v<|.o j) h=y0 (k8<|i<j):=rfl
@[simp]theorem rK(i j)(h):Gm .le (.v<|.o i) (.v<|.o j) h=y0 (k8<|i<=j):=rfl
@[simp]theorem Js(i j)(h):Gm .gt (.v<|.o i) (.v<|.o j) h=y0 (k8<|j<i):=rfl
@[simp]theorem vT(a b)(h):Gm .eq a b h=if GP (a.w h) (b.w h)then y0 (cW (a.w h)<|b.w h)else none:=rfl
@[simp]theorem yb(a b)(h):Gm .ne a b h=if GP (a.w h) (b.w h)then y0 (!cW (a.w h) (b.w h))else none:=rfl
@[simp]theorem int?_int(i):(W.v<|.o i).u=y0 i:=rfl
@[simp]theorem len_str(s)(h):cz .len [.v (.m s)] h=if s.e<=bp then aC (.o s.e) h else .u:=rfl
@[simp]theorem Xu(s)(h):cz .len [.v (.p s)] h=aC (.o s.e) h:=rfl
@[simp]theorem jG(s)(h):cz .len [.v (.u s)] h=aC (.o s.e) h:=rfl
@[simp]theorem int_int(i)(h):cz .int [.v (.o i)] h=aC (.o i) h:=rfl
@[simp]theorem Z8(b)(h):cz .int [.v (.C b)] h=aC (.o (b.j:Int)) h:=rfl
@[simp]theorem Ce(s)(h):cz .list [.v (.p s)] h=.j (.j s) h:=rfl
@[simp]theorem N8(s)(h):cz .A [.v (.p s)] h=aC (.p s) h:=rfl
@[simp]theorem XI(s)(h):cz .A [.j s] h=aC (.p s) h:=rfl
@[simp]theorem N0(s)(h):cz .A [.p s] h=aC (.p s) h:=rfl
@[simp]theorem NL(s)(h):cz .sum [.j s] h=(R.of h<|if s.e<=bp then Kt s else u0).p λi h=>aC (.o i) h:=rfl
@[simp]theorem qT(s)(i)(h):cc (.v<|.m s) (.v<|.o i) h=if s.e<=bp then(aY s i).u λc=>.m [c]else none:=rfl
@[simp]theorem aA(s)(i)(h):cc (.v<|.p s) (.v<|.o i) h=aY s i:=rfl
@[simp]theorem WU(s)(i)(h):cc (.v<|.u s) (.v<|.o i) h=aY s i:=rfl
@[simp]theorem Zm(s)(i)(h):cc (.j s) (.v<|.o i) h=aY s i:=rfl
@[simp]theorem XS(s)(lo hi)(h):eN (.v<|.u s) lo hi h=.j (.j<|cut s lo hi) h:=rfl
@[simp]theorem NZ(s)(lo hi)(h):eN (.p s) lo hi h=.j (.j<|cut s lo hi) h:=rfl
abbrev de:=List<|String×String
noncomputable def GS(a:de):Nat->String->List String
|0,_=>[]
|n+1,c=>c::match a.j c with
|some b=>GS a n b
|none=>[]
noncomputable def BU:W->Option Ty
|.v .aj=>y0 .aj
|.v (.C _)=>y0 .bool
|.v (.o _)=>y0 .int
|.v (.m _)=>y0 .str
|.v (.p _)=>y0 .tuple
|.v (.u _)=>y0 .list
|.j _=>y0 .list
|.p _=>y0 .list
|.v (.j _)=>u0
|.v (.exc _ _)=>u0
|.v (.y _ _ _)=>u0
noncomputable def Ty.le:Ty->Ty->Bool
|.bool,.int=>k9
|a,b=>k8<|a=b
def cN(t:Ty)(w:W):Option Bool:=(BU w).u λu=>u.le t
@[simp]theorem qA(t)(s):cN t (.v<|.m s)=y0 (Ty.le .str t):=rfl
@[simp]theorem Ty.ck (t):Ty.le t t=true:=by cases t<;>rfl
def b9(a:de)(w:W)(ts:List String):Option Bool:=match w with
|.v (.exc c [])=>y0<|ts.G (GS a 8 c).p
|.v (.y c _ _)=>y0<|ts.G (GS a 8 c).p
|_=>u0
@[simp]noncomputable def Gr:Sl->Nat->Option W
|[],_=>u0
|x::_,0=>x
|_::r,n+1=>Gr r n
@[simp]noncomputable def GF:Sl->Nat->W->Sl
|[],_,_=>[]
|_::r,0,w=>y0 w::r
|x::r,n+1,w=>x::GF r n w
def Gq(Z:Sl)(i:Nat):Option W:=match Gr Z i with
|some (.j xs)=>y0<|.p xs
|o=>o
@[simp]theorem Ka(e:Gr Z i=y0 (.j xs)):Gq Z i=y0 (.p xs):=by simp[Gq,e]
@[simp]theorem Kl(e:Gr Z i=y0 (.v d)):Gq Z i=y0 (.v d):=by simp[Gq,e]
@[simp]theorem Kf(e:Gr Z i=y0 (.p xs)):Gq Z i=y0 (.p xs):=by simp[Gq,e]
@[simp]noncomputable def aR:List Nat->List D->Sl->Option Sl
|[],[],Z=>y0 Z
|i::is,d::ds,Z=>aR is ds<|GF Z i<|.v d
|_,_,_=>u0
def GC(tg:List Nat)(one:Bool)(d:D)(Z:Sl):Option Sl:=match one with
|true=>match tg with
 |[i]=>y0<|GF Z i<|.v d
 |_=>u0
|false=>match d with
|.p ds=>aR tg ds Z
|_=>u0
noncomputable def Gy(step:D->AH->R (Option D)):List D->AH->R (List D)
|[],h=>.j [] h
|d::ds,h=>match step d h with
|.j o h1=>match Gy step ds h1 with
 |.j r h2=>.j (match o with|some x=>x::r|none=>r) h2
 |_=>.u
|_=>.u
structure Fx where
 call:String->List W->AH->R W
 cl:de
 con:List<|String×D
open M renaming Fx.call->Lake.M.Fx.j
noncomputable def G6(h:AH):Option W->Option (Nat×List D)
|some (.v (.j r))=>match h[r]? with
 |some (.u xs)=>y0 (r,xs)
 |_=>u0
|_=>u0
noncomputable def GQ(h:AH):Option W->Option (Nat×String×List (String×D))
|some (.v (.j r))=>match h[r]? with
 |some (.obj c fs)=>y0 (r,c,fs)
 |_=>u0
|_=>u0
noncomputable def bA(f:String)(d:D):List (String×D)->List (String×D)
|[]=>[(f,d)]
|(g,x)::r=>if g=f then(g,d)::r else(g,x)::bA f d r
noncomputable def bV(i:Int):Tx:=(toString i).toList.u Char.toNat
noncomputable def KI(w:W)(h:AH):R W:=match w with
|.v (.o i)=>if 0<=i/\i<1000 then aC (.m<|bV i) h else .u
|_=>.u
def lG(s:Tx):Option Nat:=(Ac2 100).find? λn=>k8<|bV (n:Int)=s
def KA(w:W)(h:AH):R W:=match w with
|.v (.m s)=>(R.of h<|lG s).p λn h=>aC (.o (n:Int)) h
|_=>.u
@[simp]theorem Q8(s)(h):KA (.v<|.m s) h=(R.of h<|lG s).p λn h=>aC (.o (n:Int)) h:=rfl
noncomputable def Ck:W->Option (List D)
|.v (.u xs)=>y0 xs
|.j xs=>y0 xs
|_=>u0
noncomputable def yE:W->Option (List D)
|.v (.u xs)=>y0 xs
|.p xs=>y0 xs
|_=>u0
noncomputable def KJ(T:List<|Tx×D)(w:W)(h:AH):R W:=match w with
|.v (.m k)=>match T.j k with
 |some d=>if flat d then aC d h else .u
 |none=>.u
|_=>.u
noncomputable def GL(T:List<|Tx×Tx)(o:Option W)(h:AH):R W:=match o with
|some (.v (.m k))=>match T.j k with
 |some t=>aC (.m t) h
 |none=>.u
|_=>.u
@[simp]theorem CF(T)(k)(h):GL T (y0<|.v<|.m k) h=match T.j k with
|some t=>aC (.m t) h
|none=>.u:=rfl
mutual
@[simp]noncomputable def eval(F:Fx):E->Sl->AH->R W
|.var i,Z,h=>match Gq Z i with
 |some w=>.j w h
 |none=>.u
|.con x,_,h=>match F.con.j x with
 |some d=>aC d h
 |none=>.u
|.int i,_,h=>aC (.o i) h
|.bl b,_,h=>aC (.C b) h
|.aj,_,h=>aC .aj h
|.str s,_,h=>aC (.m s) h
|.tup es,Z,h=>(Gk F es Z h).p λds h=>aC (.p ds) h
|.lst es,Z,h=>(Gk F es Z h).p λds h=>.j (.j ds) h
|.bin o a b,Z,h=>(eval F a Z h).p λx h=>(eval F b Z h).p λy h=>GB o x y h
|.cmp o a b,Z,h=>(eval F a Z h).p λx h=>(eval F b Z h).p λy h=>(R.of h<|Gm o x y h).p λc h=>aC (.C c) h
|.chain o p a b c,Z,h=>(eval F a Z h).p λx h=>(eval F b Z h).p λy h=>(R.of h<|Gm o x y h).p λt h=>match t with
 |true=>(eval F c Z h).p λz h=>(R.of h<|Gm p y z h).p λc h=>aC (.C c) h
 |false=>aC (.C u9) h
|.cm neg a,Z,h=>(eval F a Z h).p λx h=>match x with
 |.v .aj=>aC (.C<|!neg) h
 |_=>aC (.C neg) h
|.neg a,Z,h=>(eval F a Z h).p λx h=>(R.of h x.u).p λi h=>aC (.o<|-i) h
|.not a,Z,h=>(eval F a Z h).p λx h=>(R.of h<|Kb h x).p λc h=>aC (.C<|!c) h
|.and a b,Z,h=>(eval F a Z h).p λx h=>(R.of h<|Kb h x).p λc h=>match c with
 |true=>eval F b Z h
 |false=>.j x h
|.or a b,Z,h=>(eval F a Z h).p λx h=>(R.of h<|Kb h x).p λc h=>match c with
 |true=>.j x h
 |false=>eval F b Z h
|.call f es,Z,h=>(Gn F es Z h).p λws h=>F.j f (ws.u W.arg) h
|.bi b es,Z,h=>(Gn F es Z h).p λws h=>cz b ws h
|.cN a t,Z,h=>(eval F a Z h).p λx h=>(R.of h<|cN t x).p λc h=>aC (.C c) h
|.b9 a _ ts,Z,h=>(eval F a Z h).p λx h=>(R.of h<|b9 F.cl x ts).p λc h=>aC (.C c) h
|.ix a b,Z,h=>(eval F a Z h).p λx h=>(eval F b Z h).p λy h=>(R.of h<|cc x y h).p λd h=>aC d h
|.sl a lo hi,Z,h=>(eval F a Z h).p λx h=>(eval F lo Z h).p λl h=>(R.of h l.u).p λl h=>(eval F hi Z h).p λu h=>(R.of h u.u).p λu h=>eN x (y0 l) (y0 u) h
|.d3 a lo,Z,h=>(eval F a Z h).p λx h=>(eval F lo Z h).p λl h=>(R.of h l.u).p λl h=>eN x (y0 l) u0 h
|.d9 a hi,Z,h=>(eval F a Z h).p λx h=>(eval F hi Z h).p λu h=>(R.of h u.u).p λu h=>eN x u0 (y0 u) h
|.rev a,Z,h=>(eval F a Z h).p λx h=>(R.of h<|x.bh h).p λxs h=>.j (.j xs.T) h
|.comp tg one k aB it u5 c elt,Z,h=>(Gs F it Z h).p λds h=>
  if ds.e<=bp then
   (Gy (λd h=>match GC tg one d (Aa1 k u0++aB.u λj=>Gq Z j)with
|none=>.u
|some Z'=>(if u5 then(eval F c Z' h).p λx h=>R.of h (Kb h x)else .j k9 h).p λb h=>match b with
|true=>(eval F elt Z' h).p λy h=>(R.of h y.d).p λy h=>.j (y0 y) h
|false=>.j u0 h) ds h).p λys h=>.j (.j ys) h
  else .u
|.share a,Z,h=>(eval F a Z h).p λx h=>match x with
 |.j xs=>if Gi xs then aC (.j h.e) (h++[.u xs])else .u
 |_=>.u
|.dH a,Z,h=>(eval F a Z h).p λx h=>(R.of h<|(x.bh h).p GG).p λts h=>if ts.e<1000 then aC (.o ((GX [] ts:Nat):Int)) h else .u
|.dr a,Z,h=>(eval F a Z h).p λx h=>(R.of h<|x.ea.p GG).p λts h=>if ts.e<64 then .j (.j<|(Gc ts).u .m) h else .u
|.cJ m a es,Z,h=>(eval F a Z h).p λx h=>if nW m x h then(Gn F es Z h).p λws h=>mh m x ws h else .u
|.fT c a,Z,h=>match F.con.j c with
 |some (.exc _ (r::T))=>(eval F a Z h).p λw h=>KJ (r::T) w h
 |_=>.u
|.eR T i,Z,h=>GL T (Gr Z i) h
|.lh T a,Z,h=>(eval F a Z h).p λw h=>GL T (y0 w) h
|.eT a,Z,h=>(eval F a Z h).p λw h=>KI w h
|.bV a,Z,h=>(eval F a Z h).p λw h=>KA w h
|.xf i f,Z,h=>match Gr Z i with
 |some (.v (.y _ g d))=>if g=f then .j (.v d) h else .u
 |_=>.u
|.make c q es,Z,h=>(Gn F es Z h).p λws h=>(F.j q (.v (.j h.e)::ws.u W.arg)<|h++[.obj c []]).p λw h'=>match w with
 |.v .aj=>aC (.j h.e) h'
 |_=>.u
|.bY a c f,Z,h=>(eval F a Z h).p λw h=>match GQ h (y0 w)with
 |some (_,c',fs)=>if c'=c then(R.of h<|fs.j f).p λd h=>aC d h else .u
 |none=>.u
|.aI a c m q es,Z,h=>(eval F a Z h).p λw h=>match GQ h (y0 w)with
|some (r,c',fs)=>if c'=c/\(fs.j m).j=k9 then(Gn F es Z h).p λws h=>F.j q (.v (.j r)::ws.u W.arg) h else .u
|none=>.u
@[simp]noncomputable def Gn(F:Fx):Es->Sl->AH->R (List W)
|.nil,_,h=>.j [] h
|.cons e es,Z,h=>(eval F e Z h).p λw h=>(Gn F es Z h).p λws h=>.j (w::ws) h
@[simp]noncomputable def Gk(F:Fx):Es->Sl->AH->R (List D)
|.nil,_,h=>.j [] h
|.cons e es,Z,h=>(eval F e Z h).p λw h=>(R.of h w.d).p λd h=>(Gk F es Z h).p λds h=>.j (d::ds) h
@[simp]noncomputable def Gs(F:Fx):It->Sl->AH->R (List D)
|.seq e,Z,h=>(eval F e Z h).p λw h=>match w with
 |.v (.m s)=>.j (c8 s) h
 |.v (.p xs)=>.j xs h
 |.v (.u xs)=>.j xs h
 |.j xs=>.j xs h
 |.p xs=>.j xs h
 |_=>.u
|.aQ a,Z,h=>(eval F a Z h).p λw h=>(R.of h w.u).p λn h=>if-(g9)<=n/\n<g9 then .j ((Ac2 n.j).u λ(i:Nat)=>.o (i:Int)) h else .u
|.b6 a b,Z,h=>(eval F a Z h).p λw h=>(R.of h w.u).p λi h=>(eval F b Z h).p λw h=>(R.of h w.u).p λj h=>
  if(-(g9)<=i/\i<g9)/\(-(g9)<=j/\j<g9)then .j ((Ac2 (j-i).j).u λ(k:Nat)=>.o<|i+(k:Int)) h else .u
|.di e,Z,h=>(eval F e Z h).p λw h=>(R.of h<|Ck w).p λxs h=>.j (GY 0 xs) h
|.cM i,Z,h=>(R.of h<|(Gr Z i).p yE).p λxs h=>.j (GY 0 xs) h
|.rev e,Z,h=>(eval F e Z h).p λw h=>match w with
 |.v (.u xs)=>.j xs.T h
 |.j xs=>.j xs.T h
 |.p xs=>.j xs.T h
 |_=>.u
|.enum e,Z,h=>(eval F e Z h).p λw h=>match w with
|.v (.p xs)=>.j (GY 0 xs) h
|_=>.u
end
noncomputable def n3:W->Option (List D)
|.v (.m s)=>y0<|c8 s
|.v (.p xs)=>y0 xs
|.v (.u xs)=>y0 xs
|.j xs=>y0 xs
|_=>u0
noncomputable def nX:W->Option (List D)
|.v (.m s)=>y0<|c8 s
|.v (.p xs)=>y0 xs
|.v (.u xs)=>y0 xs
|.p xs=>y0 xs
|_=>u0
noncomputable def LU:W->Option (List D)
|.v (.u xs)=>y0 xs.T
|.j xs=>y0 xs.T
|_=>u0
noncomputable def Cc:W->Option (List D)
|.v (.u xs)=>y0 xs.T
|.p xs=>y0 xs.T
|_=>u0
@[simp]theorem Kk(xs):n3 (.v<|.p xs)=y0 xs:=rfl
@[simp]theorem Ko(xs):n3 (.v<|.u xs)=y0 xs:=rfl
@[simp]theorem Kd(xs):n3 (.j xs)=y0 xs:=rfl
@[simp]theorem Km(xs):nX (.v<|.p xs)=y0 xs:=rfl
@[simp]theorem Kp(xs):nX (.v<|.u xs)=y0 xs:=rfl
@[simp]theorem Kq(xs):nX (.p xs)=y0 xs:=rfl
@[simp]noncomputable def GI:E->Option Nat
|.var i=>y0 i
|_=>u0
@[simp]def GD(F:Fx)(it:It)(Z:Sl)(h:AH):R<|List D:=match it with
|.seq e=>match GI e with
 |some i=>R.of h<|(Gr Z i).p nX
 |none=>(eval F e Z h).p λw h=>R.of h<|n3 w
|.rev e=>match GI e with
 |some i=>R.of h<|(Gr Z i).p Cc
 |none=>(eval F e Z h).p λw h=>R.of h<|LU w
|it=>Gs F it Z h
noncomputable def GA(b:D->Sl->Option Sl)(a:Sl->AH->O):List D->Sl->AH->O
|[],Z,h=>.p Z h
|d::ds,Z,h=>match b d Z with
|none=>.u
|some e=>match a e h with
|.p c h2=>GA b a ds c h2
|.cont c h2=>GA b a ds c h2
|.brk c h2=>.p c h2
|o=>o
noncomputable def Gx(c:Sl->AH->R Bool)(a:Sl->AH->O):Nat->Sl->AH->O
|0,_,_=>.u
|n+1,Z,h=>(c Z h).c5 λb h1=>match b with
|false=>.p Z h1
|true=>match a Z h1 with
|.p d h2=>Gx c a n d h2
|.cont d h2=>Gx c a n d h2
|.brk d h2=>.p d h2
|o=>o
def Gg(F:Fx)(e:E)(Z:Sl)(h:AH):R Bool:=(eval F e Z h).p λx h=>R.of h<|Kb h x
def GO:D->Bool
|.exc _ _=>k9
|.y _ _ d=>Gp d
|_=>u9
def GT(d:D)(n:Nat)(h:AH):AH:=if GO d&&GE (h.A n)then h.A n else h
noncomputable def f9:D->D
|.p [d]=>d
|d=>d
def Kn(call:String->List W->AH->R W)(b:de)(e:Option Nat)(f k:String)(nm a:Nat)(Z:Sl):R (List W)->O
|.j c h=>match call f (c.u W.arg) h with
 |.j w h=>match e with
   |none=>.p Z h
   |some i=>match w with
   |.v d=>.p (GF Z i<|.v d) h
   |_=>.u
 |.w d h1=>match b9 b (.v<|f9 d) [k]with
   |some true=>.p ((GF (GF Z nm<|.v<|f9 d) a<|.v<|f9 d).B nm u0)<|GT (f9 d) h.e h1
   |_=>.u
 |.u=>.u
|_=>.u
def Kx(a:de)(c k b:String)(d:D)(r:R<|List D):O:=match b9 a (.v d) [c]with
|some true=>match r with
 |.j [y] h=>.w (.p [.y k b y]) h
 |_=>.u
|_=>.u
def Kz(w a b:W)(Z:Sl)(h:AH):O:=match w,a,b with
|.v d,.v (.j r),.v (.o j)=>match h[r]? with
 |some (.u xs)=>match dU xs.e j with
   |some n=>if flat d then .p Z (h.B r<|.u<|xs.B n d)else .u
   |none=>.u
 |_=>.u
|_,_,_=>.u
mutual
@[simp]noncomputable def exec(F:Fx):S->Sl->AH->O
|.set i e,Z,h=>(eval F e Z h).c5 λw h=>match w with
 |.p _=>.u
 |w=>.p (GF Z i w) h
|.ag i e,Z,h=>(eval F e Z h).c5 λw h=>match w.d with
 |some d=>.p (GF Z i<|.v d) h
 |none=>.u
|.gk is e,Z,h=>(eval F e Z h).c5 λw h=>match w with
 |.v (.p ds)=>match aR is ds Z with
   |some Z'=>.p Z' h
   |none=>.u
 |_=>.u
|.ez i k e,Z,h=>(eval F e Z h).c5 λw h=>match Gr Z i with
 |some (.j xs)=>(eval F k Z h).c5 λkw h=>match w,kw with
   |.v d,.v (.o j)=>if flat d then(match dU xs.e j with
|some n=>.p (GF Z i<|.j<|xs.B n d) h
|none=>.u)else .u
   |_,_=>.u
 |_=>.u
|.bH o k e,Z,h=>(eval F e Z h).c5 λw h=>(eval F o Z h).c5 λow h=>(eval F k Z h).c5 λkw h=>Kz w ow kw Z h
|.app i e,Z,h=>match Gr Z i with
 |some (.j xs)=>(eval F e Z h).c5 λw h=>match w.d with
   |some d=>if xs.e<bp then .p (GF Z i<|.j<|xs++[d]) h else .u
   |none=>.u
 |_=>.u
|.gz a e,Z,h=>(eval F a Z h).c5 λo h=>match G6 h (y0 o)with
 |some _=>(eval F e Z h).c5 λw h=>match w.d,G6 h (y0 o)with
   |some d,y0 (r,xs)=>if xs.e<bp/\Gp d=k9 then .p Z (h.B r<|.u<|xs++[d])else .u
   |_,_=>.u
 |none=>.u
|.ex e,Z,h=>(eval F e Z h).c5 λ_ h=>.p Z h
|.ret e,Z,h=>match GI e with
 |some i=>match Gr Z i with
   |some (.p _)=>.u
   |some w=>.j w h
   |none=>.u
 |none=>(eval F e Z h).c5 λw h=>match w with
 |.p _=>.u
 |w=>.j w h
|.iff c a b,Z,h=>(Gg F c Z h).c5 λt h=>match t with
 |true=>execs F a Z h
 |false=>execs F b Z h
|.e8 n c b,Z,h=>Gx (λZ h=>Gg F c Z h) (λZ h=>execs F b Z h) n Z h
|.for tg one it b,Z,h=>(GD F it Z h).c5 λds h=>GA (GC tg one) (λZ h=>execs F b Z h) ds Z h
|.raise c es,Z,h=>(Gn F es Z h).c5 λ_ h=>.w (.exc c []) h
|.bC c f e,Z,h=>(Gk F (.cons e .nil) Z h).c5 λds h=>match ds with
 |[d]=>.w (.y c f d) h
 |_=>.u
|.gw i f es k nm iv,Z,h=>Kn F.j F.cl (y0 i) f k nm iv Z<|Gn F es Z h
|.gs f es c k fl g es2,Z,h=>match Gn F es Z h with
 |.j ws h=>match F.j f (ws.u W.arg) h with
   |.j (.v d) h=>.j (.v d) h
   |.w d h1=>Kx F.cl c k fl d<|Gk F (.cons (.call g es2) .nil) Z<|GT d h.e h1
   |_=>.u
 |_=>.u
|.b4 i c f e,Z,h=>(eval F e Z h).c5 λw h=>match w with
 |.v d=>match GQ h (Gr Z i)with
   |some (r,c',fs)=>if c'=c/\fs.e<100 then .p Z (h.B r<|.obj c<|bA f d fs)else .u
   |none=>.u
 |_=>.u
|.ky,_,_=>.u
@[simp]noncomputable def execs(F:Fx):Ss->Sl->AH->O
|.nil,Z,h=>.p Z h
|.cons s ss,Z,h=>(exec F s Z h).seq λZ h=>execs F ss Z h
end
structure Fn where
 ps:Nat
 n:Nat
 body:Ss
structure Prog where
 fns:List<|String×Fn
 cl:de
 con:List<|String×D
def W.keep:W->Bool
|.v d=>Gp d
|.j xs=>Gi xs
|.p _=>k9
noncomputable def fin(n:Nat)(w:W)(h:AH):R W:=if h.e=n then .j w h else if w.keep&&GE (h.A n)then .j w (h.A n)else .j w h
def Gv(n:Nat):O->R W
|.j w h=>match w with
 |.p _=>.u
 |w=>fin n w h
|.p _ h=>fin n (.v .aj) h
|.w d h=>.w d h
|_=>.u
@[simp]theorem Ga(d)(h h':AH)(e:h'.e=h.e):Gv h.e (.j (.v d) h')=.j (.v d) h':=by simp[Gv,fin,e]
@[simp]theorem Gw(xs)(h h':AH)(e:h'.e=h.e):Gv h.e (.j (.j xs) h')=.j (.j xs) h':=by simp[Gv,fin,e]
@[simp]theorem GK(Z)(h h':AH)(e:h'.e=h.e):Gv h.e (.p Z h')=.j (.v .aj) h':=by simp[Gv,fin,e]
@[simp]theorem Ki(d)(n)(h):Gv n (.w d h)=.w d h:=rfl
def run(F:Fx)(d:Fn)(ws:List W)(h:AH):R W:=if ws.e=d.ps then Gv h.e (execs F d.body (ws.u y0++Aa1 (d.n-d.ps) u0) h)else .u
def call(p:Prog):Nat->String->List W->AH->R W
|0,_,_,_=>.u
|k+1,f,a,h=>match p.fns.j f with
|some d=>run ⟨call p k,p.cl,p.con⟩ d a h
|none=>.u
def Gb(e:p.fns.j f=y0 d)(k)(ws)(h)(a:ws.e=d.ps):
 call p (k+1) f ws h=Gv h.e (execs ⟨call p k,p.cl,p.con⟩ d.body (ws.u y0++Aa1 (d.n-d.ps) u0) h):=by
 rw[call,e];simp[run,a]
end
end Lake.M
namespace Lake.MS
open M renaming D.str->Lake.M.D.m,D.int->Lake.M.D.o,D.ref->Lake.M.D.j,D.tup->Lake.M.D.p,D.lst->Lake.M.D.u,D.exc->Lake.M.D.w,D.bl->Lake.M.D.C,D.aj->Lake.M.D.L,D.err->Lake.M.D.y,Es.cons->Lake.M.Es.j,Es.nil->Lake.M.Es.p,R.ok->Lake.M.R.j,R.bind->Lake.M.R.p,R.fail->Lake.M.R.u,E.call->Lake.M.E.j,E.comp->Lake.M.E.Q,E.share->Lake.M.E.a1,E.chain->Lake.M.E.a4,Fx.call->Lake.M.Fx.j,W.own->Lake.M.W.j,W.bor->Lake.M.W.p,O.fail->Lake.M.O.u,O.next->Lake.M.O.p,Ty.list->Lake.M.Ty.C,Prog.fns->Lake.M.Prog.u
open Lake renaming V.str->Lake.V.m,V.int->Lake.V.o,V.ref->Lake.V.j,V.bl->Lake.V.C,Cx.env->Lake.Cx.j,Cx.prog->Lake.Cx.p,HO.lst->Lake.HO.u,Inv.base->Lake.Inv.u,Inv.list->Lake.Inv.C
open PySem PySem.Spec
structure Ge where
 K:Aa5
 ca:String->Addr
 cl:M.de
 own:List String
 ma:String->Addr
open Lake renaming MS.Ge.ca->Lake.MS.Ge.j
structure dO(Y:Ge)(c:String):Prop where
 k:hH Y.K<|Y.j c
 own:∀t∈Y.own,Am Y.K (.j<|Y.j c) (.j<|Y.j t)=y0 ((M.GS Y.cl 8 c).p t)
 ve:PySem.W.kitOne Y.K (.j<|Y.j c) (.p "ValueError")=some ((M.GS Y.cl 8 c).p "ValueError")
structure Gh where
 fz:Addr->Prop
 aP:Nat->Addr
 n:Nat
open Lake renaming MS.Gh.aP->Lake.MS.Gh.j,MS.Gh.fz->Lake.MS.Gh.p
def gQ(Y:Ge)(G:Gh)(H:Hp)(a:Addr)(vs:List V):Prop:=(G.p a/\H a=y0 (.tup vs))∨
 ∃(o:Obj)(b:Array Value)(n:Nat),Y.K.j a=some o/\o.cls=.p "tuple"/\o.u=none/\o.j=.j b n/\b.j<=sizeLine/\Vals vs b.p
def uT(Y:Ge)(a:Addr)(vs:List V):Prop:=∃(o:Obj)(b:Array Value)(n:Nat),Y.K.j a=some o/\o.cls=.p "list"/\o.u=none/\o.j=.j b n/\b.j<=sizeLine/\Vals vs b.p
def kG(Y:Ge)(G:Gh)(H:Hp)(a:Addr)(vs:List V):Prop:=(G.p a/\Rd H a (.u vs))\/uT Y a vs
def gQ.sq (h:gQ Y G H a vs):cC Y.K H a vs:=h.j (λz=>.p<|.p z.2)<|by rintro⟨o,b,n,c,e,_,d⟩;exact .u ⟨o,b,n,c,e,d⟩
def kG.sq (h:kG Y G H a vs):bu Y.K H a vs:=h.j (λz=>.p z.2) λz=>.u z
noncomputable def ay(s:M.Tx):Str:=⟨s.w⟩
def ly:M.D->PyData
|.o i=>.int i
|.m s=>.str<|ay s
|.C b=>.bool b
|_=>.none
def i8(T:List<|M.Tx×M.D):List<|Str×PyData:=T.u λp=>(ay p.1,ly p.2)
def MT(Y:Ge)(a:Addr)(T:List<|M.Tx×M.D):Prop:=mX Y.K a<|i8 T
mutual
def az(Y:Ge)(G:Gh)(H:Hp):M.D->V->Prop
|.L,v=>v=.aj
|.C b,v=>v=.C b
|.o i,v=>v=.o i
|.m s,v=>v=.m (ay s)
|.p ds,v=>∃a vs,v=.j a/\gQ Y G H a vs/\ai Y G H ds vs
|.u ds,v=>∃a vs,v=.j a/\kG Y G H a vs/\ai Y G H ds vs
|.j r,v=>r<G.n/\v=.j (G.j r)
|.w c fs,v=>(fs=[]/\∃x,v=.j x/\G.p x/\H x=y0 (fS x (Y.j c) u0)/\dO Y c)\/(fs≠[]/\∃a,v=.j a/\MT Y a fs)
|.y c f d,v=>∃x dx u,v=.j x/\G.p x/\G.p dx/\H x=y0 (fS x (Y.j c)<|y0 dx)/\(∃l,H dx=y0 (.xd<|(Str.ofString f,u)::l))/\dO Y c/\hF Y.K (Y.j c) (Str.ofString f)/\az Y G H d u
def ai(Y:Ge)(G:Gh)(H:Hp):List M.D->List V->Prop
|[],vs=>vs=[]
|d::ds,vs=>∃v r,vs=v::r/\az Y G H d v/\ai Y G H ds r
end
def bG(Y:Ge)(G:Gh)(H:Hp)(a:Addr):M.Cell->Prop
|.lst xs=>M.Gi xs=k9/\∃vs,H a=y0 (.u vs)/\ai Y G H xs vs
|.kv ks=>M.Gi (ks.u (·.2))=k9/\∃us,H a=y0 (dS<|(ks.u λp=>ay p.1).Z us)/\ai Y G H (ks.u (·.2)) us
|.obj c fs=>∃dx us,H a=y0 (.ins (Y.j c) dx<|(fs.u λp=>Str.ofString p.1).Z us)/\ai Y G H (fs.u (·.2)) us
structure ak(Y:Ge)(G:Gh)(h:M.AH)(H:Hp):Prop where
 len:h.e=G.n
 any:∀r c,h[r]?=y0 c->¬G.p (G.j r)/\bG Y G H (G.j r) c
 inj:∀r s,r<G.n->s<G.n->G.j r=G.j s->r=s
 live:∀a,G.p a->∃o,H a=y0 o
open Lake renaming MS.ak.len->Lake.MS.ak.p,MS.ak.any->Lake.MS.ak.G
def eu(G:Gh)(a:Addr):Prop:=∀r,r<G.n->G.j r≠a
structure Ext(G:Gh)(H:Hp)(G':Gh)(H':Hp):Prop where
 keep:∀a o,H a=y0 o->eu G a->H' a=y0 o
 le:G.n<=G'.n
 aP:∀r,r<G.n->G'.j r=G.j r
 new:∀r,G.n<=r->r<G'.n->H (G'.j r)=u0
 fz:∀a,G.p a->G'.p a
 old:∀a,G'.p a->G.p a\/H a=u0
 cells:∀r,r<G.n->(∃o,H (G.j r)=y0 o)->∃o,H' (G.j r)=y0 o
open Lake renaming MS.Ext.keep->Lake.MS.Ext.j,MS.Ext.cells->Lake.MS.Ext.u
def au(Y:Ge)(G:Gh)(H:Hp):M.W->V->Prop
|.v d,v=>az Y G H d v
|.j xs,v=>∃a vs,v=.j a/\¬G.p a/\eu G a/\H a=y0 (.u vs)/\ai Y G H xs vs
|.p xs,v=>∃a vs,v=.j a/\eu G a/\Rd H a (.u vs)/\ai Y G H xs vs
noncomputable def gS:M.W->Bool
|.j _=>k9
|.p _=>k9
|_=>u9
structure av(Y:Ge)(G:Gh)(Z:M.Sl)(h:M.AH)(U:St)(H:Hp):Prop where
 len:Z.e=U.e
 slot:∀i w,M.Gr Z i=y0 w->∃v,U[i]?=y0 (y0 v)/\au Y G H w v
 apart:∀i j xs w a,i≠j->M.Gr Z i=y0 (.j xs)->M.Gr Z j=y0 w->gS w=k9->U[i]?=y0 (y0<|.j a)->U[j]?≠y0 (y0<|.j a)
 heap:ak Y G h H
open Lake renaming MS.av.heap->Lake.MS.av.j,MS.av.slot->Lake.MS.av.u,MS.av.apart->Lake.MS.av.p
section
variable{Y:Ge}{G G' G1 G2:Gh}{H H' H1 H2:Hp}{h h':M.AH}{Z:M.Sl}{U:St}
def ak.cell (R:ak Y G h H)(r)(xs)(e:h[r]?=y0 (M.Cell.lst xs)):¬G.p (G.j r)/\∃vs,H (G.j r)=y0 (.u vs)/\ai Y G H xs vs:=⟨(R.G r _ e).1,(R.G r _ e).2.2⟩
def ak.pure (R:ak Y G h H)(r:Nat)(xs)(e:h[r]?=y0 (M.Cell.lst xs)):M.Gi xs=true:=(R.G r _ e).2.1
theorem ak.obj (R:ak Y G h H)(r)(c)(fs)(e:h[r]?=y0 (M.Cell.obj c fs)):¬G.p (G.j r)/\∃dx us,H (G.j r)=y0 (.ins (Y.j c) dx<|(fs.u λp=>Str.ofString p.1).Z us)/\ai Y G H (fs.u (·.2)) us:=R.G r _ e
def ak.lt (R:ak Y G h H)(e:h[r]?=y0 c):r<G.n:=by rw[←R.p];exact(Ac1.j e).1
def ak.at(R:ak Y G h H)(hi:i<G.n):∃c,h[i]?=y0 c:=⟨_,Aa7<|by rw[R.p];exact hi⟩
def bG.there (z:bG Y G H a c):∃o,H a=y0 o:=by
 cases c with
|lst d=>obtain⟨_,_,z,_⟩:=z;exact⟨_,z⟩
|kv b=>obtain⟨_,_,z,_⟩:=z;exact⟨_,z⟩
|obj c fs=>obtain⟨_,_,z,_⟩:=z;exact⟨_,z⟩
def ak.mq (r:ak Y G h H)(hi:i<G.n):¬G.p (G.j i):=let⟨_,e⟩:=r.at hi;(r.G i _ e).1
def ak.off (r:ak Y G h H)(c:G.p a):eu G a:=λi b z=>r.mq b<|z▸c
theorem ak.there (r:ak Y G h H)(hi:i<G.n):∃o,H (G.j i)=y0 o:=let⟨_,e⟩:=r.at hi;(r.G i _ e).2.there
def Ext.refl:Ext G H G H:=⟨λ_ _ e _=>e,Aa4 _,λ_ _=>rfl,λr a b=>absurd a<|An5.p b,λ_ z=>z,λ_ z=>.p z,λ_ _ z=>z⟩
theorem Ext.none (e:Ext G H G' H')(f:ak Y G h H)(z:H' a=u0):H a=none:=by
 cases q:H a with
|none=>rfl
|some o=>
  by_cases b:eu G a
  .rw[e.j a o q b]at z;cases z
  .unfold eu at b;have:∃r,r<G.n/\G.j r=a:=Ad7 λhh=>b λr f z=>hh ⟨r,f,z⟩;obtain⟨r,c,rfl⟩:=this;obtain⟨g,d⟩:=e.u r c ⟨o,q⟩;rw[z]at d;cases d
def Ext.off (e:Ext G H G' H')(d:H a=y0 o)(c:eu G a):eu G' a:=λr f z=>by
 by_cases b:r<G.n
 .rw[e.aP r b]at z;exact c r b z
 .have:=e.new r (Nat.not_lt.j b) f;rw[z,d]at this;cases this
def Ext.trans (b:Ext G H G1 H1)(f:ak Y G h H)(d:Ext G1 H1 G2 H2):Ext G H G2 H2 where
 keep:=λa o z e=>d.j a o (b.j a o z e)<|b.off z e
 le:=Ac0 b.le d.le
 aP:=λr c=>by rw[d.aP r<|Ab5 c b.le,b.aP r c]
 new:=λr g i=>by
  by_cases c:r<G1.n
  .rw[d.aP r c];exact b.new r g c
  .exact b.none f<|d.new r (Nat.not_lt.j c) i
 fz:=λa z=>d.fz a<|b.fz a z
 old:=λa z=>(d.old a z).j (λz=>b.old a z) λz=>.u<|b.none f z
 cells:=λr c z=>by
  have:=d.u r (Ab5 c b.le)<|by rw[b.aP r c];exact b.u r c z
  rwa [b.aP r c]at this
open Lake renaming MS.Ext.trans->Lake.MS.Ext.x
def Ext.rd (e:Ext G H G' H')(z:Rd H a u)(b:eu G a):Rd H' a u:=z.j (λz=>.p<|e.j a _ z b)<|by rintro⟨o,z⟩;exact .u ⟨o,e.j a _ z b⟩
structure Mon(G:Gh)(H:Hp)(G':Gh)(H':Hp):Prop where
 keep:∀a o,G.p a->H a=y0 o->H' a=y0 o
 le:G.n<=G'.n
 aP:∀r,r<G.n->G'.j r=G.j r
 fz:∀a,G.p a->G'.p a
def Ext.mon (e:Ext G H G' H')(b:ak Y G h H):Mon G H G' H':=⟨λa o z q=>e.j a o q<|b.off z,e.le,e.aP,e.fz⟩
def Mon.rd (e:Mon G H G' H')(z:Rd H a u)(b:G.p a):Rd H' a u:=z.j (λz=>.p<|e.keep a _ b z)<|by rintro⟨o,z⟩;exact .u ⟨o,e.keep a _ b z⟩
mutual
theorem az.mon (e:Mon G H G' H'):∀{d:M.D}{v:V},az Y G H d v->az Y G' H' d v
|.L,_,z=>z
|.C _,_,z=>z
|.o _,_,z=>z
|.m _,_,z=>z
|.p _,_,z7=>by obtain⟨a,vs,z1,z2,z3⟩:=z7;exact⟨a,vs,z1,z2.j (λz=>.p ⟨e.fz a z.1,e.keep a _ z.1 z.2⟩) λz=>.u z,ai.mon e z3⟩
|.u _,_,z7=>by obtain⟨a,vs,z1,z2,z3⟩:=z7;exact⟨a,vs,z1,z2.j (λz=>.p ⟨e.fz a z.1,e.rd z.2 z.1⟩) .u,ai.mon e z3⟩
|.j r,_,z7=>by obtain⟨z1,z2⟩:=z7;exact⟨Ab5 z1 e.le,by rw[e.aP r z1];exact z2⟩
|.w c fs,_,z=>z.imp (by rintro⟨z0,x,z1,z2,z3,z4⟩;exact⟨z0,x,z1,e.fz x z2,e.keep x _ z2 z3,z4⟩) id
|.y c f d,_,z7=>by obtain⟨x,dx,u,z1,z2,z3,z4,z5,z6,z7,z8⟩:=z7;exact⟨x,dx,u,z1,e.fz x z2,e.fz dx z3,e.keep x _ z2 z4,z5.imp λ_ z=>e.keep dx _ z3 z,z6,z7,az.mon e z8⟩
 theorem ai.mon (e:Mon G H G' H'):∀{ds:List M.D}{vs:List V},ai Y G H ds vs->ai Y G' H' ds vs
|[],_,z=>z
|_::_,_,z7=>by obtain⟨v,r,z1,z2,z3⟩:=z7;exact⟨v,r,z1,az.mon e z2,ai.mon e z3⟩
 end
theorem bG.mon (e:Mon G H G' H')(k:∀o,H a=y0 o->H' a=y0 o)(z:bG Y G H a c):bG Y G' H' a c:=by
 cases c with
|lst i=>obtain⟨z0,f,z1,b⟩:=z;exact⟨z0,f,k _ z1,b.mon e⟩
|kv h=>obtain⟨z0,d,z1,b⟩:=z;exact⟨z0,d,k _ z1,b.mon e⟩
|obj c fs=>obtain⟨g,d,z1,b⟩:=z;exact⟨g,d,k _ z1,b.mon e⟩
def az.ext (e:Ext G H G' H')(a:ak Y G h H)(z:az Y G H d v):az Y G' H' d v:=z.mon<|e.mon a
def ai.ext (e:Ext G H G' H')(a:ak Y G h H)(z:ai Y G H d v):ai Y G' H' d v:=z.mon<|e.mon a
theorem au.ext (e:Ext G H G' H')(g:ak Y G h H)(z:au Y G H w v):au Y G' H' w v:=by
 cases w with
|v d=>exact az.ext e g z
|own j=>
  obtain⟨a,f,z1,k,c,b,i⟩:=z;refine⟨a,f,z1,λq=>?_,e.off b c,e.j a _ b c,ai.ext e g i⟩;obtain q|q:=e.old a q
  .exact k q
  .rw[b]at q;cases q
|bor j=>
  obtain⟨a,f,z1,c,b,i⟩:=z;refine⟨a,f,z1,?_,e.rd b c,ai.ext e g i⟩;obtain b|⟨o,b⟩:=b
  .exact e.off b c
  .exact e.off b c
theorem av.ext (s:av Y G Z h U H)(e:Ext G H G' H')(b:ak Y G' h' H'):av Y G' Z h' U H' where
 len:=s.len
 slot:=λi w z=>let⟨v,z1,a⟩:=s.u i w z;⟨v,z1,a.ext e s.j⟩
 apart:=s.p
 heap:=b
theorem ai.length:∀{ds}{vs},ai Y G H ds vs->ds.e=vs.e
|[],_,rfl=>rfl
|_::_,_,z7=>by obtain⟨_,_,rfl,_,z⟩:=z7;exact congrArg (·+1)<|ai.length z
theorem ai.get:∀{ds}{vs}{i:Nat}{d},ai Y G H ds vs->ds[i]?=y0 d->∃v,vs[i]?=y0 v/\az Y G H d v
|[],_,_,_,_,e=>by simp at e
|_::_,_,0,_,z7,e=>by obtain⟨v,_,rfl,z,_⟩:=z7;simp at e;subst e;exact⟨v,rfl,z⟩
|_::_,_,i+1,_,z7,e=>by obtain⟨_,_,rfl,_,z⟩:=z7;obtain⟨v,a,b⟩:=ai.get z (by simpa using e);exact⟨v,by simpa using a,b⟩
theorem ai.append:∀{ds es}{vs us},ai Y G H ds vs->ai Y G H es us->ai Y G H (ds++es) (vs++us)
|[],_,_,_,rfl,z=>z
|_::_,_,_,_,z7,z=>by obtain⟨v,r,rfl,z1,a⟩:=z7;exact⟨v,r++_,rfl,z1,ai.append a z⟩
theorem ai.drop:∀{ds}{vs}(n),ai Y G H ds vs->ai Y G H (ds.J n) (vs.J n)
|_,_,0,z=>z
|[],_,_+1,rfl=>rfl
|_::_,_,n+1,z7=>by obtain⟨_,_,rfl,_,z⟩:=z7;exact ai.drop n z
theorem ai.take:∀{ds}{vs}(n),ai Y G H ds vs->ai Y G H (ds.A n) (vs.A n)
|_,_,0,_=>rfl
|[],_,_+1,rfl=>rfl
|_::_,_,n+1,z7=>by obtain⟨v,r,rfl,z1,z⟩:=z7;exact⟨v,r.A n,rfl,z1,ai.take n z⟩
theorem ai.reverse:∀{ds}{vs},ai Y G H ds vs->ai Y G H ds.T vs.T
|[],_,rfl=>rfl
|_::_,_,z7=>by obtain⟨v,r,rfl,z1,z⟩:=z7;rw[Al0,Al0];exact(ai.reverse z).append ⟨v,[],rfl,z1,rfl⟩
theorem ai.set (z:az Y G H d v):∀{ds}{vs} i,ai Y G H ds vs->ai Y G H (ds.B i d) (vs.B i v)
|[],_,_,rfl=>rfl
|_::_,_,0,z7=>by obtain⟨_,r,rfl,_,a⟩:=z7;exact⟨v,r,rfl,z,a⟩
|_::_,_,i+1,z7=>by obtain⟨u,r,rfl,z1,a⟩:=z7;exact⟨u,r.B i v,rfl,z1,ai.set z i a⟩
noncomputable def Gh.more (G:Gh)(a:Addr):Gh:={G with fz:=λb=>G.p b\/b=a}
open Lake renaming MS.Gh.more->Lake.MS.Gh.u
def WH(o)(b:H p=u0):Ext G H G<|aG H p o where
 keep:=λa u z _=>by rw[Qa<|Qb z b];exact z
 le:=Aa4 _
 aP:=λ_ _=>rfl
 new:=λr c d=>absurd c<|An5.p d
 fz:=λ_ z=>z
 old:=λ_ z=>.p z
 cells:=(by rintro r _⟨u,z⟩;exact⟨u,by rw[Qa<|Qb z b];exact z⟩)
def Wg(o)(b:H p=u0):Ext G H (G.u p)<|aG H p o where
 keep:=λa u z _=>by rw[Qa<|Qb z b];exact z
 le:=Aa4 _
 aP:=λ_ _=>rfl
 new:=λr c d=>absurd c<|An5.p d
 fz:=λ_ z=>.p z
 old:=λa z=>z.j .p λe=>.u<|e▸b
 cells:=(by rintro r _⟨u,z⟩;exact⟨u,by rw[Qa<|Qb z b];exact z⟩)
def ak.new (r:ak Y G h H)(o)(b:H p=u0):ak Y G h<|aG H p o where
 len:=r.p
 any:=λi c z=>⟨(r.G i c z).1,(r.G i c z).2.mon ((WH o b).mon r) λu q=>by rw[Qa<|Qb q b];exact q⟩
 inj:=r.inj
 live:=λa z=>let⟨u,q⟩:=r.live a z;⟨u,by rw[Qa<|Qb q b];exact q⟩
def ak.fE (r:ak Y G h H)(o)(b:H p=u0):ak Y (G.u p) h<|aG H p o where
 len:=r.p
 any:=λi c z=>by obtain⟨z1,d⟩:=r.G i c z;obtain⟨u,f⟩:=d.there;exact⟨λq=>q.j z1<|Qb f b,d.mon ((Wg o b).mon r) λu q=>by rw[Qa<|Qb q b];exact q⟩
 inj:=r.inj
 live:=λa z=>z.j (λz=>let⟨u,q⟩:=r.live a z;⟨u,by rw[Qa<|Qb q b];exact q⟩) λe=>⟨o,by rw[e];exact Wa⟩
def Wt(a):Mon G H (G.u a) H:=⟨λ_ _ _ z=>z,Aa4 _,λ_ _=>rfl,λ_ z=>.p z⟩
theorem Ext.more (e:Ext G H G1 H1)(c:H a=Option.none):Ext G H (G1.u a) H1:=
 ⟨e.j,e.le,e.aP,e.new,λb z=>.p<|e.fz b z,λb z=>z.j (λz=>e.old b z) λz=>.u<|z▸c,e.u⟩
theorem ak.more (r:ak Y G h H)(d:eu G a)(f:∃o,H a=y0 o):ak Y (G.u a) h H where
 len:=r.p
 any:=λi c z=>⟨λq=>q.j (r.G i c z).1 λe=>d i (r.lt z) e,(r.G i c z).2.mon (Wt a) λ_ q=>q⟩
 inj:=r.inj
 live:=λb z=>z.j (λz=>r.live b z) λe=>e▸f
theorem au.more (z:au Y G H w v)(j:gS w=k9->v≠.j a):au Y (G.u a) H w v:=by
 cases w with
|v d=>exact az.mon (Wt a) z
|own i=>obtain⟨b,g,z1,k,c,f,h⟩:=z;exact⟨b,g,z1,λq=>q.j k λe=>j rfl<|e▸z1,c,f,h.mon<|Wt a⟩
|bor i=>obtain⟨b,g,z1,c,f,h⟩:=z;exact⟨b,g,z1,c,f,h.mon<|Wt a⟩
theorem av.more (s:av Y G Z h U H)(b:eu G a)(d:∃o,H a=y0 o)(c:∀i w,M.Gr Z i=y0 w->gS w=k9->U[i]?≠y0 (y0<|.j a)):av Y (G.u a) Z h U H where
 len:=s.len
 slot:=λi w z=>by obtain⟨v,z1,f⟩:=s.u i w z;exact⟨v,z1,f.more λq e=>c i w z q<|e▸z1⟩
 apart:=s.p
 heap:=s.j.more b d
def aK(Z:M.Sl)(U:St)(H:Hp):M.W->V->Prop
|.v _,_=>True
|.j _,v=>∃a,v=.j a/\H a=u0
|.p _,v=>∃(i:Nat)(w:M.W),M.Gr Z i=y0 w/\gS w=k9/\U[i]?=y0 (y0 v)
def aK.back (e:Ext G H G1 H1)(f:ak Y G h H)(z:aK Z U H1 w v):aK Z U H w v:=by
 cases w with
|v d=>trivial
|own b=>obtain⟨a,z1,c⟩:=z;exact⟨a,z1,e.none f c⟩
|bor b=>exact z
def av.cR (s:av Y G Z h U H)(e:M.Gr Z i=y0 w)(k:gS w=k9)(q:U[i]?=y0 (y0<|.j a)):∃o,H a=y0 o:=by
 obtain⟨v,z1,f⟩:=s.u i w e;rw[q]at z1;cases z1;cases w with
|v d=>cases k
|own j=>obtain⟨b,g,z1,_,_,c,_⟩:=f;cases z1;exact⟨_,c⟩
|bor j=>
  obtain⟨b,g,z1,_,c,_⟩:=f;cases z1;obtain c|⟨o,c⟩:=c
  .exact⟨_,c⟩
  .exact⟨_,c⟩
def n8(Y:Ge)(E:XK)(d:M.D)(G:Gh)(H:Hp):Prop:=(∀c,d=.w c []->dO Y c->E (.j<|Y.j c) u0 H)∧
 (∀c f a,d=.y c f a->dO Y c->hF Y.K (Y.j c) (Str.ofString f)->∀dx u,G.p dx->H dx=y0 (.xd [(Str.ofString f,u)])->az Y G H a u->E (.j<|Y.j c) (y0 dx) H)∧
 ∀c f a,d=.p [.y c f a]->dO Y c->hF Y.K (Y.j c) (Str.ofString f)->∀dx u,G.p dx->H dx=y0 (.xd [(Str.ofString f,u),(Str.ofString f,u)])->az Y G H a u->E (.j<|Y.j c) (y0 dx) H
def ar{α:Type}(Y:Ge)(E:XK)(G:Gh)(H:Hp)(r:M.R α)(P:α->M.AH->Gh->Hp->Prop):Prop:=match r with
|.j a h'=>∀G' H',Ext G H G' H'->ak Y G' h' H'->P a h' G' H'
|.exc d h'=>∀G' H',Ext G H G' H'->ak Y G' h' H'->n8 Y E d G' H'
|.u=>False
def ar.on (p:ar Y E G H r P)(e:Ext G H G1 H1)(i:ak Y G h H):ar Y E G1 H1 r P:=by
 cases r with
|ok a j=>exactλc g f b=>p c g (e.x i f) b
|exc d j=>exactλc g f b=>p c g (e.x i f) b
|fail=>exact p
def tD(Y:Ge)(E:XK)(m:M.Sl->M.AH->M.R M.W):TE:=λU H Q=>∃G Z h,av Y G Z h U H/\ar Y E G H (m Z h) λw h' G' H'=>∀v,au Y G' H' w v->aK Z U H w v->Q v H'
def c9(Y:Ge)(E:XK)(m:M.Sl->M.AH->M.R Bool):TT:=λU H Q=>∃G Z h,av Y G Z h U H/\ar Y E G H (m Z h) λb _ _ H'=>Q b H'
def wb(b:ak Y G0 h0 H0)(a:Ext G0 H0 G H)(s:av Y G Z h U H)
 (p:ar Y E G0 H0 ((m Z h).p f) P)
 (k:∀w v h1 G1 H1,Ext G0 H0 G1 H1->Ext G H G1 H1->av Y G1 Z h1 U H1->au Y G1 H1 w v->aK Z U H w v->ar Y E G0 H0 (f w h1) P->Q v H1):tD Y E m U H Q:=by
 refine⟨G,Z,h,s,?_⟩;cases q:m Z h with
|ok w h1=>rw[q]at p;exactλG1 H1 e g v z1 c=>k w v h1 G1 H1 (a.x b e) e (s.ext e g) z1 c p
|exc d h1=>rw[q]at p;exact ar.on p a b
|fail=>rw[q]at p;exact p
def XQ(c:ak Y G0 h0 H0)(a:Ext G0 H0 G H)(s:av Y G Z h U H)
 (p:ar Y E G0 H0 ((m Z h).p f) P)
 (k:∀b h1 G1 H1,Ext G0 H0 G1 H1->Ext G H G1 H1->av Y G1 Z h1 U H1->ar Y E G0 H0 (f b h1) P->Q b H1):c9 Y E m U H Q:=by
 refine⟨G,Z,h,s,?_⟩;cases q:m Z h with
|ok w h1=>rw[q]at p;exactλG1 H1 e g=>k w h1 G1 H1 (a.x c e) e (s.ext e g) p
|exc d h1=>rw[q]at p;exact ar.on p a c
|fail=>rw[q]at p;exact p
def gU(Y:Ge)(E:XK)(m:M.Sl->M.AH->M.R (List M.D)):TA:=λU H Q=>∃G Z h,av Y G Z h U H/\ar Y E G H (m Z h) λds _ G' H'=>∀vs,ai Y G' H' ds vs->Q vs H'
def a9(Y:Ge)(G:Gh)(H:Hp):List M.W->List V->Prop
|[],vs=>vs=[]
|w::a,vs=>∃v r,vs=v::r/\au Y G H w v/\a9 Y G H a r
theorem a9.ext (e:Ext G H G' H')(a:ak Y G h H):∀{ws}{vs},a9 Y G H ws vs->a9 Y G' H' ws vs
|[],_,z=>z
|_::_,_,z7=>by obtain⟨v,r,z1,c,b⟩:=z7;exact⟨v,r,z1,au.ext e a c,a9.ext e a b⟩
theorem a9.length:∀{ws}{vs},a9 Y G H ws vs->ws.e=vs.e
|[],_,rfl=>rfl
|_::_,_,z7=>by obtain⟨_,_,rfl,_,z⟩:=z7;exact congrArg (·+1)<|a9.length z
def gD(Y:Ge)(E:XK)(m:M.Sl->M.AH->M.R (List M.W)):TA:=λU H Q=>∃G Z h,av Y G Z h U H/\ar Y E G H (m Z h) λa _ G' H'=>∀vs,a9 Y G' H' a vs->Q vs H'
def Q3(b:ak Y G0 h0 H0)(a:Ext G0 H0 G H)(s:av Y G Z h U H)
 (p:ar Y E G0 H0 ((m Z h).p f) P)
 (k:∀ds vs h1 G1 H1,Ext G0 H0 G1 H1->Ext G H G1 H1->av Y G1 Z h1 U H1->ai Y G1 H1 ds vs->ar Y E G0 H0 (f ds h1) P->Q vs H1):gU Y E m U H Q:=by
 refine⟨G,Z,h,s,?_⟩;cases q:m Z h with
|ok w h1=>rw[q]at p;exactλG1 H1 e c vs z=>k w vs h1 G1 H1 (a.x b e) e (s.ext e c) z p
|exc d h1=>rw[q]at p;exact ar.on p a b
|fail=>rw[q]at p;exact p
def Zr(b:ak Y G0 h0 H0)(a:Ext G0 H0 G H)(s:av Y G Z h U H)
 (p:ar Y E G0 H0 ((m Z h).p f) P)
 (k:∀ds vs h1 G1 H1,Ext G0 H0 G1 H1->Ext G H G1 H1->av Y G1 Z h1 U H1->a9 Y G1 H1 ds vs->ar Y E G0 H0 (f ds h1) P->Q vs H1):gD Y E m U H Q:=by
 refine⟨G,Z,h,s,?_⟩;cases q:m Z h with
|ok w h1=>rw[q]at p;exactλG1 H1 e c vs z=>k w vs h1 G1 H1 (a.x b e) e (s.ext e c) z p
|exc d h1=>rw[q]at p;exact ar.on p a b
|fail=>rw[q]at p;exact p
theorem ar.of (p:ar Y E G H ((M.R.of h o).p f) P):∃b,o=y0 b/\ar Y E G H (f b h) P:=by
 cases o with
|none=>exact p.j
|some b=>exact⟨b,rfl,p⟩
def ar.at(p:ar Y E G H (.j a h) P)(e:Ext G H G1 H1)(b:ak Y G1 h H1):P a h G1 H1:=p G1 H1 e b
def nT(e:Ext G H G1 H1)(s:av Y G1 Z h U H1)(m:av Y G Z h' U H)(r:au Y G1 H1 w v)(f:aK Z U H w v)(c:w.d=y0 d):
 ∃G2,Ext G H G2 H1/\av Y G2 Z h U H1/\az Y G2 H1 d v/\Mon G1 H1 G2 H1:=by
 cases w with
|v y=>cases c;exact⟨G1,e,s,r,⟨λ_ _ _ z=>z,Aa4 _,λ_ _=>rfl,λ_ z=>z⟩⟩
|own p=>cases c;obtain⟨a,n,rfl,A,t,k,x⟩:=r;obtain⟨b,u,j⟩:=f;cases u;refine⟨G1.u a,e.more j,s.more t ⟨_,k⟩ λi w q l z=>?_,⟨a,n,rfl,.p ⟨.u rfl,.p k⟩,x.mon<|Wt a⟩,Wt a⟩;obtain⟨o,g⟩:=m.cR q l z;rw[j]at g;cases g
|bor p=>cases c
end
open PySem PySem.Spec PyProof.Rows
mutual
def RV(hp:Heap):M.D->Value->Prop
|.L,u=>u=.w
|.C b,u=>u=.y b
|.o i,u=>∃t,u=.o i t
|.m s,u=>∃t,u=.m (ay s) t
|.p ds,u=>∃(a:Addr)(its:List Value),u=.j a/\IsTup hp a its.w/\cy hp ds its
|.u ds,u=>∃(a:Addr)(its:List Value),u=.j a/\hp.C a its.w/\cy hp ds its
|.j _,_=>False
|.w _ _,_=>False
|.y _ _ _,_=>False
def cy(hp:Heap):List M.D->List Value->Prop
|[],us=>us=[]
|d::ds,us=>∃u r,us=u::r/\RV hp d u/\cy hp ds r
end
theorem cy.length:∀{ds}{us},cy hp ds us->ds.e=us.e
|[],_,rfl=>rfl
|_::_,_,z7=>by obtain⟨_,_,rfl,_,z⟩:=z7;exact congrArg (·+1)<|cy.length z
theorem cy.get:∀{ds}{us}{j:Nat}{u},cy hp ds us->us[j]?=y0 u->∃d,ds[j]?=y0 d/\RV hp d u
|[],_,_,_,rfl,e=>by simp at e
|d::_,_,0,_,z7,e=>by obtain⟨v,_,rfl,z,_⟩:=z7;simp at e;subst e;exact⟨d,rfl,z⟩
|_::_,_,j+1,_,z7,e=>by obtain⟨_,_,rfl,_,z⟩:=z7;obtain⟨v,a,b⟩:=cy.get z (by simpa using e);exact⟨v,by simpa using a,b⟩
section
variable{X:Cx}{Y:Ge}{G:Gh}{H:Hp}{h:M.AH}{u7:List<|Addr×Obj}{U:St}{s:Shared}
mutual
theorem az.kN (I:Inv X u7 U H s)(hK:X.K=Y.K):∀{d:M.D}{x:V}{u:Value},az Y G H d x->RelV x u->M.Gp d=k9->RV s.j d u
|.L,_,_,rfl,r,_=>r
|.C _,_,_,rfl,r,_=>r
|.o _,_,_,rfl,r,_=>r
|.m _,_,_,rfl,r,_=>r
|.p ds,_,_,⟨a,vs,rfl,z2,z3⟩,r,n=>by cases r;obtain⟨its,r1,p1,_⟩:=I.tuple<|hK▸z2.sq;exact⟨a,its,rfl,p1,ai.kN I hK z3 r1<|by simpa[M.Gp]using n⟩
|.u ds,_,_,⟨a,vs,rfl,z2,z3⟩,r,n=>by cases r;obtain⟨its,r1,p1,_⟩:=I.C<|hK▸z2.sq;exact⟨a,its,rfl,p1.I,ai.kN I hK z3 r1<|by simpa[M.Gp]using n⟩
|.j _,_,_,_,_,n=>by simp[M.Gp]at n
|.w _ _,_,_,_,_,n=>by simp[M.Gp]at n
|.y _ _ _,_,_,_,_,n=>by simp[M.Gp]at n
theorem ai.kN (I:Inv X u7 U H s)(hK:X.K=Y.K):∀{ds:List M.D}{xs:List V}{us:List Value},ai Y G H ds xs->Vals xs us->M.Gi ds=k9->cy s.j ds us
|[],_,_,rfl,.p,_=>rfl
|d::ds,_,_,⟨v,r,rfl,z1,z2⟩,.j r1 r2,n=>by
  have n':M.Gp d=k9/\M.Gi ds=true:=by simpa[M.Gi]using n
  exact⟨_,_,rfl,az.kN I hK z1 r1 n'.1,ai.kN I hK z2 r2 n'.2⟩
end
mutual
theorem az.rv (I:Inv X u7 U H s)(hK:X.K=Y.K)(hr:ak Y G h H):∀{d:M.D}{x:V}{u:Value},az Y G H d x->RelV x u->M.Gp (M.res h d)=k9->RV s.j (M.res h d) u
|.L,_,_,rfl,r,_=>r
|.C _,_,_,rfl,r,_=>r
|.o _,_,_,rfl,r,_=>r
|.m _,_,_,rfl,r,_=>r
|.p ds,_,_,⟨a,vs,rfl,z2,z3⟩,r,n=>by cases r;obtain⟨its,r1,p1,_⟩:=I.tuple<|hK▸z2.sq;rw[M.res]at n⊢;exact⟨a,its,rfl,p1,ai.rv I hK hr z3 r1<|by simpa[M.Gp]using n⟩
|.u ds,_,_,⟨a,vs,rfl,z2,z3⟩,r,n=>by cases r;obtain⟨its,r1,p1,_⟩:=I.C<|hK▸z2.sq;rw[M.res]at n⊢;exact⟨a,its,rfl,p1.I,ai.rv I hK hr z3 r1<|by simpa[M.Gp]using n⟩
|.j i,_,_,⟨hi,e⟩,r,n=>by
  subst e;cases r;rw[M.res]at n⊢;cases q:h[i]? with
 |none=>rw[q]at n;simp[M.Gp]at n
 |some c=>
   cases c with
 |lst xs=>rw[q]at n;obtain⟨_,vs,z2,z3⟩:=hr.cell i xs q;obtain⟨its,r1,p1,_⟩:=I.C<|bu.of (K:=X.K) z2;exact⟨_,its,rfl,p1.I,ai.kN I hK z3 r1<|by simpa[M.Gp]using n⟩
 |obj c fs=>rw[q]at n;simp[M.Gp]at n
 |kv ks=>rw[q]at n;simp[M.Gp]at n
|.w _ _,_,_,_,_,n=>by simp[M.res,M.Gp]at n
|.y _ _ _,_,_,_,_,n=>by simp[M.res,M.Gp]at n
theorem ai.rv (I:Inv X u7 U H s)(hK:X.K=Y.K)(hr:ak Y G h H):∀{ds:List M.D}{xs:List V}{us:List Value},ai Y G H ds xs->Vals xs us->M.Gi (M.GZ h ds)=k9->cy s.j (M.GZ h ds) us
|[],_,_,rfl,.p,_=>rfl
|d::ds,_,_,⟨v,r,rfl,z1,z2⟩,.j r1 r2,n=>by
  rw[M.GZ]at n⊢;have n':M.Gp (M.res h d)=k9/\M.Gi (M.GZ h ds)=true:=by simpa[M.Gi]using n
  exact⟨_,_,rfl,az.rv I hK hr z1 r1 n'.1,ai.rv I hK hr z2 r2 n'.2⟩
end
theorem au.rv (I:Inv X u7 U H s)(g:X.K=Y.K)(i:ak Y G h H)(z:au Y G H w x)(r:RelV x u)(n:M.Gp (w.dd h)=k9):RV s.j (w.dd h) u:=by
 cases w with
|v d=>exact az.rv I g i z r n
|own l=>obtain⟨a,k,rfl,_,_,e,j⟩:=z;cases r;obtain⟨b,c,f,_⟩:=I.C<|bu.of e;exact⟨a,b,rfl,f.I,ai.rv I g i j c<|by simp_all⟩
|bor l=>obtain⟨a,k,rfl,_,e,j⟩:=z;cases r;obtain⟨b,c,f,_⟩:=I.C<|.p e;exact⟨a,b,rfl,f.I,ai.rv I g i j c<|by simp_all⟩
end
def zF(h:ay a=ay b):a=b:=by have:=congrArg Str.cps h;simpa[ay]using this
def xW{xs c:List Value}(h1:IsTup hp a xs.w)(h2:IsTup hp a c.w):xs=c:=by obtain⟨o,f,_,n,e⟩:=h1;obtain⟨g,b,_,h,d⟩:=h2;rw[f]at b;cases b;rw[e]at d;cases d;rfl
def jN{b:Heap}{xs d:List Value}(h1:b.C a xs.w)(h2:b.C a d.w):xs=d:=by obtain⟨o,g,_,n,f⟩:=h1;obtain⟨h,c,_,i,e⟩:=h2;rw[g]at c;cases c;rw[f]at e;cases e;rfl
def WA(h1:IsTup hp a xs)(h2:hp.C a ys):False:=by obtain⟨o,e,d,_⟩:=h1;obtain⟨f,b,c,_⟩:=h2;rw[e]at b;cases b;rw[d]at c;exact absurd c YA
mutual
theorem RV.inj {hp:Heap}:∀{d e:M.D}{u:Value},RV hp d u->RV hp e u->d=e
|.L,e,_,rfl,q=>by cases e<;>first|rfl|(simp[RV]at q)
|.C _,e,_,rfl,q=>by cases e<;>first|(simp[RV]at q;done)|(have q:=q;simp[RV]at q;try rw[q])
|.o _,e,_,z7,q=>by obtain⟨t,rfl⟩:=z7;cases e<;>first|(simp[RV]at q;done)|(have q:=q;simp[RV]at q;try rw[q])
|.m _,e,_,z7,q=>by
  obtain⟨t,rfl⟩:=z7;cases e with
 |str z=>
   obtain⟨t',q⟩:=q;injection q with q1 q2
   rw[zF q1]
 |_=>simp[RV]at q
|.p ds,e,_,z7,q=>by
  obtain⟨a,its,rfl,p,r⟩:=z7;cases e with
 |tup es=>obtain⟨b,its2,e,p2,r2⟩:=q;cases e;cases xW p p2;rw[cy.inj r r2]
 |lst es=>obtain⟨b,its2,e,p2,r2⟩:=q;cases e;exact(WA p p2).j
 |_=>simp[RV]at q
|.u ds,e,_,z7,q=>by
  obtain⟨a,its,rfl,p,r⟩:=z7;cases e with
 |lst es=>obtain⟨b,its2,e,p2,r2⟩:=q;cases e;cases jN p p2;rw[cy.inj r r2]
 |tup es=>obtain⟨b,its2,e,p2,r2⟩:=q;cases e;exact(WA p2 p).j
 |_=>simp[RV]at q
|.j _,_,_,q,_=>q.j
|.w _ _,_,_,q,_=>q.j
|.y _ _ _,_,_,q,_=>q.j
theorem cy.inj {hp:Heap}:∀{d e:List M.D}{u:List Value},cy hp d u->cy hp e u->d=e
|[],e,_,rfl,q=>by
  cases e with
 |nil=>rfl
 |cons a b=>obtain⟨_,_,z,_⟩:=q;cases z
|d::ds,e,_,z7,q=>by
  obtain⟨u,r,rfl,z1,z2⟩:=z7;cases e with
|nil=>cases(show _::_=[]from q)
|cons a b=>obtain⟨_,_,z,y1,y2⟩:=q;cases z;rw[RV.inj z1 y1,cy.inj z2 y2]
end
mutual
theorem RV.refl {hp:Heap}:∀{d:M.D}{u:Value},RV hp d u->M.cW d d=k9
|.L,_,_=>rfl
|.C _,_,_=>by simp
|.o _,_,_=>by simp
|.m _,_,_=>by simp
|.p ds,_,z7=>by obtain⟨_,_,_,_,r⟩:=z7;rw[M.cW];exact cy.refl r
|.u ds,_,z7=>by obtain⟨_,_,_,_,r⟩:=z7;rw[M.cW];exact cy.refl r
|.j _,_,q=>q.j
|.w _ _,_,q=>q.j
|.y _ _ _,_,q=>q.j
theorem cy.refl {hp:Heap}:∀{d:List M.D}{u:List Value},cy hp d u->M.GN d d=k9
|[],_,_=>rfl
|d::ds,_,z7=>by obtain⟨_,_,_,z1,z2⟩:=z7;exact by rw[M.GN,RV.refl z1,cy.refl z2];rfl
 end
def kJ(xs c:List M.D)(j:Nat):Bool:=match xs[j]?,c[j]? with
|some a,y0 b=>M.cW a b
|_,_=>k9
def xJ(n)(e):(Ac2<|n+1).N e=(e 0&&(Ac2 n).N λj=>e<|j+1):=by rw[Rg,Ai,Aj6];rfl
theorem W4:∀(xs ys),xs.e=ys.e->(Ac2 xs.e).N (kJ xs ys)=M.GN xs ys
|[],[],_=>rfl
|[],_::_,h=>by simp at h
|_::_,[],h=>by simp at h
|x::xs,y::ys,h=>by rw[Ab1,xJ,M.GN];have a:=W4 xs ys (by simpa using h);rw[←a];rfl
theorem Z7:∀(xs ys),M.GN xs ys=k9->xs.e=ys.e
|[],[],_=>rfl
|[],_::_,h=>by simp at h
|_::_,[],h=>by simp at h
|x::xs,y::ys,h=>by rw[M.GN,Aa9]at h;rw[Ab1,Ab1,Z7 xs ys h.2]
def r9(h:xs.e≠ys.e):M.GN xs ys=false:=by
 cases e:M.GN xs ys with
|false=>rfl
|true=>exact absurd (Z7 xs ys e) h
open SeqAt in
structure dD(A:Around)(s:Shared)(u v:Value)(b:Bool):Prop where
 rc:RcAt A s u v b
 ne:RcNeAt A s u v<|!b
 eq:EqAt A s u v b
section
open SeqAt
variable{A:Around}{s:Shared}
theorem WC:∀{ds}{j:Nat}{d},ds[j]?=y0 d->M.dep d<=M.G8 ds
|[],_,_,e=>by simp at e
|x::a,0,d,e=>by simp at e;subst e;simp only[M.G8];lia
|x::a,j+1,d,e=>by have:=WC (by simpa using e);simp only[M.G8];lia
def nc(b:Bool):((if b then(1:Int)else 0))=((b.j:Nat):Int):=by cases b<;>rfl
def tK(a b):(ay a==ay b)=(a==b):=by
 by_cases h:a=b
 .subst h;simp
 .have c:=λe=>h<|zF e;rw[beq_eq_false_iff_ne.p h,beq_eq_false_iff_ne.p c]
def zU(f:s.j.C l its.w)(h:s.j.C b its2.w)(k:cy s.j xs its)(m:cy s.j ys its2)(i:A.u<cLine)
 (x:∀(j:Nat) a c u v,xs[j]?=y0 a->ys[j]?=y0 c->RV s.j a u->RV s.j c v->EqAt A.w s u v (M.cW a c)):dD A s (.j l) (.j b)<|M.GN xs ys:=by
 have q:∀j w (t:j<its2.w.j),EqAt A.w s its.w[j] its2.w[j]<|kJ xs ys j:=λj w t=>by obtain⟨a,o,r⟩:=k.get (j:=j) (u:=its.w[j]) YC;obtain⟨c,n,z⟩:=m.get (j:=j) (u:=its2.w[j]) YC;have:=x j a c _ _ o n r z;unfold kJ;rw[o,n];exact this
 have y:=k.length;have B:=m.length;have two:RcAt A s (.j l) (.j b) (M.GN xs ys)/\RcNeAt A s (.j l) (.j b) (!M.GN xs ys):=by
  by_cases p:xs.e=ys.e
  .have d:its.w.j=its2.w.j:=by simp;lia
   have e:(Ac2 its.w.j).N (kJ xs ys)=M.GN xs ys:=by rw[Ac,←y];exact W4 xs ys p
   have a:=RcAt.lists f h d i q;have c:=RcNeAt.lists f h d i q;rw[e]at a c;exact⟨a,c⟩
  .have d:(its.w.j !=its2.w.j)=true:=by simp;lia
   rw[r9 p];exact⟨RcAt.lists_lengths f h d i,RcNeAt.lists_lengths f h d i⟩
 refine⟨two.1,two.2,?_⟩;by_cases g:l=b
 .subst g;cases jN f h;cases cy.inj k m;rw[cy.refl k];exact EqAt.same _
 .exact EqAt.of_refs g two.1
def QM(i:IsTup s.j l its.w)(k:IsTup s.j b its2.w)(f:cy s.j xs its)(h:cy s.j ys its2)(n:A.u<cLine)
 (w:∀(j:Nat) a c u v,xs[j]?=y0 a->ys[j]?=y0 c->RV s.j a u->RV s.j c v->EqAt A.w s u v (M.cW a c)):dD A s (.j l) (.j b)<|M.GN xs ys:=by
 have p:∀j t (r:j<its2.w.j),EqAt A.w s its.w[j] its2.w[j]<|kJ xs ys j:=λj t r=>by obtain⟨a,o,q⟩:=f.get (j:=j) (u:=its.w[j]) YC;obtain⟨c,m,x⟩:=h.get (j:=j) (u:=its2.w[j]) YC;have:=w j a c _ _ o m q x;unfold kJ;rw[o,m];exact this
 have e:((Ac2<|min its.w.j its2.w.j).N (kJ xs ys)&&its.w.j==its2.w.j)=M.GN xs ys:=by
  rw[Ac,Ac,←f.length,←h.length];by_cases g:xs.e=ys.e
  .rw[←g,Nat.min_self,W4 xs ys g];simp
  .rw[r9 g];simp[g]
 have a:=RcAt.tuples i k n p;have c:=RcNeAt.tuples i k n p;rw[e]at a c;refine⟨a,c,?_⟩;by_cases d:l=b
 .subst d;cases xW i k;cases cy.inj f h;rw[cy.refl f];exact EqAt.same _
 .exact EqAt.of_refs d a
def dD.of (h:dD A s u v b)(e:b=b'):dD A s u v b':=e▸h
def AD:∀(n:Nat)(d e:M.D)(A:Around)(u v:Value),M.dep d<=n->A.u+n<cLine->RV s.j d u->RV s.j e v->dD A s u v (M.cW d e):=by
 intro n;induction n with
|zero=>
  intro d e A u v C L m f;have c:A.u<cLine:=YD;cases d with
 |aj=>
   cases(show u=.w from m);cases e with
   |aj=>cases(show v=.w from f);exact⟨RcAt.none_none,RcNeAt.none_none,EqAt.same _⟩
   |bl b=>cases(show v=.y b from f);exact⟨RcAt.none_bool b,RcNeAt.none_bool b,EqAt.none_bool b⟩
   |int i=>obtain⟨t,rfl⟩:=f;exact⟨RcAt.none_int i t,RcNeAt.none_int i t,EqAt.none_int i t⟩
   |str z=>obtain⟨t,rfl⟩:=f;exact⟨RcAt.none_str _ t,RcNeAt.none_str _ t,EqAt.none_str _ t⟩
   |tup o=>obtain⟨a,k,rfl,p,_⟩:=f;exact⟨RcAt.none_tuple p c,RcNeAt.none_tuple p c,EqAt.none_tuple p c⟩
   |lst o=>obtain⟨a,k,rfl,p,_⟩:=f;exact⟨RcAt.none_list p c,RcNeAt.none_list p c,EqAt.none_list p c⟩
   |ref _=>exact f.j
   |exc _ _=>exact f.j
   |err _ _ _=>exact f.j
 |bl x=>
   cases(show u=.y x from m);cases e with
   |aj=>cases(show v=.w from f);exact⟨RcAt.bool_none x,RcNeAt.bool_none x,EqAt.bool_none x⟩
   |bl b=>cases(show v=.y b from f);exact⟨RcAt.bool_bool x b,RcNeAt.bool_bool x b,EqAt.bool_bool x b⟩
   |int i=>obtain⟨t,rfl⟩:=f;exact(dD.mk (RcAt.bool_int x i t) (RcNeAt.bool_int x i t)<|EqAt.bool_int x i t).of<|by rw[nc];rfl
   |str z=>obtain⟨t,rfl⟩:=f;exact⟨RcAt.bool_str x _ t,RcNeAt.bool_str x _ t,EqAt.bool_str x _ t⟩
   |tup o=>obtain⟨a,k,rfl,p,_⟩:=f;exact⟨RcAt.bool_tuple x p c,RcNeAt.bool_tuple x p c,EqAt.bool_tuple x p c⟩
   |lst o=>obtain⟨a,k,rfl,p,_⟩:=f;exact⟨RcAt.bool_list x p c,RcNeAt.bool_list x p c,EqAt.bool_list x p c⟩
   |ref _=>exact f.j
   |exc _ _=>exact f.j
   |err _ _ _=>exact f.j
 |int x=>
   obtain⟨g,rfl⟩:=m;cases e with
   |aj=>cases(show v=.w from f);exact⟨RcAt.int_none x g,RcNeAt.int_none x g,EqAt.int_none x g⟩
   |bl b=>cases(show v=.y b from f);exact(dD.mk (RcAt.int_bool x g b) (RcNeAt.int_bool x g b)<|EqAt.int_bool x g b).of<|by rw[nc];rfl
   |int i=>obtain⟨t,rfl⟩:=f;exact⟨RcAt.int_int x g i t,RcNeAt.int_int x g i t,EqAt.int_int x g i t⟩
   |str z=>obtain⟨t,rfl⟩:=f;exact⟨RcAt.int_str x g _ t,RcNeAt.int_str x g _ t,EqAt.int_str x g _ t⟩
   |tup o=>obtain⟨a,k,rfl,p,_⟩:=f;exact⟨RcAt.int_tuple x g p c,RcNeAt.int_tuple x g p c,EqAt.int_tuple x g p c⟩
   |lst o=>obtain⟨a,k,rfl,p,_⟩:=f;exact⟨RcAt.int_list x g p c,RcNeAt.int_list x g p c,EqAt.int_list x g p c⟩
   |ref _=>exact f.j
   |exc _ _=>exact f.j
   |err _ _ _=>exact f.j
 |str x=>
   obtain⟨g,rfl⟩:=m;cases e with
   |aj=>cases(show v=.w from f);exact⟨RcAt.str_none _ g,RcNeAt.str_none _ g,EqAt.str_none _ g⟩
   |bl b=>cases(show v=.y b from f);exact⟨RcAt.str_bool _ g b,RcNeAt.str_bool _ g b,EqAt.str_bool _ g b⟩
   |int i=>obtain⟨t,rfl⟩:=f;exact⟨RcAt.str_int _ g i t,RcNeAt.str_int _ g i t,EqAt.str_int _ g i t⟩
   |str z=>obtain⟨t,rfl⟩:=f;exact(dD.mk (RcAt.str_str _ g _ t) (RcNeAt.str_str _ g _ t)<|EqAt.str_str _ g _ t).of<|by rw[tK];rfl
   |tup o=>obtain⟨a,k,rfl,p,_⟩:=f;exact⟨RcAt.str_tuple _ g p c,RcNeAt.str_tuple _ g p c,EqAt.str_tuple _ g p c⟩
   |lst o=>obtain⟨a,k,rfl,p,_⟩:=f;exact⟨RcAt.str_list _ g p c,RcNeAt.str_list _ g p c,EqAt.str_list _ g p c⟩
   |ref _=>exact f.j
   |exc _ _=>exact f.j
   |err _ _ _=>exact f.j
 |tup B=>simp only[M.dep]at C;lia
 |lst B=>simp only[M.dep]at C;lia
 |ref _=>exact m.j
 |exc _ _=>exact m.j
 |err _ _ _=>exact m.j
|succ n w=>
  intro d e A u v C L m f;have c:A.u<cLine:=by lia
  cases d with
|tup B=>
   obtain⟨l,y,rfl,h,I⟩:=m;have r:M.G8 B<=n:=by simp only[M.dep]at C;exact IR ‹_›
   cases e with
 |aj=>cases(show v=.w from f);exact⟨RcAt.tuple_none h c,RcNeAt.tuple_none h c,EqAt.tuple_none h c⟩
 |bl b=>cases(show v=.y b from f);exact⟨RcAt.tuple_bool b h c,RcNeAt.tuple_bool b h c,EqAt.tuple_bool b h c⟩
 |int i=>obtain⟨t,rfl⟩:=f;exact⟨RcAt.tuple_int i t h c,RcNeAt.tuple_int i t h c,EqAt.tuple_int i t h c⟩
 |str z=>obtain⟨t,rfl⟩:=f;exact⟨RcAt.tuple_str _ t h c,RcNeAt.tuple_str _ t h c,EqAt.tuple_str _ t h c⟩
 |tup o=>obtain⟨a,k,rfl,p,q⟩:=f;rw[M.cW];exact QM h p I q c λj F J G D H N K E=>(w F J A.w G D (Ac0 (WC H) r) (by show A.u+1+n<cLine;lia) K E).eq
 |lst o=>obtain⟨a,k,rfl,p,_⟩:=f;exact⟨RcAt.tuple_list h p c,RcNeAt.tuple_list h p c,EqAt.tuple_list h p c⟩
 |ref _=>exact f.j
 |exc _ _=>exact f.j
 |err _ _ _=>exact f.j
|lst B=>
   obtain⟨l,y,rfl,h,I⟩:=m;have r:M.G8 B<=n:=by simp only[M.dep]at C;exact IR ‹_›
   cases e with
 |aj=>cases(show v=.w from f);exact⟨RcAt.list_none h c,RcNeAt.list_none h c,EqAt.list_none h c⟩
 |bl b=>cases(show v=.y b from f);exact⟨RcAt.list_bool b h c,RcNeAt.list_bool b h c,EqAt.list_bool b h c⟩
 |int i=>obtain⟨t,rfl⟩:=f;exact⟨RcAt.list_int i t h c,RcNeAt.list_int i t h c,EqAt.list_int i t h c⟩
 |str z=>obtain⟨t,rfl⟩:=f;exact⟨RcAt.list_str _ t h c,RcNeAt.list_str _ t h c,EqAt.list_str _ t h c⟩
 |lst o=>obtain⟨a,k,rfl,p,q⟩:=f;rw[M.cW];exact zU h p I q c λj F J G D H N K E=>(w F J A.w G D (Ac0 (WC H) r) (by show A.u+1+n<cLine;lia) K E).eq
 |tup o=>obtain⟨a,k,rfl,p,_⟩:=f;exact⟨RcAt.list_tuple h p c,RcNeAt.list_tuple h p c,EqAt.list_tuple h p c⟩
 |ref _=>exact f.j
 |exc _ _=>exact f.j
 |err _ _ _=>exact f.j
|aj=>exact w .L e A u v YC (Ag2 ‹_›) m f
|bl x=>exact w _ e A u v YC (Ag2 ‹_›) m f
|int x=>exact w _ e A u v YC (Ag2 ‹_›) m f
|str x=>exact w _ e A u v YC (Ag2 ‹_›) m f
|ref _=>exact m.j
|exc _ _=>exact m.j
|err _ _ _=>exact m.j
end
def aw(Y:Ge)(E:XK)(G:Gh)(H:Hp)(r:M.R M.W)(Q:VK):Prop:=ar Y E G H r λw _ G' H'=>∀v,au Y G' H' w v->aK [] [] H w v->Q v H'
section
open Lake renaming MS.ai.length->Lake.MS.ai.e
variable{X:Cx}{Y:Ge}{G:Gh}{H:Hp}{h:M.AH}{u7:List<|Addr×Obj}{U:St}{s:Shared}{Q:VK}{E:XK}
theorem aw.v (p:aw Y E G H (.j (.v d) h) Q)(a:ak Y G h H){v:V}(z:az Y G H d v):Q v H:=p G H Ext.refl a v z trivial
def ak.mM (c:ak Y G h H)(b:H a=u0):¬G.p a:=λq=>by obtain⟨o,z⟩:=c.live a q;rw[b]at z;cases z
def ak.mJ (d:ak Y G h H)(c:H a=u0):eu G a:=λr b e=>by obtain⟨o,q⟩:=d.there b;rw[e,c]at q;cases q
theorem aw.own (p:aw Y E G H (.j (.j xs) h) Q)(c:ak Y G h H)(z:ai Y G H xs vs)(a)(b:H a=u0):Q (.j a)<|aG H a<|.u vs:=
 p G _ (WH _ b) (c.new _ b) _ ⟨a,vs,rfl,c.mM b,c.mJ b,Wa,z.ext (WH _ b) c⟩ ⟨a,rfl,b⟩
theorem aw.tup (p:aw Y E G H (.j (.v<|.p xs) h) Q)(c:ak Y G h H)(z:ai Y G H xs vs)(a)(b:H a=u0):Q (.j a)<|aG H a<|.tup vs:=
 p _ _ (Wg _ b) (c.fE _ b) _ ⟨a,vs,rfl,.p ⟨.u rfl,Wa⟩,z.ext (Wg _ b) c⟩ trivial
theorem aw.of (p:aw Y E G H ((M.R.of h o).p f) Q):∃b,o=y0 b/\aw Y E G H (f b h) Q:=ar.of p
def aw.mk (p:ar Y E G0 H0 r λw _ G' H'=>∀v,au Y G' H' w v->aK Z U H0 w v->Q v H')(e:Ext G0 H0 G H)(f:ak Y G0 h0 H0):aw Y E G H r Q:=by
 cases r with
|ok w k=>
  refineλG' H' c b v z1 h=>p G' H' (e.trans f c) b v z1 ?_;cases w with
 |v d=>trivial
 |own j=>obtain⟨a,g,l⟩:=h;exact⟨a,g,e.none f l⟩
 |bor j=>obtain⟨i,w,g,_⟩:=h;simp at g
|exc d k=>exactλG' H' c b=>p G' H' (e.trans f c) b
|fail=>exact p
theorem au.lst (i:ak Y G h H)(z:au Y G H w v)(e:w.bh h=y0 xs):∃a vs,v=.j a/\bu Y.K H a vs/\ai Y G H xs vs:=by
 cases w with
|v d=>
  cases d with
 |lst g=>cases e;obtain⟨a,vs,z1,f,b⟩:=z;exact⟨a,vs,z1,f.sq,b⟩
 |ref r=>
   obtain⟨k,z1⟩:=z;have e:(match h[r]? with|some (M.Cell.lst zs)=>y0 zs|_=>u0)=y0 xs:=e;cases q:h[r]? with
   |none=>rw[q]at e;cases e
   |some c=>
    cases c with
   |lst g=>rw[q]at e;cases e;obtain⟨_,vs,f,b⟩:=i.cell r _ q;exact⟨_,vs,z1,bu.of f,b⟩
   |obj c fs=>rw[q]at e;cases e
   |kv j=>rw[q]at e;cases e
 |aj=>cases e
 |bl _=>cases e
 |int _=>cases e
 |str _=>cases e
 |tup _=>cases e
 |exc _ _=>cases e
 |err _ _ _=>cases e
|own g=>cases e;obtain⟨a,vs,z1,_,_,f,b⟩:=z;exact⟨a,vs,z1,bu.of f,b⟩
|bor g=>cases e;obtain⟨a,vs,z1,_,f,b⟩:=z;exact⟨a,vs,z1,.p f,b⟩
theorem au.p5 (i:ak Y G h H)(z:au Y G H w v)(e:w.iO h=y0 xs):∃a vs,v=.j a/\Rd H a (.u vs)/\ai Y G H xs vs:=by
 cases w with
|v d=>
  cases d with
 |ref r=>
   obtain⟨k,z1⟩:=z;have e:(match h[r]? with|some (M.Cell.lst zs)=>y0 zs|_=>u0)=y0 xs:=e;cases q:h[r]? with
   |none=>rw[q]at e;cases e
   |some c=>
    cases c with
   |lst g=>rw[q]at e;cases e;obtain⟨_,vs,f,b⟩:=i.cell r _ q;exact⟨_,vs,z1,.p f,b⟩
   |obj c fs=>rw[q]at e;cases e
   |kv j=>rw[q]at e;cases e
 |_=>cases e
|own g=>cases e;obtain⟨a,vs,z1,_,_,f,b⟩:=z;exact⟨a,vs,z1,.p f,b⟩
|bor g=>cases e;obtain⟨a,vs,z1,_,f,b⟩:=z;exact⟨a,vs,z1,f,b⟩
theorem au.seq (i:ak Y G h H)(z:au Y G H w v)(e:w.seq? h=y0 xs):∃a vs,v=.j a/\(bu Y.K H a vs\/cC Y.K H a vs)/\ai Y G H xs vs:=by
 have b:w.bh h=y0 xs->∃a vs,v=.j a/\(bu Y.K H a vs\/cC Y.K H a vs)/\ai Y G H xs vs:=λe=>by obtain⟨a,vs,z1,g,c⟩:=z.lst i e;exact⟨a,vs,z1,.p g,c⟩
 cases w with
|v d=>
  cases d with
 |tup f=>cases e;obtain⟨a,vs,z1,g,c⟩:=z;exact⟨a,vs,z1,.u g.sq,c⟩
 |lst f=>exact b e
 |ref r=>exact b e
 |aj=>cases e
 |bl _=>cases e
 |int _=>cases e
 |str _=>cases e
 |exc _ _=>cases e
 |err _ _ _=>cases e
|own f=>exact b e
|bor f=>exact b e
def D6(I:Inv X u7 U H s)(r:Rd H a<|.u vs):vs.e<=sizeLine/\∃L n,Vals vs L/\vs.e=L.e/\s.j.p a=y0 {cls:=.p "list",data:=.j L.w n}:=by obtain⟨z,L,n,r,e⟩:=r.ok I.aL;exact⟨z,L,n,r,r.length,e⟩
def Jm:M.bp<=sizeLine:=by rw[M.Gf];decide
def Lq(K:Aa5):R2:=λx y H Q=>∃l b xs zs,x=.j l/\y=.j b/\bu K H l xs/\bu K H b zs/\xs.e+zs.e<=sizeLine/\∀p,H p=u0->Q (.j p) (aG H p<|.u<|xs++zs)
def BQ:b7 X (binaryOp .Add)<|Lq X.K:=by
 intro p s U H x y v u Q I F D h;obtain⟨l,b,M,O,rfl,rfl,w,z,N,q⟩:=h;cases F;cases D;obtain⟨c,r,K,_⟩:=I.C w;obtain⟨a,o,C,_⟩:=I.C z;have P:=r.length;have L:=o.length;have B:c.w++a.w=(c++a).w:=by simp
 obtain⟨⟨A,dd,k,sl⟩,t,G,n,J⟩:=id K.I;obtain⟨⟨m,f,i,j⟩,d,e,E,g⟩:=id C.I;subst G J e g;refine PB ⟨_,t,rfl⟩ ⟨_,d,rfl⟩ noFill_list_add seq_list_add PySem.F.slot_list_add PySem.F.entry_list_add (PySem.F.args_list_add_2 _ _) (list_addW l b c.w a.w n E dd f sl j<|by simp_all) ⟨t,d,?_⟩;rw[B];exact⟨.j _,_,I.mG (r.append o)<|by simp_all,rfl,q _ I.fresh⟩
def MX:R2:=λx y H Q=>∃l k xs,x=.j l/\y=.o k/\Rd H l (.u xs)/\-(2^63)<=k/\k<2^63/\xs.e*k.j<=sizeLine∧
 ∀p,H p=u0->Q (.j p) (aG H p<|.u (Aa1 k.j xs).L)
def Hz:b7 X (binaryOp .Mult) MX:=by
 intro j s U H x y v u Q I D C h;obtain⟨l,k,M,rfl,rfl,w,G,B,o,q⟩:=h;cases D;obtain⟨t,rfl⟩:=C;obtain⟨z,b,n,r,A,e⟩:=D6 I w;have d:b.w.j*k.j<=sizeLine:=by rw[Ac,←A];exact o
 have i:¬b.w.j*k.j>(2^63-1)/8:=by
  have:sizeLine<=(2^63-1)/8:=by decide
  lia
 have f:¬(!Builtin.List.listFitsIndex k)=true:=by rw[fitsIndex_both G B];exact Ab0
 have c:¬Builtin.List.listTooLong (b.w.j*k.j)=true:=by rw[Ig d];exact Ab0
 have g:List.foldl (λE p=>E++p) #[] (Aa1 (if b.w.y=k9 then 0 else k.j) b.w)=(Aa1 k.j b).L.w:=by
  have K:=λm=>by have:=ZS b m [];rw[Ah7]at this;exact this
  rw[K];cases b with
|nil=>simp
|cons a L=>rw[Fk YC]
 refine Py rfl ⟨_,e,rfl⟩ (λJ=>Pv J k t) noFill_list_mul F.fills_int_mul SE repeat_list F.slot_int_index.j
 <|OR SE (Pv s k t) F.entry_int_rmul (F.args_int_rmul_2 _ _) (int___rmul___int_list k t l b.w n)
    ⟨e,rfl,⟨_,e,rfl⟩,OR F.slot_list_mul ⟨_,e,rfl⟩ F.entry_list_mul (F.args_list_mul_2 _ _) (AutoListH.list___mul___list_int_3 l b.w n k t f i c) ⟨e,?_⟩⟩
 rw[g];exact⟨.j _,_,I.mG (r.rep k.j)<|by rw[Hy,R3];exact o,rfl,q _ I.fresh⟩
theorem ai.rep (z:ai Y G H ds vs):∀k:Nat,ai Y G H (Aa1 k ds).L (Aa1 k vs).L
|0=>rfl
|k+1=>by exact z.append<|ai.rep z k
noncomputable def n7:M.Op->Operator
|.add=>.Add|.sub=>.Sub|.mul=>.Mult|.fdiv=>.FloorDiv|.mod=>.Mod|.pow=>.Pow|.shl=>.LShift|.shr=>.RShift|.band=>.BitAnd|.bor=>.BitOr|.bxor=>.BitXor
def B8(Y:Ge)(E:XK)(o:M.Op):R2:=λx y H Q=>∃G h b a,ak Y G h H/\au Y G H b x/\au Y G H a y/\aw Y E G H (M.GB o b a h) Q
def ZA(s t):ay s++ay t=ay (s++t):=by show Str.mk _=Str.mk _;simp[ay]
def Wc(s):(ay s).e=s.e:=by show s.w.j=s.e;simp
noncomputable def nC:M.Op->Bool
|.shl=>u9
|.shr=>u9
|.band=>u9
|.bor=>u9
|.bxor=>u9
|_=>k9
def Hb(d:nC o=k9)(e:M.Gj o i j=y0 k)(I:Inv X u7 U H s)(b:RelV (.o i) v)(a:RelV (.o j) u)(q:Q (.o k) H):
 wpAny (model X.p X.w) X.A (binaryOp (n7 o) v u) (EP X u7 U Q) X.xe s:=by
 cases o with
|add=>cases e;exact CH u7 s U H _ _ v u Q I b a ⟨i,j,rfl,rfl,q⟩
|sub=>cases e;exact DZ u7 s U H _ _ v u Q I b a ⟨i,j,rfl,rfl,q⟩
|mul=>
  simp only[M.Gj,M.GV,M.GU]at e;split at e
  .rename_i c;cases e;exact MR u7 s U H _ _ v u Q I b a ⟨i,j,rfl,rfl,c,q⟩
  .cases e
|fdiv=>
  simp only[M.Gj,M.Kj,M.GU]at e;split at e
  .rename_i c;cases e;exact Bl u7 s U H _ _ v u Q I b a ⟨i,j,rfl,rfl,c,q⟩
  .cases e
|mod=>
  simp only[M.Gj,M.GU]at e;split at e
  .rename_i c;cases e;exact K7 u7 s U H _ _ v u Q I b a ⟨i,j,rfl,rfl,c,q⟩
  .cases e
|pow=>
  simp only[M.Gj,M.Kv,M.GU]at e;split at e
  .rename_i c;cases e;exact C8 u7 s U H _ _ v u Q I b a ⟨i,j,rfl,rfl,c,q⟩
  .cases e
|shl=>cases d
|shr=>cases d
|band=>cases d
|bor=>cases d
|bxor=>cases d
theorem au.int (z:au Y G H w v)(e:w.int?=y0 i):v=.o i:=by
 cases w with
|v d=>
  cases d with
 |int j=>cases e;exact z
 |_=>cases e
|_=>cases e
theorem au.str (z:au Y G H w v)(e:w.bc=y0 i):v=.m (ay i):=by
 cases w with
|v d=>
  cases d with
 |str j=>cases e;exact z
 |_=>cases e
|_=>cases e
theorem au.tup (z:au Y G H w v)(e:w.ea=y0 xs):∃a vs,v=.j a/\gQ Y G H a vs/\ai Y G H xs vs:=by
 cases w with
|v d=>
  cases d with
 |tup j=>cases e;exact z
 |_=>cases e
|_=>cases e
set_option tactic.hygienic true in
def La(o)(V:nC o=k9)(C:X.K=Y.K):b7 X (binaryOp<|n7 o)<|B8 Y E o:=by
 rintro d s U H x y v u Q I t r ⟨G,h,Z,w2,m,B,w,p⟩;have hL:=Jm;unfold M.GB at p;split at p
 .rename_i i j l f;obtain⟨k,e,p⟩:=p.of;cases B.int l;cases w.int f;exact Hb V e I t r<|p.v m rfl
 .split at p
  .--add
    unfold M.KB at p;split at p
    .rename_i a b l f;cases B.str l;cases w.str f;split at p
     .rename_i c;exact LX d s U H _ _ v u Q I t r ⟨_,_,rfl,rfl,by rw[Wc,Wc];exact Ac0 ‹_› ‹_›,by rw[ZA];exact p.v m rfl⟩
     .exact p.j
    .split at p
     .rename_i N P l f;obtain⟨a,n,rfl,q,g⟩:=B.tup l;obtain⟨b,K,rfl,L,J⟩:=w.tup f;split at p
      .rename_i c;have F:=g.e;have O:=J.e;by_cases ex:n=[]
       .subst ex;have:N=[]:=Ag4 F;subst this;exact Ly d s U H _ _ v u Q I t r ⟨a,b,K,rfl,rfl,C▸q.sq,C▸L.sq,p.v m ⟨b,K,rfl,L,J⟩⟩
       refine HG d s U H _ _ v u Q I t r ⟨a,b,n,K,rfl,rfl,C▸q.sq,C▸L.sq,ex,by lia,λe=>?_,λe D A=>p.tup m (g.append J) D A⟩
       .subst e;have:P=[]:=Ag4 O;subst this;rw[Ac7]at p;exact p.v m ⟨a,n,rfl,q,g⟩
      .exact p.j
     .split at p
      .rename_i N P l f;obtain⟨a,n,rfl,q,g⟩:=B.lst m l;obtain⟨b,K,rfl,L,J⟩:=w.lst m f;unfold M.Ky at p;split at p
       .have F:=g.e;have O:=J.e;exact BQ d s U H _ _ v u Q I t r ⟨a,b,n,K,rfl,rfl,C▸q,C▸L,by lia,λD A=>p.own m (g.append J) D A⟩
       .exact p.j
      .exact p.j
  .--mul
    unfold M.KG at p;split at p
    .rename_i z j l f;cases B.str l;cases w.int f;split at p
     .rename_i c;rw[M.Gf]at c;refine Dk d s U H _ _ v u Q I t r ⟨_,j,rfl,rfl,c.1,c.2.1,by rw[Wc];exact c.2.2,?_⟩;have e:iY (ay z) j.j=ay (Aa1 j.j z).L:=by apply yP;rw[JI];rfl
      rw[e];exact p.v m rfl
     .exact p.j
    split at p
    .rename_i N j l f;obtain⟨a,n,rfl,q,g⟩:=B.p5 m l;cases w.int f;unfold M.Kr at p;split at p
     .rename_i c;have F:=g.e;exact Hz d s U H _ _ v u Q I t r ⟨a,j,n,rfl,rfl,q,by lia,by lia,by rw[←F];lia,λD A=>p.own m (g.rep j.j) D A⟩
     .exact p.j
    split at p
    .rename_i N j l f;obtain⟨a,n,rfl,q,g⟩:=B.tup l;cases w.int f;split at p
     .rename_i c;obtain⟨S,R,T,W⟩:=c;rw[M.Gf]at W;have F:=g.e;refine Bw d s U H _ _ v u Q I t r ⟨a,j,n,rfl,rfl,C▸q.sq,λe=>S<|Ag4<|by simp_all,R,T,by rw[←F,OF];exact YD,λe=>?_,λe D A=>p.tup m (g.rep j.j) D A⟩;subst e;exact p.v m ⟨a,n,rfl,q,by simpa using g⟩
     .exact p.j
    .exact p.j
  .exact p.j
noncomputable def fP:M.Cp->CmpOp
|.eq=>.Eq|.ne=>.NotEq|.lt=>.Lt|.le=>.LtE|.gt=>.Gt|.ge=>.GtE|.mem=>.In|.br=>.NotIn|.oX=>.Is|.i5=>.IsNot
def kB(Y:Ge)(o:M.Cp):R2:=λx y H Q=>∃G h c a b,ak Y G h H/\au Y G H c x/\au Y G H a y/\M.Gm o c a h=y0 b/\Q (.C b) H
def QJ:M.Cp->Bool
|.mem=>k9
|.br=>k9
|_=>k9
def Ci(e:M.Ku o i j=y0 b)(I:Inv X u7 U H s)(c:RelV (.o i) v)(a:RelV (.o j) u)(q:Q (.C b) H):
 wpAny (model X.p X.w) X.A (compareOp (fP o) v u) (EP X u7 U Q) X.xe s:=by
 cases o with
|lt=>cases e;exact IC u7 s U H _ _ v u Q I c a ⟨i,j,rfl,rfl,q⟩
|le=>cases e;exact IZ u7 s U H _ _ v u Q I c a ⟨i,j,rfl,rfl,q⟩
|gt=>cases e;exact NP u7 s U H _ _ v u Q I c a ⟨i,j,rfl,rfl,q⟩
|ge=>cases e;exact HA u7 s U H _ _ v u Q I c a ⟨i,j,rfl,rfl,q⟩
|_=>cases e
def sZ(c:M.GP d e=k9)(o:A.u+150<cLine)(g:RV s.j d u)(f:RV s.j e v):dD A s u v<|M.cW d e:=by
 obtain h|h:=Ak2.j (Ag6.j c).2
 .exact AD 150 _ _ A u v (Ag2<|FB h) o g f
 .unfold M.KH at h;split at h
  .obtain⟨l,b,rfl,n,m⟩:=g;obtain⟨a,k,rfl,p,q⟩:=f;exact zU n p m q YB λj a c u v r i=>by simp at i
  .obtain⟨l,b,rfl,n,m⟩:=g;obtain⟨a,k,rfl,p,q⟩:=f;exact QM n p m q YB λj a c u v r i=>by simp at i
  .cases h
def Hx(d:X.K=Y.K)(m:aM k X.A):b7 X (compareOp .Eq)<|kB Y .eq:=by
 rintro a s U H x y v u Q I l j ⟨G,h,n,o,b,hh,i,g,e,q⟩;simp only[M.Gm]at e;split at e
 .rename_i c;cases e;have f:=Ag6.j (Ag6.j c).1;exact(sZ c (by have:=m.un;lia) (i.rv I d hh l f.1)<|g.rv I d hh j f.2).rc _ _ _ _ ⟨.C _,H,I,rfl,q⟩
 .cases e
def HE(d:X.K=Y.K)(m:aM k X.A):b7 X (compareOp .NotEq)<|kB Y .ne:=by
 rintro a s U H x y v u Q I l j ⟨G,h,n,o,b,hh,i,g,e,q⟩;simp only[M.Gm]at e;split at e
 .rename_i c;cases e;have f:=Ag6.j (Ag6.j c).1;exact(sZ c (by have:=m.un;lia) (i.rv I d hh l f.1)<|g.rv I d hh j f.2).ne _ _ _ _ ⟨.C _,H,I,rfl,q⟩
 .cases e
end
def PE.imp (h:PE X e t)(k:∀U H Q,t' U H Q->t U H Q):PE X e t':=λa s U H Q I q=>h a s U H Q I<|k _ _ _ q
def PT.imp (h:PT X e t)(k:∀U H Q,t' U H Q->t U H Q):PT X e t':=λa s U H Q I q=>h a s U H Q I<|k _ _ _ q
def PA.imp (h:PA X e t)(k:∀U H Q,t' U H Q->t U H Q):PA X e t':=λb a s U H Q I q=>h b a s U H Q I<|k _ _ _ q
section
variable{X:Cx}{Y:Ge}{G:Gh}{H:Hp}{h:M.AH}{u7:List<|Addr×Obj}{U:St}{s:Shared}{Q:VK}{E:XK}
def a9.one (z:a9 Y G H [w] vs):∃v,vs=[v]/\au Y G H w v:=by obtain⟨v,r,rfl,z1,a⟩:=z;cases(show r=[]from a);exact⟨v,rfl,z1⟩
def a9.two (z:a9 Y G H [w,w'] vs):∃v L,vs=[v,L]/\au Y G H w v/\au Y G H w' L:=by obtain⟨v,r,rfl,z1,b⟩:=z;obtain⟨L,rfl,a⟩:=b.one;exact⟨v,L,rfl,z1,a⟩
def rX(Y:Ge)(E:XK)(b:M.Bi):List V->Hp->VK->Prop:=λxs H Q=>∃G h a,ak Y G h H/\a9 Y G H a xs/\aw Y E G H (M.cz b a h) Q
def nU{K:Aa5}(h:bu K H a vs\/cC K H a vs):bu K H a vs\/cC K H a vs:=h
noncomputable def nQ:M.Bi->Bool
|.len=>k9|.int=>k9|.list=>k9|.tuple=>k9|.sum=>k9|.all=>k9|.sorted=>k9
|_=>u9
noncomputable def tY:M.Bi->Value
|.len=>.u "len"|.int=>.p "int"|.list=>.p "list"|.tuple=>.p "tuple"|.sum=>.u "sum"|.all=>.u "all"|.any=>.u "any"
|.sorted=>.u "sorted"|.divmod=>.u "divmod"|.str=>.p "str"|.min=>.u "min"|.max=>.u "max"|.abs=>.u "abs"
def aw.of2 {f:α->β->M.AH->M.R M.W}(p:aw Y E G H ((M.R.of h o).p λa h=>(M.R.of h o').p λb h=>f a b h) Q):∃a b,o=y0 a/\o'=y0 b/\aw Y E G H (f a b h) Q:=by obtain⟨a,e,p⟩:=p.of;obtain⟨b,c,p⟩:=p.of;exact⟨a,b,e,c,p⟩
theorem vy:∀{xs}{vs}{bs},M.Kc xs=y0 bs->ai Y G H xs vs->vs=bs.u V.bl
|[],_,_,e,z=>by cases e;exact z
|x::xs,_,bs,e,z7=>by
  obtain⟨v,r,z1,d,a⟩:=z7;subst z1;cases x with
|bl b=>obtain⟨f,c,rfl⟩:=Ae6.j<|e;cases(d);rw[vy c a];rfl
|_=>cases e
theorem uw:∀{xs}{vs}{n},M.Kt xs=y0 n->ai Y G H xs vs->∃ns:List Int,vs=ns.u V.int/\n=gZ ns
|[],_,_,e,z=>by cases e;exact⟨[],z,rfl⟩
|x::xs,_,n,e,z7=>by
  obtain⟨v,r,z1,f,b⟩:=z7;subst z1;cases x with
|int i=>have e:=e;obtain⟨k,c,rfl⟩:=Ae6.j e;obtain⟨ns,d,a⟩:=uw c b;cases(f);exact⟨i::ns,by rw[d];rfl,by rw[a];rfl⟩
|_=>cases e
theorem Xx:∀{xs}{vs}{ns},M.GG xs=y0 ns->ai Y G H xs vs->vs=(ns.u ay).u V.str
|[],_,_,e,z=>by cases e;exact z
|x::xs,_,ns,e,z7=>by
  obtain⟨v,r,z1,d,a⟩:=z7;subst z1;cases x with
|str b=>obtain⟨f,c,rfl⟩:=Ae6.j<|e;cases(show v=.m (ay b)from d);rw[Xx c a];rfl
|_=>cases e
theorem ZO:∀(ts:List M.Tx),ai Y G H (ts.u .m)<|(ts.u ay).u V.str
|[]=>rfl
|t::ts=>⟨_,_,rfl,rfl,ZO ts⟩
theorem vh(x):∀{ys},ys.a0 (λa b=>¬b<a)->(M.GR x ys).a0 (λa b=>¬b<a)
|[],_=>Al3 _ _
|y::ys,h=>by
  have e:=Af2.j h;unfold M.GR;split
  .rename_i q;refine Af2.p ⟨λz d=>?_,vh x e.2⟩;have:z=x\/z∈ys:=by
    have f:∀{x}{ys},z∈M.GR x ys->z=x\/z∈ys:=by
     intro x ys;induction ys with
|nil=>intro h;simp[M.GR]at h;exact .p h
|cons y ys g=>
      intro h;unfold M.GR at h;split at h
      .rcases Aa6.j h with h|h
       .exact .u<|h▸Aa
       .exact(g h).imp id<|Aa0 _
      .rcases Aa6.j h with h|h
       .exact .p h
       .exact .u h
    exact f d
   rcases this with rfl|d
   .exactλc=>SH _<|List.lt_trans c q
   .exact e.1 z d
  .rename_i q;refine Af2.p ⟨λz d=>?_,h⟩;rcases Aa6.j d with rfl|d
   .exact q
   .exact SJ q<|e.1 z d
theorem AQ:∀xs:List M.Tx,(M.Gc xs).a0<|λa b=>¬b<a
|[]=>.nil
|x::xs=>vh x<|AQ xs
theorem Zs(x):∀ys:List M.Tx,(M.GR x ys).Perm<|x::ys
|[]=>.refl _
|y::ys=>by
  unfold M.GR;by_cases q:y<x
  .rw[Da q];exact((Zs x ys).cons y).x<|.swap x y ys
  .rw[Fk q]
theorem xb:∀xs:List M.Tx,(M.Gc xs).Perm xs
|[]=>.refl _
|x::xs=>(Zs x<|M.Gc xs).x<|(xb xs).cons x
theorem sF:∀{l}{p},risingS p l=k9->(p::l).a0 (λa b=>¬b.j.p<a.j.p)
|[],p,_=>Al3 _ _
|x::r,p,h=>by
  have h:(!ltCps x.j.p p.j.p&&risingS x r)=true:=h;rw[Aa9,ltCps_eq]at h;have d:=by simpa using h.1
  have e:=sF h.2;refine Af2.p ⟨λz c=>?_,e⟩;rcases Aa6.j c with rfl|c
  .exact d
  .exact SJ d<|(Af2.j e).1 z c
def Nl(s):ay s.j.p=s:=by cases s;simp[ay]
def QU(c:ss.Perm<|ts.u ay)(d:sortedS ss=k9):ss=(M.Gc ts).u ay:=by
 have f:=by
  have:=c.map<|λs=>s.j.p;rw[Af4]at this;have e:((λs:Str=>s.j.p)∘ay)=id:=by funext t;simp[ay]
  rw[e,SO]at this;exact this
 have g:(ss.u λs=>s.j.p).a0<|λa b=>¬b<a:=by
  rw[An4];cases ss with
|nil=>exact .nil
|cons p l=>exact sF d
 rw[←(PL (λa b _ _ x y=>List.le_antisymm x y) g (AQ ts)<|f.x (xb ts).j),Af4];have e:(ay∘λs:Str=>s.j.p)=id:=by funext t;exact Nl t
 rw[e,SO]
set_option tactic.hygienic true in
def Mu(b)(x:nQ b=k9)(A:X.K=Y.K)(L:b≠.len->X.calm=k9):Xr X (tY b)<|rX Y E b:=by
 rintro c s U H Z t Q I r ⟨G,h,ws,f,D,p⟩;have hL:=Jm;unfold M.cz at p;split at p
 .rename_i w;obtain⟨v,rfl,z⟩:=D.one;cases b with
|len=>
   simp only[M.o9]at p;split at p
   .rename_i y e;cases z.str e;split at p
    .exact JV c s U H _ t Q I r ⟨_,rfl,by rw[Wc];exact Ac0 ‹_› ‹_›,by rw[Wc];exact p.v f rfl⟩
    .exact p.j
   .obtain⟨J,e,p⟩:=p.of;obtain⟨a,o,rfl,g,m⟩:=z.seq f e;refine QS c s U H _ t Q I r ⟨a,o,rfl,A▸nU g,?_⟩;rw[←m.length];exact p.v f rfl
|int=>
   simp[M.o9]at p;split at p
   .cases(z);exact XT c s U H _ t Q I r<|.p ⟨_,rfl,p.v f rfl⟩
   .rename_i k;cases(z);refine XT c s U H _ t Q I r<|.u ⟨_,rfl,?_⟩;have:=p.v f rfl;cases k<;>exact this
   .exact p.j
|list=>obtain⟨J,e,p⟩:=p.of;obtain⟨a,o,rfl,g,m⟩:=z.seq f e;exact zX c s U H _ t Q I r ⟨a,o,rfl,A▸nU g,λl u=>p.own f m l u⟩
|tuple=>
   obtain⟨J,e,C⟩:=p.of;clear p;cases w with
 |v d=>
    cases d with
    |tup K=>cases e;obtain⟨a,o,rfl,g,m⟩:=z;exact Xh c s U H _ t Q I r ⟨a,o,rfl,.u ⟨A▸g.sq,C.v f ⟨a,o,rfl,g,m⟩⟩⟩
    |lst K=>obtain⟨a,o,rfl,g,m⟩:=au.lst f z e;exact Xh c s U H _ t Q I r ⟨a,o,rfl,.p ⟨A▸g,λl u=>C.tup f m l u⟩⟩
    |ref q=>obtain⟨a,o,rfl,g,m⟩:=au.lst f z e;exact Xh c s U H _ t Q I r ⟨a,o,rfl,.p ⟨A▸g,λl u=>C.tup f m l u⟩⟩
    |aj=>cases e
    |bl _=>cases e
    |int _=>cases e
    |str _=>cases e
    |exc _ _=>cases e
    |err _ _ _=>cases e
 |own K=>obtain⟨a,o,rfl,g,m⟩:=au.lst f z e;exact Xh c s U H _ t Q I r ⟨a,o,rfl,.p ⟨A▸g,λl u=>C.tup f m l u⟩⟩
 |bor K=>obtain⟨a,o,rfl,g,m⟩:=au.lst f z e;exact Xh c s U H _ t Q I r ⟨a,o,rfl,.p ⟨A▸g,λl u=>C.tup f m l u⟩⟩
|divmod=>cases x
|min=>cases x
|max=>cases x
|sum=>
   obtain⟨n,e,p⟩:=p.of;obtain⟨J,F,B⟩:=Ad2.j e;split at B;rotate_left
   .cases B
   obtain⟨a,o,rfl,g,m⟩:=au.lst f z F;obtain⟨P,rfl,rfl⟩:=uw B m;exact De (L YA) c s U H _ t Q I r ⟨a,P,rfl,A▸g,p.v f rfl⟩
|all=>obtain⟨bs,e,p⟩:=p.of;obtain⟨J,F,B⟩:=Ad2.j e;obtain⟨a,o,rfl,g,m⟩:=au.lst f z F;cases vy B m;exact BR (L YA) c s U H _ t Q I r ⟨a,bs,rfl,A▸g,p.v f rfl⟩
|any=>cases x
|sorted=>
   obtain⟨S,e,p⟩:=p.of;obtain⟨J,F,B⟩:=Ad2.j e;obtain⟨a,o,rfl,g,m⟩:=au.lst f z F;cases Xx B m;split at p
   .rename_i u;refine wX c s U H _ t Q I r ⟨a,S.u ay,rfl,A▸g,by rw[Ab];exact u,λV R T l u=>?_⟩;rw[QU R T];exact p.own f (ZO _) l u
   .exact p.j
|str=>cases x
|abs=>cases x
 .rename_i w w';obtain⟨v,W,rfl,z,N⟩:=D.two;obtain⟨i,j,e,O,p⟩:=p.of2;cases z.int e;cases N.int O;cases b with
|divmod=>cases x
|min=>cases x
|max=>cases x
|len=>exact p.j
|int=>exact p.j
|list=>exact p.j
|tuple=>exact p.j
|sum=>exact p.j
|all=>exact p.j
|any=>cases x
|sorted=>exact p.j
|str=>cases x
|abs=>cases x
 .exact p.j
noncomputable def gb:M.Ty->String
|.aj=>"NoneType"|.bool=>"bool"|.int=>"int"|.str=>"str"|.C=>"list"|.tuple=>"tuple"
def jx(K):∀u t,t≠.aj->Am K (.p<|gb u) (.p<|gb t)=y0 (M.Ty.le u t):=by
 intro u t a;cases u<;>cases t<;>first|exact absurd rfl a|kernel_rfl
def MO(Y:Ge):List V->Hp->VK->Prop:=λxs H Q=>∃G h w x t b,xs=[x,.ty (gb t)]/\t≠.aj/\ak Y G h H/\au Y G H w x/\M.cN t w=y0 b/\Q (.C b) H
def Lw(C:X.K=Y.K):Xr X (.u "isinstance")<|MO Y:=by
 rintro k s U H N L Q I r ⟨G,h,w,x,t,b,E,g,P,z,e,q⟩;subst E;obtain⟨u,R,rfl,j,J⟩:=n9 r;cases J;have fin:∀tk,EP X k U Q _ {s with toks:=tk}:=λtk=>⟨.C b,H,I.tok tk,rfl,q⟩;have lst:∀{a}{l},x=.j a->Rd H a (.u l)->M.Ty.le .C t=b->wpAny (model X.p X.w) X.A (call (.u "isinstance") [u,.p (gb t)]) (EP X k U Q) X.xe s:=by
  intro a l ex rd K;subst ex K;obtain rd|⟨o,rd⟩:=rd
  .exact Ql I j (.lst rd) (jx _ .C t g) fin
  .exact Ql I j (.eF rd) (jx _ .C t g) fin
 cases w with
|v d=>
  cases d with
 |aj=>cases e;cases(z);exact Ql I j .aj (jx _ .aj t g) fin
 |bl c=>cases e;cases(z);exact Ql I j (.bl c) (jx _ .bool t g) fin
 |int i=>cases e;cases(z);exact Ql I j (.int i) (jx _ .int t g) fin
 |str y=>cases e;cases(z);exact Ql I j (.str _) (jx _ .str t g) fin
 |tup B=>
   cases e;obtain⟨a,l,rfl,f,F⟩:=z;obtain⟨_,f⟩|⟨o,A,n,m,p,D,_⟩:=f
   .exact Ql I j (.tup f) (jx _ .tuple t g) fin
   .cases j;exact Ae2 RU I.bE ⟨o,I.bE a o<|C▸m,p⟩ (jx _ .tuple t g) (λz=>nomatch z) fin
 |lst B=>
   cases e;obtain⟨a,l,z1,f,F⟩:=z;obtain f|⟨o,A,n,m,p,D,_⟩:=f
   .exact lst z1 f.2 rfl
   .subst z1;cases j;exact Ae2 An2 I.bE ⟨o,I.bE a o<|C▸m,p⟩ (jx _ .C t g) (λz=>nomatch z) fin
 |ref O=>cases e
 |exc c fs=>cases e
 |err _ _ _=>cases e
|own B=>cases e;obtain⟨a,l,z1,_,_,f,_⟩:=z;exact lst z1 (.p f) rfl
|bor B=>cases e;obtain⟨a,l,z1,_,f,_⟩:=z;exact lst z1 f rfl
def n0(k:X.K=Y.K)(n:ak Y G h H)(z:au Y G H w x)(e:M.Kb h w=y0 b):i9 X.K x H b:=by
 have lst:∀{a}{f}{g},x=.j a->bu X.K H a f->ai Y G H g f->(!g.y)=b->i9 X.K x H b:=by
  intro a f g ex rd rs l;subst ex l;refine .p ⟨f,rd,?_⟩;cases g with
|nil=>cases(show f=[]from rs);rfl
|cons _ _=>obtain⟨_,_,rfl,_⟩:=rs;rfl
 cases w with
|v d=>
  cases d with
 |aj=>cases e;cases(z);exact rfl
 |bl _=>cases e;cases(z);exact rfl
 |int _=>cases e;cases(z);exact rfl
 |str y=>
   cases(z);have e:(if y.e<=M.bp then y0 (!y.y)else u0)=y0 b:=e;split at e
   .rename_i c;cases e;refine⟨by rw[Wc];have:=Jm;exact Ac0 ‹_› ‹_›,?_⟩;rw[Wc];cases y with
|nil=>rfl
|cons a r=>
     have:((((a::r).e:Nat):Int) !=0)=true:=by rw[Ab1,bne_iff_ne];lia
     rw[this];rfl
   .cases e
 |tup g=>
   cases e;obtain⟨a,f,rfl,i,rs⟩:=z;refine .u<|.p ⟨f,k▸i.sq,?_⟩;cases g with
   |nil=>cases(show f=[]from rs);rfl
   |cons _ _=>obtain⟨_,_,rfl,_⟩:=rs;rfl
 |lst g=>cases e;obtain⟨a,f,z1,i,j⟩:=z;exact lst z1 (k▸i.sq) j rfl
 |ref m=>cases e
 |exc c fs=>cases e
 |err _ _ _=>cases e
|own g=>cases e;obtain⟨a,f,z1,_,_,i,j⟩:=z;exact lst z1 (bu.of i) j rfl
|bor g=>cases e;obtain⟨a,f,z1,_,i,j⟩:=z;exact lst z1 (.p i) j rfl
end
noncomputable abbrev Qd(x:String):Str:=Str.ofString x
example:("len":Str)=Qd "len":=rfl
structure ri where
 fl:List<|String×String
 mt:List<|String×String×String
 eP:List<|String×String
 ms:List String
 er:List<|String×String
structure Cg where
 fns:List String
 own:List String
 gi:List String
 dX:List String
 ob:ri
 cb:Bool
 qf:List String
 qh:List String
 uh:Bool
open Lake renaming MS.Cg.own->Lake.MS.Cg.j,MS.Cg.fns->Lake.MS.Cg.u,MS.Cg.ob->Lake.MS.Cg.w
structure Cf extends Cg where
 sc:Scope
 N:List Str
open Lake renaming MS.Cf.sc->Lake.MS.Cf.p
noncomputable def Cg.q (g:Cg):Cg:=⟨g.qf,g.j,[],[],⟨g.w.fl,[],[],[],[]⟩,u9,[],[],u9⟩
noncomputable def Cg.z (g:Cg):Cg:=⟨[],g.j,[],[],⟨g.w.fl,[],[],[],[]⟩,u9,[],[],u9⟩
noncomputable def Cg.h (g:Cg):Cg:=⟨[],g.j,[],[],⟨g.w.fl,[],[],[],[]⟩,u9,[],[],k9⟩
noncomputable def fD(a:Scope)(x:Str):Bool:=match a.j.j x with
|some .local=>k9
|some .y=>k9
|some .w=>k9
|_=>u9
noncomputable def iM(a:Scope)(x:Str):Bool:=match a.j.j x with
|some .globalImplicit=>k9
|_=>u9
noncomputable def kn(a:Scope)(x:Str):Bool:=match a.j.j x with
|some .local=>k9
|some .y=>k9
|_=>u9
noncomputable def dz(x:Str):Bool:=!(x==("__debug__":Str))&&!(x==("__classdict__":Str))
noncomputable def ra:M.Bi->String
|.len=>"len"|.int=>"int"|.list=>"list"|.tuple=>"tuple"|.sum=>"sum"|.all=>"all"|.any=>"any"|.sorted=>"sorted"|.divmod=>"divmod"|.str=>"str"|.min=>"min"|.max=>"max"|.abs=>"abs"
noncomputable def b5:List String:=["len","int","list","tuple","sum","all","any","sorted","divmod","str","min","max","abs","isinstance","bool","range","reversed","zip","enumerate","set","dict","ValueError"]
noncomputable def pX:Expr->Str->Bool
|.j y _,x=>y==x
|_,_=>u9
def bt(a:Scope)(x:String)(e:Expr):Bool:=pX e (Qd x)&&iM a (Qd x)&&dz (Qd x)
noncomputable def yG:M.Mt->String
|.join=>"join"|.starts=>"startswith"|.part=>"partition"
def vX:M.Mt->Bool
|.join=>k9|.starts=>k9|.part=>k9
noncomputable def ZU:Expr->Bool
|.u _ [] _ _=>u9
|_=>k9
noncomputable def zG(cf:Cf):List String->List Expr->Bool
|[],[]=>k9
|t::a,e::es=>bt cf.p t e&&cf.j.p t&&zG cf a es
|_,_=>u9
noncomputable def nR:Expr->Bool
|.J .USub (.y (.int 1) _ _) _=>k9
|_=>u9
noncomputable def Qv(cf:Cf):List Nat->List Expr->Bool
|[],[]=>k9
|i::is,.j x _::es=>k8 (cf.N[i]?=y0 x)&&kn cf.p x&&Qv cf is es
|_,_=>u9
def su(cf:Cf)(x:String)(e:Expr):Bool:=cf.cb&&bt cf.p x e
def pB(cf:Cf)(is:List Nat)(es:List Expr):Bool:=cf.cb&&Qv cf is es
def pE(cf:Cf)(is:List Nat)(es:List Expr):Bool:=(cf.cb||cf.uh)&&Qv cf is es
def vc(cf:Cf)(b:M.Bi)(e:Expr):Bool:=(cf.cb||k8 (b=.len))&&bt cf.p (ra b) e
def Xg(cf:Cf)(tg:List Nat)(one:Bool)(e:Expr):Bool:=match one,e with
|true,.j x p=>(match tg with|[_]=>k9|_=>u9)&&Qv cf tg [.j x p]
|false,.G es _ _=>pB cf tg es
|_,_=>u9
noncomputable def jb:Expr->Bool
|.Starred ..=>u9
|_=>k9
noncomputable def zf:Expr->Bool
|.L ..=>u9
|_=>k9
def ji:Expr->Bool
|.Set ..=>u9
|_=>k9
noncomputable def ZE(cf:Cf):List Nat->List Str->Bool
|[],[]=>k9
|j::a,x::xs=>k8 (cf.N[j]?=y0 x)&&k8 (cf.p.j.j x=y0 .y\/cf.p.j.j x=y0 .w)&&ZE cf a xs
|_,_=>u9
def Z6(cf:Cf)(a:Scope)(N:List Str)(k:Nat)(aB:List Nat):Bool:=
 cf.cb&&k8 (a.u=.j)&&k8 (a.j.u Prod.fst).C&&a.j.N (λy=>k8<|y.2=.local->a.j.j y.1=y0 .local)&&
 a.j.N (λy=>k8<|y.2=.w->cf.p.j.j y.1=y0 .y\/cf.p.j.j y.1=y0 .w)&&(N.J k).N (λx=>k8<|a.j.j x=y0 .w)&&
 ZE cf aB (N.J k)&&k8 (k<=N.e)&&decide N.C&&decide aB.C
noncomputable def Ln:Expr->List Str
|.j x _=>[x]
|.G es _ _=>es.Y λ|.j x _=>y0 x|_=>u0
|_=>[]
def Qw(cf:Cf)(t:Expr)(aB:List Nat):List Str:=Ln t++aB.Y λj=>cf.N[j]?
noncomputable def gF:M.E->Bool
|.a1 _=>u9
|.not a=>gF a
|.and a b=>gF a&&gF b
|.or a b=>gF a&&gF b
|_=>k9
def aW{P:Prop}(h:u9=k9):P:=nomatch h
set_option backward.match.sparseCases false
noncomputable def lC{α:Type}(l:List α)(f:α->List α->Bool):Bool:=match l with
|x::r=>f x r
|_=>u9
noncomputable def oS{α:Type}(l:Option α)(f:α->Bool):Bool:=match l with
|some x=>f x
|_=>u9
@[elab_as_elim]theorem kC{P:List α->Prop}(k:∀x r,f x r=k9->P (x::r)):∀l,lC l f=k9->P l:=by rintro(_|_)<;>first|exact aW|exact k _ _
@[elab_as_elim]theorem kS{P:Option α->Prop}(k:∀x,f x=k9->P (y0 x)):∀l,oS l f=k9->P l:=by rintro(_|_)<;>first|exact aW|exact k _
noncomputable def qy(e:Expr)(f:Str->Bool):Bool:=match e with
|.j x _=>f x
|_=>u9
@[elab_as_elim]theorem jy{P:Expr->Prop}(k:∀x p,f x=k9->P (.j x p)):∀e,qy e f=k9->P e:=by rintro(_|_)<;>first|exact aW|exact k _ _
noncomputable def Wx(e:Expr)(f:Const->Bool):Bool:=match e with
|.y x _ _=>f x
|_=>u9
@[elab_as_elim]theorem XA{P:Expr->Prop}(k:∀x n p,f x=k9->P (.y x n p)):∀e,Wx e f=k9->P e:=by rintro(_|_)<;>first|exact aW|exact k _ _ _
noncomputable def nA(e:Expr)(f:List Expr->Bool):Bool:=match e with
|.G x _ _=>f x
|_=>u9
@[elab_as_elim]theorem pz{P:Expr->Prop}(k:∀x n p,f x=k9->P (.G x n p)):∀e,nA e f=k9->P e:=by rintro(_|_)<;>first|exact aW|exact k _ _ _
noncomputable def sI(e:Expr)(f:List Expr->Bool):Bool:=match e with
|.List x _=>f x
|_=>u9
@[elab_as_elim]theorem HD{P:Expr->Prop}(k:∀x p,f x=k9->P (.List x p)):∀e,sI e f=k9->P e:=by rintro(_|_)<;>first|exact aW|exact k _ _
noncomputable def vb(e:Expr)(f:Expr->Operator->Expr->Bool):Bool:=match e with
|.BinOp x o y _=>f x o y
|_=>u9
@[elab_as_elim]theorem FA{P:Expr->Prop}(k:∀x o y p,f x o y=k9->P (.BinOp x o y p)):∀e,vb e f=k9->P e:=by rintro(_|_)<;>first|exact aW|exact k _ _ _ _
noncomputable def mY(e:Expr)(f:Expr->List CmpOp->List Expr->Bool):Bool:=match e with
|.C x o y _=>f x o y
|_=>u9
@[elab_as_elim]theorem pw{P:Expr->Prop}(k:∀x o y p,f x o y=k9->P (.C x o y p)):∀e,mY e f=k9->P e:=by rintro(_|_)<;>first|exact aW|exact k _ _ _ _
noncomputable def oA(e:Expr)(f:UnaryOp->Expr->Bool):Bool:=match e with
|.J o x _=>f o x
|_=>u9
@[elab_as_elim]theorem rY{P:Expr->Prop}(k:∀o x p,f o x=k9->P (.J o x p)):∀e,oA e f=k9->P e:=by rintro(_|_)<;>first|exact aW|exact k _ _ _
noncomputable def oZ(e:Expr)(f:BoolOp->List Expr->Pos->Bool):Bool:=match e with
|.A o x p=>f o x p
|_=>u9
@[elab_as_elim]theorem sM{P:Expr->Prop}(k:∀o x p,f o x p=k9->P (.A o x p)):∀e,oZ e f=k9->P e:=by rintro(_|_)<;>first|exact aW|exact k _ _ _
noncomputable def wj(e:Expr)(f:Expr->List Expr->List Keyword->Pos->Bool):Bool:=match e with
|.u g x l p=>f g x l p
|_=>u9
@[elab_as_elim]theorem zi{P:Expr->Prop}(k:∀g x l p,f g x l p=k9->P (.u g x l p)):∀e,wj e f=k9->P e:=by rintro(_|_)<;>first|exact aW|exact k _ _ _ _
noncomputable def gy(e:Expr)(f:Expr->Expr->Bool):Bool:=match e with
|.w x y _=>f x y
|_=>u9
@[elab_as_elim]theorem g7{P:Expr->Prop}(k:∀x y p,f x y=k9->P (.w x y p)):∀e,gy e f=k9->P e:=by rintro(_|_)<;>first|exact aW|exact k _ _ _
noncomputable def l0(e:Expr)(f:Option Expr->Option Expr->Option Expr->Bool):Bool:=match e with
|.L x y z _=>f x y z
|_=>u9
@[elab_as_elim]theorem nB{P:Expr->Prop}(k:∀x y z p,f x y z=k9->P (.L x y z p)):∀e,l0 e f=k9->P e:=by rintro(_|_)<;>first|exact aW|exact k _ _ _ _
noncomputable def sA(e:Expr)(f:Expr->List Comprehension->Scope->Bool):Bool:=match e with
|.B y g s _=>f y g s
|_=>u9
@[elab_as_elim]theorem Bg{P:Expr->Prop}(k:∀y g s p,f y g s=k9->P (.B y g s p)):∀e,sA e f=k9->P e:=by rintro(_|_)<;>first|exact aW|exact k _ _ _ _
noncomputable def jR(e:Expr)(f:Expr->Str->Pos->Bool):Bool:=match e with
|.p x n p=>f x n p
|_=>u9
@[elab_as_elim]theorem jT{P:Expr->Prop}(k:∀x n p,f x n p=k9->P (.p x n p)):∀e,jR e f=k9->P e:=by rintro(_|_)<;>first|exact aW|exact k _ _ _
noncomputable def rz(e:Expr)(f:List (Option Expr)->List Expr->Bool):Bool:=match e with
|.Dict x y _=>f x y
|_=>u9
@[elab_as_elim]theorem tE{P:Expr->Prop}(k:∀x y p,f x y=k9->P (.Dict x y p)):∀e,rz e f=k9->P e:=by rintro(_|_)<;>first|exact aW|exact k _ _ _
noncomputable def gY(e:Stmt)(f:List Expr->Expr->Bool):Bool:=match e with
|.j t v _=>f t v
|_=>u9
@[elab_as_elim]theorem iA{P:Stmt->Prop}(k:∀t v p,f t v=k9->P (.j t v p)):∀e,gY e f=k9->P e:=by rintro(_|_)<;>first|exact aW|exact k _ _ _
noncomputable def mU(e:Stmt)(f:Expr->Bool):Bool:=match e with
|.Expr v _=>f v
|_=>u9
@[elab_as_elim]theorem pI{P:Stmt->Prop}(k:∀v p,f v=k9->P (.Expr v p)):∀e,mU e f=k9->P e:=by rintro(_|_)<;>first|exact aW|exact k _ _
noncomputable def rR(e:Stmt)(f:Option Expr->Bool):Bool:=match e with
|.Return v _=>f v
|_=>u9
@[elab_as_elim]theorem uq{P:Stmt->Prop}(k:∀v p,f v=k9->P (.Return v p)):∀e,rR e f=k9->P e:=by rintro(_|_)<;>first|exact aW|exact k _ _
noncomputable def vJ(e:Stmt)(f:Expr->List Stmt->List Stmt->Bool):Bool:=match e with
|.If x y z _=>f x y z
|_=>u9
@[elab_as_elim]theorem F1{P:Stmt->Prop}(k:∀x y z p,f x y z=k9->P (.If x y z p)):∀e,vJ e f=k9->P e:=by rintro(_|_)<;>first|exact aW|exact k _ _ _ _
noncomputable def uQ(e:Stmt)(f:Expr->List Stmt->List Stmt->Bool):Bool:=match e with
|.While x y z _=>f x y z
|_=>u9
@[elab_as_elim]theorem B1{P:Stmt->Prop}(k:∀x y z p,f x y z=k9->P (.While x y z p)):∀e,uQ e f=k9->P e:=by rintro(_|_)<;>first|exact aW|exact k _ _ _ _
noncomputable def uL(e:Stmt)(f:Expr->Expr->List Stmt->List Stmt->Bool):Bool:=match e with
|.For t i y z _=>f t i y z
|_=>u9
@[elab_as_elim]theorem I0{P:Stmt->Prop}(k:∀t i y z p,f t i y z=k9->P (.For t i y z p)):∀e,uL e f=k9->P e:=by rintro(_|_)<;>first|exact aW|exact k _ _ _ _ _
noncomputable def ny(e:Stmt)(f:Option Expr->Option Expr->Bool):Bool:=match e with
|.p x y _=>f x y
|_=>u9
@[elab_as_elim]theorem pH{P:Stmt->Prop}(k:∀x y p,f x y=k9->P (.p x y p)):∀e,ny e f=k9->P e:=by rintro(_|_)<;>first|exact aW|exact k _ _ _
set_option backward.match.sparseCases true
def vB(cf:Cf)(i:Nat)(x:Str):Bool:=k8 (cf.N[i]?=y0 x)&&fD cf.p x&&dz x
noncomputable def kZ{α:Type}(l:List α)(b:Bool):Bool:=l.y&&b
noncomputable def oE(e:Stmt)(f:List Stmt->List ExceptHandler->Bool):Bool:=match e with
|.Try a b c d _=>kZ c<|kZ d<|f a b
|_=>u9
noncomputable def pe(e:ExceptHandler)(f:Option Expr->Option Str->List Stmt->Bool):Bool:=match e with
|.j a b c _=>f a b c
noncomputable def ZN:List (M.Tx×M.Tx)->List (Option Expr)->List Expr->Bool
|[],l,r=>l.y&&r.y
|(x,y)::T,l,r=>lC l λe ks=>lC r λa vs=>oS e λe=>Wx e λc=>Wx a λd=>k8 (c=.str (ay x))&&k8 (d=.str (ay y))&&ZN T ks vs
mutual
noncomputable def Jc(cf:Cf):M.E->Expr->Bool
|.var i,e=>qy e<|vB cf i
|.con c,e=>bt cf.p c e
|.int i,e=>Wx e λj=>k8<|j=.int i
|.bl i,e=>Wx e λj=>k8<|j=.bool i
|.aj,e=>Wx e λj=>k8<|j=.w
|.str i,e=>Wx e λj=>k8<|j=.str (ay i)
|.tup es,e=>nA e λxs=>k8 (xs.e<=1000)&&aT cf es xs
|.lst es,e=>sI e λxs=>k8 (xs.e<=1000)&&aT cf es xs
|.bin o a b,e=>vb e λx p y=>k8 (p=n7 o)&&nC o&&Jc cf a x&&Jc cf b y
|.cmp o a b,e=>mY e λx p y=>lC y λy r=>k8 (p=[fP o]/\r=[])&&QJ o&&ji y&&Jc cf a x&&Jc cf b y
|.a4 o q a b c,e=>mY e λx p y=>lC y λy r=>lC r λz r=>k8 (p=[fP o,fP q]/\r=[])&&QJ o&&QJ q&&ji z&&Jc cf a x&&Jc cf b y&&Jc cf c z
|.cm neg a,e=>mY e λx p y=>lC y λy r=>Wx y λj=>k8 (p=[if neg then .IsNot else .Is]/\r=[])&&k8 (j=.w)&&Jc cf a x
|.neg a,e=>oA e λo x=>k8 (o=.USub)&&Jc cf a x
|.not a,e=>oA e λo x=>k8 (o=.Not)&&Jc cf a x
|.and a b,e=>oZ e λo x p=>lC x λx r=>lC r λy r=>k8 (o=.And)&&Jc cf a x&&bif r.y then Jc cf b y else Jc cf b<|.A .And (y::r) p
|.or a b,e=>oZ e λo x p=>lC x λx r=>lC r λy r=>k8 (o=.Or)&&Jc cf a x&&bif r.y then Jc cf b y else Jc cf b<|.A .Or (y::r) p
|.j f es,e=>wj e λg xs l _=>kZ l<|bt cf.p f g&&cf.u.p f&&aT cf es xs
|.bi b es,e=>wj e λg xs l _=>kZ l<|lC xs λx r=>vc cf b g&&nQ b&&aT cf es (x::r)
|.cN a t,e=>wj e λg xs l _=>kZ l<|lC xs λx r=>lC r λy r=>kZ r<|bt cf.p "isinstance" g&&bt cf.p (gb t) y&&decide (t≠.aj)&&jb x&&Jc cf a x
|.b9 a one ts,e=>wj e fun g xs l _=>kZ l<|lC xs fun x r=>lC r fun y r=>kZ r<|bt cf.p "isinstance" g&&jb x&&Jc cf a x&&bif one then(lC ts fun t r=>kZ r<|bt cf.p t y&&(decide (t="ValueError")||cf.j.p t))else(nA y fun zs=>decide (zs.e<=1000)&&zG cf ts zs)
|.ix a b,e=>gy e λx y=>zf y&&Jc cf a x&&Jc cf b y
|.sl a lo hi,e=>gy e λx y=>l0 y λl u z=>oS l λl=>oS u λu=>z.j&&Jc cf a x&&Jc cf lo l&&Jc cf hi u
|.d3 a lo,e=>gy e λx y=>l0 y λl u z=>oS l λl=>u.j&&z.j&&Jc cf a x&&Jc cf lo l
|.d9 a hi,e=>gy e λx y=>l0 y λl u z=>oS u λu=>l.j&&z.j&&Jc cf a x&&Jc cf hi u
|.rev a,e=>gy e λx y=>l0 y λl u z=>oS z λz=>l.j&&u.j&&nR z&&Jc cf a x
|.Q tg one k aB it u5 c elt,e=>sA e λy g scope=>lC g λg r=>
  k8 (g.is_async=0/\r=[])&&Z6 cf scope (Qw cf g.target aB) k aB&&tg.N (λi=>k8<|i<k)&&Xg {cf with sc:=scope,N:=Qw cf g.target aB} tg one g.target&&dn cf it g.iter&&Jc {cf with sc:=scope,N:=Qw cf g.target aB} elt y&&
   bif u5 then(lC g.ifs λz r=>kZ r<|gF c&&Jc {cf with sc:=scope,N:=Qw cf g.target aB} c z)else g.ifs.y
|.a1 a,e=>Jc cf a e
|.dH a,e=>wj e λg xs l _=>kZ l<|lC xs λx r=>kZ r<|wj x λg2 xs l _=>kZ l<|lC xs λx r=>kZ r<|su cf "len" g&&bt cf.p "set" g2&&jb x&&Jc cf a x
|.dr a,e=>wj e λg xs l _=>kZ l<|lC xs λx r=>kZ r<|bt cf.p "sorted" g&&jb x&&Jc cf a x
|.cJ m a es,e=>wj e λg xs l q=>kZ l<|lC xs λx r=>kZ r<|jR g λo n p=>k8 (n=Qd (yG m))&&vX m&&(p.p==q.j)&&ZU o&&Jc cf a o&&aT cf es [x]
|.fT c a,e=>gy e λg y=>bt cf.p c g&&zf y&&Jc cf a y
|.eR T i,e=>gy e λd x=>rz d λks vs=>qy x λx=>ZN T ks vs&&k8 (T≠[])&&k8 (T.e<=15)&&k8 (T.u (·.1)).C&&vB cf i x
|.lh T a,e=>gy e λd x=>rz d λks vs=>ZN T ks vs&&k8 (T≠[])&&k8 (T.e<=15)&&k8 (T.u (·.1)).C&&zf x&&Jc cf a x
|.eT a,e=>wj e λg xs l _=>kZ l<|lC xs λx r=>kZ r<|bt cf.p "str" g&&jb x&&Jc cf a x
|.bV a,e=>wj e λg xs l _=>kZ l<|lC xs λx r=>kZ r<|bt cf.p "int" g&&jb x&&Jc cf a x
|.xf i f,e=>jR e λx n _=>qy x λx=>vB cf i x&&k8 (n=Qd f)
|.make c q es,e=>wj e λg ys l _=>kZ l<|lC ys λx r=>bt cf.p c g&&cf.w.eP.p (c,q)&&aT cf es (x::r)
|.bY a c f,e=>jR e λx n _=>k8 (n=Qd f)&&cf.w.fl.p (c,f)&&ZU x&&Jc cf a x
|.aI a c m q es,e=>wj e λg ys l s=>kZ l<|jR g λx n p=>k8 (n=Qd m)&&cf.w.mt.p (c,m,q)&&(p.p==s.j)&&k8 (ys.e<=20)&&ZU x&&Jc cf a x&&aT cf es ys
noncomputable def aT(cf:Cf):M.Es->List Expr->Bool
|.p,xs=>xs.y
|.j e es,xs=>lC xs λx xs=>jb x&&Jc cf e x&&aT cf es xs
noncomputable def dn(cf:Cf):M.It->Expr->Bool
|.seq a,e=>ji e&&Jc cf a e
|.aQ a,e=>wj e λg xs l _=>kZ l<|lC xs λx r=>kZ r<|bt cf.p "range" g&&jb x&&Jc cf a x
|.b6 a b,e=>wj e λg xs l _=>kZ l<|lC xs λx r=>lC r λy r=>kZ r<|bt cf.p "range" g&&jb x&&jb y&&Jc cf a x&&Jc cf b y
|.rev a,e=>wj e λg xs l _=>kZ l<|lC xs λx r=>kZ r<|bt cf.p "reversed" g&&jb x&&Jc cf a x
|.enum _,_=>u9
|.cM _,_=>u9
|.di _,_=>u9
end
noncomputable def jv:Expr->Bool
|.B ..=>u9
|.SetComp ..=>u9
|.DictComp ..=>u9
|_=>k9
noncomputable def Xj:Expr->Bool
|.G ..=>u9
|_=>k9
noncomputable def Xs(cf:Cf)(i:Nat)(x:Str):Bool:=k8 (cf.N[i]?=y0 x)&&k8 (cf.p.j.j x=y0 .local)
def qK(cf:Cf)(i:Nat)(x:Str):Bool:=k8 (cf.N[i]?=y0 x)&&kn cf.p x
def rG(cf:Cf)(i:Nat)(m:Str)(e:Expr)(a:Pos):Bool:=jR e λx n p=>qy x λx=>vB cf i x&&k8 (n=m)&&(p.p==a.j)
def oG(cf:Cf):M.It->Expr->Bool
|.seq a,e=>ji e&&Jc cf a e
|.aQ a,e=>dn cf (.aQ a) e
|.b6 a b,e=>dn cf (.b6 a b) e
|.rev a,e=>dn cf (.rev a) e
|.di _,_=>u9
|.cM i,e=>wj e λg xs l _=>kZ l<|lC xs λx r=>kZ r<|bt cf.p "enumerate" g&&jb x&&Jc cf (.var i) x
|.enum _,_=>u9
def pk:M.It->Expr->Bool
|.enum _,e=>!Xj e
|.cM _,e=>!Xj e
|.di _,e=>!Xj e
|_,_=>k9
noncomputable def Bk:Expr->Bool
|.j _ _=>k9
|.w _ _ _=>k9
|_=>u9
def oD(cf:Cf)(k:String)(nm d:Nat)(c:List ExceptHandler):Bool:=lC c λx r=>kZ r<|pe x λw n b=>oS w λw=>oS n λn=>lC b λa r=>kZ r<|gY a λf y=>lC f λt r=>kZ r<|qy t λv=>qy y λe=>
 bt cf.p k w&&cf.dX.p k&&k8 (e=n)&&Xs cf nm n&&(dz n&&Xs cf d v)
noncomputable def rm(cf:Cf)(i:Nat)(f:String)(b:List Stmt)(q:List Expr->Bool):Bool:=lC b λs r=>kZ r<|gY s λc e=>lC c λt r=>kZ r<|qy t λa=>wj e λg xs l _=>kZ l<|lC xs λx r=>Xs cf i a&&bt cf.p f g&&cf.u.p f&&q (x::r)
noncomputable def rM(cf:Cf)(f:String)(a:List Stmt)(q:List Expr->Bool):Bool:=lC a λs r=>kZ r<|rR s λv=>oS v λe=>wj e λg xs l _=>kZ l<|lC xs λx r=>bt cf.p f g&&cf.u.p f&&q (x::r)
def rA(cf:Cf)(c k e d:String)(i:List ExceptHandler)(q:List Expr->Bool):Bool:=lC i λx r=>kZ r<|pe x λw n b=>oS w λw=>lC b λs r=>kZ r<|ny s λa z=>oS a λa=>oS z λz=>Wx z λj=>wj a λg xs l _=>kZ l<|lC xs λy r=>kZ r<|n.j&&k8 (j=.w)&&bt cf.p c w&&cf.dX.p c&&(bt cf.p k g&&(cf.cb&&cf.w.er.p (k,e))&&(wj y λh ys l2 _=>kZ l2<|lC ys λf r=>bt cf.p d h&&cf.qh.p d&&q (f::r)))
mutual
noncomputable def AI(cf:Cf):M.S->Stmt->Bool
|.set i e,st=>gY st λts v=>lC ts λt r=>qy t λx=>kZ r<|qK cf i x&&Jc cf e v
|.ag i e,st=>gY st λts v=>lC ts λt r=>qy t λx=>kZ r<|qK cf i x&&Jc cf e v
|.gk is e,st=>gY st λts v=>lC ts λt r=>nA t λts=>kZ r<|pE cf is ts&&Xj v&&Jc cf e v
|.ez i kx e,st=>gY st λts v=>lC ts λt r=>gy t λx y=>qy x λx=>kZ r<|vB cf i x&&zf y&&Xj v&&jv v&&Jc cf kx y&&Jc cf e v
|.bH o kx e,st=>gY st λts v=>lC ts λt r=>gy t λx y=>kZ r<|zf y&&Xj v&&jv v&&Jc cf o x&&Jc cf kx y&&Jc cf e v
|.app i e,st=>mU st λc=>wj c λf xs l p=>kZ l<|lC xs λv r=>kZ r<|rG cf i "append" f p&&jb v&&Jc cf e v
|.gz a e,st=>mU st λc=>wj c λf xs l p=>kZ l<|lC xs λv r=>kZ r<|jR f λx n q=>k8 (n="append")&&(q.p==p.j)&&jb v&&Jc cf a x&&(Jc cf e v&&Bk x)
|.ex e,st=>mU st λv=>jv v&&Jc cf e v
|.ret e,st=>rR st λv=>oS v λv=>Jc cf e v
|.iff c a b,st=>vJ st λx ys zs=>gF c&&Jc cf c x&&cT cf a ys&&cT cf b zs
|.e8 _ c b,st=>uQ st λx ys zs=>kZ zs<|gF c&&Jc cf c x&&cT cf b ys
|.for tg one it b,st=>uL st λt iter ys zs=>kZ zs<|(cf.cb&&pk it t)&&Xg cf tg one t&&oG cf it iter&&cT cf b ys
|.bC c f e,st=>ny st λa b=>oS a λa=>wj a λg xs l _=>kZ l<|lC xs λx r=>kZ r<|b.j&&bt cf.p c g&&(cf.cb&&cf.w.er.p (c,f))&&aT cf (.j e .p) [x]
|.raise c es,st=>ny st λa b=>oS a λa=>wj a λg xs l _=>kZ l<|lC xs λx r=>b.j&&bt cf.p c g&&(cf.cb&&cf.gi.p c)&&k8 ((x::r).e<=1000)&&aT cf es (x::r)
|.gw i f es k nm iv,st=>oE st λb hs=>oD cf k nm iv hs&&rm cf i f b (λxs=>aT cf es xs)
|.gs f es c k fl g es2,st=>oE st λb hs=>rM cf f b (λxs=>aT cf es xs)&&rA cf c k fl g hs (λxs=>aT {cf with toCg:=cf.toCg.q} es2 xs)
|.b4 i c f e,st=>gY st λts v=>lC ts λt r=>jR t λx n _=>qy x λx=>kZ r<|vB cf i x&&k8 (n=Qd f)&&cf.w.fl.p (c,f)&&Jc cf e v
|.ky,_=>k9
noncomputable def cT(cf:Cf):M.Ss->List Stmt->Bool
|.nil,sts=>sts.y
|.cons s ss,sts=>lC sts λst sts=>AI cf s st&&cT cf ss sts
end
structure AG(X:Cx)(k:Nat)(x:Str)(ps:List Str)(sp:Sp):Prop where
 ex:∃f fd,bj X.p X.w X.K X.mg X.base (bO X.p X.w) k f fd ps sp/\Binds X.K fd ps []/\Af6 X.K (.j f)=k9/\X.mg x=y0 (.j f)
def oi:M.W->Bool
|.j _=>u9
|_=>k9
def eQ(Y:Ge)(m:List M.W->M.AH->M.R M.W):Sp:=λvs H Q E=>∃G h a,ak Y G h H/\a9 Y G H a vs/\(∀w∈a,oi w=k9)/\aw Y E G H (m a h) Q
structure Go(Y:Ge)(F:M.Fx)(X:Cx)(E:XK)(k:Nat)(cf:Cf):Prop where
 N:X.N=cf.N
 K:X.K=Y.K
 cl:F.cl=Y.cl
 ow:cf.j=Y.own
 nd:cf.N.C
 gB:∀x,fD cf.p x=k9->ij X.j.j x
 iV:∀x,cf.p.j.j x=y0 .local->X.j.j.j.j x=y0 .local
 iz:∀x,kn cf.p x=k9->lA X.j.j x/\(X.fn x=k9\/X.j.j.j.j x=y0 .local)
 kb:∀x,(cf.p.j.j x=y0 .y\/cf.p.j.j x=y0 .w)->X.j.w x=y0 .y\/X.j.w x=y0 .w
 gl:∀x,iM cf.p x=k9->Gl X x
 calm:cf.cb=k9->X.calm=k9
 room:aM k X.A
 cv:aM (k+1) X.A
 pass:ww (bO X.p X.w) X E
 blt:∀x,x∈b5->X.mg (Qd x)=u0
 con:∀x d,F.con.j x=y0 d->∃u v,X.mg (Qd x)=y0 u/\RelV v u/\∀G H,az Y G H d v
 fn:∀f,cf.u.p f=k9->∃ps,AG X k (Qd f) ps (eQ Y<|F.j f)
 lB:∀f,cf.qf.p f=k9->∃ps,AG X 2 (Qd f) ps (eQ Y<|F.j f)
 cls:∀c,cf.j.p c=k9->X.mg (Qd c)=y0 (.j<|Y.j c)
 fld:∀c f,cf.w.fl.p (c,f)=k9->de X.K (Y.j c)/\cj X.K (Y.j c) (Qd f)
 iF:∀c m q,cf.w.mt.p (c,m,q)=k9->de X.K (Y.j c)/\∃fa fd ps,lQ X.K (Y.j c) (Qd m) fa/\bj X.p X.w X.K X.mg X.base (bO X.p X.w) k fa fd ps (eQ Y<|F.j q)/\Binds X.K fd ps []
 eP:∀c q,cf.w.eP.p (c,q)=k9->X.mg (Qd c)=y0 (.j<|Y.j c)/\∃fa fd ps,Mk X.K (Y.j c) fa/\bj X.p X.w X.K X.mg X.base (bO X.p X.w) k fa fd ps (eQ Y<|F.j q)/\Binds X.K fd ps []
open Lake renaming MS.Go.calm->Lake.MS.Go.G,MS.Go.blt->Lake.MS.Go.j,MS.Go.room->Lake.MS.Go.u,MS.Go.gl->Lake.MS.Go.w
@[elab_as_elim]theorem kE{P:List α->Prop}(k:b=k9->P []):∀l,kZ l b=k9->P l:=by rintro(_|_)<;>first|exact aW|exact k
@[elab_as_elim]theorem vN{P:Stmt->Prop}(k:∀a b p,f a b=k9->P (.Try a b [] [] p)):∀e,oE e f=k9->P e:=by
 rintro(_|_)<;>first|exact aW|exactλh=>kE (λh=>kE (λh=>k _ _ _ h) _ h) _ h
@[elab_as_elim]theorem yf{P:ExceptHandler->Prop}(k:∀a b c p,f a b c=k9->P (.j a b c p)):∀e,pe e f=k9->P e
|.j _ _ _ _,h=>k _ _ _ _ h
def a2(h:(a&&b)=k9):a=k9/\b=true:=Ag6.j h
def a3(h:(a&&b&&c)=k9):a=k9/\b=k9/\c=true:=⟨(a2 (a2 h).1).1,(a2 (a2 h).1).2,(a2 h).2⟩
def a4(h:(a&&b&&c&&d)=k9):a=k9/\b=k9/\c=k9/\d=true:=⟨(a3 (a2 h).1).1,(a3 (a2 h).1).2.1,(a3 (a2 h).1).2.2,(a2 h).2⟩
def a5(h:(a&&b&&c&&d&&e)=k9):a=k9/\b=k9/\c=k9/\d=k9/\e=true:=⟨(a2 (a4 h).1).1,(a2 (a4 h).1).2,(a4 h).2⟩
def a6(h:(a&&b&&c&&d&&e&&f)=k9):a=k9/\b=k9/\c=k9/\d=k9/\e=k9/\f=true:=⟨(a2 (a5 h).1).1,(a2 (a5 h).1).2,(a5 h).2⟩
def a7(h:(a&&b&&c&&d&&e&&f&&g)=k9):a=k9/\b=k9/\c=k9/\d=k9/\e=k9/\f=k9/\g=true:=⟨(a2 (a6 h).1).1,(a2 (a6 h).1).2,(a6 h).2⟩
def nn(h:o.j=k9):o=none:=Af7.j h
def ki(h:vB cf i x=k9):cf.N[i]?=y0 x/\fD cf.p x=k9/\dz x=true:=⟨FB (a3 h).1,(a3 h).2⟩
def Zb(h:bt sc x e=true):∃p,e=.j (Qd x) p/\iM sc (Qd x)=true/\(Qd x==("__debug__":Str))=false:=by
 unfold bt at h;rw[Aa9,Aa9]at h;obtain⟨⟨b,c⟩,a⟩:=h;unfold dz at a;rw[Aa9]at a;cases e with
|Name y p=>
  have:y=Qd x:=by simpa[pX]using b
  subst this;exact⟨p,rfl,c,by simpa using a.1⟩
|_=>simp[pX]at b
def xk(h:x∈b5):Qd x≠("__name__":Str):=by
 have:(b5.N λx=>decide<|Qd x≠"__name__")=true:=by decide+kernel
 exact FB<|Ad6.j this x h
section
variable{Y:Ge}{F:M.Fx}{X:Cx}{E:XK}{k:Nat}{cf:Cf}
section
variable{G:Gh}{H:Hp}{h:M.AH}{Z:M.Sl}{U:St}{Q:VK}
def ar.val (p:ar Y E G0 H0 (.j w h) λw _ G' H'=>∀v,au Y G' H' w v->aK Z U H0 w v->Q v H')(e:Ext G0 H0 G H)(a:ak Y G h H)(z:au Y G H w v)(f:aK Z U H0 w v):Q v H:=
 p G H e a v z f
end
def EO(c:Go Y F X E k cf)(f:cf.N[i]?=y0 x)(g:fD cf.p x=k9)(b:dz x=k9):PE X (.j x pos)<|tD Y E<|M.eval F<|.var i:=by
 unfold dz at b;rw[Aa9]at b;refine PE.imp (XB (by rw[c.N];exact f) (c.gB x g) (by simpa using b.1)<|by simpa using b.2) λU H Q l=>?_;obtain⟨G,Z,h,s,p⟩:=l;rw[M.eval]at p;cases q:M.Gr Z i with
|none=>simp[M.Gq,q]at p;exact p.j
|some w=>
  obtain⟨v,e,r⟩:=s.u i w q;refine⟨v,e,?_⟩;cases w with
|v d=>rw[M.Kl q]at p;exact ar.val p Ext.refl s.j r trivial
|own m=>rw[M.Ka q]at p;obtain⟨a,j,z1,u,n,o,t⟩:=r;exact ar.val p Ext.refl s.j ⟨a,j,z1,n,.p o,t⟩ ⟨i,_,q,rfl,e⟩
|bor m=>rw[M.Kf q]at p;exact ar.val p Ext.refl s.j r ⟨i,_,q,rfl,e⟩
def LP(g:Go Y F X E k cf)(i:bt cf.p c e=k9):PE X e<|tD Y E<|M.eval F<|.con c:=by
 obtain⟨p,rfl,l,n⟩:=Zb i;cases q:F.con.j c with
|none=>rintro f s U H Q I ⟨G,Z,h,b,a⟩;rw[M.eval,q]at a;exact a.j
|some d=>obtain⟨u,v,m,rv,rd⟩:=g.con c d q;refine PE.imp (JO (g.w _ l) m rv n) λU H Q j=>?_;obtain⟨G,Z,h,b,a⟩:=j;rw[M.eval,q]at a;exact ar.val a Ext.refl b.j (rd G H) trivial
def KU:PE X (.y (.int i) j pos)<|tD Y E<|M.eval F<|.int i:=PE.imp u2<|by rintro U H Q⟨G,Z,h,s,p⟩;exact ar.val p Ext.refl s.j rfl trivial
def N2:PE X (.y (.bool i) j pos)<|tD Y E<|M.eval F<|.bl i:=PE.imp Bz<|by rintro U H Q⟨G,Z,h,s,p⟩;exact ar.val p Ext.refl s.j rfl trivial
def Cu:PE X (.y .w j pos)<|tD Y E<|M.eval F .aj:=PE.imp F3<|by rintro U H Q⟨G,Z,h,s,p⟩;exact ar.val p Ext.refl s.j rfl trivial
def BB:PE X (.y (.str<|ay i) j pos)<|tD Y E<|M.eval F<|.str i:=PE.imp CJ<|by rintro U H Q⟨G,Z,h,s,p⟩;exact ar.val p Ext.refl s.j rfl trivial
section
variable{a b c:M.E}{x y z:Expr}{pos:Pos}
def MK(u:Go Y F X E k cf)(v:nC o=k9)(q:PE X x<|tD Y E<|M.eval F a)(w:PE X y<|tD Y E<|M.eval F b):PE X (.BinOp x (n7 o) y pos)<|tD Y E<|M.eval F<|.bin o a b:=by refine PE.imp (DX (La (E:=E) o v u.K) q w) λU H Q j=>?_;obtain⟨G,Z,h,s,p⟩:=j;exact wb s.j Ext.refl s p λf v1 J D K t B d g C z=>wb s.j t d z λA v2 l r I i c n e L m=>⟨r,l,f,A,n.j,g.ext c d.j,e,aw.mk m i s.j⟩
def Z5(z:az Y G H d v)(f:M.flat d=k9):ZJ v=true:=by
 cases d with
|aj=>cases(z);rfl
|bl _=>cases(z);rfl
|int _=>cases(z);rfl
|str _=>cases(z);rfl
|_=>exact absurd (f) Ab0
theorem JR:∀{ds}{vs},ai Y G H ds vs->ds.N M.flat=k9->vs.N ZJ=k9
|[],_,rfl,_=>rfl
|d::ds,_,z7,f=>by obtain⟨v,r,rfl,z1,a⟩:=z7;rw[Ai,Aa9]at f⊢;exact⟨Z5 z1 f.1,JR a f.2⟩
def MQ(z:az Y G H d v)(y:az Y G H e u)(f:M.flat d=k9)(c:M.flat e=k9):hJ v u=M.cW d e:=by
 cases d with
|aj=>
  cases(z);cases e with
 |aj=>cases(y);rfl
 |bl _=>cases(y);rfl
 |int _=>cases(y);rfl
 |str _=>cases(y);rfl
 |_=>exact absurd (c) Ab0
|bl a=>
  cases(z);cases e with
 |aj=>cases(y);rfl
 |bl _=>cases(y);rfl
 |int j=>cases(y);show(_==j)=(a.j==j);rw[nc]
 |str _=>cases(y);rfl
 |_=>exact absurd (c) Ab0
|int i=>
  cases(z);cases e with
 |aj=>cases(y);rfl
 |bl b=>cases(y);show(i==(if b then(1:Int)else 0))=(i==b.j);rw[nc]
 |int _=>cases(y);rfl
 |str _=>cases(y);rfl
 |_=>exact absurd (c) Ab0
|str i=>
  cases(z);cases e with
 |aj=>cases(y);rfl
 |bl _=>cases(y);rfl
 |int _=>cases(y);rfl
 |str j=>cases(y);exact tK i j
 |_=>exact absurd (c) Ab0
|_=>exact absurd (f) Ab0
theorem uB(z:az Y G H d v)(b:M.flat d=k9):∀{ds}{vs},ai Y G H ds vs->ds.N M.flat=k9->i7 v vs=M.inD d ds
|[],_,rfl,_=>rfl
|e::ds,_,z7,f=>by obtain⟨u,r,rfl,z1,c⟩:=z7;rw[Ai,Aa9]at f;have a:=uB z b c f.2;unfold i7 M.inD at a⊢;rw[Ah9,Ah9,a,MQ z1 z f.1 b]
def au.mj (z:au Y G H w v)(e:w.d=y0 d)(f:M.flat d=k9):az Y G H d v:=by
 cases w with
|v b=>cases e;exact z
|own a=>cases e;exact absurd (f) Ab0
|bor a=>cases e
theorem vK(b:∀c y,RV hp c y->ee y=M.cW c d):∀{ys}{us},cy hp ys us->us.G ee=M.inD d ys
|[],_,rfl=>rfl
|c::ys,_,z7=>by obtain⟨u,r,rfl,z1,e⟩:=z7;have a:=vK b e;unfold M.inD at a⊢;rw[Ah9,Ah9,a,b c u z1]
def KQ(b:aM k X.A)(o:M.G8 ys<140)(l:RV s.j d v)(rs:cy s.j ys its):∃L:Value->Bool,(∀c y,RV s.j c y->L y=M.cW c d)/\∀y,y∈its.w->SeqAt.EqAt X.A.w s y v (L y):=by
 have e:∃L:Value->Bool,∀c y,RV s.j c y->L y=M.cW c d:=⟨λy=>@k8 (∃a,RV s.j a y/\M.cW a d=k9)<|Ak7 _,λc y z=>by
  cases q:M.cW c d with
|true=>exact@FM _ (Ak7 _) ⟨c,z,q⟩
|false=>exact@Do _ (Ak7 _) λ⟨d,m,g⟩=>by rw[RV.inj m z,q]at g;cases g⟩
 obtain⟨L,h⟩:=e;refine⟨L,h,λy n=>?_⟩;obtain⟨j,i⟩:=List.getElem?_of_mem<|List.mem_toArray.j n;obtain⟨a,f,rd⟩:=rs.get i;rw[h a y rd];exact(AD 140 a _ X.A.w y v (by have:=WC f;lia) (by have:=b.un;lia) rd l).eq
set_option tactic.hygienic true in
def Bm(m:X.K=Y.K)(d:aM k X.A)(neg:Bool){x y:V}(I:Inv X u7 U H s)(A:RelV x v)(z:RelV y u){b:Bool}(o:ak Y G h H)
 (t:au Y G H w1 x)(r:au Y G H w2 y)(e:M.KC w1 w2 h=y0 b)(q:Q (.C<|if neg then !b else b) H):wpAny (model X.p X.w) X.A (compareOp (if neg then .NotIn else .In) v u) (EP X u7 U Q) X.xe s:=by
 unfold M.KC at e;split at e
 .rename_i D w;split at e
  .rename_i c;cases e;have p:=by simpa using c
   have B:=t.rv I m o A p.1.1;have j:=r.rv I m o z (by simp_all);rw[w]at j;obtain⟨a,f,rfl,i,rs⟩:=j;obtain⟨g,C,l⟩:=KQ d p.2 B rs;have n:f.w.any g=M.inD (w1.dd h) D:=by rw[List.any_toArray];exact vK C rs
   cases neg with
|true=>exact RZ g i l ⟨.C _,H,I,rfl,by rw[n];exact q⟩
|false=>exact Sx g i l ⟨.C _,H,I,rfl,by rw[n];exact q⟩
  .cases e
 .cases e
set_option tactic.hygienic true in
def vD(r:X.K=Y.K)(m:aM k X.A)(neg:Bool){x y:V}(I:Inv X u7 U H s)(g:RelV x v)(f:RelV y u){b:Bool}(B:ak Y G h H)
 (n:au Y G H w1 x)(l:au Y G H w2 y)(e:M.Kh w1 w2 h=y0 b)(q:Q (.C<|if neg then !b else b) H):wpAny (model X.p X.w) X.A (compareOp (if neg then .NotIn else .In) v u) (EP X u7 U Q) X.xe s:=by
 unfold M.Kh at e;split at e
 .rename_i i j t o;split at e
  .rename_i c;cases e;cases n.str t;cases l.str o;have w:(!(Builtin.Str.occurrences (ay j) (ay [c]) 0 (ay j).e 1).y)=j.p c:=by have:=PySem.StrLaws.found_one (ay j) c;refine this.x ?_;rw[P8,On,Ad8];simp[ay]
   cases neg with
|true=>exact wT u7 s U H _ _ v u Q I g f ⟨_,_,rfl,rfl,by rw[w];exact q⟩
|false=>exact BX u7 s U H _ _ v u Q I g f ⟨_,_,rfl,rfl,by rw[w];exact q⟩
  .cases e
 .split at e
  .rename_i d D t o;split at e
   .rename_i c;rw[Aa9]at c;cases e;have z:=n.mj t c.1;obtain⟨a,A,rfl,C,p⟩:=l.seq B o;rw[←uB z c.1 p c.2]at q;cases neg with
|true=>exact wS u7 s U H _ _ v u Q I g f ⟨a,A,rfl,r▸nU C,Z5 z c.1,JR p c.2,q⟩
|false=>exact K5 u7 s U H _ _ v u Q I g f ⟨a,A,rfl,r▸nU C,Z5 z c.1,JR p c.2,q⟩
   .exact Bm r m neg I g f B n l e q
  .cases e
def DS:b7 X (compareOp .GtE)<|λx y H Q=>∃i j,x=.m i/\y=.m j/\Q (.C<|!k8 (i.j.p<j.j.p)) H:=by rintro a s U H x y v u Q I d c ⟨i,j,ex,b,q⟩;subst ex b;obtain⟨t,rfl⟩:=d;obtain⟨e,rfl⟩:=c;exact PySem.P.ge_str<|QH I q rfl
set_option tactic.hygienic true in
def zL(w:Go Y F X E k cf)(o)(D:QJ o=k9):b7 X (compareOp<|fP o)<|kB Y o:=by
 have g:∀{o},(∀a d h b,M.Gm o a d h=y0 b->(∃i j,M.W.int? a=y0 i/\M.W.int? d=y0 j/\M.Ku o i j=y0 b)\/(∃i j,M.W.bc a=y0 i/\M.W.bc d=y0 j/\M.Kw o i j=y0 b))->b7 X (compareOp<|fP o) (kB Y o):=by
  rintro o C f s U H x y v u Q I m l ⟨G,h,a,d,b,hh,p,n,e,q⟩;obtain⟨i,j,z,r,A⟩|⟨i,j,z,r,A⟩:=C a d h b e
  .cases p.int z;cases n.int r;exact Ci A I m l q
  .cases p.str z;cases n.str r;cases o with
|lt=>cases A;refine Eo f s U H _ _ v u Q I m l ⟨_,_,rfl,rfl,?_⟩;have:k8 ((ay i).j.p<(ay j).j.p)=k8 (i<j):=decide_eq_decide.p (by simp[ay]);exact q
|ge=>cases A;have:k8 ((ay i).j.p<(ay j).j.p)=k8 (i<j):=decide_eq_decide.p (by simp[ay]);exact DS f s U H _ _ v u Q I m l ⟨_,_,rfl,rfl,q⟩
|_=>cases A
 have mk:∀{o}{a d}{h:M.AH}{b},(match M.W.int? a,M.W.int? d with
|some i,y0 j=>M.Ku o i j
|_,_=>match M.W.bc a,M.W.bc d with
|some s,y0 t=>M.Kw o s t
|_,_=>u0)=y0 b->(∃i j,M.W.int? a=y0 i/\M.W.int? d=y0 j/\M.Ku o i j=y0 b)\/(∃i j,M.W.bc a=y0 i/\M.W.bc d=y0 j/\M.Kw o i j=y0 b):=by
  intro o a d h b e;split at e
  .rename_i i j z r;exact .p ⟨i,j,z,r,e⟩
  .split at e
   .rename_i i j z r;exact .u ⟨i,j,z,r,e⟩
   .cases e
 cases o with
|eq=>exact Hx w.K w.u
|ne=>exact HE w.K w.u
|lt=>exact g λa d h b e=>mk (h:=h) e
|le=>exact g λa d h b e=>mk (h:=h) e
|gt=>exact g λa d h b e=>mk (h:=h) e
|ge=>exact g λa d h b e=>mk (h:=h) e
|mem=>rintro f s U H x y v u Q I m l ⟨G,h,a,d,b,hh,p,n,e,q⟩;exact vD w.K w.u u9 I m l hh p n e q
|br=>
  rintro f s U H x y v u Q I m l ⟨G,h,a,d,b,hh,p,n,e,q⟩;have e:(M.Kh a d h).u (!·)=y0 b:=e;cases r:M.Kh a d h with
 |none=>rw[r]at e;cases e
 |some c=>rw[r]at e;cases e;exact vD w.K w.u k9 I m l hh p n r q
|oX=>
  rintro f s U H x y v u Q I m l ⟨G,h,a,d,b,hh,p,n,e,q⟩;have e:M.Ks a d=y0 b:=e;unfold M.Ks at e;split at e
  .cases e;cases p;cases n;cases m;obtain⟨t,rfl⟩:=l;exact wpAny_is_plain rfl<|QH I q rfl
  .cases e;cases p;cases n;obtain⟨t,rfl⟩:=m;obtain⟨B,rfl⟩:=l;exact PyProof.Rows.is_bool<|QH I q rfl
  .cases e
|i5=>
  rintro f s U H x y v u Q I m l ⟨G,h,a,d,b,hh,p,n,e,q⟩;have e:(M.Ks a d).u (!·)=y0 b:=e;unfold M.Ks at e;split at e
  .cases e;cases p;cases n;cases m;obtain⟨t,rfl⟩:=l;exact wpAny_isNot_plain rfl<|QH I q rfl
  .cases e;cases p;cases n;obtain⟨t,rfl⟩:=m;obtain⟨B,rfl⟩:=l;exact PyProof.Rows.isnot_bool<|QH I q rfl
  .cases e
def XF(h:ji e=k9):behindInMarks o e=false:=by
 cases e<;>first|rfl|(simp[ji]at h)
def vP(B:Go Y F X E k cf)(s:av Y G Z h U H)
 (p:ar Y E G H ((M.eval F a Z h).p λx h=>(M.eval F b Z h).p λy h=>(M.R.of h<|M.Gm o x y h).p λc h=>.j c h) λc _ _ H'=>R (.C c) H'):
 mP (kB Y o) (tD Y E<|M.eval F a) (tD Y E<|M.eval F b) U H R:=by
 refine wb s.j Ext.refl s p λl v1 D A I t w f m z u=>wb s.j t f u λv v2 q r C n d g i J e=>?_;obtain⟨c,j,e⟩:=e.of;exact⟨r,q,l,v,c,g.j,m.ext d f.j,i,j,e.at n g.j⟩
def ar.map {f:α->β}(p:ar Y E G H (r.p λa h=>.j (f a) h) P):ar Y E G H r λa h G' H'=>P (f a) h G' H':=by
 cases r with
|ok a h=>exact p
|exc d h=>exact p
|fail=>exact p
def wk(r:M.R α)(f)(g:β->M.AH->M.R γ):(r.p f).p g=r.p λa h=>(f a h).p g:=by cases r<;>rfl
def C6(j:Go Y F X E k cf)(u:QJ o=k9)(A:ji y=k9)(n:PE X x<|tD Y E<|M.eval F a)(z:PE X y<|tD Y E<|M.eval F b):PE X (.C x [fP o] [y] pos)<|tD Y E<|M.eval F<|.cmp o a b:=by
 refine PE.imp (ER (zL j o u) n z<|XF A) λU H Q l=>?_;obtain⟨G,Z,h,s,p⟩:=l;rw[M.eval]at p;refine vP j s ?_;have m:ar Y E G H (((M.eval F a Z h).p λx h=>(M.eval F b Z h).p λy h=>(M.R.of h<|M.Gm o x y h).p λc h=>.j c h).p λc h=>.j (M.W.v<|.C c) h) λw _ i g=>∀v,au Y i g w v->aK Z U H w v->Q v g:=by simpa only[wk,M.R.ae]using p
 have f:=m.map;cases q:(M.eval F a Z h).p λx h=>(M.eval F b Z h).p λy h=>(M.R.of h _).p λc h=>.j c h with
|ok c t=>rw[q]at f;exactλi g e r=>f i g e r _ rfl trivial
|exc d t=>rw[q]at f;exact f
|fail=>rw[q]at f;exact f
def D5(g:Go Y F X E k cf)(r:QJ o=k9)(v:ji y=k9)(l:PE X x<|tD Y E<|M.eval F a)(t:PE X y<|tD Y E<|M.eval F b):PT X (.C x [fP o] [y] pos)<|c9 Y E<|M.Gg F<|.cmp o a b:=by
 refine PT.imp (Dr (zL g o r) l t<|XF v) λU H Q j=>?_;obtain⟨G,Z,h,s,p⟩:=j;unfold M.Gg at p;rw[M.eval]at p;refine vP g s ?_;have f:=by simpa only[wk,M.R.ae,M.Gu,M.R.af]using p
 cases q:(M.eval F a Z h).p λx h=>(M.eval F b Z h).p λy h=>(M.R.of h _).p λc h=>.j c h with
|ok c n=>rw[q]at f;exactλi u e m=>⟨c,rfl,f i u e m⟩
|exc d n=>rw[q]at f;exact f
|fail=>rw[q]at f;exact f
end
end
section
variable{Y:Ge}{F:M.Fx}{X:Cx}{E:XK}{k:Nat}{cf:Cf}{a b c:M.E}{x y z:Expr}{pos:Pos}
def jD(r:M.R α):(r.p λw h=>.j w h)=r:=by cases r<;>rfl
def DO(l:Go Y F X E k cf)(i:PE X x<|tD Y E<|M.eval F a)(n:∀L,isTrue x X.j L=(do let v←L;standAt x.pos;holding [v]<|truthy v)):PT X x<|c9 Y E<|M.Gg F a:=by
 refine PT.imp (Lg i n) λU H Q g=>?_;obtain⟨G,Z,h,s,p⟩:=g;refine wb s.j Ext.refl s p λd v1 m f o j r c e u b=>?_;cases q:M.Kb m d with
|none=>rw[q]at b;exact b.j
|some t=>rw[q]at b;exact⟨t,n0 l.K c.j e q,b f o j c.j⟩
def N3(i:PE X x ta):PE X (.J .Not x pos)<|λU H Q=>ta U H λv H1=>∃t,i9 X.K v H1 t/\Q (.C<|!t) H1:=by intro a s U H Q I h;exact UnaryOp_<|aJ (i a s U H _ I h)<|by rintro v e⟨x,H1,d,f,t,j,g⟩;exact not_of<|aJ (m2 a e U H1 x v (λc l=>Q (.C<|!c) l) d f ⟨t,j,g⟩)<|by rintro c m⟨k,b,q⟩;exact⟨.C<|!c,k,b,rfl,q⟩
def NB(i:Go Y F X E k cf)(f:PE X x<|tD Y E<|M.eval F a):PE X (.J .Not x pos)<|tD Y E<|M.eval F<|.not a:=by refine PE.imp (N3 f) λU H Q e=>?_;obtain⟨G,Z,h,s,p⟩:=e;refine wb s.j Ext.refl s p λm v1 o n r g j c d l b=>?_;obtain⟨t,q,b⟩:=b.of;exact⟨t,n0 i.K c.j d q,ar.val b g c.j rfl trivial⟩
def Dl(c:PT X x<|c9 Y E<|M.Gg F a):PT X (.J .Not x pos)<|c9 Y E<|M.Gg F<|.not a:=by
 refine PT.imp (Np c) λU H Q d=>?_;obtain⟨G,Z,h,s,p⟩:=d;unfold M.Gg at p;rw[M.eval]at p;have e:ar Y E G H ((M.Gg F a Z h).p λt h=>.j (!t) h) λb _ _ f=>Q b f:=by unfold M.Gg;simpa only[wk,M.R.ae,M.Gu,M.R.af]using p
 exact⟨G,Z,h,s,e.map⟩
def LG{rest:List Expr}(m:PE X x ta)(o:PE X (.A .And (y::rest) pos) tb):PE X (.A .And (x::y::rest) pos)<|λU H Q=>ta U H λv H1=>∃t,i9 X.K v H1 t/\if t=k9 then tb U H1 Q else Q v H1:=by
 intro a s U H Q I h;refine BoolOp_and<|aJ (m a s U H _ I h) ?_;rintro v i⟨x,H1,g,d,t,n,k⟩;refine aJ (m2 a i U H1 x v (λc f=>if c=k9 then tb U f Q else Q x f) g d ⟨t,n,k⟩) λc l j=>?_;obtain⟨e,b,q⟩:=j;cases c with
|true=>exact o a l U e Q b q
|false=>exact⟨x,e,b,d,q⟩
def Ij{rest:List Expr}(m:PE X x ta)(o:PE X (.A .Or (y::rest) pos) tb):PE X (.A .Or (x::y::rest) pos)<|λU H Q=>ta U H λv H1=>∃t,i9 X.K v H1 t/\if t=k9 then Q v H1 else tb U H1 Q:=by
 intro a s U H Q I h;refine BoolOp_or<|aJ (m a s U H _ I h) ?_;rintro v i⟨x,H1,g,d,t,n,k⟩;refine aJ (m2 a i U H1 x v (λc f=>if c=k9 then Q x f else tb U f Q) g d ⟨t,n,k⟩) λc l j=>?_;obtain⟨e,b,q⟩:=j;cases c with
|false=>exact o a l U e Q b q
|true=>exact⟨x,e,b,d,q⟩
def yi(u:Go Y F X E k cf){rest:List Expr}(r:PE X x<|tD Y E<|M.eval F a)(v:PE X (.A .And (y::rest) pos)<|tD Y E<|M.eval F b):PE X (.A .And (x::y::rest) pos)<|tD Y E<|M.eval F<|.and a b:=by
 refine PE.imp (LG r v) λU H Q m=>?_;obtain⟨G,Z,h,s,p⟩:=m;refine wb s.j Ext.refl s p λA v1 J B L e w d f g c=>?_;obtain⟨t,q,c⟩:=c.of;refine⟨t,n0 u.K d.j f q,?_⟩;cases t with
|true=>exact wb s.j e d (by rw[jD];exact c) λK v2 C D I l j o i z n=>ar.val n l o.j i<|z.back e s.j
|false=>exact ar.val c e d.j f g
def vv(u:Go Y F X E k cf){rest:List Expr}(r:PE X x<|tD Y E<|M.eval F a)(v:PE X (.A .Or (y::rest) pos)<|tD Y E<|M.eval F b):PE X (.A .Or (x::y::rest) pos)<|tD Y E<|M.eval F<|.or a b:=by
 refine PE.imp (Ij r v) λU H Q m=>?_;obtain⟨G,Z,h,s,p⟩:=m;refine wb s.j Ext.refl s p λA v1 J B L e w d f g c=>?_;obtain⟨t,q,c⟩:=c.of;refine⟨t,n0 u.K d.j f q,?_⟩;cases t with
|false=>exact wb s.j e d (by rw[jD];exact c) λK v2 C D I l j o i z n=>ar.val n l o.j i<|z.back e s.j
|true=>exact ar.val c e d.j f g
def LS:M.Gg F (.and a b) Z h=(M.Gg F a Z h).p λt h=>match t with
|true=>M.Gg F b Z h
|false=>.j u9 h:=by
 unfold M.Gg;rw[M.eval];simp only[wk];congr 1;funext w h1;cases q:M.Kb h1 w with
|none=>rfl
|some t=>
  cases t with
|true=>rfl
|false=>simp[q]
def FY:M.Gg F (.or a b) Z h=(M.Gg F a Z h).p λt h=>match t with
|true=>.j k9 h
|false=>M.Gg F b Z h:=by
 unfold M.Gg;rw[M.eval];simp only[wk];congr 1;funext w h1;cases q:M.Kb h1 w with
|none=>rfl
|some t=>
  cases t with
|false=>rfl
|true=>simp[q]
def yX{rest:List Expr}(q:PT X x<|c9 Y E<|M.Gg F a)(v:PW X (.A .And (y::rest) pos)<|c9 Y E<|M.Gg F b):PW X (.A .And (x::y::rest) pos)<|c9 Y E<|M.Gg F<|.and a b:=by
 rintro i c m U H Q I ⟨G,Z,h,s,p⟩;refine IB q v i c m U H Q I ?_;rw[LS]at p;refine XQ s.j Ext.refl s p λt C k z e A d g=>?_;cases t with
|true=>exact XQ s.j e d (f:=λw h=>.j w h) (by rw[jD];exact g) λD B r u l j o n=>n r u l o.j
|false=>exact g k z e d.j
def yV{rest:List Expr}(q:PT X x<|c9 Y E<|M.Gg F a)(v:PW X (.A .Or (y::rest) pos)<|c9 Y E<|M.Gg F b):PW X (.A .Or (x::y::rest) pos)<|c9 Y E<|M.Gg F<|.or a b:=by
 rintro i c m U H Q I ⟨G,Z,h,s,p⟩;refine F6 q v i c m U H Q I ?_;rw[FY]at p;refine XQ s.j Ext.refl s p λt C k z e A d g=>?_;cases t with
|false=>exact XQ s.j e d (f:=λw h=>.j w h) (by rw[jD];exact g) λD B r u l j o n=>n r u l o.j
|true=>exact g k z e d.j
def DE(f:PE X x<|tD Y E<|M.eval F a):PE X (.J .USub x pos)<|tD Y E<|M.eval F<|.neg a:=by refine PE.imp (yp AZ f) λU H Q e=>?_;obtain⟨G,Z,h,s,p⟩:=e;refine wb s.j Ext.refl s p λk v1 m l n g i c d j b=>?_;obtain⟨t,q,b⟩:=b.of;exact⟨t,d.int q,ar.val b g c.j rfl trivial⟩
def uO(r:au Y G H w v):(v=.aj)↔w=.v .L:=by
 constructor
 .intro e;subst e;cases w with
|v d=>
   cases d with
 |aj=>rfl
 |bl _=>cases(r)
 |int _=>cases(r)
 |str _=>cases(r)
 |tup _=>obtain⟨_,_,e,_⟩:=r;cases e
 |lst _=>obtain⟨_,_,e,_⟩:=r;cases e
 |ref _=>obtain⟨_,e⟩:=r;cases e
 |exc _ _=>rcases r with⟨_,_,e,_⟩|⟨_,_,e,_⟩<;>cases e
 |err _ _ _=>obtain⟨_,_,_,e,_⟩:=r;cases e
|own _=>obtain⟨_,_,e,_⟩:=r;cases e
|bor _=>obtain⟨_,_,e,_⟩:=r;cases e
 .intro e;subst e;exact r
noncomputable def oK(neg:Bool):M.W->Bool
|.v .L=>!neg
|_=>neg
def tG:M.eval F (.cm neg a) Z h=(M.eval F a Z h).p λw h=>M.aC (.C<|oK neg w) h:=by
 rw[M.eval];congr 1;funext w h1;cases w with
|v d=>cases d<;>rfl
|own _=>rfl
|bor _=>rfl
def Ar(r:au Y G H w v)(neg:Bool):(if neg then !k8 (v=.aj)else k8 (v=.aj))=oK neg w:=by
 by_cases a:v=.aj
 .have b:=(uO r).j a;subst b a;cases neg<;>rfl
 .have b:=λe=>a<|(uO r).p e;rw[(Do a)];have c:oK neg w=neg:=by
   cases w with
|v d=>cases d<;>first|rfl|exact absurd rfl b
|own _=>rfl
|bor _=>rfl
  rw[c];cases neg<;>rfl
def My(c:PE X x<|tD Y E<|M.eval F a):PE X (.C x [if neg then .IsNot else .Is] [.y .w j pos'] pos)<|tD Y E<|M.eval F<|.cm neg a:=by
 have b:∀U H Q,tD Y E (M.eval F<|.cm neg a) U H Q->tD Y E _ U H λv d=>Q (.C<|if neg then !k8 (v=.aj)else decide _) d:=λU H Q g=>by obtain⟨G,Z,h,s,p⟩:=g;rw[tG]at p;refine wb s.j Ext.refl s p λn v1 q o d i l e f m k=>?_;rw[Ar f neg];exact ar.val k i e.j rfl trivial
 cases neg with
|true=>exact PE.imp (uY<|vt c) b
|false=>exact PE.imp (uY<|vA c) b
def Dj(i:PE X x<|tD Y E<|M.eval F a):PT X (.C x [if neg then .IsNot else .Is] [.y .w j pos'] pos)<|c9 Y E<|M.Gg F<|.cm neg a:=by
 have g:∀U H Q,c9 Y E (M.Gg F<|.cm neg a) U H Q->tD Y E _ U H λv b=>Q (if neg then !k8 (v=.aj)else decide _) b:=λU H Q o=>by obtain⟨G,Z,h,s,p⟩:=o;unfold M.Gg at p;rw[tG,wk]at p;refine wb s.j Ext.refl s p λI v1 J n b u B l m D A=>?_;rw[Ar m neg];exact A n b u l.j
 have fin:∀U H Q,c9 Y E _ U H Q->tD Y E (M.eval F a) U H λv b=>∃c,V.bl _=.C c/\Q c b:=λU H Q t=>by
  obtain⟨G,Z,h,s,p⟩:=g U H Q t;refine⟨G,Z,h,s,?_⟩;cases q:M.eval F a Z h with
|ok w z=>rw[q]at p;exactλk C e y v r f=>⟨_,rfl,p k C e y v r f⟩
|exc d z=>rw[q]at p;exact p
|fail=>rw[q]at p;exact p
 cases neg with
|true=>exact PT.imp (Bf<|vt i) fin
|false=>exact PT.imp (Bf<|vA i) fin
def uE(h:ji e'=k9):lastMarks [o,o'] [e,e']=false:=XF h
def Av(S:Go Y F X E k cf)(s:av Y G Z h U H)
 (m:∀b h' G' H',P (.v<|.C b) h' G' H'->R (.C b) H')(p:ar Y E G H (M.eval F (.a4 o o' a b c) Z h) P):
 rj (kB Y o) (kB Y o') (tD Y E<|M.eval F a) (tD Y E<|M.eval F b) (tD Y E<|M.eval F c) U H R:=by
 refine wb s.j Ext.refl s p λv v1 V O W B K n w L D=>wb s.j B n D λu v2 x z T q g e l f2 d=>?_;obtain⟨t,f,d⟩:=d.of;refine⟨z,x,v,u,t,e.j,w.ext g n.j,l,f,t,rfl,?_⟩;cases t with
|true=>refine wb s.j q e d λJ v3 I A Q C i r y N j=>?_;obtain⟨t,f,j⟩:=j.of;exact⟨A,I,u,J,t,r.j,l.ext i e.j,y,f,m _ _ _ _<|j.at C r.j⟩
|false=>exact m _ _ _ _<|d.at q e.j
def CD(e:Go Y F X E k cf)(i:QJ o=k9)(d:QJ o'=k9)(f:ji z=k9)(g:PE X x<|tD Y E<|M.eval F a)(l:PE X y<|tD Y E<|M.eval F b)(j:PE X z<|tD Y E<|M.eval F c):
 PE X (.C x [fP o,fP o'] [y,z] pos)<|tD Y E<|M.eval F<|.a4 o o' a b c:=
 PE.imp (Fz (zL e o i) (zL e o' d) g l j<|uE f)<|by rintro U H Q⟨G,Z,h,s,p⟩;exact Av e s (λb n m r q=>q _ rfl trivial) p
def KN(i:Go Y F X E k cf)(u:QJ o=k9)(g:QJ o'=k9)(n:ji z=k9)(r:PE X x<|tD Y E<|M.eval F a)(B:PE X y<|tD Y E<|M.eval F b)(A:PE X z<|tD Y E<|M.eval F c):
 PT X (.C x [fP o,fP o'] [y,z] pos)<|c9 Y E<|M.Gg F<|.a4 o o' a b c:=by
 refine PT.imp (NX (zL i o u) (zL i o' g) r B A<|uE n) λU H Q m=>?_;obtain⟨G,Z,h,s,p⟩:=m;refine Av i s (P:=λw _ _ f=>∀b,w=.v (.C b)->Q b f) (λb l j f q=>⟨b,rfl,q b rfl⟩) ?_;unfold M.Gg at p;cases q:M.eval F _ Z h with
|ok w l=>rw[q]at p;exactλj f e t b v=>by subst v;exact p j f e t
|exc d l=>rw[q]at p;exact p
|fail=>rw[q]at p;exact p
end
def Ja(h:jb e=k9):starEach (e::es) env=(u9,eval e env)::starEach es env:=by
 cases e<;>first|rfl|(simp[jb]at h)
def Zh(h:∀e∈es,jb e=k9):(backTo pos<|starEach es env).G (·.1)=false:=by
 induction es with
|nil=>rfl
|cons e r b=>rw[Ja<|h e Aa];show(u9||(backTo pos _).G _)=u9;rw[b λc a=>h c<|Aa0 _ a];rfl
section
variable{Y:Ge}{F:M.Fx}{X:Cx}{E:XK}{k:Nat}{cf:Cf}{a b c:M.E}{x y z:Expr}{pos:Pos}{es:M.Es}{xs:List Expr}
def Cw:PA X []<|gU Y E<|M.Gk F .p:=PA.imp xi<|by rintro U H Q⟨G,Z,h,s,p⟩;exact p G H Ext.refl s.j [] rfl
def Fe(j:jb x=k9)(r:PE X x<|tD Y E<|M.eval F a)(y:PA X xs<|gU Y E<|M.Gk F es):PA X (x::xs)<|gU Y E<|M.Gk F<|.j a es:=by refine PA.imp (Qc r y<|Ja j) λU H Q m=>?_;obtain⟨G,Z,h,s,p⟩:=m;refine wb s.j Ext.refl s p λB v1 J C L u A i k g c=>?_;obtain⟨d,q,c⟩:=c.of;obtain⟨I,l,f,rd,_⟩:=nT u i s k g q;exact Q3 s.j l f c λD e K t o v b w n z=>z t o v w.j (v1::e) ⟨v1,e,rfl,rd.ext b f.j,n⟩
def Hc:PA X []<|gD Y E<|M.Gn F .p:=PA.imp xi<|by rintro U H Q⟨G,Z,h,s,p⟩;exact p G H Ext.refl s.j [] rfl
def M0(e:jb x=k9)(k:PE X x<|tD Y E<|M.eval F a)(q:PA X xs<|gD Y E<|M.Gn F es):PA X (x::xs)<|gD Y E<|M.Gn F<|.j a es:=by refine PA.imp (Qc k q<|Ja e) λU H Q g=>?_;obtain⟨G,Z,h,s,p⟩:=g;exact wb s.j Ext.refl s p λw v1 A y C m u c f v r=>Zr s.j m c r λz d B l j n b o i t=>t l j n o.j (v1::d) ⟨v1,d,rfl,f.ext b c.j,i⟩
def B3(z:xs.e<=1000)(a:∀Z h ds h',M.Gk F es Z h=.j ds h'->ds.e=xs.e)(u:PA X xs<|gU Y E<|M.Gk F es):PE X (.G xs n pos)<|tD Y E<|M.eval F<|.tup es:=by
 refine PE.imp (sX u) λU H Q o=>?_;obtain⟨G,Z,h,s,p⟩:=o;rw[M.eval]at p;cases q:M.Gk F es Z h with
|ok e i=>
  have r:=a _ _ _ _ q;refine Q3 s.j Ext.refl s (f:=λds h=>if ds.e=xs.e then M.aC (.p ds) h else .u) (P:=λw h' l k=>∀v,au Y l k w v->aK Z U H w v->Q v k) ?_ λds B C A D x y m g b=>?_
  .rw[q]at p⊢;show ar Y E G H (if e.e=xs.e then M.aC _ i else .u) _;rw[Da r];exact p
  .by_cases j:ds.e=xs.e
   .rw[Da j]at b;have I:=g.length;exact⟨Ag2<|qp YB,λt c=>aw.tup (aw.mk b x s.j) m.j g t c⟩
   .rw[Fk j]at b;exact b.j
|exc d i=>rw[q]at p;exact⟨G,Z,h,s,by rw[q];exact p⟩
|fail=>rw[q]at p;exact p.j
def Lu(y:xs.e<=1000)(a:∀Z h ds h',M.Gk F es Z h=.j ds h'->ds.e=xs.e)(t:PA X xs<|gU Y E<|M.Gk F es):PE X (.List xs pos)<|tD Y E<|M.eval F<|.lst es:=by
 refine PE.imp (L0 t) λU H Q n=>?_;obtain⟨G,Z,h,s,p⟩:=n;rw[M.eval]at p;cases q:M.Gk F es Z h with
|ok e i=>
  have o:=a _ _ _ _ q;refine Q3 s.j Ext.refl s (f:=λds h=>if ds.e=xs.e then .j (.j ds) h else .u) (P:=λw h' l k=>∀v,au Y l k w v->aK Z U H w v->Q v k) ?_ λds A B z C u x m g b=>?_
  .rw[q]at p⊢;show ar Y E G H (if e.e=xs.e then .j _ i else .u) _;rw[Da o];exact p
  .by_cases j:ds.e=xs.e
   .rw[Da j]at b;have D:=g.length;exact⟨Ag2<|qp YB,λr c=>aw.own (aw.mk b u s.j) m.j g r c⟩
   .rw[Fk j]at b;exact b.j
|exc d i=>rw[q]at p;exact⟨G,Z,h,s,by rw[q];exact p⟩
|fail=>rw[q]at p;exact p.j
def Ld(r:au Y G H w v):au Y G H w.arg v:=by
 cases w with
|v d=>exact r
|own f=>obtain⟨a,e,z1,_,b,c,g⟩:=r;exact⟨a,e,z1,b,.p c,g⟩
|bor f=>exact r
theorem Wn:∀{ws}{vs},a9 Y G H ws vs->a9 Y G H (ws.u M.W.arg) vs
|[],_,z=>z
|_::_,_,z7=>by obtain⟨v,r,z1,b,a⟩:=z7;exact⟨v,r,z1,Ld b,Wn a⟩
def Zl(ws:List M.W):∀w∈ws.u M.W.arg,oi w=true:=λw a=>by obtain⟨u,_,rfl⟩:=Ad3.j a;cases u<;>rfl
def CV(a:Go Y F X E k cf)(i:bt cf.p f g=k9)(B:cf.u.p f=k9)(c:∀e∈x::xs,jb e=k9)(t:PA X (x::xs)<|gD Y E<|M.Gn F es):PE X (.u g (x::xs) [] pos)<|tD Y E<|M.eval F<|.j f es:=by obtain⟨p,rfl,q,z⟩:=Zb i;obtain⟨D,K,J,b,d,l,r⟩:=(a.fn f B).imp λD h=>h.ex;refine PE.imp (Ic b a.u (a.w _ q) r l d .p a.pass t z (Ja<|c _ Aa)<|Zh λe A=>c e<|Aa0 _ A) λU H Q o=>?_;obtain⟨G,Z,h,s,p⟩:=o;refine Zr s.j Ext.refl s p λw I v n L u C j m y=>?_;rw[Ac7];exact⟨n,v,_,j.j,Wn m,Zl w,aw.mk y u s.j⟩
def Ho(a:Go Y F X E k cf)(d:bt cf.p f g=k9)(n:cf.u.p f=k9):PE X (.u g [] [] pos)<|tD Y E<|M.eval F<|.j f .p:=by obtain⟨p,rfl,j,m⟩:=Zb d;obtain⟨o,r,q,b,c,e,l⟩:=(a.fn f n).imp λo h=>h.ex;refine PE.imp (BS b a.u (a.w _ j) l e c .p a.pass m) λU H Q i=>?_;obtain⟨G,Z,h,s,p⟩:=i;exact⟨G,h,_,s.j,Wn (ws:=[]) rfl,Zl [],aw.mk p Ext.refl s.j⟩
def HC(b:M.Bi)(a:nQ b=k9):bootBuiltins (Qd<|ra b)=y0 (tY b):=by
 cases b<;>first|(exact absurd (show u9=k9 from a) Ab0)|decide+kernel
def u3(b):ra b∈b5:=by cases b<;>decide
def LH(c:Go Y F X E k cf){b:M.Bi}(f:nQ b=k9)(t:vc cf b g=k9)(u:∀e∈x::xs,jb e=k9)(q:PA X (x::xs)<|gD Y E<|M.Gn F es):PE X (.u g (x::xs) [] pos)<|tD Y E<|M.eval F<|.bi b es:=by
 obtain⟨p,rfl,l,r⟩:=Zb (a2 t).2;have m:=c.j _<|u3 b;have o:=xk<|u3 b;have i:=HC b f;have j:Xr X _<|rX Y E b:=Mu b f c.K<|λnb=>c.G<|(Ak2.j (a2 t).1).j id λz=>absurd (FB z) nb;have a:∀U H Q,tD Y E (M.eval F<|.bi b es) U H Q->pf (rX Y E b) (gD Y E _) U H Q:=λU H Q y=>by obtain⟨G,Z,h,s,p⟩:=y;refine Zr s.j Ext.refl s p λC K B w L A J d v D=>?_;exact⟨w,B,C,d.j,v,aw.mk D A s.j⟩
 have d:=Ja (env:=X.j) (es:=xs)<|u _ Aa;have n:=Zh (env:=X.j) (pos:=pos) λe I=>u e<|Aa0 _ I;cases b with
|len=>exact PE.imp (Xm j (c.w _ l) m i q o r d n) a
|divmod=>cases f
|min=>cases f
|max=>cases f
|int=>exact PE.imp (Jt j (c.w _ l) m i q o r d n) a
|list=>exact PE.imp (Jt j (c.w _ l) m i q o r d n) a
|tuple=>exact PE.imp (Jt j (c.w _ l) m i q o r d n) a
|sum=>exact PE.imp (Xm j (c.w _ l) m i q o r d n) a
|all=>exact PE.imp (Xm j (c.w _ l) m i q o r d n) a
|any=>cases f
|sorted=>exact PE.imp (Xm j (c.w _ l) m i q o r d n) a
|str=>cases f
|abs=>cases f
def bF(h:ZU o=k9)(w):attributeBase o n env w=w:=by
 cases o with
|Call f a b p=>
  cases a with
 |nil=>exact absurd (h) Ab0
 |cons x a=>cases f<;>rfl
|_=>rfl
theorem j8(z):∀ts:List M.Tx,Str.join (ay z) (ts.u ay)=ay (M.GH z ts)
|[]=>rfl
|[t]=>rfl
|t::u::r=>by have a:=j8 z<|u::r;simp only[Ac3,Str.join,M.GH]at a⊢;rw[a,ZA,ZA]
theorem Z9{z:M.Tx}:∀ts:List M.Tx,(M.GH z ts).e+z.e=(ts.u λt=>t.e+z.e).sum+(if ts=[]then z.e else 0)
|[]=>by simp[M.GH]
|[t]=>by simp[M.GH]
|t::u::r=>by have a:=Z9 (z:=z)<|u::r;simp only[M.GH,RE]at a⊢;simp at a⊢;lia
theorem uS(z):∀ts:List M.Tx,((ts.u ay).u (·.e)).sum+(ts.u ay).e*(ay z).e=(ts.u λt=>t.e+z.e).sum
|[]=>by simp
|t::ts=>by have a:=uS z ts;simp only[Ac3,RE,Wc,Ab1,SM]at a⊢;lia
theorem vw{c:Nat}:∀{s a b},M.G7 c s=y0 (a,b)->s=a++c::b/\c∉a
|[],_,_,h=>by cases h
|x::s,a,b,h=>by
  rw[M.G7]at h;split at h
  .rename_i e;cases h;exact⟨by rw[e];rfl,by simp⟩
  .rename_i e;obtain⟨⟨j,k⟩,d,i⟩:=Ae6.j h;cases i;obtain⟨g,f⟩:=vw d;exact⟨congrArg (x::·) g,λz=>(Aa6.j z).j (λz=>e z.j) f⟩
theorem tJ{c:Nat}:∀{s},M.G7 c s=u0->c∉s
|[],_,z=>by cases z
|x::s,h,z=>by
  rw[M.G7]at h;split at h
  .cases h
  .rename_i e;exact(Aa6.j z).j (λz=>e z.j)<|tJ<|Option.map_eq_none_iff.j h
set_option tactic.hygienic true in
def LQ(h:M.Ke s t=y0 d):∃c a m b,t=[c]/\A4 s c a m b/\d=.p [.m a,.m m,.m b]:=by
 unfold M.Ke at h;split at h
 .rename_i c;split at h
  .rename_i p e;cases h;obtain⟨g,f⟩:=vw e;exact⟨c,_,_,_,rfl,.p ⟨g,f,rfl⟩,rfl⟩
  .rename_i e;cases h;exact⟨c,_,_,_,rfl,.u ⟨tJ e,rfl,rfl,rfl⟩,rfl⟩
 .cases h
set_option tactic.hygienic true in
def DA{z t:M.Tx}{b:Bool}(h:M.GW z t=y0 b):Txt.startswith (ay z) (ay t)=b:=by
 unfold M.GW at h;split at h
 .rename_i c;cases h;cases z with
|nil=>rfl
|cons a r=>
   have e:(ay [c]).e=1:=rfl;have d:(ay<|a::r).e=r.e+1:=by rw[Wc];rfl
   unfold Txt.startswith;by_cases q:a=c<;>simp[Builtin.Str.subAt,ay,Str.length,q]
 .cases h
def FE(go:Go Y F X E k cf)(hm:vX m=k9)(v:(apos.p==cpos.j)=k9)(P:ZU o=k9)(j:jb x=k9)(ha:PE X o<|tD Y E<|M.eval F a)(V:PA X [x]<|gD Y E<|M.Gn F es):
 PE X (.u (.p o (Qd<|yG m) apos) [x] [] cpos)<|tD Y E<|M.eval F<|.cJ m a es:=by
 cases m with
|starts=>
  refine PE.imp (pP O6 PySem.F.slot_str_startswith PySem.F.type_str_startswith pY EX ha V (bF P _) (by rw[Ja j];rfl) v (Ja j) rfl) λU H Q I=>?_;obtain⟨G,Z,h,s,p⟩:=I;refine wb s.j Ext.refl s p λw1 v1 h1 G1 H1 N T y B f1 f=>?_;split at f
  .rename_i r;obtain⟨z,g⟩:=Af.j<|r;cases B.str g;refine⟨⟨_,rfl⟩,?_⟩;refine Zr s.j N y f λR us h2 G2 H2 C A n q e=>?_;cases R with
|nil=>exact e.j
|cons w O=>
    cases O with
|cons _ _=>exact e.j
|nil=>obtain⟨u,rfl,D⟩:=q.one;have e:=e;obtain⟨z',i,p3⟩:=e.of;obtain⟨t,L,W⟩:=p3.of;obtain⟨b,J,S⟩:=W.of;rw[g]at i;cases i;cases D.str L;refine⟨ay z,ay t,rfl,rfl,?_⟩;rw[DA J];exact(aw.mk S C s.j).v n.j rfl
  .exact f.j
|part=>
  refine PE.imp (pP O6 Po PySem.F.type_str_partition pY F8 ha V (bF P _) (by rw[Ja j];rfl) v (Ja j) rfl) λU H Q I=>?_;obtain⟨G,Z,h,s,p⟩:=I;rw[M.eval]at p;refine wb s.j Ext.refl s p λw1 v1 h1 G1 H1 N T y B f1 f=>?_;split at f
  .rename_i r;obtain⟨z,g⟩:=Af.j<|r;cases B.str g;refine⟨⟨_,rfl⟩,?_⟩;refine Zr s.j N y f λR us h2 G2 H2 C A n q e=>?_;cases R with
|nil=>exact e.j
|cons w O=>
    cases O with
|cons _ _=>exact e.j
|nil=>
     obtain⟨u,rfl,D⟩:=q.one;have e:=e;obtain⟨z',i,p3⟩:=e.of;obtain⟨t,L,W⟩:=p3.of;obtain⟨d,J,S⟩:=W.of;rw[g]at i;cases i;cases D.str L;split at S
     .rename_i hz;obtain⟨c,a,m,b,rfl,P,rfl⟩:=LQ J;exact⟨_,a,m,b,c,rfl,rfl,P,Ac0 hz<|by rw[M.Gf,OF];decide,λl v=>(aw.mk S C s.j).tup n.j ⟨_,_,rfl,rfl,_,_,rfl,rfl,_,_,rfl,rfl,rfl⟩ l v⟩
     .exact S.j
  .exact f.j
|join=>
  refine PE.imp (pP O6 PySem.F.slot_str_join PySem.F.type_str_join pY Md ha V (bF P _) (by rw[Ja j];rfl) v (Ja j) rfl) λU H Q I=>?_;obtain⟨G,Z,h,s,p⟩:=I;rw[M.eval]at p;refine wb s.j Ext.refl s p λw1 v1 h1 G1 H1 N T y B f1 f=>?_;split at f
  .rename_i r;obtain⟨z,g⟩:=Af.j<|r;cases B.str g;refine⟨⟨_,rfl⟩,?_⟩;refine Zr s.j N y f λR us h2 G2 H2 C A n q e=>?_;cases R with
|nil=>exact e.j
|cons w O=>
    cases O with
|cons _ _=>exact e.j
|nil=>
     obtain⟨u,rfl,D⟩:=q.one;have e:=e;obtain⟨z',i,e⟩:=e.of;obtain⟨K,L,e⟩:=e.of;rw[g]at i;cases i;obtain⟨ys,J,q4⟩:=Ad2.j L;obtain⟨b,vs,rfl,y2,y3⟩:=au.lst n.j D J;cases Xx q4 y3;split at e
     .rename_i c;rw[M.Gf]at c;refine⟨ay z,b,K.u ay,rfl,rfl,go.K▸y2,?_,?_⟩
      .unfold JoinOk;rw[StrLaws.joinTotal];have hf:=Z9 (z:=z) K;have hs:=uS z K;have:¬(((K.u ay).u (·.e)).sum+(K.u ay).e*(ay z).e>sizeLine):=by
        have:sizeLine>=3000000:=by decide
        split at hf<;>lia
       rw[show Builtin.Str.tooLong _=u9 from Do this];rfl
      .rw[j8];exact(aw.mk e C s.j).v n.j rfl
     .exact e.j
  .exact f.j
def ML:"set"∈b5:=by decide
def Bp:"len"∈b5:=by decide
def vq(a b):(ay a==ay b)=(a==b):=by rw[P8,Pw,Pw];exact⟨λe=>by simpa[ay]using e,λe=>by rw[e]⟩
def ED(ts):l9 (ts.u ay)=M.GX [] ts:=by
 have k:∀n a rest,ts=a++rest->a.e=n->(XC (fun i=>(ts.u ay).Q i "") n).e+M.GX a rest=(XC (fun i=>(ts.u ay).Q i "") (ts.u ay).e).e:=by
  intro n a rest;induction rest generalizing n a with
|nil=>intro c b;rw[Ac7]at c;rw[M.GX,Nat.add_zero,←b,c,Ab]
|cons x o j=>
   intro c b;have g:(ts.u ay).Q n ""=ay x:=by rw[Ac5,Ae1,c,Ad5 YB,b,R4];rfl
   have f:=j (n+1) (a++[x]) (by simp_all) (by simp[b]);rw[←f,M.GX,js,g];have l:(List.range n).u (λi=>(ts.u ay).Q i "")=a.u ay:=by refine List.ext_getElem (by simp[b]) λi m e=>?_;rw[Ab]at e;rw[Ao0,List.getElem_range,Ac5,Ae1,c,Ad9 e,Aa7 e,Ao0];rfl
   have d:=yO (λi=>(ts.u ay).Q i "") n<|ay x;rw[l,List.any_map]at d;have h:((λy=>y==ay x)∘ay)=λy=>y==x:=by funext y;exact vq y x
   rw[h]at d;rw[wB,d];split<;>lia
 have:=k 0 [] ts rfl rfl;rw[show(XC (λi=>(ts.u ay).Q i "") 0).e=0 from rfl,Nat.zero_add]at this;exact this.j
def Mw(b:Go Y F X E k cf)(i:su cf "len" g=true)(e:bt cf.p "set" g2=true)(m:jb x=true)(y:PE X x<|tD Y E<|M.eval F a):PE X (.u g [.u g2 [x] [] pos2] [] pos)<|tD Y E<|M.eval F<|.dH a:=by
 obtain⟨p,rfl,t,P⟩:=Zb (a2 i).2;obtain⟨K,rfl,f,B⟩:=Zb e;refine PE.imp (Hn (b.G (a2 i).1) (b.w _ t) (b.j _ Bp) (b.w _ f) (b.j _ ML) (Qc y xi<|Ja m)<|Ja m) λU H Q q=>?_;obtain⟨G,Z,h,s,p⟩:=q;refine wb s.j Ext.refl s p λJ v1 O o R z C j n I d=>?_;obtain⟨u,A,d⟩:=d.of;obtain⟨L,v,r⟩:=Ad2.j A;obtain⟨l,N,rfl,D,w⟩:=au.lst j.j n v;cases Xx r w;split at d
 .rename_i c;refine⟨l,u.u ay,rfl,b.K▸D,by rw[Ab];exact c,?_⟩;rw[ED];exact d o _ z j.j _ rfl trivial
 .exact d.j
def tQ:"sorted"∈b5:=by decide
def LJ(e:Go Y F X E k cf)(i:bt cf.p "sorted" g=true)(f:jb x=true)(y:PE X x<|tD Y E<|M.eval F a):PE X (.u g [x] [] pos)<|tD Y E<|M.eval F<|.dr a:=by
 obtain⟨p,rfl,r,D⟩:=Zb i;refine PE.imp (Xm ZR (e.w _ r) (e.j _ tQ) (by decide+kernel) (Qc y xi<|Ja f) (xk tQ) D (Ja f) rfl) λU H Q o=>?_;obtain⟨G,Z,h,s,p⟩:=o;refine wb s.j Ext.refl s p λL v1 R N S z I j n K d=>?_;obtain⟨t,A,d⟩:=d.of;obtain⟨P,v,q⟩:=Ad2.j A;obtain⟨l,O,rfl,J,w⟩:=n.tup v;cases Xx q w;split at d
 .rename_i c;refine⟨l,t.u ay,rfl,e.K▸J.sq,by rw[Ab];exact c,λB m u b C=>?_⟩;rw[QU m u];exact aw.own (aw.mk d z s.j) j.j (ZO _) b C
 .exact d.j
def DB(d:Go Y F X E k cf)(f:t≠.aj)(n:bt cf.p "isinstance" g=true)(O:bt cf.p (gb t) y=true)(m:jb x=true)(D:PE X x<|tD Y E<|M.eval F a):PE X (.u g [x,y] [] pos)<|tD Y E<|M.eval F<|.cN a t:=by
 obtain⟨p,rfl,B,L⟩:=Zb n;obtain⟨q,rfl,C,u⟩:=Zb O;have b:gb t∈b5:=by cases t<;>first|exact absurd rfl f|decide
 have r:bootBuiltins (Qd<|gb t)=y0 (.p<|gb t):=by cases t<;>first|exact absurd rfl f|decide+kernel
 have bi:bootBuiltins _=y0 _:=P9;have e:"isinstance"∈b5:=by decide
 have i:PE X (.j (Qd<|gb t) q)<|tC<|.ty<|gb t:=sY (d.w _ C) (d.j _ b) r rfl (xk b) u;refine PE.imp (Xm (Lw d.K) (d.w _ B) (d.j _ e) bi (Qc D (Qc i xi)<|Ja m) (xk e) L (Ja m) rfl) λU H Q A=>?_;obtain⟨G,Z,h,s,p⟩:=A;rw[M.eval]at p;refine wb s.j Ext.refl s p λo v1 K z R I N l w P j=>?_;obtain⟨c,J,j⟩:=j.of;exact⟨z,K,o,v1,t,c,rfl,f,l.j,w,J,ar.val j I l.j (v:=.C c) rfl trivial⟩
theorem yy(a:Go Y F X E k cf):∀{ts}{zs},zG cf ts zs=k9->PA X zs (λ_ H Q=>Q (ts.u λt=>.j<|Y.j t) H)/\(∀t∈ts,t∈Y.own)/\ts.e=zs.e
|[],[],_=>⟨xi,λ_ h=>absurd h YC,rfl⟩
|[],_::_,h=>by simp[zG]at h
|_::_,[],h=>by simp[zG]at h
|t::ts,z::zs,h=>by
  unfold zG at h;rw[Aa9,Aa9]at h;obtain⟨⟨f,c⟩,g⟩:=h;obtain⟨p,rfl,e,d⟩:=Zb f;obtain⟨i1,i2,i3⟩:=yy a g;refine⟨?_,λu b=>?_,congrArg (·+1) i3⟩
  .exact Qc (JO (v:=.j<|Y.j t) (a.w _ e) (a.cls t c) rfl d) i1
  .rcases Aa6.j b with rfl|b
   .rw[←a.ow];exact Ad8.j c
   .exact i2 u b
theorem ZV{c:String}(a:dO Y c):∀{ts:List String},(∀t∈ts,t∈Y.own)->PySem.W.kitAny Y.K (.j<|Y.j c) ((ts.u Y.j).u Value.ref)=y0 (ts.G (M.GS Y.cl 8 c).p)
|[],_=>rfl
|t::ts,h=>by
  rw[Ac3,Ac3,PySem.W.kitAny,a.own t<|h t Aa,Ah9];cases e:(M.GS Y.cl 8 c).p t with
|true=>rfl
|false=>exact ZV a λu b=>h u<|Aa0 _ b
set_option tactic.hygienic true in
def AF{b:Bool}(r:au Y G H w v)(e:M.b9 cl w ts=y0 b):∃c x L,v=.j x/\H x=y0 (fS x (Y.j c) L)/\dO Y c/\b=ts.G (M.GS cl 8 c).p:=by
 unfold M.b9 at e;split at e
 .rename_i c;obtain⟨_,x,z1,_,g,a⟩|⟨z,_⟩:=r
  .exact⟨c,x,u0,z1,g,a,(Af5.inj e).j⟩
  .exact absurd rfl z
 .rename_i c f d;obtain⟨x,i,u,z1,l,g,a,m,h,k,j⟩:=r;exact⟨c,x,y0 i,z1,a,h,(Af5.inj e).j⟩
 .cases e
def NH(d:Go Y F X E k cf)(l:t="ValueError"\/cf.j.p t=true)(C:bt cf.p "isinstance" g=true)(hy:bt cf.p t y=true)(f:jb x=true)(O:PE X x<|tD Y E<|M.eval F a):
 PE X (.u g [x,y] [] pos)<|tD Y E<|M.eval F<|.b9 a k9 [t]:=by
 obtain⟨p,rfl,L,S⟩:=Zb C;obtain⟨q,rfl,w,u⟩:=Zb hy;have bi:=P9;have j:"isinstance"∈b5:=by decide
 have fin:∀v,PE X _ (tC v)->(∀c,dO Y c->∀x b,b=[t].G (M.GS Y.cl 8 c).p->∀e H Q,H x=y0 _->Q (.C b) H->vH X.K [.j x,v] H Q)→
  PE X (.u (.j _ p) [x,.j (Qd t) q] [] pos) (tD Y E<|M.eval F<|.b9 a k9 [t]):=λv B m=>by
  refine PE.imp (Xm tL (d.w _ L) (d.j _ j) bi (Qc O (Qc B xi)<|Ja f) (xk j) S (Ja f) rfl) λU H Q K=>?_;obtain⟨G,Z,h,s,p⟩:=K;refine wb s.j Ext.refl s p λw1 v1 h1 G1 V P W D I f1 r=>?_;obtain⟨b,R,r⟩:=r.of;obtain⟨c,J,e,rfl,N,T,A⟩:=AF I R;rw[d.cl]at A;exact m c T J b A e V Q N<|ar.val r P D.j rfl trivial
 by_cases n:cf.j.p t=k9
 .refine fin (.j _) (JO (d.w _ w) (d.cls t n) rfl u) λc i x b o e H Q f q=>?_;have m:=i.own t (by rw[←d.ow];exact Ad8.j n);refine⟨x,Y.j c,e,b,d.K▸i.k,f,.p ⟨Y.j t,rfl,?_⟩,q⟩;rw[d.K,m,o];simp
 .have l:=l.j id λz=>absurd z n;subst l;have i7:"ValueError"∈b5:=by decide
  refine fin (.ty "ValueError") (sY (d.w _ w) (d.j _ i7) MZ rfl (xk i7) u) fun c i x b o e H Q f q=>?_;refine⟨x,Y.j c,e,b,d.K▸i.k,f,.u<|.p ⟨"ValueError",rfl,?_⟩,q⟩;rw[d.K,i.ve,o];simp
def D7(d:Go Y F X E k cf)(q:zs.e<=1000)(r:bt cf.p "isinstance" g=true)(N:zG cf ts zs=true)(j:jb x=true)(C:PE X x<|tD Y E<|M.eval F a):
 PE X (.u g [x,.G zs n p2] [] pos)<|tD Y E<|M.eval F<|.b9 a u9 ts:=by
 obtain⟨p,rfl,B,K⟩:=Zb r;have bi:=P9;have e:"isinstance"∈b5:=by decide
 obtain⟨i1,i2,i3⟩:=yy d N;refine PE.imp (Xm tL (d.w _ B) (d.j _ e) bi (Qc C (Qc (sX i1) xi)<|Ja j) (xk e) K (Ja j) rfl) λU H Q A=>?_;obtain⟨G,Z,h,s,p⟩:=A;refine wb s.j Ext.refl s p λP v1 S R T D L u w O i=>?_;obtain⟨b,I,i⟩:=i.of;obtain⟨c,z,v,rfl,l,m,o⟩:=AF w I;rw[d.cl]at o;refine⟨?_,λt f=>?_⟩
 .rw[Ab,i3];exact Ag2<|qp q
 have J:=u.j.fE (.tup<|ts.u λt=>.j<|Y.j t) f;have y:=D.trans s.j<|Wg (.tup<|ts.u λt=>.j<|Y.j t) f;refine⟨z,Y.j c,v,b,d.K▸m.k,?_,.u<|.u ⟨t,ts.u Y.j,rfl,?_,?_⟩,ar.val i y J rfl trivial⟩
 .rw[Qa<|Qb l f];exact l
 .rw[Wa,Af4];rfl
 .rw[d.K,ZV m i2,o]
def Of(xs:List α)(i):M.aY xs i=Lake.aY xs i:=rfl
theorem ai.aY (z:ai Y G H ds vs)(e:M.aY ds i=y0 d):∃v,Lake.aY vs i=y0 v/\az Y G H d v:=by
 unfold M.aY at e;unfold Lake.aY;rw[z.length]at e;cases q:M.dU vs.e i with
|none=>rw[q]at e;cases e
|some j=>rw[q]at e;obtain⟨v,a,b⟩:=z.get<|e;refine⟨v,?_,b⟩;have c:Lake.dU vs.e i=y0 j:=q;rw[c];exact a
def jQ(a:zf y=k9):J5 y:=by
 intro o i;cases y<;>first|rfl|(simp[zf]at a)
set_option tactic.hygienic true in
def NK(z:Go Y F X E k cf)(T:zf y=k9)(K:PE X x<|tD Y E<|M.eval F a)(P:PE X y<|tD Y E<|M.eval F b):PE X (.w x y pos)<|tD Y E<|M.eval F<|.ix a b:=by
 refine PE.imp (ua EJ K P<|jQ T) λU H Q D=>?_;obtain⟨G,Z,h,s,p⟩:=D;refine wb s.j Ext.refl s p λC v1 h1 G1 H1 L S r g V R=>wb s.j L r R λw2 v2 I G2 H2 t n o A f2 m=>?_;obtain⟨d,q,m⟩:=m.of;have g:=g.ext n r.j;unfold M.cc at q;split at q
 .rename_i i O;cases A.int O;split at q
  .rename_i j B;cases g.str B;split at q
   .rename_i W;cases c:M.aY j i with
|none=>rw[c]at q;cases q
|some N=>
     rw[c]at q;cases q;refine .u<|.u ⟨ay j,i,N,rfl,rfl,by rw[Wc];have:=Jm;exact Ac0 ‹_› ‹_›,?_,ar.val m t o.j rfl trivial⟩;have:(ay j).j.p=j:=by simp[ay]
     exact c
   .cases q
  .cases c:C.seq? I with
|none=>rw[c]at q;cases q
|some ds=>
    rw[c]at q;obtain⟨l,u,rfl,f,J⟩:=g.seq o.j c;obtain⟨v,e,rd⟩:=J.aY<|q;have w:=ar.val m t o.j rd trivial;obtain f|f:=f
    .exact .p ⟨l,u,i,v,rfl,rfl,z.K▸f,e,w⟩
    .exact .u<|.p ⟨l,u,i,v,rfl,rfl,z.K▸f,e,w⟩
 .cases q
end
section
variable{Y:Ge}{F:M.Fx}{X:Cx}{E:XK}{k:Nat}{cf:Cf}{a b c:M.E}{x y z:Expr}{pos p2:Pos}
def pZ(xs:List α)(lo hi):M.cut xs lo hi=(xs.J<|HT.aV xs.e 0 lo).A (HT.aV xs.e xs.e hi-HT.aV xs.e 0 lo):=by
 unfold M.cut;have e:∀d o,M.aV xs.e d o=HT.aV xs.e d o:=λd o=>by cases o<;>rfl
 rw[e,e]
theorem ai.cut (z:ai Y G H ds vs)(lo hi):ai Y G H (M.cut ds lo hi)<|mm vs lo hi:=by rw[pZ];rw[z.length];exact(z.drop _).take _
set_option tactic.hygienic true in
def oN{b hi:Option Int}(j:ak Y G0 h0 H0)(e:Ext G0 H0 G H)(g:ak Y G h H)(r:au Y G H w v)
 (p:ar Y E G0 H0 (M.eN w b hi h) λw _ G' H'=>∀v,au Y G' H' w v->aK Z U H0 w v->Q v H'):((rk Y.K v b hi H Q\/rW Y.K v b hi H Q)\/rn Y.K v b hi H Q)\/rD v b hi H Q:=by
 unfold M.eN at p;split at p
 .rename_i z q;cases r.str q;split at p
  .rename_i c;have o:=Jm;refine .u ⟨_,rfl,by rw[Wc];exact Ac0 ‹_› ‹_›,?_⟩;have s:lE (ay z) b hi=ay (M.cut z b hi):=by unfold lE;rw[Wc,pZ];simp[ay]
   exact aw.v (aw.mk p e j) g rfl
  .exact p.j
 .split at p
  .rename_i k q;obtain⟨l,d,rfl,i,f⟩:=r.tup q;by_cases c:HT.aV d.e 0 b=0/\HT.aV d.e d.e hi=d.e
   .have n:M.cut k b hi=k:=by rw[pZ,f.length,c.1,c.2,An,SN,←f.length,Aj7]
    rw[n]at p;exact .p<|.u ⟨l,d,rfl,i.sq,c.1,c.2,p G H e g _ ⟨l,d,rfl,i,f⟩ trivial⟩
   .exact .p<|.p<|.u ⟨l,d,rfl,i.sq,c,λa m=>aw.tup (aw.mk p e j) g (f.cut b hi) a m⟩
  .split at p
   .rename_i k q;obtain⟨l,d,rfl,i,f⟩:=r.lst g q;exact .p<|.p<|.p ⟨l,d,rfl,i,λa m=>aw.own (aw.mk p e j) g (f.cut b hi) a m⟩
   .exact p.j
def Ej(K:Aa5):V->Option Int->Option Int->Hp->VK->Prop:=λx lo hi H Q=>((rk K x lo hi H Q\/rW K x lo hi H Q)\/rn K x lo hi H Q)\/rD x lo hi H Q
def pJ:gW X<|Ej X.K:=((ig.or DQ).or D0).or xx
def Na(C:Go Y F X E k cf){f hi:M.E}(y:PE X x<|tD Y E<|M.eval F a)(o:PE X l<|tD Y E<|M.eval F f)(q:PE X u<|tD Y E<|M.eval F hi):PE X (.w x (.L (y0 l) (y0 u) u0 p2) pos)<|tD Y E<|M.eval F<|.sl a f hi:=by refine PE.imp (XO pJ y (WO o)<|WO q) λU H Q v=>?_;obtain⟨G,Z,h,s,p⟩:=v;refine wb s.j Ext.refl s p λN v1 W O H1 z I e r K D=>wb s.j z e D λw2 v2 P S V t b g m f2 p2=>?_;obtain⟨i,J,p2⟩:=p2.of;refine⟨i,m.int J,wb s.j t g p2 λw3 v3 h3 T R A c B w L d=>?_⟩;obtain⟨j,n,d⟩:=d.of;exact⟨j,w.int n,C.K▸oN s.j A B.j ((r.ext b e.j).ext c g.j) d⟩
def HR(r:Go Y F X E k cf){d:M.E}(o:PE X x<|tD Y E<|M.eval F a)(f:PE X l<|tD Y E<|M.eval F d):PE X (.w x (.L (y0 l) u0 u0 p2) pos)<|tD Y E<|M.eval F<|.d3 a d:=by refine PE.imp (XO pJ o (WO f) uo) λU H Q m=>?_;obtain⟨G,Z,h,s,p⟩:=m;refine wb s.j Ext.refl s p λy v1 D z J q u c g w t=>wb s.j q c t λI v2 A B C j b n e K p2=>?_;obtain⟨i,v,p2⟩:=p2.of;exact⟨i,e.int v,r.K▸oN s.j j n.j (g.ext b c.j) p2⟩
def By(o:Go Y F X E k cf)(m:PE X x<|tD Y E<|M.eval F a)(e:PE X u<|tD Y E<|M.eval F hi):PE X (.w x (.L u0 (y0 u) u0 p2) pos)<|tD Y E<|M.eval F<|.d9 a hi:=by refine PE.imp (XO pJ m uo<|WO e) λU H Q j=>?_;obtain⟨G,Z,h,s,p⟩:=j;refine wb s.j Ext.refl s p λw v1 C y I n r c f v q=>wb s.j n c q λD v2 z A B g b l d J p2=>?_;obtain⟨i,t,p2⟩:=p2.of;exact⟨i,d.int t,o.K▸oN s.j g l.j (f.ext b c.j) p2⟩
def HH{st:Expr}(h:nR st=k9):∃k p q,st=.J .USub (.y (.int 1) k p) q:=by
 unfold nR at h;split at h
 .exact⟨_,_,_,rfl⟩
 .cases h
def Cy(r:Go Y F X E k cf){st:Expr}(c:nR st=k9)(n:PE X x<|tD Y E<|M.eval F a):PE X (.w x (.L u0 u0 (y0 st) p2) pos)<|tD Y E<|M.eval F<|.rev a:=by obtain⟨D,B,A,rfl⟩:=HH c;refine PE.imp (Iz n<|yp AZ u2) λU H Q i=>?_;obtain⟨G,Z,h,s,p⟩:=i;refine wb s.j Ext.refl s p λw v1 C y I o t e f v d=>?_;obtain⟨z,q,d⟩:=d.of;obtain⟨l,g,rfl,u,m⟩:=f.lst e.j q;exact⟨1,rfl,rfl,l,g,rfl,r.K▸u,λj b=>aw.own (aw.mk d o s.j) e.j m.reverse j b⟩
noncomputable def Gh.cell (G:Gh)(a:Addr):Gh:={G with aP:=λr=>if r=G.n then a else G.j r,n:=G.n+1}
def tX(a):Mon G H (G.cell a) H:=⟨λ_ _ _ z=>z,Ac9 _,λr b=>by show(if r=G.n then a else G.j r)=_;rw[Fk<|Ab7 ‹_›],λ_ z=>z⟩
def sT{a:Addr}{c:M.Cell}(d:ak Y G h H)(n:¬G.p a)(l:eu G a)(z:bG Y G H a c):ak Y (G.cell a) (h++[c]) H where
 len:=by rw[Aa2,d.p];rfl
 any:=λr g q=>by
  show¬G.p (if r=G.n then a else G.j r)/\bG Y (G.cell a) H (if r=G.n then a else G.j r) g;by_cases i:r=G.n
  .rw[Da i];rw[i,←d.p,Ad5<|Aa4 _,R4]at q;cases q;exact⟨n,z.mon (tX a) λ_ e=>e⟩
  .rw[Fk i];have j:r<G.n:=by have:=(Ac1.j q).1;rw[Aa2,d.p]at this;simp at this;lia
   rw[Ad9<|by rw[d.p];exact j]at q;exact⟨(d.G r g q).1,(d.G r g q).2.mon (tX a) λ_ e=>e⟩
 inj:=λr s k m e=>by
  have k:r<G.n+1:=k;have m:s<G.n+1:=m;have e:(if r=G.n then a else G.j r)=(if s=G.n then a else G.j s):=e;by_cases f:r=G.n
  .by_cases b:s=G.n
   .lia
   .rw[Da f,Fk b]at e;exact absurd e.j<|l s YB
  .by_cases b:s=G.n
   .rw[Fk f,Da b]at e;exact absurd e<|l r YB
   .rw[Fk f,Fk b]at e;exact d.inj r s YB YB e
 live:=d.live
def qW{a:Addr}(f:ak Y G h H)(c:¬G.p a)(d:eu G a)(e:H a=y0 (.u vs))(z:ai Y G H xs vs)(b:M.Gi xs=k9):ak Y (G.cell a) (h++[.lst xs]) H:=sT f c d ⟨b,vs,e,z⟩
def Dg{a:Addr}(d:ak Y G h H)(b:¬G.p a)(c:eu G a)(e:H a=y0 (.ins (Y.j c0) dx0 [])):ak Y (G.cell a) (h++[.obj c0 []]) H:=sT d b c ⟨dx0,[],e,rfl⟩
def XR{a:Addr}(e:Ext G0 H0 G H)(f:H0 a=u0):Ext G0 H0 (G.cell a) H where
 keep:=e.j
 le:=Ac0 e.le<|Ac9 _
 aP:=λr g=>by show(if r=G.n then a else G.j r)=_;rw[Fk<|by have:=e.le;lia];exact e.aP r g
 new:=λr d c=>by
  have c:r<G.n+1:=c;show H0 (if r=G.n then a else G.j r)=u0;by_cases b:r=G.n
  .rw[Da b];exact f
  .rw[Fk b];exact e.new r d YB
 fz:=e.fz
 old:=e.old
 cells:=e.u
def Et(r:PE X x<|tD Y E<|M.eval F a):PE X x<|tD Y E<|M.eval F<|.a1 a:=by
 refine PE.imp r λU H Q o=>?_;obtain⟨G,Z,h,s,p⟩:=o;refine wb s.j Ext.refl s p λm v1 e g D t y i n j b=>?_;cases m with
|own c=>
  obtain⟨l,C,rfl,z,q,w,A⟩:=n;obtain⟨B,u,k⟩:=j;cases u;have b:ar Y E G H (if M.Gi c=k9 then M.aC _ (e++[.lst c])else .u) _:=b;by_cases f:M.Gi c=k9;rotate_left
  .rw[Fk f]at b;exact b.j
  rw[Da f]at b;refine ar.val b (XR t k) (qW i.j z q w A f) ?_ trivial;show e.e<g.n+1/\V.ref l=.j (if e.e=g.n then l else g.j e.e);rw[i.j.p,Da rfl];exact⟨Ae9 _,rfl⟩
|v d=>exact b.j
|bor c=>exact b.j
end
structure wv(Y:Ge)(J:It)(ds:List M.D)(C:Gh->Hp->Prop):Prop where
 go:∀i G H,C G H->i<ds.e->J.go i H
 fM:∀i G H x H',C G H->i<ds.e->J.fM i H x H'->∃G',Ext G H G' H'/\(∀h,ak Y G h H->ak Y G' h H')/\∃d,ds[i]?=y0 d/\az Y G' H' d x
 stop:∀i G H,C G H->ds.e<=i->i<=ds.e->J.stop i H
 keep:∀G H G' H' h,C G H->Ext G H G' H'->ak Y G h H->C G' H'
noncomputable def Wl(Z:M.Sl)(U:St)(H:Hp):Hp:=λa=>open Classical in if∃(i:Nat)(xs:List M.D),M.Gr Z i=y0 (.j xs)/\U[i]?=y0 (y0<|.j a)then u0 else H a
def fZ(Y:Ge)(E:XK)(a:Bool)(m:M.Sl->M.AH->M.R (List M.D)):TI:=λU H R=>∃G Z h,av Y G Z h U H/\ar Y E G H (m Z h) λds _ G' H'=>∀J C,wv Y J ds C->C G' H'->(a=k9->C G' (Wl Z U H'))->R J H'
def PI.imp (h:PI X tg e t)(k:∀U H R,t' U H R->t U H R):PI X tg e t':=λa s U H R I q=>h a s U H R I<|k _ _ _ q
section
open Lake renaming MS.ai.length->Lake.MS.ai.e
variable{Y:Ge}{F:M.Fx}{X:Cx}{E:XK}{k:Nat}{cf:Cf}{a b c:M.E}{x y z tg:Expr}{pos p2:Pos}{lp:Bool}
def lx(Y:Ge)(G:Gh)(H:Hp)(l:Addr)(vs:List V):Prop:=(Rd H l (.u vs)/\eu G l)\/uT Y l vs
def CL(Y:Ge)(ds:List M.D)(l:Addr)(vs:List V)(G:Gh)(H:Hp):Prop:=lx Y G H l vs/\ai Y G H ds vs
def lx.sq (z:lx Y G H l vs):bu Y.K H l vs:=z.j (λz=>.p z.1) .u
def kG.m7 (z:kG Y G H l vs)(a:ak Y G h H):lx Y G H l vs:=z.j (λz=>.p ⟨z.2,a.off z.1⟩) .u
def CL.keep (z:CL Y ds l vs G H)(e:Ext G H G' H')(c:ak Y G h H):CL Y ds l vs G' H':=by
 obtain⟨z1,b⟩:=z;refine⟨?_,b.ext e c⟩;obtain⟨z1,a⟩|z1:=z1
 .refine .p ⟨e.rd z1 a,?_⟩;obtain z1|⟨o,z1⟩:=z1
  .exact e.off z1 a
  .exact e.off z1 a
 .exact .u z1
def CL.walk {K:Aa5}(c:K=Y.K):wv Y (mH K l) ds<|CL Y ds l vs where
 go:=by rintro i G H ⟨z1,b⟩ a;obtain⟨v,e,_⟩:=b.get<|Aa7 a;exact⟨vs,v,c▸z1.sq,e⟩
 fM:=by rintro i G H x d ⟨z1,b⟩ a ⟨e,y⟩;subst e;obtain⟨v,e,rd⟩:=b.get<|Aa7 a;have:=y vs<|c▸z1.sq;rw[e]at this;cases this;exact⟨G,Ext.refl,λ_ q=>q,_,Aa7 a,rd⟩
 stop:=(by rintro i G H⟨z1,b⟩a _;exact⟨vs,c▸z1.sq,by rw[←b.e];exact a⟩)
 keep:=λG H g d h z e f=>z.keep e f
def CT(Y:Ge)(ds:List M.D)(l:Addr)(vs:List V)(G:Gh)(H:Hp):Prop:=gQ Y G H l vs/\ai Y G H ds vs
def gQ.mon (z:gQ Y G H l vs)(e:Mon G H G' H'):gQ Y G' H' l vs:=z.j (λz=>.p ⟨e.fz l z.1,e.keep l _ z.1 z.2⟩) λz=>.u z
def CT.walk {K:Aa5}(c:K=Y.K):wv Y (k4 K l) ds<|CT Y ds l vs where
 go:=by rintro i G H ⟨z1,b⟩ a;obtain⟨v,e,_⟩:=b.get<|Aa7 a;exact⟨vs,v,c▸z1.sq,e⟩
 fM:=by rintro i G H x f ⟨z1,b⟩ a ⟨e,y⟩;subst e;obtain⟨v,e,rd⟩:=b.get<|Aa7 a;have:=y vs<|c▸z1.sq;rw[e]at this;cases this;exact⟨G,Ext.refl,λ_ q=>q,_,Aa7 a,rd⟩
 stop:=(by rintro i G H⟨z1,b⟩a _;exact⟨vs,c▸z1.sq,by rw[←b.e];exact a⟩)
 keep:=λG H g f h z e d=>⟨z.1.mon<|e.mon d,z.2.ext e d⟩
def CL.gq {K:Aa5}(c:K=Y.K):wv Y (nq K l vs.e) ds.T<|CL Y ds l vs where
 go:=(by rintro i G H⟨z1,b⟩a;exact⟨vs,c▸z1.sq,rfl,by rw[←b.e];simpa using a⟩)
 fM:=by
  rintro i G H x d ⟨z1,b⟩ a ⟨e,y⟩;subst e;obtain⟨v,e,rd⟩:=b.reverse.get<|Aa7 a;have:=y vs<|c▸z1.sq;have f:i<vs.e:=by rw[←b.e];simpa using a
  rw[List.getElem?_reverse f,this]at e;cases e;exact⟨G,Ext.refl,λ_ q=>q,_,Aa7 a,rd⟩
 stop:=by rintro i G H ⟨z1,b⟩ a g;have m:=b.e;rw[RM]at a g;show i=vs.e;lia
 keep:=λG H k d h z e j=>z.keep e j
def ZL{b:Int}:wv Y (mz b n) ((Ac2 n).u λ(i:Nat)=>M.D.int<|b+(i:Int))<|λ_ _=>True where
 go:=λi G H _ a=>show i<n by simpa using a
 fM:=λi G H x d _ a c=>by
  obtain⟨e,y⟩:=c;subst e y;have a:=by simpa using a
  exact⟨G,Ext.refl,λ_ q=>q,.o<|b+i,by simp[a],rfl⟩
 stop:=λi G H _ a _=>show n<=i by simpa using a
 keep:=λ_ _ _ _ _ _ _ _=>trivial
def XD{z:M.Tx}:wv Y (ke<|ay z) (M.c8 z)<|λ_ _=>True where
 go:=λi G H _ a=>by
  have a:=by simpa[M.c8]using a
  exact⟨z[i],by simp[ay,a]⟩
 fM:=λi G H x g _ a d=>by
  obtain⟨e,c,b,f⟩:=d;subst e f;have a:=by simpa[M.c8]using a
  have b:=by simpa[ay]using b
  exact⟨G,Ext.refl,λ_ q=>q,.m [c],by simp[M.c8,b],rfl⟩
 stop:=λi G H _ a _=>by
  have a:=by simpa[M.c8]using a
  show(ay z).j[i]?=u0;simp[ay,a]
 keep:=λ_ _ _ _ _ _ _ _=>trivial
def jl(a:¬∃i xs,M.Gr Z i=y0 (.j xs)/\U[i]?=y0 (y0<|.j l)):Wl Z U H l=H l:=by unfold Wl;rw[Fk a]
def Xv(s:av Y G Z h U H)(e:M.Gr Z i=y0 (.j xs))(d:U[i]?=y0 (y0<|.j l)):¬G.p l/\eu G l/\∃vs,H l=y0 (.u vs)/\ai Y G H xs vs:=by obtain⟨v,z1,a,vs,f,b,c,j,g⟩:=s.u i _ e;rw[d]at z1;cases z1;cases f;exact⟨b,c,vs,j,g⟩
def zy(s:av Y G Z h U H):Mon G H G<|Wl Z U H:=by refine⟨λa o z e=>?_,Aa4 _,λ_ _=>rfl,λ_ z=>z⟩;rw[jl<|by rintro⟨i,d,c,b⟩;exact(Xv s c b).1 z];exact e
def NM(q:Go Y F X E k cf)(D:PE X x<|tD Y E<|M.eval F a):PI X tg x<|fZ Y E u9<|M.Gs F<|.seq a:=by
 refine PI.imp (oR D) λU H R B=>?_;obtain⟨G,Z,h,s,p⟩:=B;refine wb s.j Ext.refl s p λA v1 I m e t K o j L c=>?_;have lst:∀{f},ar Y E G H (.j f I) (λf x y w=>∀J C,wv Y J f C->C y w->(u9=k9->C y (Wl Z U w))->R J w)->(∃l b,v1=.j l/\lx Y m e l b/\ai Y m e f b)→
  (∃a,v1=.j a/\(∃r,bu X.K e a r)/\R _ e)\/(∃a,v1=.j a/\(∃r,cC X.K e a r)/\R (k4 X.K a) e)\/∃z,v1=.m z/\R (ke z) e:=λ{f} p ⟨l,b,z1,i,n⟩=>
  .p ⟨l,z1,⟨b,q.K▸i.sq⟩,p m e t o.j _ _ (CL.walk q.K) ⟨i,n⟩ λz=>absurd z Ab0⟩
 cases A with
|v d=>
  cases d with
 |tup f=>obtain⟨l,b,rfl,i,g⟩:=j;exact .u<|.p ⟨l,rfl,⟨b,q.K▸i.sq⟩,c m e t o.j _ _ (CT.walk q.K) ⟨i,g⟩ λz=>absurd z Ab0⟩
 |lst f=>obtain⟨l,b,z1,i,g⟩:=j;exact lst c ⟨l,b,z1,i.m7 o.j,g⟩
 |aj=>exact c.j
 |bl _=>exact c.j
 |int _=>exact c.j
 |str z=>cases(show v1=.m (ay z)from j);exact .u<|.u ⟨_,rfl,c m e t o.j _ _ XD trivial λz=>absurd z Ab0⟩
 |ref _=>exact c.j
 |exc _ _=>exact c.j
 |err _ _ _=>exact c.j
|own f=>obtain⟨l,b,z1,_,g,n,u⟩:=j;exact lst c ⟨l,b,z1,.p ⟨.p n,g⟩,u⟩
|bor f=>obtain⟨l,b,z1,g,n,u⟩:=j;exact lst c ⟨l,b,z1,.p ⟨n,g⟩,u⟩
def CY(n:Int):((Ac2 n.j).u λ(i:Nat)=>M.D.int (i:Int))=(Ac2 n.j).u λ(i:Nat)=>M.D.int<|0+(i:Int):=by congr 1;funext i;rw[Int.zero_add]
def sU:"range"∈b5:=by decide
def wF(e:Go Y F X E k cf)(f:bt cf.p "range" g=true)(d:jb x=true)(r:PE X x<|tD Y E<|M.eval F a):PI X tg (.u g [x] [] pos)<|fZ Y E lp<|M.Gs F<|.aQ a:=by
 obtain⟨p,rfl,o,A⟩:=Zb f;refine PI.imp (Hj (e.w _ o) (e.j _ sU) (Qc r xi<|Ja d)<|Ja d) λU H R m=>?_;obtain⟨G,Z,h,s,p⟩:=m;refine wb s.j Ext.refl s p λy v1 z l u t v i j w b=>?_;obtain⟨n,q,b⟩:=b.of;split at b
 .rename_i c;rw[M.GJ]at c;cases j.int q;rw[CY]at b;exact⟨n,rfl,c.1,c.2,b l u t i.j _ _ ZL trivial λ_=>trivial⟩
 .exact b.j
def JG(l:Go Y F X E k cf)(r:bt cf.p "range" g=true)(i:jb x=true)(f:jb y=true)(C:PE X x<|tD Y E<|M.eval F a)(K:PE X y<|tD Y E<|M.eval F b):PI X tg (.u g [x,y] [] pos)<|fZ Y E lp<|M.Gs F<|.b6 a b:=by
 obtain⟨p,rfl,j,T⟩:=Zb r;refine PI.imp (IW (l.w _ j) (l.j _ sU) (Qc C (Qc K xi<|Ja f)<|Ja i) (by rw[Ja i,Ja f];rfl)<|Ja f) λU H R z=>?_;obtain⟨G,Z,h,s,p⟩:=z;refine wb s.j Ext.refl s p λO v1 Q P V I L t v N e=>?_;obtain⟨n,q,e⟩:=e.of;refine wb s.j I t e λS v2 j D J w u B o W d=>?_;obtain⟨m,A,d⟩:=d.of;split at d
 .rename_i c;rw[M.GJ]at c;cases v.int q;cases o.int A;exact⟨n,m,rfl,⟨c.1.1,c.1.2,c.2.1,c.2.2⟩,d D J w B.j _ _ ZL trivial λ_=>trivial⟩
 .exact d.j
def oY:"reversed"∈b5:=by decide
def CA(m:Go Y F X E k cf)(A:bt cf.p "reversed" g=true)(y:jb x=true)(L:PE X x<|tD Y E<|M.eval F a):PI X tg (.u g [x] [] pos)<|fZ Y E false<|M.Gs F<|.rev a:=by
 obtain⟨p,rfl,K,S⟩:=Zb A;refine PI.imp (oq (m.w _ K) (m.j _ oY) (Qc L xi<|Ja y)<|Ja y) λU H R D=>?_;obtain⟨G,Z,h,s,p⟩:=D;refine wb s.j Ext.refl s p λB v1 O q j N P w o Q b=>?_;have lst:∀{e},ar Y E G H (.j e.T O) (λe x u t=>∀J C,wv Y J e C->C u t->(u9=k9->C u (Wl Z U t))->R J t)->(∃l c,v1=.j l/\lx Y q j l c/\ai Y q j e c)→
  ∃a I,[v1]=[.j a]/\bu X.K j a I/\R _ j:=λ{e} p ⟨l,c,z1,n,i⟩=>
  ⟨l,c,by rw[z1],m.K▸n.sq,p q j N w.j _ _ (CL.gq m.K) ⟨n,i⟩ λz=>absurd z Ab0⟩
 cases B with
|v d=>
  cases d with
 |lst e=>obtain⟨l,c,z1,n,f⟩:=o;exact lst b ⟨l,c,z1,n.m7 w.j,f⟩
 |tup _=>exact b.j
 |aj=>exact b.j
 |bl _=>exact b.j
 |int _=>exact b.j
 |str _=>exact b.j
 |ref _=>exact b.j
 |exc _ _=>exact b.j
 |err _ _ _=>exact b.j
|own e=>obtain⟨l,c,z1,_,f,i,r⟩:=o;exact lst b ⟨l,c,z1,.p ⟨.p i,f⟩,r⟩
|bor e=>obtain⟨l,c,z1,f,i,r⟩:=o;exact lst b ⟨l,c,z1,.p ⟨i,f⟩,r⟩
end
section
variable{Y:Ge}{F:M.Fx}{X:Cx}{E:XK}{k:Nat}{cf:Cf}
theorem ql:∀(Z)(i j)(w),M.Gr (M.GF Z i w) j=if j=i/\i<Z.e then y0 w else M.Gr Z j
|[],i,j,w=>by simp
|x::r,0,0,w=>by simp
|x::r,0,j+1,w=>by simp
|x::r,i+1,0,w=>by simp
|x::r,i+1,j+1,w=>by
  have:=ql r i j w;simp only[M.GF,M.Gr,this,Ab1];by_cases h:j=i/\i<r.e
  .rw[Da h,Da YB]
  .rw[Fk h,Fk YB]
theorem Zu:∀(Z)(i)(w),(M.GF Z i w).e=Z.e
|[],_,_=>rfl
|_::_,0,_=>rfl
|_::r,i+1,w=>by simp[Zu r i w]
theorem wu:∀{Z}{i}{w},M.Gr Z i=y0 w->i<Z.e
|[],_,_,e=>by simp at e
|_::_,0,_,_=>by simp
|_::r,i+1,w,e=>by have:=wu (by simpa using e);simp;exact‹_›
theorem av.set (s:av Y G Z h U H)(r:au Y G H w v)
 (n:gS w=k9->∀j w',j≠i->M.Gr Z j=y0 w'->gS w'=k9->∀a,v=.j a->U[j]?≠y0 (y0<|.j a)):av Y G (M.GF Z i w) h (U.B i<|y0 v) H where
 len:=by rw[Zu,Ad0];exact s.len
 slot:=λj w' e=>by
  rw[ql]at e;by_cases c:j=i/\i<Z.e
  .rw[Da c]at e;cases e;obtain⟨rfl,c⟩:=c;exact⟨v,Ac6<|by rw[←s.len];exact c,r⟩
  .rw[Fk c]at e;have x:=λz=>c ⟨z,by subst z;exact wu e⟩;obtain⟨t,z1,A⟩:=s.u j w' e;exact⟨t,by rw[Ad1<|Ne.symm x];exact z1,A⟩
 apart:=λp q u w' a b f d m l=>by
  rw[ql]at f d;by_cases g:p=i/\i<Z.e
  .rw[Da g]at f;cases f;obtain⟨rfl,g⟩:=g;rw[Fk<|λz=>b z.1.j]at d;rw[Ac6<|by rw[←s.len];exact g]at l;cases l;rw[Ad1 b];exact n rfl q w' (Ne.symm b) d m a rfl
  .rw[Fk g]at f;have o:=λz=>g ⟨z,by subst z;exact wu f⟩;rw[Ad1<|Ne.symm o]at l;by_cases k:q=i/\i<Z.e
   .rw[Da k]at d;cases d;obtain⟨rfl,k⟩:=k;rw[Ac6<|by rw[←s.len];exact k];intro z;cases z;exact n m p _ o f rfl a rfl l
   .rw[Fk k]at d;have y:=λz=>k ⟨z,by subst z;exact wu d⟩;rw[Ad1<|Ne.symm y];exact s.p p q u w' a b f d m l
 heap:=s.j
def av.dI (s:av Y G Z h U H)(r:az Y G H d v):av Y G (M.GF Z i<|.v d) h (U.B i<|y0 v) H:=s.set r λz=>by cases z
noncomputable def ip:List Nat->List V->St->St
|i::is,v::vs,U=>ip is vs<|U.B i<|y0 v
|_,_,U=>U
theorem xL:∀{is}{ds}{vs}{Z L}{U},M.aR is ds Z=y0 L->ai Y G H ds vs->av Y G Z h U H->av Y G L h (ip is vs U) H/\is.e=vs.e
|[],[],_,_,_,_,e,rfl,s=>by cases e;exact⟨s,rfl⟩
|[],_::_,_,_,_,_,e,_,_=>by simp[M.aR]at e
|_::_,[],_,_,_,_,e,_,_=>by simp[M.aR]at e
|i::is,d::ds,_,_,_,_,e,z7,s=>by obtain⟨v,r,rfl,z1,c⟩:=z7;obtain⟨a,b⟩:=xL (by simpa[M.aR]using e) c<|s.dI z1;exact⟨a,congrArg (·+1) b⟩
def gM(Y:Ge)(tg:List Nat)(one:Bool):TG:=λv U H Q=>match one with
|true=>∃i,tg=[i]/\Q (U.B i<|y0 v) H
|false=>∃G ds vs a,v=.j a/\gQ Y G H a vs/\ai Y G H ds vs/\tg.e=vs.e/\Q (ip tg vs U) H
theorem WE(b:Go Y F X E k cf):∀{is}{es},Qv cf is es=k9->kM X es (λvs U H Q=>vs.e=is.e/\Q (ip is vs U) H)
|[],[],_=>λa s U H vs d Q I r h=>by have c:=Ag4 h.1;subst c;exact Nb a s U H [] d Q I r ⟨rfl,h.2⟩
|[],_::_,h=>by simp[Qv]at h
|_::_,[],h=>by simp[Qv]at h
|i::is,e::es,h=>by
  cases e with
|Name x p=>
   simp only[Qv,Aa9,On]at h;obtain⟨⟨l,j⟩,m⟩:=h;have g:=WE b m;have c:=b.iz x j;have f:=Nv (Bj (pos:=p) (by rw[b.N];exact b.nd) (by rw[b.N];exact l) c.1 c.2) g;intro a s U H vs d Q I r q;refine f a s U H vs d Q I r ?_;cases vs with
 |nil=>simp at q
 |cons v vs=>refine⟨v,vs,rfl,?_⟩;exact⟨by simpa using q.1,q.2⟩
|_=>simp[Qv]at h
theorem j0:∀{is}{es},Qv cf is es=k9->(assignEach es env).e=is.e/\(assignEach es env).findIdx? (·.1)=u0
|[],[],_=>⟨rfl,rfl⟩
|[],_::_,h=>by simp[Qv]at h
|_::_,[],h=>by simp[Qv]at h
|i::is,e::es,h=>by
  cases e with
|Name x p=>simp only[Qv,Aa9]at h;obtain⟨a,b⟩:=j0 h.2;have c:assignEach (.j x p::es) env=(u9,assign (.j x p) env)::assignEach es env:=rfl;rw[c];refine⟨congrArg (·+1) a,?_⟩;rw[List.findIdx?_cons];simp[b]
|_=>simp[Qv]at h
def Ww(d:Go Y F X E k cf)(h:Xg cf tg one e=k9):PG X e<|gM Y tg one:=by
 cases one with
|true=>
  cases e with
 |Name x p=>
   simp[Xg,Aa9]at h;cases tg with
   |nil=>simp at h
   |cons i r=>
    cases r with
   |cons _ _=>simp at h
   |nil=>simp only[Qv,Aa9,On]at h;obtain⟨_,⟨w,o⟩,_⟩:=h;have g:=d.iz x o;have c:=Bj (pos:=p) (by rw[d.N];exact d.nd) (by rw[d.N];exact w) g.1 g.2;intro b s U H v u Q I r q;obtain⟨j,e,q⟩:=q;cases e;exact c b s U H v u Q I r q
 |_=>simp[Xg]at h
|false=>
  cases e with
|Tuple z n p=>obtain⟨y,h⟩:=a2<|h;obtain⟨t,f⟩:=j0 h;have c:=CS (k:=n) (pos:=p) (d.G y) (WE d h) t f;intro b s U H v u Q I r q;obtain⟨G,A,m,a,rfl,z1,B,l,q⟩:=q;exact c b s U H _ u Q I r ⟨a,m,rfl,d.K▸z1.sq,l.j,l.j,q⟩
|_=>simp[Xg]at h
def FZ(e:Go Y F X E k cf)(g:cf.uh=k9->lg X)(h:pE cf tg es=k9):PG X (.G es n p)<|gM Y tg u9:=by
 obtain⟨l,h⟩:=a2 h;obtain z|z:=Ak2.j l
 .exact Ww e<|show pB cf tg es=k9 by unfold pB;rw[z,h];rfl
 .obtain⟨j,d⟩:=j0 h;have c:=Fb (k:=n) (pos:=p) (g z) (WE e h) j d;intro b s U H v u Q I r q;obtain⟨G,m,i,a,rfl,z1,o,f,q⟩:=q;exact c b s U H _ u Q I r ⟨a,i,rfl,e.K▸z1.sq,f.j,f.j,q⟩
def xp(k)(l):∀i,M.Gr (Aa1 k u0++l) (k+i)=M.Gr l i:=by
 induction k with
|zero=>intro i;simp
|succ k a=>intro i;rw[Ac4,show k+1+i=(k+i)+1 by lia];exact a i
def qu(k)(l):∀{i},i<k->M.Gr (Aa1 k u0++l) i=none:=by
 induction k with
|zero=>intro i h;lia
|succ k a=>
  intro i h;cases i with
|zero=>rfl
|succ i=>rw[Ac4];exact a<|IR ‹_›
theorem JD:∀(l)(i),M.Gr l i=(l[i]?).y
|[],_=>by simp
|_::_,0=>by simp
|_::r,i+1=>by simpa using JD r i
def zN(s:av Y G Z h U H)(e:M.Gq Z j=y0 w):∃v,U[j]?=y0 (y0 v)/\au Y G H w v/\(gS w=k9->∃w',M.Gr Z j=y0 w'/\gS w'=k9)/\oi w=true:=by
 unfold M.Gq at e;cases q:M.Gr Z j with
|none=>rw[q]at e;cases e
|some w'=>
  obtain⟨v,z1,b⟩:=s.u j w' q;rw[q]at e;cases w' with
|v d=>cases e;exact⟨v,z1,b,λz=>(by cases z),rfl⟩
|own k=>cases e;obtain⟨a,f,c,m,l,g,i⟩:=b;exact⟨v,z1,⟨a,f,c,l,.p g,i⟩,λ_=>⟨_,rfl,rfl⟩,rfl⟩
|bor k=>cases e;exact⟨v,z1,b,λ_=>⟨_,rfl,rfl⟩,rfl⟩
def kl(k:Nat)(aB:List Nat)(Z:M.Sl):M.Sl:=Aa1 k u0++aB.u λj=>M.Gq Z j
def K0(s:av Y G Z h U H)(kk)(aB)(d:Ub.e=kk+aB.e)(f:∀i,i<aB.e->Ub[kk+i]?=y0 ((U[aB.Q i 0]?).y)):
 av Y G (kl kk aB Z) h Ub H where
 len:=by unfold kl;rw[Aa2,Ae3,Ab,d]
 slot:=λi w e=>by
  unfold kl at e;by_cases g:i<kk
  .rw[qu kk _ g]at e;cases e
  .obtain⟨j,rfl⟩:∃j,i=kk+j:=⟨i-kk,by lia⟩;rw[xp,JD,Ae1]at e;cases q:aB[j]? with
|none=>rw[q]at e;cases e
|some c=>rw[q]at e;have e:=e;obtain⟨v,z1,n,_⟩:=zN s e;have k:=(Ac1.j q).1;refine⟨v,?_,n⟩;rw[f j k,Ac5,q];show y0 ((U[c]?).y)=_;rw[z1];rfl
 apart:=λi j r w a m b p o t=>by
  exfalso;unfold kl at b;by_cases g:i<kk
  .rw[qu kk _ g]at b;cases b
  .obtain⟨l,rfl⟩:∃j,i=kk+j:=⟨i-kk,by lia⟩;rw[xp,JD,Ae1]at b;cases q:aB[l]? with
|none=>rw[q]at b;cases b
|some c=>rw[q]at b;have b:=b;obtain⟨_,_,_,_,z⟩:=zN s b;cases z
 heap:=s.j
end
theorem Qf{env:Env}{d:NameKind}(g:d≠.w):∀{b:List<|Str×NameKind}{x},b.j x=y0 d→
 (b.u λ(n,k)=>if(k==NameKind.free&&env.j.u==.j&&env.w n==y0 .y)then(n,NameKind.cell)else(n,k)).j x=y0 d
|[],_,h=>by simp at h
|(n,k)::r,x,h=>by
  have i:=@Qf env d g r x;rw[Ac3];rw[Ab8]at h;cases c:x==n with
|true=>
   rw[c]at h;have e:=by simpa using h
   subst e;have j:(k==NameKind.free)=false:=by simpa using g
   simp only[j,Rp,Ah6,OD,Ab8,c]
|false=>
   rw[c]at h;have q:=i h;by_cases a:(k==NameKind.free&&env.j.u==.j&&env.w n==y0 .y)=k9
   .simp only[a,Oi,Ab8,c];exact q
   .have f:=Ag8.p a;simp only[f,Ah6,OD,Ab8,c];exact q
section
open Lake renaming MS.Ext.trans->Lake.MS.Ext.x
variable{Y:Ge}{F:M.Fx}{X:Cx}{E:XK}{k:Nat}{cf:Cf}
structure lD(cf:Cf)(scope:Scope)(N:List Str)(k:Nat)(aB:List Nat):Prop where
 kind:scope.u=.j
 Lf:(scope.j.u Prod.fst).C
 names:∀y∈scope.j,y.2=.local->scope.j.j y.1=y0 .local
 free:∀y∈scope.j,y.2=.w->cf.p.j.j y.1=y0 .y\/cf.p.j.j y.1=y0 .w
 h8:∀x∈N.J k,scope.j.j x=y0 .w
 aB:ZE cf aB (N.J k)=k9
 le:k<=N.e
 nd:N.C
 cb:cf.cb=k9
def WD(h:Z6 cf scope N kk aB=k9):lD cf scope N kk aB:=by simp only[Z6,Aa9,On,Ad6]at h;obtain⟨⟨⟨⟨⟨⟨⟨⟨⟨g,b⟩,j⟩,i⟩,f⟩,e⟩,l⟩,k⟩,c⟩,m⟩:=h;exact⟨b,j,λy a=>i y a,λy a=>f y a,λx d=>e x d,l,k,c,g⟩
theorem xS(a:Go Y F X E k cf):∀{aB}{xs},ZE cf aB xs=k9->cP X aB xs
|[],[],_=>trivial
|[],_::_,h=>by simp[ZE]at h
|_::_,[],h=>by simp[ZE]at h
|j::e,x::xs,h=>by simp only[ZE,Aa9,On]at h;obtain⟨⟨b,d⟩,c⟩:=h;exact⟨by rw[a.N];exact b,a.kb x d,xS a c⟩
def xT(a:Go Y F X E k cf)(h:lD cf scope N kk aB):zZ X scope N kk aB:=
 ⟨h.kind,h.Lf,h.names,λy c b=>a.kb y.1<|h.free y c b,h.h8,xS a h.aB,h.le⟩
def W9(h:fD sc x=k9):sc.j.j x=y0 .local\/sc.j.j x=y0 .y\/sc.j.j x=y0 .w:=by
 unfold fD at h;split at h
 .rename_i q;exact .p q
 .rename_i q;exact .u<|.p q
 .rename_i q;exact .u<|.u q
 .cases h
def ug(h:kn sc x=k9):sc.j.j x=y0 .local\/sc.j.j x=y0 .y:=by
 unfold kn at h;split at h
 .rename_i q;exact .p q
 .rename_i q;exact .u q
 .cases h
def zH(h:iM sc x=k9):sc.j.j x=y0 .globalImplicit:=by
 unfold iM at h;split at h
 .rename_i q;exact q
 .cases h
def zA(a:Go Y F X E k cf)(h:lD cf scope N kk aB)(C:Addr)(p:List Addr)(s:Shared)(H:Hp):Go Y F (We X N scope C p s H) E0 k {cf with sc:=scope,N:=N} where
 N:=rfl
 K:=a.K
 cl:=a.cl
 ow:=a.ow
 nd:=h.nd
 gB:=λx b=>by
  rcases W9 b with q|q|q
  .exact .p<|Qf YA q
  .exact .u<|.p<|Qf YA q
  .exact .u<|jk q
 iV:=λx b=>Qf YA b
 iz:=λx b=>by
  rcases ug b with q|q
  .exact⟨.p<|Qf YA q,.u<|Qf YA q⟩
  .exact⟨.u<|Qf YA q,.p<|FM q⟩
 kb:=λx b=>by
  rcases b with q|q
  .exact .p<|Qf YA q
  .exact jk q
 gl:=λx b=>Qf YA<|zH b
 calm:=a.G
 room:=a.u
 cv:=a.cv
 pass:=λo U A z e r _ u=>by obtain⟨x,w,t,B,y,_,_,_,_,_,_,_,_,_,_,v⟩:=u;exact v.j
 blt:=a.j
 con:=a.con
 fn:=λf n=>by obtain⟨c,i,d,l,g,m,j⟩:=(a.fn f n).imp λc h=>h.ex;exact⟨c,⟨i,d,l,g,m,j⟩⟩
 lB:=λf n=>by obtain⟨c,i,d,l,g,m,j⟩:=(a.lB f n).imp λc h=>h.ex;exact⟨c,⟨i,d,l,g,m,j⟩⟩
 cls:=a.cls
 fld:=a.fld
 iF:=a.iF
 eP:=a.eP
theorem vE:∀(is)(vs)(U)(j),j∉is->(ip is vs U)[j]?=U[j]?
|[],_,_,_,_=>rfl
|_::_,[],_,_,_=>rfl
|i::is,v::vs,U,j,h=>by show(ip is vs<|U.B i<|y0 v)[j]?=U[j]?;rw[vE is vs _ j λz=>h<|Aa0 _ z,Ad1<|λz:i=j=>h<|by rw[z];exact Aa]
theorem zJ:∀(is)(vs)(U),(ip is vs U).e=U.e
|[],_,_=>rfl
|_::_,[],_=>rfl
|i::is,v::vs,U=>by show(ip is vs<|U.B i<|y0 v).e=U.e;rw[zJ is vs,Ad0]
def ae(e:M.GC tg one d Z=y0 Z')(r:az Y G H d x)(s:av Y G Z h U H)
 (f:∀L,av Y G Z' h L H->(∀j,j∉tg->L[j]?=U[j]?)->L.e=U.e->Q L H):gM Y tg one x U H Q:=by
 cases one with
|true=>
  cases tg with
 |nil=>cases e
 |cons i l=>
   cases l with
 |cons _ _=>cases e
 |nil=>cases e;exact⟨i,rfl,f _ (s.dI r) (λj c=>Ad1 λz=>c<|by simp[z])<|Ad0 ..⟩
|false=>
  cases d with
|tup m=>obtain⟨a,b,rfl,n,g⟩:=r;obtain⟨o,k⟩:=xL (e) g s;exact⟨G,m,b,a,rfl,n,g,k,f _ o (λj c=>vE tg b U j c)<|zJ tg b U⟩
|_=>cases e
def wY{step:M.D->M.AH->M.R (Option M.D)}:∀{ds}{h}{d}{h'},M.Gy step ds h≠.exc d h'
|[],_,_,_=>λe=>by cases e
|x::ds,h,d,h'=>λe=>by
  rw[M.Gy]at e;split at e
  .split at e<;>cases e
  .cases e
set_option tactic.hygienic true in
def W3{step:M.D->M.AH->M.R (Option M.D)}(e:M.Gy step (x::ds) h=.j ys hf):∃o h1 r,step x h=.j o h1/\M.Gy step ds h1=.j r hf/\ys=(match o with|some y=>y::r|none=>r):=by
 rw[M.Gy]at e;split at e
 .rename_i o h1 b;split at e
  .rename_i r c a;cases e;exact⟨o,h1,r,b,a,rfl⟩
  .cases e
 .cases e
def m3(F:M.Fx)(tg:List Nat)(one:Bool)(f:M.Sl)(a:Bool)(c elt:M.E):M.D->M.AH->M.R (Option M.D):=λd h=>match M.GC tg one d f with
|none=>.u
|some e=>(if a then(M.eval F c e h).p λx h=>M.R.of h (M.Kb h x)else .j k9 h).p λb h=>match b with
|true=>(M.eval F elt e h).p λy h=>(M.R.of h y.d).p λy h=>.j (y0 y) h
|false=>.j u0 h
def FN:M.eval F (.Q tg one kk aB it u5 c elt) Z h=(M.Gs F it Z h).p λds h=>
 if ds.e<=M.bp then(M.Gy (m3 F tg one (kl kk aB Z) u5 c elt) ds h).p λys h=>.j (.j ys) h else .u:=by
 rw[M.eval];rfl
noncomputable def kU(F:M.Fx)(a:Bool)(c:M.E):M.Sl->M.AH->M.R Bool:=λZ h=>if a then M.Gg F c Z h else .j k9 h
def jf{r:M.R α}(e:r.p f=.j b h):∃a h1,r=.j a h1/\f a h1=.j b h:=by
 cases r with
|ok a h1=>exact⟨a,h1,rfl,e⟩
|exc d h1=>cases e
|fail=>cases e
def W1(a:ji iter=k9):∀v,foldedSetIterable iter env v=pure v:=λv=>by cases iter<;>first|rfl|(simp[ji]at a)
def sS(htk:∀i∈tg,i<kk)(h0:tD Y E (M.eval F<|.Q tg one kk aB it u5 c elt) U H Q):
 nS kk aB (fZ Y E u9<|M.Gs F it) (λ_ _ _ _=>gM Y tg one) (λ_ _ _ _=>c9 Y E0<|kU F u5 c) (λ_ _ _ _=>tD Y E0<|M.eval F elt) U H Q:=by
 obtain⟨G,Z,h,s,p⟩:=h0;rw[FN]at p;refine⟨G,Z,h,s,?_⟩;cases qi:M.Gs F it Z h with
|exc d l=>rw[qi]at p;exact p
|fail=>rw[qi]at p;exact p
|ok f h1=>
  rw[qi]at p;intro G1 H1 e1 t J C N c0 _ Ca fp st;have p:ar Y E G H (if f.e<=M.bp then(M.Gy _ f h1).p λys h=>.j _ h else .u) λw l q k=>∀v,au Y q k w v->aK Z U H w v->Q v k:=p;by_cases hL:f.e<=M.bp;rotate_left
  .rw[Fk hL]at p;exact p.j
  rw[Da hL]at p;cases qc:M.Gy (m3 F tg one _ u5 c elt) f h1 with
|exc d l=>exact absurd qc wY
|fail=>rw[qc]at p;exact p.j
|ok ys hf=>
   rw[qc]at p;have p:=p;have hLs:=Jm;refine⟨λi m yv Ub k=>∃q l done rest,(m=f.e-i/\i<=f.e/\done.e<=i)/\Ext G1 H1 q k/\ak Y q l k/\C q k/\ai Y q k done yv∧
    M.Gy (m3 F tg one (kl kk aB Z) u5 c elt) (f.J i) l=.j rest hf/\ys=done++rest/\Ub.e=kk+aB.e/\∀j,j<aB.e->Ub[kk+j]?=y0 ((U[aB.Q j 0]?).y),⟨f.e,?_⟩,?_⟩
   .refine⟨G1,h1,[],ys,⟨by simp,Af0 _,Aa4 _⟩,Ext.refl,t,c0,rfl,qc,rfl,?_,λj W=>?_⟩
    .unfold nL;rw[Aa2,Ae3,Ab]
    .unfold nL;rw[Ad5 YC,Ae3,Nat.add_sub_cancel_left,Ae1,Aa7 W,Ac5,Aa7 W];rfl
   .rintro i m yv Ub k ⟨q,l,done,rest,⟨rfl,hi',hd⟩,L,e,I,rd,qg,y,n,A⟩;have ldone:=rd.length;by_cases u:i<f.e
    .refine .u ⟨N.go i q k I u,by lia,_,λyv' Ub' R w=>⟨f.e-(i+1),(Pg ‹_›<|Ae9 _),w⟩,λx R hy=>?_⟩;obtain⟨G4,x4,hx4,d,ed,rdx⟩:=N.fM i q k x R I u hy;have I:=N.keep _ _ _ _ l I x4 e;have rd:=rd.ext x4 e;have L:=L.x t x4;have e:=hx4 _ e;have edr:f.J i=d::f.J (i+1):=by rw[Ae8 u];rw[Aa7 u]at ed;cases ed;rfl
     rw[edr]at qg;obtain⟨o,h2,r,O,S,er⟩:=W3 qg;unfold m3 at O;cases qb:M.GC tg one d (kl kk aB Z)with
|none=>rw[qb]at O;cases O
|some Z'=>
      rw[qb]at O;have so:=s.ext (e1.x s.j L) e;have sb:=K0 so kk aB n A;refine ae qb rdx sb λU2 s2 same P=>?_;have g:∀j,j<aB.e->U2[kk+j]?=y0 _:=λj W=>by rw[same _ λz=>by have:=htk _ z;lia];exact A j W
      obtain⟨b,h3,B,a⟩:=jf<|show(kU F u5 c Z' l).p _=_ from O;refine⟨G4,Z',l,s2,?_⟩;rw[B];intro G3 H3 T V;have s3:=s2.ext T V;cases b with
|false=>refine rB ?_;have a:=a;cases a;exact⟨G3,_,done,r,⟨rfl,by lia,(Af9 ‹_›)⟩,L.x t T,V,N.keep _ _ _ _ l I T e,rd.ext T e,S,by rw[y,er],by rw[P];exact n,g⟩
|true=>
       refine pG ?_;obtain⟨w,h4,qe,a⟩:=jf<|a;refine⟨G3,Z',h3,s3,?_⟩;rw[qe];intro G4 H4 e4 hr4 v rw' fw;obtain⟨dd,h5,X,a⟩:=jf<|a;cases qw:w.d with
|none=>rw[qw]at X;cases X
|some d'=>rw[qw]at X;cases X;cases(a);have s4:=s3.ext e4 hr4;obtain⟨G5,e5,s5,rdv,m5⟩:=nT e4 s4 s3 rw' fw qw;have K:=T.x e e5;refine⟨G5,_,done++[dd],r,⟨rfl,by lia,by rw[Aa2,Aj5];exact Oo ‹_›⟩,L.x t K,s5.j,N.keep _ _ _ _ l I K e,(rd.ext K e).append ⟨v,[],rfl,rdv,rfl⟩,S,?_,by rw[P];exact n,g⟩;rw[y,er];simp
    .have ei:i=f.e:=by lia
     subst ei;rw[Su]at qg;cases(qg);rw[Ac7]at y;subst y;exact .p ⟨N.stop _ q k I (Aa4 _)<|Aa4 _,by lia,λD hD=>aw.own (aw.mk p (e1.x s.j L) s.j) e rd D hD⟩
def HJ(d:Go Y F X E k cf)(a:lD cf scope N kk aB)
 (j:aB.e=(N.J kk).e)(e:Xg {cf with sc:=scope,N:=N} tg one t=k9)(f:∀i∈tg,i<kk)(b:ji iter=k9)
 (hi:PI X t iter<|fZ Y E u9<|M.Gs F it)
 (h:∀C fp s H,PE (We X N scope C fp s H) y<|tD Y E0<|M.eval F elt)
 (l:∀C fp s H,hA (We X N scope C fp s H) ifs<|c9 Y E0<|kU F u5 c):
 PE X (.B y [⟨t,iter,ifs,0⟩] scope pos)<|tD Y E<|M.eval F<|.Q tg one kk aB it u5 c elt:=
 PE.imp (Lb (xT d a) hi (λC fp s H=>Ww (zA d a C fp s H) e) l h (d.G a.cb)<|W1 b) λU H Q g=>sS f g
def Q5(a:Go Y F X E k cf)(m:cf.N[i]?=y0 x)(p:kn cf.p x=k9)(j:swapsWith (.B y [⟨t,iter,ifs,0⟩] scope p0) (y0<|.j x pos2) pos.j X.j=pure k9)(b:lD cf scope N kk aB)
 (n:aB.e=(N.J kk).e)(g:Xg {cf with sc:=scope,N:=N} tg one t=k9)(h:∀i∈tg,i<kk)(d:ji iter=k9)
 (hi:PI X t iter<|fZ Y E u9<|M.Gs F it)
 (r:∀C fp s H,PE (We X N scope C fp s H) y<|tD Y E0<|M.eval F elt)
 (o:∀C fp s H,hA (We X N scope C fp s H) ifs<|c9 Y E0<|kU F u5 c):
 PS X (.j [.j x pos2] (.B y [⟨t,iter,ifs,0⟩] scope p0) pos)<|iZ (tD Y E<|M.eval F<|.Q tg one kk aB it u5 c elt)<|QT i:=by
 have l:=a.iz x p;have f:=MA (by rw[a.N];exact a.nd) (by rw[a.N];exact m) l.1 (xT a b) hi (λC fp s H=>Ww (zA a b C fp s H) g) o r j (a.G b.cb) (W1 d) l.2;exactλe s U H D I q=>f e s U H D I<|sS h q
def XX(e:M.G6 h o=y0 (r,xs)):o=y0 (.v<|.j r)/\h[r]?=y0 (.lst xs):=by
 unfold M.G6 at e;split at e
 .split at e
  .rename_i q;cases e;exact⟨rfl,q⟩
  .cases e
 .cases e
def tj(b:Go Y F X E k cf)(h1:cf.N[i]?=y0 x)(h2:fD cf.p x=k9)(a:dz x=k9):PE X (.j x p)<|nD i:=by unfold dz at a;rw[Aa9]at a;exact XB (by rw[b.N];exact h1) (b.gB x h2) (by simpa using a.1)<|by simpa using a.2
theorem vg(k):∀T,KTD.datumAt (ay k) (i8 T)=(T.j k).u ly
|[]=>rfl
|(x,d)::T=>by
  show(if k8 (ay k=ay x)=k9 then y0 (ly d)else KTD.datumAt (ay k) (i8 T))=_;rw[Ab8];by_cases e:k=x
  .subst e;rw[Da<|FM rfl,Ot];rfl
  .rw[Fk<|by simpa usingλz=>e<|zF z,beq_eq_false_iff_ne.p e,vg k T]
def Mj(T):∀p∈i8 T,flatData p.2=true:=by intro p a;obtain⟨⟨x,d⟩,_,rfl⟩:=Ad3.j a;cases d<;>rfl
def Q9(h:M.flat d=k9):az Y G H d (n5<|ly d)/\flatData (ly d)=true:=by
 cases d<;>first|exact⟨rfl,rfl⟩|cases h
def HL(b:Go Y F X E k cf)(q:F.con.j c=y0 (.w n T))(ne:T≠[]):∃a,X.mg (Qd c)=y0 (.j a)/\mX X.K a (i8 T):=by
 obtain⟨u,v,d,rv,rd⟩:=b.con c _ q;rcases rd ⟨λ_=>False,λ_=>0,0⟩ (λ_=>u0)with⟨z,_⟩|⟨_,a,e,f⟩
 .exact absurd z ne
 .subst e;cases rv;exact⟨a,d,b.K▸f⟩
set_option tactic.hygienic true in
def DM(m:Go Y F X E k cf)(u:bt cf.p c g=k9)(W:zf y=k9)(N:PE X y<|tD Y E<|M.eval F a):PE X (.w g y pos)<|tD Y E<|M.eval F<|.fT c a:=by
 obtain⟨o,rfl,C,V⟩:=Zb u;have nN:(∀n T,F.con.j c=y0 (.w n T)->T=[])->PE X (.w (.j (Qd c) o) y pos) (tD Y E<|M.eval F<|.fT c a):=by
  rintro L l s U H Q I ⟨G,Z,h,st,f⟩;rw[M.eval]at f;split at f
  .rename_i n r T q;cases L n _ q
  .exact f.j
 by_cases w:∃n T,F.con.j c=y0 (.w n T)/\T≠[]
 .obtain⟨n,T,q,ne⟩:=w;obtain⟨b,J,t⟩:=HL m q ne;refine PE.imp (ua IS (JO (v:=.j b) (m.w _ C) J rfl V) N<|jQ W) λU H Q D=>?_;obtain⟨G,Z,h,s,p⟩:=D;obtain⟨K,T,rfl⟩:=Pp ne;rw[M.eval,q]at p;refine wb s.j Ext.refl s p λw1 v1 h1 B R O S x A f1 e=>?_;unfold M.KJ at e;split at e
  .rename_i i;cases(show v1=.m (ay i)from A);split at e
   .rename_i d P;split at e
    .rename_i j;exact⟨b,i8<|K::T,ay i,ly d,rfl,rfl,t,Mj _,by rw[vg,P];rfl,(Q9 (Y:=Y) (G:=B) (H:=R) j).2,ar.val e O x.j (Q9 j).1 trivial⟩
    .exact e.j
   .exact e.j
  .exact e.j
 .exact nN λn T q=>Ad7 λz=>w ⟨n,T,q,z⟩
theorem J4:∀{T}{ks}{vs},ZN T ks vs=k9->kT (T.u λp=>(ay p.1,ay p.2)) ks vs
|[],ks,vs,h=>⟨Ae5.j (a2 h).1,Ae5.j (a2 h).2⟩
|(x,y)::T,ks,vs,h=>by refine kC (λe ks h=>?_) ks h;refine kC (λf vs h=>?_) vs h;refine kS (λe h=>?_) e h;refine XA (λc n p h=>?_) e h;refine XA (λd n p h=>?_) f h;obtain⟨a,g,b⟩:=a3 h;cases FB a;cases FB g;exact⟨_,_,_,_,_,_,rfl,rfl,J4 b⟩
theorem pW(k):∀(T:List<|M.Tx×M.Tx),(T.u λp=>(ay p.1,ay p.2)).j (ay k)=(T.j k).u ay
|[]=>rfl
|(x,y)::T=>by
  rw[Ac3,Ab8,Ab8];rw[vq];cases k==x with
|true=>rfl
|false=>exact pW k T
set_option tactic.hygienic true in
def CC(f:Go Y F X E k cf)(n:ZN T ks vs=k9)(u:T≠[])(o:T.e<=15)(m:(T.u (·.1)).C)(h1:cf.N[i]?=y0 x)(h2:fD cf.p x=k9)(c:dz x=k9):
 PE X (.w (.Dict ks vs p1) (.j x p2) pos)<|tD Y E<|M.eval F<|.eR T i:=by
 unfold dz at c;rw[Aa9]at c;refine PE.imp (Me (J4 n) (by simp_all) (by simp_all) ?_ (by rw[f.N];exact h1) (f.gB x h2) (by simpa using c.1)<|by simpa using c.2) λU H Q l=>?_
 .rw[Af4];have e:((·.1)∘λp:M.Tx×M.Tx=>(ay p.1,ay p.2))=ay∘(·.1):=rfl;rw[e,←Af4];exact Ak.map _ (λa b z q=>z<|zF q) m
 obtain⟨G,Z,h,s,p⟩:=l;rw[M.eval]at p;unfold M.GL at p;split at p
 .rename_i d e;obtain⟨v,g,r⟩:=s.u i _ e;cases(show v=.m (ay d)from r);split at p
  .rename_i t j;exact⟨ay d,ay t,g,by rw[pW,j];rfl,ar.val p Ext.refl s.j rfl trivial⟩
  .exact p.j
 .exact p.j
set_option tactic.hygienic true in
def Df(B:Go Y F X E k cf)(o:ZN T ks vs=k9)(A:T≠[])(v:T.e<=15)(l:(T.u (·.1)).C)(g:zf x=k9)(m:PE X x<|tD Y E<|M.eval F a):
 PE X (.w (.Dict ks vs L) x pos)<|tD Y E<|M.eval F<|.lh T a:=by
 refine PE.imp (Mh (J4 o) (by simp_all) (by simp_all) ?_ m<|jQ g) λU H Q j=>?_
 .rw[Af4];have e:((·.1)∘λp:M.Tx×M.Tx=>(ay p.1,ay p.2))=ay∘(·.1):=rfl;rw[e,←Af4];exact Ak.map _ (λa b z q=>z<|zF q) l
 obtain⟨G,Z,h,s,p⟩:=j;refine wb s.j Ext.refl s p λw v1 C y D n r f i u L=>?_;unfold M.GL at L;split at L
 .rename_i c e;cases e;cases(show v1=.m (ay c)from i);split at L
  .rename_i t d;exact⟨ay c,ay t,rfl,by rw[pW,d];rfl,(aw.mk L n s.j).v f.j rfl⟩
  .exact L.j
 .exact L.j
def JQ(i):Str.ofString (toString i)=ay (M.bV i):=by unfold ay M.bV;rw[O7]
def DD{i:Int}(h:0<=i/\i<1000):i.p.log2<1920:=by
 have a:i.p<2^10:=by lia
 by_cases z:i.p=0
 .rw[z];decide
 .exact An9 ((Nat.log2_lt z).p a) YA
def Dx(e:Go Y F X E k cf)(f:bt cf.p "str" g=true)(d:jb x=true)(o:PE X x<|tD Y E<|M.eval F a):PE X (.u g [x] [] pos)<|tD Y E<|M.eval F<|.eT a:=by
 obtain⟨p,rfl,n,t⟩:=Zb f;have c:"str"∈b5:=by decide
 refine PE.imp (Jt M3 (e.w _ n) (e.j _ c) (by decide+kernel) (Qc o xi<|Ja d) (xk c) t (Ja d) rfl) λU H Q m=>?_;obtain⟨G,Z,h,s,p⟩:=m;refine wb s.j Ext.refl s p λw v1 z y A r u j l v b=>?_;unfold M.KI at b;split at b
 .rename_i i;cases(l);split at b
  .rename_i q;exact⟨i,rfl,DD q,JQ i▸ar.val b r j.j rfl trivial⟩
  .exact b.j
 .exact b.j
set_option tactic.hygienic true in
def Ms(e:Go Y F X E k cf)(f:bt cf.p "int" g=true)(d:jb x=true)(t:PE X x<|tD Y E<|M.eval F a):PE X (.u g [x] [] pos)<|tD Y E<|M.eval F<|.bV a:=by
 obtain⟨p,rfl,m,v⟩:=Zb f;have b:"int"∈b5:=by decide
 refine PE.imp (Jt NF (e.w _ m) (e.j _ b) (by decide+kernel) (Qc t xi<|Ja d) (xk b) v (Ja d) rfl) λU H Q l=>?_;obtain⟨G,Z,h,s,p⟩:=l;refine wb s.j Ext.refl s p λA v1 D B I u w i j y c=>?_;unfold M.KA at c;split at c
 .rename_i z;cases(show v1=.m (ay z)from j);obtain⟨n,q,o⟩:=c.of;have C:=Aj3.j<|List.mem_of_find?_eq_some q;have r:=FB<|List.find?_some (p:=λn:Nat=>decide _) q;subst r;refine⟨_,n,rfl,?_,JQ n▸PySem.W.KIN.num_reads (Oy _) YB,ar.val o u i.j rfl trivial⟩;rw[←JQ];exact Ac0 (PySem.W.KT.len_num (Oy _) YB) YA
 .exact c.j
def sk(h:Str.ofString a=Str.ofString b):a=b:=by
 rw[O7,O7]at h;have e:=by have:=congrArg (λs:Str=>s.j.p) h;simpa using this
 have inj:∀(l m:List Char),l.u Char.toNat=m.u Char.toNat->l=m:=by
  intro l;induction l with
|nil=>intro m q;cases m with|nil=>rfl|cons _ _=>cases q
|cons c l f=>
   intro m q;cases m with
|nil=>cases q
|cons d m=>simp[List.cons.injEq]at q;rw[Char.toNat_inj.j q.1,f m q.2]
 exact String.toList_inj.j<|inj _ _ e
def XE(e:M.GQ h o=y0 (r,c,fs)):o=y0 (.v<|.j r)/\h[r]?=y0 (.obj c fs):=by
 unfold M.GQ at e;split at e
 .split at e
  .rename_i q;cases e;exact⟨rfl,q⟩
  .cases e
 .cases e
def Ey(s:av Y G Z h U H)(e:M.GQ h (M.Gr Z i)=y0 (r,c,fs)):U[i]?=y0 (y0<|.j<|G.j r):=by obtain⟨b,f⟩:=XE e;obtain⟨v,z1,d⟩:=s.u i _ b;obtain⟨_,a⟩:=(show r<G.n/\v=.j (G.j r)from d);rw[z1,a]
noncomputable abbrev ic(fs:List<|String×M.D):List Str:=fs.u λp=>Str.ofString p.1
section
variable{G:Gh}{H:Hp}
def yB(a b):(Qd a==Str.ofString b)=(a==b):=by
 cases q:a==b with
|true=>rw[eq_of_beq q];exact Ot _
|false=>exact beq_eq_false_iff_ne.p λz=>(beq_eq_false_iff_ne.j q)<|sk z
theorem vj:∀{fs}{us},ai Y G H (fs.u (·.2)) us->fs.j f=y0 d->∃v,((ic fs).Z us).j (Qd f)=y0 v/\az Y G H d v
|[],_,_,e=>by cases e
|(g,x)::fs,_,z7,e=>by
  obtain⟨v,r,rfl,z1,a⟩:=z7;rw[Ab8]at e;show∃w,(((Str.ofString g),v)::(ic fs).Z r).j (Qd f)=y0 w/\_;rw[Ab8,yB];cases q:f==g with
|true=>rw[q]at e;cases e;exact⟨v,rfl,z1⟩
|false=>rw[q]at e;exact vj a e
theorem QF:∀{fs}{us:List V},fs.j f=u0->((ic fs).Z us).j (Qd f)=u0
|[],_,_=>rfl
|(g,x)::fs,[],_=>rfl
|(g,x)::fs,v::r,e=>by
  rw[Ab8]at e;show(((Str.ofString g),v)::(ic fs).Z r).j (Qd f)=u0;rw[Ab8,yB];cases q:f==g with
|true=>rw[q]at e;cases e
|false=>rw[q]at e;exact QF e
theorem uk(rv:az Y G H d v):∀{fs}{us},ai Y G H (fs.u (·.2)) us->∃L,ai Y G H ((M.bA f d fs).u (·.2)) L/\Lake.bA (Qd f) v ((ic fs).Z us)=(ic<|M.bA f d fs).Z L
|[],_,z=>by cases z;exact⟨[v],⟨v,[],rfl,rv,rfl⟩,rfl⟩
|(g,x)::fs,_,z7=>by
  obtain⟨u,r,rfl,z1,c⟩:=z7;show∃L,ai Y G H ((if g=f then(g,d)::fs else(g,x)::M.bA f d fs).u (·.2)) L/\(if Str.ofString g=Qd f then(Str.ofString g,v)::(ic fs).Z r else(Str.ofString g,u)::Lake.bA (Qd f) v ((ic fs).Z r))=(ic<|if g=f then(g,d)::fs else(g,x)::M.bA f d fs).Z L;by_cases q:g=f
  .rw[Da q,Da<|congrArg Str.ofString q];exact⟨v::r,⟨v,r,rfl,rv,c⟩,rfl⟩
  .rw[Fk q,Fk λz=>q<|sk z];obtain⟨L,a,b⟩:=uk rv c;exact⟨u::L,⟨u,L,rfl,z1,a⟩,by rw[b];rfl⟩
end
set_option tactic.hygienic true in
def K9(a:Go Y F X E k cf)(h1:cf.N[i]?=y0 x)(h2:fD cf.p x=k9)(r:dz x=k9):PE X (.p (.j x p1) (Qd f) pos)<|tD Y E<|M.eval F<|.xf i f:=by
 refine PE.imp (Dt (tj a h1 h2 r) rfl) λU H Q l=>?_;obtain⟨G,Z,h,s,p⟩:=l;rw[M.eval]at p;split at p
 .rename_i c g d q;split at p
  .rename_i e;subst e;obtain⟨v,b,j,n,u,rfl,A,y,t,w,z,o,m⟩:=s.u i _ q;exact⟨_,b,j,Y.j c,n,u,rfl,t,w,a.K▸o,ar.val p Ext.refl s.j m trivial⟩
  .exact p.j
 .exact p.j
def yD(e:Ext G H G1 H1)(a:r<G.n):au Y G1 H1 (.v<|.j r)<|.j<|G.j r:=⟨Ab5 a e.le,by rw[e.aP r a]⟩
def uW(a:attributeBase o name env (eval o env)=eval o env)(c:methodCallForm args.e (backTo pos<|starEach args env) (backToKw pos<|keywordEach [] env)=k9)(b:(apos.p==pos.j)=k9):
 eval (.u (.p o name apos) args [] pos) env=(do
  let L←eval o env
  standAt apos.atName
  let(f,first)←holding [L]<|getMethod L name<|do return (←importBound o env).getD k9
  callWith pos f first (backTo pos<|starEach args env)<|backToKw pos<|keywordEach [] env):=by
 have e:methodCallForm (args.e+([]:List Keyword).e) _ _=true:=c;have d:methodCallPos k9 o env apos pos=pure pos:=by unfold methodCallPos;simp[b]
 rw[arm_eval_Call,a];unfold methodCall;rw[e];simp only[d,calleeOf,Oi,pure_bind]
def L6(h:∀e∈args,jb e=k9)(d:args.e<29):methodCallForm args.e (backTo pos<|starEach args env) (backToKw pos<|keywordEach [] env)=true:=by
 unfold methodCallForm;have c:(backTo pos<|starEach args env).N (λx=>!x.1)=true:=by have:=Zh (env:=env) (pos:=pos) h;rw[Ad6];intro x a;rw[R9]at this;simpa using this x a
 rw[c];have b:(backToKw pos<|keywordEach [] env)=[]:=rfl;rw[b];simp;exact Nat.lt_succ_of_lt ‹_›
def Lc(n:Go Y F X E k cf)(S:bt cf.p c g=k9)(hm:cf.w.eP.p (c,q0)=k9)(J:∀e∈y::ys,jb e=k9)(ha:PA X (y::ys)<|gD Y E<|M.Gn F es):
 PE X (.u g (y::ys) [] pos)<|tD Y E<|M.eval F<|.make c q0 es:=by
 obtain⟨p0,rfl,g2,g3⟩:=Zb S;obtain⟨B,fa,fd,ps,mk,A,R⟩:=n.eP c q0 hm;refine PE.imp (Fd mk A n.cv (n.w _ g2) B R .p n.pass ha g3 (Ja<|J _ Aa)<|Zh λe he=>J e<|Aa0 _ he) λU H Q qq=>?_;obtain⟨G,Z,h,s,p⟩:=qq;refine Zr s.j Ext.refl s p λN vs l f C L e1' j W b=>?_;intro a o q O ne;rw[Ac7];have K:aG C o (.own a) a=none:=by rw[Qa<|Ne.symm ne];exact q
 have x1:Ext f C f<|aG C o<|.own a:=WH _ O;have T:=j.j.new (.own a) O;have P:Ext f _ f<|aG _ a<|.ins (Y.j c) o []:=WH _ K;have r3:=T.new (.ins (Y.j c) o []) K;have mq:=j.j.mM q;have r4:=Dg r3 mq (j.j.mJ q) Wa;have z:=XR (x1.x j.j P) q;have r:=by show l.e<f.n+1/\V.ref a=.j (if l.e=f.n then a else f.j l.e);rw[j.j.p,Da rfl];exact⟨Ae9 _,rfl⟩
 refine⟨f.cell a,l++[.obj c []],.v (.j l.e)::N.u M.W.arg,r4,⟨.j a,vs,rfl,r,a9.ext z j.j<|Wn W⟩,λw t=>?_,?_⟩
 .obtain rfl|t:=Aa6.j t
  .rfl
  .exact Zl N w t
 .cases x:F.j q0 _<|l++[.obj c []]with
|fail=>rw[x]at b;exact b.j
|exc d h'=>rw[x]at b;exactλu D m i=>b u D ((L.x s.j z).x s.j m) i
|ok w h'=>
   rw[x]at b;intro u D m i v rv _;cases w with
|own _=>exact b.j
|bor _=>exact b.j
|v d=>
    cases d with
|aj=>refine⟨rv,?_⟩;have b:=b;have I:=r.1;exact b u D ((L.x s.j z).x s.j m) i _ ⟨Ab5 I m.le,by rw[m.aP _ I];exact r.2⟩ trivial
|_=>exact b.j
def BG(j:Go Y F X E k cf)(l:cf.w.fl.p (c,f)=k9)(g:ZU x=k9)(I:PE X x<|tD Y E<|M.eval F a):PE X (.p x (Qd f) pos)<|tD Y E<|M.eval F<|.bY a c f:=by
 refine PE.imp (LZ I<|bF g _) λU H Q B=>?_;obtain⟨G,Z,h,s,p⟩:=B;refine wb s.j Ext.refl s p λw v L e T J O i y P b=>?_;cases q:M.GQ L (y0 w)with
|none=>rw[q]at b;exact b.j
|some o=>
  obtain⟨r,N,fs⟩:=o;rw[q]at b;dsimp only at b;split at b
  .rename_i g;subst g;obtain⟨d,C,b⟩:=b.of;obtain⟨t,z⟩:=XE q;cases t;obtain⟨_,D⟩:=(show r<e.n/\v=.j (e.j r)from y);obtain⟨S,K,R,n,A⟩:=i.j.obj r _ fs z;obtain⟨u,m,rv⟩:=vj A C;exact⟨e.j r,Y.j N,K,_,u,D,n,(j.fld _ _ l).1,(j.fld _ _ l).2,m,ar.val b J i.j rv trivial⟩
  .exact b.j
def NY(n:Go Y F X E k cf)(S:cf.w.mt.p (c,m,q0)=k9)(J:(apos.p==pos.j)=k9)(A:(y::ys).e<=20)(u:ZU x=k9)(ho:PE X x<|tD Y E<|M.eval F a)(i:∀e∈y::ys,jb e=k9)(ha:PA X (y::ys)<|gD Y E<|M.Gn F es):
 PE X (.u (.p x (Qd m) apos) (y::ys) [] pos)<|tD Y E<|M.eval F<|.aI a c m q0 es:=by
 obtain⟨N,fa,fd,ps,V,t,D⟩:=n.iF c m q0 S;refine PE.imp (Iy ho N V t n.u D .p n.pass ha (Ja<|i _ Aa) (Zh λe he=>i e<|Aa0 _ he)<|uW (bF u _) (L6 i<|KM ‹_› YA) J) λU H Q P=>?_;obtain⟨G,Z,h,s,p⟩:=P;refine wb s.j Ext.refl s p λw v h1 j H1 e1 e1' z L f1 b=>?_;cases q:M.GQ h1 (y0 w)with
|none=>rw[q]at b;exact b.j
|some o=>
  obtain⟨r,c',fs⟩:=o;rw[q]at b;dsimp only at b;split at b
  .rename_i u;obtain⟨rfl,A⟩:=u;obtain⟨K,l⟩:=XE q;cases K;obtain⟨f,rfl⟩:=(show r<j.n/\v=.j (j.j r)from L);obtain⟨nf,dx,us,I,ru⟩:=z.j.obj r _ fs l;refine⟨j.j r,dx,_,rfl,I,QF<|Af7.j A,Zr s.j e1 z b λB O R G2 H2 l g W C T=>?_⟩;rw[Ac7];refine⟨G2,R,.v _::B.u M.W.arg,W.j,⟨.j _,O,rfl,yD g f,Wn C⟩,λw d=>?_,aw.mk T l s.j⟩;obtain rfl|d:=Aa6.j d
   .rfl
   .exact Zl B w d
  .exact b.j
def C3(f:Go Y F X E k cf)(I:cf.w.mt.p (c,m,q0)=k9)(y:(apos.p==pos.j)=k9)(i:ZU x=k9)(O:PE X x<|tD Y E<|M.eval F a):
 PE X (.u (.p x (Qd m) apos) [] [] pos)<|tD Y E<|M.eval F<|.aI a c m q0 .p:=by
 obtain⟨B,W,T,ps,L,g,t⟩:=f.iF c m q0 I;refine PE.imp (MW O B L g f.u t .p f.pass<|uW (bF i _) rfl y) λU H Q D=>?_;obtain⟨G,Z,h,s,p⟩:=D;refine wb s.j Ext.refl s p λw v l d H1 K P j A R b=>?_;cases q:M.GQ l (y0 w)with
|none=>rw[q]at b;exact b.j
|some o=>
  obtain⟨r,c',fs⟩:=o;rw[q]at b;dsimp only at b;split at b
  .rename_i i;obtain⟨rfl,J⟩:=i;obtain⟨z,C⟩:=XE q;cases z;obtain⟨e,rfl⟩:=(show r<d.n/\v=.j (d.j r)from A);obtain⟨nf,N,S,u,V⟩:=j.j.obj r _ fs C;refine⟨d.j r,N,_,rfl,u,QF<|Af7.j J,?_⟩;have b:=b;refine⟨d,l,[.v _],j.j,⟨.j _,[],rfl,yD Ext.refl e,rfl⟩,λw n=>?_,aw.mk b K s.j⟩;cases Ab2.j n;rfl
  .exact b.j
end
def PW.fg (h:PT X (.A op vs pos) t):PW X (.A op vs pos) t:=λb a s U H Q I q=>by have:=h a s U H Q I q;exact this
theorem Qz:∀{es}{xs}{Z}{h}{ds}{h'},aT cf es xs=k9->M.Gk F es Z h=.j ds h'->ds.e=xs.e
|.p,xs,_,_,_,_,c,e=>by cases Ae5.j c;rw[M.Gk]at e;cases e;rfl
|.j a es,xs,Z,h,ds,h',c,e=>by refine kC (λx r c=>?_) xs c;obtain⟨w,j,i,e⟩:=jf e;obtain⟨d,g,f,e⟩:=jf e;obtain⟨r,k,b,e⟩:=jf e;cases e;rw[Ab1,Ab1,Qz (a2 c).2 b]
theorem Zc:∀{es}{xs},aT cf es xs=k9->∀e∈xs,jb e=k9
|.p,xs,c=>by cases Ae5.j c;intro e b;cases b
|.j a es,xs,c=>by
  refine kC (λx r c=>?_) xs c;intro e b;rcases Aa6.j b with rfl|b
  .exact(a3 c).1
  .exact Zc (a2 c).2 e b
theorem jI:∀{aB}{xs},ZE cf aB xs=k9->aB.e=xs.e
|[],[],_=>rfl
|[],_::_,h=>by simp[ZE]at h
|_::_,[],h=>by simp[ZE]at h
|j::a,x::xs,h=>by simp only[ZE,Aa9]at h;exact congrArg (·+1)<|jI h.2
def WP(h:wj e f=k9):ji e=true:=by refine zi (λg x l p h=>?_) e h;rfl
def QW(h:dn cf it e=k9):ji e=true:=by
 cases it with
|seq a=>exact(a2 h).1
|aQ a=>exact WP h
|b6 a b=>exact WP h
|rev a=>exact WP h
|enum a=>exact aW h
|cM i=>exact aW h
|di a=>exact aW h
section
variable{Y:Ge}{F:M.Fx}{k:Nat}
def bo(b:Go Y F X E k cf)(r:PE X x<|tD Y E<|M.eval F m)(a:∀L,isTrue x X.j L=(do let v←L;standAt x.pos;holding [v]<|truthy v)):PE X x (tD Y E<|M.eval F m)/\(gF m=k9->PT X x (c9 Y E<|M.Gg F m)):=⟨r,λ_=>DO b r a⟩
mutual
theorem wd:∀(m:M.E){X:Cx}{E:XK}{cf:Cf}{e:Expr},Go Y F X E k cf->Jc cf m e=k9->PE X e (tD Y E<|M.eval F m)/\(gF m=k9->PT X e (c9 Y E<|M.Gg F m))
|.var i,X,E,cf,e,go,h=>by refine jy (λx p h=>?_) e h;obtain⟨h1,h2,h3⟩:=ki h;exact bo go (EO go h1 h2 h3) λ_=>rfl
|.con c,X,E,cf,e,go,h=>by have r:=LP go h;obtain⟨p,rfl,_,_⟩:=Zb h;exact bo go r λ_=>rfl
|.int i,X,E,cf,e,go,h=>by refine XA (λx n p h=>?_) e h;cases FB h;exact bo go KU λ_=>rfl
|.bl i,X,E,cf,e,go,h=>by refine XA (λx n p h=>?_) e h;cases FB h;exact bo go N2 λ_=>rfl
|.aj,X,E,cf,e,go,h=>by refine XA (λx n p h=>?_) e h;cases FB h;exact bo go Cu λ_=>rfl
|.str i,X,E,cf,e,go,h=>by refine XA (λx n p h=>?_) e h;cases FB h;exact bo go BB λ_=>rfl
|.tup es,X,E,cf,e,go,h=>by refine pz (λx n p h=>?_) e h;obtain⟨h1,h2⟩:=a2 h;exact bo go (B3 (FB h1) (λZ hh ds h' q=>Qz h2 q)<|iC es go h2) λ_=>rfl
|.lst es,X,E,cf,e,go,h=>by refine HD (λx p h=>?_) e h;obtain⟨h1,h2⟩:=a2 h;exact bo go (Lu (FB h1) (λZ hh ds h' q=>Qz h2 q)<|iC es go h2) λ_=>rfl
|.bin o a b,X,E,cf,e,go,h=>by refine FA (λx o y p h=>?_) e h;obtain⟨h0,ho,h1,h2⟩:=a4 h;cases FB h0;exact bo go (MK go ho (wd a go h1).1 (wd b go h2).1) λ_=>rfl
|.cmp o a b,X,E,cf,e,go,h=>by refine pw (λx o y p h=>?_) e h;refine kC (λy r h=>?_) y h;obtain⟨h0,ho,hs,h1,h2⟩:=a5 h;obtain⟨rfl,rfl⟩:=FB h0;exact⟨C6 go ho hs (wd a go h1).1 (wd b go h2).1,λ_=>D5 go ho hs (wd a go h1).1 (wd b go h2).1⟩
|.a4 o q a b c,X,E,cf,e,go,h=>by refine pw (λx o y p h=>?_) e h;refine kC (λy r h=>?_) y h;refine kC (λz r h=>?_) r h;obtain⟨h0,ho,hq,hs,h1,h2,h3⟩:=a7 h;obtain⟨rfl,rfl⟩:=FB h0;exact⟨CD go ho hq hs (wd a go h1).1 (wd b go h2).1 (wd c go h3).1,λ_=>KN go ho hq hs (wd a go h1).1 (wd b go h2).1 (wd c go h3).1⟩
|.cm neg a,X,E,cf,e,go,h=>by refine pw (λx o y p h=>?_) e h;refine kC (λy r h=>?_) y h;refine XA (λj n p h=>?_) y h;obtain⟨h0,h1,h2⟩:=a3 h;obtain⟨rfl,rfl⟩:=FB h0;cases FB h1;exact⟨My (wd a go h2).1,λ_=>Dj (wd a go h2).1⟩
|.neg a,X,E,cf,e,go,h=>by refine rY (λo x p h=>?_) e h;cases FB (a2 h).1;exact bo go (DE (wd a go (a2 h).2).1) λ_=>rfl
|.not a,X,E,cf,e,go,h=>by refine rY (λo x p h=>?_) e h;cases FB (a2 h).1;exact⟨NB go (wd a go (a2 h).2).1,λt=>Dl<|(wd a go (a2 h).2).2 t⟩
|.and a b,X,E,cf,e,go,h=>by
  refine sM (λo x p h=>?_) e h;refine kC (λx r h=>?_) x h;refine kC (λy r h=>?_) r h;obtain⟨h0,h1,h2⟩:=a3 h;cases FB h0;cases r with
 |nil=>exact⟨yi go (wd a go h1).1<|ye (wd b go h2).1,λt=>(yX ((wd a go h1).2 (a2 t).1)<|FQ<|(wd b go h2).2 (a2 t).2).pt⟩
 |cons z r=>exact⟨yi go (wd a go h1).1 (wd b go h2).1,λt=>(yX ((wd a go h1).2 (a2 t).1)<|PW.fg<|(wd b go h2).2 (a2 t).2).pt⟩
|.or a b,X,E,cf,e,go,h=>by
  refine sM (λo x p h=>?_) e h;refine kC (λx r h=>?_) x h;refine kC (λy r h=>?_) r h;obtain⟨h0,h1,h2⟩:=a3 h;cases FB h0;cases r with
 |nil=>exact⟨vv go (wd a go h1).1<|ye (wd b go h2).1,λt=>(yV ((wd a go h1).2 (a2 t).1)<|Hd<|(wd b go h2).2 (a2 t).2).pt⟩
 |cons z r=>exact⟨vv go (wd a go h1).1 (wd b go h2).1,λt=>(yV ((wd a go h1).2 (a2 t).1)<|PW.fg<|(wd b go h2).2 (a2 t).2).pt⟩
|.j f es,X,E,cf,e,go,h=>by
  refine zi (λg x l p h=>?_) e h;refine kE (λh=>?_) l h;obtain⟨h1,h2,h3⟩:=a3 h;cases x with
 |nil=>
   cases es with
   |cons _ _=>exact aW h3
   |nil=>have r:=Ho (pos:=p) go h1 h2;obtain⟨p,rfl,_,_⟩:=Zb h1;exact bo go r λ_=>rfl
 |cons x r=>have r:=CV (pos:=p) go h1 h2 (Zc h3)<|cw es go h3;obtain⟨p,rfl,_,_⟩:=Zb h1;exact bo go r λ_=>rfl
|.bi b es,X,E,cf,e,go,h=>by refine zi (λg x l p h=>?_) e h;refine kE (λh=>?_) l h;refine kC (λx r h=>?_) x h;obtain⟨h1,h2,h3⟩:=a3 h;have r:=LH (pos:=p) go h2 h1 (Zc h3)<|cw es go h3;obtain⟨p,rfl,_,_⟩:=Zb (a2 h1).2;exact bo go r λ_=>rfl
|.cN a t,X,E,cf,e,go,h=>by refine zi (λg x l p h=>?_) e h;refine kE (λh=>?_) l h;refine kC (λx r h=>?_) x h;refine kC (λy r h=>?_) r h;refine kE (λh=>?_) r h;obtain⟨h1,h2,h3,h4,h5⟩:=a5 h;have r:=DB (pos:=p) go (FB h3) h1 h2 h4 (wd a go h5).1;obtain⟨p,rfl,_,_⟩:=Zb h1;exact bo go r λ_=>rfl
|.b9 a one ts,X,E,cf,e,go,h=>by
  refine zi (λg x l p h=>?_) e h;refine kE (λh=>?_) l h;refine kC (λx r h=>?_) x h;refine kC (λy r h=>?_) r h;refine kE (λh=>?_) r h;obtain⟨h1,h2,h3,h4⟩:=a4 h;have fin:PE X (.u g [x,y] [] p)<|tD Y E<|M.eval F<|.b9 a one ts:=by
   cases one with
|true=>refine kC (λt r h=>?_) ts h4;refine kE (λh=>?_) r h;obtain⟨h5,h6⟩:=a2 h;simp only[Ra,On]at h6;exact NH go h6 h1 h5 h2 (wd a go h3).1
|false=>refine pz (λzs n p h=>?_) y h4;exact D7 go (FB (a2 h).1) h1 (a2 h).2 h2 (wd a go h3).1
  obtain⟨p,rfl,_,_⟩:=Zb h1;exact bo go fin λ_=>rfl
|.ix a b,X,E,cf,e,go,h=>by refine g7 (λx y p h=>?_) e h;obtain⟨h1,h2,h3⟩:=a3 h;exact bo go (NK go h1 (wd a go h2).1 (wd b go h3).1) λ_=>rfl
|.sl a lo hi,X,E,cf,e,go,h=>by refine g7 (λx y p h=>?_) e h;refine nB (λl u z p2 h=>?_) y h;refine kS (λl h=>?_) l h;refine kS (λu h=>?_) u h;obtain⟨h0,h1,h2,h3⟩:=a4 h;cases nn h0;exact bo go (Na go (wd a go h1).1 (wd lo go h2).1 (wd hi go h3).1) λ_=>rfl
|.d3 a lo,X,E,cf,e,go,h=>by refine g7 (λx y p h=>?_) e h;refine nB (λl u z p2 h=>?_) y h;refine kS (λl h=>?_) l h;obtain⟨h0,h1,h2,h3⟩:=a4 h;cases nn h0;cases nn h1;exact bo go (HR go (wd a go h2).1 (wd lo go h3).1) λ_=>rfl
|.d9 a hi,X,E,cf,e,go,h=>by refine g7 (λx y p h=>?_) e h;refine nB (λl u z p2 h=>?_) y h;refine kS (λu h=>?_) u h;obtain⟨h0,h1,h2,h3⟩:=a4 h;cases nn h0;cases nn h1;exact bo go (By go (wd a go h2).1 (wd hi go h3).1) λ_=>rfl
|.rev a,X,E,cf,e,go,h=>by refine g7 (λx y p h=>?_) e h;refine nB (λl u z p2 h=>?_) y h;refine kS (λz h=>?_) z h;obtain⟨h0,h1,h2,h3⟩:=a4 h;cases nn h0;cases nn h1;exact bo go (Cy go h2 (wd a go h3).1) λ_=>rfl
|.Q tg one kk aB it u5 c elt,X,E,cf,e,go,h=>by
  refine Bg (λy g s p h=>?_) e h;refine kC (λg r h=>?_) g h;obtain⟨t,iter,ifs,z⟩:=g;obtain⟨h0,h1,h2,h3,h4,h5,h6⟩:=a7 h;obtain⟨rfl,rfl⟩:=FB h0;simp only[Ad6,On]at h2;have sc:=WD h1;have ht:∀C fp w H,hA (We X (Qw cf t aB) s C fp w H) ifs<|c9 Y E0<|kU F u5 c:=λC fp w H=>by
   have gc:=zA go sc C fp w H;cases u5 with
|true=>refine kC (λz r h=>?_) ifs h6;refine kE (λh=>?_) r h;exact yg<|(wd c gc (a2 h).2).2 (a2 h).1
|false=>cases Ae5.j h6;rintro u7 s1 U H1 Q I ⟨G,Z,h,st,p⟩;exact sL u7 s1 U H1 Q I<|p G H1 Ext.refl st.j
  exact bo go (HJ go sc (jI sc.aB) h3 h2 (QW h4) (my it go h4) (λC fp s H=>(wd elt (zA go sc C fp s H) h5).1) ht) λ_=>rfl
|.a1 a,X,E,cf,e,go,h=>⟨Et (wd a go h).1,λt=>aW t⟩
|.dH a,X,E,cf,e,go,h=>by refine zi (λg x l p h=>?_) e h;refine kE (λh=>?_) l h;refine kC (λx r h=>?_) x h;refine kE (λh=>?_) r h;refine zi (λg2 x l p2 h=>?_) x h;refine kE (λh=>?_) l h;refine kC (λx r h=>?_) x h;refine kE (λh=>?_) r h;obtain⟨h1,h2,h3,h4⟩:=a4 h;exact bo go (Mw go h1 h2 h3 (wd a go h4).1) λ_=>rfl
|.dr a,X,E,cf,e,go,h=>by refine zi (λg x l p h=>?_) e h;refine kE (λh=>?_) l h;refine kC (λx r h=>?_) x h;refine kE (λh=>?_) r h;obtain⟨h1,h2,h3⟩:=a3 h;exact bo go (LJ go h1 h2 (wd a go h3).1) λ_=>rfl
|.fT c a,X,E,cf,e,go,h=>by refine g7 (λx y p h=>?_) e h;obtain⟨h1,h2,h3⟩:=a3 h;exact bo go (DM go h1 h2 (wd a go h3).1) λ_=>rfl
|.eR T i,X,E,cf,e,go,h=>by refine g7 (λd x p h=>?_) e h;refine tE (λks vs q h=>?_) d h;refine jy (λx q2 h=>?_) x h;obtain⟨h1,h2,h3,h4,h⟩:=a5 h;obtain⟨h5,h6,h7⟩:=ki h;exact bo go (CC go h1 (FB h2) (FB h3) (FB h4) h5 h6 h7) λ_=>rfl
|.lh T a,X,E,cf,e,go,h=>by refine g7 (λd x p h=>?_) e h;refine tE (λks vs q h=>?_) d h;obtain⟨h1,h2,h3,h4,h5,h6⟩:=a6 h;exact bo go (Df go h1 (FB h2) (FB h3) (FB h4) h5 (wd a go h6).1) λ_=>rfl
|.eT a,X,E,cf,e,go,h=>by refine zi (λg x l p h=>?_) e h;refine kE (λh=>?_) l h;refine kC (λx r h=>?_) x h;refine kE (λh=>?_) r h;obtain⟨h1,h2,h3⟩:=a3 h;exact bo go (Dx go h1 h2 (wd a go h3).1) λ_=>rfl
|.bV a,X,E,cf,e,go,h=>by refine zi (λg x l p h=>?_) e h;refine kE (λh=>?_) l h;refine kC (λx r h=>?_) x h;refine kE (λh=>?_) r h;obtain⟨h1,h2,h3⟩:=a3 h;exact bo go (Ms go h1 h2 (wd a go h3).1) λ_=>rfl
|.xf i f,X,E,cf,e,go,h=>by refine jT (λx n q h=>?_) e h;refine jy (λx p h=>?_) x h;obtain⟨h,h0⟩:=a2 h;obtain⟨h1,h2,h3⟩:=ki h;cases FB h0;exact bo go (K9 go h1 h2 h3) λ_=>rfl
|.make c q es,X,E,cf,e,go,h=>by refine zi (λg x l p h=>?_) e h;refine kE (λh=>?_) l h;refine kC (λx r h=>?_) x h;obtain⟨h1,h2,h3⟩:=a3 h;exact bo go (Lc go h1 h2 (Zc h3)<|cw es go h3) λ_=>rfl
|.bY a c f,X,E,cf,e,go,h=>by refine jT (λx n q h=>?_) e h;obtain⟨h0,h1,h2,h3⟩:=a4 h;cases FB h0;exact bo go (BG go h1 h2 (wd a go h3).1) λ_=>rfl
|.aI a c m q es,X,E,cf,e,go,h=>by
  refine zi (λg ys l p h=>?_) e h;refine kE (λh=>?_) l h;refine jT (λx n p2 h=>?_) g h;obtain⟨h0,h1,h2,h3,h4,h5,h6⟩:=a7 h;cases FB h0;cases ys with
 |nil=>
   cases es with
   |cons _ _=>exact aW h6
   |nil=>exact bo go (C3 go h1 h2 h4 (wd a go h5).1) λ_=>rfl
 |cons y ys=>exact bo go (NY go h1 h2 (FB h3) h4 (wd a go h5).1 (Zc h6)<|cw es go h6) λ_=>rfl
|.cJ m a es,X,E,cf,e,go,h=>by refine zi (λg x l p h=>?_) e h;refine kE (λh=>?_) l h;refine kC (λx r h=>?_) x h;refine kE (λh=>?_) r h;refine jT (λo n q h=>?_) g h;obtain⟨h1,h2,h3,h4,h5,h6⟩:=a6 h;cases FB h1;exact bo go (FE go h2 h3 h4 (Zc h6 _ Aa) (wd a go h5).1<|cw es go h6) λ_=>rfl
theorem iC:∀(es:M.Es){X:Cx}{E:XK}{cf:Cf}{xs:List Expr},Go Y F X E k cf->aT cf es xs=k9->PA X xs (gU Y E<|M.Gk F es)
|.p,X,E,cf,xs,go,h=>by cases Ae5.j h;exact Cw
|.j a es,X,E,cf,xs,go,h=>by refine kC (λx r h=>?_) xs h;obtain⟨h1,h2,h3⟩:=a3 h;exact Fe h1 (wd a go h2).1<|iC es go h3
theorem cw:∀(es:M.Es){X:Cx}{E:XK}{cf:Cf}{xs:List Expr},Go Y F X E k cf->aT cf es xs=k9->PA X xs (gD Y E<|M.Gn F es)
|.p,X,E,cf,xs,go,h=>by cases Ae5.j h;exact Hc
|.j a es,X,E,cf,xs,go,h=>by refine kC (λx r h=>?_) xs h;obtain⟨h1,h2,h3⟩:=a3 h;exact M0 h1 (wd a go h2).1<|cw es go h3
theorem my:∀(it:M.It){X:Cx}{E:XK}{cf:Cf}{tg e:Expr},Go Y F X E k cf->dn cf it e=k9->PI X tg e (fZ Y E u9<|M.Gs F it)
|.seq a,X,E,cf,tg,e,go,h=>NM go (wd a go (a2 h).2).1
|.aQ a,X,E,cf,tg,e,go,h=>by refine zi (λg x l p h=>?_) e h;refine kE (λh=>?_) l h;refine kC (λx r h=>?_) x h;refine kE (λh=>?_) r h;obtain⟨h1,h2,h3⟩:=a3 h;exact wF go h1 h2 (wd a go h3).1
|.b6 a b,X,E,cf,tg,e,go,h=>by refine zi (λg x l p h=>?_) e h;refine kE (λh=>?_) l h;refine kC (λx r h=>?_) x h;refine kC (λy r h=>?_) r h;refine kE (λh=>?_) r h;obtain⟨h1,h2,h3,h4,h5⟩:=a5 h;exact JG go h1 h2 h3 (wd a go h4).1 (wd b go h5).1
|.rev a,X,E,cf,tg,e,go,h=>by refine zi (λg x l p h=>?_) e h;refine kE (λh=>?_) l h;refine kC (λx r h=>?_) x h;refine kE (λh=>?_) r h;obtain⟨h1,h2,h3⟩:=a3 h;exact CA go h1 h2 (wd a go h3).1
|.enum a,X,E,cf,tg,e,go,h=>aW h
|.cM i,X,E,cf,tg,e,go,h=>aW h
|.di a,X,E,cf,tg,e,go,h=>aW h
end
end
structure Bs where
 G:Gh
 H:Hp
 h:M.AH
structure ba(Y:Ge)(B:Bs)(G:Gh)(Z:M.Sl)(h:M.AH)(U:St)(H:Hp):Prop where
 st:av Y G Z h U H
 ext:Ext B.G B.H G H
 hr:ak Y B.G B.h B.H
 own:∀i xs a,M.Gr Z i=y0 (.j xs)->U[i]?=y0 (y0<|.j a)->B.H a=u0
open Lake renaming MS.ba.own->Lake.MS.ba.j,MS.ba.ext->Lake.MS.ba.K,MS.ba.st->Lake.MS.ba.p
def aS(Y:Ge)(E:XK)(B:Bs)(o:M.O)(D:gK):Prop:=match o with
|.p Z h=>∀G U H,ba Y B G Z h U H->D.nx U H
|.ret w h=>∀G v H,Ext B.G B.H G H->ak Y G h H->au Y G H w v->aK [] [] B.H w v->D.rt v H
|.brk Z h=>∀G U H,ba Y B G Z h U H->D.bk U H
|.cont Z h=>∀G U H,ba Y B G Z h U H->D.ct U H
|.exc d h=>∀G H,Ext B.G B.H G H->ak Y G h H->n8 Y E d G H
|.u=>False
def cE(Y:Ge)(E:XK)(m:M.Sl->M.AH->M.O):TS:=λD U H=>∃B G Z h,ba Y B G Z h U H/\aS Y E B (m Z h) D
def PS.imp {st:Stmt}(h:PS X st t)(k:∀D U H,t' D U H->t D U H):PS X st t':=λa s U H D I q=>h a s U H D I<|k _ _ _ q
def cV.imp {st:List Stmt}(h:cV X st t)(k:∀D U H,t' D U H->t D U H):cV X st t':=λa s U H D I q=>h a s U H D I<|k _ _ _ q
section
variable{Y:Ge}{E:XK}{B:Bs}{G G1:Gh}{Z:M.Sl}{h h1:M.AH}{U:St}{H H1:Hp}{D:gK}
def ba.on (s:ba Y B G Z h U H)(e:Ext G H G1 H1)(a:ak Y G1 h1 H1):ba Y B G1 Z h1 U H1:=⟨s.p.ext e a,s.K.trans s.hr e,s.hr,s.j⟩
theorem aS.exc (s:ba Y B G Z h U H)(p:aS Y E B (.exc d h1) D):ar Y E G H (.exc d h1) P:=λa c e b=>p a c (s.K.trans s.hr e) b
def Qh(s:ba Y B G Z h U H)(p:aS Y E B ((m Z h).c5 f) D)
 (k:∀w v h1 G1 H1,Ext G H G1 H1->ba Y B G1 Z h1 U H1->au Y G1 H1 w v->aK Z U H w v->aS Y E B (f w h1) D->Q v H1):tD Y E m U H Q:=by
 refine⟨G,Z,h,s.p,?_⟩;cases q:m Z h with
|ok w h1=>rw[q]at p;exactλG1 H1 e b v z1 a=>k w v h1 G1 H1 e (s.on e b) z1 a p
|exc d h1=>rw[q]at p;exact aS.exc s p
|fail=>rw[q]at p;exact p
def X8(s:ba Y B G Z h U H)(p:aS Y E B ((m Z h).c5 f) D)
 (k:∀b h1 G1 H1,Ext G H G1 H1->ba Y B G1 Z h1 U H1->aS Y E B (f b h1) D->Q b H1):c9 Y E m U H Q:=by
 refine⟨G,Z,h,s.p,?_⟩;cases q:m Z h with
|ok w h1=>rw[q]at p;exactλG1 H1 e a=>k w h1 G1 H1 e (s.on e a) p
|exc d h1=>rw[q]at p;exact aS.exc s p
|fail=>rw[q]at p;exact p
theorem ba.set (l:ba Y B G Z h U H)(e:Ext G H G1 H1)(s:ba Y B G1 Z h1 U H1)(r:au Y G1 H1 w v)(f:aK Z U H w v)(y:∀xs,w≠.p xs):ba Y B G1 (M.GF Z i w) h1 (U.B i<|y0 v) H1:=by
 refine⟨s.p.set r λu j A t g n a x z=>?_,s.K,s.hr,λj xs a g k=>?_⟩
 .cases w with
|v d=>cases u
|bor xs=>exact y xs rfl
|own xs=>obtain⟨b,p,m⟩:=f;subst x;cases p;obtain⟨o,q⟩:=l.p.cR g n z;rw[m]at q;cases q
 .rw[ql]at g;by_cases c:j=i/\i<Z.e
  .rw[Da c]at g;cases g;obtain⟨rfl,c⟩:=c;rw[Ac6<|by rw[←s.p.len];exact c]at k;cases k;obtain⟨b,p,m⟩:=f;cases p;exact l.K.none l.hr m
  .rw[Fk c]at g;have t:=λz=>c ⟨z,by subst z;exact wu g⟩;rw[Ad1<|Ne.symm t]at k;exact s.j j xs a g k
def ba.fz (a:ba Y B G Z h U H)(e:Ext G H G1 H1)(s:ba Y B G1 Z h1 U H1)(r:au Y G1 H1 w v)(f:aK Z U H w v)(c:w.d=y0 d):∃G2,Ext G H G2 H1/\ba Y B G2 Z h1 U H1/\az Y G2 H1 d v:=by obtain⟨G2,b,g,rd,_⟩:=nT e s.p a.p r f c;exact⟨G2,b,⟨g,a.K.trans a.hr b,s.hr,s.j⟩,rd⟩
def ba.dI (s:ba Y B G Z h U H)(r:az Y G H d v):ba Y B G (M.GF Z i<|.v d) h (U.B i<|y0 v) H:=ba.set s Ext.refl s r trivial λa z=>by cases z
theorem ba.aR:∀{is}{ds}{vs}{Z L}{U},M.aR is ds Z=y0 L->ai Y G H ds vs->ba Y B G Z h U H->ba Y B G L h (ip is vs U) H/\is.e=vs.e
|[],[],_,_,_,_,e,rfl,s=>by cases e;exact⟨s,rfl⟩
|[],_::_,_,_,_,_,e,_,_=>by simp[M.aR]at e
|_::_,[],_,_,_,_,e,_,_=>by simp[M.aR]at e
|i::is,d::ds,_,_,_,_,e,z7,s=>by obtain⟨v,r,rfl,z1,c⟩:=z7;obtain⟨a,b⟩:=ba.aR (by simpa[M.aR]using e) c<|s.dI z1;exact⟨a,congrArg (·+1) b⟩
def sy(e:M.GC tg one d Z=y0 Z')(r:az Y G H d x)(s:ba Y B G Z h U H)(c:∀L,ba Y B G Z' h L H->Q L H):gM Y tg one x U H Q:=by
 cases one with
|true=>
  cases tg with
 |nil=>cases e
 |cons i m=>
   cases m with
 |cons _ _=>cases e
 |nil=>cases e;exact⟨i,rfl,c _<|s.dI r⟩
|false=>
  cases d with
|tup f=>obtain⟨a,g,rfl,j,b⟩:=r;obtain⟨l,k⟩:=ba.aR (e) b s;exact⟨G,f,g,a,rfl,j,b,k,c _ l⟩
|_=>cases e
def ba.write (s:ba Y B G Z h U H)(k:M.Gr Z i=y0 (.j xs))(n:U[i]?=y0 (y0<|.j a))(r:ai Y G H ys us):ba Y B G (M.GF Z i<|.j ys) h U<|aG H a<|.u us:=by
 obtain⟨D,of,X,ha,_⟩:=Xv s.p k n;have O:=s.j i xs a k n;have mon:Mon G H G<|aG H a<|.u us:=⟨λb o z q=>by rw[Qa<|λe:b=a=>D<|e▸z];exact q,Aa4 _,λ_ _=>rfl,λ_ z=>z⟩;have W:=wu k;have J:ak Y G h<|aG H a<|.u us:=by refine⟨s.p.j.p,λq c e=>⟨(s.p.j.G q c e).1,(s.p.j.G q c e).2.mon mon λo z=>by rw[Qa<|of q<|s.p.j.lt e];exact z⟩,s.p.j.inj,λb z=>?_⟩;obtain⟨o,q⟩:=s.p.j.live b z;exact⟨o,by rw[Qa<|λe:b=a=>D<|e▸z];exact q⟩
 refine⟨⟨by rw[Zu];exact s.p.len,λj w e=>?_,λp q I w b A l g R S=>?_,J⟩,⟨λb o q E=>?_,s.K.le,s.K.aP,s.K.new,s.K.fz,s.K.old,λq C z=>?_⟩,s.hr,λj I b l g=>?_⟩
 .rw[ql]at e;by_cases c:j=i/\i<Z.e
  .rw[Da c]at e;cases e;obtain⟨rfl,_⟩:=c;exact⟨.j a,n,a,us,rfl,D,of,Wa,r.mon mon⟩
  .rw[Fk c]at e;have P:=λz=>c ⟨z,by subst z;exact wu e⟩;obtain⟨v,z1,K⟩:=s.p.u j w e;refine⟨v,z1,?_⟩;cases w with
|v d=>exact az.mon mon K
|own T=>obtain⟨b,bs,rfl,V,L,f,y⟩:=K;have t:b≠a:=λz=>s.p.p i j xs _ a (Ne.symm P) k e rfl n<|z▸z1;exact⟨b,bs,rfl,V,L,by rw[Qa t];exact f,y.mon mon⟩
|bor T=>
    obtain⟨b,bs,rfl,L,f,y⟩:=K;have t:b≠a:=λz=>s.p.p i j xs _ a (Ne.symm P) k e rfl n<|z▸z1;refine⟨b,bs,rfl,L,?_,y.mon mon⟩;obtain f|⟨o,f⟩:=f
    .exact .p<|by rw[Qa t];exact f
    .exact .u ⟨o,by rw[Qa t];exact f⟩
 .rw[ql]at l g;have x:∃m,M.Gr Z p=y0 (.j m):=by
   by_cases c:p=i/\i<Z.e
   .exact⟨xs,by rw[c.1];exact k⟩
   .rw[Fk c]at l;exact⟨I,l⟩
  have N:∃u,M.Gr Z q=y0 u/\gS u=true:=by
   by_cases c:q=i/\i<Z.e
   .exact⟨.j xs,by rw[c.1];exact k,rfl⟩
   .rw[Fk c]at g;exact⟨w,g,R⟩
  obtain⟨m,x⟩:=x;obtain⟨u,N,F⟩:=N;exact s.p.p p q m u b A x N F S
 .rw[Qa<|λe:b=a=>by rw[e,O]at q;cases q];exact s.K.j b o q E
 .obtain⟨o,Q⟩:=s.K.u q C z;have:B.G.j q≠a:=λe=>by have:=of q<|Ab5 C s.K.le;rw[s.K.aP q C]at this;exact this e
  exact⟨o,by rw[Qa this];exact Q⟩
 .rw[ql]at l;by_cases c:j=i/\i<Z.e
  .obtain⟨rfl,_⟩:=c;rw[n]at g;cases g;exact O
  .rw[Fk c]at l;exact s.j j I b l g
theorem QK:∀(xs)(n){d},M.Gi xs=k9->M.Gp d=k9->M.Gi (xs.B n d)=k9
|[],_,_,_,_=>rfl
|x::xs,0,d,h,a=>by have h:=h;rw[Aa9]at h;show(M.Gp d&&M.Gi xs)=k9;rw[a,h.2];rfl
|x::xs,n+1,d,h,a=>by have h:=h;rw[Aa9]at h;show(M.Gp x&&M.Gi (xs.B n d))=k9;rw[h.1,QK xs n h.2 a];rfl
def ba.iP (s:ba Y B G Z h U H)(p:h[r]?=y0 c0)(z:bG Y G (aG H (G.j r) o1) (G.j r) c1):ba Y B G Z (h.B r c1) U<|aG H (G.j r) o1:=by
 have u:=(Ac1.j p).1;have f:=s.p.j.lt p;have l:=s.p.j.mq f;have mon:Mon G H G<|aG H _ o1:=⟨λb o w q=>by rw[Qa<|λe:b=G.j r=>l<|e▸w];exact q,Aa4 _,λ_ _=>rfl,λ_ w=>w⟩;have m:ak Y G (h.B r c1)<|aG H (G.j r) o1:=by
  refine⟨by rw[Ad0];exact s.p.j.p,λq c e=>?_,s.p.j.inj,λb w=>?_⟩
  .by_cases c:q=r
   .subst c;rw[Ac6 u]at e;cases e;exact⟨l,z⟩
   .rw[Ad1<|Ne.symm c]at e;exact⟨(s.p.j.G q _ e).1,(s.p.j.G q _ e).2.mon mon λo w=>by rw[Qa λt=>c<|s.p.j.inj q r (s.p.j.lt e) f t];exact w⟩
  .obtain⟨o,q⟩:=s.p.j.live b w;exact⟨o,by rw[Qa<|λe:b=G.j r=>l<|e▸w];exact q⟩
 refine⟨⟨s.p.len,λj w e=>?_,s.p.p,m⟩,⟨λb o q i=>?_,s.K.le,s.K.aP,s.K.new,s.K.fz,s.K.old,λq x w=>?_⟩,s.hr,s.j⟩
 .obtain⟨v,z1,n⟩:=s.p.u j w e;refine⟨v,z1,?_⟩;cases w with
|v d=>exact az.mon mon n
|own A=>obtain⟨b,bs,rfl,C,g,a,k⟩:=n;exact⟨b,bs,rfl,C,g,by rw[Qa<|Ne.symm<|g r f];exact a,k.mon mon⟩
|bor A=>
   obtain⟨b,bs,rfl,g,a,k⟩:=n;refine⟨b,bs,rfl,g,?_,k.mon mon⟩;obtain a|⟨o,a⟩:=a
   .exact .p<|by rw[Qa<|Ne.symm<|g r f];exact a
   .exact .u ⟨o,by rw[Qa<|Ne.symm<|g r f];exact a⟩
 .have y:b≠G.j r:=λe=>by
   by_cases c:r<B.G.n
   .exact i r c<|by rw[←s.K.aP r c];exact e.j
   .have:=s.K.new r (Nat.not_lt.j c) f;rw[←e,q]at this;cases this
  rw[Qa y];exact s.K.j b o q i
 .by_cases c:B.G.j q=G.j r
  .exact⟨_,by rw[c];exact Wa⟩
  .obtain⟨o,D⟩:=s.K.u q x w;exact⟨o,by rw[Qa c];exact D⟩
def Aq(c:ak Y G h H)(a:r<G.n)(o):Mon G H G<|aG H (G.j r) o:=⟨λb o w q=>by rw[Qa<|λe:b=G.j r=>c.mq a<|e▸w];exact q,Aa4 _,λ_ _=>rfl,λ_ w=>w⟩
def ba.cell (s:ba Y B G Z h U H)(a:h[r]?=y0 (.lst xs))(b:M.Gi ys=k9)(z:ai Y G H ys us):ba Y B G Z (h.B r<|.lst ys) U<|aG H (G.j r)<|.u us:=
 s.iP a ⟨b,us,Wa,z.mon<|Aq s.p.j (s.p.j.lt a) _⟩
def ba.lP (s:ba Y B G Z h U H)(a:h[r]?=y0 (.obj c0 xs))(z:ai Y G H (ys.u (·.2)) us):ba Y B G Z (h.B r<|.obj c0 ys) U<|aG H (G.j r)<|.ins (Y.j c0) dx0<|(ys.u λp=>Str.ofString p.1).Z us:=
 s.iP a ⟨dx0,us,Wa,z.mon<|Aq s.p.j (s.p.j.lt a) _⟩
end
structure fb(Y:Ge)(F:M.Fx)(X:Cx)(E:XK)(k:Nat)(cf:Cf):Prop extends Go Y F X E k cf where
 hQ:PassesOwn (model X.p X.w) X.A X.j X.xe
 fW:X.stack=X.j::X.outer
 lL:X.j.frame=y0 X.j.p
 ex:X.ex=[]
 gi:∀c,cf.cb=true->cf.gi.p c=true->iM cf.p (Qd c)=true->(Qd c==("__debug__":Str))=false->dO Y c/\∀(np cpos pos:Pos)(e:Expr)(es:List Expr)(t:TA),PA X (e::es) t->(∀e'∈e::es,jb e'=true)→
  PS X (.p (y0<|.u (.j (Qd c) np) (e::es) [] cpos) u0 pos) (vG (Y.j c) E t)
 lb:∀c f,cf.cb=true->cf.w.er.p (c,f)=true->iM cf.p (Qd c)=true->(Qd c==("__debug__":Str))=false->dO Y c/\hF Y.K (Y.j c) (Qd f)/\∀(np cpos pos:Pos)(e:Expr)(t:TA),PA X [e] t->jb e=true→
  PS X (.p (y0<|.u (.j (Qd c) np) [e] [] cpos) u0 pos) (A9 (Y.j c) (Qd f) E t)
 rb:∀c f,cf.cb=true->cf.w.er.p (c,f)=true->iM cf.p (Qd c)=true->(Qd c==("__debug__":Str))=false->dO Y c/\hF Y.K (Y.j c) (Qd f)/\∀(np cpos pos pc:Pos)(kc:Nat)(e:Expr)(t:TA),(∀xa,iQ (X.eH.fN xa) xa e t)->jb e=true→
  nh X E (Y.j c) (Qd f) t [.p (y0<|.u (.j (Qd c) np) [e] [] cpos) (y0<|.y .w kc pc) pos]
 pQ:cf.uh=k9->lg X
 rf:∀f,cf.qh.p f=k9->∃ps fa fd,lq X.p X.w X.K X.mg X.base (bO X.p X.w) 2 fa fd ps (eQ Y<|F.j f)/\Binds X.K fd ps []/\Af6 X.K (.j fa)=k9/\X.mg (Qd f)=y0 (.j fa)
 pat:∀hd,PassesOwnAt (model X.p X.w) (X.A.mark hd) X.A X.j X.xe
 dX:∀c,cf.dX.p c=true->PySem.W.mroIn X.K (Y.j c) (.p "BaseException")=some true/\cf.j.p c=true/\2<=k
section
variable{Y:Ge}{F:M.Fx}{X:Cx}{E:XK}{k:Nat}{cf:Cf}
def wV(h:qK cf i x=k9):cf.N[i]?=y0 x/\kn cf.p x=true:=by simpa[qK]using h
def zz(h:Xs cf i x=k9):cf.N[i]?=y0 x/\cf.p.j.j x=y0 .local:=by simpa[Xs]using h
def Eh(o:tD Y E (M.eval F<|.a1 a) U H Q):tD Y E (M.eval F a) U H Q:=by
 obtain⟨G,Z,h,s,p⟩:=o;refine wb s.j Ext.refl s p λm v1 e g B r w i n j b=>?_;cases m with
|own c=>
  obtain⟨l,A,rfl,x,q,u,y⟩:=n;obtain⟨z,t,k⟩:=j;cases t;have b:ar Y E G H (if M.Gi c=k9 then M.aC _ (e++[.lst c])else .u) _:=b;by_cases f:M.Gi c=k9;rotate_left
  .rw[Fk f]at b;exact b.j
  rw[Da f]at b;refine ar.val b (XR r k) (qW i.j x q u y f) ?_ trivial;show e.e<g.n+1/\V.ref l=.j (if e.e=g.n then l else g.j e.e);rw[i.j.p,Da rfl];exact⟨Ae9 _,rfl⟩
|v d=>exact b.j
|bor c=>exact b.j
def Wi(h:jv v=k9):swapsWith v t l env=pure false:=by
 cases v<;>first|rfl|(simp[jv]at h)
def HS:swapsWith v (y0<|.p o n p) l env=pure false:=by cases v<;>rfl
def WW(a:Go Y F X E k cf)(b:qK cf i x=k9)(e:PE X v<|tD Y E<|M.eval F m)(d:swapsWith v (y0<|.j x p) pos.j X.j=pure u9):
 PS X (.j [.j x p] v pos)<|iZ (tD Y E<|M.eval F m)<|QT i:=by
 obtain⟨c,f⟩:=wV b;have b:=a.iz x f;exact DR (by rw[a.N];exact a.nd) (by rw[a.N];exact c) b.1 e d b.2
noncomputable def sh:M.E->Bool
|.a1 _=>k9
|.Q ..=>k9
|_=>u9
def Hi(h:Jc cf m v=k9)(a:sh m=u9):jv v=true:=by
 cases v with
|ListComp _ _ _ _=>cases m<;>first|exact aW h|(exact absurd (a) Ao3)
|SetComp _ _ _ _=>cases m<;>first|exact aW h|(exact absurd (a) Ao3)
|DictComp _ _ _ _ _=>cases m<;>first|exact aW h|(exact absurd (a) Ao3)
|_=>rfl
def CM(d:Cf)(a:Bool)(b:List Expr)(c:M.E):Bool:=bif a then(lC b λz r=>kZ r<|gF c&&Jc d c z)else b.y
def MC(h:Jc cf (.Q tg one kk aB it u5 c elt) v=k9):∃y t iter ifs scope p0,v=.B y [⟨t,iter,ifs,0⟩] scope p0∧
 lD cf scope (Qw cf t aB) kk aB/\(∀i∈tg,i<kk)/\Xg {cf with sc:=scope,N:=Qw cf t aB} tg one t=k9/\dn cf it iter=k9/\Jc {cf with sc:=scope,N:=Qw cf t aB} elt y=k9∧
 CM {cf with sc:=scope,N:=Qw cf t aB} u5 ifs c=true:=by
 refine Bg (λy g s p h=>kC (λg r h=>?_) g h) v h;obtain⟨t,iter,ifs,z⟩:=g;obtain⟨d,j,a,k,f,b,e⟩:=a7 h;obtain⟨rfl,rfl⟩:=FB d;simp[On]at a;exact⟨y,t,iter,ifs,s,p,rfl,WD j,a,k,f,b,e⟩
def Cv(e:Go Y F X E k cf)(m:qK cf i x=k9)(h:Jc cf (.Q tg one kk aB it u5 c elt) v=k9):
 PS X (.j [.j x p] v pos)<|iZ (tD Y E<|M.eval F<|.Q tg one kk aB it u5 c elt)<|QT i:=by
 obtain⟨y,t,j,d,a,A,rfl,l,K,O,o,D,n⟩:=MC h;obtain⟨b,q⟩:∃b,swapsWith (.B y [⟨t,j,d,0⟩] a A) (y0<|.j x p) pos.j X.j=pure b:=⟨_,rfl⟩;cases b with
|false=>exact WW e m ((wd _ e h).1) q
|true=>
  obtain⟨N,J⟩:=wV m;have w:∀C f s H,hA (We X _ a C f s H) d<|c9 Y E0<|kU F u5 c:=λC f s H=>by
   cases u5 with
|true=>exact kC (λz r h=>kE (λh=>yg<|(wd c (zA e l C f s H) (a2 h).2).2 (a2 h).1) r h) d n
|false=>cases Ae5.j n;rintro g B U u Q I ⟨G,Z,h,L,p⟩;exact sL g B U u Q I<|p G u Ext.refl L.j
  exact Q5 e N J q l (jI l.aB) O K (QW o) (my it e o) (λC f s H=>(wd elt (zA e l C f s H) D).1) w
def Wb(a:Go Y F X E k cf)(c:qK cf i x=k9)(h:Jc cf m v=k9)(b:sh m=u9):PS X (.j [.j x p] v pos)<|iZ (tD Y E<|M.eval F m)<|QT i:=
 WW a c (wd m a h).1<|Wi<|Hi h b
theorem rF(b:Go Y F X E k cf)(c:qK cf i x=k9):∀m,Jc cf m v=k9->PS X (.j [.j x p] v pos) (iZ (tD Y E<|M.eval F m)<|QT i)
|.a1 a,h=>PS.imp (rF b c a h) λD U H q=>Eh q
|.Q ..,h=>Cv b c h
|.var _,h=>Wb b c h rfl
|.con _,h=>Wb b c h rfl
|.int _,h=>Wb b c h rfl
|.bl _,h=>Wb b c h rfl
|.aj,h=>Wb b c h rfl
|.str _,h=>Wb b c h rfl
|.tup _,h=>Wb b c h rfl
|.lst _,h=>Wb b c h rfl
|.bin ..,h=>Wb b c h rfl
|.cmp ..,h=>Wb b c h rfl
|.a4 ..,h=>Wb b c h rfl
|.cm ..,h=>Wb b c h rfl
|.neg _,h=>Wb b c h rfl
|.not _,h=>Wb b c h rfl
|.and ..,h=>Wb b c h rfl
|.or ..,h=>Wb b c h rfl
|.j ..,h=>Wb b c h rfl
|.bi ..,h=>Wb b c h rfl
|.cN ..,h=>Wb b c h rfl
|.b9 ..,h=>Wb b c h rfl
|.ix ..,h=>Wb b c h rfl
|.sl ..,h=>Wb b c h rfl
|.d3 ..,h=>Wb b c h rfl
|.d9 ..,h=>Wb b c h rfl
|.rev _,h=>Wb b c h rfl
|.dH _,h=>Wb b c h rfl
|.dr _,h=>Wb b c h rfl
|.cJ ..,h=>Wb b c h rfl
|.fT ..,h=>Wb b c h rfl
|.eR ..,h=>Wb b c h rfl
|.lh ..,h=>Wb b c h rfl
|.eT _,h=>Wb b c h rfl
|.bV _,h=>Wb b c h rfl
|.xf ..,h=>Wb b c h rfl
|.make ..,h=>Wb b c h rfl
|.bY ..,h=>Wb b c h rfl
|.aI ..,h=>Wb b c h rfl
def BJ(q:Go Y F X E k cf)(n:qK cf i x=k9)(h:Jc cf m v=k9):PS X (.j [.j x p] v pos)<|cE Y E<|M.exec F<|.set i m:=by
 refine PS.imp (rF q n m h) λD U H o=>?_;obtain⟨B,G,Z,h,s,p⟩:=o;refine Qh s p λw v r f l j c e b a=>?_;cases w with
|bor g=>exact a.j
|v d=>exact a f _ l<|ba.set s j c e b λg z=>by cases z
|own t=>exact a f _ l<|ba.set s j c e b λg z=>by cases z
def Di(o:Go Y F X E k cf)(c:qK cf i x=k9)(h:Jc cf m v=k9):PS X (.j [.j x p] v pos)<|cE Y E<|M.exec F<|.ag i m:=by
 refine PS.imp (rF o c m h) λD U H g=>?_;obtain⟨B,G,Z,h,s,p⟩:=g;refine Qh s p λw v y t r n e f b a=>?_;cases q:w.d with
|none=>rw[q]at a;exact a.j
|some d=>rw[q]at a;obtain⟨l,u,j,rd⟩:=ba.fz s n e f b q;exact a l _ r<|j.dI rd
def Bo:swapsWithSole [.G ts n p] v l env=pure false:=by cases v<;>rfl
def Q4(h:Xj v=k9):swappedStores [.G ts n p] v env=pure none:=by
 cases v<;>first|rfl|(simp[Xj]at h)
def Hh(e:Go Y F X E k cf)(j:cf.uh=k9->lg X)(g:pE cf is ts=k9)(t:Xj v=k9)(h:Jc cf m v=k9):PS X (.j [.G ts n p] v pos)<|cE Y E<|M.exec F<|.gk is m:=by
 refine PS.imp (oI (wd m e h).1 (FZ e j g) Bo (Q4 t) rfl) λD U H r=>?_;obtain⟨B,G,Z,h,s,p⟩:=r;refine Qh s p λw v u o x A i l z a=>?_;cases w with
|v d=>
  cases d with
 |tup c=>
   have a:aS Y E B (match M.aR is c Z with|some b=>.p b u|none=>.u) D:=a;cases q:M.aR is c Z with
   |none=>rw[q]at a;exact a.j
   |some b=>rw[q]at a;exact sy (show M.GC is u9 (.p c) Z=y0 b from q) l i λf y=>a o f x y
 |_=>exact a.j
|own _=>exact a.j
|bor _=>exact a.j
def JY:swapsWithSole [.w x y p] v l env=pure false:=by cases v<;>rfl
def jL:swappedStores [.w x y p] v env=pure none:=by cases v<;>rfl
def tm(a:zf y=k9)(v):assign (.w x y p) env v=(do
 let L←holding [v]<|eval x env;let M←holding [v,L]<|eval y env
 standAt p
 holding [v,L,M]<|setItem L M v
 release [v,L,M] []):=by
 cases y<;>first|rfl|(simp[zf]at a)
def W6(a:M.flat d=k9)(z:az Y G H d v):az Y G' H' d v:=by
 cases d with
|aj=>exact z
|bl _=>exact z
|int _=>exact z
|str _=>exact z
|_=>exact absurd (a) Ab0
def E8(a:M.flat d=k9):M.Gp d=true:=by
 cases d<;>first|rfl|exact absurd (a) Ab0
set_option tactic.hygienic true in
def x0(e:Go Y F X E k cf)(S:zf y=k9)(Q:Jc cf o x=k9)(P:Jc cf kx y=k9)(h:Jc cf m v=k9):PS X (.j [.w x y p] v pos)<|cE Y E<|M.exec F<|.bH o kx m:=by
 refine PS.imp (oI (wd m e h).1 (yk (wd o e Q).1 (wd kx e P).1 X7<|tm S) JY jL rfl) λD U H I=>?_;obtain⟨B,G,Z,h,s,p⟩:=I;refine Qh s p λw v h1 W H1 e1 u A T R=>Qh u R λow ov h2 G2 H2 e2 f l f2 K=>Qh f K λkw iv h3 g N O c J V a=>?_;unfold M.Kz at a;split at a
 .rename_i d r j;split at a
  .rename_i b q;split at a
   .rename_i n L;split at a
    .rename_i i;obtain⟨h4,z⟩:=(au.ext O f.p.j l);subst z;cases(J);have rd:az Y g N d v:=W6 i A;obtain⟨_,C,t,rv⟩:=c.p.j.cell r b q;refine⟨_,C,j,n,rfl,rfl,t,by rw[←rv.length];exact L,?_⟩;exact a g U _<|c.cell q (QK b n (c.p.j.pure r b q)<|E8 i)<|ai.set rd n rv
    .exact a.j
   .exact a.j
  .exact a.j
 .exact a.j
def LM(h:rG cf i m e cpos=k9):∃x p apos,e=.p (.j x p) m apos/\cf.N[i]?=y0 x/\fD cf.p x=k9/\dz x=k9/\(apos.p==cpos.j)=true:=by refine jT (λx n q h=>jy (λx p h=>?_) x h) e h;obtain⟨h,c,b⟩:=a3 h;obtain⟨a,f,d⟩:=ki h;cases FB c;exact⟨_,_,_,rfl,a,f,d,b⟩
def Hg(l:Go Y F X E k cf)(T:rG cf i "append" f cpos=true)(e:jb v=true)(h:Jc cf m v=true):PS X (.Expr (.u f [v] [] cpos) pos)<|cE Y E<|M.exec F<|.app i m:=by
 obtain⟨x,p,y,rfl,n,L,c,O⟩:=LM T;unfold dz at c;rw[Aa9]at c;have pv:=XB (pos:=p) (by rw[l.N];exact n) (l.gB x L) (by simpa using c.1) (by simpa using c.2);refine PS.imp (X5 (uM PV PM PN zW pv (Qc (wd m l h).1 xi<|Ja e) rfl (by rw[Ja e];rfl) O (Ja e) rfl)<|Wi rfl) λD U H K=>?_;obtain⟨B,G,Z,h,s,p⟩:=K;rw[M.exec]at p;cases q:M.Gr Z i with
|none=>rw[q]at p;exact p.j
|some N=>
  rw[q]at p;cases N with
|v d=>exact p.j
|bor o=>exact p.j
|own o=>
   obtain⟨v0,j,a,J,rfl,z2,z3,S,z5⟩:=s.p.u i _ q;refine⟨.j a,j,.p ⟨rfl,J,bu.of S⟩,Qh s p λw v n V H1 R C I z b=>?_⟩;cases g:w.d with
|none=>rw[g]at b;exact b.j
|some d=>
    rw[g]at b;obtain⟨Q,W,t,rd⟩:=ba.fz s R C I z g;have b:aS Y E B (if o.e<M.bp then .p _ n else .u) D:=b;by_cases u:o.e<M.bp
    .rw[Da u]at b;obtain⟨nf,of,A,P,rs⟩:=Xv t.p q j;have r:=rs.length;exact⟨a,A,v,rfl,rfl,P,by have:=Jm;lia,b Q U _<|t.write q j<|rs.append ⟨v,[],rfl,rd,rfl⟩⟩
    .rw[Fk u]at b;exact b.j
theorem WL:∀{xs ys},M.Gi xs=k9->M.Gi ys=k9->M.Gi (xs++ys)=k9
|[],_,_,h=>h
|x::xs,ys,h,a=>by have h:=h;rw[Aa9]at h;show(M.Gp x&&M.Gi (xs++ys))=k9;rw[h.1,WL h.2 a];rfl
set_option tactic.hygienic true in
def Hf(A:Go Y F X E k cf)(P:attributeBase x "append" X.j (eval x X.j)=eval x X.j)(h4:(apos.p==cpos.j)=true)(e:jb v=true)(ha:Jc cf a x=true)(h:Jc cf m v=true):PS X (.Expr (.u (.p x "append" apos) [v] [] cpos) pos)<|cE Y E<|M.exec F<|.gz a m:=by
 refine PS.imp (X5 (uM PV PM PN zW (wd a A ha).1 (Qc (wd m A h).1 xi<|Ja e) P (by rw[Ja e];rfl) h4 (Ja e) rfl)<|Wi rfl) λD U H T=>?_;obtain⟨B,G,Z,h,s,p⟩:=T;refine Qh s p λo vo R G0 H0 e0 l r0 f0 c=>?_;cases q:M.G6 R (y0 o)with
|none=>rw[q]at c;exact c.j
|some C=>
  rw[q]at c;obtain⟨q1,W⟩:=XX q;cases q1;obtain⟨f,rfl⟩:=(r0);obtain⟨_,j,g,_⟩:=l.p.j.cell C.1 C.2 W;refine⟨.p ⟨rfl,j,bu.of g⟩,Qh l c λw v h1 G1 H1 e1 L Q I b=>?_⟩;split at b
  .rename_i d r n O V;obtain⟨G2,S,t,rd⟩:=ba.fz l e1 L Q I O;by_cases z:n.e<M.bp/\M.Gp d=k9
   .rw[Da z]at b;obtain⟨J,i⟩:=XX V;cases J;obtain⟨_,K,N,y⟩:=t.p.j.cell _ n i;have u:=y.length;exact⟨_,K,v,by rw[S.aP _ f],rfl,N,by have:=Jm;lia,b G2 U _<|t.cell i (WL (t.p.j.pure _ n i)<|by simp_all)<|y.append ⟨v,[],rfl,rd,rfl⟩⟩
   .rw[Fk z]at b;exact b.j
  .exact b.j
def j2(a:Go Y F X E k cf)(h1:cf.N[i]?=y0 x)(h2:fD cf.p x=k9)(K:dz x=k9)(l:cf.w.fl.p (c,f)=k9)(h:Jc cf m v=k9):PS X (.j [.p (.j x L) (Qd f) p2] v pos)<|cE Y E<|M.exec F<|.b4 i c f m:=by
 refine PS.imp (IV (tj a h1 h2 K) (wd m a h).1 HS) λD U H A=>?_;obtain⟨B,G,Z,h,s,p⟩:=A;refine Qh s p λw v h1 g T S b y N L=>?_;cases w with
|own _=>exact L.j
|bor _=>exact L.j
|v d=>
  cases q:M.GQ h1 (M.Gr Z i)with
|none=>rw[q]at L;exact L.j
|some o=>
   obtain⟨r,J,fs⟩:=o;rw[q]at L;dsimp only at L;split at L
   .rename_i I;obtain⟨rfl,P⟩:=I;obtain⟨Q,j⟩:=XE q;obtain⟨R,C,O,n,z⟩:=b.p.j.obj r _ fs j;obtain⟨t,e,u⟩:=uk (y) z;refine⟨_,Ey b.p q,g.j r,Y.j J,C,_,rfl,n,(a.fld _ _ l).1,(a.fld _ _ l).2,?_,?_⟩
    .rw[List.length_zip,Ab];lia
    .rw[u];exact L g U _<|b.lP j e
   .exact L.j
set_option tactic.hygienic true in
def Dd(c:Go Y F X E k cf)(h1:cf.N[i]?=y0 x)(h2:fD cf.p x=k9)(e:dz x=k9)(O:zf y=k9)(K:Jc cf kx y=k9)(h:Jc cf m v=k9):PS X (.j [.w (.j x p) y p2] v pos)<|cE Y E<|M.exec F<|.ez i kx m:=by
 unfold dz at e;rw[Aa9]at e;have pv:=XB (pos:=p) (by rw[c.N];exact h1) (c.gB x h2) (by simpa using e.1) (by simpa using e.2);refine PS.imp (oI (wd m c h).1 (yk pv (wd kx c K).1 X7<|tm O) JY jL rfl) λD U H z=>?_;obtain⟨B,G,Z,h,s,p⟩:=z;refine Qh s p λw v h1 Q H1 e1 g u P b=>?_;cases q:M.Gr Z i with
|none=>rw[q]at b;exact b.j
|some A=>
  rw[q]at b;cases A with
|v d=>exact b.j
|bor N=>exact b.j
|own N=>
   obtain⟨v0,f,a,S,rfl,z2,W,z4,z5⟩:=g.p.u i _ q;refine⟨.j a,f,?_⟩;refine Qh g b λT V h2 o J R l t f2 p2=>?_;split at p2
   .rename_i d j;split at p2
    .rename_i L;split at p2
     .rename_i n C;cases(t);have rd:az Y o J d v:=W6 L u;obtain⟨nf,of,r,I,rs⟩:=Xv l.p q f;refine⟨_,r,j,n,rfl,rfl,I,by rw[←rs.length];exact C,?_⟩;exact p2 o U _<|l.write q f<|ai.set rd n rs
     .exact p2.j
    .exact p2.j
   .exact p2.j
end
section
variable{Y:Ge}{E:XK}{B:Bs}{G:Gh}{Z:M.Sl}{h:M.AH}{U:St}{H:Hp}{D:gK}
def EB(b:M.Gr Z i=y0 (.j xs))(c:U[i]?=y0 (y0<|.j a)):Wl Z U H a=none:=by unfold Wl;rw[Da ⟨i,xs,b,c⟩]
def W8(e:Wl Z U H a=y0 o):H a=y0 o:=by
 unfold Wl at e;split at e
 .cases e
 .exact e
def Ie(s:av Y G Z h U H):ak Y G h<|Wl Z U H where
 len:=s.j.p
 any:=λr c e=>⟨(s.j.G r c e).1,(s.j.G r c e).2.mon (zy s) λo z=>by rw[jl<|by rintro⟨i,f,d,b⟩;exact(Xv s d b).2.1 r (s.j.lt e) rfl];exact z⟩
 inj:=s.j.inj
 live:=λa z=>by obtain⟨o,q⟩:=s.j.live a z;exact⟨o,by rw[jl<|by rintro⟨i,f,d,b⟩;exact(Xv s d b).1 z];exact q⟩
def pb(G:Gh)(Z:M.Sl)(h:M.AH)(U:St)(H:Hp):Bs:=⟨G,Wl Z U H,h⟩
def wH(s:ba Y B G Z h U H):Ext B.G B.H G<|Wl Z U H where
 keep:=λa o e d=>by rw[jl λ⟨i,c,f,b⟩=>by rw[s.j i c a f b]at e;cases e];exact s.K.j a o e d
 le:=s.K.le
 aP:=s.K.aP
 new:=s.K.new
 fz:=s.K.fz
 old:=s.K.old
 cells:=λr j z=>by obtain⟨o,q⟩:=s.K.u r j z;refine⟨o,?_⟩;rw[jl λg=>by obtain⟨i,c,f,b⟩:=g;obtain⟨u,z⟩:=z;rw[s.j i c _ f b]at z;cases z];exact q
def IF(s:ba Y B G Z h U H):ba Y (pb G Z h U H) G Z h U H where
 st:=s.p
 ext:=⟨λa o e _=>W8 e,Aa4 _,λ_ _=>rfl,λr h1 h2=>absurd h1<|An5.p h2,λ_ z=>z,λ_ z=>.p z,by rintro r hr⟨o,z⟩;exact⟨o,W8 z⟩⟩
 hr:=Ie s.p
 own:=λi xs a e1 e2=>EB e1 e2
def wR(s:ba Y B G Z h U H)(b:ba Y (pb G Z h U H) G2 Z2 h2 U2 H2):ba Y B G2 Z2 h2 U2 H2:=
 ⟨b.p,(wH s).trans s.hr b.K,s.hr,λi d a e c=>(wH s).none s.hr<|b.j i d a e c⟩
def BC(s:ba Y B G Z h U H)(p:aS Y E B o D):aS Y E (pb G Z h U H) o D:=by
 cases o with
|next l j=>exactλb g c i=>p b g c<|wR s i
|brk l j=>exactλb g c i=>p b g c<|wR s i
|cont l j=>exactλb g c i=>p b g c<|wR s i
|ret w j=>
  refineλb v c e k r f=>p b v c ((wH s).trans s.hr e) k r ?_;cases w with
 |v d=>trivial
 |own m=>obtain⟨a,z1,n⟩:=f;exact⟨a,z1,(wH s).none s.hr n⟩
 |bor m=>exact f
|exc d j=>exactλb c e k=>p b c ((wH s).trans s.hr e) k
|fail=>exact p
end
section
variable{Y:Ge}{F:M.Fx}{X:Cx}{E:XK}{k:Nat}{cf:Cf}
def CL.hide (s:av Y G Z h U H)(c:CL Y ds l vs G H)(a:¬∃i xs,M.Gr Z i=y0 (.j xs)/\U[i]?=y0 (y0<|.j l)):CL Y ds l vs G<|Wl Z U H:=by
 obtain⟨z1,b⟩:=c;refine⟨?_,b.mon<|zy s⟩;obtain⟨z1,d⟩|z1:=z1
 .refine .p ⟨?_,d⟩;obtain z1|⟨o,z1⟩:=z1
  .exact .p<|by rw[jl a];exact z1
  .exact .u ⟨o,by rw[jl a];exact z1⟩
 .exact .u z1
def CL.iL (s:av Y G Z h U H)(a:kG Y G H l vs)(b:ai Y G H ds vs):CL Y ds l vs G<|Wl Z U H:=by
 refine⟨?_,b.mon<|zy s⟩;obtain a|a:=a
 .exact(CL.hide s ⟨.p ⟨a.2,s.j.off a.1⟩,b⟩<|by rintro⟨j,e,d,c⟩;exact(Xv s d c).1 a.1).1
 .exact .u a
def CT.hide (s:av Y G Z h U H)(c:CT Y ds l vs G H):CT Y ds l vs G<|Wl Z U H:=⟨c.1.mon<|zy s,c.2.mon<|zy s⟩
def WF(h:M.GI a=y0 i):a=.var i:=by
 cases a<;>first|(cases h;rfl)|cases h
def Du(h:Jc cf (.var i) e=k9):∃x p,e=.j x p/\cf.N[i]?=y0 x/\fD cf.p x=k9/\dz x=true:=by exact jy (λx p h=>⟨_,_,rfl,ki h⟩) e h
def ng(b:Go Y F X E k cf)(h:Jc cf (.var i) e=k9):PE X e<|nD i:=by obtain⟨x,p,rfl,c,d,a⟩:=Du h;unfold dz at a;rw[Aa9]at a;exact XB (by rw[b.N];exact c) (b.gB x d) (by simpa using a.1)<|by simpa using a.2
def qJ(s:av Y G Z h U H)(e:M.Gr Z i=y0 w)(k:w=.v (.u xs)\/w=.p xs):
 ∃l vs,U[i]?=y0 (y0<|.j l)/\CL Y xs l vs G H/\CL Y xs l vs G (Wl Z U H):=by
 obtain⟨v,f,r⟩:=s.u i w e;obtain rfl|rfl:=k
 .obtain⟨l,vs,rfl,b,a⟩:=r;exact⟨l,vs,f,⟨b.m7 s.j,a⟩,CL.iL s b a⟩
 .obtain⟨l,vs,rfl,b,a,n⟩:=r;have c:CL Y xs l vs G H:=⟨.p ⟨a,b⟩,n⟩;refine⟨l,vs,f,c,c.hide s λ⟨j,o,g,m⟩=>?_⟩;have d:j≠i:=λz=>by rw[z,e]at g;cases g
  exact s.p j i o _ l d g e rfl m f
def WX(e:av Y G0 Z h0 U H0)(s:av Y G Z h U H)(r:au Y G H w v)(f:aK Z U H0 w v)(d:w=.v (.u xs)\/w=.j xs):
 ∃l vs,v=.j l/\CL Y xs l vs G H/\CL Y xs l vs G (Wl Z U H):=by
 obtain rfl|rfl:=d
 .obtain⟨l,vs,rfl,b,a⟩:=r;exact⟨l,vs,rfl,⟨b.m7 s.j,a⟩,CL.iL s b a⟩
 .obtain⟨l,vs,rfl,b,a,n,p⟩:=r;obtain⟨q,k,i⟩:=f;cases k;have c:CL Y xs l vs G H:=⟨.p ⟨.p n,a⟩,p⟩;refine⟨l,vs,rfl,c,c.hide s λ⟨j,t,m,g⟩=>?_⟩;obtain⟨o,z⟩:=e.cR m rfl g;rw[i]at z;cases z
def IU(g:Go Y F X E k cf)(Q:Jc cf a e=k9):PI X tg e<|fZ Y E k9<|M.GD F<|.seq a:=by
 cases q:M.GI a with
|some i=>
  cases WF q;refine PI.imp (oR<|ng g Q) λU H R L=>?_;obtain⟨G,Z,h,s,p⟩:=L;have p:ar Y E G H (M.R.of h _) λy _ o j=>∀J C,wv Y J y C->C o j->(k9=k9->C o _)->R J j:=p;cases A:M.Gr Z i with
 |none=>rw[A]at p;exact p.j
 |some w=>
   rw[A]at p;have lst:∀{b},_->ar Y E G H (.j b h) (λy _ o j=>∀J C,wv Y J y C->C o j->(k9=k9->C o (Wl Z U j))->R J j)→
    ∃v,U[i]?=y0 (y0 v)/\((∃a,v=.j a/\(∃b,bu X.K H a b)/\R (mH X.K a) H)\/(∃a,v=.j a/\(∃b,cC X.K H a b)/\R (k4 X.K a) H)\/∃z,v=.m z/\R (ke z) H):=λ{b} I p=>by
    obtain⟨l,m,t,u,N⟩:=qJ s A I;exact⟨_,t,.p ⟨l,rfl,⟨m,g.K▸u.1.sq⟩,p G H Ext.refl s.j _ _ (CL.walk g.K) u λ_=>N⟩⟩
   cases w with
 |v d=>
    cases d with
   |lst b=>exact lst (.p rfl) p
   |tup b=>obtain⟨v,t,l,m,rfl,B,O⟩:=s.u i _ A;have c:CT Y b l m G H:=⟨B,O⟩;exact⟨_,t,.u<|.p ⟨l,rfl,⟨m,g.K▸B.sq⟩,p G H Ext.refl s.j _ _ (CT.walk g.K) c λ_=>c.hide s⟩⟩
   |aj=>exact p.j
   |bl _=>exact p.j
   |int _=>exact p.j
   |str z=>obtain⟨v,t,r⟩:=s.u i _ A;cases(show v=.m (ay z)from r);exact⟨_,t,.u<|.u ⟨_,rfl,p G H Ext.refl s.j _ _ XD trivial λ_=>trivial⟩⟩
   |ref _=>exact p.j
   |exc _ _=>exact p.j
   |err _ _ _=>exact p.j
 |bor b=>exact lst (.u rfl) p
 |own b=>exact p.j
|none=>
  refine PI.imp (oR (wd a g Q).1) λU H R L=>?_;obtain⟨G,Z,h,s,p⟩:=L;have p:=by unfold M.GD at p;dsimp only at p;rw[q]at p;exact p
  refine wb s.j Ext.refl s p λT v1 V D n P W x K S f=>?_;have lst:∀{b},_->ar Y E G H (.j b V) (λy _ o j=>∀J C,wv Y J y C->C o j->(k9=k9->C o (Wl Z U j))->R J j)→
   ((∃a,v1=.j a/\(∃b,bu X.K n a b)/\R _ n)\/(∃a,v1=.j a/\(∃b,cC X.K n a b)/\R (k4 X.K a) n)\/∃z,v1=.m z/\R (ke z) n):=λ{b} I p=>by
   obtain⟨l,m,t,u,N⟩:=WX s x K S I;exact .p ⟨l,t,⟨m,g.K▸u.1.sq⟩,p D n P x.j _ _ (CL.walk g.K) u λ_=>N⟩
  cases T with
|v d=>
   cases d with
 |lst b=>exact lst (.p rfl) f
 |tup b=>obtain⟨l,m,rfl,B,O⟩:=K;have c:CT Y b l m D n:=⟨B,O⟩;exact .u<|.p ⟨l,rfl,⟨m,g.K▸B.sq⟩,f D n P x.j _ _ (CT.walk g.K) c λ_=>c.hide x⟩
 |aj=>exact f.j
 |bl _=>exact f.j
 |int _=>exact f.j
 |str z=>cases(show v1=.m (ay z)from K);exact .u<|.u ⟨_,rfl,f D n P x.j _ _ XD trivial λ_=>trivial⟩
 |ref _=>exact f.j
 |exc _ _=>exact f.j
 |err _ _ _=>exact f.j
|own b=>exact lst (.u rfl) f
|bor b=>exact f.j
def E4(e:Go Y F X E k cf)(O:bt cf.p "reversed" g=true)(o:jb x=true)(L:Jc cf a x=true):PI X tg (.u g [x] [] pos)<|fZ Y E true<|M.GD F<|.rev a:=by
 obtain⟨W,rfl,K,h3⟩:=Zb O;cases q:M.GI a with
|some i=>
  cases WF q;refine PI.imp (oq (e.w _ K) (e.j _ oY) (Qc (ng e L) xi<|Ja o)<|Ja o) λU H R z=>?_;obtain⟨G,Z,h,s,p⟩:=z;have p:ar Y E G H (M.R.of h _) λn _ j f=>∀J C,wv Y J n C->C j f->(k9=k9->C j _)->R J f:=p;cases B:M.Gr Z i with
 |none=>rw[B]at p;exact p.j
 |some w=>
   rw[B]at p;have lst:∀{b},(w=.v _\/w=.p b)->ar Y E G H (.j b.T h) (λn _ j f=>∀J C,wv Y J n C->C j f->(k9=k9->C j (Wl Z U f))->R J f)→
    ∃v,U[i]?=y0 (y0 v)/\∃a b,[v]=[.j a]/\bu X.K H a b/\R (nq X.K a b.e) H:=λ{b} r p=>by
    obtain⟨l,u,y,m,A⟩:=qJ s B r;exact⟨_,y,l,u,rfl,e.K▸m.1.sq,p G H Ext.refl s.j _ _ (CL.gq e.K) m λ_=>A⟩
   cases w with
 |v d=>
    cases d with
   |lst b=>exact lst (.p rfl) p
   |tup _=>exact p.j
   |aj=>exact p.j
   |bl _=>exact p.j
   |int _=>exact p.j
   |str _=>exact p.j
   |ref _=>exact p.j
   |exc _ _=>exact p.j
   |err _ _ _=>exact p.j
 |bor b=>exact lst (.u rfl) p
 |own b=>exact p.j
|none=>
  refine PI.imp (oq (e.w _ K) (e.j _ oY) (Qc (wd a e L).1 xi<|Ja o)<|Ja o) λU H R z=>?_;obtain⟨G,Z,h,s,p⟩:=z;have p:=by unfold M.GD at p;dsimp only at p;rw[q]at p;exact p
  refine wb s.j Ext.refl s p λt v1 T Q D S V I P N c=>?_;have lst:∀{b},(t=.v _\/t=.j b)->ar Y E G H (.j b.T T) (λn _ j f=>∀J C,wv Y J n C->C j f->(k9=k9->C j (Wl Z U f))->R J f)→
   ∃a b,[v1]=[.j a]/\bu X.K D a b/\R _ D:=λ{b} r p=>by
   obtain⟨l,u,y,m,A⟩:=WX s I P N r;exact⟨l,u,by rw[y],e.K▸m.1.sq,p Q D S I.j _ _ (CL.gq e.K) m λ_=>A⟩
  cases t with
|v d=>
   cases d with
 |lst b=>exact lst (.p rfl) c
 |tup _=>exact c.j
 |aj=>exact c.j
 |bl _=>exact c.j
 |int _=>exact c.j
 |str _=>exact c.j
 |ref _=>exact c.j
 |exc _ _=>exact c.j
 |err _ _ _=>exact c.j
|own b=>exact lst (.u rfl) c
|bor b=>exact c.j
theorem ZD:∀(ds)(i),(M.GY i ds).e=ds.e
|[],_=>rfl
|d::ds,i=>congrArg (·+1)<|ZD ds<|i+1
theorem X6:∀(ds)(j i)(h:i<ds.e),(M.GY j ds)[i]?=y0 (.p [.o ((j+i:Nat):Int),ds[i]])
|d::ds,j,0,_=>rfl
|d::ds,j,i+1,h=>by have:=X6 ds (j+1) i (by simpa using h);rw[show j+1+i=j+(i+1)by lia]at this;simpa[M.GY]using this
def NQ:"enumerate"∈b5:=by decide
def CL.lZ {l:Addr}{vs:List V}{K:Aa5}(f:K=Y.K):wv Y (rQ K l) (M.GY 0 ds)<|CL Y ds l vs where
 go:=by rintro i G H ⟨z1,c⟩ b;rw[ZD]at b;obtain⟨v,e,_⟩:=c.get<|Aa7 b;exact⟨vs,v,f▸z1.sq,e⟩
 fM:=by rintro i G H x j ⟨z1,c⟩ b ⟨p,y,d,ex,m,s⟩;rw[ZD]at b;subst ex m;obtain⟨v,e,rd⟩:=c.get<|Aa7 b;have:=s vs<|f▸z1.sq;rw[e]at this;cases this;refine⟨G.more p,Wg _ d,λh g=>g.fE _ d,.p [.o i,ds[i]],by rw[X6 ds 0 i b,An8],⟨p,[.o i,y],rfl,.p ⟨.u rfl,Wa⟩,⟨.o i,[y],rfl,rfl,⟨y,[],rfl,?_,rfl⟩⟩⟩⟩;have n:Mon G H (G.more p)<|aG H p<|.tup [.o i,y]:=⟨λa o u q=>by rw[Qa<|Qb q d];exact q,Aa4 _,λ_ _=>rfl,λ_ z=>Or.inl z⟩;exact rd.mon n
 stop:=by rintro i G H ⟨z1,c⟩ r k;rw[ZD]at r k;exact⟨vs,f▸z1.sq,by rw[←c.length];lia⟩
 keep:=λG H t j h z e g=>z.keep e g
def BD(b:Go Y F X E k cf)(j:bt cf.p "enumerate" g=true)(d:jb x=true)(v:Jc cf (.var i) x=true):PI X (.G elts x1 tp) (.u g [x] [] pos)<|fZ Y E true<|M.GD F<|.cM i:=by
 obtain⟨y,rfl,r,z⟩:=Zb j;refine PI.imp (BK (b.w _ r) (b.j _ NQ) (Qc (ng b v) xi<|Ja d)<|Ja d) λU H R o=>?_;obtain⟨G,Z,h,s,p⟩:=o;have p:=p;obtain⟨e,q,p⟩:=p.of;obtain⟨w,u,a⟩:=Ad2.j q;have f:w=.v (.u e)\/w=.p e:=by
  unfold M.yE at a;split at a
  .cases a;exact .p rfl
  .cases a;exact .u rfl
  .cases a
 obtain⟨l,m,n,c,t⟩:=qJ s u f;exact⟨_,n,l,m,rfl,b.K▸c.1.sq,p G H Ext.refl s.j _ _ (CL.lZ b.K) c λ_=>t⟩
def IY(c:Go Y F X E k cf)(q:pk it tg=k9)(h:oG cf it e=k9):PI X tg e (fZ Y E k9<|M.GD F it)/\ji e=true:=by
 cases it with
|seq a=>exact⟨IU c (a2 h).2,(a2 h).1⟩
|aQ a=>refine zi (λg x l p h=>?_) e h;refine kE (λh=>?_) l h;refine kC (λx r h=>?_) x h;refine kE (λh=>?_) r h;obtain⟨f,d,j⟩:=a3 h;exact⟨wF c f d (wd a c j).1,rfl⟩
|b6 a b=>refine zi (λg x l p h=>?_) e h;refine kE (λh=>?_) l h;refine kC (λx r h=>?_) x h;refine kC (λy r h=>?_) r h;refine kE (λh=>?_) r h;obtain⟨f,d,j,o,n⟩:=a5 h;exact⟨JG c f d j (wd a c o).1 (wd b c n).1,rfl⟩
|rev a=>refine zi (λg x l p h=>?_) e h;refine kE (λh=>?_) l h;refine kC (λx r h=>?_) x h;refine kE (λh=>?_) r h;obtain⟨f,d,j⟩:=a3 h;exact⟨E4 c f d j,rfl⟩
|di _=>exact aW h
|cM i=>
  cases tg with
 |Tuple m t s=>refine zi (λg x l p h=>?_) e h;refine kE (λh=>?_) l h;refine kC (λx r h=>?_) x h;refine kE (λh=>?_) r h;obtain⟨f,d,j⟩:=a3 h;exact⟨BD c f d j,rfl⟩
 |_=>exact aW q
|enum _=>exact aW h
end
section
variable{Y:Ge}{G G0:Gh}{H H0:Hp}{h:M.AH}
noncomputable def Gh.cut (G:Gh)(n:Nat):Gh:={G with n:=n}
mutual
theorem az.cut (n:Nat):∀{d:M.D}{v:V},M.Gp d=k9->az Y G H d v->az Y (G.cut n) H d v
|.L,_,_,z=>z
|.C _,_,_,z=>z
|.o _,_,_,z=>z
|.m _,_,_,z=>z
|.p _,_,q,z7=>by obtain⟨a,vs,z1,z2,z3⟩:=z7;exact⟨a,vs,z1,z2,ai.eS n (by simpa[M.Gp]using q) z3⟩
|.u _,_,q,z7=>by obtain⟨a,vs,z1,z2,z3⟩:=z7;exact⟨a,vs,z1,z2,ai.eS n (by simpa[M.Gp]using q) z3⟩
|.j r,_,q,_=>by simp[M.Gp]at q
|.w c fs,_,q,z=>by simp[M.Gp]at q
|.y c f d,_,q,z=>by simp[M.Gp]at q
theorem ai.eS (n:Nat):∀{ds:List M.D}{vs:List V},M.Gi ds=k9->ai Y G H ds vs->ai Y (G.cut n) H ds vs
|[],_,_,z=>z
|d::ds,_,q,z7=>by
  obtain⟨v,r,z1,z2,z3⟩:=z7;have q':M.Gp d=k9/\M.Gi ds=true:=by simpa[M.Gi]using q
  exact⟨v,r,z1,az.cut n q'.1 z2,ai.eS n q'.2 z3⟩
end
theorem ak.cut (r:ak Y G h H)(f:n<=G.n)(k:M.GE (h.A n)=k9):ak Y (G.cut n) (h.A n) H where
 len:=by rw[Ae4,r.p];exact Ak4 f
 any:=λi c e=>by
  have o:i<n:=by have:=(Ac1.j e).1;rw[Ae4]at this;lia
  have s:=Ad6.j k c<|Aj9 e;rw[Pz o]at e;obtain⟨z1,g⟩:=r.G i c e;refine⟨z1,?_⟩;cases c with
|lst t=>obtain⟨z0,l,a,b⟩:=g;exact⟨z0,l,a,ai.eS n z0 b⟩
|kv u=>obtain⟨z0,d,a,b⟩:=g;exact⟨z0,d,a,ai.eS n z0 b⟩
|obj c fs=>obtain⟨p,d,a,b⟩:=g;exact⟨p,d,a,ai.eS n s b⟩
 inj:=λi j q m e=>r.inj i j (Ab5 q f) (Ab5 m f) e
 live:=r.live
theorem Ext.cut (e:Ext G0 H0 G H):Ext G0 H0 (G.cut G0.n) H:=⟨e.j,Aa4 _,e.aP,λr b a=>absurd b<|An5.p a,e.fz,e.old,e.u⟩
theorem au.cut (n)(f:n<=G.n)(q:w.keep=k9)(c:∀xs,w≠.p xs)(z:au Y G H w v):au Y (G.cut n) H w v:=by
 cases w with
|v d=>exact az.cut n q z
|own xs=>obtain⟨a,g,z1,h,b,e,j⟩:=z;exact⟨a,g,z1,h,λr i=>b r<|Ab5 i f,e,ai.eS n q j⟩
|bor xs=>exact absurd rfl<|c xs
end
section
open Lake renaming MS.Ext.trans->Lake.MS.Ext.x
variable{Y:Ge}{F:M.Fx}{X:Cx}{E:XK}{k:Nat}{cf:Cf}
def Lj(e:Go Y F X E k cf)(d:jv v=k9)(h:Jc cf m v=k9):PS X (.Expr v pos)<|cE Y E<|M.exec F<|.ex m:=by refine PS.imp (X5 (wd m e h).1<|Wi d) λD U H c=>?_;obtain⟨B,G,Z,h,s,p⟩:=c;exact Qh s p λw v n b g l a j i f=>f b U g a
def HX(s:ba Y B G Z h U H)(f:aK Z U H w v)(b:∀xs,w≠.p xs):aK [] [] B.H w v:=by
 cases w with
|v d=>trivial
|own xs=>obtain⟨a,z1,c⟩:=f;exact⟨a,z1,s.K.none s.hr c⟩
|bor xs=>exact absurd rfl<|b xs
def K1(o:Go Y F X E k cf)(h:Jc cf m v=k9):PS X (.Return (y0 v) pos)<|cE Y E<|M.exec F<|.ret m:=by
 cases q:M.GI m with
|some i=>
  cases WF q;refine PS.imp (uc<|ng o h) λD U H f=>?_;obtain⟨B,G,Z,h,s,p⟩:=f;rw[M.exec,q]at p;dsimp only at p;cases e:M.Gr Z i with
 |none=>rw[e]at p;exact p.j
 |some w=>
   rw[e]at p;obtain⟨v,n,r⟩:=s.p.u i w e;refine⟨v,n,?_⟩;cases w with
 |bor b=>exact p.j
 |v d=>exact p G v H s.K s.p.j r trivial
 |own b=>have x:=r;obtain⟨a,y,rfl,_⟩:=x;exact p G _ H s.K s.p.j r ⟨a,rfl,s.j i b a e n⟩
|none=>
  refine PS.imp (uc (wd m o h).1) λD U H f=>?_;obtain⟨B,G,Z,h,s,p⟩:=f;have p:aS Y E B ((M.eval F m Z h).c5 λw h=>match w with
|.p _=>.u
|w=>.ret w h) D:=by
   rw[M.exec,q]at p;exact p
  refine Qh s p λw v C l t A c j u g=>?_;cases w with
|bor b=>exact g.j
|v d=>exact g l v t c.K c.p.j j trivial
|own b=>exact g l v t c.K c.p.j j<|HX s u λb z=>by cases z
def LY(k:PT X x<|c9 Y E<|M.Gg F c)(j:cV X ys<|cE Y E<|M.execs F a)(l:cV X zs<|cE Y E<|M.execs F b):PS X (.If x ys zs pos)<|cE Y E<|M.exec F<|.iff c a b:=by
 refine PS.imp (Hr k j l) λD U H i=>?_;obtain⟨B,G,Z,h,s,p⟩:=i;refine X8 s p λt f e n m d g=>?_;cases t with
|true=>exact pG ⟨B,e,Z,f,d,g⟩
|false=>exact rB ⟨B,e,Z,f,d,g⟩
def KS{st:Stmt}(h1:PS X st<|cE Y E<|M.exec F s)(h2:cV X sts<|cE Y E<|M.execs F ss):cV X (st::sts)<|cE Y E<|M.execs F<|.cons s ss:=by
 refine cV.imp (Nk h1 h2) λD U H e=>?_;obtain⟨B,G,Z,h,g,p⟩:=e;rw[M.execs]at p;refine⟨B,G,Z,h,g,?_⟩;cases q:M.exec F s Z h with
|next b a=>rw[q]at p;exactλc i j f=>⟨B,c,b,a,f,p⟩
|ret w a=>rw[q]at p;exact p
|brk b a=>rw[q]at p;exact p
|cont b a=>rw[q]at p;exact p
|exc d a=>rw[q]at p;exact p
|fail=>rw[q]at p;exact p
def L4:cV X []<|cE Y E<|M.execs F .nil:=cV.imp DN<|by rintro D U H⟨B,G,Z,h,s,p⟩;exact p G U H s
def Eg(C:fb Y F X E k cf)(I:PT X x<|c9 Y E<|M.Gg F c)(J:cV X ys<|cE Y E<|M.execs F b):PS X (.While x ys [] pos)<|cE Y E<|M.exec F<|.e8 n c b:=by
 refine PS.imp (Fq C.hQ I J) λD U H A=>?_;obtain⟨B,G,Z,h,s,p⟩:=A;refine⟨λm U H=>∃G Z h,ba Y B G Z h U H/\aS Y E B (M.Gx (λZ h=>M.Gg F c Z h) (λZ h=>M.execs F b Z h) m Z h) D,⟨n,G,Z,h,s,p⟩,?_⟩;rintro m U H ⟨G,Z,h,s,p⟩;cases m with
|zero=>exact p.j
|succ m=>
  refine X8 s p λt r y K L v a=>?_;cases t with
|false=>exact rB<|a y U K v
|true=>
   refine pG ⟨_,λu z w=>⟨m,Ae9 _,w⟩,B,y,Z,r,v,?_⟩;have a:aS Y E B (match M.execs F b Z r with
|.p g f=>M.Gx (λZ h=>M.Gg F c Z h) (λZ h=>M.execs F b Z h) m g f
|.cont g f=>M.Gx (λZ h=>M.Gg F c Z h) (λZ h=>M.execs F b Z h) m g f
|.brk g f=>.p g f
|o=>o) D:=a
   cases q:M.execs F b Z r with
|next i e=>rw[q]at a;exactλj u z l=>⟨j,i,e,l,a⟩
|cont i e=>rw[q]at a;exactλj u z l=>⟨j,i,e,l,a⟩
|ret w e=>rw[q]at a;exact a
|brk i e=>rw[q]at a;exact a
|exc d e=>rw[q]at a;exact a
|fail=>rw[q]at a;exact a
def DU(z:fb Y F X E k cf)(he:(cf.cb&&pk it t)=k9)(ht:Xg cf tg one t=k9)(hi:oG cf it iter=k9)(hb:cV X ys<|cE Y E<|M.execs F b):
 PS X (.For t iter ys [] pos)<|cE Y E<|M.exec F<|.for tg one it b:=by
 obtain⟨li,ls⟩:=IY z.toGo (a2 he).2 hi;refine PS.imp (El z.hQ (z.G (a2 he).1) li (Ww z.toGo ht) hb<|W1 ls) λD U H qq=>?_;obtain⟨B,G,Z,h,s,p⟩:=qq;rw[M.exec]at p;refine⟨G,Z,h,s.p,?_⟩;cases q:M.GD F it Z h with
|exc d h1=>rw[q]at p;exact aS.exc s p
|fail=>rw[q]at p;exact p
|ok j h1=>
  rw[q]at p;intro G1 H1 e hr J C v c0 K;have V:=s.on e hr;have p1:=BC V p;have cB:=K rfl;have s2:=IF V;refine⟨λi m A u=>∃n y r,(m=j.e-i/\i<=j.e)/\ba Y _ n y r A u/\aS Y E _ (M.GA _ (λZ h=>M.execs F b Z h) (j.J i) y r) D,
   ⟨j.e,G1,Z,h1,⟨by simp,Af0 _⟩,s2,p1⟩,?_⟩
  rintro i m A u ⟨n,y,r,⟨rfl,hi'⟩,l,a⟩;have T:=v.keep _ _ _ _ _ cB l.K l.hr;by_cases g:i<j.e
  .refine .u ⟨v.go i n u T g,_,λU2 H2 w=>⟨j.e-(i+1),(Pg ‹_›<|Ae9 _),w⟩,λx L hy=>?_⟩;obtain⟨G4,x4,N,d,W,I⟩:=v.fM i n u x L T g hy;have l:=l.on x4<|N _ l.p.j;have P:j.J i=d::j.J (i+1):=by rw[Ae8 g];rw[Aa7 g]at W;cases W;rfl
   rw[P,M.GA]at a;cases S:M.GC tg one d y with
|none=>rw[S]at a;exact a.j
|some R=>
    rw[S]at a;refine sy S I l λU2 s3=>⟨_,G4,R,r,s3,?_⟩;have a:aS Y E _ (match M.execs F b R r with
|.p f c=>M.GA _ (λZ h=>M.execs F b Z h) _ f c
|.cont f c=>M.GA _ (λZ h=>M.execs F b Z h) _ f c
|.brk f c=>.p f c
|o=>o) D:=a
    cases q:M.execs F b R r with
|next f c=>rw[q]at a;exactλQ U3 H3 O=>⟨Q,f,c,⟨rfl,by lia⟩,O,a⟩
|cont f c=>rw[q]at a;exactλQ U3 H3 O=>⟨Q,f,c,⟨rfl,by lia⟩,O,a⟩
|ret w c=>rw[q]at a;exact a
|brk f c=>rw[q]at a;exact a
|exc d c=>rw[q]at a;exact a
|fail=>rw[q]at a;exact a
  .have ei:i=j.e:=by lia
   subst ei;rw[Su]at a;exact .p ⟨v.stop _ n u T (Aa4 _)<|Aa4 _,a n A u l⟩
theorem qM:∀{es}{xs}{Z}{h}{ds}{h'},aT cf es xs=k9->M.Gn F es Z h=.j ds h'->ds.e=xs.e
|.p,xs,_,_,_,_,c,e=>by cases Ae5.j c;rw[M.Gn]at e;cases e;rfl
|.j a es,xs,Z,h,ds,h',c,e=>by refine kC (λx r c=>?_) xs c;obtain⟨w,d,g,e⟩:=jf e;obtain⟨r,f,b,e⟩:=jf e;cases e;rw[Ab1,Ab1,qM (a2 c).2 b]
theorem xN:∀(Z)(i j),M.Gr (Z.B i u0) j=if j=i then u0 else M.Gr Z j
|[],i,j=>by simp
|x::r,0,0=>by simp
|x::r,0,j+1=>by simp
|x::r,i+1,0=>by simp
|x::r,i+1,j+1=>by simpa using xN r i j
def ba.clear (s:ba Y B G Z h U H):ba Y B G (Z.B i u0) h (U.B i u0) H:=by
 have ne:∀{j w},M.Gr _ j=y0 w->j≠i/\M.Gr Z j=y0 w:=λ{j w} e=>by
  rw[xN]at e;split at e
  .cases e
  .rename_i b;exact⟨b,e⟩
 have f:∀{j},j≠i->(U.B i u0)[j]?=U[j]?:=λ{j} b=>Ad1<|Ne.symm b;refine⟨⟨by rw[Ad0,Ad0];exact s.p.len,λj w e=>?_,λp q k w a g c d m l=>?_,s.p.j⟩,s.K,s.hr,λj k a c d=>?_⟩
 .obtain⟨b,e⟩:=ne e;obtain⟨v,z1,r⟩:=s.p.u j w e;exact⟨v,by rw[f b];exact z1,r⟩
 .obtain⟨n,c⟩:=ne c;obtain⟨o,d⟩:=ne d;rw[f n]at l;rw[f o];exact s.p.p p q k w a g c d m l
 .obtain⟨b,c⟩:=ne c;rw[f b]at d;exact s.j j k a c d
def Bx(b:fb Y F X E k cf)(j:bt cf.p c g=k9)(f:(cf.cb&&cf.gi.p c)=k9)(i:(x::xs).e<=1000)(a:aT cf es (x::xs)=k9):
 PS X (.p (y0<|.u g (x::xs) [] cpos) u0 pos)<|cE Y E<|M.exec F<|.raise c es:=by
 obtain⟨z,rfl,n,v⟩:=Zb j;obtain⟨t,y⟩:=b.gi c (a2 f).1 (a2 f).2 n v;refine PS.imp (y _ _ _ _ _ _ (cw es b.toGo a)<|Zc a) λD U H m=>?_;obtain⟨B,G,Z,h,s,p⟩:=m;rw[M.exec]at p;refine⟨G,Z,h,s.p,?_⟩;cases q:M.Gn F es Z h with
|exc d u=>rw[q]at p;exact aS.exc s p
|fail=>rw[q]at p;exact p
|ok C u=>rw[q]at p;intro l w e o A r;refine⟨?_,(p l w (s.K.x s.hr e) o).1 c rfl t⟩;rw[←r.length,qM a q];exact Ag2<|qp i
def NU(i:fb Y F X E k cf)(n:bt cf.p c g=k9)(l:(cf.cb&&cf.w.er.p (c,f))=k9)(m:aT cf (.j e .p) [x]=k9):
 PS X (.p (y0<|.u g [x] [] cpos) u0 pos)<|cE Y E<|M.exec F<|.bC c f e:=by
 obtain⟨J,rfl,t,C⟩:=Zb n;obtain⟨y,z,I⟩:=i.lb c f (a2 l).1 (a2 l).2 t C;refine PS.imp (I _ _ _ _ _ (iC _ i.toGo m)<|Zc m _ Aa) λD U H o=>?_;obtain⟨B,G,Z,h,s,p⟩:=o;rw[M.exec]at p;refine⟨G,Z,h,s.p,?_⟩;cases q:M.Gk F _ Z h with
|exc d A=>rw[q]at p;exact aS.exc s p
|fail=>rw[q]at p;exact p
|ok b A=>
  rw[q]at p;intro L O u j N r;cases b with
|nil=>exact p.j
|cons d b=>
   cases b with
|cons _ _=>exact p.j
|nil=>obtain⟨v,K,rfl,rd,rfl⟩:=r;refine⟨v,rfl,λw a=>?_⟩;exact(p _ _ ((s.K.x s.hr u).x s.hr<|Wg _ a)<|j.fE _ a).2.1 c f d rfl y z w v (.u rfl) Wa<|rd.ext (Wg _ a) j
def qX(a:dO Y c)(d:w∈Y.own)(b:(M.GS Y.cl 8 c).p w=k9):PySem.W.kitCls Y.K (.j<|Y.j c) (.j<|Y.j w)=y0 true:=by
 have h:=a.own w d;rw[b]at h;unfold Am at h;split at h
 .rename_i e;have e:=by simpa using e
  rw[←e];exact a.k.slf
 .exact h
theorem Go.eH (a:Go Y F X E k cf):Go Y F X.eH E0 k cf:=⟨a.N,a.K,a.cl,a.ow,a.nd,a.gB,a.iV,a.iz,a.kb,a.w,a.G,a.u,a.cv,λn U H s e u _ o=>by
 obtain⟨x,q,t,B,r,_,_,_,_,_,_,_,_,_,_,p⟩:=o;exact p.j,a.j,a.con,λf m=>by
 obtain⟨b,g,c,j,d,l,i⟩:=(a.fn f m).imp λb h=>h.ex;exact⟨b,⟨g,c,j,d,l,i⟩⟩,λf m=>by
 obtain⟨b,g,c,j,d,l,i⟩:=(a.lB f m).imp λb h=>h.ex;exact⟨b,⟨g,c,j,d,l,i⟩⟩,a.cls,a.fld,a.iF,a.eP⟩
theorem PS.eH {st:Stmt}(h:PS X.eH st t):PS X st t:=λa s U H D I q=>Om (h a s U H D (I.cu _) q) (λ_ _ z=>SP.bS z) λ_ _ z=>False.elim z
def cg.imp {st:Stmt}(h:cg X wx n v wq vp np ap hp st t)(k:∀D U H,t' D U H->t D U H):cg X wx n v wq vp np ap hp st t':=λa s U H D c I q b=>h a s U H D c I (k _ _ _ q) b
abbrev pa(K:Aa5)(W:Addr)(nm c:Nat)(D:gK)(U:St):XK:=λa b H2=>∃C,a=.j C/\hH K C/\PySem.W.kitCls K (.j C) (.j W)=y0 k9/\∀x,H2 x=u0->D.nx (((U.B nm<|y0<|.j x).B c<|y0<|.j x).B nm u0) (aG H2 x<|fS x C b)
def NS(H:fb Y F X E k cf)(Q:cf.j.p c=k9)(L:ba Y B G1 Z h1 U H1)(G:Ext G1 H1 G2 H2)(o:ak Y G2 h2 H2)
 (p:aS Y E B (match M.b9 F.cl (.v<|M.f9 d) [c]with
|some true=>.p ((M.GF (M.GF Z nm<|.v<|M.f9 d) iv<|.v<|M.f9 d).B nm u0)<|M.GT (M.f9 d) h1.e h2
|_=>.u) D):n8 Y (pa X.eH.K (Y.j c) nm iv D U) d G2 H2:=by
 have m:∀b C,M.b9 F.cl _ [c]=y0 ([c].G (M.GS F.cl 8 b).p)->dO Y b->(∃i,Ext G1 H1 i H2/\ak Y i (M.GT (M.f9 d) h1.e h2) H2/\∀y,H2 y=u0->az Y (i.more y) (aG H2 y<|fS y (Y.j b) C) (M.f9 d) (.j y))→
  pa X.eH.K _ nm iv D U _ C H2:=λb C ix f ⟨i,A,e,J⟩=>by
  rw[ix]at p;cases I:[c].G (M.GS F.cl 8 b).p with
|false=>rw[I]at p;exact p.j
|true=>
   rw[I]at p;have R:(M.GS Y.cl 8 b).p c=true:=by rw[←H.cl];simpa using I
   refine⟨_,rfl,H.K▸f.k,H.K▸qX f (by rw[←H.ow];exact Ad8.j Q) R,λy j=>?_⟩;have P:=(L.on A e).on (Wg _ j)<|e.fE (fS y (Y.j b) C) j;have rd:=J y j;exact p _ _ _ ((P.dI rd).dI rd).clear
 have K:=L.p.j.p;have N:∀d,M.GO d=k9->∃i,Ext G1 H1 i H2/\ak Y i (M.GT d h1.e h2) H2/\(∀a,G2.p a->i.p a)/\∀{g}{v},M.Gp g=k9->az Y G2 H2 g v->az Y i H2 g v:=λd T=>by
  unfold M.GT;rw[T,Ak0];cases S:M.GE (h2.A h1.e)with
|true=>exact⟨_,K▸G.cut,o.cut (by rw[K];exact G.le) S,λ_ h=>h,λq z=>az.cut _ q z⟩
|false=>exact⟨G2,G,o,λ_ h=>h,λ_ z=>z⟩
 have O:∀b r g n u l,M.f9 d=.y b r g->dO Y b->hF Y.K _ _->G2.p n->H2 n=y0 _->az Y G2 H2 g u->pa X.eH.K _ nm iv D U _ _ H2:=λb r g n u l t f x z1 s w=>by
  rw[t]at m;cases q:M.Gp g with
|true=>obtain⟨i,A,e,fz,V⟩:=N (.y b r g) q;exact m b _ rfl f ⟨_,A,e,λy j=>⟨y,n,u,rfl,.u rfl,.p<|fz _ z1,Wa,⟨l,by rw[Qa<|Qb s j];exact s⟩,f,x,(V q w).ext (Wg _ j) e⟩⟩
|false=>exact m b _ rfl f ⟨G2,G,by rw[M.GT,show M.GO (.y b r g)=u9 from q,Rp,Fk Ab0];exact o,λy j=>⟨y,n,u,rfl,.u rfl,.p z1,Wa,⟨l,by rw[Qa<|Qb s j];exact s⟩,f,x,w.ext (Wg _ j) o⟩⟩
 refine⟨λb t f=>?_,λb r g t f x n u z1 s w=>O b r g n u [] (by rw[t];rfl) f x z1 s w,λb r g t f x n u z1 s w=>O b r g n u _ (by rw[t];rfl) f x z1 s w⟩;subst t;obtain⟨i,A,e,-,-⟩:=N (.w b []) rfl;exact m b u0 rfl f ⟨_,A,e,λy j=>.p ⟨rfl,y,rfl,.u rfl,Wa,f⟩⟩
def Fj(b:fb Y F X E k cf)(Q:bt cf.p f g=k9)(hf:cf.u.p f=k9)(r:aT cf es (x::xs)=k9)
 (N:bt cf.p c (.j (Qd c) p1)=k9)(hc:cf.dX.p c=k9)(ha:Xs cf i a=k9)(hn:Xs cf nm n=k9)(l:dz n=k9)(O:Xs cf iv v=k9):
 cg X.eH (Qd c) n v p1 vp np ap hp (.j [.j a gp] (.u g (x::xs) [] cp) aq)<|cE Y E λZ h=>M.Kn F.j F.cl (y0 i) f c nm iv Z<|M.Gn F es Z h:=by
 obtain⟨p0,rfl,w,h3⟩:=Zb Q;obtain⟨_,_,h4,S⟩:=Zb N;obtain⟨ps,fa,fd,y,P,R,W⟩:=(b.fn f hf).imp λps h=>h.ex;obtain⟨hb,K,_⟩:=b.dX c hc;obtain⟨a1,a2⟩:=zz ha;obtain⟨L,n2⟩:=zz hn;obtain⟨v1,v2⟩:=zz O;have o:=Zc r;unfold dz at l;rw[Aa9]at l
 refine cg.imp (Fv (λ_ _ z=>z) b.fW b.lL b.ex y b.u (b.w _ w) W R P (cw es b.toGo.eH r) (b.w _ h4) (b.cls c K) hb (by show X.N.C;rw[b.N];exact b.nd) (by show X.N[i]?=_;rw[b.N];exact a1) (b.iV a a2) (by show X.N[nm]?=_;rw[b.N];exact L) (b.iV n n2) (by show X.N[iv]?=_;rw[b.N];exact v1) (b.iV v v2)
  (Wi rfl) (Wi rfl) h3 S (by simpa using l.1) (Ja<|o _ Aa)<|Zh λe r=>o e<|Aa0 _ r) λD U H ⟨B,G,Z,h,s,p⟩=>?_
 refine⟨G,Z,h,s.p,?_⟩;dsimp only at p;cases q:M.Gn F es Z h with
|exc d A=>rw[q]at p;exact p.j
|fail=>rw[q]at p;exact p.j
|ok ws A=>
  rw[q]at p;intro V H1 e1 m vs T;have C:=s.on e1 m;refine⟨V,A,_,m,Wn T,Zl ws,?_⟩;unfold M.Kn at p;dsimp only at p;cases u:F.j f _ A with
|fail=>rw[u]at p;exact p.j
|ok w' w=>
   rw[u]at p;intro I J t j v' rv _;cases w' with
 |own _=>exact p.j
 |bor _=>exact p.j
 |v d=>exact p I _ J<|(C.on t j).dI rv
|exc d w=>rw[u]at p;exactλI J t j=>NS b K C t j p
def HK(h:oD cf c nm iv hs=k9):∃w n v O V L M,hs=[.j (y0 w) (y0 n) [.j [.j v O] (.j n V) L] M]/\bt cf.p c w=k9/\cf.dX.p c=k9/\Xs cf nm n=k9/\dz n=k9/\Xs cf iv v=true:=by refine kC (λx r h=>?_) hs h;refine kE (λh=>?_) r h;refine yf (λw n b p h=>?_) x h;refine kS (λw h=>?_) w h;refine kS (λn h=>?_) n h;refine kC (λa r h=>?_) b h;refine kE (λh=>?_) r h;refine iA (λg y p h=>?_) a h;refine kC (λt r h=>?_) g h;refine kE (λh=>?_) r h;refine jy (λv p h=>?_) t h;refine jy (λl p h=>?_) y h;obtain⟨j,e,k,i,d⟩:=a5 h;obtain⟨d,f⟩:=a2 d;cases FB k;exact⟨_,_,_,_,_,_,_,rfl,j,e,i,d,f⟩
def K4(h:rm cf i f ys q=k9):∃a g x xs M O L,ys=[.j [.j a M] (.u g (x::xs) [] O) L]/\Xs cf i a=k9/\bt cf.p f g=k9/\cf.u.p f=k9/\q (x::xs)=true:=by refine kC (λs r h=>?_) ys h;refine kE (λh=>?_) r h;refine iA (λb e p h=>?_) s h;refine kC (λt r h=>?_) b h;refine kE (λh=>?_) r h;refine jy (λa p h=>?_) t h;refine zi (λg xs l p h=>?_) e h;refine kE (λh=>?_) l h;refine kC (λx r h=>?_) xs h;exact⟨_,_,_,_,_,_,_,rfl,a4 h⟩
theorem fb.fN (a:fb Y F X E k cf)(y:2<=k)(x:Addr):fb Y F (X.eH.fN x) E0 2 {cf with toCg:=cf.toCg.q} where
 N:=a.N
 K:=a.K
 cl:=a.cl
 ow:=a.ow
 nd:=a.nd
 gB:=a.gB
 iV:=a.iV
 iz:=a.iz
 kb:=a.kb
 gl:=a.w
 calm:=λz=>nomatch z
 room:=⟨λq=>absurd q YA,by have:=a.cv.dp;show X.A.depth+2+5<_;lia,by have:=a.cv.un;show X.A.u+16*2+200<_;lia⟩
 cv:=⟨λq=>absurd q YA,by have:=a.cv.dp;show X.A.depth+3+5<_;lia,by have:=a.cv.un;show X.A.u+16*3+200<_;lia⟩
 pass:=λd U H s e A _ n=>by obtain⟨x,v,t,B,w,_,_,_,_,_,_,_,_,_,_,u⟩:=n;exact u.j
 blt:=a.j
 con:=a.con
 fn:=λf b=>by obtain⟨g,l,i,p,j,r,o⟩:=(a.lB f b).imp λg h=>h.ex;exact⟨g,⟨l,i,p,j,r,o⟩⟩
 lB:=λf b=>aW b
 cls:=a.cls
 fld:=a.fld
 iF:=λc m q h=>aW h
 eP:=λc q h=>aW h
 hQ:=PassesOwn.never
 pat:=λ_=>PassesOwnAt.never
 rb:=λc f z=>nomatch z
 pQ:=λz=>nomatch z
 rf:=λf z=>aW z
 fW:=a.fW
 lL:=a.lL
 ex:=a.ex
 gi:=λc z=>nomatch z
 lb:=λc f z=>nomatch z
 dX:=λc z=>aW z
def M9(n:fb Y F X E k cf)(R:cf.j.p c=k9)(t:dO Y k2)(o:hF Y.K (Y.j k2)<|Qd fl)(H:ba Y B G1 Z h1 U H1)(w:Ext G1 H1 G2 H2)(j:ak Y G2 h2 H2)
 (p:aS Y E B (M.Kx F.cl c k2 fl d<|M.Gk F (.j m .p) Z<|M.GT d h1.e h2) D):n8 Y (eW X.K (Y.j c) (Y.j k2) (Qd fl) E (gU Y E0<|M.Gk F<|.j m .p) U) d G2 H2:=by
 unfold M.Kx at p;have g:∀a s,M.b9 F.cl _ [c]=y0 ([c].G (M.GS F.cl 8 a).p)->dO Y a->nI s H2->(∃e,Ext G1 H1 e H2/\ak Y e (M.GT d h1.e h2) H2)→
  eW X.K _ _ _ E (gU Y E0<|M.Gk F _) U _ s H2:=λa s ix f O ⟨e,N,C⟩=>by
  rw[ix]at p;cases x:[c].G (M.GS F.cl 8 a).p with
|false=>rw[x]at p;exact p.j
|true=>
   rw[x]at p;have S:(M.GS Y.cl 8 a).p c=true:=by rw[←n.cl];simpa using x
   refine⟨_,rfl,n.K▸f.k,n.K▸qX f (by rw[←n.ow];exact Ad8.j R) S,O,?_⟩;have l:=H.on N C;refine⟨e,Z,_,l.p,?_⟩;cases q:M.Gk F _ Z (M.GT d h1.e h2)with
|fail=>rw[q]at p;exact p.j
|exc K P=>rw[q]at p;exact p.j
|ok A P=>
    rw[q]at p;intro G4 H4 L h W r;cases A with
|nil=>exact p.j
|cons y A=>
     cases A with
|cons _ _=>exact p.j
|nil=>obtain⟨v,V,rfl,rd,rfl⟩:=r;refine⟨v,rfl,λJ b=>?_⟩;exact(p _ _ ((l.K.x l.hr L).x l.hr<|Wg _ b)<|h.fE _ b).2.2 k2 fl y rfl t o J v (.u rfl) Wa<|rd.ext (Wg _ b) h
 have G:=H.p.j.p;have I:∃e,Ext G1 H1 e H2/\ak Y e (M.GT d h1.e h2) H2:=by
  unfold M.GT;split
  .rename_i z;exact⟨_,G▸w.cut,j.cut (by rw[G];exact w.le) (a2 z).2⟩
  .exact⟨G2,w,j⟩
 refine⟨λa i f=>?_,λa Q K i f xg J u z1 T z3=>?_,λa Q K i _ _ _ _ _ _ _=>by subst i;exact p.j⟩
 .subst i;exact g a u0 rfl f (λ_ z=>nomatch z) I
 .subst i;exact g a _ rfl f (λ_ z=>by cases z;exact⟨_,T⟩) I
def Fm(h:rM cf f ys q=k9):∃g x xs L M,ys=[.Return (y0<|.u g (x::xs) [] L) M]/\bt cf.p f g=k9/\cf.u.p f=k9/\q (x::xs)=true:=by refine kC (λs r h=>?_) ys h;refine kE (λh=>?_) r h;refine uq (λv p h=>?_) s h;refine kS (λe h=>?_) v h;refine zi (λg xs l p h=>?_) e h;refine kE (λh=>?_) l h;refine kC (λx r h=>?_) xs h;exact⟨_,_,_,_,_,rfl,a3 h⟩
def B2(h:rA cf c k2 fl f2 hs q=k9):∃w g M y ys L O kc W rp V,hs=[.j (y0 w) u0 [.p (y0<|.u g [.u M (y::ys) [] L] [] O) (y0<|.y .w kc W) rp] V]/\bt cf.p c w=k9/\cf.dX.p c=k9/\bt cf.p k2 g=k9/\cf.cb=k9/\cf.w.er.p (k2,fl)=k9/\bt cf.p f2 M=k9/\cf.qh.p f2=k9/\q (y::ys)=true:=by refine kC (λx r h=>?_) hs h;refine kE (λh=>?_) r h;refine yf (λw n b p h=>?_) x h;refine kS (λw h=>?_) w h;refine kC (λs r h=>?_) b h;refine kE (λh=>?_) r h;refine pH (λa z p h=>?_) s h;refine kS (λa h=>?_) a h;refine kS (λz h=>?_) z h;refine XA (λj i p h=>?_) z h;refine zi (λg t l p h=>?_) a h;refine kE (λh=>?_) l h;refine kC (λy r h=>?_) t h;refine kE (λh=>?_) r h;obtain⟨B,u,C,A,f⟩:=a5 h;obtain⟨f,k,d⟩:=a3 f;cases nn B;cases FB u;refine zi (λM ys m E d=>?_) y d;refine kE (λd=>?_) m d;refine kC (λD r d=>?_) ys d;obtain⟨o,v,e⟩:=a3 d;exact⟨_,_,_,_,_,_,_,_,_,_,_,rfl,C,A,f,(a2 k).1,(a2 k).2,o,v,e⟩
def Mx(a:fb Y F X E k cf){f c k2 fl r:String}{es j:M.Es}{ys:List Stmt}{hs:List ExceptHandler}{pos:Pos}(h1:rM cf f ys (λxs=>aT cf es xs)=k9)(h2:rA cf c k2 fl r hs (λxs=>aT {cf with toCg:=cf.toCg.q} j xs)=k9):PS X (.Try ys hs [] [] pos)<|cE Y E<|M.exec F<|.gs f es c k2 fl r j:=by
 obtain⟨g,x,xs,cp,rp,rfl,f1,T,f3⟩:=Fm h1;obtain⟨w,g2,g3,y,yr,V,cp2,kc,pc,rp2,hp,rfl,w1,w2,w3,w4,w5,v1,v2,w6⟩:=B2 h2;obtain⟨p0,rfl,f4,f5⟩:=Zb f1;obtain⟨p1,rfl,w7,w8⟩:=Zb w1;obtain⟨p2,rfl,w9,K⟩:=Zb w3;obtain⟨p3,rfl,v3,v4⟩:=Zb v1;obtain⟨ps,fa,fd,S,bd,kp,hm⟩:=(a.fn f T).imp λps h=>h.ex;obtain⟨hb,ho,hk⟩:=a.dX c w2;obtain⟨L,xg2,rh⟩:=a.rb k2 fl w4 w5 w9 K;obtain⟨qs,qa,qd,O,qb,qk,qm⟩:=a.rf r v2;have I:=Zc f3;have A:=Zc w6;have arg:∀z,iQ (X.eH.fN z) z (.u (.j (Qd r) p3) (y::yr) [] V)<|gU Y E0<|M.Gk F<|.j (.j r j) .p:=λz=>by
  refine iQ.imp (Dm (X:=X.eH.fN z) rfl a.fW a.lL O (a.fN hk z).u (a.w _ v3) qm qk qb (cw j (a.fN hk z).toGo w6) v4 (Ja<|A _ Aa) (Zh λe N=>A e<|Aa0 _ N) rfl) λU H Q qq=>?_;obtain⟨G,Z,h,s,p⟩:=qq;rw[M.Gk,M.eval]at p;refine⟨G,Z,h,s,?_⟩;cases q:M.Gn F j Z h with
|exc d h1=>rw[q]at p;exact p
|fail=>rw[q]at p;exact p
|ok J h1=>
   rw[q]at p;intro R H1 o i vs P;refine⟨R,h1,_,i,Wn P,Zl J,?_⟩;simp only[M.R.ae]at p;cases n:F.j r (J.u M.W.arg) h1 with
|fail=>rw[n]at p;exact p
|exc d h2=>rw[n]at p;exactλu m l b=>p u m (o.x s.j l) b
|ok W h2=>
    rw[n]at p;intro u m l b t rv fv;cases W with
|v d=>exact p u m (o.x s.j l) b [t] ⟨t,[],rfl,rv,rfl⟩
|bor xs=>exact p.j
|own xs=>have C:=s.ext o i;obtain⟨G3,e3,s3,rd,_⟩:=nT l (C.ext l b) C rv fv rfl;exact p G3 m (o.x s.j e3) s3.j [t] ⟨t,[],rfl,rd,rfl⟩
 refine PS.imp (Nq a.fW a.lL a.ex (a.w _ w7) (a.cls c ho) hb w8 YC (rh _ _ _ _ _ _ _ arg rfl) a.pat S a.u (a.w _ f4) hm kp bd (cw es a.toGo.eH f3) f5 (Ja<|I _ Aa)<|Zh λe N=>I e<|Aa0 _ N) ?_;rintro D U H ⟨B,G,Z,h,s,p⟩;rw[M.exec]at p;refine⟨G,Z,h,s.p,?_⟩;cases q:M.Gn F es Z h with
|exc d h1=>rw[q]at p;exact p.j
|fail=>rw[q]at p;exact p.j
|ok J h1=>
  rw[q]at p;intro R H1 o i vs P;have C:=s.on o i;refine⟨R,h1,_,i,Wn P,Zl J,?_⟩;dsimp only at p;cases n:F.j f (J.u M.W.arg) h1 with
|fail=>rw[n]at p;exact p.j
|ok W h2=>
   rw[n]at p;intro u m l b t rv _;cases W with
 |own _=>exact p.j
 |bor _=>exact p.j
 |v d=>exact p u t m (C.on l b).K b rv trivial
|exc d h2=>rw[n]at p;exactλu m l b=>M9 a ho L xg2 C l b p
def FO(o:fb Y F X E k cf)(hh:oD cf c nm iv hs=k9)(m:rm cf i f ys (λxs=>aT cf es xs)=k9):PS X (.Try ys hs [] [] pos)<|cE Y E<|M.exec F<|.gw i f es c nm iv:=by obtain⟨_,A,x,xs,_,_,_,rfl,r,d,e,j⟩:=K4 m;obtain⟨w,n,v,z,I,u,y,rfl,b,g,t,l,q⟩:=HK hh;have a:=b;obtain⟨C,rfl,_,_⟩:=Zb b;refine PS.eH<|Dy<|cg.imp (Fj o d e j a g r t l q) ?_;rintro D U H⟨B,G,Z,h,s,p⟩;refine⟨B,G,Z,h,s,?_⟩;exact p
end
section
open Lake renaming MS.fb.toGo->Lake.MS.fb.p
variable{Y:Ge}{F:M.Fx}{k:Nat}{X:Cx}{E:XK}{cf:Cf}
mutual
theorem Li:∀(m:M.S)(X:Cx)(E:XK)(k:Nat)(cf:Cf)(st:Stmt),fb Y F X E k cf->AI cf m st=k9->PS X st (cE Y E<|M.exec F m)
|.set i e=>λX E κ cf st go h=>by refine iA (λts v p h=>?_) st h;refine kC (λt r h=>?_) ts h;refine jy (λx p1 h=>?_) t h;refine kE (λh=>?_) r h;exact BJ go.p (a2 h).1 (a2 h).2
|.ag i e=>λX E κ cf st go h=>by refine iA (λts v p h=>?_) st h;refine kC (λt r h=>?_) ts h;refine jy (λx p1 h=>?_) t h;refine kE (λh=>?_) r h;exact Di go.p (a2 h).1 (a2 h).2
|.gk is e=>λX E κ cf st go h=>by refine iA (λts v p h=>?_) st h;refine kC (λt r h=>?_) ts h;refine pz (λx n p1 h=>?_) t h;refine kE (λh=>?_) r h;obtain⟨h1,h2,h3⟩:=a3 h;exact Hh go.p go.pQ h1 h2 h3
|.ez i kx e=>λX E κ cf st go h=>by refine iA (λts v p h=>?_) st h;refine kC (λt r h=>?_) ts h;refine g7 (λx y p1 h=>?_) t h;refine jy (λx p2 h=>?_) x h;refine kE (λh=>?_) r h;obtain⟨h0,h4,_,h5,h6,h7⟩:=a6 h;obtain⟨h1,h2,h3⟩:=ki h0;exact Dd go.p h1 h2 h3 h4 h6 h7
|.bH o kx e=>λX E κ cf st go h=>by refine iA (λts v p h=>?_) st h;refine kC (λt r h=>?_) ts h;refine g7 (λx y p1 h=>?_) t h;refine kE (λh=>?_) r h;obtain⟨h1,_,_,h4,h5,h6⟩:=a6 h;exact x0 go.p h1 h4 h5 h6
|.app i e=>λX E κ cf st go h=>by refine pI (λc p h=>?_) st h;refine zi (λf x l q h=>?_) c h;refine kE (λh=>?_) l h;refine kC (λv r h=>?_) x h;refine kE (λh=>?_) r h;obtain⟨h1,h2,h3⟩:=a3 h;exact Hg go.p h1 h2 h3
|.gz a e=>λX E κ cf st go h=>by
  refine pI (λc p h=>?_) st h;refine zi (λf x l q h=>?_) c h;refine kE (λh=>?_) l h;refine kC (λv r h=>?_) x h;refine kE (λh=>?_) r h;refine jT (λx n q h=>?_) f h;obtain⟨h0,h1,h2,h3,h4⟩:=a5 h;rw[Aa9]at h4;cases FB h0;refine Hf go.p ?_ h1 h2 h3 h4.1;cases x with
 |Name _ _=>rfl
 |Subscript _ _ _=>rfl
 |_=>cases h4.2
|.b4 i c f e=>λX E κ cf st go h=>by refine iA (λts v p h=>?_) st h;refine kC (λt r h=>?_) ts h;refine jT (λx n p1 h=>?_) t h;refine jy (λx p2 h=>?_) x h;refine kE (λh=>?_) r h;obtain⟨h0,hn,h4,h6⟩:=a4 h;obtain⟨h1,h2,h3⟩:=ki h0;cases FB hn;exact j2 go.p h1 h2 h3 h4 h6
|.ky=>λX E κ cf st go h=>(by rintro u7 s U H D I⟨B,G,Z,h,s',p⟩;exact p.j)
|.ex e=>λX E κ cf st go h=>by refine pI (λv p h=>?_) st h;exact Lj go.p (a2 h).1 (a2 h).2
|.ret e=>λX E κ cf st go h=>by refine uq (λv p h=>?_) st h;refine kS (λv h=>?_) v h;exact K1 go.p h
|.iff c a b=>λX E κ cf st go h=>by refine F1 (λx y z p h=>?_) st h;obtain⟨h0,h1,h2,h3⟩:=a4 h;exact LY ((wd c go.p h1).2 h0) (dF a _ _ _ _ _ go h2)<|dF b _ _ _ _ _ go h3
|.e8 n c b=>λX E κ cf st go h=>by refine B1 (λx y z p h=>?_) st h;refine kE (λh=>?_) z h;obtain⟨h0,h1,h2⟩:=a3 h;exact Eg go ((wd c go.p h1).2 h0)<|dF b _ _ _ _ _ go h2
|.for tg one it b=>λX E κ cf st go h=>by refine I0 (λt i y z p h=>?_) st h;refine kE (λh=>?_) z h;obtain⟨h1,h2,h3,h4⟩:=a4 h;exact DU go h1 h2 h3<|dF b _ _ _ _ _ go h4
|.bC c f e=>λX E κ cf st go h=>by refine pH (λx y p h=>?_) st h;refine kS (λx h=>?_) x h;refine zi (λg x l q h=>?_) x h;refine kE (λh=>?_) l h;refine kC (λx r h=>?_) x h;refine kE (λh=>?_) r h;obtain⟨h0,h1,h2,h3⟩:=a4 h;cases nn h0;exact NU go h1 h2 h3
|.raise c es=>λX E κ cf st go h=>by refine pH (λx y p h=>?_) st h;refine kS (λx h=>?_) x h;refine zi (λg x l q h=>?_) x h;refine kE (λh=>?_) l h;refine kC (λx r h=>?_) x h;obtain⟨h0,h1,h2,h3,h4⟩:=a5 h;cases nn h0;exact Bx go h1 h2 (FB h3) h4
|.gs f es c k2 fl f2 es2=>λX E κ cf st go h=>by refine vN (λy hs p h=>?_) st h;exact Mx go (a2 h).1 (a2 h).2
|.gw i f es k nm iv=>λX E κ cf st go h=>by refine vN (λb hs p h=>?_) st h;obtain⟨h0,h1⟩:=a2 h;exact FO go h0 h1
theorem dF:∀(m:M.Ss)(X:Cx)(E:XK)(k:Nat)(cf:Cf)(sts:List Stmt),fb Y F X E k cf->cT cf m sts=k9->cV X sts (cE Y E<|M.execs F m)
|.nil=>λX E κ cf sts go h=>by cases Ae5.j h;exact L4
|.cons s ss=>λX E κ cf sts go h=>by refine kC (λst r h=>?_) sts h;exact KS (Li s _ _ _ _ _ go (a2 h).1)<|dF ss _ _ _ _ _ go (a2 h).2
end
end
section
variable{P:Program}{w:World}{K:Aa5}{mg:Str->Option Value}{base:Heap}{N:List Str}{k6:Str}{scope:Scope}{f:Addr}{cd:Value}{A:Around}{outer:List Env}{s:Shared}{H:Hp}{E:XK}
def LD:ww (bO P w) (Ju (bO P w) P w K mg base N k6 scope f cd A outer s H E) E:=by
 intro u7 U H1 s1 ev s' I hq;obtain⟨x,C,t,B,H',od,rfl,os,bare,fl,un,aL,comp,new,hd,hE⟩:=hq;have I':=xG I os bare un aL comp fl λb o z _=>⟨o.slots,z⟩;have ff:=fl.2.2.1;refine Om (QR (xK _ _)<|wpAny_leaves_onW (Q:=λ_ s2=>∃h2,s2={s' with heap:=h2}/\Ah8 B outer x _ _ h2/\s'.j.y h2) (E:=λ_ _=>False) I.ok.frames rfl fl λh2 x1 x4=>⟨h2,rfl,x1,x4⟩) (λ_ s2 z=>?_) λ_ _ z=>z.1.j;obtain⟨⟨h2,rfl,x1,x4⟩,dk⟩:=z;have free:=I'.cO;have slotH:∀b o,b∈bM _->s'.j.p b=y0 o->∃sl,h2.p b=y0 {o with slots:=sl}:=λb o hb z=>by obtain⟨_,o',z',nf⟩:=ff.mem hb;rw[z]at z';cases z';exact x4 b o z nf
 have toH:=λb o z c n=>x1.1 b o<|comp b o z c n;have cut:∀b,b∉bM outer->b≠s.j.j.j->b∉bM (envOfC k6 scope s.j.j.j f cd::outer):=λb n1 n2 hb=>by
  rcases Aa6.j (hb)with z|z
  .exact n2 z
  .exact n1 z
 have old:∀b o,s.j.p b=y0 o->b≠s.j.j.j:=λb o z=>Ab7<|Ab3 z;have eK:∀b u,H' b=y0 u->b∉bM _:=λb u z hb=>by rw[free b hb]at z;cases z
 have in1:=λb o z=>I.u.there b o z (by show b∉[];simp);refine⟨x,C,t,B,H',od,rfl,os.x I.os,bare,x1,⟨λb o z n hb hx=>?_,λb o z n hb hx=>?_,I'.u.free,λb o z hx=>?_,I'.u.cL,I'.u.cA,I'.u.cH⟩,λb u z=>?_,λb o z hc hb=>?_,?_,⟨λdx z=>?_,λz=>(hd.2 z).dk dk⟩,hE⟩
 .exact toH b o (I'.u.keep b o z n hb hx) (.u<|in1 b o z)<|cut b hb<|old b o z
 .obtain⟨sl,z1⟩:=I'.u.slot b o z n hb hx;obtain⟨sl2,z2⟩:=slotH b _ (Aa0 _ hb) z1;exact⟨sl2,z2⟩
 .obtain⟨o',z1⟩:=I'.u.there b o z hx;by_cases hb:b∈bM (envOfC k6 scope s.j.j.j f cd::outer)
  .obtain⟨sl,z2⟩:=slotH b o' hb z1;exact⟨_,z2⟩
  .exact⟨o',toH b o' z1 (.u<|in1 b o z) hb⟩
 .refine(aL b u z).cK (λc v hc z1=>?_) (λ_ z1=>z1) λ_ _ z1=>z1;rcases hc with rfl|hc
  .exact toH c v z1 (.p ⟨u,z⟩)<|eK c u z
  .exact toH c v z1 (.p ⟨_,hc⟩)<|eK c _ hc
 .have two:∃o2,s'.j.p b=y0 o2/\((∃u,H' b=y0 u)\/∃u,s1.j.p b=y0 u)/\b∉bM (envOfC k6 scope s.j.j.j f cd::outer):=by
   rcases hc with⟨u,hu⟩|⟨u,hu⟩
   .obtain⟨o2,z2⟩:=(aL b u hu).there;exact⟨o2,z2,.p ⟨u,hu⟩,eK b u hu⟩
   .obtain⟨o2,z2⟩:=I'.u.there b u hu (by show b∉([]:List Addr);simp);exact⟨o2,z2,.u<|in1 b u hu,cut b hb<|old b u hu⟩
  obtain⟨o2,z2,c2,nb⟩:=two;have z3:=toH b o2 z2 c2 nb;rw[show h2.p b=y0 o from z]at z3;cases z3;exact comp b _ z2 c2 nb
 .cases z:s.j.p x with
|none=>rfl
|some u=>obtain⟨o2,z2⟩:=in1 x u z;rw[new]at z2;cases z2
 .obtain⟨o,e1,e2⟩:=hd.1 dx z;obtain⟨o',e3,e4⟩:=dk x o e1;exact⟨o',e3,e4.1.x e2⟩
end
structure Txt(K:Aa5)(mg:Str->Option Value)(f:String) where
 st:Stmt
 fa:Addr
 fd:FuncData
 N:List Str
 ps:List Str
structure X1{K:Aa5}{mg:Str->Option Value}{f:String}(t:Txt K mg f)(d:M.Fn)(g:Cg):Prop where
 fn:∃x k6,gH K x k6 t.st t.fa t.fd
 bd:Binds K t.fd t.ps []
 sc:qt t.N t.ps<|Xe t.st
 n:t.N.e=d.n
 p:t.ps.e=d.ps
 le:d.ps<=d.n
 CG:cT ⟨g,Xe t.st,t.N⟩ d.body (zw t.st)=k9
structure dm(Y:Ge)(p:M.Prog)(mg:Str->Option Value)(g:Cg):Prop where
 cl:p.cl=Y.cl
 ow:g.j=Y.own
 blt:∀x,x∈b5->mg (Qd x)=u0
 con:∀x d,p.con.j x=y0 d->∃u v,mg (Qd x)=y0 u/\RelV v u/\∀G H,az Y G H d v
 cls:∀c,g.j.p c=k9->mg (Qd c)=y0 (.j<|Y.j c)
 gi:∀c,g.gi.p c=k9->dO Y c/\rS Y.K (Y.j c)=k9/\mg (Qd c)=y0 (.j<|Y.j c)
 lb:∀c f,g.w.er.p (c,f)=true->dO Y c/\hF Y.K (Y.j c) (Qd f)/\kW Y.K (Y.j c) (Qd f)/\mg (Qd c)=some (.j<|Y.j c)/\∃fI fd ps,PySem.W.findIn Y.K (.j<|Y.j c) "__init__"=some (some<|.j fI)/\QN Y.K (Qd f) fI fd ps
 dX:∀c,g.dX.p c=true->PySem.W.mroIn Y.K (Y.j c) (.p "BaseException")=some true/\g.j.p c=true
 fld:∀c f,g.w.fl.p (c,f)=k9->de Y.K (Y.j c)/\cj Y.K (Y.j c) (Qd f)
 iF:∀c m q,g.w.mt.p (c,m,q)=k9->de Y.K (Y.j c)/\g.w.ms.p q=k9/\lQ Y.K (Y.j c) (Qd m) (Y.ma q)
 eP:∀c q,g.w.eP.p (c,q)=k9->mg (Qd c)=y0 (.j<|Y.j c)/\g.w.ms.p q=k9/\Mk Y.K (Y.j c) (Y.ma q)
section
variable{P:Program}{w:World}{Y:Ge}{mg:Str->Option Value}{base:Heap}{p:M.Prog}
theorem dm.z (a:dm Y p mg g):dm Y p mg g.z:=⟨a.cl,a.ow,a.blt,a.con,a.cls,λc h=>aW h,λc f h=>aW h,λc h=>aW h,a.fld,λc m q h=>aW h,λc q h=>aW h⟩
theorem dm.h (a:dm Y p mg g):dm Y p mg g.h:=⟨a.cl,a.ow,a.blt,a.con,a.cls,λc h=>aW h,λc f h=>aW h,λc h=>aW h,a.fld,λc m q h=>aW h,λc q h=>aW h⟩
def Cs(l:ak Y G h H)(r:a9 Y G H ws vs)(s:∀w∈ws,oi w=k9)(t:N.e=n):ba Y ⟨G,H,h⟩ G (ws.u y0++Aa1 (n-ws.e) u0) h (xC N vs) H:=by
 have get:∀{i}{w},M.Gr (ws.u y0++Aa1 (n-ws.e) u0) i=y0 w->ws[i]?=y0 w:=λ{i w} e=>by
  rw[JD]at e;by_cases u:i<ws.e
  .rw[Ad9<|by simp_all,Ae1]at e;cases q:ws[i]? with
|none=>rw[q]at e;cases e
|some B=>rw[q]at e;exact e
  .rw[Ad5<|by simp_all,Al5]at e;split at e<;>cases e
 have f:∀{ws}{vs}{i:Nat}{w},a9 Y G H ws vs->ws[i]?=y0 w->∃v,vs[i]?=y0 v/\au Y G H w v:=by
  intro ws;induction ws with
|nil=>intro vs i w _ e;simp at e
|cons a r m=>
   rintro vs i w ⟨v,A,c,z1,z⟩ e;subst c;cases i with
|zero=>simp at e;subst e;exact⟨v,rfl,z1⟩
|succ i=>obtain⟨o,x,p⟩:=m z (by assumption);exact⟨o,by simpa using x,p⟩
 have b:∀{i}{d},M.Gr _ i≠y0 (.j d):=λ{i d} e=>by have:=s _<|Aj9<|get e;cases this
 refine⟨⟨?_,λi w e=>?_,λi j d w a y c=>absurd c b,l⟩,Ext.refl,l,λi d a c=>absurd c b⟩
 .unfold xC;rw[Aa2,Aa2,Ab,Ab,Ae3,Ae3,t,r.length]
 .obtain⟨v,k,g⟩:=f r<|get e;refine⟨v,?_,g⟩;unfold xC;have u:=(Ac1.j k).1;rw[Ad9<|by simp_all,Ae1,k];rfl
def MH(k:ak Y G h H)(p:aw Y E G H (M.Gv h.e o) Q):aS Y E ⟨G,H,h⟩ o {nx:=λ_ H'=>Q .aj H',rt:=Q}:=by
 have g:∀{w}{c}{b}{H'}{v},_->aw Y E G H (M.fin h.e w c) Q->Ext G H b H'->ak Y b c H'->au Y b H' w v->aK [] [] H w v->Q v H':=λ{w c b H' v} n p e a r f=>by
  unfold M.fin at p;split at p
  .exact p b H' e a v r f
  .split at p
   .rename_i j;rw[Aa9,k.p]at j;have m:=e.cut;rw[k.p]at p;exact p _ H' m (a.cut e.le j.2) v (r.cut G.n e.le j.1 n) f
   .exact p b H' e a v r f
 cases o with
|next Z c=>exactλb q H' l=>g (λi z=>by cases z) p l.K l.p.j rfl trivial
|ret w c=>
  cases w with
 |bor i=>exact p.j
 |v d=>exactλb v H' e a r f=>g (λi z=>by cases z) p e a r f
 |own i=>exactλb v H' e a r f=>g (λi z=>by cases z) p e a r f
|exc d c=>exact p
|brk Z c=>exact p.j
|cont Z c=>exact p.j
|fail=>exact p.j
end
def DF(r:aM k A)(h:2<=k)(hd):aM 2<|A.mark hd:=
 ⟨λq=>absurd q YA,by have:=r.dp;show A.depth+2+5<_;lia,by have:=r.un;show A.u+16*2+200<_;lia⟩
section
variable{P:Program}{w:World}{Y:Ge}{mg:Str->Option Value}{base:Heap}{p:M.Prog}{g:Cg}
def lj(P:Program)(w:World)(Y:Ge)(mg:Str->Option Value)(base:Heap)(r:Nat)(m:List M.W->M.AH->M.R M.W)(f:String):Prop:=
 ∃ps a fd,bj P w Y.K mg base (bO P w) r a fd ps (eQ Y m)/\Binds Y.K fd ps []/\Af6 Y.K (.j a)=k9/\mg (Qd f)=y0 (.j a)
def pq(P:Program)(w:World)(Y:Ge)(mg:Str->Option Value)(base:Heap)(r:Nat)(m:List M.W->M.AH->M.R M.W)(q:String):Prop:=
 ∃ps fd,bj P w Y.K mg base (bO P w) r (Y.ma q) fd ps (eQ Y m)/\Binds Y.K fd ps []
def rC(P:Program)(w:World)(Y:Ge)(mg:Str->Option Value)(base:Heap)(m:List M.W->M.AH->M.R M.W)(f:String):Prop:=
 ∃ps a fd,lq P w Y.K mg base (bO P w) 2 a fd ps (eQ Y m)/\Binds Y.K fd ps []/\Af6 Y.K (.j a)=k9/\mg (Qd f)=y0 (.j a)
def yL(b:p.u.j f=y0 d)(a:ws.e≠d.ps):M.call p (k+1) f ws h=.u:=by rw[M.call,b];simp[M.run,a]
def tx(ok:X1 t d g)(c:p.u.j f=y0 d):eQ Y (M.call p (k+1) f) vs H Q E->vs.e=t.ps.e:=by
 rintro⟨G,h,b,e,rs,i,q⟩;by_cases a:b.e=d.ps
 .rw[←rs.length,a,ok.p]
 .rw[yL c a]at q;exact q.j
def uf(b:dm Y p mg g)(ok:X1 t d g)(hf:p.u.j f=y0 d)(k r)(D:g.cb=k9->3<=r)(hr2:∀c,g.dX.p c=k9->2<=r)(ih:∀h,g.u.p h=k9->lj P w Y mg base r (M.call p k h) h)
 (iq:∀h,g.qf.p h=k9->lj P w Y mg base 2 (M.call p k h) h)(U:∀h,g.qh.p h=k9->rC P w Y mg base (M.call p k h) h)(im:∀q,g.w.ms.p q=k9->pq P w Y mg base r (M.call p k q) q)
 (a:aM (r+1)<|A.p<|envOfC k6 (Xe t.st) s.j.j.j t.fa cdv)(i:g.uh=k9->lg (Ju (bO P w) P w Y.K mg base t.N k6 (Xe t.st) t.fa cdv A outer s H E))(sp:eQ Y (M.call p (k+1) f) vs H Q E):
 ∃t',cV (Ju (bO P w) P w Y.K mg base t.N k6 (Xe t.st) t.fa cdv A outer s H E) (zw t.st) t'/\t' {nx:=λ_ H'=>Q .aj H',rt:=Q} (xC t.N vs) H:=by
 obtain⟨G,h,ws,hr,rs,no,q⟩:=sp;by_cases T:ws.e=d.ps;rotate_left
 .rw[yL hf T]at q;exact q.j
 rw[M.Gb hf k ws h T]at q;have calm:g.cb=k9->A.j=none:=λz=>a.hd<|Oo<|D z;refine⟨cE Y E<|M.execs ⟨M.call p k,p.cl,p.con⟩ d.body,dF d.body _ _ r _ _ ?_ ok.CG,?_⟩
 .refine{N:=rfl,K:=rfl,cl:=b.cl,ow:=b.ow,nd:=ok.sc.nd,gB:=λx i=>W9 i,iV:=λx i=>i,iz:=λx i=>⟨ug i,.p rfl⟩,kb:=λx i=>i,gl:=λx i=>zH i,calm:=λz=>by rw[show Cx.calm _=A.j.j from rfl,calm z];rfl,room:=a.mono<|Ac9 _,cv:=a,pass:=LD,blt:=b.blt,con:=b.con,fn:=λh j=>?_,lB:=λh j=>?_,pQ:=i,rf:=U,cls:=b.cls,fld:=b.fld,iF:=λc m q X=>?_,eP:=λc q X=>?_,hQ:=Ep,fW:=rfl,lL:=rfl,ex:=rfl,gi:=λc I o j C=>?_,lb:=λc f I o j C=>?_,rb:=λc f I o j C=>?_,pat:=λ_=>PassesOwnAt.leaving,dX:=λc o=>⟨(b.dX c o).1,(b.dX c o).2,hr2 c o⟩}
  .obtain⟨u,V,l,B,y,S,h4⟩:=ih h j;exact⟨u,⟨V,l,B,y,S,h4⟩⟩
  .obtain⟨u,V,l,B,y,S,h4⟩:=iq h j;exact⟨u,⟨V,l,B,y,S,h4⟩⟩
  .obtain⟨z1,z2,W⟩:=b.iF c m q X;obtain⟨u,l,B,y⟩:=im q z2;exact⟨z1,_,l,u,W,B,y⟩
  .obtain⟨z1,z2,W⟩:=b.eP c q X;obtain⟨u,l,B,y⟩:=im q z2;exact⟨z1,_,l,u,W,B,y⟩
  .obtain⟨R,ei,J⟩:=b.gi c o;refine⟨R,λnp v O e es t L F=>?_⟩;exact E9 (calm I) ei J (zH j) L (Ja<|F _ Aa) (Zh λe he=>F e<|Aa0 _ he) C
  .obtain⟨R,xg,xe,J,fI,l,u,hi,Z⟩:=b.lb c f o;exact⟨R,xg,λnp v O e t L F=>EL (calm I) xe hi Z J (zH j) (a.mono<|by have:=D I;lia) L (Ja F) C⟩
  .obtain⟨R,xg,xe,J,fI,l,u,hi,Z⟩:=b.lb c f o;have S:=D I;exact⟨R,xg,λnp v O pc kc e t L F=>Dp xe hi Z J (zH j) (λC=>DF a (Ac0 YA<|Af9 S) C) L (Ja F) C⟩
 .refine⟨⟨G,H,h⟩,G,ws.u y0++Aa1 _ u0,h,?_,MH hr q⟩;have:=Cs (N:=t.N) (n:=d.n) hr rs no ok.n;rw[T]at this;exact this
def nG(B:dm Y p mg g){t:Txt Y.K mg f}(ok:X1 t d g)(m:p.u.j f=y0 d)(k r)(u:g.uh=u9)(j:g.cb=k9->3<=r)(i:∀c,g.dX.p c=k9->2<=r)(o:∀h,g.u.p h=k9->lj P w Y mg base r (M.call p k h) h)
 (C:∀h,g.qf.p h=k9->lj P w Y mg base 2 (M.call p k h) h)(e:∀h,g.qh.p h=k9->rC P w Y mg base (M.call p k h) h)(y:∀q,g.w.ms.p q=k9->pq P w Y mg base r (M.call p k q) q):bj P w Y.K mg base (bO P w) (r+2) t.fa t.fd t.ps<|eQ Y<|M.call p (k+1) f:=by
 obtain⟨x,l,F⟩:=ok.fn;exact gH.Ap F ok.sc (λv H Q E=>tx ok m) λn A b s H v Q E a=>uf B ok m k r j i o C e y a λz=>by rw[u]at z;cases z
def EE(l:dm Y p mg g){t:Txt Y.K mg f}(ok:X1 t d g.h)(e:p.u.j f=y0 d)(k):lq P w Y.K mg base (bO P w) 2 t.fa t.fd t.ps<|eQ Y<|M.call p (k+1) f:=by obtain⟨x,c,F⟩:=ok.fn;exact gH.Nr F ok.sc (λi H Q E=>tx ok e) λh A b s H i Q E a j=>uf l.h ok e k 0 (λz=>nomatch z) (λ_ z=>aW z) (λ_ z=>aW z) (λ_ z=>aW z) (λ_ z=>aW z) (λ_ z=>aW z) a λ_=>CW j
def X3(r)(f)(fa)(fd)(ps):bj P w Y.K mg base (bO P w) r fa fd ps<|eQ Y<|M.call p 0 f:=
 ⟨by rintro d H Q E⟨G,h,c,e,rs,g,q⟩;exact q.j,by rintro A a s H b i d Q E _ _ _ _⟨G,h,c,e,rs,g,q⟩;exact q.j⟩
def rO(Y:Ge)(mg:Str->Option Value)(p:M.Prog)(g:Cg)(f:String):Prop:=∃d,p.u.j f=y0 d/\∃t:Txt Y.K mg f,X1 t d g/\Af6 Y.K (.j t.fa)=k9/\mg (Qd f)=y0 (.j t.fa)
def L1(n:dm Y p mg g)(u:g.uh=u9)(all:∀f,g.u.p f=k9->rO Y mg p g f)(i:∀f,g.qf.p f=k9->rO Y mg p g.z f)(l:∀f,g.qh.p f=k9->rO Y mg p g.h f)
 (m:∀q,g.w.ms.p q=k9->∃d,p.u.j q=y0 d/\∃t:Txt Y.K mg q,X1 t d g/\t.fa=Y.ma q):∀k,(∀f,g.u.p f=k9->lj P w Y mg base (2*k+3) (M.call p k f) f)/\(∀f,g.qf.p f=k9->lj P w Y mg base 2 (M.call p k f) f)/\(∀f,g.qh.p f=k9->rC P w Y mg base (M.call p k f) f)/\∀q,g.w.ms.p q=k9->pq P w Y mg base (2*k+3) (M.call p k q) q:=by
 intro k;induction k with
|zero=>
  refine⟨λf e=>?_,λf e=>?_,λf e=>?_,λq r=>?_⟩
  .obtain⟨d,c,t,ok,a,b⟩:=all f e;exact⟨t.ps,t.fa,t.fd,X3 _ f _ _ _,ok.bd,a,b⟩
  .obtain⟨d,c,t,ok,a,b⟩:=i f e;exact⟨t.ps,t.fa,t.fd,X3 _ f _ _ _,ok.bd,a,b⟩
  .obtain⟨d,c,t,ok,a,b⟩:=l f e;exact⟨t.ps,t.fa,t.fd,⟨by rintro y H Q E⟨G,h,D,C,rs,B,q⟩;exact q.j,by rintro A o s H x F y Q E _ _ _ _ _⟨G,h,D,C,rs,B,q⟩;exact q.j⟩,ok.bd,a,b⟩
  .obtain⟨d,c,t,ok,v⟩:=m q r;exact⟨t.ps,t.fd,X3 _ q _ _ _,ok.bd⟩
|succ k j=>
  refine⟨λf e=>?_,λf e=>?_,λf e=>?_,λq r=>?_⟩
  .obtain⟨d,c,t,ok,a,b⟩:=all f e;exact⟨t.ps,t.fa,t.fd,nG n ok c k _ u (λ_=>(L2 _ _)) (λ_ _=>(L2 _ _)) j.1 j.2.1 j.2.2.1 j.2.2.2,ok.bd,a,b⟩
  .obtain⟨d,c,t,ok,a,b⟩:=i f e;exact⟨t.ps,t.fa,t.fd,nG n.z ok c k 0 rfl (λz=>nomatch z) (λ_ z=>aW z) (λ_ z=>aW z) (λ_ z=>aW z) (λ_ z=>aW z) λ_ z=>aW z,ok.bd,a,b⟩
  .obtain⟨d,c,t,ok,a,b⟩:=l f e;exact⟨t.ps,t.fa,t.fd,EE n ok c k,ok.bd,a,b⟩
  .obtain⟨d,c,t,ok,v⟩:=m q r;exact⟨t.ps,t.fd,v▸nG n ok c k _ u (λ_=>(L2 _ _)) (λ_ _=>(L2 _ _)) j.1 j.2.1 j.2.2.1 j.2.2.2,ok.bd⟩
def oP(K:Aa5):Sp:=λvs H Q _=>∃(a:Addr)(ns:List Int),vs=[.j a]/\bu K H a (ns.u V.int)/\ns.e<=63/\∀H',Q (.C k9) H'
theorem uK:∀(ns:List Int),ai Y G H (ns.u M.D.int)<|ns.u V.int
|[]=>rfl
|n::ns=>⟨_,_,rfl,rfl,uK ns⟩
def EM(F:bj P w Y.K mg base (bO P w) n fa fd ps<|eQ Y<|M.call p k "law")(gE:∀ns:List Int,ns.e<=63->∃h',M.call p k "law" [.v (.u<|ns.u .o)] []=.j (.v<|.C true) h'):
 bj P w Y.K mg base mS n fa fd ps<|oP Y.K:=by
 refine bj.calm F ?_;rintro y H Q E ⟨a,ns,i,d,l,q⟩;subst i;obtain⟨h',t⟩:=gE ns l;have fin:∀G:Gh,ak Y G [] H->kG Y G H a _->eQ Y (M.call p k "law") [.j a] H Q (fun _ _ _=>False):=fun G m j=>by
  refine⟨G,[],[.v (.u _)],m,⟨.j a,[],rfl,⟨a,ns.u V.int,rfl,j,uK ns⟩,rfl⟩,λw h=>?_,?_⟩
  .cases Ab2.j h;rfl
  .rw[t];intro x u _ _ v r _;cases(r);exact q u
 obtain d|d:=d
 .refine fin ⟨λb=>b=a,λ_=>0,0⟩ ⟨rfl,λr c e=>by simp at e,λr s f=>absurd f<|Ak3 _,λb g=>?_⟩<|.p ⟨rfl,d⟩;subst g;obtain z|⟨o,z⟩:=d
  .exact⟨_,z⟩
  .exact⟨_,z⟩
 .exact fin ⟨λ_=>False,λ_=>0,0⟩ ⟨rfl,λr c e=>by simp at e,λr s f=>absurd f<|Ak3 _,λb g=>g.j⟩<|.u d
def walk{l:PySem.W.OpenLaw}{K:Params->Aa5}(k)(j:aM k callerA)(i:l.most=y0 63)(b:d.params.defaults=[])
 (m:∀w h,YP w h->(K w.p).In h)
 (F:∀w mg L h,(K w.p).In h->h.Ns mainGlobals mg->mg d.name=y0 (.j L)→
   ∃fd:FuncData,(∀s u,BindsTo s fd ⟨[u],[]⟩ [(x,u)])/\∀base:Heap,(K w.p).In base->base.Ns mainGlobals mg->bj l.prog w (K w.p) mg base mS k L fd [x] (oP<|K w.p)):
 PySem.W.WalkO q loose XP YP l.row.toRowW d []<|λf vs=>PySem.call f vs:=
 Lake.hZ i YA b j m F (λ_ _ a e c _ g=>⟨a,e,rfl,g,c,λ_=>rfl⟩) λ_ _ _ _ _ z=>z
end
open PySem PySem.W PyProof.Rows KTD
theorem rZ{f g:Str->Option (Str×Value)}:∀{l:List Str},(∀n∈l,f n=g n)->l.Y f=l.Y g
|[],_=>rfl
|a::l,h=>by rw[Ah3,Ah3,h a Aa,rZ λn b=>h n<|Aa0 _ b]
theorem A0:∀{a:List Str}{us:List Value},a.C->us.e=a.e->a.Y (λn=>((a.Z us).j n).u (n,·))=a.Z us
|[],us,_,_=>rfl
|p::a,[],_,h=>by cases h
|p::a,u::us,d,h=>by have b:=Ag0.j d;rw[R5,PP<|by rw[List.lookup_cons_self];rfl];congr 1;refine(rZ λn c=>?_).x<|A0 b.2<|Nat.succ.inj h;rw[Ab8,beq_eq_false_iff_ne.p (λe=>b.1<|e▸c:n≠p)]
def FH{a:List Str}{us:List Value}(h:us.e=a.e)(b:n∈a):((a.Z us).j n).w=true:=by
 induction a generalizing us with
|nil=>cases b
|cons p a c=>
  cases us with
|nil=>cases h
|cons u us=>
   rw[R5,Ab8];cases e:n==p with
|true=>rfl
|false=>exact c (Nat.succ.inj h)<|(Aa6.j b).resolve_left<|beq_eq_false_iff_ne.j e
noncomputable abbrev dZ(a:FuncData):List Str:=a.p.args.u (·.arg)
def Ii(h1:fd.p.posonlyargs=[])(h2:fd.p.vararg=u0)(h3:fd.p.kwonlyargs=[])(h4:fd.p.kwarg=u0)(h5:fd.defaults=.w)(nd:(dZ fd).C)(hl:us.e=(dZ fd).e):bindArgs fd ⟨us,[]⟩=pure ((dZ fd).Z us):=by
 have e:∀k,((dZ fd).A k).filter (λn=>(((dZ fd).Z us).j n).j)=[]:=λk=>List.filter_eq_nil_iff.p λn hn=>by
  have:=FH hl<|Ag5 hn;cases q:((dZ fd).Z us).j n with
|none=>rw[q]at this;cases this
|some _=>simp
 obtain⟨n,q,⟨po,as,va,ko,kd,ka,df⟩,b,sc,g,cl,d,kV,doc,pm,an,cd,ct,bi⟩:=fd;cases h1;cases h2;cases h3;cases h4;cases h5;refine(Fk ?_).x<|(Fk ?_).x ?_
 .simpa using Am4 hl
 .exactλz=>by have z':=(congrArg (λl:List Str=>!l.y)<|e _).j.x z;cases z'
 .refine Eq.trans ?_<|congrArg pure<|A0 nd hl;rw[show∀k,List.drop k (none.getD #[]).p=[]fromλk=>List.drop_nil,List.zip_nil_right];exact congrArg (λl:List Str=>(pure _:Sem _))<|Ac7 _
noncomputable def mn(K:Frag)(a:Addr)(f:FuncData->List Stmt->Bool):Bool:=match K.j a with
|some ⟨_,_,.func fd,_⟩=>(match fd.body with
|.stmts b=>f fd b
|_=>u9)
|_=>u9
def oU{K:Frag}(h:mn K a f=k9):∃M L fd sl b,K.j a=y0 ⟨M,L,.func fd,sl⟩/\fd.body=.stmts b/\f fd b=true:=by
 unfold mn at h;split at h
 .rename_i e;split at h
  .rename_i c;exact⟨_,_,_,_,_,e,c,h⟩
  .cases h
 .cases h
def me(K:Frag)(a:Addr)(b:FuncData)(N:List Str):Prop:=
 (b.globals=mainGlobals/\b.builtins=builtinsNs/\b.closure=[]/\b.defaults=.w)/\codeIn K b.code b.qualname=k9/\keepIn K (.j a)=k9∧
 (b.p.posonlyargs.y=k9/\b.p.vararg.j=k9/\b.p.kwonlyargs.y=k9/\b.p.kwarg.j=k9)∧
 b.j.u=.j/\b.j.isCoroutine=u9/\b.j.isGenerator=u9/\N.C/\N.A (dZ b).e=dZ b/\(∀x∈dZ b,b.j.j.j x=y0 .local\/b.j.j.j x=y0 .y)/\∀y∈b.j.j,y.2≠.w
instance{K:Frag}{a:Addr}{fd:FuncData}{N:List Str}:Decidable<|me K a fd N:=by unfold me;infer_instance
def vI{K:Frag}(l:K.j a=y0 ⟨oc,od,.func fd,sl⟩)(t:fd.body=.stmts b)(p:me K a fd N):
 ∃st x q,zw st=b/\Xe st=fd.j/\gH K x q st a fd/\qt N (dZ fd) fd.j/\∀us:List Value,us.e=(dZ fd).e->bindArgs fd ⟨us,[]⟩=pure ((dZ fd).Z us):=by
 obtain⟨⟨g,bi,k,d⟩,n,i,⟨r,a2,a3,a4⟩,h,m,o,e,c,s,j⟩:=p;refine⟨.FunctionDef fd.name fd.p b [] u0 [] fd.j u0 fd.name ⟨0,0,0,0⟩,fd.name,fd.qualname,rfl,rfl,⟨⟨oc,od,fd.kwdefaults,fd.doc,fd.pyModule,fd.annotations,fd.code,fd.closureTuple,sl,?_,l,n⟩,i⟩,⟨h,m,o,e,c,s,j⟩,λus f=>Ii (Ae5.j r) (Af7.j a2) (Ae5.j a3) (Af7.j a4) d (c▸(Se _ _).nodup e) f⟩;cases fd;cases t;cases g;cases bi;cases k;cases d;rfl
noncomputable def gN:Option (Option Value)->Addr
|some (y0 (.j a))=>a
|_=>0
abbrev bZ(K:Frag)(c:String):Addr:=gN<|nsIn K mainGlobals<|Qd c
abbrev lO(K:Frag)(c:String):Prop:=nsIn K mainGlobals (Qd c)=y0 (y0<|.j<|bZ K c)
noncomputable def hB(K:Frag)(a:ri)(q:String):Addr:=match a.mt.find? (·.2.2==q)with
|some (c,m,_)=>gN<|findIn K (.j<|bZ K c)<|Qd m
|none=>match a.eP.find? (·.2==q)with
|some (c,_)=>gN<|findIn K (.j<|bZ K c) "__init__"
|none=>0
noncomputable def Mm(a:Scope):List Str:=a.j.Y λy=>if y.2=.local\/y.2=.y then y0 y.1 else u0
def XP(K:Frag)(a:M.de)(own:List String)(c:String):Prop:=((findIn K (.j<|bZ K c) "__getattribute__"=some (some<|.u "BaseException.__getattribute__")/\findIn K (.j<|bZ K c) "__getattr__"=some none/\findIn K (.j<|bZ K c) "__class__"=some (some<|.u "object.__class__"))∧
 specialIn K (.u "object.__class__") "__get__"=some (some<|.u "getset_descriptor.__get__")/\takesIn K (.u "object.__class__")=some true/\mroIn K (bZ K c) (.p "object")=some true/\mroIn K (bZ K c) (.p "BaseException")=some true/\kitCls K (.j<|bZ K c) (.j<|bZ K c)=some true/\(clsIn K<|bZ K c).w=true)∧
 (∀t∈own,kitOne K (.j<|bZ K c) (.j<|bZ K t)=some ((M.GS a 8 c).p t))/\kitOne K (.j<|bZ K c) (.p "ValueError")=some ((M.GS a 8 c).p "ValueError")/\lO K c
instance{K:Frag}{cl:M.de}{own:List String}{c:String}:Decidable<|XP K cl own c:=by unfold XP;infer_instance
def mF(K:Frag)(p:M.Prog)(g:Cg)(nm:List<|String×List String)(a:Addr)(f:String):Bool:=mn K a λfd b=>match p.u.j f with
|some d=>(λN=>k8 (me K a fd N/\N.e=d.n/\(dZ fd).e=d.ps/\d.ps<=d.n)&&cT ⟨g,fd.j,N⟩ d.body b)<|((nm.j f).u λl=>l.u Qd).getD<|Mm fd.j
|none=>u9
def zT{K:Frag}(mg)(h:mF K p g nm a f=k9):
 ∃d,p.u.j f=y0 d/\∃t:Txt K mg f,X1 t d g/\t.fa=a/\keepIn K (.j a)=k9/\∃M L sl,K.j a=y0 ⟨M,L,.func t.fd,sl⟩/\t.ps=dZ t.fd/\∀us:List Value,us.e=t.ps.e->bindArgs t.fd ⟨us,[]⟩=pure (t.ps.Z us):=by
 obtain⟨M,L,O,sl,b,l,u,h⟩:=oU h;cases e:p.u.j f with
|none=>rw[e]at h;cases h
|some d=>rw[e]at h;generalize ((nm.j f).u λl=>l.u Qd).getD _=N at h;obtain⟨r,i⟩:=(Aa9 _ _).mp h;obtain⟨q,v,o,m⟩:=FB r;obtain⟨n,x,s,rfl,k,F,j,c⟩:=vI l u q;rw[←k]at j i;exact⟨d,rfl,⟨n,a,O,_,dZ O⟩,⟨⟨x,s,F⟩,.all c,j,v,o,m,i⟩,rfl,F.kp,M,L,sl,l,rfl,c⟩
noncomputable def ue(f n m:Str)(b:List Stmt):Bool:=lC b λst r=>kZ r<|gY st λd v=>lC d λt r=>kZ r<|jR t λx g _=>qy x λa=>qy v λc=>k8 (a=n)&&k8 (g=f)&&k8 (c=m)
def EW(h:ue f n m b=k9):∃L p2 M O,b=[.j [.p (.j n L) f p2] (.j m M) O]:=by refine kC (λj r h=>?_) b h;refine kE (λh=>?_) r h;refine iA (λk v p h=>?_) j h;refine kC (λt r h=>?_) k h;refine kE (λh=>?_) r h;refine jT (λx g p h=>?_) t h;refine jy (λa p h=>?_) x h;refine jy (λc p h=>?_) v h;obtain⟨d,i,e⟩:=a3 h;cases FB d;cases FB i;cases FB e;exact⟨_,_,_,_,rfl⟩
def yT(K:Frag)(f:Str)(a:Addr):Bool:=mn K a λfd b=>match dZ fd with
|[n,m]=>k8 (me K a fd [n,m]/\(n==("__debug__":Str))=false/\(m==("__debug__":Str))=false/\(n==("__classdict__":Str))=false/\(m==("__classdict__":Str))=false)&&ue f n m b
|_=>u9
set_option tactic.hygienic true in
def LF{K:Frag}(h:yT K f a=k9)(y:isFn K (.j a)=k9):∃fd ps,QN K f a fd ps:=by
 obtain⟨A,z,fd,sl,b,l,u,h⟩:=oU h;split at h
 .rename_i n m e;obtain⟨s,o⟩:=(Aa9 _ _).mp h;obtain⟨q,d⟩:=FB s;obtain⟨p,x,t,rfl,g,F,c,i⟩:=vI l u q;obtain⟨v,r,w,j,k⟩:=EW o;rw[←g]at c;exact⟨fd,dZ fd,⟨x,t,p,_,n,m,v,r,w,j,F,e,rfl,c,k,d⟩,.all i,beq_iff_eq.j y⟩
 .cases h
noncomputable def rl(K:Frag)(a:Addr)(f:List Value->Bool):Bool:=match K.j a with
|some o=>(match o.j with
|.j b _=>k8 (o.cls=.p "tuple"/\o.u=none/\b.j<=100)&&f b.p
|_=>u9)
|none=>u9
set_option tactic.hygienic true in
def Nf(h:rl Y.K a f=k9):∃us,f us=k9/\∀vs,Vals vs us->∀G H,gQ Y G H a vs:=by
 unfold rl at h;split at h
 .rename_i o e;split at h
  .rename_i b n g;obtain⟨c,i⟩:=(Aa9 _ _).mp h;obtain⟨d,j,k⟩:=FB c;exact⟨_,i,λvs r G H=>.u ⟨o,b,n,e,d,j,g,Ac0 k<|by rw[OF];decide,r⟩⟩
  .cases h
 .cases h
def ym(h:oh u=y0 x):RelV x u:=by
 cases u<;>cases h<;>first|rfl|exact⟨_,rfl⟩
mutual
noncomputable def p7(K:Frag):M.D->Value->Bool
|.o i,u=>k8<|oh u=y0 (.o i)
|.m s,u=>k8<|oh u=y0 (.m<|ay s)
|.w _ fs,u=>k8 (u=.j (gN<|y0<|y0 u))&&(!fs.y&&tabLook flatLooks (λb=>K.j b) (gN<|y0<|y0 u) (i8 fs))
|.p ds,u=>k8 (u=.j (gN<|y0<|y0 u))&&rl K (gN<|y0<|y0 u) λus=>gr K ds us
|_,_=>u9
noncomputable def gr(K:Frag):List M.D->List Value->Bool
|[],[]=>k9
|d::ds,u::us=>p7 K d u&&gr K ds us
|_,_=>u9
end
def vQ(K:Frag)(x:String)(d:M.D):Bool:=match nsIn K mainGlobals (Qd x)with
|some (y0 u)=>p7 K d u
|_=>u9
mutual
theorem yF{Y:Ge}:∀{d:M.D}{u:Value},p7 Y.K d u=k9->∃v,RelV v u/\∀G H,az Y G H d v
|.o _,_,h=>⟨.o _,ym<|FB h,λ_ _=>rfl⟩
|.m _,_,h=>⟨.m _,ym<|FB h,λ_ _=>rfl⟩
|.L,_,h=>aW h
|.C _,_,h=>aW h
|.u _,_,h=>aW h
|.j _,_,h=>aW h
|.y ..,_,h=>aW h
|.w _ fs,u,h=>by obtain⟨h0,h⟩:=(Aa9 _ _).mp h;obtain⟨h1,h2⟩:=(Aa9 _ _).mp h;exact⟨.j _,FB (p:=u=_) h0,λ_ _=>.u ⟨λe=>(by rw[e]at h1;cases h1),_,rfl,h2⟩⟩
|.p ds,u,h=>by obtain⟨h0,h⟩:=(Aa9 _ _).mp h;obtain⟨us,h1,h2⟩:=Nf h;obtain⟨vs,r,h3⟩:=eY h1;exact⟨.j _,FB (p:=u=_) h0,λG H=>⟨_,vs,rfl,h2 vs r G H,h3 G H⟩⟩
theorem eY{Y:Ge}:∀{ds:List M.D}{us:List Value},gr Y.K ds us=k9->∃vs,Vals vs us/\∀G H,ai Y G H ds vs
|[],[],_=>⟨[],.p,λ_ _=>rfl⟩
|[],_::_,h=>aW h
|_::_,[],h=>aW h
|d::ds,u::us,h=>by obtain⟨h1,h2⟩:=(Aa9 _ _).mp h;obtain⟨v,r1,h3⟩:=yF h1;obtain⟨vs,r2,h4⟩:=eY h2;exact⟨v::vs,.j r1 r2,λG H=>⟨v,vs,rfl,h3 G H,h4 G H⟩⟩
end
theorem Bh:∀{l:List<|String×α}{x}{d},l.j x=y0 d->(x,d)∈l
|(k,v)::l,x,d,h=>by
  rw[Ab8]at h;by_cases q:(x==k)=k9
  .rw[q]at h;cases h;rw[eq_of_beq q];exact Aa
  .rw[Ov q]at h;exact Aa0 _<|Bh h
abbrev sj(K:Frag)(C:Addr):Prop:=plainGet K C Str.empty=true/\hasDictIn K C=true/\plainOver K C=true/\findIn K (.j C) "__setattr__"=some (some<|.u "object.__setattr__")
def o4(K:Frag)(p:M.Prog)(g:Cg)(nm:List<|String×List String):Prop:=
 (∀x∈b5,nsIn K mainGlobals (Qd x)=y0 u0)/\(∀x∈p.con,vQ K x.1 x.2=k9)/\(∀c∈g.j,lO K c)/\(∀c∈g.gi,XP K p.cl g.j c/\rS K (bZ K c)=k9)∧
 (∀c∈g.w.er,XP K p.cl g.j c.1/\(xX K (bZ K c.1)=true/\lN K (bZ K c.1)=true/\findIn K (.j<|bZ K c.1) "__setattr__"=some (some<|.u "object.__setattr__")/\findIn K (.j<|bZ K c.1) (Qd c.2)=some none/\keepIn K (.j<|bZ K c.1)=true)∧
   findIn K (.j<|bZ K c.1) "__init__"=some (some<|.j<|gN<|findIn K (.j<|bZ K c.1) "__init__")/\yT K (Qd c.2) (gN<|findIn K (.j<|bZ K c.1) "__init__")=true/\isFn K (.j<|gN<|findIn K (.j<|bZ K c.1) "__init__")=true)∧
 (∀c∈g.dX,mroIn K (bZ K c) (.p "BaseException")=some true/\g.j.p c=true)∧
 (∀c∈g.w.fl,sj K (bZ K c.1)/\findIn K (.j<|bZ K c.1) (Qd c.2)=y0 u0)∧
 (∀c∈g.w.mt,sj K (bZ K c.1)/\g.w.ms.p c.2.2=k9/\findIn K (.j<|bZ K c.1) (Qd c.2.1)=y0 (y0<|.j<|hB K g.w c.2.2)/\isFn K (.j<|hB K g.w c.2.2)=k9/\keepIn K (.j<|hB K g.w c.2.2)=k9)∧
 (∀c∈g.w.eP,lO K c.1/\g.w.ms.p c.2=true/\makesIn K (bZ K c.1)=true/\findIn K (.j<|bZ K c.1) "__init__"=some (some<|.j<|hB K g.w c.2)/\isFn K (.j<|hB K g.w c.2)=true/\keepIn K (.j<|bZ K c.1)=true)∧
 (∀f∈g.u,lO K f/\mF K p g nm (bZ K f) f=true)/\(∀q∈g.w.ms,mF K p g nm (hB K g.w q) q=true)/\(∀f∈g.qf,lO K f/\mF K p g.z nm (bZ K f) f=true)/\(∀f∈g.qh,lO K f/\mF K p g.h nm (bZ K f) f=true)/\g.uh=false/\g.u.p "law"=true/\mn K (bZ K "law") (fun fd _=>decide<|dZ fd=[("_law_script":Str)])=true
set_option synthInstance.maxSize 1000 in
instance{K:Frag}{p:M.Prog}{g:Cg}{nm:List<|String×List String}:Decidable<|o4 K p g nm:=by unfold o4;infer_instance
def zv  [BEq α][LawfulBEq α]{l:List α}(h:l.p x=k9):x∈l:=Ad8.j h
def XP.ok {K:Frag}{p:M.Prog}(h:XP K p.cl own c):dO ⟨K,bZ K,p.cl,own,hB K ob⟩ c:=by obtain⟨⟨⟨e,a2,a3⟩,a4,a5,a6,a7,a,d⟩,b,c,_⟩:=h;exact⟨⟨e,a2,a3,a4,a5,a6,a7,a,d⟩,b,c⟩
set_option tactic.hygienic true in
def kq{l:OpenLaw}{K:Frag}(p)(g)(nm)(k)(X:K.In h)(G:h.Ns mainGlobals mg)(O:mg "law"=some (.j fa))(T:decide (o4 K p g nm)=true)
 (gE:∀ns:List Int,ns.e<=63->∃h',M.call p (k+1) "law" [.v (.u<|ns.u .o)] []=.j (.v<|.C true) h'):
 ∃fd:FuncData,(∀s v,BindsTo s fd ⟨[v],[]⟩ [("_law_script",v)])/\∀base:Heap,K.In base->base.Ns mainGlobals mg->bj l.prog w K mg base mS (2*k+3+2) fa fd ["_law_script"] (oP K):=by
 obtain⟨t1,t0,t2,t3,t4,t5,t6,t7,t8,Q,S,U,th,V,H,L⟩:=FB T;have W:dm ⟨K,bZ K,p.cl,g.j,hB K g.w⟩ p mg g:=by
  refine⟨rfl,rfl,λx hx=>mg_none_of X G<|t1 x hx,λx d j=>?_,λc a=>mg_of X G<|t2 c<|zv a,λc a=>?_,λc f a=>?_,λc a=>t5 c<|zv a,λc f a=>?_,λc m q a=>?_,λc q a=>?_⟩
  .have z:=t0 _<|Bh j;unfold vQ at z;split at z
   .rename_i u e;obtain⟨v,r⟩:=yF (Y:=⟨K,bZ K,p.cl,g.j,hB K g.w⟩) z;exact⟨u,v,mg_of X G e,r⟩
   .cases z
  .have z:=t3 c<|zv a;exact⟨z.1.ok,z.2,mg_of X G z.1.2.2.2⟩
  .obtain⟨z,⟨B,y,C,o,A⟩,E,R,N⟩:=t4 (c,f)<|zv a;obtain⟨fd,ps,i⟩:=LF R N;exact⟨z.ok,⟨y,o,z.1.1.1,z.1.1.2.1⟩,⟨B,y,C,o,A⟩,mg_of X G z.2.2.2,_,fd,ps,E,i⟩
  .obtain⟨⟨B,y,C,o⟩,A⟩:=t6 (c,f)<|zv a;exact⟨⟨B,y,C,o⟩,A⟩
  .obtain⟨⟨B,y,C,o⟩,A,E,R,N⟩:=t7 (c,m,q)<|zv a;exact⟨⟨B,y,C,o⟩,A,E,R,N⟩
  .obtain⟨B,y,C,o,A,E⟩:=t8 (c,q)<|zv a;exact⟨mg_of X G B,y,C,o,A,E⟩
 have F:∀f,g.u.p f=k9->mg (Qd f)=y0 (.j<|bZ K f):=λf n=>mg_of X G (Q f<|zv n).1;have e:bZ K "law"=fa:=by have:=(F "law" H).j.x O;cases this;rfl
 obtain⟨d,j,t,ok,b,D,oc,od,sl,lk,Z,bd⟩:=zT mg (Q "law"<|zv H).2;obtain⟨_,_,fd,_,_,I,_,z⟩:=oU L;rw[lk]at I;cases I;have z:=Z.x<|FB z;refine⟨t.fd,λs v=>.of_eq<|(bd [v]<|by rw[z];rfl).x<|by rw[z];rfl,λbase _ _=>?_⟩;have J:=L1 (P:=l.prog) (w:=w) (base:=base) W V (λf n=>by
  obtain⟨d,j,t,ok,b,D,_⟩:=zT mg (Q f<|zv n).2;exact⟨d,j,t,ok,b▸D,b▸F f n⟩) (λf n=>by
  obtain⟨d,j,t,ok,b,D,_⟩:=zT mg (U f<|zv n).2;exact⟨d,j,t,ok,b▸D,b▸mg_of X G (U f<|zv n).1⟩) (λf n=>by
  obtain⟨d,j,t,ok,b,D,_⟩:=zT mg (th f<|zv n).2;exact⟨d,j,t,ok,b▸D,b▸mg_of X G (th f<|zv n).1⟩) (λq hq=>by
  obtain⟨d,j,t,ok,b,_⟩:=zT mg<|S q<|zv hq;exact⟨d,j,t,ok,b⟩) k
 have:=EM (nG W ok j k _ V (λ_=>(L2 _ _)) (λ_ _=>(L2 _ _)) J.1 J.2.1 J.2.2.1 J.2.2.2) gE;rw[b,e,z]at this;exact this
end Lake.MS
namespace Wf
def oB(n:Nat)(a:List<|Nat×Nat):Prop:=∀p∈a,p.1<n/\p.2<n
inductive TC(n t a:Nat):Nat->Prop
|step {b:Nat}:a<n->b<n->t.j (a*n+b)=k9->TC n t a b
|more {b c:Nat}:TC n t a b->b<n->c<n->t.j (b*n+c)=k9->TC n t a c
structure Oc(n t r:Nat):Prop where
 lt:r<2^(n*n)
 bit:∀a b,a<n->b<n->(r.j (a*n+b)=k9↔TC n t a b)
structure N7(n t r:Nat):Prop where
 lt:r<2^(n*n)
 sub:∀a b,a<n->b<n->r.j (a*n+b)=k9->TC n t a b
 sup:∀k,t.j k=k9->r.j k=k9
structure Oa(n t a:Nat)(re wa:List Nat):Prop where
 an:a<n
 nd:re.C
 tc:∀x∈re,TC n t a x
 wl:∀x∈wa,x<n/\(x=a\/x∈re)
 cl:∀x,(x=a\/x∈re)->x∉wa->∀b,b<n->t.j (x*n+b)=k9->b∈re
structure Lk(n t a:Nat)(re wa:List Nat)(h b:Nat):Prop where
 an:a<n
 nd:re.C
 tc:∀x∈re,TC n t a x
 wl:∀x∈wa,x<n/\(x=a\/x∈re)
 cl:∀x,(x=a\/x∈re)->x∉wa->x≠h->∀b,b<n->t.j (x*n+b)=k9->b∈re
 hn:h<n
 hr:h=a\/h∈re
 hb:∀b',b'<b->t.j (h*n+b')=k9->b'∈re
end Wf
namespace Lake.M
open M renaming D.str->Lake.M.D.m,D.int->Lake.M.D.o,D.tup->Lake.M.D.p,E.str->Lake.M.E.m,E.int->Lake.M.E.o,E.tup->Lake.M.E.p,E.call->Lake.M.E.j,E.lst->Lake.M.E.u,E.bin->Lake.M.E.w,E.cmp->Lake.M.E.y,E.bl->Lake.M.E.C,E.ix->Lake.M.E.G,E.aj->Lake.M.E.L,E.comp->Lake.M.E.Q,E.con->Lake.M.E.T,E.bi->Lake.M.E.U,E.share->Lake.M.E.a1,E.not->Lake.M.E.a2,Ty.str->Lake.M.Ty.m,Bi.int->Lake.M.Bi.o,Bi.len->Lake.M.Bi.p,Bi.tuple->Lake.M.Bi.A,Bi.sorted->Lake.M.Bi.j,Es.cons->Lake.M.Es.j,Es.nil->Lake.M.Es.p,Ss.cons->Lake.M.Ss.j,Ss.nil->Lake.M.Ss.p,Op.add->Lake.M.Op.j,Op.mod->Lake.M.Op.p,Op.mul->Lake.M.Op.u,Op.fdiv->Lake.M.Op.w,Op.sub->Lake.M.Op.y,S.ret->Lake.M.S.j,S.set->Lake.M.S.B,S.ag->Lake.M.S.p,S.iff->Lake.M.S.u,S.raise->Lake.M.S.w,Cp.eq->Lake.M.Cp.j,Cp.mem->Lake.M.Cp.p,Cp.lt->Lake.M.Cp.u,It.seq->Lake.M.It.j
noncomputable abbrev kO:Tx:=[97,98,99,100,101,102,103,104,105,106,107,108,109,110,111,112,113,114,115,116,117,118,119,120,121,122]
noncomputable abbrev dW:Tx:=[107,105,110,100,32]
abbrev eG:Tx:=[108,101,97,115,116]
abbrev eE:Tx:=[109,111,115,116]
noncomputable abbrev ew:Tx:=[116,105,101,32]
abbrev ft:Tx:=[115,111,109,101]
abbrev c7:Tx:=[105,110]
noncomputable abbrev dM:Tx:=[115,97,121]
abbrev kD:Tx:=[106,111,105,110,101,100]
abbrev ia:Tx:=[101,113,117,97,108]
abbrev fj:Tx:=[110,111,116]
abbrev fX:Tx:=[101,97,99,104]
abbrev XJ:Tx:=[122,113]
noncomputable abbrev wJ:Tx:=[122,122]
noncomputable abbrev eU:Tx:=[116,105,101]
abbrev fm:Tx:=[97,110,100]
abbrev iD:Tx:=[110,111,110,101]
abbrev hU:Tx:=[115,97,109,101]
noncomputable abbrev hV:Tx:=[107,105,110,100]
abbrev km:Tx:=[108,101,115,115]
abbrev rN:Tx:=[101,97,99,104,108,101,97,115,116]
abbrev eV:Tx:=[111,114]
abbrev fy:Tx:=[110,111]
abbrev nv:Tx:=[108,101,116,116,101,114]
abbrev og:Tx:=[102,105,103,117,114,101]
abbrev rH:Tx:=[101,97,99,104,109,111,115,116]
noncomputable abbrev mT:Tx:=[48,49,50,51,52,53,54,55,56,57]
abbrev hY:Tx:=[97,108,108]
abbrev oa:Tx:=[99,108,111,115,101,100]
noncomputable abbrev ph:Tx:=[101,97,99,104,32,108,101,97,115,116,32]
noncomputable abbrev kX:Tx:=[112,108,117,115]
abbrev lX:Tx:=[98,108,97,110,107]
abbrev lz:Tx:=[98,111,116,104]
noncomputable abbrev kI:Tx:=[110,111,116,32]
noncomputable abbrev pL:Tx:=[101,97,99,104,32,109,111,115,116,32]
noncomputable abbrev sd:Tx:=[115,97,121,32,110,111,32,115,97,109,101,32,97,110,100]
noncomputable abbrev vd:Tx:=[107,105,110,100,32,97,98,99,100,101,102,103,104,105]
abbrev oW:Tx:=[116,117,114,110,101,100]
noncomputable abbrev sC:Tx:=[115,97,121,32,115,111,109,101,32,122,113]
abbrev n4:Tx:=[110,97,109,101]
noncomputable abbrev yY:Tx:=[32,43,45,38,46,126,94,40,41,91,93,61]
noncomputable abbrev lS:Tx:=[32,105,110,32]
noncomputable abbrev lU:Tx:=[115,97,121,32]
noncomputable abbrev uN:Tx:=[107,105,110,100,32,115,111,109,101]
noncomputable abbrev A6:Tx:=[43,45,38,46,126,94,40,41,91,93,61]
noncomputable abbrev oJ:Tx:=[108,101,97,115,116,32]
noncomputable abbrev oQ:Tx:=[109,111,115,116,32]
noncomputable abbrev S.r (c x:E):S:=.u c (.j (.j x) .p) .p
noncomputable abbrev E.v0:E:=.var 0
open M renaming E.v0->Lake.M.E.A
abbrev E.v1:E:=.var 1
open M renaming E.v1->Lake.M.E.B
noncomputable abbrev E.v2:E:=.var 2
open M renaming E.v2->Lake.M.E.J
abbrev E.v3:E:=.var 3
open M renaming E.v3->Lake.M.E.N
abbrev E.v4:E:=.var 4
open M renaming E.v4->Lake.M.E.Y
abbrev E.v5:E:=.var 5
abbrev E.v6:E:=.var 6
abbrev E.v7:E:=.var 7
abbrev E.v8:E:=.var 8
abbrev E.v9:E:=.var 9
abbrev E.i0:E:=.o 0
abbrev E.i1:E:=.o 1
open M renaming E.i1->Lake.M.E.Z
abbrev E.i2:E:=.o 2
abbrev E.i3:E:=.o 3
abbrev E.i4:E:=.o 4
abbrev Es.a (x:E):Es:=.j x .p
noncomputable abbrev Es.b (x y:E):Es:=.j x<|.j y .p
noncomputable abbrev Es.c (x y z:E):Es:=.j x<|.j y<|.j z .p
noncomputable abbrev Es.d (x y z u:E):Es:=.j x<|.j y<|.j z<|.j u .p
noncomputable abbrev Es.f (x y z u v:E):Es:=.j x<|.j y<|.j z<|.j u<|.j v .p
noncomputable abbrev Es.g (x y z u v w:E):Es:=.j x<|.j y<|.j z<|.j u<|.j v<|.j w .p
noncomputable abbrev Ss.a (x:S):Ss:=.j x .p
noncomputable abbrev Ss.b (x y:S):Ss:=.j x<|.j y .p
noncomputable abbrev Ss.c (x y z:S):Ss:=.j x<|.j y<|.j z .p
noncomputable abbrev Ss.d (x y z u:S):Ss:=.j x<|.j y<|.j z<|.j u .p
noncomputable abbrev Ss.f (x y z u v:S):Ss:=.j x<|.j y<|.j z<|.j u<|.j v .p
noncomputable abbrev Ss.g (x y z u v w:S):Ss:=.j x<|.j y<|.j z<|.j u<|.j v<|.j w .p
noncomputable abbrev Ss.h (x y z u v w a:S):Ss:=.j x<|.j y<|.j z<|.j u<|.j v<|.j w<|.j a .p
noncomputable abbrev Ss.k (x y z u v w a b:S):Ss:=.j x<|.j y<|.j z<|.j u<|.j v<|.j w<|.j a<|.j b .p
def Qg:E:=.Q [0] k9 1 [] (.j .A) u9 (.C k9)<|.y .p .A<|.T "FIGURES"
noncomputable def xB:Fn:=⟨2,2,.b (.r (.or (.a2<|.chain .le .le .Z (.U .p<|.a .A) .B)<|.a2<|.U .all<|.a Qg)<|.C u9)<|.j<|.or (.y .j .A<|.m [48])<|.a2<|.cJ .starts .A<|.a<|.m [48]⟩
def XZ:E:=.Q [0] k9 1 [] (.j .A) u9 (.C k9)<|.y .p .A<|.T "LETTERS"
noncomputable def WY:Fn:=⟨1,1,.b (.r (.or (.a2<|.cN .A .m)<|.a2<|.chain .le .le .Z (.U .p<|.a .A)<|.T "MOST_LETTERS")<|.C false)<|.j<|.U .all<|.a XZ⟩
def qG:Fn:=⟨1,1,.a<|.j<|.and (.j "is_word"<|.a .A)<|.y .br .A<|.T "TAKEN"⟩
def jn:E:=.Q [0] k9 1 [] (.j .J) u9 (.C k9)<|.j "is_name"<|.a .A
noncomputable def wK:Fn:=⟨2,3,.f (.p 2<|.w .j (.U .list<|.a .A)<|.U .list<|.a .B) (.u (.a2<|.U .all<|.a jn) (.a<|.w "NoName"<|.a<|.m [97,32,110,97,109,101,32,105,115,32,111,110,101,32,116,111,32,101,105,103,104,116,32,115,109,97,108,108,32,108,101,116,116,101,114,115,32,97,110,100,32,110,111,32,116,97,107,101,110,32,119,111,114,100]) .p) (.u (.y .u (.dH .J)<|.U .p<|.a .J) (.a<|.w "NoName"<|.a<|.m [97,32,110,97,109,101,32,105,115,32,116,111,108,100,32,111,110,99,101]) .p) (.u (.or (.y .gt (.U .p<|.a .A)<|.T "MOST_NAMES")<|.y .gt (.U .p<|.a .B)<|.T "MOST_NAMES") (.a<|.w "NoName"<|.a<|.m [116,104,101,114,101,32,97,114,101,32,97,116,32,109,111,115,116,32,102,111,117,114,32,107,105,110,100,115,32,97,110,100,32,102,111,117,114,32,116,105,101,115]) .p)<|.j<|.p<|.b (.U .A<|.j (.dr .A) .p)<|.U .A<|.j (.dr .B) .p⟩
noncomputable def Qu:Fn:=⟨2,2,.b (.u (.y .gt (.U .p<|.a .B)<|.T "MOST_SAYINGS") (.a<|.w "Crowded"<|.a<|.m [97,32,116,104,101,111,114,121,32,104,97,115,32,97,116,32,109,111,115,116,32,116,119,101,108,118,101,32,115,97,121,105,110,103,115]) .p)<|.j<|.p<|.b .A<|.U .A<|.a .B⟩
noncomputable def wo:Fn:=⟨1,1,.j (.r (.y .p .A<|.T "LETTERS")<|.m nv)<|.j (.r (.y .p .A<|.T "FIGURES")<|.m og)<|.j (.r (.y .p .A<|.T "SINGLE_SIGNS")<|.m [115,105,110,103,108,101])<|.j (.r (.y .j .A<|.m [32])<|.m lX)<|.a<|.bC "NoText" "row" .L⟩
def xh:Ss:=.c (.p 4<|.j "sort_of_sign"<|.a .N) (.u (.and (.y .j .Y .J)<|.y .p .Y<|.p<|.b (.m nv)<|.m og) (.a<|.ez 1 (.neg .Z)<|.w .j (.G .B<|.neg .Z) .N)<|.a<|.u (.y .ne .Y<|.m lX) (.a<|.app 1 .N) .p)<|.p 2 .Y
def Wz:Fn:=⟨1,5,.d (.B 1<|.u .p) (.p 2<|.m lX) (.for [3] k9 (.j .A) xh)<|.j .B⟩
noncomputable def zB:Fn:=⟨1,1,.b (.u (.y .j .A<|.T "MOST_WITHIN") (.a<|.bC "NoText" "row" .L) .p)<|.j<|.w .j .A .Z⟩
noncomputable def Qp:Fn:=⟨3,3,.c (.b4 0 "Reader" "names"<|.w .j (.G .B .i0)<|.G .B .Z) (.b4 0 "Reader" "signs" .J)<|.b4 0 "Reader" "place" .i0⟩
noncomputable def Zx:Fn:=⟨1,1,.b (.r (.y .u (.bY .A "Reader" "place")<|.U .p<|.j (.bY .A "Reader" "signs") .p)<|.G (.bY .A "Reader" "signs")<|.bY .A "Reader" "place")<|.j<|.m []⟩
noncomputable def xy:Fn:=⟨1,2,.c (.p 1<|.aI .A "Reader" "here" "Reader.here" .p) (.b4 0 "Reader" "place"<|.w .j (.bY .A "Reader" "place") .Z)<|.j .B⟩
noncomputable def Wh:Fn:=⟨2,2,.a<|.u (.y .ne (.aI .A "Reader" "take" "Reader.take" .p) .B) (.a<|.bC "NoText" "row" .L) .p⟩
def JA:E:=.y .j (.aI .A "Reader" "here" "Reader.here" .p)<|.m eV
noncomputable def qz:Ss:=.b (.ex<|.aI .A "Reader" "take" "Reader.take" .p)<|.p 2<|.p<|.j (.m eV)<|.j .J<|.j (.aI .A "Reader" "part" "Reader.part"<|.a .B) .p
def qI:Fn:=⟨2,3,.c (.p 2<|.aI .A "Reader" "part" "Reader.part"<|.a .B) (.e8 100000 JA qz)<|.j .J⟩
def ZH:E:=.y .j (.aI .A "Reader" "here" "Reader.here" .p)<|.m fm
noncomputable def zE:Ss:=.b (.ex<|.aI .A "Reader" "take" "Reader.take" .p)<|.p 2<|.p<|.j (.m fm)<|.j .J<|.j (.aI .A "Reader" "unit" "Reader.unit"<|.a .B) .p
def xP:Fn:=⟨2,3,.c (.p 2<|.aI .A "Reader" "unit" "Reader.unit"<|.a .B) (.e8 100000 ZH zE)<|.j .J⟩
def bR:Fn:=⟨2,3,.c (.u (.y .j (.aI .A "Reader" "here" "Reader.here" .p)<|.m fj) (.b (.ex<|.aI .A "Reader" "take" "Reader.take" .p)<|.j<|.p<|.j (.m fj)<|.j (.aI .A "Reader" "unit" "Reader.unit"<|.a<|.j "one_deeper"<|.a .B) .p) .p) (.u (.y .j (.aI .A "Reader" "here" "Reader.here" .p)<|.m [91]) (.d (.ex<|.aI .A "Reader" "take" "Reader.take" .p) (.p 2<|.aI .A "Reader" "saying" "Reader.saying"<|.a<|.j "one_deeper"<|.a .B) (.ex<|.aI .A "Reader" "take_just" "Reader.take_just"<|.a<|.m [93])<|.j .J) .p)<|.j<|.aI .A "Reader" "fact" "Reader.fact"<|.a .B⟩
noncomputable def bT:Fn:=⟨2,3,.f (.p 2<|.aI .A "Reader" "here" "Reader.here" .p) (.u (.y .p .J<|.p<|.b (.m ft)<|.m fy) (.b (.ex<|.aI .A "Reader" "take" "Reader.take" .p)<|.j<|.p<|.j .J<|.j (.aI .A "Reader" "expression" "Reader.expression"<|.a .B) .p) .p) (.r (.y .p .J<|.p<|.b (.m eG)<|.m eE)<|.aI .A "Reader" "count_fact" "Reader.count_fact"<|.b (.m []) .B) (.u (.y .j .J<|.m fX) (.b (.ex<|.aI .A "Reader" "take" "Reader.take" .p)<|.j<|.aI .A "Reader" "count_fact" "Reader.count_fact"<|.b (.m fX) .B) .p)<|.j<|.aI .A "Reader" "pair_fact" "Reader.pair_fact"<|.a .B⟩
noncomputable def aZ:Fn:=⟨3,5,.d (.p 3<|.aI .A "Reader" "take" "Reader.take" .p) (.u (.y .br .N<|.p<|.b (.m eG)<|.m eE) (.a<|.bC "NoText" "row" .L) .p) (.p 4<|.aI .A "Reader" "limit" "Reader.limit" .p)<|.j<|.p<|.j (.w .j .B .N)<|.j .Y<|.j (.aI .A "Reader" "expression" "Reader.expression"<|.a .J) .p⟩
def bJ:Fn:=⟨1,2,.c (.p 1<|.aI .A "Reader" "take" "Reader.take" .p) (.u (.a2<|.j "is_written"<|.b .B<|.T "MOST_FIGURES") (.a<|.bC "NoText" "row" .L) .p)<|.j<|.bV .B⟩
noncomputable def bf:Fn:=⟨2,4,.d (.p 2<|.aI .A "Reader" "expression" "Reader.expression"<|.a .B) (.p 3<|.aI .A "Reader" "take" "Reader.take" .p) (.u (.y .br .N<|.p<|.b (.m c7)<|.m [61]) (.a<|.bC "NoText" "row" .L) .p)<|.j<|.p<|.j (.fT "SORTS" .N)<|.j .J<|.j (.aI .A "Reader" "expression" "Reader.expression"<|.a .B) .p⟩
def jd:E:=.y .p (.aI .A "Reader" "here" "Reader.here" .p)<|.p<|.b (.m [43])<|.m [45]
noncomputable def zd:Ss:=.b (.p 3<|.fT "SORTS"<|.aI .A "Reader" "take" "Reader.take" .p)<|.p 2<|.p<|.j .N<|.j .J<|.j (.aI .A "Reader" "term" "Reader.term"<|.a .B) .p
def a8:Fn:=⟨2,4,.c (.p 2<|.aI .A "Reader" "term" "Reader.term"<|.a .B) (.e8 100000 jd zd)<|.j .J⟩
def ZF:E:=.y .j (.aI .A "Reader" "here" "Reader.here" .p)<|.m [38]
noncomputable def JF:Ss:=.b (.ex<|.aI .A "Reader" "take" "Reader.take" .p)<|.p 2<|.p<|.j (.m lz)<|.j .J<|.j (.aI .A "Reader" "factor" "Reader.factor"<|.a .B) .p
def XN:Fn:=⟨2,3,.c (.p 2<|.aI .A "Reader" "factor" "Reader.factor"<|.a .B) (.e8 100000 ZF JF)<|.j .J⟩
def wz:E:=.y .j (.aI .A "Reader" "here" "Reader.here" .p)<|.m [46]
noncomputable def jz:Ss:=.b (.ex<|.aI .A "Reader" "take" "Reader.take" .p)<|.p 2<|.p<|.j (.m kD)<|.j .J<|.j (.aI .A "Reader" "atom" "Reader.atom"<|.a .B) .p
def jH:Fn:=⟨2,3,.c (.p 2<|.aI .A "Reader" "atom" "Reader.atom"<|.a .B) (.e8 100000 wz jz)<|.j .J⟩
def bx:Fn:=⟨2,4,.j (.p 2<|.aI .A "Reader" "take" "Reader.take" .p)<|.j (.r (.y .p .J<|.p<|.b (.m [126])<|.m [94])<|.p<|.j (.fT "SORTS" .J)<|.j (.aI .A "Reader" "atom" "Reader.atom"<|.a<|.j "one_deeper"<|.a .B) .p)<|.j (.u (.y .j .J<|.m [40]) (.c (.p 3<|.aI .A "Reader" "expression" "Reader.expression"<|.a<|.j "one_deeper"<|.a .B) (.ex<|.aI .A "Reader" "take_just" "Reader.take_just"<|.a<|.m [41])<|.j .N) .p)<|.j (.r (.y .p .J<|.p<|.c (.m hU) (.m hY)<|.m iD)<|.p<|.a .J)<|.j (.r (.y .p .J<|.bY .A "Reader" "names")<|.p<|.b (.m n4) .J)<|.a<|.bC "NoText" "row" .L⟩
def zk:Fn:=⟨2,5,.g (.u (.a2<|.cN .B .m) (.a<|.bC "NoText" "row" .L) .p) (.p 2<|.j "signs_of"<|.a .B) (.p 3<|.make "Reader" "Reader.__init__"<|.b .A .J) (.p 4<|.aI .N "Reader" "saying" "Reader.saying"<|.a .i0) (.u (.y .u (.bY .N "Reader" "place")<|.U .p<|.a .J) (.a<|.bC "NoText" "row" .L) .p)<|.j .Y⟩
noncomputable def ZB:Fn:=⟨1,3,.b (.gk [1,2] .A)<|.j<|.w .j (.w .j (.U .p<|.a<|.G .B .i0)<|.U .p<|.a<|.G .B .Z)<|.U .p<|.a .J⟩
def ZI:Fn:=⟨2,7,.j (.gk [2,3] .A)<|.j (.u (.a2<|.cN .B .m) (.a<|.bC "NoText" "row" .L) .p)<|.j (.gk [4,5,6]<|.cJ .part .B<|.a<|.m [32])<|.j (.r (.y .j .Y<|.m dM)<|.j "theory_of"<|.b .J<|.w .j .N<|.p<|.a<|.j "read_saying"<|.b .J .v6)<|.j (.r (.and (.y .j .Y<|.m hV)<|.y .j .N<|.p .p)<|.j "theory_of"<|.b (.j "words_of"<|.b (.w .j (.G .J .i0)<|.p<|.a .v6)<|.G .J .Z)<|.p .p)<|.j (.r (.and (.y .j .Y<|.m eU)<|.y .j .N<|.p .p)<|.j "theory_of"<|.b (.j "words_of"<|.b (.G .J .i0)<|.w .j (.G .J .Z)<|.p<|.a .v6)<|.p .p)<|.a<|.bC "NoText" "row" .L⟩
def xz:Fn:=⟨2,2,.j (.gs "taken" (.b .A .B) "WorldError" "NoText" "row" "rows_taken"<|.a .A) .p⟩
def xl:Ss:=.a<|.p 1<|.j "with_row"<|.b .B .J
def Wp:Fn:=⟨1,3,.c (.p 1<|.T "EMPTY") (.for [2] true (.j .A) xl)<|.j .B⟩
def JK:Fn:=⟨2,2,.a<|.j<|.U .sum<|.a<|.sl .A .B<|.w .j .B .Z⟩
def Zv:Fn:=⟨2,3,.c (.p 2<|.j "_law_cell"<|.b .A .B) (.r (.y .j (.w .p (.j "_law_cell"<|.b .A .i0) .i2) .Z)<|.u<|.c (.w .w .J<|.G (.u<|.b .Z .i2)<|.U .o<|.a<|.y .j .B .i0) .Z<|.o 60)<|.j<|.u<|.c (.w .j (.w .p .J<|.o 1000000093)<|.o 5) .i0<|.o 900⟩
noncomputable def Zz:Fn:=⟨2,4,.g (.bH .A .i2<|.w .y (.G .A .i2) .Z) (.r (.y .u (.G .A .i2) .i0) .i0) (.u (.y .j (.G .A .Z) .Z) (.c (.p 2<|.w .p (.G .A .i0) .B) (.bH .A .i0<|.w .w (.G .A .i0) .B)<|.j .J) .p) (.bH .A .i0<|.w .p (.w .j (.w .j (.w .u (.G .A .i0)<|.o 48817)<|.w .u (.o 65029)<|.G .A .i2)<|.o 501)<|.o 1000000093) (.p 3<|.w .p (.w .u (.G .A .i0)<|.w .j (.w .w (.G .A .i0)<|.o 2053)<|.o 613)<|.o 998244353)<|.j<|.w .p (.w .p (.w .j (.w .u .N .N)<|.G .A .i0)<|.o 1000000087) .B⟩
noncomputable def zo:E:=.Q [0] k9 1 [5,6,2,3] (.aQ .B) u9 (.C k9)<|.w .j (.w .j (.d9 .B .J)<|.G .N<|.w .p (.w .j (.w .j .Y .Z)<|.w .u .i3 .A)<|.o 26)<|.d3 .B .J
noncomputable def jo:E:=.Q [0] k9 1 [4,3] (.aQ .B) u9 (.C k9)<|.G .B<|.w .p (.w .j .J<|.w .u .i3 .A)<|.o 16
noncomputable def xo:E:=.Q [0] k9 1 [2,3] (.aQ .B) u9 (.C k9)<|.d9 (.w .j (.m [113])<|.w .u (.G .B .J)<|.o 7)<|.w .j .A .Z
noncomputable def qo:E:=.Q [0] k9 1 [2,3,0] (.aQ .B) u9 (.C k9)<|.G .B<|.w .p (.w .j .J<|.w .u (.w .j .Z<|.w .u .i2<|.w .p (.w .w .N<|.o 104)<|.o 6) .A)<|.o 26
def qB:Fn:=⟨2,7,.k (.p 2<|.m kO) (.p 3<|.w .p (.w .w .A .i4)<|.o 26) (.r (.y .j (.w .p .A .i4) .i0) qo) (.r (.y .j (.w .p .A .i4) .Z) xo) (.u (.y .j (.w .p .A .i4) .i2) (.c (.p 4<|.u<|.j (.m [110,111,116,97])<|.j (.m [111,114,98])<|.j (.m [97,110,100,121])<|.j (.m [105,110,110])<|.j (.m [97,108,108,115])<|.j (.m [115,97,109,101,121])<|.g (.m [110,111,110,101,97]) (.m [101,97,99,104,115]) (.m [108,101,97,115,116,115]) (.m [109,111,115,116,121]) (.m [115,111,109,101,115])<|.m [110,111,97]) (.p 4<|.w .j .Y<|.u<|.d (.m [107,105,110,100,97]) (.m [116,105,101,115]) (.m [115,97,121,115])<|.m [105])<|.j jo) .p) (.p 5<|.d9 (.w .j (.m [113])<|.w .u (.G .J .N)<|.o 6)<|.w .j .Z<|.w .p (.w .w .A<|.o 104)<|.o 7) (.p 6<|.w .p (.w .w .A<|.o 728)<|.w .j (.U .p<|.a .v5) .Z)<|.j zo⟩
def Xf:E:=.Q [0] k9 1 [4,5] (.j .v9) k9 (.y .br .A<|.w .j .B .J) .A
def Qi:E:=.Q [0] k9 1 [8] (.j .N) u9 (.C k9)<|.w .j (.d9 .B<|.o 7) .A
def Zf:E:=.Q [0] k9 1 [3,6] (.aQ .v7) u9 (.C k9)<|.G .B<|.j "_law_next"<|.b .J<|.o 26
def ze:Ss:=.d (.p 7<|.w .j .Z<|.j "_law_next"<|.b .v6<|.o 8) (.p 8<|.cJ .join (.m [])<|.a Zf) (.u (.y .p .v8<|.w .j .Y .v5) (.b (.p 9 Qi)<|.p 8<|.G Xf .i0) .p)<|.app 5 .v8
def Jk:Fn:=⟨3,10,.f (.p 3<|.m kO) (.p 4<|.u<|.j (.m ft)<|.j (.m fy)<|.j (.m eG)<|.j (.m eE)<|.j (.m fX)<|.j (.m c7)<|.j (.m fm)<|.j (.m eV)<|.g (.m fj) (.m hU) (.m hY) (.m iD) (.m hV)<|.m eU) (.B 5<|.u<|.a<|.m dM) (.for [6] k9 (.j<|.w .j (.w .u (.u<|.j (.a1<|.j "_law_purse"<|.b .A .Z) .p) .B)<|.w .u (.u<|.j (.a1<|.j "_law_purse"<|.b .A .i2) .p) .J) ze)<|.j<|.d3 .v5 .Z⟩
def xv:Fn:=⟨1,6,.k (.B 1<|.a1<|.j "_law_purse"<|.b .A .i0) (.p 2<|.j "_law_next"<|.b .B<|.o 5) (.p 3<|.j "_law_next"<|.b .B<|.o 5) (.p 4<|.j "_law_next"<|.b .B<|.w .pow (.o 10)<|.o 8) (.p 5<|.j "_law_family"<|.b (.w .w .Y .i2)<|.w .j .J .N) (.u (.y .j (.w .p .Y .i2) .Z) (.a<|.p 5<|.rev .v5) .p) (.u (.y .j (.w .p (.j "_law_cell"<|.b .A .i0) .i2) .Z) (.a<|.p 5<|.j "_law_any_names"<|.c .A .J .N) .p)<|.j<|.p<|.b (.U .A<|.a<|.U .j<|.a<|.d9 .v5 .J)<|.U .A<|.a<|.U .j<|.a<|.d3 .v5 .J⟩
def jt:E:=.Q [0] k9 1 [] (.j .B) u9 (.C k9)<|.p<|.b (.m n4) .A
def QL:Fn:=⟨2,3,.b (.p 2<|.w .j jt<|.u<|.c (.p<|.a<|.m hU) (.p<|.a<|.m hY)<|.p<|.a<|.m iD)<|.j<|.G .J<|.j "_law_next"<|.b .A<|.U .p<|.a .J⟩
def Qe:Fn:=⟨3,6,.h (.p 3 .i0) (.u (.y .gt .B .i0) (.a<|.p 3<|.j "_law_next"<|.b .A<|.o 9) .p) (.r (.y .j .N .i0)<|.j "_law_leaf"<|.b .A .J) (.p 4<|.j "_law_expression"<|.c .A (.w .y .B .Z) .J) (.r (.y .u .N .i3)<|.p<|.b (.G (.u<|.b (.m oW)<|.m oa)<|.w .y .N .Z) .Y) (.p 5<|.j "_law_expression"<|.c .A (.w .y .B .Z) .J)<|.j<|.p<|.c (.G (.u<|.g (.m kX) (.m km) (.m lz) (.m kD) (.m km)<|.m kD)<|.w .y .N .i3) .Y .v5⟩
def Qy:Fn:=⟨2,5,.g (.p 2<|.j "_law_next"<|.b .A<|.o 8) (.p 3<|.j "_law_expression"<|.c .A (.j "_law_next"<|.b .A .i4) .B) (.r (.y .u .J .i2)<|.p<|.c (.G (.u<|.b (.m c7)<|.m ia) .J) .N<|.j "_law_expression"<|.c .A (.j "_law_next"<|.b .A .i3) .B) (.r (.y .u .J .i4)<|.p<|.b (.G (.u<|.b (.m ft)<|.m fy)<|.w .y .J .i2) .N) (.p 4<|.j "_law_next"<|.b .A<|.G (.u<|.c (.o 5) (.o 18)<|.o 100)<|.j "_law_next"<|.b .A .i3)<|.j<|.p<|.c (.G (.u<|.d (.m eG) (.m eE) (.m rN)<|.m rH)<|.w .y .J .i4) .Y .N⟩
def xj:Fn:=⟨3,5,.g (.p 3 .i0) (.u (.y .gt .B .i0) (.a<|.p 3<|.j "_law_next"<|.b .A<|.o 6) .p) (.r (.y .u .N .i3)<|.j "_law_fact"<|.b .A .J) (.p 4<|.j "_law_saying"<|.c .A (.w .y .B .Z) .J) (.r (.y .j .N .i3)<|.p<|.b (.m fj) .Y)<|.j<|.p<|.c (.G (.u<|.b (.m fm)<|.m eV)<|.w .y .N .i4) .Y<|.j "_law_saying"<|.c .A (.w .y .B .Z) .J⟩
def Xn:E:=.Q [0] k9 1 [0,1] (.aQ<|.U .p<|.a .B) u9 (.C k9)<|.j "_law_same"<|.b (.G .B .A)<|.G .J .A
def zu:Fn:=⟨2,2,.c (.u (.cN .B .tuple) (.b (.r (.or (.a2<|.cN .A .tuple)<|.y .ne (.U .p<|.a .A)<|.U .p<|.a .B)<|.C u9)<|.j<|.U .all<|.a Xn) .p) (.r (.cN .B .m)<|.and (.cN .A .m)<|.y .j .A .B)<|.j<|.and (.cN .A .int)<|.and (.a2<|.cN .A .bool)<|.y .j .A .B⟩
noncomputable def qL:Fn:=⟨1,2,.b (.p 1<|.m kO)<|.j<|.w .j (.U .o<|.a<|.y .p .A .B)<|.w .u .i2<|.U .o<|.a<|.y .p .A<|.m mT⟩
def Zd:E:=.y .u .J<|.U .p<|.a .A
def Jf:E:=.and (.y .u .N<|.U .p<|.a .A)<|.y .j (.j "_law_sort"<|.a<|.G .A .N)<|.j "_law_sort"<|.a<|.G .A .J
def Wj:Ss:=.a<|.p 3<|.w .j .N .Z
def xc:Ss:=.d (.p 3<|.w .j .J .Z) (.u (.y .gt (.j "_law_sort"<|.a<|.G .A .J) .i0) (.a<|.e8 100000 Jf Wj)<|.a<|.r (.y .br (.G .A .J)<|.m yY) .L) (.u (.y .ne (.G .A .J)<|.m [32]) (.a<|.app 1<|.sl .A .J .N) .p)<|.p 2 .N
def bN:Fn:=⟨1,4,.d (.B 1<|.u .p) (.p 2 .i0) (.e8 100000 Zd xc)<|.j<|.w .j .B<|.u<|.a<|.m []⟩
def bw:Fn:=⟨4,6,.k (.p 4<|.G .A .B) (.r (.y .p .Y<|.p<|.c (.m hU) (.m hY)<|.m iD)<|.p<|.b (.p<|.a .Y)<|.w .j .B .Z) (.r (.y .p .Y .N)<|.p<|.b (.p<|.b (.m n4) .Y)<|.w .j .B .Z) (.r (.or (.y .j .J<|.o 20)<|.y .br .Y<|.p<|.c (.m [126]) (.m [94])<|.m [40]) .L) (.u (.y .j .Y<|.m [40]) (.c (.p 5<|.j "_law_chain_of"<|.f .A (.w .j .B .Z) (.w .j .J .Z) .i0 .N) (.r (.or (.cm false .v5)<|.y .ne (.G .A<|.G .v5 .Z)<|.m [41]) .L)<|.j<|.p<|.b (.G .v5 .i0)<|.w .j (.G .v5 .Z) .Z) .p) (.p 5<|.j "_law_atom_of"<|.d .A (.w .j .B .Z) (.w .j .J .Z) .N) (.r (.cm false .v5) .L)<|.j<|.p<|.b (.p<|.b (.G (.u<|.b (.m oW)<|.m oa)<|.U .o<|.a<|.y .j .Y<|.m [94])<|.G .v5 .i0)<|.G .v5 .Z⟩
def Xc:E:=.and (.cm k9 .v5)<|.y .p (.G .A<|.G .v5 .Z) .v6
def zh:Ss:=.d (.p 7<|.lh [([43],kX),([45],km),([38],lz),([46],kD)]<|.G .A<|.G .v5 .Z) (.p 8<|.j "_law_chain_of"<|.f .A (.w .j (.G .v5 .Z) .Z) .J (.w .j .N .Z) .Y) (.r (.cm false .v8) .L)<|.p 5<|.p<|.b (.p<|.c .v7 (.G .v5 .i0)<|.G .v8 .i0)<|.G .v8 .Z
def aX:Fn:=⟨5,9,.f (.r (.y .j .N .i3)<|.j "_law_atom_of"<|.d .A .B .J .Y) (.p 5<|.j "_law_chain_of"<|.f .A .B .J (.w .j .N .Z) .Y) (.p 6<|.G (.u<|.c (.u<|.b (.m [43])<|.m [45]) (.u<|.a<|.m [38])<|.u<|.a<|.m [46]) .N) (.e8 100000 Xc zh)<|.j .v5⟩
def aH:Fn:=⟨4,7,.k (.p 4<|.m []) (.u (.y .j (.G .A .B)<|.m fX) (.b (.p 4<|.m fX)<|.p 1<|.w .j .B .Z) .p) (.p 5<|.G (.sl .A .B<|.w .j .B .i2)<|.neg .Z) (.r (.or (.y .br (.G .A .B)<|.p<|.b (.m eG)<|.m eE)<|.or (.y .j .v5<|.m [])<|.y .ne (.j "_law_sort"<|.a<|.G .v5 .i0) .i2) .L) (.r (.or (.y .gt (.U .p<|.a .v5) .i2)<|.and (.y .j (.U .p<|.a .v5) .i2)<|.y .j (.G .v5 .i0)<|.m [48]) .L) (.p 6<|.j "_law_chain_of"<|.f .A (.w .j .B .i2) .J .i0 .N) (.r (.cm false .v6) .L)<|.j<|.p<|.b (.p<|.c (.w .j .Y<|.G .A .B) (.bV .v5)<|.G .v6 .i0)<|.G .v6 .Z⟩
def bU:Fn:=⟨4,7,.h (.r (.y .p (.G .A .B)<|.p<|.c (.m fX) (.m eG)<|.m eE)<|.j "_law_counted_of"<|.d .A .B .J .N) (.u (.y .p (.G .A .B)<|.p<|.b (.m ft)<|.m fy) (.c (.p 4<|.j "_law_chain_of"<|.f .A (.w .j .B .Z) .J .i0 .N) (.r (.cm false .Y) .L)<|.j<|.p<|.b (.p<|.b (.G .A .B)<|.G .Y .i0)<|.G .Y .Z) .p) (.p 5<|.j "_law_chain_of"<|.f .A .B .J .i0 .N) (.r (.or (.cm false .v5)<|.y .br (.G .A<|.G .v5 .Z)<|.p<|.b (.m c7)<|.m [61]) .L) (.p 6<|.j "_law_chain_of"<|.f .A (.w .j (.G .v5 .Z) .Z) .J .i0 .N) (.r (.cm false .v6) .L)<|.j<|.p<|.b (.p<|.c (.G (.u<|.b (.m c7)<|.m ia)<|.U .o<|.a<|.y .j (.G .A<|.G .v5 .Z)<|.m [61]) (.G .v5 .i0)<|.G .v6 .i0)<|.G .v6 .Z⟩
def bQ:Fn:=⟨4,5,.g (.r (.y .br (.G .A .B)<|.p<|.b (.m fj)<|.m [91])<|.j "_law_fact_of"<|.d .A .B .J .N) (.r (.y .j .J<|.o 20) .L) (.u (.y .j (.G .A .B)<|.m fj) (.c (.p 4<|.j "_law_unit_of"<|.d .A (.w .j .B .Z) (.w .j .J .Z) .N) (.r (.cm false .Y) .L)<|.j<|.p<|.b (.p<|.b (.m fj)<|.G .Y .i0)<|.G .Y .Z) .p) (.p 4<|.j "_law_row_of"<|.f .A (.w .j .B .Z) (.w .j .J .Z) .i0 .N) (.r (.or (.cm false .Y)<|.y .ne (.G .A<|.G .Y .Z)<|.m [93]) .L)<|.j<|.p<|.b (.G .Y .i0)<|.w .j (.G .Y .Z) .Z⟩
def Je:E:=.and (.cm k9 .v5)<|.y .j (.G .A<|.G .v5 .Z) .v6
def jj:Ss:=.c (.p 7<|.j "_law_row_of"<|.f .A (.w .j (.G .v5 .Z) .Z) .J (.w .j .N .Z) .Y) (.r (.cm false .v7) .L)<|.p 5<|.p<|.b (.p<|.c .v6 (.G .v5 .i0)<|.G .v7 .i0)<|.G .v7 .Z
def bq:Fn:=⟨5,8,.f (.r (.y .j .N .i2)<|.j "_law_unit_of"<|.d .A .B .J .Y) (.p 5<|.j "_law_row_of"<|.f .A .B .J (.w .j .N .Z) .Y) (.p 6<|.G (.u<|.b (.m eV)<|.m fm) .N) (.e8 100000 Je jj)<|.j .v5⟩
def zp:Fn:=⟨2,4,.f (.p 2<|.j "_law_signs"<|.a .B) (.r (.cm false .J) .L) (.p 3<|.j "_law_row_of"<|.f .J .i0 .i0 .i0<|.w .j (.G .A .i0)<|.G .A .Z) (.r (.or (.cm false .N)<|.y .u (.G .N .Z)<|.w .y (.U .p<|.a .J) .Z) .L)<|.j<|.G .N .i0⟩
def zt:E:=.Q [0] k9 1 [1] (.aQ<|.o 15) u9 (.C k9)<|.y .j .A .B
def WM:Fn:=⟨2,3,.h (.p 2<|.u<|.c (.b9 .A true ["NoText"]) (.b9 .A true ["NoName"])<|.b9 .A true ["NoSize"]) (.p 2<|.w .j .J<|.u<|.c (.b9 .A true ["NoPair"]) (.b9 .A true ["NoCode"])<|.b9 .A true ["Crowded"]) (.p 2<|.w .j .J<|.u<|.c (.b9 .A true ["TooBig"]) (.b9 .A true ["NoWorld"])<|.b9 .A true ["NoRenaming"]) (.p 2<|.w .j .J<|.u<|.c (.b9 .A true ["NoNumber"]) (.b9 .A true ["Broken"])<|.b9 .A true ["Kept"]) (.p 2<|.w .j .J<|.u<|.c (.b9 .A true ["Unlike"]) (.b9 .A true ["NoRow"])<|.b9 .A true ["NoStand"]) (.r (.or (.a2<|.b9 .A true ["WorldError"])<|.a2<|.b9 .A true ["ValueError"])<|.C false)<|.j<|.y .j .J zt⟩
def Ji:Fn:=⟨1,4,.h (.p 1<|.G .A .i0) (.r (.y .j .B<|.m n4)<|.G .A .Z) (.r (.y .j (.U .p<|.a .A) .Z) .B) (.p 2<|.j "_law_plain"<|.a<|.G .A .Z) (.r (.y .j (.U .p<|.a .A) .i2)<|.w .j (.G (.m [126,94])<|.U .o<|.a<|.y .j .B<|.m oa) .J) (.p 3<|.eR [(kX,[32,43,32]),(km,[32,45,32]),(lz,[32,38,32]),(kD,[32,46,32])] 1)<|.j<|.w .j (.w .j (.w .j (.w .j (.m [40]) .J) .N)<|.j "_law_plain"<|.a<|.G .A .i2)<|.m [41]⟩
def Jj:E:=.Q [0] k9 1 [] (.j<|.d3 .A .Z) u9 (.C k9)<|.j "_law_plain_saying"<|.a .A
def aD:Fn:=⟨1,4,.h (.p 1<|.G .A .i0) (.r (.y .j .B<|.m fj)<|.w .j (.m kI)<|.j "_law_plain_saying"<|.a<|.G .A .Z) (.u (.y .p .B<|.p<|.b (.m fm)<|.m eV) (.b (.p 2 Jj)<|.j<|.w .j (.w .j (.m [91])<|.cJ .join (.w .j (.w .j (.m [32]) .B)<|.m [32])<|.a .J)<|.m [93]) .p) (.r (.y .p .B<|.p<|.b (.m c7)<|.m ia)<|.w .j (.w .j (.j "_law_plain"<|.a<|.G .A .Z)<|.G (.u<|.b (.m [32,61,32])<|.m lS)<|.U .o<|.a<|.y .j .B<|.m c7)<|.j "_law_plain"<|.a<|.G .A .i2) (.r (.y .p .B<|.p<|.b (.m ft)<|.m fy)<|.w .j (.w .j .B<|.m [32])<|.j "_law_plain"<|.a<|.G .A .Z) (.p 3<|.eR [(eG,oJ),(eE,oQ),(rN,ph),(rH,pL)] 1)<|.j<|.w .j (.w .j (.w .j .N<|.eT<|.G .A .Z)<|.m [32])<|.j "_law_plain"<|.a<|.G .A .i2⟩
def zm:E:=.Q [0] k9 1 [] (.j .B) u9 (.C k9)<|.w .j (.m lU)<|.j "_law_plain_saying"<|.a .A
def Wm:E:=.Q [0] k9 1 [] (.j<|.G .A .i0) u9 (.C k9)<|.w .j (.m dW) .A
def wm:E:=.Q [0] k9 1 [] (.j<|.G .A .Z) u9 (.C k9)<|.w .j (.m ew) .A
def Qj:Fn:=⟨2,3,.b (.p 2<|.w .j Wm wm)<|.j<|.w .j .J zm⟩
def Jh:Ss:=.b (.B 5<|.a1<|.j "_law_purse"<|.b .A .Y)<|.app 3<|.j "_law_saying"<|.c .v5 (.j "_law_next"<|.b .v5 .i3)<|.w .j (.G .B .i0)<|.G .B .Z
def Qx:Fn:=⟨3,6,.c (.B 3<|.u .p) (.for [4] k9 (.b6 .i4<|.w .j .i4 .J) Jh)<|.j .N⟩
def jq:Fn:=⟨2,5,.f (.p 2<|.w .j (.w .j (.G .A .i0)<|.G .A .Z)<|.p<|.b (.m XJ)<|.m wJ) (.p 3<|.u<|.j (.m uN)<|.j (.m [116,105,101,32,107,105,110,100])<|.j (.m vd)<|.j (.m [116,105,101,32,97,49])<|.j (.m dW)<|.g (.m eU) (.m dM) (.m lU) (.m [107,105,110,100,32,32,113]) (.m [75,105,110,100,32,113])<|.m []) (.p 3<|.w .j .N<|.u<|.j (.m [116,105,101,32,122,113])<|.g (.m [107,105,110,100,32,122,122]) (.m sC) (.m sd) .L (.o 7)<|.m [32,107,105,110,100,32,122,122]) (.p 4<|.G .J<|.j "_law_next"<|.b .B<|.U .p<|.a .J)<|.j<|.G (.w .j .N<|.u<|.b (.w .j (.m dW) .Y)<|.w .j (.m ew) .Y)<|.j "_law_next"<|.b .B<|.o 20⟩
def aE:Fn:=⟨3,9,.j (.p 3<|.j "_law_next"<|.b .J<|.o 8)<|.j (.p 4<|.j "_law_next"<|.b .J<|.w .j (.U .p<|.a .A) .Z)<|.j (.r (.or (.y .gt .N .i3)<|.y .j .A<|.u .p)<|.w .j (.w .j (.d9 .A .Y)<|.u<|.a<|.j "_law_odd_row"<|.b .B .J)<|.d3 .A .Y)<|.k (.p 4<|.w .p .Y<|.U .p<|.a .A) (.p 5<|.w .j (.d9 .A .Y)<|.d3 .A<|.w .j .Y .Z) (.r (.y .u .N .i2)<|.w .j .v5<|.w .u (.u<|.a<|.G .A .Y) .N) (.r (.or (.y .j .N .i2)<|.a2<|.cN (.G .A .Y) .m)<|.w .j .A<|.u<|.a<|.G .A .Y) (.p 6<|.j "_law_next"<|.b .J<|.w .j (.U .p<|.a<|.G .A .Y) .Z) (.p 7<|.G (.u<|.f (.m []) (.m [32]) (.m [97]) (.m [126])<|.m [41])<|.j "_law_next"<|.b .J<|.o 5) (.p 8<|.w .j (.w .j (.d9 (.G .A .Y) .v6) .v7)<|.d3 (.G .A .Y)<|.w .j .v6<|.U .o<|.a<|.y .j .v7<|.m [])<|.j<|.w .j (.w .j (.d9 .A .Y)<|.u<|.a .v8)<|.d3 .A<|.w .j .Y .Z⟩
def Jq:E:=.Q [0] k9 1 [] (.j .A) u9 (.C k9)<|.y .p .A<|.m kO
noncomputable def Xo:Fn:=⟨3,4,.c (.p 3<|.u<|.j (.m ft)<|.j (.m fy)<|.j (.m eG)<|.j (.m eE)<|.j (.m fX)<|.j (.m c7)<|.j (.m fm)<|.j (.m eV)<|.g (.m fj) (.m hU) (.m hY) (.m iD) (.m hV)<|.m eU) (.r (.or (.y .j .A<|.m [])<|.or (.y .gt (.U .p<|.a .A)<|.o 8)<|.or (.y .p .A<|.w .j .N<|.u<|.a<|.m dM)<|.y .p .A<|.w .j (.G .B .i0)<|.G .B .Z)<|.C u9)<|.j<|.and (.y .u (.U .p<|.a<|.G .B .J) .i4)<|.U .all<|.a Jq⟩
def Xk:Ss:=.d (.r (.a2<|.cN .Y .m) .N) (.gk [5,6,7]<|.cJ .part .Y<|.a<|.m [32]) (.r (.or (.y .j .v6<|.m [])<|.y .br .v5<|.p<|.c (.m hV) (.m eU)<|.m dM) .N)<|.u (.y .j .v5<|.m dM) (.c (.p 8<|.j "_law_read"<|.b .B .v7) (.r (.or (.cm false .v8)<|.y .j (.U .p<|.a .J)<|.o 12) .N)<|.app 2 .v8)<|.c (.p 9<|.U .o<|.a<|.y .j .v5<|.m eU) (.r (.or (.y .ne .J<|.u .p)<|.a2<|.j "_law_name_row"<|.c .v7 .B .v9) .N)<|.gz (.G .B .v9) .v7
def WG:Fn:=⟨1,10,.d (.p 1<|.u<|.j (.a1<|.u .p)<|.j (.a1<|.u .p) .p) (.B 2<|.u .p) (.for [3,4] u9 (.cM 0) Xk)<|.j<|.p<|.b (.p<|.b (.U .A<|.a<|.U .j<|.a<|.G .B .i0)<|.U .A<|.a<|.U .j<|.a<|.G .B .Z)<|.U .A<|.a .J⟩
def WZ:Ss:=.a<|.p 3<|.j "_law_changed_rows"<|.c .N .B .J
def o8:Fn:=⟨1,10,.j (.p 1<|.j "_law_words"<|.a .A)<|.j (.B 2<|.a1<|.j "_law_purse"<|.b .A .i3)<|.j (.p 3<|.j "_law_shown_rows"<|.b .B<|.j "_law_sayings"<|.c .A .B<|.j "_law_next"<|.b .J<|.o 13)<|.j (.for [4] true (.aQ<|.j "_law_next"<|.b .J<|.o 5) WZ)<|.j (.p 5<|.j "_law_due"<|.a .N)<|.j (.p 6<|.U .list<|.a .N)<|.j (.p 7 .L)<|.j (.p 8 .L)<|.j (.gw 7 "read_theory" (.a .v6) "WorldError" 9 8)<|.c (.r (.y .ne .v6 .N)<|.C false) (.r (.cN .v5 .tuple)<|.and (.cm false .v8)<|.j "_law_same"<|.b .v7 .v5)<|.j<|.and (.j "_law_only"<|.b .v8 .i0)<|.j "_law_same"<|.b (.xf 8 "row") .v5⟩
def prog:Prog:=⟨[("is_written",xB),("is_word",WY),("is_name",qG),("words_of",wK),("theory_of",Qu),("sort_of_sign",wo),("signs_of",Wz),("one_deeper",zB),("Reader.__init__",Qp),("Reader.here",Zx),("Reader.take",xy),("Reader.take_just",Wh),("Reader.saying",qI),("Reader.part",xP),("Reader.unit",bR),("Reader.fact",bT),("Reader.count_fact",aZ),("Reader.limit",bJ),("Reader.pair_fact",bf),("Reader.expression",a8),("Reader.term",XN),("Reader.factor",jH),("Reader.atom",bx),("read_saying",zk),("rows_taken",ZB),("taken",ZI),("with_row",xz),("read_theory",Wp),("_law_cell",JK),("_law_purse",Zv),("_law_next",Zz),("_law_family",qB),("_law_any_names",Jk),("_law_words",xv),("_law_leaf",QL),("_law_expression",Qe),("_law_fact",Qy),("_law_saying",xj),("_law_same",zu),("_law_sort",qL),("_law_signs",bN),("_law_atom_of",bw),("_law_chain_of",aX),("_law_counted_of",aH),("_law_fact_of",bU),("_law_unit_of",bQ),("_law_row_of",bq),("_law_read",zp),("_law_only",WM),("_law_plain",Ji),("_law_plain_saying",aD),("_law_shown_rows",Qj),("_law_sayings",Qx),("_law_odd_row",jq),("_law_changed_rows",aE),("_law_name_row",Xo),("_law_due",WG),("law",o8)],[("WorldError","ValueError"),("NoSize","WorldError"),("NoPair","WorldError"),("NoName","WorldError"),("NoCode","WorldError"),("NoText","WorldError"),("Crowded","WorldError"),("TooBig","WorldError"),("NoWorld","WorldError"),("NoRenaming","WorldError"),("NoNumber","WorldError"),("Broken","WorldError"),("Kept","WorldError"),("Unlike","WorldError"),("NoRow","WorldError"),("NoStand","WorldError")],[("FIGURES",.m mT),("MOST_LETTERS",.o 8),("LETTERS",.m kO),("TAKEN",.p [.m ft,.m fy,.m eG,.m eE,.m fX,.m c7,.m fm,.m eV,.m fj,.m hU,.m hY,.m iD,.m hV,.m eU,.m dM]),("MOST_NAMES",.o 4),("MOST_SAYINGS",.o 12),("SINGLE_SIGNS",.m A6),("MOST_WITHIN",.o 20),("MOST_FIGURES",.o 2),("SORTS",.exc "" [([43],.m kX),([45],.m km),([126],.m oW),([94],.m oa),(c7,.m c7),([61],.m ia)]),("EMPTY",.p [.p [.p [],.p []],.p []])]⟩
abbrev k7(m:Nat):Fx:=⟨call prog m,prog.cl,prog.con⟩
noncomputable abbrev W.i (n:Nat):W:=.v<|.o (n:Int)
abbrev W.r (n:Nat):W:=.v<|.ref n
noncomputable abbrev W.s (t:Tx):W:=.v<|.m t
abbrev W.b (b:Bool):W:=.v<|.bl b
abbrev W.t (t:List D):W:=.v<|.p t
noncomputable abbrev W.l (t:List D):W:=.v<|.lst t
noncomputable abbrev sv(d:D):Option W:=y0<|.v d
abbrev si(n:Nat):Option W:=y0<|.i n
def nj(m j:Nat)(h:j<=m):∃k,m=k+j:=⟨m-j,((R6 ‹_›).symm)⟩
noncomputable abbrev D.n (n:Nat):D:=.o (n:Int)
theorem Jz(f):∀ds,(∀d∈ds,step d h=.ok (f d) h)->Gy step ds h=.ok (ds.Y f) h
|[],_=>rfl
|d::ds,a=>by have c:=Jz f ds λd b=>a d<|Aa0 _ b;rw[Gy,a d Aa];simp only[c];cases q:f d<;>simp[q]
def F2(f)(hi:Gs F it Z h=.ok ds h)(n:ds.e<=bp)
 (e:∀d∈ds,∃L b,GC tg one d (Aa1 k u0++aB.u λj=>Gq Z j)=y0 L/\Gg F c L h=.ok b h/\(if b=k9 then∃w y,eval F elt L h=.ok w h/\w.d=y0 y/\f d=y0 y else f d=u0)):
 eval F (.Q tg one k aB it k9 c elt) Z h=.ok (.own<|ds.Y f) h:=by
 rw[eval,hi,R.ae,Da n,Jz f]
 .rfl
 intro d i;obtain⟨L,b,g,m,a⟩:=e d i;rw[g];show((Gg F c L h).bind _)=_;rw[m];cases b with
|true=>obtain⟨w,y,o,l,p⟩:=a;simp[o,l,p]
|false=>rw[Fk YC]at a;simp[a]
def Jl(f)(hi:Gs F it Z h=.ok ds h)(i:ds.e<=bp)
 (a:∀d∈ds,∃L,GC tg one d (Aa1 k u0++aB.u λj=>Gq Z j)=y0 L/\∃w,eval F elt L h=.ok w h/\w.d=y0 (f d)):
 eval F (.Q tg one k aB it u9 c elt) Z h=.ok (.own<|ds.u f) h:=by
 rw[eval,hi,R.ae,Da i,Jz<|λd=>y0<|f d]
 .simp[List.filterMap_eq_map']
 intro d e;obtain⟨L,b,w,l,g⟩:=a d e;rw[b];simp[l,g]
def Wy(bnd)(body)(d)(ds)(Z)(h):GA bnd body (d::ds) Z h=match bnd d Z with
|none=>.fail
|some c=>match body c h with
|.next a b=>GA bnd body ds a b
|.cont a b=>GA bnd body ds a b
|.brk a b=>.next a b
|o=>o:=rfl
@[simp]theorem Od(bnd)(body)(Z)(h):GA bnd body [] Z h=.next Z h:=rfl
def Xi(a:bnd d Z=y0 Z1)(b:body Z1 h=.next Z2 h2):GA bnd body (d::ds) Z h=GA bnd body ds Z2 h2:=by rw[Wy,a];simp[b]
def qU(a:bnd d Z=y0 Z1)(b:body Z1 h=.exc e h2):GA bnd body (d::ds) Z h=.exc e h2:=by rw[Wy,a];simp[b]
@[simp]theorem Kg(i)(d)(Z):GC [i] k9 d Z=y0 (GF Z i<|.v d):=rfl
@[simp]theorem G9(tg)(ds)(Z):GC tg u9 (.p ds) Z=aR tg ds Z:=rfl
@[simp]theorem Br(i j):Gj .p i j=if 0<j then y0 (i%j)else none:=rfl
@[simp]theorem Dv(i j):Gj .w i j=if 0<j/\j<m4 then y0 (i/j)else none:=rfl
def xH(a b:Nat)(h:a<2^64):Gj .u (a:Int) (b:Int)=y0 ((a*b:Nat):Int):=by
 have c:(-ek<a/\a<ek)\/(-ek<b/\b<ek):=by rw[GV];lia
 show(if _ then _ else _)=_;rw[Da c,Am5]
def ib(m)(b:d∈(Ac2 m).u λi=>D.n i):∃i:Nat,i<m/\d=.n i:=by obtain⟨i,a,rfl⟩:=Ad3.j b;exact⟨i,Aj3.j a,rfl⟩
def qx(e:eval F a Z h=.ok (.i m) h)(c:m<=1000000):Gs F (.aQ a) Z h=.ok ((Ac2 m).u λi=>.n i) h:=by
 have b:-g9<=m/\m<g9:=by rw[GJ];lia
 rw[Gs,e,R.ae,int?_int,R.af,R.ae,Da b,Af1]
end Lake.M
local macro_rules|`(tactic|simp![$xs,*])=>do
 let y:=("Lake.M.exec Lake.M.execs Lake.M.Gg Lake.M.eval Lake.M.Gn Lake.M.Gk Lake.M.Gs Lake.M.GD Lake.M.GI Lake.M.Gq Lake.M.Gr Lake.M.GF Lake.M.aR Lake.M.R.ae Lake.M.R.aF Lake.M.R.af Lake.M.O.b3 Lake.M.O.fh Lake.M.O.fk Lake.M.W.eL Lake.M.W.iU Lake.M.W.lW Lake.M.W.hI Lake.M.W.ik List.map_cons List.map_nil List.cons_append List.nil_append Nat.reduceSub List.replicate_succ List.replicate_zero Lake.M.Gu Bool.not_true Bool.not_false Lake.M.Gz Option.bind_some Lake.M.Kp Lake.M.Kq Lake.M.Km Lake.M.Kd Lake.M.Ko Lake.M.Kk Lake.M.int?_int Lake.M.Ga Lake.M.Gw Lake.M.Ki Lake.M.GK Lake.M.Kg Lake.M.G9".splitOn " ").toArray.map λx=>Lean.mkNode ``Lean.Parser.Tactic.simpLemma #[Lean.mkNullNode,Lean.mkNullNode,Lean.mkIdent (`_root_++x.toName)]
 `(tactic|simp only[$y,*,$xs,*])
namespace Lake.M
abbrev SQ:="Reader"
abbrev SR:="Reader.expression"
abbrev SS:="_law_next"
abbrev SU:="_law_plain_saying"
abbrev SV:="_law_chain_of"
abbrev SW:="_law_atom_of"
abbrev SX:="Reader.saying"
abbrev SY:="_law_purse"
abbrev SZ:="Reader.take"
abbrev S0:="_law_unit_of"
abbrev S1:="taken"
abbrev S2:="_law_plain"
abbrev S3:="Reader.atom"
abbrev S4:="one_deeper"
abbrev S5:="Reader.unit"
abbrev S6:="Reader.take_just"
abbrev S7:="expression"
abbrev S8:="Reader.count_fact"
abbrev S9:="Reader.term"
abbrev Ta:="read_theory"
abbrev Tc:="Reader.here"
abbrev Td:="_law_row_of"
abbrev Te:="Reader.fact"
abbrev Tf:="place"
abbrev Tg:="take"
abbrev Th:="_law_changed_rows"
abbrev Ti:="Reader.limit"
abbrev Tj:="_law_read"
abbrev Tn:="_law_same"
abbrev To:="Reader.pair_fact"
abbrev Tp:="read_saying"
abbrev Tq:="_law_due"
abbrev Tr:="_law_cell"
abbrev Ts:="sort_of_sign"
abbrev Tt:="_law_fact_of"
abbrev Tu:="NoName"
abbrev Tv:="with_row"
abbrev Tw:="_law_words"
abbrev Tz:="_law_signs"
abbrev TB:="SORTS"
abbrev TF:="_law_fact"
abbrev TH:="_law_sort"
open M renaming D.str->Lake.M.D.m,D.int->Lake.M.D.o,D.ref->Lake.M.D.j,D.tup->Lake.M.D.p,D.lst->Lake.M.D.u,D.bl->Lake.M.D.C,D.aj->Lake.M.D.L,E.str->Lake.M.E.m,E.int->Lake.M.E.o,E.tup->Lake.M.E.p,E.call->Lake.M.E.j,E.lst->Lake.M.E.u,E.bin->Lake.M.E.w,E.cmp->Lake.M.E.y,E.v0->Lake.M.E.A,E.v1->Lake.M.E.B,E.ix->Lake.M.E.G,E.v2->Lake.M.E.J,E.v3->Lake.M.E.N,E.comp->Lake.M.E.Q,E.bi->Lake.M.E.U,E.v4->Lake.M.E.Y,E.var->Lake.M.E.a0,Es.cons->Lake.M.Es.j,Es.nil->Lake.M.Es.p,Ss.cons->Lake.M.Ss.j,Ss.nil->Lake.M.Ss.p,R.ok->Lake.M.R.j,R.bind->Lake.M.R.p,R.exc->Lake.M.R.w,Fx.call->Lake.M.Fx.j,Cell.lst->Lake.M.Cell.u,W.own->Lake.M.W.j,W.bor->Lake.M.W.p,Op.add->Lake.M.Op.j,Op.mod->Lake.M.Op.p,Op.mul->Lake.M.Op.u,Op.fdiv->Lake.M.Op.w,S.ret->Lake.M.S.j,S.ag->Lake.M.S.p,S.iff->Lake.M.S.u,O.ret->Lake.M.O.j,O.exc->Lake.M.O.w,O.next->Lake.M.O.p,Bi.len->Lake.M.Bi.p,Bi.all->Lake.M.Bi.N,Bi.sorted->Lake.M.Bi.j,Cp.eq->Lake.M.Cp.j,Cp.mem->Lake.M.Cp.p,Cp.lt->Lake.M.Cp.u,Cp.ne->Lake.M.Cp.w,Cp.br->Lake.M.Cp.y,Prog.con->Lake.M.Prog.T,Fn.body->Lake.M.Fn.j
def NV(q:eval F e Z h=.j (.l xs) h):Gs F (.seq e) Z h=.j xs h:=by rw[Gs,q];rfl
def oT(q:eval F e Z h=.j (.t xs) h):Gs F (.seq e) Z h=.j xs h:=by rw[Gs,q];rfl
def za(e:exec F s Z h=.p Z1 h1):execs F (.j s ss) Z h=execs F ss Z1 h1:=by rw[execs,e,O.b3]
def Za(e:exec F s Z h=.j w h1):execs F (.j s ss) Z h=.j w h1:=by rw[execs,e,O.fh]
def Zi(e:Gg F c Z h=.j k9 h1):exec F (.u c a b) Z h=execs F a Z h1:=by rw[exec,e,R.aF]
def gf(e:Gg F c Z h=.j u9 h1):exec F (.u c a b) Z h=execs F b Z h1:=by rw[exec,e,R.aF]
def zl(a:GI e=u0)(q:eval F e Z h=.j (.j xs) h1):exec F (.j e) Z h=.j (.j xs) h1:=by rw[exec,a];simp[q,R.aF]
def jc(a:GI e=u0)(q:eval F e Z h=.j (.v d) h1):exec F (.j e) Z h=.j (.v d) h1:=by rw[exec,a];simp[q,R.aF]
def PH(h:AH):Prop:=∀r,r<h.e->∃a f m:Int,h[r]?=y0 (.u [.o a,.o f,.o m])
def ju(e:h[r]?=y0 (.u xs))(i):cc (.r r) (.v<|.o i) h=aY xs i:=by simp[cc,W.bc,W.seq?,e]
def mV(x y z:D):aY [x,y,z] 0=y0 x:=rfl
def vi(x y z:D):aY [x,y,z] 1=y0 y:=rfl
def mu(x y z:D):aY [x,y,z] 2=y0 z:=rfl
theorem PH.set (P:PH h)(r)(a f m):PH<|h.B r<|.u [.o a,.o f,.o m]:=λq b=>by
 rw[Ad0]at b;by_cases e:q=r
 .subst e;exact⟨a,f,m,by rw[Ac6 b]⟩
 .obtain⟨c,i,d,g⟩:=P q b;exact⟨c,i,d,by rw[Ad1<|λh=>e h.j,g]⟩
def PH.nil:PH []:=λr a=>absurd a<|Ak3 _
def PH.app (P:PH h)(a f m):PH<|h++[.u [.o a,.o f,.o m]]:=λq b=>by
 by_cases e:q<h.e
 .rw[Ad9 e];exact P q e
 .simp at b;have:q=h.e:=by lia
  subst this;exact⟨a,f,m,by simp⟩
def PH.pure (P:PH h):GE h=true:=Ad6.p λc d=>by obtain⟨i,b⟩:=List.mem_iff_getElem?.j d;obtain⟨a,f,m,e⟩:=P i (Ac1.j b).1;rw[b]at e;cases e;rfl
theorem PH.take (P:PH h)(n):PH<|h.A n:=λq a=>by rw[Ae4]at a;rw[List.getElem?_take,Da YB];exact P q YB
def wG(f:eval F e Z h=.j (.v d) h)(c:Gq Z i=y0 (.r r))(g:h[r]?=y0 (.u xs))(k:dU xs.e j=y0 n)(b:flat d=k9)(a:h2=h.B r (.u<|xs.B n d)):
 exec F (.bH (.a0 i) (.o j) e) Z h=.p Z h2:=by
 subst a;simp only[exec,f,R.aF,eval,c,Kz,g,k,b,Oi]
def DP(a b)(h:-(2:Int)^64<b/\b<2^64):Gj .u a b=y0 (a*b):=by
 have c:(-ek<a/\a<ek)\/(-ek<b/\b<ek):=by rw[GV];exact .u h
 show(if _ then _ else _)=_;rw[Da c]
def wQ(a b)(h:-(2:Int)^64<a/\a<2^64):Gj .u a b=y0 (a*b):=by
 have c:(-ek<a/\a<ek)\/(-ek<b/\b<ek):=by rw[GV];exact .p h
 show(if _ then _ else _)=_;rw[Da c]
def Jp(a b)(h:0<b):Gj .p a b=y0 (a%b):=by rw[Br,Da h]
def qD(a b)(h:0<b)(h2:b<1073741824):Gj .w a b=y0 (a/b):=by rw[Dv,Da ⟨h,by rw[Kj];exact h2⟩]
def wy(i j)(h):Gm .j (.v<|.o i) (.v<|.o j) h=y0 (k8<|i=j):=by rfl
def jg(k)(P:PH h)(j:r<h.e)(J:0<m)(T:m<1073741824):
 ∃v h',v<m/\PH h'/\h'.e=h.e/\call prog (k+1) SS [.r r,.i m] h=.j (.i v) h':=by
 obtain⟨a,f,g,t⟩:=P r j;rw[Gb (d:=Zz) rfl _ _ _ rfl];have e:(h.B r<|.u [.o a,.o f,.o (g-1)])[r]?=y0 _:=Ac6 j;have D:∀F Z,Gq Z 0=y0 _->exec F (.bH .A (.o 2)<|.w .sub (.G .A<|.o 2)<|.o 1) Z h=.p Z (h.B r<|.u [.o a,.o f,.o (g-1)]):=λF Z q=>
  wG (d:=.o<|g-1) (n:=2) (by simp only[eval,q,ju t,R.ae,mu,R.af,Gz,Wr]) q t rfl rfl rfl
 simp only[Zz];rw[za<|D _ _ rfl];have c:(0:Int)<(m:Int):=by lia
 by_cases q:g-1<0
 .refine⟨0,_,J,P.set r a f<|g-1,by rw[Ad0],?_⟩;simp![ju e,mu,Qm,q,Ri];rw[Ga _ _ _<|by rw[Ad0]];rfl
 by_cases x:f=1
 .subst x;have s:((h.B r<|.u [.o a,.o 1,.o (g-1)]).B r<|.u [.o (a/m),.o 1,.o (g-1)])[r]?=y0 _:=Ac6 (by rw[Ad0];exact j);have o:∀F Z,Gq Z 0=y0 _->Gq Z 1=si m->exec F (.bH .A (.o 0)<|.w .w (.G .A<|.o 0) .B) Z _=.p Z ((h.B r<|.u [.o a,.o 1,.o (g-1)]).B r<|.u [.o (a/m),.o 1,.o (g-1)]):=λF Z i I=>
   wG (d:=.o<|a/m) (n:=0) (by simp only[eval,i,I,ju e,R.ae,mV,R.af,Gz,qD a m c YB]) i e rfl rfl rfl
  refine⟨(a%m).j,_,?_,(P.set r a 1<|g-1).set r (a/m) 1<|g-1,by rw[Ad0,Ad0],?_⟩
  .have:=Ak8 a c;have:=Aj a<|Ao2 c;lia
  .have l:(((a%m).j:Nat):Int)=a%m:=Ai5<|Aj a<|Ao2 c;show Gv _ (execs _ _ [y0 (.r r),si m,u0,u0] _)=_;rw[za (Z1:=[y0 (.r r),si m,u0,u0]) (h1:=h.B r<|.u [.o a,.o 1,.o (g-1)])<|by simp![ju e,mu,Qm,q,OV]];rw[Za (w:=.v<|.o<|a%m) (h1:=(h.B r<|.u [.o a,.o 1,.o (g-1)]).B r<|.u [.o (a/m),.o 1,.o (g-1)])]
   .rw[Ga _ _ _<|by rw[Ad0,Ad0],W.i,l]
   .rw[Zi (h1:=h.B r<|.u [.o a,.o 1,.o (g-1)])<|by simp![ju e,vi,wy,Ri]];rw[za (Z1:=[y0 (.r r),si m,sv (.o<|a%m),u0]) (h1:=h.B r<|.u [.o a,.o 1,.o (g-1)])<|by simp![ju e,mV,Jp a m c]];rw[za<|o _ _ rfl rfl];simp![]
 .generalize u:(a*48817+65029*(g-1)+501)%1000000093=A;have O:0<=A/\A<1000000093:=by rw[←u];exact⟨Aj _ YA,Ak8 _ YA⟩
  have s:((h.B r<|.u [.o a,.o f,.o (g-1)]).B r<|.u [.o A,.o f,.o (g-1)])[r]?=y0 (.u [.o A,.o f,.o (g-1)]):=Ac6 (by rw[Ad0];exact j);have Q:Gj .u a 48817=y0 (a*48817):=DP a 48817 YA;have N:Gj .u 65029 (g-1)=y0 (65029*(g-1)):=wQ _ _ YA;have S:Gj .p (a*48817+65029*(g-1)+501) 1000000093=y0 A:=by rw[Jp _ _ YA,u]
  have o:∀F Z,Gq Z 0=y0 (.r r)->exec F (.bH .A (.o 0)<|.w .p (.w .j (.w .j (.w .u (.G .A<|.o 0)<|.o 48817)<|.w .u (.o 65029)<|.G .A<|.o 2)<|.o 501)<|.o 1000000093) Z (h.B r<|.u [.o a,.o f,.o (g-1)])=.p Z ((h.B r<|.u [.o a,.o f,.o (g-1)]).B r<|.u [.o A,.o f,.o (g-1)]):=λF Z i=>
   wG (d:=.o A) (n:=0) (by simp only[eval,i,ju e,R.ae,mV,mu,R.af,Gz,Q,N,zc,S]) i e rfl rfl rfl
  generalize p:A*(A/2053+613)%998244353=B;have z:0<=B/\B<998244353:=by rw[←p];exact⟨Aj _ YA,Ak8 _ YA⟩
  have G:Gj .u A (A/2053+613)=y0 (A*(A/2053+613)):=wQ _ _ YB;have E:Gj .u B B=y0 (B*B):=wQ _ _ YB;have y:Gj .w A 2053=y0 (A/2053):=qD _ _ YA YA;have H:Gj .p (A*(A/2053+613)) 998244353=y0 B:=by rw[Jp _ _ YA,p]
  have C:Gj .p (B*B+A) 1000000087=y0 ((B*B+A)%1000000087):=Jp _ _ YA;have K:Gj .p ((B*B+A)%1000000087) m=y0 ((B*B+A)%1000000087%m):=Jp _ _ c;refine⟨((B*B+A)%1000000087%m).j,_,?_,(P.set r a f<|g-1).set r A f<|g-1,by rw[Ad0,Ad0],?_⟩
  .have:=Ak8 ((B*B+A)%1000000087) c;have:=Aj ((B*B+A)%1000000087)<|Ao2 c;lia
  .have l:((((B*B+A)%1000000087%m).j:Nat):Int)=(B*B+A)%1000000087%m:=Ai5<|Aj _<|Ao2 c;have L:exec (k7 k) (.r (.y .u (.G .A<|.o 2)<|.o 0)<|.o 0) [y0 (.r r),si m,u0,u0] (h.B r<|.u [.o a,.o f,.o (g-1)])=.p [y0 (.r r),si m,u0,u0] (h.B r<|.u [.o a,.o f,.o (g-1)]):=by simp![ju e,mu,Qm,q,OV]
   have M:∀b,exec (k7 k) (.u (.y .j (.G .A<|.o 1)<|.o 1) b .p) [y0 (.r r),si m,u0,u0] (h.B r<|.u [.o a,.o f,.o (g-1)])=.p [y0 (.r r),si m,u0,u0] (h.B r<|.u [.o a,.o f,.o (g-1)]):=by intro b;simp![ju e,vi,wy,x,OV]
   show Gv _ (execs _ _ [y0 (.r r),si m,u0,u0] _)=_;rw[za L,za<|M _,za<|o _ _ rfl];simp![ju s,mV,y,zc,G,H,E,C,K];rw[Ga _ _ _<|by rw[Ad0,Ad0],W.i,l]
abbrev bD(ns:List Int):W:=.l<|ns.u .o
theorem ZW:∀xs:List Int,Kt (xs.u .o)=y0 xs.sum
|[]=>rfl
|x::xs=>by simp[Kt,ZW xs]
def BL(f:α->β)(xs)(lo hi):cut (xs.u f) lo hi=(cut xs lo hi).u f:=by simp[cut,SK]
def jS(xs:List α)(lo hi):(cut xs lo hi).e<=xs.e:=by simp[cut,Ah4];lia
def ou(k)(ns)(b:ns.e<=63)(j)(h):∃c:Int,call prog (k+1) Tr [bD ns,.i j] h=.j (.v<|.o c) h:=by
 rw[Gb rfl _ _ _ rfl];have a:(cut ns (y0 j)<|y0<|j+1).e<=bp:=by have:=jS ns (y0 j)<|y0<|j+1;rw[Gf];lia
 refine⟨(cut ns (y0 j)<|y0<|j+1).sum,?_⟩;simp![JK,zc,XS,BL,NL,ZW,Ab,a,Oi]
def jF(k)(ns)(i:ns.e<=63)(j)(h):∃a f g:Int,call prog (k+2) SY [bD ns,.i j] h=.j (.j [.o a,.o f,.o g]) h:=by
 obtain⟨c,e⟩:=ou k ns i j h;obtain⟨l,p⟩:=ou k ns i 0 h;rw[Gb rfl _ _ _ rfl];have m:Gj .p l 2=y0 _:=Jp _ _ YA;have r:Gj .p c 1000000093=y0 _:=Jp _ _ YA;have n:∀b:Bool,∃z,aY [D.int 1,D.int 2] (b.j:Nat)=y0 (.o z)/\0<z/\z<1073741824:=λb=>by
  cases b
  .exact⟨1,rfl,by decide,by decide⟩
  .exact⟨2,rfl,by decide,by decide⟩
 obtain⟨z,t,o,s⟩:=n<|k8<|(j:Int)=0;have u:Gj .w c z=y0 _:=qD _ _ o s;have d:call prog _ Tr [bD ns,.v (.o 0)] h=.j _ h:=p;by_cases q:l%2=1
 .refine⟨c/z,1,60,?_⟩;simp![Zv,bD,e,d,m,wy,q,Ri,Z8,Zm,t,u]
 .refine⟨c%1000000093+5,0,900,?_⟩;simp![Zv,bD,e,d,m,wy,q,OV,r,zc]
abbrev bB:Tx:=kO
def taken:List Tx:=[ft,fy,eG,eE,fX,c7,fm,eV,fj,hU,hY,iD,hV,eU,dM]
structure Zj(t:Tx):Prop where
 lo:1<=t.e
 hi:t.e<=8
 gg:∀c∈t,97<=c/\c<=122
 free:t∉taken
def vz:∀t∈taken,(113)∉t:=by decide
def DV:∀t∈taken,2<=t.e:=by decide
def BO(i:Nat)(h:i<26):aY bB (i:Int)=y0 (97+i):=by
 have:∀i:Nat,i<26->aY bB i=y0 (97+i):=by decide
 exact this i h
def QB(xs:List α)(n:Nat):cut xs u0 (y0 (n:Int))=xs.A n:=by
 have a:¬((n:Int)<0):=by lia
 simp only[cut,aV,a,OD,Af1,An,SN];by_cases q:n<=xs.e
 .rw[Ak4 q]
 .rw[Sv YB,Ah5<|Aa4 _,Ah5 YB]
def xM(xs:List α)(n:Nat):cut xs (y0 (n:Int)) u0=xs.J n:=by
 have a:¬((n:Int)<0):=by lia
 simp[cut,aV,a,Af1];by_cases q:n<=xs.e
 .rw[Ak4 q,Ah5 YC]
 .rw[Sv YB,Aj1<|Aa4 _,Aj1 YB,List.take_nil]
def xx(s)(lo hi)(h)(a:s.e<=bp):eN (.s s) lo hi h=.j (.s<|cut s lo hi) h:=by show(if s.e<=bp then _ else _)=_;rw[Da a]
def mul_str(s)(n)(h)(a:n<=1000)(h2:s.e*n<=1000000):GB .u (.s s) (.i n) h=.j (.v<|.m (Aa1 n s).L) h:=by show(if 0<=(n:Int)/\(n:Int)<=1000/\s.e*(n:Int).j<=bp then _ else _)=_;rw[Da ⟨(Oy _),by lia,by rw[Gf,Af1];exact h2⟩,Af1]
def add_str(s u)(h)(a:s.e+u.e<=1000000):GB .j (.s s) (.s u) h=.j (.s<|s++u) h:=by rw[QD,Da<|by rw[Gf];exact a]
def jp(i)(hi:i<26)(h):cc (.s bB) (.i i) h=y0 (.m [97+i]):=by rw[qT,Da<|by rw[Gf];decide,BO i hi];rfl
def ZC(f:Nat->α)(m)(h:m<=8)(g:∀i,i<8->∀j,j<8->i≠j->f i≠f j):((Ac2 m).u f).C:=by rw[List.Nodup,An4];refine Ak.imp_of_mem ?_<|List.nodup_range;intro a b e d c;exact g a (by have:=Aj3.j e;exact Ab5 ‹_› ‹_›) b (by have:=Aj3.j d;exact Ab5 ‹_› ‹_›) c
def zK(a b:Nat)(c:0<b):Gj .p (a:Int) (b:Int)=y0 ((a%b:Nat):Int):=by rw[Jp _ _ YB];rfl
def ZX(a b:Nat)(c:0<b)(h2:b<1073741824):Gj .w (a:Int) (b:Int)=y0 ((a/b:Nat):Int):=by rw[qD _ _ YB YB];rfl
def Ws(a b:Nat):Gj .j (a:Int) (b:Int)=y0 ((a+b:Nat):Int):=rfl
noncomputable def fU(c k:Nat):Tx:=[97+(c/4%26+(1+2*(c/104%6))*k)%26]
noncomputable def fO(c k:Nat):Tx:=(113::Aa1 7 (97+c/4%26)).A<|k+1
noncomputable def bI:List Tx:=[[110,111,116,97],[111,114,98],[97,110,100,121],[105,110,110],[97,108,108,115],[115,97,109,101,121],[110,111,110,101,97],[101,97,99,104,115],[108,101,97,115,116,115],[109,111,115,116,121],[115,111,109,101,115],[110,111,97],[107,105,110,100,97],[116,105,101,115],[115,97,121,115],[105]]
def iW(c k:Nat):Tx:=bI.Q ((c/4%26+3*k)%16) []
noncomputable def qC(c:Nat):Tx:=(113::Aa1 6 (97+c/4%26)).A<|1+c/104%7
noncomputable def fJ(c k:Nat):Tx:=(qC c).A (c/728%((qC c).e+1))++[97+(c/4%26+1+3*k)%26]++(qC c).J (c/728%((qC c).e+1))
def E3(n x:Nat):(Aa1 n [x]).L=Aa1 n x:=by
 induction n with
|zero=>rfl
|succ n a=>rw[Ac4,Ag7,a];rfl
def xO(c):(qC c).e<=7:=by simp[qC];lia
def Bv:∀p,p<26*6->∀i,i<8->∀j,j<8->i≠j->(p/6+(1+2*(p%6))*i)%26≠(p/6+(1+2*(p%6))*j)%26:=by decide+kernel
def Mo(f)(c:f<26)(d)(b:d<6)(i)(hi:i<8)(j)(a:j<8)(ne:i≠j):(f+(1+2*d)*i)%26≠(f+(1+2*d)*j)%26:=by
 have:=Bv (f*6+d) YB i hi j a ne
 rwa [show _/6=f by lia,show(f*6+d)%6=d by lia]at this
def D9:∀f,f<26->∀i,i<8->∀j,j<8->i≠j->bI.Q ((f+3*i)%16) []≠bI.Q ((f+3*j)%16) []:=by decide+kernel
def F7:∀f,f<26->∀i,i<8->∀j,j<8->i≠j->(f+1+3*i)%26≠(f+1+3*j)%26:=by decide+kernel
def Dc:∀i,i<16->1<=(bI.Q i []).e/\(bI.Q i []).e<=8/\(∀c∈bI.Q i [],97<=c/\c<=122)/\bI.Q i []∉taken:=by decide+kernel
def kA(c):c/4%26<26:=Ai6 _ YA
def Lr(c):∀i,i<8->∀j,j<8->i≠j->fU c i≠fU c j:=λi b j a ne e=>by have:=Mo _ (kA c) (c/104%6) (Ai6 _ YA) i b j a ne;simp only[fU,List.cons.injEq,and_true]at e;lia
def Fy(c):∀i,i<8->∀j,j<8->i≠j->fO c i≠fO c j:=λi b j a ne e=>by have:=congrArg Ag3 e;simp[fO]at this;lia
def BI(c):∀i,i<8->∀j,j<8->i≠j->iW c i≠iW c j:=λi b j a ne=>D9 _ (kA c) i b j a ne
def DC(c):∀i,i<8->∀j,j<8->i≠j->fJ c i≠fJ c j:=λi b j a ne e=>by have:=F7 _ (kA c) i b j a ne;simp[fJ,and_true]at e;lia
def Ni(c k):Zj<|fU c k:=by
 have h:=Ai6 (c/4%26+(1+2*(c/104%6))*k) (show 0<26 by decide);refine⟨Aa4 _,by simp[fU],λx a=>?_,λb=>?_⟩
 .simp only[fU,Ab2]at a;lia
 .have:=DV _ b;simp[fU]at this
def Bn(c k):Zj<|fO c k:=by
 have h:=kA c;have d:(fO c k).e=min (k+1) 8:=by simp[fO];lia
 refine⟨(L2 _ _),by lia,λx a=>?_,λb=>?_⟩
 .have a:=Ag5 a;simp only[Aa6,Ai8]at a;lia
 .refine vz _ b ?_;simp[fO]
def DL(c k):Zj<|iW c k:=by have:=Dc _<|Ai6 (c/4%26+3*k) (show 0<16 by decide);exact⟨this.1,this.2.1,this.2.2.1,this.2.2.2⟩
def Fl(c k):Zj<|fJ c k:=by
 have h:=kA c;have f:=Ai6 (c/4%26+1+3*k) (show 0<26 by decide);have b:∀x∈qC c,97<=x/\x<=122:=λx a=>by have a:=Ag5 a;simp only[Aa6,Ai8]at a;lia
 have g:(fJ c k).e=(qC c).e+1:=by have:=Ai6 (c/728) (show 0<(qC c).e+1 by lia);simp[fJ,Ae0];lia
 refine⟨by lia,by have:=xO c;lia,λx a=>?_,λe=>?_⟩
 .simp only[fJ,Ab4,Ab2]at a;obtain(a|a)|a:=a
  .exact b x<|Ag5 a
  .lia
  .exact b x<|Am6 a
 .refine vz _ e ?_;have d:113∈qC c:=by
   have:1+c/104%7=(c/104%7)+1:=by lia
   rw[qC,this,RO];exact Aa
  rw[←Am0 _<|qC c]at d;simp only[fJ,Ab4];obtain q|q:=Ab4.j d
  .exact .p<|.p q
  .exact .u q
def Jo(xs:List α)(i)(h:i<xs.e):aY xs (i:Int)=xs[i]?:=by have:(i)<xs.e:=‹_›;simp[aY,dU,this]
def EA(i:Nat)(h:i<16):aY (bI.u D.str) (i:Int)=y0 (.m<|bI.Q i []):=by
 have:i<(bI.u D.str).e:=by simpa[bI]using h
 have e:=Jo _ i this;rw[e,Ae1];have a:=by simpa[bI]using h
 rw[Aa7 a,Ac5,Aa7 a];rfl
def Jd(i j)(h):Gm .j (.i i) (.i j) h=y0 (k8<|i=j):=by rw[wy];congr 1;exact decide_eq_decide.p YB
def HV(c m)(h)(p:m<=8):eval F qo [si c,si m,y0 (.s bB),si (c/4%26),x4,x5,x6] h=.j (.j<|((Ac2 m).u<|fU c).u .m) h:=by
 rw[qo,Jl (λd=>match d with|.o i=>.m<|fU c i.j|d=>d) (qx (m:=m) (by simp![])<|YD)<|by simp;rw[Gf];exact YD]
 .simp[O3]
 .intro d g;obtain⟨i,o,rfl⟩:=ib _ g;refine⟨_,rfl,.s<|fU c i,?_,by simp⟩;have k:Gj .w c 104=y0 _:=ZX c 104 YA YA;have j:Gj .p _ 6=y0 _:=zK (c/104) 6 YA;have l:Gj .u 2 _=y0 ((2*(c/104%6):Nat):Int):=xH 2 _ YA;have n:Gj .j 1 _=y0 _:=Ws 1<|2*(c/104%6);have f:Gj .u _ i=y0 (((1+2*(c/104%6))*i:Nat):Int):=xH _ _ YB;have b:=Ws (c/4%26)<|(1+2*(c/104%6))*i;have a:Gj .p _ 26=y0 (((c/4%26+(1+2*(c/104%6))*i)%26:Nat):Int):=zK _ 26 YA;have e:=jp ((c/4%26+(1+2*(c/104%6))*i)%26) (Ai6 _ YA) h;simp![k,j,l,n,f,b,a,e];rfl
def Lz(c m)(h)(l:m<=8):eval F xo [si c,si m,y0 (.s bB),si (c/4%26),x4,x5,x6] h=.j (.j<|((Ac2 m).u<|fO c).u .m) h:=by
 rw[xo,Jl (λd=>match d with|.o i=>.m<|fO c i.j|d=>d) (qx (m:=m) (by simp![])<|YD)<|by simp;rw[Gf];exact YD]
 .simp[O3]
 .intro d b;obtain⟨i,k,rfl⟩:=ib _ b;refine⟨[si i,y0 _,si _],rfl,.s<|fO c i,?_,by simp⟩;have f:=jp _ (kA c) h;have e:GB .u (.s [97+c/4%26]) (.v<|.o 7) h=.j (.s<|Aa1 7<|97+c/4%26) h:=by have:=mul_str [97+c/4%26] 7 h YA YC;exact this
  have g:GB .j (.s [113]) (.s<|Aa1 7 _) h=.j (.s<|113::Aa1 7 (97+c/4%26)) h:=add_str _ _ h YC;have j:Gj .j i 1=y0 _:=Ws i 1;have a:eN (.s<|113::Aa1 7 (97+c/4%26)) u0 (y0 (i+1:Nat)) h=.j (.s<|fO c i) h:=by rw[xx _ _ _ _<|by simp[Gf],QB];rfl
  simp only[eval,Gq,Gr,R.ae,R.af,f,e,g,Gz,j,int?_int,a]
def Iq(c m)(h)(k:m<=8):eval F jo [si c,si m,y0 (.s bB),si (c/4%26),y0 (.l<|bI.u .m),x5,x6] h=.j (.j<|((Ac2 m).u<|iW c).u .m) h:=by
 rw[jo,Jl (λd=>match d with|.o i=>.m<|iW c i.j|d=>d) (qx (m:=m) (by simp![])<|YD)<|by simp;rw[Gf];exact YD]
 .simp[O3]
 .intro d a;obtain⟨i,j,rfl⟩:=ib _ a;refine⟨_,rfl,.s<|iW c i,?_,by simp⟩;have e:Gj .u 3 i=y0 _:=xH 3 i YA;have b:=Ws (c/4%26)<|3*i;have f:Gj .p _ 16=y0 (((c/4%26+3*i)%16:Nat):Int):=zK _ 16 YA;have g:=EA ((c/4%26+3*i)%16)<|Ai6 _ YA;simp only[eval,Gq,Gr,GF,Ac4,An0,Ai2,Ah7,Ac3,R.ae,R.af,Gz,e,b,f,WU];rw[g];rfl
def N4(c m)(h)(p:m<=8):eval F zo [si c,si m,y0 (.s bB),si (c/4%26),x4,y0 (.s<|qC c),sv (.o ((c/728%((qC c).e+1):Nat):Int))] h=.j (.j<|((Ac2 m).u<|fJ c).u .m) h:=by
 rw[zo,Jl (λd=>match d with|.o i=>.m<|fJ c i.j|d=>d) (qx (m:=m) (by simp![])<|YD)<|by simp;rw[Gf];exact YD]
 .simp[O3]
 .intro d g;obtain⟨i,o,rfl⟩:=ib _ g;refine⟨_,rfl,.s<|fJ c i,?_,by simp⟩;have sl:=xO c;have e:(qC c).e<=bp:=by rw[Gf];exact Ac0 ‹_›<|by decide
  have k:Gj .j _ 1=y0 ((c/4%26+1:Nat):Int):=Ws _ 1;have j:Gj .u 3 i=y0 _:=xH 3 i YA;have l:=Ws (c/4%26+1)<|3*i;have n:Gj .p _ 26=y0 (((c/4%26+1+3*i)%26:Nat):Int):=zK _ 26 YA;have f:=jp ((c/4%26+1+3*i)%26) (Ai6 _ YA) h;have b:=xx _ u0 (y0<|(c/728%((qC c).e+1):Nat)) h e;have a:=xx _ (y0<|(c/728%((qC c).e+1):Nat)) u0 h e;rw[QB]at b;rw[xM]at a;simp only[eval,Gq,Gr,GF,Ac4,An0,Ai2,Ah7,Ac3,Aj4,R.ae,R.af,Gz,k,j,l,n,f,b,a,int?_int];rw[add_str _ _ _<|by simp;lia,R.ae];simp only[a,R.ae];rw[add_str _ _ _<|by simp;lia];rfl
def EZ(k c m)(h)(a:m<=8):∃ts:List Tx,ts.e=m/\ts.C/\(∀t∈ts,Zj t)/\call prog (k+1) "_law_family" [.i c,.i m] h=.j (.j<|ts.u .m) h:=by
 rw[Gb rfl _ _ _ rfl];have p:Gj .w (c:Int) 4=y0 _:=ZX c 4 YA YA;have z:Gj .p _ 26=y0 ((c/4%26:Nat):Int):=zK _ 26 YA;have d:Gj .p (c:Int) 4=y0 _:=zK c 4 YA;have f:Gm .j _ (.v<|.o 0) h=y0 _:=Jd (c%4) 0 h;have o:Gm .j _ (.v<|.o 1) h=y0 _:=Jd (c%4) 1 h;have n:Gm .j _ (.v<|.o 2) h=y0 _:=Jd (c%4) 2 h;simp only[qB];show∃ts:List Tx,_/\_/\_/\Gv _ (execs _ _ [si c,si m,u0,u0,u0,u0,u0] h)=_;rw[za rfl];rw[za (Z1:=[si c,si m,y0 (.s bB),si (c/4%26),u0,u0,u0]) (h1:=h)<|by simp![p,z]];by_cases j:c%4=0
 .refine⟨(Ac2 m).u<|fU c,by simp,ZC _ m a<|Lr c,λt b=>?_,?_⟩
  .obtain⟨i,_,rfl⟩:=Ad3.j b;exact Ni c i
  .rw[Za (w:=.j<|((Ac2 m).u<|fU c).u .m) (h1:=h)<|(Zi (h1:=h)<|by simp![d,f,FM j]).x<|Za<|zl rfl<|HV c m h a,Gw _ _ _ rfl]
 rw[za (Z1:=[si c,si m,y0 (.s bB),si (c/4%26),u0,u0,u0]) (h1:=h)<|by simp![d,f,Do j]];by_cases g:c%4=1
 .refine⟨(Ac2 m).u<|fO c,by simp,ZC _ m a<|Fy c,λt b=>?_,?_⟩
  .obtain⟨i,_,rfl⟩:=Ad3.j b;exact Bn c i
  .rw[Za (w:=.j<|((Ac2 m).u<|fO c).u .m) (h1:=h)<|(Zi (h1:=h)<|by simp![d,o,FM g]).x<|Za<|zl rfl<|Lz c m h a,Gw _ _ _ rfl]
 rw[za (Z1:=[si c,si m,y0 (.s bB),si (c/4%26),u0,u0,u0]) (h1:=h)<|by simp![d,o,Do g]];by_cases l:c%4=2
 .refine⟨(Ac2 m).u<|iW c,by simp,ZC _ m a<|BI c,λt b=>?_,?_⟩
  .obtain⟨i,_,rfl⟩:=Ad3.j b;exact DL c i
  .rw[Za (w:=.j<|((Ac2 m).u<|iW c).u .m) (h1:=h) ?_,Gw _ _ _ rfl];rw[Zi (h1:=h)<|by simp![d,n,FM l]];rw[za (Z1:=[si c,si m,y0 (.s bB),si (c/4%26),y0 (.l<|(bI.A 12).u .m),u0,u0]) (h1:=h)<|by simp![];rfl];rw[za (Z1:=[si c,si m,y0 (.s bB),si (c/4%26),y0 (.l<|bI.u .m),u0,u0]) (h1:=h)<|by simp![jB];rw[Da<|by rw[Gf];decide];rfl];exact Za<|zl rfl<|Iq c m h a
 rw[za (Z1:=[si c,si m,y0 (.s bB),si (c/4%26),u0,u0,u0]) (h1:=h)<|by simp![d,n,Do l]];have sl:=xO c;have y:(qC c).e<=bp:=by rw[Gf];exact YD
 have u:=jp (c/4%26) (kA c) h;have r:GB .u (.s [97+c/4%26]) (.v<|.o 6) h=.j (.s<|Aa1 6<|97+c/4%26) h:=by have:=mul_str [97+c/4%26] 6 h YA YC;rw[E3]at this;exact this
 have C:GB .j (.s [113]) (.s<|Aa1 6<|97+c/4%26) h=.j (.s<|113::Aa1 6 (97+c/4%26)) h:=add_str _ _ h YC;have s:Gj .w (c:Int) 104=y0 ((c/104:Nat):Int):=ZX c 104 YA YA;have A:Gj .p ((c/104:Nat):Int) 7=y0 ((c/104%7:Nat):Int):=zK _ 7 YA;have q:Gj .j 1 ((c/104%7:Nat):Int)=y0 ((1+c/104%7:Nat):Int):=Ws 1 _;have B:eN (.s<|113::Aa1 6 (97+c/4%26)) u0 (y0 ((1+c/104%7:Nat):Int)) h=.j (.s<|qC c) h:=by rw[xx _ _ _ _<|by simp[Gf],QB];rfl
 have v:Gj .w (c:Int) 728=y0 ((c/728:Nat):Int):=ZX c 728 YA YA;have x:Gj .j ((qC c).e:Int) 1=y0 (((qC c).e+1:Nat):Int):=Ws _ 1;have e:=zK (c/728) ((qC c).e+1)<|L2 _ _;rw[za (Z1:=[si c,si m,y0 (.s bB),si (c/4%26),u0,y0 (.s<|qC c),u0]) (h1:=h)<|by simp only[exec,eval,Gq,Gr,GF,R.ae,R.af,u,r,C,Gz,s,A,q,int?_int,B,R.aF,W.eL]];rw[za (Z1:=[si c,si m,y0 (.s bB),si (c/4%26),u0,y0 (.s<|qC c),sv (.o ((c/728%((qC c).e+1):Nat):Int))]) (h1:=h)<|by simp only[exec,eval,Gn,Gq,Gr,GF,R.ae,R.af,Gz,v,len_str,y,Oi,x,e,R.aF,W.eL]];refine⟨(Ac2 m).u<|fJ c,by simp,ZC _ m a<|DC c,λt b=>?_,?_⟩
 .obtain⟨i,_,rfl⟩:=Ad3.j b;exact Fl c i
 .rw[Za (w:=.j<|((Ac2 m).u<|fJ c).u .m) (h1:=h)<|zl rfl<|N4 c m h a,Gw _ _ _ rfl]
theorem qN{I:AH->Prop}{Q:D->Prop}:∀ds,(∀d∈ds,∀h,I h->∃y h',step d h=.j (y0 y) h'/\I h'/\Q y)->∀h,I h->∃ys h',Gy step ds h=.j ys h'/\I h'/\ys.e=ds.e/\∀y∈ys,Q y
|[],_,h,i=>⟨[],h,rfl,i,rfl,λ_ n=>absurd n<|Ab9⟩
|d::ds,b,h,i=>by
  obtain⟨y,l,j,i1,k⟩:=b d Aa h i;obtain⟨ys,f,e,i2,c,g⟩:=qN ds (λd m=>b d<|Aa0 _ m) l i1;refine⟨y::ys,f,by rw[Gy,j];simp only[e],i2,by simp[c],λz a=>?_⟩;rcases Aa6.j a with rfl|a
  .exact k
  .exact g z a
def Lp{I:AH->Prop}{Q:D->Prop}(hi:Gs F it Z h=.j ds h)(l:ds.e<=bp)(i0:I h)
 (n:∀d∈ds,∀h,I h->∃L,GC tg one d (Aa1 k u0++aB.u λj=>Gq Z j)=y0 L/\∃w y h',eval F elt L h=.j w h'/\w.d=y0 y/\I h'/\Q y):
 ∃ys h',eval F (.Q tg one k aB it u9 c elt) Z h=.j (.j ys) h'/\I h'/\ys.e=ds.e/\∀y∈ys,Q y:=by
 obtain⟨step,m,b⟩:∃step:D->AH->R _,eval F (.Q tg one k aB it u9 c elt) Z h=(Gy step ds h).p (λys h=>.j (.j ys) h)∧
  ∀d h L w y h',GC tg one d (Aa1 k u0++aB.u λj=>Gq Z j)=y0 L->eval F elt L h=.j w h'->w.d=y0 y->step d h=.j (y0 y) h':=
  ⟨_,by rw[eval,hi,R.ae,Da l],λd h L w y h' f a g=>by simp[f,a,g]⟩
 obtain⟨ys,h',e,r⟩:=qN ds (λd o h i=>by obtain⟨L,f,w,y,h',a,g,p,q⟩:=n d o h i;exact⟨y,h',b d h L w y h' f a g,p,q⟩) h i0;exact⟨ys,h',by rw[m,e,R.ae],r⟩
theorem xq:∀ts:List Tx,GG (ts.u .m)=y0 ts
|[]=>rfl
|t::ts=>by simp[GG,xq ts]
theorem AY(s):∀ts:List Tx,inD (.m s) (ts.u .m)=k8 (s∈ts)
|[]=>rfl
|t::ts=>by
  have a:=AY s ts;simp only[inD]at a;by_cases q:t=s
  .subst q;simp[inD]
  .have b:¬s=t:=λe=>q e.j;simp only[inD,Ac3,Ah9,a,Aa6,b,false_or];simp[q]
def FT(ts:List Tx):(ts.u D.str).N flat=true:=by simp
def Qk(s)(ts:List Tx)(w)(h)(a:w.seq? h=y0 (ts.u .m))(h2:w.bc=u0):Kh (.s s) w h=y0 (k8<|s∈ts):=by unfold Kh;rw[h2];simp only[W.bc,W.eL,a,FT,Ak0,Oi,AY]
theorem qZ  [DecidableEq α]:∀(l m:List α),l.C->(∀x∈l,x∈m)->l.e<=m.e
|[],_,_,_=>Af0 _
|x::l,m,d,a=>by
  have b:=(Ag0.j d);have h:=qZ l (m.erase x) b.2 λy c=>by have:y≠x:=λe=>b.1<|e▸c;exact(List.mem_erase_of_ne this).p<|a y<|Aa0 _ c
  have g:=List.length_erase_of_mem<|a x Aa;have f:=List.length_pos_of_mem<|a x Aa;simp only[Ab1];lia
theorem yC:∀L:List Nat,GH [] (L.u λc=>[c])=L
|[]=>rfl
|[c]=>rfl
|c::d::r=>by have:=yC<|d::r;simp only[Ac3,GH,Ac7]at this⊢;rw[this];rfl
def Cq{a:List D}(h:∀y∈a,∃c,(97<=c/\c<=122)/\y=.m [c]):∃L:List Nat,a=(L.u λc=>[c]).u .m/\∀c∈L,97<=c/\c<=122:=by
 induction a with
|nil=>exact⟨[],rfl,λ_ h=>absurd h Ab9⟩
|cons y a j=>
  obtain⟨c,g,e⟩:=h y Aa;obtain⟨L,i,b⟩:=j λy k=>h y<|Aa0 _ k;refine⟨c::L,by rw[e,i];rfl,λd f=>?_⟩;obtain rfl|f:=Aa6.j f
  .exact g
  .exact b d f
def ao:List Tx:=taken.A 14
def WB:Tx:=dM
def Q1(t):t∈taken↔t∈ao\/t=WB:=by have:taken=ao++[WB]:=rfl;rw[this,Ab4,Ab2]
structure Nm(ts:List Tx):Prop where
 nd:ts.C
 good:∀t∈ts,Zj t
open M renaming Nm.good->Lake.M.Nm.j
def Nm.snoc (h:Nm ts)(i:Zj t)(f:t∉ts):Nm<|ts++[t]:=by
 refine⟨?_,λx c=>?_⟩
 .rw[Al1];refine⟨h.nd,by simp,?_⟩;intro a g b d e;rw[Ab2]at d;subst d;subst e;exact f g
 .obtain c|c:=Ab4.j c
  .exact h.j x c
  .rw[Ab2]at c;exact c▸i
noncomputable abbrev zC(s a b:W)(ts:List Tx)(x6 x7 x8 x9:Option W):Sl:=[y0 s,y0 a,y0 b,y0 (.s bB),y0 (.l<|ao.u .m),y0 (.j<|(WB::ts).u .m),x6,x7,x8,x9]
def Ew(P:PH h)(C:r<h.e)(B:n<=8):
 ∃L:List Nat,∃h',L.e=n/\(∀c∈L,97<=c/\c<=122)/\PH h'/\h'.e=h.e∧
  eval (k7<|k+1) Zf (zC s a b ts (y0<|.r r) (si n) x8 x9) h=.j (.j<|(L.u λc=>[c]).u .m) h':=by
 obtain⟨x,h',e,⟨o,l⟩,q,z⟩:=Lp (F:=(k7<|k+1)) (tg:=[0]) (one:=true) (k:=1) (aB:=[3,6]) (it:=.aQ .v7) (elt:=.G .B<|.j SS<|.b .J<|.o 26) (Z:=zC s a b ts (some<|.r r) (si n) x8 x9)
  (I:=λh'=>PH h'/\h'.e=h.e) (Q:=λy=>∃c,(97<=c/\c<=122)/\y=.m [c]) (qx (m:=n) (by simp![])<|YD) (by simp;rw[Gf];exact YD) ⟨P,rfl⟩<|λd D j ⟨t,E⟩=>by obtain⟨v,g,p,u,A,f⟩:=jg k t (show r<j.e by lia) (show 0<26 by decide) YA;have f:call prog _ SS [.r r,.v (.o 26)] j=.j _ g:=f;refine⟨[sv d,y0 _,y0 _],rfl,.s [97+v],.m [97+v],g,?_,rfl,⟨u,by lia⟩,97+v,by lia,rfl⟩;simp[Gq,f,jp v p g,R.af]
 obtain⟨L,i,w⟩:=Cq z;refine⟨L,h',?_,w,o,l,?_⟩
 .have:x.e=L.e:=by rw[i];simp
  rw[←this,q];simp
 .rw[Zf,e,i]
def B4(j:t.e<=8):
 eval F Qi (zC s a b ts x6 x7 (y0<|.s t) x9) h=.j (.j<|(bB.u λc=>t.A 7++[c]).u .m) h:=by
 have f:t.e<=bp:=by rw[Gf];exact YD
 rw[Qi,Jl (ds:=c8 bB) (λd=>match d with|.m u=>.m<|t.A 7++u|d=>d) (by simp![])<|by rw[Gf];decide]
 .simp[c8]
 .intro d e;obtain⟨c,i,rfl⟩:=Ad3.j e;refine⟨[y0 _,y0 _],rfl,.s _,?_,rfl⟩;have g:eN (.s t) u0 (y0 7) h=.j (.s<|t.A 7) h:=by rw[xx _ _ _ _ f];exact congrArg (λx=>R.ok _ h)<|QB t 7
  simp only[eval,Gq,Gr,R.ae,R.af,int?_int,g];exact add_str _ _ h<|by simp;lia
def yw(ts)(h)(a:ts.e<=100):GB .j (.l<|ao.u .m) (.p<|(WB::ts).u .m) h=.j (.j<|(ao++WB::ts).u .m) h:=by rw[FX,Da<|by rw[Gf];simp[ao,taken];lia,Ad]
def F0{us:List Tx}(g:ts.e<=100)(e:us.e<=100):
 eval F Xf (zC s a b ts x6 x7 x8<|y0<|.l<|us.u .m) h=.j (.j<|(us.filter λu=>!k8 (u∈ao++WB::ts)).u .m) h:=by
 rw[Xf,F2 (ds:=us.u .m) (λd=>match d with|.m u=>if u∈ao++WB::ts then u0 else y0 (.m u)|_=>u0) (by simp![])<|by rw[Gf];simp;exact YD]
 .congr 2;rw[RX];induction us with
|nil=>rfl
|cons u us c=>
   by_cases q:u∈ao++WB::ts
   .rw[List.filterMap_cons_none<|by simp[Function.comp,q,Oi],List.filter_cons_of_neg<|by simp only[q,Ak1];simp];exact c<|by simp at e;exact Af9 ‹_›
   .rw[PP (b:=.m u)<|by simp[Function.comp,q,OD],List.filter_cons_of_pos<|by simp[q,OV,Ak9],Ac3,c<|by simp at e;exact Af9 ‹_›]
 .intro d f;obtain⟨u,_,rfl⟩:=Ad3.j f;refine⟨[y0 _,y0 _,y0 _],!k8 (u∈ao++WB::ts),rfl,?_,?_⟩
  .simp only[Gg,eval,Gq,Gr,R.ae,yw ts h g,Gm,Qk u _ (.j _) h rfl rfl,Option.map_some,R.af,Gu]
  .by_cases q:u∈ao++WB::ts
   .simp[q,Ri,Ak1,Ah6,OD,Oi]
   .simp only[q,OV,Ak9,Oi,OD];exact⟨_,_,rfl,rfl,rfl⟩
def MD{t:Tx}(k:ts.e<=7):∃c r,(97<=c/\c<=122)/\t.A 7++[c]∉ao++WB::ts/\((bB.u λc=>t.A 7++[c]).filter λu=>!k8 (u∈ao++WB::ts))=(t.A 7++[c])::r:=by
 cases q:((bB.u λc=>t.A 7++[c]).filter λu=>!k8 (u∈ao++WB::ts))with
|nil=>
  have f:=List.filter_eq_nil_iff.j q;have j:=λu a=>by
   by_cases d:u∈ao++WB::ts
   .exact d
   .exact absurd (by simp[d,Ak9])<|f u a
  have h:(bB.u λc=>t.A 7++[c]).C:=by rw[List.Nodup,An4];refine Ak.imp ?_ (show bB.a0 (·≠·)by decide);intro x y ne e;simp[and_true]at e;exact ne e
  have i:=qZ _ _ h j;simp[ao,taken]at i;lia
|cons u r=>
  have a:u∈((bB.u λc=>t.A 7++[c]).filter λu=>!k8 (u∈ao++WB::ts)):=by rw[q];exact Aa
  rw[List.mem_filter]at a;obtain⟨c,g,e⟩:=Ad3.j a.1;have b:∀c∈bB,97<=c/\c<=122:=by decide
  refine⟨c,r,b c g,?_,by rw[e]⟩;rw[e];simpa using a.2
def NG(x)(r:List α):aY (x::r) 0=y0 x:=by
 have:0<(x::r).e:=by simp
 simp[aY,dU,this]
def Hu(P:PH h)(L:r<h.e)(N:Nm ts)(G:ts.e<=7):
 ∃t y7 y8 y9 h',Nm (ts++[t])/\PH h'/\h'.e=h.e∧
  execs (k7<|k+1) ze (zC s a b ts (y0<|.r r) x7 x8 x9) h=.p (zC s a b (ts++[t]) (y0<|.r r) y7 y8 y9) h':=by
 obtain⟨v,f,S,K,Y,p⟩:=jg k P L (show 0<8 by decide) YA;have p:call prog _ SS [.r r,.v (.o 8)] h=.j _ f:=p;have M:Gj .j 1 (v:Int)=y0 _:=Ws 1 v;obtain⟨d,e,X,E,C,T,J⟩:=Ew (k:=k) (s:=s) (a:=a) (b:=b) (ts:=ts) (x8:=x8) (x9:=x9) (n:=1+v) K (show r<f.e by lia) YB;have A:∀t:Tx,t.e<=8->(∀c∈t,97<=c/\c<=122)->1<=t.e->t∉ao++WB::ts->Nm _:=λt H u f j=>by
  refine N.snoc ⟨f,H,u,λl=>j ?_⟩ λl=>j ?_
  .rcases(Q1 t).j l with q|q
   .exact Ad4 _ q
   .exact Aa8 _<|q▸Aa
  .exact Aa8 _<|Aa0 _ l
 have z:((WB::ts).u D.str).e<bp:=by rw[Gf];simp;lia
 simp only[ze];rw[za (Z1:=zC s a b ts (y0<|.r r) (si<|1+v) x8 x9) (h1:=f)<|by simp![p,M];rfl];have I:d.e<=bp/\(d.u λc=>[c]).e<=bp/\([]:Tx).e<=bp:=by rw[Ab,Gf];exact⟨by lia,by lia,Af0 _⟩
 have m:exec (k7<|k+1) (.p 8<|.cJ .join (.m [])<|.a Zf) (zC s a b ts (y0<|.r r) (si<|1+v) x8 x9) f=.p (zC s a b ts (y0<|.r r) (si<|1+v) (y0<|.s d) x9) e:=by simp only[exec,eval,Gn,R.ae,sH,Oi,J,mh,W.bc,R.af,W.hG,Ac8,xq,yC,Da I,R.aF,W.eL,GF]
 rw[za m];have g:Gg (k7<|k+1) (.y .p .v8<|.w .j .Y .v5) (zC s a b ts (y0<|.r r) (si<|1+v) (y0<|.s d) x9) e=.j (k8<|d∈ao++WB::ts) e:=by simp only[Gg,eval,Gq,Gr,R.ae,yw ts e<|YD,Gm,Qk d _ (.j<|(ao++WB::ts).u .m) e rfl rfl,R.af,Gu]
 by_cases q:d∈ao++WB::ts
 .rw[FM q]at g;obtain⟨c,V,w,j,y⟩:=MD (ts:=ts) (t:=d) G;obtain⟨U,o⟩:∃U,U=bB.u λc=>d.A 7++[c]:=⟨_,rfl⟩;rw[←o]at y;have Q:U.e<=100:=by rw[o];simp
  have B:=B4 (F:=(k7<|k+1)) (s:=s) (a:=a) (b:=b) (ts:=ts) (x6:=y0<|.r r) (x7:=si<|1+v) (x9:=x9) (h:=e) (t:=d) YB;rw[←o]at B;have i0:exec (k7<|k+1) (.p 8<|.G Xf<|.o 0) (zC s a b ts (y0<|.r r) (si<|1+v) (y0<|.s d)<|y0<|.l<|U.u .m) e=.p (zC s a b ts (y0<|.r r) (si<|1+v) (y0<|.s<|d.A 7++[c])<|y0<|.l<|U.u .m) e:=by simp only[exec,eval,F0 (F:=(k7<|k+1)) (s:=s) (a:=a) (b:=b) (x6:=y0<|.r r) (x7:=si<|1+v) (x8:=y0<|.s d) (h:=e) (ts:=ts) (us:=U) (YD) Q,y,R.ae,Zm,Ac3,NG,R.af,R.aF,W.eL,GF]<;>rfl
  refine⟨d.A 7++[c],si<|1+v,y0<|.s<|d.A 7++[c],y0<|.l<|U.u .m,e,A _ (by simp;lia) (λx i=>?_) YC j,C,by lia,?_⟩
  .rcases Ab4.j i with i|i
   .exact E x<|Ag5 i
   .rw[Ab2]at i;exact i▸w
  .rw[za (Z1:=zC s a b ts (y0<|.r r) (si<|1+v) (y0<|.s<|d.A 7++[c])<|y0<|.l<|U.u .m) (h1:=e)]
   .simp only[execs,exec,Gr,eval,Gq,R.aF,W.eL,z,Oi,GF,O.b3];simp[zC]
   .rw[Zi g,za (Z1:=zC s a b ts (y0<|.r r) (si<|1+v) (y0<|.s d)<|y0<|.l<|U.u .m) (h1:=e)<|by simp only[exec,B,R.aF,W.iU,GF],za i0];rfl
 .rw[Do q]at g;refine⟨d,si<|1+v,y0<|.s d,x9,e,A d YB E YB q,C,by lia,?_⟩;rw[za<|(gf g).x rfl];simp only[execs,exec,Gr,eval,Gq,R.aF,W.eL,z,Oi,GF,O.b3];simp[zC]
theorem Bc:∀(rs:List Nat) ts x6 x7 x8 x9 h,PH h->(∀r∈rs,r<h.e)->Nm ts->ts.e+rs.e<=8->∃us y6 y7 y8 y9 h',Nm us/\us.e=ts.e+rs.e/\PH h'/\h'.e=h.e∧
 GA (GC [6] k9) (λZ h=>execs (k7<|k+1) ze Z h) (rs.u .j) (zC s a b ts x6 x7 x8 x9) h=.p (zC s a b us y6 y7 y8 y9) h'
|[],ts,x6,x7,x8,x9,h,P,c,N,d=>⟨ts,x6,x7,x8,x9,h,N,by simp,P,rfl,rfl⟩
|r::rs,ts,x6,x7,x8,x9,h,P,c,N,d=>by simp only[Ab1]at d;obtain⟨t,y7,y8,y9,w,x,n,z,o⟩:=Hu P (c r Aa) N YB;obtain⟨us,p,u,l,f,j,e,g,v,y,i⟩:=Bc rs (ts++[t]) (y0<|.r r) y7 y8 y9 w n (λq m=>by have:=c q<|Aa0 _ m;lia) x (by simp;lia);refine⟨us,p,u,l,f,j,e,by simp at g⊢;lia,v,by lia,?_⟩;rw[Ac3,Xi rfl o,i]
def uG(n r):(Aa1 n [D.ref r]).L=(Aa1 n r).u .j:=by
 induction n with
|zero=>rfl
|succ n a=>rw[Ac4,Ag7,a];rfl
def tw(xs)(n)(h)(b:n<=1000)(a:xs.e*n<=1000000):GB .u (.j xs) (.i n) h=.j (.j (Aa1 n xs).L) h:=by show Kr xs n h=_;rw[Kr,Da ⟨(Oy _),by lia,by rw[Af1,Gf];exact a⟩,Af1]
def uH(b:Gi xs=k9)(c:n<=h.e)(a:GE (h.A n)=k9):∃h',Gv n (.j (.j xs) h)=.j (.j xs) h'/\h'=h.A n:=by
 by_cases q:h.e=n
 .exact⟨h,by simp[Gv,fin,q],by rw[←q,Aj7]⟩
 .exact⟨h.A n,by simp[Gv,fin,q,W.keep,b,a],rfl⟩
def Nh(b:Gp d=k9)(c:n<=h.e)(a:GE (h.A n)=k9):∃h',Gv n (.j (.v d) h)=.j (.v d) h'/\h'=h.A n:=by
 by_cases q:h.e=n
 .exact⟨h,by simp[Gv,fin,q],by rw[←q,Aj7]⟩
 .exact⟨h.A n,by simp[Gv,fin,q,W.keep,b,a],rfl⟩
theorem Qq:∀ts:List Tx,Gi (ts.u .m)=k9
|[]=>rfl
|t::ts=>by simp[Qq ts]
def Zp(a:Gn F es Z h=.j ws h)(b:F.j f (ws.u W.arg) h=.j (.j xs) h)(c:Gi xs=k9):eval F (.share<|.j f es) Z h=.j (.r h.e) (h++[.u xs]):=by simp only[eval,a,R.ae,b,c,Oi]
def x3(k:Nat)(ns:List Int)(u:ns.e<=63)(K T:Nat)(hK:K<=4)(hT:T<=4)(h:AH)(P:PH h):∃ts h',Nm ts/\ts.e=K+T/\PH h'/\h'.e=h.e∧
 call prog (k+3) "_law_any_names" [bD ns,.i K,.i T] h=.j (.j<|ts.u .m) h':=by
 rw[Gb (d:=Jk) rfl _ _ _ rfl];obtain⟨g,c,e,L⟩:=jF k ns u 1 h;obtain⟨a2,l,j,C⟩:=jF k ns u 2 _;have J:=P.app g c e;have S:=J.app a2 l j;obtain⟨i,H,X,E,Q,h',N,v,x,p,M⟩:=Bc (k:=k+1) (s:=bD ns) (a:=.i K) (b:=.i T) (Aa1 K h.e++Aa1 T (h.e+1)) [] u0 u0 u0 u0 (h++[.u [.o g,.o c,.o e]]++[.u [.o a2,.o l,.o j]]) S (λr O=>by
  rw[Aa2,Aa2];rcases Ab4.j O with q|q
  .rw[(Ai8.j q).2];simp;exact Ac9 _
  .rw[(Ai8.j q).2];simp) ⟨Rr,λ_ h=>absurd h Ab9⟩<|by simp;lia
 simp only[Aa2,Ae3,Ae0,An8]at v;have y:call prog (k+2) SY [bD ns,.v (.o 1)] h=.j (.j [.o g,.o c,.o e]) h:=L;have A:call prog (k+2) SY [bD ns,.v (.o 2)] (h++[.u [.o g,.o c,.o e]])=.j (.j [.o a2,.o l,.o j]) (h++[.u [.o g,.o c,.o e]]):=C;obtain⟨I,z,o⟩:=uH (xs:=i.u .m) (n:=h.e) (h:=h') (Qq i) (by rw[p,Aa2,Aa2];lia) (x.take _).pure;refine⟨i,I,N,v,o▸x.take _,by rw[o,Ae4,p,Aa2,Aa2];lia,?_⟩;simp only[Jk];rw[za (Z1:=[y0 (bD ns),si K,si T,y0 (.s bB),u0,u0,u0,u0,u0,u0]) (h1:=h) rfl];rw[za (Z1:=[y0 (bD ns),si K,si T,y0 (.s bB),y0 (.l<|ao.u .m),u0,u0,u0,u0,u0]) (h1:=h) rfl];rw[za (Z1:=zC (bD ns) (.i K) (.i T) [] u0 u0 u0 u0) (h1:=h) rfl];have V:GB .u (.j [.j h.e]) (.i K) (h++[.u [.o g,.o c,.o e]])=.j (.j<|(Aa1 K h.e).u .j) (h++[.u [.o g,.o c,.o e]]):=by rw[tw _ _ _ (YD)<|by simp;exact YD,uG]
 have G:GB .u (.j [.j (h.e+1)]) (.i T) (h++[.u [.o g,.o c,.o e]]++[.u [.o a2,.o l,.o j]])=.j (.j<|(Aa1 T<|h.e+1).u .j) (h++[.u [.o g,.o c,.o e]]++[.u [.o a2,.o l,.o j]]):=by rw[tw _ _ _ (YD)<|by simp;exact YD,uG]
 have B:(h++[Cell.lst [.o g,.o c,.o e]]).e=h.e+1:=by simp
 have Y:exec (k7<|k+2) (.for [6] true (.seq<|.w .j (.w .u (.u<|.j (.share<|.j SY<|.b .A<|.o 1) .p) .B)<|.w .u (.u<|.j (.share<|.j SY<|.b .A<|.o 2) .p) .J) ze) (zC (bD ns) (.i K) (.i T) [] none none none none) h=.p (zC (bD ns) (.i K) (.i T) i H X E Q) h':=by have U:=Zp (F:=(k7<|k+2)) (f:=SY) (es:=.j .A<|.a<|.o 1) (Z:=zC (bD ns) (.i K) (.i T) [] none none none none) (h:=h) (ws:=[bD ns,.v (.o 1)]) (xs:=[D.int g,D.int c,D.int e]) rfl y rfl;have t:=Zp (F:=(k7<|k+2)) (f:=SY) (es:=.j .A<|.a<|.o 2) (Z:=zC (bD ns) (.i K) (.i T) [] none none none none) (h:=h++[Cell.lst [D.int g,D.int c,D.int e]]) (ws:=[bD ns,.v (.o 2)]) (xs:=[D.int a2,D.int l,D.int j]) rfl A rfl;rw[B]at t;rw[exec,GD];simp only[GI];rw[eval,eval,eval,Gk,U];simp only[R.ae,W.eL,R.af,Gk];rw[show eval (k7<|k+2) .B (zC (bD ns) (.i K) (.i T) [] u0 u0 u0 u0) (h++[.u [.o g,.o c,.o e]])=.j (.i K) (h++[.u [.o g,.o c,.o e]])from rfl,R.ae,V,R.ae,eval,eval,Gk,t];simp only[R.ae,W.eL,R.af,Gk];rw[show eval (k7<|k+2) .J (zC (bD ns) (.i K) (.i T) [] u0 u0 u0 u0) (h++[.u [.o g,.o c,.o e]]++[.u [.o a2,.o l,.o j]])=.j (.i T) (h++[.u [.o g,.o c,.o e]]++[.u [.o a2,.o l,.o j]])from rfl,R.ae,G,R.ae,jJ,Da<|by rw[Gf];simp;lia,R.ae,Kd,R.af,R.aF,←Ad,M]
 rw[za Y];rw[Za (w:=.j<|i.u .m) (h1:=h') ?_,z];refine zl rfl ?_;have:=xM ((WB::i).u D.str) 1;have m:cut ((WB::i).u D.str) (y0 1) u0=i.u .m:=this;simp only[eval,Gq,Gr,R.ae,int?_int,R.af,NZ,m]
theorem Zs(x):∀ys:List Tx,(GR x ys).Perm<|x::ys
|[]=>.refl _
|y::ys=>by
  unfold GR;by_cases q:y<x
  .rw[Da q];exact((Zs x ys).cons y).x<|.swap x y ys
  .rw[Fk q]
theorem xb:∀xs:List Tx,(Gc xs).Perm xs
|[]=>.refl _
|x::xs=>(Zs x<|Gc xs).x<|(xb xs).cons x
def Nm.perm (h:Nm a)(p:b.Perm a):Nm b:=⟨p.nodup_iff.p h.nd,λt c=>h.j t<|p.mem_iff.j c⟩
def Nm.rev (h:Nm a):Nm a.T:=h.perm<|List.reverse_perm a
noncomputable abbrev aU(ts:List Tx):D:=.p<|ts.u .m
abbrev wD(K T:List Tx):D:=.p [aU K,aU T]
def Nw:Gj .pow 10 8=y0 ((100000000:Nat):Int):=by
 have:(0:Int)<=8/\8<=BP/\(10:Int).p<mW:=by rw[Kv,GU];decide
 show(if _ then _ else _)=_;rw[Da this];rfl
def JL(ts)(h)(a:ts.e<64):cz .j [.j (ts.u .m)] h=.j (.j<|(Gc ts).u .m) h:=by show(R.of h<|(y0 _).p GG).p _=_;rw[Ac8,xq,R.af,R.ae,Da a]
def uC(c)(h):Gm .j (.v<|.o<|c%2) (.v<|.o 1) h=y0 (k8<|c%2=1):=wy _ _ h
abbrev mO(s:W)(r K T n:Nat)(ts:List Tx):Sl:=[y0 s,y0 (.r r),si K,si T,si n,y0 (.l<|ts.u .m)]
def Cr(k)(ns)(r:ns.e<=63)(h)(P:PH h):∃K T h',K.e<=4/\T.e<=4/\Nm (K++T)/\PH h'/\h'.e=h.e/\call prog (k+4) Tw [bD ns] h=.j (.v<|wD K T) h':=by
 rw[Gb (d:=xv) rfl _ _ _ rfl];obtain⟨l,i,j,s⟩:=jF _ ns r 0 h;have s:call prog _ SY [bD ns,.v _] h=.j _ h:=s;have P1:=P.app l i j;have l1:(h++[Cell.lst [D.int l,D.int i,D.int j]]).e=h.e+1:=by simp
 obtain⟨K,o,hK,P2,l2,p⟩:=jg _ P1 (show h.e<(h++[Cell.lst [D.int l,D.int i,D.int j]]).e by lia) (show 0<5 by decide) YA;obtain⟨T,u,hT,P3,l3,t⟩:=jg _ P2 (show h.e<o.e by lia) (show 0<5 by decide) YA;obtain⟨n,b,hn,B,l4,O⟩:=jg (k+2) P3 (show h.e<u.e by lia) (show 0<100000000 by decide) YA;have p:call prog (k+3) SS [.r h.e,.v (.o 5)] _=.j (.i K) o:=p;have t:call prog (k+3) SS [.r h.e,.v (.o 5)] o=.j (.i T) u:=t;obtain⟨fs,C,G,H,e5⟩:=EZ (k+2) (n/2) (K+T) b YB;obtain⟨m,e⟩:=ou (k+2) ns r 0 b;have e:call prog (k+3) Tr [bD ns,.v (.o 0)] b=.j (.v<|.o m) b:=e;obtain⟨as,V,X,la,J,l5,E⟩:=x3 k ns r K T (IR ‹_›) (IR ‹_›) b B;have d1:Gj .w (n:Int) 2=y0 ((n/2:Nat):Int):=ZX n 2 YA YA;have z:Gj .p (n:Int) 2=y0 ((n%2:Nat):Int):=zK n 2 YA;have x:Gj .p m 2=y0 (m%2):=Jp _ _ YA;have Y:=Ws K T;have I:Gm .j (.i<|n%2) (.v<|.o 1) b=y0 (k8<|n%2=1):=Jd (n%2) 1 b;simp only[xv];show∃K T h',_/\_/\_/\_/\_/\Gv _ (execs _ _ [y0 (bD ns),u0,u0,u0,u0,u0] h)=_;have p1:=Zp (F:=(k7<|k+3)) (f:=SY) (es:=.j .A<|.a<|.o 0) (Z:=[some (bD ns),none,none,none,none,none]) (h:=h) (ws:=[bD ns,.v (.o 0)]) (xs:=[D.int l,D.int i,D.int j]) rfl s rfl;rw[za (Z1:=[y0 (bD ns),y0 (.r h.e),u0,u0,u0,u0]) (h1:=h++[Cell.lst [D.int l,D.int i,D.int j]])<|by rw[exec,p1];rfl];rw[za (Z1:=[y0 (bD ns),y0 (.r h.e),si K,u0,u0,u0]) (h1:=o)<|by simp![p]];rw[za (Z1:=[y0 (bD ns),y0 (.r h.e),si K,si T,u0,u0]) (h1:=u)<|by simp![t]];rw[za (Z1:=[y0 (bD ns),y0 (.r h.e),si K,si T,si n,u0]) (h1:=b)<|by simp![Nw,O]];rw[za (Z1:=mO (bD ns) h.e K T n fs) (h1:=b)<|by simp![d1,Y,e5]];have b1:∃g:List Tx,Nm g/\g.e=K+T/\exec (k7<|k+3) (.u (.y .j (.w .p .Y<|.o 2)<|.o 1) (.a<|.p 5<|.rev .v5) .p) (mO (bD ns) h.e K T n fs) b=.p (mO (bD ns) h.e K T n g) b:=by
  by_cases q:n%2=1
  .refine⟨fs.T,Nm.rev ⟨G,H⟩,by simp[C],?_⟩;rw[Zi (h1:=b)<|by simp![z,I,FM q]];simp![W.mr];rw[←List.map_reverse]
  .refine⟨fs,⟨G,H⟩,C,?_⟩;rw[gf (h1:=b)<|by simp![z,I,Do q]];rfl
 obtain⟨g,Nt,lt,eb⟩:=b1;rw[za eb];have b2:∃a c,Nm a/\a.e=K+T/\PH c/\c.e=b.e/\exec (k7<|k+3) (.u (.y .j (.w .p (.j Tr<|.b .A<|.o 0)<|.o 2)<|.o 1) (.a<|.p 5<|.j "_law_any_names"<|.c .A .J .N) .p) (mO (bD ns) h.e K T n g) b=.p (mO (bD ns) h.e K T n a) c:=by
  by_cases q:m%2=1
  .refine⟨as,V,X,la,J,l5,?_⟩;rw[Zi (h1:=b)<|by simp only[bD]at e;simp![e,x,uC,FM q]];simp only[bD]at E;simp![E]
  .refine⟨g,b,Nt,lt,B,rfl,?_⟩;rw[gf (h1:=b)<|by simp only[bD]at e;simp![e,x,uC,Do q]];rfl
 obtain⟨a,c,Nu,lu,A,l6,N⟩:=b2;rw[za N];have Q:(a.A K).e=K:=by rw[Ae4];lia
 have L:(a.J K).e=T:=by rw[Ah4];lia
 have U:(Gc (a.A K)++Gc (a.J K)).Perm a:=by
  have:=(xb<|a.A K).append<|xb<|a.J K
  rwa [Am0]at this
 have nr:Gp (wD (Gc<|a.A K)<|Gc<|a.J K)=true:=by simp[Qq]
 obtain⟨h7,v,y⟩:=Nh (d:=wD (Gc<|a.A K)<|Gc<|a.J K) (n:=h.e) (h:=c) nr YB (A.take _).pure;refine⟨Gc<|a.A K,Gc<|a.J K,h7,?_,?_,Nu.perm U,y▸A.take _,by rw[y,Ae4];lia,?_⟩
 .rw[(xb _).u];lia
 .rw[(xb _).u];lia
 rw[Za (w:=.v<|wD (Gc<|a.A K)<|Gc<|a.J K) (h1:=c) ?_,v];refine jc rfl ?_;have M:cut (a.u D.str) u0 (y0 (K:Int))=(a.A K).u .m:=by rw[QB,SK]
 have c2:cut (a.u D.str) (y0 (K:Int)) u0=(a.J K).u .m:=by rw[xM,List.map_drop]
 have S:=JL (a.A K) c YB;have s2:=JL (a.J K) c YB;simp only[eval,Gk,Gn,Gq,Gr,R.ae,int?_int,R.af,XS,M,c2,S,s2,XI,W.eL]
inductive Ex where
|name (t:Tx)
|same
|all
|none
|turned (a:Ex)
|closed (a:Ex)
|plus (a b:Ex)
|less (a b:Ex)
|both (a b:Ex)
|joined (a b:Ex)
open M renaming Ex.none->Lake.M.Ex.w,Ex.turned->Lake.M.Ex.G,Ex.name->Lake.M.Ex.p,Ex.joined->Lake.M.Ex.u
abbrev jm:Tx:=[110,97,109,101]
abbrev qr:Tx:=[115,97,109,101]
abbrev jC:Tx:=[97,108,108]
abbrev jr:Tx:=[110,111,110,101]
noncomputable abbrev Xq:Tx:=[112,108,117,115]
abbrev zn:Tx:=[108,101,115,115]
abbrev XM:Tx:=[98,111,116,104]
abbrev wn:Tx:=[106,111,105,110,101,100]
abbrev Xb:Tx:=[116,117,114,110,101,100]
abbrev Jb:Tx:=[99,108,111,115,101,100]
noncomputable def bb:Ex->D
|.p t=>.p [.m jm,.m t]
|.same=>.p [.m qr]
|.all=>.p [.m jC]
|.w=>.p [.m jr]
|.G a=>.p [.m Xb,bb a]
|.closed a=>.p [.m Jb,bb a]
|.plus a b=>.p [.m Xq,bb a,bb b]
|.less a b=>.p [.m zn,bb a,bb b]
|.both a b=>.p [.m XM,bb a,bb b]
|.u a b=>.p [.m wn,bb a,bb b]
def Ex.wf (N:List Tx):Ex->Prop
|.p t=>t∈N
|.G a=>a.wf N
|.closed a=>a.wf N
|.plus a b=>a.wf N/\b.wf N
|.less a b=>a.wf N/\b.wf N
|.both a b=>a.wf N/\b.wf N
|.u a b=>a.wf N/\b.wf N
|_=>True
noncomputable def Ex.dp:Ex->Nat
|.G a=>a.dp+1
|.closed a=>a.dp+1
|.plus a b=>max a.dp b.dp+1
|.less a b=>max a.dp b.dp+1
|.both a b=>max a.dp b.dp+1
|.u a b=>max a.dp b.dp+1
|_=>0
open M renaming Ex.dp->Lake.M.Ex.j
def M1(N)(b:N.e<=100)(h):eval F jt [a,sv (aU N),x] h=.j (.j<|N.u λt=>bb<|.p t) h:=by
 rw[jt,Jl (ds:=N.u .m) (λd=>.p [.m jm,d]) (by simp![])<|by rw[Gf];simp;exact YD]
 .simp[bb]
 .intro d c;exact⟨[sv d],rfl,_,rfl,rfl⟩
def tf(k r)(N)(d:N.e<=100)(P:PH h)(o:r<h.e):∃e h',e.wf N/\e.j=0/\PH h'/\h'.e=h.e/\call prog (k+2) "_law_leaf" [.r r,.v (aU N)] h=.j (.v<|bb e) h':=by
 obtain⟨v,b,p,l,c,m⟩:=jg k P o (show 0<N.e+3 by lia) YB;have i:∃e,Ex.wf N e/\e.j=0/\((N.u λt=>bb<|.p t)++[bb .same,bb .all,bb .w])[v]?=y0 (bb e):=by
  by_cases q:v<N.e
  .refine⟨.p N[v],Ah0 q,rfl,?_⟩;rw[Ad9<|by simp_all,Ae1,Aa7 q];rfl
  .rw[Ad5<|by simp_all,Ab];have:v-N.e=0\/v-N.e=1\/v-N.e=2:=by lia
   rcases this with q|q|q<;>rw[q]
   .exact⟨.same,trivial,rfl,rfl⟩
   .exact⟨.all,trivial,rfl,rfl⟩
   .exact⟨.w,trivial,rfl,rfl⟩
 obtain⟨e,g,n,j⟩:=i;refine⟨e,b,g,n,l,c,?_⟩;have f:((N.u λt=>bb<|.p t)++[bb .same,bb .all,bb .w]).e=N.e+3:=by simp
 have a:=Jo ((N.u λt=>bb<|.p t)++[bb .same,bb .all,bb .w]) v YB;rw[j]at a;rw[Gb rfl _ _ _ rfl];simp only[QL];show Gv _ (execs _ _ [y0 _,sv _,u0] h)=_;rw[za (Z1:=[y0 (.r r),sv _,y0 (.l<|(N.u λt=>bb<|.p t)++[bb .same,bb .all,bb .w])]) (h1:=h)]
 .rw[Za _,Ga _ _ _ c];simp![jG,f,m,WU,a]
 .rw[exec,eval,M1 N d h,R.ae];simp only[eval,Gk,R.ae,W.eL,R.af,jJ];rw[Da<|by rw[Gf];simp;exact YD];rfl
def ES(s:Nat)(h1:0<s)(h2:s<3):∃f:Ex->Ex,(∀a,(f a).j=a.j+1)/\(∀N a,a.wf N->(f a).wf N)/\∃t,aY [D.str Xb,.m Jb] ((s:Int)-1)=y0 (.m t)/\∀a,bb (f a)=.p [.m t,bb a]:=by
 match s,h1,h2 with
|1,_,_=>exact⟨.G,λ_=>rfl,λ_ _ h=>h,Xb,rfl,λ_=>rfl⟩
|2,_,_=>exact⟨.closed,λ_=>rfl,λ_ _ h=>h,Jb,rfl,λ_=>rfl⟩
|s+3,_,h=>exact absurd h YB
def E1(s:Nat)(h1:3<=s)(h2:s<9):∃f:Ex->Ex->Ex,(∀a b,(f a b).j=max a.j b.j+1)/\(∀N a b,a.wf N->b.wf N->(f a b).wf N)/\∃t,aY [D.str Xq,.m zn,.m XM,.m wn,.m zn,.m wn] ((s:Int)-3)=y0 (.m t)/\∀a b,bb (f a b)=.p [.m t,bb a,bb b]:=by
 match s,h1,h2 with
|3,_,_=>exact⟨.plus,λ_ _=>rfl,λ_ _ _ h g=>⟨h,g⟩,Xq,rfl,λ_ _=>rfl⟩
|4,_,_=>exact⟨.less,λ_ _=>rfl,λ_ _ _ h g=>⟨h,g⟩,zn,rfl,λ_ _=>rfl⟩
|5,_,_=>exact⟨.both,λ_ _=>rfl,λ_ _ _ h g=>⟨h,g⟩,XM,rfl,λ_ _=>rfl⟩
|6,_,_=>exact⟨.u,λ_ _=>rfl,λ_ _ _ h g=>⟨h,g⟩,wn,rfl,λ_ _=>rfl⟩
|7,_,_=>exact⟨.less,λ_ _=>rfl,λ_ _ _ h g=>⟨h,g⟩,zn,rfl,λ_ _=>rfl⟩
|8,_,_=>exact⟨.u,λ_ _=>rfl,λ_ _ _ h g=>⟨h,g⟩,wn,rfl,λ_ _=>rfl⟩
|s+9,_,h=>exact absurd h YB
theorem xm(r)(N)(j:N.e<=100):∀(d k:Nat)(h:AH),PH h->r<h.e->∃e h',e.wf N/\e.j<=d/\PH h'/\h'.e=h.e/\call prog (k+d+3) "_law_expression" [.r r,.i d,.v (aU N)] h=.j (.v<|bb e) h'
|0,k,h,P,x=>by obtain⟨e,c,q,F,l,C,i⟩:=tf k r N j P x;refine⟨e,c,q,Am4 F,l,C,?_⟩;rw[Gb (d:=Qe) rfl _ _ _ rfl];have z:Gm .gt (.i<|0) (.v<|.o 0) h=y0 false:=rfl;have n:Gm .j (.v<|.o 0) (.v<|.o 0) h=y0 true:=Jd 0 0 h;simp![Qe,z,n,i];rw[Ga _ _ _ C]
|d+1,k,h,P,x=>by
  obtain⟨s,c,K,l,C,i⟩:=jg (k+d+2) P x (show 0<9 by decide) YA;have i:call prog (k+d+3) SS [.r r,.v (.o 9)] h=.j (.i s) c:=i;have z:Gm .gt (.i<|d+1) (.v<|.o 0) h=y0 true:=by rw[Js];congr 1;exact FM YB
  have n:∀h,Gm .j (.i s) (.v<|.o 0) h=y0 (k8<|s=0):=λh=>Jd s 0 h;have E:Gj .sub ((d+1:Nat):Int) 1=y0 (d:Int):=by rw[Wr];congr 1;lia
  rw[show k+(d+1)+3=k+d+4 by lia,Gb (d:=Qe) rfl _ _ _ rfl];simp only[Qe];show∃e h',_/\_/\_/\_/\Gv _ (execs _ _ [y0 (.r r),si (d+1),sv (aU N),u0,u0,u0] h)=_;rw[za (Z1:=[y0 (.r r),si (d+1),sv (aU N),sv (.o 0),u0,u0]) (h1:=h) rfl];rw[za (Z1:=[y0 (.r r),si (d+1),sv (aU N),si s,u0,u0]) (h1:=c)<|by simp![z,i]];by_cases D:s=0
  .obtain⟨e,g,q,F,m,H,u⟩:=tf (k+d+1) r N j l (show r<c.e by lia);refine⟨e,g,q,by lia,m,by lia,?_⟩;rw[Za (w:=.v<|bb e) (h1:=g)<|by simp![n,FM D,u],Ga _ _ _ YB]
  .obtain⟨a,g,G,R,m,H,u⟩:=xm r N j d k c l YB;rw[za (Z1:=[y0 (.r r),si (d+1),sv (aU N),si s,u0,u0]) (h1:=c)<|by simp![n,Do D]];rw[za (Z1:=[y0 (.r r),si (d+1),sv (aU N),si s,sv (bb a),u0]) (h1:=g)<|by simp![E,u]];by_cases J:s<3
   .obtain⟨f,y,p,t,o,B⟩:=ES s YB J;have v:Gm .u (.i s) (.v<|.o 3) g=y0 true:=by rw[Qm];congr 1;exact FM<|by lia
    refine⟨f a,g,p N a G,by rw[y];exact Oo ‹_›,m,by lia,?_⟩;rw[Za (w:=.v<|bb<|f a) (h1:=g)<|by simp![v,Wr,Zm,o,B],Ga _ _ _ YB]
   .obtain⟨f,y,p,t,o,B⟩:=E1 s (Ox ‹_›) K;obtain⟨b,A,I,Q,M,O,L⟩:=xm r N j d k g m YB;have v:Gm .u (.i s) (.v<|.o 3) g=y0 false:=by rw[Qm];congr 1;exact Do<|by lia
    refine⟨f a b,A,p N a b G I,by rw[y];lia,M,by lia,?_⟩;rw[za (Z1:=[y0 (.r r),si (d+1),sv (aU N),si s,sv (bb a),u0]) (h1:=g)<|by simp![v]];rw[za (Z1:=[y0 (.r r),si (d+1),sv (aU N),si s,sv (bb a),sv (bb b)]) (h1:=A)<|by simp![E,L]];rw[Za (w:=.v<|bb<|f a b) (h1:=A)<|by simp![Wr,Zm,o,B],Ga _ _ _ YB]
def Xa(s t)(h):Gm .j (.s s) (.s t) h=y0 (s==t):=by simp[GP]
def Qt(t)(ts)(h):Gm .p (.s t) (.v<|aU ts) h=y0 (k8<|t∈ts):=Qk t ts (.v<|aU ts) h rfl rfl
def ja(e:Gg F c Z h=.j u9 h):execs F (.j (.u c a .p) ss) Z h=execs F ss Z h:=za<|gf e
def wc(e:Gg F c Z h=.j k9 h)(r:exec F s Z h=.j w h):execs F (.j (.u c (.j s .p) .p) ss) Z h=.j w h:=Za<|(Zi e).x<|Za r
abbrev Xd:Tx:=[108,101,97,115,116]
abbrev Jg:Tx:=[109,111,115,116]
abbrev xn:Tx:=[101,97,99,104,108,101,97,115,116]
abbrev Wv:Tx:=[101,97,99,104,109,111,115,116]
noncomputable abbrev xE:Tx:=[105,110]
abbrev wg:Tx:=[101,113,117,97,108]
abbrev Wq:Tx:=[115,111,109,101]
abbrev fR:Tx:=[110,111]
inductive Fc where
|kh (a b:Ex)
|kj (a b:Ex)
|kL (a:Ex)
|aj (a:Ex)
|cnt (s:Tx)(k:Nat)(a:Ex)
def gA:Fc->D
|.kh a b=>.p [.m xE,bb a,bb b]
|.kj a b=>.p [.m wg,bb a,bb b]
|.kL a=>.p [.m Wq,bb a]
|.aj a=>.p [.m fR,bb a]
|.cnt s k a=>.p [.m s,.n k,bb a]
def Fc.wf (N:List Tx):Fc->Prop
|.kh a b=>a.wf N/\b.wf N
|.kj a b=>a.wf N/\b.wf N
|.kL a=>a.wf N
|.aj a=>a.wf N
|.cnt s k a=>(s∈[Xd,Jg,xn,Wv]/\k<100)/\a.wf N
def Fc.dp:Fc->Nat
|.kh a b=>max a.j b.j
|.kj a b=>max a.j b.j
|.kL a=>a.j
|.aj a=>a.j
|.cnt _ _ a=>a.j
def kQ(x y:D):aY [x,y] 0=y0 x:=rfl
def kP(x y:D):aY [x,y] 1=y0 y:=rfl
def Ik(s:Nat)(b:4<=s)(a:s<8):∃t∈[Xd,Jg,xn,Wv],aY [D.str Xd,.m Jg,.m xn,.m Wv] ((s:Int)-4)=y0 (.m t):=by
 match s,b,a with
|4,_,_=>exact⟨Xd,by decide,rfl⟩
|5,_,_=>exact⟨Jg,by decide,rfl⟩
|6,_,_=>exact⟨xn,by decide,rfl⟩
|7,_,_=>exact⟨Wv,by decide,rfl⟩
|s+8,_,h=>exact absurd h YB
abbrev nM(r:Nat)(N:List Tx)(a c b:Option W):Sl:=[y0 (.r r),sv (aU N),a,c,b]
def AN(k r)(N)(E:N.e<=100)(P:PH h)(S:r<h.e):∃f h',Fc.wf N f/\f.dp<=3/\PH h'/\h'.e=h.e/\call prog (k+7) TF [.r r,.v (aU N)] h=.j (.v<|gA f) h':=by
 obtain⟨s,g,Q,R,l1,A⟩:=jg _ P S (show 0<8 by decide) YA;have A:call prog (k+6) SS [.r r,.v (.o 8)] h=.j _ g:=A;obtain⟨d,G,hd,U,W,v⟩:=jg _ R (show r<g.e by lia) (show 0<4 by decide) YA;have v:call prog (k+6) SS [.r r,.v (.o 4)] g=.j (.i d) G:=v;obtain⟨a,e,p,da,C,Y,I⟩:=xm r N E d (k+3-d) G U YB;rw[show k+3-d+d+3=k+6 by lia]at I;rw[Gb (d:=Qy) rfl _ _ _ rfl];simp only[Qy];show∃f h',_/\_/\_/\_/\Gv _ (execs _ _ (nM r N u0 u0 u0) h)=_;rw[za (Z1:=nM r N (si s) u0 u0) (h1:=g)<|by simp![A]];rw[za (Z1:=nM r N (si s) (sv<|bb a) u0) (h1:=e)<|by simp![v,I]];by_cases H:s<2
 .obtain⟨c,n,J,y,M,i⟩:=jg (k+5) C (show r<e.e by lia) (show 0<3 by decide) YA;have i:call prog (k+6) SS [.r r,.v (.o 3)] e=.j (.i c) n:=i;obtain⟨b,l,F,db,q,V,m⟩:=xm r N E c (k+3-c) n y YB;rw[show k+3-c+c+3=k+6 by lia]at m;have z:Gm .u (.i s) (.v<|.o 2) e=y0 true:=by rw[Qm];congr 1;exact FM<|by lia
  obtain⟨f,wf,x,t,o,B⟩:∃f:Fc,f.wf N/\f.dp<=3/\∃t,aY [D.str xE,.m wg] (s:Int)=y0 (.m t)/\gA f=.p [.m t,bb a,bb b]:=by
   match s,H with
|0,_=>exact⟨.kh a b,⟨p,F⟩,by simp only[Fc.dp];lia,xE,rfl,rfl⟩
|1,_=>exact⟨.kj a b,⟨p,F⟩,by simp only[Fc.dp];lia,wg,rfl,rfl⟩
|s+2,h=>exact absurd h<|by lia
  refine⟨f,l,wf,x,q,by lia,?_⟩;rw[Za (w:=.v<|gA f) (h1:=l)<|by simp![z,Zm,o,i,m,B],Ga _ _ _ YB]
 rw[ja<|by
  have z:Gm .u (.i s) (.v<|.o 2) e=y0 false:=by rw[Qm];congr 1;exact Do YB
  simp![z]]
 by_cases O:s<4
 .have z:Gm .u (.i s) (.v<|.o 4) e=y0 true:=by rw[Qm];congr 1;exact FM<|by lia
  obtain⟨f,wf,x,t,o,B⟩:∃f:Fc,f.wf N/\f.dp<=3/\∃t,aY [D.str Wq,.m fR] ((s:Int)-2)=y0 (.m t)/\gA f=.p [.m t,bb a]:=by
   match s,H,O with
|0,h,_=>exact absurd h YA
|1,h,_=>exact absurd h YA
|2,_,_=>exact⟨.kL a,p,by simp only[Fc.dp];lia,Wq,rfl,rfl⟩
|3,_,_=>exact⟨.aj a,p,by simp only[Fc.dp];lia,fR,rfl,rfl⟩
|s+4,_,h=>exact absurd h<|by lia
  refine⟨f,e,wf,x,C,by lia,?_⟩;rw[Za (w:=.v<|gA f) (h1:=e)<|by simp![z,Wr,Zm,o,B],Ga _ _ _ YB]
 rw[ja<|by
  have z:Gm .u (.i s) (.v<|.o 4) e=y0 false:=by rw[Qm];congr 1;exact Do YB
  simp![z]]
 obtain⟨c,n,J,y,M,i⟩:=jg (k+5) C (show r<e.e by lia) (show 0<3 by decide) YA;have i:call prog (k+6) SS [.r r,.v (.o 3)] e=.j (.i c) n:=i;obtain⟨u,L,T,X⟩:∃u:Nat,aY [D.int 5,.o 18,.o 100] (c:Int)=y0 (.n u)/\0<u/\u<=100:=by
  match c,J with
|0,_=>exact⟨5,rfl,by decide,by decide⟩
|1,_=>exact⟨18,rfl,by decide,by decide⟩
|2,_=>exact⟨100,rfl,by decide,by decide⟩
|c+3,h=>exact absurd h<|by lia
 obtain⟨j,l,Z,q,V,m⟩:=jg (k+5) y (show r<n.e by lia) T<|KM ‹_› YA;have m:call prog (k+6) SS [.r r,.i u] n=.j (.i j) l:=m;obtain⟨t,o,K⟩:=Ik s (Ox ‹_›) Q;refine⟨.cnt t j a,l,⟨⟨o,(Ab5 ‹_› ‹_›)⟩,p⟩,by simp only[Fc.dp];lia,q,by lia,?_⟩;rw[za (Z1:=nM r N (si s) (sv<|bb a)<|si j) (h1:=l)<|by simp![Zm,i,L,m]];rw[Za (w:=.v<|gA<|.cnt t j a) (h1:=l)<|by simp![Wr,Zm,K,gA],Ga _ _ _ YB]
abbrev jh:Tx:=[110,111,116]
abbrev wE:Tx:=[97,110,100]
abbrev gG:Tx:=[111,114]
inductive Sy where
|fact (f:Fc)
|neg (a:Sy)
|eB (a b:Sy)
|ec (a b:Sy)
def cq:Sy->D
|.fact f=>gA f
|.neg a=>.p [.m jh,cq a]
|.eB a b=>.p [.m wE,cq a,cq b]
|.ec a b=>.p [.m gG,cq a,cq b]
def Sy.wf (N:List Tx):Sy->Prop
|.fact f=>f.wf N
|.neg a=>a.wf N
|.eB a b=>a.wf N/\b.wf N
|.ec a b=>a.wf N/\b.wf N
def Sy.dp:Sy->Nat
|.fact f=>f.dp
|.neg a=>a.dp+1
|.eB a b=>max a.dp b.dp+1
|.ec a b=>max a.dp b.dp+1
open M renaming Sy.dp->Lake.M.Sy.j
abbrev n6(r d:Nat)(N:List Tx)(b a:Option W):Sl:=[y0 (.r r),si d,sv (aU N),b,a]
theorem wO(r)(N)(l:N.e<=100):∀d k h,PH h->r<h.e->∃s h',Sy.wf N s/\s.j<=d+3/\PH h'/\h'.e=h.e/\call prog (k+d+8) "_law_saying" [.r r,.i d,.v (aU N)] h=.j (.v<|cq s) h'
|0,k,h,P,q=>by obtain⟨f,c,wf,m,n,v,i⟩:=AN k r N l P q;refine⟨.fact f,c,wf,by simpa[Sy.dp]using m,n,v,?_⟩;rw[Gb (d:=xj) rfl _ _ _ rfl];have z:Gm .gt (.i<|0) (.v<|.o 0) h=y0 false:=rfl;have J:Gm .u (.v<|.o 0) (.v<|.o 3) h=y0 true:=rfl;have i:call prog (k+0+7) TF [.r r,.v (aU N)] h=.j (.v<|gA f) c:=i;simp![xj,z,J,i,cq];rw[Ga _ _ _ v]
|d+1,k,h,P,q=>by
  obtain⟨s,c,M,n,v,i⟩:=jg (k+d+7) P q (show 0<6 by decide) YA;have i:call prog (k+d+8) SS [.r r,.v (.o 6)] h=.j (.i s) c:=i;have z:Gm .gt (.i<|d+1) (.v<|.o 0) h=y0 true:=by rw[Js];congr 1;exact FM YB
  have A:Gj .sub ((d+1:Nat):Int) 1=y0 (d:Int):=by rw[Wr];congr 1;lia
  rw[show k+(d+1)+8=k+d+9 by lia,Gb (d:=xj) rfl _ _ _ rfl];simp only[xj];show∃e h',_/\_/\_/\_/\Gv _ (execs _ _ (n6 r (d+1) N u0 u0) h)=_;rw[za (Z1:=n6 r (d+1) N (sv<|.o 0) u0) (h1:=h) rfl];rw[za (Z1:=n6 r (d+1) N (si s) u0) (h1:=c)<|by simp![z,i]];by_cases L:s<3
  .obtain⟨f,g,wf,m,o,F,j⟩:=AN (k+d+1) r N l n (show r<c.e by lia);have j:call prog (k+d+8) TF [.r r,.v (aU N)] c=.j (.v<|gA f) g:=j;have p:Gm .u (.i s) (.v<|.o 3) c=y0 true:=by rw[Qm];congr 1;exact FM<|by lia
   refine⟨.fact f,g,wf,by simp only[Sy.dp];lia,o,by lia,?_⟩;rw[Za (w:=.v<|cq<|.fact f) (h1:=g)<|by simp![p,j,cq],Ga _ _ _ YB]
  .obtain⟨a,g,u,Q,o,F,j⟩:=wO r N l d k c n YB;rw[ja<|by
    have p:Gm .u (.i s) (.v<|.o 3) c=y0 false:=by rw[Qm];congr 1;exact Do YB
    simp![p]]
   rw[za (Z1:=n6 r (d+1) N (si s)<|sv<|cq a) (h1:=g)<|by simp![A,j]];have C:Gm .j (.i s) (.v<|.o 3) g=y0 (k8<|s=3):=Jd s 3 g;by_cases y:s=3
   .refine⟨.neg a,g,u,by simp only[Sy.dp];exact Oo ‹_›,o,by lia,?_⟩;rw[Za (w:=.v<|cq<|.neg a) (h1:=g)<|by simp![C,FM y,cq],Ga _ _ _ YB]
   .obtain⟨b,B,x,O,H,K,G⟩:=wO r N l d k g o YB;obtain⟨f,wf,m,t,E,I⟩:∃f:Sy,f.wf N/\f.j<=d+1+3/\∃t,aY [D.str wE,.m gG] ((s:Int)-4)=y0 (.m t)/\cq f=.p [.m t,cq a,cq b]:=by
     have:s=4\/s=5:=by lia
     rcases this with rfl|rfl
     .exact⟨.eB a b,⟨u,x⟩,by simp only[Sy.dp];lia,wE,rfl,rfl⟩
     .exact⟨.ec a b,⟨u,x⟩,by simp only[Sy.dp];lia,gG,rfl,rfl⟩
    refine⟨f,B,wf,m,H,by lia,?_⟩;rw[ja<|by simp![C,Do y]];rw[Za (w:=.v<|cq f) (h1:=B)<|by simp![Wr,Zm,E,A,G,I],Ga _ _ _ YB]
def QA(a l)(h):Gm .u (.i a) (.i l) h=y0 (k8<|a<l):=by rw[Qm];congr 1;rw[Pa];lia
def Bb(s t)(h)(a:s.e+t.e<=900000):GB .j (.s s) (.s t) h=.j (.s<|s++t) h:=by rw[QD,Da<|by rw[Gf];exact YD]
abbrev eI(N T:List Tx)(p:Nat):List<|String×D:=[("names",aU N),("signs",.u<|T.u .m),(Tf,.n p)]
def rh(g:AH)(N T:List Tx)(p:Nat):AH:=g++[Cell.obj SQ (eI N T p)]
def Eu(g)(N T)(p):(rh g N T p).e=g.e+1:=by simp[rh]
def Qo(g)(N T)(p q):(rh g N T q).e=(rh g N T p).e:=by simp[rh]
def Zw(g)(N T)(p):GQ (rh g N T p) (y0<|.r g.e)=y0 (g.e,SQ,eI N T p):=by simp[GQ,rh]
def MJ(g)(N T)(p q):(rh g N T p).B g.e (.obj SQ<|eI N T q)=rh g N T q:=by simp[rh]
section
variable{F:Fx}{g:AH}{N T:List Tx}{p:Nat}{Z:Sl}
def Fs(a:Gr Z 0=y0 (.r g.e)):eval F (.bY .A SQ "names") Z (rh g N T p)=.j (.v<|aU N) (rh g N T p):=by rw[eval,eval,Gq,a];simp only[R.ae,Zw];rfl
def iB(a:Gr Z 0=y0 (.r g.e))(b:((eI N T p).j m).j=k9)(e:Gn F es Z (rh g N T p)=.j ws (rh g N T p)):
 eval F (.aI .A SQ m q es) Z (rh g N T p)=F.j q (.r g.e::ws.u W.arg) (rh g N T p):=by
 rw[eval,eval,Gq,a];simp[Zw,b,e]
end
def AW(N T)(p):(eI N T p).j "signs"=some (.u<|T.u .m):=rfl
def oz(N T)(p):(eI N T p).j Tf=some (.n p):=rfl
noncomputable def tk(T:List Tx)(p:Nat):Tx:=T.Q p []
def Ax{T:List Tx}(h:p<T.e):(T.u D.str)[p]?=y0 (.m<|tk T p):=by simp[tk,h]
def ll(h:¬p<T.e):tk T p=[]:=by simp[tk,Ac5];rw[List.getElem?_eq_none<|Ox ‹_›];rfl
def yx(m)(g)(N T)(p):call prog (m+1) Tc [.r g.e] (rh g N T p)=.j (.s<|tk T p) (rh g N T p):=by
 rw[Gb rfl _ _ _ rfl];simp only[Zx];show Gv _ (execs _ _ [y0 _] _)=_;have z:Gm .u (.i p) (.v<|.o<|(T.u D.str).e) (rh g N T p)=y0 (k8<|p<T.e):=by rw[QA,Ab]
 have b:cz .p [.l _] _=.j (.v<|.o<|(T.u D.str).e) (rh g N T p):=rfl;have a:Gg (k7 m) (.y .u (.bY .A SQ Tf)<|.U .p<|.j (.bY .A SQ "signs") .p) [some (.r g.e)] (rh g N T p)=.j (decide<|p<T.e) (rh g N T p):=by simp![Zw,AW,oz,Oi,b,z,aC]
 by_cases q:p<T.e
 .rw[FM q]at a;rw[wc a<|jc rfl ?_,Ga _ _ _ rfl];simp![Zw,AW,oz,Oi,WU,Jo (T.u D.str) p<|by simp_all,Ax q]
 .rw[Do q]at a;rw[ja a,Za rfl,Ga _ _ _ rfl,ll q]
def Ip(N T)(p q):bA Tf (.n q) (eI N T p)=eI N T q:=rfl
def L9(N T)(p):(eI N T p).e<100:=by show 3<100;decide
def IX(m)(g)(N T)(p):call prog (m+2) SZ [.r g.e] (rh g N T p)=.j (.s<|tk T p) (rh g N T<|p+1):=by
 rw[Gb rfl _ _ _ rfl];simp only[xy];show Gv _ (execs _ _ [y0 _,u0] _)=_;have a:=iB (F:=(k7<|m+1)) (N:=N) (T:=T) (p:=p) (Z:=[y0 (.r g.e),u0]) (m:="here") (q:=Tc) (es:=.p) rfl rfl rfl;have a:=a.x<|yx m g N T p;rw[za (Z1:=[y0 _,y0 _])<|by rw[exec,a];rfl];have b:eval (k7<|m+1) (.w .j (.bY .A SQ Tf)<|.o 1) [some (.r g.e),some (.s<|tk T p)] (rh g N T p)=.j (.i<|p+1) (rh g N T p):=by
  have z:Gj .j p 1=y0 ((p+1:Nat):Int):=by rw[zc];rfl
  simp![Zw,oz,Oi,aC,z]
 rw[za (Z1:=[y0 _,y0 (.s _)])]
 .rw[Za rfl,Ga _ _ _<|Qo g N T p _]
 .rw[exec,b];rw[R.aF];show(match GQ _ (y0 _)with|some (r,c,fs)=>_|none=>_)=_;rw[Zw];show(if _ then _ else _)=_;rw[Da ⟨rfl,L9 N T p⟩,Ip,MJ]
section
variable{m:Nat}{g:AH}{N T:List Tx}{p:Nat}{Z:Sl}
def J2(a:Gr Z 0=y0 (.r g.e)):eval (k7<|m+1) (.aI .A SQ "here" Tc .p) Z (rh g N T p)=.j (.s<|tk T p) (rh g N T p):=
 (iB (ws:=[]) a rfl rfl).x<|yx m g N T p
def xt(a:Gr Z 0=y0 (.r g.e)):eval (k7<|m+2) (.aI .A SQ Tg SZ .p) Z (rh g N T p)=.j (.s<|tk T p) (rh g N T<|p+1):=
 (iB (ws:=[]) a rfl rfl).x<|IX m g N T p
def W2(a:Gr Z 0=y0 (.r g.e)):exec (k7<|m+2) (.ex<|.aI .A SQ Tg SZ .p) Z (rh g N T p)=.p Z (rh g N T<|p+1):=by rw[exec,xt a];rfl
def ni(t)(a:Gr Z 0=y0 (.r g.e)):Gg (k7<|m+1) (.y .j (.aI .A SQ "here" Tc .p)<|.m t) Z (rh g N T p)=.j (tk T p==t) (rh g N T p):=by rw[Gg,eval,J2 a];simp only[R.ae,eval,Xa,R.af,Gu,aC]
end
def xr(F)(Z)(h)(a b):eval F (.p<|.b (.m a)<|.m b) Z h=.j (.v<|aU [a,b]) h:=by simp![];rfl
def JC(F)(Z)(h)(a b c):eval F (.p<|.c (.m a) (.m b)<|.m c) Z h=.j (.v<|aU [a,b,c]) h:=by simp![];rfl
def ud(m)(g)(N T)(p)(t)(b:tk T p=t):call prog (m+3) S6 [.r g.e,.s t] (rh g N T p)=.j (.v .L) (rh g N T<|p+1):=by
 rw[Gb rfl _ _ _ rfl];simp only[Wh];show Gv _ (execs _ _ [y0 _,y0 _] _)=_;have z:Gm .w (.s<|tk T p) (.s t) (rh g N T<|p+1)=y0 false:=by rw[b];simp[GP]
 have a:Gg (k7<|m+2) (.y .w (.aI .A SQ Tg SZ .p) .B) [some (.r g.e),some (.s t)] (rh g N T p)=.j false (rh g N T<|p+1):=by rw[Gg,eval,xt rfl];simp only[R.ae,eval,Gq,Gr,z,R.af,Gu,aC]
 rw[za<|by rw[gf a];rfl];show Gv _ (.p _ _)=_;rw[GK _ _ _<|Qo g N T p _]
def C9(m w)(h)(c:w<20):call prog (m+1) S4 [.i w] h=.j (.i<|w+1) h:=by
 rw[Gb rfl _ _ _ rfl];have z:Gm .j (.i w) (.v<|.o 20) h=y0 false:=by have:=Jd w 20 h;rw[Do<|Ab7 ‹_›]at this;exact this
 have a:Gj .j w 1=y0 ((w+1:Nat):Int):=by rw[zc];rfl
 have b:prog.T.j "MOST_WITHIN"=some _:=rfl;simp![zB,z,a,b]
abbrev tS:List<|Tx×D:=[([43],.m Xq),([45],.m zn),([126],.m Xb),([94],.m Jb),(c7,.m c7),([61],.m ia)]
def ZG(m):(k7 m).con.j TB=some (.exc "" tS):=rfl
def je(e:Gr Z i=sv d):eval F (.a0 i) Z h=.j (.v d) h:=by rw[eval,Gq,e]
def m6(e:Gr Z i=y0 (.s t))(a b):Gg F (.y .p (.a0 i)<|.p<|.b (.m a)<|.m b) Z h=.j (k8<|t∈[a,b]) h:=by rw[Gg,eval,je e,R.ae,xr,R.ae,Qt];rfl
def sD(e:Gr Z i=y0 (.s t))(a b c):Gg F (.y .p (.a0 i)<|.p<|.c (.m a) (.m b)<|.m c) Z h=.j (k8<|t∈[a,b,c]) h:=by rw[Gg,eval,je e,R.ae,JC,R.ae,Qt];rfl
def lV(e:Gr Z i=y0 (.s t))(a):Gg F (.y .j (.a0 i)<|.m a) Z h=.j (t==a) h:=by rw[Gg,eval,je e,R.ae,eval];simp only[R.ae,Xa,R.af,Gu]
def pO(c:F.con.j TB=some (.exc "" tS))(e:eval F a Z h=.j (.s t) h1)(b:(t,s)∈[(([43]:Tx),Xq),([45],zn),([126],Xb),([94],Jb),(c7,xE),([61],wg)]):eval F (.fT TB a) Z h=.j (.s s) h1:=by
 rw[eval,c];show((eval _ _ _ _).p _)=_;rw[e,R.ae];simp[Prod.mk.injEq]at b;rcases b with⟨rfl,rfl⟩|⟨rfl,rfl⟩|⟨rfl,rfl⟩|⟨rfl,rfl⟩|⟨rfl,rfl⟩|⟨rfl,rfl⟩<;>rfl
def zR:prog.T.j "FIGURES"=some (.m mT):=rfl
def Hq:prog.T.j "MOST_FIGURES"=some (.o 2):=rfl
def CN(n):Kc (Aa1 n<|.C k9)=y0 (Aa1 n k9):=by
 induction n with
|zero=>rfl
|succ n a=>rw[Ac4,Kc,a];rfl
abbrev Xl:Tx:=[108,101,116,116,101,114]
abbrev Zq:Tx:=[102,105,103,117,114,101]
noncomputable abbrev nY:Tx:=[115,105,110,103,108,101]
abbrev Wd:Tx:=[98,108,97,110,107]
abbrev cn:Tx:=mT
abbrev fQ:Tx:=A6
noncomputable def aN(c:Nat):Tx:=if bB.p c=k9 then Xl else if cn.p c=k9 then Zq else if fQ.p c=k9 then nY else Wd
def dC(c:Nat):Prop:=aN c≠Wd\/c=32
def Xt(c)(t)(h):Gm .p (.s [c]) (.s t) h=y0 (t.p c):=rfl
def j5:prog.T.j "LETTERS"=some (.m bB):=rfl
def JZ:prog.T.j "SINGLE_SIGNS"=some (.m fQ):=rfl
def qQ(a:F.con.j x=y0 (.m t))(e:Gr Z 0=y0 (.s [c])):Gg F (.y .p .A<|.con x) Z h=.j (t.p c) h:=by rw[Gg,eval,je e,R.ae,eval,a];simp only[R.ae,Xt,R.af,Gu]
def HM(m c)(h)(f:dC c):call prog (m+1) Ts [.s [c]] h=.j (.s<|aN c) h:=by
 rw[Gb rfl _ _ _ rfl];simp only[wo];unfold aN;by_cases d:bB.p c=k9
 .rw[Da d,wc (by rw[qQ j5 rfl,d])<|jc rfl rfl,Ga _ _ _ rfl]
 .rw[Fk d,ja<|by rw[qQ j5 rfl,Ov d]];by_cases a:cn.p c=k9
  .rw[Da a,wc (by rw[qQ zR rfl,a])<|jc rfl rfl,Ga _ _ _ rfl]
  .rw[Fk a,ja<|by rw[qQ zR rfl,Ov a]];by_cases b:fQ.p c=k9
   .rw[Da b,wc (by rw[qQ JZ rfl,b])<|jc rfl rfl,Ga _ _ _ rfl]
   .rw[Fk b,ja<|by rw[qQ JZ rfl,Ov b]];have e:c=32:=by
     obtain z|z:=f
     .unfold aN at z;rw[Fk d,Fk a,Fk b]at z;exact absurd rfl z
     .exact z
    subst e;rw[wc (by rw[lV rfl];rfl)<|jc rfl rfl,Ga _ _ _ rfl]
def fB(a:Tx)(c:Nat):Prop:=aN c=a/\(aN c=Xl\/aN c=Zq)
instance(a:Tx)(c:Nat):Decidable<|fB a c:=inferInstanceAs (Decidable<|_/\_)
def b8(x:List Tx×Tx)(c:Nat):List Tx×Tx:=
 if fB x.2 c then(x.1.dropLast++[x.1.getLastD []++[c]],aN c)else if aN c≠Wd then(x.1++[[c]],aN c)else(x.1,aN c)
abbrev dy(t:Tx)(S:List Tx)(a:Tx)(x y:Option W):Sl:=[y0 (.s t),y0 (.j<|S.u .m),y0 (.s a),x,y]
def kR(S:List Tx)(a:Tx)(n:Nat):Prop:=(a=Xl\/a=Zq->S≠[])/\S.e<=n/\∀x∈S,x.e<=n
def W5{S:List Tx}(h:kR S a n):kR (b8 (S,a) c).1 (b8 (S,a) c).2<|n+1:=by
 unfold b8;split
 .rename_i q;have q:fB a c:=q;have d:=h.1 (by rcases q.2 with z|z<;>rw[←q.1,z]<;>simp);refine⟨λ_=>by simp,?_,λx b=>?_⟩
  .show(S.dropLast++_).e<=_;have:=h.2.1;simp;exact Af9 ‹_›
  .obtain b|b:=Ab4.j b
   .exact Af9<|h.2.2 x<|(List.dropLast_prefix S).subset b
   .rw[Ab2.j b];have:S.getLastD []∈S:=by rw[List.getLastD_eq_getLast?,List.getLast?_eq_getLast d];exact List.getLast_mem d
    have:=h.2.2 _ this;rw[Aa2];exact Oo this
 .split
  .refine⟨λ_=>by simp,by have:=h.2.1;simp;exact this,λx b=>?_⟩;obtain b|b:=Ab4.j b
   .exact Af9<|h.2.2 x b
   .rw[Ab2.j b];simp
  .rename_i q;refine⟨λz=>?_,Af9 h.2.1,λx b=>Af9<|h.2.2 x b⟩;have q:=Ak6.j q;have z:aN c=Xl\/aN c=Zq:=z;rw[q]at z;rcases z with z|z<;>exact absurd z YA
def Z3(xs)(x:α):aY (xs++[x]) (-1)=y0 x/\dU (xs++[x]).e (-1)=y0 xs.e:=by
 have:dU (xs++[x]).e (-1)=y0 xs.e:=by unfold dU;congr 1;simp;lia
 refine⟨?_,this⟩;unfold aY;rw[this];simp
def AU(m)(h)(t){S:List Tx}(i:kR S a n)(u:n<=900000)(o:dC c)(y):
 execs (k7<|m+1) xh (dy t S a (y0<|.s [c]) y) h=.p (dy t (b8 (S,a) c).1 (b8 (S,a) c).2 (y0<|.s [c])<|y0<|.s<|aN c) h:=by
 have r:=HM m c h o;simp only[xh];rw[za (Z1:=dy t S a (y0<|.s [c])<|y0<|.s<|aN c) (h1:=h)<|by simp![r]];have f:Gg (k7<|m+1) (.and (.y .j .Y .J)<|.y .p .Y<|.p<|.b (.m nv)<|.m og) (dy t S a (y0<|.s [c])<|y0<|.s<|aN c) h=.j (k8<|fB a c) h:=by
  have j:eval (k7<|m+1) (.y .j .Y .J) (dy t S a (y0<|.s [c])<|y0<|.s<|aN c) h=.j (.b<|aN c==a) h:=by simp![Xa]
  have p:eval (k7<|m+1) (.y .p .Y<|.p<|.b (.m nv)<|.m og) (dy t S a (y0<|.s [c])<|y0<|.s<|aN c) h=.j (.b<|k8<|aN c∈[Xl,Zq]) h:=by rw[eval,je (d:=.m<|aN c) rfl,R.ae,xr,R.ae,Qt];rfl
  rw[Gg,eval,j];simp only[R.ae,Gu,R.af];by_cases q:aN c=a
  .rw[show(aN c==a)=k9 from by simp[q]];simp only[p,R.ae,Gu,R.af];congr 1;rw[Pa];unfold fB;simp[q]
  .rw[show(aN c==a)=u9 from by simp[q]];have:¬fB a c:=λz=>q z.1;simp[Gu,this]
 unfold b8;by_cases q:fB a c
 .rw[FM q]at f;have g:S≠[]:=i.1 (by rcases q.2 with z|z<;>rw[←q.1,z]<;>simp);obtain⟨b,x,rfl⟩:∃b x,S=b++[x]:=⟨S.dropLast,S.getLast g,(List.dropLast_concat_getLast g).j⟩;have s:=i.2.2 x YC;rw[za (Z1:=dy t (b++[x++[c]]) a (y0<|.s [c])<|y0<|.s<|aN c) (h1:=h)]
  .simp only[Da q];simp![];simp
  .rw[Zi f];have l:=Z3 (b.u D.str)<|.m x;have j:eval (k7<|m+1) (.w .j (.G .B<|.neg<|.o 1) .N) (dy t (b++[x]) a (y0<|.s [c])<|y0<|.s<|aN c) h=.j (.s<|x++[c]) h:=by rw[eval,eval,eval,Gq];simp only[Gr,R.ae,eval,aC,int?_int,R.af,Ad,Ac3,Aj4];rw[show cc (.p<|b.u D.str++[D.str x]) (.v<|.o<|-1) h=y0 (.m x)from l.1];simp only[R.af,R.ae,Gq,Gr,QD];rw[Da<|by rw[Gf];simp;lia]
   rw[za (Z1:=dy t (b++[x++[c]]) a (y0<|.s [c])<|y0<|.s<|aN c) (h1:=h)]
   .rfl
   .rw[exec,j,R.aF];simp only[Gr,eval,aC,R.ae,R.aF,int?_int,R.af,Ad,Ac3,Aj4,flat,Oi,l.2,GF];simp
 .rw[Do q]at f;rw[Fk q];by_cases e:aN c≠Wd
  .rw[Da e];rw[za (Z1:=dy t (S++[[c]]) a (y0<|.s [c])<|y0<|.s<|aN c) (h1:=h)]
   .simp![]
   .rw[gf f,za (Z1:=dy t (S++[[c]]) a (y0<|.s [c])<|y0<|.s<|aN c) (h1:=h)]
    .rfl
    .have k:Gg (k7<|m+1) (.y .w .Y<|.m lX) (dy t S a (y0<|.s [c])<|y0<|.s<|aN c) h=.j k9 h:=by
      have z:Gm .w (.s<|aN c) (.s Wd) h=y0 true:=by simp[GP,e]
      simp![z]
     rw[Zi k];have:=i.2.1;simp![];rw[Da<|by rw[Gf];simp;lia];simp
  .rw[Fk e];rw[za (Z1:=dy t S a (y0<|.s [c])<|y0<|.s<|aN c) (h1:=h)]
   .simp![]
   .rw[gf f,za (Z1:=dy t S a (y0<|.s [c])<|y0<|.s<|aN c) (h1:=h)]
    .rfl
    .have k:Gg (k7<|m+1) (.y .w .Y<|.m lX) (dy t S a (y0<|.s [c])<|y0<|.s<|aN c) h=.j u9 h:=by
      have e:aN c=Wd:=Ak6.j e;have z:Gm .w (.s<|aN c) (.s Wd) h=y0 false:=by rw[e];simp[GP]
      simp![z]
     rw[gf k];rfl
theorem td(m)(h)(t):∀L,(∀c∈L,dC c)->∀{S}{a}{n} x y,kR S a n->n+L.e<=900000→
 ∃O M,GA (GC [3] k9) (λZ h=>execs (k7<|m+1) xh Z h) (c8 L) (dy t S a x y) h=.p (dy t (L.U b8 (S,a)).1 (L.U b8 (S,a)).2 O M) h
|[],_,S,a,n,x,y,_,_=>⟨x,y,rfl⟩
|c::L,e,S,a,n,x,y,d,g=>by have i:n+(L.e+1)<=900000:=g;have b:=AU m h t d (Ac0 (OE _ _) ‹_›) (e c Aa) y;obtain⟨O,M,f⟩:=td m h t L (λc q=>e c<|Aa0 _ q) (y0<|.s [c]) (y0<|.s<|aN c) (W5 d) YB;refine⟨O,M,?_⟩;rw[show c8 (c::L)=.m [c]::c8 L from rfl,Xi rfl b];exact f
def Ny(m)(h)(t)(b:∀c∈t,dC c)(f:t.e<=900000):call prog (m+2) "signs_of" [.s t] h=.j (.j<|(t.U b8 ([],Wd)).1.u .m) h:=by
 rw[Gb rfl _ _ _ rfl];simp only[Wz];rw[za rfl,za rfl];obtain⟨x,y,e⟩:=td m h t t b u0 u0 (S:=[]) (a:=Wd) (n:=0) ⟨λz=>absurd z YA,Aa4 _,λx d=>by cases d⟩<|RR ‹_› _;rw[za (Z1:=dy t (t.U b8 _).1 (t.U b8 _).2 x y)]
 .rw[Za rfl,Gw _ _ _ rfl]
 .rw[exec];exact e
noncomputable abbrev bK:D:=.err "NoText" "row" .L
def Hm(m c)(h)(e:¬dC c):call prog (m+1) Ts [.s [c]] h=.w bK h:=by
 rw[Gb rfl _ _ _ rfl];simp only[wo];have q:aN c=Wd/\c≠32:=by unfold dC at e;exact⟨Ak6.j λz=>e<|.p z,λz=>e<|.u z⟩
 have f:bB.p c=u9/\cn.p c=u9/\fQ.p c=false:=by
  have z:=q.1;unfold aN at z;split at z
  .exact absurd z YA
  .split at z
   .exact absurd z YA
   .split at z
    .exact absurd z YA
    .rename_i a b d;exact⟨Ov a,Ov b,Ov d⟩
 rw[ja<|by rw[qQ j5 rfl,f.1],ja<|by rw[qQ zR rfl,f.2.1],ja<|by rw[qQ JZ rfl,f.2.2],ja<|by rw[lV rfl];simp[q.2]];rfl
theorem tF(m)(h)(t):∀L,(∃c∈L,¬dC c)->∀{S}{a}{n} x y,kR S a n->n+L.e<=900000→
 GA (GC [3] k9) (λZ h=>execs (k7<|m+1) xh Z h) (c8 L) (dy t S a x y) h=.w bK h
|[],e,S,a,n,x,y,_,_=>by obtain⟨_,z,_⟩:=e;cases z
|c::L,e,S,a,n,x,y,g,j=>by
  have k:n+(L.e+1)<=900000:=j;rw[show c8 (c::L)=.m [c]::c8 L from rfl];by_cases q:dC c
  .rw[Xi rfl<|AU m h t g (Ac0 (OE _ _) ‹_›) q y];refine tF m h t L ?_ _ _ (W5 g) YB;obtain⟨d,b,f⟩:=e;rcases Aa6.j b with rfl|b
   .exact absurd q f
   .exact⟨d,b,f⟩
  .have i:=Hm m c h q;refine qU (Z1:=dy t S a (y0<|.s [c]) y) rfl ?_;simp only[xh];rw[execs,show exec (k7<|m+1) (.p 4<|.j Ts<|.a .N) (dy t S a (some<|.s [c]) y) h=.w bK h by simp![i];rfl];rfl
def J1(m)(h)(t)(b:∃c∈t,¬dC c)(f:t.e<=900000):call prog (m+2) "signs_of" [.s t] h=.w bK h:=by rw[Gb rfl _ _ _ rfl];simp only[Wz];rw[za rfl,za (Z1:=dy t [] Wd u0 u0) rfl];have e:=tF m h t t b u0 u0 (S:=[]) (a:=Wd) (n:=0) ⟨λz=>absurd z YA,Aa4 _,λx d=>by cases d⟩<|RR ‹_› _;rw[execs,exec,show GD (k7 _) _ _ h=.j _ h from rfl,R.aF,e];rfl
def cU(c:Nat):Nat:=(bB.p c).j+2*(cn.p c).j
def lF(m c)(h):call prog (m+1) TH [.s [c]] h=.j (.v<|.o (cU c:Nat)) h:=by rw[Gb rfl _ _ _ rfl];simp only[qL];have b:=Xt c bB h;have a:=Xt c cn h;have d:Gj .u 2 _=y0 ((2*(cn.p c).j:Nat)):=xH 2 _ YA;rw[za (Z1:=[y0 _,y0 _]) rfl];rw[Za<|jc rfl<|by simp![b,a,Z8,d,zc];rfl];exact Ga _ _ _ rfl
def mw(c)(h:bB.p c=k9):cn.p c=false:=by
 have z:∀c∈bB,cn.p c=false:=by decide
 exact z c<|Ad8.j h
def j4(c d)(b:0<cU c):(aN c=Xl\/aN c=Zq)/\(cU d=cU c↔aN d=aN c):=by
 have a:Xl≠Zq/\nY≠Xl/\nY≠Zq/\Wd≠Xl/\Wd≠Zq/\Zq≠Xl:=by decide
 unfold cU at b⊢;unfold aN;cases l:bB.p c with
|true=>
  rw[mw c l];cases e:bB.p d with
 |true=>rw[mw d e];simp
 |false=>
   cases g:cn.p d with
 |true=>simp[a]
 |false=>cases fQ.p d<;>simp[a]
|false=>
  rw[l]at b;cases f:cn.p c with
|false=>rw[f]at b;exact absurd b YA
|true=>
   cases e:bB.p d with
|true=>rw[mw d e];simp[a]
|false=>
    cases g:cn.p d with
|true=>simp
|false=>cases fQ.p d<;>simp[a]
def oH(c)(a:cU c=0):aN c=nY\/aN c=Wd:=by
 unfold cU at a;unfold aN;cases l:bB.p c with
|true=>rw[l]at a;simp at a
|false=>
  cases f:cn.p c with
|true=>rw[l,f]at a;simp at a
|false=>cases fQ.p c<;>simp
theorem Ba(s)(b:s=Xl\/s=Zq):∀w S (x:Tx),(∀c∈w,aN c=s)->w.U b8 (S++[x],s)=(S++[x++w],s)
|[],S,x,_=>by simp
|c::w,S,x,h=>by have a:=h c Aa;rw[Af3,b8,Da ⟨a,by rw[a];exact b⟩];simp only[Rz,RA,a];rw[Ba s b w S (x++[c]) λd e=>h d<|Aa0 _ e];simp
theorem Q7(s):∀t:Tx,∃w r,t=w++r/\(∀c∈w,aN c=s)/\∀d L,r=d::L->aN d≠s
|[]=>⟨[],[],rfl,(λ_ h=>by cases h),λ_ _ h=>by cases h⟩
|c::t=>by
  by_cases q:aN c=s
  .obtain⟨w,r,e,a,f⟩:=Q7 s t;exact⟨c::w,r,by rw[e];rfl,λd b=>(Aa6.j b).j (λz=>z▸q)<|a d,f⟩
  .exact⟨[],c::t,rfl,(λ_ h=>by cases h),λd L e=>by cases e;exact q⟩
abbrev cX(t:Tx)(S:List Tx)(i:Nat)(x:Option W):Sl:=[y0 (.s t),y0 (.j<|S.u .m),si i,x]
def JB(t p r)(c)(a:t=p++c::r)(b:t.e<=90000)(h):cc (.s t) (.v<|.o (p.e:Nat)) h=y0 (.m [c]):=by rw[qT,Da<|by rw[Gf];exact YD,Jo _ _<|by rw[a];simp,a];simp
def rV(t)(i)(c:t.e<=90000)(a:Gr Z 0=y0 (.s t))(b:Gr Z j=si i):eval F (.y .u (.a0 j)<|.U .p<|.a .A) Z h=.j (.b<|k8<|i<t.e) h:=by
 have e:cz .p [.s t] h=aC (.n t.e) h:=by rw[len_str,Da<|by rw[Gf];exact YD]
 simp![a,b,e,QA]
theorem sW(m)(h)(t)(S)(p0)(c)(r0)(i:t=p0++c::r0)(o:0<cU c)(g:t.e<=90000):∀w p r f,t=p++(w++r)->(∀d∈w,aN d=aN c)->(∀d L,r=d::L->aN d≠aN c)->w.e<f→
 Gx (Gg (k7<|m+1) Jf) (λZ h=>execs (k7<|m+1) Wj Z h) f (cX t S p0.e<|sv<|.o (p.e:Nat)) h=.p (cX t S p0.e<|si<|p.e+w.e) h
|w,p,r,0,_,_,_,s=>absurd s<|Ak3 _
|[],p,r,f+1,a,_,l,_=>by
  have z:Gg (k7<|m+1) Jf (cX t S p0.e<|sv<|.o (p.e:Nat)) h=.j u9 h:=by
   unfold Gg Jf;rw[eval,rV t p.e g rfl rfl];cases r with
|nil=>rw[Do<|by rw[a];simp];simp![]
|cons d L=>rw[FM<|by rw[a];simp];have v:=λq=>l d L rfl<|(j4 c d o).2.j q;have n:=lF m d h;have k:=lF m c h;have j:=Jd (cU d) (cU c) h;rw[Do v]at j;have i1:=JB t p L d a g h;have i2:=JB t p0 r0 c i g h;simp![i1,i2,n,k,j]
  rw[Gx,z];simp
|d::w,p,r,f+1,a,u,l,s=>by
  have z:Gg (k7<|m+1) Jf (cX t S p0.e<|sv<|.o (p.e:Nat)) h=.j k9 h:=by unfold Gg Jf;rw[eval,rV t p.e g rfl rfl,FM<|by rw[a];simp];have n:=lF m d h;have k:=lF m c h;have j:=Jd (cU d) (cU c) h;rw[FM<|(j4 c d o).2.p<|u d Aa]at j;have i1:=JB t p (w++r) d a g h;have i2:=JB t p0 r0 c i g h;simp![i1,i2,n,k,j]
  have b:execs (k7<|m+1) Wj (cX t S p0.e<|sv<|.o (p.e:Nat)) h=.p (cX t S p0.e<|sv<|.o ((p++[d]).e:Nat)) h:=by
   simp only[Wj];have:((p.e:Nat):Int)+1=((p++[d]).e:Nat):=by simp
   simp![zc,this]
  rw[Gx,z];simp only[R.aF,b];rw[sW m h t S p0 c r0 i o g w (p++[d]) r f (by rw[a];simp) (λe x=>u e<|Aa0 _ x) l<|Nat.lt_of_succ_lt_succ s];simp only[Aa2,Ab1,Ae0,An8];rw[show p.e+1+w.e=p.e+(w.e+1)by lia]
def zM:execs F (.j s .p) Z h=exec F s Z h:=by rw[execs];cases exec F s Z h<;>rfl
def C7(p u r:Tx):cut (p++(u++r)) (y0 (p.e:Nat)) (y0 ((p.e+u.e:Nat):Int))=u:=by
 have a:¬((p.e:Nat):Int)<0:=by lia
 have b:¬((p.e+u.e:Nat):Int)<0:=by lia
 simp only[cut,aV,a,b,OD,Af1,Aa2];rw[Ak4 YB,Ak4<|OE _ _,List.drop_left,show p.e+u.e-p.e=u.e by lia,Aj2]
def vW(m)(h)(t)(S)(p u r)(c)(e:Tx)(g:u=c::e)(a:t=p++(u++r))(f:t.e<=90000)(i:S.e<=90000):
 execs (k7<|m+1) (.b (.u (.y .w (.G .A .J)<|.m [32]) (.a<|.app 1<|.sl .A .J .N) .p)<|.p 2 .N) (cX t S p.e<|si<|p.e+u.e) h=.p (cX t (if c=32 then S else S++[u]) (p.e+u.e)<|si<|p.e+u.e) h:=by
 have i1:=JB t p _ c (by rw[a,g];rfl) f h;have ne:Gm .w (.s [c]) (.s [32]) h=y0 (!k8 (c=32)):=by
  by_cases q:c=32
  .subst q;rfl
  .simp[q]
 by_cases q:c=32
 .rw[Da q,ja<|by simp![i1,ne,FM q]];simp![]
 .rw[Fk q];have b:eN (.s t) (y0 (p.e:Nat)) (y0 ((p.e+u.e:Nat):Int)) h=.j (.s u) h:=by show(if t.e<=bp then aC _ h else _)=_;rw[Da<|by simp_all,a,C7]
  have d:(S.u D.str).e<bp:=by rw[Gf,Ab];exact KM ‹_› YA
  rw[za (Z1:=cX t (S++[u]) p.e<|si<|p.e+u.e) (h1:=h)]
  .simp![]
  .rw[Zi (h1:=h)<|by simp![i1,ne,Do q],zM];simp![b,d,Ad];simp[Aj4]
def D4(c)(h):Gm .y (.s [c]) (.s yY) h=y0 (!(k8 (c=32)||fQ.p c)):=by congr 2
def Hv(m)(h)(t)(s:t.e<=90000):∀f r p S a x,t=p++r->p.U b8 ([],Wd)=(S,a)->(∀c L,r=c::L->¬fB a c)->r.e<f->S.e<=p.e→
 ((∀c∈r,dC c)->∃M,Gx (Gg (k7<|m+1) Zd) (λZ h=>execs (k7<|m+1) xc Z h) f (cX t S p.e x) h=.p (cX t (t.U b8 ([],Wd)).1 t.e M) h)∧
 ((∃c∈r,¬dC c)->Gx (Gg (k7<|m+1) Zd) (λZ h=>execs (k7<|m+1) xc Z h) f (cX t S p.e x) h=.j (.v .L) h):=by
 intro f;induction f with
|zero=>intro r p S a x _ _ _ Y;exact absurd Y<|Ak3 _
|succ f ih=>
  intro r p S a x b Q hb Y hn;have A:Gg (k7<|m+1) Zd (cX t S p.e x) h=.j (k8<|p.e<t.e) h:=by unfold Gg Zd;rw[rV t p.e s rfl rfl];rfl
  have T:p.e<=t.e:=by rw[b];simp
  cases r with
|nil=>rw[Ac7]at b;subst b;refine⟨λ_=>⟨x,?_⟩,λ⟨_,z,_⟩=>by cases z⟩;rw[Gx,A,Do<|Ag _,Q];rfl
|cons c r=>
   have A:Gg (k7<|m+1) Zd (cX t S p.e x) h=.j k9 h:=by rw[A,FM<|by rw[b];simp]
   have V:=hb c r rfl;have P:=lF m c h;have i1:=JB t p r c b s h;have X:((p.e:Nat):Int)+1=((p.e+1:Nat):Int):=rfl;have gt:Gm .gt (.v<|.o (cU c:Nat)) (.v<|.o 0) h=y0 (k8<|0<cU c):=by rw[Js];congr 1;exact decide_eq_decide.p YB
   have next:∀u j C,c::r=u++j->(∃W,u=c::W)->(∀d∈u,dC d)->u.U b8 _=(if c=32 then S else S++[u],C)->(∀d L,j=d::L->¬fB C d)→
    execs (k7<|m+1) xc (cX t S p.e x) h=.p (cX t (if c=32 then S else S++[u]) (p.e+u.e)<|si<|p.e+u.e) h→
    ((∀J∈c::r,dC J)->∃M,Gx (Gg (k7<|m+1) Zd) (λZ h=>execs (k7<|m+1) xc Z h) (f+1) (cX t S p.e x) h=.p (cX t (t.U b8 ([],Wd)).1 t.e M) h)∧
    ((∃J∈c::r,¬dC J)->Gx (Gg (k7<|m+1) Zd) (λZ h=>execs (k7<|m+1) xc Z h) (f+1) (cX t S p.e x) h=.j (.v .L) h):=λu j C D ⟨W,e2⟩ G fu bd E=>by
    have lu:(c::r).e=u.e+j.e:=by rw[D,Aa2]
    have u1:1<=u.e:=by rw[e2];simp
    have:=ih j (p++u) (if c=32 then S else S++[u]) C (si<|p.e+u.e) (by rw[b,D,Af8]) (by rw[Sh,Q,fu]) bd YB<|by
     rw[Aa2];split
     .lia
     .rw[Aa2];simp;lia
    rw[Aa2]at this;rw[Gx,A];simp only[R.aF,E];refine⟨λH=>this.1 λd i=>H d<|by rw[D];exact Aa8 _ i,λ⟨d,i,nk⟩=>this.2 ⟨d,?_,nk⟩⟩;rw[D]at i;exact(Ab4.j i).j (λz=>absurd (G d z) nk) id
   by_cases q:0<cU c
   .obtain⟨w,j,e,o,U⟩:=Q7 (aN c) r;have K:=(j4 c c q).1;have nb:∀d,aN d=aN c->dC d:=λd i=>.p (by rw[i];rcases K with z|z<;>rw[z]<;>decide);have I:c≠32:=λz=>by subst z;exact absurd q<|by decide
    refine next (c::w) j (aN c) (by rw[e];rfl) ⟨w,rfl⟩ (λd i=>(Aa6.j i).j (λz=>nb d<|by rw[z]) λz=>nb d<|o d z) ?_ (λd L O z=>U d L O z.1) ?_
    .rw[Fk I,Af3,b8,Fk V,Da<|by rcases K with z|z<;>rw[z]<;>decide,Ba (aN c) K w S [c] o];rfl
    .have rg:=sW m h t S p c r b q s w (p++[c]) j 100000 (by rw[b,e];simp) o U<|by
      have:w.e<=t.e:=by rw[b,e];simp;lia
      lia
     rw[Aa2,Aj5]at rg;simp only[xc];rw[za (Z1:=cX t S p.e<|si<|p.e+1) (h1:=h)<|by simp![zc,X]];rw[za (Z1:=cX t S p.e<|si<|p.e+1+w.e) (h1:=h)<|by rw[Zi (h1:=h)<|by simp![i1,P,gt,FM q],zM,exec];exact rg];rw[show p.e+1+w.e=p.e+(c::w).e by rw[Ab1];lia];exact vW m h t S p (c::w) j c w rfl (by rw[b,e];rfl) s YB
   .have n:cU c=0:=by lia
    have B:∀F,execs (k7<|m+1) (.j (.p 3<|.w .j .J<|.o 1) F) (cX t S p.e x) h=execs (k7<|m+1) F (cX t S p.e<|si<|p.e+1) h:=λF=>za (by simp![zc,X]);have N:Gg (k7<|m+1) (.y .gt (.j TH<|.a<|.G .A .J)<|.o 0) (cX t S p.e<|si<|p.e+1) h=.j false h:=by simp![i1,P,gt,Do q]
    have l:=D4 c h;by_cases k:dC c
    .have g:(k8 (c=32)||fQ.p c)=true:=by
      rcases oH c n with z|z
      .have:fQ.p c=true:=by
        unfold aN at z;split at z
        .exact absurd z YA
        .split at z
         .exact absurd z YA
         .split at z
          .assumption
          .exact absurd z YA
       rw[this,An7]
      .rcases k with y|y
       .exact absurd z y
       .rw[FM y];rfl
     rw[g]at l;refine next [c] r (aN c) rfl ⟨[],rfl⟩ (λd i=>by cases Ab2.j i;exact k) ?_ (λd L O z=>?_) ?_
     .rw[Af3,List.foldl_nil,b8,Fk V];rcases oH c n with z|z
      .rw[Da<|by rw[z];decide,Fk<|λy=>by subst y;exact absurd z YA]
      .have y:c=32:=k.j (λy=>absurd z y) id;rw[Fk<|λy=>y z,Da y]
     .rcases oH c n with y|y<;>rw[y]at z<;>rcases z.2 with v|v<;>rw[z.1]at v<;>exact absurd v YA
     .simp only[xc];rw[B,za (Z1:=cX t S p.e<|si<|p.e+1) (h1:=h)<|by rw[gf N,ja<|by simp![i1,l]];rfl];exact vW m h t S p [c] r c [] rfl b s YB
    .refine⟨λH=>absurd (H c Aa) k,λ_=>?_⟩;have g:(k8 (c=32)||fQ.p c)=false:=by
      rw[Do<|λz=>k<|.u z,RD];cases z:fQ.p c with
|false=>rfl
|true=>
       refine absurd (.p ?_) k;unfold cU at n;unfold aN;cases y:bB.p c with
|true=>rw[y]at n;simp at n
|false=>
        cases v:cn.p c with
|true=>rw[y,v]at n;simp at n
|false=>rw[Fk Ab0,Fk Ab0,Da z];decide
     rw[g]at l;rw[Gx,A];simp only[R.aF];have E:execs (k7<|m+1) xc (cX t S p.e x) h=.j (.v .L) h:=by simp only[xc];rw[B];exact Za<|by rw[gf N];exact wc (by simp![i1,l]) rfl
     rw[E]
def J8(m)(h)(t)(j:t.e<=90000):((∀c∈t,dC c)->call prog (m+2) Tz [.s t] h=.j (.j<|(t.U b8 ([],Wd)).1.u .m++[.m []]) h)/\((∃c∈t,¬dC c)->call prog (m+2) Tz [.s t] h=.j (.v .L) h):=by
 have o:=Hv m h t j 100000 t [] [] Wd u0 rfl rfl (λc p _ z=>by have:=z.1;rcases z.2 with y|y<;>rw[this]at y<;>exact absurd y YA) (KM ‹_› YA)<|Aa4 _;have b:∀f,execs (k7 _) bN.j [y0 _,u0,u0,u0] h=f->call prog (m+2) Tz [.s t] h=Gv h.e f:=fun f e=>by rw[Gb rfl _ _ _ rfl,←e];rfl
 refine⟨λg=>?_,λg=>?_⟩
 .obtain⟨q,e⟩:=o.1 g;have d:(t.U b8 ([],Wd)).1.e<=t.e:=by
   have l:∀(t:Tx) S a n,kR S a n->(t.U b8 (S,a)).1.e<=n+t.e:=by
    intro t;induction t with
|nil=>intro S a n d;exact d.2.1
|cons c t i=>intro S a n d;have:(t.U b8<|b8 _ c).1.e<=n+1+t.e:=i _ _ _<|W5 d;simp only[Af3,Ab1];lia
   have:=l t [] Wd 0 ⟨λz=>absurd z YA,Aa4 _,λx k=>by cases k⟩;lia
  rw[b _]
  .exact Gw _ _ _ rfl
  .simp only[bN];rw[za rfl,za rfl,za<|by rw[exec];exact e];rw[Za<|zl rfl<|by simp![CI];rw[Da<|by rw[Gf];simp;lia]]
 .have e:=o.2 g;rw[b _]
  .exact Ga _ _ _ rfl
  .simp only[bN];rw[za rfl,za rfl];exact Za<|by assumption
abbrev PR:=Nat->Option (D×Nat)
noncomputable def nb(t:Tx):Nat:=if t∈[([40]:Tx),[41],[91],[93]]then 0 else 1
def d7(T:List Tx)(p:Nat):Nat:=((T.J p).u nb).sum
inductive Gd:Nat->D->Prop
|str {n:Nat}(s:Tx):Gd n<|.m s
|int {n:Nat}(i:Nat):Gd n<|.n i
|tup {n:Nat}{ds:List D}(hl:ds.e<=100)(h:∀x∈ds,Gd n x):Gd (n+1)<|.p ds
open M renaming Gd.str->Lake.M.Gd.m
def Gd.mono (h:Gd n d)(e:n<=m):Gd m d:=by
 induction h generalizing m with
|str s=>exact .m s
|int i=>exact .int i
|tup c _ b=>obtain⟨k,rfl⟩:=nj m 1<|Ac0 (L2 _ _) ‹_›;exact .tup c λx a=>b x a<|IR ‹_›
theorem zD:∀{ds},(∀x∈ds,Gp x=k9)->Gi ds=k9
|[],_=>rfl
|x::b,h=>by rw[Gi,h x Aa,zD λy a=>h y<|Aa0 _ a];rfl
def Gd.ref (h:Gd n d):Gp d=true:=by
 induction h with
|str s=>rfl
|int i=>rfl
|@tup n b _ _ a=>exact zD a
def xU(h:p<T.e):d7 T p=nb (tk T p)+d7 T (p+1):=by unfold d7;rw[Ae8 h,Ac3,RE,tk,Ac5,Aa7 h];rfl
def XL(T:List Tx)(p:Nat):d7 T (p+1)<=d7 T p:=by
 by_cases h:p<T.e
 .rw[xU h];exact L2 _ _
 .unfold d7;rw[Aj1 YB,Aj1<|Ox ‹_›];exact Aa4 _
def OK(T:List Tx)(p:Nat)(r:Option<|D×Nat):Prop:=∀d q,r=y0 (d,q)->p<q/\q<=T.e/\∃n,Gd n d/\n+d7 T q<=d7 T p
theorem OK.none (T:List Tx)(p:Nat):OK T p none:=λ_ _ e=>by cases e
def qv(h:tk T p=t)(a:t≠[]):p<T.e:=by refine Nat.lt_of_not_le λz=>a ?_;rw[←h,ll<|Nat.not_lt.2 ‹_›]
noncomputable def gL(T:List Tx)(op:Tx->Option Tx)(sub:PR):Nat->D->Nat->Option (D×Nat)
|0,_,_=>u0
|f+1,d,q=>match op (tk T q)with
|none=>y0 (d,q)
|some s=>match sub<|q+1with
|none=>u0
|some (e,a)=>gL T op sub f (.p [.m s,d,e]) a
def eA(T:List Tx)(op:Tx->Option Tx)(sub:PR):PR:=λp=>match sub p with
|none=>u0
|some (d,q)=>gL T op sub (T.e+1) d q
theorem AX(g:∀p,OK T p<|sub p)(h:∀t s,op t=y0 s->t≠[]/\nb t=1)(p):∀f d q n,p<q->q<=T.e->Gd n d->n+d7 T q<=d7 T p->OK T p (gL T op sub f d q)
|0,_,_,_,_,_,_,_=>OK.none T p
|f+1,d,q,n,y,r,i,v=>by
  unfold gL;cases e:op (tk T q)with
|none=>exactλA a z=>by cases z;exact⟨y,r,n,i,v⟩
|some s=>
   obtain⟨w,a2⟩:=h _ _ e;have u:=qv rfl w;cases m:sub<|q+1with
|none=>exact OK.none T p
|some x=>
    obtain⟨b,a⟩:=x;obtain⟨C,o,k,j,B⟩:=g (q+1) b a m;have l:=xU u;rw[a2]at l;refine AX g h p f _ a (max n k+1) YB o (.tup YC λx c=>?_) YB;simp only[Aa6,Ab9,Oj]at c;rcases c with rfl|rfl|rfl
    .exact .m s
    .exact i.mono<|Ak5 ..
    .exact j.mono<|Aj8 ..
def JT(a:∀p,OK T p<|sub p)(h:∀t s,op t=y0 s->t≠[]/\nb t=1)(p):OK T p<|eA T op sub p:=by
 unfold eA;cases e:sub p with
|none=>exact OK.none T p
|some x=>obtain⟨d,q⟩:=x;obtain⟨c,f,k,b,g⟩:=a p d q e;exact AX a h p _ d q k c f b g
noncomputable def dw(o s:Tx):Tx->Option Tx:=λt=>if t=o then y0 s else u0
def gu:Tx->Option Tx:=λt=>if t=[43]then y0 Xq else if t=[45]then y0 zn else u0
def nE(T:List Tx)(a:PR):PR:=eA T (dw [46] wn) a
def oM(T:List Tx)(a:PR):PR:=eA T (dw [38] XM)<|nE T a
def eC(T:List Tx)(a:PR):PR:=eA T gu<|oM T a
noncomputable def fL(N T:List Tx)(b:Option PR):PR:=λp=>
 if tk T p∈[qr,jC,jr]then y0 (.p [.m (tk T p)],p+1)
 else if tk T p∈N then y0 (.p [.m jm,.m (tk T p)],p+1)
 else match b with
|none=>u0
|some a=>
   if tk T p=[126]then(a<|p+1).u λx=>(.p [.m Xb,x.1],x.2)
   else if tk T p=[94]then(a<|p+1).u λx=>(.p [.m Jb,x.1],x.2)
   else if tk T p=[40]then(eC T a<|p+1).p λx=>if tk T x.2=[41]then y0 (x.1,x.2+1)else u0
   else u0
def pA(N T:List Tx):Nat->PR
|0=>fL N T u0
|n+1=>fL N T<|y0<|pA N T n
def ZM(o s)(h:o≠[]/\nb o=1):∀t u,dw o s t=y0 u->t≠[]/\nb t=1:=λt u e=>by
 unfold dw at e;split at e
 .rename_i z;rw[z];exact h
 .cases e
def QZ:∀t u,gu t=y0 u->t≠[]/\nb t=1:=λt u e=>by
 unfold gu at e;split at e
 .rename_i z;rw[z];decide
 .split at e
  .rename_i z;rw[z];decide
  .cases e
def zI(h:∀p,OK T p<|a p):(∀p,OK T p<|nE T a p)/\(∀p,OK T p<|oM T a p)/\∀p,OK T p<|eC T a p:=by have c:∀p,OK T p<|nE T a p:=λp=>JT h (ZM _ _ YA) p;have b:∀p,OK T p<|oM T a p:=λp=>JT c (ZM _ _ YA) p;exact⟨c,b,λp=>JT b QZ p⟩
def tR(a:p<T.e)(c:nb (tk T p)=1)(b:ds.e<=100)(h:∀x∈ds,Gd 0 x):OK T p<|y0 (.p ds,p+1):=λd q e=>by cases e;have:=xU a;exact⟨Ae9 p,a,1,.tup b h,by lia⟩
def sE(n:∀t∈N,t≠[]/\nb t=1)(h:∀a,deep=y0 a->∀p,OK T p<|a p)(p):OK T p<|fL N T deep p:=by
 unfold fL;split
 .rename_i z;have w:tk T p≠[]/\nb (tk T p)=1:=by
   simp only[Aa6,Ab9,Oj]at z;rcases z with z|z|z<;>rw[z]<;>decide
  exact tR (qv rfl w.1) w.2 YC λx c=>by rw[Ab2.j c];exact .m _
 .split
  .rename_i z;have w:=n _ z;refine tR (qv rfl w.1) w.2 YC λx c=>?_;simp only[Aa6,Ab9,Oj]at c;rcases c with rfl|rfl<;>exact .m _
  .cases deep with
|none=>exact OK.none T p
|some a=>
    have m:=h a rfl;have un:∀s,tk T p≠[]/\nb (tk T p)=1->OK T p ((a<|p+1).u λx=>(.p [.m s,x.1],x.2)):=λs w d q e=>by
     obtain⟨⟨b,j⟩,i,f⟩:=Ae6.j e;dsimp only at f;cases f;obtain⟨r,l,k,g,o⟩:=m _ b _ i;have u:=xU<|qv rfl w.1;refine⟨(Ag2 ‹_›),l,k+1,.tup YC λx c=>?_,by lia⟩;simp only[Aa6,Ab9,Oj]at c;obtain rfl|rfl:=c
     .exact .m _
     .exact g
    dsimp only;split
    .rename_i z;exact un Xb<|by rw[z];decide
    .split
     .rename_i z;exact un Jb<|by rw[z];decide
     .split
      .intro d q e;obtain⟨⟨b,j⟩,i,f⟩:=Ad2.j e;obtain⟨r,l,k,g,o⟩:=(zI m).2.2 _ b j i;dsimp only at f;split at f
       .rename_i z;cases f;have:=XL T p;have:=XL T j;exact⟨by lia,qv z YA,k,g,by lia⟩
       .cases f
      .exact OK.none T p
theorem QP(b:∀t∈N,t≠[]/\nb t=1):∀n p,OK T p<|pA N T n p
|0,p=>sE b (λa e=>by cases e) p
|n+1,p=>sE b (λa e q=>by cases e;exact QP b n q) p
theorem QE{Y:Type}{T:List Tx}{op:Tx->Option Tx}{sub:PR}(n:∀p,OK T p<|sub p){c:Sl->AH->R Bool}{bd:Sl->AH->O}{H:Nat->AH}{Z:D->Nat->Y->Sl}{X:O->Prop}
 (r:∀o,X o->(∃e h,o=.w e h)\/∃w h,o=.j w h)
 (m:∀d q y,q<=T.e->op (tk T q)=u0->c (Z d q y) (H q)=.j u9 (H q))(l:∀d q y s,q<T.e->op (tk T q)=y0 s->c (Z d q y) (H q)=.j k9 (H q))
 (A:∀d q y s e L,q<T.e->op (tk T q)=y0 s->sub (q+1)=y0 (e,L)->∃M,bd (Z d q y) (H q)=.p (Z (.p [.m s,d,e]) L M) (H L))
 (j:∀d q y s,q<T.e->op (tk T q)=y0 s->sub (q+1)=u0->X (bd (Z d q y)<|H q))(u:∀t s,op t=y0 s->t≠[]):∀(f k:Nat)(d:D)(q:Nat)(y:Y),f<=k->T.e<q+f->q<=T.e→
 (match gL T op sub f d q with
|some (V,L)=>∃M,Gx c bd k (Z d q y) (H q)=.p (Z V L M) (H L)
|none=>X<|Gx c bd k (Z d q y)<|H q)
|0,k,d,q,y,_,C,v=>by lia
|f+1,0,d,q,y,F,_,_=>by lia
|f+1,k+1,d,q,y,F,C,v=>by
  unfold gL;cases e:op (tk T q)with
|none=>exact⟨y,by rw[Gx,m d q y v e];rfl⟩
|some s=>
   have i:=qv (T:=T) (p:=q) rfl<|u _ _ e;have t:=l d q y s i e;cases g:sub<|q+1with
|none=>
    have x:=j d q y s i e g;have:Gx c bd (k+1) (Z d q y) (H q)=bd (Z d q y) (H q):=by
     rw[Gx,t];rcases r _ x with⟨a,b,z⟩|⟨a,b,z⟩<;>simp only[R.aF,z]
    dsimp only;rw[this];exact x
|some x=>
    obtain⟨a,L⟩:=x;obtain⟨M,z⟩:=A d q y s a L i e g;obtain⟨G,E,_⟩:=n (q+1) a L g;have B:=QE n r m l A j u f k (.p [.m s,d,a]) L M (IR ‹_›) YB E;have:Gx c bd (k+1) (Z d q y) (H q)=Gx c bd k (Z (.p [.m s,d,a]) L M) (H L):=by rw[Gx,t];simp only[R.aF,z]
    dsimp only;rw[this];exact B
section
variable{F:Fx}{e:E}{Z:Sl}{h h1:AH}{d:D}{ss:Ss}
def Wu(a:GI e=u0)(q:eval F e Z h=.w d h1):execs F (.j (.j e) ss) Z h=.w d h1:=by rw[execs,exec,a];simp[q];rfl
def Qr{i:Nat}(q:eval F e Z h=.w d h1):execs F (.j (.p i e) ss) Z h=.w d h1:=by rw[execs,exec,q];rfl
def A3(q:eval F e Z h=.w d h1):execs F (.j (.ex e) ss) Z h=.w d h1:=by rw[execs,exec,q];rfl
def Zn{i:Nat}(q:eval F e Z h=.j (.v d) h1):execs F (.j (.p i e) ss) Z h=execs F ss (GF Z i<|.v d) h1:=by rw[execs,exec,q];rfl
def rP(d:eval F a Z h=.j (.v d1) h1):(∀d2 h2,eval F b Z h1=.j (.v d2) h2->eval F (.p<|.j a<|.j b .p) Z h=.j (.t [d1,d2]) h2)/\∀x h2,eval F b Z h1=.w x h2->eval F (.p<|.j a<|.j b .p) Z h=.w x h2:=by refine⟨λd2 h2 c=>?_,λx h2 c=>?_⟩<;>(rw[eval,Gk,d];simp[Gk];rw[c];rfl)
def om{a b c:E}{d1 d2:D}{h2:AH}(e:eval F a Z h=.j (.v d1) h1)(eb:eval F b Z h1=.j (.v d2) h2):(∀M L,eval F c Z h2=.j (.v M) L->eval F (.p<|.j a<|.j b<|.j c .p) Z h=.j (.t [d1,d2,M]) L)/\∀x L,eval F c Z h2=.w x L->eval F (.p<|.j a<|.j b<|.j c .p) Z h=.w x L:=by refine⟨λM L d=>?_,λx L d=>?_⟩<;>(rw[eval,Gk,e];simp[Gk];rw[eb];simp[R.af];rw[d];rfl)
end
def NR(m)(h):call prog (m+1) S4 [.v (.o 20)] h=.w bK h:=rfl
def J9(m)(g)(N T)(p)(t)(b:tk T p≠t):call prog (m+3) S6 [.r g.e,.s t] (rh g N T p)=.w bK (rh g N T<|p+1):=by
 rw[Gb rfl _ _ _ rfl];simp only[Wh];show Gv _ (execs _ _ [y0 _,y0 _] _)=_;have z:Gm .w (.s<|tk T p) (.s t) (rh g N T<|p+1)=y0 true:=by simp[b]
 have a:Gg (k7<|m+2) (.y .w (.aI .A SQ Tg SZ .p) .B) [some (.r g.e),some (.s t)] (rh g N T p)=.j true (rh g N T<|p+1):=by rw[Gg,eval,xt rfl];simp only[R.ae,eval,Gq,Gr,z,R.af,Gu,aC]
 rw[execs,Zi a];rfl
def jw{m:Nat}{g:AH}{N T:List Tx}{p:Nat}{Z:Sl}{q k:String}{i j:Nat}{w:D}(a:Gr Z 0=y0 (.r g.e))(h1:Gr Z i=sv w)(b:((eI N T p).j k).j=k9):
 eval (k7 m) (.aI .A SQ k q<|.a<|.a0 i) Z (rh g N T p)=call prog m q [.r g.e,.v w] (rh g N T p):=by
 have e:Gn (k7 m) (.a<|.a0 i) Z (rh g N T p)=.j [.v w] (rh g N T p):=by simp[Gq,h1,R.af]
 rw[iB a b e];rfl
def qP(b:w<20)(a:Gr Z 0=y0 (.r g.e))(h1:Gr Z 1=si w)(c:((eI N T p).j k).j=k9):
 eval (k7<|m+1) (.aI .A SQ k q<|.a<|.j S4<|.a .B) Z (rh g N T p)=call prog (m+1) q [.r g.e,.i (w+1)] (rh g N T p):=by
 have e:Gn (k7<|m+1) (.a<|.j S4<|.a .B) Z (rh g N T p)=.j [.i (w+1)] (rh g N T p):=by simp[Gq,h1,C9 m w _ b]
 rw[iB a c e];rfl
def xw(a:Gr Z 0=y0 (.r g.e))(h1:Gr Z 1=sv (.o 20))(b:((eI N T p).j k).j=k9):
 eval (k7<|m+1) (.aI .A SQ k q<|.a<|.j S4<|.a .B) Z (rh g N T p)=.w bK (rh g N T p):=by
 have e:Gn (k7<|m+1) (.a<|.j S4<|.a .B) Z (rh g N T p)=.w bK (rh g N T p):=by simp only[Gn,eval,Gq,h1,NR m];rfl
 rw[eval,eval,Gq,a];simp only[R.ae,Zw,b,e];rfl
def RP(g:AH)(N T:List Tx)(nm:String)(w p m:Nat)(r:Option<|D×Nat):Prop:=match r with
|some (d,q)=>call prog m nm [.r g.e,.i w] (rh g N T p)=.j (.v d) (rh g N T q)
|none=>∃q,call prog m nm [.r g.e,.i w] (rh g N T p)=.w bK (rh g N T q)
abbrev rs(g:AH)(w:Nat)(x:Option W):Sl:=[y0 (.r g.e),si w,x]
abbrev cQ(g:AH)(w:Nat)(x y:Option W):Sl:=[y0 (.r g.e),si w,x,y]
def nH{g:AH}{N T:List Tx}{m w:Nat}{nm k q:String}{o s:Tx}{sub:PR}(U:prog.fns.j nm=y0 ⟨2,3,.c (.p 2<|.aI .A SQ k q<|.a .B) (.e8 100000 (.y .j (.aI .A SQ "here" Tc .p)<|.m o)<|.b (.ex<|.aI .A SQ Tg SZ .p)<|.p 2<|.p<|.j (.m s)<|.j .J<|.j (.aI .A SQ k q<|.a .B) .p)<|.j .J⟩)
 (Q:∀p,((eI N T p).j k).j=k9)(K:∀p,OK T p<|sub p)(E:∀p,RP g N T q w p (m+2)<|sub p)(S:o≠[])(V:T.e<=90000)(p:Nat):RP g N T nm w p (m+3)<|eA T (dw o s) sub p:=by
 have v:∀(p:Nat)(x:Option W),eval (k7 _) (.aI _ SQ k q<|.a .B) (rs g w x) _=call prog (m+2) q [.r g.e,.i w] _:=fun p x=>jw (j:=0) rfl rfl<|Q p;have G:∀C,execs (k7 _) _ (rs g w u0) _=C->call prog (m+3) nm [.r g.e,.i w] _=Gv (rh g N T p).e C:=λC e=>by rw[Gb U _ _ _ rfl,←e];rfl
 have r:=E p;unfold eA;cases e:sub p with
|none=>rw[e]at r;obtain⟨i,r⟩:=r;exact⟨i,G _<|Qr<|by rw[v];exact r⟩
|some x=>
  obtain⟨d,A⟩:=x;rw[e]at r;obtain⟨_,P,_⟩:=K p d A e;have M:∀B,execs (k7 _) (.j (.p 2<|.aI .A SQ k q<|.a .B) B) (rs g w none) _=execs (k7 _) B (rs g w _) _:=fun B=>Zn (by rw[v];exact r);have l:∀(d:D)(f:Nat),execs (k7 _) _ _ _=execs (k7<|m+2) (.a<|.p 2<|.p<|.j (.m s)<|.j .J<|.j (.aI .A SQ k q<|.a .B) .p) (rs g w<|sv d) (rh g N T<|f+1):=fun d f=>za<|W2 rfl;have L:=λ(d:D)(f:Nat)=>om (F:=(k7<|m+2)) (a:=.m s) (b:=.a0 2) (c:=.aI .A SQ k q<|.a .B) (Z:=rs g w<|sv d) (h:=rh g N T f) (d1:=.m s) (d2:=d) rfl rfl;have n:=QE (Y:=Unit) (T:=T) (op:=dw o s) K (H:=rh g N T) (Z:=λd _ _=>rs g w _) (X:=λo=>∃q,o=.w bK (rh g N T q))
   (c:=λZ h=>Gg (k7<|m+2) _ Z h) (bd:=λZ h=>execs (k7 _) _ Z h)
   (by rintro o⟨q,z⟩;exact .p ⟨_,_,z⟩)
   (λd f _ _ z=>by show Gg _ _ _ _=_;rw[ni o rfl,show(tk T f==o)=u9 from beq_eq_false_iff_ne.p λy=>by unfold dw at z;rw[Da y]at z;cases z])
   (λd f _ J _ z=>by show Gg _ _ _ _=_;rw[ni o rfl,show(tk T f==o)=k9 from beq_iff_eq.p<|Ad7 λy=>by unfold dw at z;rw[Fk y]at z;cases z])
   (λd f _ J e i _ z I=>⟨(),by
     have:J=s:=by unfold dw at z;split at z<;>cases z;rfl
     subst this;have a:=E<|f+1;rw[I]at a;show execs _ _ _ _=_;rw[l,Zn<|(L d<|f+1).1 e _<|by rw[v];exact a];rfl⟩)
   (λd f _ J _ z I=>by have a:=E<|f+1;rw[I]at a;obtain⟨i,a⟩:=a;refine⟨i,?_⟩;show execs _ _ _ _=_;rw[l,Qr<|(L d<|f+1).2 _ _<|by rw[v];exact a])
   (λt u z=>(by unfold dw at z;split at z<;>cases z;rename_i y;rw[y];exact S)) (T.e+1) 100000 d A () (KM ‹_› YA) (L2 _ _) P
  dsimp only;cases O:gL T _ sub _ d A with
|none=>rw[O]at n;obtain⟨i,n⟩:=n;refine⟨i,G (.w bK<|rh g N T i) ?_⟩;rw[M,execs,exec,show Gx _ _ _ _ _=_ from n];rfl
|some y=>obtain⟨R,i⟩:=y;rw[O]at n;obtain⟨_,n⟩:=n;show call prog _ nm _ _=_;rw[G (.j (.v R)<|rh g N T i)<|by rw[M,za<|by rw[exec];exact n];exact Za rfl];exact Ga _ _ _<|Qo ..
section
variable{g:AH}{N T:List Tx}{m w:Nat}
def uy(a:Gr Z 0=y0 (.r g.e)):Gg (k7<|m+2) jd Z (rh g N T p)=.j (k8<|tk T p∈[[43],[45]]) (rh g N T p):=by rw[jd,Gg,eval,J2 a];simp only[R.ae];rw[xr];simp only[R.ae,Qt,R.af,Gu,aC]
def sQ(h:gu t=y0 s):(t,s)∈[(([43]:Tx),Xq),([45],zn),([126],Xb),([94],Jb),(c7,xE),([61],wg)]/\t∈[([43]:Tx),[45]]:=by
 unfold gu at h;split at h
 .rename_i z;cases h;subst z;decide
 .split at h
  .rename_i z;cases h;subst z;decide
  .cases h
def LO(I:∀p,OK T p<|sub p)(E:∀p,RP g N T S9 w p (m+2)<|sub p)(P:T.e<=90000)(p):RP g N T SR w p (m+3)<|eA T gu sub p:=by
 have v:∀p x y,eval (k7 _) (.aI .A SQ "term" S9<|.a .B) (cQ g w x y) _=call prog (m+2) S9 [.r g.e,.i w] (rh g N T p):=fun p x y=>jw (j:=0) rfl rfl rfl;have A:∀D,execs (k7 _) a8.j (cQ g w u0 u0) _=D->call prog (m+3) SR [.r g.e,.i w] _=Gv (rh g N T p).e D:=fun D e=>by rw[Gb rfl _ _ _ rfl,←e];rfl
 have r:=E p;unfold eA;simp only[a8]at A;cases e:sub p with
|none=>rw[e]at r;obtain⟨i,r⟩:=r;exact⟨i,A _<|Qr<|by rw[v];exact r⟩
|some x=>
  obtain⟨d,B⟩:=x;rw[e]at r;obtain⟨_,M,_⟩:=I p d B e;have K:∀C,execs (k7 _) (.j (.p 2<|.aI .A SQ "term" S9<|.a .B) C) (cQ g w none none) _=execs (k7 _) C (cQ g w (sv d) none) _:=fun C=>Zn (by rw[v];exact r);have k:∀d f y s,gu _=some s->execs (k7 _) zd (cQ g w (sv d) y) _=execs (k7<|m+2) (.a<|.p 2<|.p<|.j .N<|.j .J<|.j (.aI .A SQ "term" S9<|.a .B) .p) (cQ g w (sv d)<|some<|.s s) (rh g N T<|f+1):=fun d f y s z=>by rw[zd];exact Zn<|pO (ZG _) (xt rfl) (sQ z).1
  have J:=λd f s=>om (F:=(k7<|m+2)) (a:=.a0 3) (b:=.a0 2) (c:=.aI .A SQ "term" S9<|.a .B) (Z:=cQ g w (sv d)<|some<|.s s) (h:=rh g N T f) (d2:=d) rfl rfl;have l:=QE (Y:=Option W) (T:=T) (op:=gu) I (H:=rh g N T) (Z:=λd _ y=>cQ g w (sv d) y) (X:=λo=>∃q,o=.w bK (rh g N T q))
   (c:=λZ h=>Gg (k7<|m+2) jd Z h) (bd:=λZ h=>execs (k7<|m+2) zd Z h)
   (by rintro o⟨q,z⟩;exact .p ⟨_,_,z⟩)
   (λd f _ _ z=>by
     show Gg _ _ _ _=_;rw[uy rfl,Do λy=>?_];simp only[Aa6,Ab9,Oj]at y;unfold gu at z;rcases y with y|y
     .rw[Da y]at z;cases z
     .rw[Fk<|by rw[y];decide,Da y]at z;cases z)
   (λd f _ n _ z=>by show Gg _ _ _ _=_;rw[uy rfl,FM (sQ z).2])
   (λd f y n e i _ z G=>⟨y0<|.s n,by have a:=E<|f+1;rw[G]at a;show execs _ _ _ _=_;rw[k d f y n z,Zn<|(J d (f+1) n).1 e _<|by rw[v];exact a];rfl⟩)
   (λd f y n _ z G=>by have a:=E<|f+1;rw[G]at a;obtain⟨i,a⟩:=a;refine⟨i,?_⟩;show execs _ _ _ _=_;rw[k d f y n z,Qr<|(J d (f+1) n).2 _ _<|by rw[v];exact a])
   (λt u z=>(QZ t u z).1) (T.e+1) 100000 d B u0 (KM ‹_› YA) (L2 _ _) M
  dsimp only;cases L:gL T gu sub (T.e+1) d B with
|none=>rw[L]at l;obtain⟨i,l⟩:=l;refine⟨i,A (.w bK<|rh g N T i) ?_⟩;rw[K,execs,exec,show Gx _ _ _ _ _=_ from l];rfl
|some y=>obtain⟨O,i⟩:=y;rw[L]at l;obtain⟨_,l⟩:=l;show call prog (m+3) SR _ _=_;rw[A (.j (.v O)<|rh g N T i)<|by rw[K,za<|by rw[exec];exact l];exact Za rfl];exact Ga _ _ _<|Qo ..
def dh(N:List Tx):Prop:=∀t∈N,t≠[]/\nb t=1/\t≠[126]/\t≠[94]/\t≠[40]
def AK(O:dh N)(o:match deep with
|none=>w=20
|some a=>w<20/\(∀p,RP g N T S3 (w+1) p (m+3)<|a p)/\∀p,RP g N T SR (w+1) p (m+3)<|eC T a p)(p):RP g N T S3 w p (m+4)<|fL N T deep p:=by
 have j:∀J,execs (k7 _) bx.j (cQ g w u0 u0) _=J->call prog (m+4) S3 [.r g.e,.i w] _=Gv (rh g N T p).e J:=fun J e=>by rw[Gb (d:=bx) rfl _ _ _ rfl,←e];rfl
 simp only[bx]at j;have c:∀t,execs (k7 _) (.j (.p 2<|.aI .A SQ Tg SZ .p) t) (cQ g w none none) _=execs (k7<|m+3) t (cQ g w (some<|.s<|tk T p) none) (rh g N T<|p+1):=fun t=>Zn<|xt (m:=m+1) rfl;have fin:∀{d}{q},Gv (rh g N T p).e (.j (.v d)<|rh g N T q)=.j (.v d) (rh g N T q):=λ{d q}=>Ga _ _ _<|Qo ..;have i:Gg (k7<|m+3) (.y .p .J<|.p<|.b (.m [126])<|.m [94]) (cQ g w (y0<|.s<|tk T p) u0) (rh g N T<|p+1)=.j (k8<|tk T p∈[[126],[94]]) (rh g N T<|p+1):=m6 rfl _ _;have B:Gg (k7<|m+3) (.y .p .J<|.p<|.c (.m hU) (.m hY)<|.m iD) (cQ g w (y0<|.s<|tk T p) u0) (rh g N T<|p+1)=.j (k8<|tk T p∈[qr,jC,jr]) (rh g N T<|p+1):=sD rfl _ _ _;have n:Gg (k7<|m+3) (.y .j .J<|.m [40]) (cQ g w (y0<|.s<|tk T p) u0) (rh g N T<|p+1)=.j (tk T p==[40]) (rh g N T<|p+1):=lV rfl _;have G:Gg (k7<|m+3) (.y .p .J<|.bY .A SQ "names") (cQ g w (some<|.s<|tk T p) none) (rh g N T<|p+1)=.j (decide<|tk T p∈N) (rh g N T<|p+1):=by rw[Gg,eval,je rfl,R.ae,Fs rfl];simp only[R.ae,Qt,R.af,Gu,aC]
 have A:tk T p≠[126]->tk T p≠[94]->tk T p≠[40]->∀r,r=(if tk T p∈[qr,jC,jr]then y0 (.p [.m (tk T p)],p+1)else if tk T p∈N then y0 (.p [.m jm,.m (tk T p)],p+1)else u0)->RP g N T S3 w p (m+4) r:=fun X a2 a3 r W=>by
  rw[Do<|by simp[X,a2]]at i;rw[beq_eq_false_iff_ne.p a3]at n;subst W;by_cases z:tk T p∈[qr,jC,jr]
  .rw[Da z];rw[FM z]at B;show call _ _ _ _ _=_;rw[j (.j (.t [.m (tk T p)])<|rh g N T<|p+1)<|by rw[c,ja i,ja n];exact wc B<|jc rfl<|by simp![]];exact fin
  .rw[Fk z];rw[Do z]at B;by_cases y:tk T p∈N
   .rw[Da y];rw[FM y]at G;show call _ _ _ _ _=_;rw[j (.j (.t [.m jm,.m (tk T p)])<|rh g N T<|p+1)<|by rw[c,ja i,ja n,ja B];exact wc G<|jc rfl<|by simp![]];exact fin
   .rw[Fk y];rw[Do y]at G;refine⟨p+1,?_⟩;rw[j (.w bK<|rh g N T<|p+1)<|by rw[c,ja i,ja n,ja B,ja G];rfl];rfl
 by_cases l:tk T p∈[([126]:Tx),[94]]
 .rw[FM l]at i;have H:tk T p∉[qr,jC,jr]:=by
   simp only[Aa6,Ab9,Oj]at l;rcases l with z|z<;>rw[z]<;>decide
  have M:tk T p∉N:=λy=>by obtain⟨_,_,b1,S,_⟩:=O _ y;simp only[Aa6,Ab9,Oj]at l;exact l.j b1 S
  have Y:∃s,(tk T p,s)∈[(([43]:Tx),Xq),([45],zn),([126],Xb),([94],Jb),(c7,xE),([61],wg)]/\∀a:PR,(if tk T p=[126]then(a<|p+1).u λx=>(D.tup [.m Xb,x.1],x.2)else if tk T p=[94]then(a<|p+1).u λx=>(.p [.m Jb,x.1],x.2)else if tk T p=[40]then(eC T a<|p+1).p λx=>if tk T x.2=[41]then y0 (x.1,x.2+1)else u0 else u0)=(a<|p+1).u λx=>(.p [.m s,x.1],x.2):=by
   simp only[Aa6,Ab9,Oj]at l;rcases l with z|z
   .exact⟨Xb,by rw[z];decide,λa=>by rw[Da z]⟩
   .exact⟨Jb,by rw[z];decide,λa=>by rw[Fk<|by rw[z];decide,Da z]⟩
  obtain⟨s,U,K⟩:=Y;have L:=rP (F:=(k7<|m+3)) (a:=.fT TB .J) (b:=.aI .A SQ "atom" S3<|.a<|.j S4<|.a .B) (Z:=cQ g w (some<|.s<|tk T p) none) (h:=rh g N T<|p+1)<|pO (ZG _) (je rfl) U;unfold fL;rw[Fk H,Fk M];cases deep with
|none=>have o:w=20:=o;subst o;refine⟨p+1,?_⟩;rw[j (.w bK<|rh g N T<|p+1)<|by rw[c,execs,Zi i,Wu rfl<|L.2 _ _<|xw (m:=m+2) rfl rfl rfl];rfl];rfl
|some a=>
   obtain⟨I,V,_⟩:=o;dsimp only;rw[K a];have f:=V<|p+1;have C:=qP (m:=m+2) (g:=g) (N:=N) (T:=T) (p:=p+1) (Z:=cQ g w (y0<|.s<|tk T p) u0) (q:=S3) (k:="atom") I rfl rfl rfl;cases e:a<|p+1with
|none=>rw[e]at f;obtain⟨E,f⟩:=f;refine⟨E,?_⟩;rw[j (.w bK<|rh g N T E)<|by rw[c,execs,Zi i,Wu rfl<|L.2 _ _<|by rw[C];exact f];rfl];rfl
|some x=>obtain⟨d,q⟩:=x;rw[e]at f;show call _ _ _ _ _=_;rw[j (.j (.t [.m s,d])<|rh g N T q)<|by rw[c];exact Za<|by rw[Zi i];exact Za<|jc rfl<|L.1 _ _<|by rw[C];exact f];exact fin
 .have u:tk T p≠[126]/\tk T p≠[94]:=by simpa using l
  by_cases v:tk T p=[40]
  .rw[Do l]at i;rw[show(tk T p==[40])=k9 from beq_iff_eq.p v]at n;have H:tk T p∉[qr,jC,jr]:=by rw[v];decide
   have M:tk T p∉N:=λy=>(O _ y).2.2.2.2 v;unfold fL;rw[Fk H,Fk M];cases deep with
|none=>have o:w=20:=o;subst o;refine⟨p+1,?_⟩;rw[j (.w bK<|rh g N T<|p+1)<|by rw[c,ja i,execs,Zi n,Qr<|xw (m:=m+2) rfl rfl rfl];rfl];rfl
|some a=>
    obtain⟨I,_,hE⟩:=o;dsimp only;rw[Fk u.1,Fk u.2,Da v];have f:=hE<|p+1;have C:=qP (m:=m+2) (g:=g) (N:=N) (T:=T) (p:=p+1) (Z:=cQ g w (y0<|.s<|tk T p) u0) (q:=SR) (k:=S7) I rfl rfl rfl;cases e:eC T a<|p+1with
|none=>rw[e]at f;obtain⟨E,f⟩:=f;refine⟨E,?_⟩;rw[j (.w bK<|rh g N T E)<|by rw[c,ja i,execs,Zi n,Qr<|by rw[C];exact f];rfl];rfl
|some x=>
     obtain⟨d,q⟩:=x;rw[e]at f;have P:∀t,execs (k7<|m+3) (.j (.p 3<|.aI .A SQ S7 SR<|.a<|.j S4<|.a .B) t) (cQ g w (some<|.s<|tk T p) none) (rh g N T<|p+1)=execs (k7<|m+3) t (cQ g w (some<|.s<|tk T p)<|sv d) (rh g N T q):=fun t=>Zn (by rw[C];exact f);have Q:=iB (F:=(k7<|m+3)) (g:=g) (N:=N) (T:=T) (p:=q) (Z:=cQ g w (y0<|.s<|tk T p)<|sv d) (m:="take_just") (q:=S6) (es:=.j (.m [41]) .p) (ws:=[.s [41]]) rfl rfl rfl;show RP g N T _ w p (m+4)<|if tk T q=[41]then y0 (d,q+1)else u0;by_cases z:tk T q=[41]
     .rw[Da z];show call _ _ _ _ _=_;rw[j (.j (.v d)<|rh g N T<|q+1)<|by rw[c,ja i];refine Za ?_;rw[Zi n,P,za (Z1:=cQ g w (y0<|.s<|tk T p)<|sv d) (h1:=rh g N T<|q+1)<|by rw[exec,Q,show(k7<|m+3).j S6 _ _=_ from ud m g N T q [41] z];rfl];exact Za rfl];exact fin
     .rw[Fk z];refine⟨q+1,?_⟩;rw[j (.w bK<|rh g N T<|q+1)<|by rw[c,ja i,execs,Zi n,P,A3<|by rw[Q];exact J9 m g N T q [41] z];rfl];rfl
  .unfold fL;refine A u.1 u.2 v _ ?_;cases deep with
|none=>rfl
|some a=>dsimp only;rw[Fk u.1,Fk u.2,Fk v]
end
theorem dh.nb {N:List Tx}(h:dh N):∀t∈N,t≠[]/\nb t=1:=λt a=>⟨(h t a).1,(h t a).2.1⟩
def r6(b:T.e<=90000)(c:∀p,OK T p<|a p)(h:∀p,RP g N T S3 w p (m+4)<|a p):∀p,RP g N T SR w p (m+7)<|eC T a p:=by obtain⟨f,i,_⟩:=zI c;have d:∀p,RP g N T "Reader.factor" w p _<|nE T a p:=nH rfl (fun _=>rfl) c h YA b;have e:∀p,RP g N T S9 w p _ _:=nH rfl (fun _=>rfl) f d YA b;exact LO i e b
theorem j7(a:dh N)(b:T.e<=90000):∀n,n<=20->∀m,(∀p,RP g N T S3 (20-n) p (4*n+m+4)<|pA N T n p)/\∀p,RP g N T SR (20-n) p (4*n+m+7)<|eC T (pA N T n) p
|0,_,m=>by have h:∀p,RP g N T S3 20 p (m+4)<|pA N T 0 p:=AK a rfl;rw[show 4*0+m=m by lia];exact⟨h,r6 b (QP a.nb 0) h⟩
|n+1,c,m=>by
  obtain⟨i1,i2⟩:=j7 a b n (Ag2 ‹_›) m;have e:20-(n+1)+1=20-n:=by lia
  have h:∀p,RP g N T S3 (20-(n+1)) p (4*n+m+4+4)<|pA N T (n+1) p:=AK a ⟨by lia,fun p=>by rw[e];obtain⟨i1,_⟩:=j7 a b n (Ag2 ‹_›)<|m+3;exact i1 p,λp=>by rw[e];exact i2 p⟩;rw[show 4*(n+1)+m=4*n+m+4 by lia];exact⟨h,r6 b (QP a.nb<|n+1) h⟩
def gv:Tx->Option Tx:=λt=>if t=xE then y0 xE else if t=[61]then y0 wg else u0
def gI(t:Tx):Bool:=(k8 (1<=t.e)&&k8 (t.e<=2))&&t.N cn.p&&(t==[48]||!k8 (t.head?=y0 48))
def iK(t:Tx):Option Nat:=if gI t=k9 then lG t else u0
noncomputable def zS(T:List Tx)(x:PR)(a:Tx):PR:=λp=>
 if tk T p∈[Xd,Jg]then(iK<|tk T<|p+1).p λk=>(x<|p+2).u λy=>(.p [.m (a++tk T p),.n k,y.1],y.2)else u0
abbrev we:Tx:=[101,97,99,104]
def f7(T:List Tx)(x:PR):PR:=λp=>
 if tk T p∈[Wq,fR]then(x<|p+1).u λy=>(.p [.m (tk T p),y.1],y.2)
 else if tk T p∈[Xd,Jg]then zS T x [] p
 else if tk T p=we then zS T x we (p+1)
 else(x p).p λy=>(gv<|tk T y.2).p λs=>(x<|y.2+1).u λz=>(.p [.m s,y.1,z.1],z.2)
def o3{T:List Tx}{a p q0:Nat}{x:PR}(i:∀p,OK T p<|x p)(r:a<=p)(o:1+d7 T p<=d7 T a)(f:D->List D)(m:∀d n,Gd n d->∀y∈f d,Gd n y)(h:∀d,(f d).e<=100):OK T a<|(x p).u λy=>(.p<|f y.1,y.2):=λd q e=>by obtain⟨⟨b,s⟩,l,c⟩:=Ae6.j e;dsimp only at c;cases c;obtain⟨u,j,k,g,t⟩:=i p b _ l;exact⟨(KM ‹_› ‹_›),j,k+1,.tup (h b)<|m b k g,by lia⟩
def m9{T:List Tx}{p:Nat}(h:tk T p≠[]/\nb (tk T p)=1):1+d7 T (p+1)<=d7 T p:=by have:=xU<|qv (T:=T) (p:=p) rfl h.1;lia
def uZ{T:List Tx}{x:PR}(b:∀p,OK T p<|x p)(c:Tx)(p:Nat):OK T p<|zS T x c p:=by
 unfold zS;split
 .rename_i z;cases e:iK (tk T _)with
|none=>exact OK.none T p
|some k=>
   have w:tk T p≠[]/\nb (tk T p)=1:=by
    simp[Oj]at z;rcases z with z|z<;>rw[z]<;>decide
   have:=m9 w;have:d7 T (p+2)<=d7 T _:=XL T _;refine o3 (q0:=0) b (OE _ _) YB (λd=>[.m _,.n k,d]) (λd n g y a=>?_) λd=>by simp
   simp[Oj]at a;obtain rfl|rfl|rfl:=a
   .exact .m _
   .exact .int _
   .exact g
 .exact OK.none T p
def AV(c:∀p,OK T p<|x p)(p):OK T p<|f7 T x p:=by
 unfold f7;split
 .rename_i z;have w:tk T p≠[]/\nb (tk T p)=1:=by
   simp[Oj]at z;rcases z with z|z<;>rw[z]<;>decide
  refine o3 (q0:=0) c (Ac9 _) (m9 w) (λd=>[.m _,d]) (λd n g y h=>?_) λd=>by simp
  simp[Oj]at h;obtain rfl|rfl:=h
  .exact .m _
  .exact g
 .split
  .exact uZ c [] p
  .split
   .intro d q e;obtain⟨u,l,k,i,t⟩:=uZ c we _ d q e;have:=XL T p;exact⟨(Ag2 ‹_›),l,k,i,(Ac0 ‹_› ‹_›)⟩
   .intro d q e;obtain⟨⟨a,m⟩,r,e⟩:=Ad2.j e;obtain⟨s,f,e⟩:=Ad2.j e;obtain⟨⟨b,v⟩,o,e⟩:=Ae6.j e;dsimp only at e f o;cases e;obtain⟨A,a2,k,a3,a4⟩:=c p a m r;obtain⟨u,l,j,i,t⟩:=c _ b q o;have w:tk T m≠[]/\nb (tk T m)=1:=by
     unfold gv at f;split at f
     .rename_i z;rw[z];decide
     .split at f
      .rename_i z;rw[z];decide
      .cases f
    have:=m9 w;refine⟨by lia,l,max k j+1,.tup YC λy h=>?_,by lia⟩;simp[Oj]at h;obtain rfl|rfl|rfl:=h
    .exact .m _
    .exact a3.mono<|Ak5 ..
    .exact i.mono<|Aj8 ..
def iH(T:List Tx)(b:PR)(a:Option PR):PR:=λp=>
 if tk T p=jh then match a with
|none=>u0
|some u=>(u<|p+1).u λy=>(.p [.m jh,y.1],y.2)
 else if tk T p=[91]then match a with
|none=>u0
|some u=>(eA T (dw gG gG) (eA T (dw wE wE) u)<|p+1).p λy=>if tk T y.2=[93]then y0 (y.1,y.2+1)else u0
 else b p
def pU(N T:List Tx):Nat->PR
|0=>iH T (f7 T<|eC T<|pA N T 0) u0
|n+1=>iH T (f7 T<|eC T<|pA N T<|n+1)<|y0<|pU N T n
def nV(T:List Tx)(u:PR):PR:=eA T (dw wE wE) u
def dR(T:List Tx)(u:PR):PR:=eA T (dw gG gG)<|nV T u
def jV(b:∀p,OK T p<|u p):(∀p,OK T p<|nV T u p)/\∀p,OK T p<|dR T u p:=by have a:∀p,OK T p<|nV T u p:=λp=>JT b (ZM _ _ YA) p;exact⟨a,λp=>JT a (ZM _ _ YA) p⟩
def um(m:∀p,OK T p<|fc p)(h:∀a,deep=y0 a->∀p,OK T p<|a p)(p):OK T p<|iH T fc deep p:=by
 unfold iH;split
 .rename_i z;cases deep with
|none=>exact OK.none T p
|some u=>
   refine o3 (q0:=0) (h u rfl) (Ac9 _) (m9<|by rw[z];decide) (λd=>[.m jh,d]) (λd n g y i=>?_) λd=>by simp
   simp[Oj]at i;obtain rfl|rfl:=i
   .exact .m _
   .exact g
 .split
  .cases deep with
|none=>exact OK.none T p
|some u=>
    intro d q e;obtain⟨⟨b,f⟩,l,c⟩:=Ad2.j e;obtain⟨s,o,k,j,r⟩:=(jV<|h u rfl).2 _ b f l;dsimp only at c;split at c
    .rename_i z;cases c;have:=XL T p;have:=XL T f;exact⟨by lia,qv z YA,k,j,by lia⟩
    .cases c
  .exact m p
theorem X2(b:∀t∈N,t≠[]/\nb t=1):∀n p,OK T p<|pU N T n p
|0,p=>um (AV (zI<|QP b 0).2.2) (λa e=>by cases e) p
|n+1,p=>um (AV (zI<|QP b<|n+1).2.2) (λa e q=>by cases e;exact X2 b n q) p
def zq(t)(ts)(h):Gm .y (.s t) (.v<|aU ts) h=y0 (!k8 (t∈ts)):=by show(Kh _ _ _).u _=_;rw[show Kh (.s t) (.v<|aU ts) h=y0 (decide _)from Qt t ts h];rfl
def yz(e:Gr Z i=y0 (.s t))(a b):Gg F (.y .y (.a0 i)<|.p<|.b (.m a)<|.m b) Z h=.j (!k8 (t∈[a,b])) h:=by rw[Gg,eval,je e,R.ae,xr,R.ae,zq];rfl
def Ds(m)(t)(x)(h)(k:t.e<=90000):eval (k7 m) (.U .N<|.a Qg) [y0 (.s t),x] h=.j (.b<|t.N cn.p) h:=by
 have e:eval (k7 m) Qg [y0 (.s t),x] h=.j (.j<|(c8 t).u λd=>match d with|.m [c]=>.C<|cn.p c|_=>.L) h:=by refine Jl (λd=>match d with|.m [c]=>.C _|_=>.L) rfl (by rw[Gf];simp[c8];exact YD) ?_;intro d a;obtain⟨c,j,rfl⟩:=Ad3.j a;refine⟨[y0 _],rfl,.b _,?_,rfl⟩;rw[eval,je rfl,R.ae,eval,show(k7 m).con.j "FIGURES"=_ from zR];simp only[R.ae,Xt,R.af]
 have g:(c8 t).u (λd=>match d with|.m [c]=>D.bl<|cn.p c|_=>.L)=(t.u cn.p).u .C:=by simp[c8,Af4]
 rw[g]at e;rw[eval,Gn,e];show((R.of h _).p _)=_;have i:∀bs:List Bool,Kc (bs.u .C)=y0 bs:=λbs=>by
  induction bs with
|nil=>rfl
|cons b bs f=>rw[Ac3,Kc,f];rfl
 rw[show W.bh h _=y0 ((t.u cn.p).u D.bl)from rfl,Ac8,i];simp only[R.af,R.ae,aC];rw[Aj6];rfl
def BV(m)(t)(h)(f:t.e<=90000):call prog (m+1) "is_written" [.s t,.v (.o 2)] h=.j (.b<|gI t) h:=by
 rw[Gb rfl _ _ _ rfl];simp only[xB];show Gv _ (execs _ _ [y0 (.s t),sv (.o 2)] h)=_;have z1:Gm .le (.v<|.o 1) (.i t.e) h=y0 (k8<|1<=t.e):=by show y0 _=_;congr 1;exact decide_eq_decide.p YB
 have g:Gm .le (.i t.e) (.v<|.o 2) h=y0 (k8<|t.e<=2):=by show y0 _=_;congr 1;exact decide_eq_decide.p YB
 have c:cz .p [.s t] h=.j (.i t.e) h:=by show(if _ then _ else _)=_;rw[Da<|by rw[Gf];exact YD]
 have b:=Ds m t (sv<|.o 2) h f;have i:eval (k7 m) (.chain .le .le (.o 1) (.U .p<|.a .A) .B) [y0 (.s t),sv (.o 2)] h=.j (.b<|k8 (1<=t.e)&&k8 (t.e<=2)) h:=by cases q:k8<|1<=t.e<;>(rw[q]at z1;simp![c,z1,g];try rfl)
 have a:Gg (k7 m) (.or (.not<|.chain .le .le (.o 1) (.U .p<|.a .A) .B)<|.not<|.U .N<|.a Qg) [y0 (.s t),sv (.o 2)] h=.j (!((k8 (1<=t.e)&&k8 (t.e<=2))&&t.N cn.p)) h:=by
  have j:eval (k7 m) (.not<|.U .N<|.a Qg) [y0 (.s t),sv (.o 2)] h=.j (.b<|!t.N cn.p) h:=by rw[eval,b];rfl
  have k:eval (k7 m) (.not<|.chain .le .le (.o 1) (.U .p<|.a .A) .B) [y0 (.s t),sv (.o 2)] h=.j (.b<|!(k8 (1<=t.e)&&k8 (t.e<=2))) h:=by rw[eval,i];rfl
  rw[Gg,eval,k];simp only[R.ae,Gu,R.af];cases(k8 (1<=t.e)&&k8 (t.e<=2))with
|true=>simp only[Ak1,j,R.ae,Gu,R.af,Ak0]
|false=>simp only[Ak9,R.ae,Gu,R.af,Rp]
 unfold gI;cases q:((k8 (1<=t.e)&&k8 (t.e<=2))&&t.N cn.p)with
|false=>rw[q]at a;rw[wc a _,Ga _ _ _ rfl];rfl
|true=>
  rw[q]at a;rw[ja a];have d:eval (k7 m) (.cJ .starts .A<|.a<|.m [48]) [y0 (.s t),sv (.o 2)] h=.j (.b<|k8<|t.head?=y0 48) h:=by simp![L7,Oi,mh,GW];rfl
  have e:eval (k7 m) (.y .j .A<|.m [48]) [y0 (.s t),sv (.o 2)] h=.j (.b<|t==[48]) h:=by simp![Xa]
  rw[Za,Ga _ _ _ rfl];refine jc rfl ?_;rw[eval,e];simp only[R.ae,Gu,R.af,Ak0];cases t==[48]with
|true=>rfl
|false=>show eval _ _ _ _=_;rw[eval,d];rfl
def D8:(cn.N λc=>(lG [c]).w&&(c==48||cn.N λd=>(lG [c,d]).w))=true:=by decide+kernel
def t9(h:gI t=k9):∃k,lG t=y0 k:=by
 simp only[gI,Aa9,Ra]at h;obtain⟨⟨⟨f,i⟩,g⟩,a⟩:=h;have e:=Ad6.j D8;have b:=Ad6.j g
 match t,f,i,b,a with
|[c],_,_,b,_=>have:=e c<|Ad8.j<|b c YC;rw[Aa9]at this;exact Af.j this.1
|[c,d],_,_,b,a=>
  have:=e c<|Ad8.j<|b c YC;rw[Aa9,Ra]at this;obtain z|z:=this.2
  .have z:=beq_iff_eq.j z;subst z;obtain a|a:=a
   .exact absurd a YC
   .exact absurd a YC
  .exact Af.j<|Ad6.j z d<|Ad8.j<|b d YC
section
variable{g:AH}{N T:List Tx}{m w:Nat}
def Hs(j:∀t∈T,t.e<=90000)(p):call prog (m+3) Ti [.r g.e] (rh g N T p)=match iK (tk T p)with
|some k=>.j (.i k)<|rh g N T<|p+1
|none=>.w bK<|rh g N T<|p+1:=by
 have l:(tk T p).e<=90000:=by
  by_cases q:p<T.e
  .exact j _<|by rw[tk,Ac5,Aa7 q];exact Ah0 q
  .rw[ll q];decide
 have b:=BV (m+1) (tk T p) (rh g N T<|p+1) l;have h:=Hq;have d:∀f,execs (k7<|m+2) bJ.j [y0 (.r g.e),u0] (rh g N T p)=f->call prog (m+3) Ti [.r g.e] (rh g N T p)=Gv (rh g N T p).e f:=fun f e=>by rw[Gb rfl _ _ _ rfl,←e];rfl
 simp only[bJ]at d;have a:∀c,execs (k7<|m+2) (.j (.p 1<|.aI .A SQ Tg SZ .p) c) [some (.r g.e),none] (rh g N T p)=execs (k7<|m+2) c [some (.r g.e),some (.s<|tk T p)] (rh g N T<|p+1):=fun c=>Zn<|xt rfl;unfold iK;cases q:gI (tk T p)with
|false=>rw[q]at b;rw[Fk Ab0,d (.w bK<|rh g N T<|p+1)<|by rw[a,execs,Zi (h1:=rh g N T<|p+1)<|by simp![h,b]];rfl];rfl
|true=>rw[q]at b;obtain⟨k,i⟩:=t9 q;rw[Da rfl,i,d (.j (.i k)<|rh g N T<|p+1)<|by rw[a,ja<|by simp![h,b]];exact Za<|jc rfl<|by simp![Q8,i]];exact Ga _ _ _<|Qo ..
def uP(E:∀t∈T,t.e<=90000)(G:∀p,RP g N T SR w p (m+3)<|x p)(ah)(I:ah.e<=10)(p):match zS T x ah p with
|some (d,q)=>call prog (m+4) S8 [.r g.e,.s ah,.i w] (rh g N T p)=.j (.v d) (rh g N T q)
|none=>∃q,call prog (m+4) S8 [.r g.e,.s ah,.i w] (rh g N T p)=.w bK (rh g N T q):=by
 have r:∀u,execs (k7<|m+3) aZ.j [y0 (.r g.e),y0 (.s ah),si w,u0,u0] (rh g N T p)=u->call prog (m+4) S8 [.r g.e,.s ah,.i w] (rh g N T p)=Gv (rh g N T p).e u:=fun u e=>by rw[Gb rfl _ _ _ rfl,←e];rfl
 simp only[aZ]at r;have f:∀l,execs (k7<|m+3) (.j (.p 3<|.aI .A SQ Tg SZ .p) l) [some (.r g.e),some (.s ah),si w,none,none] (rh g N T p)=execs (k7<|m+3) l [some (.r g.e),some (.s ah),si w,some (.s<|tk T p),none] (rh g N T<|p+1):=fun l=>Zn<|xt rfl;have o:Gg (k7<|m+3) (.y .y .N<|.p<|.b (.m eG)<|.m eE) [y0 (.r g.e),y0 (.s ah),si w,y0 (.s<|tk T p),u0] (rh g N T<|p+1)=.j (!k8 (tk T p∈[Xd,Jg])) (rh g N T<|p+1):=yz rfl _ _;have s:=Hs (g:=g) (N:=N) (m:=m) E<|p+1;have D:=iB (F:=(k7<|m+3)) (g:=g) (N:=N) (T:=T) (p:=p+1) (Z:=[y0 (.r g.e),y0 (.s ah),si w,y0 (.s<|tk T p),u0]) (m:="limit") (q:=Ti) (es:=.p) (ws:=[]) rfl rfl rfl;unfold zS;by_cases z:tk T p∈[Xd,Jg]
 .rw[Da z];rw[FM z]at o;cases e:iK<|tk T<|p+1with
|none=>rw[e]at s;refine⟨p+2,?_⟩;rw[r (.w bK<|rh g N T<|p+2)<|by rw[f,ja o,Qr<|by rw[D];exact s]];rfl
|some k=>
   rw[e]at s;have A:∀l,execs (k7<|m+3) (.j (.p 4<|.aI .A SQ "limit" Ti .p) l) [some (.r g.e),some (.s ah),si w,some (.s<|tk T p),none] (rh g N T<|p+1)=execs (k7<|m+3) l [some (.r g.e),some (.s ah),si w,some (.s<|tk T p),si k] (rh g N T<|p+2):=fun l=>Zn (by rw[D];exact s);have H:GB .j (.s ah) (.s<|tk T p) (rh g N T<|p+2)=.j (.s<|ah++tk T p) (rh g N T<|p+2):=by
    refine Bb _ _ _ ?_;simp only[Aa6,Ab9,Oj]at z;rcases z with z|z<;>rw[z]<;>simp<;>exact YD
   have C:=om (F:=(k7<|m+3)) (a:=.w .j .B .N) (b:=.a0 4) (c:=.aI .A SQ S7 SR<|.a .J) (Z:=[some (.r g.e),some (.s ah),si w,some (.s<|tk T p),si k]) (h:=rh g N T<|p+2) (h1:=rh g N T<|p+2) (d1:=.m<|ah++tk T p) (d2:=.n k) (by simp![H]) rfl;have v:=jw (j:=0) (m:=m+3) (g:=g) (N:=N) (T:=T) (p:=p+2) (Z:=[y0 (.r g.e),y0 (.s ah),si w,y0 (.s<|tk T p),si k]) (q:=SR) (k:=S7) (i:=2) rfl rfl rfl;have n:=G<|p+2;rw[Ac8];cases B:x<|p+2with
|none=>rw[B]at n;obtain⟨q,n⟩:=n;refine⟨q,?_⟩;rw[r (.w bK<|rh g N T q)<|by rw[f,ja o,A,Wu rfl<|C.2 _ _<|by rw[v];exact n]];rfl
|some y=>obtain⟨d,q⟩:=y;rw[B]at n;show call _ _ _ _ _=_;rw[r (.j (.t [.m (ah++tk T p),.n k,d])<|rh g N T q)<|by rw[f,ja o,A];exact Za<|jc rfl<|C.1 _ _<|by rw[v];exact n];exact Ga _ _ _<|Qo ..
 .rw[Fk z];rw[Do z]at o;refine⟨p+1,?_⟩;rw[r (.w bK<|rh g N T<|p+1)<|by rw[f,execs,Zi o];rfl];rfl
end
section
variable{g:AH}{N T:List Tx}{m w:Nat}
def jP(h:gv t=y0 s):(t,s)∈[(([43]:Tx),Xq),([45],zn),([126],Xb),([94],Jb),(c7,xE),([61],wg)]/\t∈[xE,[61]]:=by
 unfold gv at h;split at h
 .rename_i z;cases h;subst z;decide
 .split at h
  .rename_i z;cases h;subst z;decide
  .cases h
def ur(h:gv t=u0):t∉[xE,[61]]:=λz=>by
 unfold gv at h;simp[Oj]at z;obtain z|z:=z
 .rw[Da z]at h;cases h
 .rw[Fk<|by rw[z];decide,Da z]at h;cases h
def NO{x:PR}(v:∀p,RP g N T SR w p (m+3)<|x p)(p):RP g N T To w p (m+4)<|(x p).p fun y=>(gv<|tk T y.2).p fun s=>(x<|y.2+1).u fun z=>(.p [.m s,y.1,z.1],z.2):=by
 have i:∀t,execs (k7 _) bf.j (cQ g w u0 u0) _=t->call prog (m+4) To [.r g.e,.i w] _=Gv (rh g N T p).e t:=fun t e=>by rw[Gb rfl _ _ _ rfl,←e];rfl
 simp only[bf]at i;have l:∀p x y,eval (k7 _) (.aI .A SQ S7 SR<|.a .B) (cQ g w x y) _=call prog (m+3) SR [.r g.e,.i w] (rh g N T p):=fun p x y=>jw (j:=0) rfl rfl rfl;have h:=v p;cases e:x p with
|none=>rw[e]at h;obtain⟨q,h⟩:=h;exact⟨q,i _<|Qr<|by rw[l];exact h⟩
|some y=>
  obtain⟨d,q⟩:=y;rw[e]at h;rw[Ac8];dsimp only;have o:∀r,execs (k7 _) (.j (.p 2<|.aI .A SQ S7 SR<|.a .B)<|.j (.p 3<|.aI .A SQ Tg SZ .p) r) (cQ g w none none) _=execs (k7 _) r (cQ g w (sv d)<|some<|.s<|tk T q) _:=fun r=>by rw[Zn<|by rw[l];exact h];exact Zn<|xt rfl
  have k:Gg (k7<|m+3) (.y .y .N<|.p<|.b (.m c7)<|.m [61]) (cQ g w (sv d)<|y0<|.s<|tk T q) _=.j _ (rh g N T<|q+1):=yz rfl _ _;cases u:gv (tk T q)with
|none=>rw[Do<|ur u]at k;refine⟨q+1,?_⟩;rw[i (.w bK<|rh g N T<|q+1)<|by rw[o,execs,Zi k];rfl];rfl
|some s=>
   rw[FM (jP u).2]at k;rw[Ac8];have A:=om (F:=(k7<|m+3)) (a:=.fT TB .N) (b:=.a0 2) (c:=.aI .A SQ S7 SR<|.a .B) (Z:=cQ g w (sv d)<|some<|.s<|tk T q) (h2:=rh g N T<|q+1) (d1:=.m s) (d2:=d) (pO (ZG _) (je rfl) (jP u).1) rfl;have f:=v<|q+1;cases B:x<|q+1with
|none=>rw[B]at f;obtain⟨n,f⟩:=f;refine⟨n,?_⟩;rw[i (.w bK<|rh g N T n)<|by rw[o,ja k,Wu rfl<|A.2 _ _<|by rw[l];exact f]];rfl
|some z=>obtain⟨b,n⟩:=z;rw[B]at f;show call _ _ _ _ _=_;rw[i (.j (.t [.m s,d,b])<|rh g N T n)<|by rw[o,ja k];exact Za<|jc rfl<|A.1 _ _<|by rw[l];exact f];exact Ga _ _ _<|Qo ..
def CO(M:∀t∈T,t.e<=90000)(I:∀p,RP g N T SR w p (m+3)<|x p)(L:∀p,RP g N T SR w p (m+4)<|x p)(p):RP g N T Te w p (m+5)<|f7 T x p:=by
 have n:∀J,execs (k7 _) bT.j (rs g w u0) _=J->call prog (m+5) Te [.r g.e,.i w] _=Gv (rh g N T p).e J:=fun J e=>by rw[Gb rfl _ _ _ rfl,←e];rfl
 simp only[bT]at n;have o:∀v,execs (k7 _) (.j (.p 2<|.aI .A SQ "here" Tc .p) v) (rs g w none) _=execs (k7<|m+4) v (rs g w<|some<|.s<|tk T p) (rh g N T p):=fun v=>Zn<|J2 rfl;have f:Gg (k7<|m+4) (.y .p .J<|.p<|.b (.m ft)<|.m fy) (rs g w<|y0<|.s<|tk T p) _=.j _ (rh g N T p):=m6 rfl _ _;have u:Gg (k7<|m+4) (.y .p .J<|.p<|.b (.m eG)<|.m eE) (rs g w<|y0<|.s<|tk T p) _=.j _ (rh g N T p):=m6 rfl _ _;have A:Gg (k7<|m+4) (.y .j .J<|.m fX) (rs g w<|y0<|.s<|tk T p) (rh g N T p)=.j (tk T p==we) (rh g N T p):=lV rfl _;have l:∀v,execs (k7<|m+4) (.j (.ex<|.aI .A SQ Tg SZ .p) v) (rs g w<|some<|.s<|tk T p) (rh g N T p)=execs (k7<|m+4) v (rs g w<|some<|.s<|tk T p) (rh g N T<|p+1):=fun v=>za<|W2 rfl;have cnt:∀G K,eval (k7<|m+4) (.aI .A SQ "count_fact" S8<|.b (.m G) .B) (rs g w<|some<|.s<|tk T p) (rh g N T K)=call prog (m+4) S8 [.r g.e,.s G,.i w] (rh g N T K):=fun G K=>iB (ws:=[.s G,.i w]) rfl rfl rfl;have fin:∀{d}{q},Gv (rh g N T p).e (.j (.v d)<|rh g N T q)=.j (.v d) (rh g N T q):=λ{d q}=>Ga _ _ _<|Qo ..;unfold f7;by_cases C:tk T p∈[Wq,fR]
 .rw[Da C];rw[FM C]at f;have O:=rP (F:=(k7<|m+4)) (a:=.a0 2) (b:=.aI .A SQ S7 SR<|.a .B) (Z:=rs g w<|some<|.s<|tk T p) (h:=rh g N T<|p+1) (h1:=rh g N T<|p+1) (d1:=.m<|tk T p) rfl;have B:=jw (j:=0) (m:=m+4) (g:=g) (N:=N) (T:=T) (p:=p+1) (Z:=rs g w<|y0<|.s<|tk T p) (q:=SR) (k:=S7) (i:=1) rfl rfl rfl;have c:=L<|p+1;cases e:x<|p+1with
|none=>rw[e]at c;obtain⟨q,c⟩:=c;refine⟨q,?_⟩;rw[n (.w bK<|rh g N T q)<|by rw[o,execs,Zi f,l,Wu rfl<|O.2 _ _<|by rw[B];exact c];rfl];rfl
|some y=>obtain⟨d,q⟩:=y;rw[e]at c;show call _ _ _ _ _=_;rw[n (.j (.t [.m (tk T p),d])<|rh g N T q)<|by rw[o];exact Za<|by rw[Zi f,l];exact Za<|jc rfl<|O.1 _ _<|by rw[B];exact c];exact fin
 .rw[Fk C];rw[Do C]at f;by_cases E:tk T p∈[Xd,Jg]
  .rw[Da E];rw[FM E]at u;have c:=uP (g:=g) (N:=N) (m:=m) M I [] YA p;cases e:zS T x [] p with
|none=>rw[e]at c;obtain⟨q,c⟩:=c;refine⟨q,?_⟩;rw[n (.w bK<|rh g N T q)<|by rw[o,ja f,execs,Zi u,Wu rfl<|by rw[cnt];exact c];rfl];rfl
|some y=>obtain⟨d,q⟩:=y;rw[e]at c;show call _ _ _ _ _=_;rw[n (.j (.v d)<|rh g N T q)<|by rw[o,ja f];exact Za<|by rw[Zi u];exact Za<|jc rfl<|by rw[cnt];exact c];exact fin
  .rw[Fk E];rw[Do E]at u;by_cases H:tk T p=we
   .rw[Da H];rw[show(tk T p==we)=k9 from beq_iff_eq.p H]at A;have c:=uP (g:=g) (N:=N) (m:=m) M I we YA<|p+1;cases e:zS T x we<|p+1with
|none=>rw[e]at c;obtain⟨q,c⟩:=c;refine⟨q,?_⟩;rw[n (.w bK<|rh g N T q)<|by rw[o,ja f,ja u,execs,Zi A,l,Wu rfl<|by rw[cnt];exact c];rfl];rfl
|some y=>obtain⟨d,q⟩:=y;rw[e]at c;show call _ _ _ _ _=_;rw[n (.j (.v d)<|rh g N T q)<|by rw[o,ja f,ja u];exact Za<|by rw[Zi A,l];exact Za<|jc rfl<|by rw[cnt];exact c];exact fin
   .rw[Fk H];rw[beq_eq_false_iff_ne.p H]at A;have c:=NO (g:=g) (N:=N) (m:=m) I p;have B:=jw (j:=0) (m:=m+4) (g:=g) (N:=N) (T:=T) (p:=p) (Z:=rs g w<|y0<|.s<|tk T p) (q:=To) (k:="pair_fact") (i:=1) rfl rfl rfl;generalize ((x p).p λy=>(gv<|tk T y.2).p λs=>(x<|y.2+1).u λz=>(D.tup [.m s,y.1,z.1],z.2))=r at c⊢;cases r with
|none=>obtain⟨q,c⟩:=c;refine⟨q,?_⟩;rw[n (.w bK<|rh g N T q)<|by rw[o,ja f,ja u,ja A,Wu rfl<|by rw[B];exact c]];rfl
|some y=>obtain⟨d,q⟩:=y;show call _ _ _ _ _=_;rw[n (.j (.v d)<|rh g N T q)<|by rw[o,ja f,ja u,ja A];exact Za<|jc rfl<|by rw[B];exact c];exact fin
def tZ(J:∀p,RP g N T Te w p (m+4)<|fc p)(r:match deep with
|none=>w=20
|some u=>w<20/\(∀p,RP g N T S5 (w+1) p (m+4)<|u p)/\∀p,RP g N T SX (w+1) p (m+4)<|dR T u p)(p):RP g N T S5 w p (m+5)<|iH T fc deep p:=by
 have n:∀B,execs (k7 _) bR.j (rs g w u0) _=B->call prog (m+5) S5 [.r g.e,.i w] _=Gv (rh g N T p).e B:=fun B e=>by rw[Gb rfl _ _ _ rfl,←e];rfl
 simp only[bR]at n;have l:Gg (k7<|m+4) _ (rs g w u0) _=.j (tk T p==jh) (rh g N T p):=ni _ rfl;have o:Gg (k7<|m+4) _ (rs g w u0) _=.j (tk T p==[91]) (rh g N T p):=ni _ rfl;have f:∀s,execs (k7 _) _ _ (rh g N T p)=execs (k7<|m+4) s (rs g w u0) (rh g N T<|p+1):=λs=>za<|W2 rfl;have fin:∀{d}{q},Gv (rh g N T p).e (.j (.v d)<|rh g N T q)=.j (.v d) (rh g N T q):=λ{d q}=>Ga _ _ _<|Qo ..;unfold iH;by_cases v:tk T p=jh
 .rw[Da v];rw[show(tk T p==jh)=k9 from beq_iff_eq.p v]at l;have C:=rP (F:=(k7<|m+4)) (a:=.m fj) (b:=.aI .A SQ "unit" S5<|.a<|.j S4<|.a .B) (Z:=rs g w none) (h:=rh g N T<|p+1) (h1:=rh g N T<|p+1) (d1:=.m jh) rfl;cases deep with
|none=>have r:w=20:=r;subst r;refine⟨p+1,?_⟩;rw[n (.w bK<|rh g N T<|p+1)<|by rw[execs,Zi l,f,Wu rfl<|C.2 _ _<|xw (m:=m+3) rfl rfl rfl];rfl];rfl
|some u=>
   obtain⟨A,H,_⟩:=r;have t:=qP (m:=m+3) (g:=g) (N:=N) (T:=T) (p:=p+1) (Z:=rs g w u0) (q:=S5) (k:="unit") A rfl rfl rfl;have c:=H<|p+1;dsimp only;cases e:u<|p+1with
|none=>rw[e]at c;obtain⟨q,c⟩:=c;refine⟨q,?_⟩;rw[n (.w bK<|rh g N T q)<|by rw[execs,Zi l,f,Wu rfl<|C.2 _ _<|by rw[t];exact c];rfl];rfl
|some y=>obtain⟨d,q⟩:=y;rw[e]at c;show call _ _ _ _ _=_;rw[n (.j (.t [.m jh,d])<|rh g N T q)<|Za<|by rw[Zi l,f];exact Za<|jc rfl<|C.1 _ _<|by rw[t];exact c];exact fin
 .rw[Fk v];rw[beq_eq_false_iff_ne.p v]at l;by_cases x:tk T p=[91]
  .rw[Da x];rw[show(tk T p==[91])=k9 from beq_iff_eq.p x]at o;cases deep with
|none=>have r:w=20:=r;subst r;refine⟨p+1,?_⟩;rw[n (.w bK<|rh g N T<|p+1)<|by rw[ja l,execs,Zi o,f,Qr<|xw (m:=m+3) rfl rfl rfl];rfl];rfl
|some u=>
    obtain⟨A,_,I⟩:=r;have t:=qP (m:=m+3) (g:=g) (N:=N) (T:=T) (p:=p+1) (Z:=rs g w u0) (q:=SX) (k:="saying") A rfl rfl rfl;have c:=I<|p+1;show RP g N T _ w p (m+5)<|(dR T u<|p+1).p λy=>if tk T y.2=[93]then y0 (y.1,y.2+1)else u0;cases e:dR T u<|p+1with
|none=>rw[e]at c;obtain⟨q,c⟩:=c;refine⟨q,?_⟩;rw[n (.w bK<|rh g N T q)<|by rw[ja l,execs,Zi o,f,Qr<|by rw[t];exact c];rfl];rfl
|some y=>
     obtain⟨d,q⟩:=y;rw[e]at c;have E:∀s,execs (k7<|m+4) (.j (.p 2<|.aI .A SQ "saying" SX<|.a<|.j S4<|.a .B) s) (rs g w none) (rh g N T<|p+1)=execs (k7<|m+4) s (rs g w<|sv d) (rh g N T q):=fun s=>Zn (by rw[t];exact c);have G:=iB (F:=(k7<|m+4)) (g:=g) (N:=N) (T:=T) (p:=q) (Z:=rs g w<|sv d) (m:="take_just") (q:=S6) (es:=.j (.m [93]) .p) (ws:=[.s [93]]) rfl rfl rfl;rw[Ac8];dsimp only;by_cases z:tk T q=[93]
     .rw[Da z];show call _ _ _ _ _=_;rw[n (.j (.v d)<|rh g N T<|q+1)<|by rw[ja l];refine Za ?_;rw[Zi o,f,E,za (Z1:=rs g w<|sv d) (h1:=rh g N T<|q+1)<|by rw[exec,G,show(k7<|m+4).j S6 _ _=_ from ud (m+1) g N T q [93] z];rfl];exact Za rfl];exact fin
     .rw[Fk z];refine⟨q+1,?_⟩;rw[n (.w bK<|rh g N T<|q+1)<|by rw[ja l,execs,Zi o,f,E,A3<|by rw[G];exact J9 (m+1) g N T q [93] z];rfl];rfl
  .rw[Fk x];rw[beq_eq_false_iff_ne.p x]at o;have c:=J p;have D:=jw (j:=0) (m:=m+4) (g:=g) (N:=N) (T:=T) (p:=p) (Z:=rs g w u0) (q:=Te) (k:="fact") (i:=1) rfl rfl rfl;cases e:fc p with
|none=>rw[e]at c;obtain⟨q,c⟩:=c;refine⟨q,?_⟩;rw[n (.w bK<|rh g N T q)<|by rw[ja l,ja o,Wu rfl<|by rw[D];exact c]];rfl
|some y=>obtain⟨d,q⟩:=y;rw[e]at c;show call _ _ _ _ _=_;rw[n (.j (.v d)<|rh g N T q)<|by rw[ja l,ja o];exact Za<|jc rfl<|by rw[D];exact c];exact fin
end
def vR(a:T.e<=90000)(b:∀p,OK T p<|u p)(h:∀p,RP g N T S5 w p (m+2)<|u p):∀p,RP g N T SX w p (m+4)<|dR T u p:=by have c:∀p,RP g N T "Reader.part" w p _<|nV T u p:=nH rfl (fun _=>rfl) b h YA a;exact nH rfl (λ_=>rfl) (jV b).1 c YA a
def Fw(c:dh N)(a:T.e<=90000)(i:∀t∈T,t.e<=90000):∀n,n<=20->∀m,(∀p,RP g N T S5 (20-n) p (4*n+m+10)<|pU N T n p)/\∀p,RP g N T SX (20-n) p (4*n+m+12)<|dR T (pU N T n) p:=by
 have f:∀n,n<=20->∀m p,RP g N T Te (20-n) p (4*n+m+9)<|f7 T (eC T<|pA N T n) p:=fun n b m=>CO i (j7 c a n b m).2 (j7 c a n b<|m+1).2;intro n;induction n with
|zero=>intro _ m;have h:∀p,RP g N T S5 20 p (4*0+m+10)<|pU N T 0 p:=tZ (f 0 YA m) rfl;exact⟨h,vR a (X2 c.nb 0) h⟩
|succ n d=>
  intro b m;have e:20-(n+1)+1=20-n:=by lia
  have h:∀p,RP g N T S5 (20-(n+1)) p (4*(n+1)+m+10)<|pU N T (n+1) p:=tZ (f (n+1) b m) ⟨by lia,fun p=>by
   rw[e,show 4*(n+1)+m+5+4=4*n+(m+3)+10 by lia];exact(d (Ag2 ‹_›)<|m+3).1 p,λp=>by
   rw[e,show 4*(n+1)+m+5+4=4*n+(m+1)+12 by lia];exact(d (Ag2 ‹_›)<|m+1).2 p⟩
  exact⟨h,vR a (X2 c.nb<|n+1) h⟩
noncomputable abbrev cY(T:List Tx):D:=.u<|T.u .m++[.m []]
def lR:Option (D×Nat)->D
|none=>.L
|some (d,q)=>.p [d,.n q]
def zr(a:p<=T.e)(h):cc (.v<|cY T) (.i p) h=y0 (.m<|tk T p):=by
 rw[WU,Jo _ _<|by simp;exact Oo ‹_›];by_cases q:p<T.e
 .rw[Ad9<|by simp_all,Ax q]
 .rw[ll q,Ad5<|by simp;exact Ox ‹_›];have:p-(T.u D.str).e=0:=by simp;lia
  rw[this];rfl
abbrev mf:List<|Tx×Tx:=[([43],kX),([45],km),([38],lz),([46],kD)]
noncomputable abbrev gC(T N:List Tx)(p w k:Nat)(x5 x6 x7 x8:Option W):Sl:=[sv (cY T),si p,si w,si k,y0 (.p<|N.u .m),x5,x6,x7,x8]
def B5(t)(ts:List Tx)(h):Gm .p (.s t) (.l<|ts.u .m) h=y0 (k8<|t∈ts):=Qk t ts (.l _) h rfl rfl
def LC(T N:List Tx)(w k m:Nat)(x:PR):Prop:=∀p,p<=T.e->∀h,call prog m SV [.v (cY T),.i p,.i w,.i k,.p (N.u .m)] h=.j (.v<|lR<|x p) h
def p8{w k m:Nat}{sm:List Tx}(hk:k<3)(I:aY [D.lst [.m [43],.m [45]],.u [.m [38]],.u [.m [46]]] (k:Int)=y0 (.u<|sm.u .m))
 (f:∀t,(t∈sm->∃s,op t=y0 s/\mf.j t=y0 s)/\(t∉sm->op t=u0))(E:∀t s,op t=y0 s->t≠[])(K:∀p,OK T p<|sub p)(hT:T.e<=90000)(h1:LC T N w (k+1) m sub):LC T N w k (m+1)<|eA T op sub:=by
 intro p O h;have S:Gm .j (.i k) (.v<|.o 3) h=y0 false:=by have:=Jd k 3 h;rw[Do<|Ab7 ‹_›]at this;exact this
 have J:((k:Nat):Int)+1=((k+1:Nat):Int):=rfl;have u:∀B,execs (k7 m) aX.j (gC T N p w k u0 u0 u0 u0) h=B->call prog _ SV [.v _,.i p,.i w,.i k,.p _] h=Gv h.e B:=fun B e=>by rw[Gb (d:=aX) rfl _ _ _ rfl,←e];rfl
 simp only[aX]at u;have V:=h1 p O h;have g:∀A,execs (k7 m) (.j (.r (.y .j .N<|.o 3)<|.j SW<|.d .A .B .J .Y)<|.j (.p 5<|.j SV<|.f .A .B .J (.w .j .N<|.o 1) .Y)<|.j (.p 6<|.G (.u<|.c (.u<|.b (.m [43])<|.m [45]) (.u<|.a<|.m [38])<|.u<|.a<|.m [46]) .N) A) (gC T N p w k none none none none) h=execs (k7 m) A (gC T N p w k (sv<|lR<|sub p) (some<|.l<|sm.u .m) none none) h:=fun A=>by rw[ja<|by simp![S],za (Z1:=gC T N p w k (sv<|lR<|sub p) u0 u0 u0) (h1:=h)<|by simp![zc,J,V]];exact za<|by simp![Zm,I]
 unfold eA;cases e:sub p with
|none=>rw[e]at g;simp only[lR]at g;rw[u (.j (.v .L) h)<|by rw[g,za (Z1:=gC T N p w k (sv .L) (y0<|.l<|sm.u .m) u0 u0) (h1:=h)<|by rw[exec,Gx,show Gg (k7 m) Xc (gC T N p w k (sv .L) (y0<|.l<|sm.u .m) u0 u0) h=.j u9 h by rw[Xc];simp![]];rfl];exact Za rfl];exact Ga _ _ _ rfl
|some y=>
  obtain⟨d,x⟩:=y;rw[e]at g;simp only[lR]at g;obtain⟨_,R,_⟩:=K p d x e;have r:∀(d:D)(q:Nat),aY [d,.n q] 1=y0 _:=λd q=>rfl;have M:∀(d:D)(q:Nat),aY [d,.n q] 0=y0 d:=λd q=>rfl;have l:∀(d:D)(q:Nat)(y:Option W×Option W),q<=T.e->Gg (k7 m) Xc (gC T N p w k (y0<|.t [d,.n q]) (y0<|.l<|sm.u .m) y.1 y.2) h=.j (k8<|tk T q∈sm) h:=λd q y a=>by have i1:=zr a h;have i2:=B5 (tk T q) sm h;rw[Xc];simp![aA,r,i1,i2]
  have j:∀(d:D)(q:Nat)(y:Option W×Option W)(s:Tx),q<T.e->op (tk T q)=y0 s->execs (k7 m) zh (gC T N p w k (y0<|.t [d,.n q]) (y0<|.l<|sm.u .m) y.1 y.2) h=execs (k7 m) (.b (.r (.cm u9 .v8) .aj)<|.p 5<|.p<|.b (.p<|.c .v7 (.G .v5<|.o 0)<|.G .v8<|.o 0)<|.G .v8<|.o 1) (gC T N p w k (y0<|.t [d,.n q]) (y0<|.l<|sm.u .m) (y0<|.s s)<|sv<|lR<|sub<|q+1) h:=λd q y s a F=>by
   have i1:=zr (Ag2 a) h;have lk:mf.j (tk T q)=y0 s:=by
    by_cases z:tk T q∈sm
    .obtain⟨s',n,P⟩:=(f _).1 z;rw[F]at n;cases n;exact P
    .rw[(f _).2 z]at F;cases F
   have Q:=h1 (q+1) a h;have q1:((q:Nat):Int)+1=((q+1:Nat):Int):=rfl;rw[zh];rw[za (Z1:=gC T N p w k (y0<|.t [d,.n q]) (y0<|.l<|sm.u .m) (y0<|.s s) y.2) (h1:=h)<|by
    have U:GL mf (y0<|.s<|tk T q) h=.j (.s s) h:=by rw[CF,lk]
    simp![aA,r,i1,U]]
   exact za<|by simp![aA,r,zc,q1,J,Q]
  have i:=QE (Y:=Option W×Option W) (T:=T) (op:=op) K (H:=λ_=>h) (Z:=λd q y=>gC T N p w k (y0<|.t [d,.n q]) (y0<|.l<|sm.u .m) y.1 y.2) (X:=λo=>o=.j (.v .L) h)
   (c:=λZ h=>Gg (k7 m) Xc Z h) (bd:=λZ h=>execs (k7 m) zh Z h)
   (λo z=>.u ⟨_,_,z⟩)
   (λd q y a z=>by show Gg _ _ _ _=_;rw[l d q y a,Do λv=>by obtain⟨s,n,_⟩:=(f _).1 v;rw[z]at n;cases n])
   (λd q y s a z=>by show Gg _ _ _ _=_;rw[l d q y<|Ag2 a,FM<|Ad7 λv=>by rw[(f _).2 v]at z;cases z])
   (λd q y s b C a z G=>⟨(y0<|.s s,y0<|.t [b,.n C]),by show execs _ _ _ _=_;rw[j d q y s a z,G,ja<|by simp![lR]];simp![lR,aA,M,r]⟩)
   (λd q y s a z G=>by show execs _ _ _ _=_;rw[j d q y s a z,G];exact wc (by simp![lR]) rfl)
   E (T.e+1) 100000 d x (u0,u0) (KM ‹_› YA) (L2 _ _) R
  dsimp only;cases L:gL T op sub (T.e+1) d x with
|none=>rw[L]at i;rw[u (.j (.v .L) h)<|by rw[g];exact Za<|by rw[exec];exact i];exact Ga _ _ _ rfl
|some y=>obtain⟨d',C⟩:=y;rw[L]at i;obtain⟨⟨y1,y2⟩,i⟩:=i;rw[u (.j (.t [d',.n C]) h)<|by rw[g,za<|by rw[exec];exact i];exact Za rfl];exact Ga _ _ _ rfl
def LA(T N:List Tx)(w m:Nat)(nm:String)(x:PR):Prop:=∀p,p<=T.e->∀h,call prog m nm [.v (cY T),.i p,.i w,.p (N.u .m)] h=.j (.v<|lR<|x p) h
abbrev fG(T N:List Tx)(p w:Nat)(a x5:Option W):Sl:=[sv (cY T),si p,si w,y0 (.p<|N.u .m),a,x5]
def Nz(h1:LA T N w m SW x):LC T N w 3 (m+1) x:=fun p a h=>by rw[Gb rfl _ _ _ rfl];simp only[aX];have e:=h1 p a h;have b:Gm .j _ (.v<|.o 3) h=y0 true:=Jd 3 3 h;rw[wc (w:=.v<|lR<|x p) (by simp![b])<|jc rfl<|by assumption];exact Ga _ _ _ rfl
def sG(c:T.e<=90000)(d:∀p,OK T p<|a p)(h:LA T N w m SW a):LC T N w 0 (m+4)<|eC T a:=by
 obtain⟨e,g,_⟩:=zI d;have b:∀o s,mf.j o=y0 s->∀t,(t∈[o]->∃u,dw o s t=y0 u/\mf.j t=y0 u)/\(t∉[o]->dw o s t=u0):=λo s j t=>⟨λz=>by rw[Ab2.j z];exact⟨s,Da rfl,j⟩,λz=>Fk λy=>z<|by rw[y];simp⟩;have i:=p8 YA rfl (b _ _ rfl) (λt s z=>(ZM _ _ YA t s z).1) d c<|Nz h;have f:=p8 YA rfl (b _ _ rfl) (λt s z=>(ZM _ _ YA t s z).1) e c i;refine p8 (sm:=[[43],[45]]) YA rfl (λt=>⟨λz=>?_,λz=>?_⟩) (λt s z=>(QZ t s z).1) g c f
 .simp[Oj]at z;obtain rfl|rfl:=z
  .exact⟨Xq,rfl,rfl⟩
  .exact⟨zn,rfl,rfl⟩
 .unfold gu;rw[Fk λy=>z<|by rw[y];simp,Fk λy=>z<|by rw[y];simp]
def uD(Y:dh N){b:Option PR}(G:∀a,b=y0 a->∀p,OK T p<|a p)(E:match b with
|none=>w=20
|some a=>w<20/\LA T N (w+1) m SW a/\LC T N (w+1) 0 m (eC T a)):LA T N w (m+1) SW<|fL N T b:=fun p M h=>by
 have i:∀I,execs (k7 m) bw.j (fG T N p w u0 u0) h=I->call prog _ SW [.v _,.i p,.i w,.p _] h=Gv h.e I:=fun I e=>by rw[Gb (d:=bw) rfl _ _ _ rfl,←e];rfl
 simp only[bw]at i;have i1:=zr M h;have F:((p:Nat):Int)+1=((p+1:Nat):Int):=rfl;have K:((w:Nat):Int)+1=((w+1:Nat):Int):=rfl;have l:∀c,execs (k7 m) (.j (.p 4<|.G .A .B) c) (fG T N p w u0 u0) h=execs (k7 m) c (fG T N p w (y0<|.s<|tk T p) u0) h:=λc=>za (by simp![i1]);have f:Gg (k7 m) (.y .p .Y<|.p<|.c (.m hU) (.m hY)<|.m iD) (fG T N p w (y0<|.s<|tk T p) u0) h=.j (k8<|tk T p∈[qr,jC,jr]) h:=sD rfl _ _ _;have j:Gg (k7 m) (.y .p .Y .N) (fG T N p w (y0<|.s<|tk T p) u0) h=.j (k8<|tk T p∈N) h:=by have:Gm .p (.s<|tk T p) (.p<|N.u .m) h=_:=Qk (tk T p) N (.p<|N.u .m) h rfl rfl;simp![this]
 have J:=Jd w 20 h;have o:Gg (k7 m) (.or (.y .j .J<|.o 20)<|.y .y .Y<|.p<|.c (.m [126]) (.m [94])<|.m [40]) (fG T N p w (y0<|.s<|tk T p) u0) h=.j (k8 (w=20)||!k8 (tk T p∈[[126],[94],[40]])) h:=by
  have S:eval (k7 m) (.y .j .J<|.o 20) (fG T N p w (y0<|.s<|tk T p) u0) h=.j (.b<|k8<|w=20) h:=by simp![show Gm .j (.i w) (.v<|.o 20) h=_ from J]
  have n:eval (k7 m) (.y .y .Y<|.p<|.c (.m [126]) (.m [94])<|.m [40]) (fG T N p w (y0<|.s<|tk T p) u0) h=.j (.b<|!k8 (tk T p∈[[126],[94],[40]])) h:=by rw[eval,je rfl,R.ae,JC,R.ae,zq];rfl
  rw[Gg,eval,S];simp only[R.ae,Gu,R.af];cases k8<|w=20with
|true=>rfl
|false=>simp only[n,R.ae,Gu,R.af,RD]
 have t:Gg (k7 m) (.y .j .Y<|.m [40]) (fG T N p w (y0<|.s<|tk T p) u0) h=.j (tk T p==[40]) h:=lV rfl _;have fin:∀{d:D},Gv h.e (.j (.v d) h)=.j (.v d) h:=λ{d}=>Ga _ _ _ rfl;unfold fL;by_cases B:tk T p∈[qr,jC,jr]
 .rw[Da B];rw[FM B]at f;rw[i (.j (.t [.p [.m (tk T p)],.n (p+1)]) h)<|by rw[l];exact wc f<|jc rfl<|by simp![zc,F]];exact fin
 .rw[Fk B];rw[Do B]at f;by_cases C:tk T p∈N
  .rw[Da C];rw[FM C]at j;rw[i (.j (.t [.p [.m jm,.m (tk T p)],.n (p+1)]) h)<|by rw[l,ja f];exact wc j<|jc rfl<|by simp![zc,F]];exact fin
  .rw[Fk C];rw[Do C]at j;have L:(k8 (w=20)||!k8 (tk T p∈[[126],[94],[40]]))=k9->call prog (m+1) SW [.v (cY T),.i p,.i w,.p (N.u .m)] h=.j (.v .L) h:=fun z=>by rw[z]at o;rw[i (.j (.v .L) h)<|by rw[l,ja f,ja j];exact wc o rfl];exact fin
   cases b with
|none=>have E:w=20:=E;exact L<|by rw[FM E];rfl
|some a=>
    obtain⟨Z,P,X⟩:=E;dsimp only;by_cases k:tk T p∈[[126],[94],[40]]
    .rw[Do ((Ab7 ‹_›):¬w=20),FM k]at o;have v:p<T.e:=qv rfl λz=>by rw[z]at k;exact absurd k<|by decide
     by_cases u:tk T p=[40]
     .rw[Fk<|by rw[u];decide,Fk<|by rw[u];decide,Da u];rw[show(tk T p==[40])=k9 from beq_iff_eq.p u]at t;have e:=X (p+1) v h;have g:∀c,execs (k7 m) (.j (.p 5<|.j SV<|.f .A (.w .j .B<|.o 1) (.w .j .J<|.o 1) (.o 0) .N) c) (fG T N p w (some<|.s<|tk T p) none) h=execs (k7 m) c (fG T N p w (some<|.s<|tk T p)<|sv<|lR<|eC T a<|p+1) h:=fun c=>by have e:call prog m SV [.v (cY T),.i (p+1),.i (w+1),.v (.o 0),.p (N.u .m)] h=.j (.v<|lR<|eC T a<|p+1) h:=e;exact za<|by simp![zc,F,K,e]
      cases n:eC T a<|p+1with
|none=>rw[n]at g;rw[i (.j (.v .L) h)<|by rw[l,ja f,ja j,ja o];refine Za ?_;rw[Zi t,g];exact wc (by simp![lR]) rfl];exact fin
|some y=>
       obtain⟨d,q⟩:=y;rw[n]at g;obtain⟨_,O,_⟩:=(zI<|G a rfl).2.2 (p+1) d q n;have i2:=zr O h;have A:aY [d,D.n q] 1=y0 (.n q):=rfl;have H:aY [d,D.n q] 0=y0 d:=rfl;have ne:Gm .w (.s<|tk T q) (.s [41]) h=y0 (!k8 (tk T q=[41])):=by
        by_cases z:tk T q=[41]
        .rw[z];rfl
        .simp[GP,z]
       have U:((q:Nat):Int)+1=((q+1:Nat):Int):=rfl;rw[Ac8];dsimp only;by_cases z:tk T q=[41]
       .rw[Da z];rw[i (.j (.t [d,.n (q+1)]) h)<|by rw[l,ja f,ja j,ja o];refine Za ?_;rw[Zi t,g,ja<|by simp![lR,aA,A,i2,ne,FM z]];exact Za<|jc rfl<|by simp![lR,aA,H,A,zc,U]];exact fin
       .rw[Fk z];rw[i (.j (.v .L) h)<|by rw[l,ja f,ja j,ja o];refine Za ?_;rw[Zi t,g];exact wc (by simp![lR,aA,A,i2,ne,Do z]) rfl];exact fin
     .rw[beq_eq_false_iff_ne.p u]at t;have e:=P (p+1) v h;have g:∀c,execs (k7 m) (.j (.p 5<|.j SW<|.d .A (.w .j .B<|.o 1) (.w .j .J<|.o 1) .N) c) (fG T N p w (some<|.s<|tk T p) none) h=execs (k7 m) c (fG T N p w (some<|.s<|tk T p)<|sv<|lR<|a<|p+1) h:=fun c=>za (by simp![zc,F,K,e]);have W:∃s,aY [D.str Xb,.m Jb] ((tk T p==[94]).j:Int)=y0 (.m s)/\∀r,(if tk T p=[126]then(a<|p+1).u λx=>(D.tup [.m Xb,x.1],x.2)else if tk T p=[94]then(a<|p+1).u λx=>(.p [.m Jb,x.1],x.2)else r)=(a<|p+1).u λx=>(.p [.m s,x.1],x.2):=by
       simp only[Aa6,Ab9,Oj]at k;rcases k with z|z|z
       .exact⟨Xb,by rw[z];rfl,λr=>by rw[Da z]⟩
       .exact⟨Jb,by rw[z];rfl,λr=>by rw[Fk<|by rw[z];decide,Da z]⟩
       .exact absurd z u
      obtain⟨s,Q,V⟩:=W;rw[V];cases n:a<|p+1with
|none=>rw[n]at g;rw[i (.j (.v .L) h)<|by rw[l,ja f,ja j,ja o,ja t,g];exact wc (by simp![lR]) rfl];exact fin
|some y=>obtain⟨d,q⟩:=y;rw[n]at g;have A:aY [d,D.n q] 1=y0 (.n q):=rfl;have H:aY [d,D.n q] 0=y0 d:=rfl;rw[i (.j (.t [.p [.m s,d],.n q]) h)<|by rw[l,ja f,ja j,ja o,ja t,g,ja<|by simp![lR]];exact Za<|jc rfl<|by simp![lR,Xa,Z8,aC,Zm,Q,aA,H,A]];exact fin
    .rw[Fk<|λz=>k<|by rw[z];decide,Fk<|λz=>k<|by rw[z];decide,Fk<|λz=>k<|by rw[z];decide];exact L<|by rw[Do k];simp
theorem nP(b:dh N)(c:T.e<=90000):∀n,n<=20->∀m,LA T N (20-n) (5*n+m+1) SW (pA N T n)/\LC T N (20-n) 0 (5*n+m+5) (eC T<|pA N T n)
|0,_,m=>by have h:LA T N 20 (5*0+m+1) SW<|pA N T 0:=uD b (fun a e=>by cases e) rfl;exact⟨h,sG c (QP b.nb 0) h⟩
|n+1,d,m=>by
  have e:20-(n+1)+1=20-n:=by lia
  have h:LA T N (20-(n+1)) (5*(n+1)+m+1) SW<|pA N T<|n+1:=by
   refine uD b (λa e q=>by cases e;exact QP b.nb n q) ⟨by lia,?_,?_⟩
   .rw[e,show 5*(n+1)+m=5*n+(m+4)+1 by lia];exact(nP b c n (Ag2 ‹_›)<|m+4).1
   .rw[e,show 5*(n+1)+m=5*n+m+5 by lia];exact(nP b c n (Ag2 ‹_›) m).2
  exact⟨h,sG c (QP b.nb<|n+1) h⟩
def Ef{T:List Tx}(l:a<=T.e):aY (cut (T.u D.str++[.m []]) (y0 (a:Int))<|y0 ((a+2:Nat):Int)) (-1)=y0 (.m<|if a<T.e then tk T (a+1)else[]):=by
 have j:¬((a:Nat):Int)<0:=by lia
 have k:¬((a+2:Nat):Int)<0:=by lia
 have f:(T.u D.str++[D.str []]).e=T.e+1:=by simp
 have b:∀p,p<=T.e->(T.u D.str++[D.str []])[p]?=y0 _:=λp i=>by have:=zr i [];rw[WU,Jo _ _<|by simp;exact Oo ‹_›]at this;exact this
 simp only[cut,aV,j,k,OD,Af1,f];rw[show min a _=a by lia];by_cases q:a<T.e
 .rw[Da q,show min _ _=a+2 by lia,show a+2-a=2 by lia];have e:((T.u D.str++[D.str []]).J a).A 2=[.m (tk T a)]++[.m (tk T<|a+1)]:=by
   have c:a<(T.u D.str++[D.str []]).e:=by rw[f];exact Oo ‹_›
   have h:a+1<(T.u D.str++[D.str []]).e:=by rw[f];exact Oo ‹_›
   have d:=b a<|Ag2 ‹_›;have g:=b (a+1) YB;rw[Aa7 c]at d;rw[Aa7 h]at g;rw[Ae8 c,Ae8 h,Af5.inj d,Af5.inj g];rfl
  rw[e];exact(Z3 _ _).1
 .have:a=T.e:=by lia
  subst this;rw[Fk<|Ag _,show min _ _=T.e+1 by lia,show T.e+1-T.e=1 by lia];have c:T.e<(T.u D.str++[D.str []]).e:=by rw[f];exact Aa4 _
  have d:=b T.e<|Aa4 _;rw[Aa7 c,ll<|Ag _]at d;rw[Ae8 c,Af5.inj d];exact(Z3 [] _).1
def ku(T:List Tx):Prop:=∀t∈T,t.e<=90000/\∀c r,t=c::r->cn.p c=k9->t.N cn.p=k9
theorem ku.tk (h:ku T)(p):(tk T p).e<=90000/\∀c r,tk T p=c::r->cn.p c=k9->(tk T p).N cn.p=true:=by
 by_cases q:p<T.e
 .exact h _<|by rw[M.tk,Ac5,Aa7 q];exact Ah0 q
 .rw[ll q];exact⟨by decide,λc r e=>by cases e⟩
abbrev cF(T N:List Tx)(p w:Nat)(a x5 x6:Option W):Sl:=[sv (cY T),si p,si w,y0 (.p<|N.u .m),a,x5,x6]
def yQ(c):(cU c=2)↔cn.p c=true:=by
 unfold cU;cases l:bB.p c with
|true=>rw[mw c l];simp
|false=>cases cn.p c<;>simp
def sx{T N:List Tx}{w m:Nat}{x:PR}(O:ku T)(X:LC T N w 0 m x)(a:Nat)(J:a<=T.e)(b:Tx)(hl:b.e<=10)(h:AH)(hm:1<=m):
 execs (k7 m) (match aH.j with|.j _ (.j _ ss)=>ss|ss=>ss) (cF T N a w (y0<|.s b) u0 u0) h=.j (.v<|lR<|zS T x b a) h:=by
 obtain⟨m,rfl⟩:∃k,m=k+1:=⟨m-1,((R6 ‹_›).symm)⟩;have i1:=zr J h;have Z:=Ef J;have a2:((a:Nat):Int)+2=((a+2:Nat):Int):=rfl;have n1:eval (k7<|m+1) (.neg<|.o 1) (cF T N a w (y0<|.s b) u0 u0) h=.j _ h:=rfl;simp only[aH];rw[za (Z1:=cF T N a w (y0<|.s b) (y0<|.s<|if a<T.e then tk T (a+1)else[]) u0) (h1:=h)<|by have sl:eN (.v<|cY T) (y0 (a:Int)) (y0 ((a+2:Nat):Int)) h=.j (.j<|cut (T.u D.str++[.m []]) (y0 (a:Int))<|y0 ((a+2:Nat):Int)) h:=rfl;simp![zc,a2,sl,Zm,Z]];generalize H:(if a<T.e then tk T (a+1)else[])=f;have o:eval (k7<|m+1) (.y .y (.G .A .B)<|.p<|.b (.m eG)<|.m eE) (cF T N a w (y0<|.s b) (y0<|.s f) u0) h=.j (.b<|!k8 (tk T a∈[Xd,Jg])) h:=by have:=zq (tk T a) [Xd,Jg] h;rw[eval,eval,je rfl,R.ae,je rfl,R.ae,i1];simp only[R.af,R.ae,aC];rw[xr,R.ae,this];rfl
 have I:eval (k7<|m+1) (.y .j .v5<|.m []) (cF T N a w (y0<|.s b) (y0<|.s f) u0) h=.j (.b<|f==[]) h:=by simp![Xa]
 have v:∀{c:E}{s:Ss},Gg (k7<|m+1) c (cF T N a w (y0<|.s b) (y0<|.s f) u0) h=.j k9 h->execs (k7<|m+1) (.j (.r c .aj) s) (cF T N a w (y0<|.s b) (y0<|.s f) u0) h=.j (.v .L) h:=λt=>wc t rfl;unfold zS;by_cases g:tk T a∈[Xd,Jg]
 .rw[Da g];rw[FM g]at o;have C:a<T.e:=qv rfl λz=>by rw[z]at g;exact absurd g<|by decide
  rw[Da C]at H;obtain⟨U,L⟩:=O.tk<|a+1;rw[H]at U L⊢;cases f with
|nil=>rw[show iK []=u0 from rfl];exact v<|by rw[Gg,eval,o];simp only[Ak1,R.ae,Gu,R.af];rw[eval,I];rfl
|cons c r=>
   have n:cc (.s<|c::r) (.v<|.o 0) h=y0 (.m [c]):=by rw[qT,Da<|by rw[Gf];exact YD,show(0:Int)=((0:Nat):Int)from rfl,Jo _ _ YC];rfl
   have S:=lF m c h;have n2:Gm .w (.v<|.o (cU c:Nat)) (.v<|.o 2) h=y0 (!k8 (cU c=2)):=by
    have:=Jd (cU c) 2 h;by_cases z:cU c=2
    .rw[z];simp[GP]
    .have Q:¬((cU c:Nat):Int)=2:=by lia
     simp[GP,z,Q]
   have p:Gg (k7<|m+1) (.or (.y .y (.G .A .B)<|.p<|.b (.m eG)<|.m eE)<|.or (.y .j .v5<|.m [])<|.y .w (.j TH<|.a<|.G .v5<|.o 0)<|.o 2) (cF T N a w (some<|.s b) (some<|.s<|c::r) none) h=.j (!decide (cU c=2)) h:=by rw[Gg,eval,o];simp only[Ak1,R.ae,Gu,R.af];rw[eval,I];simp only[show((c::r:Tx)==[])=u9 from rfl,R.ae,Gu,R.af];simp![n,S,n2]
   by_cases u:cU c=2
   .have V:=(yQ c).j u;have F:=L c r rfl V;rw[FM u]at p;rw[ja p];have G:cz .p [.s (c::r)] h=aC (.n<|r.e+1) h:=by rw[len_str,Da<|by rw[Gf];exact YD];rfl
    have j:Gm .gt (.i<|r.e+1) (.v<|.o 2) h=y0 (k8<|2<r.e+1):=by rw[Js];congr 1;exact decide_eq_decide.p YB
    have B:Gm .j (.i<|r.e+1) (.v<|.o 2) h=y0 (k8<|r.e+1=2):=Jd (r.e+1) 2 h;have P:Gm .j (.s [c]) (.s [48]) h=y0 (k8<|c=48):=by rw[Xa];congr 1;by_cases z:c=48<;>simp[z]
    have A:Gg (k7<|m+1) (.or (.y .gt (.U .p<|.a .v5)<|.o 2)<|.and (.y .j (.U .p<|.a .v5)<|.o 2)<|.y .j (.G .v5<|.o 0)<|.m [48]) (cF T N a w (y0<|.s b) (y0<|.s<|c::r) u0) h=.j (k8 (2<r.e+1)||(k8 (r.e+1=2)&&k8 (c=48))) h:=by
     cases z1:k8<|2<r.e+1with
|true=>rw[z1]at j;simp![G,aC,j];rfl
|false=>
      rw[z1]at j;cases M:k8<|r.e+1=2with
|true=>rw[M]at B;simp![G,aC,j,B,n,P];rfl
|false=>rw[M]at B;simp![G,aC,j,B];rfl
    have l:gI (c::r)=!(k8 (2<r.e+1)||(k8 (r.e+1=2)&&k8 (c=48))):=by
     unfold gI;rw[F,An3]
     match r with
|[]=>by_cases z:c=48<;>simp[z]
|[d]=>by_cases z:c=48<;>simp[z]
|d::e::r'=>simp
    unfold iK;rw[l];cases z:(k8 (2<r.e+1)||(k8 (r.e+1=2)&&k8 (c=48)))with
|true=>rw[z]at A;exact v A
|false=>
     rw[z]at A l;obtain⟨k,K⟩:=t9 l;have i:a+1<T.e:=qv H YC;have Y:call prog (m+1) SV [.v (cY T),.i (a+2),.i w,.v (.o 0),.p (N.u .m)] h=.j (.v<|lR<|x<|a+2) h:=X (a+2) i h;rw[ja A,Da<|by rfl,K,Ac8,za (Z1:=cF T N a w (y0<|.s b) (y0<|.s<|c::r)<|sv<|lR<|x<|a+2) (h1:=h)<|by simp![zc,a2,Y]];cases e3:x<|a+2with
|none=>exact wc (by simp![lR]) rfl
|some y=>
      obtain⟨d,q⟩:=y;have a1:aY [d,D.n q] 1=y0 (.n q):=rfl;have W:aY [d,D.n q] 0=y0 d:=rfl;have ad:GB .j (.s b) (.s<|tk T a) h=.j (.s<|b++tk T a) h:=by
       refine Bb _ _ _ ?_;simp only[Aa6,Ab9,Oj]at g;rcases g with z|z<;>rw[z]<;>simp<;>exact YD
      rw[ja<|by simp![lR]];exact Za<|jc rfl<|by simp![lR,i1,ad,Q8,K,aA,W,a1];rfl
   .rw[Do u]at p;have l:gI (c::r)=false:=by
     unfold gI;have:(c::r:Tx).N cn.p=false:=by
      rw[Ai];cases z:cn.p c with
|true=>exact absurd ((yQ c).p z) u
|false=>rfl
     rw[this];simp
    unfold iK;rw[l,Fk Ab0];exact v p
 .rw[Fk g];rw[Do g]at o;exact v<|by rw[Gg,eval,o];rfl
def MI(j:ku T)(k:LC T N w 0 (m+1) x)(p)(i:p<=T.e)(n:tk T p∈[we,Xd,Jg])(h):call prog (m+2) "_law_counted_of" [.v (cY T),.i p,.i w,.p (N.u .m)] h=.j (.v<|lR<|if tk T p=we then zS T x we (p+1)else zS T x [] p) h:=by
 have a:∀f,execs (k7<|m+1) aH.j (cF T N p w u0 u0 u0) h=f->call prog (m+2) "_law_counted_of" [.v (cY T),.i p,.i w,.p (N.u .m)] h=Gv h.e f:=fun f e=>by rw[Gb rfl _ _ _ rfl,←e];rfl
 have i1:=zr i h;have l:((p:Nat):Int)+1=((p+1:Nat):Int):=rfl;have q:eval (k7<|m+1) (.y .j (.G .A .B)<|.m fX) (cF T N p w (y0<|.s []) u0 u0) h=.j (.b<|tk T p==we) h:=by simp![i1,Xa]
 have b:aH.j=.j (.p 4<|.m []) (.j (.u (.y .j (.G .A .B)<|.m [101,97,99,104]) (.b (.p 4<|.m [101,97,99,104])<|.p 1<|.w .j .B<|.o 1) .p)<|match aH.j with|.j _ (.j _ d)=>d|d=>d):=rfl;by_cases c:tk T p=we
 .have g:p<T.e:=qv c YA;rw[Da c,a (.j (.v<|lR<|zS T x we<|p+1) h)<|by rw[b,za (Z1:=cF T N p w (y0<|.s []) u0 u0) rfl,za (Z1:=cF T N (p+1) w (y0<|.s we) u0 u0) (h1:=h)<|by rw[Zi (h1:=h)<|by rw[Gg,q,show(tk T p==we)=k9 from beq_iff_eq.p c];rfl,za (Z1:=cF T N p w (y0<|.s we) u0 u0) (h1:=h) rfl,zM];simp![zc,l]];exact sx j k (p+1) g we YA h<|L2 _ _];exact Ga _ _ _ rfl
 .rw[Fk c,a (.j (.v<|lR<|zS T x [] p) h)<|by rw[b,za (Z1:=cF T N p w (y0<|.s []) u0 u0) (h1:=h) rfl,ja<|by rw[Gg,q,show(tk T p==we)=u9 from beq_eq_false_iff_ne.p c];rfl];exact sx j k p i [] YA h<|L2 _ _];exact Ga _ _ _ rfl
def Ih(M:ku T)(C:∀p,OK T p<|x p)(P:LC T N w 0 (m+1) x)(n:LC T N w 0 (m+2) x):LA T N w (m+3) Tt<|f7 T x:=fun p G h=>by
 have k:∀J,execs (k7<|m+2) bU.j (cF T N p w u0 u0 u0) h=J->call prog (m+3) Tt [.v (cY T),.i p,.i w,.p (N.u .m)] h=Gv h.e J:=fun J e=>by rw[Gb rfl _ _ _ rfl,←e];rfl
 simp only[bU]at k;have i1:=zr G h;have V:((p:Nat):Int)+1=((p+1:Nat):Int):=rfl;have fin:∀{d},Gv h.e (.j (.v d) h)=.j (.v d) h:=λ{d}=>Ga _ _ _ rfl;have g:Gg (k7<|m+2) (.y .p (.G .A .B)<|.p<|.c (.m fX) (.m eG)<|.m eE) (cF T N p w u0 u0 u0) h=.j (k8<|tk T p∈[we,Xd,Jg]) h:=by have:=Qt (tk T p) [we,Xd,Jg] h;rw[Gg,eval,eval,je rfl,R.ae,je rfl,R.ae,i1];simp only[R.af,R.ae,aC];rw[JC,R.ae,this];rfl
 have i:Gg (k7<|m+2) (.y .p (.G .A .B)<|.p<|.b (.m ft)<|.m fy) (cF T N p w u0 u0 u0) h=.j (k8<|tk T p∈[Wq,fR]) h:=by have:=Qt (tk T p) [Wq,fR] h;rw[Gg,eval,eval,je rfl,R.ae,je rfl,R.ae,i1];simp only[R.af,R.ae,aC];rw[xr,R.ae,this];rfl
 by_cases f:tk T p∈[we,Xd,Jg]
 .rw[FM f]at g;have e:=MI M P p G f h;have r:f7 T x p=if tk T p=we then zS T x we (p+1)else zS T x [] p:=by
   unfold f7;simp only[Aa6,Ab9,Oj]at f;rcases f with z|z|z
   .rw[Fk<|by rw[z];decide,Fk<|by rw[z];decide];simp only[Da z]
   .rw[Fk<|by rw[z];decide,Da<|by rw[z];decide,Fk<|by rw[z];decide]
   .rw[Fk<|by rw[z];decide,Da<|by rw[z];decide,Fk<|by rw[z];decide]
  rw[r];generalize (if tk T p=we then zS T x we (p+1)else zS T x [] p)=y at e⊢;rw[k (.j (.v<|lR y) h)<|wc g<|jc rfl<|by simp![e]];exact fin
 .rw[Do f]at g;have L:¬tk T p=we/\tk T p∉[Xd,Jg]:=by simp only[Aa6,Ab9,Oj,not_or]at f⊢;exact⟨f.1,f.2⟩
  unfold f7;by_cases t:tk T p∈[Wq,fR]
  .rw[Da t];rw[FM t]at i;have I:p<T.e:=qv rfl λz=>by rw[z]at t;exact absurd t<|by decide
   have e:call prog (m+2) SV [.v (cY T),.i (p+1),.i w,.v (.o 0),.p (N.u .m)] h=.j (.v<|lR<|x<|p+1) h:=n (p+1) I h;have a:∀c,execs (k7<|m+2) (.j (.p 4<|.j SV<|.f .A (.w .j .B<|.o 1) .J (.o 0) .N) c) (cF T N p w none none none) h=execs (k7<|m+2) c (cF T N p w (sv<|lR<|x<|p+1) none none) h:=fun c=>za (by simp![zc,V,e]);cases o:x<|p+1with
|none=>rw[o]at a;rw[k (.j (.v .L) h)<|by rw[ja g];exact Za<|by rw[Zi i,a];exact wc (by simp![lR]) rfl];exact fin
|some y=>obtain⟨d,q⟩:=y;rw[o]at a;have v:aY [d,D.n q] 1=y0 (.n q):=rfl;have E:aY [d,D.n q] 0=y0 d:=rfl;rw[k (.j (.t [.p [.m (tk T p),d],.n q]) h)<|by rw[ja g];refine Za ?_;rw[Zi i,a,ja<|by simp![lR]];exact Za<|jc rfl<|by simp![lR,i1,aA,E,v]];exact fin
  .rw[Fk t,Fk L.2,Fk L.1];rw[Do t]at i;have e:call prog (m+2) SV [.v (cY T),.i p,.i w,.v (.o 0),.p (N.u .m)] h=.j (.v<|lR<|x p) h:=n p G h;have a:∀c,execs (k7<|m+2) (.j (.p 5<|.j SV<|.f .A .B .J (.o 0) .N) c) (cF T N p w none none none) h=execs (k7<|m+2) c (cF T N p w none (sv<|lR<|x p) none) h:=fun c=>za (by simp![e]);cases o:x p with
|none=>rw[o]at a;rw[k (.j (.v .L) h)<|by rw[ja g,ja i,a];exact wc (by simp![lR]) rfl];exact fin
|some y=>
    obtain⟨d,q⟩:=y;rw[o]at a;simp only[lR]at a;obtain⟨_,S,_⟩:=C p d q o;have i2:=zr S h;have v:aY [d,D.n q] 1=y0 (.n q):=rfl;have E:aY [d,D.n q] 0=y0 d:=rfl;have U:((q:Nat):Int)+1=((q+1:Nat):Int):=rfl;have W:eval (k7<|m+2) (.y .y (.G .A<|.G .v5<|.o 1)<|.p<|.b (.m c7)<|.m [61]) (cF T N p w u0 (y0<|.t [d,.n q]) u0) h=.j (.b<|!k8 (tk T q∈[xE,[61]])) h:=by
     have:=zq (tk T q) [xE,[61]] h;have l:eval (k7<|m+2) (.G .A<|.G .v5<|.o 1) (cF T N p w u0 (y0<|.t [d,.n q]) u0) h=.j (.s<|tk T q) h:=by simp![aA,v,i2]
     rw[eval,l,R.ae,xr,R.ae,this];rfl
    have nn:eval (k7<|m+2) (.cm u9 .v5) (cF T N p w u0 (y0<|.t [d,.n q]) u0) h=.j (.b u9) h:=rfl;have u:Gg (k7<|m+2) (.or (.cm u9 .v5)<|.y .y (.G .A<|.G .v5<|.o 1)<|.p<|.b (.m c7)<|.m [61]) (cF T N p w u0 (y0<|.t [d,.n q]) u0) h=.j (!k8 (tk T q∈[xE,[61]])) h:=by rw[Gg,eval,nn];simp only[R.ae,Gu,R.af,W]
    rw[Ac8];dsimp only;cases j:gv (tk T q)with
|none=>rw[Do<|ur j]at u;rw[k (.j (.v .L) h)<|by rw[ja g,ja i,a];exact wc u rfl];exact fin
|some s=>
     obtain⟨_,H⟩:=jP j;rw[FM H]at u;have F:q<T.e:=qv rfl λz=>by rw[z]at H;exact absurd H YA
     have O:call prog (m+2) SV [.v (cY T),.i (q+1),.i w,.v (.o 0),.p (N.u .m)] h=.j (.v<|lR<|x<|q+1) h:=n (q+1) F h;have B:∀c,execs (k7<|m+2) (.j (.p 6<|.j SV<|.f .A (.w .j (.G .v5<|.o 1)<|.o 1) .J (.o 0) .N) c) (cF T N p w none (some<|.t [d,.n q]) none) h=execs (k7<|m+2) c (cF T N p w none (some<|.t [d,.n q])<|sv<|lR<|x<|q+1) h:=fun c=>za (by simp![aA,v,zc,U,O]);have X:aY [D.str xE,.m wg] ((tk T q==[61]).j:Int)=y0 (.m s):=by
      unfold gv at j;split at j
      .rename_i z;cases j;rw[z];rfl
      .split at j
       .rename_i z;cases j;rw[z];rfl
       .cases j
     rw[Ac8];cases K:x<|q+1with
|none=>rw[K]at B;rw[k (.j (.v .L) h)<|by rw[ja g,ja i,a,ja u,B];exact wc (by simp![lR]) rfl];exact fin
|some z=>obtain⟨b,A⟩:=z;rw[K]at B;have f:aY [b,D.n A] 1=y0 (.n A):=rfl;have Q:aY [b,D.n A] 0=y0 b:=rfl;rw[k (.j (.t [.p [.m s,d,b],.n A]) h)<|by rw[ja g,ja i,a,ja u,B,ja<|by simp![lR]];exact Za<|jc rfl<|by simp![lR,aA,v,E,i2,Xa,Z8,aC,Zm,X,Q,f]];exact fin
abbrev iS(T N:List Tx)(p w:Nat)(a:Option W):Sl:=[sv (cY T),si p,si w,y0 (.p<|N.u .m),a]
def LW(T N:List Tx)(w k m:Nat)(x:PR):Prop:=∀p,p<=T.e->∀h,call prog m Td [.v (cY T),.i p,.i w,.i k,.p (N.u .m)] h=.j (.v<|lR<|x p) h
def vk(x:∀a,deep=y0 a->∀p,OK T p<|a p)(L:LA T N w m Tt fc)(v:match deep with
|none=>w=20
|some u=>w<20/\LA T N (w+1) m S0 u/\LW T N (w+1) 0 m (dR T u)):LA T N w (m+1) S0<|iH T fc deep:=fun p F h=>by
 have g:∀B,execs (k7 m) bQ.j (iS T N p w u0) h=B->call prog (m+1) S0 [.v (cY T),.i p,.i w,.p (N.u .m)] h=Gv h.e B:=fun B e=>by rw[Gb rfl _ _ _ rfl,←e];rfl
 simp only[bQ]at g;have i1:=zr F h;have G:((p:Nat):Int)+1=((p+1:Nat):Int):=rfl;have E:((w:Nat):Int)+1=((w+1:Nat):Int):=rfl;have fin:∀{d},Gv h.e (.j (.v d) h)=.j (.v d) h:=λ{d}=>Ga _ _ _ rfl;have c:Gg (k7 m) (.y .y (.G .A .B)<|.p<|.b (.m fj)<|.m [91]) (iS T N p w u0) h=.j (!k8 (tk T p∈[jh,[91]])) h:=by have:=zq (tk T p) [jh,[91]] h;rw[Gg,eval,eval,je rfl,R.ae,je rfl,R.ae,i1];simp only[R.af,R.ae,aC];rw[xr,R.ae,this];rfl
 have f:Gg (k7 m) (.y .j .J<|.o 20) (iS T N p w u0) h=.j (k8<|w=20) h:=by simp![show Gm .j (.i w) (.v<|.o 20) h=_ from Jd w 20 h]
 have j:Gg (k7 m) (.y .j (.G .A .B)<|.m fj) (iS T N p w u0) h=.j (tk T p==jh) h:=by simp![i1,Xa]
 unfold iH;by_cases k:tk T p∈[jh,[91]]
 .rw[FM k]at c;have n:p<T.e:=qv rfl λz=>by rw[z]at k;exact absurd k<|by decide
  have s:tk T p=jh\/tk T p=[91]:=by simpa using k
  cases deep with
|none=>
   have v:w=20:=v;rw[FM v]at f;have r:(if tk T p=jh then u0 else if tk T p=[91]then u0 else fc p)=(none:Option<|D×Nat):=by
    rcases s with z|z
    .rw[Da z]
    .rw[Fk<|by rw[z];decide,Da z]
   show _=R.ok (W.v<|lR<|if tk T p=jh then u0 else if tk T p=[91]then u0 else fc p) h;rw[r,g (.j (.v .L) h)<|by rw[ja c];exact wc f rfl];exact fin
|some u=>
   obtain⟨O,H,J⟩:=v;rw[Do ((Ab7 ‹_›):¬w=20)]at f;by_cases o:tk T p=jh
   .rw[Da o];rw[show(tk T p==jh)=k9 from beq_iff_eq.p o]at j;have e:=H (p+1) n h;have b:∀i,execs (k7 m) (.j (.p 4<|.j S0<|.d .A (.w .j .B<|.o 1) (.w .j .J<|.o 1) .N) i) (iS T N p w none) h=execs (k7 m) i (iS T N p w<|sv<|lR<|u<|p+1) h:=fun i=>za (by simp![zc,G,E,e]);dsimp only;cases l:u<|p+1with
|none=>rw[l]at b;rw[g (.j (.v .L) h)<|by rw[ja c,ja f];exact Za<|by rw[Zi j,b];exact wc (by simp![lR]) rfl];exact fin
|some y=>obtain⟨d,q⟩:=y;rw[l]at b;have t:aY [d,D.n q] 1=y0 (.n q):=rfl;have A:aY [d,D.n q] 0=y0 d:=rfl;rw[g (.j (.t [.p [.m jh,d],.n q]) h)<|by rw[ja c,ja f];refine Za ?_;rw[Zi j,b,ja<|by simp![lR]];exact Za<|jc rfl<|by simp![lR,aA,A,t]];exact fin
   .have M:tk T p=[91]:=s.resolve_left o;rw[Fk o,Da M];rw[beq_eq_false_iff_ne.p o]at j;have e:call prog m Td [.v (cY T),.i (p+1),.i (w+1),.v (.o 0),.p (N.u .m)] h=.j (.v<|lR<|dR T u<|p+1) h:=J (p+1) n h;have b:∀i,execs (k7 m) (.j (.p 4<|.j Td<|.f .A (.w .j .B<|.o 1) (.w .j .J<|.o 1) (.o 0) .N) i) (iS T N p w none) h=execs (k7 m) i (iS T N p w<|sv<|lR<|dR T u<|p+1) h:=fun i=>za (by simp![zc,G,E,e]);show _=R.ok (W.v<|lR<|(dR T u<|p+1).p λy=>if tk T y.2=[93]then y0 (y.1,y.2+1)else u0) h;cases l:dR T u<|p+1with
|none=>rw[l]at b;rw[g (.j (.v .L) h)<|by rw[ja c,ja f,ja j,b];exact wc (by simp![lR]) rfl];exact fin
|some y=>
     obtain⟨d,q⟩:=y;rw[l]at b;obtain⟨_,I,_⟩:=(jV<|x u rfl).2 (p+1) d q l;have i2:=zr I h;have t:aY [d,D.n q] 1=y0 (.n q):=rfl;have A:aY [d,D.n q] 0=y0 d:=rfl;have K:((q:Nat):Int)+1=((q+1:Nat):Int):=rfl;have ne:Gm .w (.s<|tk T q) (.s [93]) h=y0 (!k8 (tk T q=[93])):=by
      by_cases z:tk T q=[93]
      .rw[z];rfl
      .simp[GP,z]
     rw[Ac8];dsimp only;by_cases z:tk T q=[93]
     .rw[Da z];rw[g (.j (.t [d,.n (q+1)]) h)<|by rw[ja c,ja f,ja j,b,ja<|by simp![lR,aA,t,i2,ne,FM z]];exact Za<|jc rfl<|by simp![lR,aA,A,t,zc,K]];exact fin
     .rw[Fk z];rw[g (.j (.v .L) h)<|by rw[ja c,ja f,ja j,b];exact wc (by simp![lR,aA,t,i2,ne,Do z]) rfl];exact fin
 .rw[Do k]at c;have C:tk T p≠jh/\tk T p≠[91]:=by simpa using k
  have e:=L p F h;rw[Fk C.1,Fk C.2];rw[g (.j (.v<|lR<|fc p) h)<|wc c<|jc rfl<|by simp![e]];exact fin
noncomputable abbrev gR(T N:List Tx)(p w k:Nat)(x5 x6 x7:Option W):Sl:=[sv (cY T),si p,si w,si k,y0 (.p<|N.u .m),x5,x6,x7]
def NI(h1:LA T N w m S0 x):LW T N w 2 (m+1) x:=fun p a h=>by rw[Gb rfl _ _ _ rfl];simp only[bq];have e:=h1 p a h;have b:Gm .j _ (.v<|.o 2) h=y0 true:=Jd 2 2 h;rw[wc (w:=.v<|lR<|x p) (by simp![b])<|jc rfl<|by assumption];exact Ga _ _ _ rfl
def vm{w k m:Nat}(V:k<2)(E:aY [D.str gG,.m wE] (k:Int)=y0 (.m o))(A:o≠[])(G:∀p,OK T p<|sub p)(S:T.e<=90000)(h1:LW T N w (k+1) m sub):LW T N w k (m+1)<|eA T (dw o o) sub:=by
 intro p K h;have O:Gm .j (.i k) (.v<|.o 2) h=y0 false:=by have:=Jd k 2 h;rw[Do<|Ab7 ‹_›]at this;exact this
 have F:((k:Nat):Int)+1=((k+1:Nat):Int):=rfl;have l:∀u,execs (k7 m) bq.j (gR T N p w k u0 u0 u0) h=u->call prog _ Td [.v _,.i p,.i w,.i k,.p _] h=Gv h.e u:=fun u e=>by rw[Gb (d:=bq) rfl _ _ _ rfl,←e];rfl
 simp only[bq]at l;have P:=h1 p K h;have f:∀r,execs (k7 m) (.j (.r (.y .j .N<|.o 2)<|.j S0<|.d .A .B .J .Y)<|.j (.p 5<|.j Td<|.f .A .B .J (.w .j .N<|.o 1) .Y)<|.j (.p 6<|.G (.u<|.b (.m eV)<|.m fm) .N) r) (gR T N p w k none none none) h=execs (k7 m) r (gR T N p w k (sv<|lR<|sub p) (some<|.s o) none) h:=fun r=>by rw[ja<|by simp![O],za (Z1:=gR T N p w k (sv<|lR<|sub p) u0 u0) (h1:=h)<|by simp![zc,F,P]];exact za<|by simp![Zm,E]
 unfold eA;cases e:sub p with
|none=>rw[e]at f;simp only[lR]at f;rw[l (.j (.v .L) h)<|by rw[f,za (Z1:=gR T N p w k (sv .L) (y0<|.s o) u0) (h1:=h)<|by rw[exec,Gx,show Gg (k7 m) Je (gR T N p w k (sv .L) (y0<|.s o) u0) h=.j u9 h by rw[Je];simp![]];rfl];exact Za rfl];exact Ga _ _ _ rfl
|some y=>
  obtain⟨d,n⟩:=y;rw[e]at f;simp only[lR]at f;obtain⟨_,M,_⟩:=G p d n e;have B:∀(d:D)(q:Nat),aY [d,.n q] 1=y0 _:=λd q=>rfl;have J:∀(d:D)(q:Nat),aY [d,.n q] 0=y0 d:=λd q=>rfl;have j:∀(d:D)(q:Nat)(y:Option W),q<=T.e->Gg (k7 m) Je (gR T N p w k (y0<|.t [d,.n q]) (y0<|.s o) y) h=.j (tk T q==o) h:=λd q y a=>by have i1:=zr a h;rw[Je];simp![aA,B,i1,Xa]
  have i:∀(d:D)(q:Nat)(y:Option W),q<T.e->execs (k7 m) jj (gR T N p w k (y0<|.t [d,.n q]) (y0<|.s o) y) h=execs (k7 m) _ (gR T N p w k (y0<|.t [d,.n q]) (y0<|.s o)<|sv<|lR<|sub<|q+1) h:=λd q y a=>by have L:=h1 _ a h;have Q:((q:Nat):Int)+1=((q+1:Nat):Int):=rfl;rw[jj];exact za<|by simp![aA,B,zc,Q,F,L]
  have g:=QE (Y:=Option W) (T:=T) (op:=dw o o) G (H:=λ_=>h) (Z:=λd q y=>gR T N p w k (y0<|.t [d,.n q]) (y0<|.s o) y) (X:=λo=>o=.j (.v .L) h)
   (c:=λZ h=>Gg (k7 m) Je Z h) (bd:=λZ h=>execs (k7 m) jj Z h)
   (λo z=>.u ⟨_,_,z⟩)
   (λd q y a z=>by show Gg _ _ _ _=_;rw[j d q y a,show(tk T q==o)=u9 from beq_eq_false_iff_ne.p λv=>by unfold dw at z;rw[Da v]at z;cases z])
   (λd q y s a z=>by show Gg _ _ _ _=_;rw[j d q y<|Ag2 a,show(tk T q==o)=k9 from beq_iff_eq.p<|Ad7 λv=>by unfold dw at z;rw[Fk v]at z;cases z])
   (λd q y s b x a z C=>⟨y0<|.t [b,.n x],by
     have:s=o:=by unfold dw at z;split at z<;>cases z;rfl
     subst this;show execs _ _ _ _=_;rw[i d q y a,C,ja<|by simp![lR]];simp![lR,aA,J,B]⟩)
   (λd q y s a z C=>by show execs _ _ _ _=_;rw[i d q y a,C];exact wc (by simp![lR]) rfl)
   (λt s z=>(by unfold dw at z;split at z<;>cases z;rename_i v;rw[v];exact A)) (T.e+1) 100000 d n u0 (KM ‹_› YA) (L2 _ _) M
  dsimp only;cases I:gL T _ sub _ d n with
|none=>rw[I]at g;rw[l (.j (.v .L) h)<|by rw[f];exact Za<|by rw[exec];exact g];exact Ga _ _ _ rfl
|some y=>obtain⟨R,x⟩:=y;rw[I]at g;obtain⟨U,g⟩:=g;rw[l (.j (.t [R,.n x]) h)<|by rw[f,za<|by rw[exec];exact g];exact Za rfl];exact Ga _ _ _ rfl
def vO(a:T.e<=90000)(b:∀p,OK T p<|u p)(h:LA T N w m S0 u):LW T N w 0 (m+3)<|dR T u:=by have c:=vm YA rfl YA b a<|NI h;exact vm YA rfl YA (jV b).1 a c
def Ia(b:dh N)(c:T.e<=90000)(i:ku T):∀n,n<=20->∀m,LA T N (20-n) (5*n+m+8) S0 (pU N T n)/\LW T N (20-n) 0 (5*n+m+11) (dR T<|pU N T n):=by
 have g:=λn d m=>Ih i (zI<|QP b.nb n).2.2 (nP b c n d m).2 (nP b c n d<|m+1).2;intro n;induction n with
|zero=>intro _ m;have h:LA T N 20 _ S0<|pU N T 0:=vk (fun a e=>by cases e) (g 0 YA m) rfl;exact⟨h,vO c (X2 b.nb 0) h⟩
|succ n f=>
  intro d m;have e:20-(n+1)+1=20-n:=by lia
  have h:LA T N (20-(n+1)) (5*(n+1)+m+8) S0<|pU N T<|n+1:=by
   refine vk (λa e q=>by cases e;exact X2 b.nb n q) (g (n+1) d m) ⟨by lia,?_,?_⟩
   .rw[e,show 5*(n+1)+m+7=5*n+(m+4)+8 by lia];exact(f (Ag2 ‹_›)<|m+4).1
   .rw[e,show 5*(n+1)+m+7=5*n+(m+1)+11 by lia];exact(f (Ag2 ‹_›)<|m+1).2
  exact⟨h,vO c (X2 b.nb<|n+1) h⟩
def yM(x:Tx):Prop:=x≠[]/\∃s,(∀c∈x,aN c=s)/\s≠Wd/\(s≠Xl->s≠Zq->∃c,x=[c])
def Iv(S:List Tx)(a:Tx)(n:Nat):Prop:=S.e<=n/\(∀x∈S,yM x/\x.e<=n)/\(a=Xl\/a=Zq->∃b x,S=b++[x]/\∀c∈x,aN c=a)
def Iv.step {S:List Tx}(h:Iv S a n):Iv (b8 (S,a) c).1 (b8 (S,a) c).2<|n+1:=by
 obtain⟨i,e,r⟩:=h;unfold M.b8;by_cases q:fB a c
 .rw[Da q];have p:a=Xl\/a=Zq:=by rw[←q.1];exact q.2
  obtain⟨k,x,rfl,m⟩:=r p;simp only[Rz,RA];have j:=λd f=>(Ab4.j f).j (λz=>(m d z).x q.1.j) λz=>by rw[Ab2.j z]
  refine⟨by simp at i⊢;exact Ag2 ‹_›,λy b=>?_,λ_=>⟨k,_,rfl,j⟩⟩;obtain b|b:=Ab4.j b
  .obtain⟨u,l⟩:=e y<|Ad4 _ b;exact⟨u,(Af9 ‹_›)⟩
  .rw[Ab2.j b];have:=(e x YC).2;refine⟨⟨by simp,aN c,j,by rcases q.2 with z|z<;>rw[z]<;>decide,λz1 s=>absurd q.2<|λz=>z.j z1 s⟩,by simp;exact‹_›⟩
 .rw[Fk q];by_cases g:aN c≠Wd
  .rw[Da g];refine⟨by simpa using i,λy b=>?_,λ_=>⟨S,[c],rfl,λd f=>by rw[Ab2.j f]⟩⟩;obtain b|b:=Ab4.j b
   .obtain⟨u,l⟩:=e y b;exact⟨u,(Af9 ‹_›)⟩
   .rw[Ab2.j b];exact⟨⟨by simp,aN c,λd f=>by rw[Ab2.j f],g,λ_ _=>⟨c,rfl⟩⟩,by simp⟩
  .rw[Fk g];have o:=Ak6.j g;refine⟨Af9 i,λy b=>⟨(e y b).1,Af9 (e y b).2⟩,λz=>?_⟩;have z:aN c=Xl\/aN c=Zq:=z;rw[o]at z;rcases z with z|z<;>exact absurd z YA
theorem Iv.fold:∀(t:Tx){S}{a}{n},Iv S a n->Iv (t.U b8 (S,a)).1 (t.U b8 (S,a)).2 (n+t.e)
|[],_,_,_,h=>h
|c::t,S,a,n,h=>by have:=Iv.fold t<|h.step (c:=c);rw[Af3,Ab1,show n+(t.e+1)=n+1+t.e by lia];exact this
abbrev bg(t:Tx):List Tx:=(t.U b8 ([],Wd)).1
def pK(t):Iv (bg t) (t.U b8 ([],Wd)).2 t.e:=by
 have:=Iv.fold t (S:=[]) (a:=Wd) (n:=0) ⟨Aa4 _,(λ_ h=>by cases h),λz=>by rcases z with z|z<;>exact absurd z YA⟩
 rwa [An8]at this
def fi:cn.p c=k9↔aN c=Zq:=by
 unfold aN;constructor
 .intro h;rw[Fk (λz=>by rw[mw c z]at h;cases h),Da h]
 .intro h;split at h
  .exact absurd h YA
  .split at h
   .assumption
   .split at h
    .exact absurd h YA
    .exact absurd h YA
def IM(h:t.e<=90000):ku<|bg t:=λx f=>by
 obtain⟨⟨_,s,a,_⟩,l⟩:=(pK t).2.1 x f;refine⟨(Ac0 ‹_› ‹_›),λc r e b=>?_⟩;have:s=Zq:=by rw[←a c<|by rw[e];simp];exact fi.j b
 rw[Ad6];exactλd g=>fi.p<|(a d g).x this
def eD(a:Tx)(c:Nat):Nat:=if fB a c then 0 else if aN c≠Wd then nb [c]else 0
def nk:Tx->Tx->Nat
|_,[]=>0
|a,c::t=>eD a c+nk (aN c) t
def yq(h:yM x)(b:∀c∈x,aN c=s)(h2:s=Xl\/s=Zq):nb x=1:=by
 unfold nb;rw[Fk λz=>?_];obtain⟨c,r,rfl⟩:∃c r,x=c::r:=by
  cases x with
|nil=>exact absurd rfl h.1
|cons c r=>exact⟨c,r,rfl⟩
 have a:=b c Aa;simp only[Aa6,Ab9,Oj]at z;rcases z with z|z|z|z<;>cases z<;>rcases h2 with y|y<;>rw[y]at a<;>exact absurd a YA
theorem tH:∀(t){S}{a}{n},Iv S a n->((t.U b8 (S,a)).1.u nb).sum=(S.u nb).sum+nk a t
|[],_,_,_,_=>rfl
|c::t,S,a,n,h=>by
  have e:b8 (S,a) c=((b8 (S,a) c).1,aN c):=by
   unfold b8;split
   .rfl
   .split<;>rfl
  rw[Af3,e,tH t<|by have:=h.step (c:=c);rw[e]at this;exact this,nk];have:((b8 (S,a) c).1.u nb).sum=(S.u nb).sum+eD a c:=by
   unfold b8 eD;by_cases q:fB a c
   .rw[Da q,Da q];have b:a=Xl\/a=Zq:=by rw[←q.1];exact q.2
    obtain⟨o,x,rfl,g⟩:=h.2.2 b;have u:=(h.2.1 x YC).1;have j:=yq u g b;have i:=λd l=>(Ab4.j l).j (λz=>g d z) λz=>by rw[Ab2.j z,q.1]
    have k:=yq ⟨by simp,a,i,by rcases b with z|z<;>rw[z]<;>decide,λz1 m=>absurd b<|λz=>z.j z1 m⟩ i b;simp[j,k]
   .rw[Fk q,Fk q];by_cases f:aN c≠Wd
    .rw[Da f,Da f];simp
    .rw[Fk f,Fk f];rfl
  rw[this];lia
def Dz(t):d7 (bg t) 0=nk Wd t:=by have:=tH t (S:=[]) (a:=Wd) ⟨Aa4 _,(λ_ h=>by cases h),λz=>by rcases z with z|z<;>exact absurd z YA⟩;unfold d7;rw[An,this];simp
abbrev nu(t:Tx):Nat:=nk Wd t
def uR(t):nb t<=1:=by unfold nb;split<;>lia
def Cn(a)(c):eD a c<=eD Wd c/\eD Wd c<=eD a c+1:=by
 have n:¬fB Wd c:=λz=>by rcases z.2 with y|y<;>rw[z.1]at y<;>exact absurd y YA
 unfold eD;have:=uR [c];split
 .split<;>lia
 .lia
def yA(a t):nk a t<=nu t/\nu t<=nk a t+1:=by
 cases t with
|nil=>exact⟨Aa4 _,Af0 _⟩
|cons c t=>have:=Cn a c;show eD a c+_<=eD Wd c+_/\eD Wd c+_<=eD a c+_+1;lia
theorem o5:∀(s)(a t),nk a (s++t)<=nk a s+nu t/\nk a s+nu t<=nk a (s++t)+1
|[],a,t=>by have:=yA a t;show nk a t<=0+nu t/\0+nu t<=nk a t+1;lia
|c::s,a,t=>by have:=o5 s (aN c) t;rw[Ai2];simp only[nk]at this⊢;lia
def Zg(s t):nu (s++t)<=nu s+nu t:=(o5 s Wd t).1
def tq(s t):nu s+nu t<=nu (s++t)+1:=(o5 s Wd t).2
def DY(m)(g)(K L T)(l:(K++L).e<=100):call prog (m+1) "Reader.__init__" [.r g.e,.v (wD K L),.l (T.u .m)] (g++[Cell.obj SQ []])=.j (.v .L) (rh g (K++L) T 0):=by
 rw[Gb rfl _ _ _ rfl];simp only[Qp];show Gv _ (execs _ _ [y0 _,sv _,y0 _] _)=_;have p:∀fs,GQ (g++[Cell.obj SQ fs]) (some<|.r g.e)=some (g.e,SQ,fs):=fun fs=>by simp[GQ]
 have k:∀fs a,(g++[Cell.obj SQ fs]).B g.e (.obj SQ a)=g++[Cell.obj SQ a]:=fun fs a=>by simp
 have c:∀f e d fs,(∀h,eval (k7 m) e [y0 _,sv (wD K L),y0 (.l<|T.u .m)] h=.j (.v d) h)->Gp d=k9->fs.e<100→
  exec (k7 m) (.b4 0 SQ f e) [some _,sv _,some _] _=.p [some _,sv _,some _] (g++[Cell.obj SQ (bA f d fs)]):=fun f e d fs o q j=>by
  rw[exec,o,R.aF];show(match GQ (g++[Cell.obj SQ fs])<|some (.r g.e)with|some (r,s,fs)=>_|none=>_)=_;rw[p];show(if _ then _ else _)=_;rw[Da ⟨rfl,j⟩,k]
 have nr:∀(b:List Tx),Gi (b.u D.str)=true:=λb=>by
  induction b with
|nil=>rfl
|cons x b i=>simp[i]
 have n:∀h,eval (k7 m) (.w .j (.G .B<|.o 0)<|.G .B<|.o 1) [y0 (.r g.e),sv (wD K L),y0 (.l<|T.u .m)] h=.j (.v<|aU<|K++L) h:=λh=>by
  have z0:cc (.v<|wD K L) (.v<|.o 0) h=y0 _:=rfl;have z1:cc (.v<|wD K L) (.v<|.o 1) h=y0 _:=rfl;have zb:GB .j (.v<|aU K) (.v<|aU L) h=.j (.v<|aU<|K++L) h:=by show GB .j _ _ h=_;rw[Jn,Da<|by rw[Gf];simp at l⊢;exact YD,←Ad]
  simp![z0,z1,zb]
 rw[za<|c "names" _ (aU<|K++L) [] n (nr<|K++L) YA,
  za<|c "signs" _ (.u<|T.u .m) _ (fun h=>by simp![]) (by simp[Gp,nr])<|by show 1<100;decide,
  za<|c Tf _ (.o 0) _ (fun h=>rfl) rfl<|by show 2<100;decide]
 show Gv _ (.p _ _)=_;rw[GK _ _ _ YC];rfl
noncomputable abbrev rt(K L:List Tx)(t:Tx)(g:AH)(x:Option W):Sl:=[sv (wD K L),y0 (.s t),y0 (.l<|(bg t).u .m),y0 (.r g.e),x]
def yR{R:R W}(h:F.j SX [.r g.e,.v (.o 0)] (rh g (K++L) (bg t) p)=R):eval F (.aI .N SQ "saying" SX<|.a<|.o 0) (rt K L t g none) (rh g (K++L) (bg t) p)=R:=by show(match GQ _ (y0 _)with|some (r,a,fs)=>_|none=>_)=_;rw[Zw];exact h
def Ct(m)(g)(K L)(b:(K++L).e<=100)(t)(a:∀c∈t,dC c)(f:t.e<=90000):call prog (m+94) Tp [.v (wD K L),.s t] g=Gv g.e (execs (k7<|m+93) (.c (.p 4<|.aI .N SQ "saying" SX<|.a<|.o 0) (.u (.y .u (.bY .N SQ Tf)<|.U .p<|.a .J) (.a<|.bC "NoText" "row" .aj) .p)<|.j .Y) (rt K L t g none)<|rh g (K++L) (bg t) 0):=by rw[Gb rfl _ _ _ rfl];simp only[zk];rw[ja<|by simp![];rfl];have e:=Ny (m+91) g t a<|YD;rw[za (Z1:=[sv (wD K L),y0 (.s t),y0 (.l<|(bg t).u .m),u0,u0]) (h1:=g)<|by simp![e]];have d:=DY (m+92) g K L (bg t) b;rw[za (Z1:=rt K L t g u0) (h1:=rh g (K++L) (bg t) 0)<|by simp![d,aC]]
def RQ(x:R W)(g:AH):Option D->Prop
|some d=>x=.j (.v d) g
|none=>∃h',x=.w bK (g++h')
def yN(h:∀t,t∈N↔t∈N')(x):fL N T x=fL N' T x:=by unfold fL;simp only[h]
theorem rJ(h:∀t,t∈N↔t∈N'):∀n,pA N T n=pA N' T n
|0=>yN h _
|n+1=>by rw[pA,pA,rJ h n];exact yN h _
theorem yK(h:∀t,t∈N↔t∈N'):∀n,pU N T n=pU N' T n
|0=>by rw[pU,pU,rJ h]
|n+1=>by rw[pU,pU,yK h n,rJ h]
structure LN(K L:List Tx)(h:AH)(a b:Nat)(K' L':List Tx):Prop where
 a:h[a]?=y0 (.u<|K'.u .m)
 b:h[b]?=y0 (.u<|L'.u .m)
 l:(K'++L').e<=100
 m:∀t,t∈K++L↔t∈K'++L'
noncomputable abbrev du(a b:Nat):D:=.u [.j a,.j b]
def LN.z0 {a b:Nat}(_:LN K L h a b K' L'):cc (.v<|du a b) (.v<|.o 0) h=y0 (.j a):=rfl
def LN.z1 {a b:Nat}(_:LN K L h a b K' L'):cc (.v<|du a b) (.v<|.o 1) h=y0 (.j b):=rfl
def LN.zb {a b:Nat}(q:LN K L h a b K' L'):GB .j (.r a) (.r b) h=.j (.j<|(K'++L').u .m) h:=by simp only[GB,W.int?,KB,W.bc,W.ea,W.bh,q.a,q.b,Ky];rw[Da<|by have:=q.l;rw[Gf];simp at this⊢;exact YD,Ad]
def yW(K L)(V:(K++L).e<=100)(v:dh<|K++L)(t:Tx)(s:t.e<=90000):∃r:Option D,(∀d,r=y0 d->t≠[]/\∃n,Gd n d/\n<=nu t)/\(∀m g,GE g=k9->RQ (call prog (m+94) Tp [.v (wD K L),.s t] g) g r)/\∀m h a b O M,LN K L h a b O M->call prog (m+113) Tj [.v (du a b),.s t] h=.j (.v<|r.getD .L) h:=by
 by_cases o:∀c∈t,dC c
 .have B:(bg t).e<=90000:=by have:=(pK t).1;exact Ac0 ‹_› ‹_›
  have X:∀x∈bg t,x.e<=90000:=λx P=>by have:=((pK t).2.1 x P).2;exact Ac0 ‹_› ‹_›
  obtain⟨r,f⟩:∃r:Option D,r=match dR (bg t) (pU (K++L) (bg t) 20) 0 with
|none=>u0
|some (d,q)=>if q<(bg t).e then u0 else y0 d:=⟨_,rfl⟩
  have ok:=(jV<|X2 (T:=bg t) v.nb 20).2 0;refine⟨r,?_,λm g Q=>?_,λm h a b O M p=>?_⟩
  .intro d e;cases j:dR _ _ 0 with
|none=>rw[j]at f;rw[f]at e;cases e
|some y=>
    obtain⟨Z,q⟩:=y;rw[j]at f;obtain⟨Y,E,n,i,S⟩:=ok Z q j;dsimp only at f;rw[f]at e;split at e
    .cases e
    .cases e;refine⟨λz=>?_,n,i,?_⟩
     .rw[z]at E;exact absurd (Ab5 Y E) YA
     rw[Dz]at S;show n<=nk Wd t;exact Ac0 (OE _ _) ‹_›
  .have k:=(Fw (g:=g) v B X 20 YA<|m+1).2 0;rw[show 4*20+(m+1)+12=m+93 by lia]at k;rw[Ct m g K L V t o s];cases j:dR _ _ 0 with
|none=>rw[j]at f k;subst f;obtain⟨q,k⟩:=k;refine⟨[Cell.obj SQ (eI (K++L) (bg t) q)],?_⟩;have k:call prog (m+93) SX [.r g.e,.v (.o 0)] (rh g (K++L) (bg t) 0)=.w bK (rh g (K++L) (bg t) q):=k;rw[execs,exec,yR (F:=(k7<|m+93)) k];rfl
|some y=>
    obtain⟨d,q⟩:=y;rw[j]at f k;obtain⟨_,U,n,C,_⟩:=ok d q j;have k:call prog (m+93) SX [.r g.e,.v (.o 0)] (rh g (K++L) (bg t) 0)=.j (.v d) (rh g (K++L) (bg t) q):=k;rw[za (Z1:=rt K L t g<|sv d) (h1:=rh g (K++L) (bg t) q)<|by rw[exec,yR (F:=(k7<|m+93)) k];rfl];have z:Gm .u (.i q) (.v<|.o (((bg t).u D.str).e:Int)) (rh g (K++L) (bg t) q)=y0 (k8<|q<(bg t).e):=by rw[QA,Ab]
    have G:eval (k7<|m+93) (.bY .N SQ Tf) (rt K L t g<|sv d) (rh g (K++L) (bg t) q)=.j (.i q) (rh g (K++L) (bg t) q):=by rw[eval];show(match GQ (rh g (K++L) (bg t) q)<|y0 (.r g.e)with|some (_,c',fs)=>_|none=>_)=_;rw[Zw];rfl
    have f2:eval (k7<|m+93) (.U .p<|.a .J) (rt K L t g<|sv d) (rh g (K++L) (bg t) q)=.j (.v<|.o (((bg t).u D.str).e:Int)) (rh g (K++L) (bg t) q):=by simp![];rfl
    have l:Gg (k7<|m+93) (.y .u (.bY .N SQ Tf)<|.U .p<|.a .J) (rt K L t g<|sv d) (rh g (K++L) (bg t) q)=.j (decide<|q<(bg t).e) (rh g (K++L) (bg t) q):=by rw[Gg,eval,G,R.ae,f2,R.ae,z];rfl
    dsimp only at f;by_cases c:q<(bg t).e
    .rw[Da c]at f;subst f;rw[FM c]at l;refine⟨[Cell.obj SQ (eI (K++L) (bg t) q)],?_⟩;rw[execs,Zi l];rfl
    .rw[Fk c]at f;subst f;rw[Do c]at l;show Gv _ _=_;rw[ja l,Za (w:=.v d) (h1:=rh g (K++L) (bg t) q) rfl];have:Gv g.e (.j (.v d)<|rh g (K++L) (bg t) q)=.j (.v d) ((rh g (K++L) (bg t) q).A g.e):=by show fin _ _ _=_;unfold fin;rw[Fk<|by rw[Eu];lia,Da<|by rw[rh,Aj2,Q,An3];exact C.ref]
     rw[this];simp[rh]
  .rw[Gb (d:=zp) rfl _ _ _ rfl];simp only[zp];show Gv _ (execs _ _ [sv (du a b),y0 (.s t),u0,u0] h)=_;have I:=(J8 (m+110) h t s).1 o;rw[za (Z1:=[sv (du a b),y0 (.s t),sv (cY<|bg t),u0]) (h1:=h)<|by simp![I]];rw[ja<|by simp![]];have A:dh<|O++M:=λt H=>v t<|(p.m t).p H;have u:=(Ia A B (IM s) 20 YA<|m+1).2 0 (Af0 _) h;rw[show 5*20+(m+1)+11=m+112 by lia,←yK p.m 20]at u;have z0:=p.z0;have z1:=p.z1;have zb:=p.zb;have u:call prog (m+112) Td [.v (cY<|bg t),.v (.o 0),.v (.o 0),.v (.o 0),.p ((O++M).u .m)] h=.j (.v<|lR<|dR (bg t) (pU (K++L) (bg t) 20) 0) h:=u;rw[za (Z1:=[sv (du a b),y0 (.s t),sv (cY<|bg t),sv (lR<|dR (bg t) (pU (K++L) (bg t) 20) 0)]) (h1:=h)<|by simp![z0,z1,zb,u]];cases j:dR (bg t) (pU (K++L) (bg t) 20) 0 with
|none=>
    rw[j]at f;subst f;rw[Za (w:=.v .L) (h1:=h)]
    .exact Ga _ _ _ rfl
    .rw[Zi (h1:=h)<|by simp![lR]];exact Za rfl
|some y=>
    obtain⟨d,q⟩:=y;rw[j]at f;obtain⟨_,U,n,C,_⟩:=ok d q j;have l:Gg (k7<|m+112) (.or (.cm u9 .N)<|.y .u (.G .N<|.o 1)<|.w .sub (.U .p<|.a .J)<|.o 1) [sv (du a b),y0 (.s t),sv (cY<|bg t),sv (lR<|y0 (d,q))] h=.j (k8<|q<(bg t).e) h:=by
     have z:Gm .u (.i q) (.i<|(bg t).e) h=y0 (k8<|q<(bg t).e):=QA ..;have J:cz .p [.v (cY<|bg t)] h=.j (.i<|(bg t).e+1) h:=by show R.ok (W.v<|D.int ((((bg t).u D.str++[D.str []]).e:Nat):Int)) h=_;rw[show(((bg t).u D.str++[D.str []]).e:Nat)=(bg t).e+1 by simp]
     have N:GB .sub (.i<|(bg t).e+1) (.v<|.o 1) h=.j (.i<|(bg t).e) h:=by rw[Gz];show R.ok (W.v<|D.int<|(((bg t).e+1:Nat):Int)-1) h=_;rw[show((((bg t).e+1:Nat):Int)-1)=(((bg t).e:Nat):Int)by lia]
     have y2:cc (.t [d,.n q]) (.v<|.o 1) h=y0 (.n q):=rfl;simp![lR,J,N,y2,z]
    dsimp only at f;by_cases c:q<(bg t).e
    .rw[Da c]at f;subst f;rw[FM c]at l;rw[Za (w:=.v .L) (h1:=h)]
     .exact Ga _ _ _ rfl
     .rw[Zi l];exact Za rfl
    .rw[Fk c]at f;subst f;rw[Do c]at l;rw[ja l,Za (w:=.v d) (h1:=h)<|by simp![lR];rfl];exact Ga _ _ _ rfl
 .have o:∃c∈t,¬dC c:=by refine Ad7 λz=>o λc h=>Ad7 λy=>z ⟨c,h,y⟩
  refine⟨u0,λd e=>(by cases e),λm g _=>⟨[],?_⟩,λm h a b O M p=>?_⟩
  .rw[Gb (d:=zk) rfl _ _ _ rfl];simp only[zk];show Gv _ (execs _ _ [sv (wD K L),y0 (.s t),u0,u0,u0] g)=_;rw[ja<|by simp![];rfl,execs,show exec (k7<|m+93) (.p 2<|.j "signs_of"<|.a .B) [sv (wD K L),some (.s t),none,none,none] g=.w bK g by simp![J1 (m+91) g t o<|YD];rfl,Ac7];rfl
  .rw[Gb (d:=zp) rfl _ _ _ rfl];simp only[zp];show Gv _ (execs _ _ [sv (du a b),y0 (.s t),u0,u0] h)=_;rw[za (Z1:=[sv (du a b),y0 (.s t),sv .L,u0]) (h1:=h)<|by simp![(J8 (m+110) h t s).2 o]];rw[Za (w:=.v .L) (h1:=h)]
   .exact Ga _ _ _ rfl
   .rw[Zi (h1:=h)<|by simp![]];exact Za rfl
theorem tV:∀t:Tx,(∀c∈t,aN c=Xl)->nk Xl t=0
|[],_=>rfl
|c::t,h=>by have a:=h c Aa;rw[nk,a,tV t λd b=>h d<|Aa0 _ b,eD,Da ⟨a,.p a⟩]
def C4(h:∀c∈t,aN c=Xl):nu t<=1:=by
 cases t with
|nil=>exact Af0 _
|cons c t=>
  have a:=h c Aa;show eD Wd c+nk _ t<=1;rw[a,tV t λd b=>h d<|Aa0 _ b];unfold eD;have:=uR [c];split
  .lia
  .split<;>lia
def Hw:∀c,97<=c->c<=122->aN c=Xl:=by
 intro c b a;have:∀i,i<26->aN (97+i)=Xl:=by decide
 have:=this (c-97) YB
 rwa [show 97+(c-97)=c by lia]at this
def q5(g:Zj t):nu t<=1:=C4 λc a=>Hw c (g.gg c a).1 (g.gg c a).2
def yc(h:∀t∈N,Zj t):dh N:=λt a=>by
 have g:=h t a;obtain⟨c,r,rfl⟩:∃c r,t=c::r:=by
  cases t with
|nil=>exact absurd g.lo YC
|cons c r=>exact⟨c,r,rfl⟩
 have b:=g.gg c Aa;have ne:∀x:Nat,x<97\/x=126->c::r≠[x]:=λx d z=>by cases z;lia
 refine⟨by simp,?_,ne 126 YA,ne 94 YA,ne 40 YA⟩;unfold nb;rw[Fk λz=>?_];simp[Oj]at z;rcases z with z|z|z|z<;>cases z<;>lia
def Nc(bs):Kc (bs.u .C)=y0 bs:=by
 induction bs with
|nil=>rfl
|cons b bs a=>rw[Ac3,Kc,a];rfl
def sV{bs:List Bool}(q:eval F e Z h=.j (.j<|bs.u .C) h):eval F (.U .N<|.j e .p) Z h=.j (.b<|bs.N id) h:=by rw[eval,Gn,q];show((R.of h _).p _)=_;rw[show W.bh h _=y0 (bs.u D.bl)from rfl,Ac8,Nc];simp[aC]
def vU{t L:Tx}(hi:Gs F it Z h=.j (c8 t) h)(i:t.e<=90000)(f:∀c,eval F el (y0 (.s [c])::aB.u λj=>Gq Z j) h=.j (.b<|L.p c) h):
 eval F (.U .N<|.a<|.Q [0] k9 1 aB it u9 (.bl k9) el) Z h=.j (.b<|t.N L.p) h:=by
 have e:eval F (.Q [0] k9 1 aB it u9 (.bl k9) el) Z h=.j (.j<|(c8 t).u λd=>match d with|.m [c]=>.C<|L.p c|_=>.L) h:=by refine Jl (λd=>match d with|.m [c]=>.C _|_=>.L) hi (by rw[Gf];simp[c8];exact YD) ?_;intro d a;obtain⟨c,g,rfl⟩:=Ad3.j a;exact⟨y0 _::aB.u λj=>Gq Z j,rfl,.b _,f c,rfl⟩
 have b:(c8 t).u (λd=>match d with|.m [c]=>D.bl<|L.p c|_=>.L)=(t.u L.p).u .C:=by simp[c8,Af4]
 rw[b]at e;rw[sV e,Aj6];rfl
def iw(t:Tx):Bool:=(k8 (1<=t.e)&&k8 (t.e<=8))&&t.N bB.p
def iE(t:Tx):Bool:=iw t&&!k8 (t∈taken)
def oO(t)(a:t.e<=90000)(h):cz .p [.s t] h=aC (.n t.e) h:=by rw[len_str,Da<|by rw[Gf];exact YD]
def EN(k)(t)(j:t.e<=90000)(h):call prog (k+2) "is_name" [.s t] h=.j (.b<|iE t) h:=by
 have b:call prog (k+1) "is_word" [.s t] h=.j (.b<|iw t) h:=by
  rw[Gb rfl _ _ _ rfl];have i:prog.T.j "MOST_LETTERS"=some _:=rfl;have e:=oO t j h;simp only[WY];have f:k8 ((1:Int)<=(t.e:Int))=k8 (1<=t.e):=decide_eq_decide.p YB;have g:k8 ((t.e:Int)<=(8:Int))=k8 (t.e<=8):=decide_eq_decide.p YB;unfold iw;cases c:k8 (1<=t.e)&&k8 (t.e<=8)with
|false=>
   rw[Za]
   .exact Ga _ _ _ rfl
   .rw[Zi]
    .exact Za rfl
    .cases a:k8 (1<=t.e)with
 |false=>simp![qA,Ty.ck,e,rK,i,f,g,a]
 |true=>rw[a,Ak0]at c;simp![qA,Ty.ck,e,rK,i,f,g,a,c]
|true=>
   obtain⟨a,m⟩:=Ag6.j c;rw[ja<|by simp![qA,Ty.ck,e,rK,i,f,g,a,m]];have l:=vU (it:=.seq .A) (el:=.y .p .A<|.con "LETTERS") (aB:=[]) (Z:=[some (.s t)]) (h:=h) (t:=t) (L:=bB) rfl j fun c=>by rw[eval,je rfl,R.ae,eval,show(k7 k).con.j "LETTERS"=some (.m bB)from rfl];simp only[aC,R.ae,Xt,R.af]
   refine(congrArg _<|Za<|jc rfl<|show eval _ _ _ h=_ from l).x<|Ga _ _ _ rfl
 rw[Gb (d:=qG) rfl _ _ _ rfl];have lt:prog.T.j "TAKEN"=some (.p<|taken.u .m):=rfl;have n:Gm .y _ _ h=y0 _:=zq t taken h;simp only[qG];unfold iE;cases c:iw t with
|false=>rw[c]at b;simp![b];rfl
|true=>rw[c]at b;simp![b,lt,n];rfl
def xQ(c):bB.p c=k9↔97<=c/\c<=122:=by
 constructor
 .intro h;have:∀c∈bB,97<=c/\c<=122:=by decide
  exact this c<|Ad8.j h
 .intro⟨a,b⟩;have:∀i,i<26->bB.p (97+i)=true:=by decide
  have:=this (c-97) YB
  rwa [show 97+(c-97)=c by lia]at this
def fq:iE t=k9↔Zj t:=by unfold iE iw;simp only[Aa9,On,Ad6,Sj,PX];exact⟨by rintro⟨⟨⟨a,b⟩,c⟩,d⟩;exact⟨a,b,λx e=>(xQ x).j<|c x e,d⟩,λg=>⟨⟨⟨g.lo,g.hi⟩,λx e=>(xQ x).p<|g.gg x e⟩,g.free⟩⟩
theorem pV:∀(xs L),GX L xs<=xs.e
|[],_=>Aa4 _
|x::xs,L=>by have:=pV xs<|L++[x];rw[GX,Ab1];split<;>lia
theorem J3:∀(xs L),GX L xs=xs.e↔xs.C/\∀x∈xs,x∉L
|[],_=>⟨λ_=>⟨Rr,λ_ h=>absurd h Ab9⟩,λ_=>rfl⟩
|x::xs,L=>by
  have g:=J3 xs<|L++[x];have le:=pV xs<|L++[x];rw[GX,Ab1,Ag0];by_cases c:x∈L
  .have:(L.G (·==x))=true:=Ao1.p ⟨x,c,Ot x⟩;rw[this,Da rfl];exact⟨λz=>by lia,λz=>absurd c<|z.2 x Aa⟩
  .have:(L.G (·==x))=false:=by rw[Ag8];intro z;obtain⟨y,d,e⟩:=Ao1.j z;exact c<|beq_iff_eq.j e▸d
   rw[this,Fk Ab0];constructor
   .intro z;obtain⟨n,f⟩:=g.j YB;refine⟨⟨λm=>f x m<|Aa8 _ Aa,n⟩,λy d=>?_⟩;rcases Aa6.j d with rfl|d
    .exact c
    .exactλm=>f y d<|Ad4 _ m
   .intro⟨⟨a,b⟩,f⟩;have:=g.p ⟨b,λy d m=>by
     rcases Ab4.j m with m|m
     .exact f y (Aa0 _ d) m
     .exact a<|Ab2.j m▸d⟩
    lia
theorem yH:∀(x y:Tx),¬y<x->x≠y->x<y
|[],[],_,h=>absurd rfl h
|[],y::b,_,_=>Ao y b
|x::a,[],h,_=>absurd (Ao x a) h
|x::a,y::b,h,d=>by
  rw[Rt]at h⊢;by_cases c:x=y
  .subst c;exact .u ⟨rfl,yH a b (λz=>h<|.u ⟨rfl,z⟩)<|λz=>d<|by rw[z]⟩
  .exact .p YB
theorem ZQ:∀(x y z:Tx),x<y->y<z->x<z
|x,[],z,h,_=>absurd h<|SF x
|x,y::c,[],_,h=>absurd h<|SF _
|[],y::c,z::d,_,_=>Ao _ _
|x::e,y::c,z::d,h,a=>by
  rw[Rt]at h a⊢;rcases h with h|⟨h,f⟩
  .rcases a with a|⟨a,b⟩
   .exact .p YB
   .exact .p YB
  .rcases a with a|⟨a,b⟩
   .exact .p YB
   .exact .u ⟨by lia,ZQ e c d f b⟩
theorem xZ(x z):∀ys:List Tx,z∈GR x ys↔z=x\/z∈ys
|[]=>by simp[GR]
|y::ys=>by
  have b:=xZ x z ys;rw[GR];split
  .rw[Aa6,b,Aa6];constructor
   .rintro(a|a|a)
    .exact .u<|.p a
    .exact .p a
    .exact .u<|.u a
   .rintro(a|a|a)
    .exact .u<|.p a
    .exact .p a
    .exact .u<|.u a
  .rw[Aa6]
theorem vF(x):∀ys:List Tx,(GR x ys).e=ys.e+1
|[]=>rfl
|y::ys=>by
  rw[GR];split
  .rw[Ab1,vF x ys,Ab1]
  .rfl
theorem tP(x):∀ys:List Tx,ys.a0 (·<·)->x∉ys->(GR x ys).a0 (·<·)
|[],_,_=>Al3 _ _
|y::ys,h,b=>by
  rw[Af2]at h;rw[GR];split
  .rename_i c;refine Af2.p ⟨λz a=>?_,tP x ys h.2 λm=>b<|Aa0 _ m⟩;rcases(xZ x z ys).j a with rfl|a
   .exact c
   .exact h.1 z a
  .rename_i c;have d:=yH x y c λe=>b<|e▸Aa;refine Af2.p ⟨λz a=>?_,Af2.p h⟩;rcases Aa6.j a with rfl|a
   .exact d
   .exact ZQ _ _ _ d<|h.1 z a
theorem qj(z):∀xs:List Tx,z∈Gc xs↔z∈xs
|[]=>Iff.rfl
|x::xs=>by rw[Gc,xZ,qj z xs,Aa6]
theorem wh:∀xs:List Tx,(Gc xs).e=xs.e
|[]=>rfl
|x::xs=>by rw[Gc,vF,wh xs,Ab1]
theorem WQ:∀xs:List Tx,xs.C->(Gc xs).a0 (·<·)
|[],_=>Ak.nil
|x::xs,h=>by rw[Ag0]at h;exact tP x _ (WQ xs h.2) λm=>h.1<|(qj x xs).j m
def Q0(p:xs.Perm ys)(c:xs.C):Gc xs=Gc ys:=
 PL (λa b _ _ x y=>absurd (ZQ a b a x y)<|SH a) (WQ xs c) (WQ ys<|p.nodup_iff.j c)<|(xb xs).x<|p.x (xb ys).j
def qY(a:xs.C):Gc (Gc xs)=Gc xs:=Q0 (xb xs)<|(xb xs).nodup_iff.p a
def wW(ts):GG (ts.u .m)=y0 ts:=xq ts
def Nm.sub (h:Nm b)(s:a.Sublist b):Nm a:=⟨s.nodup h.nd,λt c=>h.j t<|s.subset c⟩
def AS(h:Nm<|a++b):a.C:=(h.sub<|List.sublist_append_left a b).nd
def u4(h:Nm<|a++b):b.C:=(h.sub<|List.sublist_append_right a b).nd
noncomputable abbrev eX(c:String):D:=.exc c []
def JP:execs F (.j (.raise c<|.a<|.m s) ss) Z h=.w (eX c) h:=rfl
def iy(e:Gg F c Z h=.j k9 h)(r:execs F (.j s .p) Z h=.w d h1):execs F (.j (.u c (.j s .p) .p) ss) Z h=.w d h1:=by rw[execs,Zi e,r,O.fk]
def g8(A B:List Tx):Prop:=Nm (A++B)/\A.e<=4/\B.e<=4
def yU(k)(F:A.e<=5)(E:B.e<=5)(q:∀t∈A++B,t.e<=90000)(h):(g8 A B->call prog (k+3) "words_of" [.v (aU A),.v (aU B)] h=.j (.v<|wD (Gc A)<|Gc B) h)/\(¬g8 A B->call prog (k+3) "words_of" [.v (aU A),.v (aU B)] h=.w (eX Tu) h):=by
 rw[Gb rfl _ _ _ rfl];have i:prog.T.j "MOST_NAMES"=some _:=rfl;have s:(A.u D.str).e+(B.u D.str).e<=bp:=by rw[Gf];simp;lia
 simp only[wK];show(_->Gv _ (execs _ _ [sv (aU A),sv (aU B),u0] h)=_)/\(_->Gv _ (execs _ _ [sv (aU A),sv (aU B),u0] h)=_);rw[za (Z1:=[sv (aU A),sv (aU B),y0 (.l<|(A++B).u .m)]) (h1:=h)<|by simp![Ce,jJ,s,Oi];rw[Ad]];have p:eval (k7<|k+2) jn [sv (aU A),sv (aU B),y0 (.l<|(A++B).u .m)] h=.j (.j<|((A++B).u iE).u .C) h:=by
  have:eval (k7<|k+2) jn [sv (aU A),sv (aU B),y0 (.l<|(A++B).u .m)] h=.j (.j<|((A++B).u D.str).u λd=>match d with|.m t=>.C<|iE t|_=>.L) h:=by rw[jn,Jl (h:=h) (ds:=(A++B).u D.str) (λd=>match d with|.m t=>.C<|iE t|_=>.L) (NV rfl)<|by rw[Gf];simp;lia];intro d C;obtain⟨t,b,rfl⟩:=Ad3.j C;refine⟨[y0 _],rfl,.b _,?_,rfl⟩;simp![EN k t (q t b) h]
  rw[this,Af4,Af4];rfl
 have e:=sV p;have n:∀m,(W.v<|D.lst m).bh h=y0 m:=λ_=>rfl;have l:(A++B).e<1000:=by simp;lia
 have le:=pV (A++B) [];have v:∀x:List Tx,(W.v<|aU x).ea=y0 _:=λ_=>rfl;have y:A.e<64:=KM ‹_› YA;have r:B.e<64:=KM ‹_› YA;by_cases c:∀t∈A++B,Zj t
 .have z1:((A++B).u iE).N id=true:=by rw[Aj6];exact Ad6.p λt b=>fq.p<|c t b
  rw[z1]at e;rw[ja<|by rw[Gg,eval,e];rfl];by_cases f:(A++B).C
  .have u:GX [] _=(A++B).e:=(J3 (A++B) []).p ⟨f,λ_ _=>Ab9⟩;have g:k8 (((GX []<|A++B:Nat):Int)<((((A++B).u D.str).e:Nat):Int))=false:=Do (by rw[u,Ab];lia);rw[ja<|by simp![n,wW,l,Oi,jG,Qm,g]];by_cases o:A.e<=4/\B.e<=4
   .refine⟨λ_=>?_,λz=>absurd ⟨⟨f,c⟩,o⟩ z⟩;have a:k8 ((4:Int)<((A.u D.str).e:Int))=false:=Do (by rw[Ab];lia);have j:k8 ((4:Int)<((B.u D.str).e:Int))=false:=Do (by rw[Ab];lia);rw[ja<|by simp![Xu,i,Js,a,j]];rw[Za (w:=.v<|wD (Gc A)<|Gc B) (h1:=h)<|jc rfl<|by simp![v,wW,y,r,Oi,XI,aC]];exact Ga _ _ _ rfl
   .refine⟨λz=>absurd z.2 o,λ_=>?_⟩;rw[iy _ JP]
    .rfl
    by_cases G:A.e<=4
    .have a:k8 ((4:Int)<((A.u D.str).e:Int))=false:=Do (by rw[Ab];lia);have j:k8 ((4:Int)<((B.u D.str).e:Int))=true:=FM (by rw[Ab];lia);simp![Xu,i,Js,a,j]
    .have a:k8 ((4:Int)<((A.u D.str).e:Int))=true:=FM (by rw[Ab];lia);simp![Xu,i,Js,a]
  .have u:GX [] (A++B)≠(A++B).e:=λz=>f ((J3 (A++B) []).j z).1;have g:k8 (((GX []<|A++B:Nat):Int)<((((A++B).u D.str).e:Nat):Int))=true:=FM (by rw[Ab];lia);refine⟨λz=>absurd z.1.nd f,λ_=>?_⟩;rw[iy (by simp![n,wW,l,Oi,jG,Qm,g]) JP];rfl
 .have z1:((A++B).u iE).N id=false:=by rw[Aj6];refine Ag8.p λz=>c λt b=>fq.j<|Ad6.j z t b
  rw[z1]at e;refine⟨λz=>absurd z.1.j c,λ_=>?_⟩;rw[iy (by rw[Gg,eval,e];rfl) JP];rfl
def o7(k)(w)(ss)(c:ss.e<=12)(h):call prog (k+1) "theory_of" [.v w,.t ss] h=.j (.t [w,.p ss]) h:=by rw[Gb rfl _ _ _ rfl];have b:prog.T.j "MOST_SAYINGS"=some _:=rfl;have a:k8 (12<(ss.e:Int))=false:=Do YB;simp only[Qu];rw[ja<|by simp![Xu,b,Js,a]];exact Ga _ _ _ rfl
def Cb(k)(w)(ss)(c:12<ss.e)(h):call prog (k+1) "theory_of" [.v w,.t ss] h=.w (eX "Crowded") h:=by rw[Gb rfl _ _ _ rfl];have b:prog.T.j "MOST_SAYINGS"=some _:=rfl;have a:k8 (12<(ss.e:Int))=true:=FM YB;simp only[Qu];rw[iy (by simp![Xu,b,Js,a]) JP];rfl
mutual
theorem nO(h:AH):∀{d:D},Gp d=k9->res h d=d
|.L,_=>rfl
|.C _,_=>rfl
|.o _,_=>rfl
|.m _,_=>rfl
|.p xs,q=>by rw[res,GM h (ds:=xs) q]
|.u xs,q=>by rw[res,GM h (ds:=xs) q]
|.j _,q=>by cases q
|.exc _ _,q=>by cases q
|.err _ _ _,q=>by cases q
theorem GM(h:AH):∀{ds:List D},Gi ds=k9->GZ h ds=ds
|[],_=>rfl
|d::ds,q=>by have q:(Gp d&&Gi ds)=true:=q;rw[Aa9]at q;rw[GZ,nO h q.1,GM h q.2]
end
def Lh(ss)(n:Gi ss=k9)(h):Gm .j (.t ss) (.t []) h=y0 ss.y:=by rw[vT];have e:(W.t ss).dd h=.p ss:=nO h n;have a:(W.t []).dd h=.p []:=rfl;rw[e,a,Da<|by simp[GP,n]];cases ss<;>rfl
def CZ(ss)(n:Gi ss=k9)(h):Gm .w (.j ss) (.j []) h=y0 (!ss.y):=by
 rw[yb];have e:(W.own ss).dd h=.u ss:=by rw[W.kH,GM h n]
 have a:(W.own []).dd h=.u []:=rfl;rw[e,a,Da<|by simp[GP,n]];cases ss<;>rfl
abbrev bL(K T:List Tx)(ss:List D):D:=.p [wD K T,.p ss]
abbrev dJ:Tx:=hV
abbrev d4:Tx:=eU
abbrev dA:Tx:=dM
def ax(s:Tx):Tx×Tx×Tx:=match G7 32 s with
|some p=>(p.1,[32],p.2)
|none=>(s,[],[])
theorem vL:∀{s a b},G7 c s=y0 (a,b)->s=a++c::b
|[],_,_,h=>by cases h
|x::s,a,b,h=>by
  rw[G7]at h;split at h
  .rename_i e;cases h;rw[e];rfl
  .obtain⟨⟨g,i⟩,d,f⟩:=Ae6.j h;cases f;exact congrArg (x::·)<|vL d
def jO(s):(ax s).1.e<=s.e/\(ax s).2.2.e<=s.e/\nu (ax s).2.2<=nu s+1:=by
 unfold ax;cases e:G7 32 s with
|none=>exact⟨Aa4 _,Af0 _,Af0 _⟩
|some p=>have:=vL e;have l:=congrArg Ag3 this;simp at l;refine⟨by dsimp only;lia,?_⟩;dsimp only;have a:=tq (p.1++[32]) p.2;rw[Af8]at a;have b:s=p.1++([32]++p.2):=this;rw[←b]at a;lia
def Ht:((ax s).2.1=[32])\/((ax s).2.1=[]/\(ax s).2.2=[]):=by
 unfold ax;cases G7 32 s with
|none=>exact .u ⟨rfl,rfl⟩
|some p=>exact .p rfl
def tM(s)(b:s.e<=90000)(h):mh .part (.s s) [.s [32]] h=.j (.t [.m (ax s).1,.m (ax s).2.1,.m (ax s).2.2]) h:=by
 have a:Ke s [32]=y0 (.p [.m (ax s).1,.m (ax s).2.1,.m (ax s).2.2]):=by unfold Ke ax;cases e:G7 32 s<;>simp[e]
 show((R.of h<|y0 s).p λs h=>(R.of h<|y0 [32]).p λt h=>(R.of h _).p λd h=>if s.e<=bp then aC d h else .fail)=_;rw[R.af,R.ae,R.af,R.ae,a,R.af,R.ae,Da<|by rw[Gf];exact YD]
noncomputable abbrev A1(K T:List Tx)(ss:List D)(s:Tx):Sl:=[sv (bL K T ss),y0 (.s s),sv (wD K T),y0 (.t ss),sv (.m (ax s).1),sv (.m (ax s).2.1),sv (.m (ax s).2.2)]
section
variable{k:Nat}{K T:List Tx}{ss:List D}{h:AH}{s:Tx}
def IK(a:cN .str (.v x)=y0 u9):call prog (k+1) S1 [.v (bL K T ss),.v x] h=.w bK h:=by rw[Gb rfl _ _ _ rfl];simp only[ZI];rw[za (Z1:=[sv _,sv x,sv _,y0 _,u0,u0,u0]) rfl];rw[iy (by simp![a]) rfl];rfl
def Zt(a:s.e<=90000)(e:Gv h.e (execs (k7 k) st (A1 K T ss s) h)=o):
 Gv h.e (execs (k7 k) (.j (.gk [2,3] .A)<|.j (.u (.not<|.cN .B .str) (.a<|.bC "NoText" "row" .aj) .p)<|.j (.gk [4,5,6]<|.cJ .part .B<|.a<|.m [32]) st) [sv (bL K T ss),some (.s s),none,none,none,none,none] h)=o:=by
 rw[za rfl];rw[ja<|by simp![qA,Ty.ck]];rw[za ?_]
 .exact e
 .simp![yJ,Oi,tM s a h]
def tU(f:s.e<=90000)(i:(ax s).1=dA):(∀d,call prog (k+1) Tp [.v (wD K T),.v (.m (ax s).2.2)] h=.j (.v d) h->(ss.e<12->call prog (k+2) S1 [.v (bL K T ss),.s s] h=.j (.v<|bL K T<|ss++[d]) h)/\(ss.e=12->call prog (k+2) S1 [.v (bL K T ss),.s s] h=.w (eX "Crowded") h))∧
 ∀h',call prog (k+1) Tp [.v (wD K T),.v (.m (ax s).2.2)] h=.w bK h'->call prog (k+2) S1 [.v (bL K T ss),.s s] h=.w bK h':=by
 rw[Gb rfl _ [.v _,.s s] h rfl];simp only[ZI];have b:Gm .j (.v<|.m (ax s).1) (.s dA) h=y0 true:=by rw[Xa,i];rfl
 refine⟨λd a=>⟨λg=>Zt f ?_,λg=>Zt f ?_⟩,λh' a=>Zt f ?_⟩
 .have c:GB .j (.t ss) (.t [d]) h=.j (.t<|ss++[d]) h:=by rw[Jn,Da<|by rw[Gf];simp;exact Ag2<|Ab5 ‹_› YA]
  have e:=o7 k (wD K T) (ss++[d]) (by simp;exact IR ‹_›) h;refine(congrArg _<|wc (by simp![b])<|jc rfl ?_).x<|Ga _ _ _ rfl;simp![a,c,e]
 .have c:GB .j (.t ss) (.t [d]) h=.j (.t<|ss++[d]) h:=by rw[Jn,Da<|by rw[Gf];simp;lia]
  have e:=Cb k (wD K T) (ss++[d]) (by simp;lia) h;rw[iy (d:=eX "Crowded") (h1:=h) (by simp![b])<|Wu rfl<|by simp![a,c,e,R.cD]];rfl
 .rw[iy (d:=bK) (h1:=h') (by simp![b])<|Wu rfl<|by simp![a,R.cD]];rfl
def Ha(j:s.e<=90000)(f:(ax s).1=dJ)(p:K.e<=4)(n:T.e<=4)(e:∀t∈K++T,t.e<=90000):(g8 (K++[(ax s).2.2]) T->call prog (k+4) S1 [.v (bL K T []),.s s] h=.j (.v<|bL (Gc<|K++[(ax s).2.2]) (Gc T) []) h)/\(¬g8 (K++[(ax s).2.2]) T->call prog (k+4) S1 [.v (bL K T []),.s s] h=.w (eX Tu) h):=by
 rw[Gb rfl _ _ _ rfl];simp only[ZI];have b:Gm .j (.v<|.m (ax s).1) (.s dA) h=y0 false:=by rw[Xa,f];rfl
 have c:Gm .j (.v<|.m (ax s).1) (.s dJ) h=y0 true:=by rw[Xa,f];rfl
 have l:Gm .j (.t []) (.t []) h=y0 true:=by rfl
 have g:GB .j (.v<|aU K) (.t [.m (ax s).2.2]) h=.j (.v<|aU<|K++[(ax s).2.2]) h:=by rw[Jn,Da<|by rw[Gf];simp;exact YD,aU,Ad];rfl
 have o:=(jO s).2.1
 have i:=yU k (A:=K++[(ax s).2.2]) (B:=T) (by simp;exact YD) (Af9 ‹_›) (λt a=>by
  rcases Ab4.j a with a|a
  .rcases Ab4.j a with a|a
   .exact e t<|Ad4 _ a
   .rw[Ab2.j a];exact Ac0 ‹_› ‹_›
  .exact e t<|Aa8 _ a) h
 refine⟨λq=>Zt j ?_,λq=>Zt j ?_⟩
 .rw[ja<|by simp![b]];have m:=o7 (k+2) (wD (Gc<|K++[(ax s).2.2])<|Gc T) [] YC h;refine(congrArg _<|wc (by simp![c,l])<|jc rfl ?_).x<|Ga _ _ _ rfl;simp![aA,kQ,kP,g,i.1 q,m]
 .rw[ja<|by simp![b]];rw[iy (d:=eX Tu) (h1:=h) (by simp![c,l])<|Wu rfl<|by simp![aA,kQ,kP,g,i.2 q,R.cD]];rfl
def Iu(j:s.e<=90000)(b:(ax s).1=d4)(r:K.e<=4)(o:T.e<=4)(f:∀t∈K++T,t.e<=90000):(g8 K (T++[(ax s).2.2])->call prog (k+4) S1 [.v (bL K T []),.s s] h=.j (.v<|bL (Gc K) (Gc<|T++[(ax s).2.2]) []) h)/\(¬g8 K (T++[(ax s).2.2])->call prog (k+4) S1 [.v (bL K T []),.s s] h=.w (eX Tu) h):=by
 rw[Gb rfl _ _ _ rfl];simp only[ZI];have c:Gm .j (.v<|.m (ax s).1) (.s dA) h=y0 false:=by rw[Xa,b];rfl
 have e:Gm .j (.v<|.m (ax s).1) (.s dJ) h=y0 false:=by rw[Xa,b];rfl
 have m:Gm .j (.v<|.m (ax s).1) (.s d4) h=y0 true:=by rw[Xa,b];rfl
 have l:Gm .j (.t []) (.t []) h=y0 true:=by rfl
 have g:GB .j (.v<|aU T) (.t [.m (ax s).2.2]) h=.j (.v<|aU<|T++[(ax s).2.2]) h:=by rw[Jn,Da<|by rw[Gf];simp;exact YD,aU,Ad];rfl
 have p:=(jO s).2.1
 have i:=yU k (A:=K) (B:=T++[(ax s).2.2]) (Af9 ‹_›) (by simp;exact YD) (λt a=>by
  rcases Ab4.j a with a|a
  .exact f t<|Ad4 _ a
  .rcases Ab4.j a with a|a
   .exact f t<|Aa8 _ a
   .rw[Ab2.j a];exact Ac0 ‹_› ‹_›) h
 refine⟨λq=>Zt j ?_,λq=>Zt j ?_⟩
 .rw[ja<|by simp![c],ja<|by simp![e]];have n:=o7 (k+2) (wD (Gc K)<|Gc<|T++[(ax s).2.2]) [] YC h;refine(congrArg _<|wc (by simp![m,l])<|jc rfl ?_).x<|Ga _ _ _ rfl;simp![aA,kQ,kP,g,i.1 q,n]
 .rw[ja<|by simp![c],ja<|by simp![e]];rw[iy (d:=eX Tu) (h1:=h) (by simp![m,l])<|Wu rfl<|by simp![aA,kQ,kP,g,i.2 q,R.cD]];rfl
def j3(f:s.e<=90000)(e:Gi ss=k9)(h1:(ax s).1≠dA)(h2:ss≠[]\/((ax s).1≠dJ/\(ax s).1≠d4)):call prog (k+1) S1 [.v (bL K T ss),.s s] h=.w bK h:=by
 refine Zt f ?_;have a:∀t,(ax s).1≠t->Gm .j _ _ h=y0 false:=λt q=>by rw[Xa,beq_eq_false_iff_ne.p q]
 have d:=Lh ss e h;have b:∀t,ss≠[]\/(ax s).1≠t->Gg (k7 k) (.and (.y .j .Y<|.m t)<|.y .j .N<|.p .p) (A1 K T ss s) h=.j u9 h:=λt q=>by
  by_cases c:(ax s).1=t
  .have ne:=q.j id λz=>absurd c z;have g:Gm .j (.v<|.m (ax s).1) (.s t) h=y0 true:=by rw[Xa,c,Ot]
   rw[show ss.y=u9 by cases ss<;>simp at ne⊢]at d;simp![g,d]
  .simp![a t c]
 rw[ja<|by simp![a dA h1],ja (b dJ (h2.imp id (·.1))),ja (b d4 (h2.imp id (·.2)))];rfl
def LR(n):call prog (n+1) "rows_taken" [.v (bL K T ss)] h=.j (.i<|K.e+T.e+ss.e) h:=by rw[Gb rfl _ _ _ rfl];simp only[ZB];rw[za (Z1:=[sv _,sv _,y0 _]) rfl];have a:=Ws K.e T.e;have a2:=Ws (K.e+T.e) ss.e;rw[Za (w:=.i<|K.e+T.e+ss.e) (h1:=h)<|jc rfl<|by simp![aA,kQ,kP,Xu,Ab,a,a2]];exact Ga _ _ _ rfl
abbrev f6(n:Nat):D:=.err "NoText" "row"<|.n n
def Co(e:call prog k S1 [.v d,.v x] h=.j (.v r) h):call prog (k+1) Tv [.v d,.v x] h=.j (.v r) h:=by rw[Gb rfl _ _ _ rfl];simp only[xz];rw[Za<|by rw[exec];show(match call prog k S1 [.v d,.v x] h with|.j (.v d) h=>_|.w d a=>_|_=>_)=_;rw[e]];exact Ga _ _ _ rfl
def dE(x:R W)(h:AH):Prop:=∃d h',x=.w d (h++h')/\GO d=true/\b9 prog.cl (.v d) ["WorldError"]=some true
def dE.nt (e:x=.w bK (h++h')):dE x h:=⟨_,h',e,rfl,rfl⟩
def dE.pl (e:x=.w (eX c) h)(i:b9 prog.cl (.v<|eX c) ["WorldError"]=some true):dE x h:=⟨_,[],by rw[e,Ac7],rfl,i⟩
def Cz(a:GE h=k9)(e:dE (call prog (k+1) S1 [.v (bL K T ss),.v x] h) h):call prog (k+2) Tv [.v (bL K T ss),.v x] h=.w (.p [f6 (K.e+T.e+ss.e)]) h:=by
 obtain⟨d,f,e,c,ix⟩:=e;rw[Gb rfl _ _ _ rfl];simp only[xz];show Gv _ (execs _ _ [sv _,sv x] h)=_;have g:GT d h.e (h++f)=h:=by unfold GT;rw[Aj2,c,a];rfl
 show Gv _ (O.seq (match call prog _ S1 [.v _,.v x] h with|.j (.v d) h=>_|.w d i=>_|_=>_) _)=_;rw[e];dsimp only;rw[g];have b:Gk (k7<|k+1) (.a<|.j "rows_taken"<|.a .A) [sv (bL K T ss),sv x] h=.j [.n (K.e+T.e+ss.e)] h:=by simp![LR k]
 rw[b,Kx,ix];rfl
end
noncomputable abbrev hh(g:AH)(K T:List Tx):AH:=g++[.u (K.u .m),.u (T.u .m)]
def nK(g)(K T):(hh g K T)[g.e]?=y0 (.u<|K.u .m):=by simp
def nz(g)(K T):(hh g K T)[g.e+1]?=y0 (.u<|T.u .m):=by rw[Ad5<|Ac9 _,show g.e+1-g.e=1 by lia];rfl
def pd(g)(a:(K++T).e<=100):LN (Gc K) (Gc T) (hh g K T) g.e (g.e+1) K T:=
 ⟨nK g K T,nz g K T,a,λt=>by rw[Ab4,Ab4,qj,qj]⟩
noncomputable def nr(K T:List Tx)(s:Bool)(t:Tx):Bool:=!(k8 (t=[])||(k8 (8<t.e)||(k8 (t∈taken)||k8 (t∈K++T))))&&(k8 ((if s then T else K).e<4)&&t.N bB.p)
def Cj(k)(t)(o:t.e<=90000)(g)(v:(K++T).e<=100)(s):call prog (k+1) "_law_name_row" [.s t,.v (du g.e<|g.e+1),.i s.j] (hh g K T)=.j (.b<|nr K T s t) (hh g K T):=by
 have m:=pd g v;rw[Gb (d:=Xo) rfl _ _ _ rfl];simp only[Xo];show Gv _ _=_;rw[za (Z1:=[y0 (.s t),sv (du g.e<|g.e+1),si s.j,y0 (.l<|ao.u .m)]) (h1:=hh g K T) rfl];have z0:=m.z0;have z1:=m.z1;have zb:=m.zb;have e:Gm .j (.s t) (.s []) (hh g K T)=y0 (k8<|t=[]):=by rw[Xa];congr 1;rw[P8,Pw,On]
 have f:Gm .gt (.i t.e) (.v<|.o 8) (hh g K T)=y0 (k8<|8<t.e):=by rw[Js];congr 1;rw[Pa];lia
 have i:Gm .p (.s t) (.j<|(ao++[WB]).u .m) (hh g K T)=y0 (k8<|t∈taken):=Qk t _ (.j<|(ao++[WB]).u .m) (hh g K T) rfl rfl;have a:GB .j (.l<|ao.u .m) (.j [.m WB]) (hh g K T)=.j (.j<|(ao++[WB]).u .m) (hh g K T):=by rw[jB,Da<|by rw[Gf];decide,Ad];rfl
 have u:Gm .p (.s t) (.j<|(K++T).u .m) (hh g K T)=y0 (k8<|t∈K++T):=Qk t (K++T) (.j<|(K++T).u .m) (hh g K T) rfl rfl;have l:=oO t o<|hh g K T;have b:Gg (k7 k) (.or (.y .j .A<|.m [])<|.or (.y .gt (.U .p<|.a .A)<|.o 8)<|.or (.y .p .A<|.w .j .N<|.u<|.a<|.m dM)<|.y .p .A<|.w .j (.G .B<|.o 0)<|.G .B<|.o 1)
  [y0 (.s t),sv (du g.e<|g.e+1),si s.j,y0 (.l<|ao.u .m)] (hh g K T)=.j (k8 (t=[])||(k8 (8<t.e)||(k8 (t∈taken)||k8 (t∈K++T)))) (hh g K T):=by
  cases n:k8<|t=[]with
|true=>rw[n]at e;simp![e];rfl
|false=>
   rw[n]at e;cases p:k8 (8<t.e)with
|true=>rw[p]at f;simp![e,l,f];rfl
|false=>
    rw[p]at f;have a:GB .j (.l<|ao.u .m) (.j [.m dM]) (hh g K T)=_:=a;cases q:k8 (t∈taken)with
|true=>rw[q]at i;simp![e,l,f,a,i];rfl
|false=>rw[q]at i;simp![e,l,f,a,i,z0,z1,zb,u];rfl
 unfold nr;cases c:k8 (t=[])||(k8 (8<t.e)||(k8 (t∈taken)||k8 (t∈K++T)))with
|true=>rw[c]at b;rw[wc (w:=.b u9) b rfl];exact Ga _ _ _ rfl
|false=>
  rw[c]at b;rw[ja b];have i1:cc (.v<|du g.e<|g.e+1) (.i s.j) (hh g K T)=y0 (.j<|if s then g.e+1 else g.e):=by cases s<;>rfl
  have y:cz .p [.r (if s then g.e+1 else g.e)] (hh g K T)=aC (.o ((if s then T else K).e:Int)) (hh g K T):=by
   cases s with
|true=>show(R.of _<|W.bh (hh g K T)<|.r<|g.e+1).p _=_;simp only[W.bh,nz,R.af,R.ae,Ab];rfl
|false=>show(R.of _<|W.bh (hh g K T)<|.r g.e).p _=_;simp only[W.bh,nK,R.af,R.ae,Ab];rfl
  have r:Gm .u (.v<|.o ((if s then T else K).e:Int)) (.v<|.o 4) (hh g K T)=y0 (k8<|(if s then T else K).e<4):=QA _ 4 _;have j:=vU (F:=(k7 k)) (it:=.seq .A) (el:=.y .p .A<|.m bB) (aB:=[]) (Z:=[y0 (.s t),sv (du g.e<|g.e+1),si s.j,y0 (.l<|ao.u .m)]) (h:=hh g K T) (t:=t) (L:=bB) rfl o λc=>by rw[eval,je rfl,R.ae,show eval (k7 k) (.m bB) _ (hh g K T)=.j (.s bB) (hh g K T)from rfl];simp only[R.ae,Xt,R.af]
  have j:eval (k7 k) (.U .N<|.a Jq) [y0 (.s t),sv (du g.e<|g.e+1),si s.j,y0 (.l<|ao.u .m)] (hh g K T)=_:=j;rw[Za (w:=.b<|k8 ((if s then T else K).e<4)&&t.N bB.p) (h1:=hh g K T)]
  .exact Ga _ _ _ rfl
  .refine jc rfl ?_;have x:eval (k7 k) (.y .u (.U .p<|.a<|.G .B .J)<|.o 4) [y0 (.s t),sv (du g.e<|g.e+1),si s.j,y0 (.l<|ao.u .m)] (hh g K T)=.j (.b<|k8<|(if s then T else K).e<4) (hh g K T):=by simp![i1,y,r]
   rw[eval,x];cases k8<|(if s then T else K).e<4with
|false=>rfl
|true=>simp only[R.ae,Gu,R.af,j,Ak0]
def dq:nr K T s t=k9↔Zj t/\t∉K++T/\(if s then T else K).e<4:=by
 unfold nr;simp only[Aa9,Sj,Am8,PX,On,Ad6];constructor
 .intro⟨⟨a,b,c,d⟩,e,f⟩;refine⟨⟨?_,(Ox ‹_›),λx h=>(xQ x).j<|f x h,c⟩,d,e⟩;cases t with
|nil=>exact absurd rfl a
|cons _ _=>simp
 .intro⟨g,d,e⟩;refine⟨⟨λz=>?_,by have:=g.hi;exact Nat.not_lt.2 ‹_›,g.free,d⟩,e,λx h=>(xQ x).p<|g.gg x h⟩;have:=g.lo;rw[z]at this;exact absurd this YA
structure dY(K T:List Tx)(ss:List D):Prop where
 nm:Nm<|K++T
 lk:K.e<=4
 lt:T.e<=4
 ls:ss.e<=12
 gd:∀d∈ss,∃n,Gd n d/\n<=190
theorem dY.ref (i:dY K T ss):Gi ss=true:=zD λd a=>let⟨_,g,_⟩:=i.gd d a;g.ref
def se(i:dY K T ss)(t):g8 (Gc K++[t]) (Gc T)↔nr K T u9 t=true:=by
 rw[dq];have p:((Gc K++[t])++Gc T).Perm<|(K++T)++[t]:=by rw[Af8,Af8];exact(xb K).append<|List.perm_append_comm.x<|(xb T).p [t]
 unfold g8;rw[Aa2,(xb K).u,(xb T).u];constructor
 .intro⟨n,a,b⟩;have c:=n.perm p.j;refine⟨c.j t YC,λz=>?_,by show K.e<4;simp at a;exact Oo ‹_›⟩;have:=Al1.j c.nd;exact this.2.2 t z t YC rfl
 .intro⟨g,d,e⟩;exact⟨(i.nm.snoc g d).perm p,by have e:=e;simp;exact IR ‹_›,i.lt⟩
def uA(i:dY K T ss)(t):g8 (Gc K) (Gc T++[t])↔nr K T k9 t=true:=by
 rw[dq];have p:(Gc K++(Gc T++[t])).Perm<|(K++T)++[t]:=by rw[Af8];exact(xb K).append<|(xb T).p [t]
 unfold g8;rw[Aa2,(xb K).u,(xb T).u];constructor
 .intro⟨n,a,b⟩;have c:=n.perm p.j;refine⟨c.j t YC,λz=>?_,by show T.e<4;simp at b;exact Oo ‹_›⟩;have:=Al1.j c.nd;exact this.2.2 t z t YC rfl
 .intro⟨g,d,e⟩;exact⟨(i.nm.snoc g d).perm p,i.lk,by have e:=e;simp;exact IR ‹_›⟩
noncomputable abbrev dN(w:W)(g:AH)(ss:List D)(j:Nat)(x:D)(a e c b d:Option W):Sl:=[y0 w,sv (du g.e<|g.e+1),y0 (.j ss),si j,sv x,a,e,c,b,d]
def mC(x:D):Prop:=x=.L\/x=.o 7\/∃t,x=.m t/\t.e<=80000/\nu t<=180
def oy(m:Nat)(w:W)(g:AH)(K T:List Tx)(ss:List D)(j:Nat)(x:D)(a e c b d:Option W):Prop:=
 execs (k7<|m+114) Xk (dN w g ss j x a e c b d) (hh g K T)=.j (.i j) (hh g K T)/\∀q,GE q=k9->dE (call prog (m+113) S1 [.v (bL (Gc K) (Gc T) ss),.v x] q) q
def sO(m:Nat)(w:W)(g:AH)(K T:List Tx)(ss:List D)(j:Nat)(x:D)(d i o f n:Option W):Prop:=
 ∃c b a p k l h e,dY c b a/\c.e+b.e+a.e=K.e+T.e+ss.e+1∧
  execs (k7<|m+114) Xk (dN w g ss j x d i o f n) (hh g K T)=.p (dN w g a j x p k l h e) (hh g c b)∧
  ∀q,GE q=k9->call prog (m+113) S1 [.v (bL (Gc K) (Gc T) ss),.v x] q=.j (.v<|bL (Gc c) (Gc b) a) q
section
variable{m:Nat}{w:W}{g:AH}{K T:List Tx}{ss:List D}{j:Nat}{y5 y6 y7 y8 y9:Option W}
def vf(a:cN .str (.v x)=y0 u9):oy m w g K T ss j x y5 y6 y7 y8 y9:=by refine⟨?_,λq _=>dE.nt<|by rw[Ac7];exact IK a⟩;exact wc (by simp![a]) rfl
def II(i:dY K T ss)(J:s.e<=80000)(L:nu s<=180)(I:(ax s).1=dA)(M:(ax s).2.1=[32])
 (F:h=hh g K T):(execs (k7<|m+114) (.c (.p 8<|.j Tj<|.b .B .v7) (.r (.or (.cm false .v8)<|.y .j (.U .p<|.a .J)<|.o 12) .N)<|.app 2 .v8) (dN w g ss j (.m s) (sv<|.m (ax s).1) (sv<|.m (ax s).2.1) (sv<|.m (ax s).2.2) y8 y9) h=.j (.i j) h/\∀q,GE q=true->dE (call prog (m+113) S1 [.v (bL (Gc K) (Gc T) ss),.s s] q) q)∨
 ∃d,dY K T (ss++[d])/\execs (k7<|m+114) (.c (.p 8<|.j Tj<|.b .B .v7) (.r (.or (.cm false .v8)<|.y .j (.U .p<|.a .J)<|.o 12) .N)<|.app 2 .v8) (dN w g ss j (.m s) (sv<|.m (ax s).1) (sv<|.m (ax s).2.1) (sv<|.m (ax s).2.2) y8 y9) h=.p (dN w g (ss++[d]) j (.m s) (sv<|.m (ax s).1) (sv<|.m (ax s).2.1) (sv<|.m (ax s).2.2) (sv d) y9) h∧
  ∀q,GE q=k9->call prog (m+113) S1 [.v (bL (Gc K) (Gc T) ss),.s s] q=.j (.v<|bL (Gc K) (Gc T)<|ss++[d]) q:=by
 subst F;have pl:=jO s;have b:(K++T).e<=100:=by have:=i.lk;have:=i.lt;simp;lia
 have l:(Gc K++Gc T).e<=100:=by rw[Aa2,wh,wh];rw[Aa2]at b;exact b
 have G:∀t∈Gc K++Gc T,Zj t:=λt u=>i.nm.j t (by rw[Ab4]at u⊢;rw[qj,qj]at u;exact u);obtain⟨r,D,v,E⟩:=yW _ _ l (yc G) (ax s).2.2 YB;have x:=E (m+1) (hh g K T) g.e (g.e+1) K T<|pd g b;have H:exec (k7<|m+114) (.p 8<|.j Tj<|.b .B .v7) (dN w g ss j (.m s) (sv<|.m (ax s).1) (sv<|.m (ax s).2.1) (sv<|.m (ax s).2.2) y8 y9) (hh g K T)=.p (dN w g ss j (.m s) (sv<|.m (ax s).1) (sv<|.m (ax s).2.1) (sv<|.m (ax s).2.2) (sv<|r.getD .L) y9) (hh g K T):=by have x:call prog (m+114) Tj [.v (du g.e<|g.e+1),.v (.m (ax s).2.2)] (hh g K T)=_:=x;simp![x]
 rw[za H];have z:=λq=>tU (k:=m+111) (K:=Gc K) (T:=Gc T) (ss:=ss) (h:=q) (s:=s) (YD) I;cases r with
|none=>simp only[Option.getD_none];refine .p ⟨wc (by simp![]) rfl,λq f=>?_⟩;obtain⟨O,e⟩:=v (m+18) q f;exact dE.nt<|(z q).2 _ e
|some d=>
  simp only[Option.getD_some];obtain⟨_,n,A,N⟩:=D d rfl;have le:cz .p [.p ss] (hh g K T)=aC (.n<|ss.e) (hh g K T):=rfl;have a:=Jd ss.e 12<|hh g K T;have a:Gm .j (.i<|ss.e) (.v<|.o 12) (hh g K T)=_:=a;have p:Gg (k7<|m+114) (.or (.cm u9 .v8)<|.y .j (.U .p<|.a .J)<|.o 12) (dN w g ss j (.m s) (sv<|.m (ax s).1) (sv<|.m (ax s).2.1) (sv<|.m (ax s).2.2) (sv d) y9) (hh g K T)=.j (k8<|ss.e=12) (hh g K T):=by
   have C:eval (k7<|m+114) (.cm u9 .v8) (dN w g ss j (.m s) (sv<|.m (ax s).1) (sv<|.m (ax s).2.1) (sv<|.m (ax s).2.2) (sv d) y9) (hh g K T)=.j (.b u9) (hh g K T):=by cases A<;>rfl
   rw[Gg,eval,C];simp![le,a]
  by_cases c:ss.e=12
  .rw[FM c]at p;refine .p ⟨wc p rfl,λq f=>?_⟩;exact dE.pl (((z q).1 d<|v (m+18) q f).2 c) rfl
  .rw[Do c]at p;have y:ss.e<12:=by have:=i.ls;lia
   refine .u ⟨d,⟨i.nm,i.lk,i.lt,by simp;exact IR ‹_›,λe o=>?_⟩,?_,λq f=>((z q).1 d<|v (m+18) q f).1 y⟩
   .rcases Ab4.j o with o|o
    .exact i.gd e o
    .rw[Ab2.j o];exact⟨n,A,by lia⟩
   .show execs _ (.j _<|.j _ .p) _ _=_;rw[ja p];have B:ss.e<bp:=by rw[Gf];exact Ac0 ‹_›<|by decide
    simp![B,Oi]
def ZP(i:dY K T [])(v:s.e<=80000)(b)(n:(ax s).1=if b then d4 else dJ)(r:h=hh g K T):
 (nr K T b (ax s).2.2=u9->∀q,dE (call prog (m+113) S1 [.v (bL (Gc K) (Gc T) []),.s s] q) q)∧
 (nr K T b (ax s).2.2=k9->∃M L,dY M L []/\M.e+L.e=K.e+T.e+1/\(h.B (if b then g.e+1 else g.e)<|.u<|(if b then T else K).u .m++[.m (ax s).2.2])=hh g M L/\∀q,call prog (m+113) S1 [.v (bL (Gc K) (Gc T) []),.s s] q=.j (.v<|bL (Gc M) (Gc L) []) q):=by
 subst r;have l:∀t∈Gc K++Gc T,t.e<=90000:=λt e=>by have:=(i.nm.j t<|by rw[Ab4]at e⊢;rw[qj,qj]at e;exact e).hi;exact YD
 have o:(Gc K).e<=4:=by rw[wh];exact i.lk
 have lt:(Gc T).e<=4:=by rw[wh];exact i.lt
 have j:=xb K;have pt:=xb T;cases b with
|false=>
  have c:=λq=>Ha (k:=m+109) (h:=q) (s:=s) (YD) n o lt l;refine⟨λz q=>dE.pl ((c q).2 λy=>by rw[(se i _).j y]at z;cases z) rfl,λz=>?_⟩;have a:=(se i (ax s).2.2).p z;obtain⟨u,p,d⟩:=dq.j z;have d:K.e<4:=d;have f:Nm _:=a.1.perm<|(j.j.p _).append pt.j;refine⟨K++[(ax s).2.2],T,⟨f,by simp;exact IR ‹_›,i.lt,i.ls,i.gd⟩,by simp;exact Nat.add_right_comm _ _ _,?_,λq=>?_⟩
  .show(g++[Cell.lst (K.u .m),.u (T.u .m)]).B g.e _=_;rw[Ru _ _<|Aa4 _,R4,hh,Ad];rfl
  .rw[(c q).1 a,qY<|u4 i.nm,Q0 (j.p _)<|AS a.1]
|true=>
  have c:=λq=>Iu (k:=m+109) (K:=Gc K) (T:=Gc T) (h:=q) (s:=s) (YD) n o lt l;refine⟨λz q=>dE.pl ((c q).2 λy=>by rw[(uA i _).j y]at z;cases z) rfl,λz=>?_⟩;have a:=(uA i (ax s).2.2).p z;obtain⟨u,p,d⟩:=dq.j z;have d:T.e<4:=d;have f:Nm _:=a.1.perm<|j.j.append<|pt.j.p _;refine⟨K,T++[(ax s).2.2],⟨f,i.lk,by simp;exact IR ‹_›,i.ls,i.gd⟩,by simp;exact OS _,?_,λq=>?_⟩
  .show(g++[Cell.lst (K.u .m),.u (T.u .m)]).B (g.e+1) _=_;rw[Ru _ _<|Ac9 _,show g.e+1-g.e=1 by lia,hh,Ad];rfl
  .rw[(c q).1 a,qY<|AS i.nm,Q0 (pt.p _)<|u4 a.1]
end
section
variable{m:Nat}{w:W}{g:AH}{K T:List Tx}{ss:List D}{j:Nat}{y5 y6 y7 y8 y9:Option W}
def dE.pj (e:x=.w bK h):dE x h:=dE.nt<|by rw[Ac7];exact e
def M5(i:dY K T ss)(l:s.e<=80000)(h:(ax s).2.2=[])(q)(v:GE q=k9):dE (call prog (m+113) S1 [.v (bL (Gc K) (Gc T) ss),.s s] q) q:=by
 by_cases k:(ax s).1=dA
 .have j:(Gc K++Gc T).e<=100:=by have:=i.lk;have:=i.lt;rw[Aa2,wh,wh];lia
  have w:∀t∈Gc K++Gc T,Zj t:=λt c=>i.nm.j t (by rw[Ab4]at c⊢;rw[qj,qj]at c;exact c);obtain⟨r,u,p,_⟩:=yW (Gc K) (Gc T) j (yc w) (ax s).2.2 (by rw[h];exact Af0 _);cases r with
|some d=>exact absurd h (u d rfl).1
|none=>obtain⟨y,e⟩:=p (m+18) q v;exact dE.nt<|(tU (YD) k).2 _ e
 by_cases f:ss≠[]\/((ax s).1≠dJ/\(ax s).1≠d4)
 .exact dE.pj<|j3 (YD) i.ref k f
 have x:=Ad7 λz=>f<|.p z;subst x;have a:∀b,nr K T b (ax s).2.2=false:=λb=>by rw[Ag8];intro z;have:=(dq.j z).1.lo;rw[h]at this;exact absurd this YA
 by_cases n:(ax s).1=dJ
 .exact(ZP (g:=[]) i l u9 n rfl).1 (a _) q
 .have o:=Ad7 λz=>f<|.u ⟨n,z⟩;exact(ZP (g:=[]) i l k9 o rfl).1 (a _) q
def LB(b:Bool):G6 (hh g K T) (y0<|.r<|if b then g.e+1 else g.e)=y0 (if b then g.e+1 else g.e,(if b then T else K).u .m):=by
 cases b with
|true=>show(match(hh g K T)[g.e+1]? with|some (.u xs)=>_|_=>_)=_;rw[nz];rfl
|false=>show(match(hh g K T)[g.e]? with|some (.u xs)=>_|_=>_)=_;rw[nK];rfl
def BY(i:dY K T ss)(V:mC x):oy m w g K T ss j x y5 y6 y7 y8 y9\/sO m w g K T ss j x y5 y6 y7 y8 y9:=by
 rcases V with rfl|rfl|⟨s,rfl,u,G⟩
 .exact .p<|vf rfl
 .exact .p<|vf rfl
 have P:∀e,execs (k7 _) (.j (.r (.not<|.cN .Y .str) .N)<|.j (.gk [5,6,7]<|.cJ .part .Y<|.a<|.m [32]) e) (dN w g ss j (.m s) y5 y6 y7 y8 y9) (hh g K T)=execs (k7<|m+114) e (dN w g ss j (.m s) (sv<|.m (ax s).1) (sv<|.m (ax s).2.1) (sv<|.m (ax s).2.2) y8 y9) (hh g K T):=λe=>by rw[ja<|by simp![qA,Ty.ck]];exact za<|by simp![yJ,Oi,tM s (YD)<|hh g K T]
 unfold oy sO;simp only[Xk,P];have k:Gm .j _ _ (hh g K T)=y0 ((ax s).2.1==[]):=Xa ..;have Q:=zq (ax s).1 [dJ,d4,dA]<|hh g K T;rcases Ht (s:=s)with n|⟨n,t⟩
 rotate_left
 .refine .p ⟨wc ?_ rfl,λq A=>M5 i u t q A⟩;rw[n]at k⊢;simp![show Gm .j _ _ _=y0 k9 from k]
 rw[n]at k;have k:Gm .j (.v<|.m (ax s).2.1) (.s []) (hh g K T)=y0 false:=by rw[n];exact k
 have p:Gg (k7<|m+114) (.or (.y .j .v6<|.m [])<|.y .y .v5<|.p<|.c (.m hV) (.m eU)<|.m dM) (dN w g ss j (.m s) (sv<|.m (ax s).1) (sv<|.m (ax s).2.1) (sv<|.m (ax s).2.2) y8 y9) (hh g K T)=.j (!k8 ((ax s).1∈[dJ,d4,dA])) (hh g K T):=by
  have I:eval (k7<|m+114) (.y .y .v5<|.p<|.c (.m hV) (.m eU)<|.m dM) (dN w g ss j (.m s) (sv<|.m (ax s).1) (sv<|.m (ax s).2.1) (sv<|.m (ax s).2.2) y8 y9) (hh g K T)=.j (.b<|!k8 ((ax s).1∈[dJ,d4,dA])) (hh g K T):=by rw[eval,je rfl,R.ae,JC,R.ae,Q];rfl
  have M:eval (k7<|m+114) (.y .j .v6<|.m []) (dN w g ss j (.m s) (sv<|.m (ax s).1) (sv<|.m (ax s).2.1) (sv<|.m (ax s).2.2) y8 y9) (hh g K T)=.j (.b u9) (hh g K T):=by simp![k]
  rw[Gg,eval,M];simp only[R.ae,Gu,R.af,I]
 by_cases c:(ax s).1∈[dJ,d4,dA];rotate_left
 .rw[Do c]at p;refine .p ⟨wc p rfl,λq A=>dE.pj<|j3 (YD) i.ref (λz=>c<|by rw[z];decide)<|.u ⟨λz=>c<|by rw[z];decide,λz=>c<|by rw[z];decide⟩⟩
 rw[FM c]at p;rw[ja p];have o:=Xa (ax s).1 dA<|hh g K T;by_cases l:(ax s).1=dA
 .rw[beq_iff_eq.p l]at o;have v:∀a b,execs (k7<|m+114) (.a<|.u (.y .j .v5<|.m dM) a b) (dN w g ss j (.m s) (sv<|.m (ax s).1) (sv<|.m (ax s).2.1) (sv<|.m (ax s).2.2) y8 y9) (hh g K T)=execs (k7<|m+114) a (dN w g ss j (.m s) (sv<|.m (ax s).1) (sv<|.m (ax s).2.1) (sv<|.m (ax s).2.2) y8 y9) (hh g K T):=λa b=>by rw[zM];exact Zi<|by simp![show Gm .j (.v<|.m (ax s).1) (.s dM) (hh g K T)=_ from o]
  rw[v];rcases II i u G l n rfl with z|⟨d,z1,S,L⟩
  .exact .p z
  .exact .u ⟨K,T,ss++[d],_,_,_,_,_,z1,by simp;exact OS _,S,L⟩
 obtain⟨b,t⟩:∃b:Bool,(ax s).1=if b then d4 else dJ:=by
  simp only[Aa6,Ab9,Oj]at c;rcases c with z|z|z
  .exact⟨u9,z⟩
  .exact⟨k9,z⟩
  .exact absurd z l
 rw[beq_eq_false_iff_ne.p l]at o;have C:Gm .j (.v<|.m (ax s).1) (.s d4) (hh g K T)=y0 b:=by rw[Xa,t];cases b<;>rfl
 have v:∀a e,execs (k7<|m+114) (.a<|.u (.y .j .v5<|.m dM) a<|.j (.p 9<|.U .int<|.a<|.y .j .v5<|.m eU) e) (dN w g ss j (.m s) (sv<|.m (ax s).1) (sv<|.m (ax s).2.1) (sv<|.m (ax s).2.2) y8 y9) (hh g K T)=execs (k7<|m+114) e (dN w g ss j (.m s) (sv<|.m (ax s).1) (sv<|.m (ax s).2.1) (sv<|.m (ax s).2.2) y8<|si b.j) (hh g K T):=λa e=>by rw[zM,gf (h1:=hh g K T)<|by simp![show Gm .j (.v<|.m (ax s).1) (.s dM) (hh g K T)=_ from o]];refine za ?_;simp![show Gm .j (.v<|.m (ax s).1) (.s eU) (hh g K T)=_ from C];cases b<;>rfl
 rw[v];have h:=CZ ss i.ref<|hh g K T;have h:Gm .w (.p ss) (.j []) (hh g K T)=y0 (!ss.y):=h;by_cases y:ss=[];rotate_left
 .rw[show ss.y=u9 by cases ss<;>simp at y⊢]at h;exact .p ⟨wc (by simp![h]) rfl,λq A=>dE.pj<|j3 (YD) i.ref l<|.p y⟩
 subst y;have f:=Cj (m+113) (ax s).2.2 (by have:=(jO s).2.1;lia) g (K:=K) (T:=T) (by have:=i.lk;have:=i.lt;simp;lia) b;have f:call prog (m+114) "_law_name_row" [.v (.m (ax s).2.2),.v (du g.e<|g.e+1),.i b.j] (hh g K T)=_:=f;have B:=ZP (m:=m) (g:=g) i u b t rfl;cases r:nr K T b (ax s).2.2 with
|false=>rw[r]at f;exact .p ⟨wc (by simp![h,Sw,f]) rfl,λq _=>B.1 r q⟩
|true=>
  rw[r]at f;obtain⟨U,H,O,E,J,N⟩:=B.2 r;refine .u ⟨U,H,[],sv<|.m (ax s).1,sv<|.m (ax s).2.1,sv<|.m (ax s).2.2,y8,si b.j,O,by simpa using E,?_,λq _=>N q⟩;rw[ja<|by simp![h,Sw,f],←J];have i1:cc (.v<|du g.e<|g.e+1) (.i b.j) (hh g K T)=y0 (.j<|if b then g.e+1 else g.e):=by cases b<;>rfl
  have F:((if b then T else K).u D.str).e<bp:=by have:=i.lk;have:=i.lt;rw[Gf,Ab];cases b<;>simp<;>exact KM ‹_› YA
  rw[zM,exec];simp![i1,LB,F,Gp];rfl
end
def dY.th (i:dY K T ss):Gp (bL (Gc K) (Gc T) ss)=true:=by simp[Qq,i.ref]
def Dq(a:bnd d Z=y0 Z1)(b:body Z1 h=.j w h2):GA bnd body (d::ds) Z h=.j w h2:=by rw[Wy,a];simp[b]
abbrev mR(m:Nat)(ds:List D)(Z:Sl)(h:AH):O:=GA (GC [3,4] u9) (λZ h=>execs (k7<|m+114) Xk Z h) ds Z h
abbrev mv(m:Nat)(ds:List D)(Z:Sl)(h:AH):O:=GA (GC [2] k9) (λZ h=>execs (k7<|m+114) xl Z h) ds Z h
abbrev lI(w:W)(d:D)(x:Option W):Sl:=[y0 w,sv d,x]
noncomputable abbrev kg(w:W)(g:AH)(ss:List D)(d a b h e c f:Option W):Sl:=[y0 w,sv (du g.e<|g.e+1),y0 (.j ss),d,a,b,h,e,c,f]
theorem Au:∀rs K T ss W V y5 y6 y7 y8 y9 x,dY K T ss->(∀r∈rs,mC r)→
 (∃n h',mR m (GY (K.e+T.e+ss.e) rs) (kg w g ss W V y5 y6 y7 y8 y9) (hh g K T)=.j (.i n) (g++h')/\∀q,GE q=k9->mv m rs (lI w' (bL (Gc K) (Gc T) ss) x) q=.w (.p [f6 n]) q)∨
 ∃O M L z3 z4 z5 z6 z7 z8 z9,dY O M L/\mR m (GY (K.e+T.e+ss.e) rs) (kg w g ss W V y5 y6 y7 y8 y9) (hh g K T)=.p (kg w g L z3 z4 z5 z6 z7 z8 z9) (hh g O M)∧
  ∀q,GE q=k9->∃x',mv m rs (lI w' (bL (Gc K) (Gc T) ss) x) q=.p (lI w' (bL (Gc O) (Gc M) L) x') q
|[],K,T,ss,W,V,y5,y6,y7,y8,y9,x,i,_=>.u ⟨K,T,ss,W,V,y5,y6,y7,y8,y9,i,rfl,λq _=>⟨x,rfl⟩⟩
|r::rs,K,T,ss,W,V,y5,y6,y7,y8,y9,x,i,j=>by
  rcases BY i (j r Aa)with⟨d,f⟩|⟨O,M,L,z5,z6,z7,z8,z9,v,l,d,f⟩
  .refine .p ⟨K.e+T.e+ss.e,[.u (K.u .m),.u (T.u .m)],?_,λq a=>?_⟩
   .exact Dq rfl d
   .have e:=Cz a<|f q a;rw[wh,wh]at e;exact qU rfl<|Qr<|by simp![show call prog (m+114) Tv [.v (bL (Gc K) (Gc T) ss),.v r] q=_ from e]
  .have b:mR m (GY (K.e+T.e+ss.e)<|r::rs) (kg w g ss W V y5 y6 y7 y8 y9) (hh g K T)=mR m (GY (O.e+M.e+L.e) rs) (kg w g L (si<|K.e+T.e+ss.e) (sv r) z5 z6 z7 z8 z9) (hh g O M):=by rw[l];exact Xi rfl d
   have c:∀q,GE q=k9->mv m (r::rs) (lI w' (bL (Gc K) (Gc T) ss) x) q=mv m rs (lI w' (bL (Gc O) (Gc M) L)<|sv r) q:=λq a=>by have e:=Co<|f q a;refine Xi rfl ?_;simp only[xl];simp![show call prog (m+114) Tv [.v (bL (Gc K) (Gc T) ss),.v r] q=_ from e]
   rcases Au rs O M L (si<|K.e+T.e+ss.e) (sv r) z5 z6 z7 z8 z9 (sv r) v λy C=>j y (Aa0 _ C)with⟨n,h',h,a2⟩|⟨K2,o,u,z,t,B,A,s,k,p,i2,h,a2⟩
   .exact .p ⟨n,h',b.x h,λq a=>(c q a).x<|a2 q a⟩
   .exact .u ⟨K2,o,u,z,t,B,A,s,k,p,i2,b.x h,λq a=>let⟨x',e⟩:=a2 q a;⟨x',(c q a).x e⟩⟩
def Mc:dY [] [] []:=⟨⟨Rr,λ_ h=>absurd h Ab9⟩,by decide,by decide,by decide,λ_ h=>absurd h Ab9⟩
def B6(m)(f:GE g=k9){rs:List D}(x:∀r∈rs,mC r)(B:rs.e<=1000):
 (∃n:Nat,call prog (m+115) Tq [.l rs] g=.j (.i n) g/\∀q,GE q=true->call prog (m+115) Ta [.l rs] q=.w (.p [f6 n]) q)∨
 ∃K T ss,dY K T ss/\call prog (m+115) Tq [.l rs] g=.j (.v<|bL (Gc K) (Gc T) ss) g/\∀q,GE q=true->call prog (m+115) Ta [.l rs] q=.j (.v<|bL (Gc K) (Gc T) ss) q:=by
 have j:∀o:O,(∃a,mR m (GY 0 rs) (kg (.l rs) g [] u0 u0 u0 u0 u0 u0 u0) (hh g [] [])=a/\O.seq a (fun Z h=>execs (k7<|m+114) (.a<|.j<|.p<|.b (.p<|.b (.U .tuple<|.a<|.U .j<|.a<|.G .B<|.o 0)<|.U .tuple<|.a<|.U .j<|.a<|.G .B<|.o 1)<|.U .tuple<|.a .J) Z h)=o)->call prog (m+115) Tq [.l rs] g=Gv g.e o:=fun o ⟨a,v,s⟩=>by
  rw[Gb (d:=WG) rfl _ _ _ rfl];simp only[WG];rw[za (Z1:=[y0 (.l rs),sv (du g.e<|g.e+1),u0,u0,u0,u0,u0,u0,u0,u0]) (h1:=hh g [] [])<|by simp![Oi,aC,Aa2,Af8,Ab1,Ae0];rfl];rw[za (Z1:=kg (.l rs) g [] u0 u0 u0 u0 u0 u0 u0) (h1:=hh g [] []) rfl];rw[execs,exec,show GD (k7 _) _ _ _=.j _ (hh g [] [])from ?_,R.aF]
  .exact congrArg _<|(congrArg (λz=>O.seq z _) v).x s
  .rfl
 have k:∀q o,mv m rs _ q=o->call prog _ Ta [.l rs] q=Gv q.e (O.seq o fun Z h=>execs (k7<|m+114) (.a<|.j .B) Z h):=fun q o e=>by rw[Gb (d:=Wp) rfl _ _ _ rfl];simp only[Wp];have A:prog.T.j "EMPTY"=some (bL [] [] []):=rfl;rw[za (Z1:=lI (.l rs) (bL [] [] []) u0) (h1:=q)<|by simp![A],execs,exec];exact congrArg _<|congrArg (λz=>O.seq z _) e
 rcases Au (m:=m) (w:=.l rs) (w':=.l rs) (g:=g) rs [] [] [] u0 u0 u0 u0 u0 u0 u0 u0 Mc x with⟨n,y,c,a2⟩|⟨K,T,ss,G,J,L,H,I,F,C,i,c,a2⟩
 .refine .p ⟨n,?_,λq b=>by rw[k q _<|a2 q b];rfl⟩;rw[j _ ⟨_,c,rfl⟩];show fin _ _ _=_;unfold fin;split
  .rename_i z;have:y=[]:=by rw[Aa2]at z;exact Al4.j<|by lia
   rw[this,Ac7]
  .rw[Aj2,f];rfl
 .refine .u ⟨K,T,ss,i,?_,λq b=>?_⟩
  .rw[j _ ⟨_,c,rfl⟩,O.b3];have u:(K++T).e<=100:=by have:=i.lk;have:=i.lt;simp;lia
   have l:=pd g u;have p:cz .j [.r g.e] (hh g K T)=.j (.j<|(Gc K).u .m) (hh g K T):=by show(R.of _<|(W.bh (hh g K T)<|.r g.e).p GG).p _=_;simp only[W.bh,nK,Ac8,wW,R.af,R.ae];rw[Da<|by have:=i.lk;exact KM ‹_› YA]
   have t:cz .j [.r (g.e+1)] (hh g K T)=.j (.j<|(Gc T).u .m) (hh g K T):=by show(R.of _<|(W.bh (hh g K T)<|.r<|g.e+1).p GG).p _=_;simp only[W.bh,nz,Ac8,wW,R.af,R.ae];rw[Da<|by have:=i.lt;exact KM ‹_› YA]
   rw[Za (w:=.v<|bL (Gc K) (Gc T) ss) (h1:=hh g K T)<|jc rfl<|by simp![l.z0,l.z1,p,t,XI,N0,aC]];show fin _ _ _=_;unfold fin;rw[Fk YC,Da<|by rw[Aj2,f,An3];exact i.th,Aj2]
  .obtain⟨E,e⟩:=a2 q b;rw[k q _ e,O.b3,Za (w:=.v<|bL (Gc K) (Gc T) ss) (h1:=q) rfl];exact Ga _ _ _ rfl
noncomputable def pT:Ex->Tx
|.p t=>t
|.same=>qr
|.all=>jC
|.w=>jr
|.G a=>[126]++pT a
|.closed a=>[94]++pT a
|.plus a b=>[40]++pT a++[32,43,32]++pT b++[41]
|.less a b=>[40]++pT a++[32,45,32]++pT b++[41]
|.both a b=>[40]++pT a++[32,38,32]++pT b++[41]
|.u a b=>[40]++pT a++[32,46,32]++pT b++[41]
def Zk(a b)(h)(c:a.e+b.e<=900000):GB .j (.s a) (.s b) h=.j (.s<|a++b) h:=by rw[QD,Da<|by rw[Gf];exact YD]
section
variable{m:Nat}{h:AH}
def vS(k:ta.e<=100000)(c:Bool)(f:call prog m S2 [.v a] h=.j (.s ta) h):call prog (m+1) S2 [.t [.m (if c then Jb else Xb),a]] h=.j (.s<|(if c then[94]else[126])++ta) h:=by
 rw[Gb rfl _ _ _ rfl];simp only[Ji];have e:Gm .j (.s<|if c then Jb else Xb) (.s jm) h=y0 false:=by rw[Xa];cases c<;>rfl
 have d:Gm .j (.v<|.o 2) (.v<|.o 1) h=y0 false:=rfl;have g:Gm .j (.v<|.o 2) (.v<|.o 2) h=y0 true:=rfl;have i:Gm .j (.s<|if c then Jb else Xb) (.s Jb) h=y0 c:=by rw[Xa];cases c<;>rfl
 rw[za (Z1:=[y0 (.t [.m (if c then Jb else Xb),a]),y0 (.s<|if c then Jb else Xb),u0,u0]) rfl];have b:cz .p [.t [.m (if c then Jb else Xb),a]] h=aC (.o 2) h:=rfl;have i1:cc (.t [.m (if c then Jb else Xb),a]) (.v<|.o 1) h=y0 a:=rfl;rw[ja<|by simp![e],ja<|by simp![b,d]];rw[za (Z1:=[y0 (.t [.m (if c then Jb else Xb),a]),y0 (.s<|if c then Jb else Xb),y0 (.s ta),u0]) (h1:=h)<|by simp![i1,f]];have i2:cc (.s [126,94]) (.i c.j) h=y0 (.m<|if c then[94]else[126]):=by
  cases c with
|false=>exact JB [126,94] [] [94] 126 rfl YA h
|true=>exact JB [126,94] [126] [] 94 rfl YA h
 have bi:cz .int [.b c] h=aC _ h:=rfl;have j:=Zk (if c then[94]else[126]) ta h (by cases c<;>simp<;>lia);refine(congrArg _<|wc (w:=.s<|(if c then[94]else[126])++ta) (by simp![b,g])<|jc rfl ?_).x<|Ga _ _ _ rfl;simp![i,bi,i2,j]
def ya(e:T.j k=y0 v):GL T (y0<|.s k) h=aC (.m v) h:=by simp[e]
def j9(y:(hd,sg)∈[(Xq,([32,43,32]:Tx)),(zn,[32,45,32]),(XM,[32,38,32]),(wn,[32,46,32])])(E:ta.e<=100000)(s:tb.e<=100000)(x:call prog m S2 [.v a] h=.j (.s ta) h)(eb:call prog m S2 [.v b] h=.j (.s tb) h):
 call prog (m+1) S2 [.t [.m hd,a,b]] h=.j (.s<|[40]++ta++sg++tb++[41]) h:=by
 have c:∀p∈[(Xq,([32,43,32]:Tx)),(zn,[32,45,32]),(XM,[32,38,32]),(wn,[32,46,32])],(p.1==jm)=u9/\p.2.e=3/\Ag9 p.1 [((kX:Tx),([32,43,32]:Tx)),(km,[32,45,32]),(lz,[32,38,32]),(kD,[32,46,32])]=y0 p.2:=by decide
 obtain⟨o,D,r⟩:=c _ y;rw[Gb (d:=Ji) rfl _ _ _ rfl];simp only[Ji];have q:Gm .j (.s hd) (.s jm) h=y0 false:=by rw[Xa,o]
 have A:Gm .j (.v<|.o 3) (.v<|.o 1) h=y0 false:=rfl;have B:Gm .j (.v<|.o 3) (.v<|.o 2) h=y0 false:=rfl;rw[za (Z1:=[y0 _,y0 _,u0,u0]) (h1:=h) rfl];have l:cz .p [.t [.m hd,a,b]] h=aC (.o 3) h:=rfl;have i1:cc (.t [.m hd,a,b]) (.v<|.o 1) h=y0 a:=rfl;have i2:cc (.t [.m hd,a,b]) (.v<|.o 2) h=y0 b:=rfl;rw[ja<|by simp![q],ja<|by simp![l,A]];rw[za (Z1:=[y0 (.t [.m hd,a,b]),y0 (.s hd),y0 (.s ta),u0]) (h1:=h)<|by simp![i1,x]];rw[ja<|by simp![l,B]];rw[za (Z1:=[y0 (.t [.m hd,a,b]),y0 (.s hd),y0 (.s ta),y0 (.s sg)]) (h1:=h)<|by rw[exec,eval,show GL _ (Gr _ 1) h=aC (.m sg) h from ya r];rfl];dsimp only at D;obtain⟨g,z1⟩:∃u,u=[40]++ta:=⟨_,rfl⟩;obtain⟨i,f⟩:∃u,u=g++sg:=⟨_,rfl⟩;obtain⟨n,e⟩:∃u,u=i++tb:=⟨_,rfl⟩;obtain⟨z,k⟩:∃u,u=n++[41]:=⟨_,rfl⟩;have C:=congrArg Ag3 z1;have t:=congrArg Ag3 f;have v:=congrArg Ag3 e;simp only[Aa2,Ab1,Ae0]at C t v;have j:=Zk [40] ta h (by simp;lia);rw[←z1]at j;have a2:=Zk g sg h YB;rw[←f]at a2;have a3:=Zk i tb h YB;rw[←e]at a3;have a4:=Zk n [41] h (by simp;lia);rw[←k]at a4;rw[Za (w:=.s z) (h1:=h)<|jc rfl<|by simp![j,a2,i2,eb,a3,a4],k,e,f,z1];exact Ga _ _ _ rfl
def J0(e:t∈[qr,jC,jr]):call prog (m+1) S2 [.t [.m t]] h=.j (.s t) h:=by
 have a:∀t∈[qr,jC,jr],(t==jm)=false:=by decide
 rw[Gb rfl _ _ _ rfl];simp only[Ji];have b:Gm .j (.s t) (.s jm) h=y0 false:=by rw[Xa,a t e]
 have c:Gm .j (.v<|.o 1) (.v<|.o 1) h=y0 true:=rfl;have d:cz .p [.t [.m t]] h=aC (.o 1) h:=rfl;rw[za (Z1:=[y0 _,y0 _,u0,u0]) rfl];rw[ja<|by simp![b],wc (by simp![d,c]) rfl];exact Ga _ _ _ rfl
end
def mL(h:∀t∈N,Zj t):∀e:Ex,e.wf N->(pT e).e+5<=13*2^e.j/\nu (pT e)+1<=2*2^e.j:=by
 have one:∀t d,t.e<=1->nu t<=1->∀a:Tx,(a.e+5<=13*2^d/\nu a+1<=2*2^d)->(t++a).e+5<=13*2^(d+1)/\nu (t++a)+1<=2*2^(d+1):=by rintro t d l n a ⟨j,i⟩;have:=Zg t a;have p:=Rb d;rw[Nat.pow_succ,Aa2];lia
 have two:∀c d e,c.length=3->nu c<=1->∀a b:Tx,(a.length+5<=13*2^d/\nu a+1<=2*2^d)->(b.length+5<=13*2^e/\nu b+1<=2*2^e)->([40]++a++c++b++[41]).length+5<=13*2^(max d e+1)/\nu ([40]++a++c++b++[41])+1<=2*2^(max d e+1):=by
  rintro c d e l n a b ⟨j,i⟩ ⟨v,o⟩;have u:=Ae (show 0<2 by decide)<|Ak5 d e;have m:=Ae (show 0<2 by decide)<|Aj8 d e;have k:=Zg ([40]++a++c++b) [41];have q:=Zg ([40]++a++c) b;have r:=Zg ([40]++a) c;have s:=Zg [40] a;have z1:nu [40]=0:=by decide
  have w:nu [41]=0:=by decide
  simp only[Aa2,Ab1,Ae0];lia
 intro e;induction e with
|name t=>intro wf;have g:=h t wf;have:=g.hi;have:=q5 g;exact⟨by show t.length+5<=13;lia,by show nu t+1<=2;lia⟩
|same=>intro _;exact⟨by decide,by decide⟩
|all=>intro _;exact⟨by decide,by decide⟩
|none=>intro _;exact⟨by decide,by decide⟩
|turned a f=>intro wf;exact one [126] _ YA YA _<|f wf
|closed a f=>intro wf;exact one [94] _ YA YA _<|f wf
|plus a b i1 i2=>intro wf;exact two [32,43,32] _ _ rfl YA _ _ (i1 wf.1)<|i2 wf.2
|less a b i1 i2=>intro wf;exact two [32,45,32] _ _ rfl YA _ _ (i1 wf.1)<|i2 wf.2
|both a b i1 i2=>intro wf;exact two [32,38,32] _ _ rfl YA _ _ (i1 wf.1)<|i2 wf.2
|joined a b i1 i2=>intro wf;exact two [32,46,32] _ _ rfl YA _ _ (i1 wf.1)<|i2 wf.2
def Jv(i:∀t∈N,Zj t)(h):∀e:Ex,e.wf N->e.j<=8->∀m,e.j<=m->call prog (m+1) S2 [.v (bb e)] h=.j (.s<|pT e) h:=by
 have le:∀e:Ex,e.wf N->e.j<=8->(pT e).e<=100000:=λe wf c=>by have:=(mL i e wf).1;have:=Ae (show 0<2 by decide) c;lia
 intro e;induction e with
|name t=>
  intro _ _ m _;rw[Gb rfl _ _ _ rfl];simp only[Ji];rw[za (Z1:=[sv (bb<|.p t),y0 (.s jm),u0,u0]) rfl];have g:Gm .j (.s jm) (.s jm) h=y0 true:=by rw[Xa];rfl
  rw[wc (by simp![g]) rfl];exact Ga _ _ _ rfl
|same=>intro _ _ m _;exact J0 YA
|all=>intro _ _ m _;exact J0 YA
|none=>intro _ _ m _;exact J0 YA
|turned a f=>intro wf c m d;simp only[Ex.dp]at c d;obtain⟨m,rfl⟩:∃k,m=k+1:=⟨m-1,by lia⟩;exact vS (le a wf<|Ag2 ‹_›) u9<|f wf (Ag2 ‹_›) m<|IR ‹_›
|closed a f=>intro wf c m d;simp only[Ex.dp]at c d;obtain⟨m,rfl⟩:∃k,m=k+1:=⟨m-1,by lia⟩;exact vS (le a wf<|Ag2 ‹_›) k9<|f wf (Ag2 ‹_›) m<|IR ‹_›
|plus a b i1 i2=>intro wf c m d;simp only[Ex.dp]at c d;obtain⟨m,rfl⟩:∃k,m=k+1:=⟨m-1,by lia⟩;exact j9 YA (le a wf.1 YB) (le b wf.2 YB) (i1 wf.1 YB m YB)<|i2 wf.2 YB m YB
|less a b i1 i2=>intro wf c m d;simp only[Ex.dp]at c d;obtain⟨m,rfl⟩:∃k,m=k+1:=⟨m-1,by lia⟩;exact j9 YA (le a wf.1 YB) (le b wf.2 YB) (i1 wf.1 YB m YB)<|i2 wf.2 YB m YB
|both a b i1 i2=>intro wf c m d;simp only[Ex.dp]at c d;obtain⟨m,rfl⟩:∃k,m=k+1:=⟨m-1,by lia⟩;exact j9 YA (le a wf.1 YB) (le b wf.2 YB) (i1 wf.1 YB m YB)<|i2 wf.2 YB m YB
|joined a b i1 i2=>intro wf c m d;simp only[Ex.dp]at c d;obtain⟨m,rfl⟩:∃k,m=k+1:=⟨m-1,by lia⟩;exact j9 YA (le a wf.1 YB) (le b wf.2 YB) (i1 wf.1 YB m YB)<|i2 wf.2 YB m YB
def g0(s:Tx):Tx:=if s=Xd then oJ else if s=Jg then oQ else if s=xn then ph else pL
def pF:Fc->Tx
|.kh a b=>pT a++[32,105,110,32]++pT b
|.kj a b=>pT a++[32,61,32]++pT b
|.kL a=>Wq++[32]++pT a
|.aj a=>fR++[32]++pT a
|.cnt s k a=>g0 s++bV (k:Int)++[32]++pT a
def pS:Sy->Tx
|.fact f=>pF f
|.neg a=>[110,111,116,32]++pS a
|.eB a b=>[91]++(pS a++([32]++wE++[32])++pS b)++[93]
|.ec a b=>[91]++(pS a++([32]++gG++[32])++pS b)++[93]
def uX:∀k:Nat,k<1000->(bV (k:Int)).e<=20:=by intro k a;have h:(toString (k:Int))=Nat.repr k:=rfl;unfold bV;rw[h,Ab,String.length_toList];exact Ac0 ((Nat.length_repr_le_iff YA).p<|An9 a YA)<|Aa4 _
def EC:∀k,k<100->nu (bV (k:Nat))<=1:=by decide+kernel
def Fo(e:∀t∈N,Zj t)(f)(wf:f.wf N):(pF f).e+10<=60*2^f.dp/\nu (pF f)+1<=5*2^f.dp:=by
 have two:∀c a b,c.e<=4->nu c<=1->a.wf N->b.wf N->(pT a++c++pT b).e+10<=60*2^(max a.j b.j)/\nu (pT a++c++pT b)+1<=5*2^(max a.j b.j):=λc a b l n d i=>by obtain⟨q,j⟩:=mL e a d;obtain⟨y,w⟩:=mL e b i;have r:=Ae (show 0<2 by decide)<|Ak5 a.j b.j;have v:=Ae (show 0<2 by decide)<|Aj8 a.j b.j;have h:=Zg (pT a++c)<|pT b;have o:=Zg (pT a) c;simp only[Aa2];lia
 have one:∀c a,c.e<=32->nu c<=3->a.wf N->(c++pT a).e+10<=60*2^a.j/\nu (c++pT a)+1<=5*2^a.j:=λc a l n d=>by obtain⟨q,j⟩:=mL e a d;have r:=Rb a.j;have h:=Zg c<|pT a;simp only[Aa2];lia
 cases f with
|kh a b=>exact two [32,105,110,32] a b YA YA wf.1 wf.2
|kj a b=>exact two [32,61,32] a b YA YA wf.1 wf.2
|kL a=>exact one _ a YA YA wf
|aj a=>exact one _ a YA YA wf
|cnt s k a=>
  obtain⟨⟨m,p⟩,d⟩:=wf;have g:∀s∈[Xd,Jg,xn,Wv],(g0 s).e<=11/\nu (g0 s)<=2:=by decide
  obtain⟨u,z⟩:=g s m;have i1:=uX k<|YD;have i2:=EC k p;have h:=Zg (g0 s++bV k) [32];have o:=Zg (g0 s)<|bV k;have x:nu [32]=0:=by decide
  exact one _ a (by grind) YB d
def pN(i:∀t∈N,Zj t):∀s:Sy,s.wf N->(pS s).e+10<=60*2^s.j/\nu (pS s)+1<=5*2^s.j:=by
 have two:∀c d e,c.e<=5->nu c<=1->∀a b:Tx,(a.e+10<=60*2^d/\nu a+1<=5*2^d)->(b.e+10<=60*2^e/\nu b+1<=5*2^e)->([91]++(a++c++b)++[93]).e+10<=60*2^(max d e+1)/\nu ([91]++(a++c++b)++[93])+1<=5*2^(max d e+1):=by
  rintro c d e l n a b ⟨k,j⟩ ⟨w,o⟩;have v:=Ae (show 0<2 by decide)<|Ak5 d e;have m:=Ae (show 0<2 by decide)<|Aj8 d e;have g:=Zg ([91]++(a++c++b)) [93];have q:=Zg [91]<|a++c++b;have r:=Zg (a++c) b;have u:=Zg a c;have z1:nu [91]=0:=by decide
  have x:nu [93]=0:=by decide
  simp only[Aa2,Ab1,Ae0];lia
 intro s;induction s with
|fact f=>intro wf;exact Fo i f wf
|neg a h=>
  intro wf;obtain⟨k,j⟩:=h wf;have g:=Zg kI<|pS a;have z1:nu kI<=1:=by decide
  show(kI++pS a).e+10<=60*2^(a.j+1)/\nu (kI++pS a)+1<=5*2^(a.j+1);have p:=Rb a.j;simp only[Aa2,Ab1,Ae0];lia
|eB a b i1 i2=>intro wf;exact two _ _ _ YA YA _ _ (i1 wf.1)<|i2 wf.2
|ec a b i1 i2=>intro wf;exact two _ _ _ YA YA _ _ (i1 wf.1)<|i2 wf.2
def Jw(g f)(l:List α)(hi:Gs F it Z h=.j (l.u g) h)(m:l.e<=1000)(b:∀x∈l,∃w,eval F elt (sv (g x)::aB.u λj=>Gq Z j) h=.j w h/\w.d=y0 (f x)):eval F (.Q [0] k9 1 aB it u9 (.bl k9) elt) Z h=.j (.j<|l.u f) h:=by
 rw[eval,hi,R.ae,Da<|by rw[Gf,Ab];exact YD];have i:∀step (l:List α),(∀x∈l,step (g x) h=.j (y0<|f x) h)->Gy step (l.u g) h=.j (l.u f) h:=λstep l=>by
  induction l with
|nil=>intro _;rfl
|cons x l c=>intro a;rw[Ac3,Gy,a x Aa];simp[c λy k=>a y<|Aa0 _ k,Ac3]
 rw[i _ l λx a=>?_]
 .rfl
 .obtain⟨w,e,d⟩:=b x a;show(eval F elt (sv _::aB.u λj=>Gq Z j) h).p _=_;rw[e];simp[d,R.af]
section
variable{m:Nat}{h:AH}
abbrev gP(d:D)(c:Tx)(a b:Option W):Sl:=[sv d,y0 (.s c),a,b]
def QG:call prog (m+1) SU [.t (.m hd::ds)] h=Gv h.e (execs (k7 m) aD.j [some (.t<|.m hd::ds),none,none,none] h):=by rw[Gb rfl _ _ _ rfl];rfl
def Mb(e:ta.e<=100000)(c:call prog m SU [.v a] h=.j (.s ta) h):call prog (m+1) SU [.t [.m jh,a]] h=.j (.s<|kI++ta) h:=by
 rw[QG];have b:Gm .j (.s jh) (.s jh) h=y0 true:=by rw[Xa];rfl
 have i1:cc (.t [.m jh,a]) (.v<|.o 1) h=y0 a:=rfl;have d:=Zk kI ta h (by simp;lia);refine(congrArg _<|wc (by simp![b])<|jc rfl ?_).x<|Ga _ _ _ rfl;simp![i1,c];exact d
def oo(e:Gr Z i=y0 (.s t))(a b):Gg F (.y .p (.a0 i)<|.p<|.b (.m a)<|.m b) Z h=.j (k8<|t∈[a,b]) h:=m6 e a b
def vn(n:hd∈[wE,gG])(L:ta.e<=100000)(C:tb.e<=100000)(I:call prog m SU [.v a] h=.j (.s ta) h)(eb:call prog m SU [.v b] h=.j (.s tb) h):
 call prog (m+1) SU [.t [.m hd,a,b]] h=.j (.s<|[91]++(ta++([32]++hd++[32])++tb)++[93]) h:=by
 have e:∀p∈[wE,gG],(p==jh)=u9/\p.e<=3:=by decide
 obtain⟨z,M⟩:=e hd n;rw[QG];simp only[aD];rw[za (Z1:=gP _ hd u0 u0) rfl];have A:Gm .j (.s hd) (.s jh) h=y0 false:=by rw[Xa,z]
 rw[ja<|by simp![A]];have y:=oo (h:=h) (F:=(k7 m)) (Z:=gP (.p [.m hd,a,b]) hd u0 u0) (i:=1) (t:=hd) rfl fm eV;rw[FM<|show hd∈[fm,eV]from n]at y;have B:eval (k7 m) Jj (gP (.p [.m hd,a,b]) hd u0 u0) h=.j (.j [.m ta,.m tb]) h:=by
  have sl:eval (k7 m) (.d3 .A<|.o 1) (gP (.p [.m hd,a,b]) hd u0 u0) h=.j _ h:=rfl;refine Jw (α:=D×Tx) (·.1) (λp=>.m p.2) [(a,ta),(b,tb)] (oT sl) YC λx l=>⟨.s x.2,?_,rfl⟩;have:call prog m SU [.v x.1] h=.j (.s x.2) h:=by
   simp only[Aa6,Ab9,Oj]at l;rcases l with rfl|rfl
   .exact I
   .exact eb
  simp![this]
 obtain⟨r,z1⟩:∃u,u=[32]++hd:=⟨_,rfl⟩;obtain⟨c,j⟩:∃u,u=r++[32]:=⟨_,rfl⟩;obtain⟨d,f⟩:∃u,u=ta++c++tb:=⟨_,rfl⟩;obtain⟨q,g⟩:∃u,u=[91]++d:=⟨_,rfl⟩;obtain⟨K,k⟩:∃u,u=q++[93]:=⟨_,rfl⟩;have J:=congrArg Ag3 z1;have E:=congrArg Ag3 j;have H:=congrArg Ag3 f;have G:=congrArg Ag3 g;simp only[Aa2,Ab1,Ae0]at J E H G;have v:=Zk [32] hd h (by simp;lia);rw[←z1]at v;have a2:=Zk r [32] h (by simp;lia);rw[←j]at a2;have a4:=Zk [91] d h (by simp;lia);rw[←g]at a4;have a5:=Zk q [93] h (by simp;lia);rw[←k]at a5;have a3:mh .join (.s c) [.l [.m ta,.m tb]] h=.j (.s d) h:=by show((R.of h<|y0 c).p λs h=>(R.of h<|GG [.m ta,.m tb]).p λo h=>if(GH s o).e<=bp/\o.e<=bp/\s.e<=bp then aC _ h else .fail)=_;rw[R.af,R.ae,show GG [D.str ta,.m tb]=y0 [ta,tb]from rfl,R.af,R.ae,show GH c [ta,tb]=d from f.j,Da<|by rw[Gf];refine⟨by lia,by show 2<=1000000;decide,by lia⟩]
 rw[Za (w:=.s K) (h1:=h),k,g,f,j,z1]
 .exact Ga _ _ _ rfl
 .rw[Zi y,za (Z1:=gP _ hd _ u0) (h1:=h)<|by rw[exec,B];rfl];exact Za<|jc rfl<|by simp![v,a2,sH,Oi,a3,a4,a5]
def Jy(e:Gr Z 1=y0 (.s hd))(a:hd∉[x,y]):execs F (.j (.u (.y .p .B<|.p<|.b (.m x)<|.m y) s .p) ss) Z h=execs F ss Z h:=by have:=oo (h:=h) (F:=F) e x y;rw[Do a]at this;exact ja this
def sr(c:Bool)(s:ta.e<=100000)(n:tb.e<=100000)(o:call prog m S2 [.v a] h=.j (.s ta) h)(eb:call prog m S2 [.v b] h=.j (.s tb) h):
 call prog (m+1) SU [.t [.m (if c then xE else wg),a,b]] h=.j (.s<|ta++(if c then lS else[32,61,32])++tb) h:=by
 rw[QG];simp only[aD];rw[za (Z1:=gP _ _ u0 u0) rfl];have l:Gm .j (.s<|if c then xE else wg) (.s jh) h=y0 false:=by rw[Xa];cases c<;>rfl
 have p:Gm .j (.s<|if c then xE else wg) (.s xE) h=y0 c:=by rw[Xa];cases c<;>rfl
 rw[ja<|by simp![l],Jy rfl<|by cases c<;>decide];have j:=oo (h:=h) (F:=(k7 m)) (Z:=gP (.p [.m (if c then xE else wg),a,b]) (if c then xE else wg) u0 u0) (i:=1) rfl c7 ia;rw[FM<|show _∈[c7,ia]by cases c<;>decide]at j;have i1:cc (.t [.m (if c then xE else wg),a,b]) (.v<|.o 1) h=y0 a:=rfl;have i2:cc (.t [.m (if c then xE else wg),a,b]) (.v<|.o 2) h=y0 b:=rfl;have i3:cc (.j [.m [32,61,32],.m lS]) (.i c.j) h=y0 (.m<|if c then lS else[32,61,32]):=by cases c<;>rfl
 have bi:cz .int [.b c] h=aC _ h:=rfl;obtain⟨d,g⟩:∃u:Tx,u=if c then lS else[32,61,32]:=⟨_,rfl⟩;have t:d.e<=4:=by rw[g];cases c<;>decide
 rw[←g]at i3⊢;obtain⟨e,z1⟩:∃u,u=ta++d:=⟨_,rfl⟩;obtain⟨q,k⟩:∃u,u=e++tb:=⟨_,rfl⟩;have r:=congrArg Ag3 z1;simp[Aa2]at r;have f:=Zk ta d h YB;rw[←z1]at f;have a2:=Zk e tb h YB;rw[←k]at a2;rw[wc (w:=.s q) j<|jc rfl<|by simp![i1,o,p,bi,i3,f,i2,eb,a2],k,z1];exact Ga _ _ _ rfl
def yu(c:Bool)(v:ta.e<=100000)(o:call prog m S2 [.v a] h=.j (.s ta) h):
 call prog (m+1) SU [.t [.m (if c then Wq else fR),a]] h=.j (.s<|(if c then Wq else fR)++[32]++ta) h:=by
 obtain⟨b,e⟩:∃u:Tx,u=if c then Wq else fR:=⟨_,rfl⟩;rw[←e];have r:(b==jh)=u9/\b.e<=4/\b∉[fm,eV]/\b∉[c7,ia]/\b∈[ft,fy]:=by rw[e];cases c<;>decide
 obtain⟨k,x,n,p,t⟩:=r;rw[QG];simp only[aD];rw[za (Z1:=gP _ b u0 u0) rfl];have l:Gm .j (.s b) (.s jh) h=y0 false:=by rw[Xa,k]
 rw[ja<|by simp![l],Jy rfl n,Jy rfl p];have g:=oo (h:=h) (F:=(k7 m)) (Z:=gP (.p [.m b,a]) b u0 u0) (i:=1) rfl ft fy;rw[FM t]at g;have i1:cc (.t [.m b,a]) (.v<|.o 1) h=y0 a:=rfl;obtain⟨d,z1⟩:∃u,u=b++[32]:=⟨_,rfl⟩;obtain⟨q,j⟩:∃u,u=d++ta:=⟨_,rfl⟩;have s:=congrArg Ag3 z1;simp only[Aa2,Ab1,Ae0]at s;have f:=Zk b [32] h (by simp;exact YD);rw[←z1]at f;have a2:=Zk d ta h YB;rw[←j]at a2;rw[wc (w:=.s q) g<|jc rfl<|by simp![i1,o,f,a2],j,z1];exact Ga _ _ _ rfl
def Io(B:k<100)(r:L∈[Xd,Jg,xn,Wv])(z:ta.e<=100000)(q:call prog m S2 [.v a] h=.j (.s ta) h):
 call prog (m+1) SU [.t [.m L,.n k,a]] h=.j (.s<|g0 L++bV (k:Int)++[32]++ta) h:=by
 have b:∀L∈[Xd,Jg,xn,Wv],(L==jh)=u9/\L∉[fm,eV]/\L∉[c7,ia]/\L∉[ft,fy]/\(g0 L).e<=11/\Ag9 L [((eG:Tx),(oJ:Tx)),(eE,oQ),(rN,ph),(rH,pL)]=y0 (g0 L):=by decide
 obtain⟨j,n,s,y,A,t⟩:=b L r;rw[QG];simp only[aD];rw[za (h1:=h) rfl];have l:Gm .j (.s L) (.s jh) h=y0 false:=by rw[Xa,j]
 rw[ja<|by simp![l],Jy rfl n,Jy rfl s,Jy rfl y];rw[za (Z1:=gP _ L u0 _) (h1:=h)<|by rw[exec,eval,show GL _ (Gr _ 1) h=aC _ h from ya t];rfl];have i1:cc (.t [.m L,.n k,a]) (.v<|.o 1) h=y0 _:=rfl;have i2:cc (.t [.m L,.n k,a]) (.v<|.o 2) h=y0 a:=rfl;have C:=uX k<|YD;obtain⟨d,z1⟩:∃u,u=g0 L++bV (k:Int):=⟨_,rfl⟩;obtain⟨g,c⟩:∃u,u=d++[32]:=⟨_,rfl⟩;obtain⟨x,f⟩:∃u,u=g++ta:=⟨_,rfl⟩;have v:=congrArg Ag3 z1;have p:=congrArg Ag3 c;simp only[Aa2,Ab1,Ae0]at v p;have i:=Zk (g0 L) (bV (k:Int)) h YB;rw[←z1]at i;have a2:=Zk d [32] h (by simp;lia);rw[←c]at a2;have a3:=Zk g ta h YB;rw[←f]at a3;have o:∀Z,Gr Z 0=y0 (.t [.m L,.n k,a])->eval (k7 m) (.eT<|.G _<|.o 1) Z h=.j _ h:=λZ e=>by rw[eval,eval,je e];simp only[R.ae];rw[show eval (k7 m) _ Z h=.j _ h from rfl];simp only[R.ae,i1,R.af,aC];show(if _ then _ else _)=_;rw[Da ⟨(Oy _),by lia⟩]
 rw[Za (w:=.s x) (h1:=h)<|jc rfl ?_,f,c,z1]
 .exact Ga _ _ _ rfl
 .rw[eval,eval,eval,je rfl,R.ae,o _ rfl,R.ae,i,R.ae,show eval (k7 m) _ _ h=.j _ h from rfl,R.ae,a2,R.ae];simp![i2,q];exact a3
end
def Cd(i:∀t∈N,Zj t)(h):∀s:Sy,s.wf N->s.j<=8->∀m,s.j+1<=m->call prog (m+1) SU [.v (cq s)] h=.j (.s<|pS s) h:=by
 have le:∀e:Ex,e.wf N->e.j<=8->(pT e).e<=100000:=λe wf c=>by have:=(mL i e wf).1;have:=Ae (show 0<2 by decide) c;lia
 have g:∀e:Sy,e.wf N->e.j<=8->(pS e).e<=100000:=λe wf c=>by have:=(pN i e wf).1;have:=Ae (show 0<2 by decide) c;lia
 intro s;induction s with
|fact f=>
  intro wf c m d;obtain⟨m,rfl⟩:∃k,m=k+1:=⟨m-1,by lia⟩;simp only[Sy.dp]at c d;cases f with
 |kh a b=>simp only[Fc.dp]at c d;exact sr k9 (le a wf.1 YB) (le b wf.2 YB) (Jv i h a wf.1 YB m YB)<|Jv i h b wf.2 YB m YB
 |kj a b=>simp only[Fc.dp]at c d;exact sr u9 (le a wf.1 YB) (le b wf.2 YB) (Jv i h a wf.1 YB m YB)<|Jv i h b wf.2 YB m YB
 |kL a=>simp only[Fc.dp]at c d;exact yu k9 (le a wf<|YD)<|Jv i h a wf (YD) m<|IR ‹_›
 |aj a=>simp only[Fc.dp]at c d;exact yu u9 (le a wf<|YD)<|Jv i h a wf (YD) m<|IR ‹_›
 |cnt s k a=>simp only[Fc.dp]at c d;exact Io wf.1.2 wf.1.1 (le a wf.2<|YD)<|Jv i h a wf.2 (YD) m<|IR ‹_›
|neg a j=>intro wf c m d;simp only[Sy.dp]at c d;obtain⟨m,rfl⟩:∃k,m=k+1:=⟨m-1,by lia⟩;exact Mb (g a wf<|Ag2 ‹_›)<|j wf (Ag2 ‹_›) m<|IR ‹_›
|eB a b i1 i2=>intro wf c m d;simp only[Sy.dp]at c d;obtain⟨m,rfl⟩:∃k,m=k+1:=⟨m-1,by lia⟩;exact vn YA (g a wf.1 YB) (g b wf.2 YB) (i1 wf.1 YB m YB)<|i2 wf.2 YB m YB
|ec a b i1 i2=>intro wf c m d;simp only[Sy.dp]at c d;obtain⟨m,rfl⟩:∃k,m=k+1:=⟨m-1,by lia⟩;exact vn YA (g a wf.1 YB) (g b wf.2 YB) (i1 wf.1 YB m YB)<|i2 wf.2 YB m YB
def IA(t):nu (t.J 1)<=nu t+1:=by
 cases t with
|nil=>exact Af0 _
|cons c t=>have h:=yA (aN c) t;show nu t<=eD Wd c+nk _ t+1;lia
def LI(t x)(p j)(a:j<=1):nu (t.A p++x++t.J (p+j))<=nu t+nu x+2:=by
 have c:=Zg (t.A p++x)<|t.J<|p+j;have e:=Zg (t.A p) x;have b:=tq (t.A p)<|t.J p;rw[Am0]at b;have d:nu (t.J<|p+j)<=nu (t.J p)+1:=by
  match j,a with
|0,_=>exact Ac9 _
|1,_=>rw[←List.drop_drop];exact IA _
 lia
mutual
theorem Wk:∀e:Ex,Gp (bb e)=k9
|.p _=>rfl
|.same=>rfl
|.all=>rfl
|.w=>rfl
|.G a=>by simp[bb,Wk a]
|.closed a=>by simp[bb,Wk a]
|.plus a b=>by simp[bb,Wk a,Wk b]
|.less a b=>by simp[bb,Wk a,Wk b]
|.both a b=>by simp[bb,Wk a,Wk b]
|.u a b=>by simp[bb,Wk a,Wk b]
end
theorem xA:∀s:Sy,Gp (cq s)=k9
|.fact f=>by cases f<;>simp[cq,gA,Wk]
|.neg a=>by simp[cq,xA a]
|.eB a b=>by simp[cq,xA a,xA b]
|.ec a b=>by simp[cq,xA a,xA b]
noncomputable abbrev gO(ns:List Int)(K T:List Tx)(n:Nat)(ds:List D)(a x5:Option W):Sl:=[y0 (bD ns),sv (wD K T),si n,y0 (.j ds),a,x5]
section
variable{ns:List Int}{K T:List Tx}
def Mi(a:(K++T).e<=100)(h):GB .j (.v<|aU K) (.v<|aU T) h=.j (.v<|aU<|K++T) h:=by rw[Jn,Da<|by rw[Gf];simp at a⊢;exact YD,←Ad]
def FG(m:ns.e<=63)(e:(K++T).e<=100)(z:ds.e<=100)(P:PH h):
 ∃s h',Sy.wf (K++T) s/\s.j<=5/\PH h'/\h.e<=h'.e/\∃y5,execs (k7 218) Jh (gO ns K T n ds (si j) x5) h=.p (gO ns K T n (ds++[cq s]) (si j) y5) h':=by
 obtain⟨c,a,b,p⟩:=jF 216 ns m j h;have o:=P.app c a b;have A:(h++[Cell.lst [D.int c,D.int a,D.int b]]).e=h.e+1:=by simp
 obtain⟨v,g,w,q,x,d⟩:=jg 217 o (show h.e<(h++[Cell.lst [D.int c,D.int a,D.int b]]).e by lia) (show 0<3 by decide) YA;have d:call prog 218 SS [.r h.e,.v (.o 3)] _=.j _ g:=d;obtain⟨s,r,k,dp,u,y,i⟩:=wO h.e _ e v _ g q YB;rw[show 210-v+v+8=218 by lia]at i;refine⟨s,r,k,by lia,u,by lia,y0<|.r h.e,?_⟩;have t:=Zp (F:=(k7 218)) (f:=SY) (es:=.j .A<|.a .Y) (Z:=gO ns K T n ds (si j) x5) (h:=h) (ws:=[bD ns,.i j]) (xs:=[D.int c,D.int a,D.int b]) rfl p rfl;simp only[Jh];rw[za (Z1:=gO ns K T n ds _ _) (h1:=h++[Cell.lst [D.int c,D.int a,D.int b]])<|by rw[exec,t];rfl];have l:ds.e<bp:=by rw[Gf];exact KM ‹_› YA
 simp![d,aA,kQ,kP,Mi e,i,l,Oi]
theorem sJ(c:ns.e<=63)(b:(K++T).e<=100):∀(a:List Nat) ds L x5 h,ds.e+a.e<=100->PH h→
 ∃(ss:List Sy)(h':AH),ss.e=a.e/\(∀s∈ss,Sy.wf (K++T) s/\s.j<=5)/\PH h'/\h.e<=h'.e/\∃M y5,GA (GC [4] k9) (λZ h=>execs (k7 218) Jh Z h) (a.u λ(j:Nat)=>.n j) (gO ns K T n ds L x5) h=.p (gO ns K T n (ds++ss.u cq) M y5) h'
|[],ds,L,x5,h,_,P=>⟨[],h,rfl,λ_ z=>absurd z Ab9,P,Aa4 _,L,x5,by rw[Aj4,Aj4,Ac7];rfl⟩
|j::a,ds,L,x5,h,p,P=>by rw[Ab1]at p;obtain⟨s,o,d,r,k,x,y5,l⟩:=FG c b (n:=n) (j:=j) (ds:=ds) (Ac0 (OE _ _) ‹_›) (x5:=x5) P;obtain⟨ss,i,t,e,m,w,q,v,g⟩:=sJ c b (n:=n) a (ds++[cq s]) (si j) y5 o (by simp;lia) k;refine⟨s::ss,i,by rw[Ab1,Ab1,t],λu f=>(Aa6.j f).j (λz=>by rw[z];exact⟨d,r⟩)<|e u,m,(Ac0 ‹_› ‹_›),q,v,?_⟩;rw[Ac3,Ac3,Xi (Z1:=gO ns K T n ds (si j) x5) rfl l,g,Af8];rfl
theorem jW:∀ss:List Sy,Gi (ss.u cq)=k9
|[]=>rfl
|s::ss=>by rw[Ac3,Gi,jW ss,xA s];rfl
def DI(o:ns.e<=63)(g:(K++T).e<=100)(u:n<=12)(P:PH h):
 ∃(ss:List Sy)(h':AH),ss.e=n/\(∀s∈ss,Sy.wf (K++T) s/\s.j<=5)/\PH h'/\h'.e=h.e/\call prog 219 "_law_sayings" [bD ns,.v (wD K T),.i n] h=.j (.j<|ss.u cq) h':=by
 obtain⟨ss,a,t,i,b,r,l,f,p⟩:=sJ o g ((Ac2 n).u λk=>4+k) [] u0 u0 h (by simp;exact YD) P;obtain⟨m,d,c⟩:=uH (jW ss) r (b.take _).pure;refine⟨ss,m,by rw[t];simp,i,c▸b.take _,by rw[c,Ae4];lia,?_⟩;rw[Gb rfl _ _ _ rfl];simp only[Qx];rw[za (Z1:=gO ns K T n [] u0 u0) (h1:=h) rfl];rw[za (Z1:=gO ns K T n _ l f) (h1:=a) ?_,Za (w:=.j _) (h1:=a) rfl,d];rw[exec];have e:eval (k7 218) (.w .j (.o 4) .J) (gO ns K T n [] u0 u0) h=.j (.i<|4+n) h:=by have:=Ws 4 n;have this:Gj .j 4 (n:Int)=y0 _:=this;simp![this]
 show((Gs (k7 218) _ _ h).c5 _)=_;rw[Gs,show eval (k7 218) _ _ h=.j _ h from rfl,R.ae,int?_int,R.af,R.ae,e,R.ae,int?_int,R.af,R.ae,Da<|by rw[GJ];lia,R.aF];have q:((Ac2 (((4+n:Nat):Int)-4).j).u λ(k:Nat)=>D.int<|4+(k:Int))=((Ac2 n).u λk=>4+k).u λj=>D.n j:=by rw[Af4,show((_:Int)-4).j=n by lia];rfl
 rw[q];exact p
end
def Rq(q:Nat)(x:D):Prop:=x=.L\/x=.o 7\/∃t,x=.m t/\t.e<=5000+8*q/\nu t<=165+3*q
def Rq.mono (h:Rq p x)(l:p<=q):Rq q x:=h.imp id λh=>h.imp id<|by rintro⟨t,a,b,c⟩;exact⟨t,a,by lia,by lia⟩
def Rq.ok (h:Rq q x)(l:q<=5):mC x:=h.imp id λh=>h.imp id<|by rintro⟨t,a,b,c⟩;exact⟨t,a,by lia,by lia⟩
section
variable{m:Nat}{h:AH}{K T N:List Tx}{ss:List Sy}
def tT{A:List Tx}(p)(c:p.e<=8)(b:∀t∈A,t.e<=8)(d:A.e<=100)(hi:Gs F it Z h=.j (A.u .m) h):eval F (.Q [0] k9 1 [] it u9 (.bl k9)<|.w .j (.m p) .A) Z h=.j (.j<|(A.u λt=>p++t).u .m) h:=by rw[Af4];refine Jw _ _ A hi (YD) λt a=>⟨.s _,?_,rfl⟩;have:=b t a;simp![Zk p t h YB]
def gJ(K T:List Tx)(ss:List Sy):List Tx:=K.u (λt=>dJ++32::t)++T.u (λt=>d4++32::t)++ss.u λs=>dA++32::pS s
def L8(f:ss.e<=100)(b:∀s∈ss,(pS s).e<=600000/\eval F e [sv (cq s)] h=.j (.s<|pS s) h)(hi:Gs F it Z h=.j (ss.u cq) h):eval F (.Q [0] k9 1 [] it u9 (.bl k9)<|.w .j (.m lU) e) Z h=.j (.j<|(ss.u λs=>dA++32::pS s).u .m) h:=by rw[Af4];refine Jw cq _ ss hi (YD) λs c=>⟨.s _,?_,rfl⟩;obtain⟨l,d⟩:=b s c;have a:=Zk lU (pS s) h (by simp;lia);show eval F _ [sv _] h=_;rw[eval,show eval F _ [sv _] h=.j _ h from rfl,R.ae,d];exact a
def FV(c:∀t∈K++T,Zj t)(h:∀s∈ss,s.wf (K++T)/\s.j<=5):∀x∈(gJ K T ss).u D.str,Rq 0 x:=by
 intro x f;obtain⟨t,a,rfl⟩:=Ad3.j f;refine .u<|.u ⟨t,rfl,?_⟩;have b:∀p u:Tx,p.e<=5->nu p<=1->Zj u->(p++u).e<=5000+8*0/\nu (p++u)<=165+3*0:=λp u l n g=>by have:=g.hi;have:=q5 g;have:=Zg p u;rw[Aa2];lia
 obtain a|a:=Ab4.j a
 .obtain a|a:=Ab4.j a
  .obtain⟨u,d,rfl⟩:=Ad3.j a;exact b (dJ++[32]) u YA YA<|c u<|Ad4 _ d
  .obtain⟨u,d,rfl⟩:=Ad3.j a;exact b (d4++[32]) u YA YA<|c u<|Aa8 _ d
 .obtain⟨s,i,rfl⟩:=Ad3.j a;obtain⟨wf,dp⟩:=h s i;obtain⟨k,m⟩:=pN c s wf;have q:2^s.j<=32:=Ac0 (Ae YA dp) YA;have j:=Zg (dA++[32])<|pS s;have o:nu (dA++[32])<=1:=by decide
  have e:dA++32::pS s=(dA++[32])++pS s:=by simp
  rw[e,Aa2];refine⟨?_,by lia⟩;have:(dA++[32]).e=4:=rfl;lia
def EY(e:w=.l (ss.u cq)\/w=.p (ss.u cq))(b:∀t∈K++T,Zj t)(r:K.e<=4)(n:T.e<=4)(o:ss.e<=12)(j:∀s∈ss,s.wf (K++T)/\s.j<=5)(p:6<=m):
 call prog (m+2) "_law_shown_rows" [.v (wD K T),w] h=.j (.j<|(gJ K T ss).u .m) h:=by
 have c:∀t∈K++T,t.e<=8:=λt a=>(b t a).hi;rw[Gb (d:=Qj) rfl _ _ _ rfl];simp only[Qj];show Gv _ (execs _ _ [sv (wD K T),y0 w,u0] h)=_;have i:eval (k7<|m+1) Wm [sv (wD K T),y0 w,u0] h=.j _ h:=
  tT dW YA (λt a=>c t<|Ad4 _ a) (YD)<|oT rfl
 have k:eval (k7<|m+1) wm [sv (wD K T),y0 w,u0] h=.j _ h:=
  tT ew YA (λt a=>c t<|Aa8 _ a) (YD)<|oT rfl
 rw[za (Z1:=[sv (wD K T),y0 w,y0 (.l<|(K.u λt=>dJ++32::t).u .m++(T.u λt=>d4++32::t).u .m)]) (h1:=h) ?_]
 .have l:eval (k7<|m+1) zm [sv (wD K T),y0 w,y0 (.l<|(K.u λt=>dJ++32::t).u .m++(T.u λt=>d4++32::t).u .m)] h=.j (.j<|(ss.u λs=>dA++32::pS s).u .m) h:=by refine L8 (YD) (λs g=>?_) (by rcases e with rfl|rfl<;>rfl);obtain⟨wf,d⟩:=j s g;have u:=(pN b s wf).1;have q:(2:Nat)^s.j<=32:=Ac0 (Ae YA d) YA;have:=Cd b h s wf (YD) m<|KM ‹_› ‹_›;exact⟨by lia,by simp![this]⟩
  rw[Za (w:=.j<|(gJ K T ss).u .m) (h1:=h)<|zl rfl ?_]
  .exact Gw _ _ _ rfl
  .have f:eval (k7<|m+1) .J [sv (wD K T),y0 w,y0 (.l<|(K.u λt=>dJ++32::t).u .m++(T.u λt=>d4++32::t).u .m)] h=.j (.l<|(K.u λt=>dJ++32::t).u .m++(T.u λt=>d4++32::t).u .m) h:=rfl;rw[eval,f,R.ae,l,R.ae,jB,Da<|by rw[Gf];simp;lia];unfold gJ;rw[Ad,Ad]
 .rw[exec,eval,i,R.ae,k,R.ae,jJ,Da<|by rw[Gf];simp;lia];rfl
end
noncomputable abbrev dG:List D:=[.m uN,.m [116,105,101,32,107,105,110,100],.m vd,.m [116,105,101,32,97,49],.m dW,.m eU,.m dM,.m lU,.m [107,105,110,100,32,32,113],.m [75,105,110,100,32,113],.m []]
noncomputable abbrev d8:List D:=[.m [116,105,101,32,122,113],.m [107,105,110,100,32,122,122],.m sC,.m sd,.L,.o 7,.m [32,107,105,110,100,32,122,122]]
def Ma:∀x∈dG++d8,Rq 0 x:=by
 have d:∀t:Tx,t.e<=100->nu t<=20->Rq 0 _:=λt a b=>.u<|.u ⟨t,rfl,(YD),(YD)⟩;intro x c;simp only[Ab4,Aa6,Ab9,Oj]at c;rcases c with(rfl|rfl|rfl|rfl|rfl|rfl|rfl|rfl|rfl|rfl|rfl)|rfl|rfl|rfl|rfl|rfl|rfl|rfl<;>first|exact .p rfl|exact .u<|.p rfl|exact d _ YA YA
def oF(hi)(w)(h)(a:w.seq? h=y0 xs)(h2:w.bc=u0):cc w (.i i) h=y0 xs[i]:=by unfold cc;simp only[W.int?,h2,a];rw[Ac8,Jo xs i hi,Aa7 hi]
def Lx(k)(j:∀t∈K++T,Zj t)(l:(K++T).e<=8)(P:PH h)(E:r<h.e):∃x h',Rq 0 x/\PH h'/\h'.e=h.e/\call prog (k+2) "_law_odd_row" [.v (wD K T),.r r] h=.j (.v x) h':=by
 have F:K.e+T.e<=8:=by rw[Aa2]at l;exact l
 have I:((K++T)++[XJ,wJ]).e=K.e+T.e+2:=by simp;exact OS _
 obtain⟨v,a,N,A,U,g⟩:=jg k P E (show 0<K.e+T.e+2 by lia) YB;obtain⟨u,c,p,H,O,f⟩:=jg k A (show r<a.e by lia) (show 0<20 by decide) YA;have f:call prog _ SS [.r r,.v (.o 20)] a=.j _ c:=f;have e:v<((K++T)++[XJ,wJ]).e:=by lia
 obtain⟨t,m⟩:∃t,t=((K++T)++[XJ,wJ])[v]:=⟨_,rfl⟩;have S:t.e<=8/\nu t<=1:=by
  have:=Ah0 e;rw[←m]at this;rcases Ab4.j this with z|z
  .exact⟨(j t z).hi,q5<|j t z⟩
  .simp only[Aa6,Ab9,Oj]at z;rcases z with rfl|rfl<;>decide
 have all:∀x∈(dG++d8)++[.m (dW++t),.m (ew++t)],Rq 0 x:=λx q=>by
  rcases Ab4.j q with z|z
  .exact Ma x z
  .have M:=Zg dW t;have Q:=Zg ew t;have z1:nu dW<=1:=by decide
   have V:nu ew<=1:=by decide
   simp only[Aa6,Ab9,Oj]at z;rcases z with rfl|rfl
   .exact .u<|.u ⟨_,rfl,by rw[Aa2];have:(dW:Tx).e=5:=rfl;lia,by lia⟩
   .exact .u<|.u ⟨_,rfl,by rw[Aa2];have:(ew:Tx).e=4:=rfl;lia,by lia⟩
 have b:u<((dG++d8)++[D.str (dW++t),.m (ew++t)]).e:=p;refine⟨_,c,all _<|Ah0 b,H,by lia,?_⟩;rw[Gb (d:=jq) rfl _ _ _ rfl];simp only[jq];show Gv _ (execs _ _ [sv (wD K T),y0 (.r r),u0,u0,u0] h)=_;have L:GB .j (.v<|aU K) (.v<|aU T) h=.j (.v<|aU<|K++T) h:=by rw[Jn,Da<|by rw[Gf];simp;exact YD,←Ad]
 have w:GB .j (.v<|aU<|K++T) (.t [.m XJ,.m wJ]) h=.j (.v<|aU<|(K++T)++[XJ,wJ]) h:=by rw[Jn,Da<|by rw[Gf];simp;exact YD];simp
 rw[za (Z1:=[sv (wD K T),y0 (.r r),sv (aU<|(K++T)++[XJ,wJ]),u0,u0]) (h1:=h)<|by rw[exec,eval,eval];rw[show eval (k7<|k+1) (.G .A<|.o 0) [sv (wD K T),y0 (.r r),u0,u0,u0] h=.j (.v<|aU K) h from rfl,R.ae,show eval (k7<|k+1) (.G .A<|.o 1) [sv (wD K T),y0 (.r r),u0,u0,u0] h=.j (.v<|aU T) h from rfl,R.ae,L,R.ae];rw[show eval (k7<|k+1) (.p<|.b (.m XJ)<|.m wJ) [sv (wD K T),y0 (.r r),u0,u0,u0] h=.j (.t [.m XJ,.m wJ]) h from rfl,R.ae,w];rfl];rw[za (Z1:=[sv (wD K T),y0 (.r r),sv (aU<|(K++T)++[XJ,wJ]),y0 (.l dG),u0]) (h1:=h) rfl];have n:GB .j (.l dG) (.j d8) h=.j (.j<|dG++d8) h:=by rw[jB,Da<|by rw[Gf];decide]
 rw[za (Z1:=[sv (wD K T),y0 (.r r),sv (aU<|(K++T)++[XJ,wJ]),y0 (.l<|dG++d8),u0]) (h1:=h)<|by
  rw[exec,eval,show eval (k7<|k+1) .N [sv (wD K T),y0 (.r r),sv (aU<|(K++T)++[XJ,wJ]),y0 (.l dG),u0] h=.j (.l dG) h from rfl,R.ae];exact congrArg (λz=>R.c5 (R.bind (R.ok (W.own d8) h) λy h=>z) _) n|>.x rfl]
 have le:cz .p [.v (aU<|(K++T)++[XJ,wJ])] h=aC (.n<|K.e+T.e+2) h:=by rw[Xu,Ab,I]
 have i1:=oF (xs:=((K++T)++[XJ,wJ]).u D.str) (i:=v) (by rw[Ab];exact e) (.v<|aU<|(K++T)++[XJ,wJ]) a rfl rfl;rw[Ao0,←m]at i1;have g:call prog (k+1) SS [.r r,.i (K.e+T.e+2)] h=.j (.i v) a:=g;rw[za (Z1:=[sv (wD K T),y0 (.r r),sv (aU<|(K++T)++[XJ,wJ]),y0 (.l<|dG++d8),y0 (.s t)]) (h1:=a)<|by simp![le,g,i1]];have G:=Zk dW t a (by simp;lia);have a2:=Zk ew t a (by simp;lia);have J:GB .j (.l<|dG++d8) (.j [D.str (dW++t),.m (ew++t)]) a=.j (.j<|(dG++d8)++[D.str (dW++t),.m (ew++t)]) a:=by rw[jB,Da<|by rw[Gf];show 20<=1000000;decide]
 have C:eval (k7<|k+1) (.u<|.b (.w .j (.m dW) .Y)<|.w .j (.m ew) .Y) [sv (wD K T),y0 (.r r),sv (aU<|(K++T)++[XJ,wJ]),y0 (.l<|dG++d8),y0 (.s t)] a=.j (.j [D.str (dW++t),.m (ew++t)]) a:=by have B:eval (k7<|k+1) (.w .j (.m dW) .Y) [sv (wD K T),y0 (.r r),sv (aU<|(K++T)++[XJ,wJ]),y0 (.l<|dG++d8),y0 (.s t)] a=.j (.s<|dW++t) a:=G;have s:eval (k7<|k+1) (.w .j (.m ew) .Y) [sv (wD K T),y0 (.r r),sv (aU<|(K++T)++[XJ,wJ]),y0 (.l<|dG++d8),y0 (.s t)] a=.j (.s<|ew++t) a:=a2;rw[eval,Gk,B,R.ae,W.eL,R.af,R.ae,Gk,s,R.ae,W.eL,R.af,R.ae,Gk];rfl
 have i2:=oF b (.j<|(dG++d8)++[D.str (dW++t),.m (ew++t)]) c rfl rfl;refine(congrArg _<|Za<|jc (d:=((dG++d8)++[D.str (dW++t),.m (ew++t)])[u]) (h1:=c) rfl ?_).x<|Ga _ _ _ YB;rw[eval,eval,show eval (k7<|k+1) .N [sv (wD K T),y0 (.r r),sv (aU<|(K++T)++[XJ,wJ]),y0 (.l<|dG++d8),y0 (.s t)] a=.j (.l<|dG++d8) a from rfl,R.ae,C,R.ae,J,R.ae];have o:eval (k7<|k+1) (.j SS<|.b .B<|.o 20) [sv (wD K T),some (.r r),sv (aU<|(K++T)++[XJ,wJ]),some (.l<|dG++d8),some (.s t)] a=.j (.i u) c:=by simp![f]
 rw[o,R.ae,i2];rfl
def Rq.ref (h:Rq q x):Gp x=true:=by
 rcases h with rfl|rfl|⟨t,rfl,_⟩<;>rfl
def tu{rs:List D}(h:∀x∈rs,Rq q x):Gi rs=true:=zD λx a=>(h x a).ref
def wP(h:x∈cut xs lo hi):x∈xs:=Am6<|Ag5 h
def Ng(rs)(n:Gi rs=k9)(h):Gm .j (.l rs) (.j []) h=y0 rs.y:=by rw[vT];have e:(W.l rs).dd h=.u rs:=nO h n;have a:(W.own []).dd h=.u []:=rfl;rw[e,a,Da<|by simp[GP,n]];cases rs<;>rfl
noncomputable abbrev dB(rs:List D)(K T:List Tx)(r:Nat)(b a x5 x6 x7 x8:Option W):Sl:=[y0 (.l rs),sv (wD K T),y0 (.r r),b,a,x5,x6,x7,x8]
section
variable{k r q:Nat}{K T:List Tx}{rs:List D}
def tr(c:Gr Z 0=y0 (.l rs))(g:Gr Z 4=si a)(f:∀h,eval F eb Z h=.j (.i b) h)(m:rs.e<=100)(d:eval F e Z h=.j (.v y) h'):
 eval F (.w .j (.w .j (.d9 .A .Y)<|.u<|.j e .p)<|.d3 .A eb) Z h=.j (.j<|cut rs u0 (y0 (a:Int))++[y]++cut rs (y0 (b:Int)) u0) h':=by
 have l:=jS rs u0<|y0 a;have n:=jS rs (y0 b) u0;have k:eval F (.d9 .A .Y) Z h=.j (.j<|cut rs u0<|y0 a) h:=by rw[eval,je c,R.ae,je g,R.ae,int?_int,R.af,R.ae,XS]
 have i:eval F (.d3 .A eb) Z h'=.j (.j<|cut rs (y0 b) u0) h':=by rw[eval,je c,R.ae,f,R.ae,int?_int,R.af,R.ae,XS]
 have j:eval F (.u<|.j e .p) Z h=.j (.j [y]) h':=by rw[eval,Gk,d,R.ae,W.eL,R.af,R.ae,Gk];rfl
 rw[eval,eval,k,R.ae,j,R.ae,jJ,Da<|by rw[Gf];simp;lia,R.ae,i,R.ae,jJ,Da<|by rw[Gf];simp;lia]
def sR(d:∀x∈rs,Rq q x)(e:Rq (q+1) y):∀x∈cut rs u0 a++[y]++cut rs b u0,Rq (q+1) x:=λx c=>by
 obtain c|c:=Ab4.j c
 .obtain c|c:=Ab4.j c
  .exact(d x<|wP c).mono<|Ac9 _
  .rw[Ab2.j c];exact e
 .exact(d x<|wP c).mono<|Ac9 _
def A7(a b:Nat)(y)(c:a<=b):(cut rs u0 (y0 (a:Int))++[y]++cut rs (y0 (b:Int)) u0).e<=rs.e+1:=by rw[QB,xM];simp;lia
def L3(k:Nat)(hN:∀t∈K++T,Zj t)(hl:(K++T).e<=8)(hq:q<=4)(H:∀x∈rs,Rq q x)(hs:rs.e<=50)(P:PH h)(hp:r<h.e):
 ∃L h',(∀x∈L,Rq (q+1) x)/\L.e<=rs.e+1/\PH h'/\h'.e=h.e/\call prog (k+3) Th [.l rs,.v (wD K T),.r r] h=.j (.j L) h':=by
 obtain⟨s,M,hsv,P1,l1,e1⟩:=jg _ P hp (show 0<8 by decide) YA;have e1:call prog (k+2) SS [.r r,.v (.o 8)] h=.j (.i s) M:=e1;obtain⟨a,f,ha,V,l2,e2⟩:=jg (k+1) P1 (show r<M.e by lia) (show 0<rs.e+1 by lia) YB;have e2:call prog (k+2) SS [.r r,.i (rs.e+1)] M=.j (.i a) f:=e2;have s2:∀G,execs (k7<|k+2) (.j (.p 3<|.j SS<|.b .J<|.o 8)<|.j (.p 4<|.j SS<|.b .J<|.w .j (.U .p<|.a .A)<|.o 1) G) (dB rs K T r none none none none none none) h=execs (k7<|k+2) G (dB rs K T r (si s) (si a) none none none none) f:=fun G=>by have ad:=Ws rs.e 1;have ad:Gj .j ((rs.e:Nat):Int) 1=y0 ((rs.e+1:Nat):Int):=ad;rw[za (Z1:=dB rs K T r (si s) u0 u0 u0 u0 u0) (h1:=M)<|by simp![e1],za (Z1:=dB rs K T r (si s) (si a) u0 u0 u0 u0) (h1:=f)<|by simp![jG,ad,e2]]
 have m:∀L h',execs (k7<|k+2) (match aE.j with|.j _ (.j _ G)=>G|G=>G) (dB rs K T r (si s) (si a) u0 u0 u0 u0) f=.j (.j L) h'->h'.e=h.e->call prog (k+3) Th [.l rs,.v (wD K T),.r r] h=.j (.j L) h':=fun L h' e l=>by rw[Gb (d:=aE) rfl _ _ _ rfl];show Gv _ (execs _ aE.j (dB rs K T r u0 u0 u0 u0 u0 u0) h)=_;simp only[aE]at e⊢;rw[s2,e];exact Gw _ _ _ l
 simp only[aE]at m;have Y:Gm .gt (.i s) (.v<|.o 3) f=y0 (k8<|3<s):=by rw[Js];congr 1;rw[Pa];lia
 have nl:=Ng rs (tu H) f;have N:Gg (k7<|k+2) (.or (.y .gt .N<|.o 3)<|.y .j .A<|.u .p) (dB rs K T r (si s) (si a) u0 u0 u0 u0) f=.j (k8 (3<s)||rs.y) f:=by
  cases c:k8 (3<s)with
|true=>rw[c]at Y;simp![Y];rfl
|false=>rw[c]at Y;simp![Y,nl];rfl
 cases U:k8 (3<s)||rs.y with
|true=>rw[U]at N;obtain⟨x,C,rx,P3,l3,S⟩:=Lx k hN hl V (show r<f.e by lia);have ee:=tr (F:=(k7<|k+2)) (e:=.j "_law_odd_row"<|.b .B .J) (Z:=dB rs K T r (si s) (si a) none none none none) (h:=f) (h':=C) (y:=x) (a:=a) (b:=a) (eb:=.a0 4) rfl rfl (fun h=>rfl) (YD) (by simp![S]);refine⟨_,C,sR H<|rx.mono<|Af0 _,A7 a a x<|Aa4 _,P3,by lia,m _ C ?_ YB⟩;exact Za<|(Zi N).x<|Za<|zl rfl ee
|false=>
  rw[U]at N;rw[Am8]at U;have s3:s<=3:=by have:=of_decide_eq_false U.1;exact Ox ‹_›
  have R:0<rs.e:=by
   cases rs with
|nil=>cases U.2
|cons _ _=>simp
  obtain⟨b,X⟩:∃b,b=a%rs.e:=⟨_,rfl⟩;have hb:b<rs.e:=by rw[X];exact Ai6 _ R
  obtain⟨y,ey⟩:∃y,y=rs[b]:=⟨_,rfl⟩;have ry:Rq q y:=by rw[ey];exact H _<|Ah0 hb
  have J:∀h,cc (.l rs) (.i b) h=y0 y:=λh=>by rw[ey];exact oF hb _ h rfl rfl
  have md:=zK a rs.e R;rw[←X]at md;have E:=Ws b 1;have E:Gj .j (b:Int) 1=y0 ((b+1:Nat):Int):=E;have cl1:=jS rs u0<|y0 (b:Int);have cl2:=jS rs (y0 ((b+1:Nat):Int)) u0;obtain⟨g,er⟩:∃z,z=cut rs u0 (y0 (b:Int))++cut rs (y0 ((b+1:Nat):Int)) none:=⟨_,rfl⟩;have lr:g.e<=rs.e:=by rw[er,QB,xM];simp;lia
  have rr:∀x∈g,Rq (q+1) x:=λx i=>by
   rw[er]at i;rcases Ab4.j i with i|i
   .exact(H x<|wP i).mono<|Ac9 _
   .exact(H x<|wP i).mono<|Ac9 _
  have ct:GB .j (.j<|cut rs u0<|y0 (b:Int)) (.j<|cut rs (y0 ((b+1:Nat):Int)) u0) f=.j (.j g) f:=by rw[jJ,Da<|by rw[Gf];lia,er]
  have x4:exec (k7<|k+2) (.p 4<|.w .p .Y<|.U .p<|.a .A) (dB rs K T r (si s) (si a) u0 u0 u0 u0) f=.p (dB rs K T r (si s) (si b) u0 u0 u0 u0) f:=by simp![jG,md]
  have x5:exec (k7<|k+2) (.p 5<|.w .j (.d9 .A .Y)<|.d3 .A<|.w .j .Y<|.o 1) (dB rs K T r (si s) (si b) u0 u0 u0 u0) f=.p (dB rs K T r (si s) (si b) (y0<|.l g) u0 u0 u0) f:=by simp![XS,E,ct]
  have B:Gm .u (.i s) (.v<|.o 2) f=y0 (k8<|s<2):=QA s 2 f;by_cases c2:s<2
  .rw[FM c2]at B;have rp:Kr [y] (s:Int) f=.j (.j<|Aa1 s y) f:=by unfold Kr;rw[Da ⟨(Oy _),by lia,by rw[Gf];simp;exact YD⟩];simp
   have ml:GB .u (.j [y]) (.i s) f=.j (.j<|Aa1 s y) f:=rp;refine⟨g++Aa1 s y,f,λx i=>?_,by simp;lia,V,by lia,m _ f ?_ YB⟩
   .rcases Ab4.j i with i|i
    .exact rr x i
    .rw[(Ai8.j i).2];exact ry.mono<|Ac9 _
   .rw[ja N,za x4,za x5];have cf:GB .j (.l g) (.j<|Aa1 s y) f=.j (.j<|g++Aa1 s y) f:=by rw[jB,Da<|by rw[Gf];simp;lia]
    exact Za<|(Zi (h1:=f)<|by simp![B]).x<|Za<|zl rfl<|by simp![J,ml,cf]
  .rw[Do c2]at B;have A:Gm .j (.i s) (.v<|.o 2) f=y0 (k8<|s=2):=Jd s 2 f;have app:GB .j (.l rs) (.j [y]) f=.j (.j<|rs++[y]) f:=by rw[jB,Da<|by rw[Gf];simp;exact YD]
   have done:Gg (k7<|k+2) (.or (.y .j .N<|.o 2)<|.not<|.cN (.G .A .Y) .str) (dB rs K T r (si s) (si b) (y0<|.l g) u0 u0 u0) f=.j k9 f->∃L h',(∀x∈L,Rq (q+1) x)/\L.e<=rs.e+1/\PH h'/\h'.e=h.e/\call prog (k+3) Th [.l rs,.v (wD K T),.r r] h=.j (.j L) h':=fun t=>by
    refine⟨rs++[y],f,λx i=>?_,by simp,V,by lia,m _ f ?_ YB⟩
    .rcases Ab4.j i with i|i
     .exact(H x i).mono<|Ac9 _
     .rw[Ab2.j i];exact ry.mono<|Ac9 _
    .rw[ja N,za x4,za x5,ja<|by simp![B]];exact Za<|(Zi t).x<|Za<|zl rfl<|by simp![J,app]
   by_cases c3:s=2
   .rw[FM c3]at A;exact done<|by simp![A]
   rw[Do c3]at A;rcases ry with rfl|rfl|⟨t,rfl,tl,tn⟩
   .exact done<|by simp![A,J];rfl
   .exact done<|by simp![A,J];rfl
   have tt:Gg (k7<|k+2) (.or (.y .j .N<|.o 2)<|.not<|.cN (.G .A .Y) .str) (dB rs K T r (si s) (si b) (y0<|.l g) u0 u0 u0) f=.j u9 f:=by simp![A,J,qA,Ty.ck]
   obtain⟨p,C,hp3,P3,l3,S⟩:=jg (k+1) V (show r<f.e by lia) (show 0<t.e+1 by lia) YB;have S:call prog (k+2) SS [.r r,.i (t.e+1)] f=.j (.i p) C:=S;obtain⟨u,o,hu,P4,l4,e4⟩:=jg (k+1) P3 (show r<C.e by lia) (show 0<5 by decide) YA;have e4:call prog (k+2) SS [.r r,.v (.o 5)] C=.j (.i u) o:=e4;have I:=Ws t.e 1;have I:Gj .j ((t.e:Nat):Int) 1=y0 ((t.e+1:Nat):Int):=I;have lt:=oO t YB f;have x6:exec (k7<|k+2) (.p 6<|.j SS<|.b .J<|.w .j (.U .p<|.a<|.G .A .Y)<|.o 1) (dB rs K T r (si s) (si b) (some<|.l g) none none none) f=.p (dB rs K T r (si s) (si b) (some<|.l g) (si p) none none) C:=by simp![J,lt,I,S]
   obtain⟨v,es,sl,sn⟩:∃v:Tx,(∀h,cc (.j [.m [],.m [32],.m [97],.m [126],.m [41]]) (.i u) h=y0 (.m v))/\v.e<=1/\nu v<=1:=by
    have hz:∀(w:W)(h:AH),([D.str [],.m [32],.m [97],.m [126],.m [41]]:List D).e=5:=λ_ _=>rfl
    match u,hu with
|0,_=>exact⟨[],λ_=>rfl,by decide,by decide⟩
|1,_=>exact⟨[32],λ_=>rfl,by decide,by decide⟩
|2,_=>exact⟨[97],λ_=>rfl,by decide,by decide⟩
|3,_=>exact⟨[126],λ_=>rfl,by decide,by decide⟩
|4,_=>exact⟨[41],λ_=>rfl,by decide,by decide⟩
|n+5,z=>exact absurd z<|by lia
   have x7:exec (k7<|k+2) (.p 7<|.G (.u<|.f (.m []) (.m [32]) (.m [97]) (.m [126])<|.m [41])<|.j SS<|.b .J<|.o 5) (dB rs K T r (si s) (si b) (some<|.l g) (si p) none none) C=.p (dB rs K T r (si s) (si b) (some<|.l g) (si p) (some<|.s v) none) o:=by simp![e4,es]
   obtain⟨j,ej⟩:∃j:Bool,j=(v==[]):=⟨_,rfl⟩;have eg:Gm .j (.s v) (.s []) o=y0 j:=by rw[Xa,ej]
   have bi:cz .int [.b j] o=aC (.n j.j) o:=rfl;have ad4:=Ws p j.j;have O:t.e<=bp:=by rw[Gf];lia
   have sa:eN (.s t) u0 (y0 (p:Int)) o=.j (.s<|t.A p) o:=by rw[xx _ _ _ _ O,QB]
   have sb:eN (.s t) (y0 ((p+j.j:Nat):Int)) u0 o=.j (.s<|t.J<|p+j.j) o:=by rw[xx _ _ _ _ O,xM]
   have lt1:(t.A p).e<=t.e:=by rw[Ae4];lia
   have lt2:(t.J<|p+j.j).e<=t.e:=by rw[Ah4];lia
   have aa:=Zk (t.A p) v o YB;have ab:=Zk (t.A p++v) (t.J<|p+j.j) o (by rw[Aa2];lia);obtain⟨Q,et⟩:∃z,z=t.A p++v++t.J (p+j.j):=⟨_,rfl⟩;rw[←et]at ab;have x8:exec (k7<|k+2) (.p 8<|.w .j (.w .j (.d9 (.G .A .Y) .v6) .v7)<|.d3 (.G .A .Y)<|.w .j .v6<|.U .int<|.a<|.y .j .v7<|.m []) (dB rs K T r (si s) (si b) (y0<|.l g) (si p) (y0<|.s v) u0) o=.p (dB rs K T r (si s) (si b) (y0<|.l g) (si p) (y0<|.s v)<|y0<|.s Q) o:=by simp![J,sa,aa,eg,bi,ad4,sb,ab]
   have rt':Rq (q+1)<|.m Q:=by
    refine .u<|.u ⟨Q,rfl,?_,?_⟩
    .rw[et];simp only[Aa2,Ae4,Ah4];lia
    .have:=LI t v p j.j (by cases j<;>decide);rw[←et]at this;lia
   have ee:=tr (F:=(k7<|k+2)) (e:=.a0 8) (Z:=dB rs K T r (si s) (si b) (y0<|.l g) (si p) (y0<|.s v)<|y0<|.s Q) (h:=o) (h':=o) (y:=.m Q) (a:=b) (b:=b+1) (eb:=.w .j .Y<|.o 1) rfl rfl (λh=>by simp![E]) (YD) rfl;refine⟨_,o,sR H rt',A7 b (b+1) _<|Ac9 _,P4,by lia,m _ o ?_ YB⟩;rw[ja N,za x4,za x5,ja<|by simp![B],ja tt,za x6,za x7,za x8];exact Za<|zl rfl ee
end
def KY(n)(h):Gm .w (.i n) (.i n) h=y0 false:=by simp[GP]
def same_str(m)(s)(h):call prog (m+1) Tn [.s s,.s s] h=.j (.b true) h:=by
 rw[Gb rfl _ _ _ rfl];simp only[zu];show Gv _ (execs _ _ [y0 _,y0 _] h)=_;have a:eval (k7 m) (.y .j .A .B) [y0 (.s s),y0 (.s s)] h=.j (.b k9) h:=by simp![Xa,Ot]
 rw[ja rfl,wc rfl<|jc rfl ?_,Ga _ _ _ rfl];rw[eval,show eval (k7 m) _ [y0 _,y0 _] h=.j (.b k9) h from rfl];simp only[R.ae,Gu,R.af,a]
def JN(m i)(h):call prog (m+1) Tn [.i i,.i i] h=.j (.b true) h:=by
 rw[Gb rfl _ _ _ rfl];simp only[zu];show Gv _ (execs _ _ [si i,si i] h)=_;have a:eval (k7 m) (.y .j .A .B) [si i,si i] h=.j (.b k9) h:=by
  have z:=by
   have:=Jd i i h
   rwa [FM rfl]at this
  simp![z]
 rw[ja rfl,ja rfl,Za<|jc rfl ?_,Ga _ _ _ rfl];rw[eval,show eval (k7 m) _ [si i,si i] h=.j (.b k9) h from rfl];simp only[R.ae,Gu,R.af];rw[eval,show eval (k7 m) _ [si i,si i] h=.j (.b k9) h from rfl];simp only[R.ae,Gu,R.af,a]
def EV(h):∀n m d,Gd n d->call prog (m+n+1) Tn [.v d,.v d] h=.j (.b true) h:=by
 intro n;induction n with
|zero=>
  intro m d g;cases g with
 |str s=>exact same_str _ s h
 |int i=>exact JN _ i h
|succ n j=>
  intro m d g;cases g with
|str s=>exact same_str _ s h
|int i=>exact JN _ i h
|@tup _ a q l=>
   rw[show m+(n+1)+1=(m+n+1)+1 by lia,Gb rfl _ _ _ rfl];simp only[zu];show Gv _ (execs _ _ [y0 (.t a),y0 (.t a)] h)=_;have f:eval (k7<|m+n+1) (.U .p<|.a .B) [y0 (.t a),y0 (.t a)] h=.j _ h:=rfl;have e:eval (k7<|m+n+1) (.U .p<|.a .A) [y0 (.t a),y0 (.t a)] h=.j _ h:=rfl;have o:eval (k7<|m+n+1) Xn [y0 (.t a),y0 (.t a)] h=.j (.j<|((Ac2 a.e).u λi=>D.n i).u λ_=>.C k9) h:=by
    rw[Xn,Jl (ds:=(Ac2 a.e).u λi=>D.n i) (λ_=>.C k9) ?_<|by rw[Gf];simp;exact YD]
    .intro d p;obtain⟨i,b,rfl⟩:=Ad3.j p;have b:=Aj3.j b;have ix:∀h,cc _ _ h=y0 a[i]:=λh=>by rw[aA,Jo a i b,Aa7 b]
     refine⟨[si i,y0 _,y0 _],rfl,.b k9,?_,rfl⟩;simp![ix,j m a[i]<|l _<|Ah0 b]
    .rw[Gs,f];simp only[R.ae,int?_int,R.af];rw[Da<|by rw[GJ];lia];simp
   have c:eval (k7<|m+n+1) (.U .N<|.a Xn) [y0 (.t a),y0 (.t a)] h=.j (.b k9) h:=by
    rw[eval,Gn,o];have c:((Ac2 a.e).u λi=>D.n i).u (λ_=>D.bl k9)=Aa1 a.e (.C k9):=by rw[List.map_const'];simp
    simp only[R.ae,Gn,c];show((R.of h<|(W.bh h<|.j _).p Kc).p _)=_;rw[show W.bh h _=y0 (Aa1 a.e<|D.bl k9)from rfl,Ac8,CN];have:∀n,(Aa1 n k9).N id=true:=by intro n;simp
    simp[this,aC]
   rw[Za,Ga _ _ _ rfl];rw[Zi rfl,ja]
   .exact Za<|jc rfl c
   .have k:eval (k7<|m+n+1) (.y .w (.U .p<|.a .A)<|.U .p<|.a .B) [y0 (.t a),y0 (.t a)] h=.j (.b u9) h:=by rw[eval,e,R.ae,f,R.ae,KY];rfl
    rw[Gg,eval,show eval (k7<|m+n+1) (.not<|.cN .A .tuple) [y0 (.t a),y0 (.t a)] h=.j (.b u9) h from rfl];simp only[R.ae,Gu,R.af,k]
def fx(e:exec F s Z h=.p Z1 h1)(g:Gv n (execs F ss Z1 h1)=r):Gv n (execs F (.j s ss) Z h)=r:=by rw[za e];exact g
def oj(l:xs.e+ys.e<=16):GB .j (.l xs) (.j ys) h=.j (.j<|xs++ys) h:=by rw[jB,Da<|by rw[Gf];exact YD]
def DH(h):Gm .j (.l [.C k9,.C u9,.C u9,.C u9,.C u9,.C u9,.C u9,.C u9,.C u9,.C u9,.C u9,.C u9,.C u9,.C u9,.C u9]) (.j<|((Ac2 15).u λi:Nat=>D.n i).u λd=>.C<|cW d<|.o 0) h=y0 true:=by rfl
def BZ(k n)(h):call prog (k+1) "_law_only" [.v (f6 n),.v (.o 0)] h=.j (.b true) h:=by
 rw[Gb rfl _ _ _ rfl];simp only[WM];have a:∀b,b9 prog.cl (.v<|f6 n) b=y0 _:=λb=>rfl;refine fx (by simp![a];rfl) ?_;refine fx (by simp![a];rw[oj YC];rfl) ?_;refine fx (by simp![a];rw[oj YC];rfl) ?_;refine fx (by simp![a];rw[oj YC];rfl) ?_;refine fx (by simp![a];rw[oj YC];rfl) ?_;show Gv _ (execs _ _ [sv _,sv _,y0 (.l [.C k9,.C u9,.C u9,.C u9,.C u9,.C u9,.C u9,.C u9,.C u9,.C u9,.C u9,.C u9,.C u9,.C u9,.C u9])] h)=_;rw[ja<|by simp![a];rfl,Za]
 .exact Ga _ _ _ rfl
 .refine jc rfl ?_;have e:eval (k7 k) zt [sv (f6 n),sv (.o 0),y0 (.l [.C k9,.C u9,.C u9,.C u9,.C u9,.C u9,.C u9,.C u9,.C u9,.C u9,.C u9,.C u9,.C u9,.C u9,.C u9])] h=.j (.j<|((Ac2 15).u λi:Nat=>D.n i).u λd=>.C<|cW d<|.o 0) h:=by
   rw[zt,Jl (ds:=(Ac2 15).u λi=>D.n i) (λd=>.C _) ?_<|by rw[Gf];simp]
   .intro d c;obtain⟨i,f,rfl⟩:=Ad3.j c;exact⟨[si i,sv _],rfl,.b _,rfl,rfl⟩
   .rw[Gs,eval];simp only[R.ae,int?_int,R.af,aC];rw[Da<|by rw[GJ];exact by decide];rfl
  rw[eval];show(R.ok _ h).p _=_;rw[R.ae,e,R.ae];show(R.of h _).p _=_;rw[DH];rfl
noncomputable abbrev d5(ns:List Int)(K T:List Tx)(r:Nat)(rs:List D)(a x5 x6 x7 x8 x9:Option W):Sl:=[y0 (bD ns),sv (wD K T),y0 (.r r),y0 (.l rs),a,x5,x6,x7,x8,x9]
theorem yn(f:∀t∈K++T,Zj t)(g:(K++T).e<=8):∀ds rs q M h,(∀x∈rs,Rq q x)->q+ds.e<=5->rs.e+ds.e<=50->PH h->r<h.e→
 ∃L h' O,(∀x∈L,Rq 5 x)/\L.e<=50/\PH h'/\h'.e=h.e/\GA (GC [4] k9) (λZ h=>execs (k7 219) WZ Z h) ds (d5 ns K T r rs M u0 u0 u0 u0 u0) h=.p (d5 ns K T r L O u0 u0 u0 u0 u0) h'
|[],rs,q,M,h,e,k,j,P,_=>⟨rs,h,M,λx p=>(e x p).mono<|YD,(YD),P,rfl,rfl⟩
|d::ds,rs,q,M,h,e,k,j,P,o=>by rw[Ab1]at k j;obtain⟨a,l,s,A,v,y,c⟩:=L3 216 f g YB e (Ac0 (OE _ _) ‹_›) P o;have c:=c;obtain⟨b,i,O,m,n,w,z,u⟩:=yn (r:=r) f g ds a (q+1) (sv d) l s YB YB v YB;refine⟨b,i,O,m,n,w,by lia,?_⟩;rw[Xi (Z1:=d5 ns K T r rs (sv d) u0 u0 u0 u0 u0) (Z2:=d5 ns K T r a (sv d) u0 u0 u0 u0 u0) (h2:=l) rfl<|by simp only[WZ];simp![c],u]
def tO(n)(h)(d):∃h',Gv n (.j (.v d) h)=.j (.v d) h':=by
 show∃h',fin n _ h=_;unfold fin;split
 .exact⟨_,rfl⟩
 .split
  .exact⟨_,rfl⟩
  .exact⟨_,rfl⟩
theorem ui:∀rs:List D,(∀x∈rs,Rq q x)->GN rs rs=k9
|[],_=>rfl
|x::rs,h=>by
  rw[GN,ui rs λy a=>h y<|Aa0 _ a,An3];rcases h x Aa with rfl|rfl|⟨t,rfl,_⟩
  .rfl
  .rfl
  .rw[cW];exact Ot _
theorem A2:∀rs:List D,(∀x∈rs,Rq q x)->G8 rs=0
|[],_=>rfl
|x::rs,h=>by
  rw[G8,A2 rs λy a=>h y<|Aa0 _ a];rcases h x Aa with rfl|rfl|⟨t,rfl,_⟩<;>rfl
def HZ{rs:List D}(a:∀x∈rs,Rq q x)(h):Gm .w (.l rs) (.l rs) h=y0 false:=by have n:=tu a;rw[yb];have e:(W.l rs).dd h=.u rs:=nO h n;rw[e,Da<|by simp[GP,n,A2 rs a],cW,ui rs a];rfl
def Mf(i:dY K T ss):Gd 192<|bL (Gc K) (Gc T) ss:=by
 have c:∀b:List Tx,b.e<=4->Gd 190 (.p<|b.u .m):=λb l=>(Gd.tup (by grind) λx a=>by obtain⟨t,_,rfl⟩:=Ad3.j a;exact .m t);refine .tup YC λx a=>?_;simp[Oj]at a;obtain rfl|rfl:=a
 .refine(Gd.tup YC λx a=>?_);simp[Oj]at a;obtain rfl|rfl:=a
  .exact c _<|by rw[wh];exact i.lk
  .exact c _<|by rw[wh];exact i.lt
 .exact .tup (by have:=i.ls;exact YD) λx a=>let⟨_,g,l⟩:=i.gd x a;g.mono l
def gE(ns:List Int)(hl:ns.e<=63):∃h',call prog 220 "law" [.l (ns.u .o)] []=.j (.b true) h':=by
 obtain⟨K,T,h1,lK,lT,nm,P1,n1,e1⟩:=Cr 215 ns hl [] PH.nil;have e1:call prog 219 Tw [bD ns] []=.j _ h1:=e1;have hN:=nm.j;have l8:(K++T).e<=8:=by rw[Aa2];lia
 obtain⟨a1,f1,g1,ep⟩:=jF 217 ns hl 3 h1;have ep:call prog 219 SY [bD ns,.v _] h1=.j _ h1:=ep;have P2:=P1.app a1 f1 g1;have l2:(h1++[Cell.lst [D.int a1,D.int f1,D.int g1]]).e=h1.e+1:=by simp
 obtain⟨v,h3,hv,P3,l3,e3⟩:=jg 218 P2 (show h1.e<(h1++[Cell.lst [D.int a1,D.int f1,D.int g1]]).e by lia) (show 0<13 by decide) YA;have e3:call prog 219 SS [.r h1.e,.v (.o 13)] _=.j _ h3:=e3;obtain⟨ss,h4,ls,ws,P4,l4,e4⟩:=DI hl ((YD):(K++T).length<=100) (n:=v) (IR ‹_›) P3;have e5:=EY (m:=217) (h:=h4) (ss:=ss) (w:=.p<|ss.u cq) (.u rfl) hN lK lT YB ws<|L2 _ _;have e5:call prog 219 "_law_shown_rows" [.v _,.p _] h4=.j _ h4:=e5;have rq:=FV hN ws;have lsh:((gJ K T ss).u D.str).e<=20:=by unfold gJ;simp;lia
 obtain⟨u,h6,hu,P6,l6,e6⟩:=jg 218 P4 (show h1.e<h4.e by lia) (show 0<5 by decide) YA;have e6:call prog 219 SS [.r h1.e,.v (.o 5)] h4=.j (.i u) h6:=e6;obtain⟨rs,h7,y4,rr,lr,P7,l7,e7⟩:=yn (ns:=ns) (r:=h1.e) hN l8 ((Ac2 u).u λi=>D.n i) ((gJ K T ss).u .m) 0 u0 h6 rq (by simp;exact Ag2 ‹_›) (by simp at lsh⊢;lia) P6 YB;have ro:∀x∈rs,mC x:=λx hx=>(rr x hx).ok<|Aa4 _;rw[Gb (d:=o8) rfl _ _ _ rfl];simp only[o8];show∃h',Gv _ (execs _ _ [y0 (bD ns),u0,u0,u0,u0,u0,u0,u0,u0,u0] [])=.j _ h';rw[za (Z1:=[y0 (bD ns),sv (wD K T),u0,u0,u0,u0,u0,u0,u0,u0]) (h1:=h1)<|by simp![show call prog 219 Tw [bD ns] []=_ from e1]];have p1:=Zp (F:=(k7 219)) (f:=SY) (es:=.j .A<|.a<|.o 3) (Z:=[some (bD ns),sv (wD K T),none,none,none,none,none,none,none,none]) (h:=h1) (ws:=[bD ns,.v (.o 3)]) (xs:=[D.int a1,D.int f1,D.int g1]) rfl ep rfl;rw[za (Z1:=[y0 (bD ns),sv (wD K T),y0 (.r h1.e),u0,u0,u0,u0,u0,u0,u0]) (h1:=h1++[Cell.lst [D.int a1,D.int f1,D.int g1]])<|by rw[exec,p1];rfl];rw[za (Z1:=d5 ns K T h1.e ((gJ K T ss).u .m) u0 u0 u0 u0 u0 u0) (h1:=h4)<|by simp![e3,show call prog 219 "_law_sayings" [bD ns,.v (wD K T),.i v] h3=_ from e4,e5]];rw[za (Z1:=d5 ns K T h1.e rs y4 u0 u0 u0 u0 u0) (h1:=h7)<|by
  rw[exec,show GD (k7 219) (.aQ<|.j SS<|.b .J<|.o 5) (d5 ns K T h1.e ((gJ K T ss).u .m) none none none none none none) h4=.j ((List.range u).u fun i=>D.n i) h6 from ?_,R.aF]
  .exact e7
  .show Gs _ _ _ _=_;rw[Gs,show eval (k7 219) (.j SS<|.b .J<|.o 5) (d5 ns K T h1.e ((gJ K T ss).u .m) none none none none none none) h4=.j (.i u) h6 from by simp![e6],R.ae,int?_int,R.af,R.ae,Da<|by rw[GJ];lia];simp]
 have pu:=P7.pure;have nr:=HZ rr;have cx:∀n:Nat,GT (f6 n) h7.e h7=h7:=λn=>by
  unfold GT;split
  .exact Aj7
  .rfl
 rcases B6 104 pu ro<|YD with⟨n,d1,d2⟩|⟨K2,T2,s2,i2,d1,d2⟩
 .have d1:call prog 219 Tq [.l rs] h7=.j (.i n) h7:=d1;have d2:call prog 219 Ta [.l rs] h7=.w (.p [f6 n]) h7:=d2 h7 pu;rw[za (Z1:=d5 ns K T h1.e rs y4 (si n) u0 u0 u0 u0) (h1:=h7)<|by simp![d1]];rw[za (Z1:=d5 ns K T h1.e rs y4 (si n) (y0<|.l rs) u0 u0 u0) (h1:=h7) rfl,za (Z1:=d5 ns K T h1.e rs y4 (si n) (y0<|.l rs) (sv .L) u0 u0) (h1:=h7) rfl,za (Z1:=d5 ns K T h1.e rs y4 (si n) (y0<|.l rs) (sv .L) (sv .L) u0) (h1:=h7) rfl];rw[za (Z1:=d5 ns K T h1.e rs y4 (si n) (y0<|.l rs) (sv .L) (sv<|f6 n) u0) (h1:=h7)<|by rw[exec];show Kn _ _ _ _ _ _ _ _ (.j [.l rs] h7)=_;unfold Kn;show(match call prog 219 Ta [.l rs] h7 with|.j w h=>_|.w d h1=>_|.fail=>_)=_;rw[d2];show O.next _ (GT (f6 n) h7.e h7)=_;rw[cx];rfl];rw[ja<|by simp![nr],ja rfl];have o1:=BZ 218 n h7;have o2:=JN 218 n h7;have o1:call prog 219 "_law_only" [.v (f6 n),.v (.o 0)] h7=.j (.b true) h7:=o1;have o2:call prog 219 Tn [.i n,.i n] h7=.j (.b true) h7:=o2;obtain⟨h',ef⟩:=tO 0 h7<|.C k9;refine⟨h',(congrArg _<|Za<|jc rfl ?_).x ef⟩;simp![o1,o2,Oi]
 .have d1:call prog 219 Tq [.l rs] h7=.j (.v<|bL (Gc K2) (Gc T2) s2) h7:=d1;have d2:call prog 219 Ta [.l rs] h7=.j (.v<|bL (Gc K2) (Gc T2) s2) h7:=d2 h7 pu;obtain⟨th,et⟩:∃th,th=bL (Gc K2) (Gc T2) s2:=⟨_,rfl⟩;have o2:=EV h7 192 26 _<|Mf i2;have it:cN .tuple (.v th)=y0 true:=by rw[et];rfl
  rw[←et]at d1 d2 o2;have o2:call prog 219 Tn [.v th,.v th] h7=.j (.b true) h7:=o2;rw[za (Z1:=d5 ns K T h1.e rs y4 (sv th) u0 u0 u0 u0) (h1:=h7)<|by simp![d1]];rw[za (Z1:=d5 ns K T h1.e rs y4 (sv th) (y0<|.l rs) u0 u0 u0) (h1:=h7) rfl,za (Z1:=d5 ns K T h1.e rs y4 (sv th) (y0<|.l rs) (sv .L) u0 u0) (h1:=h7) rfl,za (Z1:=d5 ns K T h1.e rs y4 (sv th) (y0<|.l rs) (sv .L) (sv .L) u0) (h1:=h7) rfl];rw[za (Z1:=d5 ns K T h1.e rs y4 (sv th) (y0<|.l rs) (sv th) (sv .L) u0) (h1:=h7)<|by rw[exec];show Kn _ _ _ _ _ _ _ _ (.j [.l rs] h7)=_;unfold Kn;show(match call prog 219 Ta [.l rs] h7 with|.j w h=>_|.w d h1=>_|.fail=>_)=_;rw[d2];rfl];rw[ja<|by simp![nr]];obtain⟨h',ef⟩:=tO 0 h7<|.C k9;refine⟨h',(congrArg _<|wc (w:=.b k9) (by simp![it])<|jc rfl ?_).x ef⟩;simp![o2]
end Lake.M
namespace Lake.MS
open PySem PyProof.Rows
noncomputable def E2:List String:=["is_written","is_word","is_name","words_of","theory_of","sort_of_sign","signs_of","one_deeper","read_saying","rows_taken","taken","with_row","read_theory","_law_cell","_law_purse","_law_next","_law_family","_law_any_names","_law_words","_law_leaf","_law_expression","_law_fact","_law_saying","_law_same","_law_sort","_law_signs","_law_atom_of","_law_chain_of","_law_counted_of","_law_fact_of","_law_unit_of","_law_row_of","_law_read","_law_only","_law_plain","_law_plain_saying","_law_shown_rows","_law_sayings","_law_odd_row","_law_changed_rows","_law_name_row","_law_due","law"]
noncomputable def Ee:List String:=["WorldError","NoSize","NoPair","NoName","NoCode","NoText","Crowded","TooBig","NoWorld","NoRenaming","NoNumber","Broken","Kept","Unlike","NoRow","NoStand"]
noncomputable def IJ:List String:=["NoName","Crowded"]
def KO:List String:=["WorldError"]
def Er:List String:=[]
def zev:List String:=["rows_taken"]
noncomputable def D1:ri:=⟨[("Reader","names"),("Reader","signs"),("Reader","place")],[("Reader","here","Reader.here"),("Reader","take","Reader.take"),("Reader","take_just","Reader.take_just"),("Reader","saying","Reader.saying"),("Reader","part","Reader.part"),("Reader","unit","Reader.unit"),("Reader","fact","Reader.fact"),("Reader","count_fact","Reader.count_fact"),("Reader","limit","Reader.limit"),("Reader","pair_fact","Reader.pair_fact"),("Reader","expression","Reader.expression"),("Reader","term","Reader.term"),("Reader","factor","Reader.factor"),("Reader","atom","Reader.atom")],[("Reader","Reader.__init__")],["Reader.__init__","Reader.here","Reader.take","Reader.take_just","Reader.saying","Reader.part","Reader.unit","Reader.fact","Reader.count_fact","Reader.limit","Reader.pair_fact","Reader.expression","Reader.term","Reader.factor","Reader.atom"],[("NoText","row")]⟩
noncomputable def B9:List<|String×List String:=[]
def FP:Cg:=⟨E2,Ee,IJ,KO,D1,k9,Er,zev,u9⟩
end Lake.MS
namespace PySem.W.Fast
def tw13186442706526266261:=Nat
def tw3376356576034970939:=Nat
def tw1870267717653300721:=Nat
def tw9044853844938387022:=Nat
def tw14957627717753808626:=Nat
def tw15832946346498261385:=Nat
def tw14935164207618663648:=Nat
def tw7222812655265582929:=Nat
def tw12666506324997647750:=Nat
def tw13023055665489190872:=Nat
def tw17100282189113258980:=Nat
def tw7253899259687621737:=Nat
def tw2942171424069984517:=Nat
def tw40474356912721950:=Nat
def tw15115772572020371966:=Nat
def tw8649925499532614118:=Nat
def tw16877168408730494744:=Nat
def tw2661330791446772762:=Nat
def tw10060199386965032176:=Nat
def tw1395585918448994245:=Nat
def tw16280791382698194870:=Nat
def tw7646874097816881135:=Nat
def tw573359900135166855:=Nat
def tw10207487622741023227:=Nat
def tw3618032504761745084:=Nat
def tw18066212904424640455:=Nat
def tw13547128121062352289:=Nat
def tw15437474660057567363:=Nat
def tw15210260466970697781:=Nat
def tw14812110187878902499:=Nat
def tw13624967145511314740:=Nat
def tw11878260838439550177:=Nat
def tw10625460429982129165:=Nat
def tw14075935599580139216:=Nat
def tw17092014205675123020:=Nat
def tw10411722067143838014:=Nat
def tw6087254275950234346:=Nat
def tw4838701492894041470:=Nat
def tw1654683360365867848:=Nat
def tw8426744140113807861:=Nat
def tw8142290462200488078:=Nat
def tw18045801543971180567:=Nat
def tw11529683580832337507:=Nat
def tw10361673004266670433:=Nat
def tw4181585960297511271:=Nat
def tw11458240102360458145:=Nat
def tw6462337366278154306:=Nat
def tw9624118809425010020:=Nat
def tw6667487158553823094:=Nat
def tw4903274184448018377:=Nat
def tw17963882757144427710:=Nat
def tw2466602180897293262:=Nat
def tw17645082873907035158:=Nat
def tw13628907824553718314:=Nat
def tw10992275241877979995:=Nat
def tw10218762547479922813:=Nat
def tw8725436721492288016:=Nat
def tw4921951874799067981:=Nat
def tw9199921904345959467:=Nat
def tw10027462477309025861:=Nat
def tw2469194168027543519:=Nat
def tw6209691690913143056:=Nat
def tw6538916212986164884:=Nat
def tw13443436968261656875:=Nat
def tw1168905465634510107:=Nat
def tw9984246694290748194:=Nat
def tw315009882458472606:=Nat
def tw1678636285314997621:=Nat
def tw11342977344925293194:=Nat
def tw16853236923711685674:=Nat
def tw6685619297010164899:=Nat
def tw4281222939701286415:=Nat
def tw2351461902186786527:=Nat
def tw18146341566224199277:=Nat
def tw18085241481073945986:=Nat
def tw12079435107365422438:=Nat
def tw7258934715317199823:=Nat
def tw6210674598886406424:=Nat
def tw17221312718786867485:=Nat
def tw6927054499556370103:=Nat
def tw15988510966430367509:=Nat
def tw12527105633738293833:=Nat
def tw10086301877400464238:=Nat
def tw16015852814837791334:=Nat
def tw522688771564798303:=Nat
def tw17393500817423430146:=Nat
def tw9675352351519611541:=Nat
def tw8911313208370987274:=Nat
def tw2134639002228979007:=Nat
def tw16131674440619383198:=Nat
def tw8803259529406906711:=Nat
def tw3444038993663272306:=Nat
def tw173616474304965488:=Nat
def tw15960173954906561328:=Nat
def tw6752872752718525752:=Nat
def tw5699949713042372338:=Nat
def tw5383349639799559910:=Nat
def tw2622630467607275541:=Nat
def tw18266546655046433621:=Nat
def tw998944503798266328:=Nat
def tw9687941319985310113:=Nat
def tw8843817847207041072:=Nat
def tw5938931715858636513:=Nat
def tw2779637360562744775:=Nat
def tw13488793609049087623:=Nat
def tw12957964851246626761:=Nat
def tw3614739895224259371:=Nat
def tw6794257682331417780:=Nat
def tw6636234142861477398:=Nat
def tw16602952112939321330:=Nat
def tw16610956535961794912:=Nat
def tw7542628326430119939:=Nat
def tw3460298908317685073:=Nat
def tw11069716365772554140:=Nat
def tw14594151239390738385:=Nat
def tw9694519434365362840:=Nat
def tw497380505873885236:=Nat
def tw3912823147486244947:=Nat
def tw3192561083183682888:=Nat
def tw13254797289439671487:=Nat
def tw12086035412637177034:=Nat
def tw11025591404987502301:=Nat
def tw17082268398243866666:=Nat
def tw14029132954941315981:=Nat
def tw13835698047714410119:=Nat
def tw10413099308561022837:=Nat
def tw9036174038853769929:=Nat
def tw130982747886619860:=Nat
def tw6564443708982766779:=Nat
def tw15392528580751285834:=Nat
def tw12865837507368701660:=Nat
def tw9007943572630029253:=Nat
def tw17546212342166661047:=Nat
def tw1883432166067947122:=Nat
def tw11657010326262360979:=Nat
def tw11466818744966656105:=Nat
def tw550879387634428542:=Nat
def tw2031465177083801835:=Nat
def tw1976310084733052995:=Nat
def tw8488999723820546334:=Nat
def tw10617985149873980591:=Nat
def tw8472222076830054257:=Nat
def tw5971860450289855318:=Nat
def tw3729364759917859220:=Nat
def tw16216814360206074768:=Nat
def tw140427139120382576:=Nat
def tw4617564694340440677:=Nat
def tw14258241806300642726:=Nat
def tw7886077203709698165:=Nat
def tw16725032858395061036:=Nat
def tw6943013000362885675:=Nat
def tw1461848378657738956:=Nat
def tw10037626069223779503:=Nat
def tw888026651367062593:=Nat
def tw5423635037114518152:=Nat
def tw3387280849128823182:=Nat
def tw7918414395869011956:=Nat
def tw15349905921319064460:=Nat
def tw16781870096580990784:=Nat
def tw5236602323110113380:=Nat
def tw17962253347565083994:=Nat
def tw666032788809546979:=Nat
def tw1241339826235246126:=Nat
def tw14599021235393876621:=Nat
def tw14035895096551922546:=Nat
def tw18191898940249313649:=Nat
def tw10309285696663652348:=Nat
def tw374346247088528163:=Nat
def tw2185935444825966845:=Nat
def tw7979840496216385819:=Nat
def tw4892821111352120455:=Nat
def tw3875807521756488455:=Nat
def tw5899491776500747449:=Nat
def tw3401533070314859938:=Nat
def tw17428723724085319641:=Nat
def tw14225338637132558014:=Nat
def tw1410016218562535750:=Nat
def tw8858256780309217870:=Nat
def tw16910534198047863706:=Nat
def tw12569024226525963114:=Nat
def tw7531626437254687885:=Nat
def tw3958142076635652735:=Nat
def tw2739992925621133951:=Nat
def tw627555703511810200:=Nat
def tw3587811573805868768:=Nat
def tw12459098197698346549:=Nat
def tw11075307955509574868:=Nat
def tw4856645151353792121:=Nat
def tw1475816002288526390:=Nat
def tw10795065968935609389:=Nat
def tw4101577680636167455:=Nat
def tw1257904982050914926:=Nat
def tw5281649220259660263:=Nat
def tw18166225174704385563:=Nat
def tw10196845192867416815:=Nat
def tw15967040758664439485:=Nat
def tw13616778171977702247:=Nat
def tw11100444048333890426:=Nat
def tw4003688797858702986:=Nat
def tw15347502647179800188:=Nat
def tw7752891876983028481:=Nat
def tw8537293165128794870:=Nat
def tw17458207344493885245:=Nat
def tw4078513702258730478:=Nat
def tw13722818081011536536:=Nat
def tw8194311152043100647:=Nat
def tw3178472435845327548:=Nat
def tw14451880212027116748:=Nat
def tw14240860894531276268:=Nat
def tw10820154653988446572:=Nat
def tw18021120000497720656:=Nat
def tw12667990173221606664:=Nat
def tw3016236097731068129:=Nat
def tw2970306449854917747:=Nat
def tw4695619172212093272:=Nat
def tw3558358301021565353:=Nat
def tw10468433601262101697:=Nat
def tw5101005093269762871:=Nat
def tw14494313011241239894:=Nat
def tw3591034270538906855:=Nat
def tw9695497914107316158:=Nat
def tw7285311598862451710:=Nat
def tw6727632160793048356:=Nat
def tw3019985248319315077:=Nat
def tw13739558753767052560:=Nat
def tw8981659894575991739:=Nat
def tw5444765867702800188:=Nat
def tw10618080746380667951:=Nat
def tw5028208701652861749:=Nat
def tw15966272493011642498:=Nat
def tw10975484261574820814:=Nat
def tw6548014147421898163:=Nat
def tw7436369328431617674:=Nat
def tw6385588276485174762:=Nat
def tw14844758940724148085:=Nat
def tw457550602699904823:=Nat
def tw4201193616759030944:=Nat
def tw3238876698065784482:=Nat
def tw3155157109049421552:=Nat
def tw6309799611544484739:=Nat
def tw3001271595870706739:=Nat
def tw13899257770595126895:=Nat
def tw9994899358473250586:=Nat
def tw18441209303964227188:=Nat
def tw17620587522414614965:=Nat
def tw16845219734653342545:=Nat
def tw15135778686333284164:=Nat
def tw12880441249841930360:=Nat
def tw14243688503684574139:=Nat
def tw9828682649364822592:=Nat
def tw933495782765983971:=Nat
def tw7406942179003221441:=Nat
def tw7092075367253311299:=Nat
def tw6039585816435712571:=Nat
def tw5996035800199819262:=Nat
def tw5108552588826237751:=Nat
def tw4438868169839731350:=Nat
def tw4376031622672846841:=Nat
def tw18402180006483133340:=Nat
def tw18344281920775781008:=Nat
def tw18267345840352818073:=Nat
def tw17959269285389944258:=Nat
def tw13392694934816898409:=Nat
def tw12893581705423984160:=Nat
def tw10284680394287416831:=Nat
def tw8259638028494572864:=Nat
def tw5887828462188951707:=Nat
def tw4324398725121121310:=Nat
def tw3503111780855134065:=Nat
def tw2958102202753938900:=Nat
def tw15871224931065316419:=Nat
def tw1515262455041002485:=Nat
def tw14932002356192837590:=Nat
def tw14384103146599333341:=Nat
def tw13288682454097989415:=Nat
def tw1314335256030437982:=Nat
def tw11605693335750731233:=Nat
def tw10052843233596568:=Nat
def tw4261642955411468985:=Nat
def tw8186059479090486258:=Nat
def tw6640013577612381327:=Nat
def tw9149316024921683921:=Nat
def tw711708364526060222:=Nat
def tw592326715655073334:=Nat
def tw10709186560365209911:=Nat
def tw961589915292524829:=Nat
def tw9344860058411960781:=Nat
def tw6605975233599512974:=Nat
def tw4258611501241921078:=Nat
def tw4179175312635140531:=Nat
def tw3975174652255406305:=Nat
def tw3857750081198714095:=Nat
def tw2646825569650394508:=Nat
def tw2082337079383502501:=Nat
def tw16911924580394815405:=Nat
def tw16409823353431700197:=Nat
def tw15582041892144810644:=Nat
def tw13277602678439565909:=Nat
def tw12918166320317522839:=Nat
def tw9757931097621872384:=Nat
def tw7988926620487892118:=Nat
def tw6655062738360405164:=Nat
def tw4297312167184807533:=Nat
def tw3937182641837493756:=Nat
def tw3563576775289402277:=Nat
def tw3168639516100166937:=Nat
def tw2953126498303191987:=Nat
def tw2695427107750257508:=Nat
def tw2333147849760611156:=Nat
def tw17287181563685584308:=Nat
def tw17171756005225265313:=Nat
def tw16590635710852001702:=Nat
def tw15592049702818480767:=Nat
def tw12659934263742534455:=Nat
def tw11072504696727616013:=Nat
def tw10567074382386045273:=Nat
def tw9861227796639479342:=Nat
def tw9859221124481998961:=Nat
def tw9671039989486025864:=Nat
def tw9609827507171302760:=Nat
def tw9549146282474604415:=Nat
def tw9540385527323294041:=Nat
def tw9532229197908760175:=Nat
def tw9391854612491813183:=Nat
def tw9374216956172607520:=Nat
def tw9195299784877246533:=Nat
def tw8982327598441087809:=Nat
def tw8953151919357950059:=Nat
def tw8806219401550605713:=Nat
def tw8683138157213381209:=Nat
def tw8636996677596349204:=Nat
def tw858591160346844927:=Nat
def tw8506993633988672856:=Nat
def tw8469690469752484927:=Nat
def tw8453721425584812354:=Nat
def tw8407617906230571861:=Nat
def tw8369752751476702622:=Nat
def tw8334186204861600908:=Nat
def tw8307373487086678948:=Nat
def tw8245847110950152909:=Nat
def tw8171010452648697161:=Nat
def tw8153569859330359021:=Nat
def tw8073729830451911365:=Nat
def tw7996773900891774302:=Nat
def tw7991597595463678004:=Nat
def tw7860141661583082405:=Nat
def tw7719989305869836548:=Nat
def tw7643970549015088683:=Nat
def tw7590720053192268058:=Nat
def tw7523908087142187643:=Nat
def tw7465213027020802056:=Nat
def tw7396101360409217822:=Nat
def tw7364647042594527848:=Nat
def tw7240522416199035193:=Nat
def tw7224846192737685583:=Nat
def tw7208518432391239607:=Nat
def tw7181026532785710041:=Nat
def tw7051754150979633229:=Nat
def tw6958289986854368990:=Nat
def tw693289667999089292:=Nat
def tw6909373757316815602:=Nat
def tw6888365343065931793:=Nat
def tw6841844102656886930:=Nat
def tw6765151085283435825:=Nat
def tw6678697064824717197:=Nat
def tw6650765807629715426:=Nat
def tw6623253924636559536:=Nat
def tw656118196218013374:=Nat
def tw6448040277816818899:=Nat
def tw644054572163676269:=Nat
def tw6395051218161284832:=Nat
def tw6297986124033022840:=Nat
def tw6292711753216325825:=Nat
def tw6275804993567453486:=Nat
def tw624978283762929455:=Nat
def tw612474960145961814:=Nat
def tw5994916712039244306:=Nat
def tw5868169705572986785:=Nat
def tw5832258889521046566:=Nat
def tw5731596000669809600:=Nat
def tw5719494814588527646:=Nat
def tw5592146314757654454:=Nat
def tw5395082311034361269:=Nat
def tw5359529017788452171:=Nat
def tw528265324374259751:=Nat
def tw511797822910054843:=Nat
def tw4777886381643235459:=Nat
def tw4670057896804349121:=Nat
def tw4644462543914702868:=Nat
def tw395294487283357905:=Nat
def tw3795005167117591788:=Nat
def tw3447809035754077616:=Nat
def tw3446298172574099030:=Nat
def tw3029276522673073153:=Nat
def tw2926313871378649701:=Nat
def tw2838287968874195935:=Nat
def tw2811080718622306564:=Nat
def tw2761899232991247623:=Nat
def tw2698050693416128974:=Nat
def tw2426085032083957117:=Nat
def tw2366734124354871883:=Nat
def tw2304053238029631184:=Nat
def tw2218162456124433635:=Nat
def tw2090169492095496736:=Nat
def tw194632954944382474:=Nat
def tw1938132223564096799:=Nat
def tw1866698190464567779:=Nat
def tw18363845918945936998:=Nat
def tw18361229684212648767:=Nat
def tw18333682570808573510:=Nat
def tw18309410431906560258:=Nat
def tw18264518414518746733:=Nat
def tw18188814947087611155:=Nat
def tw18126748532219869516:=Nat
def tw18074142870979530851:=Nat
def tw18040216440134264192:=Nat
def tw18003393705883860807:=Nat
def tw17926256224156174220:=Nat
def tw17821220802635215486:=Nat
def tw17401111256392027441:=Nat
def tw8010576234091070979:=Nat
def tw3822771769123166746:=Nat
def tw5376865068242838691:=Nat
def tw380713263128936403:=Nat
def tw11005920504790702897:=Nat
def tw12245467349862666091:=Nat
def tw15086591638242659610:=Nat
def tw3743645018628749538:=Nat
def tw16597566544452450921:=Nat
def tw2337503716970528081:=Nat
def tw9666843936584344498:=Nat
def tw13755708763249083641:=Nat
def tw8604189697378886057:=Nat
def tw17350033811424452451:=Nat
def tw17045985405145806234:=Nat
def tw4760594700648570222:=Nat
def tw8784120877793314116:=Nat
def tw6502930403836655487:=Nat
def tw8310042434654951086:=Nat
def tw13100622900149509080:=Nat
def tw6839669825725088390:=Nat
def tw3065358352721507525:=Nat
def tw703715392835237345:=Nat
def tw16439611915198906931:=Nat
def tw9014075783325236916:=Nat
def tw6047241917900667704:=Nat
def tw5357990114221065433:=Nat
def tw9024153059818557696:=Nat
def tw4707452792050359779:=Nat
def tw16104645184991396395:=Nat
def tw7330057028858312779:=Nat
def tw7118140316137782736:=Nat
def tw5571325219101032398:=Nat
def tw7777747307437216531:=Nat
def tw5391845441109913854:=Nat
def tw3268306431642666777:=Nat
def tw9477648571397260638:=Nat
def tw2189341311420637918:=Nat
def tw16836809929208459025:=Nat
def tw9450961505256334953:=Nat
def tw8231995196727539742:=Nat
def tw3120186197245905317:=Nat
def tw308768578530589764:=Nat
def tw9684282631273418224:=Nat
def tw10550294617074742434:=Nat
def tw17791780664353129945:=Nat
def tw14088356295191220126:=Nat
def tw1340877251854092958:=Nat
def tw9422853332622507234:=Nat
def tw7920967435877872865:=Nat
def tw4917354769605381714:=Nat
def tw10546261285496606384:=Nat
def tw11851958896038640941:=Nat
def tw4582479655651780572:=Nat
def tw18423060012286225831:=Nat
def tw2976859806787430893:=Nat
def tw15752872562790565020:=Nat
def tw10497764571821669925:=Nat
def tw16463256566213292608:=Nat
def tw5231197226137365461:=Nat
def tw17503493040747519098:=Nat
def tw3194603866876940752:=Nat
def tw17567413602768901126:=Nat
def tw13373699542904428825:=Nat
def tw11856654309563420428:=Nat
def tw17131789014544763323:=Nat
def tw5080182024948102902:=Nat
def tw8412761924730671154:=Nat
def tw13268228467756651078:=Nat
def tw3786361537934542106:=Nat
def tw16095161274647000536:=Nat
def tw16255599476218778232:=Nat
def tw17638349811048666926:=Nat
def tw2662373625327469152:=Nat
def tw3019185667870526387:=Nat
def tw5666699528259841004:=Nat
def tw23167763654809310:=Nat
def tw8059473201759547313:=Nat
def tw10129816892539930122:=Nat
def tw4673399853498227117:=Nat
def tw10330387629645125678:=Nat
def tw4691367400832140386:=Nat
def tw12560258133056094350:=Nat
def tw8396449139216787877:=Nat
def tw13203503858105374162:=Nat
def tw12447011602561069094:=Nat
def tw7514264678509244343:=Nat
def tw14211561147810946133:=Nat
def tw8260567845952941746:=Nat
def tw5364336097249612859:=Nat
def tw15045279098000740659:=Nat
def tw16365077416266164817:=Nat
def tw16953310985630272385:=Nat
def tw9270136152547653606:=Nat
def tw16092441301507489296:=Nat
def tw7950452759308025428:=Nat
def tw4561296747361635298:=Nat
def tw11289625784257770672:=Nat
def tw4800290919431880787:=Nat
def tw15301697252338352595:=Nat
def tw6364259461441834432:=Nat
def tw14893530426518963631:=Nat
def tw12485691222696627584:=Nat
def tw3577255253600834929:=Nat
def tw5330013519711446120:=Nat
def tw16991305060026192997:=Nat
def tw8588045217043843949:=Nat
def tw7085682672197998134:=Nat
def tw8676707795131230219:=Nat
def tw9072178944610622151:=Nat
def tw13996188057633625392:=Nat
def tw9435951950397810875:=Nat
def tw5694091313145467981:=Nat
def tw17683333210896278966:=Nat
def tw343225126978500384:=Nat
def tw3706695709393475718:=Nat
def tw8225059121614207012:=Nat
def tw6966985366796254771:=Nat
def tw17290624942002128928:=Nat
def tw8863538281992162392:=Nat
def tw5927683934121597960:=Nat
def tw1517651467033499543:=Nat
def tw733302898728761075:=Nat
def tw6901861145957737477:=Nat
def tw12820676217563360707:=Nat
def tw16834054034187971537:=Nat
def tw7980121086545052256:=Nat
def tw17923063148428811561:=Nat
def tw14884004944846460060:=Nat
def tw5858112046351627831:=Nat
def tw12252383540337239039:=Nat
def tw8947298727640609988:=Nat
def tw9265317736414999798:=Nat
def tw14533114152683677650:=Nat
def tw17568554322978854216:=Nat
def tw5240520928284190764:=Nat
def tw1623630491950608150:=Nat
def tw8017166431658257162:=Nat
def tw9944303923619407638:=Nat
def tw13485129441848565705:=Nat
def tw14951156918078749631:=Nat
def tw3100081876397285900:=Nat
def tw10971552950722199167:=Nat
def tw15628360544203390779:=Nat
def tw2960908295729094403:=Nat
def tw12958671431504762556:=Nat
def tw14496656843299676429:=Nat
def tw7790949622907591468:=Nat
def tw11009138923509382597:=Nat
def tw8801076377963874619:=Nat
def tw10189849549936717363:=Nat
def tw2522629779652041299:=Nat
def tw8218110776494620388:=Nat
def tw1437580237487405971:=Nat
def tw1301166891400680864:=Nat
def tw12670478465579809151:=Nat
def tw18295045833007255413:=Nat
def tw6338407497041386604:=Nat
def tw4283562951577792770:=Nat
def tw7020177063154030219:=Nat
def tw9751610654733928583:=Nat
def tw5918612254125488230:=Nat
def tw6555742799726498007:=Nat
def tw5998028861987894730:=Nat
def tw7083081499460447234:=Nat
def tw1050135621627148847:=Nat
def tw14270678124876562385:=Nat
def tw11496557062336785584:=Nat
def tw17181579376624290816:=Nat
def tw6176078300516245736:=Nat
def tw1690755677671311330:=Nat
def tw9082617481131018804:=Nat
def tw3346204578547851032:=Nat
def tw2523688954353481913:=Nat
def tw3324330042442598436:=Nat
def tw5972832430708474028:=Nat
def tw4140337135832941974:=Nat
def tw995877516912404177:=Nat
def tw8790865686264838009:=Nat
def tw12592037970676551953:=Nat
def tw6937530576588890270:=Nat
def tw8215338673358550100:=Nat
def tw18277605143777847763:=Nat
def tw3600354591100162992:=Nat
def tw14473794393527535278:=Nat
def tw13632526719809407223:=Nat
def tw13862642823963485971:=Nat
def tw18355080513185346846:=Nat
def tw6699348279600728332:=Nat
def tw12106047076383493102:=Nat
def tw11446823681280401443:=Nat
def tw4403303632582700510:=Nat
def tw10548195256841113892:=Nat
def tw8283462597180721030:=Nat
end PySem.W.Fast
set_option tactic.hygienic true
open PySem PySem.W PyProof.Rows
set_option maxRecDepth 100000 in
set_option maxHeartbeats 0 in
theorem PySem.Challenge.cw_worldfind_k70_rows_refused_holds : PySem.Challenge.rw_worldfind_k70_rows_refused.Holds := by
 w_on;o_law;k_head;(case hw=>w_witness2)
 k_fill
 refine Lake.MS.walk (l:=PySem.Challenge.rw_worldfind_k70_rows_refused) (x:= "_law_script") (2*220+3) ⟨fun _=>rfl,by decide,by decide⟩ rfl rfl (fun w h Y=>PySem.W.kIn_of Y) ?F
 case F=>
  intro w mg fa h KX G hmg;exact Lake.MS.kq Lake.M.prog Lake.MS.FP Lake.MS.B9 219 KX G hmg (by kernel_rfl) Lake.M.gE
