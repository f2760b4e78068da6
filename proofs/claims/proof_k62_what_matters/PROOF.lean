import PyProof.Rows.All
import Wide.All
import OpenK.AllK
import Wide.FinOn
import Lean
import PyProof.EqAt
import PyProof.EqKinds
import PyProof.TupleCall
import PyProof.NeKinds
import PyProof.NsDelKeeps
import KE.KRevSl
import PyProof.StrWalks
import PyProof.ConsumeWalk
import PyProof.SumWalk
import PyProof.Rows.SortStr
import PyProof.SumWalkG
import PyProof.StrCalls2
import PyProof.StrLawsIdx
import PyProof.WalkInts
import PyProof.StrOps2
import PyProof.SliceStr2
import PyProof.Draws
import PyProof.EnumMake
import PyProof.Rows.SetFrom
import PyProof.SetRoads
import PyProof.WalksMore
import PyProof.ListRange
import PyProof.TupleOfSeq
import PyProof.TupleOfGen
import PyProof.Rows.SortShell
import PyProof.ZipIter
import PyProof.DictStraight
import PyProof.TupleKey
import PyProof.DictRoadsH
import PyProof.DictTruth
import PyProof.Rows.TupTab
import KE.KTabLook
import PyProof.FString
import PyProof.CallStr
import KE.KIntText
import PyProof.Rows.Range3
import PyProof.DictRoads
import PyProof.Rows.StrNews2
import KE.KDictOf
import KE.KMinKey
import PySem.Challenge.RW_worldfind_k62_what_matters
set_option Elab.async false
set_option linter.all false
set_option maxRecDepth 100000
set_option compiler.extract_closed false
set_option genSizeOf false
set_option bootstrap.genMatcherCode false
noncomputable section
open List renaming length_map→Aa,getElem?_eq_some_iff→Aa1,mem_cons_of_mem→Aa2,mem_cons_self→Aa3,replicate→Aa4,length_append→Aa5,getElem?_eq_getElem→Aa6,range→Aa7,length_cons→Aa8,mem_append_right→Ab0,map_cons→Ab2,size_toArray→Ab3,getElem?_set_self→Ab6,lookup_cons→Ab7,mem_cons→Ab8,mem_range→Ac0,mem_map→Ac1,getElem?_map→Ac2,mem_singleton→Ac4,mem_of_getElem?→Ac5,mem_append→Ac6,getD_eq_getElem?_getD→Ac7,mem_append_left→Ad,getElem?_set_ne→Ad0,any_eq_true→Ad1,getElem?_append_left→Ad3,length_set→Ad4,map_map→Ad7,map_append→Ad8,length_nil→Ad9,append_nil→Ae,set_set→Ae1,getElem?_append_right→Ae2,length_replicate→Ae3,replicate_succ→Ae4,nil_append→Ae7,length_take→Ae9,length_drop→Af,append_assoc→Af0,map_nil→Af2,isEmpty_iff→Af7,any_cons→Ag4,eq_nil_of_length_eq_zero→Ag7,range_succ_eq_map→Ah3,not_mem_nil→Ah6,lookup→Ah9,nodup_cons→Ai1,length_range→Ai2,map_congr_left→Ai4,getElem?_replicate→Ai5,getElem_mem→Ai7,all_eq_true→Ai8,take_of_length_le→Aj,mem_filter→Aj0,length_filter_le→Aj1,foldl_cons→Aj2,nodup_append→Aj4,flatMap_cons→Aj5,filterMap_cons→Ak0,pairwise_cons→Ak3,any_eq_false→Ak9,contains_iff_mem→Al1,filter_cons→Al5,all_cons→Al6,length_zip→Al7,getElem_of_mem→Al8,drop_eq_getElem_cons→Am7,getElem?_take_of_lt→Am9,sum_cons→An1,range'_succ→An4,filter_map→An7,all_map→An8,range_eq_range'→Ao2,range'→Ao7,mem_filterMap→Ap0,map_take→Ap1,Pairwise→Ap2,flatten_cons→Ap6,any_map→Ap8,take_length→Aq1,cons_append→Aq2
open Bool renaming and_eq_true→Aa0,false_ne_true→Ab9,false_and→Ae5,true_and→Ae6,or_eq_true→Ae8,not_eq_true'→Ag3,and_false→Ag5,eq_false_iff→Aj7,false_eq_true→Ak4,true_or→Am4,not_true→An2,or_true→An9,not_false→Ao6,or_eq_true_iff→Ao9,or_false→Ap3,not_eq_true→Aq3,noConfusion→Aq4
open Nat renaming le_refl→Aa9,lt_of_lt_of_le→Ab4,le_trans→Ab5,ne_of_lt→Ac3,pow_le_pow_right→Ad2,two_pow_pos→Ad5,testBit_two_pow→Ae0,testBit_or→Af1,zero_le→Af4,and_two_pow_sub_one_eq_mod→Af5,zero_testBit→Af8,lt_succ_self→Af9,le_succ→Ag,le_of_lt→Ag0,mul_le_mul→Ag1,not_lt_zero→Ag6,testBit_mod_two_pow→Ag9,testBit_div_two_pow→Ah,testBit_two_pow_sub_one→Ah1,testBit_and→Ah2,lt_of_le_of_lt→Ah8,lt_irrefl→Ai6,mod_lt→Ai9,le_succ_of_le→Aj8,eq_of_testBit_eq→Aj9,testBit_two_pow_self→Ak2,min_eq_left→Ak5,testBit_lt_two_pow→Ak8,or_lt_two_pow→Al,le_of_eq→Al4,div_add_mod→Al9,zero_add→Am5,mul_comm→Am6,add_sub_cancel_left→An3,not_le→Ao1,pow_lt_pow_right→Ao4,mul_le_mul_right→Ao5,sub_le→Ap7,sub_self→Ap9,ne_of_gt→Aq,add_comm→Aq0
open PySem.W renaming Frag→Ab,kia_one→Af3,keepIn→Ah5,emptyDict→Ai,instObj→Ak1,findIn→Ak6,plainGet→Am8,cellsFrom_some→An,lookIn→An5,kitOne→An6,plainGet_of→Ao,callWith_K→Ao3,kitx_list→Ap
open PySem.Heap renaming get?_push_of_some→Ab1,lt_size→Ac,get?_push_size→Ac8,size_push→Ak,get?_update_other→Ak7,get?_update_self→Al2,SameBut→Al3,FlyingW→Am2,get?_update_ne→Ao8
open Int renaming toNat_natCast→Ac9,eq_ofNat_of_zero_le→Ah0,toNat_of_nonneg→Am,natCast_mul→Am0,fdiv_eq_ediv_of_nonneg→Am1,emod_nonneg→Ao0,natCast_nonneg→Ap4,emod_lt_of_pos→Ap5
open Option renaming some→Ad6,bind_some→Af6,map_eq_some_iff→Ag2,bind_eq_some_iff→Ag8,isNone_iff_eq_none→Ah7,isSome_iff_exists→Ai0,getD_some→Al0,getD_none→An0
open Classical renaming choose_spec→Ah4,byContradiction→Aj3,choose→Aj6,propDecidable→Am3
open Array renaming length_toList→Ai3
open Decidable renaming decide→u9
open Option renaming some→y0,none→u0
open Bool renaming true→k9,false→y9
open Array renaming size→Array.j,isEmpty→Array.y,toList→Array.p
open Bool renaming toNat→Bool.j
open Eq renaming trans→Eq.j,symm→Eq.p
open False renaming elim→False.j
open Iff renaming trans→Iff.j,mp→Iff.p,mpr→Iff.u
open Int renaming toNat→Int.j,natAbs→Int.p
open List renaming length→List.e,map→List.j,lookup→List.p,toArray→List.u,contains→List.w,set→List.x,isEmpty→List.y,any→List.A,take→List.B,Nodup→List.C,flatten→List.G,drop→List.K,getD→List.L,all→List.N,flatMap→List.Q,filter→List.T,filterMap→List.U,foldl→List.X,sum→List.Y,zip→List.a0
open Nat renaming testBit→Nat.j
open Option renaming map→Option.j,bind→Option.p,isSome→Option.u,isNone→Option.w,join→Option.x
open Or renaming elim→Or.j,inl→Or.p,inr→Or.u,resolve_right→Or.w,resolve_left→Or.x
open PyProof.Rows.IsTup renaming typeIs→PyProof.Rows.IsTup.Z
open PySem.Around renaming in1→PySem.Around.j,handled→PySem.Around.p,units→PySem.Around.u
open PySem.Code renaming builtin→PySem.Code.u
open PySem.Const renaming str→PySem.Const.p
open PySem.Data renaming cell→PySem.Data.p,seq→PySem.Data.j,fields→PySem.Data.u,dict→PySem.Data.w
open PySem.Env renaming scope→PySem.Env.j,locals→PySem.Env.p,cells→PySem.Env.u,kindOf→PySem.Env.w
open PySem.Expr renaming Name→PySem.Expr.j,Attribute→PySem.Expr.p,Subscript→PySem.Expr.u,Constant→PySem.Expr.w,Call→PySem.Expr.x,BoolOp→PySem.Expr.y,ListComp→PySem.Expr.A,Compare→PySem.Expr.B,Tuple→PySem.Expr.C,UnaryOp→PySem.Expr.G
open PySem.FuncData renaming scope→PySem.FuncData.j,params→PySem.FuncData.p
open PySem.Heap renaming objs→PySem.Heap.j,get?→PySem.Heap.p,push→PySem.Heap.u,update→PySem.Heap.w,IsCell→PySem.Heap.x,FunFrames→PySem.Heap.y,UpToSlots→PySem.Heap.A,IsList→PySem.Heap.B
open PySem.NameKind renaming cell→PySem.NameKind.p,free→PySem.NameKind.w
open PySem.Obj renaming dict→PySem.Obj.w,data→PySem.Obj.j
open PySem.Paired renaming cons→PySem.Paired.j,nil→PySem.Paired.p
open PySem.PlainL renaming isList→PySem.PlainL.J
open PySem.Pos renaming endLine→PySem.Pos.j,line→PySem.Pos.p
open PySem.Scope renaming names→PySem.Scope.j,kind→PySem.Scope.p
open PySem.ScopeKind renaming function→PySem.ScopeKind.j
open PySem.Shared renaming heap→PySem.Shared.j,toks→PySem.Shared.p
open PySem.Slot renaming lookup→PySem.Slot.p
open PySem.Stmt renaming Assign→PySem.Stmt.j
open PySem.Str renaming length→PySem.Str.e,cps→PySem.Str.j
open PySem.Value renaming int→PySem.Value.o,ref→PySem.Value.j,type→PySem.Value.p,builtin→PySem.Value.u,none→PySem.Value.w,bool→PySem.Value.x
open PySem.W.Looks renaming andThen→PySem.W.Looks.a3
open PySem.World renaming params→PySem.World.p
open Sum renaming inr→Sum.u
namespace Lake
open PySem PySem.Spec PyProof.Rows
abbrev dF:=Sum Int Str
noncomputable def nE:dF->Value->Bool
|.inl k,v=>Value.isInt k v
|.u x,v=>Value.isStrOf x v
noncomputable def FA(w:World):dF->Int
|.inl k=>hashInt k
|.u x=>hashStr w x
def Qd:∀{k}{v},nE k v=k9->(∃i t,k=Sum.inl i/\v=Value.int i t)\/(∃x t,k=Sum.inr x/\v=Value.str x t)
|.inl i,v,h=>by obtain⟨t,e⟩:=Value.isInt_shape h;exact .p ⟨i,t,rfl,e⟩
|.u x,v,h=>by obtain⟨t,e⟩:=Value.isStrOf_shape h;exact .u ⟨x,t,rfl,e⟩
def NW(x)(t):nE (.u x) (.str x t)=true:=by simp[nE,Value.isStrOf]
def IA(a b):u9 ((Sum.inl a:dF)=Sum.inl b)=(a==b):=by grind
def OK(a b):u9 ((Sum.inr a:dF)=Sum.inr b)=u9 (a=b):=by simp
def Iv(a)(b):u9 ((Sum.inl a:dF)=Sum.inr b)=false:=decide_eq_false (λq=>nomatch q)
def Nx(a)(b):u9 ((Sum.inr a:dF)=Sum.inl b)=false:=decide_eq_false (λq=>nomatch q)
noncomputable def xw(prog:Program)(w:World):PySem.KeyKind prog w dF where
 is:=nE
 hash:=FA w
 inj:=λv a b f d=>by
  rcases Qd f with⟨i,t,rfl,rfl⟩|⟨x,t,rfl,rfl⟩
  .rcases Qd d with⟨j,u,rfl,e⟩|⟨y,u,rfl,e⟩
   .injection e with e1 _;rw[e1]
   .exact nomatch e
  .rcases Qd d with⟨j,u,rfl,e⟩|⟨y,u,rfl,e⟩
   .exact nomatch e
   .injection e with e1 _;rw[e1]
 byValue:=λk v h=>by
  rcases Qd h with⟨i,t,rfl,rfl⟩|⟨x,t,rfl,rfl⟩<;>rfl
 pyHash:=λc h=>by
  rcases Qd c with⟨i,t,rfl,rfl⟩|⟨x,t,rfl,rfl⟩
  .exact wpAny_pyHash_int h
  .exact wpAny_pyHash_str h
 eqBool:=λg c h=>by
  rcases Qd g with⟨i,t,rfl,rfl⟩|⟨x,t,rfl,rfl⟩
  .rcases Qd c with⟨j,u,rfl,rfl⟩|⟨y,u,rfl,rfl⟩
   .rw[IA]at h;exact wpAny_eqBool_int h
   .rw[Iv]at h;exact SeqAt.EqAt.int_str i t y u _ _ _ _ h
  .rcases Qd c with⟨j,u,rfl,rfl⟩|⟨y,u,rfl,rfl⟩
   .rw[Nx]at h;exact SeqAt.EqAt.str_int x t j u _ _ _ _ h
   .rw[OK]at h;exact wpAny_eqBool_str h
 «strs»:=λk x t v h=>by
  rcases Qd h with⟨i,u,rfl,e⟩|⟨y,u,rfl,e⟩
  .exact nomatch e
  .injection e with e1 _
   subst e1;cases v<;>rfl
def xl(prog)(w)(x)(t):(xw prog w).is (.u x) (.str x t)=true:=NW x t
inductive V where
|aw|bl (b:Bool)|int (i:Int)|str (x:Str)|lj (b:Array UInt8)|iU (b:UInt64)|ref (a:Addr)|ty (n:String)
 deriving DecidableEq
open Lake renaming V.int→Lake.V.o,V.ref→Lake.V.j,V.str→Lake.V.p,V.bl→Lake.V.C
def RelV:V->Value->Prop
|.aw,u=>u=Value.none
|.C b,u=>u=Value.bool b
|.o i,u=>∃t,u=Value.int i t
|.p x,u=>∃t,u=Value.str x t
|.lj b,u=>∃t,u=Value.bytes b t
|.iU b,u=>∃t,u=Value.float b t
|.j a,u=>u=Value.ref a
|.ty n,u=>u=Value.type n
abbrev Vals:List V->List Value->Prop:=Paired RelV
theorem Vals.length (r:Vals xs us):xs.e=us.e:=Paired.length r
open Lake renaming Vals.length→Lake.Vals.e
theorem Vals.get:∀{xs}{us}{i:Nat}{x},Vals xs us->xs[i]?=y0 x->∃u,us[i]?=y0 u/\RelV x u
|_,_,_,_,.p,e=>by simp at e
|_,_,0,_,.j r _,e=>by simp at e;subst e;exact⟨_,rfl,r⟩
|_,_,i+1,x,.j _ t,e=>by obtain⟨u,a,b⟩:=Vals.get t (by simpa using e);exact⟨u,by simpa using a,b⟩
theorem Vals.set (r:RelV x u):∀{xs}{j} i,Vals xs j->Vals (xs.x i x) (j.x i u)
|_,_,_,.p=>.p
|_,_,0,.j _ t=>.j r t
|_,_,i+1,.j q t=>.j q (Vals.set r i t)
theorem Vals.append:∀{xs ys}{i ws},Vals xs i->Vals ys ws->Vals (xs++ys) (i++ws)
|_,_,_,_,.p,s=>s
|_,_,_,_,.j r t,s=>.j r (Vals.append t s)
theorem Vals.take:∀{xs}{i}(n),Vals xs i->Vals (xs.B n) (i.B n)
|_,_,0,_=>.p
|_,_,_+1,.p=>.p
|_,_,n+1,.j r t=>.j r (Vals.take n t)
theorem Vals.drop:∀{xs}{i}(n),Vals xs i->Vals (xs.K n) (i.K n)
|_,_,0,r=>r
|_,_,_+1,.p=>.p
|_,_,n+1,.j _ t=>Vals.drop n t
def b4:Option V->Option Value->Prop
|some v,y0 u=>RelV v u
|none,none=>True
|_,_=>False
def KV{a:Type}:List (a×V)->List (a×Value)->Prop:=Paired λ(p:a×V)(q:a×Value)=>p.1=q.1/\RelV p.2 q.2
noncomputable def kV:dF->V
|.inl i=>.o i
|.u x=>.p x
inductive HO where
|lst (xs:List V)
|tup (xs:List V)
|dK (kvs:List (dF×V))|dT (kvs:List (List dF×V))
|set (S:Int->Bool)(n:Nat)
|ins (C dx:Addr)(fs:List (Str×V))
|own (x:Addr)
|xd (fs:List (Str×V))
|met (f x:Addr)
|iV (lo hi:Int)
|eJ (o:Obj)(u:HO)
|iM (ps:Array Value)
|ext (φ:Heap->Prop)
open Lake renaming HO.tup→Lake.HO.u,HO.own→Lake.HO.j,HO.lst→Lake.HO.w,HO.ins→Lake.HO.p
abbrev Hp:=Addr->Option HO
noncomputable def aE(H:Hp)(a:Addr)(o:HO):Hp:=λb=>if b=a then y0 o else H b
def zb:aE H a o a=y0 o:=by unfold aE;rw[if_pos rfl]
def Za(h:b≠a):aE H a o b=H b:=by unfold aE;rw[if_neg h]
def jb{H:Hp}(h:H a=y0 o)(h':H b=u0):a≠b:=by intro e;subst e;rw[h]at h';cases h'
def dB(h:Heap)(a:Addr)(b:Array Value):Prop:=∃o,h.p a=some o/\o.cls=.p "tuple"/\o.w=none/\∃n,o.j=.j b n
def dB.is (p:dB h a items):IsTup h a items:=let⟨o,e,c,_,n,d⟩:=p;⟨o,e,c,n,d⟩
theorem dB.lt (p:dB h a items):a<h.j.j:=p.is.lt
def dB.new (h:Heap)(items):dB (h.u {cls:=.p "tuple",data:=.j items}) h.j.j items:=⟨_,Heap.get?_push_size _ rfl,rfl,rfl,_,rfl⟩
section
variable(P:Program)(w:World)
def aT(H:Hp)(h:Heap)(a:Addr):HO->Prop
|.w xs=>xs.e<=sizeLine/\∃(b:List Value)(n:Nat),Vals xs b/\h.p a=y0 {cls:=.p "list",data:=.j b.u n}
|.u xs=>xs.e<=sizeLine/\∃b:List Value,Vals xs b/\dB h a b.u
|.dK kvs=>kvs.e<=sizeLine/\(a==sysModules)=y9/\∃d,KV kvs d/\h.DictOf (xw P w) a d
|.dT kvs=>kvs.e<=sizeLine/\(a==sysModules)=y9/\∃xs:List (List dF×Addr×Value),
  Paired (λ(p:List dF×V)(q:List dF×Addr×Value)=>p.1=q.1/\H q.2.1=y0 (.u (p.1.j kV))/\RelV p.2 q.2.2) kvs xs∧
  ∃o es e,h.p a=y0 o/\o.ExactDict/\o.j=.w es e/\es.p=xs.j (entryOfKey (tupleKind (xw P w)))/\(xs.j (·.1)).C
|.set S n=>h.SetOf (intKind P w) a S n
|.p C dx fs=>H dx=y0 (.j a)/\fs.e<=1000/\dx≠a/\h.p a=y0 (Ak1 C dx)∧
  ∃mA,h.Ns1 dx mA/\(∀f,b4 (fs.p f) (mA f))/\PySem.Within mA (fs.j (·.1))
|.j _=>∃o,h.p a=y0 o
|.xd fs=>∃mA,h.Ns1 a mA/\∀f,b4 (fs.p f) (mA f)
|.iV lo hi=>∃t u v,h.p a=y0 {cls:=.p "range",data:=.u #[.o lo t,.o hi u,.o 1 v]}
|.eJ o u=>h.p a=y0 o/\aT H h a u
|.iM ps=>h.p a=y0 {cls:=.w,data:=.u ps}
|.met f x=>h.p a=y0 (PySem.W.methodObj (.j f) (.j x))
|.ext c=>c h/\(∃o,h.p a=y0 o)/\∀h1 h2:Heap,c h1->(∀o,h1.p a=y0 o->h2.p a=y0 o)->c h2
def dm(H:Hp)(h:Heap):Prop:=∀a o,H a=y0 o->aT P w H h a o
end
section
variable{P:Program}{w:World}{H H':Hp}{h h':Heap}{a:Addr}{o:HO}
theorem aT.lt (x:aT P w H h a o):a<h.j.j:=by
 cases o with
|lst c=>obtain⟨_,_,_,_,e⟩:=x;exact Ac e
|tup c=>obtain⟨_,_,_,p⟩:=x;exact p.lt
|dK b=>obtain⟨_,_,_,_,o,_,_,e,_⟩:=x;exact Ac e
|dT b=>obtain⟨_,_,_,_,o,_,_,e,_⟩:=x;exact Ac e
|set S n=>obtain⟨o,_,_,_,e,_⟩:=x;exact Ac e
|ins C d fs=>obtain⟨_,_,_,e,_⟩:=x;exact Ac e
|own y=>obtain⟨_,e⟩:=x;exact Ac e
|xd fs=>obtain⟨_,⟨_,_,_,e,_⟩,_⟩:=x;exact Ac e
|iV i k=>obtain⟨_,_,_,e⟩:=x;exact Ac e
|eJ l u=>obtain⟨e,_⟩:=x;exact Ac e
|iM j=>exact Ac (x)
|met f y=>exact Ac (x)
|ext g=>obtain⟨_,⟨_,e⟩,_⟩:=x;exact Ac e
theorem Paired.mx:∀{i}{j},Paired F i j->(∀a b,F a b->G a b)->Paired G i j
|_,_,.p,_=>.p
|_,_,.j r t,f=>.j (f _ _ r) (Paired.mx t f)
def aT.cT (x:aT P w H h a o)(k:∀b u,(b=a\/H b=y0 (.j a))->h.p b=y0 u->h'.p b=y0 u)
 (D:∀b,H b=y0 (.j a)->H' b=y0 (.j a))(F:∀b xs,H b=y0 (.u xs)->H' b=y0 (.u xs)):aT P w H' h' a o:=by
 induction o with
|lst xs=>obtain⟨z,l,n,r,e⟩:=x;exact⟨z,l,n,r,k _ _ (.p rfl) e⟩
|tup xs=>obtain⟨z,l,r,g,e,c⟩:=x;exact⟨z,l,r,g,k _ _ (.p rfl) e,c⟩
|dK s=>obtain⟨z,y,G,r,g,j,i,e,c⟩:=x;exact⟨z,y,G,r,g,j,i,k _ _ (.p rfl) e,c⟩
|dT s=>obtain⟨z,y,xs,r,g,j,i,e,c⟩:=x;exact⟨z,y,xs,Paired.mx r λp q z=>⟨z.1,F _ _ z.2.1,z.2.2⟩,g,j,i,k _ _ (.p rfl) e,c⟩
|set S n=>obtain⟨g,j,i,t,e,c⟩:=x;exact⟨g,j,i,t,k _ _ (.p rfl) e,c⟩
|ins C I fs=>obtain⟨d,z,ne,e,m,⟨A,j,i,e2,c⟩,r⟩:=x;exact⟨D _ d,z,ne,k _ _ (.p rfl) e,m,⟨A,j,i,k _ _ (.u d) e2,c⟩,r⟩
|own y=>obtain⟨g,e⟩:=x;exact⟨g,k _ _ (.p rfl) e⟩
|xd fs=>obtain⟨m,⟨A,j,i,e,c⟩,r⟩:=x;exact⟨m,⟨A,j,i,k _ _ (.p rfl) e,c⟩,r⟩
|iV K M=>obtain⟨t,u,v,e⟩:=x;exact⟨t,u,v,k _ _ (.p rfl) e⟩
|eJ g u E=>obtain⟨e,q⟩:=x;exact⟨k _ _ (.p rfl) e,E q⟩
|iM L=>have e:=x;exact k a _ (.p rfl) e
|met f y=>have e:=x;exact k a _ (.p rfl) e
|ext J=>obtain⟨p,⟨o,e⟩,B⟩:=x;exact⟨B _ _ p λo q=>k _ _ (.p rfl) q,⟨o,k _ _ (.p rfl) e⟩,B⟩
theorem dm.lt (x:dm P w H h)(e:H a=y0 o):a<h.j.j:=(x a o e).lt
def dm.fresh (x:dm P w H h)(e:h.j.j<=a):H a=none:=by
 cases q:H a with
|none=>rfl
|some u=>exact absurd (Ab4 (x.lt q) e) (Ai6 _)
def dm.kept (x:dm P w H h)(k:∀b u,h.p b=y0 u->h'.p b=y0 u):dm P w H h':=λa o e=>
 (x a o e).cT (λb u _ q=>k b u q) (λ_ q=>q) λ_ _ q=>q
def dm.laid (x:dm P w H h)(k:∀b u,h.p b=y0 u->h'.p b=y0 u)(g:h.j.j<=a)(new:aT P w (aE H a o) h' a o):dm P w (aE H a o) h':=λb u e=>by
 have f:=x.fresh g;by_cases d:b=a
 .subst d;rw[zb]at e;cases e;exact new
 .rw[Za d]at e;exact(x b u e).cT (λc v _ q=>k c v q) (λc q=>by rw[Za (jb q f)];exact q) λc i q=>by rw[Za (jb q f)];exact q
end
def Rd(H:Hp)(a:Addr)(u:HO):Prop:=H a=y0 u\/∃o,H a=y0 (.eJ o u)
def Rd.ok (r:Rd H a u)(x:dm P w H h):aT P w H h a u:=by
 rcases r with r|⟨o,r⟩
 .exact x a u r
 .obtain⟨_,q⟩:=x a _ r;exact q
def nW:Option HO->Prop
|some (.w _)=>True
|some (.dK _)=>True
|some (.dT _)=>True
|some (.set _ _)=>True
|some (.p _ _ _)=>True
|some (.ext _)=>True
|_=>False
section
variable{P:Program}{w:World}{H:Hp}{h h':Heap}{x e:Addr}{o':HO}
def dm.write (ok:dm P w H h)(g:nW (H x))(o:e=x\/H e=y0 (.j x))(k:∀b u,b≠e->h.p b=y0 u->h'.p b=y0 u)(m:∃u,h'.p e=y0 u)
 (new:aT P w (aE H x o') h' x o'):dm P w (aE H x o') h':=λb u q=>by
 have d:∀c y,H c=y0 (.j y)->c≠x:=λc y r z=>by subst z;rw[r]at g;exact g
 have f:∀c j,H c=y0 (.u j)->c≠x:=λc j r z=>by subst z;rw[r]at g;exact g
 by_cases i:b=x
 .subst i;rw[zb]at q;cases q;exact new
 .rw[Za i]at q;by_cases a:b=e
  .have n:H b=y0 (.j x):=by
    rcases o with z|z
    .exact absurd (a.j z) i
    .rw[a];exact z
   rw[q]at n;cases n;obtain⟨v,p⟩:=m;exact⟨v,by rw[a];exact p⟩
  .refine(ok b u q).cT (λc v l r=>k c v ?_ r) (λc r=>by rw[Za (d c b r)];exact r) λc j r=>by rw[Za (f c j r)];exact r
   rcases l with rfl|l
   .exact a
   .rintro rfl;rcases o with z|z
    .exact d c b l z
    .rw[l]at z;cases z;exact i rfl
end
structure Un(fs ex:List Addr)(H H':Hp)(h h':Heap):Prop where
 keep:∀b o,h.p b=y0 o->H b=u0->b∉fs->b∉ex->h'.p b=y0 o
 slot:∀b o,h.p b=y0 o->H b=u0->b∈fs->b∉ex->∃sl,h'.p b=y0 {o with slots:=sl}
 free:∀b o,h.p b=y0 o->H b=u0->b∉ex->H' b=u0
 there:∀b o,h.p b=y0 o->b∉ex->∃o',h'.p b=y0 o'
 c8:∀b xs,H b=y0 (.u xs)->H' b=y0 (.u xs)
 cQ:∀b o u,H b=y0 (.eJ o u)->H' b=y0 (.eJ o u)
 dc:∀b ps,H b=y0 (.iM ps)->∃more,H' b=y0 (.iM (ps++more))
open Lake renaming Un.free→Lake.Un.w,Un.keep→Lake.Un.p,Un.slot→Lake.Un.u,Un.there→Lake.Un.j
section
variable{fs fs' ex ex':List Addr}{H H1 H2:Hp}{h h1 h2 h':Heap}{a x e:Addr}{o:HO}
def Un.any (u:Un fs ex H H1 h h1)(q:h.p b=y0 ob)(n:H b=u0)(c:b∉ex):∃sl,h1.p b=y0 {ob with slots:=sl}:=by
 by_cases a:b∈fs
 .exact u.u b ob q n a c
 .exact⟨ob.slots,u.p b ob q n a c⟩
def Un.kept (k:∀b u,h.p b=y0 u->h'.p b=y0 u):Un fs ex H H h h':=
 ⟨λb a q _ _ _=>k b a q,λb a q _ _ _=>⟨a.slots,k b a q⟩,λ_ _ _ n _=>n,λb a q _=>⟨a,k b a q⟩,λ_ _ q=>q,λ_ _ _ q=>q,λ_ c q=>⟨#[],by rw[q];simp⟩⟩
def Un.refl:Un fs ex H H h h:=Un.kept λ_ _ q=>q
def Un.laid (k:∀b u,h.p b=y0 u->h'.p b=y0 u)(e:h.j.j<=a)(c:H a=u0):Un fs ex H (aE H a o) h h' where
 keep:=λb u q _ _ _=>k b u q
 slot:=λb u q _ _ _=>⟨u.slots,k b u q⟩
 free:=λb u q n _=>by rw[Za (Ac3 (Ab4 (Ac q) e))];exact n
 there:=λb u q _=>⟨u,k b u q⟩
 c8:=λb d q=>by rw[Za (jb q c)];exact q
 cQ:=λb u d q=>by rw[Za (jb q c)];exact q
 dc:=λb f q=>⟨#[],by rw[Za (jb q c),q];simp⟩
def Un.write (c:nW (H x))(l:e=x\/H e=y0 (.j x))(k:∀b u,b≠e->h.p b=y0 u->h'.p b=y0 u)(d:∃u,h'.p e=y0 u):Un fs ex H (aE H x o) h h':=by
 have i:∀b,H b=u0->b≠x:=λb n z=>by subst z;rw[n]at c;exact c
 have g:∀b,H b=u0->b≠e:=λb n z=>by
  subst z;rcases l with r|r
  .exact i b n r
  .rw[n]at r;cases r
 have f:∀b u,H b=y0 u->¬nW (y0 u)->b≠x:=λb u q nm z=>by subst z;rw[q]at c;exact nm c
 refine⟨λb u q n _ _=>k b u (g b n) q,λb u q n _ _=>⟨u.slots,k b u (g b n) q⟩,λb u q n _=>by rw[Za (i b n)];exact n,λb u q _=>?_,
  λb j q=>by rw[Za (f b _ q λz=>z)];exact q,λb u j q=>by rw[Za (f b _ q λz=>z)];exact q,λb m q=>⟨#[],by rw[Za (f b _ q λz=>z),q];simp⟩⟩
 by_cases a:b=e
 .subst a;exact d
 .exact⟨u,k b u a q⟩
end
noncomputable def el(h:Heap)(H:Hp):List Addr:=(Aa7 h.j.j).T λa=>(H a).u
def iN(h:Heap)(H:Hp):Heap:=PySem.W.hideAll h (el h H)
def Om(h)(H):(iN h H).j.j=h.j.j:=PySem.W.hideAll_size _ _
def OF(e:h.p b=y0 o)(n:H b=u0):(iN h H).p b=y0 o:=
 PySem.W.hideAll_get _ e λa=>by have q:=(Aj0.p a).2;rw[n]at q;simp at q
def F7(e:(iN h H).p b=y0 o):h.p b=y0 o/\H b=none:=by
 have a:=PySem.W.of_hideAll (el h H) e;refine⟨a,?_⟩;cases q:H b with
|none=>rfl
|some x=>have c:b∈el h H:=Aj0.u ⟨Ac0.u (Ac a),by simp[q]⟩;have z:(iN h H).p b=none:=PySem.W.hideAll_none (el h H) c;rw[z]at e;cases e
noncomputable def Ii(g h:Heap)(L:Addr):List (Addr×Obj):=(Aa7 h.j.j).U λa=>if a=L\/(g.p a).u=k9 then u0 else(h.p a).j λo=>(a,o)
def rest(g h:Heap)(L d:Addr):List (Addr×Obj):=(Ii g h L).T λp=>u9 (p.1≠d)
structure Mod(K:Ab)(mg:Str->Option Value)(base:Heap):Prop where
 kN:K.In base
 glob:base.Ns mainGlobals mg
 blt:∃mb,base.Ns builtinsNs mb/\∀x:Str,x≠"__name__"->mb x=bootBuiltins x
 nolimit:base.NoLimit
structure Cx where
 prog:Program
 w:World
 K:Ab
 mg:Str->Option Value
 base:Heap
 A:Around
 N:List Str
 s₀:Shared
 H₀:Hp
 env:Env
 outer:List Env
 stack:List Env
 ex:List Addr
 fn:Str->Bool
 calm:Bool
 pn:List (Addr×Obj)
 xe:Value->Shared->Prop
open Lake renaming Cx.env→Lake.Cx.j,Cx.prog→Lake.Cx.p,Cx.base→Lake.Cx.u,Cx.stack→Lake.Cx.B,Cx.xe→Lake.Cx.y,Cx.outer→Lake.Cx.C,Cx.mg→Lake.Cx.G
noncomputable def cj(l:List Env):List Addr:=l.U (·.frame)
abbrev Cx.fs (X:Cx):List Addr:=cj X.C
def kF(sc:Scope)(x:Str):Prop:=sc.j.p x=y0 .local\/sc.j.p x=y0 .p\/sc.j.p x=y0 .w
def lN(sc:Scope)(x:Str):Prop:=sc.j.p x=y0 .local\/sc.j.p x=y0 .p
def Av(env:Env)(h:Heap)(m:Str->Option Value)(x:Str)(u:Value):Prop:=
 (env.w x=y0 .local/\m x=y0 u)\/((env.w x=y0 .p\/env.w x=y0 .w)/\∃c,env.u.p x=y0 c/\h.x c (y0 u))
structure Cx.Ok (X:Cx):Prop where
 mod:Mod X.K X.G X.u
 kind:X.j.j.p=.j
 glob:X.j.globals=mainGlobals
 blt:X.j.builtins=builtinsNs
 above:X.s₀.j.j.j<=X.j.p
 inj:∀x y c,X.j.u.p x=y0 c->X.j.u.p y=y0 c->x=y
 has:∀x,(X.j.w x=y0 .p\/X.j.w x=y0 .w)->∃c,X.j.u.p x=y0 c
 lI:∀x c,X.fn x=k9->X.j.u.p x=y0 c->X.s₀.j.j.j<=c
 hd:X.calm=k9->X.A.p=u0
 frames:X.A.frames=y0 X.B
 gX:X.B=X.C\/(X.B=X.j::X.C/\X.j.frame=y0 X.j.p)
 mh:∀b∈X.ex,b≠X.j.p/\∀x c,X.j.u.p x=y0 c->c≠b
 bs:∀b o,X.u.p b=y0 o->X.s₀.j.p b=y0 o/\X.H₀ b=u0
 gT:X.u.j.j<=X.s₀.j.j.j
 fQ:∀b o,X.u.p b=y0 o->b∉X.ex
 fD:∀b∈X.ex,b∉X.fs
 cO:X.s₀.j.y X.u X.C
 iw:∀b∈X.fs,X.H₀ b=u0
open Lake renaming Cx.Ok.kind→Lake.Cx.Ok.p,Cx.Ok.above→Lake.Cx.Ok.u
structure Inv(X:Cx)(pins:List (Addr×Obj))(U:List (Option V))(H:Hp)(s:Shared):Prop where
 ok:X.Ok
 os:s.os=X.s₀.os
 bare:AllBare s.gens
 base:Un X.fs X.ex X.H₀ H X.s₀.j s.j
 loc:∃m,s.j.Ns X.j.p m/\∀(i:Nat)(x:Str)(v:V),X.N[i]?=y0 x->U[i]?=y0 (y0 v)->kF X.j.j x->∃u,RelV v u/\Av X.j s.j m x u
 cell:∀x c,X.j.u.p x=y0 c->∃v,s.j.x c v
 free:H X.j.p=u0
 bE:∀x c,X.j.u.p x=y0 c->H c=u0
 pin:∀p∈X.pn++pins,s.j.p p.1=y0 p.2/\H p.1=u0/\p.1≠X.j.p/\p.1∉X.fs/\∀v,p.2.j≠.p v
 aO:dm X.p X.w H s.j
 len:U.e=X.N.e
open Lake renaming Inv.ok→Lake.Inv.j,Inv.base→Lake.Inv.u,Inv.cell→Lake.Inv.p,Inv.free→Lake.Inv.w,Inv.aO→Lake.Inv.G,Inv.bare→Lake.Inv.K,Inv.pin→Lake.Inv.N,Inv.loc→Lake.Inv.X
section
variable{X:Cx}{pins:List (Addr×Obj)}{U:List (Option V)}{H H':Hp}{s:Shared}{h':Heap}
def Cx.Ok.ra (ok:X.Ok)(e:X.u.p b=y0 o):b∉X.fs:=λa=>by have:=(ok.cO.mem a).1;rw[e]at this;cases this
theorem Inv.bs (I:Inv X pins U H s):∀b o,X.u.p b=y0 o->s.j.p b=y0 o/\H b=none:=λb o e=>
 ⟨I.u.p b o (I.j.bs b o e).1 (I.j.bs b o e).2 (I.j.ra e) (I.j.fQ b o e),I.u.w b o (I.j.bs b o e).1 (I.j.bs b o e).2 (I.j.fQ b o e)⟩
def Inv.bk (I:Inv X pins U H s):∀b o,X.u.p b=y0 o->s.j.p b=y0 o:=λb o e=>(I.bs b o e).1
theorem Inv.mod (I:Inv X pins U H s):Mod X.K X.G X.u:=I.j.mod
def Inv.bK (I:Inv X pins U H s):X.K.In s.j:=I.j.mod.kN.keeps I.bk
theorem Inv.lt (I:Inv X pins U H s):X.j.p<s.j.j.j:=let⟨_,a,_⟩:=I.X;a.lt
def Inv.sz (I:Inv X pins U H s):X.s₀.j.j.j<=s.j.j.j:=Ab5 I.j.u (Ag0 I.lt)
def Inv.oQ (I:Inv X pins U H s)(h:s.j.j.j<=a):a∉X.fs:=λb=>by obtain⟨_,o,c,_⟩:=I.j.cO.mem b;exact absurd (Ab4 (Ac c) (Ab5 I.sz h)) (Ai6 _)
def Inv.ic (I:Inv X pins U H s):∀x c,X.j.u.p x=y0 c->c≠X.j.p:=λx c e z=>by obtain⟨v,o,f,d⟩:=I.p x c e;obtain⟨m,⟨g,h,i,b,a,_⟩,_⟩:=I.X;rw[z,b]at f;cases f;rw[a]at d;cases d
theorem Inv.cO (I:Inv X pins U H s):s.j.y X.u X.C:=by
 have all:∀l,(∀b∈cj l,b∈X.fs)->X.s₀.j.y X.u l->s.j.y X.u l:=by
  intro l;induction l with
|nil=>intro _ _;trivial
|cons k r n=>intro f g;obtain⟨h,⟨L,o,d,i,j,p⟩,m⟩:=g;have a:=f L (by unfold cj;rw[Ak0,d];exact Aa3);obtain⟨sl,e⟩:=I.u.u L o j (I.j.iw L a) a λz=>I.j.fD L z a;exact⟨h,⟨L,_,d,i,e,p⟩,n (λb c=>f b (by unfold cj;rw[Ak0,d];exact Aa2 _ c)) m⟩
 exact all X.C (λ_ c=>c) I.j.cO
theorem Inv.stack (I:Inv X pins U H s):s.j.y X.u X.B:=by
 rcases I.j.gX with e|⟨e,b⟩
 .rw[e];exact I.cO
 .rw[e];obtain⟨m,a,_⟩:=I.X;refine .cons (by rw[I.j.p];decide) b a ?_ I.cO;exact Heap.get?_none_of_le (Ab5 I.j.gT I.j.u)
def Inv.dW (I:Inv X pins U H s):∀b∈cj X.B,b∈X.j.p::X.fs:=λb a=>by
 rcases I.j.gX with e|⟨e,c⟩
 .rw[e]at a;exact Aa2 _ a
 .rw[e]at a;unfold cj at a;rw[Ak0,c]at a;exact a
def Inv.cX (I:Inv X pins U H s):∀b∈cj X.B,H b=none:=λb a=>by
 rcases Ab8.p (I.dW b a)with e|a
 .rw[e];exact I.w
 .obtain⟨_,o,c,_⟩:=I.j.cO.mem a;exact I.u.w b o c (I.j.iw b a) λz=>I.j.fD b z a
def Inv.step {ch:List Addr}(I:Inv X pins U H s)
 (j:∀b∈ch,(b∈X.ex\/X.s₀.j.j.j<=b)/\b≠X.j.p/\(∀x c,X.j.u.p x=y0 c->c≠b)/\∀p∈X.pn++pins,p.1≠b)
 (keep:∀b o,b≠X.j.p->b∉X.fs->b∉ch->s.j.p b=y0 o->H b=u0->h'.p b=y0 o)
 (w:∀b o,b≠X.j.p->b∈X.fs->b∉ch->s.j.p b=y0 o->H b=u0->∃sl,h'.p b=y0 {o with slots:=sl})(f:∀b o,b∉ch->s.j.p b=y0 o->H b=u0->H' b=u0)
 (there:∀b o,b∉ch->s.j.p b=y0 o->∃o',h'.p b=y0 o')
 (D:∀b xs,H b=y0 (.u xs)->H' b=y0 (.u xs))(C:∀b o u,H b=y0 (.eJ o u)->H' b=y0 (.eJ o u))(B:∀b ps,H b=y0 (.iM ps)->∃more,H' b=y0 (.iM (ps++more)))
 (ns:∀m,s.j.Ns X.j.p m->h'.Ns X.j.p m)(F:dm X.p X.w H' h')(O:AllBare g'):
 Inv X pins U H' {s with heap:=h',gens:=g',drawn:=d',toks:=t'}:=by
 have E:∀b o,X.s₀.j.p b=y0 o->b≠X.j.p:=λb o e=>Ac3 (Ab4 (Ac e) I.j.u);have t:∀b o,X.s₀.j.p b=y0 o->b∉X.ex->b∉ch:=λb o e a y=>by
  rcases(j b y).1 with z|z
  .exact a z
  .exact absurd (Ab4 (Ac e) z) (Ai6 _)
 have g:∀x c,X.j.u.p x=y0 c->∀v,s.j.x c v->h'.x c v:=by
  rintro x c e v ⟨o,A,J⟩;have h:c∉ch:=λz=>(j c z).2.2.1 x c e rfl;by_cases L:c∈X.fs
  .obtain⟨sl,q⟩:=w c o (I.ic x c e) L h A (I.bE x c e);exact⟨_,q,J⟩
  .exact⟨o,keep c o (I.ic x c e) L h A (I.bE x c e),J⟩
 refine⟨I.j,I.os,O,⟨λb o e n y a=>?_,λb o e n y a=>?_,λb o e n a=>?_,λb o e a=>?_,λb xs e=>D b xs (I.u.c8 b xs e),λb o xs e=>C b o xs (I.u.cQ b o xs e),λb ps e=>?_⟩,?_,λx c e=>?_,?_,λx c e=>?_,λp M=>?_,F,I.len⟩
 .exact keep b o (E b o e) y (t b o e a) (I.u.p b o e n y a) (I.u.w b o e n a)
 .obtain⟨sl,e1⟩:=I.u.u b o e n y a;obtain⟨G,e2⟩:=w b _ (E b o e) y (t b o e a) e1 (I.u.w b o e n a);exact⟨G,e2⟩
 .obtain⟨o',e1⟩:=I.u.j b o e a;exact f b o' (t b o e a) e1 (I.u.w b o e n a)
 .obtain⟨o',e1⟩:=I.u.j b o e a;exact there b o' (t b o e a) e1
 .obtain⟨R,e1⟩:=I.u.dc b ps e;obtain⟨Q,e2⟩:=B b _ e1;exact⟨R++Q,by rw[e2,Array.append_assoc]⟩
 .obtain⟨m,P,N⟩:=I.X;refine⟨m,ns m P,λi x v e1 e2 S=>?_⟩;obtain⟨u,r,l⟩:=N i x v e1 e2 S;refine⟨u,r,?_⟩;rcases l with l|⟨k,c,e,z⟩
  .exact .p l
  .exact .u ⟨k,c,e,g x c e _ z⟩
 .obtain⟨v,z⟩:=I.p x c e;exact⟨v,g x c e v z⟩
 .obtain⟨m,⟨o,_,_,A,_⟩,_⟩:=I.X;exact f _ o (λz=>(j _ z).2.1 rfl) A I.w
 .obtain⟨v,o,A,J⟩:=I.p x c e;exact f c o (λz=>(j c z).2.2.1 x c e rfl) A (I.bE x c e)
 .obtain⟨e,n,ne,K,d⟩:=I.N p M;have h:p.1∉ch:=λz=>(j p.1 z).2.2.2 p M rfl;exact⟨keep p.1 p.2 ne K h e n,f p.1 p.2 h e n,ne,K,d⟩
def Inv.un (I:Inv X pins U H s)(u:Un X.fs [] H H' s.j h')(c:dm X.p X.w H' h'):Inv X pins U H' {s with heap:=h',toks:=t'}:=by obtain⟨m,⟨o,t,q,h,r⟩,_⟩:=id I.X;obtain⟨sl,i⟩:=u.any h I.w (by simp);exact I.step (ch:=[]) (λ_ z=>nomatch z) (λb o _ f _ e n=>u.p b o e n f (by simp)) (λb o _ f _ e n=>u.u b o e n f (by simp)) (λb o _ e n=>u.w b o e n (by simp)) (λb o _ e=>u.j b o e (by simp)) u.c8 u.cQ u.dc (λl j=>by obtain⟨p,d,g,a,k⟩:=j;rw[h]at a;cases a;exact⟨_,d,g,i,k⟩) c I.K
def Inv.call (I:Inv X pins U H s)(u:Un (cj X.B) ch H H' s.j h')(h:dm X.p X.w H' h')(q:AllBare g')
 (f:∀b∈ch,(b∈X.ex\/X.s₀.j.j.j<=b)/\b≠X.j.p/\(∀x c,X.j.u.p x=y0 c->c≠b)/\∀p∈X.pn++pins,p.1≠b):
 Inv X pins U H' {s with heap:=h',gens:=g',drawn:=d',toks:=t'}:=by
 obtain⟨m,⟨o,B,A,k,r⟩,_⟩:=id I.X;obtain⟨sl,g⟩:=u.any k I.w λz=>(f _ z).2.1 rfl;exact I.step f (λb o g t a e n=>u.p b o e n (λz=>(Ab8.p (I.dW b z)).j g t) a) (λb o _ _ a e n=>u.any e n a) (λb o a e n=>u.w b o e n a) (λb o a e=>u.j b o e a) u.c8 u.cQ u.dc (λw l=>by obtain⟨y,i,j,d,v⟩:=l;rw[k]at d;cases d;exact⟨_,i,j,g,v⟩) h q
def Inv.turned (I:Inv X pins U H s)(k:∀b o,b≠it->s.j.p b=y0 o->h'.p b=y0 o)(i:H it=u0)(f:it≠X.j.p)
 (h1:it∈X.ex\/X.s₀.j.j.j<=it)(t:∀x c,X.j.u.p x=y0 c->c≠it)(j:∀p∈X.pn++pins,p.1≠it):Inv X pins U H {s with heap:=h',toks:=t'}:=by
 have d:∀b u,H b=y0 u->b≠it:=λb u e z=>by rw[z,i]at e;cases e
 refine I.step (ch:=[it]) (λb h=>?_) (λb o _ _ a e _=>k b o (λz=>a (by simp[z])) e) (λb o _ _ a e _=>⟨o.slots,k b o (λz=>a (by simp[z])) e⟩) (λ_ _ _ _ n=>n)
  (λb o a e=>⟨o,k b o (λz=>a (by simp[z])) e⟩) (λ_ _ e=>e) (λ_ _ _ e=>e) (λb A e=>⟨#[],by rw[e];simp⟩) (λm g=>?_) (λb u e=>?_) I.K
 .have e:=by simpa using h
  subst e;exact⟨h1,f,t,j⟩
 .obtain⟨o,y,w,l,r⟩:=g;exact⟨o,y,w,k _ o (Ne.symm f) l,r⟩
 .refine(I.G b u e).cT (λc v a q=>k c v ?_ q) (λ_ q=>q) λ_ _ q=>q;rcases a with z|z
  .rw[z];exact d b u e
  .exact d c _ z
def Inv.tok (I:Inv X pins U H s)(t):Inv X pins U H {s with toks:=t}:=I.un Un.refl I.G
theorem Inv.kept (I:Inv X pins U H s)(k:∀b u,s.j.p b=y0 u->h'.p b=y0 u):Inv X pins U H {s with heap:=h',toks:=t'}:=I.un (Un.kept k) (I.G.kept k)
theorem Inv.laid (I:Inv X pins U H s)(k:∀b u,s.j.p b=y0 u->h'.p b=y0 u)(c:s.j.j.j<=a)(new:aT X.p X.w (aE H a o) h' a o):
 Inv X pins U (aE H a o) {s with heap:=h',toks:=t'}:=I.un (Un.laid k c (I.G.fresh c)) (I.G.laid k c new)
theorem Inv.write (I:Inv X pins U H s)(c:nW (H x))(d:e=x\/H e=y0 (.j x))(k:∀b u,b≠e->s.j.p b=y0 u->h'.p b=y0 u)(a:∃u,h'.p e=y0 u)
 (new:aT X.p X.w (aE H x o) h' x o):Inv X pins U (aE H x o) {s with heap:=h',toks:=t'}:=I.un (Un.write c d k a) (I.G.write c d k a new)
def Inv.bX (I:Inv X pins U H s)(h:∀p∈pins',s.j.p p.1=y0 p.2/\H p.1=u0/\p.1≠X.j.p/\p.1∉X.fs/\∀v,p.2.j≠.p v):Inv X pins' U H s:=
 ⟨I.j,I.os,I.K,I.u,I.X,I.p,I.w,I.bE,λp a=>(Ac6.p a).j (λz=>I.N p (Ad _ z)) (h p),I.G,I.len⟩
def XQ{N:List Str}(c:N.C){i j:Nat}(a:N[i]?=y0 x)(b:N[j]?=y0 x):i=j:=by obtain⟨d,e1⟩:=Aa1.p a;obtain⟨e,e2⟩:=Aa1.p b;exact(List.getElem_inj c).p (e1.j e2.p)
def My(I:Inv X pins U H s)(hN:X.N.C)(P:X.N[i]?=y0 x)(t:lN X.j.j x)(r:RelV v u)
 (h:∀s',Inv X pins (U.x i (y0 v)) H s'->(∃a,Al3 a s.j s'.j/\(a=X.j.p\/X.j.u.p x=y0 a))->Q () s')(hf:X.fn x=k9\/X.j.j.j.p x=y0 .local:=by first|exact .inl rfl|exact .inr rfl|assumption):wpAny M A (storeName X.j x u) Q E s:=by
 obtain⟨m,Z,hl⟩:=id I.X;have J:(X.j.j.p==.class||(X.j.j.p==.module&&X.j.p !=X.j.globals))=false:=by rw[I.j.p];rfl
 have R:i<U.e:=by rw[I.len];exact(Aa1.p P).1
 have ic:=I.ic;have g:∀{a}{G},(∃o,s.j.p a=y0 o/\H a=u0)->Al3 a s.j G->dm X.p X.w H G:=λ{a G} ha f b ob e=>by
  obtain⟨_,_,w⟩:=ha;refine(I.G b ob e).cT (λc S l q=>(f.2 c ?_).j q) (λ_ q=>q) λ_ _ q=>q;rintro rfl;rcases l with rfl|l
  .rw[w]at e;cases e
  .rw[w]at l;cases l
 rcases t with B|B
 .refine wpAny_storeName_local B Z (λG Y f=>?_) J;obtain⟨oL,_,_,hoL,_⟩:=id Z;refine h _ ⟨I.j,I.os,I.K,⟨λb o e n C t=>?_,λb o e n C t=>?_,I.u.w,λb o e t=>?_,I.u.c8,I.u.cQ,I.u.dc⟩,⟨_,Y,λj y v' e1 e2 e3=>?_⟩,λy c e=>?_,I.w,I.bE,λp hp=>?_,g ⟨oL,hoL,I.w⟩ f,by simpa using I.len⟩ ⟨_,f,.p rfl⟩
  .exact(f.2 b (Ac3 (Ab4 (Ac e) I.j.u))).j (I.u.p b o e n C t)
  .obtain⟨sl,e1⟩:=I.u.u b o e n C t;exact⟨sl,(f.2 b (Ac3 (Ab4 (Ac e) I.j.u))).j e1⟩
  .obtain⟨o',e1⟩:=I.u.j b o e t;exact⟨o',(f.2 b (Ac3 (Ab4 (Ac e) I.j.u))).j e1⟩
  .by_cases F:j=i
   .subst F;rw[P]at e1;cases e1;rw[Ab6 R]at e2;cases e2;exact⟨u,r,.p ⟨B,by simp⟩⟩
   .rw[Ad0 (Ne.symm F)]at e2;obtain⟨W,r',q⟩:=hl j y v' e1 e2 e3;refine⟨W,r',?_⟩;rcases q with⟨k,e⟩|⟨k,c,e,z⟩
    .refine .p ⟨k,?_⟩;have:y≠x:=λe=>F (XQ hN e1 (e▸P));simp[this,e]
    .exact .u ⟨k,c,e,z.sameBut f (ic y c e)⟩
  .obtain⟨S,z⟩:=I.p y c e;exact⟨S,z.sameBut f (ic y c e)⟩
  .obtain⟨e,n,ne,V,d⟩:=I.N p hp;exact⟨(f.2 p.1 ne).j e,n,ne,V,d⟩
 .have D:X.fn x=true:=by
   rcases hf with z|z
   .exact z
   .rw[z]at B;cases B
  obtain⟨c,l⟩:=I.j.has x (.p B);obtain⟨S,z⟩:=I.p x c l;refine wpAny_storeName_cell I.j.p B l z (λG K f=>?_);obtain⟨oc,O,N⟩:=id z;refine h {s with heap:=G} ⟨I.j,I.os,I.K,⟨λb o e n C t=>?_,λb o e n C t=>?_,I.u.w,λb o e t=>?_,I.u.c8,I.u.cQ,I.u.dc⟩,⟨m,Z.sameBut f (Ne.symm (ic x c l)),λj y v' e1 e2 e3=>?_⟩,λy T e=>?_,I.w,I.bE,λp hp=>?_,g ⟨oc,O,I.bE x c l⟩ f,by simpa using I.len⟩ ⟨c,f,.u l⟩
  .exact(f.2 b (Ac3 (Ab4 (Ac e) (I.j.lI x c D l)))).j (I.u.p b o e n C t)
  .obtain⟨sl,e1⟩:=I.u.u b o e n C t;exact⟨sl,(f.2 b (Ac3 (Ab4 (Ac e) (I.j.lI x c D l)))).j e1⟩
  .obtain⟨o',e1⟩:=I.u.j b o e t;exact⟨o',(f.2 b (Ac3 (Ab4 (Ac e) (I.j.lI x c D l)))).j e1⟩
  .by_cases F:j=i
   .subst F;rw[P]at e1;cases e1;rw[Ab6 R]at e2;cases e2;exact⟨u,r,.u ⟨.p B,c,l,K⟩⟩
   .rw[Ad0 (Ne.symm F)]at e2;obtain⟨W,r',q⟩:=hl j y v' e1 e2 e3;refine⟨W,r',?_⟩;rcases q with q|⟨k,T,e,z'⟩
    .exact .p q
    .refine .u ⟨k,T,e,z'.sameBut f ?_⟩;rintro rfl;exact F (XQ hN e1 (I.j.inj _ _ _ e l▸P))
  .by_cases L:T=c
   .subst L;exact⟨_,K⟩
   .obtain⟨w2,z2⟩:=I.p y T e;exact⟨w2,z2.sameBut f L⟩
  .obtain⟨e,n,ne,V,d⟩:=I.N p hp;refine⟨(f.2 p.1 ?_).j e,n,ne,V,d⟩;intro q;rw[q,O]at e;have q':=Ad6.inj e;exact d S (by rw[←q'];exact N)
def Jt(I:Inv X pins U H s)(c:X.N.C)(b:X.N[i]?=y0 x)(e:lN X.j.j x)(r:RelV v u)
 (h:∀s',Inv X pins (U.x i (y0 v)) H s'->Q () s')(d:X.fn x=k9\/X.j.j.j.p x=y0 .local:=by first|exact .inl rfl|exact .inr rfl|assumption):wpAny M A (storeName X.j x u) Q E s:=
 My I c b e r (λs' a _=>h s' a) d
def Inv.i7 (I:Inv X pins U H s)(f:s'.os=s.os)(u:Un (cj X.B) ch H H' s.j s'.j)(a:dm X.p X.w H' s'.j)(g:AllBare s'.gens)
 (d:∀b∈ch,(b∈X.ex\/X.s₀.j.j.j<=b)/\b≠X.j.p/\(∀x c,X.j.u.p x=y0 c->c≠b)/\∀p∈X.pn++pins,p.1≠b):Inv X pins U H' s':=by
 obtain⟨l,k,h,j,i⟩:=s';have e:=f;subst e;exact I.call u a g d
end
open Lake renaming Inv.turned→Lake.Inv.A
abbrev XK:=Value->Option Addr->Hp->Prop
abbrev St:=List (Option V)
abbrev VK:=V->Hp->Prop
abbrev TE:=St->Hp->VK->Prop
abbrev TT:=St->Hp->(Bool->Hp->Prop)->Prop
abbrev TA:=St->Hp->(List V->Hp->Prop)->Prop
structure gd where
 nx:St->Hp->Prop
 rt:VK
 bk:St->Hp->Prop:=λ_ _=>False
 ct:St->Hp->Prop:=λ_ _=>False
abbrev TS:=gd->St->Hp->Prop
def EP(X:Cx)(a:List (Addr×Obj))(U:St)(Q:VK)(u:Value)(s':Shared):Prop:=∃v H',Inv X a U H' s'/\RelV v u/\Q v H'
def TP(X:Cx)(a:List (Addr×Obj))(U:St)(Q:Bool->Hp->Prop)(b:Bool)(s':Shared):Prop:=∃H',Inv X a U H' s'/\Q b H'
def AP(X:Cx)(a:List (Addr×Obj))(U:St)(Q:List V->Hp->Prop)(c:List Value)(s':Shared):Prop:=∃b H',Inv X a U H' s'/\Vals b c/\Q b H'
def SP(X:Cx)(a:List (Addr×Obj))(D:gd)(f:Flow)(s':Shared):Prop:=
 match f with
|.next=>∃b H',Inv X a b H' s'/\D.nx b H'
|.brk=>∃b H',Inv X a b H' s'/\D.bk b H'
|.cont=>∃b H',Inv X a b H' s'/\D.ct b H'
|.ret u=>∃v b H',Inv X a b H' s'/\RelV v u/\D.rt v H'
def PE(X:Cx)(e:Expr)(t:TE):Prop:=
 ∀(pins:List (Addr×Obj))(s:Shared)(U:St)(H:Hp)(Q:VK),Inv X pins U H s->t U H Q->wpAny (model X.p X.w) X.A (eval e X.j) (EP X pins U Q) X.y s
def PT(X:Cx)(e:Expr)(t:TT):Prop:=
 ∀(pins:List (Addr×Obj))(s:Shared)(U:St)(H:Hp)(Q:Bool->Hp->Prop),Inv X pins U H s->t U H Q->wpAny (model X.p X.w) X.A (isTrue e X.j (eval e X.j)) (TP X pins U Q) X.y s
def PW(X:Cx)(e:Expr)(t:TT):Prop:=
 ∀(a:Sem Value)(pins:List (Addr×Obj))(s:Shared)(U:St)(H:Hp)(Q:Bool->Hp->Prop),Inv X pins U H s->t U H Q->wpAny (model X.p X.w) X.A (isTrue e X.j a) (TP X pins U Q) X.y s
def PW.pt (h:PW X e t):PT X e t:=h _
def PA(X:Cx)(es:List Expr)(t:TA):Prop:=
 ∀(pos:Pos)(pins:List (Addr×Obj))(s:Shared)(U:St)(H:Hp)(Q:List V->Hp->Prop),Inv X pins U H s->t U H Q->wpAny (model X.p X.w) X.A (spliced (backTo pos (starEach es X.j))) (AP X pins U Q) X.y s
def PS(X:Cx)(st:Stmt)(t:TS):Prop:=
 ∀(pins:List (Addr×Obj))(s:Shared)(U:St)(H:Hp)(D:gd),Inv X pins U H s->t D U H->wpAny (model X.p X.w) X.A (exec st X.j) (SP X pins D) X.y s
def dt(X:Cx)(st:List Stmt)(t:TS):Prop:=
 ∀(pins:List (Addr×Obj))(s:Shared)(U:St)(H:Hp)(D:gd),Inv X pins U H s->t D U H->wpAny (model X.p X.w) X.A (execs st X.j) (SP X pins D) X.y s
def aN(h:wpAny M A t Q E s)(b:∀a s,Q a s->Q' a s):wpAny M A t Q' E s:=wpAny_mono h b λ_ _ x=>x
section
variable{X:Cx}
def bin(e:PE X a ta)(d:PE X b tb){R:V->V->Hp->Prop}(I:Inv X pins U H s)(h:ta U H λx H1=>tb U H1 λy H2=>R x y H2)
 {f:Value->Value->Sem α}
 (k:∀v u L x y H2,Inv X pins U H2 L->RelV x v->RelV y u->R x y H2->wpAny (model X.p X.w) X.A (f v u) Q X.y L):
 wpAny (model X.p X.w) X.A (eval a X.j) (λv i=>wpAny (model X.p X.w) X.A (eval b X.j) (λu j=>wpAny (model X.p X.w) X.A (f v u) Q X.y j) X.y i) X.y s:=by
 refine aN (e pins s U H _ I h) ?_;rintro v l ⟨x,H1,n,o,g⟩;refine aN (d pins l U H1 _ n g) ?_;rintro u L ⟨y,H2,p,m,c⟩;exact k v u L x y H2 p o m c
def nI(i:Nat):TE:=λU H Q=>∃v,U[i]?=y0 (y0 v)/\Q v H
def tC(v:V):TE:=λ_ H Q=>Q v H
def zy(p:X.N[i]?=some x)(q:kF X.j.j x)(f:(x==("__debug__":Str))=false:=by decide)(g:(x==("__classdict__":Str))=false:=by decide):PE X (.j x pos) (nI i):=by
 intro d s U H Q I h;obtain⟨v,e,h⟩:=h;obtain⟨m,o,k⟩:=I.X;obtain⟨u,r,l⟩:=k i x v p e q;have fin:EP X d U Q u s:=⟨v,H,I,r,h⟩;rcases l with⟨b,n⟩|⟨b,c,j,a⟩
 .exact wpAny_Name (wpAny_loadName_local I.j.p b o n fin) f
 .rcases b with b|b
  .exact wpAny_Name (wpAny_loadName_cell I.j.p b j a fin) f
  .exact wpAny_Name (wpAny_loadName_free I.j.p b j a fin g) f
def NG{i j pos}:PE X (.w (.int i) j pos) (tC (.o i)):=λ_ _ _ H _ I h=>wpAny_Constant_int ⟨.o i,H,I.tok _,⟨_,rfl⟩,h⟩
def Fb{b j pos}:PE X (.w (.bool b) j pos) (tC (.C b)):=λ_ _ _ H _ I h=>Constant_bool ⟨.C b,H,I,rfl,h⟩
def OE{j pos}:PE X (.w .none j pos) (tC .aw):=λ_ _ _ H _ I h=>Constant_none ⟨.aw,H,I,rfl,h⟩
def pZ{x j pos}:PE X (.w (.p x) j pos) (tC (.p x)):=λ_ _ _ H _ I h=>Calls.Constant_str ⟨.p x,H,I.tok _,⟨_,rfl⟩,h⟩
def Gl(X:Cx)(x:Str):Prop:=X.j.w x=y0 .globalImplicit
def QB(I:Inv X pins U H s)(c:Gl X x)(b:X.G x=y0 u)(h:Q u s)
 (a:(x==("__debug__":Str))=false:=by decide):wpAny (model X.p X.w) X.A (eval (.j x pos) X.j) Q E s:=
 Calls.Name_function_global I.j.p c (Calls.loadGlobal_global (by rw[I.j.glob];exact I.mod.glob.keeps I.bk) b h) a
def WF(I:Inv X pins U H s)(g:Gl X x)(f:X.G x=u0)(d:bootBuiltins x=y0 u)(h:Q u s)
 (b:x≠"__name__":=by decide)(a:(x==("__debug__":Str))=false:=by decide):wpAny (model X.p X.w) X.A (eval (.j x pos) X.j) Q E s:=by
 obtain⟨i,c,e⟩:=I.mod.blt;exact Calls.Name_function_global I.j.p g (Calls.loadGlobal_builtin (by rw[I.j.glob];exact I.mod.glob.keeps I.bk) f (by rw[I.j.blt];exact c.keeps I.bk) ((e x b).j d) h) a
def QU(c:Gl X x)(b:X.G x=some u)(r:RelV v u)(a:(x==("__debug__":Str))=false:=by decide):PE X (.j x pos) (tC v):=
 λ_ _ _ H _ I h=>QB I c b ⟨v,H,I,r,h⟩ a
def yV(e:Gl X x)(d:X.G x=none)(c:bootBuiltins x=some u)(r:RelV v u)(b:x≠"__name__":=by decide)(a:(x==("__debug__":Str))=false:=by decide):PE X (.j x pos) (tC v):=
 λ_ _ _ H _ I h=>WF I e d c ⟨v,H,I,r,h⟩ b a
variable{a b:Expr}{ta tb:TE}{pos:Pos}
def PC(X:Cx)(e:CmpOp)(a b:Expr)(t:TE):Prop:=
 ∀(pins:List (Addr×Obj))(s:Shared)(U:St)(H:Hp)(Q:VK),Inv X pins U H s->t U H Q→
  wpAny (model X.p X.w) X.A (eval a X.j) (λv d=>wpAny (model X.p X.w) X.A (eval b X.j) (λu c=>wpAny (model X.p X.w) X.A (compareOp e v u) (EP X pins U Q) X.y c) X.y d) X.y s
def yM(b)(h:op≠.In)(a:op≠.NotIn):behindInMarks op b=false:=by
 have e1:(op==CmpOp.In)=false:=by cases op<;>first|rfl|exact absurd rfl h
 have e2:(op==CmpOp.NotIn)=false:=by cases op<;>first|rfl|exact absurd rfl a
 cases b<;>simp[behindInMarks,e1,e2]
def FW(a:TE):TE:=λU H Q=>a U H λx H1=>Q (.C (u9 (x=.aw))) H1
def Ml(a:TE):TE:=λU H Q=>a U H λx H1=>Q (.C (!u9 (x=.aw))) H1
def RelV.eC (r:RelV x v):(v==Value.none)=u9 (x=.aw):=by
 cases x with
|aw=>cases r;rfl
|bl _=>cases r;rfl
|int _=>obtain⟨t,rfl⟩:=r;rfl
|str _=>obtain⟨t,rfl⟩:=r;rfl
|lj _=>obtain⟨t,rfl⟩:=r;rfl
|iU _=>obtain⟨t,rfl⟩:=r;rfl
|ref _=>cases r;rfl
|ty _=>cases r;rfl
def uh{j pos'}(e:PE X a ta):PC X .Is a (.w .none j pos') (FW ta):=by intro b s U H Q I h;refine aN (e b s U H _ I h) ?_;rintro v i ⟨x,c,g,d,f⟩;exact Constant_none (is_none_gen ⟨.C _,c,g,by rw[d.eC];rfl,f⟩)
def AO{j pos'}(e:PE X a ta):PC X .IsNot a (.w .none j pos') (Ml ta):=by intro b s U H Q I h;refine aN (e b s U H _ I h) ?_;rintro v i ⟨x,c,g,d,f⟩;exact Constant_none (isnot_none_gen ⟨.C _,c,g,by rw[d.eC];rfl,f⟩)
def tB(t:TE):TT:=λU H Q=>t U H λx H1=>∃c,x=.C c/\Q c H1
def tV(h:PC X op a b t)(h1:behindInMarks op b=false:=by first|exact yM _ (by decide) (by decide)|rfl):PE X (.B a [op] [b] pos) t:=λc s U H Q I d=>wpAny_Compare1 (h c s U H Q I d) h1
def BB(h:PC X op a b t)(h1:behindInMarks op b=false:=by first|exact yM _ (by decide) (by decide)|rfl):PT X (.B a [op] [b] pos) (tB t):=by intro e s U H Q I j;refine wpAny_isTrue_Compare1 (aN (h e s U H _ I j) λv n h1=>aN h1 λu o i=>aN i ?_) h1;rintro c m⟨x,f,k,l,g⟩;obtain⟨d,rfl,q⟩:=g;cases l;exact wpAny_truthy_bool ⟨f,k,q⟩
variable{tA tB':TT}{rest:List Expr}
def IW(t u:TT):TT:=λU H Q=>t U H λc H1=>if c=k9 then u U H1 Q else Q y9 H1
def MP(t u:TT):TT:=λU H Q=>t U H λc H1=>if c=k9 then Q k9 H1 else u U H1 Q
def F6(t:TT):TT:=λU H Q=>t U H λc H1=>Q (!c) H1
def Lr(d:PT X a tA):PW X (.y .And [a] pos) tA:=by
 intro f b s U H Q I h;refine isTrue_and (aN (d b s U H Q I h) λc g e=>?_);cases c with
|true=>exact isTrue_and_nil e
|false=>exact e
def FG(d:PT X a tA):PW X (.y .Or [a] pos) tA:=by
 intro f b s U H Q I h;refine isTrue_or (aN (d b s U H Q I h) λc g e=>?_);cases c with
|false=>exact isTrue_or_nil e
|true=>exact e
def Il(j:PT X a tA)(i:PW X (.y .And (b::rest) pos) tB'):PW X (.y .And (a::b::rest) pos) (IW tA tB'):=by
 intro k d s U H Q I h;refine isTrue_and (aN (j d s U H _ I h) ?_);rintro c l ⟨e,g,f⟩;cases c with
|true=>exact i k d l U e Q g f
|false=>exact⟨e,g,f⟩
def Eu(j:PT X a tA)(i:PW X (.y .Or (b::rest) pos) tB'):PW X (.y .Or (a::b::rest) pos) (MP tA tB'):=by
 intro k d s U H Q I h;refine isTrue_or (aN (j d s U H _ I h) ?_);rintro c l ⟨e,g,f⟩;cases c with
|true=>exact⟨e,g,f⟩
|false=>exact i k d l U e Q g f
def Ol(e:PT X a tA):PT X (.G .Not a pos) (F6 tA):=by intro b s U H Q I h;exact isTrue_not (e b s U H (λc d=>Q (!c) d) I h)
def Bb{op}(h:PE X a t):PE X (.y op [a] pos) t:=λb s U H Q I c=>BoolOp_one (h b s U H Q I c)
end
def bA(K:Ab)(H:Hp)(a:Addr)(xs:List V):Prop:=
 Rd H a (.w xs)∨
  ∃(o:Obj)(b:Array Value)(n:Nat),K.p a=some o/\o.cls=.p "list"/\o.w=none/\o.j=.j b n/\b.j<=sizeLine/\Vals xs b.p
def cY(K:Ab)(H:Hp)(a:Addr)(xs:List V):Prop:=
 Rd H a (.u xs)∨
  ∃(o:Obj)(b:Array Value)(n:Nat),K.p a=y0 o/\o.cls=.p "tuple"/\o.j=.j b n/\b.j<=sizeLine/\Vals xs b.p
noncomputable def nR:Value->Option V
|.w=>y0 .aw
|.x b=>y0 (.C b)
|.o i _=>y0 (.o i)
|.str x _=>y0 (.p x)
|.bytes b _=>y0 (.lj b)
|.float b _=>y0 (.iU b)
|.j a=>y0 (.j a)
|.p n=>y0 (.ty n)
|_=>u0
def RelV.abs (r:RelV x u):nR u=y0 x:=by
 cases x with
|aw=>cases r;rfl
|bl _=>cases r;rfl
|int _=>obtain⟨t,rfl⟩:=r;rfl
|str _=>obtain⟨t,rfl⟩:=r;rfl
|lj _=>obtain⟨t,rfl⟩:=r;rfl
|iU _=>obtain⟨t,rfl⟩:=r;rfl
|ref _=>cases r;rfl
|ty _=>cases r;rfl
theorem RelV.inj (r:RelV x u)(q:RelV y u):x=y:=Ad6.inj (r.abs.p.j q.abs)
theorem Vals.inj:∀{xs ys}{i},Vals xs i->Vals ys i->xs=ys
|_,_,_,.p,.p=>rfl
|_,_,_,.j r t,.j a b=>by rw[r.inj a,Vals.inj t b]
section
variable{X:Cx}{pins:List (Addr×Obj)}{U:St}{H:Hp}{s:Shared}{a:Addr}{xs ys:List V}
def bA.of {K:Ab}(h:H a=y0 (.w xs)):bA K H a xs:=.p (.p h)
def Inv.list (I:Inv X pins U H s)(h:bA X.K H a xs):∃i:List Value,Vals xs i/\PlainL s.j a i.u/\xs.e<=sizeLine:=by
 rcases h with h|⟨o,i,n,b,c,d,f,g,r⟩
 .obtain⟨z,i,n,r,e⟩:=h.ok I.G;exact⟨i,r,⟨_,n,e,rfl,rfl,rfl⟩,z⟩
 .refine⟨i.p,r,⟨o,n,I.bK a o b,c,d,by simpa using f⟩,?_⟩;have e:=r.e;simp only[Ai3]at e;lia
def Inv.tuple (I:Inv X pins U H s)(h:cY X.K H a xs):∃i:List Value,Vals xs i/\IsTup s.j a i.u/\xs.e<=sizeLine:=by
 rcases h with h|⟨o,i,n,b,c,d,f,r⟩
 .obtain⟨z,i,r,p⟩:=h.ok I.G;exact⟨i,r,p.is,z⟩
 .refine⟨i.p,r,⟨o,I.bK a o b,c,n,by simpa using d⟩,?_⟩;have e:=r.e;simp only[Ai3]at e;lia
def Inv.eI (I:Inv X pins U H s)(h:bA X.K H a xs)(h':bA X.K H a ys):xs=ys:=by
 obtain⟨c,r,⟨o,n,e,_,_,d⟩,_⟩:=I.list h;obtain⟨b,i,⟨l,k,g,_,_,f⟩,_⟩:=I.list h';rw[e]at g;cases g;rw[d]at f;injection f with j _
 have:c=b:=by simpa using congrArg Array.toList j
 subst this;exact r.inj i
def Inv.fG (I:Inv X pins U H s)(h:cY X.K H a xs)(h':cY X.K H a ys):xs=ys:=by
 obtain⟨c,r,⟨o,e,_,n,d⟩,_⟩:=I.tuple h;obtain⟨b,i,⟨l,g,_,k,f⟩,_⟩:=I.tuple h';rw[e]at g;cases g;rw[d]at f;injection f with j _
 have:c=b:=by simpa using congrArg Array.toList j
 subst this;exact r.inj i
end
noncomputable abbrev Cx.dR (X:Cx)(E:Value->Shared->Prop):Cx:={X with xe:=E}
abbrev Cx.dU (X:Cx):Cx:=X.dR λ_ _=>False
theorem Cx.Ok.dR {X:Cx}(ok:X.Ok)(E):(X.dR E).Ok:=
 ⟨ok.mod,ok.p,ok.glob,ok.blt,ok.u,ok.inj,ok.has,ok.lI,ok.hd,ok.frames,ok.gX,ok.mh,ok.bs,ok.gT,ok.fQ,ok.fD,ok.cO,ok.iw⟩
def Cx.Ok.cq {X:Cx}(ok:(X.dR E).Ok):X.Ok:=
 ⟨ok.mod,ok.p,ok.glob,ok.blt,ok.u,ok.inj,ok.has,ok.lI,ok.hd,ok.frames,ok.gX,ok.mh,ok.bs,ok.gT,ok.fQ,ok.fD,ok.cO,ok.iw⟩
section
variable{X:Cx}{pins:List (Addr×Obj)}{U:St}{H:Hp}{s:Shared}{E:Value->Shared->Prop}
theorem Inv.dR (I:Inv X pins U H s)(E):Inv (X.dR E) pins U H s:=⟨I.j.dR E,I.os,I.K,I.u,I.X,I.p,I.w,I.bE,I.N,I.G,I.len⟩
theorem Inv.cq (I:Inv (X.dR E) pins U H s):Inv X pins U H s:=⟨I.j.cq,I.os,I.K,I.u,I.X,I.p,I.w,I.bE,I.N,I.G,I.len⟩
theorem SP.cq (h:SP (X.dR E) pins D f s'):SP X pins D f s':=by
 cases f with
|next=>obtain⟨b,a,I,q⟩:=h;exact⟨b,a,I.cq,q⟩
|brk=>obtain⟨b,a,I,q⟩:=h;exact⟨b,a,I.cq,q⟩
|cont=>obtain⟨b,a,I,q⟩:=h;exact⟨b,a,I.cq,q⟩
|ret u=>obtain⟨v,b,a,I,r,q⟩:=h;exact⟨v,b,a,I.cq,r,q⟩
end
section
variable{X:Cx}{st:Stmt}{rest:List Stmt}{t u:TS}{e:Expr}{te:TE}{pos:Pos}
def Cr:TS:=λD U H=>D.nx U H
def Dj(t u:TS):TS:=λD U H=>t {D with nx:=u D} U H
def Ht:dt X [] Cr:=λ_ _ U H _ I h=>wpAny_execs_nil ⟨U,H,I,h⟩
def Mj(h1:PS X st t)(g:dt X rest u):dt X (st::rest) (Dj t u):=by
 intro a s U H D I h;refine wpAny_execs_cons (aN (h1 a s U H {D with nx:=u D} I h) λf e q=>?_);cases f with
|next=>obtain⟨d,b,c,q⟩:=q;exact g a e d b D c q
|ret v=>exact q
|brk=>exact q
|cont=>exact q
def Mv(h1:PS X st t):dt X [st] t:=by
 intro a s U H D I h;refine wpAny_execs_cons (aN (h1 a s U H D I h) λf b q=>?_);cases f with
|next=>exact wpAny_execs_nil q
|ret v=>exact q
|brk=>exact q
|cont=>exact q
def Inv.quiet (I:Inv X pins U H s):interactive X.j=false:=by simp[interactive,I.j.p]
def En(a:TE):TS:=λD U H=>a U H λ_ H1=>D.nx U H1
def pM(f:PE X e te)(d:swapsWith e u0 pos.p X.j=pure false:=by rfl):PS X (.Expr e pos) (En te):=by intro a s U H D I h;exact wpAny_Expr_any (aN (f a s U H _ I h) (by rintro v j⟨x,b,g,i,c⟩;exact⟨U,b,g,c⟩)) I.quiet d
def Fj(a:TE):TS:=λD U H=>a U H D.rt
def Bm(f:PE X e te):PS X (.Return (y0 e) pos) (Fj te):=by intro a s U H D I h;exact wpAny_Return_some (aN (f a s U H _ I h) (by rintro v i⟨x,b,g,c,d⟩;exact⟨x,U,b,g,c,d⟩))
def C0(c:TT)(t u:TS):TS:=λD U H=>c U H λb H1=>if b=k9 then t D U H1 else u D U H1
def DR(m:PT X c tc)(l:dt X a t)(k:dt X b u):PS X (.If c a b pos) (C0 tc t u):=by
 intro e s U H D I h;refine wpAny_If (aN (m e s U H _ I h) ?_);rintro d i ⟨f,j,g⟩;cases d with
|true=>exact l e i U f D j g
|false=>exact k e i U f D j g
end
abbrev TG:=V->St->Hp->(St->Hp->Prop)->Prop
abbrev md:=List V->St->Hp->(St->Hp->Prop)->Prop
def PG(X:Cx)(a:Expr)(t:TG):Prop:=
 ∀(pins:List (Addr×Obj))(s:Shared)(U:St)(H:Hp)(v:V)(u:Value)(Q:St->Hp->Prop),Inv X pins U H s->RelV v u->t v U H Q→
  wpAny (model X.p X.w) X.A (assign a X.j u) (λ_ s'=>∃b H',Inv X pins b H' s'/\Q b H') X.y s
def mq(X:Cx)(d:List Expr)(t:md):Prop:=
 ∀(pins:List (Addr×Obj))(s:Shared)(U:St)(H:Hp)(c:List V)(a:List Value)(Q:St->Hp->Prop),Inv X pins U H s->Vals c a->t c U H Q→
  wpAny (model X.p X.w) X.A (assignInOrder ((assignEach d X.j).j (·.2)) a) (λ_ s'=>∃b H',Inv X pins b H' s'/\Q b H') X.y s
abbrev BJ:=V->V->V->Hp->(Hp->Prop)->Prop
def rf(X:Cx)(t:BJ):Prop:=
 ∀(pins:List (Addr×Obj))(s:Shared)(U:St)(H:Hp)(o i v:V)(b a u:Value)(Q:Hp->Prop),Inv X pins U H s->RelV o b->RelV i a->RelV v u->t o i v H Q→
  wpAny (model X.p X.w) X.A (setItem b a u) (λ_ s'=>∃H',Inv X pins U H' s'/\Q H') X.y s
section
variable{X:Cx}{pos:Pos}
def XY(i:Nat):TG:=λv U H Q=>Q (U.x i (y0 v)) H
def Q8(d:X.N.C)(c:X.N[i]?=y0 x)(f:lN X.j.j x)(e:X.fn x=k9\/X.j.j.j.p x=y0 .local:=by first|exact .inl rfl|exact .inr rfl|assumption):PG X (.j x pos) (XY i):=by intro a s U H v u Q I r h;exact wpAny_assign_Name (Jt I d c f r (λg b=>⟨_,H,b,h⟩) e)
def KQ:md:=λa U H Q=>a=[]/\Q U H
def OD(t:TG)(u:md):md:=λb U H Q=>∃v r,b=v::r/\t v U H λa H'=>u r a H' Q
def yW:mq X [] KQ:=by intro a s U H c b Q I r h;obtain⟨e,h⟩:=h;subst e;cases r;exact assignInOrder_nil ⟨U,H,I,h⟩
def WS(h1:PG X e t)(g:mq X es u)
 (j:(assignEach (e::es) X.j).j (·.2)=assign e X.j::(assignEach es X.j).j (·.2):=by rfl):mq X (e::es) (OD t u):=by
 intro a s U H n l Q I r h;obtain⟨v,m,e1,h⟩:=h;subst e1;cases r with
|cons r k=>rw[j];refine assignInOrder_cons (aN (h1 a s U H _ _ _ I r h) ?_);rintro _ f ⟨c,b,i,d⟩;exact g a f c b _ _ Q i k d
def MA(K:Ab)(n:Nat)(t:md):TG:=λv U H Q=>∃a xs,v=.j a/\cY K H a xs/\xs.e=n/\t xs U H Q
def yz(q:X.calm=k9)(h:mq X es t)
 (l:(assignEach es X.j).e=n:=by rfl)(f:(assignEach es X.j).findIdx? (·.1)=none:=by rfl):PG X (.C es k pos) (MA X.K n t):=by
 intro c s U H v u Q I r d;obtain⟨a,m,e1,x,g,d⟩:=d;subst e1;cases r;obtain⟨p,rv,y,z⟩:=I.tuple x;refine assign_Tuple_tuple (I.j.hd q) y (by simp[l,←g,rv.e]) f λj i=>?_;have w:Inv X c U H {s with heap:=j}:=I.kept λb o e=>i b o (Ac3 (Ac e)) e;exact h c _ U H m _ Q w (by simpa using rv) d
def FL(a c:TE)(t:BJ):TG:=λv U H Q=>a U H λo H1=>c U H1 λi H2=>t o i v H2 λb=>Q U b
def nV(g:PE X o to)(w:PE X i ti)(C:rf X t)
 (d:∀v,assign (.u o i pos) X.j v=(do
   let j←holding [v] (eval o X.j);let L←holding [v,j] (eval i X.j)
   standAt pos
   holding [v,j,L] (setItem j L v)
   release [v,j,L] []):=by intro _;rfl):PG X (.u o i pos) (FL to ti t):=by
 intro a s U H v u Q I r h;rw[d];refine wpAny_bind (wpAny_holding (aN (g a s U H _ I h) ?_));rintro j f ⟨x,b,q,z,e⟩;refine wpAny_bind (wpAny_holding (aN (w a f U b _ q e) ?_));rintro L n ⟨y,m,B,k,c⟩;refine wpAny_bind (wpAny_standAt (wpAny_bind (wpAny_holding (aN (C a n U m x y v j L u _ B z k r c) ?_))));rintro _ D ⟨l,A,p⟩;exact wpAny_release ⟨U,l,A,p⟩
def iO(a:TE)(g:TG):TS:=λD U H=>a U H λx H1=>g x U H1 D.nx
def W0(m:PE X e te)(c:PG X tg g)(l:swapsWithSole [tg] e pos.p X.j=pure false:=by rfl)(i:swappedStores [tg] e X.j=pure none:=by rfl)
 (h1:(assignEach [tg] X.j).j (·.2)=[assign tg X.j]:=by rfl):PS X (.j [tg] e pos) (iO te g):=by
 intro a s U H D I h;refine wpAny_Assign_stores (aN (m a s U H _ I h) ?_) l i;rintro v f⟨x,b,j,k,d⟩;rw[h1];exact aN (c a f U b x v _ j k d) λ_ n q=>q
def B9(f:X.N.C)(k:X.N[i]?=y0 x)(c:lN X.j.j x)(o:PE X e te)(n:swapsWith e (y0 (.j x pos')) pos.p X.j=pure false:=by rfl)(g:X.fn x=k9\/X.j.j.j.p x=y0 .local:=by first|exact .inl rfl|exact .inr rfl|assumption):
 PS X (.j [.j x pos'] e pos) (iO te (XY i)):=by
 intro a s U H D I h;refine wpAny_Assign_Name (aN (o a s U H _ I h) ?_) n;rintro v p⟨y,b,j,l,d⟩;exact Jt j f k c l (λq m=>⟨_,b,m,d⟩) g
end
section
variable{X:Cx}{pos:Pos}
def L1(c:TT)(tb:TS):TS:=λD U H=>∃W:Nat->St->Hp->Prop,(∃m,W m U H)/\∀m U H,W m U H→
 c U H λb H1=>if b=k9 then∃N:St->Hp->Prop,(∀d H',N d H'->∃a,a<m/\W a d H')/\tb {D with nx:=N,ct:=N,bk:=D.nx} U H1 else D.nx U H1
def DY(y:PassesOwn (model X.p X.w) X.A X.j X.y)(G:PT X c tc)(B:dt X body tb):PS X (.While c body [] pos) (L1 tc tb):=by
 intro a s U H D I h;obtain⟨W,⟨C,F⟩,e⟩:=h;refine wpAny_While (codeAny_whileLoop (λn A=>∃u t,Inv X a u t A/\W n u t) ?_ C ⟨U,H,I,F⟩);rintro n E ⟨i,r,K,L⟩;refine wpAny_passesOwn y (aN (G a E i r _ K (e n i r L)) ?_);rintro b J ⟨x,z,j⟩;cases b with
|true=>
  obtain⟨N,w,j⟩:=j;refine wpAny_passesOwn y (aN (B a J i x _ z j) λf M k=>?_);cases f with
  |next=>obtain⟨d,g,p,m⟩:=k;obtain⟨o,l,q⟩:=w d g m;exact⟨o,l,d,g,p,q⟩
  |cont=>obtain⟨d,g,p,m⟩:=k;obtain⟨o,l,q⟩:=w d g m;exact⟨o,l,d,g,p,q⟩
  |brk=>exact k
  |ret v=>exact k
|false=>exact wpAny_execs_nil ⟨i,x,z,j⟩
end
structure It where
 go:Nat->Hp->Prop
 gs:Nat->Hp->V->Hp->Prop
 stop:Nat->Hp->Prop
def bD(X:Cx)(a:List (Addr×Obj))(H:Hp)(b:Addr):Prop:=
 H b=u0/\b≠X.j.p/\b∉X.fs/\(b∈X.ex\/X.s₀.j.j.j<=b)/\(∀x c,X.j.u.p x=y0 c->c≠b)/\∀p∈X.pn++a,p.1≠b
def Inv.d5 (I:Inv X pins U H s)(a:s.j.j.j<=b)(d:H' b=u0):bD X pins H' b:=by
 refine⟨d,Aq (Ab4 I.lt a),I.oQ a,.u (Ab5 I.sz a),λx c e z=>?_,λp f z=>?_⟩
 .obtain⟨v,q⟩:=I.p x c e;exact absurd (Ab4 q.lt (by rw[z];exact a)) (Ai6 _)
 .exact absurd (Ab4 (Ac (I.N p f).1) (by rw[z];exact a)) (Ai6 _)
structure mF(P:Program)(w:World)(K:Ab)(tg:Expr)(J:It)(fp:List Addr)(it:Addr)(tn:Nat->Heap->Prop):Prop where
 mem:it∈fp
 obj:∀i h,tn i h->∀b∈fp,∃o,h.p b=y0 o/\∀v,o.j≠.p v
 keep:∀i h h',tn i h->(∀b∈fp,∀o,h.p b=y0 o->h'.p b=y0 o)->tn i h'
 item:∀(X:Cx),X.p=P->X.w=w->X.K=K->X.calm=k9->∀(i:Nat)(pins:List (Addr×Obj))(s:Shared)(U:St)(H:Hp)(E:Value->Shared->Prop),Inv X pins U H s->(∀b∈fp,bD X pins H b)->tn i s.j->J.go i H→
  wpAny (model P w) X.A (pyNext (.j it)) (λr s1=>∃u,r=y0 u∧
   wpAny (model P w) X.A (letOwnedTupleGo tg (.j it) u) (λ_ s2=>∃x H',Inv X pins U H' s2/\RelV x u/\J.gs i H x H'/\tn (i+1) s2.j/\∀b∈fp,H' b=u0) E s1) E s
 done:∀(X:Cx),X.p=P->X.w=w->X.K=K->X.calm=k9->∀(i:Nat)(pins:List (Addr×Obj))(s:Shared)(U:St)(H:Hp)(E:Value->Shared->Prop),Inv X pins U H s->(∀b∈fp,bD X pins H b)->tn i s.j->J.stop i H→
  wpAny (model P w) X.A (pyNext (.j it)) (λr s1=>r=u0/\Inv X pins U H s1) E s
 self:∀(A:Around)(i:Nat)(s:Shared)(Q:Value->Shared->Prop)(E:Value->Shared->Prop),tn i s.j->Q (.j it) s->wpAny (model P w) A (pyIter (.j it)) Q E s
abbrev TI:=St->Hp->(It->Hp->Prop)->Prop
def vF(X:Cx)(a:List (Addr×Obj))(U:St)(g:Expr)(R:It->Hp->Prop)(c:Value)(e:Shared):Prop:=
 ∃(f:Addr)(fp:List Addr)(d:Nat->Heap->Prop)(J:It)(H':Hp),c=.j f/\Inv X a U H' e/\mF X.p X.w X.K g J fp f d/\d 0 e.j/\(∀b∈fp,bD X a H' b)/\R J H'
def PI(X:Cx)(d a:Expr)(b:TI):Prop:=
 ∀(pins:List (Addr×Obj))(s:Shared)(U:St)(H:Hp)(R:It->Hp->Prop),Inv X pins U H s->b U H R→
  wpAny (model X.p X.w) X.A (eval a X.j) (λv c=>wpAny (model X.p X.w) X.A (pyIter v) (vF X pins U d R) X.y c) X.y s
def pH(e:s.j.p it=y0 o)(c:o.cls=.p n)(b:o.j=.u vs)
 (d:["enumerate","zip","dict_itemiterator","dict_reverseitemiterator","odict_iterator","itertools.zip_longest","itertools.pairwise"].w n=false)(a:Q () s):wpAny M A (letOwnedTupleGo tg (.j it) u) Q E s:=by
 unfold letOwnedTupleGo;cases tg<;>first
|exact wpAny_pure a
|(cases u<;>first
|exact wpAny_pure a
      | (refine wpAny_bind (wpAny_load e ?_)
         rw[c,b];show wpAny M A (if(["enumerate","zip","dict_itemiterator","dict_reverseitemiterator","odict_iterator","itertools.zip_longest","itertools.pairwise"].w n&&vs[0]?==some (rawInt _))=true then _ else _) Q E s;rw[if_neg (by intro h;rw[d,Ae5]at h;cases h)];exact wpAny_pure a))
noncomputable def l9(K:Ab)(a:Addr):It:=
 ⟨λi H=>∃xs x,bA K H a xs/\xs[i]?=y0 x,λi H x H'=>H'=H/\∀xs,bA K H a xs->xs[i]?=y0 x,λi H=>∃xs,bA K H a xs/\xs.e<=i⟩
noncomputable def lK(K:Ab)(a:Addr):It:=
 ⟨λi H=>∃xs x,cY K H a xs/\xs[i]?=y0 x,λi H x H'=>H'=H/\∀xs,cY K H a xs->xs[i]?=y0 x,λi H=>∃xs,cY K H a xs/\xs.e<=i⟩
noncomputable def m8(a:Int)(n:Nat):It:=⟨λi _=>i<n,λi H x H'=>H'=H/\x=.o (a+i),λi _=>n<=i⟩
def CO{K:Ab}(a it):mF P w K tg (l9 K a) [it] it (λi h=>h.IsListIter it a i) where
 mem:=by simp
 obj:=λi h f b j=>by
  have e:=by simpa using j
  subst e;obtain⟨o,e,c,d⟩:=f;exact⟨o,e,λv z=>by rw[d]at z;cases z⟩
 keep:=λi h B f k=>f.at λo e=>k it (by simp) o e
 item:=by intro X r C J M i g s U H E I m f y;subst r C J;obtain⟨R,x,n,A⟩:=y;obtain⟨G,rv,p,Q⟩:=I.list n;obtain⟨u,S,T⟩:=rv.get A;obtain⟨F,t,Y,D,q,L⟩:=m it (by simp);refine wpAny_pyNext_list_item f p.J (by simpa using S) λB l N=>?_;have W:Inv X g U H {s with heap:=B}:=I.A (λb o j e=>(N.2 b j).j e) F t D q L;obtain⟨o,e,c,d⟩:=id l;exact⟨u,rfl,pH e c d (by decide) ⟨x,H,W,T,⟨rfl,λys V=>by rw[I.eI V n];exact A⟩,l,λb j=>(m b j).1⟩⟩
 done:=by intro X r C J M i g s U H E I m f y;subst r C J;obtain⟨R,n,A⟩:=y;obtain⟨G,rv,p,Q⟩:=I.list n;obtain⟨F,t,Y,D,q,L⟩:=m it (by simp);have Z:=rv.e;exact wpAny_pyNext_list_end (I.j.hd M) f p.J (by simp;lia) λB O=>⟨rfl,I.A (λb o j e=>O b o j e) F t D q L⟩
 self:=λ_ _ _ _ _ f h=>wpAny_pyIter_listiter f h
def BY{K:Ab}(a it):mF P w K tg (lK K a) [it] it (λi h=>h.IsTupleIter it a i) where
 mem:=by simp
 obj:=λi h f b j=>by
  have e:=by simpa using j
  subst e;obtain⟨o,e,c,d⟩:=f;exact⟨o,e,λv z=>by rw[d]at z;cases z⟩
 keep:=λi h B f k=>f.at λo e=>k it (by simp) o e
 item:=by intro X r C J M i g s U H E I m f y;subst r C J;obtain⟨R,x,n,A⟩:=y;obtain⟨G,rv,p,Q⟩:=I.tuple n;obtain⟨u,S,T⟩:=rv.get A;obtain⟨F,t,Y,D,q,L⟩:=m it (by simp);refine wpAny_pyNext_tuple_item f (p) (by simpa using S) λB l N=>?_;have W:Inv X g U H {s with heap:=B}:=I.A (λb o j e=>(N.2 b j).j e) F t D q L;obtain⟨o,e,c,d⟩:=id l;exact⟨u,rfl,pH e c d (by decide) ⟨x,H,W,T,⟨rfl,λys V=>by rw[I.fG V n];exact A⟩,l,λb j=>(m b j).1⟩⟩
 done:=by intro X r C J M i g s U H E I m f y;subst r C J;obtain⟨R,n,A⟩:=y;obtain⟨G,rv,p,Q⟩:=I.tuple n;obtain⟨F,t,Y,D,q,L⟩:=m it (by simp);have Z:=rv.e;exact wpAny_pyNext_tuple_end (I.j.hd M) f (p) (by simp;lia) λB O=>⟨rfl,I.A (λb o j e=>O b o j e) F t D q L⟩
 self:=λ_ _ _ _ _ f h=>wpAny_pyIter_tupleiter f h
def F3{K:Ab}(it)(lo)(n):mF P w K tg (m8 lo n) [it] it (λi h=>IsRangeIter h it (lo+(i:Nat)*1) ((n:Int)-(i:Nat)) 1) where
 mem:=by simp
 obj:=λi h a b d=>by
  have e:=by simpa using d
  subst e;exact⟨_,a,λv z=>by have F:=z;cases F⟩
 keep:=λi h p a k=>k it (by simp) _ a
 item:=by intro X y A B u i c s U H E I g a m;subst y A B;obtain⟨r,l,L,q,j,x⟩:=g it (by simp);have W:=Walks.range (prog:=X.p) (w:=X.w) (I.j.hd u) it lo 1 n;refine W.item i s _ _ m a λv p D J f M=>?_;obtain⟨t,rfl⟩:=J;have G:Inv X c U H {s with heap:=p,toks:=D}:=I.A (λb o d e=>M b o (by simpa using d) e) r l q j x;refine⟨_,rfl,pH f rfl rfl (by decide) ⟨.o (lo+i),H,G,⟨t,?_⟩,⟨rfl,rfl⟩,f,λb d=>(g b d).1⟩⟩;rw[Int.mul_one]
 done:=by intro X y A B u i c s U H E I g a m;obtain⟨r,l,L,q,j,x⟩:=g it (by simp);exact wpAny_pyNext_range_end (I.j.hd u) a (by have:n<=i:=m;lia) λp C=>⟨rfl,I.A (λb o d e=>C b o d e) r l q j x⟩
 self:=λ_ _ _ _ _ a h=>wpAny_pyIter_rangeiter a h
section
variable{X:Cx}{tg:Expr}
def BX{a c:Int}(I:Inv X pins U H s)(h1:-(2^62)<=a)(i:a<2^62)(g:-(2^62)<=c)(h:c<2^62)
 (q:R (m8 a (c-a).j) H):wpAny (model X.p X.w) X.A (pyIter (.j s.j.j.j)) (vF X pins U tg R) E {s with heap:=s.j.u {cls:=.p "range",data:=.u #[.o a t,.o c u,.o 1 v]},toks:=tk}:=by
 refine wpAny_pyIter_range (IsRange.new ..) (small_one h1 i g h) ?_;have d:Inv X pins U H {s with heap:=s.j.u {cls:=.p "range",data:=.u #[.o a t,.o c u,.o 1 v]},toks:=tk}:=I.kept fun b o e=>Heap.get?_push_of_some _ e;refine⟨(s.j.u {cls:=.p "range",data:=.u #[.o a t,.o c u,.o 1 v]}).j.j,[(s.j.u {cls:=.p "range",data:=.u #[.o a t,.o c u,.o 1 v]}).j.j],_,_,H,rfl,
  d.kept λb o e=>Ab1 _ e,F3 _ a (c-a).j,?_,λb f=>?_,q⟩
 .have e1:a+(0:Nat)*1=a:=by simp
  have e2:((c-a).j:Nat)-(0:Nat)=Builtin.Range.rangeSize a c 1:=by rw[rangeSize_one];split<;>lia
  rw[e1,e2];exact Ac8 _ rfl
 .have e:b=(s.j.u {cls:=.p "range",data:=.u #[.o a t,.o c u,.o 1 v]}).j.j:=by simpa using f
  subst e;exact d.d5 (Aa9 _) (d.G.fresh (Aa9 _))
def Hz(a:TA):TI:=λU H R=>a U H λb H1=>∃j:Int,b=[.o j]/\-(2^62)<=j/\j<2^62/\R (m8 0 j.j) H1
def Ew(g:Gl X "range")(f:X.G "range"=none)(i:PA X [a] ta)(m:starEach [a] X.j=[(false,eval a X.j)]:=by rfl):PI X tg (.x (.j "range" p) [a] [] pos) (Hz ta):=by
 intro b s U H R I h;refine Call_ (WF I g f boot_range (PyProof.Rows.callWith_type1 (aN (i pos b s U H _ I h) ?_) m rfl));rintro u v⟨w,o,k,l,c⟩;obtain⟨j,e,c,d,q⟩:=c;subst e;cases l with
|cons r n=>cases n;obtain⟨t,rfl⟩:=r;exact call_range_1 (BX k (by decide) (by decide) c d (by simpa using q))
def IV(d:TI)(g:TG)(tb:TS):TS:=λD U H=>d U H λJ H1=>∃W:Nat->Nat->St->Hp->Prop,(∃m,W 0 m U H1)/\∀i m U H,W i m U H→
 (J.stop i H/\D.nx U H)\/(J.go i H/\∃N:St->Hp->Prop,(∀b H',N b H'->∃a,a<m/\W (i+1) a b H')/\∀x H',J.gs i H x H'->g x U H' λc H2=>tb {D with nx:=N,ct:=N,bk:=D.nx} c H2)
noncomputable def qL(a:List Addr)(h:Heap):List (Addr×Obj):=a.U λb=>(h.p b).j λo=>(b,o)
def Jg(a:b∈fp)(e:h.p b=y0 o):(b,o)∈qL fp h:=Ap0.u ⟨b,a,by rw[e];rfl⟩
def Q5(d:p∈qL fp h):p.1∈fp/\h.p p.1=y0 p.2:=by
 obtain⟨b,c,e⟩:=Ap0.p d;cases q:h.p b with
|none=>rw[q]at e;cases e
|some o=>rw[q]at e;have a:=Ad6.inj e;subst a;exact⟨c,q⟩
def Inv.pinned (I:Inv X pins U H s)(f:∀b∈fp,bD X pins H b)(g:∀b∈fp,∃o,s.j.p b=y0 o/\∀v,o.j≠.p v):Inv X (pins++qL fp s.j) U H s:=
 I.bX λp j=>(Ac6.p j).j (λz=>I.N p (Ab0 _ z)) λz=>by obtain⟨c,e⟩:=Q5 z;obtain⟨k,i,h,_⟩:=f p.1 c;obtain⟨o,a,d⟩:=g p.1 c;rw[e]at a;cases a;exact⟨e,k,i,h,d⟩
def Inv.bR (I:Inv X (pins++pl) U H s):Inv X pins U H s:=I.bX λp a=>I.N p (Ab0 _ (Ad _ a))
def IK(K:PassesOwn (model X.p X.w) X.A X.j X.y)(hc:X.calm=k9)(hi:PI X tg iter wi)(hg:PG X tg g)(p:dt X body tb)
 (hs:∀x,foldedSetIterable iter X.j x=pure x:=by intro _;rfl):PS X (.For tg iter body [] pos) (IV wi g tb):=by
 intro a s U H D I h;refine wpAny_For (aN (hi a s U H _ I h) λv s1 h1=>aN h1 λitv s2 h2=>?_) hs;obtain⟨it,C,tn,J,H2,e,I2,T,Q,f2,W,⟨m0,w0⟩,G⟩:=h2;subst e;have j:∀{t},(∀b∈C,t b=u0)->∀b∈C,bD X a t b:=λhn b p=>⟨hn b p,(f2 b p).2⟩;refine codeAny_forLoop_any (λn Y=>∃i z t,Inv X a z t Y/\tn i Y.j/\(∀b∈C,t b=u0)/\W i n z t) ?_ m0 ⟨0,U,H2,I2,Q,λb p=>(f2 b p).1,w0⟩;rintro n S ⟨i,F,L,I3,E,A,w3⟩;rcases G i n F L w3 with⟨stop,qn⟩|⟨go,N,hN,step⟩
 .refine wpAny_passesOwn K (aN (T.done X rfl rfl rfl hc i a S F L X.y I3 (j A) E stop) ?_);rintro r s4 ⟨P,I4⟩;subst P;exact wpAny_execs_nil ⟨F,L,I4,qn⟩
 .refine wpAny_passesOwn K (aN (T.item X rfl rfl rfl hc i a S F L X.y I3 (j A) E go) ?_);rintro r s4 ⟨u,P,h4⟩;subst P;refine wpAny_passesOwn K (aN h4 ?_);rintro _ V ⟨x,Z,I5,r5,y5,y,M⟩;have R:=I5.pinned (j M) (T.obj _ _ y);refine wpAny_passesOwn K (aN (hg _ V F Z x u _ R r5 (step x Z y5)) ?_);rintro _ s6 ⟨U6,H6,I6,q6⟩;refine wpAny_passesOwn K (aN (p _ s6 U6 H6 _ I6 q6) λf O w=>?_);have k:∀{l}{q},Inv X (a++qL C V.j) l q O->N l q->∃m,m<n/\∃i z t,Inv X a z t O/\tn i O.j/\(∀b∈C,t b=u0)/\W i m z t:=λ{l q} c B=>by obtain⟨m',hm,w7⟩:=hN l q B;refine⟨m',hm,i+1,l,q,c.bR,T.keep _ _ _ y λb p o e=>(c.N (b,o) (Ab0 _ (Ab0 _ (Jg p e)))).1,λb p=>?_,w7⟩;obtain⟨o,e,d⟩:=T.obj _ _ y b p;exact(c.N (b,o) (Ab0 _ (Ab0 _ (Jg p e)))).2.1
  cases f with
|next=>obtain⟨l,q,c,B⟩:=w;exact k c B
|cont=>obtain⟨l,q,c,B⟩:=w;exact k c B
|brk=>obtain⟨l,q,c,w⟩:=w;exact⟨l,q,c.bR,w⟩
|ret v=>obtain⟨x7,l,q,c,r7,w⟩:=w;exact⟨x7,l,q,c.bR,r7,w⟩
end
abbrev R2:=V->V->Hp->VK->Prop
def b9(X:Cx)(f:Value->Value->Sem Value)(r:R2):Prop:=
 ∀(pins:List (Addr×Obj))(s:Shared)(U:St)(H:Hp)(x y:V)(v u:Value)(Q:VK),Inv X pins U H s->RelV x v->RelV y u->r x y H Q→
  wpAny (model X.p X.w) X.A (f v u) (EP X pins U Q) X.y s
def n0(X:Cx)(f:Value->Sem Value)(r:V->Hp->VK->Prop):Prop:=
 ∀(pins:List (Addr×Obj))(s:Shared)(U:St)(H:Hp)(x:V)(v:Value)(Q:VK),Inv X pins U H s->RelV x v->r x H Q→
  wpAny (model X.p X.w) X.A (f v) (EP X pins U Q) X.y s
def Zs(X:Cx)(f:Value)(r:List V->Hp->VK->Prop):Prop:=
 ∀(pins:List (Addr×Obj))(s:Shared)(U:St)(H:Hp)(xs:List V)(a:List Value)(Q:VK),Inv X pins U H s->Vals xs a->r xs H Q→
  wpAny (model X.p X.w) X.A (call f a) (EP X pins U Q) X.y s
def EI(X:Cx)(r:V->Hp->(Bool->Hp->Prop)->Prop):Prop:=
 ∀(pins:List (Addr×Obj))(s:Shared)(U:St)(H:Hp)(x:V)(v:Value)(Q:Bool->Hp->Prop),Inv X pins U H s->RelV x v->r x H Q→
  wpAny (model X.p X.w) X.A (truthy v) (TP X pins U Q) X.y s
def ml(r:R2)(a tb:TE):TE:=λU H Q=>a U H λx H1=>tb U H1 λy H2=>r x y H2 Q
def Nq(r:V->Hp->VK->Prop)(a:TE):TE:=λU H Q=>a U H λx H1=>r x H1 Q
def rI(C:Int->Int->Prop)(g:Int->Int->V):R2:=λx y H Q=>∃i j,x=.o i/\y=.o j/\C i j/\Q (g i j) H
def gL(g:Int->Int->V):R2:=λx y H Q=>∃i j,x=.o i/\y=.o j/\Q (g i j) H
def rU(g:Int->V):V->Hp->VK->Prop:=λx H Q=>∃i,x=.o i/\Q (g i) H
section
variable{X:Cx}{a b c:Expr}{ta tb tc:TE}{pos:Pos}
def o8(e:PE X a ta)(d:PE X b tb){R:V->V->Hp->Prop}(I:Inv X pins U H s)
 (h:ta U H λx H1=>tb U H1 λy H2=>R x y H2){f:Value->Value->Sem Value}
 (k:∀v u L x y H2,Inv X pins U H2 L->RelV x v->RelV y u->R x y H2->wpAny (model X.p X.w) X.A (f v u) Q X.y L):
 wpAny (model X.p X.w) X.A (eval a X.j) (λv i=>wpAny (model X.p X.w) X.A (eval b X.j) (λu j=>wpAny (model X.p X.w) X.A (f v u) Q X.y j) X.y i) X.y s:=by
 refine aN (e pins s U H _ I h) ?_;rintro v l ⟨x,H1,n,o,g⟩;refine aN (d pins l U H1 _ n g) ?_;rintro u L ⟨y,H2,p,m,c⟩;exact k v u L x y H2 p o m c
def FI(g:b9 X (binaryOp op) r)(f:PE X a ta)(e:PE X b tb):PE X (.BinOp a op b pos) (ml r ta tb):=by intro c s U H Q I h;exact wpAny_BinOp (o8 f e I h λv u k x y i l j d q=>g c k U i x y v u Q l j d q)
def uM(i:n0 X (unaryOp op) r)(e:PE X a ta):PE X (.G op a pos) (Nq r ta):=by intro b s U H Q I h;exact UnaryOp_ (aN (e b s U H _ I h) (by rintro v g⟨x,c,j,d,f⟩;exact i b g U c x v Q j d f))
def lB{g:Int->Int->Int}
 (a:∀i j t u s Q E,C i j->Q (.o (g i j) s.p) {s with toks:=s.p+1}->wpAny (model X.p X.w) X.A (f (.o i t) (.o j u)) Q E s):
 b9 X f (rI C λi j=>.o (g i j)):=by
 intro b s U H x y v u Q I k c h;obtain⟨i,j,rfl,rfl,e,q⟩:=h;obtain⟨t,rfl⟩:=k;obtain⟨d,rfl⟩:=c;exact a i j t d s _ _ e ⟨.o (g i j),H,I.tok _,⟨_,rfl⟩,q⟩
def mV{g:Int->Int->Int}
 (a:∀i j t u s Q E,Q (.o (g i j) s.p) {s with toks:=s.p+1}->wpAny (model X.p X.w) X.A (f (.o i t) (.o j u)) Q E s):
 b9 X f (gL λi j=>.o (g i j)):=by
 intro b s U H x y v u Q I e c h;obtain⟨i,j,rfl,rfl,q⟩:=h;obtain⟨t,rfl⟩:=e;obtain⟨d,rfl⟩:=c;exact a i j t d s _ _ ⟨.o (g i j),H,I.tok _,⟨_,rfl⟩,q⟩
def ot{g:Int->Int->Bool}
 (a:∀i j t u s Q E,Q (.x (g i j)) s->wpAny (model X.p X.w) X.A (f (.o i t) (.o j u)) Q E s):
 b9 X f (gL λi j=>.C (g i j)):=by
 intro b s U H x y v u Q I e c h;obtain⟨i,j,rfl,rfl,q⟩:=h;obtain⟨t,rfl⟩:=e;obtain⟨d,rfl⟩:=c;exact a i j t d s _ _ ⟨.C (g i j),H,I,rfl,q⟩
def tm(i j:Int):Prop:=0<j/\j<1073741824
def ub(i j:Int):Prop:=0<=j/\j<=1000000/\i.p<2^64
def kU(i j:Int):Prop:=(-(2^64)<i/\i<2^64)\/(-(2^64)<j/\j<2^64)
def kU.ok (h:kU i j):IntMulOk i j:=by
 rcases h with⟨b,a⟩|⟨b,a⟩
 .exact .of_left (intBits_le_64 b a)
 .exact .of_right (intBits_le_64 b a)
def C9(k):(0:Int)<=2^k:=by exact Ap4 _
def N2:b9 X (binaryOp .Add) (gL λi j=>.o (i+j)):=mV λ_ _ _ _ _ _ _ q=>add_int q
def DC:b9 X (binaryOp .Sub) (gL λi j=>.o (i-j)):=mV λ_ _ _ _ _ _ _ q=>sub_int q
def Ip:b9 X (binaryOp .Mult) (rI kU λi j=>.o (i*j)):=lB λ_ _ _ _ _ _ _ a q=>mul_int q a.ok
def OC:b9 X (binaryOp .FloorDiv) (rI tm λi j=>.o (i/j)):=lB λi j _ _ _ _ _ a q=>by have b:=a.1;have c:=a.2;exact floordiv_int (by lia) (by rw[Am1 i (by lia)];exact q) (.p (PyProof.noPylong_small (by lia)))
def EV:b9 X (binaryOp .Mod) (rI (λ_ j=>0<j) λi j=>.o (i%j)):=lB λi j _ _ _ _ _ a q=>by have b:=a;exact mod_int' (by lia) (by rw[Int.fmod_eq_emod_of_nonneg i (by lia)];exact q)
def Cq:b9 X (binaryOp .Pow) (rI ub λi j=>.o (i^j.j)):=lB λ_ _ _ _ _ _ _ a q=>pow_int_small a.1 a.2.1 a.2.2 q
def FH:b9 X (binaryOp .LShift) (rI ub λi j=>.o (i*2^j.j)):=lB λ_ _ _ _ _ _ _ a q=>lshift_int_small a.1 a.2.1 a.2.2 q
def Oh:b9 X (binaryOp .RShift) (rI (λ_ j=>0<=j) λi j=>.o (i/2^j.j)):=lB λi j _ _ _ _ _ a q=>
 rshift_int a (by rw[Am1 i (C9 _)];exact q)
def DI:b9 X (binaryOp .BitAnd) (gL λi j=>.o (Builtin.bitAnd i j)):=mV λ_ _ _ _ _ _ _ q=>and_int q
def N7:b9 X (binaryOp .BitOr) (gL λi j=>.o (Builtin.bitOr i j)):=mV λ_ _ _ _ _ _ _ q=>or_int q
def Iw:b9 X (binaryOp .BitXor) (gL λi j=>.o (Builtin.bitXor i j)):=mV λ_ _ _ _ _ _ _ q=>xor_int q
def yK{g:Int->Int}
 (a:∀i t s Q E,Q (.o (g i) s.p) {s with toks:=s.p+1}->wpAny (model X.p X.w) X.A (f (.o i t)) Q E s):
 n0 X f (rU λi=>.o (g i)):=by
 intro b s U H x v Q I c h;obtain⟨i,rfl,q⟩:=h;obtain⟨t,rfl⟩:=c;exact a i t s _ _ ⟨.o (g i),H,I.tok _,⟨_,rfl⟩,q⟩
def Ma:n0 X (unaryOp .USub) (rU λi=>.o (-i)):=yK λ_ _ _ _ _ q=>neg_int q
def MW:n0 X (unaryOp .Invert) (rU λi=>.o (Builtin.bitNot i)):=yK λ_ _ _ _ _ q=>invert_int q
end
section
variable{X:Cx}{a b c:Expr}{ta tb tc:TE}{pos:Pos}
def nc(I:Inv X pins U H s)(q:Q (.C k) H)(e:k=k'):EP X pins U Q (.x k') s:=by subst e;exact⟨.C k,H,I,rfl,q⟩
def OS:b9 X (compareOp .Lt) (gL λi j=>.C (u9 (i<j))):=ot λ_ _ _ _ _ _ _ q=>lt_int q
def Mx:b9 X (compareOp .LtE) (gL λi j=>.C (u9 (i<=j))):=ot λ_ _ _ _ _ _ _ q=>le_int q
def EH:b9 X (compareOp .Gt) (gL λi j=>.C (u9 (j<i))):=ot λ_ _ _ _ _ _ _ q=>gt_int q
def MC:b9 X (compareOp .GtE) (gL λi j=>.C (u9 (j<=i))):=ot λ_ _ _ _ _ _ _ q=>ge_int q
def BE(i:b9 X (compareOp op) r)(g:PE X a ta)(f:PE X b tb)(e:behindInMarks op b=y9):PE X (.B a [op] [b] pos) (ml r ta tb):=by intro c s U H Q I h;exact wpAny_Compare1 (o8 g f I h λv u l x y j m k d q=>i c l U j x y v u Q m k d q) e
def uT(t:TE):TT:=λU H Q=>t U H λx H'=>∃k,x=.C k/\Q k H'
def yk(o:b9 X (compareOp op) r)(l:PE X a ta)(j:PE X b tb)(i:behindInMarks op b=y9):PT X (.B a [op] [b] pos) (uT (ml r ta tb)):=by intro d s U H Q I h;refine wpAny_isTrue_Compare1 (aN (l d s U H _ I h) ?_) i;rintro v n⟨x,f,C,D,m⟩;refine aN (j d n U f _ C m) ?_;rintro u A⟨y,w,F,p,g⟩;refine aN (o d A U w x y v u _ F D p g) ?_;rintro c G⟨z,t,E,q,k,e,B⟩;subst e;cases q;exact wpAny_truthy_bool ⟨t,E,B⟩
def sm(r r':R2)(d tb c:TE):TE:=λU H Q=>d U H λx H1=>tb U H1 λy H2=>r x y H2 λz a=>∃k,z=.C k∧
 (if k=k9 then c U a λe b=>r' y e b Q else Q (.C y9) a)
def D8(F:b9 X (compareOp op) r)(g:b9 X (compareOp op') r')(C:PE X a ta)(B:PE X b tb)(M:PE X c tc)
 (q:lastMarks [op,op'] [b,c]=false:=by with_unfolding_all rfl):PE X (.B a [op,op'] [b,c] pos) (sm r r' ta tb tc):=by
 intro f s U H Q I h;refine Compare_chain (aN (C f s U H _ I h) ?_) q;rintro v E⟨x,n,R,S,D⟩;refine chain_link (aN (B f E U n _ R D) ?_);rintro u N⟨y,L,T,i,o⟩;refine aN (F f N U L x y v u _ T S i o) ?_;rintro d p⟨z,j,m,G,k,e,l⟩;subst e;cases G;refine wpAny_truthy_bool ?_;cases k with
|false=>exact ite_ff ⟨.C y9,j,m,rfl,l⟩
|true=>exact ite_tt (chain_last (aN (M f p U j _ m l) (by rintro J t⟨A,K,P,O,w⟩;exact g f t U K y A u J Q P i O w)))
def NY(M:b9 X (compareOp op) r)(g:b9 X (compareOp op') r')(G:PE X a ta)(E:PE X b tb)(T:PE X c tc)
 (w:lastMarks [op,op'] [b,c]=false:=by with_unfolding_all rfl):PT X (.B a [op,op'] [b,c] pos) (uT (sm r r' ta tb tc)):=by
 intro f s U H Q I h;refine isTrue_chain (aN (G f s U H _ I h) ?_) w;rintro v K⟨x,n,Z,r1,J⟩;refine test_link (aN (E f K U n _ Z J) ?_);rintro u V⟨y,S,I2,i,o⟩;refine aN (M f V U S x y v u _ I2 r1 i o) ?_;rintro d q⟨z,j,m,N,k,e,l⟩;subst e;cases N;refine wpAny_truthy_bool ?_;cases k with
|false=>obtain⟨k',R,p⟩:=l;cases R;exact ite_ff ⟨j,m,p⟩
|true=>refine ite_tt (test_last (aN (T f q U j _ m l) ?_));rintro O B⟨D,P,Y,W,C⟩;refine aN (g f B U P y D u O _ Y i W C) ?_;rintro d' s5 ⟨z2,A,L,t,k2,e2,F⟩;subst e2;cases t;exact wpAny_truthy_bool ⟨A,L,F⟩
def kg(K:Ab)(x:V)(H:Hp)(k:Bool):Prop:=
 match x with
|.aw=>k=y9
|.C b=>k=b
|.o i=>k=(i !=0)
|.p y=>y.e<=sizeLine/\k=((y.e:Int) !=0)
|.lj y=>y.j<=sizeLine/\k=((y.j:Int) !=0)
|.j p=>(∃xs,bA K H p xs/\k=!xs.y)\/(∃xs,cY K H p xs/\k=!xs.y)\/∃kvs,H p=y0 (.dK kvs)/\k=!kvs.y
|_=>False
def DL(r:KV kvs vs):(!vs.y)=!kvs.y:=by cases r<;>rfl
def XN(r:Vals xs its):(!its.u.y)=!xs.y:=by cases r<;>simp
def zK:(sizeLine:Nat)<2^63:=by rw[sizeLine_eq];decide
def nt:EI X (λx H Q=>∃k,kg X.K x H k/\Q k H):=by
 intro o s U H x v Q I d h;obtain⟨k,e,q⟩:=h;have A:=zK;have B:=sizeLine_eq;cases x with
|aw=>cases d;have a:=e;subst a;exact truthy_none ⟨H,I,q⟩
|bl b=>cases d;have a:=e;subst a;exact wpAny_truthy_bool ⟨H,I,q⟩
|int i=>obtain⟨t,rfl⟩:=d;have a:=e;subst a;exact PySem.P.truthy_int ⟨H,I,q⟩
|str y=>obtain⟨t,rfl⟩:=d;obtain⟨z,a⟩:y.e<=sizeLine/\k=((y.e:Int) !=0):=e;subst a;exact PySem.P.truthy_str (by lia) ⟨H,I.tok _,q⟩
|lj y=>obtain⟨t,rfl⟩:=d;obtain⟨z,a⟩:y.j<=sizeLine/\k=((y.j:Int) !=0):=e;subst a;exact PySem.W.truthy_bytes (Nat.le_trans ‹_› (by decide)) ⟨H,I.tok _,q⟩
|ref p=>
  cases d;have a:=e;rcases a with⟨u,f,a⟩|⟨u,f,a⟩|⟨g,f,a⟩
  .subst a;obtain⟨j,r,pl,n⟩:=I.list f;have c:=r.e;exact wpAny_truthy_list pl.J (by simp only[Ab3];lia) ⟨H,I.tok _,by rw[XN r];exact q⟩
  .subst a;obtain⟨j,r,pl,n⟩:=I.tuple f;have c:=r.e;exact truthy_tuple pl (by simp only[Ab3];lia) ⟨H,I.tok _,by rw[XN r];exact q⟩
  .subst a;obtain⟨n,w,l,r,m⟩:g.e<=sizeLine/\(p==sysModules)=y9/\∃l,KV g l/\s.j.DictOf (xw X.p X.w) p l:=I.G p _ f;have c:=Paired.length r;exact wpAny_truthy_dict w m (by lia) ⟨H,I.tok _,by rw[DL r];exact q⟩
|_=>exact(e).j
def OT(d:PE X a ta)(l:∀i,isTrue a X.j i=(do let v←i;standAt a.pos;holding [v] (truthy v))):
 PT X a (λU H Q=>ta U H λx H'=>∃k,kg X.K x H' k/\Q k H'):=by
 intro b s U H Q I h;exact isTrue_plain (aN (d b s U H _ I h) (by rintro v f⟨x,c,g,j,e⟩;exact nt b f U c x v Q g j e)) (l _)
def Hn:b9 X (binaryOp .Add) (λx y H Q=>∃i j,x=.p i/\y=.p j/\i.e+j.e<=sizeLine/\Q (.p (i++j)) H):=by intro a s U H x y v u Q I e b h;obtain⟨i,j,rfl,rfl,d,q⟩:=h;obtain⟨t,rfl⟩:=e;obtain⟨c,rfl⟩:=b;exact add_str (λc f=>⟨.p (i++j),H,I.tok _,⟨_,rfl⟩,q⟩) d
def wM(r:Vals [x] us):∃u,us=[u]/\RelV x u:=by
 cases r with
|cons a b=>cases b;exact⟨_,rfl,a⟩
def mG(r:Vals [x,y] us):∃u i,us=[u,i]/\RelV x u/\RelV y i:=by
 cases r with
|cons a b=>
  cases b with
|cons d c=>cases c;exact⟨_,_,rfl,a,d⟩
def W4:Zs X (.p "int") (fun xs H Q=>(∃i,xs=[.o i]/\Q (.o i) H)\/∃k,xs=[.C k]/\Q (.o (if k then 1 else 0)) H):=by
 intro a s U H xs c Q I r h;rcases h with⟨i,rfl,q⟩|⟨k,rfl,q⟩
 .obtain⟨u,rfl,t,rfl⟩:=wM r;exact call_int_int ⟨.o i,H,I,⟨_,rfl⟩,q⟩
 .obtain⟨u,rfl,b⟩:=wM r;cases b;exact call_int_bool ⟨.o (if k then 1 else 0),H,I.tok _,⟨_,rfl⟩,q⟩
def W9:Zs X (.u "divmod") (fun xs H Q=>∃i j,xs=[.o i,.o j]/\tm i j/\∀p,H p=none->Q (.j p) (aE H p (.u [.o (i/j),.o (i%j)]))):=by intro a s U H xs d Q I r h;obtain⟨i,j,rfl,⟨f,k⟩,q⟩:=h;obtain⟨u,l,rfl,⟨t,rfl⟩,⟨g,rfl⟩⟩:=mG r;refine divmod_int (by lia) ?_ (.p (PyProof.noPylong_small (by lia)));rw[Am1 i (by lia),Int.fmod_eq_emod_of_nonneg i (by lia)];have c:=I.G.fresh (Aa9 _);refine⟨.j s.j.j.j,_,?_,rfl,q _ c⟩;refine I.laid (λb o e=>Ab1 _ e) (Aa9 _) ⟨by simp only[Aa8,Ad9];rw[sizeLine_eq];decide,[.o (i/j) s.p,.o (i%j) (s.p+1)],.j ⟨_,rfl⟩ (.j ⟨_,rfl⟩ .p),?_⟩;exact⟨_,Ac8 s.j rfl,rfl,rfl,0,rfl⟩
end
structure eN(h:Heap)(x dx C:Addr)(mA:Str->Option Value):Prop where
 obj:h.p x=y0 (Ak1 C dx)
 ns:h.Ns1 dx mA
 ne:dx≠x
def X5{h:Heap}(n:h.Ns1 dx mA):∃i,h.p dx=y0 i/\∀name,An5 name i=y0 (mA name):=by
 obtain⟨o,c,m,g,l,d,_,f⟩:=n;refine⟨o,g,λname=>?_⟩;have e:=f name;unfold nsFind findBy at e;rw[←Array.find?_toList]at e;unfold An5;rw[l];dsimp only;split
 .rename_i y q;rw[q]at e;exact congrArg y0 e
 .rename_i q;rw[q]at e;have a:c.p.A (·.refKey)=false:=by rw[Ak9];intro y k;obtain⟨z,t,b⟩:=d y (Array.mem_toList_iff.p k);simp[DictEntry.refKey,b]
  have j:¬c.p.A (·.refKey)=true:=by rw[a];exact Ab9
  rw[if_neg j];exact congrArg y0 e
def eN.look (I:eN h x dx C mA):∃i,PySem.W.InstAt h x (Ak1 C dx) C (y0 i)/\∀name,An5 name i=y0 (mA name):=
 let⟨i,b,a⟩:=X5 I.ns
 ⟨i,⟨I.obj,rfl,rfl,b⟩,a⟩
section
variable{prog:Program}{w:World}{A:Around}{E:Value->Shared->Prop}{s:Shared}{K:Ab}{x dx C f:Addr}{mA:Str->Option Value}{name:Str}{v:Value}
def Nh(X:K.In s.j)(I:eN s.j x dx C mA)(f:Am8 K C name=k9)(d:PySem.W.hasDictIn K C=k9)
 (c:Ak6 K (.j C) name=y0 u0)(e:mA name=y0 v)(a:PySem.W.handedIn v=k9)(h:Q v {s with toks:=s.p+1}):
 wpAny (model prog w) A (getAttr (.j x) name expr) Q E s:=by
 obtain⟨g,J,b⟩:=I.look;exact PySem.W.get_value X J (Ao f).1 (PySem.W.findObj_own d c rfl (by rw[b,e])) a h
def Fd(X:K.In s.j)(I:eN s.j x dx C mA)(a:Am8 K C name=k9)
 (c:Ak6 K (.j C) name=y0 (y0 (.j f)))(e:PySem.W.isFn K (.j f)=k9)(d:mA name=u0)(h:Q (.j f,[.j x]) s):
 wpAny (model prog w) A (getMethod (.j x) name pl) Q E s:=by
 obtain⟨g,J,b⟩:=I.look;exact PySem.W.method_fn X J (Ao a).1 (Ao a).2 c (beq_iff_eq.p e) (by show(An5 name g).j (·.u)=y0 y9;rw[b,d];rfl) h
def BW(X:K.In s.j)(I:eN s.j x dx C mA)
 (r:PySem.W.findIn K (.j C) "__setattr__"=some (some (.u "object.__setattr__")))(n:PySem.W.plainOver K C=true)(q:PySem.W.takerIn K C name=some none)(p:PySem.W.hasDictIn K C=true)
 (l:PySem.Within mA ns)(k:ns.e<=sizeLine)
 (h:∀h',eN h' x dx C (λy=>if y=name then y0 v else mA y)->Al3 dx s.j h'->Q () {s with heap:=h',toks:=s.p+2}):
 wpAny (model prog w) A (setAttr (.j x) name v) Q E s:=by
 obtain⟨z,J,t⟩:=I.look;refine PySem.W.set_plain X J r (PySem.W.osa_open X J n q λb=>?_);obtain⟨cd,m,d⟩:=PySem.W.any_some p;have j:=I.obj;refine wpAny_bind (wpAny_pure (wpAny_bind (wpAny_bind (wpAny_loadPart j (wpAny_bind (PySem.W.Looks.here (PySem.W.looks_clsIn X m) ?_))))));rw[d];refine wpAny_pure (wpAny_bind (wpAny_pure (wpAny_bind ?_)));refine wpAny_nsSet1 I.ns λh' a c=>?_;obtain⟨u,o,i,f,g,e⟩:=a.count (PySem.Within.cons name v l);refine wpAny_bind (wpAny_lookBehind f (by rw[g];exact pastItsLine_dict (Ab5 e (by rw[Aa8];exact Nat.succ_le_succ ‹_›))) ?_);exact wpAny_pure (h _ ⟨(c.2 _ (Ne.symm I.ne)).j I.obj,a,I.ne⟩ c)
def EY(X:K.In s.j)(e:PySem.W.makesIn K C=k9)
 (b:PySem.W.findIn K (.j C) "__init__"=some (some (.j f)))(c:PySem.W.typeIn K (.j f)=some (.p "function"))
 (h:codeAny (model prog w) (A.under (.u "type.__call__" ⟨.j C::vs,kw⟩)) (.call (.j f) ⟨.j (s.j.j.j+1)::vs,kw⟩) (PySem.W.InitBack (s.j.j.j+1) R)
   {s with heap:=(s.j.u Ai).u (Ak1 C s.j.j.j)}):
 codeAny (model prog w) A (.call (.j C) ⟨vs,kw⟩) R s:=by
 obtain⟨i,g,d,t,j⟩:=s;exact PySem.W.make_core (PySem.W.makes_of X e) (PySem.W.looks_findIn X b) (λa=>PySem.W.bind_fn X a c) (.p rfl) h
end
noncomputable def aZ(f:Str)(v:V):List (Str×V)->List (Str×V)
|[]=>[(f,v)]
|(g,x)::r=>if g=f then(g,v)::r else(g,x)::aZ f v r
theorem WI(f g)(v):∀fs:List (Str×V),(aZ f v fs).p g=if g=f then y0 v else fs.p g
|[]=>by
  show Ah9 g [(f,v)]=_;by_cases h:g=f
  .have a:=beq_iff_eq.u h;simp only[Ah9,a,if_pos h]
  .have a:=beq_eq_false_iff_ne.u h;simp only[Ah9,a,if_neg h]
|(k,x)::r=>by
  have c:=WI f g v r;rw[show aZ f v ((k,x)::r)=(if k=f then(k,v)::r else(k,x)::aZ f v r)from rfl];by_cases b:k=f
  .rw[if_pos b];by_cases h:g=k
   .have a:=beq_iff_eq.u h;simp only[Ah9,a,if_pos (h.j b)]
   .have a:=beq_eq_false_iff_ne.u h;simp only[Ah9,a,if_neg (λe:g=f=>h (e.j b.p))]
  .rw[if_neg b];by_cases h:g=k
   .have a:=beq_iff_eq.u h;simp only[Ah9,a,if_neg (λe:g=f=>b (h.p.j e))]
   .have a:=beq_eq_false_iff_ne.u h;simp only[Ah9,a];exact c
theorem ZJ(f)(v):∀fs:List (Str×V),f∈(aZ f v fs).j (·.1)/\∀g,g∈fs.j (·.1)->g∈(aZ f v fs).j (·.1)
|[]=>⟨by simp[aZ],λg h=>by simp at h⟩
|(k,x)::r=>by
  obtain⟨i1,i2⟩:=ZJ f v r;rw[show aZ f v ((k,x)::r)=(if k=f then(k,v)::r else(k,x)::aZ f v r)from rfl];by_cases a:k=f
  .rw[if_pos a];subst a;exact⟨by simp,λg h=>by simpa using h⟩
  .rw[if_neg a];refine⟨?_,λg h=>?_⟩
   .rw[Ab2];exact Aa2 _ i1
   .rw[Ab2]at h⊢;rcases Ab8.p h with e|e
    .exact Ab8.u (.p e)
    .exact Aa2 _ (i2 g e)
theorem qJ(f)(v):∀fs:List (Str×V),(aZ f v fs).e<=fs.e+1
|[]=>by simp[aZ]
|(k,x)::r=>by
  have b:=qJ f v r;rw[show aZ f v ((k,x)::r)=(if k=f then(k,v)::r else(k,x)::aZ f v r)from rfl];by_cases a:k=f
  .rw[if_pos a,Aa8,Aa8];exact Nat.le_succ _
  .rw[if_neg a,Aa8,Aa8];exact Nat.succ_le_succ ‹_›
def b4.some_of (r:b4 (y0 v) o):∃u,o=y0 u/\RelV v u:=by
 cases o with
|none=>exact(r).j
|some u=>exact⟨u,rfl,r⟩
def b4.none_of (r:b4 u0 o):o=none:=by
 cases o with
|none=>rfl
|some u=>exact(r).j
def J5(r:RelV v u):PySem.W.handedIn u=true:=by
 cases v with
|aw=>cases(r);rfl
|bl b=>cases(r);rfl
|int i=>obtain⟨t,e⟩:=(r);cases e;rfl
|str x=>obtain⟨t,e⟩:=(r);cases e;rfl
|lj b=>obtain⟨t,e⟩:=(r);cases e;rfl
|iU b=>obtain⟨t,e⟩:=(r);cases e;rfl
|ref a=>cases(r);rfl
|ty n=>cases(r);rfl
section
variable{P:Program}{w:World}{H H':Hp}{h h':Heap}{a C dx:Addr}{fs fs':List (Str×V)}
def jS(b:dm P w H h)(e:H a=y0 (.p C dx fs)):∃mA,eN h a dx C mA/\(∀f,b4 (fs.p f) (mA f))/\PySem.Within mA (fs.j (·.1))/\fs.e<=1000/\H dx=y0 (.j a):=by obtain⟨d,z,ne,c,mA,n,r,q⟩:=(show aT P w H h a (.p C dx fs)from b a _ e);exact⟨mA,⟨c,n,ne⟩,r,q,z,d⟩
end
structure dG(K:Ab)(C:Addr):Prop where
 pg:Am8 K C Str.empty=k9
 hd:PySem.W.hasDictIn K C=k9
 po:PySem.W.plainOver K C=k9
 sa:PySem.W.findIn K (.j C) "__setattr__"=some (some (.u "object.__setattr__"))
def dG.get {K:Ab}(c:dG K C)(f):Am8 K C f=true:=c.pg
def cx(K:Ab)(C:Addr)(f:Str):Prop:=Ak6 K (.j C) f=y0 u0
def cx.mR {K:Ab}(n:cx K C f):PySem.W.takerIn K C f=y0 none:=by unfold PySem.W.takerIn;rw[show Ak6 K (.j C) f=y0 u0 from n];rfl
structure Pr(K:Ab)(C:Addr)(f:Str)(v:V)(u:Value):Prop where
 at_:Ak6 K (.j C) f=y0 (y0 u)
 rel:RelV v u
 get:PySem.W.specialIn K u "__get__"=some none
 cp:PySem.W.copiedNames.w f=y9
structure nS(K:Ab)(C:Addr)(m:Str)(f:Addr):Prop where
 at_:Ak6 K (.j C) m=y0 (y0 (.j f))
 fn:PySem.W.isFn K (.j f)=k9
 kp:Ah5 K (.j f)=k9
section
variable{X:Cx}{pins:List (Addr×Obj)}{U:St}{H:Hp}{s:Shared}{a C dx:Addr}{fs:List (Str×V)}{f:Str}{v:V}{A:Around}{E:Value->Shared->Prop}
def CI(I:Inv X pins U H s)(e:H a=y0 (.p C dx fs))(c:dG X.K C)(n:cx X.K C f)(l:fs.p f=y0 v)
 (h:∀u s',Inv X pins U H s'->RelV v u->Q u s'):wpAny (model X.p X.w) A (getAttr (.j a) f b) Q E s:=by
 obtain⟨i,O,r,_,_,_⟩:=jS I.G e;obtain⟨u,g,d⟩:=b4.some_of (by rw[←l];exact r f);exact Nh I.bK O (c.get f) c.hd n g (J5 d) (h u _ (I.tok _) d)
def N6(I:Inv X pins U H s)(e:H a=y0 (.p C dx fs))(c:dG X.K C)(k:nS X.K C m g)(l:fs.p m=u0)
 (h:Q (.j g,[.j a]) s):wpAny (model X.p X.w) A (getMethod (.j a) m pl) Q E s:=by
 obtain⟨d,O,r,_,_,_⟩:=jS I.G e;have b:=b4.none_of (by rw[←l];exact r m);exact Fd I.bK O (c.get m) k.at_ k.fn b h
def Fu(I:Inv X pins U H s)(e:H a=y0 (.p C dx fs))(c:dG X.K C)(n:cx X.K C f)(D:fs.e<1000)(m:RelV y u)
 (h:∀s',Inv X pins U (aE H a (.p C dx (aZ f y fs))) s'->Q () s'):wpAny (model X.p X.w) A (setAttr (.j a) f u) Q E s:=by
 obtain⟨k,O,r,i,_,j⟩:=jS I.G e;have w:(fs.j (·.1)).e<=sizeLine:=by rw[Aa,sizeLine_eq];exact Nat.le_trans ‹_› (by decide)
 refine BW I.bK O c.sa c.po n.mR c.hd i w λt d l=>h _ ?_;have B:∃o,t.p dx=y0 o:=let⟨o,_,_,x,_⟩:=d.ns;⟨o,x⟩;refine I.write (by rw[e];exact True.intro) (.u j) (λb q v z=>(l.2 b v).j z) B ?_;refine⟨by rw[Za O.ne];exact j,?_,O.ne,d.obj,_,d.ns,λg=>?_,λg p=>?_⟩
 .have:=qJ f y fs;exact Nat.le_trans ‹_› ‹_›
 .show b4 ((aZ f y fs).p g) (if g=f then y0 u else k g);rw[WI];by_cases q:g=f
  .rw[if_pos q,if_pos q];exact m
  .rw[if_neg q,if_neg q];exact r g
 .by_cases q:g=f
  .rw[q];exact(ZJ f y fs).1
  .refine(ZJ f y fs).2 g (i g λz=>p ?_);show(if g=f then y0 u else k g)=u0;rw[if_neg q];exact z
def Inv.made (I:Inv X pins U H s):Inv X pins U (aE (aE H s.j.j.j (.j (s.j.j.j+1))) (s.j.j.j+1) (.p C s.j.j.j []))
 {s with heap:=(s.j.u Ai).u (Ak1 C s.j.j.j)}:=by
 have e1:(s.j.u Ai).p s.j.j.j=y0 Ai:=Ac8 s.j rfl;have e2:=by
  have:=Ac8 (s.j.u Ai) (o:=Ak1 C s.j.j.j) rfl
  rwa [Ak]at this
 have f:(s.j.u Ai).Ns s.j.j.j (λ_=>u0):=⟨Ai,#[],_,e1,rfl,(λe c=>absurd c (by simp)),λ_=>rfl⟩;have d:=I.laid (o:=.j (s.j.j.j+1)) (t':=s.p) (λb u q=>Ab1 _ q) (Aa9 _) ⟨_,e1⟩;refine d.laid (λb u q=>Ab1 _ q) (Al4 (Ak _ _)) ?_;have ne:s.j.j.j≠s.j.j.j+1:=Ac3 (Af9 _);refine⟨by rw[Za ne,zb],Af4 _,ne,e2,λ_=>u0,(Heap.Ns1.of_empty f).at λo q=>Ab1 _ q,λ_=>True.intro,λy a=>absurd rfl a⟩
def Be(a:attributeBase e f env (eval e env)=eval e env)
 (h:wpAny (model prog w) A (eval e env) (λo i=>wpAny (model prog w) A (getAttr o f k9) Q E i) E s):wpAny (model prog w) A (eval (.p e f pos) env) Q E s:=
 Attribute_any_ h (by rw[arm_eval_Attribute,a])
end
def DH(K:Ab)(b:TE)(f:Str):TE:=λU H Q=>b U H λx H1=>∃a C dx fs v,x=.j a/\H1 a=y0 (.p C dx fs)/\dG K C/\cx K C f/\fs.p f=y0 v/\Q v H1
def L0(K:Ab)(b c:TE)(f:Str):TS:=λD U H=>c U H λy H1=>b U H1 λx H2=>∃a C dx fs,x=.j a/\H2 a=y0 (.p C dx fs)/\dG K C/\cx K C f/\fs.e<1000∧
 D.nx U (aE H2 a (.p C dx (aZ f y fs)))
section
variable{X:Cx}{o e value:Expr}{f:Str}{pos pos' tpos:Pos}{ta tv:TE}
def HL(p:PE X e ta)(i:attributeBase e f X.j (eval e X.j)=eval e X.j):PE X (.p e f pos) (DH X.K ta f):=by intro b s U H Q I h;refine Be i (aN (p b s U H _ I h) ?_);rintro u w ⟨x,d,m,j,a,C,t,fs,v,ex,g,c,n,l,q⟩;subst ex;obtain rfl:u=Value.ref a:=j;exact CI m g c n l λr y o k=>⟨v,d,o,k,q⟩
def sH(j:PE X o ta)(v:PE X value tv)(z:swapsWith value (y0 (.p o f pos')) pos.p X.j=pure y9):PS X (.j [.p o f pos'] value pos) (L0 X.K ta tv f):=by intro b s U H D I h;refine plainObj_wpAny_Assign_Attribute (aN (v b s U H _ I h) ?_) z;rintro u m⟨y,d,r,i,q⟩;refine aN (j b m U d _ r q) ?_;rintro k F⟨x,E,w,p,a,C,B,fs,ex,g,c,n,l,e⟩;subst ex;obtain rfl:k=Value.ref a:=p;exact Fu w g c n l i λA t=>⟨U,_,t,e⟩
end
section
variable{X:Cx}{pins:List (Addr×Obj)}{U:St}{H:Hp}{s:Shared}{A:Around}{E:Value->Shared->Prop}{Q:Value->Shared->Prop}{c:Value}{b:Bool}
inductive fZ(K:Ab)(H:Hp):V->Value->Prop where
|aw:fZ K H .aw (.p "NoneType")
|bl (x:Bool):fZ K H (.C x) (.p "bool")
|int (i:Int):fZ K H (.o i) (.p "int")
|str (x:Str):fZ K H (.p x) (.p "str")
|iU (x:UInt64):fZ K H (.iU x) (.p "float")
|lst {a:Addr}{xs:List V}(e:H a=y0 (.w xs)):fZ K H (.j a) (.p "list")
|eJ {a:Addr}{o:Obj}{xs:List V}(e:H a=y0 (.eJ o (.w xs))):fZ K H (.j a) (.p "list")
|tup {a:Addr}{xs:List V}(e:H a=y0 (.u xs)):fZ K H (.j a) (.p "tuple")
|dK {a:Addr}{kvs:List (dF×V)}(e:H a=y0 (.dK kvs)):fZ K H (.j a) (.p "dict")
|dT {a:Addr}{kvs:List (List dF×V)}(e:H a=y0 (.dT kvs)):fZ K H (.j a) (.p "dict")
|ins {a C dx:Addr}{fs:List (Str×V)}(e:H a=some (.p C dx fs))(cl:dG K C)(ha:PySem.W.findIn K (.j C) "__class__"=some (some (.u "object.__class__")))
  (hn:PySem.W.specialIn K (.u "object.__class__") "__get__"=some (some (.u "getset_descriptor.__get__")))(htk:PySem.W.takesIn K (.u "object.__class__")=some true)
  (hm:PySem.W.mroIn K C (.p "object")=some true):fZ K H (.j a) (.j C)
def jl(I:Inv X pins U H s)(f:RelV x u)(ty:fZ X.K H x t)(e:An6 X.K t c=y0 b)(h:∀tk,Q (.x b) {s with toks:=tk}):
 wpAny (model X.p X.w) A (call (.u "isinstance") [u,c]) Q E s:=by
 cases ty with
|aw=>cases(f);exact Af3 PySem.W.kitx_none I.bK True.intro e (λz=>nomatch z) h
|bl y=>cases(f);exact Af3 PySem.W.kitx_bool I.bK True.intro e (λz=>nomatch z) h
|int i=>obtain⟨t,q⟩:=(f);cases q;exact Af3 PySem.W.kitx_int I.bK True.intro e (λz=>nomatch z) h
|str y=>obtain⟨t,q⟩:=(f);cases q;exact Af3 PySem.W.kitx_str I.bK True.intro e (λz=>nomatch z) h
|iU y=>obtain⟨t,q⟩:=(f);cases q;exact Af3 PySem.W.kitx_float I.bK True.intro e (λz=>nomatch z) h
|@lst a k d=>cases(f);obtain⟨_,_,n,_,g⟩:=(show aT X.p X.w H s.j a (.w k)from I.G a _ d);exact Af3 Ap I.bK ⟨_,g,rfl⟩ e (λz=>nomatch z) h
|@eJ a G k d=>cases(f);obtain⟨_,_,_,n,_,g⟩:=(show aT X.p X.w H s.j a (.eJ G (.w k))from I.G a _ d);exact Af3 Ap I.bK ⟨_,g,rfl⟩ e (λz=>nomatch z) h
|@tup a k d=>cases(f);obtain⟨_,_,_,p⟩:=(show aT X.p X.w H s.j a (.u k)from I.G a _ d);obtain⟨o,g,l,_⟩:=p;exact Af3 PySem.W.kitx_tuple I.bK ⟨o,g,l⟩ e (λz=>nomatch z) h
|@dK a j d=>cases(f);obtain⟨_,_,N,_,p⟩:=(show aT X.p X.w H s.j a (.dK j)from I.G a _ d);obtain⟨o,F,D,g,l,_⟩:=p;exact Af3 PySem.W.kitx_dict I.bK ⟨o,g,l.1⟩ e (λz=>nomatch z) h
|@dT a j d=>cases(f);obtain⟨_,_,k,_,o,F,D,g,l,_⟩:=(show aT X.p X.w H s.j a (.dT j)from I.G a _ d);exact Af3 PySem.W.kitx_dict I.bK ⟨o,g,l.1⟩ e (λz=>nomatch z) h
|@ins a C K fs d r w B m v=>cases(f);obtain⟨L,O,_⟩:=jS I.G d;obtain⟨M,J,_⟩:=O.look;exact Af3 (PySem.W.kitx_own (r.get _) r.hd w B m v) I.bK J e (λz=>nomatch z) h
end
structure bc(k:Nat)(A:Around):Prop where
 hd:4<=k->A.p=u0
 dp:A.depth+k+5<recursionLimit
 un:A.u+16*k+200<cLine
def bc.mono (r:bc k A)(h:j<=k):bc j A:=⟨λq=>r.hd (Ab5 q h),by have:=r.dp;lia,by have:=r.un;lia⟩
theorem bc.deeper (r:bc (k+1) A)(env):bc k (A.deeper env):=
 ⟨λq=>r.hd (Aj8 q),by have:=r.dp;show A.depth+1+k+5<_;lia,by have:=r.un;show A.u+3+16*k+200<_;lia⟩
theorem bc.in1 (r:bc (k+1) A):bc k A.j:=
 ⟨λq=>r.hd (Aj8 q),by have:=r.dp;show A.depth+k+5<_;exact Nat.le_of_lt ‹_›,by have:=r.un;show A.u+1+16*k+200<_;lia⟩
def LC{A:Around}:(A.under (.u "type.__call__" ⟨.j C::us,kw⟩)).depth=A.depth+1:=by
 first|rfl|simp[guardIds]
def IF{A:Around}:(A.under (.u "type.__call__" ⟨.j C::us,kw⟩)).u=A.u+1:=by
 first|rfl|simp[Code.isFrame]
def bc.make (r:bc (k+1) A)(C)(us)(kw):bc k (A.under (.u "type.__call__" ⟨.j C::us,kw⟩)):=
 ⟨λq=>r.hd (Aj8 q),by have:=r.dp;rw[LC];lia,by have:=r.un;rw[IF];lia⟩
theorem bc.depth (r:bc k A):A.depth<recursionLimit:=by have:=r.dp;lia
def n7:TA:=λ_ H Q=>Q [] H
def p5(a:TE)(tr:TA):TA:=λU H Q=>a U H λx H1=>tr U H1 λxs H2=>Q (x::xs) H2
section
variable{X:Cx}{e:Expr}{es:List Expr}{te:TE}{t:TA}{pos:Pos}
def Qm:PA X [] n7:=λ_ _ _ _ H Q I h=>Calls.spliced_nil ⟨[],H,I,.p,h⟩
def Xe(f:PE X e te)(m:PA X es t)(q:starEach (e::es) X.j=(y9,eval e X.j)::starEach es X.j:=by rfl):PA X (e::es) (p5 te t):=by intro b a s U H Q I h;rw[q];refine Calls.spliced_cons (aN (f a s U H _ I h) ?_);rintro u i ⟨x,c,n,o,g⟩;exact aN (m b a i U c _ n g) (by rintro r v⟨k,l,p,j,d⟩;exact⟨x::k,l,p,.j o j,d⟩)
def Me(t:TA):TE:=λU H Q=>t U H λxs H1=>xs.e<=sizeLine/\∀p,H1 p=u0->Q (.j p) (aE H1 p (.u xs))
def L3(t:TA):TE:=λU H Q=>t U H λxs H1=>xs.e<=sizeLine/\∀p,H1 p=u0->Q (.j p) (aE H1 p (.w xs))
def vj{x1}(h:PA X es t):PE X (.C es x1 pos) (Me t):=by intro a s U H Q I k;refine wpAny_Tuple_spliced (aN (h pos a s U H _ I k) λg c ⟨j,f,d,r,z,q⟩=>⟨by rw[←r.e];exact z,?_⟩);have i:=d.G.fresh (Aa9 _);refine⟨.j c.j.j.j,aE f c.j.j.j (.u j),d.laid (λb u e=>Ab1 _ e) (Aa9 _) ?_,rfl,q _ i⟩;exact⟨z,g,r,⟨_,Ac8 _ rfl,rfl,rfl,_,rfl⟩⟩
def CD(h:PA X es t):PE X (.List es pos) (L3 t):=by intro a s U H Q I k;refine wpAny_List_spliced (aN (h pos a s U H _ I k) λg c ⟨j,f,d,r,z,q⟩=>⟨by rw[←r.e];exact z,?_⟩);have i:=d.G.fresh (Aa9 _);refine⟨.j c.j.j.j,aE f c.j.j.j (.w j),d.laid (λb u e=>Ab1 _ e) (Aa9 _) ?_,rfl,q _ i⟩;exact⟨z,g,0,r,Ac8 _ rfl⟩
end
abbrev Sp:=List V->Hp->VK->XK->Prop
abbrev hG:=List Env->Hp->Shared->XK->Value->Shared->Prop
structure dP(P:Program)(w:World)(K:Ab)(mg:Str->Option Value)(base:Heap)(A:Around)(outer:List Env)(s:Shared)(H:Hp):Prop where
 frames:A.frames=y0 outer
 mod:Mod K mg base
 bs:∀b o,base.p b=y0 o->s.j.p b=y0 o/\H b=u0
 gT:base.j.j<=s.j.j.j
 cO:s.j.y base outer
 iw:∀b∈cj outer,H b=u0
 aO:dm P w H s.j
 bare:AllBare s.gens
def CE(a:List Env)(P:Program)(w:World)(H:Hp)(s:Shared)(Q:VK)(u:Value)(s':Shared):Prop:=
 ∃v H',s'.os=s.os/\AllBare s'.gens/\Un (cj a) [] H H' s.j s'.j/\dm P w H' s'.j/\RelV v u/\Q v H'
def CR(b:hG)(a:List Env)(P:Program)(w:World)(H:Hp)(s:Shared)(Q:VK)(E:XK)(r:Result)(s':Shared):Prop:=
 match r with
|.ok (.ret u)=>CE a P w H s Q u s'
|.ok _=>False
|.error e=>b a H s E e s'
structure bx(P:Program)(w:World)(K:Ab)(mg:Str->Option Value)(base:Heap)(CX:hG)(k:Nat)(f:Addr)(fd:FuncData)(ps:List Str)(sp:Sp):Prop where
 len:∀vs H Q E,sp vs H Q E->vs.e=ps.e
 run:∀(A:Around)(outer:List Env)(s:Shared)(H:Hp)(args:Args)(us:List Value)(vs:List V)(Q:VK)(E:XK),bc k A->dP P w K mg base A outer s H->BindsTo s fd args (ps.a0 us)->Vals vs us->sp vs H Q E→
  codeAny (model P w) A (.call (.j f) args) (CR CX outer P w H s Q E) s
def dP.make {K:Ab}(e:dP P w K mg base A outer s H)(C)(us)(kw):
 dP P w K mg base (A.under (.u "type.__call__" ⟨.j C::us,kw⟩)) outer s H:=⟨by first|exact e.frames|(simpa[pushEnvs]using e.frames),e.mod,e.bs,e.gT,e.cO,e.iw,e.aO,e.bare⟩
theorem dP.in1 {K:Ab}(e:dP P w K mg base A outer s H):
 dP P w K mg base A.j outer s H:=⟨e.frames,e.mod,e.bs,e.gT,e.cO,e.iw,e.aO,e.bare⟩
section
variable{X:Cx}{pins:List (Addr×Obj)}{U:St}{H:Hp}{s s':Shared}
def Inv.gk (I:Inv X pins U H s):dP X.p X.w X.K X.G X.u X.A X.B s H:=
 ⟨I.j.frames,I.j.mod,I.bs,Ab5 I.j.gT I.sz,I.stack,I.cX,I.G,I.K⟩
def Inv.after (I:Inv X pins U H s)(h:CE X.B X.p X.w H s Q u s'):EP X pins U Q u s':=by obtain⟨v,f,i,a,un,c,r,q⟩:=h;obtain⟨j,g,d,t,e⟩:=s';obtain rfl:e=s.os:=i;exact⟨v,f,I.call un c a (λb z=>absurd z (by simp)),r,q⟩
end
def t5(c:Sp)(a:List V)(E:XK)(t:TA):TE:=λU H Q=>t U H λb H1=>c (b++a) H1 Q E
def Oa(C:Addr)(m:Str)(e:Sp)(b:List V)(E:XK)(c:TE)(t:TA):TE:=λU H Q=>c U H λx H1=>∃a dx fs,x=.j a/\H1 a=y0 (.p C dx fs)/\fs.p m=u0∧
 t U H1 λd H2=>e (x::(d++b)) H2 Q E
def Fy(C:Addr)(c:Sp)(a:List V)(E:XK)(t:TA):TE:=λU H Q=>t U H λb H1=>∀x dx,H1 x=u0->H1 dx=u0->dx≠x→
 c (.j x::(b++a)) (aE (aE H1 dx (.j x)) x (.p C dx [])) (λv H2=>v=.aw/\Q (.j x) H2) E
def Binds(K:Ab)(b:FuncData)(ps:List Str)(ds:List Value):Prop:=
 ∀(s:Shared)(a:List Value),K.In s.j->(a++ds).e=ps.e->BindsTo s b ⟨a,[]⟩ (ps.a0 (a++ds))
def Binds.all {K:Ab}(h:∀i:List Value,i.e=ps.e->bindArgs fd ⟨i,[]⟩=pure (ps.a0 i)):Binds K fd ps []:=λs i _ a=>by rw[Ae]at a⊢;exact .of_eq (h i a)
def zF(a:hG)(X:Cx)(E:XK):Prop:=∀(pins:List (Addr×Obj))(U:St)(H:Hp)(s:Shared)(e:Value)(s':Shared),Inv X pins U H s->a X.B H s E e s'->X.y e s'
section
variable{X:Cx}{CX:hG}{k:Nat}{f C:Addr}{fd:FuncData}{ps:List Str}{sp:Sp}{dvs:List V}{ds:List Value}{E:XK}{x m:Str}{p pos apos:Pos}{e o:Expr}{es:List Expr}{ta:TE}{t:TA}
def pJ(F:bx X.p X.w X.K X.G X.u CX k f fd ps sp)(j:bc k X.A)(d:Binds X.K fd ps ds)(i:Vals dvs ds)(m:zF CX X E)
 (I:Inv X pins U H s)(r:Vals vs us)(h:sp (vs++dvs) H Q E):wpAny (model X.p X.w) X.A (call (.j f) us) (EP X pins U Q) X.y s:=by
 have b:=r.append i;have g:(us++ds).e=ps.e:=by rw[←b.e];exact F.len _ _ _ _ h
 refine wpAny_call (codeAny_mono (F.run X.A X.B s H ⟨us,[]⟩ (us++ds) (vs++dvs) Q E j I.gk (d s us I.bK g) b h) λr c a=>?_);cases r with
|error e=>exact m pins U H s e c I a
|ok l=>
  cases l with
|ret u=>exact I.after a
|next=>exact False.elim a
|brk=>exact False.elim a
|cont=>exact False.elim a
def BR(F:bx X.p X.w X.K X.G X.u CX k f fd ps sp)(o:bc k X.A)(j:Gl X x)(i:X.G x=y0 (.j f))(g:Ah5 X.K (.j f)=k9)(m:Binds X.K fd ps ds)(u:Vals dvs ds)(l:zF CX X E)
 (n:PA X (e::es) t)(b:(x==("__debug__":Str))=false:=by decide)(v:starEach (e::es) X.j=(false,eval e X.j)::starEach es X.j:=by rfl)(c:(backTo pos (starEach es X.j)).A (·.1)=false:=by rfl):
 PE X (.x (.j x p) (e::es) [] pos) (t5 sp dvs E t):=by
 intro a s U H Q I h;refine wpAny_Call_Name_kw (QB I j i ?_ b);refine Ao3 I.j.mod.kN g (aN (n pos a s U H _ I h) ?_) v c;rintro y z⟨A,w,d,r,q⟩;refine⟨d.bK,?_⟩;exact pJ F o m u l d r q
def KZ(F:bx X.p X.w X.K X.G X.u CX k f fd ps sp)(g:bc k X.A)(j:Gl X x)(i:X.G x=y0 (.j f))(e:Ah5 X.K (.j f)=k9)(c:Binds X.K fd ps ds)(d:Vals dvs ds)(l:zF CX X E)
 (a:(x==("__debug__":Str))=false:=by decide):PE X (.x (.j x p) [] [] pos) (t5 sp dvs E n7):=by
 intro b s U H Q I h;refine wpAny_Call_Name_kw (QB I j i ?_ a);exact PySem.W.callWith_K0 I.bK e (pJ F g c d l I .p h)
def HF(N:PE X o ta)(c:dG X.K C)(i:nS X.K C m f)(F:bx X.p X.w X.K X.G X.u CX k f fd ps sp)(J:bc k X.A)(B:Binds X.K fd ps ds)(L:Vals dvs ds)(A:zF CX X E)(D:PA X (e::es) t)
 (d:starEach (e::es) X.j=(y9,eval e X.j)::starEach es X.j:=by rfl)(g:(backTo pos (starEach es X.j)).A (·.1)=false:=by rfl)
 (M:eval (.x (.p o m apos) (e::es) [] pos) X.j=(do
   let j←eval o X.j
   standAt apos.atName
   let(f,first)←holding [j] (getMethod j m pl)
   callWith pos f first (backTo pos (starEach (e::es) X.j)) (backToKw pos (keywordEach [] X.j))):=by rfl):
 PE X (.x (.p o m apos) (e::es) [] pos) (Oa C m sp dvs E ta t):=by
 intro b s U H Q I h;refine PySem.W.methodCall_KW (aN (N b s U H _ I h) ?_) M;rintro u G⟨x,w,n,K,a,P,fs,ex,z,l,q⟩;subst ex;obtain rfl:u=Value.ref a:=K;refine N6 n z c i l ?_;refine Ao3 I.j.mod.kN i.kp (aN (D pos b G U w _ n q) ?_) d g;rintro O S⟨v,R,p,r,y⟩;refine⟨p.bK,?_⟩;exact pJ (vs:=.j a::v) F J B L A p (.j rfl r) y
structure Mk(K:Ab)(C f:Addr):Prop where
 makes:PySem.W.makesIn K C=k9
 init:PySem.W.findIn K (.j C) "__init__"=some (some (.j f))
 fn:PySem.W.isFn K (.j f)=k9
 kp:Ah5 K (.j C)=k9
def CK(M:Mk X.K C f)(F:bx X.p X.w X.K X.G X.u CX k f fd ps sp)(p:bc (k+1) X.A)(n:Binds X.K fd ps ds)(w:Vals dvs ds)
 (l:zF CX X E)(I:Inv X pins U H s)(r:Vals vs us)
 (h:∀x dx,H x=u0->H dx=u0->dx≠x->sp (.j x::(vs++dvs)) (aE (aE H dx (.j x)) x (.p C dx [])) (λv H2=>v=.aw/\Q (.j x) H2) E):
 wpAny (model X.p X.w) X.A (call (.j C) us) (EP X pins U Q) X.y s:=by
 have d:=h (s.j.j.j+1) s.j.j.j (I.G.fresh (Ag _)) (I.G.fresh (Aa9 _)) (Ac3 (Af9 _));have b:=Inv.made (C:=C) I;have c:Vals (V.ref (s.j.j.j+1)::(vs++dvs)) (Value.ref (s.j.j.j+1)::(us++ds)):=.j rfl (r.append w);have i:=by have e:=c.e;rw[F.len _ _ _ _ d]at e;exact e.p
 refine wpAny_call (EY I.bK M.makes M.init (beq_iff_eq.p M.fn) (codeAny_mono (F.run _ X.B _ _ ⟨Value.ref (s.j.j.j+1)::us,[]⟩ (Value.ref (s.j.j.j+1)::(us++ds)) _ _ E (p.make C us [])
  (b.gk.make C us []) (n _ (Value.ref (s.j.j.j+1)::us) b.bK i) c d) λr g a=>?_))
 cases r with
|error e=>exact l pins U _ _ e g b a
|ok j=>
  cases j with
|ret u=>obtain⟨v,m,t,rv,o,q⟩:=b.after a;subst o;exact⟨rv,⟨V.ref (s.j.j.j+1),m,t,rfl,q⟩⟩
|next=>exact False.elim a
|brk=>exact False.elim a
|cont=>exact False.elim a
def Fv(M:Mk X.K C f)(F:bx X.p X.w X.K X.G X.u CX k f fd ps sp)(n:bc (k+1) X.A)(i:Gl X x)(g:X.G x=y0 (.j C))(l:Binds X.K fd ps ds)(o:Vals dvs ds)(j:zF CX X E)
 (m:PA X (e::es) t)(b:(x==("__debug__":Str))=false:=by decide)(u:starEach (e::es) X.j=(false,eval e X.j)::starEach es X.j:=by rfl)(c:(backTo pos (starEach es X.j)).A (·.1)=false:=by rfl):
 PE X (.x (.j x p) (e::es) [] pos) (Fy C sp dvs E t):=by
 intro a s U H Q I h;refine wpAny_Call_Name_kw (QB I i g ?_ b);refine Ao3 I.j.mod.kN M.kp (aN (m pos a s U H _ I h) ?_) u c;rintro w y⟨z,v,d,r,q⟩;refine⟨d.bK,?_⟩;exact CK M F n l o j d r q
end
def PK(X:Cx)(a:List Keyword)(t:TA):Prop:=
 ∀(pos:Pos)(pins:List (Addr×Obj))(s:Shared)(U:St)(H:Hp)(Q:List V->Hp->Prop),Inv X pins U H s->t U H Q->wpAny (model X.p X.w) X.A (evalAll ((backToKw pos (keywordEach a X.j)).j (·.2))) (AP X pins U Q) X.y s
section
variable{X:Cx}{CX:hG}{k:Nat}{f C:Addr}{fd:FuncData}{ps ks:List Str}{sp:Sp}{E:XK}{x m:Str}{p pos apos kpos:Pos}{e o:Expr}{es:List Expr}{kws:List Keyword}{te ta:TE}{t tk:TA}{nm:Option Str}
def KS:PK X [] n7:=λ_ _ _ _ H Q I h=>wpAny_evalAll_nil ⟨[],H,I,.p,h⟩
def IC(f:PE X e te)(m:PK X kws t):PK X (⟨nm,e,kpos⟩::kws) (p5 te t):=by intro b a s U H Q I h;refine wpAny_evalAll_cons (wpAny_bind (aN (f a s U H _ I h) ?_));rintro u i⟨x,c,n,o,g⟩;refine wpAny_bind (wpAny_standAt (wpAny_pure ?_));exact aN (m b a i U c _ n g) (by rintro q r⟨k,l,p,j,d⟩;exact⟨x::k,l,p,.j o j,d⟩)
structure Pk(K:Ab)(fd:FuncData)(ps ks:List Str)(g:List Value->List Value->List Value)(gV:List V->List V->List V):Prop where
 to:∀(s:Shared)(us ws:List Value),K.In s.j->(g us ws).e=ps.e->BindsTo s fd ⟨us,ks.a0 ws⟩ (ps.a0 (g us ws))
 rel:∀{vs:List V}{us:List Value}{zs:List V}{ws:List Value},Vals vs us->Vals zs ws->Vals (gV vs zs) (g us ws)
variable{g:List Value->List Value->List Value}{gV:List V->List V->List V}
end
structure zB(N P:List Str)(sc:Scope):Prop where
 kind:sc.p=.j
 co:sc.isCoroutine=y9
 gen:sc.isGenerator=y9
 nd:N.C
 pre:N.B P.e=P
 par:∀x∈P,sc.j.p x=y0 .local\/sc.j.p x=y0 .p
 kf:∀y∈sc.j,y.2≠.w
theorem zZ{a:Str->Option NameKind}:∀{i}{m},(∀v,(x,v)∉i)->bindL a i m x=m x
|[],_,_=>rfl
|(n,v)::r,m,h=>by
  unfold bindL;rw[zZ λw b=>h w (Aa2 _ b)];split
  .have:x≠n:=by rintro rfl;exact h v Aa3
   simp[this]
  .rfl
theorem wW{a:Str->Option NameKind}:∀{i}{m},(∀v,(x,v)∉i)->bindC a i m x=m x
|[],_,_=>rfl
|(n,v)::r,m,h=>by
  unfold bindC;rw[wW λw b=>h w (Aa2 _ b)];split
  .rfl
  .have:x≠n:=by rintro rfl;exact h v Aa3
   simp[this]
theorem x3{a:Str->Option NameKind}:∀{P:List Str}{vs}{i:Nat}{m},P.C->P[i]?=y0 x->vs[i]?=y0 v->a x=y0 .local→
 bindL a (P.a0 vs) m x=y0 v
|[],_,_,_,_,h,_,_=>by simp at h
|_::_,[],_,_,_,_,h,_=>by simp at h
|p::P,w::vs,0,m,d,b,c,e=>by simp at b c;subst b;subst c;show bindL a ((p,w)::P.a0 vs) m p=_;unfold bindL;rw[zZ λv f=>(Ai1.p d).1 (List.of_mem_zip f).1,if_pos e];simp
|p::P,w::vs,i+1,m,d,b,c,e=>by unfold bindL;exact x3 (Ai1.p d).2 (by simpa using b) (by simpa using c) e
theorem J6{a:Str->Option NameKind}:∀{P:List Str}{vs}{i:Nat}{m},P.C->P[i]?=y0 x->vs[i]?=y0 v->a x≠y0 .local→
 bindC a (P.a0 vs) m x=y0 v
|[],_,_,_,_,h,_,_=>by simp at h
|_::_,[],_,_,_,_,h,_=>by simp at h
|p::P,w::vs,0,m,d,b,c,e=>by simp at b c;subst b;subst c;show bindC a ((p,w)::P.a0 vs) m p=_;unfold bindC;rw[wW λv f=>(Ai1.p d).1 (List.of_mem_zip f).1,if_neg e];simp
|p::P,w::vs,i+1,m,d,b,c,e=>by unfold bindC;exact J6 (Ai1.p d).2 (by simpa using b) (by simpa using c) e
noncomputable def start(N:List Str)(vs:List V):St:=vs.j y0++Aa4 (N.e-vs.e) u0
noncomputable def fH(CX:hG)(P:Program)(w:World)(K:Ab)(mg:Str->Option Value)(base:Heap)(N:List Str)(y8:Str)(scope:Scope)(f:Addr)(cd:Value)(A:Around)(outer:List Env)(s:Shared)(H:Hp)(E:XK):Cx where
 prog:=P
 w:=w
 K:=K
 mg:=mg
 base:=base
 A:=A.deeper (envOfC y8 scope s.j.j.j f cd)
 N:=N
 s₀:=s
 H₀:=H
 env:=envOfC y8 scope s.j.j.j f cd
 outer:=outer
 stack:=envOfC y8 scope s.j.j.j f cd::outer
 ex:=[]
 calm:=A.p.w
 fn:=λ_=>k9
 pn:=[]
 xe:=λe s'=>wpAny (model P w) (A.deeper (envOfC y8 scope s.j.j.j f cd)) (leaving (envOfC y8 scope s.j.j.j f cd) e) (λ_ s''=>CX outer H s E e s'') (λe' s''=>CX outer H s E e' s'') s'
def ua{sc:Scope}(h:sc.j.p x=y0 .p):∃c,(cellsFrom n sc.j []).p x=y0 c:=by have q:=An sc.j n [] (.p h);exact Ai0.p q
def Oj{K:Ab}
 (S:zB N ps scope)(e0:dP P w K mg base A outer s H)(hl:vs.e=ps.e)(r:Vals vs us)
 (x:InCallC s s.j.j.j (bindL (envOfC y8 scope s.j.j.j f cd).w (ps.a0 us) λ_=>u0) (cellsFrom (s.j.j.j+1) scope.j []) (bindC (envOfC y8 scope s.j.j.j f cd).w (ps.a0 us) λ_=>u0) s1):
 Inv (fH CX P w K mg base N y8 scope f cd A outer s H E) [] (start N vs) H s1:=by
 have hpl:ps.e<=N.e:=by have:=congrArg List.length S.pre;rw[Ae9]at this;lia
 obtain⟨h1,tk,rfl,hk⟩:=x.done;have noA:∀b:Addr,b∉(fH CX P w K mg base N y8 scope f cd A outer s H E).ex:=λb z=>absurd (show b∈[]from z) (by simp);refine⟨⟨e0.mod,S.kind,rfl,rfl,Aa9 _,λy z c h1 h2=>?_,λy hy=>?_,λy c _ h=>?_,λq=>Ah7.p q,Around.frames_deeper e0.frames,.u ⟨rfl,rfl⟩,λb z=>absurd z (noA b),e0.bs,e0.gT,λb _ _=>noA b,λb z=>absurd z (noA b),e0.cO,e0.iw⟩,
  rfl,e0.bare,Un.kept hk,⟨_,x.toInCall.ns,λi y v h1 h2 h3=>?_⟩,λy c h=>⟨_,x.cell y c h⟩,e0.aO.fresh (Aa9 _),λy c h=>?_,λp hp=>absurd (show p∈[]from hp) (by simp),e0.aO.kept hk,?_⟩
 .exact name_of_addr x.apart (PySem.mem_of_lookup h1) (PySem.mem_of_lookup h2)
 .have hy:=hy;rcases hy with hy|hy
  .exact ua hy
  .exact absurd rfl (S.kf _ (PySem.mem_of_lookup hy))
 .exact Ag0 (x.above y c (PySem.mem_of_lookup h))
 .have hi:i<vs.e:=by
   unfold start at h2;by_cases hi:i<vs.e
   .exact hi
   .rw[Ae2 (by simpa using hi)]at h2;rw[Ai5]at h2;split at h2<;>cases h2
  have ha:vs[i]?=y0 v:=by
   unfold start at h2;rw[Ad3 (by simpa using hi),Ac2]at h2;cases e:vs[i]? with
|none=>rw[e]at h2;cases h2
|some a=>rw[e]at h2;cases h2;rfl
  obtain⟨u,hu,rv⟩:=r.get ha;have hp:ps[i]?=y0 y:=by rw[←S.pre,Am9 (by lia)];exact h1
  have ndP:ps.C:=by rw[←S.pre];exact S.nd.sublist (List.take_sublist _ _)
  refine⟨u,rv,?_⟩;rcases S.par y (Ac5 hp)with k|k
  .exact .p ⟨k,x3 ndP hp hu k⟩
  .obtain⟨c,e⟩:=ua k;refine .u ⟨.p k,c,e,?_⟩;have q:=x.cell y c e;rw[J6 ndP hp hu (by show scope.j.p y≠_;rw[k];decide)]at q;exact q
 .exact e0.aO.fresh (Ag0 (x.above y c (PySem.mem_of_lookup h)))
 .unfold start;show _=N.e;rw[Aa5,Aa,Ae3];lia
def Mh{K:Ab}{dV kV doc pm cdv ct oc:Value}
 (lk:K.p f=y0 ⟨oc,od,.func (PySem.W.fnOf name y8 params body scope dV kV doc pm an cdv ct),osl⟩)(hcd:PySem.W.codeIn K cdv y8=k9)(S:zB N ps scope)
 (len:∀vs H Q E,sp vs H Q E->vs.e=ps.e)
 (hbody:∀A outer s H vs Q E,bc k (A.deeper (envOfC y8 scope s.j.j.j f cdv))->sp vs H Q E→
   ∃t,dt (fH CX P w K mg base N y8 scope f cdv A outer s H E) body t/\t {nx:=λ_ H'=>Q .aw H',rt:=Q} (start N vs) H):
 bx P w K mg base CX (k+1) f (PySem.W.fnOf name y8 params body scope dV kV doc pm an cdv ct) ps sp:=by
 refine⟨len,λA outer s H args us vs Q E hr e0 hb r hsp=>?_⟩;have hl:=len _ _ _ _ hsp;have KX:=e0.mod.kN.keeps λb o e=>(e0.bs b o e).1;have lim:=e0.mod.nolimit.keeps λb o e=>(e0.bs b o e).1;have hkind:∀y∈ps.a0 us,scope.j.p y.1=y0 .local\/(scope.j.p y.1=y0 .p/\((cellsFrom (s.j.j.j+1) scope.j []).p y.1).u=k9):=by
  rintro⟨n,v⟩ hy;rcases S.par n (List.of_mem_zip hy).1 with q|q
  .exact .p q
  .exact .u ⟨q,An _ _ _ (.p q)⟩
 refine codeAny_call_function hr.depth (KX _ _ lk) rfl S.co S.gen rfl (PySem.W.codeRec_of KX hcd) (hb _ _ _ _ ?_);refine wpAny_newFunctionEnv_cells S.kind hkind λenv he s1 x=>?_;subst he;refine⟨lim.keeps x.toInCall.keep,codeAny_func ?_⟩;obtain⟨t,ht,hq⟩:=hbody A outer s H vs Q E (hr.deeper _) hsp;have I:Inv (fH CX P w K mg base N y8 scope f cdv A outer s H E) [] (start N vs) H s1:=Oj S e0 hl r x;refine wpAny_mono (ht [] s1 (start N vs) H _ I hq) (λfl s' hs=>?_) λe s' hs=>hs;have fin:∀{U'}{H'}{v}{u},Inv (fH CX P w K mg base N y8 scope f cdv A outer s H E) [] U' H' s'->RelV v u->Q v H'->CE outer P w H s Q u s':=
  λ{U' H' v u} J rv q=>⟨v,H',J.os,J.K,J.u,J.G,rv,q⟩
 cases fl with
|ret u=>obtain⟨v,U',H',J,rv,q⟩:=hs;exact fin J rv q
|next=>obtain⟨U',H',J,q⟩:=hs;exact fin (v:=V.aw) J rfl q
|brk=>obtain⟨_,_,_,q⟩:=hs;exact False.elim q
|cont=>obtain⟨_,_,_,q⟩:=hs;exact False.elim q
section
variable{X:Cx}{x:Str}{p pos:Pos}{e:Expr}{es:List Expr}{t:TA}{id T:String}{r:List V->Hp->VK->Prop}
def pI(r:List V->Hp->VK->Prop)(t:TA):TE:=λU H Q=>t U H λa H1=>r a H1 Q
def Zk(o:Zs X (.u id) r)(j:Gl X x)(i:X.G x=none)(v:bootBuiltins x=some (.u id))(k:PA X (e::es) t)(m:x≠"__name__":=by decide)(b:(x==("__debug__":Str))=false:=by decide)
 (g:starEach (e::es) X.j=(y9,eval e X.j)::starEach es X.j:=by rfl)(c:(backTo pos (starEach es X.j)).A (·.1)=false:=by rfl):PE X (.x (.j x p) (e::es) [] pos) (pI r t):=by
 intro a s U H Q I h;refine wpAny_Call_Name_kw (WF I j i v ?_ m b);exact PyProof.Rows.callWith_builtin1 (aN (k pos a s U H _ I h) (by rintro f n⟨w,d,q,u,l⟩;exact o a n U d w f Q q u l)) g c
def wz(o:Zs X (.p T) r)(j:Gl X x)(i:X.G x=none)(v:bootBuiltins x=some (.p T))(k:PA X (e::es) t)(m:x≠"__name__":=by decide)(b:(x==("__debug__":Str))=false:=by decide)
 (g:starEach (e::es) X.j=(y9,eval e X.j)::starEach es X.j:=by rfl)(c:(backTo pos (starEach es X.j)).A (·.1)=false:=by rfl):PE X (.x (.j x p) (e::es) [] pos) (pI r t):=by
 intro a s U H Q I h;refine wpAny_Call_Name_kw (WF I j i v ?_ m b);exact PyProof.Rows.callWith_type1 (aN (k pos a s U H _ I h) (by rintro f n⟨w,d,q,u,l⟩;exact o a n U d w f Q q u l)) g c
end
end Lake
namespace HT
open PySem PyProof.Rows
section
variable{prog:Program}{w:World}{A:Around}{E:Value->Shared->Prop}{s:Shared}
def iI(x:IsTup s.j t vs.u)(q:IsTup s.j b ws.u)(p:vs≠[])
 (h1:ws=[]->Q (.j t) s)(r:ws≠[]->Q (.j s.j.j.j) {s with heap:=s.j.u {cls:=.p "tuple",data:=.j (vs++ws).u}})
 (j:vs.e+ws.e<=sizeLine):wpAny (model prog w) A (binaryOp .Add (.j t) (.j b)) Q E s:=by
 obtain⟨⟨L,dd,i,sl⟩,f,u,n,v⟩:=id x;obtain⟨⟨o,c,h,d⟩,a,k,m,l⟩:=id q;subst u v k l;have e:vs.u++ws.u=(vs++ws).u:=by simp
 by_cases g:ws=[]
 .exact concat_meets ⟨_,f,rfl⟩ ⟨_,a,rfl⟩ noFill_tuple_add seq_tuple_add PySem.F.slot_tuple_add PySem.F.entry_tuple_add (PySem.F.args_tuple_add_2 _ _)
   (tuple_addW1 t b vs.u ws.u n m dd c sl d (by simpa using p) (by simp[g])) ⟨f,a,h1 g⟩
 .refine concat_meets ⟨_,f,rfl⟩ ⟨_,a,rfl⟩ noFill_tuple_add seq_tuple_add PySem.F.slot_tuple_add PySem.F.entry_tuple_add (PySem.F.args_tuple_add_2 _ _)
   (tuple_addW2 t b vs.u ws.u n m dd c sl d (by simpa using p) (by simpa using g) (by rw[Ab3,Ab3];exact j)) ⟨f,a,?_⟩
  rw[e];exact r g
def aS(n d:Nat):Option Int->Nat
|none=>d
|some v=>if v<0 then(v+(n:Int)).j else min v.j n
def M6(n d)(b:d<=n)(o):aS n d o<=n:=by
 cases o with
|none=>exact b
|some v=>
  show(if v<0 then(v+n).j else min v.j n)<=n;by_cases a:v<0
  .rw[if_pos a];lia
  .rw[if_neg a];exact Nat.min_le_right _ _
def vg(v)(n d:Nat):(if v<0 then max (v+(n:Int)) 0 else min v (n:Int))=((aS n d (y0 v):Nat):Int):=by
 show(if v<0 then max (v+n) 0 else min v n)=(((if v<0 then(v+(n:Int)).j else min v.j n):Nat));by_cases a:v<0
 .simp only[if_pos a];lia
 .simp only[if_neg a];lia
def Lf(b a)(n:Nat):Builtin.Slice.sliceAdjust b a 1 (n:Int)=(((aS n 0 b:Nat):Int),((aS n n a:Nat):Int)):=by
 have c:¬(1<0):=by decide
 refine Prod.ext ?_ ?_
 .cases b with
|none=>rfl
|some v=>exact vg v n 0
 .cases a with
|none=>rfl
|some v=>exact vg v n n
def CV(i j:Nat):Builtin.Slice.slicePlaces (i:Int) (j:Int) 1=j-i:=by
 unfold Builtin.Slice.slicePlaces;have a:(1:Int)>0:=by decide
 simp only[Int.ediv_one];split<;>lia
def qQ(p:IsPart v o)(h:Q o s):wpAny (model prog w) A (Builtin.Slice.slicePartIndex v) Q E s:=by
 cases p with
|none=>exact slicePart_none h
|int i t=>exact slicePart_int h
def bP{a b:Option Int}{Q:Int×Int×Nat->Shared->Prop}(g:s.j.IsSliceOf sl vl vu .w)(pl:IsPart vl a)(f:IsPart vu b)
 (h:Q (((aS n 0 a:Nat):Int),1,aS n n b-aS n 0 a) s):wpAny (model prog w) A (Builtin.Slice.sliceApplied (.j sl) (pure (n:Int))) Q E s:=by
 obtain⟨i,d,e,c⟩:=id g;refine wpAny_bind (wpAny_bind (wpAny_field d c (x:=vl) rfl (wpAny_bind (wpAny_field d c (x:=vu) rfl (wpAny_bind (wpAny_field d c rfl (wpAny_pure ?_)))))));refine wpAny_bind (slicePart_none ?_);refine wpAny_bind (qQ pl (wpAny_bind (qQ f (wpAny_bind (wpAny_pure ?_)))));show wpAny _ _ (match Builtin.Slice.sliceAdjust a b 1 (n:Int)with|(a,b)=>pure (a,(1:Int),Builtin.Slice.slicePlaces a b 1)) _ _ s;rw[Lf a b n];show wpAny _ _ (pure (((aS n 0 a:Nat):Int),1,Builtin.Slice.slicePlaces ((aS n 0 a:Nat)) ((aS n n b:Nat)) 1)) _ _ s;rw[CV];exact wpAny_pure h
def CG(xs:Array Value)(i k:Nat):((Aa7 k).U λ(m:Nat)=>xs[((i:Int)+(m:Int)*1).j]?).u=((xs.p.K i).B k).u:=by
 have e:(λ(m:Nat)=>xs[(i+(m:Int)*1).j]?)=λm=>xs[i+m]?:=by
  funext m;have:(i+(m:Int)*1).j=i+m:=by lia
  rw[this]
 rw[e];have:=pick_run xs i k;rw[List.filterMap_map]at this;have e2:((λx=>xs[x]?)∘λx=>i+x)=λm=>xs[i+m]?:=rfl;rw[e2]at this;rw[this]
def cZ{b c:Option Int}(d:IsTup s.j t items)(j:s.j.IsSliceOf sl vl vu .w)(pl:IsPart vl b)(m:IsPart vu c)
 (l:¬(aS items.j 0 b=0/\aS items.j items.j c=items.j))
 (h:Q (.j s.j.j.j) {s with heap:=s.j.u {cls:=.p "tuple",data:=.j ((items.p.K (aS items.j 0 b)).B (aS items.j items.j c-aS items.j 0 b)).u}})
 (k:items.j<=sizeLine):wpAny (model prog w) A (getItem (.j t) (.j sl)) Q E s:=by
 have a:=by show((items.p.K (aS items.j 0 b)).B (aS items.j items.j c-aS items.j 0 b)).u.j<=sizeLine;rw[Ab3,Ae9,Af,Ai3];lia
 have u:aS items.j items.j c<=items.j:=M6 _ _ (Aa9 _) c;obtain⟨o,i,f,n⟩:=id j;have e:s.TypeIs (.j sl) "slice":=⟨o,i,f⟩;unfold getItem
 try with_reducible refine wpAny_holding ?_
 first|refine wpAny_bind (wpAny_pure ?_)|skip
 refine wpAny_bind (wpAny_sequenceKey d.Z (by decide) ?_);refine wpAny_bind (wpAny_callSpecial?_slot d.Z PyProof.Rows.slot_tuple_getitem
  (wpAny_call_entry PyProof.Rows.slot_tuple_getitem d.Z entry_tuple_getitem ?_ (args_tuple_getitem _ _)))
 show wpAny _ _ (Builtin.Tuple.tupleItemsOf (.j t)>>=_) _ _ s;refine wpAny_bind (tupleItemsOf_ d ?_);refine wpAny_bind (wpAny_typeOf e ?_);rw[if_pos (by decide)];refine wpAny_bind (bP j pl m ?_);have g:¬((((aS items.j 0 b:Nat):Int)==0&&(1:Int)==1&&(aS items.j items.j c-aS items.j 0 b)==items.j)=k9):=by intro q;rw[Aa0,Aa0]at q;have r:=eq_of_beq q.1.1;have p:=eq_of_beq q.2;exact l ⟨by lia,by lia⟩
 show wpAny _ _ (if(((aS items.j 0 b:Nat):Int)==0&&1==1&&(aS items.j items.j c-aS items.j 0 b)==items.j)=k9 then _ else _) _ _ s;rw[if_neg g,CG]
 first
|exact wpAny_bind (wpAny_newObj_type (wpAny_pure ⟨_,rfl,wpAny_pure h⟩) a)
|exact wpAny_bind (wpAny_newObj_type (wpAny_bind (wpAny_pure (wpAny_pure ⟨_,rfl,wpAny_pure h⟩))) a)
|exact wpAny_bind (wpAny_bind (wpAny_newObj_type (wpAny_pure (wpAny_pure ⟨_,rfl,wpAny_pure h⟩)) a))
|exact wpAny_bind (wpAny_bind (wpAny_newObj_type (wpAny_pure ⟨_,rfl,wpAny_pure h⟩) a))
end
end HT
namespace Lake
open Lake renaming Vals.length→Lake.Vals.e,V.int→Lake.V.o,V.ref→Lake.V.j,V.str→Lake.V.p,Cx.env→Lake.Cx.j,Cx.prog→Lake.Cx.p,HO.lst→Lake.HO.w,Inv.tuple→Lake.Inv.x,Inv.list→Lake.Inv.C,Inv.laid→Lake.Inv.L,dm.fresh→Lake.dm.M
open PySem PySem.Spec PyProof.Rows
abbrev TO:=St->Hp->(Option Int->Hp->Prop)->Prop
def PO(X:Cx)(e:Option Expr)(t:TO):Prop:=
 ∀(pins:List (Addr×Obj))(s:Shared)(U:St)(H:Hp)(Q:Option Int->Hp->Prop),Inv X pins U H s->t U H Q→
  wpAny (model X.p X.w) X.A (evalPart e X.j) (λu s'=>∃o H',Inv X pins U H' s'/\IsPart u o/\Q o H') X.xe s
def Og:TO:=λ_ H Q=>Q u0 H
def Hb(t:TE):TO:=λU H Q=>t U H λx H1=>∃i,x=.o i/\Q (y0 i) H1
section
variable{X:Cx}{e:Expr}{te:TE}{lo hi:Option Expr}{tl th:TO}{pos p2:Pos}
def uR:PO X u0 Og:=by intro a s U H Q I h;exact wpAny_pure ⟨u0,H,I,.none,h⟩
def QR(h:PE X e te):PO X (y0 e) (Hb te):=by intro a s U H Q I d;refine aN (h a s U H _ I d) ?_;rintro u j ⟨x,b,f,g,c⟩;obtain⟨i,rfl,q⟩:=c;obtain⟨t,rfl⟩:=g;exact⟨y0 i,b,f,.int i t,q⟩
def hI(X:Cx)(r:V->Option Int->Option Int->Hp->VK->Prop):Prop:=
 ∀(pins:List (Addr×Obj))(s:Shared)(U:St)(H:Hp)(x:V)(v a b:Value)(lo hi:Option Int)(sl:Addr)(Q:VK),Inv X pins U H s->RelV x v->s.j.IsSliceOf sl a b .w->IsPart a lo->IsPart b hi->r x lo hi H Q→
  ∃T id,typeLookup (.p T) "__getitem__"=pure (some (.u id))/\s.TypeIs v T/\wpAny (model X.p X.w) X.A (getItem v (.j sl)) (EP X pins U Q) X.xe s
def hI.or (h:hI X r)(h':hI X r'):hI X (λx lo hi H Q=>r x lo hi H Q\/r' x lo hi H Q):=by
 intro a s U H x v e b lo hi sl Q I d f pl c q;rcases q with q|q
 .exact h a s U H x v e b lo hi sl Q I d f pl c q
 .exact h' a s U H x v e b lo hi sl Q I d f pl c q
def Hv(r:V->Option Int->Option Int->Hp->VK->Prop)(c:TE)(a b:TO):TE:=λU H Q=>c U H λx H1=>a U H1 λl H2=>b U H2 λu d=>r x l u d Q
def JS(w:hI X r)(K:PE X e te)(j:PO X lo tl)(z:PO X hi th):PE X (.u e (.Slice lo hi u0 p2) pos) (Hv r te tl th):=by intro a s U H Q I h;refine Subscript_ (aN (K a s U H _ I h) ?_);rintro v p ⟨x,i,D,E,o⟩;refine wpAny_Slice (aN (j a p U i _ D o) ?_);rintro d A⟨l,t,J,pl,k⟩;refine aN (z a A U t _ J k) ?_;rintro f c ⟨u,g,F,y,C⟩;refine wpAny_pure ?_;have B:Inv X a U g {c with heap:=c.j.u {cls:=.p "slice",data:=.u #[d,f,.w]}}:=F.kept fun b L q=>Heap.get?_push_of_some _ q;obtain⟨T,id,m,G,n⟩:=w a {c with heap:=c.j.u {cls:=.p "slice",data:=.u #[d,f,.w]}} U g x v d f l u c.j.j.j Q B E (Heap.IsSliceOf.new ..) pl y C;exact tail_any G m n (by with_unfolding_all rfl)
noncomputable def mL(xs:List V)(a b:Option Int):List V:=(xs.K (HT.aS xs.e 0 a)).B (HT.aS xs.e xs.e b-HT.aS xs.e 0 a)
def jJ(xs)(lo hi):(mL xs lo hi).e<=xs.e:=by unfold mL;rw[Ae9,Af];lia
def sd(K:Ab):V->Option Int->Option Int->Hp->VK->Prop:=λx lo hi H Q=>∃a xs,x=.j a/\cY K H a xs∧
 ¬(HT.aS xs.e 0 lo=0/\HT.aS xs.e xs.e hi=xs.e)/\∀p,H p=u0->Q (.j p) (aE H p (.tup (mL xs lo hi)))
def Ly:hI X (sd X.K):=by
 intro j s U H x v u t f i sl Q I o p pl n h;obtain⟨a,d,rfl,l,m,q⟩:=h;cases o;obtain⟨e,r,k,g⟩:=I.x l;have c:e.u.j=d.e:=by rw[Ab3];exact r.e.p
 refine⟨"tuple",_,PyProof.Rows.slot_tuple_getitem.p,k.Z,?_⟩;refine HT.cZ k p pl n (by rw[c];exact m) ?_ (by rw[c];exact g);rw[c];refine⟨.j s.j.j.j,_,I.L (λb w q=>Ab1 _ q) (Aa9 _) ?_,rfl,q _ (I.aO.M (Aa9 _))⟩;exact⟨Ab5 (jJ d f i) g,_,(r.drop (HT.aS d.e 0 f)).take (HT.aS d.e d.e i-HT.aS d.e 0 f),dB.new _ _⟩
def Cj(K:Ab):R2:=λx y H Q=>∃a b xs ys,x=.j a/\y=.j b/\cY K H a xs/\cY K H b ys/\xs≠[]/\xs.e+ys.e<=sizeLine∧
 (ys=[]->Q (.j a) H)/\(ys≠[]->∀p,H p=u0->Q (.j p) (aE H p (.tup (xs++ys))))
def Vals.dy (r:Vals xs us):us=[]↔xs=[]:=by
 cases r with
|nil=>simp
|cons _ _=>simp
def Ie:b9 X (binaryOp .Add) (Cj X.K):=by intro g s U H x y v u Q I t j h;obtain⟨a,b,B,A,rfl,rfl,n,m,l,f,o,i⟩:=h;cases t;cases j;obtain⟨r,d,p,_⟩:=I.x n;obtain⟨e,c,k,_⟩:=I.x m;refine HT.iI p k (λz=>l (d.dy.p z)) (λz=>⟨.j a,H,I,rfl,o (c.dy.p z)⟩) (λz=>?_) (by rw[←d.e,←c.e];exact f);refine⟨.j s.j.j.j,_,I.L (λb C q=>Ab1 _ q) (Aa9 _) ?_,rfl,i (λw=>z (c.dy.u w)) _ (I.aO.M (Aa9 _))⟩;exact⟨by rw[Aa5];exact f,_,d.append c,dB.new _ _⟩
end
noncomputable def ea(n:Nat)(i:Int):Option Nat:=if 0<=i then(if i<n then y0 i.j else u0)else if-(n:Int)<=i then y0 (i+n).j else u0
def aW{a:Type}(xs:List a)(i:Int):Option a:=(ea xs.e i).p λj=>xs[j]?
def vA(h:ea n i=y0 j):seqIndex? i n=y0 j/\j<n/\-(n:Int)<=i/\i<n:=by
 unfold ea at h;by_cases b:0<=i
 .rw[if_pos b]at h;by_cases a:i<n
  .rw[if_pos a]at h;have e:=Ad6.inj h;exact⟨by rw[seqIndex_of b a,e],by lia,by lia,a⟩
  .rw[if_neg a]at h;cases h
 .rw[if_neg b]at h;by_cases a:-n<=i
  .rw[if_pos a]at h;have e:=Ad6.inj h;exact⟨by rw[seqIndex_neg (by lia) a,e],by lia,a,by lia⟩
  .rw[if_neg a]at h;cases h
def pP(h:aW xs i=y0 v):∃j,seqIndex? i xs.e=y0 j/\xs[j]?=y0 v/\j<xs.e/\-(xs.e:Int)<=i/\i<xs.e:=by
 unfold aW at h;cases e:ea xs.e i with
|none=>rw[e]at h;cases h
|some j=>rw[e]at h;obtain⟨b,d,a,c⟩:=vA e;exact⟨j,b,h,d,a,c⟩
def Xf{j:Nat}(h:xs[j]?=y0 v):aW xs (j:Int)=y0 v:=by
 have a:=(Aa1.p h).1;have e:ea xs.e j=y0 j:=by unfold ea;rw[if_pos (Int.natCast_nonneg _),if_pos (by lia)];simp
 unfold aW;rw[e];exact h
def Az(b:Expr):Prop:=∀o i,subscripted b y9 o i=operate [o,i] (getItem o i)
def hB(X:Cx)(r:R2):Prop:=
 ∀(value a:Expr)(pins:List (Addr×Obj))(s:Shared)(U:St)(H:Hp)(x y:V)(v u:Value)(Q:VK),Inv X pins U H s->RelV x v->RelV y u->r x y H Q→
  subscripted a y9 v u=operate [v,u] (getItem v u)->wpAny (model X.p X.w) X.A (subscriptTail value a v u) (EP X pins U Q) X.xe s
def pA(X:Cx)(id:String)(r:V->List V->Hp->VK->Prop):Prop:=
 ∀(pins:List (Addr×Obj))(s:Shared)(U:St)(H:Hp)(x:V)(xs:List V)(v:Value)(a:List Value)(Q:VK),Inv X pins U H s->RelV x v->Vals xs a->r x xs H Q→
  wpAny (model X.p X.w) X.A (call (.u id) (v::a)) (EP X pins U Q) X.xe s
section
variable{X:Cx}{a b:Expr}{ta tb:TE}{pos:Pos}
def hB.or (h:hB X r)(h':hB X r'):hB X (λx y H Q=>r x y H Q\/r' x y H Q):=by
 intro b a c s U H x y v u Q I e d q f;rcases q with q|q
 .exact h b a c s U H x y v u Q I e d q f
 .exact h' b a c s U H x y v u Q I e d q f
def rl(i:hB X r)(f:PE X a ta)(e:PE X b tb)(m:Az b):PE X (.u a b pos) (ml r ta tb):=by intro c s U H Q I h;exact Subscript_ (o8 f e I h λv u k x y g l j d q=>i a b c k U g x y v u Q l j d q (m _ _))
def sQ(K:Ab):R2:=λx y H Q=>∃p xs i v,x=.j p/\y=.o i/\bA K H p xs/\aW xs i=y0 v/\Q v H
def Bp(K:Ab):R2:=λx y H Q=>∃p xs i v,x=.j p/\y=.o i/\cY K H p xs/\aW xs i=y0 v/\Q v H
def sY:R2:=λx y H Q=>∃z i c,x=.p z/\y=.o i/\z.e<=sizeLine/\aW z.j.p i=y0 c/\Q (.p ⟨#[c]⟩) H
def ik:hB X (sQ X.K):=by
 intro d f a s U H x y v u Q I A n h l;obtain⟨p,K,i,z,rfl,rfl,D,E,q⟩:=h;cases A;obtain⟨t,rfl⟩:=n;obtain⟨c,r,pl,J⟩:=I.C D;obtain⟨j,b,o,F,B,C⟩:=pP E;obtain⟨w,ew,e⟩:=r.get o;have m:=r.e;have G:=zK;have fin:EP X a U Q w s:=⟨z,H,I,e,q⟩;by_cases k:0<=i
 .have g:=by rw[seqIndex_of k C]at b;exact Ad6.inj b
  exact item_listR pl.J k (by lia) (by rw[g];simpa using ew) fin l
 .have g:(i+c.u.j).j=j:=by rw[seqIndex_neg (by lia) B]at b;rw[Ab3,←m];exact Ad6.inj b
  exact subscriptTail_builtinR pl.J.typeIs slot_list_getitem.p
   (wpAny_getItem_list_neg pl.J (by lia) (by rw[Ab3]<;>lia) (by lia) (by rw[g];simpa using ew) ⟨rfl,fin⟩) l
def ab:hB X (Bp X.K):=by
 intro b d a s U H x y v u Q I m f h o;obtain⟨p,E,i,z,rfl,rfl,n,A,q⟩:=h;cases m;obtain⟨t,rfl⟩:=f;obtain⟨l,r,pl,D⟩:=I.x n;obtain⟨j,g,k,B,F,G⟩:=pP A;obtain⟨w,ew,c⟩:=r.get k;have e:=r.e;have C:=zK;have fin:EP X a U Q w s:=⟨z,H,I,c,q⟩;exact subscriptTail_builtinR pl.Z slot_tuple_getitem.p
  (getItem_tuple pl (by lia) (by lia) (by rw[Ab3,←e];exact g) (by simpa using ew) ⟨rfl,fin⟩) o
def oU:hB X sY:=by
 intro a b e s U H x y v u Q I l g h o;obtain⟨z,i,c,rfl,rfl,B,p,q⟩:=h;obtain⟨t,rfl⟩:=l;obtain⟨r,rfl⟩:=g;obtain⟨j,d,k,w,m,n⟩:=pP p;have f:z.j.p.e=z.e:=by simp[Str.length]
 rw[f]at d m n;have A:=zK;exact tail_any (typeIs_str s z t) slot_str_getitem.p (getItem_str (by have e1:u9 (i< -(2^63:Int))=false:=decide_eq_false (by lia);have e2:u9 (i>=2^63)=false:=decide_eq_false (by lia);rw[e1,e2,Ap3]) (by rw[d];simpa using k) ⟨.p ⟨#[c]⟩,H,I.tok _,⟨_,rfl⟩,q⟩) o
def Ig(K:Ab):R2:=λx y H Q=>sQ K x y H Q\/Bp K x y H Q\/sY x y H Q
def Ci:hB X (Ig X.K):=ik.or (ab.or oU)
def Mm(a:List Value)(n j)(u):Obj.mapSeq (·.setIfInBounds j u) {cls:=.p "list",data:=.j a.u n}={cls:=.p "list",data:=.j (a.x j u).u n}:=by simp[Obj.mapSeq]
theorem Inv.lst (I:Inv X pins U H s)(h:H p=y0 (.w xs)):
 ∃i n,Vals xs i/\s.j.p p=y0 {cls:=.p "list",data:=.j i.u n}/\xs.e<=sizeLine:=by
 obtain⟨z,i,n,r,e⟩:=I.aO p _ h;exact⟨i,n,r,e,z⟩
def Inv.lg {c a:List Value}(I:Inv X pins U H s)(h:H p=y0 (.w xs))
 (i:s.j.p p=y0 {cls:=.p "list",data:=.j c.u n})(d:f {cls:=.p "list",data:=.j c.u n}={cls:=.p "list",data:=.j a.u n'})(r:Vals ys a)(j:ys.e<=sizeLine)(t):
 Inv X pins U (aE H p (.w ys)) {s with heap:=s.j.w p f,toks:=t}:=by
 have e:(s.j.w p f).p p=y0 {cls:=.p "list",data:=.j a.u n'}:=by rw[Al2 f i (by rw[d]<;>rfl),d]
 refine I.write (by rw[h];trivial) (.p rfl) (λb u g q=>(Ak7 _ _ (Ne.symm g)).j q) ⟨_,e⟩ ?_;exact⟨j,a,n',r,e⟩
def Oi:V->V->V->Hp->(Hp->Prop)->Prop:=λo i v H Q=>∃p xs k j,o=.j p/\i=.o k/\H p=y0 (.w xs)/\ea xs.e k=y0 j/\Q (aE H p (.w (xs.x j v)))
def WT:rf X Oi:=by
 intro x s U H o i v D C u Q I y A rv h;obtain⟨p,G,k,j,rfl,rfl,w,B,q⟩:=h;cases y;obtain⟨t,rfl⟩:=A;obtain⟨a,n,r,e,z⟩:=I.lst w;obtain⟨b,F,g,m⟩:=vA B;have c:=r.e;have E:=zK;have f:=
  I.lg w e (Mm a n j u) (r.set rv j) (by rw[Ad4];exact z) s.p
 by_cases l:0<=k
 .have d:=by rw[seqIndex_of l m]at b;exact Ad6.inj b
  exact PySem.W.ki_setAt e l (by lia) (by rw[Ab3,←c];exact m) (by rw[d];exact⟨_,f,q⟩)
 .have d:(k+a.u.j).j=j:=by rw[seqIndex_neg (by lia) g]at b;rw[Ab3,←c];exact Ad6.inj b
  exact PySem.W.ki_setBack e (by lia) (by rw[Ab3,←c];exact g) (by lia) (by rw[d];exact⟨_,f,q⟩)
def J4(lo hi)(n):(sliceBounds lo hi u0 n).1=((HT.aS n 0 lo:Nat):Int)/\(sliceBounds lo hi u0 n).2.1=((HT.aS n n hi:Nat):Int)/\(sliceBounds lo hi u0 n).2.2=1:=by
 refine⟨?_,?_,rfl⟩
 .cases lo with
|none=>simp[sliceBounds,HT.aS]
|some i=>
   simp only[sliceBounds,HT.aS,An0,show(1:Int)>0 by decide,if_true];by_cases h:i<0
   .simp only[h,if_true]<;>lia
   .simp only[h,if_false]<;>lia
 .cases hi with
|none=>simp[sliceBounds,HT.aS]
|some i=>
   simp only[sliceBounds,HT.aS,An0,show(1:Int)>0 by decide,if_true];by_cases h:i<0
   .simp only[h,if_true]<;>lia
   .simp only[h,if_false]<;>lia
def WU(a:List Value)(lo hi):slicePick a.u lo hi u0=((a.K (HT.aS a.e 0 lo)).B (HT.aS a.e a.e hi-HT.aS a.e 0 lo)).u:=by obtain⟨d,c,b⟩:=J4 lo hi a.u.j;unfold slicePick;rw[d,c,b];simp only[sliceRange_one,pick_run,Ab3]<;>rfl
def pf(K:Ab):V->Option Int->Option Int->Hp->VK->Prop:=λx lo hi H Q=>∃a xs,x=.j a/\bA K H a xs/\∀p,H p=u0->Q (.j p) (aE H p (.w (mL xs lo hi)))
def hV:hI X (pf X.K):=by intro g s U H x v t p e f sl Q I n o pl m h;obtain⟨a,d,rfl,j,q⟩:=h;cases n;obtain⟨l,r,i,k⟩:=I.C j;have c:=r.e;refine⟨"list",_,slot_list_getitem.p,i.J.typeIs,?_⟩;refine wpAny_getItem_list_slice i.J o pl m .none (by simp) ?_ (by rw[Ab3]<;>lia);rw[WU,←c];refine⟨.j s.j.j.j,_,I.L (λb u q=>Ab1 _ q) (Aa9 _) ?_,rfl,q _ (I.aO.M (Aa9 _))⟩;exact⟨Ab5 (jJ d e f) k,_,0,(r.drop (HT.aS d.e 0 e)).take (HT.aS d.e d.e f-HT.aS d.e 0 e),Ac8 _ rfl⟩
noncomputable def Nj:V->V->Bool
|.aw,.aw=>k9
|.bl a,.bl b=>a==b
|.bl a,.o b=>(if a then 1 else 0)==b
|.o a,.bl b=>a==(if b then 1 else 0)
|.o a,.o b=>a==b
|.p a,.p b=>a==b
|_,_=>y9
def rJ(x:V)(xs:List V):Bool:=xs.A λy=>Nj y x
def j5:Zs X (.u "len") (fun xs H Q=>∃p ys,xs=[.j p]/\(bA X.K H p ys\/cY X.K H p ys)/\Q (.o ys.e) H):=by
 intro e s U H xs i Q I r h;obtain⟨p,ys,rfl,b,q⟩:=h;obtain⟨u,rfl,g⟩:=wM r;cases g;have j:=zK;rcases b with b|b
 .obtain⟨d,c,pl,f⟩:=I.C b;have a:=c.e;exact Calls.call_len_list pl.J (by simp only[Ab3]<;>lia) ⟨.o ys.e,H,I.tok _,⟨s.p+1,by rw[Ab3,a]⟩,q⟩
 .obtain⟨d,c,pl,f⟩:=I.x b;have a:=c.e;exact len_tuple pl (by simp only[Ab3]<;>lia) ⟨.o ys.e,H,I.tok _,⟨s.p+1,by rw[Ab3,a]⟩,q⟩
def wX:Zs X (.u "len") (fun xs H Q=>∃z,xs=[.p z]/\z.e<=sizeLine/\Q (.o z.e) H):=by intro a s U H xs b Q I r h;obtain⟨z,rfl,d,q⟩:=h;obtain⟨u,rfl,t,rfl⟩:=wM r;have c:=zK;exact len_str (by lia) ⟨.o z.e,H,I.tok _,⟨_,rfl⟩,q⟩
def J0:Zs X (.p "list") (fun xs H Q=>∃p ys,xs=[.j p]/\(bA X.K H p ys\/cY X.K H p ys)/\∀l,H l=none->Q (.j l) (aE H l (.w ys))):=by
 intro k s U H xs z Q I r h;obtain⟨p,ys,rfl,j,q⟩:=h;obtain⟨u,rfl,y⟩:=wM r;cases y;have fin:∀a,Vals ys a->ys.e<=sizeLine->∀c f,(∀b x,s.j.p b=y0 x->c.p b=y0 x)→
  c.p s.j.j.j=some {cls:=.p "list",dict:=none,data:=.j a.u f,slots:=#[]}->EP X k U Q (.j s.j.j.j) {s with heap:=c}:=fun a d i c f m e=>
  ⟨.j s.j.j.j,_,I.L m (Aa9 _) (show aT X.p X.w _ c _ (.w ys)from⟨i,a,f,d,e⟩),rfl,q _ (I.aO.M (Aa9 _))⟩
 rcases j with j|j
 .obtain⟨a,d,pl,i⟩:=I.C j;have g:=d.e;obtain⟨o,t,v,n,w⟩:=pl.J;exact call_list_seq p (.p rfl) t v w (λc f m e=>fin a d i c f m e) (by simp only[Ab3]<;>lia)
 .obtain⟨a,d,pl,i⟩:=I.x j;have g:=d.e;obtain⟨o,t,v,n,w⟩:=pl;exact call_list_seq p (.u rfl) t v w (λc f m e=>fin a d i c f m e) (by simp only[Ab3]<;>lia)
def Wg:Zs X (.p "tuple") (fun xs H Q=>∃p ys,xs=[.j p]/\((bA X.K H p ys/\∀l,H l=none->Q (.j l) (aE H l (.tup ys)))\/(cY X.K H p ys/\Q (.j p) H))):=by
 intro a s U H xs v Q I r h;obtain⟨p,ys,rfl,h⟩:=h;obtain⟨u,rfl,m⟩:=wM r;cases m;rcases h with⟨g,q⟩|⟨g,q⟩
 .obtain⟨c,f,pl,j⟩:=I.C g;have i:=f.e;refine call_tuple_list pl.J (λd t=>?_) (by simp only[Ab3]<;>lia);have k:Inv X a U H {s with heap:=d}:=I.kept t;have n:Inv X a U (aE H d.j.j (.tup ys)) {s with heap:=d.u {cls:=.p "tuple",data:=.j c.u}}:=
   k.L (λb o e=>Ab1 _ e) (Aa9 _) (show aT X.p X.w _ _ _ (.tup ys)from⟨j,c,f,dB.new _ _⟩)
  exact⟨.j d.j.j,_,n,rfl,q _ (k.aO.M (Aa9 _))⟩
 .obtain⟨c,f,pl,j⟩:=I.x g;exact call_tuple_same pl ⟨.j p,H,I,rfl,q⟩
def rn(K:Ab)(T:String)(x:V)(H:Hp):Prop:=match x with
|.p _=>T="str"
|.o _=>T="int"
|.j p=>(T="list"/\∃xs,bA K H p xs)\/(T="tuple"/\∃o,K.p p=some o/\o.cls=.p "tuple"/\o.w=none)∨
  (T="dict"/\((∃kvs,H p=some (.dK kvs))\/∃kvs,H p=some (.dT kvs)))\/(T="set"/\∃S n,H p=some (.set S n))
|_=>False
def Bq(I:Inv X pins U H s)(r:RelV x v)(ty:rn X.K T x H):
 s.TypeIs v T/\∀a,v=.j a->∃j,s.j.p a=y0 j/\j.w=none:=by
 cases x with
|str z=>obtain⟨t,rfl⟩:=r;cases(ty);exact⟨typeIs_str s z t,λ_ e=>nomatch e⟩
|int i=>obtain⟨t,rfl⟩:=r;cases(ty);exact⟨typeIs_int s i t,λ_ e=>nomatch e⟩
|ref p=>
  cases r;rcases ty with⟨rfl,l,k⟩|⟨rfl,o,b,h,f⟩|⟨rfl,b⟩|⟨rfl,S,n,b⟩
  .obtain⟨g,_,pl,_⟩:=I.C k;refine⟨pl.J.typeIs,λa e=>?_⟩;cases e;obtain⟨o,n,e,c,f,_⟩:=pl;exact⟨o,e,f⟩
  .refine⟨⟨o,I.bK p o b,h⟩,λa e=>?_⟩;cases e;exact⟨o,I.bK _ o b,f⟩
  .have z:∃o,s.j.p p=y0 o/\o.ExactDict:=by
    rcases b with⟨d,b⟩|⟨d,b⟩
    .obtain⟨_,_,_,_,o,_,_,e,ex,_⟩:=I.aO p _ b;exact⟨o,e,ex⟩
    .obtain⟨_,_,_,_,o,_,_,e,ex,_⟩:=I.aO p _ b;exact⟨o,e,ex⟩
   obtain⟨o,e,ex⟩:=z;refine⟨⟨o,e,ex.1⟩,λa e2=>?_⟩;cases e2;exact⟨o,e,ex.2.1⟩
  .obtain⟨o,_,_,_,e,ex,_⟩:=I.aO p _ b;refine⟨⟨o,e,ex.1⟩,λa e2=>?_⟩;cases e2;exact⟨o,e,ex.2.1⟩
|_=>exact False.elim ty
def Nf(K:Ab)(T:String)(r:V->List V->Hp->VK->Prop)(a:TE):TE:=λU H Q=>a U H λx H1=>rn K T x H1/\r x [] H1 Q
def HQ(K:Ab)(T:String)(r:V->List V->Hp->VK->Prop)(a:TE)(t:TA):TE:=λU H Q=>a U H λx H1=>rn K T x H1/\t U H1 λxs H2=>r x xs H2 Q
variable{o e:Expr}{es:List Expr}{to:TE}{t:TA}{name:Str}{apos k7:Pos}{T id:String}{r:V->List V->Hp->VK->Prop}
def Np(m:PlainAttrs T)(d:Slot T name id)(e:typeOf (.u id)=pure (.p "method_descriptor"))(k:pA X id r)(p:PE X o to)
 (b:attributeBase o name X.j (eval o X.j)=eval o X.j:=by rfl)(c:(apos.j==k7.p)=true:=by rfl):PE X (.x (.p o name apos) [] [] k7) (Nf X.K T r to):=by
 intro a s U H Q I h;refine wpAny_Call_method0_late b c (aN (p a s U H _ I h) ?_);rintro v n ⟨x,i,f,g,ty,l⟩;obtain⟨j,q⟩:=Bq f g ty;exact⟨T,id,m,d,e,j,q,Calls.callWith_builtin rfl (PySem.evalArgs_none (k a n U i x [] v [] Q f g .p l))⟩
def AB(z:PlainAttrs T)(g:Slot T name id)(i:typeOf (.u id)=pure (.p "method_descriptor"))(u:pA X id r)(B:PE X o to)(w:PA X (e::es) t)
 (c:attributeBase o name X.j (eval o X.j)=eval o X.j:=by rfl)
 (f:((backTo k7 (starEach (e::es) X.j)).N (λx=>!x.1)&&(backToKw k7 (keywordEach [] X.j)).N (λx=>x.1.u)
   &&u9 ((e::es).e+([]:List Keyword).e+(if([]:List Keyword).y then 0 else 1)<30))=true:=by rfl)
 (d:(apos.j==k7.p)=true:=by rfl)(J:starEach (e::es) X.j=(y9,eval e X.j)::starEach es X.j:=by rfl)(b:(backTo k7 (starEach es X.j)).A (·.1)=false:=by rfl):
 PE X (.x (.p o name apos) (e::es) [] k7) (HQ X.K T r to t):=by
 intro a s U H Q I h;refine wpAny_Call_method_late c f d rfl (aN (B a s U H _ I h) ?_);rintro v A ⟨x,m,k,l,ty,y⟩;obtain⟨q,D⟩:=Bq k l ty;refine⟨T,id,z,g,i,q,D,?_⟩;have j:=w k7 a A U m _ k y;rw[J]at j⊢;refine Calls.callWith_builtin (by show(y9||(backTo k7 (starEach es X.j)).A (·.1))=y9;rw[b]<;>rfl) (Calls.evalArgs_plain ?_);exact aN j (by rintro p F⟨K,E,G,C,n⟩;exact u a F U E x K v p Q G l C n)
end
def kD(X:Cx)(id:String)(r:V->List V->Hp->VK->Prop):Prop:=
 ∀(pins:List (Addr×Obj))(s:Shared)(U:St)(H:Hp)(x:V)(xs:List V)(v:Value)(a:List Value)(Q:VK),Inv X pins U H s->RelV x v->Vals xs a->r x xs H Q→
  wpAny (model X.p X.w) X.A (call (.u id) (v::a)) (EP X pins U Q) X.xe s
def Vals.one:∀{x}{i},Vals [x] i->∃u,i=[u]/\RelV x u
|_,_,.j r .p=>⟨_,rfl,r⟩
theorem Vals.rep (h:Vals xs us):∀k:Nat,Vals (Aa4 k xs).G (Aa4 k us).G
|0=>.p
|k+1=>by exact Vals.append h (Vals.rep h k)
theorem j6(its):∀k (a:List Value),
 List.foldl (λj i=>j++i) a.u (Aa4 k its.u)=(a++(Aa4 k its).G).u
|0,a=>by simp
|k+1,a=>by
  have e:a.u++its.u=(a++its).u:=by simp
  have e2:(a++its)++(Aa4 k its).G=a++(Aa4 (k+1) its).G:=by rw[Ae4,Ap6,Af0]
  rw[←e2,←j6 its k (a++its),←e,Ae4,Aj2]
section
variable{X:Cx}{pins:List (Addr×Obj)}{U:St}{H:Hp}{s:Shared}{l b:Addr}{xs ys zs:List V}
def Inv.mK {b a:List Value}(I:Inv X pins U H s)(j:H l=y0 (.w xs))
 (e:s.j.p l=y0 {cls:=.p "list",data:=.j b.u n})(h:f b.u=a.u)(i:Vals ys a)(d:ys.e<=sizeLine):
 Inv X pins U (aE H l (.w ys)) {s with heap:=s.j.w l (Obj.mapSeq f),toks:=t'}:=by
 have q:=PySem.IsL.update e f;rw[h]at q;refine I.write (by rw[j];exact trivial) (.p rfl) (λk u c g=>(Ak7 s.j (Obj.mapSeq f) (Ne.symm c)).j g) ⟨_,q⟩ ?_;exact⟨d,a,_,i,q⟩
def Inv.mv (I:Inv X pins U H s)(a:Vals ys its)(b:ys.e<=sizeLine):
 Inv X pins U (aE H s.j.j.j (.w ys)) {s with heap:=s.j.u {cls:=.p "list",data:=.j its.u},toks:=t'}:=
 I.L (λ_ _ q=>Ab1 _ q) (Aa9 _) ⟨b,its,0,a,Ac8 _ rfl⟩
theorem Inv.fresh (I:Inv X pins U H s):H s.j.j.j=none:=I.aO.M (Aa9 _)
def Inv.ke (I:Inv X pins U H s)(a:H l=y0 (.w xs)):xs.e<=sizeLine/\∃i n,Vals xs i/\xs.e=i.e/\s.j.p l=y0 {cls:=.p "list",data:=.j i.u n}:=by obtain⟨z,i,n,r,e⟩:=I.aO l _ a;exact⟨z,i,n,r,r.e,e⟩
def ym(h:n<=sizeLine):Builtin.List.listTooLong n=false:=by exact decide_eq_false (Nat.not_lt.2 ‹_›)
end
section
variable{X:Cx}
def K1:V->List V->Hp->VK->Prop:=λx a H Q=>∃l xs y,x=.j l/\a=[y]/\H l=y0 (.w xs)/\xs.e<sizeLine/\Q .aw (aE H l (.w (xs++[y])))
def BQ:kD X "list.append" K1:=by intro c s U H x m v i Q I d rv h;obtain⟨l,k,y,rfl,rfl,b,j,q⟩:=h;cases d;obtain⟨u,rfl,f⟩:=rv.one;obtain⟨z,a,n,r,g,e⟩:=I.ke b;refine call_meets F.slot_list_append ⟨_,e,rfl⟩ F.entry_list_append (F.args_list_append_2 _ _) (PySem.list_append l a.u n u (by rw[Ab3];lia)) ⟨e,?_⟩;refine⟨.aw,_,I.mK b e (by simp) (r.append (.j f .p)) ?_,rfl,q⟩;rw[Aa5,List.length_singleton];exact Nat.le_trans ‹_› (by decide)
def Dy:V->List V->Hp->VK->Prop:=λx a H Q=>∃l b xs zs,x=.j l/\a=[.j b]/\H l=y0 (.w xs)/\H b=y0 (.w zs)/\xs.e+zs.e<=sizeLine/\Q .aw (aE H l (.w (xs++zs)))
def FP:kD X "list.extend" Dy:=by
 intro i s U H x E v y Q I o rv h;obtain⟨l,b,C,D,rfl,rfl,g,k,A,q⟩:=h;cases o;obtain⟨u,rfl,p⟩:=rv.one;cases p;obtain⟨z,c,n,r,w,e⟩:=I.ke g;obtain⟨B,a,j,m,t,e2⟩:=I.ke k;have f:c.u.j+a.u.j<=sizeLine:=by rw[Ab3,Ab3];lia
 have d:¬(!c.u.y&&Builtin.List.listTooLong (c.u.j+a.u.j))=true:=by rw[ym f,Ag5];exact Ab9
 refine call_meets F.slot_list_extend ⟨_,e,rfl⟩ F.entry_list_extend (F.args_list_extend_2 _ _)
  (AutoSeq1.list_extend_list_list_0 l c.u n b a.u j d (by rw[Ab3];exact Nat.le_trans (Nat.le_add_right _ _) ‹_›) (Nat.le_succ_of_le ‹_›)) ⟨e,e2,?_⟩
 refine⟨.aw,_,I.mK g e (by simp) (r.append m) ?_,rfl,q⟩;rw[Aa5];exact Nat.le_trans ‹_› (by decide)
def KY(xs:List α)(k):(Aa4 k xs).G.e=k*xs.e:=by simp
end
end Lake
namespace Att
open PySem PySem.W PySem.Calls PyProof.Rows
def XH:∀ns vs,WellAll P h vs (ns.j WData.int)->IntsAre vs ns:=by
 intro ns;induction ns with
|nil=>intro vs w;cases w;exact .nil
|cons n ns c=>
  intro vs w;cases w with
|cons a b=>cases a;exact .cons _ _ (c _ b)
def Fh{l:OpenLaw}(p:l.most=y0 n)
 (b:l.row.toRowW.claim.pre args=k9)(g:WellAll P h vals args):
 ∃a vs ns,vals=[Value.ref a]/\args=[WData.list (ns.j WData.int)]/\h.p a=y0 {cls:=.p "list",data:=.j vs.u}/\IntsAre vs ns/\ns.e<=n:=by
 have i:WShape.hasAll [] args [.list .int]=true:=(pre_splitW b).1;have v:l.pre.holds [] {args:=args}=true:=(pre_splitW b).2;obtain⟨d,r,rfl,m,u⟩:=hasAllW_cons i;obtain rfl:=hasAllW_nil u;obtain⟨x,rfl,s⟩:=hasW_list m;obtain⟨ns,rfl⟩:=items_int s;have c:ns.e<=n:=by
  have f:=by have f:=(holds_andW v).1;rw[p]at f;exact f
  have j:=condW_of f (w_not (w_lt w_lit (w_len_list (w_arg rfl))));refine Nat.le_of_not_lt λq=>?_;have k:=‹_›
  first
|(rw[decide_eq_true k]at j;exact absurd j (by decide))
  |(simp at j;omega)
 cases g with
|cons w o=>
  cases o;cases w with
|list t e=>exact⟨_,_,ns,rfl,rfl,t,XH ns _ e,c⟩
def HV(l:OpenLaw)(args):l.row.toRowW.claim.post args (.bool k9) args=true:=
 postW_of
  (show WShape.has [] (.bool k9) .bool=k9 by first|rfl|decide|simp[WShape.armsAll])
  (show(WTm.eq .res (.lit (.bool k9))).value [] {args:=args,res:=y0 (.bool k9),after:=args}=y0 (.bool (k9==k9))from w_eq_bool (w_res rfl) w_lit) rfl
def eE{l:OpenLaw}
 (z:l.most=y0 n)(k:d.params.defaults=[])
 (call:∀w j i mg O M o V cd L a vs ns,
   Ground q loose [] XP w j mg O i.j->YP w i.j→
   i.j.p M=y0 o->o.j=.func (docDef d.name d.params d.body d.scope V cd L)->i.j.CodeRec cd d.name->mg d.name=y0 (.j M)→
   i.j.p a=y0 {cls:=.p "list",data:=.j vs.u}->IntsAre vs ns->ns.e<=n->i.gens=#[]→
   codeAny (model l.prog w) callerA (.call (.j M) ⟨[.j a],[]⟩) (λr s'=>r=.ok (.ret (.x k9))/\OldK i.j s'.j/\s'.os=i.os/\AllBare s'.gens) i):
 WalkO q loose XP YP l.row.toRowW d [] (λf vs=>PySem.call f vs):=by
 intro w j i mg O G Y M o V cd L D kV B F m u p y t s K g v I h J;obtain rfl:D=.w:=Dflts.none u k;obtain rfl:kV=.w:=Dflts.noKw u;obtain⟨a,vs,ns,rfl,rfl,e,b,c⟩:=Fh z g h;refine enter_call (codeAny_mono (call w j i mg O M o V cd L a vs ns G Y B (fd_plain F) m p e b c y) λr s' H=>?_);obtain⟨rfl,C,A,E⟩:=H;exact⟨.p ⟨.x k9,.bool k9,[],rfl,λ_=>rfl,.bool k9,HV l _,λ_=>⟨Ap2.nil,λ_ x=>(nomatch x)⟩⟩,C,A,E⟩
end Att
namespace Lake
open PySem PySem.Spec PyProof.Rows
theorem qX:∀{vs}{ns},IntsAre vs ns->Vals (ns.j V.int) vs
|_,_,.nil=>.p
|_,_,.cons n t h=>.j ⟨t,rfl⟩ (qX h)
def ph(H:Hp):Prop:=∀b,H b=u0\/∃o xs,H b=y0 (.eJ o (.lst xs))
def FX{K:Ab}
 (S:K.In s₁.j)(C:s₁.j.Ns mainGlobals mg)(c:s₁.j.Ns builtinsNs mb)(O:∀x:Str,x≠"__name__"->mb x=bootBuiltins x)(B:s₁.j.NoLimit)(hg:s₁.gens=#[])
 (D:s₁.j.p a=y0 {cls:=.p "list",data:=.j vs.u})(U:IntsAre vs ns)(Q:ns.e<=sizeLine)(hr:bc k callerA)
 (F:∀base:Heap,K.In base->base.Ns mainGlobals mg->bx P w K mg base CX k fa fd [x] sp)(i:∀s u,BindsTo s fd ⟨[u],[]⟩ [(x,u)])
 (M:∀H:Hp,ph H->bA K H a (ns.j V.int)->sp [.ref a] H (λv _=>v=.bl k9) λ_ _ _=>False)
 (I:∀H e s',CX [] H s₁ (λ_ _ _=>False) e s'->False):
 codeAny (model P w) callerA (.call (.j fa) ⟨[.j a],[]⟩) (λr s'=>r=.ok (.ret (.x k9))/\OldK s₁.j s'.j/\s'.os=s₁.os/\AllBare s'.gens) s₁:=by
 have rv:=qX U;have t:=U.length;have g:∀H:Hp,ph H->bA K H a (ns.j V.int)->dm P w H s₁.j->(∀b,H b≠u0->b=a)->(H a≠u0->K.p a=u0)→
  codeAny (model P w) callerA (.call (.j fa) ⟨[.j a],[]⟩) (λr s'=>r=.ok (.ret (.x k9))/\OldK s₁.j s'.j/\s'.os=s₁.os/\AllBare s'.gens) s₁:=by
  intro H R hS l T hK;have bF:∀{b}{o},s₁.j.p b=y0 o->H b=u0->(iN s₁.j H).p b=y0 o:=λe n=>OF e n;have L:∀{b}{o}{G}{E},s₁.j.p b=y0 o->o.j=.w G E->H b=none:=λ{b o G E} e d=>by
   cases q:H b with
|none=>rfl
|some u=>have N:=T b (by rw[q];simp);subst N;rw[D]at e;cases e;have d':=d;cases d'
  have f:∀{b}{m},s₁.j.Ns b m->(iN s₁.j H).Ns b m:=λ{b m} ⟨o,G,E,e,d,r⟩=>⟨o,G,E,bF e (L e d),d,r⟩;have y:=λb o e=>bF (S b o e) (by
   cases q:H b with
|none=>rfl
|some u=>have N:=T b (by rw[q];simp);subst N;rw[hK (by rw[q];simp)]at e;cases e)
  have W:Mod K mg (iN s₁.j H):=⟨y,f C,⟨mb,f c,O⟩,let⟨mc,Y,h2⟩:=B;⟨mc,f Y,h2⟩⟩;have e0:dP P w K mg (iN s₁.j H) callerA [] s₁ H:=⟨rfl,W,λb o e=>F7 e,Al4 (Om _ _),trivial,λb c=>absurd (show b∈([]:List Addr)from c) (by simp),l,.of_eq hg⟩;refine codeAny_mono ((F _ y (f C)).run callerA [] s₁ H ⟨[.j a],[]⟩ [.j a] [.ref a] _ _ hr e0 (i s₁ (.j a)) (.j rfl .p) (M H R hS)) λr s' h=>?_;cases r with
|error e=>exact(I H e s' h).j
|ok Z=>
   cases Z with
|next=>exact False.elim h
|brk=>exact False.elim h
|cont=>exact False.elim h
|ret u=>
    obtain⟨v,H',os,j,un,A,r',q⟩:=h;have X:=q;subst X;obtain rfl:u=Value.bool true:=r';refine⟨rfl,OldK.of_keep λb o e=>?_,os,j⟩;cases q:H b with
|none=>exact un.keep b o e q (by intro z;exact absurd (show b∈([]:List Addr)from z) (by simp)) (by simp)
|some u=>
     rcases R b with z|⟨ob,xs,z⟩
     .rw[q]at z;cases z
     .have z2:=un.cQ b ob _ z;obtain⟨e1,_⟩:=l b _ z;obtain⟨e2,_⟩:=A b _ z2;rw[e]at e1;cases e1;exact e2
 cases J:K.p a with
|some o=>have e:=S a o J;rw[D]at e;cases e;refine g (λ_=>u0) (λ_=>.p rfl) (.u ⟨_,vs.u,_,J,rfl,rfl,rfl,by rw[Ab3,t];exact Q,by simpa using rv⟩) (λb u z=>by have p:=z;cases p) (λb z=>absurd rfl z) λz=>absurd rfl z
|none=>
  refine g (fun b=>if b=a then some (.eJ {cls:=.p "list",data:=.j vs.u} (.lst (ns.j V.int)))else none) (fun b=>?_) (.p (.u ⟨{cls:=.p "list",data:=.j vs.u},if_pos rfl⟩)) (fun b u z=>?_) (fun b z=>?_) fun _=>J
  .by_cases c:b=a
   .exact .u ⟨_,_,if_pos c⟩
   .exact .p (if_neg c)
  .by_cases c:b=a
   .have p:=(if_pos c).p.j z;cases p;subst c;exact⟨D,by rw[Aa];exact Q,vs,_,rv,D⟩
   .have p:=(if_neg c).p.j z;cases p
  .by_cases c:b=a
   .exact c
   .exact absurd (if_neg c) z
noncomputable abbrev Pm{K:Ab}{h:Heap}(_:K.In h):Ab:=K
def ia{l:PySem.W.OpenLaw}{K:Params->Ab}{z:World->hG}{C:World->Sp}
 (M:l.most=y0 n)(p:n<=sizeLine)(r:d.params.defaults=[])(N:bc k callerA)
 (I:∀w h,YP w h->(K w.p).In h)
 (F:∀w mg j h,(K w.p).In h->h.Ns mainGlobals mg->mg d.name=y0 (.j j)→
   ∃fd:FuncData,(∀s u,BindsTo s fd ⟨[u],[]⟩ [(x,u)])∧
    ∀base:Heap,(K w.p).In base->base.Ns mainGlobals mg->bx l.prog w (K w.p) mg base (z w) k j fd [x] (C w))
 (t:∀w H a (ns:List Int),ns.e<=n->ph H->bA (K w.p) H a (ns.j V.int)->C w [.ref a] H (λv _=>v=.bl k9) λ_ _ _=>False)
 (m:∀w H s e s',z w [] H s (λ_ _ _=>False) e s'->False):
 PySem.W.WalkO q loose XP YP l.row.toRowW d [] (λf vs=>PySem.call f vs):=by
 refine Att.eE M r λw A g mg R j o U cd J a vs ns G Y S T Q y i c b E=>?_;have B:=I w _ Y;obtain⟨fd,L,P⟩:=F w mg j _ B G.T.g y;exact FX B G.T.g G.T.b G.T.builtins G.T.nolimit E i c (Ab5 b p) N P L (λH D O=>t w H a ns b D O) λH e s'=>m w H g e s'
noncomputable def LJ(s:Stmt):Arguments:=match s with
|.FunctionDef _ a _ _ _ _ _ _ _ _=>a
|_=>{posonlyargs:=[],args:=[],vararg:=u0,kwonlyargs:=[],kw_defaults:=[],kwarg:=u0,defaults:=[]}
noncomputable def zI(s:Stmt):List Stmt:=match s with
|.FunctionDef _ _ b _ _ _ _ _ _ _=>b
|_=>[]
noncomputable def Zm(s:Stmt):Scope:=match s with
|.FunctionDef _ _ _ _ _ _ sc _ _ _=>sc
|_=>{kind:=.j,names:=[],isGenerator:=y9,isCoroutine:=y9}
abbrev mT:hG:=λ_ _ _ _ _ _=>False
abbrev E0:XK:=λ_ _ _=>False
structure kA(K:Ab)(x y8:Str)(st:Stmt)(f:Addr)(fd:FuncData):Prop where
 ex:∃(oc:Value)(od:Option Addr)(kV doc pm:Value)(an:Option Addr)(cdv ct:Value)(osl:Array (Option Value)),
  fd=PySem.W.fnOf x y8 (LJ st) (zI st) (Zm st) .w kV doc pm an cdv ct/\K.p f=y0 ⟨oc,od,.func fd,osl⟩/\PySem.W.codeIn K cdv y8=k9
 kp:Ah5 K (.j f)=k9
def Zo(h:n<=1000):n<sizeLine:=Ah8 h (by decide)
section
variable{X:Cx}
def pv(i)(b:X.N[i]?=some x:=by rfl)(c:kF X.env.j x:=by first|exact Or.inl rfl|exact Or.inr (Or.inl rfl)|exact Or.inr (Or.inr rfl))(d:(x==("__debug__":Str))=false:=by decide)
 (a:(x==("__classdict__":Str))=false:=by decide):PE X (.j x pos) (nI i):=zy b c d a
end
def oh{A B:Prop}(h:B):if y9=k9 then A else B:=by exact h
def oB{A B:Prop}(h:A):if k9=k9 then A else B:=by exact h
end Lake
set_option maxHeartbeats 4000000
namespace Lake
open Lake renaming Vals.length→Lake.Vals.e,V.int→Lake.V.o,V.ref→Lake.V.j,V.str→Lake.V.p,Inv.ok→Lake.Inv.j,Inv.base→Lake.Inv.u,Inv.free→Lake.Inv.w,Inv.list→Lake.Inv.C,Inv.aO→Lake.Inv.G,Inv.bare→Lake.Inv.K,Inv.pin→Lake.Inv.N,Inv.kept→Lake.Inv.Q,Cx.env→Lake.Cx.j,Cx.prog→Lake.Cx.p,Cx.stack→Lake.Cx.B,Cx.calm→Lake.Cx.x,HO.lst→Lake.HO.w,Un.free→Lake.Un.w,Un.there→Lake.Un.j,dm.fresh→Lake.dm.M
open PySem PySem.Spec PyProof.Rows
noncomputable def Qf(env:Env)(a:List (Str×Addr))(y:Str×NameKind):List (Str×Addr):=
 if y.2==.w then(match env.u.p y.1 with|some c=>(y.1,c)::a|none=>a)else a
def QT(a:Scope)(env:Env):List (Str×Addr):=a.j.X (Qf env) []
theorem tY:∀(a:List (Str×NameKind)) i,(∀y∈a,y.2=.w->∃c,env.u.p y.1=y0 c)→
 (do
   let mut j:=i
   for (name,kind) in a do
    if kind==.w then j:=(name,←cellOf env name)::j
   return j:Sem (List (Str×Addr)))=pure (a.X (Qf env) i)
|[],i,_=>by simp
|(n,k)::r,i,h=>by
  have f:=λj=>tY r j λy l=>h y (Aa2 _ l);by_cases d:k=.w
  .subst d;obtain⟨c,b⟩:=h (n,.w) Aa3 rfl;have b:=b;have e:Qf env i (n,.w)=(n,c)::i:=by show(if(NameKind.free==NameKind.free)=k9 then(match env.u.p n with|some c=>(n,c)::i|none=>i)else i)=_;rw[if_pos (show(NameKind.free==NameKind.free)=k9 from rfl),b]
   rw[Aj2,e,←f];simp[cellOf,b]
  .have g:(k==NameKind.free)=false:=by simpa using d
   have e:Qf env i (n,k)=i:=by show(if(k==NameKind.free)=k9 then _ else i)=_;rw[g,if_neg Ab9]
   rw[Aj2,e,←f];simp[d]
def wT(h:∀y∈scope.j,y.2=.w->∃c,env.u.p y.1=y0 c):closureFor scope env=pure (QT scope env):=
 tY scope.j [] h
theorem WJ:∀(a:List (Str×NameKind)) i,(∀x c,i.p x=y0 c->env.u.p x=y0 c)->∀x c,(a.X (Qf env) i).p x=y0 c->env.u.p x=y0 c
|[],_,h=>h
|(n,k)::r,i,h=>by
  refine WJ r (Qf env i (n,k)) λx c e=>?_;unfold Qf at e;split at e
  .split at e
   .rename_i f b;rw[Ab7]at e;cases d:x==n with
|true=>
     rw[d]at e;have:x=n:=by simpa using d
     subst this;cases e;exact b
|false=>rw[d]at e;exact h x c e
   .exact h x c e
  .exact h x c e
theorem ZY(b:env.u.p x=y0 c):∀(a:List (Str×NameKind)) j,((x,.w)∈a\/∃i,j.p x=y0 i)->∃i,(a.X (Qf env) j).p x=y0 i
|[],j,h=>h.j (λz=>absurd z (by simp)) id
|(n,k)::r,j,h=>by
  refine ZY b r (Qf env j (n,k)) ?_;have grow:(∃i,j.p x=y0 i)->∃i,(Qf env j (n,k)).p x=y0 i:=by
   rintro⟨i,e⟩;unfold Qf;split
   .split
    .rw[Ab7];cases x==n with
|true=>exact⟨_,rfl⟩
|false=>exact⟨i,e⟩
    .exact⟨i,e⟩
   .exact⟨i,e⟩
  rcases h with h|h
  .rcases Ab8.p h with h|h
   .cases h;refine .u ⟨c,?_⟩;show Ah9 x (if(NameKind.free==NameKind.free)=k9 then(match env.u.p x with|some c=>(x,c)::j|none=>j)else j)=_;rw[if_pos (show(NameKind.free==NameKind.free)=k9 from rfl),b];simp
   .exact .p h
  .exact .u (grow h)
def XW(I:Nat->Shared->Prop)
 (g:∀n s,I n s->wpAny (model prog w) A (pyNext it) (λr i=>match r with
|none=>R (.ok .next) i
|some v=>wpAny (model prog w) A (letOwnedTupleGo tg it v) (λ_ j=>wpAny (model prog w) A (assign tg env v) (λ_ V=>
    wpAny (model prog w) A (forIn ifs k9 λc r=>if r=k9 then do let ok←isTrue c env (eval c env);pure (ForInStep.yield ok)else pure (ForInStep.yield r)) (λok L=>
     if ok=k9 then wpAny (model prog w) A (eval elt env) (λx O=>
      wpAny (model prog w) A (call (.u "list.append") [acc,x]) (fun _ M=>∃m,m<n/\I m M) (notedBy (model prog w) A env fun e s'=>R (.error e) s') O) (notedBy (model prog w) A env fun e s'=>R (.error e) s') L
     else∃m,m<n/\I m L) (notedBy (model prog w) A env λe s'=>R (.error e) s') V) (notedBy (model prog w) A env λe s'=>R (.error e) s') j) (notedBy (model prog w) A env λe s'=>R (.error e) s') i) (notedBy (model prog w) A env λe s'=>R (.error e) s') s)
 (n)(h:I n s):codeAny (model prog w) A (.compLoop (.A elt [⟨tg,iter,ifs,0⟩] scope pos) 0 it acc env) R s:=by
 refine codeAny_loop rfl I (λn s p=>wpAny_noted ?_) n h;rw[compTurn_list];refine wpAny_bind (wpAny_standAt (wpAny_bind (wpAny_mono (g n s p) (λr i d=>?_) λ_ _ a=>a)));cases r with
|none=>exact wpAny_pure d
|some v=>
  refine wpAny_bind (wpAny_mono d (λ_ j f=>wpAny_bind (wpAny_mono f (λ_ V l=>wpAny_bind (wpAny_mono l (λok L b=>?_) λ_ _ a=>a)) λ_ _ a=>a)) λ_ _ a=>a);cases ok with
|false=>exact wpAny_pure ⟨rfl,b⟩
|true=>exact wpAny_bind (wpAny_bind (wpAny_mono b (λx O o=>wpAny_bind (wpAny_mono o (λ_ M k=>wpAny_pure (wpAny_pure ⟨rfl,k⟩)) λ_ _ a=>a)) λ_ _ a=>a))
theorem pE:∀i n j,(x,NameKind.cell)∉i->(cellsFrom n i j).p x=j.p x
|[],_,_,_=>rfl
|(y,k)::r,n,j,h=>by
  unfold cellsFrom;split
  .rename_i a;have a:=by simpa using a
   subst a;rw[pE r (n+1) _ λz=>h (Aa2 _ z),Ab7];cases b:x==y with
|true=>
    have:x=y:=by simpa using b
    subst this;exact absurd Aa3 h
|false=>rfl
  .exact pE r n j λz=>h (Aa2 _ z)
theorem pq:∀i (h:Heap) j L,(j.p x=y0 c->L\/(h.x c u0/\(x,NameKind.cell)∈i\/h.x c u0/\L))->∀lo,lo<=h.j.j→
 (cellsFrom h.j.j i j).p x=y0 c->j.p x=y0 c\/(lo<=c/\(x,NameKind.cell)∈i/\(pushCells h i).x c u0)
|[],_,_,_,_,_,_,e=>.p e
|(y,k)::r,h,j,L,n,lo,d,e=>by
  unfold cellsFrom at e;unfold pushCells;split at e
  .rename_i a;rw[if_pos a];have a:=by simpa using a
   subst a;have e:(cellsFrom (h.u {cls:=.p "cell",data:=.p none}).j.j r ((y,h.j.j)::j)).p x=some c:=by rw[Heap.size_push];exact e
   rcases pq r (h.u {cls:=.p "cell",data:=.p none}) _ True (fun _=>.p trivial) lo (by rw[Heap.size_push];exact Nat.le_succ_of_le ‹_›) e with q|⟨l,f,m⟩
   .rw[Ab7]at q;cases g:x==y with
|true=>
     rw[g]at q;have:x=y:=by simpa using g
     subst this;cases q;exact .u ⟨d,List.mem_cons_self,(show(h.u {cls:=.p "cell",data:=.p none}).x h.j.j none from⟨_,Heap.get?_push_size _ rfl,rfl⟩).keeps fun b o e=>pushCells_keeps r _ b o e⟩
|false=>rw[g]at q;exact .p q
   .exact .u ⟨l,Aa2 _ f,m⟩
  .rename_i a;rw[if_neg a];rcases pq r h j True (λ_=>.p trivial) lo d e with q|⟨l,f,m⟩
   .exact .p q
   .exact .u ⟨l,Aa2 _ f,m⟩
theorem pw:∀(j)(n)(i),(∀x c,i.p x=y0 c->c<n)->(∀x y c,i.p x=y0 c->i.p y=y0 c->x=y)→
 ∀x y c,(cellsFrom n j i).p x=y0 c->(cellsFrom n j i).p y=y0 c->x=y
|[],_,_,_,b=>b
|(z,k)::r,n,i,a,b=>by
  unfold cellsFrom;split
  .have look:∀x c,((z,n)::i).p x=y0 c->(x=z/\c=n)\/(i.p x=y0 c):=λx c e=>by
    rw[Ab7]at e;cases d:x==z with
|true=>rw[d]at e;cases e;exact .p ⟨by simpa using d,rfl⟩
|false=>rw[d]at e;exact .u e
   refine pw r (n+1) _ (λx c e=>?_) λx y c e1 e2=>?_
   .rcases look x c e with⟨_,q⟩|q
    .exact q▸Af9 n
    .exact Nat.lt_succ_of_lt (a x c q)
   .rcases look x c e1 with⟨l,g⟩|p<;>rcases look y c e2 with⟨h,f⟩|q
    .rw[l,h]
    .exact absurd (g▸a y c q) (Ai6 _)
    .exact absurd (f▸a x c p) (Ai6 _)
    .exact b x y c p q
  .exact pw r n i a b
theorem zP:∀(a:List (Str×NameKind)) i,(a.X (Qf env) i).p x=y0 c->i.p x=y0 c\/(x,NameKind.free)∈a
|[],_,h=>.p h
|(y,k)::r,i,h=>by
  rcases zP r _ h with q|q
  .unfold Qf at q;split at q
   .rename_i b;have b:=by simpa using b
    subst b;split at q
    .rw[Ab7]at q;cases d:x==y with
|true=>
      have:x=y:=by simpa using d
      subst this;exact .u Aa3
|false=>rw[d]at q;exact .p q
    .exact .p q
   .exact .p q
  .exact .u (Aa2 _ q)
theorem JX{env:Env}:∀{a:List (Str×NameKind)}{x},
 ((a.j λ(n,k)=>if(k==NameKind.free&&env.j.p==.j&&env.w n==y0 .p)then(n,NameKind.cell)else(n,k)).p x=y0 .p∨
   (a.j λ(n,k)=>if(k==NameKind.free&&env.j.p==.j&&env.w n==y0 .p)then(n,NameKind.cell)else(n,k)).p x=y0 .w)->(x,.w)∈a\/(x,.p)∈a
|[],_,h=>by simp at h
|(n,k)::r,x,h=>by
  have e:=@JX env r x;rw[Ab2]at h;by_cases b:(k==NameKind.free&&env.j.p==.j&&env.w n==y0 .p)=k9
  .have f:=by rw[Aa0,Aa0]at b;simpa using b.1.1
   subst f;simp only[b,if_true,Ab7]at h;cases c:x==n with
|true=>
    have:x=n:=by simpa using c
    subst this;exact .p Aa3
|false=>rw[c]at h;exact(e h).imp (Aa2 _) (Aa2 _)
  .have d:=Aj7.u b;simp only[d,Ak4,if_false,Ab7]at h;cases c:x==n with
|true=>
    have:x=n:=by simpa using c
    subst this;rw[c]at h;rcases h with h|h
    .have:k=.p:=by simpa using h
     subst this;exact .u Aa3
    .have:k=.w:=by simpa using h
     subst this;exact .p Aa3
|false=>rw[c]at h;exact(e (by simpa using h)).imp (Aa2 _) (Aa2 _)
theorem ur:∀{a:List (Str×NameKind)}{x}{k i},(a.j Prod.fst).C->(x,k)∈a->(x,i)∈a->k=i
|(y,j)::r,x,k,i,b,c,d=>by
  rw[Ab2,Ai1]at b;rcases Ab8.p c with e1|e1<;>rcases Ab8.p d with e2|e2
  .cases e1;cases e2;rfl
  .cases e1;exact absurd (Ac1.u ⟨_,e2,rfl⟩) b.1
  .cases e2;exact absurd (Ac1.u ⟨_,e1,rfl⟩) b.1
  .exact ur b.2 e1 e2
theorem X9:∀{a:List (Str×NameKind)}{x}{k},(a.j Prod.fst).C->(x,k)∈a->a.p x=y0 k
|(y,j)::r,x,k,b,h=>by
  rw[Ab2,Ai1]at b;rw[Ab7];rcases Ab8.p h with e|e
  .cases e;simp
  .have:(x==y)=false:=by
    cases c:x==y with
|false=>rfl
|true=>
     have:x=y:=by simpa using c
     subst this;exact absurd (Ac1.u ⟨_,e,rfl⟩) b.1
   rw[this];exact X9 b.2 e
def iR(a:Scope)(C:Addr)(env:Env):List (Str×Addr):=cellsFrom (C+1) a.j (QT a env)
def jC
 (d:Q (newEnv scope s.j.j.j globals (cellsFrom (s.j.j.j+1) scope.j cl) y8 u0 .w (y0 env) builtinsNs) {s with heap:=pushCells (s.j.u {cls:=.p "dict",data:=.w #[]}) scope.j}):
 wpAny M A (newFunctionEnv scope globals cl [] y8 u0 .w (y0 env)) Q E s:=by
 simp only[newFunctionEnv,Option.isSome_some,if_true];refine wpAny_bind (wpAny_alloc ?_);refine wpAny_bind (wpAny_layCells _ (λname a b=>by cases c:a==NameKind.cell<;>simp[c]) _ _ _ _ ?_);rw[show({s with heap:=s.j.u {cls:=.p "dict",data:=.w #[]}}:Shared).j.j.j=s.j.j.j+1 from Heap.size_push ..];exact wpAny_bind (wpAny_pure (wpAny_pure d))
noncomputable def Qe(X:Cx)(N:List Str)(a:Scope)(C:Addr)(b:List Addr)(s:Shared)(H:Hp):Cx where
 prog:=X.p
 w:=X.w
 K:=X.K
 mg:=X.mg
 base:=X.base
 A:=X.A
 N:=N
 s₀:=s
 H₀:=H
 env:=compEnvC a (iR a C X.j) C X.j
 outer:=X.B
 stack:=X.B
 ex:=b
 fn:=λx=>u9 (a.j.p x=y0 .p)
 calm:=X.x
 pn:=[]
 xe:=λ_ _=>False
def c3(X:Cx):List Nat->List Str->Prop
|[],[]=>True
|j::a,x::xs=>X.N[j]?=y0 x/\(X.j.w x=y0 .p\/X.j.w x=y0 .w)/\c3 X a xs
|_,_=>False
theorem c3.get {U:St}:∀{aD}{xs}{i:Nat}{x}{v},c3 X aD xs->xs[i]?=y0 x->(aD.j λj=>(U[j]?).x)[i]?=y0 (y0 v)→
 ∃j:Nat,X.N[j]?=y0 x/\U[j]?=y0 (y0 v)/\(X.j.w x=y0 .p\/X.j.w x=y0 .w)
|[],[],_,_,_,_,e,_=>by simp at e
|[],_::_,_,_,_,h,_,_=>h.j
|_::_,[],_,_,_,h,_,_=>h.j
|j::d,b::xs,0,x,v,h,e1,e2=>by
  obtain⟨a,c,_⟩:=h;simp at e1;subst e1;refine⟨j,a,?_,c⟩;have e2:y0 ((U[j]?).x)=y0 (y0 v):=by simpa using e2
  have e2:=Ad6.inj e2;cases q:U[j]? with
  |none=>rw[q]at e2;cases e2
  |some z=>rw[q]at e2;have:z=y0 v:=e2;rw[this]
|j::d,b::xs,i+1,x,v,h,e1,e2=>c3.get h.2.2 (by simpa using e1) (by simpa using e2)
theorem c3.length:∀{aD}{xs},c3 X aD xs->aD.e=xs.e
|[],[],_=>rfl
|[],_::_,h=>h.j
|_::_,[],h=>h.j
|_::_,_::_,h=>congrArg (·+1) (c3.length h.2.2)
noncomputable def m3(k:Nat)(aD:List Nat)(U:St):St:=Aa4 k u0++aD.j λ(j:Nat)=>(U[j]?).x
def iD(X:Cx)(a:List Expr)(t:TT):Prop:=
 ∀(pins:List (Addr×Obj))(s:Shared)(U:St)(H:Hp)(Q:Bool->Hp->Prop),Inv X pins U H s->t U H Q→
  wpAny (model X.p X.w) X.A (forIn a k9 λc r=>if r=k9 then do let ok←isTrue c X.j (eval c X.j);pure (ForInStep.yield ok)else pure (ForInStep.yield r)) (TP X pins U Q) X.xe s
def FO:TT:=λ_ H Q=>Q k9 H
def vW:iD X [] FO:=λ_ _ _ H _ I h=>wpAny_tests_nil ⟨H,I,h⟩
def vL(h:PT X c t):iD X [c] t:=λa s U H Q I b=>wpAny_tests_one (h a s U H Q I b)
def Mf(J:It)(g:TG)(l:TT)(n:TE)(e:St)(j:Hp)(Q:VK):Prop:=∃W:Nat->Nat->List V->St->Hp->Prop,(∃m,W 0 m [] e j)/\∀i m ys τ H,W i m ys τ H→
 (J.stop i H/\ys.e<=sizeLine/\∀D,H D=u0->Q (.j D) (aE H D (.w ys)))∨
 (J.go i H/\ys.e<sizeLine/\∃N:List V->St->Hp->Prop,(∀c d H',N c d H'->∃h,h<m/\W (i+1) h c d H')∧
   ∀x H',J.gs i H x H'->g x τ H' λa H2=>l a H2 λb f=>if b=k9 then n a f λy k=>N (ys++[y]) a k else N ys a f)
abbrev lM(a:Type):=Addr->List Addr->Shared->Hp->a
def oq(k:Nat)(aD:List Nat)(c:TI)(g:lM TG)(a:lM TT)(b:lM TE):TE:=λU H Q=>c U H λJ H1=>∀C fp s,Mf J (g C fp s H1) (a C fp s H1) (b C fp s H1) (m3 k aD U) H1 Q
def Inv.adopt (I:Inv X pins U H s)(m:bD X pins H D)(C:X.s₀.j.j.j<=D)
 (e:s.j.p D=y0 {cls:=.p "list",data:=.j its.u n})(r:Vals ys its)(t:ys.e<=sizeLine):Inv X pins U (aE H D (.w ys)) s:=by
 obtain⟨v,k,F,E,w,y⟩:=m;have up:∀b o,H b=y0 o->aE H D (.w ys) b=y0 o:=λb o q=>by rw[Za (jb q v)];exact q
 have a:∀b o,X.s₀.j.p b=y0 o->b≠D:=λb o q z=>by rw[z]at q;exact absurd (Ab4 (Ac q) C) (Ai6 _)
 refine⟨I.j,I.os,I.K,⟨I.u.keep,I.u.slot,λb o g i l=>?_,I.u.j,λb f q=>up b _ (I.u.c8 b f q),λb o u q=>up b _ (I.u.cQ b o u q),λb B q=>?_⟩,I.loc,I.cell,?_,λx c q=>?_,λp h=>?_,λb u q=>?_,I.len⟩
 .rw[Za (a b o g)];exact I.u.w b o g i l
 .obtain⟨more,j⟩:=I.u.dc b B q;exact⟨more,up b _ j⟩
 .rw[Za (Ne.symm k)];exact I.w
 .rw[Za (w x c q)];exact I.bE x c q
 .obtain⟨A,a2,a3⟩:=I.N p h;exact⟨A,by rw[Za (y p h)];exact a2,a3⟩
 .by_cases d:b=D
  .subst d;rw[zb]at q;cases q;exact⟨t,its,n,r,e⟩
  .rw[Za d]at q;exact(I.G b u q).cT (λ_ _ _ z=>z) (λc z=>up c _ z) λc f z=>up c _ z
theorem jk{env:Env}:∀{b:List (Str×NameKind)}{x},b.p x=y0 .w→
 ((b.j λ(n,k)=>if(k==NameKind.free&&env.j.p==.j&&env.w n==y0 .p)then(n,NameKind.cell)else(n,k)).p x=y0 .p∨
   (b.j λ(n,k)=>if(k==NameKind.free&&env.j.p==.j&&env.w n==y0 .p)then(n,NameKind.cell)else(n,k)).p x=y0 .w)
|[],_,h=>by simp at h
|(n,k)::r,x,h=>by
  have f:=@jk env r x;rw[Ab2];rw[Ab7]at h;cases d:x==n with
|true=>
   rw[d]at h;have e:=by simpa using h
   subst e;by_cases a:(NameKind.free==NameKind.free&&env.j.p==.j&&env.w n==y0 .p)=k9
   .simp only[a,if_true,Ab7,d]
    first|exact .p rfl|exact .p trivial|simp
   .have c:=Aj7.u a;simp only[c,Ak4,if_false,Ab7,d]
    first|exact .u rfl|exact .u trivial|simp
|false=>
   rw[d]at h;have q:=f h;by_cases a:(k==NameKind.free&&env.j.p==.j&&env.w n==y0 .p)=k9
   .simp only[a,if_true,Ab7,d];exact q
   .have c:=Aj7.u a;simp only[c,Ak4,if_false,Ab7,d];exact q
structure w4(X:Cx)(scope:Scope)(N:List Str)(k:Nat)(aD:List Nat):Prop where
 kind:scope.p=.j
 nd:(scope.j.j Prod.fst).C
 names:∀y∈scope.j,y.2=.local->scope.j.p y.1=y0 .local
 free:∀y∈scope.j,y.2=.w->X.j.w y.1=y0 .p\/X.j.w y.1=y0 .w
 iC:∀x∈N.K k,scope.j.p x=y0 .w
 aD:c3 X aD (N.K k)
 le:k<=N.e
structure Pj(sc scope:Scope)(N:List Str)(k:Nat):Prop where
 kind:scope.p=.j
 nd:(scope.j.j Prod.fst).C
 names:∀y∈scope.j,y.2=.local->scope.j.p y.1=y0 .local
 free:∀y∈scope.j,y.2=.w->sc.j.p y.1=y0 .p\/sc.j.p y.1=y0 .w
 iC:∀x∈N.K k,scope.j.p x=y0 .w
 le:k<=N.e
section
variable{X:Cx}{elt tg iter:Expr}{ifs:List Expr}{scope:Scope}{pos p0:Pos}{N:List Str}{k:Nat}{aD:List Nat}{wi:TI}{g:lM TG}{tc:lM TT}{te:lM TE}
def KU(ok:w4 X scope N k aD)(a:Inv X pins U H2 s2)(H:∀b∈fp,bD X pins H2 b)(O:∀b∈fp,b<s2.j.j.j)
 (s:s2.j.j.j<=C)(M:h₁.Ns C m)(g:∀b o,s2.j.p b=y0 o->h₁.p b=y0 o)
 (d:∀x c,(iR scope C X.j).p x=y0 c->(QT scope X.j).p x=y0 c\/(C+1<=c/\(x,NameKind.cell)∈scope.j/\h₁.x c u0)):
 Inv (Qe X N scope C fp s2 H2) [] (m3 k aD U) H2 {s2 with heap:=h₁,toks:=tk}:=by
 have sub:∀x c,(QT scope X.j).p x=y0 c->X.j.u.p x=y0 c:=WJ scope.j [] λx c e=>by simp at e
 have A:∀x,(x,NameKind.free)∈scope.j->∃c,(QT scope X.j).p x=y0 c:=λx F=>by obtain⟨c,w⟩:=a.j.has x (ok.free _ F rfl);exact ZY w scope.j [] (.p F)
 have lt:∀x c,(QT scope X.j).p x=y0 c->c<C+1:=λx c e=>by obtain⟨v,o,B,_⟩:=a.cell x c (sub x c e);exact Nat.lt_succ_of_le (Ab5 (Ag0 (Ac B)) s)
 have keep:∀x c,(x,NameKind.free)∈scope.j->(QT scope X.j).p x=y0 c->(iR scope C X.j).p x=y0 c:=λx c F e=>by unfold iR;rw[pE scope.j _ _ λz=>by cases ur ok.nd F z];exact e
 have D:∀x,_∈scope.j\/(x,NameKind.cell)∈scope.j->∃c,(iR scope C X.j).p x=y0 c:=λx h=>by
  rcases h with h|h
  .obtain⟨c,w⟩:=A x h;exact⟨c,keep x c h w⟩
  .exact Ai0.p (An scope.j _ _ (.p (X9 ok.nd h)))
 refine⟨⟨a.j.mod,ok.kind,a.j.glob,a.j.blt,s,(pw scope.j _ _ lt λx y c I G=>a.j.inj x y c (sub x c I) (sub y c G)),λx h=>D x (JX h),λx c t e=>?_,a.j.hd,a.j.frames,.p rfl,λb n=>⟨?_,λx c e=>?_⟩,
  λb o e=>a.bs b o e,Ab5 a.j.gT a.sz,λb o e n=>?_,λb n z=>(Ab8.p (a.dW b z)).j (H b n).2.1 (H b n).2.2.1,a.stack,a.cX⟩,
  rfl,a.K,Un.kept g,⟨m,M,λi x v e1 e2 Z=>?_⟩,λx c e=>?_,a.G.M s,λx c e=>?_,λp T=>absurd (show p∈([]:List _)from T) (by simp),a.G.kept g,?_⟩
 .have t:=of_decide_eq_true t;rcases d x c e with q|q
  .rcases zP scope.j [] q with z|z
   .simp at z
   .have:=X9 ok.nd z;rw[t]at this;cases this
  .exact Ab5 s (Ab5 (Ag C) q.1)
 .show b≠C;exact Ac3 (Ab4 (O b n) s)
 .rcases d x c e with q|q
  .exact(H b n).2.2.2.2.1 x c (sub x c q)
  .exact Ne.symm (Ac3 (Ab4 (O b n) (Ab5 s (Ab5 (Ag C) q.1))))
 .rcases(H b n).2.2.2.1 with z|z
  .exact a.j.fQ b o e z
  .have I:=Ac e;have G:=a.j.gT;exact absurd (Ab4 I (Ab5 G z)) (Ai6 _)
 .have f:k<=i:=by
   by_cases f:i<k
   .have e2:(Aa4 k u0++aD.j λ(j:Nat)=>(U[j]?).x)[i]?=y0 _:=e2;rw[Ad3 (by simpa using f),Ai5,if_pos f]at e2;cases e2
   .lia
  have E:(N.K k)[i-k]?=y0 x:=by rw[List.getElem?_drop,show k+(i-k)=i by lia];exact e1
  have K:(aD.j λ(j:Nat)=>(U[j]?).x)[i-k]?=y0 (y0 v):=by have e2:(Aa4 k u0++aD.j λ(j:Nat)=>(U[j]?).x)[i]?=y0 _:=e2;rw[Ae2 (by simpa using f),Ae3]at e2;exact e2
  obtain⟨j,V,R,P⟩:=ok.aD.get (U:=U) E K;obtain⟨Y,W,Q⟩:=a.loc;obtain⟨u,r,l⟩:=Q j x v V R (.u (P.j (λz=>.p z) λz=>.u z));refine⟨u,r,.u ?_⟩;have t:=ok.iC x (Ac5 E);refine⟨jk t,?_⟩;obtain⟨c,w⟩:=A x (PySem.mem_of_lookup t);refine⟨c,keep x c (PySem.mem_of_lookup t) w,?_⟩;rcases l with⟨S,_⟩|⟨_,c',J,o,B,L⟩
  .rcases P with z|z<;>(rw[S]at z;cases z)
  .have d:=sub x c w;rw[J]at d;cases d;exact⟨o,g _ o B,L⟩
 .rcases d x c e with q|q
  .obtain⟨v,o,B,L⟩:=a.cell x c (sub x c q);exact⟨v,o,g c o B,L⟩
  .exact⟨u0,q.2.2⟩
 .rcases d x c e with q|q
  .exact a.bE x c (sub x c q)
  .exact a.G.M (Ab5 s (Ab5 (Ag C) q.1))
 .show(Aa4 k u0++aD.j λ(j:Nat)=>(U[j]?).x).e=N.e;have G:=ok.le;rw[Aa5,Ae3,Aa,ok.aD.length,Af];lia
def xZ(use)(hc:X.x=k9)(ok:w4 X scope N k aD)(hi:PI X tg iter wi)
 (hg:∀C fp s H,PG (Qe X N scope C fp s H) tg (g C fp s H))(ht:∀C fp s H,iD (Qe X N scope C fp s H) ifs (tc C fp s H))(he:∀C fp s H,PE (Qe X N scope C fp s H) elt (te C fp s H))
 (hs:∀x,foldedSetIterable iter X.j x=pure x)
 (I:Inv X pins U H s)(h:oq k aD wi g tc te U H Q)
 (fin:∀(D C:Addr)(oC:Obj)(m:Str->Option Value)(H4:Hp)(s4:Shared),Inv X (pins++[(C,oC)]) U H4 s4->bD X pins H4 C->Q (.j D) H4->(∀h:Heap,h.p C=y0 oC->h.Ns C m)→
   compPost (model X.p X.w) X.A X.xe use Q' (.j D) C (.ok .next) s4):
 wpAny (model X.p X.w) X.A (comprehension (.A elt [⟨tg,iter,ifs,0⟩] scope pos) scope X.j p0 (newList []) y9 (eval iter X.j) use) Q' X.xe s:=by
 have hcl:closureFor scope X.j=pure _:=wT λy hy hf=>I.j.has y.1 (ok.free y hy hf);refine wpAny_comprehension_free (use:=use) rfl hs hcl ok.kind ok.names (aN (hi pins s U H _ I h) λv s1 h1=>aN h1 λitv s2 h2=>?_);obtain⟨it,fp,tn,J,H2,e,I2,T,st2,f2,hW⟩:=h2;subst e;refine wpAny_newObj_type (jC ?_);dsimp only;generalize hHp:s2.j.u {cls:=.p "list",dict:=none,data:=.j ([]:List Value).u}=HP;have hCs:HP.j.j=s2.j.j.j+1:=by rw[←hHp,Ak]
 generalize hDD:s2.j.j.j=D at hCs⊢;have hns0:(HP.u {cls:=.p "dict",data:=.w #[]}).Ns HP.j.j fun _=>none:=Heap.Ns.new HP _;have hlk:∀x c,(iR scope HP.j.j X.j).p x=some c->(QT scope X.j).p x=some c\/(HP.j.j+1<=c/\(x,NameKind.cell)∈scope.j/\(pushCells (HP.u {cls:=.p "dict",data:=.w #[]}) scope.j).x c none):=fun x c e=>by refine pq scope.j _ _ True (λ_=>.p trivial) _ (by rw[Ak];exact Aa9 _) ?_;rw[Ak];exact e
 generalize hh1:pushCells _ scope.j=h₁ at hlk⊢;have hns₁:h₁.Ns HP.j.j λ_=>none:=by rw[←hh1];exact hns0.keeps (pushCells_keeps _ _)
 have hk1:∀b o,HP.p b=y0 o->h₁.p b=y0 o:=λb o e=>by rw[←hh1];exact pushCells_keeps _ _ b o (Ab1 _ e)
 generalize hCC:HP.j.j=C at hCs hns₁ hlk⊢;have hDC:D≠C:=by rw[hCs];exact Ac3 (Af9 _)
 have hle:s2.j.j.j<=C:=by rw[hDD,hCs];exact Ag _
 have hleD:s2.j.j.j<=D:=Al4 hDD;have fo:∀b∈fp,b<D:=λb hb=>by obtain⟨o,eo,_⟩:=T.obj _ _ st2 b hb;rw[←hDD];exact Ac eo
 have old:∀b o,s2.j.p b=y0 o->h₁.p b=y0 o:=λb o e=>by exact hk1 b o (hHp▸Ab1 _ e)
 have hacc:h₁.p D=y0 {cls:=.p "list",data:=.j ([]:List Value).u}:=by refine hk1 _ _ ?_;rw[←hHp,←hDD];exact Ac8 _ rfl
 obtain⟨W,⟨m0,w0⟩,turn⟩:=hW C fp s2;have I3:Inv _ [] _ H2 {s2 with heap:=h₁,toks:=s2.p}:=
  KU ok I2 f2 (λb hb=>by rw[hDD];exact fo b hb) hle hns₁ old hlk
 have st3:tn 0 h₁:=T.keep _ _ _ st2 λb _ o e=>old b o e;have hch:∀b∈fp,_/\b≠X.j.p/\(∀x c,X.j.u.p x=y0 c->c≠b)/\∀p∈X.pn++pins,p.1≠b:=λb hb=>⟨(f2 b hb).2.2.2.1,(f2 b hb).2.1,(f2 b hb).2.2.2.2.1,(f2 b hb).2.2.2.2.2⟩;have FD:∀{H':Hp},H' D=u0->bD X pins H' D:=λhn=>I2.d5 hleD hn;have FC:∀{H':Hp},H' C=u0->bD X pins H' C:=λhn=>I2.d5 hle hn;have sub:∀x c,(QT scope X.j).p x=y0 c->X.j.u.p x=y0 c:=WJ scope.j [] λx c e=>by simp at e
 have hDst:D∉cj X.B:=λz=>(Ab8.p (I2.dW D z)).j (FD (H':=λ_=>u0) rfl).2.1 (FD (H':=λ_=>u0) rfl).2.2.1;have hDc:∀x c,(iR scope C X.j).p x=y0 c->c≠D:=λx c e=>by
  rcases hlk x c e with q|q
  .exact(FD (H':=λ_=>u0) rfl).2.2.2.2.1 x c (sub x c q)
  .exact Ne.symm (Ac3 (Ab4 (by rw[hCs];exact Nat.lt_succ_of_lt (Af9 _)) q.1))
 have loop:∀s₃:Shared,s₃={s2 with heap:=h₁,toks:=s2.p}→
  codeAny (model X.p X.w) X.A (.compLoop (.A elt [⟨tg,iter,ifs,0⟩] scope pos) 0 (.j it) (.j D) (compEnvC scope (iR scope C X.j) C X.j))
   (compPost (model X.p X.w) X.A X.xe use Q' (.j D) C) s₃:=by
  rintro s₃ rfl;refine XW (λn s'=>∃i ys its kk τ H',Inv (Qe X N scope C fp s2 H2) [] τ H' s'/\tn i s'.j/\(∀b∈fp,H' b=u0)/\H' D=u0/\s'.j.p D=y0 {cls:=.p "list",data:=.j (its:List Value).u kk}/\Vals ys its/\W i n ys τ H') ?_ m0 ⟨0,[],[],0,_,H2,I3,st3,λb hb=>(f2 b hb).1,I2.G.M hleD,hacc,.p,w0⟩;rintro n s3 ⟨i,ys,its,kk,τ,H3,I3,st3,fr3,hD3,eD3,rv3,w3⟩;have IP:Inv (Qe X N scope C fp s2 H2) [(D,{cls:=.p "list",data:=.j its.u kk})] τ H3 s3:=I3.bX fun p hp=>by
   have e:p=(D,{cls:=.p "list",data:=.j its.u kk}):=by simpa using hp
   subst e;exact⟨eD3,hD3,hDC,hDst,λv z=>by cases z⟩
  have fpok:∀{H':Hp},(∀b∈fp,H' b=u0)->∀b∈fp,bD (Qe X N scope C fp s2 H2) [(D,{cls:=.p "list",data:=.j its.u kk})] H' b:=fun{H'} hn b hb=>by
   refine⟨hn b hb,I3.j.mh b hb|>.1,I3.j.fD b hb,.p hb,I3.j.mh b hb|>.2,λp hp=>?_⟩;have e:p=(D,{cls:=.p "list",data:=.j its.u kk}):=by have hp:p∈([]:List (Addr×Obj))++[(D,{cls:=.p "list",data:=.j its.u kk})]:=hp;simpa using hp
   rw[e];exact Ne.symm (Ac3 (fo b hb))
  rcases turn i n ys τ H3 w3 with⟨stop,hz,q⟩|⟨go,hz,NN,hN,step⟩
  .refine aN (T.done (Qe X N scope C fp s2 H2) rfl rfl rfl hc i _ s3 τ H3 _ IP (fpok fr3) st3 stop) ?_;rintro r s4 ⟨hr,I4⟩;subst hr;have I5:Inv X pins U H3 s4:=I2.i7 (ch:=fp) I4.os I4.u I4.G I4.K hch;have I6:=I5.adopt (FD hD3) (Ab5 I2.sz hleD) ((I4.N _ (Ab0 _ Aa3)).1) rv3 hz;obtain⟨m,⟨oC,es,ep,hoC,hdC,hr⟩,_⟩:=I4.loc;have fC:bD X pins (aE H3 D (.w ys)) C:=FC (by rw[Za (Ne.symm hDC)];exact I4.w);have I7:Inv X (pins++[(C,oC)]) U (aE H3 D (.w ys)) s4:=I6.bX λp hp=>(Ac6.p hp).j (λz=>I6.N p (Ab0 _ z)) λz=>by
    have e:p=(C,oC):=by simpa using z
    subst e;exact⟨hoC,fC.1,fC.2.1,fC.2.2.1,λv z=>by rw[hdC]at z;cases z⟩
   exact fin D C oC m _ s4 I7 fC (q D hD3) λh e=>⟨oC,es,ep,e,hdC,hr⟩
  .refine aN (T.item (Qe X N scope C fp s2 H2) rfl rfl rfl hc i _ s3 τ H3 _ IP (fpok fr3) st3 go) ?_;rintro r s4 ⟨u,hr,h4⟩;subst hr;refine aN h4 ?_;rintro _ s5 ⟨x,H5,I5,r5,y5,st5,fr5⟩;have I5':=I5.pinned (fpok fr5) (T.obj _ _ st5);refine wpAny_mono (hg C fp s2 H2 _ s5 τ H5 x u _ I5' r5 (step x H5 y5)) ?_ λ_ _ z=>False.elim z;rintro _ s6⟨U6,H6,I6,q6⟩;refine wpAny_mono (ht C fp s2 H2 _ s6 U6 H6 _ I6 q6) ?_ λ_ _ z=>False.elim z;rintro b s7⟨H7,I7,q7⟩;have hp5:∀b∈fp,∃o,s5.j.p b=y0 o:=λb hb=>let⟨o,e,_⟩:=T.obj _ _ st5 b hb;⟨o,e⟩;cases b with
|false=>
    rw[if_neg Ab9]at q7⊢;obtain⟨m',hm,w7⟩:=hN _ _ _ q7;refine⟨m',hm,i+1,ys,its,kk,U6,H7,I7.bX λp hp=>absurd hp (by simp),T.keep _ _ _ st5 λb hb o e=>(I7.N (b,o) (Ab0 _ (Ab0 _ (Jg hb e)))).1,λb hb=>?_,?_,?_,rv3,w7⟩
    .obtain⟨o,e⟩:=hp5 b hb;exact(I7.N (b,o) (Ab0 _ (Ab0 _ (Jg hb e)))).2.1
    .exact(I7.N _ (Ab0 _ (Ad _ Aa3))).2.1
    .exact(I7.N _ (Ab0 _ (Ad _ Aa3))).1
|true=>
    rw[if_pos rfl]at q7⊢;refine wpAny_mono (he C fp s2 H2 _ s7 U6 H7 _ I7 q7) ?_ λ_ _ z=>False.elim z;rintro y s8⟨yv,H8,I8,r8,q8⟩;have pD:=I8.N _ (Ab0 _ (Ad _ Aa3));have eD8:s8.j.p D=y0 {cls:=.p "list",data:=.j its.u kk}:=pD.1;have hD8:H8 D=none:=pD.2.1;have u8:=rv3.e;refine call_meets F.slot_list_append ⟨_,eD8,rfl⟩ F.entry_list_append (F.args_list_append_2 _ _) (PySem.list_append D its.u kk y (by rw[Ab3];lia)) ⟨eD8,?_⟩;obtain⟨m',hm,w8⟩:=hN _ _ _ q8;have IQ:Inv (Qe X N scope C fp s2 H2) (qL fp s5.j) U6 H8 s8:=I8.bX λp hp=>I8.N p (Ab0 _ (Ab0 _ hp));have e9:=PySem.IsL.update eD8 (·.push y);rw[show its.u.push y=(its++[y]).u by simp]at e9;have I9:Inv (Qe X N scope C fp s2 H2) (qL fp s5.j) U6 H8 {s8 with heap:=s8.j.w D (Obj.mapSeq (·.push y)),toks:=s8.p}:=
     IQ.turned (it:=D) (λb o hb e=>(Ak7 s8.j (Obj.mapSeq (·.push y)) (Ne.symm hb)).j e) hD8 hDC (.u hleD) hDc λp hp=>by have hp:p∈([]:List (Addr×Obj))++qL fp s5.j:=hp;have:=fo p.1 (Q5 (by simpa using hp)).1;exact Ac3 this
    refine⟨m',hm,i+1,ys++[yv],its++[y],_,U6,H8,I9.bX λp hp=>absurd hp (by simp),T.keep _ _ _ st5 λb hb o e=>(I9.N (b,o) (Ab0 _ (Jg hb e))).1,λb hb=>?_,hD8,e9,rv3.append (.j r8 .p),w8⟩;obtain⟨o,e⟩:=hp5 b hb;exact(I9.N (b,o) (Ab0 _ (Jg hb e))).2.1
 exact codeAny_compStart_list (loop _ rfl) (T.self _ 0 _ _ _ st3 (loop _ rfl))
def Li(ok:w4 X scope N k aD)(r:PI X tg iter wi)
 (j:∀C fp s H,PG (Qe X N scope C fp s H) tg (g C fp s H))(t:∀C fp s H,iD (Qe X N scope C fp s H) ifs (tc C fp s H))(v:∀C fp s H,PE (Qe X N scope C fp s H) elt (te C fp s H))
 (p:X.x=true:=by rfl)(u:∀x,foldedSetIterable iter X.j x=pure x:=by intro _;rfl):PE X (.A elt [⟨tg,iter,ifs,0⟩] scope pos) (oq k aD wi g tc te):=by
 intro i s U H Q I h;exact xZ u0 p ok r j t v u I h λD C z m n w f a q d=>⟨m,d _ (f.N _ (Ab0 _ (Ab0 _ Aa3))).1,λy c=>⟨.j D,n,(f.bR).turned (λb o l e=>c.extBut b o l e) a.1 a.2.1 a.2.2.2.1 a.2.2.2.2.1 a.2.2.2.2.2,rfl,q⟩⟩
def D3(w:X.N.C)(f:X.N[i]?=y0 x)(t:lN X.j.j x)(ok:w4 X scope N k aD)(E:PI X tg iter wi)
 (r:∀C fp s H,PG (Qe X N scope C fp s H) tg (g C fp s H))(G:∀C fp s H,iD (Qe X N scope C fp s H) ifs (tc C fp s H))(K:∀C fp s H,PE (Qe X N scope C fp s H) elt (te C fp s H))
 (d:swapsWith (.A elt [⟨tg,iter,ifs,0⟩] scope p0) (y0 (.j x pos')) pos.p X.j=pure true:=by rfl)
 (A:X.x=true:=by rfl)(J:∀x,foldedSetIterable iter X.j x=pure x:=by intro _;rfl)(y:X.fn x=k9\/X.j.j.j.p x=y0 .local:=by first|exact .inl rfl|exact .inr rfl|assumption):
 PS X (.j [.j x pos'] (.A elt [⟨tg,iter,ifs,0⟩] scope p0) pos) (iO (oq k aD wi g tc te) (XY i)):=by
 intro n s U H D I h;rw[exec_Assign_Name_used _ _ _ _ d];exact wpAny_bind (wpAny_standAt (wpAny_bind (wpAny_bind (wpAny_mono (xZ _ A ok E r G K J I h λp C P m z M B a q j=>wpAny_assign_Name (Jt B w f t (v:=.j p) rfl (λQ l=>⟨m,j _ (l.N _ (Ab0 _ (Ab0 _ Aa3))).1,λO c=>⟨_,z,(l.bR).turned (λb o u e=>c.extBut b o u e) a.1 a.2.1 a.2.2.2.1 a.2.2.2.2.1 a.2.2.2.2.2,q⟩⟩) y)) (λ_ L F=>wpAny_pure (wpAny_pure F)) λ_ _ e=>e))))
end
structure Px(P:Program)(w:World)(K:Ab)(mg:Str->Option Value)(base:Heap)(k:Nat)(x:Str)(ps:List Str)(sp:Sp):Prop where
 ex:∃f fd,bx P w K mg base mT k f fd ps sp/\Binds K fd ps []/\Ah5 K (.j f)=k9/\mg x=y0 (.j f)
open PySem PySem.Spec PySem.Calls PySem.W PyProof.Rows
structure l6(K:Frag)(C:Addr):Prop where
 ga:findIn K (.j C) "__getattribute__"=some (some (.u "BaseException.__getattribute__"))
 gn:findIn K (.j C) "__getattr__"=some none
 cl:findIn K (.j C) "__class__"=some (some (.u "object.__class__"))
 get:specialIn K (.u "object.__class__") "__get__"=some (some (.u "getset_descriptor.__get__"))
 set:takesIn K (.u "object.__class__")=some true
 obj:mroIn K C (.p "object")=some true
 bas:mroIn K C (.p "BaseException")=some true
 slf:kitCls K (.j C) (.j C)=y0 k9
 cls:(clsIn K C).u=k9
def ExcAt(h:Heap)(x C:Addr):Prop:=∃o,h.p x=y0 o/\o.cls=.j C
def ExcAt.type (e:ExcAt h x C):Looks M h (typeOf (.j x)) (.j C):=by obtain⟨o,b,a⟩:=e;rw[←a];exact(Looks.ld b).a3 Looks.now
section
variable{prog:Program}{w:World}{A:Around}{E:Value->Shared->Prop}{s:Shared}{K:Frag}{x C:Addr}
def W7(X:K.In s.j)(I:ExcAt s.j x C)(Z:l6 K C)(a:R (.ok (.ret (.j C))) s):
 codeAny (model prog w) A (.call (.u "getset_descriptor.__get__") ⟨[.u "object.__class__",.j x,tp],[]⟩) R s:=by
 obtain⟨f,b,dd,c,g⟩:=s;have d:=I.type (M:=model prog w);have e:=looks_mroIn (M:=model prog w) X Z.obj;refine codeAny_call_builtin KF.slot_gs.plain KF.entry_gs (KF.slot_gs.check _ _ _ _ _ _ _ _ KF.type_class (KF.args_gs _ _ _) ?_);unfold Builtin.«getset_descriptor.__get__»Builtin.Getset_descriptor.descrGet;rw[dga_obj];refine wpAny_bind (wpAny_pure ?_);unfold Builtin.Getset_descriptor.descrGetter Builtin.Getset_descriptor.descrCheckInstance Builtin.Getset_descriptor.descrNameAndClass isInstance;simp only[KF.owner_class]
 repeat lk
 refine⟨Code.quiet_builtin _ (by decide+kernel),codeAny_builtin KF.entry_class ?_⟩;unfold Builtin.«object.__class__»shownTypeOf
 repeat lk
 exact a
def Q0(X:K.In s.j)(I:ExcAt s.j x C)(Z:l6 K C)(q:Q (y0 (.j C)) {s with toks:=s.p+1}):
 wpAny (model prog w) A (getAttr? (.j x) "__class__") Q E s:=by
 obtain⟨c,e,dd,y,d⟩:=s;have h:=I.type (M:=model prog w);have n:=looks_findIn (M:=model prog w) X Z.ga;have r:=looks_findIn (M:=model prog w) X Z.gn;have l:=looks_findIn (M:=model prog w) X Z.cl;have Le:=looks_specialIn (M:=model prog w) X Z.get;have m:=looks_takesIn (M:=model prog w) X Z.set;have o:=looks_mroIn (M:=model prog w) X Z.bas;have b:Looks (model prog w) c (Builtin.ObjectAttr.find (.j x) (.j C) "__class__") (.bind (.u "getset_descriptor.__get__") (.u "object.__class__")):=by unfold Builtin.ObjectAttr.find;refine l.a3 ?_;refine Looks.andThen (show Looks (model prog w) c (Builtin.ObjectAttr.getOf (some (.u "object.__class__"))) (some (.u "getset_descriptor.__get__"))from Le) ?_;unfold Builtin.ObjectAttr.dataDescriptor?;refine Looks.andThen (a:=y0 (.u "getset_descriptor.__get__",.u "object.__class__")) (m.a3 ?_) (Looks.tag Looks.now);exact Looks.now
 have i:∀A g Q E t,Q (.done (.ret (.j C))) ⟨c,e,dd,t,d⟩→
  wpAny _ A (Builtin.«object.__getattribute__» ⟨[.j x,.str "__class__" g],[]⟩) Q E ⟨c,e,dd,t,d⟩:=fun A g Q E t f=>by
  unfold Builtin.«object.__getattribute__»;refine wpAny_bind (wpAny_of_eq (a:=(Value.ref x,[Value.str "__class__" g])) rfl ?_);dsimp only;refine wpAny_bind (wpAny_of_eq (a:=("__class__":Str)) rfl ?_);refine wpAny_bind (h.at (wpAny_bind (b.at ?_)));show wpAny _ _ (Builtin.ObjectAttr.bindTo _ _ _ _) _ _ _;unfold Builtin.ObjectAttr.bindTo;dsimp only;exact wpAny_bind (wpAny_holding (wpAny_call (W7 X I Z (wpAny_pure f))))
 have k:∀A j Q E t,Q () ⟨c,e,dd,t,d⟩→
  wpAny (model prog w) A (checkBuiltinCall "BaseException.__getattribute__" ⟨[.j x,j],[]⟩) Q E ⟨c,e,dd,t,d⟩:=fun A j Q E t f=>by
  have u:builtinKind "BaseException.__getattribute__"=some .slot:=by decide+kernel
  have p:splitId "BaseException.__getattribute__"=some ("BaseException","__getattribute__"):=by decide+kernel
  have v:=F.args_bexc_ga (.j x) j;simp only[checkBuiltinCall,u,p];refine wpAny_bind ((h.a3 o:Looks (model prog w) c (isInstance (.j x) (.p "BaseException")) true).at ?_);rw[if_neg (by decide)];exact wpAny_of_eq v f
 unfold getAttr? getAttrBy? getAttrBy;refine wpAny_bind (wpAny_mkText (wpAny_bind (wpAny_attempt (wpAny_holding (wpAny_bind (h.at (wpAny_bind (n.at ?_))))))));show wpAny _ _ (getAttrByItsOwn _ _ _ _ _ _) _ _ _;unfold getAttrByItsOwn hookBefore;refine wpAny_bind (r.at ?_);refine wpAny_bind (wpAny_attempt (wpAny_holding ?_));show wpAny _ _ (boundAndCalled (.u "BaseException.__getattribute__") (.j x) _) _ _ _;unfold boundAndCalled;refine wpAny_bind (wpAny_of_eq (F.excAttr_ValueError.ga.bind _) ?_);refine wpAny_call (codeAny_call_builtin F.excAttr_ValueError.ga.plain F.entry_bexc_ga (k _ _ _ _ _ (i _ _ _ _ _ ?_)));show wpAny _ _ (handedOut (.j C)) _ _ _;exact handed_on rfl (wpAny_pure q)
end
def QS{K:Frag}(Z:l6 K C):KitX K (.j x) (.j C) (λh=>ExcAt h x C) where
 ty:=λ_ _ _ I=>I.type
 it:=λM h X _=>(kit_cls X Z.slf).2.1
 ne:=λh f dd d n sl X b=>by
  rw[Aj7];intro q;have e:=Value.ref.inj (beq_iff_eq.p q);subst e;have z:=Z.cls;cases a:K.p C with
|none=>simp[clsIn,a]at z
|some o=>have c:=X C o a;rw[b]at c;cases c;simp[clsIn,a]at z
 ca:=λX I k=>Q0 X I Z k
noncomputable def g7(x C:Addr)(a:Option Addr):HO:=.ext λh=>∃o,h.p x=y0 o/\o.cls=.j C/\notCls o=k9/\∀dx,a=y0 dx->o.w=y0 dx
def MJ(e:h.p x=y0 o)(d:o.cls=.j C)(f:notCls o=k9)(c:∀dx,od=y0 dx->o.w=y0 dx):aT P w H h x (g7 x C od):=
 ⟨⟨o,e,d,f,c⟩,⟨o,e⟩,by rintro g i⟨o,a,b⟩k;exact⟨o,k o a,b⟩⟩
def yb(K:Frag):List V->Hp->VK->Prop:=λxs H Q=>∃x C a b,l6 K C/\H x=y0 (g7 x C a)∧
 ((∃(D:Addr),xs=[.j x,.j D]/\kitOne K (.j C) (.j D)=y0 b)\/(∃(T:String),xs=[.j x,.ty T]/\kitOne K (.j C) (.p T)=y0 b)∨
   ∃(t:Addr)(ds:List Addr),xs=[.j x,.j t]/\H t=y0 (.tup (ds.j V.ref))/\kitAny K (.j C) (ds.j Value.ref)=y0 b)/\Q (.bl b) H
theorem Q3:∀{ds:List Addr}{us},Vals (ds.j V.ref) us->us=ds.j Value.ref
|[],_,.p=>rfl
|_::_,_,.j r t=>by cases r;rw[Q3 t];rfl
def vJ:Zs X (.u "isinstance") (yb X.K):=by
 intro j s U H B y Q I r h;obtain⟨x,C,J,b,Z,l,v,q⟩:=h;have ex:ExcAt s.j x C:=let⟨o,a,b,_⟩:=(I.G x _ l).1;⟨o,a,b⟩;obtain⟨D,rfl,e⟩|⟨T,rfl,e⟩|⟨t,F,rfl,w,e⟩:=v
 .obtain⟨u,i,rfl,f,c⟩:=mG r;cases f;cases c;exact kia_one (QS Z) I.bK ex e (λz=>nomatch z) λd=>⟨.bl b,H,I.tok d,rfl,q⟩
 .obtain⟨u,i,rfl,f,c⟩:=mG r;cases f;cases c;exact kia_one (QS Z) I.bK ex e (λz=>nomatch z) λd=>⟨.bl b,H,I.tok d,rfl,q⟩
 .obtain⟨u,i,rfl,f,c⟩:=mG r;cases f;cases c;obtain⟨_,p,rv,o,k,m,_,n,g⟩:=I.G t _ w;rw[Q3 rv]at g;obtain⟨G,A,E,sl⟩:=o;subst m g;exact kia_tup (QS Z) I.bK ex k e (λz=>nomatch z) λd=>⟨.bl b,H,I.tok d,rfl,q⟩
def DK(h h':Heap):Prop:=∀b o,h.p b=y0 o->∃o',h'.p b=y0 o'/\o'.w=o.w
def DK.refl (h):DK h h:=λ_ o e=>⟨o,e,rfl⟩
theorem DK.trans (x:DK a b)(y:DK b c):DK a c:=λi o e=>
 let⟨f,e1,g⟩:=x i o e;let⟨h,e2,d⟩:=y i f e1
 ⟨h,e2,d.j g⟩
def KD{b:Type}:Sem b->Prop
|.pure _=>True
|.raise _=>True
|.unsupported _=>True
|.finish _=>True
|.register _ _=>True
|.rule _ k=>KD (k ())
|.at _ k=>KD (k ())
|.load _ _ k=>∀o,KD (k o)
|.update _ _ f k=>(∀o,(f o).w=o.w/\(o.isFreed=y9->(f o).isFreed=y9))/\KD (k ())
|.alloc _ k=>∀a,KD (k a)
|.loadIfAlive _ k=>∀o,KD (k o)
|.point _ k=>KD (k ())
|.fresh k=>∀t,KD (k t)
|.ask k=>∀t,KD (k t)
|.handled _ k=>∀t,KD (k t)
|.stack k=>∀t,KD (k t)
|.thread k=>∀t,KD (k t)
|_=>False
theorem KD.bind (c:∀a,KD (f a))(h:KD m):KD (m.bind f):=by
 induction m with
|pure a=>exact c a
|raise _=>exact trivial
|unsupported _=>exact trivial
|finish _=>exact trivial
|register _ _=>exact trivial
|rule _ k b=>exact b () h
|«at»_ k b=>exact b () h
|load _ _ k b=>exactλo=>b o (h o)
|update _ _ _ k b=>exact⟨h.1,b () h.2⟩
|alloc _ k b=>exactλo=>b o (h o)
|loadIfAlive _ k b=>exactλo=>b o (h o)
|point _ k b=>exact b () h
|fresh k b=>exactλo=>b o (h o)
|ask k b=>exactλo=>b o (h o)
|handled _ k b=>exactλo=>b o (h o)
|stack k b=>exactλo=>b o (h o)
|thread k b=>exactλo=>b o (h o)
|_=>exact False.elim h
theorem DK.push (h)(o):DK h (h.u o):=λb u e=>⟨u,Ab1 _ e,rfl⟩
theorem DK.update (h)(a)(c:∀o,(f o).w=o.w/\(o.isFreed=y9->(f o).isFreed=y9)):DK h (h.w a f):=λb u e=>by
 by_cases q:a=b
 .subst q;exact⟨f u,Al2 f e ((c u).2 (Heap.get?_some_iff.p e).2),(c u).1⟩
 .exact⟨u,by rw[Ak7 _ _ q];exact e,rfl⟩
def Hh:∀{p}{s},KD t->DK h0 s.j->Sem.wp M Y t Q E p s→
 Sem.wp M Y t (λa p s'=>Q a p s'/\DK h0 s'.j) (λe p s'=>E e p s'/\DK h0 s'.j) p s:=by
 induction t with
|pure a=>exactλk d h=>⟨h,d⟩
|raise _=>exactλk d h=>⟨h,d⟩
|unsupported _=>exactλk d h=>h
|finish _=>exactλk d h=>h
|register _ _=>exactλk d h=>h
|rule _ t b=>exactλk d h=>b () k d h
|«at»_ t b=>exactλk d h=>b () k d h
|load _ _ t b=>exactλk d ⟨o,e,h⟩=>⟨o,e,b o (k o) d h⟩
|update a _ f t b=>exactλk d ⟨e,h⟩=>⟨e,b () k.2 (d.trans (DK.update _ _ k.1)) h⟩
|alloc o t b=>exactλk d h=>b _ (k _) (d.trans (DK.push _ _)) h
|loadIfAlive _ t b=>exactλk d h=>b _ (k _) d h
|point _ t b=>exactλk d h=>b () k d h
|fresh t b=>exactλk d h=>b _ (k _) d h
|ask t b=>exactλk d h=>b _ (k _) d h
|handled _ t b=>exactλk d h=>b _ (k _) d h
|stack t b=>exactλk d h=>b _ (k _) d h
|thread t b=>exactλk d h=>b _ (k _) d h
|_=>exactλk=>False.elim k
def JV(k:KD t)(h:wpAny M A t Q E s):
 wpAny M A t (λa s'=>Q a s'/\DK s.j s'.j) (λe s'=>E e s'/\DK s.j s'.j) s:=λY p b=>Hh k (DK.refl _) (h Y p b)
def W8(v):KD (fieldsOf v):=by
 cases v<;>first|exact trivial|skip
 refine KD.bind (λo=>?_) λ_=>trivial;split<;>exact trivial
def jH(v)(i):KD (field v i):=by refine KD.bind (λo=>?_) (W8 v);split<;>exact trivial
def Q9{c:Bool}(e:KD a)(d:KD b):KD (if c then a else b):=by cases c<;>assumption
def Zx(v)(i)(x):KD (setField v i x):=by
 cases v<;>first|exact trivial|skip
 refine KD.bind (λo=>?_) λ_=>trivial;split
 .split
  .refine⟨λo=>?_,trivial⟩;obtain⟨c,d,a,sl⟩:=o;cases a<;>exact⟨rfl,λz=>z⟩
  .exact trivial
 .exact trivial
def JQ(f)(b):KD (entryPlaceOf f b):=by refine KD.bind (λo=>?_) λ_=>trivial;split<;>exact trivial
def w9(a b c d e)(p):KD (EntryCells.newEntry a b c d e p):=by
 have f:∀g:Array Value,KD (if g.j>sizeLine+2 then do
  unsupported "record:memory"
  else newObjAsIs (Value.type "traceback") (Data.fields g)):=fun g=>by
  split
  .exact trivial
  .unfold newObjAsIs;exactλ_=>trivial
 exact f _
theorem uv:∀l:List Env,KD (readyFrames l)
|[]=>trivial
|env::outer=>by
  unfold readyFrames;split
  .refine KD.bind (λo=>?_) λ_=>trivial;refine Q9 trivial ?_;refine KD.bind (λi=>?_) ?_
   .refine KD.bind (λb=>?_) ?_
    .refine KD.bind (λ_=>uv outer) ⟨λo=>⟨rfl,λz=>?_⟩,trivial⟩;obtain⟨c,d,a,sl⟩:=o;cases a<;>exact z
    .unfold keptBack;split
     .refine Q9 trivial ?_;refine KD.bind (λ_=>trivial) ?_;exactλ_=>trivial
     .exact trivial
   .unfold behindIsImport;refine Q9 trivial (Q9 trivial ?_);exact KD.bind (λ_=>trivial) (jH _ _)
  .exact trivial
def Mu(env):KD (PySem.frameOf env):=by
 refine KD.bind (λl=>?_) λ_=>trivial;refine KD.bind (λo=>?_) ?_
 .split<;>exact trivial
 .unfold frameObject;split
  .exact trivial
  .exact KD.bind (λ_=>trivial) (uv _)
def AY(e)(env):KD (noteFrame e env):=by
 unfold noteFrame;split
 .refine KD.bind (λf=>?_) (jH _ _);have d:KD (do setField e 1 (←EntryCells.newEntry f (←PySem.frameOf env) .w (rawInt ‹Addr›) .w (←entryPlaceOf ‹Addr› (f !=.w)))):=
   KD.bind (λa=>KD.bind (λb=>KD.bind (λc=>Zx _ _ _) (w9 _ _ _ _ _ _)) (JQ _ _)) (Mu env)
  refine Q9 ?_ d;refine KD.bind (λx=>?_) (jH _ _);refine Q9 trivial ?_;exact KD.bind (λ_=>d) (Zx _ _ _)
 .exact trivial
def QI(e)(f):KD (setFlight e f):=by refine KD.bind (λx=>?_) (jH _ _);exact Q9 (Zx _ _ _) trivial
def QQ(env)(e):KD (leaving env e):=KD.bind (λ_=>QI e u0) (AY e env)
def aT.there (x:aT P w H h a o):∃u,h.p a=y0 u:=by
 cases o with
|lst c=>exact⟨_,x.2.choose_spec.choose_spec.2⟩
|tup c=>obtain⟨_,_,_,u,e,_⟩:=x;exact⟨u,e⟩
|dK b=>obtain⟨_,_,_,_,u,_,_,e,_⟩:=x;exact⟨u,e⟩
|dT b=>obtain⟨_,_,_,_,u,_,_,e,_⟩:=x;exact⟨u,e⟩
|set S n=>obtain⟨u,_,_,_,e,_⟩:=x;exact⟨u,e⟩
|ins C d fs=>obtain⟨_,_,_,e,_⟩:=x;exact⟨_,e⟩
|own y=>exact x
|xd fs=>obtain⟨_,⟨u,_,_,e,_⟩,_⟩:=x;exact⟨u,e⟩
|iV j g=>obtain⟨_,_,_,e⟩:=x;exact⟨_,e⟩
|eJ k u=>exact⟨_,x.1⟩
|iM l=>exact⟨_,show h.p a=y0 _ from x⟩
|met f y=>exact⟨_,show h.p a=y0 _ from x⟩
|ext i=>exact x.2.1
def dq(P:Program)(w:World):hG:=λouter H s E e s'=>∃(x C t:Addr)(B:Heap)(H':Hp)(a:Option Addr),e=.j x/\s'.os=s.os/\AllBare s'.gens∧
 Am2 B outer x (.j C) (.j t) s'.j/\Un (cj outer) [] H H' s.j s'.j/\dm P w H' s'.j∧
 (∀b o,s'.j.p b=y0 o->((∃u,H' b=y0 u)\/∃u,s.j.p b=y0 u)->b∉cj outer->B.p b=y0 o)/\s.j.p x=u0/\(∀dx,a=y0 dx->∃o,s'.j.p x=y0 o/\o.w=y0 dx)/\E (.j C) a H'
noncomputable def f6(C t:Addr)(a:Option Addr):Obj:={cls:=.j C,dict:=a,data:=.u #[.j t,.w,.w,.w,.x y9,.w]}
section
variable{P:Program}{w:World}{K:Frag}{mg:Str->Option Value}{base:Heap}{N:List Str}{y8:Str}{scope:Scope}{f:Addr}{cd:Value}{A:Around}{outer:List Env}{s:Shared}{H:Hp}{E:XK}
def MI(I:Inv (fH (dq P w) P w K mg base N y8 scope f cd A outer s H E) pins U H1 s2)
 (he:s2.j.p e=y0 (f6 C t od))(new:s.j.p e=u0)(h0:H1 e=u0)(q:E (.j C) od H1):(fH (dq P w) P w K mg base N y8 scope f cd A outer s H E).xe (.j e) s2:=by
 have ff:=I.stack;have fb0:=funFrames_hide (as:=e::cj _) ff λenv he a ha=>Aa2 _ (Ap0.u ⟨env,he,ha⟩);have free:=I.cX;have fe:e∉cj _:=λhm=>by obtain⟨_,o,ho,nf⟩:=ff.mem hm;rw[he]at ho;cases ho;exact nf _ rfl
 refine wpAny_mono (JV (QQ _ _) (wpAny_leaving_firstW (E:=λ_ _=>False) (Q:=λ_ s'=>Heap.LeftW (hideAll s2.j (e::cj (envOfC y8 scope s.j.j.j f cd::outer))) _ e (.j C) (.j t) s2.j s'.j/\s'={s2 with heap:=s'.j}) I.j.frames fb0 rfl he (λb o z=>of_hideAll _ z) (hideAll_none _ (Aa3 ..)) rfl rfl rfl λh' hL=>⟨hL,rfl⟩)) ?_ (λ_ _ z=>z.1.j);rintro _ s'⟨⟨hL,hs⟩,dk⟩;obtain⟨k1,k2,k3,x4⟩:=hL;obtain⟨h2,g2,d2,t2,o2⟩:=s';simp only[Shared.mk.injEq]at hs;obtain⟨-,rfl,rfl,rfl,rfl⟩:=hs;have fA:∀b o,s2.j.p b=y0 o->b≠e->b∉cj _->(hideAll s2.j (e::cj (envOfC y8 scope s.j.j.j f cd::outer))).p b=y0 o:=λb o z ne n=>hideAll_get _ z (by rw[Ab8];exactλq=>q.j ne n);have toH:∀b o,s2.j.p b=y0 o->b≠e->b∉cj _->h2.p b=y0 o:=λb o z ne n=>k1 b o (fA b o z ne n);have slotH:∀b o,b∈cj _->s2.j.p b=y0 o->∃sl,h2.p b=y0 {o with slots:=sl}:=λb o hb z=>by obtain⟨_,o',z',nf⟩:=ff.mem hb;rw[z]at z';cases z';exact x4 b o z nf
 have cut:∀b,b∉cj outer->b≠s.j.j.j->b∉cj (envOfC y8 scope s.j.j.j f cd::outer):=λb n1 n2 hb=>by
  rcases Ab8.p (show b∈s.j.j.j::cj outer from hb)with z|z
  .exact n2 z
  .exact n1 z
 have old:∀b o,s.j.p b=y0 o->b≠s.j.j.j:=λb o z=>Ac3 (Ac z);have olde:∀b o,s.j.p b=y0 o->b≠e:=λb o z q=>by rw[q,new]at z;cases z
 have el:∀b u,H1 b=y0 u->b≠e/\b∉cj _:=λb u z=>⟨λq=>(by simp_all),λhb=>(by rw[free b hb]at z;cases z)⟩;refine⟨e,C,t,_,H1,od,rfl,I.os,I.K,⟨k1,hideAll_none _ (Aa3 ..),k2.2.2,k3⟩,⟨λb o z n hb hx=>?_,λb o z n hb hx=>?_,I.u.w,λb o z hx=>?_,I.u.c8,I.u.cQ,I.u.dc⟩,λb u z=>?_,λb o z hc hb=>?_,new,λdx z=>?_,q⟩
 .exact toH b o (I.u.keep b o z n hb hx) (olde b o z) (cut b hb (old b o z))
 .obtain⟨sl,z1⟩:=I.u.slot b o z n hb hx;obtain⟨sl2,z2⟩:=slotH b _ (Aa2 _ hb) z1;exact⟨sl2,z2⟩
 .obtain⟨o',z1⟩:=I.u.j b o z hx;by_cases hb:b∈cj (envOfC y8 scope s.j.j.j f cd::outer)
  .obtain⟨sl,z2⟩:=slotH b o' hb z1;exact⟨_,z2⟩
  .exact⟨o',toH b o' z1 (olde b o z) hb⟩
 .refine(I.G b u z).cT (λc v hc z1=>?_) (λ_ z1=>z1) λ_ _ z1=>z1;obtain rfl|hc:=hc
  .exact toH c v z1 (el c u z).1 (el c u z).2
  .exact toH c v z1 (el c _ hc).1 (el c _ hc).2
 .have two:∃o2,s2.j.p b=y0 o2/\b≠e/\b∉cj (envOfC y8 scope s.j.j.j f cd::outer):=by
   obtain⟨u,hu⟩|⟨u,hu⟩:=hc
   .obtain⟨o2,z2⟩:=(I.G b u hu).there;exact⟨o2,z2,el b u hu⟩
   .obtain⟨o2,z2⟩:=I.u.j b u hu (by show b∉([]:List Addr);simp);exact⟨o2,z2,olde b u hu,cut b hb (old b u hu)⟩
  obtain⟨o2,z2,nb⟩:=two;have z3:=toH b o2 z2 nb.1 nb.2;rw[show h2.p b=y0 o from z]at z3;cases z3;exact fA b _ z2 nb.1 nb.2
 .obtain⟨o',e1,e2⟩:=dk e _ he;exact⟨o',e1,e2.j z⟩
end
section
variable{P:Program}{w:World}{K:Frag}{mg:Str->Option Value}{base:Heap}{N:List Str}{y8:Str}{scope:Scope}{f:Addr}{cd:Value}{A:Around}{outer:List Env}{s:Shared}{H:Hp}{E:XK}
noncomputable abbrev ni:List Value:=[.p "ValueError",.p "Exception",.p "BaseException",.p "object"]
def kA.sD {st:Stmt}(F:kA K x y8 st f fd)(S:zB N ps (Zm st))(len:∀vs H Q E,sp vs H Q E->vs.e=ps.e)
 (a:∀i A outer s H vs Q E,bc k (A.deeper (envOfC y8 (Zm st) s.j.j.j f i))->sp vs H Q E→
   ∃t,dt (fH (dq P w) P w K mg base N y8 (Zm st) f i A outer s H E) (zI st) t/\t {nx:=λ_ H'=>Q .aw H',rt:=Q} (start N vs) H):bx P w K mg base (dq P w) (k+1) f fd ps sp:=by
 obtain⟨oc,n,kV,d,m,l,i,j,h,rfl,g,c⟩:=F.ex;exact Mh g c S len λA outer s H vs Q E e b=>a i A outer s H vs Q E e b
def Iu:PassesOwn (model P w) (A.deeper (envOfC y8 scope s.j.j.j f cd)) (envOfC y8 scope s.j.j.j f cd) (fH (dq P w) P w K mg base N y8 scope f cd A outer s H E).xe:=
 PassesOwn.leaving
end
section
variable{X:Cx}{pins:List (Addr×Obj)}{U:St}{H:Hp}{s:Shared}
def Inv.hU (I:Inv X pins U H s)(f:Al3 X.j.p s.j h')(l:h'.Ns X.j.p m')
 (k:∀(i:Nat)(x:Str)(v:V),X.N[i]?=y0 x->U'[i]?=y0 (y0 v)->kF X.j.j x->∃u,RelV v u/\Av X.j h' m' x u)(len:U'.e=X.N.e):Inv X pins U' H {s with heap:=h',toks:=t'}:=by
 have a:∀b o,X.s₀.j.p b=y0 o->b≠X.j.p:=λb o e=>Ac3 (Ab4 (Ac e) I.j.above);refine⟨I.j,I.os,I.K,⟨λb o e n j g=>(f.2 b (a b o e)).j (I.u.keep b o e n j g),λb o e n j g=>?_,I.u.w,λb o e g=>?_,I.u.c8,I.u.cQ,I.u.dc⟩,⟨m',l,k⟩,λy c e=>?_,I.w,I.bE,λp m=>?_,λb u e=>?_,len⟩
 .obtain⟨sl,e1⟩:=I.u.slot b o e n j g;exact⟨sl,(f.2 b (a b o e)).j e1⟩
 .obtain⟨q,e1⟩:=I.u.j b o e g;exact⟨q,(f.2 b (a b o e)).j e1⟩
 .obtain⟨v,z⟩:=I.cell y c e;exact⟨v,z.sameBut f (I.ic y c e)⟩
 .obtain⟨e,n,ne,r⟩:=I.N p m;exact⟨(f.2 p.1 ne).j e,n,ne,r⟩
 .refine(I.G b u e).cT (λc v d z=>(f.2 c ?_).j z) (λ_ z=>z) λ_ _ z=>z;intro h;obtain d|d:=d
  .rw[←d,h,I.w]at e;cases e
  .rw[h,I.w]at d;cases d
def Inv.i8 (I:Inv X pins U H s)(j:H D=u0)(h1:D≠X.j.p)(k:∀x c,X.j.u.p x=y0 c->c≠D)(l:∀p∈X.pn++pins,p.1≠D)(a:∀b u,X.s₀.j.p b=y0 u->b≠D)
 (new:aT X.p X.w (aE H D o) s.j D o):Inv X pins U (aE H D o) s:=by
 have up:∀b u,H b=y0 u->aE H D o b=y0 u:=λb u q=>by rw[Za (jb q j)];exact q
 refine⟨I.j,I.os,I.K,⟨I.u.keep,I.u.slot,λb u e n i=>?_,I.u.j,λb f q=>up b _ (I.u.c8 b f q),λb u v q=>up b _ (I.u.cQ b u v q),λb r q=>?_⟩,I.loc,I.cell,?_,λx c q=>?_,λp g=>?_,λb u q=>?_,I.len⟩
 .rw[Za (a b u e)];exact I.u.w b u e n i
 .obtain⟨more,h⟩:=I.u.dc b r q;exact⟨more,up b _ h⟩
 .rw[Za (Ne.symm h1)];exact I.w
 .rw[Za (k x c q)];exact I.bE x c q
 .obtain⟨m,a2,a3⟩:=I.N p g;exact⟨m,by rw[Za (l p g)];exact a2,a3⟩
 .by_cases d:b=D
  .subst d;rw[zb]at q;cases q;exact new
  .rw[Za d]at q;exact(I.G b u q).cT (λ_ _ _ z=>z) (λc z=>up c _ z) λc f z=>up c _ z
def NJ(I:Inv X pins U H s)(B:X.N.C)(q:X.N[i]?=y0 n)(p:X.j.j.j.p n=y0 .local)
 (h:∀s',Inv X pins (U.x i u0) H s'->Q () s'):wpAny M A (do bindName X.j n .w;unbindBehindTheSuite X.j n hp) Q E s:=by
 have f:(X.j.j.p==.class||(X.j.j.p==.module&&X.j.p !=X.j.globals))=false:=by rw[I.j.kind];rfl
 have x:X.j.w n=y0 .local:=p;have o:i<U.e:=by rw[I.len];exact(Aa1.p q).1
 refine wpAny_bind (wpAny_bindName (Jt I B q (.p p) (v:=.aw) rfl (λG w=>?_) (.u p)));obtain⟨m,C,a⟩:=w.loc;have d:(m n).u=true:=by
  obtain⟨u,_,l⟩:=a i n .aw q (Ab6 o) (.p p);obtain⟨_,e⟩|⟨z,_⟩:=l
  .rw[e];rfl
  .rcases z with z|z<;>(rw[x]at z;cases z)
 refine wpAny_onRaise ?_;refine wpAny_bind (wpAny_point (wpAny_bind ?_));unfold deleteName;simp only[x,f];refine wpAny_bind (wpAny_nsDel_keeps C λJ v t g=>?_);rw[d];refine wpAny_pure (wpAny_point (h _ ?_));refine w.hU g t (λj y D e1 e2 F=>?_) (by rw[Ad4];exact I.len);have b:j≠i:=λz=>by subst z;rw[Ab6 o]at e2;cases e2
 rw[Ad0 (Ne.symm b)]at e2;obtain⟨u,r,l⟩:=a j y D e1 (by rw[Ad0 (Ne.symm b)];exact e2) F;refine⟨u,r,?_⟩;obtain⟨k,e⟩|⟨k,c,e,z⟩:=l
 .refine .p ⟨k,?_⟩;have:y≠n:=λe=>b (XQ B e1 (e▸q));simp[this,e]
 .exact .u ⟨k,c,e,z.sameBut g (w.ic y c e)⟩
end
def CN{K:Frag}(X:K.In s.j)(I:ExcAt s.j x C)(z:kitCls K (.j C) (.j W)=some true)(c:mroIn K W (.p "BaseException")=some true)(e:Q true s):
 wpAny (model prog w) A (excMatches (.j x) (.j W)) Q E s:=by
 obtain⟨a,g,dd,h,k⟩:=s;obtain⟨d,f,j⟩:=kit_cls X z;have b:=looks_mroIn (M:=model prog w) X c;have Le:=I.type (M:=model prog w);have i:Looks (model prog w) a (isInstance _ _) false:=d.a3 (Looks.of_pure tc_notTuple);have l:Looks _ a (isExcClass _) true:=f.a3 b
 repeat lk
 exact e
def rF{i s':Shared}(j:Inv X pins U H1 i)(w:s'.os=i.os)(h:AllBare s'.gens)(un:Un (cj X.B) [] H1 H' i.j s'.j)(l:dm X.p X.w H' s'.j)
 (comp:∀b o,s'.j.p b=y0 o->((∃u,H' b=y0 u)\/∃u,i.j.p b=y0 u)->b∉cj X.B->B.p b=y0 o)(f:Am2 B X.B x (.j C) (.j t) h6)(r:s'.j.A h6):Inv X pins U H' {s' with heap:=h6}:=by
 have el:∀c u,H' c=y0 u->c∉cj X.B:=λc u z d=>by obtain⟨_,o,e,_⟩:=j.stack.mem d;have:=un.w c o e (j.cX c d) (by simp);rw[this]at z;cases z
 refine j.i7 (s':={s' with heap:=h6}) (ch:=[]) w ⟨λb o e n a g=>?_,λb o e n a g=>?_,un.w,λb o e g=>?_,un.c8,un.cQ,un.dc⟩ (λb u e=>?_) h λb a=>absurd a (by simp)
 .exact f.1 b o (comp b o (un.keep b o e n a g) (.u ⟨o,e⟩) a)
 .obtain⟨sl,e1⟩:=un.slot b o e n a g;obtain⟨_,k,e2,p⟩:=j.stack.mem a;rw[e]at e2;cases e2;obtain⟨m,s⟩:=r b _ e1 p;exact⟨m,s⟩
 .obtain⟨k,e1⟩:=un.j b o e g;by_cases a:b∈cj X.B
  .obtain⟨_,q,e2,_⟩:=f.2.2.1.mem a;exact⟨q,e2⟩
  .exact⟨k,f.1 b k (comp b k e1 (.u ⟨o,e⟩) a)⟩
 .refine(l b u e).cT (λc v d z=>?_) (λ_ z=>z) λ_ _ z=>z;obtain rfl|d:=d
  .exact f.1 c v (comp c v z (.p ⟨u,e⟩) (el c u e))
  .exact f.1 c v (comp c v z (.p ⟨_,d⟩) (el c _ d))
def W6{R:Heap->Prop}(k:KD t)(h:∀i:Unit->Shared->Prop,(∀h',R h'->i () {s with heap:=h'})->wpAny M A t i E s)(g:∀h',R h'->DK s.j h'->Q () {s with heap:=h'}):wpAny M A t Q E s:=
 wpAny_mono (JV k (h (λ_ a=>∃h',a={s with heap:=h'}/\R h') λh' r=>⟨h',rfl,r⟩)) (λ_ a ⟨⟨h',e,r⟩,b⟩=>by subst e;exact g h' r b) (λ_ _ z=>z.1)
def bx.calm {K:Frag}(F:bx P w K mg base (dq P w) k f fd ps sp)
 (h:∀vs H Q E,sp0 vs H Q E->sp vs H Q (λ_ _ _=>False)):bx P w K mg base mT k f fd ps sp0:=by
 refine⟨λvs H Q E q=>F.len vs H Q _ (h _ _ _ _ q),λA a s H b d vs Q E i n g l m=>codeAny_mono (F.run A a s H b d vs Q _ i n g l (h _ _ _ _ m)) λres o c=>?_⟩;cases res with
|ok e=>
  cases e with
  |ret u=>exact c
  |next=>exact c
  |brk=>exact c
  |cont=>exact c
|error r=>obtain⟨x,C,t,B,p,_,_,_,_,_,_,_,_,_,_,j⟩:=c;exact j
def FN:bootBuiltins "ValueError"=some (.p "ValueError"):=by decide+kernel
section
variable{X:Cx}
def Vals.kr (r:Vals xs us){i:Nat}(h:us[i]?=y0 u):∃x,xs[i]?=y0 x/\RelV x u:=by
 have e:=r.e;have d:=(Aa1.p h).1;have b:i<xs.e:=by lia
 obtain⟨f,a,c⟩:=r.get (Aa6 b);rw[h]at a;cases a;exact⟨_,Aa6 b,c⟩
def Of(bs:List Bool):(Aa7 bs.e).N (λi=>bs.L i y9)=bs.N id:=by
 induction bs with
|nil=>rfl
|cons b bs a=>rw[Aa8,Ah3,Al6,An8,Al6,←a];rfl
def Md(bs:List Bool):(Aa7 bs.e).A (λi=>bs.L i y9)=bs.A id:=by
 induction bs with
|nil=>rfl
|cons b bs a=>rw[Aa8,Ah3,Ag4,Ap8,Ag4,←a];rfl
def QZ{bs:List Bool}(r:Vals (bs.j V.bl) its):TruthOf P w A (λi v=>its.u[i]?=y0 v) (λi=>bs.L i y9):=by
 intro i v s Q E f d;obtain⟨x,a,g⟩:=r.kr (by simpa using f);rw[Ac2]at a;cases c:bs[i]? with
|none=>rw[c]at a;cases a
|some b=>
  rw[c]at a;cases a;cases g;refine wpAny_truthy_bool ?_;have e:bs.L i y9=b:=by rw[Ac7,c];rfl
  rw[←e];exact d
def Mq(m:X.x=k9):Zs X (.u "all") (fun xs H Q=>∃p,∃bs:List Bool,xs=[.j p]/\bA X.K H p (bs.j V.bl)/\Q (.bl (bs.N id)) H):=by
 intro c s U H xs w Q I r h;obtain⟨p,bs,rfl,v,q⟩:=h;obtain⟨u,rfl,n⟩:=wM r;cases n;obtain⟨f,rv,pl,x⟩:=I.C v;have a:=rv.e;rw[Aa]at a;refine call_all_walk (wpAny_pyIter_list pl.J ?_);have d:p≠s.j.j.j:=by obtain⟨o,l,_⟩:=pl.J;exact Ac3 (Ac l)
 refine⟨s.j.j.j,_,_,_,_,_,λi=>bs.L i y9,rfl,Walks.list (A:=X.A.j) (I.j.hd m) _ p d f.u,⟨⟨_,Ac8 _ rfl,rfl,rfl⟩,pl.J.at λo e=>Ab1 _ e⟩,QZ rv,λk j g=>?_⟩;have t:Inv X c U H {s with heap:=k,toks:=j}:=I.Q λb o e=>g b o (by simp;exact Ac3 (Ac e)) (Ab1 _ e);refine⟨.bl _,H,t,?_,q⟩;show _=_;rw[Ab3,←a,Of]
def EE(m:X.x=k9):Zs X (.u "any") (fun xs H Q=>∃p,∃bs:List Bool,xs=[.j p]/\bA X.K H p (bs.j V.bl)/\Q (.bl (bs.A id)) H):=by
 intro c s U H xs w Q I r h;obtain⟨p,bs,rfl,v,q⟩:=h;obtain⟨u,rfl,n⟩:=wM r;cases n;obtain⟨f,rv,pl,x⟩:=I.C v;have a:=rv.e;rw[Aa]at a;refine call_any_walk (wpAny_pyIter_list pl.J ?_);have d:p≠s.j.j.j:=by obtain⟨o,l,_⟩:=pl.J;exact Ac3 (Ac l)
 refine⟨s.j.j.j,_,_,_,_,_,λi=>bs.L i y9,rfl,Walks.list (A:=X.A.j) (I.j.hd m) _ p d f.u,⟨⟨_,Ac8 _ rfl,rfl,rfl⟩,pl.J.at λo e=>Ab1 _ e⟩,QZ rv,λk j g=>?_⟩;have t:Inv X c U H {s with heap:=k,toks:=j}:=I.Q λb o e=>g b o (by simp;exact Ac3 (Ac e)) (Ab1 _ e);refine⟨.bl _,H,t,?_,q⟩;show _=_;rw[Ab3,←a,Md]
noncomputable def gY:List Int->Int
|[]=>0
|i::r=>i+gY r
theorem Z2:∀(xs)(x),gY (xs++[x])=gY xs+x
|[],x=>by simp[gY]
|y::a,x=>by show y+gY (a++[x])=y+gY a+x;rw[Z2 a x];lia
theorem xJ(ns:List Int):∀j,j<=ns.e->preSum (λi=>ns.L i 0) j=gY (ns.B j)
|0,_=>rfl
|j+1,h=>by rw[preSum,xJ ns j (Nat.le_of_lt ‹_›),List.take_succ,Aa6 (‹_›)];show _=gY (ns.B j++[ns[j]]);rw[Z2,Ac7,Aa6 (‹_›)];rfl
end
section
variable{X:Cx}
theorem WD:∀{j}{i},Vals (j.j V.str) i->StrsAre i j
|[],i,r=>by cases r;exact .nil
|z::j,i,r=>by
  cases r with
|cons h t=>obtain⟨k,rfl⟩:=h;exact .cons _ _ (WD t)
theorem A6:∀{j}{i},StrsAre j i->Vals (i.j V.str) j
|_,_,.nil=>.p
|_,_,.cons _ _ h=>.j ⟨_,rfl⟩ (A6 h)
def ZX:Zs X (.u "sorted") (fun xs H Q=>∃p,∃j:List Str,xs=[.j p]/\bA X.K H p (j.j V.str)/\j.e<64/\∀i,i.Perm j->sortedS i=true->∀l,H l=none->Q (.j l) (aE H l (.w (i.j V.str)))):=by
 intro g s U H xs x Q I r h;obtain⟨p,j,rfl,v,m,q⟩:=h;obtain⟨u,rfl,n⟩:=wM r;cases n;obtain⟨d,rv,pl,f⟩:=I.C v;have c:=rv.e;rw[Aa]at c;refine sorted_strs pl.J (WD rv) (by lia) λa i t a2 a3=>?_;obtain⟨e,w⟩:=sortedAll_at s.j d a;have k:i.e<=sizeLine:=by rw[a2.length_eq];rw[Aa]at f;exact f
 refine⟨.j _,_,I.laid (λb o e=>sortedAll_old e) (Ag _) (show aT X.p X.w _ _ _ (.w _)from⟨by rw[Aa];exact k,a.p,e,A6 t,by simpa[seqObj]using w⟩),rfl,q i a2 a3 _ (I.G.M (Ag _))⟩
end
section
variable{X:Cx}
noncomputable def iL(x:Str)(n:Nat):Str:=⟨(Aa4 n x.j).X (·++·) #[]⟩
theorem w5:∀n (a b:Array α),((Aa4 n a).X (·++·) b).p=b.p++(Aa4 n a.p).G
|0,a,b=>by simp
|n+1,a,b=>by rw[Ae4,Aj2,w5 n,Ae4,Ap6];simp
def ZI(x)(n):(iL x n).j.p=(Aa4 n x.j.p).G:=by unfold iL;rw[w5];simp
def M0(x)(n):(iL x n).e=x.e*n:=by show(iL x n).j.j=x.j.j*n;rw[←Ai3,ZI];simp[Am6]
def BG{a b:Str}(h:a.j.p=b.j.p):a=b:=by cases a;cases b;simp[Str.mk.injEq];exact Array.toList_inj.p h
def D0:b9 X (binaryOp .Mult) (λx y H Q=>∃z k,x=.p z/\y=.o k/\0<=k/\k<=1000/\z.e*k.j<=1000000/\Q (.p (iL z k.j)) H):=by
 intro pins s U H x y v u Q I rx ry h;obtain⟨z,k,rfl,rfl,h0,h1,hl,q⟩:=h;obtain⟨t,rfl⟩:=rx;obtain⟨t',rfl⟩:=ry;have hsz:(iL z k.j).e<=sizeLine:=by rw[M0];exact Ab5 hl (by decide)
 refine P.mul_str (by
  have a:¬k< -(2^63:Int):=by lia
  have b:¬k>=2^63:=by lia
  rw[decide_eq_false a,decide_eq_false b];rfl) (λc1 c2=>?_) (λc1 c2=>?_) ?_
 .have hk:=‹_›;have:(2:Int)^63-1>=(z.e:Int)*k:=by
   have e:((z.e*k.j:Nat):Int)=(z.e:Int)*k:=by rw[Am0,Am h0]
   have:=hl;lia
  have:=Int.le_ediv_of_mul_le (c:=k) (by omega) (‹_›);lia
 .unfold Builtin.Str.tooLong
  exact decide_eq_false (by have:sizeLine>=1000000:=by decide
                            lia)
 .by_cases c1:k<1
  .have hk:k=0:=by lia
   subst hk;rw[if_pos c1];exact⟨by decide,.p _,H,I.Q λb o e=>e,⟨_,rfl⟩,q⟩
  .rw[if_neg c1];by_cases c2:(k==1||z.e==0)=k9
   .rw[if_pos c2];have e:iL z k.j=z:=by
     apply BG;rw[ZI];obtain c|c:=Ao9.p c2
     .have:k=1:=by simpa using c
      subst this;simp
     .have:z.j.p=[]:=by
       have c:z.e=0:=by simpa using c
       have c:z.j.j=0:=c;rw[←Ai3]at c;exact Ag7 c
      rw[this];simp
    rw[e]at q;exact⟨.p z,H,I,⟨t,rfl⟩,q⟩
   .rw[if_neg c2];exact⟨hsz,.p _,H,I.Q λb o e=>e,⟨_,rfl⟩,q⟩
def E6:b9 X (binaryOp .Add) (λx y H Q=>∃a b ys,x=.j a/\y=.j b/\cY X.K H a []/\cY X.K H b ys/\Q (.j b) H):=by
 intro o s U H x y v u Q I E r h;obtain⟨a,b,ys,rfl,rfl,z,w,q⟩:=h;cases E;cases r;obtain⟨C,F,B,_⟩:=I.tuple z;obtain⟨c,J,t,_⟩:=I.tuple w;cases F;obtain⟨⟨A,dd,m,sl⟩,l,D,n,G⟩:=id B;obtain⟨⟨k,g,e,j⟩,d,f,p,i⟩:=id t;subst D G f i;exact concat_meets ⟨_,l,rfl⟩ ⟨_,d,rfl⟩ noFill_tuple_add seq_tuple_add PySem.F.slot_tuple_add PySem.F.entry_tuple_add (PySem.F.args_tuple_add_2 _ _)
  (tuple_addW0 a b _ c.u n p dd g sl j rfl) ⟨l,d,.j b,H,I,rfl,q⟩
def CU(B:X.x=k9):Zs X (.u "sum") (fun xs H Q=>∃p,∃ns:List Int,xs=[.j p]/\bA X.K H p (ns.j V.int)/\Q (.o (gY ns)) H):=by
 intro j s U H xs G Q I r h;obtain⟨p,ns,rfl,E,q⟩:=h;obtain⟨u,rfl,C⟩:=wM r;cases C;obtain⟨k,rv,pl,J⟩:=I.C E;have a:=rv.e;rw[Aa]at a;refine call_sum_walkG (wpAny_pyIter_list pl.J ?_);have g:p<s.j.j.j:=by obtain⟨o,y,_⟩:=pl.J;exact Ac y
 have f:s.j.j.j<(s.j.u {cls:=.p "list_iterator",data:=.u #[.j p,.o 0 0]}).j.j:=Heap.lt_size (Heap.get?_push_size _ rfl);refine⟨s.j.j.j,_,_,_,_,_,λi=>ns.L i 0,rfl,Walks.list (A:=X.A.j) (I.j.hd B) _ p (Ac3 g) k.u,⟨⟨_,Ac8 _ rfl,rfl,rfl⟩,pl.J.at λo e=>Ab1 _ e⟩,λb c=>?_,λi v F=>?_,λw n m l=>?_⟩
 .simp[or_false]at c;obtain rfl|rfl:=c
  .exact f
  .exact Nat.lt_trans g f
 .obtain⟨x,d,z⟩:=rv.kr (by simpa using F);rw[Ac2]at d;cases c:ns[i]? with
|none=>rw[c]at d;cases d
|some b=>rw[c]at d;cases d;obtain⟨t,rfl⟩:=z;exact⟨t,by show Value.int b t=Value.int (ns.L i 0) t;rw[Ac7,c];rfl⟩
 .have D:Inv X j U H {s with heap:=w,toks:=n}:=I.Q λb o e=>l b o (by simp;exact Ac3 (Ac e)) (Ab1 _ e);refine⟨.o _,H,D,⟨m,?_⟩,q⟩;rw[Ab3,←a,xJ ns _ (Aa9 _),Aq1]
theorem ZO:∀{ns}{i},Vals (ns.j V.int) i->∃ps:List (Int×Tok),i=ps.j (λp=>.o p.1 p.2)/\ps.j (·.1)=ns
|[],i,r=>by cases r;exact⟨[],rfl,rfl⟩
|n::ns,i,r=>by
  cases r with
|cons h t=>obtain⟨k,rfl⟩:=h;obtain⟨ps,e1,e2⟩:=ZO t;exact⟨(n,k)::ps,by rw[e1];rfl,by rw[←e2];rfl⟩
def WG(lo)(d n)(a:d<=n):(match lo with|none=>(d:Int)|some i=>max 0 (min (if i<0 then i+n else i) n))=((HT.aS n d lo:Nat):Int)/\HT.aS n d lo<=n:=by
 cases lo with
|none=>exact⟨rfl,a⟩
|some i=>
  by_cases q:i<0
  .simp[HT.aS,q,if_true];lia
  .simp[HT.aS,q,if_false];lia
def Q6(x:Str)(a b:Option Int):Builtin.Str.strSliceIndices a b 1 x.e=(Aa7 (HT.aS x.e x.e b-HT.aS x.e 0 a)).j λk=>HT.aS x.e 0 a+k:=by
 have e:Builtin.Str.strSliceIndices a b 1 x.e=sliceRange ((HT.aS x.e 0 a)) ((HT.aS x.e x.e b)) 1:=by rw[←(WG a 0 x.e (Af4 _)).1,←(WG b x.e x.e (Aa9 _)).1];cases a<;>cases b<;>rfl
 rw[e];unfold sliceRange;simp only[show(1:Int)>0 by decide,if_true,Int.ediv_one,Int.one_mul];have e2:(if((HT.aS x.e 0 a))<((HT.aS x.e x.e b:Nat):Int)then((HT.aS x.e x.e b))-((HT.aS x.e 0 a:Nat):Int)+1-1 else 0).j=HT.aS x.e x.e b-HT.aS x.e 0 a:=by split<;>lia
 rw[e2];refine Ai4 λk _=>?_;exact Nat.succ_sub_one _
noncomputable def lE(x:Str)(a b:Option Int):Str:=⟨((x.j.p.K (HT.aS x.e 0 a)).B (HT.aS x.e x.e b-HT.aS x.e 0 a)).u⟩
def O6(x)(lo hi):Txt.slice x lo hi=lE x lo hi:=by
 have c:=(WG lo 0 x.e (Af4 _)).2;have a:=(WG hi x.e x.e (Aa9 _)).2;by_cases q:HT.aS x.e 0 lo<=HT.aS x.e x.e hi
 .have e:=StrLaws.sliceText_nat x q a;rw[show lE x lo hi=⟨((x.j.p.K _).B _).u⟩from rfl,←e];unfold Txt.slice StrLaws.sliceText;rw[Q6 x lo hi,StrLaws.strSliceIndices_plain q a]
 .have b:HT.aS x.e x.e hi-HT.aS x.e 0 lo=0:=by lia
  unfold Txt.slice lE;rw[Q6 x lo hi,b];rw[if_neg (by simp;lia)];simp
def pT:V->Option Int->Option Int->Hp->VK->Prop:=λx lo hi H Q=>∃z,x=.p z/\z.e<=sizeLine/\Q (.p (lE z lo hi)) H
def oZ:hI X pT:=by
 intro a s U H x v p r g i sl Q I n d pl m h;obtain⟨z,rfl,j,q⟩:=h;obtain⟨t,rfl⟩:=n;refine⟨"str",_,F.slot_str_getitem.p,typeIs_str _ _ _,?_⟩;have fin:∀f k,EP X a U Q (.str (Txt.slice z g i) f) {s with toks:=k}:=λf k=>by rw[O6];exact⟨.p _,H,I.Q (t':=k) λb o e=>e,⟨_,rfl⟩,q⟩
 have c:(Txt.slice z g i).e<=sizeLine:=Ab5 (Txt.slice_le z _ _) j;cases pl<;>cases m
 .exact wpAny_getItem_str_slice (l:=u0) (u:=u0) (st:=u0) d rfl (post_val_or_str ⟨c,fin⟩)
 .exact wpAny_getItem_str_slice (l:=u0) (u:=y0 (_,_)) (st:=u0) d rfl (post_val_or_str ⟨c,fin⟩)
 .exact wpAny_getItem_str_slice (l:=y0 (_,_)) (u:=u0) (st:=u0) d rfl (post_val_or_str ⟨c,fin⟩)
 .exact wpAny_getItem_str_slice (l:=y0 (_,_)) (u:=y0 (_,_)) (st:=u0) d rfl (post_val_or_str ⟨c,fin⟩)
end
open PySem PySem.Spec PyProof.Rows PySem.MeetsSeq
section
variable{X:Cx}
def IB{e:Nat->Bool}(l:IsTup s.j a items)
 (p:∀i y,items[i]?=y0 y->PySem.SeqAt.EqAt A.j s y x (e i))(r:j<items.j)(g:e j=k9)(f:∀i,i<j->e i=y9)(h:∀t',Q (.o (j:Int) t') {s with toks:=s.p+1}):
 wpAny (model prog w) A (call (.u "tuple.index") [.j a,x]) Q E s:=by
 refine wpAny_call_entry F.slot_tuple_index l.Z F.entry_tuple_index (wpAny_bind (wpAny_of_eq (show PySem.selfAndSome "tuple.index" "index" 1 3 ⟨[.j a,x],[]⟩=pure (Value.ref a,[x])from rfl) (wpAny_bind (tupleItemsOf_ l (wpAny_bind (wpAny_pure (wpAny_bind (wpAny_pure (wpAny_bind ?_))))))))) (F.args_tuple_index_2 _ _);rw[Nat.min_self,Std.Legacy.Range.forIn_eq_forIn_range'];refine wpAny_forIn_list _ (λrest b d=>d=s/\b=(u0,())/\∃i,i<=j/\rest=Ao7 i (items.j-i)) _ ?_ ?_ _ _ ⟨rfl,rfl,0,Af4 _,by simp⟩
 .rintro i rest b d ⟨rfl,rfl,i0,o,c⟩;have e1:items.j-i0=(items.j-(i0+1))+1:=by lia
  rw[e1,An4]at c;injection c with m n
  subst m;have k:i<items.j:=Nat.lt_of_le_of_lt ‹_› ‹_›;rw[Array.getElem?_eq_getElem k];refine wpAny_bind (p i items[i] (Array.getElem?_eq_getElem k) prog w _ _ ?_);by_cases q:i=j
  .subst q;rw[g,if_pos rfl];exact wpAny_bind (wpAny_bind (wpAny_mkInt (wpAny_pure (wpAny_pure (wpAny_pure ⟨_,rfl,h _⟩)))))
  .rw[f i (by lia),if_neg Ab9];exact wpAny_pure ⟨rfl,rfl,i+1,by lia,n⟩
 .rintro b d ⟨rfl,rfl,i0,o,c⟩;have e1:items.j-i0=(items.j-(i0+1))+1:=by lia
  rw[e1,An4]at c;cases c
abbrev u3:=V->Hp->Prop
def n8(X:Cx)(T:String)(ty:u3):Prop:=∀(pins:List (Addr×Obj))(s:Shared)(U:St)(H:Hp)(x:V)(v:Value),Inv X pins U H s->RelV x v->ty x H->s.TypeIs v T/\∀a,v=.j a->∃b,s.j.p a=y0 b/\b.w=u0
def Ds(ty:u3)(r:V->List V->Hp->VK->Prop)(a:TE)(t:TA):TE:=λU H Q=>a U H λx H1=>ty x H1/\t U H1 λxs H2=>r x xs H2 Q
def nK{T id:String}(A:PlainAttrs T)(f:Slot T name id)(i:typeOf (.u id)=pure (.p "method_descriptor"))(J:n8 X T ty)(w:kD X id r)(B:PE X o to)(y:PA X (e::es) t)
 (b:attributeBase o name X.j (eval o X.j)=eval o X.j)
 (d:((backTo k7 (starEach (e::es) X.j)).N (λx=>!x.1)&&(backToKw k7 (keywordEach [] X.j)).N (λx=>x.1.u)
   &&u9 ((e::es).e+([]:List Keyword).e+(if([]:List Keyword).y then 0 else 1)<30))=k9)
 (c:(apos.j==k7.p)=k9)(L:starEach (e::es) X.j=(y9,eval e X.j)::starEach es X.j)(g:(backTo k7 (starEach es X.j)).A (·.1)=y9):
 PE X (.x (.p o name apos) (e::es) [] k7) (Ds ty r to t):=by
 intro a s U H Q I h;refine wpAny_Call_method_late b d c rfl (aN (B a s U H _ I h) ?_);rintro v k ⟨x,j,m,n,F,z⟩;obtain⟨u,D⟩:=J a k U j x v m n F;refine⟨T,id,A,f,i,u,D,?_⟩;have l:=y k7 a k U j _ m z;rw[L]at l⊢;exact Calls.callWith_builtin (by assumption) (Calls.evalArgs_plain (aN l (by rintro q G⟨M,E,K,C,p⟩;exact w a G U E x M v q Q K n C p)))
def sW(K:PySem.W.Frag)(H:Hp)(a:Addr):Prop:=(∃xs,H a=some (.tup xs))\/∃o,K.p a=some o/\o.cls=.p "tuple"/\o.w=none
def DB:n8 X "tuple" (fun x H=>∃a,x=.j a/\sW X.K H a):=by
 intro g s U H x v I r h;obtain⟨a,rfl,h⟩:=h;cases r;obtain⟨l,h⟩|⟨o,f,j,k⟩:=h
 .obtain⟨_,i,_,o,e,c,d,n,m⟩:=I.G a _ h;refine⟨⟨o,e,c⟩,λb z=>?_⟩;cases z;exact⟨o,e,d⟩
 .refine⟨⟨o,I.bK a o f,j⟩,λb z=>?_⟩;cases z;exact⟨o,I.bK _ o f,k⟩
def KL:n8 X "str" (fun x _=>∃z,x=.p z):=by intro a s U H x v I r h;obtain⟨z,rfl⟩:=h;obtain⟨t,rfl⟩:=r;exact⟨typeIs_str s z t,λ_ e=>nomatch e⟩
def AR:n8 X "list" (fun x H=>∃a xs,x=.j a/\bA X.K H a xs):=by intro d s U H x v I r h;obtain⟨a,xs,rfl,h⟩:=h;cases r;obtain⟨f,_,pl,_⟩:=I.C h;refine⟨pl.J.typeIs,λb e=>?_⟩;cases e;obtain⟨o,n,e,c,g,_⟩:=pl;exact⟨o,e,g⟩
noncomputable def lD(x:Str):List Str->Option Nat
|[]=>u0
|y::ys=>if y=x then y0 0 else(lD x ys).j (·+1)
theorem u7:∀{L}{j},lD x L=y0 j->j<L.e/\L[j]?=y0 x/\∀i,i<j->∀y,L[i]?=y0 y->y≠x
|[],_,h=>by cases h
|y::g,j,h=>by
  unfold lD at h;split at h
  .rename_i q;cases h;exact⟨Nat.zero_lt_succ _,by simp[q],λi b=>absurd b (Ag6 _)⟩
  .rename_i q;obtain⟨k,e,rfl⟩:=Ag2.p h;obtain⟨c,f,d⟩:=u7 e;refine⟨Nat.succ_lt_succ c,by simpa using f,λi b z a=>?_⟩;cases i with
|zero=>simp at a;rw[←a];exact q
|succ i=>exact d i (Nat.le_of_lt_succ ‹_›) z (by simpa using a)
def HB(K:Ab):V->List V->Hp->VK->Prop:=λx c H Q=>∃a z j,∃b:List Str,x=.j a/\c=[.p z]/\cY K H a (b.j V.str)/\lD z b=y0 j/\Q (.o (j:Nat)) H
def D4:kD X "tuple.index" (HB X.K):=by
 intro n s U H x P v L Q I D rv h;obtain⟨a,z,j,f,rfl,rfl,G,K,q⟩:=h;cases D;obtain⟨u,rfl,E⟩:=rv.one;obtain⟨t,rfl⟩:=E;obtain⟨g,r,p,O⟩:=I.tuple G;obtain⟨M,C,B⟩:=u7 K;have m:=r.e;have look:∀(i:Nat) y,g.u[i]?=y0 y->∃w d,f[i]?=y0 w/\y=Value.str w d:=λi y k=>by
  obtain⟨N,e1,e2⟩:=r.kr (by simpa using k);rw[Ac2]at e1;cases l:f[i]? with
|none=>rw[l]at e1;cases e1
|some b=>rw[l]at e1;cases e1;obtain⟨d,rfl⟩:=e2;exact⟨b,d,rfl,rfl⟩
 refine IB (e:=λi=>u9 (f[i]?=y0 z)) p (λi y k=>?_) (by simp_all) (decide_eq_true C) (λi F=>?_) λd=>⟨.o j,H,I.Q λb o e=>e,⟨d,rfl⟩,q⟩
 .obtain⟨w,d,e,rfl⟩:=look i y k;have:=PySem.SeqAt.EqAt.str_str (A:=X.A.j) (s:=s) w d z t;have e2:u9 (f[i]?=y0 z)=(w==z):=by
   rw[e];by_cases q:w=z
   .subst q;simp
   .simp[q]
  rw[e2];exact this
 .have J:=‹_›;exact decide_eq_false λc=>B i F z c rfl
def ME(K:Ab):V->List V->Hp->VK->Prop:=λx c H Q=>∃a n,∃b:List Int,x=.j a/\c=[.o n]/\bA K H a (b.j V.int)/\Q (.o ((b.count n:Nat):Int)) H
def Fi:kD X "list.count" (ME X.K):=by
 intro g s U H x J v C Q I w rv h;obtain⟨a,n,D,rfl,rfl,B,q⟩:=h;cases w;obtain⟨u,rfl,z⟩:=rv.one;obtain⟨t,rfl⟩:=z;obtain⟨l,r,pl,E⟩:=I.C B;obtain⟨G,rfl,e2⟩:=ZO r;obtain⟨⟨j,dd,d,sl⟩,c,m,k,A⟩:=id pl.J;subst m A;refine call_meets F.slot_list_count ⟨_,c,rfl⟩ F.entry_list_count (F.args_list_count_2 _ _) (PySem.SeqAt.list_countAt a _ k dd sl _ (λy=>match y with|.o i _=>i==n|_=>y9)) ⟨c,λy f=>?_,?_⟩
 .simp only[List.mem_toArray,Ac1]at f;obtain⟨p,_,rfl⟩:=f;exact PySem.SeqAt.EqAt.int_int p.1 p.2 n t
 .refine⟨.o _,H,I.Q λb o e=>e,⟨s.p,?_⟩,q⟩;rw[←e2,List.count_eq_countP,List.countP_map];simp only[List.countP_map];rfl
end
section
variable{X:Cx}{pins:List (Addr×Obj)}{U:St}{H:Hp}{s:Shared}{h':Heap}
def Inv.iE (I:Inv X pins U H s)(k:∀b o,b≠e->b≠it->s.j.p b=y0 o->h'.p b=y0 o)(G:H it=u0)(A:H e=u0)(l:it≠X.j.p)(f:e≠X.j.p)
 (h1:it∈X.ex\/X.s₀.j.j.j<=it)(h:e∈X.ex\/X.s₀.j.j.j<=e)(D:∀x c,X.j.u.p x=y0 c->c≠it)(j:∀x c,X.j.u.p x=y0 c->c≠e)(B:∀p∈X.pn++pins,p.1≠it)(g:∀p∈X.pn++pins,p.1≠e):Inv X pins U H {s with heap:=h',toks:=t'}:=by
 have d:∀b u,H b=y0 u->b≠e/\b≠it:=λb u q=>⟨λz=>(by simp_all),λz=>(by simp_all)⟩;have i:∀b o,b∉[e,it]->s.j.p b=y0 o->h'.p b=y0 o:=λb o a q=>k b o (λz=>a (by simp[z])) (λz=>a (by simp[z])) q;refine I.step (λb y=>?_) (λb o _ _ a e _=>i b o a e) (λb o _ _ a e _=>⟨o.slots,i b o a e⟩) (λ_ _ _ _ n=>n)
  (λb o a e=>⟨o,i b o a e⟩) (λ_ _ e=>e) (λ_ _ _ e=>e) (λb J e=>⟨#[],by rw[e];simp⟩) (λm w=>?_) (λb u q=>?_) I.K
 .obtain z|z:=Ab8.p y
  .rw[z];exact⟨h,f,j,g⟩
  .rw[Ac4.p z];exact⟨h1,l,D,B⟩
 .obtain⟨o,F,E,C,r⟩:=w;exact⟨o,F,E,k _ o (Ne.symm f) (Ne.symm l) C,r⟩
 .refine(I.G b u q).cT (λc v a t=>k c v ?_ ?_ t) (λ_ q=>q) λ_ _ q=>q
  .obtain z|z:=a
   .rw[z];exact(d b u q).1
   .exact(d c _ z).1
  .obtain z|z:=a
   .rw[z];exact(d b u q).2
   .exact(d c _ z).2
end
def JM:bootBuiltins "enumerate"=some (.p "enumerate"):=by decide+kernel
def OQ(h:ItemsOf (λi v=>∃t,v=Value.int (0+(i:Int)*1) t) acc n):Vals ((Aa7 n).j λ(i:Nat)=>V.int (i:Int)) acc.p:=by
 have g:∀a k m,a.e=m->(∀j v,a[j]?=y0 v->∃t,v=Value.int (k+j:Nat) t)->Vals ((Ao7 k m).j λ(i:Nat)=>V.int i) a:=by
  intro a;induction a with
|nil=>intro k m b _;cases b;exact .p
|cons x a f=>intro k m b c;cases b;refine .j (c 0 x rfl) (f _ _ rfl λj v d=>?_);obtain⟨t,e⟩:=c (j+1) v (by simp_all);exact⟨t,by rw[e];congr 1;lia⟩
 rw[Ao2];refine g acc.p 0 n (by rw[Ai3];exact h.1) λj v d=>?_;obtain⟨t,e⟩:=h.2 j v (by simp_all);exact⟨t,by rw[e];congr 1;lia⟩
section
variable{X:Cx}
def Ce:bootBuiltins "range"=some (.p "range"):=by decide+kernel
end
def JL{g e:Option Int}(a:IsTup s.j t vs)(f:s.j.IsSliceOf sl vl vu .w)(pl:IsPart vl g)(k:IsPart vu e)
 (l:HT.aS vs.j 0 g=0)(h1:HT.aS vs.j vs.j e=vs.j)(h:Q (.j t) s):wpAny (model prog w) A (getItem (.j t) (.j sl)) Q E s:=by
 obtain⟨i,c,b,j⟩:=id f;have d:s.TypeIs (.j sl) "slice":=⟨i,c,b⟩;unfold getItem
 try with_reducible refine wpAny_holding ?_
 refine wpAny_bind (wpAny_sequenceKey a.Z rfl (wpAny_bind (wpAny_callSpecial?_slot a.Z PyProof.Rows.slot_tuple_getitem
  (wpAny_call_entry PyProof.Rows.slot_tuple_getitem a.Z PyProof.Rows.entry_tuple_getitem ?_ (PyProof.Rows.args_tuple_getitem _ _)))))
 show wpAny _ _ (Builtin.Tuple.tupleItemsOf _>>=_) _ _ s;refine wpAny_bind (tupleItemsOf_ a (wpAny_bind (wpAny_typeOf d (wpAny_bind (HT.bP f pl k ?_)))));show wpAny _ _ (if _=k9 then _ else _) _ _ s;rw[if_pos (by simp_all)];exact wpAny_bind (wpAny_bind (wpAny_typeOf a.Z (wpAny_pure (wpAny_bind (wpAny_rule (wpAny_pure ⟨_,rfl,wpAny_pure h⟩))))))
section
variable{X:Cx}
def p8(K:Ab):V->Option Int->Option Int->Hp->VK->Prop:=λx lo hi H Q=>∃a xs,x=.j a/\cY K H a xs/\HT.aS xs.e 0 lo=0/\HT.aS xs.e xs.e hi=xs.e/\Q (.j a) H
def LD:hI X (p8 X.K):=by
 intro d s U H x v u n p t sl Q I l m pl k h;obtain⟨a,j,rfl,g,i,f,q⟩:=h;cases l;obtain⟨c,r,e,o⟩:=I.tuple g;have b:c.u.j=j.e:=by rw[Ab3];exact r.e.p
 refine⟨"tuple",_,PyProof.Rows.slot_tuple_getitem.p,e.Z,?_⟩;exact JL e m pl k (by rw[b];exact i) (by rw[b];exact f) ⟨.j a,H,I,rfl,q⟩
end
section
variable{X:Cx}
def IY:bootBuiltins "list"=some (.p "list"):=by decide+kernel
def Hg(a:TA):TE:=λU H Q=>a U H λb H1=>∃n:Nat,b=[.o (n:Int)]/\n<=1000/\∀l,H1 l=u0->Q (.j l) (aE H1 l (.w ((Aa7 n).j λ(i:Nat)=>V.int (i:Int))))
def CQ(A:X.x=true)(w:Gl X "list")(v:X.mg "list"=none)(j:Gl X "range")(k:X.mg "range"=none)(x:PA X [a] ta)(E:starEach [a] X.j=[(false,eval a X.j)]):
 PE X (.x (.j "list" p) [.x (.j "range" p2) [a] [] pos2] [] pos) (Hg ta):=by
 intro f s U H Q I h;refine Call_ (WF I w v IY (PyProof.Rows.callWith_type1 (Calls.spliced_cons (Call_ (WF I j k Ce (PyProof.Rows.callWith_type1 (aN (x pos2 f s U H _ I h) ?_) E rfl)))) rfl rfl));rintro J m⟨N,G,l,D,y⟩;obtain⟨n,e,M,q⟩:=y;subst e;cases D with
|cons r F=>
  cases F;obtain⟨t,rfl⟩:=r;refine call_range_1 (Calls.spliced_nil ?_);have i:Builtin.Range.rangeSize 0 n 1=n:=by unfold Builtin.Range.rangeSize;simp;lia
  refine call_list_range (l.j.hd A) (IsRange.new ..) (small_one (by decide) (by decide) (Int.natCast_nonneg _) (by lia)) i (Nat.le_trans ‹_› (by decide)) λK L g C u B d=>?_;have c:∀o:Obj,m.j.j.j<=(m.j.u o).j.j:=λo=>by rw[Ak];exact Ag _
  refine⟨.j _,_,l.laid (o:=.w _) (λb o z=>u b o (Ab1 _ z)) (c _) ⟨by rw[Aa,Ai2,sizeLine_eq];exact Nat.le_trans ‹_› (by decide),g.p,C,(OQ d),by simpa using B⟩,rfl,q _ (l.G.M (c _))⟩
end
section
variable{X:Cx}{pins:List (Addr×Obj)}{U:St}{H:Hp}{s:Shared}{h':Heap}
def Inv.cC {ch:List Addr}(I:Inv X pins U H s)(k:∀b o,b∉ch->s.j.p b=y0 o->h'.p b=y0 o)(f:∀b∈ch,bD X pins H b):Inv X pins U H {s with heap:=h',toks:=t'}:=by
 have d:∀b u,H b=y0 u->b∉ch:=λb u q z=>by rw[(f b z).1]at q;cases q
 refine I.step (λb l=>?_) (λb o _ _ a e _=>k b o a e) (λb o _ _ a e _=>⟨o.slots,k b o a e⟩) (λ_ _ _ _ n=>n)
  (λb o a e=>⟨o,k b o a e⟩) (λ_ _ e=>e) (λ_ _ _ e=>e) (λb B e=>⟨#[],by rw[e];simp⟩) (λm j=>?_) (λb u q=>?_) I.K
 .obtain⟨A,i,C,t,g,w⟩:=f b l;exact⟨t,i,g,w⟩
 .obtain⟨o,y,x,p,r⟩:=j;exact⟨o,y,x,k _ o (λz=>(f _ z).2.1 rfl) p,r⟩
 .refine(I.G b u q).cT (λc v a h=>k c v ?_ h) (λ_ q=>q) λ_ _ q=>q;obtain z|z:=a
  .rw[z];exact d b u q
  .exact d c _ z
end
end Lake
set_option maxHeartbeats 8000000
namespace Lake
open Lake renaming V.ref→Lake.V.j,Inv.base→Lake.Inv.u,dm.fresh→Lake.dm.M
open PySem PySem.Spec PyProof.Rows
open Sem (wp)
abbrev K2:=List (Int⊕List Int)
section
variable(prog:Program)(w:World)
inductive Z3(h:Heap):K2->List Value->Prop
|nil:Z3 h [] []
|int {i:Int}{t:Tok}{ks:K2}{vs:List Value}:Z3 h ks vs->Z3 h (.inl i::ks) (.o i t::vs)
|tup {l:List Int}{a:Addr}{ks:K2}{vs:List Value}:IsTupleKey (intKind prog w) h l a->Z3 h ks vs->Z3 h (.u l::ks) (.j a::vs)
end
abbrev WK:=Int×List Int×List Int
section
variable{X:Cx}{pins:List (Addr×Obj)}{U:St}{H:Hp}{s:Shared}{a b:Addr}{k:WK}{xs:List (WK×Addr×Value)}{r:Value}{A:Around}{E:Value->Shared->Prop}
def pC(I:Inv X pins U H s):sysModules<s.j.j.j:=by exact Nat.lt_trans (by decide) ((I.mod.glob.keeps I.bk).lt)
end
open PySem.AutoSeq1 (wpAny_loadPart')
open MeetsSeq MeetsSeq2 MeetsSeq3 SeqRoads2 PySem.SeqAt
open PySem PySem.Spec PyProof.Rows PyProof.Rows.KTD PyProof.V
section
variable{X:Cx}{pins:List (Addr×Obj)}{U:St}{H:Hp}{s:Shared}
theorem WN{K:Type}[DecidableEq K]:∀(more a:List (K×Value)),((a++more).j (·.1)).C->merged a more=a++more
|[],a,_=>by simp[merged]
|p::more,a,h=>by
  have e:stored a p.1 p.2=a++[p]:=by unfold stored;rw[if_neg];intro z;obtain⟨b,c,e⟩:=Ad1.p z;rw[Ad8,Aj4]at h;exact h.2.2 b.1 (List.mem_map_of_mem c) p.1 (by simp) (of_decide_eq_true e)
  show merged (stored a p.1 p.2) more=_;rw[e,WN more (a++[p]) (by simpa using h)];simp
end
noncomputable def oN(K:Ab)(a:Addr):It:=
 ⟨λi H=>∃xs x,bA K H a xs/\xs[i]?=y0 x,λi H x H'=>∃p y,H p=u0/\x=.j p/\H'=aE H p (.tup [.int (i:Int),y])/\∀xs,bA K H a xs->xs[i]?=y0 y,λi H=>∃xs,bA K H a xs/\xs.e=i⟩
def Hr{K:Ab}(a it e)(t:e≠it):mF P w K (.C elts x1 tp) (oN K a) [e,it] e (λi h=>(∃j,IsEnum h e it (i:Int) j)/\h.IsListIter it a i) where
 mem:=by simp
 obj:=λi h l b L=>by
  obtain⟨⟨j,q⟩,⟨o,q2,c,d⟩⟩:=l;rcases Ab8.p L with z|z
  .subst z;exact⟨_,q,λv z=>by cases z⟩
  .rw[Ac4.p z];exact⟨o,q2,λv z=>by rw[d]at z;cases z⟩
 keep:=λi h h' l k=>⟨let⟨j,q⟩:=l.1;⟨j,k e (by simp) _ q⟩,let⟨o,q,r⟩:=l.2;⟨o,k it (by simp) o q,r⟩⟩
 item:=by
  intro X T hw Y hc i m s U H E I N l V;subst T hw Y;obtain⟨⟨j,C⟩,f⟩:=l;obtain⟨xs,x,Q,hx⟩:=V;obtain⟨g,rv,p,hz⟩:=I.list Q;obtain⟨u,hu,ru⟩:=rv.get hx;have B:=p.J;have A:a≠it:=λz=>by obtain⟨o,q,c,_⟩:=B;obtain⟨o',Z,D,_⟩:=f;rw[z,Z]at q;cases q;rw[c]at D;exact absurd D (by decide)
  have W:a≠e:=λz=>by obtain⟨o,q,c,_⟩:=B;rw[z,C]at q;cases q;exact absurd (show Value.type "enumerate"=Value.type "list" from c) (by decide)
  obtain⟨f0,f1,f2,f3,f4,f5⟩:=N e (by simp);obtain⟨M,S,g2,g3,g4,g5⟩:=N it (by simp);have hlt:=by have:=Aa1.p hu;simpa using this.1
  have n:X.A.j.p=none:=I.ok.hd hc;refine wpAny_pyNext_enum_itemD (Draws.list n it a A g.u) C ⟨f,B⟩ hlt t (by simp[t,Ne.symm W]) λy h1 F G ho R hT hsz hk=>?_;have ey:y=u:=by rw[List.getElem?_toArray]at G;rw[hu]at G;cases G;rfl
  subst ey;refine⟨_,rfl,wpAny_letOwnedTupleGo_enum ho λh2 he2 O=>?_⟩;have O:=O;have hep:=Aq (Ac C);have hn:=I.aO.M (Aa9 _);have I1:Inv X m U (aE H s.j.j.j (.tup [.int (i:Int),x])) {s with heap:=s.j.u {cls:=.p "tuple",data:=.j #[.o i F,y]},toks:=F+1}:=by refine I.laid (λb o q=>Ab1 _ q) (Aa9 _) ⟨by simp only[Aa8,Ad9];rw[sizeLine_eq];decide,[.o i F,y],.j ⟨_,rfl⟩ (.j ru .p),?_⟩;exact⟨_,Ac8 s.j rfl,rfl,rfl,_,rfl⟩
  have J:it<s.j.j.j:=by obtain⟨o,q,_⟩:=f;exact Ac q
  have ee:=Ac C;have I2:=I1.iE (t':=F+1) (λb o b1 b2 q=>by
   refine(O.2 b b1).j ?_;rcases Heap.get?_push_cases (show(s.j.u {cls:=.p "tuple",data:=.j #[.o i F,y]}).p b=some o from q)with⟨z,z2⟩|z
   .rw[z,z2];exact hT
   .exact hk b o b1 b2 z) (by rw[Za (Ac3 J)];exact M) (by rw[Za (Ac3 ee)];exact f0) S f1 g3 f3 g4 f4 g5 f5
  refine⟨.j s.j.j.j,_,I2,rfl,⟨s.j.j.j,x,hn,rfl,rfl,λys G=>by rw[I.eI G Q];exact hx⟩,⟨⟨y,by simpa using he2⟩,?_⟩,λb L=>?_⟩
  .obtain⟨o,q,r⟩:=R.1;exact⟨o,(O.2 it (Ne.symm t)).j q,r⟩
  .rcases Ab8.p L with z|z
   .rw[z,Za (Ac3 ee)];exact f0
   .rw[Ac4.p z,Za (Ac3 J)];exact M
 done:=by
  intro X T hw Y hc i m s U H E I N l V;subst T hw Y;obtain⟨⟨j,C⟩,f⟩:=l;obtain⟨xs,Q,hx⟩:=V;obtain⟨g,rv,p,hz⟩:=I.list Q;have B:s.j.B a g.u:=p.J;have A:a≠it:=λz=>by obtain⟨o,q,c,_⟩:=B;obtain⟨o',Z,D,_⟩:=f;rw[z,Z]at q;cases q;rw[c]at D;exact absurd D (by decide)
  obtain⟨M,S,g2,g3,g4,g5⟩:=N it (by simp);have hl:=rv.length;have n:X.A.j.p=none:=I.ok.hd hc;have hi:i=g.u.j:=by simp;lia
  subst hi;exact wpAny_pyNext_enum_endD (Draws.list n it a A g.u) C ⟨f,B⟩ λh' eb=>⟨rfl,I.turned (λb o L q=>eb b o L q) M S g3 g4 g5⟩
 self:=λ_ _ _ _ _ l h=>wpAny_pyIter_enum l.1.choose_spec h
def EA(K:Ab)(b:TA):TI:=λU H R=>b U H λc H1=>∃a xs,c=[.j a]/\bA K H1 a xs/\R (oN K a) H1
def Mb(n:Gl X "enumerate")(m:X.mg "enumerate"=none)(u:PA X [a] ta)(A:starEach [a] X.env=[(false,eval a X.env)]:=by rfl):PI X (.C elts x1 tp) (.x (.j "enumerate" p) [a] [] pos) (EA X.K ta):=by
 intro f s U H R I h;refine Call_ (WF I n m JM (PyProof.Rows.callWith_type1 (aN (u pos f s U H _ I h) ?_) A rfl));rintro C g⟨G,k,d,x,v⟩;obtain⟨b,F,e,y,q⟩:=v;subst e;cases x with
|cons r B=>
  cases B;cases r;obtain⟨w,rv,pl,E⟩:=d.list y;refine call_enumerate_list pl.J λD j i t l=>wpAny_pyIter_enum j ?_;refine⟨g.j.j.j+1,[g.j.j.j+1,g.j.j.j],_,_,k,rfl,d.kept l,Hr b g.j.j.j _ (Nat.succ_ne_self _),⟨⟨_,by simpa using j⟩,i⟩,λc o=>?_,q⟩;obtain z|z:=Ab8.p o
  .rw[z];exact d.d5 (Ag _) (d.aO.M (Ag _))
  .rw[Ac4.p z];exact d.d5 (Aa9 _) (d.aO.M (Aa9 _))
open PySem PySem.Spec PySem.Calls PySem.W PyProof.Rows
def zV:List Value->Bool
|[]=>y9
|x::r=>match x with
|.j _=>zV r
|_=>x::r==ni
theorem Zt{P:List Value->Prop}(a:P ni)(h1:∀c r,P r->P (.j c::r)):∀{l},zV l=k9->P l
|[],e=>by cases e
|x::r,e=>by
  unfold zV at e;split at e
  .exact h1 _ _ (Zt a h1 e)
  .rw[beq_iff_eq.p e];exact a
def ZZ(self)(e:zV l=k9):refuseLoop self "__setattr__" l=pure ():=
 Zt (P:=fun l=>refuseLoop self "__setattr__" l=pure ()) (PySem.F.store_ValueError.passes self) (fun c r h=>by rw[refuseLoop_ref];exact h) e
def xW(e:zV l=true):l.w (.p "object")=true:=
 Zt (P:=λl=>l.w _=k9) (by decide+kernel) (λc r h=>by rw[List.contains_cons,h,An9]) e
def CM(e:zV l=true):l.w (.p "BaseException")=true:=
 Zt (P:=λl=>l.w _=k9) (by decide+kernel) (λc r h=>by rw[List.contains_cons,h,An9]) e
def yd(e:zV l=k9):l.y=false:=
 Zt (P:=λl=>l.y=y9) rfl (λc r h=>rfl) e
def lU(K:Frag)(C:Addr):Bool:=(clsIn K C).any λcd=>zV cd.mro&&cd.hasDict
def Ba{K:Frag}(h:lU K C=k9):∃cd,clsIn K C=y0 cd/\zV cd.mro=k9/\cd.hasDict=true:=by obtain⟨cd,b,a⟩:=PySem.W.any_some h;rw[Aa0]at a;exact⟨cd,b,a.1,a.2⟩
section
variable{prog:Program}{w:World}{A:Around}{E:Value->Shared->Prop}{s:Shared}{K:Frag}{x C t:Addr}{f:Str}{u:Value}
def KO(X:K.In s.j)(j:s.j.p x=some (f6 C t none))(D:lU K C=true)(L:findIn K (.j C) "__setattr__"=some (some (.u "object.__setattr__")))(B:findIn K (.j C) f=some none)
 (h:∀h',(∀b o,b≠x->s.j.p b=y0 o->h'.p b=y0 o)->h'.p x=y0 (f6 C t (y0 s.j.j.j))->h'.Ns1 s.j.j.j (λy=>if y=f then y0 u else u0)->Q () {s with heap:=h',toks:=s.p+2}):
 wpAny (model prog w) A (setAttr (.j x) f u) Q E s:=by
 obtain⟨cd,m,k,J⟩:=Ba D;have I:PySem.W.InstAt s.j x _ C none:=⟨j,rfl,rfl,trivial⟩;refine PySem.W.set_plain X I L ?_;have i:=PySem.F.store_object;have sub:Looks (model prog w) s.j (isInstance _ _) true:=I.type.a3 (looks_mroIn X (by unfold mroIn;rw[m,Af6,if_neg (by rw[yd k];decide),xW k]));have H:Looks (model prog w) s.j (mroOf (.j C)) cd.mro:=(looks_clsIn X m).a3 .now;have F:=looks_findIn (M:=model prog w) X B;refine codeAny_call_builtin i.slot.plain i.entry (@check_slot _ _ _ {s with toks:=s.p+1} "object.__setattr__" "object" "__setattr__" _ [.str f s.p,u] [] _ i.kind i.split sub (i.args _ _ u) ?_);rw[osa_eq,refuse_eq];refine wpAny_bind (wpAny_bind (I.type.here (s:={s with toks:=s.p+1}) (wpAny_bind (H.here (s:={s with toks:=s.p+1}) ?_))));rw[ZZ _ k];refine wpAny_pure (wpAny_bind (I.type.here (s:={s with toks:=s.p+1}) (wpAny_bind (F.here (s:={s with toks:=s.p+1}) (wpAny_bind (wpAny_pure ?_))))));have a:(s.j.u {cls:=.p "dict",data:=.w #[]}).p x=some _:=Heap.get?_push_of_some _ j;have g:=Ac3 (Ac j);refine wpAny_bind (wpAny_pure (wpAny_bind (wpAny_bind (wpAny_loadPart j (wpAny_bind (PySem.W.Looks.here (PySem.W.looks_clsIn X m) ?_))))));rw[J];have q:((s.j.u {cls:=.p "dict",data:=.w #[]}).w x fun o=>{o with dict:=some s.j.j.j}).p s.j.j.j=some {cls:=.p "dict",data:=.w #[]}:=
  (Ao8 _ _ _ _ g.symm).j (Ac8 _ rfl)
 have r:((s.j.u {cls:=.p "dict",data:=.w #[]}).w x fun o=>{o with dict:=some s.j.j.j}).Ns s.j.j.j (fun _=>none):=
  ⟨_,#[],_,q,rfl,λe N=>absurd N (by simp),λ_=>rfl⟩
 refine wpAny_bind (wpAny_alloc (wpAny_bind (wpAny_update a (wpAny_pure ?_))));refine wpAny_bind (wpAny_pure (wpAny_bind (wpAny_nsSet1 (Heap.Ns1.of_empty r) λh' d c=>?_)));obtain⟨O,G,v,n,p,l⟩:=d.count (PySem.Within.cons f u PySem.Within.nil);refine wpAny_bind (wpAny_lookBehind n (by rw[p];exact pastItsLine_dict (Ab5 l (by rw[Aa8,Ad9,sizeLine_eq];exact Nat.le_add_left _ _))) ?_);refine wpAny_pure (h h' (λb o z e=>?_) ?_ d)
 .exact(c.2 b (Ac3 (Ac e))).j ((Ao8 _ _ _ _ z).j (Ab1 _ e))
 .exact(c.2 x g).j (Al2 _ a rfl)
end
noncomputable def xN(K:Frag)(C:Addr):Bool:=match K.p C with
|some ⟨t,_,.cls cd,l⟩=>u9 (t=.p "type"/\cd.mro=.j C::cd.mro.tail/\l=#[l.getD 0 none,l.getD 1 none,l.getD 2 none,l.getD 3 none,some (.u "ValueError.__new__"),l.getD 5 none]/\cd.hasDel=false)&&(tailIn K ni cd.mro.tail&&nsOkIn K cd.ns)
|_=>y9
def QJ{K:Frag}(X:K.In h)(q:xN K C=k9):
 ∃W V nm L bs O j sub M i dd k0 k1 k2 k3 Z mN,h.p C=y0 (excClassObj nm L C V bs W O j sub M i dd k0 k1 k2 k3 Z "ValueError.__new__")/\h.Ns V mN/\OwnTail h ni W:=by
 unfold xN at q;split at q;next t dd cd l d=>
  simp only[Aa0,decide_eq_true_eq]at q;obtain⟨⟨rfl,b,g,e1⟩,e2,e⟩:=q;obtain⟨nm,bs,c,a,L,O,j,sub,M,i,k⟩:=cd;dsimp only at b e1 e2 e;generalize c.tail=f at b e2;subst e1 b;rw[g]at d;exact⟨f,a,nm,L,bs,O,j,sub,M,i,dd,_,_,_,_,_,_,X _ _ d,.of_isNs (isNs_of_in X e),tail_of_in X e2⟩
 next=>cases q
section
variable{prog:Program}{w:World}{A:Around}{E:Value->Shared->Prop}{h:Heap}{g:Array GenState}{d:Drawn}{t:Nat}{os:OsState}{K:Frag}{C fI:Addr}
def XZ(h:Heap)(C:Addr)(rest:List Value):Heap:=(h.u {cls:=.p "tuple",data:=.j rest.u}).u (f6 C h.j.j none)
def zC{rest:List Value}(e:h.p b=y0 o):(XZ h C rest).p b=y0 o:=Ab1 _ (Ab1 _ e)
def yu{rest:List Value}:(XZ h C rest).p (h.j.j+1)=y0 (f6 C h.j.j u0):=by
 have:=Heap.get?_push_size (h.u {cls:=.p "tuple",data:=.j rest.u}) (o:=f6 C h.j.j none) rfl
 rwa [Ak]at this
def FF{rest:List Value}{Q:Value->Shared->Prop}(X:K.In h)(q:xN K C=true)(s:findIn K (.j C) "__init__"=some (some (.j fI)))(n:typeIn K (.j fI)=some (.p "function"))(c:rest.e<=sizeLine)
 (u:wpAny (model prog w) (A.under (.u "type.__call__" ⟨.j C::rest,[]⟩)) (call (.j fI) (.j (h.j.j+1)::rest)) (fun r s'=>r=.w/\Q (.j (h.j.j+1)) s') E ⟨XZ h C rest,g,d,t,os⟩):
 wpAny (model prog w) A (call (.j C) rest) Q E ⟨h,g,d,t,os⟩:=by
 obtain⟨y,N,nm,J,bs,l,D,sub,O,v,dd,H,S,P,U,G,L,a,I,T⟩:=QJ X q;have F:=PySem.F.excBase_ValueError;have z:=tc_lookup;have R:=tc_bind (.j C);have B:(⟨h,g,d,t,os⟩:Shared).TypeIs (.j C) "type":=⟨_,a,rfl⟩;refine wpAny_call (codeAny_of_tree ?_);show wpAny _ _ _ _ _ _
 repeat (any_goals (first|assumption|with_reducible refine wpAny_loadPart_at a ?_|wp_step))
 refine⟨rfl,codeAny_call_builtin_at (Code.quiet_builtin _ (by decide+kernel)) entry_typeCall (wpAny_check_type_call_sub a ?_)⟩
 repeat (first|with_reducible refine wpAny_loadPart_at a ?_|with_reducible refine wpAny_madeBy_exc a ?_|wp_step)
 refine codeAny_call_builtin_code (Code.quiet_builtin _ F.quiet) (wpAny_check_new_subT F T a (codeAny_exc_new_subT F T a ?_ c));show wpAny _ _ _ _ _ ⟨XZ h C rest,g,d,t,os⟩;have k:K.In (XZ h C rest):=λb o e=>zC (X b o e);have i:=zC (C:=C) (rest:=rest) a;have f:(XZ h C rest).p (h.j.j+1)=y0 {cls:=.j C,data:=.u #[.j h.j.j,.w,.w,.w,.x y9,.w]}:=yu;have j:(Value.ref C::y).w (.j C)=true:=by simp
 unfold isInstance
 repeat (first|with_reducible refine wpAny_loadPart_at f ?_|(with_reducible refine wpAny_isSubtype_exc i ?_;rw[j])|wp_step)
 show wpAny _ _ (typeLookup (.j C) _) _ _ _;refine(looks_findIn (M:=model prog w) k s).at ?_;refine wpAny_holding (wpAny_bind ((bind_fn (M:=model prog w) k (.j (h.j.j+1)) n).at ?_));refine wpAny_bind (wpAny_mono u (λr s' p=>?_) λ_ _ x=>x);obtain⟨rfl,m⟩:=p
 wp_walk
 exact m
end
noncomputable def gI(x C t:Addr)(a:Option Addr):HO:=.ext λh=>h.p x=y0 (f6 C t a)
def uY(e:h.p x=y0 (f6 C t od)):aT P w H h x (gI x C t od):=⟨e,⟨_,e⟩,λ_ _ z k=>k _ z⟩
noncomputable def kO(H:Hp)(x:Addr):Hp:=λb=>if b=x then u0 else H b
def pQ(h:b≠x):kO H x b=H b:=if_neg h
def BN:kO H x x=none:=if_pos rfl
section
variable{X:Cx}{pins:List (Addr×Obj)}{U:St}{H:Hp}{s:Shared}
def Inv.forget (I:Inv X pins U H s)(a:H x=y0 (.ext i)):Inv X pins U (kO H x) s:=by
 have ne:∀b o,H b=y0 o->(∀i,o≠.ext i)->kO H x b=y0 o:=λb o q n=>by rw[pQ (λe=>by rw[e,a]at q;cases q;exact n _ rfl)];exact q
 have nn:∀b,H b=u0->kO H x b=none:=λb q=>by
  unfold kO;split
  .rfl
  .exact q
 refine⟨I.ok,I.os,I.bare,⟨I.u.keep,I.u.slot,λb u e n a=>nn b (I.u.free b u e n a),I.u.there,λb f q=>ne b _ (I.u.c8 b f q) (λ_ z=>by cases z),λb u v q=>ne b _ (I.u.cQ b u v q) (λ_ z=>by cases z),λb k q=>?_⟩,
  I.loc,I.cell,nn _ I.free,λy c q=>nn _ (I.bE y c q),λp h=>?_,λb u q=>?_,I.len⟩
 .obtain⟨more,g⟩:=I.u.dc b k q;exact⟨more,ne b _ g (λ_ z=>by cases z)⟩
 .obtain⟨j,a2,a3⟩:=I.pin p h;exact⟨j,nn _ a2,a3⟩
 .by_cases d:b=x
  .rw[d,BN]at q;cases q
  .rw[pQ d]at q;exact(I.aO b u q).cT (λ_ _ _ z=>z) (λc z=>ne c _ z (λ_ z=>by cases z)) λc f z=>ne c _ z (λ_ z=>by cases z)
def Inv.stored (I:Inv X pins U H s)(j:H x=y0 (gI x C t u0))(l:RelV y u)(k:∀b o,b≠x->s.j.p b=y0 o->h'.p b=y0 o)
 (e:h'.p x=y0 (f6 C t (y0 s.j.j.j)))(m:h'.Ns1 s.j.j.j (λz=>if z=f then y0 u else u0)):
 Inv X pins U (aE (aE H s.j.j.j (.xd [(f,y)])) x (gI x C t (y0 s.j.j.j))) {s with heap:=h',toks:=t'}:=by
 have c:=(I.aO x _ j).1;have d:=Ac3 (Ac c);have n:(h'.w x λ_=>f6 C t u0).p x=y0 _:=Al2 _ e rfl;have i:∀b,b≠x->(h'.w x λ_=>f6 C t u0).p b=h'.p b:=λb a=>Ao8 _ _ _ _ a;have p:=I.laid (o:=.xd [(f,y)]) (t':=t') (λb o q=>by
  by_cases a:b=x
  .subst a;rw[c]at q;cases q;exact n
  .rw[i b a];exact k b o a q) (Aa9 _) ⟨_,m.at λo q=>(by rw[i _ d.symm];exact q),λg=>by
   by_cases h:g=f
   .rw[if_pos h];subst h;show b4 (match g==g with|true=>y0 y|false=>u0) _;rw[beq_self_eq_true];exact l
   .rw[if_neg h];show b4 (match g==f with|true=>y0 y|false=>u0) _;rw[beq_eq_false_iff_ne.u h];exact trivial⟩
 refine p.write (by rw[Za d,j];exact True.intro) (.p rfl) (λb o a q=>?_) ⟨_,e⟩ (uY e);exact(i b a).p.j q
end
structure oA(K:Frag)(C:Addr)(f:Str):Prop where
 cls:xN K C=k9
 ov:lU K C=k9
 sa:findIn K (.j C) "__setattr__"=some (some (.u "object.__setattr__"))
 no:findIn K (.j C) f=y0 u0
 kp:keepIn K (.j C)=k9
def Dd(K:Frag)(c b:TE)(f:Str):TS:=λD U H=>b U H λy H1=>c U H1 λx H2=>∃a C t,x=.j a/\H2 a=y0 (gI a C t u0)/\oA K C f/\∀dx,H2 dx=u0->dx≠a->D.nx U (aE (aE H2 dx (.xd [(f,y)])) a (gI a C t (y0 dx)))
def Dh(n:PE X o ta)(A:PE X value tv)(B:swapsWith value (y0 (.p o f pos')) pos.p X.env=pure y9):PS X (.j [.p o f pos'] value pos) (Dd X.K ta tv f):=by intro b s U H D I h;refine plainObj_wpAny_Assign_Attribute (aN (A b s U H _ I h) ?_) B;rintro u v⟨y,j,z,m,q⟩;refine aN (n b v U j _ z q) ?_;rintro p G⟨x,F,g,w,a,C,t,ex,i,c,l⟩;subst ex;obtain rfl:p=Value.ref a:=w;have d:=(g.aO a _ i).1;exact KO g.bK d c.ov c.sa c.no λE k e r=>⟨U,_,g.stored i m k e r,l _ (g.aO.M (Aa9 _)) (Aq (Ac d))⟩
def MB(K:Frag)(f:Str):Sp:=λb H Q _=>∃a v C t,b=[.j a,v]/\H a=y0 (gI a C t u0)/\oA K C f/\∀dx,H dx=u0->dx≠a->Q .aw (aE (aE H dx (.xd [(f,v)])) a (gI a C t (y0 dx)))
structure m7(K:Frag)(f:Str)(fI:Addr)(fd:FuncData)(ps:List Str):Prop where
 ex:∃x y8 st N n1 n2 p1 p2 p3 p4,kA K x y8 st fI fd/\ps=[n1,n2]/\N=[n1,n2]/\zB N ps (Zm st)/\zI st=[.j [.p (.j n1 p1) f p2] (.j n2 p3) p4]/\(n1==("__debug__":Str))=false/\(n2==("__debug__":Str))=false∧
  (n1==("__classdict__":Str))=false/\(n2==("__classdict__":Str))=false
 bd:Binds K fd ps []
 fn:typeIn K (.j fI)=y0 (.p "function")
def Ha{K:Frag}(Z:m7 K f fI fd ps):bx P w K mg base (dq P w) 1 fI fd ps (MB K f):=by obtain⟨x,j,I,N,g,d,B,y,G,D,F,rfl,rfl,S,l,p,o,r,m⟩:=Z.ex;refine kA.sD F S (λu H Q E ⟨a,v,C,t,e,_⟩=>by subst e;rfl) ?_;rintro n A b s H u Q E h ⟨a,v,C,t,e,k,c,q⟩;subst e;rw[l];have v1:kF _ g:=(S.par g (by simp)).j .p λz=>.u (.p z);have v2:kF _ d:=(S.par d (by simp)).j .p λz=>.u (.p z);refine⟨_,Mv (Dh (zy (i:=0) rfl v1 p r) (zy (i:=1) rfl v2 o m) rfl),?_⟩;exact⟨v,rfl,.j a,rfl,a,C,t,rfl,k,c,q⟩
def N0{M:Model}{A:Around}{E:Value->Shared->Prop}{s:Shared}{env:Env}{v:Sem Value}{K:Frag}{C:Addr}{Q:Flow->Shared->Prop}(l:xN K C=k9)(n:A.p=u0)
 (h:wpAny M A v (λv i=>∃e t j,v=.j e/\K.In i.j/\i.j.p e=y0 (f6 C t j)/\E (.j e) i) E s):wpAny M A (raiseStmt env (y0 v) u0) Q E s:=by
 refine wpAny_bind (wpAny_mono h (λv i f=>?_) λ_ _ x=>x);obtain⟨e,t,j,rfl,X,q,m⟩:=f;obtain⟨p,G,nm,D,bs,k,u,sub,I,o,dd,y,N,J,r,z,F,c,B,T⟩:=QJ X l;have a:(Value.ref C::p).w (.p "BaseException")=true:=by rw[List.contains_cons,T.hasType PySem.F.excBase_ValueError.hasBase,Bool.or_true]
 have b:i.j.p e=y0 {cls:=.j C,dict:=j,data:=.u #[.j t,.w,.w,.w,.x y9,.w]}:=q;obtain⟨H,g,d,w,L⟩:=i
 repeat (first|with_reducible refine wpAny_loadPart_at b ?_|with_reducible refine wpAny_loadPart_at c ?_|(with_reducible refine wpAny_isSubtype_exc c ?_;rw[a])|wp_step)
 exact wpAny_raiseNew_none n m
section
variable{P:Program}{w:World}{K:Frag}{mg:Str->Option Value}{base:Heap}{N:List Str}{y8:Str}{scope:Scope}{f:Addr}{cd:Value}{A:Around}{outer:List Env}{s:Shared}{H:Hp}{E:XK}
def Bo(C:Addr)(a:Str)(E:XK)(t:TA):TS:=λ_ U H=>t U H λb H1=>∃v,b=[v]/\∀dx,H1 dx=u0->E (.j C) (y0 dx) (aE H1 dx (.xd [(a,v)]))
def Oy(hh:A.p=none)(m:oA K C fl)(hi:findIn K (.j C) "__init__"=some (some (.j fI)))(Z:m7 K fl fI fd ps)(V:mg x=some (.j C))(W:Gl (fH (dq P w) P w K mg base N y8 scope f cd A outer s H E) x)
 (hr:bc 2 (A.deeper (envOfC y8 scope s.j.j.j f cd)))(Y:PA (fH (dq P w) P w K mg base N y8 scope f cd A outer s H E) [e] t)
 (he:starEach [e] (envOfC y8 scope s.j.j.j f cd)=(false,eval e (envOfC y8 scope s.j.j.j f cd))::starEach [] (envOfC y8 scope s.j.j.j f cd):=by rfl)(hd:(x==("__debug__":Str))=false:=by decide):
 PS (fH (dq P w) P w K mg base N y8 scope f cd A outer s H E) (.Raise (y0 (.x (.j x np) [e] [] k7)) u0 pos) (Bo C fl E t):=by
 intro k s1 U R D I h;rw[arm_exec_Raise];refine wpAny_bind (wpAny_standAt (N0 m.cls hh ?_));refine wpAny_bind (wpAny_mono (wpAny_Call_Name_kw (QB I W V ?_ hd)) (λv s3 h3=>wpAny_bind (wpAny_standAt (wpAny_pure h3))) λ_ _ x=>x);refine callWith_K I.ok.mod.kN m.kp (aN (Y k7 k s1 U R _ I h) ?_) he rfl;rintro T a⟨vs,i,l,r,v,Q,q⟩;refine⟨l.bK,?_⟩;subst Q;obtain⟨u,rfl,B⟩:∃u,T=[u]/\RelV v u:=by
  cases r with
|cons B r2=>cases r2;exact⟨_,rfl,B⟩
 have G:=l.laid (h':=XZ a.j C [u]) (t':=a.p) (λb o z=>zC z) (Ag _) (uY yu);have d:i (a.j.j.j+1)=none:=l.aO.M (Ag _);refine FF l.bK m.cls hi Z.fn (show 1<=sizeLine by rw[sizeLine_eq];decide) ?_;have F:=Ha (P:=P) (w:=w) (mg:=mg) (base:=base) Z;have S:ps.e=2:=by obtain⟨_,_,_,_,_,_,_,_,_,_,_,rfl,_⟩:=Z.ex;rfl
 refine wpAny_call (codeAny_mono (F.run _ (envOfC y8 scope s.j.j.j f cd::outer) _ _ ⟨[.j (a.j.j.j+1),u],[]⟩ [.j (a.j.j.j+1),u] [.j (a.j.j.j+1),v]
  (λO J=>O=.aw/\∃c,i c=u0/\c≠a.j.j.j+1/\J=aE (aE (aE i (a.j.j.j+1) (gI (a.j.j.j+1) C a.j.j.j u0)) c (.xd [(fl,v)])) (a.j.j.j+1) (gI (a.j.j.j+1) C a.j.j.j (y0 c)))
  (λ_ _ _=>False) (hr.make C [u] []) (G.gk.make C [u] []) (by
    have:=Z.bd ⟨XZ a.j C [u],a.gens,a.drawn,a.p,a.os⟩ [.j (a.j.j.j+1),u] G.bK (by rw[Ae,S];rfl)
    rwa [Ae]at this) (.j rfl (.j B .p)) ⟨_,v,C,a.j.j.j,rfl,zb,m,λc z ne=>⟨rfl,c,by rw[Za ne]at z;exact z,ne,rfl⟩⟩) λres s' j=>?_)
 cases res with
|error Q=>obtain⟨_,_,_,_,_,_,_,_,_,_,_,_,_,_,_,z⟩:=j;exact z.j
|ok y=>
  cases y with
|ret u'=>
   obtain⟨O,J,p,rv,rfl,c,X,M,rfl⟩:=G.after j;refine⟨rv,_,a.j.j.j,y0 c,rfl,p.bK,(p.aO _ _ zb).1,?_⟩;have L:=p.forget zb;have eH:kO (aE (aE (aE i (a.j.j.j+1) (gI (a.j.j.j+1) C a.j.j.j u0)) c (.xd [(fl,v)])) (a.j.j.j+1) (gI (a.j.j.j+1) C a.j.j.j (y0 c))) (a.j.j.j+1)=aE i c (.xd [(fl,v)]):=by
    funext b;by_cases n:b=a.j.j.j+1
    .rw[n,BN,Za (Ne.symm M),d]
    .rw[pQ n,Za n];by_cases g:b=c
     .rw[g,zb,zb]
     .rw[Za g,Za g,Za n]
   rw[eH]at L;refine MI L (p.aO _ _ zb).1 (Heap.get?_none_of_le (Ab5 l.sz (Ag _))) ?_ (q c X);rw[Za (Ne.symm M),d]
|next=>exact False.elim j
|brk=>exact False.elim j
|cont=>exact False.elim j
end
section
variable{prog:Program}{w:World}{A:Around}{E:Value->Shared->Prop}{s:Shared}{K:Frag}{x C dx:Addr}{fl:Str}{u:Value}{ox:Obj}{mA:Str->Option Value}
def Nr(X:K.In s.j)(r:s.j.p x=y0 ox)(D:ox.cls=.j C)(y:notCls ox=k9)(O:ox.w=y0 dx)(p:s.j.Ns1 dx mA)(G:mA fl=y0 u)(J:handedIn u=k9)(B:lU K C=k9)(z:findIn K (.j C) fl=y0 u0)
 (l:findIn K (.j C) "__getattribute__"=some (some (.u "BaseException.__getattribute__")))(v:findIn K (.j C) "__getattr__"=some none)
 (h:Q u {s with toks:=s.p+1}):wpAny (model prog w) A (getAttr (.j x) fl b) Q E s:=by
 obtain⟨cd,c,a,j⟩:=Ba B;obtain⟨n,g,d,t,L⟩:=s;dsimp only at X r p h;obtain⟨P,m,e⟩:=X5 p;have I:PySem.W.InstAt n x ox C (y0 P):=⟨r,D,y,by rw[O];exact m⟩;have f:findObj K C _ fl=y0 _:=PySem.W.findObj_own (by unfold hasDictIn;rw[c];exact j) z rfl (by rw[e,G]);have o:=I.type (M:=model prog w);have N:=looks_findIn (M:=model prog w) X l;have H:=looks_findIn (M:=model prog w) X v;have F:=looks_find (M:=model prog w) X I f;have sub:Looks (model prog w) n (isInstance (.j x) (.p "BaseException")) true:=I.type.a3 (looks_mroIn X (by unfold mroIn;rw[c,Option.bind_some,if_neg (by rw[yd a];decide),CM a]));have q:=PySem.F.attrBase_ValueError;have R:=q.ga.bind (.j x);have i:(b&&onTheHeap (Value.builtin "BaseException.__getattribute__"))=false:=by cases b<;>rfl
 unfold getAttr getAttrBy;refine wpAny_bind (wpAny_mkText (wpAny_holding (wpAny_bind (o.at (wpAny_bind (N.at ?_))))));have k:(Value.builtin "BaseException.__getattribute__"==Value.builtin "object.__getattribute__")=false:=by decide+kernel
 dsimp only;rw[k,Ag5,if_neg (by decide)];unfold getAttrByItsOwn hookBefore;refine wpAny_bind (H.at (wpAny_bind (wpAny_attempt (wpAny_holding ?_))));unfold callGetattribute;rw[i,if_neg (by decide)]
 repeat (any_goals (first|assumption|wp_step))
 refine codeAny_call_builtin q.ga.plain PySem.F.entry_bexc_ga (@check_slot (model prog w) _ _ ⟨n,g,d,t+1,L⟩ "BaseException.__getattribute__" "BaseException" "__getattribute__" (.j x) [.str fl t] [] _ (by decide+kernel) (by decide+kernel) sub (PySem.F.args_bexc_ga (.j x) (.str fl t)) ?_);refine wpAny_bind (wpAny_pure (wpAny_bind (wpAny_pure (wpAny_bind (o.at (wpAny_bind (F.at ?_)))))));refine wpAny_pure ?_;show wpAny _ _ (handedOut u) _ _ _;rw[handedOut_of J];exact wpAny_pure h
end
structure mB(K:Frag)(C:Addr)(f:Str):Prop where
 ov:lU K C=k9
 no:findIn K (.j C) f=y0 u0
 ga:findIn K (.j C) "__getattribute__"=some (some (.u "BaseException.__getattribute__"))
 gh:findIn K (.j C) "__getattr__"=some none
def FE(K:Frag)(b:TE)(f:Str):TE:=λU H Q=>b U H λx H1=>∃a C dx v,x=.j a/\H1 a=y0 (g7 a C (y0 dx))/\H1 dx=y0 (.xd [(f,v)])/\mB K C f/\Q v H1
def Ik(G:PE X e ta)(w:attributeBase e f X.env (eval e X.env)=eval e X.env):PE X (.p e f pos) (FE X.K ta f):=by intro b s U H Q I h;refine Be w (aN (G b s U H _ I h) ?_);rintro u z ⟨x,m,d,D,a,C,i,v,ex,n,p,c,q⟩;subst ex;obtain rfl:u=Value.ref a:=D;obtain⟨o,A,B,y,F⟩:=(d.aO a _ n).1;obtain⟨k,t,r⟩:∃k,z.j.Ns1 i k/\∀g,b4 _ _:=d.aO i _ p;have j:=r f;rw[show Ah9 f [_]=y0 v by simp[Ah9]]at j;obtain⟨J,E,l⟩:=b4.some_of j;exact Nr d.bK A B y (F i rfl) t E (J5 l) c.ov c.no c.ga c.gh ⟨v,m,d.tok _,l,q⟩
def Ld(a:TT)(t u:TS):TS:=λD U H=>a U H λb H1=>if b then t D U H1 else u D U H1
end Lake
namespace Lake
open Lake renaming Vals.length→Lake.Vals.e,V.int→Lake.V.o,V.ref→Lake.V.j,Inv.ok→Lake.Inv.j,Cx.env→Lake.Cx.j,Cx.prog→Lake.Cx.p,Cx.stack→Lake.Cx.B,Cx.outer→Lake.Cx.C,dm.fresh→Lake.dm.M
open PySem PySem.Spec PyProof.Rows PySem.Builtin.Str
noncomputable def bW:Str:=⟨#[32]⟩
noncomputable def nC(z:Str)(a:List Str):Bool:=!(u9 (z.e<bW.e)||u9 (strKind z<strKind bW))&&!(occurrences z bW 0 z.e (z.e+1)).y&&u9 (z.e<=1000)&&u9 (partsBetween z (occurrences z bW 0 z.e (z.e+1)) bW.e=a)&&u9 (a.e<=1000)
section
variable{X:Cx}
theorem QX:∀(ps)(t),Vals (ps.j V.str) (strsFrom t ps)
|[],_=>.p
|p::ps,t=>.j ⟨_,rfl⟩ (QX ps (t+1))
def NI:kD X "str.split" (fun x vs H Q=>∃z i,x=.str z/\vs=[.str bW]/\nC z i=true/\∀p,H p=none->Q (.j p) (aE H p (.lst (i.j V.str)))):=by intro f s U H x vs v r Q I m rv h;obtain⟨z,i,rfl,rfl,a,q⟩:=h;obtain⟨t,rfl⟩:=m;obtain⟨u,rfl,n⟩:=rv.one;obtain⟨j,rfl⟩:=n;unfold nC at a;simp only[Aa0,Ag3,decide_eq_true_eq]at a;obtain⟨⟨⟨⟨g,l⟩,k⟩,c⟩,d⟩:=a;refine call_meets PySem.F.slot_str_split (typeIs_str _ _ _) PySem.F.entry_str_split (PySem.F.args_str_split_2 _ _) (meets_str_split_sep z bW t j g rfl l (Ag0 (Zo k)) (by rw[c];exact(Ag0 (Zo d)))) ?_;rw[c];refine⟨.j s.j.j.j,_,?_,rfl,q _ (I.aO.M (Aa9 _))⟩;exact I.laid (λb o e=>Ab1 _ e) (Aa9 _) (show aT X.p X.w _ _ _ (.lst _)from⟨by rw[Aa];exact(Ag0 (Zo d)),strsFrom s.p i,0,QX i s.p,Ac8 s.j rfl⟩)
end
open PySem PySem.Spec PyProof.Rows
noncomputable def dS(a:List (Str×V)):HO:=.dK (a.j λp=>(.u p.1,p.2))
noncomputable def iQ(a:List (Str×V))(k:Str)(v:V):List (Str×V):=if a.A (λp=>u9 (p.1=k))then a.j (λp=>if p.1=k then(p.1,v)else p)else a++[(k,v)]
theorem u4:∀{c:List (Str×V)}{vs},KV (c.j λp=>((.u p.1:dF),p.2)) vs->(vs.A λi=>i.1=.u k)=c.A λp=>u9 (p.1=k)
|[],_,.p=>rfl
|p::c,(a,b)::vs,.j r t=>by obtain⟨e1,e2⟩:=r;rw[Ag4,Ag4,u4 t,←e1];by_cases q:p.1=k<;>simp[q]
theorem oa:∀{c:List (Str×V)}{vs},KV (c.j λp=>((.u p.1:dF),p.2)) vs->b4 (c.p k) (valueAt vs (.u k))
|[],_,.p=>trivial
|p::c,(a,b)::vs,.j r t=>by
  obtain⟨e1,e2⟩:=r;have d:=oa (k:=k) t;unfold valueAt at d⊢;rw[List.find?_cons,Ab7,←e1];by_cases q:p.1=k
  .rw[beq_iff_eq.u q.p];simp only[q,decide_true];exact e2
  .rw[beq_eq_false_iff_ne.u λz=>q z.p];have:¬(Sum.inr p.1:dF)=.u k:=λz=>q (by injection z);simp only[this,decide_false];exact d
def MU(d:RelV v u)(h:KV (kvs.j λp=>((.u p.1:dF),p.2)) vs):KV ((iQ kvs k v).j λp=>((.u p.1:dF),p.2)) (stored vs (.u k) u):=by
 unfold iQ stored;rw[u4 h];by_cases c:(kvs.A λp=>u9 (p.1=k))=k9
 .rw[if_pos c,if_pos c];clear c;induction kvs generalizing vs with
|nil=>cases h;exact .p
|cons p kvs e=>
   cases h with
|@cons _ q _ vs r t=>
    obtain⟨a,b⟩:=q;obtain⟨e1,e2⟩:=r;subst e1;refine .j ?_ (e t);by_cases q:p.1=k
    .subst q;simp only[if_true];exact⟨trivial,d⟩
    .have:¬(Sum.inr p.1:dF)=.u k:=λz=>q (by injection z);simp only[q,this,if_false];exact⟨trivial,e2⟩
 .rw[if_neg c,if_neg c,Ad8];exact Paired.snoc h ⟨rfl,d⟩
section
variable{X:Cx}{pins:List (Addr×Obj)}{U:St}{H:Hp}{s:Shared}{a:Addr}{k:Str}{kvs:List (Str×V)}{u r:Value}{A:Around}{E:Value->Shared->Prop}
def J8(I:Inv X pins U H s)(e:H a=y0 (dS kvs)):kvs.e<=sizeLine/\(a==sysModules)=y9/\∃vs,KV (kvs.j λp=>((.u p.1:dF),p.2)) vs/\s.j.DictOf (xw X.p X.w) a vs:=by obtain⟨z,c,vs,b,dd⟩:=(show aT X.p X.w H s.j a (dS kvs)from I.aO a _ e);rw[Aa]at z;exact⟨z,c,vs,b,dd⟩
def Pc(I:Inv X pins U H s)(e:H a=y0 (dS kvs))(f:RelV (.str k) u)(l:kvs.p k=y0 v)(h:∀i s',Inv X pins U H s'->RelV v i->Q i s'):wpAny (model X.p X.w) A (getItem (.j a) u) Q E s:=by obtain⟨z,g,j,c,dd⟩:=J8 I e;obtain⟨t,rfl⟩:=f;obtain⟨i,d,b⟩:=b4.some_of (by rw[←l];exact oa c);exact wpAny_getItem_of (xl _ _ k t) dd.mapOf d (h i _ (I.tok _) b)
def uB(r:b4 o q):q.u=o.u:=by
 cases o with
|none=>rw[b4.none_of r];rfl
|some v=>obtain⟨u,rfl,_⟩:=b4.some_of r;rfl
def Eb(I:Inv X pins U H s)(e:H a=y0 (dS kvs))(d:RelV (.str k) u)(h:∀s',Inv X pins U H s'->Q (.x (kvs.p k).u) s'):wpAny (model X.p X.w) A (compareOp .In u (.j a)) Q E s:=by obtain⟨z,c,f,b,dd⟩:=J8 I e;obtain⟨t,rfl⟩:=d;refine wpAny_in_of (xl _ _ k t) c dd.mapOf ?_;rw[uB (oa b)];exact h _ (I.tok _)
def Iy(I:Inv X pins U H s)(e:H a=y0 (dS kvs))(d:RelV (.str k) u)(h:∀s',Inv X pins U H s'->Q (.x (!(kvs.p k).u)) s'):wpAny (model X.p X.w) A (compareOp .NotIn u (.j a)) Q E s:=by obtain⟨z,c,f,b,dd⟩:=J8 I e;obtain⟨t,rfl⟩:=d;refine wpAny_notIn_of (xl _ _ k t) c dd.mapOf ?_;rw[uB (oa b)];exact h _ (I.tok _)
def O0(kvs)(k)(v):(iQ kvs k v).e<=kvs.e+1:=by
 unfold iQ;split
 .rw[Aa];exact Nat.le_succ _
 .simp
def MM(I:Inv X pins U H s)(e:H a=y0 (dS kvs))(f:RelV (.str k) u)(rv:RelV v r)(p:kvs.e<sizeLine)(h:∀s',Inv X pins U (aE H a (dS (iQ kvs k v))) s'->Q () s'):wpAny (model X.p X.w) A (setItem (.j a) u r) Q E s:=by
 obtain⟨z,i,o,c,dd⟩:=J8 I e;obtain⟨t,rfl⟩:=f;have w:o.e<=sizeLine:=by rw[←Paired.length c,Aa];exact z
 refine wpAny_setItem_pairs (xl _ _ k t) dd λg b l=>h _ ?_;have n:∃q,g.p a=y0 q:=let⟨q,_,_,j,_⟩:=b;⟨q,j⟩;refine I.write (by rw[e];exact True.intro) (.p rfl) (λm q d z=>(l.2 m d).j z) n ⟨?_,i,_,MU rv c,b⟩;rw[Aa];have:=O0 kvs k v;exact Nat.le_trans ‹_› ‹_›
def Mn(I:Inv X pins U H s)(e:H a=y0 (dS kvs))(h:∀p s',H p=u0->Inv X pins U (aE H p (dS kvs)) s'->Q (.j p) s'):wpAny (model X.p X.w) A (call (.p "dict") [.j a]) Q E s:=by obtain⟨z,g,j,c,dd⟩:=J8 I e;refine kt_call_dict g dd (by rw[←Paired.length c,Aa];exact z) λk d i=>?_;refine h _ _ (I.aO.M (Aa9 _)) (I.laid (λb q f=>?_) (Aa9 _) ⟨by rw[Aa];exact z,beq_eq_false_iff_ne.u (Ne.symm (Ac3 (pC I))),j,c,d⟩);exact(i.2 b (Ac3 (Ac f))).j (Ab1 _ f)
def La:TE:=λ_ H Q=>∀p,H p=u0->Q (.j p) (aE H p (dS []))
def FJ:PE X (.Dict [] [] pos) La:=λa s U H Q I h=>
 wpAny_Dict_empty ⟨.j s.j.j.j,_,I.laid (o:=dS []) (λ_ _ q=>Ab1 _ q) (Aa9 _) ⟨Af4 _,beq_eq_false_iff_ne.u (Ne.symm (Ac3 (pC I))),[],.p,Heap.DictOf.new _⟩,rfl,h _ (I.aO.M (Aa9 _))⟩
end
open PySem PySem.Spec PySem.Calls PySem.W PyProof.Rows
def rE:List TE->St->Hp->(List V->Hp->Prop)->Prop
|[],_,H,Q=>Q [] H
|t::b,U,H,Q=>t U H λv H1=>rE b U H1 λa H2=>Q (v::a) H2
section
variable{X:Cx}
def mY(X:Cx):List Str->List TE->List (Option Expr)->List Expr->Prop
|[],f,ks,d=>f=[]/\ks=[]/\d=[]
|x::r,f,ks,d=>∃j p e t b c a,f=t::a/\ks=y0 (.w (.p x) j p)::b/\d=e::c/\PE X e t/\mY X r a b c
theorem sC:∀{T}{i}{ks}{vs},mY X T i ks vs->ks.N (·.u)=k9/\ks.e=T.e/\vs.e=T.e
|[],_,_,_,z7=>by obtain⟨rfl,rfl,rfl⟩:=z7;exact⟨rfl,rfl,rfl⟩
|x::r,_,_,_,z7=>by obtain⟨j,p,e,t,f,g,a,rfl,rfl,rfl,_,ok⟩:=z7;obtain⟨b,d,c⟩:=sC ok;exact⟨by simpa using b,by simp[d],by simp[c]⟩
theorem QP:∀{T}{O}{ks}{vs}{s}{H}{Q}{i},mY X T O ks vs->Inv X pins U H s->rE O U H Q→
 (∀ws H1 kvs L M,Inv X pins U H1 M->Carries (xw X.p X.w) L kvs->KV ((T.a0 ws).j λp=>((.u p.1:dF),p.2)) kvs->kvs.j (·.1)=T.j .u->Q ws H1->i L M)→
 wpAny (model X.p X.w) X.A (evalPairs (pairTrees ks vs X.j pos)) i X.xe s
|[],_,_,_,s,H,Q,i,z7,I,h,q=>by obtain⟨rfl,rfl,rfl⟩:=z7;exact pairTrees_nil_walk (q [] H [] [] s I trivial .p rfl h)
|x::r,_,_,_,s,H,Q,i,z7,I,h,q=>by
  obtain⟨j,p,e,t,g,z,a,rfl,rfl,rfl,l,ok⟩:=z7;exact pairTrees_cons_walk (Calls.Constant_str (aN (l pins _ U H _ (I.tok _) h) λu M ⟨v,H1,o,w,d⟩=>
   QP ok o d λws k kvs L n y c f m b=>q (v::ws) k ((.u x,u)::kvs) _ n y ⟨xl _ _ x _,rfl,c⟩ (.j ⟨rfl,w⟩ f) (by simp[m]) b))
def M1(ok:mY X T ts ks vs)(u:T≠[])(j:T.e<=15)(t:T.C):
 PE X (.Dict ks vs pos) (λU H Q=>∀p,H p=u0->rE ts U (aE H p (dS [])) λws H1=>H1 p=y0 (dS [])/\Q (.j p) (aE H1 p (dS (T.a0 ws)))):=by
 intro n s U H Q I h;obtain⟨v,a2,a3⟩:=sC ok;have l:=beq_eq_false_iff_ne.u (Ne.symm (Ac3 (pC I)));refine wpAny_Dict_walk (knd:=xw X.p X.w) v (a2.j a3.p) (λz=>u (List.length_eq_zero_iff.p (by simp_all))) (by lia) ?_;refine QP ok (I.laid (o:=dS []) (t':=s.p) (fun _ _ q=>Heap.get?_push_of_some {cls:=.p "dict",data:=.w #[]} q) (Nat.le_refl _) ⟨Nat.zero_le _,l,[],.p,Heap.DictOf.new _⟩) (h _ (I.aO.M (Nat.le_refl _))) fun ws H1 d C D k c f m q=>⟨d,c,?_,fun r dd A=>?_⟩
 .obtain⟨_,_,y,i,dd⟩:=J8 k q.1;cases i;exact dd
 .rw[WN d [] (by rw[Ae7,m];exact Ap2.map _ (λa b z e=>z (by injection e)) t),Ae7]at dd;have B:∃q,r.p s.j.j.j=y0 q:=let⟨q,_,_,w,_⟩:=dd;⟨q,w⟩;refine⟨.j s.j.j.j,_,k.write (o:=dS _) (by rw[q.1];exact True.intro) (.p rfl) (λx q g z=>(A.2 x g).j z) B ⟨?_,l,_,f,dd⟩,rfl,q.2⟩;rw[Aa,Al7];have:=j;exact Ab5 (Nat.min_le_left _ _) (Ab5 j (by decide))
end
open PySem PySem.Spec PySem.Calls PyProof.Rows
section
variable{X:Cx}
def DX:pA X "int.bit_length" (fun x xs H Q=>∃i:Int,x=.o i/\xs=[]/\Q (.o ((Builtin.Int.intBits i:Nat):Int)) H):=by intro a s U H x xs v c Q I b rv h;obtain⟨i,rfl,rfl,q⟩:=h;obtain⟨t,rfl⟩:=b;cases rv;exact call_int_bit_length ⟨.o _,H,I.tok _,⟨_,rfl⟩,q⟩
end
def dN(H H':Hp):Prop:=∀a o,H a=y0 o->H' a=y0 o
def dN.refl:dN H H:=λ_ _ h=>h
def dN.trans (a:dN H H1)(b:dN H1 H2):dN H H2:=λx o h=>b x o (a x o h)
def bA.le {K:Ab}(h:bA K H a xs)(l:dN H H'):bA K H' a xs:=by
 obtain h|h:=h
 .refine .p ?_;obtain h|⟨u,h⟩:=h
  .exact .p (l _ _ h)
  .exact .u ⟨u,l _ _ h⟩
 .exact .u h
noncomputable def gN(g:Int->Int):Int->List Int->Int
|b,[]=>b
|b,x::xs=>if g x<g b then gN g x xs else gN g b xs
def wY{id:String}(b:(args.A (·.1)||kws.A (·.1.w))=y9)
 (h:wpAny M A (evalArgs (.u id) k9 args kws) (λa i=>wpAny M A (call (.u id) (first++a.pos) a.kw) Q E i) E s):
 wpAny M A (callWith pos (.u id) first args kws) Q E s:=by
 refine wpAny_bind (wpAny_holding (wpAny_mono h (λa i c=>wpAny_bind (wpAny_standAt ?_)) λ_ _ x=>x));simp only[b];exact wpAny_bind (wpAny_pure (wpAny_bind (wpAny_mono c (λr d e=>wpAny_bind (wpAny_holding (wpAny_point (wpAny_pure e)))) λ_ _ x=>x)))
section
variable{X:Cx}{pins:List (Addr×Obj)}{U:St}{H0:Hp}{q l S J:Addr}{is:List Int}{g:Int->Int}{R:Result->Shared->Prop}
def oO(X:Cx)(U:St)(a:Hp)(q:Addr)(is:List Int)(g:Int->Int):Prop:=∀(pins:List (Addr×Obj))(s:Shared)(H:Hp)(n:Int)(t:Tok),n∈is->Inv X pins U H s->dN a H→
 wpAny (model X.p X.w) X.A.j (call (.j q) [.o n t]) (EP X pins U λv H'=>v=.o (g n)/\dN H H') (λ_ _=>False) s
def bD.keep (h:bD X pins H b)(n:H' b=u0):bD X pins H' b:=⟨n,h.2⟩
def yn(T:oO X U H0 q is g)(m:n∈is)(I:Inv X pins U H s)(f:dN H0 H)(fS:bD X pins H S)(d:bD X pins H J)(h:s.j.p S=y0 oS)(j:s.j.p J=y0 oJ)(dS:∀v,oS.j≠.p v)(l:∀v,oJ.j≠.p v)
 (k:∀t' s' H',Inv X pins U H' s'->dN H0 H'->bD X pins H' S->bD X pins H' J->s'.j.p S=y0 oS->s'.j.p J=y0 oJ->Q (.o (g n) t') s'):
 wpAny (model X.p X.w) X.A.j (call (.j q) [.o n t]) Q E s:=by
 have r:=I.pinned (λb a=>by
  obtain rfl|a:=Ab8.p a
  .exact fS
  .rw[Ac4.p a];exact d) (λb a=>by
  obtain rfl|a:=Ab8.p a
  .exact⟨_,h,dS⟩
  .rw[Ac4.p a];exact⟨_,j,l⟩)
 refine wpAny_mono (T _ s H n t m r f) (λu s' o=>?_) λ_ _ z=>z.j;obtain⟨v,H',c,p,rfl,le⟩:=o;obtain⟨t',rfl⟩:=p;have e:=c.pin _ (Ab0 _ (Ab0 _ (Jg (by simp) h)));have i:=c.pin _ (Ab0 _ (Ab0 _ (Jg (by simp) j)));exact k t' s' H' c.bR (f.trans le) (fS.keep e.2.1) (d.keep i.2.1) e.1 i.1
def Pf(hh:X.A.p=u0)(T:oO X U H0 q is g)(hl:bA X.K H0 l (is.j .o))(Q:l≠J)(G:S≠J):∀(rest:List Int)(j:Nat)(k:Int)(tv tb:Tok)(c:Nat)(s:Shared)(H:Hp),is.K (j+1)=rest->j+1<=is.e->Inv X pins U H s->dN H0 H->bD X pins H S->bD X pins H J→
 s.j.p S=y0 (seqObj "list" #[.o k tv,.o (g k) tb] c)->s.j.IsListIter J l (j+1)->(∀t s' H',Inv X pins U H' s'->dN H0 H'->R (.ok (.ret (.o (gN g k rest) t))) s')->codeAny (model X.p X.w) X.A (.u "min.loop" ⟨[.j J,.j q,.j S],[]⟩) R s:=by
 have f:(toString "min"++toString ".loop":String)="min.loop":=by decide
 intro rest;induction rest with
|nil=>
  intro j k tv tb c s H hd hj I N fS fJ M L hR;obtain⟨d,rv,pl,-⟩:=I.list (hl.le N);have il:d.e=is.e:=by rw[←rv.e,Aa]
  have hin:j+1=is.e:=by have:=congrArg List.length hd;rw[Af]at this;simp at this;lia
  have W:=Walks.list (prog:=X.p) (w:=X.w) (A:=X.A.j) hh J l Q d.u;refine codeAny_builtin PySem.F.entry_min_loop ?_;rw[Around.under_plainId PySem.F.plain_min_loop _];show wpAny _ X.A.j _ _ _ _;refine wpAny_bind (wpAny_seqItems M rfl ?_);show wpAny _ X.A.j (tryCatch (pyNext (.j J)) _>>=_) _ _ _;refine wpAny_bind (wpAny_tryCatch (W.done _ _ _ ⟨by rw[Ab3,il,←hin];exact L,pl.J⟩ λY B m=>?_));have D:=m S _ (by simpa using G) M;have s1:=Al3.update Y S (Obj.mapSeq λ_=>(#[]:Array Value));show wpAny _ X.A.j (updateSeq S (λ_=>#[])>>=_) _ _ _;refine wpAny_bind (wpAny_updateSeq D rfl (wpAny_bind (wpAny_letGo (wpAny_pure ?_))));have I1:Inv X pins U H {s with heap:=Y,toks:=B}:=I.cC (ch:=[J]) (λb o a e=>m b o a e) λb a=>by rw[Ac4.p a];exact fJ
  exact hR _ _ _ (I1.cC (ch:=[S]) (λb o a e=>(s1.2 b (by simpa using a)).j e) λb a=>by rw[Ac4.p a];exact fS) N
|cons n rest ih=>
  intro j k tv tb c s H hd hj I N fS fJ M L hR;obtain⟨d,rv,pl,-⟩:=I.list (hl.le N);have il:d.e=is.e:=by rw[←rv.e,Aa]
  have K:j+1<is.e:=by have:=congrArg List.length hd;rw[Af]at this;simp at this;lia
  have en:is[j+1]?=y0 n:=by have:=congrArg (·[0]?) hd;simpa using this
  refine codeAny_builtin PySem.F.entry_min_loop ?_;rw[Around.under_plainId PySem.F.plain_min_loop _];show wpAny _ X.A.j (seqItems? (.j S)>>=_) _ _ _;refine wpAny_bind (wpAny_seqItems M rfl ?_);show wpAny _ X.A.j (tryCatch (pyNext (.j J)) _>>=_) _ _ _;refine wpAny_bind (wpAny_tryCatch ((Walks.list (prog:=X.p) (w:=X.w) (A:=X.A.j) hh J l Q d.u).item (j+1) _ _ _ (by rw[Ab3,il];exact K) ⟨L,pl.J⟩ λv Y B hP O m=>?_));obtain⟨u,hu,ru⟩:=rv.get (i:=j+1) (x:=.o n) (by rw[Ac2,en];rfl);obtain⟨r,rfl⟩:=ru;obtain rfl:v=.o n r:=by
   have:d[j+1]?=y0 v:=by simpa using hP
   rw[hu]at this;exact(Ad6.inj this).p
  obtain⟨oJ,hoJ,hoc,F⟩:=id O.1;have I1:Inv X pins U H {s with heap:=Y,toks:=B}:=I.cC (ch:=[J]) (λb o a e=>m b o a e) λb a=>by rw[Ac4.p a];exact fJ
  have D:Y.p S=y0 _:=m S _ (by simpa using G) M;show wpAny _ X.A.j (tryCatch (holding [.o n r] (call (.j q) [.o n r])) _>>=_) _ _ _;refine wpAny_bind (wpAny_tryCatch (wpAny_holding (yn T (Ac5 en) I1 N fS fJ D hoJ (λv z=>by cases z) (λv z=>by rw[F]at z;cases z) λy s2 H2 I2 Z E V C eJ2=>?_)));have hit2:s2.j.IsListIter J l (j+1+1):=⟨oJ,eJ2,hoc,F⟩;have hd2:is.K (j+1+1)=rest:=by have:=congrArg List.tail hd;simpa[List.tail_drop]using this
  show wpAny _ X.A.j (tryCatch (holding [.o n r,.o (g n) y] (richCompare .Lt (.o (g n) y) (.o (g k) tb)>>=_)) _>>=_) _ _ _;refine wpAny_bind (wpAny_tryCatch (wpAny_holding (wpAny_bind (CmpOf.ints_lt (prog:=X.p) (w:=X.w) (A:=X.A.j) (P:=λ(i:Nat) v=>∃t,v=.o (if i=0 then g n else g k) t) (λi=>if i=0 then g n else g k) (λi v h=>h) 0 1 _ _ _ _ _ ⟨y,rfl⟩ ⟨tb,rfl⟩ (wpAny_bind (wpAny_holding (wpAny_truthy_bool (wpAny_bind (wpAny_letGo (wpAny_pure ?_))))))))));show wpAny _ X.A.j (if u9 (g n<g k)=k9 then _ else _) _ _ _;by_cases p:g n<g k
  .have s1:=Al3.update s2.j S (Obj.mapSeq λ_=>#[.o n r,.o (g n) y]);obtain⟨c2,hc2⟩:∃c2,(s2.j.w S (Obj.mapSeq fun _=>#[.o n r,.o (g n) y])).p S=y0 (seqObj "list" #[.o n r,.o (g n) y] c2):=⟨_,get?_update_seq C fun _=>#[.o n r,.o (g n) y]⟩;rw[if_pos (decide_eq_true p)];refine wpAny_bind (wpAny_updateSeq C rfl (wpAny_bind (wpAny_letGo ?_)));rw[f];refine wpAny_pure ⟨plainId_quiet PySem.F.plain_min_loop _,ih (j+1) n r y c2 _ H2 hd2 K ?_ Z E V hc2 ⟨oJ,(s1.2 J G.symm).j eJ2,hoc,F⟩ λt s' H' I' l'=>?_⟩
   .exact I2.cC (ch:=[S]) (λb o a e=>(s1.2 b (by simpa using a)).j e) λb a=>by rw[Ac4.p a];exact E
   .have:=hR t s' H' I' l';rw[gN,if_pos p]at this;exact this
  .rw[if_neg (by rw[decide_eq_false p];exact Ab9)];refine wpAny_bind (wpAny_letGo ?_);rw[f];refine wpAny_pure ⟨plainId_quiet PySem.F.plain_min_loop _,ih (j+1) k tv tb c _ H2 hd2 K I2 Z E V C hit2 λt s' H' I' l'=>?_⟩;have:=hR t s' H' I' l';rw[gN,if_neg p]at this;exact this
def EO(hh:X.A.p=u0)(T:oO X U H q (n::is) g)(I:Inv X pins U H s)(hl:bA X.K H l ((n::is).j .o))(hQ:∀t s' H',Inv X pins U H' s'->dN H H'->Q (.o (gN g n is) t) s'):
 wpAny (model X.p X.w) X.A (call (.u "min") [.j l] [(Str.ofString "key",.j q)]) Q E s:=by
 have a:(toString "min"++toString ".loop":String)="min.loop":=by decide
 obtain⟨d,rv,pl,-⟩:=I.list hl;have f:=pl.J;obtain⟨ol,K,_⟩:=id f;have hll:l<s.j.j.j:=Ac K;have il:d.e=(n::is).e:=by rw[←rv.e,Aa]
 refine kmk_tree PySem.F.kind_min PySem.F.plain_min PySem.F.entry_min (kmk_min_key _ _) ?_;show wpAny _ X.A.j _ _ _ s;refine wpAny_bind (wpAny_of_eq (show Builtin.Builtins.bindParams "min" ["key","default"] 0 ⟨[],[(Str.ofString "key",.j q)]⟩=pure [some (.j q),none]from rfl) ?_);refine wpAny_bind (wpAny_pure ?_);refine wpAny_bind (wpAny_pyIter_list f ?_);refine wpAny_bind (wpAny_newList ?_ (Af4 _));rw[a];have hS:(s.j.u {cls:=.p "list_iterator",data:=.u #[.j l,.o 0 0]}).j.j=s.j.j.j+1:=size_push' ..;have k:l≠s.j.j.j:=Ac3 hll;have c:(s.j.u {cls:=.p "list_iterator",data:=.u #[.j l,.o 0 0]}).j.j≠s.j.j.j:=by rw[hS];exact Nat.ne_of_gt (Nat.lt_succ_self _)
 have L:bD X pins H s.j.j.j:=I.d5 (Aa9 _) (I.aO.M (Aa9 _));have fS:bD X pins H (s.j.u {cls:=.p "list_iterator",data:=.u #[.j l,.o 0 0]}).j.j:=I.d5 (by rw[hS];exact Nat.le_succ _) (I.aO.M (by rw[hS];exact Nat.le_succ _));refine wpAny_pure ⟨plainId_quiet PySem.F.plain_min_loop _,?_⟩;have O:((s.j.u {cls:=.p "list_iterator",data:=.u #[.j l,.o 0 0]}).u (seqObj "list" #[] 0)).p s.j.j.j=some {cls:=.p "list_iterator",data:=.u #[.j l,.o 0 0]}:=
  Ab1 _ (Ac8 _ rfl)
 have R:((s.j.u {cls:=.p "list_iterator",data:=.u #[.j l,.o 0 0]}).u (seqObj "list" #[] 0)).p (s.j.u {cls:=.p "list_iterator",data:=.u #[.j l,.o 0 0]}).j.j=some _:=Heap.get?_push_size _ rfl;have I0:Inv X pins U H {s with heap:=(s.j.u {cls:=.p "list_iterator",data:=.u #[.j l,.o 0 0]}).u (seqObj "list" #[] 0),toks:=s.p}:=I.kept fun b u e=>Heap.get?_push_of_some _ (Heap.get?_push_of_some _ e);have m:((s.j.u {cls:=.p "list_iterator",data:=.u #[.j l,.o 0 0]}).u (seqObj "list" #[] 0)).B l d.u:=f.at fun o e=>Heap.get?_push_of_some _ (Heap.get?_push_of_some _ e);generalize (s.j.u {cls:=.p "list_iterator",data:=.u #[.j l,.o 0 0]}).j.j=S at c fS R I0 m O⊢;generalize s.j.j.j=J at k c L O⊢;have W:=Walks.list (prog:=X.p) (w:=X.w) (A:=X.A.j) hh J l k d.u;refine codeAny_builtin PySem.F.entry_min_loop ?_;rw[Around.under_plainId PySem.F.plain_min_loop _];show wpAny _ X.A.j _ _ _ _;refine wpAny_bind (wpAny_seqItems R rfl ?_);show wpAny _ X.A.j (tryCatch (pyNext (.j J)) _>>=_) _ _ _;refine wpAny_bind (wpAny_tryCatch (W.item 0 _ _ _ (by rw[Ab3,il];exact Nat.succ_pos _) ⟨⟨_,O,rfl,rfl⟩,m⟩ λv F p hP C D=>?_));obtain⟨u,hu,ru⟩:=rv.get (i:=0) (x:=.o n) rfl;obtain⟨j,rfl⟩:=ru;obtain rfl:v=.o n j:=by
  have:d[0]?=y0 v:=by simpa using hP
  rw[hu]at this;exact(Ad6.inj this).p
 obtain⟨oJ,M,hoc,B⟩:=id C.1;have I1:=I0.cC (h':=F) (t':=p) (ch:=[J]) (λb o h e=>D b o h e) λb h=>by rw[Ac4.p h];exact L
 have I1:Inv X pins U H {s with heap:=F,toks:=p}:=I1;have Y:F.p S=y0 _:=D S _ (by simpa using c) R;show wpAny _ X.A.j (tryCatch (holding [.o n j] (call (.j q) [.o n j])) _>>=_) _ _ _;refine wpAny_bind (wpAny_tryCatch (wpAny_holding (yn T Aa3 I1 dN.refl fS L Y M (λv z=>by cases z) (λv z=>by rw[B]at z;cases z) λG s2 H2 I2 V y N r Z=>?_)));have s1:=Al3.update s2.j S (Obj.mapSeq λ_=>#[.o n j,.o (g n) G]);obtain⟨c2,P⟩:∃c2,(s2.j.w S (Obj.mapSeq λ_=>#[.o n j,.o (g n) G])).p S=y0 _:=⟨_,get?_update_seq r λ_=>#[.o n j,.o _ G]⟩;show wpAny _ X.A.j _ _ _ _;refine wpAny_bind ?_;refine wpAny_updateSeq r rfl ?_;rw[a];refine wpAny_pure ⟨plainId_quiet PySem.F.plain_min_loop _,Pf hh T hl k c is 0 n j G c2 _ H2 rfl (Nat.succ_le_succ (Af4 _)) ?_ V y N P ⟨oJ,(s1.2 J c.symm).j Z,hoc,B⟩ λt s' H' I' l'=>hQ t s' H' I' l'⟩;exact I2.cC (ch:=[S]) (λb o h e=>(s1.2 b (by simpa using h)).j e) λb h=>by rw[Ac4.p h];exact y
end
def E2(K:Ab)(c:Sp)(E:XK)(a:TE):TE:=λU H Q=>a U H λx H1=>∃(l:Addr)(n:Int)(is:List Int)(g:Int->Int),x=.j l/\bA K H1 l ((n::is).j .o)/\(∀m∈n::is,∀H2,dN H1 H2->c [.o m] H2 (λv b=>v=.o (g m)/\dN H2 b) E)/\∀H2,dN H1 H2->Q (.o (gN g n is)) H2
section
variable{X:Cx}{CX:hG}{k:Nat}{f:Addr}{fd:FuncData}{ps:List Str}{sp:Sp}{E:XK}{x fn:Str}{p p2 kp pos:Pos}{e:Expr}{te:TE}
def Lm(hc:X.calm=true)(W:Gl X x)(T:X.mg x=none)(hv:bootBuiltins x=some (.u "min"))(F:bx X.p X.w X.K X.mg X.base CX k f fd ps sp)(hr:bc (k+1) X.A)(D:Gl X fn)(q:X.mg fn=some (.j f))(hb:Binds X.K fd ps [])
 (hE:∀outer H s e s',¬CX outer H s E e s')(he:PE X e te)(hn:x≠"__name__":=by decide)(A:(x==("__debug__":Str))=false:=by decide)(y:(fn==("__debug__":Str))=false:=by decide)
 (G:starEach [e] X.j=(y9,eval e X.j)::starEach [] X.j:=by rfl):PE X (.x (.j x p) [e] [⟨y0 (Str.ofString "key"),.j fn p2,kp⟩] pos) (E2 X.K sp E te):=by
 intro a s U H Q I h;refine wpAny_Call_Name_kw (WF I W T hv ?_ hn A);have ha:=Xe he Qm G;have R:PK X [⟨y0 (Str.ofString "key"),.j fn p2,kp⟩] (p5 (tC (.j f)) n7):=IC (QU D q rfl y) KS;have M:=ha pos a s U H (λo i=>match o with
|[v]=>∃l n is g,v=.j l/\bA X.K i l ((n::is).j .o)/\(∀m∈n::is,∀b,dN i b->sp [.o m] b (λv H3=>v=.o (g m)/\dN b H3) E)/\∀b,dN i b->Q (.o (gN g n is)) b
|_=>False) I h
 .refine wY (by rw[G];rfl) ?_;rw[G]at M⊢;refine evalArgs_kw rfl (aN M ?_);rintro us s1 ⟨o,i,N,r1,K⟩;obtain⟨v,rfl⟩:∃v,o=[v]:=by
   match o,K with
|[v],_=>exact⟨v,rfl⟩
  obtain⟨l,n,is,g,rfl,P,B,hQ⟩:=K;refine aN (R pos a s1 U i (λO b=>O=[.j f]/\b=i) N ?_) λws s2 ⟨O,b,I2,Y,ez,eH⟩=>?_
  .exact⟨rfl,rfl⟩
  subst ez eH;obtain⟨u,rfl,ru⟩:=r1.one;obtain⟨w,rfl,C⟩:=Y.one;obtain rfl:u=.j l:=ru;obtain rfl:w=.j f:=C;refine EO (N.j.hd hc) (λa s H d t z I hH=>?_) I2 P λt s' J Z l'=>⟨.o _,J,Z,⟨_,rfl⟩,hQ J l'⟩;have c:=B d z H hH;have L:Vals [V.int d] [Value.int d t]:=.j ⟨_,rfl⟩ .p;refine wpAny_call (codeAny_mono (F.run X.A.j X.B s H ⟨[.o d t],[]⟩ [.o d t] [.o d] _ E hr.in1 I.gk.in1 (hb s [.o d t] I.bK (by rw[Ae,←L.e];exact F.len _ _ _ _ c)) L c) λr s' j=>?_);cases r with
|error e=>exact hE _ _ _ _ _ j
|ok S=>
   cases S with
|ret u=>exact I.after j
|next=>exact False.elim j
|brk=>exact False.elim j
|cont=>exact False.elim j
end
noncomputable def Cx.iH (X:Cx)(x:Addr):Cx:={X with A:=X.A.mark (y0 (.j x)),calm:=y9,xe:=λ_ _=>False}
section
variable{X:Cx}{pins:List (Addr×Obj)}{U:St}{H:Hp}{s:Shared}{x:Addr}
theorem Inv.iH (I:Inv X pins U H s)(x:Addr):Inv (X.iH x) pins U H s:=
 ⟨⟨I.j.mod,I.j.kind,I.j.glob,I.j.blt,I.j.above,I.j.inj,I.j.has,I.j.lI,(λz=>nomatch z),I.j.frames,I.j.gX,I.j.mh,I.j.bs,I.j.gT,I.j.fQ,I.j.fD,I.j.cO,I.j.iw⟩,I.os,I.bare,I.base,I.loc,I.cell,I.free,I.bE,I.pin,I.aO,I.len⟩
def Inv.mP (ok:X.Ok)(I:Inv (X.iH x) pins U H s):Inv X pins U H s:=⟨ok,I.os,I.bare,I.base,I.loc,I.cell,I.free,I.bE,I.pin,I.aO,I.len⟩
end
def kQ(K:Frag)(W:Addr)(b:Nat)(d:TS)(D:gd)(U:St):XK:=λa e H2=>∃C,a=.j C/\l6 K C/\kitCls K (.j C) (.j W)=y0 k9∧
 ∀x,H2 x=u0->d {nx:=λc H'=>D.nx (c.x b u0) H',rt:=λ_ _=>False} (U.x b (y0 (.j x))) (aE H2 x (g7 x C e))
def lH(X:Cx)(a:List (Addr×Obj))(D:gd)(e:List ExceptHandler)(b:Value)(s':Shared):Prop:=
 wpAny (model X.p X.w) X.A (noteFrame b X.j) (λ_ d=>wpAny (model X.p X.w) X.A (setFlight b u0) (λ_ c=>wpAny (model X.p X.w) X.A (handleBy b X.j e) (SP X a D) X.xe c) X.xe d) X.xe s'
def Dv
 (f:X.B=X.j::X.C)(hf:X.j.frame=some X.j.p)(hex:X.ex=[])(hW:Gl X wx)(hmW:X.mg wx=some (.j W))(P:mroIn X.K W (.p "BaseException")=some true)(hN:X.N.C)(L:X.N[ie]?=some n)(r:X.j.j.j.p n=some .local)
 (Q:(wx==("__debug__":Str))=false)(hb:b≠[])(hS:∀x,dt (X.iH x) b th)
 (g:Inv X pins U H1 s1)(hq:dq X.p X.w X.B H1 s1 (kQ X.K W ie th D U) ev s'):lH X pins D [.ExceptHandler (y0 (.j wx wq)) (y0 n) b hp] ev s':=by
 obtain⟨b0,b,rfl⟩:=List.exists_cons_of_ne_nil hb;obtain⟨x,t,M,B,O,od,rfl,os,h,N,un,i,comp,new,dic,C,hC,Z,kc,q2⟩:=hq;cases hC;have hfr:X.A.frames=y0 (X.j::X.C):=by rw[←f];exact g.j.frames
 have V:Am2 B (X.j::X.C) x (.j t) (.j M) s'.j:=by rw[←f];exact N
 refine W6 (R:=λw=>Heap.HeldW B (X.j::X.C) x (.j t) (.j M) X.j.p w/\s'.j.A w) (AY _ _) (λQ' k=>wpAny_looks_onW hfr hf V λw a b=>k w ⟨a,b⟩) ?_;rintro w ⟨F,I⟩ dk4;refine W6 (R:=λl=>Am2 B (X.j::X.C) x (.j t) (.j M) l/\w.A l) (QI _ _) (λQ' k=>wpAny_landsW F λl a b=>k l ⟨a,b⟩) ?_;rintro l ⟨j,K⟩ S;have H:=rF g os h un i comp (by rw[f];exact j) (I.trans K);have ex5:ExcAt l x t:=j.there;refine wpAny_handleBy_cons (codeAny_handlers_test (Calls.Name_function_global H.j.kind hW (Calls.loadGlobal_global (by rw[H.j.glob];exact H.mod.glob.keeps H.bk) hmW ?_) Q)) (λz=>nomatch z);refine CN H.bK ex5 kc P ?_;refine codeAny_handlers_suite_as ?_;refine W6 (R:=λs=>Am2 B (X.j::X.C) x (.j t) (.j M) s/\l.A s) (QI _ _) (λQ' k=>lands_againW j λs a b=>k s ⟨a,b⟩) ?_;rintro s ⟨A,sm6⟩ T;have I6:=rF g os h un i comp (by rw[f];exact A) ((I.trans K).trans sm6);have E:O x=none:=by
  cases z:O x with
|none=>rfl
|some u=>
   obtain⟨o,e1⟩:=(i x u z).there;have nf:x∉cj X.B:=λhx=>by obtain⟨_,o2,e2,_⟩:=g.stack.mem hx;rw[new]at e2;cases e2
   have e3:=comp x o e1 (.p ⟨u,z⟩) nf;rw[N.2.1]at e3;cases e3
 have d:∀b o,s1.j.p b=y0 o->b≠x:=λb o z e=>by rw[e,new]at z;cases z
 obtain⟨o6,vs6,e6,c6,d6,_⟩:=A.first;have I7:Inv X pins U (aE O x (g7 x t od)) {s' with heap:=s}:=by
  refine I6.i8 E (λz=>?_) (λy c z=>?_) (λp hp=>?_) (λb u z=>?_) (MJ e6 c6 (by unfold notCls;rw[d6]) λdx z=>?_)
  .obtain⟨m,⟨o,_,_,G,_⟩,_⟩:=g.loc;exact d _ o G z.p
  .obtain⟨_,o,G,_⟩:=g.cell y c z;exact d c o G
  .exact d p.1 _ (g.pin p hp).1
  .obtain⟨o,G⟩:=g.base.there b u z (by rw[hex];simp);exact d b o G
  .obtain⟨o,e0,d0⟩:=dic dx z;obtain⟨o',e1,d1⟩:=((dk4.trans S).trans T) x o e0;have:=e6.p.j e1;cases this;exact d1.j d0
 refine Jt I7 hN L (.p r) (v:=.j x) rfl (λs8 I8=>?_) (.u r);refine wpAny_mono (hS x pins s8 _ _ _ (I8.iH x) (q2 x E)) (λN s9 z=>?_) λ_ _ z=>False.elim z;cases N with
|next=>obtain⟨U',O,J,q⟩:=z;exact NJ (J.mP I8.j) hN L r λs10 Y=>⟨_,_,Y,q⟩
|ret u=>obtain⟨_,_,_,_,_,q⟩:=z;exact q.j
|brk=>obtain⟨_,_,_,q⟩:=z;exact q.j
|cont=>obtain⟨_,_,_,q⟩:=z;exact q.j
def dI(X:Cx)(d:List ExceptHandler)(a:List Stmt)(t:TS):Prop:=
 ∀(pins:List (Addr×Obj))(s:Shared)(U:St)(H:Hp)(D:gd)(b:Flow->Shared->Prop),Inv X pins U H s->t D U H->(∀s c H',Inv X pins c H' s->D.nx c H'->b .next s)→
  wpAny (model X.p X.w) X.A (execs a X.j) b (lH X pins D d) s
def dI.imp {st:List Stmt}(h:dI X hs st t)(k:∀D U H,t' D U H->t D U H):dI X hs st t':=λa s U H D b I q c=>h a s U H D b I (k _ _ _ q) c
def Cs(K:Frag)(W:Addr)(b:Nat)(a:TS)(d:Sp)(t:TA)(o:Option Nat):TS:=λD U H=>t U H λc H1=>d c H1 (λy H2=>D.nx (match o with|none=>U|some i=>U.x i (y0 y)) H2) (kQ K W b a D U)
def dj(X:Cx)(c:List ExceptHandler)(o:Option Nat)(e:Expr)(t:TS):Prop:=
 ∀(pins:List (Addr×Obj))(s:Shared)(U:St)(H:Hp)(D:gd)(b:Value->Shared->Prop),Inv X pins U H s->t D U H->(∀u a y H2,Inv X pins U H2 a->RelV y u->D.nx (match o with|none=>U|some i=>U.x i (y0 y)) H2->b u a)→
  wpAny (model X.p X.w) X.A (eval e X.j) b (lH X pins D c) s
def dj.imp (h:dj X hs o e t)(k:∀D U H,t' D U H->t D U H):dj X hs o e t':=λa s U H D c I q b=>h a s U H D c I (k _ _ _ q) b
def NK
 (M:∀a b,¬X.xe a b)(n:∀{pins}{D}{U}{H1}{i s'}{L},Inv X pins U H1 i->dq X.p X.w X.B H1 i (kQ X.K W ie th D U) L s'->lH X pins D hs L s')
 (F:bx X.p X.w X.K X.mg X.base (dq X.p X.w) k f fd ps sp)(K:bc k X.A)(C:Gl X fx)(B:X.mg fx=y0 (.j f))
 (w:keepIn X.K (.j f)=true)(E:Binds X.K fd ps [])(J:PA X (e::es) t)(j:(fx==("__debug__":Str))=false)(O:starEach (e::es) X.j=(false,eval e X.j)::starEach es X.j)(l:(backTo cp (starEach es X.j)).A (·.1)=false):
 dj X hs o (.x (.j fx p) (e::es) [] cp) (Cs X.K W ie th sp t o):=by
 intro pins s U H D R I h G;refine wpAny_Call_Name_kw (QB I C B ?_ j);refine callWith_K I.j.mod.kN w (wpAny_mono (J cp pins s U H _ I h) ?_ λ_ _ z=>(M _ _ z).j) O l;rintro g i⟨P,H1,c,r,q⟩;refine⟨c.bK,?_⟩;have m:(g++[]).e=ps.e:=by rw[Ae,←r.e];exact F.len _ _ _ _ q
 refine wpAny_call (codeAny_mono (F.run X.A X.B i H1 ⟨g,[]⟩ (g++[]) P _ _ K c.gk (E i g c.bK m) (by rw[Ae];exact r) q) λres s' d=>?_);cases res with
|ok A=>
  cases A with
  |ret u=>obtain⟨y,Q,N,x,v⟩:=c.after d;exact G _ _ _ _ N x v
  |next=>exact False.elim d
  |brk=>exact False.elim d
  |cont=>exact False.elim d
|error L=>exact n c d
def LP(h:dj X hs u0 e t)(d:swapsWith e u0 ep.p X.j=pure y9):dI X hs [.Expr e ep] t:=λa s U H D g I q b=>
 wpAny_execs_cons (wpAny_Expr_any (h a s U H D _ I q λu k y i f j c=>wpAny_execs_nil (b _ _ _ f c)) I.quiet d)
def Lz(h:dj X hs (y0 i) e t)(j:X.N.C)(l:X.N[i]?=y0 gx)(a:X.j.j.j.p gx=y0 .local)(k:swapsWith e (y0 (.j gx gp)) aq.p X.j=pure y9):dI X hs [.j [.j gx gp] e aq] t:=λb s U H D o I q f=>
 wpAny_execs_cons (wpAny_Assign_Name (h b s U H D _ I q λu r y p m d c=>Jt m j l (.p a) d (λn g=>wpAny_execs_nil (f _ _ _ g c)) (.u a)) k)
def DG(v:∀a b,¬X.xe a b)(r:PT X c tc)(h1:dI X hs a t)(p:dI X hs b u):dI X hs [.If c a b ip] (Ld tc t u):=by
 intro e s U H D w I h i;refine wpAny_execs_cons (wpAny_If (wpAny_mono (r e s U H _ I h) ?_ λ_ _ z=>(v _ _ z).j));rintro d k⟨g,l,j⟩;cases d with
|true=>exact h1 e k U g D _ l j λm o n f q=>wpAny_execs_nil (i _ _ _ f q)
|false=>exact p e k U g D _ l j λm o n f q=>wpAny_execs_nil (i _ _ _ f q)
def IM(h1:dI X (e::hs) sts t):PS X (.Try sts (e::hs) [] [] pos) t:=by intro a s U H D I h;exact wpAny_Try_except (h1 a s U H D _ I h λf d b c q=>wpAny_execs_nil ⟨d,b,c,q⟩)
open PySem PySem.Spec PySem.Calls PySem.W PyProof.Rows Builtin
def ZM:fillsNumberSlot (.p "tuple") "mul"=pure false:=rfl
def MR:seqRepeat? (.p "tuple")=pure (some (.u "tuple.__mul__")):=rfl
def Oq(a)(t)(l)(items)(n)(d)(sl):
 Meets (Builtin.«int.__rmul__» ⟨[.o a t,.j l],[]⟩) (λ_ R s=>s.j.p l=y0 {cls:=.p "tuple",dict:=d,data:=.j items n,slots:=sl}/\R (.ok (.ret Value.notImplemented)) s):=
 .of_wp λprog w A R s h=>by obtain⟨e,g,d,f,c⟩:=s;obtain⟨b,h⟩:=h;wp_walk;exact⟨_,rfl,h⟩
def LV(l)(items)(n)(d)(sl)(u):
 Meets (Builtin.«tuple.__mul__» ⟨[.j l,.o 1 u],[]⟩) (λ_ R s=>s.j.p l=y0 {cls:=.p "tuple",dict:=d,data:=.j items n,slots:=sl}/\R (.ok (.ret (.j l))) s):=
 .of_wp λprog w A R s h=>by obtain⟨c,g,d,e,b⟩:=s;obtain⟨a,h⟩:=h;wp_walk;exact⟨_,rfl,h⟩
def Dz(l)(items)(n)(d)(sl)(x)(u:Tok)(h1:1<x)(r:x<1001)(a:items.y=y9)(t:items.j*x.j<=sizeLine)(m:List.foldl (λi j=>i++j) #[] (Aa4 x.j items)=ys)(z:ys.j<=sizeLine):
 Meets (Builtin.«tuple.__mul__» ⟨[.j l,.o x u],[]⟩) (λ_ R s=>s.j.p l=y0 {cls:=.p "tuple",dict:=d,data:=.j items n,slots:=sl}/\R (.ok (.ret (Value.ref s.j.j.j))) {s with heap:=s.j.u {cls:=Value.type "tuple",data:=Data.seq ys},toks:=s.p}):=
 .of_wp λprog w A R s h=>by
  obtain⟨v,g,d,q,y⟩:=s;obtain⟨p,h⟩:=h;have o:(u9 (x< -(2^63))||u9 (x>=2^63))=false:=by rw[Bool.or_eq_false_iff];constructor<;>(apply decide_eq_false;lia)
  have b:(items.y||x==1)=false:=by rw[a,Bool.false_or];apply beq_eq_false_iff_ne.u;lia
  have c:(u9 (x<=0)||items.y)=false:=by rw[a,Ap3];apply decide_eq_false;lia
  have k:¬((items.j:Int)*x>(2^63-1)/8):=by
   have e:((items.j*x.j:Nat):Int)=(items.j:Int)*x:=by rw[Am0,Am (by lia)]
   have:sizeLine<=(2^63-1)/8:=by decide
   lia
  have f:Tuple.tupleTooMany ((items.j:Int)*x)=false:=by
   unfold Tuple.tupleTooMany;have e:((items.j*x.j:Nat):Int)=(items.j:Int)*x:=by rw[Am0,Am (by lia)]
   apply decide_eq_false;lia
  wp_walk
  rw[if_neg (by rw[o];exact Ab9)]
  wp_walk
  rw[if_neg (by rw[b];exact Ab9),if_neg (by rw[c];exact Ab9),if_neg k,if_neg (by rw[f];exact Ab9)];rw[m]
  wp_walk
  exact⟨_,rfl,h⟩
def L4(K:Frag):R2:=λx y H Q=>∃l k xs,x=.j l/\y=.o k/\cY K H l xs/\xs≠[]/\1<=k/\k<1001/\xs.e*k.j<=sizeLine/\(k=1->Q (.j l) H)/\(1<k->∀p,H p=u0->Q (.j p) (aE H p (.tup (Aa4 k.j xs).G)))
theorem A7(its):∀m (a:List Value),List.foldl (λi j=>i++j) a.u (Aa4 m its.u)=(a++(Aa4 m its).G).u
|0,a=>by simp
|m+1,a=>by rw[Ae4,Aj2,List.append_toArray,A7 its m,Ae4,Ap6,Af0]
theorem u6(r:Vals xs us):∀m:Nat,Vals (Aa4 m xs).G (Aa4 m us).G
|0=>.p
|m+1=>by exact r.append (u6 r m)
def MY:b9 X (binaryOp .Mult) (L4 X.K):=by
 intro j s U H x y v u Q I K A h;obtain⟨l,k,g,rfl,rfl,F,B,M,E,f,C,w⟩:=h;cases K;obtain⟨t,rfl⟩:=A;obtain⟨a,r,G,_⟩:=I.tuple F;obtain⟨⟨D,dd,i,sl⟩,d,J,n,L⟩:=id G;subst J L;have p:=r.e;refine wpAny_binaryOp_repeat_ref (by decide) ⟨_,d,rfl⟩ (λo=>typeIs_int o k t) ZM PySem.F.fills_int_mul PySem.F.slot_int_rmul MR PySem.F.slot_int_index.p
  (call_meets PySem.F.slot_int_rmul (typeIs_int s k t) PySem.F.entry_int_rmul (PySem.F.args_int_rmul_2 _ _) (Oq k t l a.u n dd sl) ⟨d,rfl,⟨_,d,rfl⟩,?_⟩)
 by_cases z:k=1
 .subst z;exact call_meets PySem.F.slot_tuple_mul ⟨_,d,rfl⟩ PySem.F.entry_tuple_mul (PySem.F.args_tuple_mul_2 _ _) (LV l a.u n dd sl t) ⟨d,.j l,H,I,rfl,C rfl⟩
 .have e:=A7 a k.j [];rw[Ae7]at e;have m:=u6 r k.j;have c:(Aa4 k.j g).G.e=g.e*k.j:=by simp[Am6]
  refine call_meets PySem.F.slot_tuple_mul ⟨_,d,rfl⟩ PySem.F.entry_tuple_mul (PySem.F.args_tuple_mul_2 _ _) (Dz l a.u n dd sl k t (by lia) E ?_ (by rw[Ab3,←p];exact f) e (by rw[Ab3,←m.e,c];exact f)) ⟨d,?_⟩
  .cases a with
|nil=>exact absurd (r.dy.p rfl) B
|cons _ _=>rfl
  .refine⟨.j s.j.j.j,_,I.laid (λb N q=>Ab1 _ q) (Aa9 _) ?_,rfl,w (by lia) _ (I.aO.M (Aa9 _))⟩;exact⟨by rw[c];exact f,_,m,dB.new _ _⟩
end Lake
set_option genSizeOfSpec false
namespace Lake.M
abbrev Tx:=List Nat
def yF:∃n:Nat,n=1000000:=⟨_,rfl⟩
noncomputable def bq:Nat:=Aj6 yF
def Gg:bq=1000000:=Ah4 yF
def Bz:∃n:Int,n=1073741824:=⟨_,rfl⟩
noncomputable def lz:Int:=Aj6 Bz
def GR:lz=1073741824:=Ah4 Bz
def AV:∃n:Int,n=2^62:=⟨_,rfl⟩
noncomputable def gj:Int:=Aj6 AV
def GL:gj=2^62:=Ah4 AV
def uV:∃n:Int,n=2^64:=⟨_,rfl⟩
noncomputable def et:Int:=Aj6 uV
def GZ:et=2^64:=Ah4 uV
def AI:∃n:Int,n=1000000:=⟨_,rfl⟩
noncomputable def BP:Int:=Aj6 AI
def G7:BP=1000000:=Ah4 AI
def vh:∃n:Nat,n=2^64:=⟨_,rfl⟩
noncomputable def kv:Nat:=Aj6 vh
def GC:kv=2^64:=Ah4 vh
inductive D where
|aw
|bl (b:Bool)
|int (i:Int)
|str (s:Tx)
|tup (xs:List D)
|lst (xs:List D)
|ref (r:Nat)
|err (c f:String)(d:D)
open M renaming D.int→Lake.M.D.o,D.ref→Lake.M.D.j,D.str→Lake.M.D.p,D.tup→Lake.M.D.u,D.lst→Lake.M.D.w,D.bl→Lake.M.D.C
inductive W where
|v (d:D)
|own (xs:List D)
|bor (xs:List D)
open M renaming W.own→Lake.M.W.j,W.bor→Lake.M.W.p
abbrev WK:=Int×List Int×List Int
inductive Cell where
|lst (xs:List D)
|aR (kvs:List (Tx×D))
|obj (c:String)(fs:List (String×D))
abbrev AH:=List Cell
abbrev Sl:=List (Option W)
inductive R(α:Type) where
|ok (a:α)(h:AH)
|exc (d:D)(h:AH)
|fail
open M renaming R.ok→Lake.M.R.j,R.fail→Lake.M.R.u
noncomputable def R.bind {c b:Type}:R c->(c->AH->R b)->R b
|.j a h,f=>f a h
|.exc d h,_=>.exc d h
|.u,_=>.u
open M renaming R.bind→Lake.M.R.p
inductive O where
|next (τ:Sl)(h:AH)
|ret (w:W)(h:AH)
|brk (τ:Sl)(h:AH)
|cont (τ:Sl)(h:AH)
|exc (d:D)(h:AH)
|fail
open M renaming O.fail→Lake.M.O.u,O.next→Lake.M.O.p,O.exc→Lake.M.O.w
noncomputable def O.seq:O->(Sl->AH->O)->O
|.p τ h,f=>f τ h
|o,_=>o
noncomputable def R.cU {b:Type}:R b->(b->AH->O)->O
|.j a h,f=>f a h
|.exc d h,_=>.w d h
|.u,_=>.u
open M renaming R.cU→Lake.M.R.x
section
variable{α β:Type}
@[simp]theorem R.ae (a)(h)(f:α->AH->R β):(R.ok a h).p f=f a h:=rfl
@[simp]theorem R.ax (a)(h)(f:α->AH->O):(R.ok a h).x f=f a h:=rfl
@[simp]theorem O.bS (τ)(h)(f):(O.next τ h).seq f=f τ h:=rfl
@[simp]theorem O.cR (w)(h)(f):(O.ret w h).seq f=.ret w h:=rfl
@[simp]theorem O.iG (d)(h)(f):(O.exc d h).seq f=.w d h:=rfl
end
inductive Op where
|add|sub|mul|fdiv|mod|pow|shl|shr|band|bor|bxor
 deriving DecidableEq
inductive Cp where
|eq|ne|lt|le|gt|ge|mem|fP|dE|i9
 deriving DecidableEq
inductive Ty where
|aw|bool|int|str|list|tuple
 deriving DecidableEq
inductive Mt where
|index|count|cu
 deriving DecidableEq
inductive Bi where
|len|int|list|tuple|sum|all|any|sorted|divmod|str|min|max|abs
 deriving DecidableEq
set_option genInjectivity false
mutual
inductive E where
|var (i:Nat)
|con (x:String)
|int (i:Int)
|bl (b:Bool)
|aw
|str (s:Tx)
|tup (es:Es)
|lst (es:Es)
|bin (o:Op)(a b:E)
|cmp (o:Cp)(a b:E)
|chain (o p:Cp)(a b c:E)
|fR (neg:Bool)(a:E)
|neg (a:E)
|inv (a:E)
|not (a:E)
|and (a b:E)
|or (a b:E)
|call (f:String)(es:Es)
|bi (b:Bi)(es:Es)
|cG (a:E)(t:Ty)
|bQ (a:E)(one:Bool)(ts:List String)
|ix (a b:E)
|sl (a lo hi:E)
|fL (a lo:E)
|fM (a hi:E)
|comp (tg:List Nat)(one:Bool)(k:Nat)(aD:List Nat)(it:It)(y7:Bool)(c elt:E)
|dC
|fh (i:Nat)(a:E)
|de (neg:Bool)(a:E)(i:Nat)
|eO (i:Nat)
|gF (k1:Tx)(a:E)(k2:Tx)(b:E)(k3:Tx)(c:E)(i:Nat)
|share (a:E)
|cy (a:E)
|eg (s:Tx)(ts:List Tx)
|dY (m:Mt)(a:E)(es:Es)
|xf (i:Nat)(f:String)
|make (c q:String)(es:Es)
|aI (a:E)(c f:String)
|bT (a:E)(c m q:String)(es:Es)
|fB (a:E)
|fE (f:String)(a:E)
inductive Es where
|nil
|cons (e:E)(es:Es)
inductive It where
|seq (e:E)
|ao (a:E)
|enum (e:E)
|cJ (e:E)
end
set_option genInjectivity true
inductive Tb where
|ex (f:String)(es:Es)
|sv (i:Nat)(f:String)(es:Es)
|iff (c:E)(a b:Tb)
mutual
inductive S where
|set (i:Nat)(e:E)
|af (i:Nat)(e:E)
|fv (is:List Nat)(e:E)
|b5 (o k e:E)
|app (i:Nat)(e:E)
|ext (i:Nat)(e:E)
|cI (i:Nat)(k e:E)
|eu (i:Nat)(k e:E)
|bY (i:Nat)(c f:String)(e:E)
|ex (e:E)
|ret (e:E)
|iff (c:E)(a b:Ss)
|kz (n:Nat)(c:E)(b:Ss)
|for (tg:List Nat)(one:Bool)(it:It)(b:Ss)
|gD (o k:E)(j:Nat)(e:E)
|gO (b:Tb)(c:String)(nm:Nat)(hb:Ss)
|bO (i:Nat)(c f:String)(e:E)
|eA (c f:String)(e:E)
|fb
inductive Ss where
|nil
|cons (s:S)(ss:Ss)
end
noncomputable section
mutual
@[simp,reducible]noncomputable def Gd:D->Bool
|.j _=>y9
|.u xs=>Gf xs
|.w xs=>Gf xs
|.err _ _ _=>y9
|_=>k9
@[simp,reducible]noncomputable def Gf:List D->Bool
|[]=>k9
|x::xs=>Gd x&&Gf xs
end
mutual
@[simp,reducible]noncomputable def dep:D->Nat
|.u xs=>GI xs+1
|.w xs=>GI xs+1
|_=>0
@[simp,reducible]noncomputable def GI:List D->Nat
|[]=>0
|x::xs=>max (dep x) (GI xs)
end
def Cell.pure:Cell->Bool
|.obj _ fs=>Gf (fs.j (·.2))
|_=>k9
def Gw(h:AH):Bool:=h.N Cell.pure
@[reducible]def Kc(a b:D):Bool:=Gd a&&Gd b&&u9 (dep a<150)
mutual
@[simp]noncomputable def res(h:AH):D->D
|.j r=>match h[r]? with
  |some (.lst xs)=>.w xs
  |_=>.j r
|.u xs=>.u (GU h xs)
|.w xs=>.w (GU h xs)
|d=>d
@[simp]noncomputable def GU(h:AH):List D->List D
|[]=>[]
|x::xs=>res h x::GU h xs
end
mutual
@[simp]noncomputable def cM:D->D->Bool
|.aw,.aw=>k9
|.C a,.C b=>a==b
|.o i,.o j=>i==j
|.C a,.o j=>(a.j:Int)==j
|.o i,.C b=>i==(b.j:Int)
|.p s,.p t=>s==t
|.u xs,.u ys=>GK xs ys
|.w xs,.w ys=>GK xs ys
|_,_=>y9
@[simp]noncomputable def GK:List D->List D->Bool
|[],[]=>k9
|x::xs,y::ys=>cM x y&&GK xs ys
|_,_=>y9
end
noncomputable def W.d:W->Option D
|.v d=>y0 d
|.j xs=>y0 (.w xs)
|.p _=>u0
noncomputable def W.arg:W->W
|.j xs=>.p xs
|w=>w
@[simp]theorem W.cc (d):(W.v d).arg=.v d:=rfl
@[simp]theorem W.fc (xs):(W.own xs).arg=.p xs:=rfl
@[simp]theorem W.hY (xs):(W.bor xs).arg=.p xs:=rfl
def W.dd (h:AH):W->D
|.v d=>res h d
|.j xs=>.w (GU h xs)
|.p xs=>.w (GU h xs)
open M renaming W.dd→Lake.M.W.w
noncomputable def W.cD (h:AH):W->Option (List D)
|.v (.w xs)=>y0 xs
|.j xs=>y0 xs
|.p xs=>y0 xs
|.v (.j r)=>match h[r]? with
  |some (.lst xs)=>y0 xs
  |_=>u0
|_=>u0
noncomputable def W.seq? (h:AH):W->Option (List D)
|.v (.u xs)=>y0 xs
|.v (.w xs)=>y0 xs
|.j xs=>y0 xs
|.p xs=>y0 xs
|.v (.j r)=>match h[r]? with
  |some (.lst xs)=>y0 xs
  |_=>u0
|_=>u0
noncomputable def R.of {b:Type}(h:AH):Option b->R b
|some a=>.j a h
|none=>.u
@[simp]noncomputable abbrev ak(d:D)(h:AH):R W:=.j (.v d) h
def G9(h:AH):W->Option Bool
|.v .aw=>y0 y9
|.v (.C b)=>y0 b
|.v (.o i)=>y0 (i !=0)
|.v (.p s)=>if s.e<=bq then y0 (!s.y)else u0
|.v (.u xs)=>y0 (!xs.y)
|.v (.w xs)=>y0 (!xs.y)
|.j xs=>y0 (!xs.y)
|.p xs=>y0 (!xs.y)
|_=>u0
@[simp]theorem R.ar (h)(a:α):R.of h (y0 a)=.j a h:=rfl
@[simp]theorem W.rg (d):(W.v d).d=y0 d:=rfl
@[simp]theorem W.gS (xs):(W.own xs).d=y0 (.w xs):=rfl
@[simp]theorem W.iy (h)(d):(W.v d).w h=res h d:=rfl
@[simp]theorem W.lr (h)(xs):(W.own xs).w h=.w (GU h xs):=rfl
@[simp]theorem W.kR (h)(xs):(W.bor xs).w h=.w (GU h xs):=rfl
@[simp]theorem W.mO (h)(xs):(W.v (.w xs)).cD h=y0 xs:=rfl
@[simp]theorem GS(h)(b):G9 h (.v (.C b))=y0 b:=rfl
@[simp]theorem uE(h)(i):G9 h (.v (.o i))=y0 (i !=0):=rfl
noncomputable def Kg(i j:Int):Option Int:=
 if 0<=i then(if 0<=j then y0 ((i.j&&&j.j:Nat):Int)else y0 ((i.j-(i.j&&&(-j-1).j):Nat):Int))else u0
noncomputable def lG(i j:Int):Option Int:=if 0<=i/\0<=j then y0 ((i.j|||j.j:Nat):Int)else u0
noncomputable def KC(i j:Int):Option Int:=if 0<=i/\0<=j then y0 ((i.j^^^j.j:Nat):Int)else u0
def Gi(o:Op)(i j:Int):Option Int:=match o with
|.add=>y0 (i+j)
|.sub=>y0 (i-j)
|.mul=>if(-(et)<i/\i<et)\/(-(et)<j/\j<et)then y0 (i*j)else u0
|.fdiv=>if 0<j/\j<lz then y0 (i/j)else u0
|.mod=>if 0<j then y0 (i%j)else u0
|.pow=>if 0<=j/\j<=BP/\i.p<kv then y0 (i^j.j)else u0
|.shl=>if 0<=j/\j<=BP/\i.p<kv then y0 (i*2^j.j)else u0
|.shr=>if 0<=j then y0 (i/2^j.j)else u0
|.band=>Kg i j
|.bor=>lG i j
|.bxor=>KC i j
noncomputable def W.int?:W->Option Int
|.v (.o i)=>y0 i
|_=>u0
open M renaming W.int?→Lake.M.W.u
noncomputable def W.d8:W->Option Tx
|.v (.p s)=>y0 s
|_=>u0
noncomputable def W.eY:W->Option (List D)
|.v (.u s)=>y0 s
|_=>u0
def KI(xs a:List D)(h:AH):R W:=if xs.e+a.e<=bq then .j (.j (xs++a)) h else .u
def Kz(xs:List D)(j:Int)(h:AH):R W:=if-1000<=j/\j<=1000/\xs.e*j.j<=bq then .j (.j (Aa4 j.j xs).G) h else .u
def KK(a b:W)(h:AH):R W:=match a.d8,b.d8 with
|some s,y0 t=>if s.e+t.e<=bq then ak (.p (s++t)) h else .u
|_,_=>match a.eY,b.eY with
|some xs,y0 ys=>if xs.e+ys.e<=bq then ak (.u (xs++ys)) h else .u
|_,_=>match a.cD h,b.cD h with
|some xs,y0 ys=>KI xs ys h
|_,_=>.u
noncomputable def W.iJ (h:AH):W->Option (List D)
|.j xs=>y0 xs
|.p xs=>y0 xs
|.v (.j r)=>match h[r]? with
  |some (.lst xs)=>y0 xs
  |_=>u0
|_=>u0
def KJ(a b:W)(h:AH):R W:=match a.d8,b.u with
|some s,y0 j=>if 0<=j/\j<=1000/\s.e*j.j<=bq then ak (.p (Aa4 j.j s).G) h else .u
|_,_=>match a.iJ h,b.u with
|some xs,y0 j=>Kz xs j h
|_,_=>match a.eY,b.u with
|some xs,y0 j=>if xs≠[]/\1<=j/\j<1001/\xs.e*j.j<=bq then ak (.u (Aa4 j.j xs).G) h else .u
|_,_=>.u
def GQ(o:Op)(a b:W)(h:AH):R W:=match a.u,b.u with
|some i,y0 j=>(R.of h (Gi o i j)).p λk h=>ak (.o k) h
|_,_=>match o with
|.add=>KK a b h
|.mul=>KJ a b h
|_=>.u
def inD(x:D)(xs:List D):Bool:=xs.A λy=>cM y x
@[simp,reducible]noncomputable def Ko:D->Bool
|.aw=>k9
|.C _=>k9
|.o _=>k9
|.p _=>k9
|_=>y9
noncomputable def sM:D->Option (List D)
|.w ys=>y0 ys
|.u ys=>y0 ys
|_=>u0
def Ki(a b:W)(h:AH):Option Bool:=match sM (b.w h)with
|some ys=>if Gd (a.w h)&&Gf ys&&u9 (GI ys<140)then y0 (inD (a.w h) ys)else u0
|none=>u0
noncomputable def KA(o:Cp)(i j:Int):Option Bool:=match o with
|.lt=>y0 (u9 (i<j))
|.le=>y0 (u9 (i<=j))
|.gt=>y0 (u9 (j<i))
|.ge=>y0 (u9 (j<=i))
|_=>u0
noncomputable def Kt:W->W->Option Bool
|.v .aw,.v (.C _)=>y0 y9
|.v (.C b),.v (.C c)=>y0 (b==c)
|_,_=>u0
def Gr(o:Cp)(a b:W)(h:AH):Option Bool:=match o with
|.eq=>if Kc (a.w h) (b.w h)then y0 (cM (a.w h) (b.w h))else u0
|.ne=>if Kc (a.w h) (b.w h)then y0 (!cM (a.w h) (b.w h))else u0
|.mem=>Ki a b h
|.fP=>(Ki a b h).j (!·)
|.dE=>Kt a b
|.i9=>(Kt a b).j (!·)
|o=>match a.u,b.u with
|some i,y0 j=>KA o i j
|_,_=>u0
noncomputable def ea(n:Nat)(i:Int):Option Nat:=if 0<=i then(if i<n then y0 i.j else u0)else if-(n:Int)<=i then y0 (i+n).j else u0
def aW{a:Type}(xs:List a)(i:Int):Option a:=(ea xs.e i).p λj=>xs[j]?
def d4(a b:W)(h:AH):Option D:=match b.u with
|some i=>match a.d8 with
  |some s=>if s.e<=bq then(aW s i).j λc=>.p [c]else u0
  |none=>(a.seq? h).p λxs=>aW xs i
|none=>u0
def aS(n d:Nat):Option Int->Nat
|none=>d
|some v=>if v<0 then(v+n).j else min v.j n
noncomputable def cut{b:Type}(xs:List b)(a c:Option Int):List b:=(xs.K (aS xs.e 0 a)).B (aS xs.e xs.e c-aS xs.e 0 a)
def fV(a:W)(c b:Option Int)(h:AH):R W:=match a.d8 with
|some s=>if s.e<=bq then ak (.p (cut s c b)) h else .u
|none=>match a.eY with
|some xs=>ak (.u (cut xs c b)) h
|none=>match a.cD h with
|some xs=>.j (.j (cut xs c b)) h
|none=>.u
noncomputable def Kk:List D->Option Int
|[]=>y0 0
|.o i::r=>(Kk r).j (i+·)
|_::_=>u0
noncomputable def GO:List D->Option (List Int)
|[]=>y0 []
|.o i::r=>(GO r).j (i::·)
|_::_=>u0
noncomputable def GT:List D->Option (List Tx)
|[]=>y0 []
|.p s::r=>(GT r).j (s::·)
|_::_=>u0
noncomputable def HD:List Int->Option Int
|[]=>u0
|i::r=>y0 (r.X (λa b=>if b>a then b else a) i)
noncomputable def K3:List Int->Option Int
|[]=>u0
|i::r=>y0 (r.X (λa b=>if b<a then b else a) i)
noncomputable def Ke(x:Tx):List Tx->List Tx
|[]=>[x]
|y::ys=>if y<x then y::Ke x ys else x::y::ys
def Gz:List Tx->List Tx
|[]=>[]
|x::xs=>Ke x (Gz xs)
noncomputable def Kl(x:Tx):List Tx->Option Nat
|[]=>u0
|y::ys=>if y=x then y0 0 else(Kl x ys).j (·+1)
noncomputable def Kp:List D->Option (List Bool)
|[]=>y0 []
|.C b::r=>(Kp r).j (b::·)
|_::_=>u0
def la(b:Bi)(w:W)(h:AH):R W:=match b with
|.len=>match w.d8 with
  |some s=>if s.e<=bq then ak (.o s.e) h else .u
  |none=>(R.of h (w.seq? h)).p λxs h=>ak (.o xs.e) h
|.int=>match w with
  |.v (.o i)=>ak (.o i) h
  |.v (.C b)=>ak (.o (b.j:Int)) h
  |_=>.u
|.list=>(R.of h (w.seq? h)).p λxs h=>.j (.j xs) h
|.tuple=>(R.of h (w.seq? h)).p λxs h=>ak (.u xs) h
|.sum=>(R.of h ((w.cD h).p λxs=>if xs.e<=bq then Kk xs else u0)).p λi h=>ak (.o i) h
|.all=>(R.of h ((w.cD h).p Kp)).p λbs h=>ak (.C (bs.N id)) h
|.any=>(R.of h ((w.cD h).p Kp)).p λbs h=>ak (.C (bs.A id)) h
|.max=>(R.of h (((w.cD h).p GO).p HD)).p λi h=>ak (.o i) h
|.min=>(R.of h (((w.cD h).p GO).p K3)).p λi h=>ak (.o i) h
|.sorted=>(R.of h ((w.cD h).p GT)).p λa h=>if a.e<64 then .j (.j ((Gz a).j .p)) h else .u
|_=>.u
noncomputable def n5(m:Mt)(x:W)(h:AH):Bool:=match m with
|.index=>x.eY.u
|.count=>(x.cD h).u
|.cu=>(x.cD h).u
@[simp]theorem Au(xs)(h):n5 .index (.v (.u xs)) h=true:=rfl
noncomputable def Km:Nat->List D->List D
|_,[]=>[]
|i,d::ds=>.u [.o (i:Int),d]::Km (i+1) ds
def Kr(d:D):List D->Option Nat
|[]=>u0
|y::ys=>if cM y d=k9 then y0 0 else(Kr d ys).j (·+1)
def KB(a b:W)(h:AH):Option Nat:=match b.w h with
|.w ys=>if(Gd (a.w h)&&Gf ys&&u9 (GI ys<140))&&u9 (ys.e<=bq)then Kr (a.w h) ys else u0
|_=>u0
def nu(m:Mt)(x:W)(ws:List W)(h:AH):R W:=match m,ws with
|.index,[w]=>(R.of h (x.eY.p GT)).p λa h=>(R.of h w.d8).p λt h=>(R.of h (Kl t a)).p λn h=>if a.e<=bq then ak (.o (n:Int)) h else .u
|.count,[w]=>(R.of h ((x.cD h).p GO)).p λis h=>(R.of h w.u).p λi h=>if is.e<=bq then ak (.o ((is.count i:Nat):Int)) h else .u
|.cu,[w]=>(R.of h (KB w x h)).p λn h=>ak (.o (n:Int)) h
|_,_=>.u
def vO(b:Bi)(i j:Int)(h:AH):R W:=match b with
|.divmod=>if 0<j/\j<lz then ak (.u [.o (i/j),.o (i%j)]) h else .u
|.min=>ak (.o (if j<i then j else i)) h
|.max=>ak (.o (if j>i then j else i)) h
|_=>.u
def ek(b:Bi)(ws:List W)(h:AH):R W:=match ws with
|[w]=>la b w h
|[v,w]=>(R.of h v.u).p λi h=>(R.of h w.u).p λj h=>vO b i j h
|_=>.u
@[simp]theorem GF(o)(i j)(h):GQ o (.v (.o i)) (.v (.o j)) h=(R.of h (Gi o i j)).p λk h=>ak (.o k) h:=rfl
@[simp]theorem Qc(i j):Gi .add i j=y0 (i+j):=rfl
@[simp]theorem we(i j):Gi .sub i j=y0 (i-j):=rfl
@[simp]theorem DD(s u)(h):GQ .add (.v (.p s)) (.v (.p u)) h=if s.e+u.e<=bq then ak (.p (s++u)) h else .u:=rfl
@[simp]theorem Bt(s u)(h):GQ .add (.v (.u s)) (.v (.u u)) h=if s.e+u.e<=bq then ak (.u (s++u)) h else .u:=rfl
@[simp]theorem M9(s u)(h):GQ .add (.j s) (.j u) h=if s.e+u.e<=bq then .j (.j (s++u)) h else .u:=rfl
@[simp]theorem WZ(i j)(h):Gr .lt (.v (.o i)) (.v (.o j)) h=y0 (u9 (i<j)):=rfl
@[simp]theorem Q2(i j)(h):Gr .le (.v (.o i)) (.v (.o j)) h=y0 (u9 (i<=j)):=rfl
@[simp]theorem K9(i j)(h):Gr .gt (.v (.o i)) (.v (.o j)) h=y0 (u9 (j<i)):=rfl
@[simp]theorem Hk(i j)(h):Gr .ge (.v (.o i)) (.v (.o j)) h=y0 (u9 (j<=i)):=rfl
@[simp]theorem Dw(a b)(h):Gr .eq a b h=if Kc (a.w h) (b.w h)then y0 (cM (a.w h) (b.w h))else none:=rfl
@[simp]theorem Ej(a b)(h):Gr .ne a b h=if Kc (a.w h) (b.w h)then y0 (!cM (a.w h) (b.w h))else none:=rfl
@[simp]theorem int?_int(i):(W.v (.o i)).u=y0 i:=rfl
@[simp]theorem len_str(s)(h):ek .len [.v (.p s)] h=if s.e<=bq then ak (.o s.e) h else .u:=rfl
@[simp]theorem Xc(s)(h):ek .len [.v (.u s)] h=ak (.o s.e) h:=rfl
@[simp]theorem jI(s)(h):ek .len [.v (.w s)] h=ak (.o s.e) h:=rfl
@[simp]theorem int_int(i)(h):ek .int [.v (.o i)] h=ak (.o i) h:=rfl
@[simp]theorem tL(s)(h):ek .list [.v (.u s)] h=.j (.j s) h:=rfl
@[simp]theorem Z0(s)(h):ek .tuple [.j s] h=ak (.u s) h:=rfl
@[simp]theorem NP(s)(h):ek .tuple [.p s] h=ak (.u s) h:=rfl
@[simp]theorem Pw(s)(h):ek .all [.j s] h=(R.of h (Kp s)).p λbs h=>ak (.C (bs.N id)) h:=rfl
@[simp]theorem Py(s)(h):ek .any [.j s] h=(R.of h (Kp s)).p λbs h=>ak (.C (bs.A id)) h:=rfl
@[simp]theorem y4(s)(h):ek .sum [.j s] h=(R.of h (if s.e<=bq then Kk s else u0)).p λi h=>ak (.o i) h:=rfl
@[simp]theorem HW(i j)(h):ek .divmod [.v (.o i),.v (.o j)] h=if 0<j/\j<lz then ak (.u [.o (i/j),.o (i%j)]) h else .u:=rfl
@[simp]theorem oU(s)(i)(h):d4 (.v (.p s)) (.v (.o i)) h=if s.e<=bq then(aW s i).j λc=>.p [c]else none:=rfl
@[simp]theorem ab(s)(i)(h):d4 (.v (.u s)) (.v (.o i)) h=aW s i:=rfl
@[simp]theorem jr(s)(i)(h):d4 (.v (.w s)) (.v (.o i)) h=aW s i:=rfl
@[simp]theorem qN(s)(i)(h):d4 (.j s) (.v (.o i)) h=aW s i:=rfl
@[simp]theorem Dq(s)(i)(h):d4 (.p s) (.v (.o i)) h=aW s i:=rfl
@[simp]theorem tq(s)(lo hi)(h):fV (.v (.w s)) lo hi h=.j (.j (cut s lo hi)) h:=rfl
@[simp]theorem Co(s)(lo hi)(h):fV (.p s) lo hi h=.j (.j (cut s lo hi)) h:=rfl
abbrev dG:=List (String×String)
noncomputable def GW(a:dG):Nat->String->List String
|0,_=>[]
|n+1,c=>c::match a.p c with
|some b=>GW a n b
|none=>[]
noncomputable def HR:W->Option Ty
|.v .aw=>y0 .aw
|.v (.C _)=>y0 .bool
|.v (.o _)=>y0 .int
|.v (.p _)=>y0 .str
|.v (.u _)=>y0 .tuple
|.v (.w _)=>y0 .list
|.j _=>y0 .list
|.p _=>y0 .list
|.v (.j _)=>u0
|.v (.err _ _ _)=>u0
noncomputable def Ty.le:Ty->Ty->Bool
|.bool,.int=>k9
|a,b=>u9 (a=b)
def cG(t:Ty)(w:W):Option Bool:=(HR w).j λu=>u.le t
@[simp]theorem M3(t)(i):cG t (.v (.o i))=y0 (Ty.le .int t):=rfl
@[simp]theorem HS(t)(s):cG t (.v (.u s))=y0 (Ty.le .tuple t):=rfl
@[simp]theorem Ty.ir (t):Ty.le t t=true:=by cases t<;>rfl
@[simp]theorem Ty.mu:Ty.le .int .tuple=false:=rfl
def bQ(a:dG)(w:W)(b:List String):Option Bool:=match w with
|.v (.err c _ _)=>y0 (b.A (GW a 8 c).w)
|_=>u0
@[simp]noncomputable def Gn:Sl->Nat->Option W
|[],_=>u0
|x::_,0=>x
|_::r,n+1=>Gn r n
@[simp]noncomputable def GB:Sl->Nat->W->Sl
|[],_,_=>[]
|_::r,0,w=>y0 w::r
|x::r,n+1,w=>x::GB r n w
def Gj(τ:Sl)(i:Nat):Option W:=match Gn τ i with
|some (.j xs)=>y0 (.p xs)
|o=>o
@[simp]theorem Kj(e:Gn τ i=y0 (.j xs)):Gj τ i=y0 (.p xs):=by simp[Gj,e]
@[simp]theorem Ku(e:Gn τ i=y0 (.v d)):Gj τ i=y0 (.v d):=by simp[Gj,e]
@[simp]theorem Ka(e:Gn τ i=y0 (.p xs)):Gj τ i=y0 (.p xs):=by simp[Gj,e]
@[simp]noncomputable def ba:List Nat->List D->Sl->Option Sl
|[],[],τ=>y0 τ
|i::is,d::ds,τ=>ba is ds (GB τ i (.v d))
|_,_,_=>u0
def Gq(a:List Nat)(one:Bool)(d:D)(τ:Sl):Option Sl:=match one with
|true=>match a with
  |[i]=>y0 (GB τ i (.v d))
  |_=>u0
|false=>match d with
|.u ds=>ba a ds τ
|_=>u0
noncomputable def Gy(step:D->AH->R (Option D)):List D->AH->R (List D)
|[],h=>.j [] h
|d::ds,h=>match step d h with
|.j o h1=>match Gy step ds h1 with
   |.j r h2=>.j (match o with|some x=>x::r|none=>r) h2
   |_=>.u
|_=>.u
structure Fx where
 call:String->List W->AH->R W
 cl:dG
 con:List (String×D)
open M renaming Fx.call→Lake.M.Fx.j
noncomputable def G6(h:AH):Option W->Option (Nat×String×List (String×D))
|some (.v (.j r))=>match h[r]? with
  |some (.obj c fs)=>y0 (r,c,fs)
  |_=>u0
|_=>u0
noncomputable def aZ(f:String)(d:D):List (String×D)->List (String×D)
|[]=>[(f,d)]
|(g,x)::r=>if g=f then(g,d)::r else(g,x)::aZ f d r
noncomputable def yQ:W->Option (List D)
|.v (.w xs)=>y0 xs
|.j xs=>y0 xs
|_=>u0
noncomputable def GV(h:AH):Option W->Option (Nat×List (Tx×D))
|some (.v (.j r))=>match h[r]? with
  |some (.aR ks)=>y0 (r,ks)
  |_=>u0
|_=>u0
noncomputable def GE(a:List (Tx×D))(k:Tx)(d:D):List (Tx×D):=if a.A (λp=>u9 (p.1=k))then a.j (λp=>if p.1=k then(p.1,d)else p)else a++[(k,d)]
noncomputable def fh(w:W)(o:Option (Nat×List (Tx×D)))(h:AH):R W:=match w,o with
|.v (.p k),y0 (_,ks)=>match ks.p k with
  |some d=>ak d h
  |none=>.u
|_,_=>.u
noncomputable def de(neg:Bool)(w:W)(o:Option (Nat×List (Tx×D)))(h:AH):R W:=match w,o with
|.v (.p k),y0 (_,ks)=>ak (.C (if neg then !(ks.p k).u else(ks.p k).u)) h
|_,_=>.u
noncomputable def gF(T:List (Tx×W))(o:Option W)(h:AH):R W:=match o with
|some (.v (.p k))=>match T.p k with
  |some (.v d)=>if Ko d then ak d h else .u
  |_=>.u
|_=>.u
noncomputable def Kb(i:Int):Nat:=if i=0 then 0 else Nat.log2 i.p+1
noncomputable def G8:R W->Option Int
|.j (.v (.o y)) []=>y0 y
|_=>u0
noncomputable def GX(key:Int->R W):Int->Int->List Int->Option Int
|b,_,[]=>y0 b
|b,a,x::xs=>(G8 (key x)).p λk=>if k<a then GX key x k xs else GX key b a xs
def Kd(key:Int->R W):Option (List Int)->Option Int
|some (x::xs)=>(G8 (key x)).p λk=>GX key x k xs
|_=>u0
mutual
@[simp]noncomputable def eval(F:Fx):E->Sl->AH->R W
|.var i,τ,h=>match Gj τ i with
  |some w=>.j w h
  |none=>.u
|.con x,_,h=>match F.con.p x with
  |some d=>ak d h
  |none=>.u
|.int i,_,h=>ak (.o i) h
|.bl b,_,h=>ak (.C b) h
|.aw,_,h=>ak .aw h
|.str s,_,h=>ak (.p s) h
|.tup es,τ,h=>(Gv F es τ h).p λds h=>ak (.u ds) h
|.lst es,τ,h=>(Gv F es τ h).p λds h=>.j (.j ds) h
|.bin o a b,τ,h=>(eval F a τ h).p λx h=>(eval F b τ h).p λy h=>GQ o x y h
|.cmp o a b,τ,h=>(eval F a τ h).p λx h=>(eval F b τ h).p λy h=>(R.of h (Gr o x y h)).p λc h=>ak (.C c) h
|.chain o p a b c,τ,h=>(eval F a τ h).p λx h=>(eval F b τ h).p λy h=>(R.of h (Gr o x y h)).p λt h=>match t with
  |true=>(eval F c τ h).p λz h=>(R.of h (Gr p y z h)).p λc h=>ak (.C c) h
  |false=>ak (.C y9) h
|.fR neg a,τ,h=>(eval F a τ h).p λx h=>match x with
  |.v .aw=>ak (.C (!neg)) h
  |_=>ak (.C neg) h
|.neg a,τ,h=>(eval F a τ h).p λx h=>(R.of h x.u).p λi h=>ak (.o (-i)) h
|.inv a,τ,h=>(eval F a τ h).p λx h=>(R.of h x.u).p λi h=>ak (.o (-i-1)) h
|.not a,τ,h=>(eval F a τ h).p λx h=>(R.of h (G9 h x)).p λc h=>ak (.C (!c)) h
|.and a b,τ,h=>(eval F a τ h).p λx h=>(R.of h (G9 h x)).p λc h=>match c with
  |true=>eval F b τ h
  |false=>.j x h
|.or a b,τ,h=>(eval F a τ h).p λx h=>(R.of h (G9 h x)).p λc h=>match c with
  |true=>.j x h
  |false=>eval F b τ h
|.call f es,τ,h=>(Gc F es τ h).p λws h=>F.j f (ws.j W.arg) h
|.bi b es,τ,h=>(Gc F es τ h).p λws h=>ek b ws h
|.cG a t,τ,h=>(eval F a τ h).p λx h=>(R.of h (cG t x)).p λc h=>ak (.C c) h
|.bQ a _ ts,τ,h=>(eval F a τ h).p λx h=>(R.of h (bQ F.cl x ts)).p λc h=>ak (.C c) h
|.ix a b,τ,h=>(eval F a τ h).p λx h=>(eval F b τ h).p λy h=>(R.of h (d4 x y h)).p λd h=>ak d h
|.sl a lo hi,τ,h=>(eval F a τ h).p λx h=>(eval F lo τ h).p λl h=>(R.of h l.u).p λl h=>(eval F hi τ h).p λu h=>(R.of h u.u).p λu h=>fV x (y0 l) (y0 u) h
|.fL a lo,τ,h=>(eval F a τ h).p λx h=>(eval F lo τ h).p λl h=>(R.of h l.u).p λl h=>fV x (y0 l) u0 h
|.fM a hi,τ,h=>(eval F a τ h).p λx h=>(eval F hi τ h).p λu h=>(R.of h u.u).p λu h=>fV x u0 (y0 u) h
|.comp tg one k aD it y7 c elt,τ,h=>(Gk F it τ h).p λds h=>
  if ds.e<=bq then
   (Gy (λd h=>match Gq tg one d (Aa4 k u0++aD.j λj=>Gj τ j)with
|none=>.u
|some τ'=>(if y7 then(eval F c τ' h).p λx h=>R.of h (G9 h x)else .j k9 h).p λb h=>match b with
|true=>(eval F elt τ' h).p λy h=>(R.of h y.d).p λy h=>.j (y0 y) h
|false=>.j u0 h) ds h).p λys h=>.j (.j ys) h
  else .u
|.dC,_,h=>ak (.j h.e) (h++[.aR []])
|.fh i a,τ,h=>match GV h (Gn τ i)with
  |some _=>(eval F a τ h).p λx h=>fh x (GV h (Gn τ i)) h
  |none=>.u
|.de neg a i,τ,h=>(eval F a τ h).p λx h=>de neg x (GV h (Gn τ i)) h
|.gF k1 a k2 b k3 c i,τ,h=>(eval F a τ h).p λx h=>(eval F b τ h).p λy h=>(eval F c τ h).p λz h=>gF [(k1,x),(k2,y),(k3,z)] (Gn τ i) h
|.eO i,τ,h=>match GV h (Gn τ i)with
  |some (_,ks)=>ak (.j h.e) (h++[.aR ks])
  |none=>.u
|.share a,τ,h=>(eval F a τ h).p λx h=>match x with
  |.j xs=>if Gf xs then ak (.j h.e) (h++[.lst xs])else .u
  |_=>.u
|.cy a,τ,h=>(eval F a τ h).p λx h=>(R.of h x.u).p λn h=>if 0<=n/\n<=1000 then .j (.j ((Aa7 n.j).j λ(i:Nat)=>.o (i:Int))) h else .u
|.eg _ ts,τ,h=>.j (.j (ts.j .p)) h
|.dY m a es,τ,h=>(eval F a τ h).p λx h=>if n5 m x h then(Gc F es τ h).p λws h=>nu m x ws h else .u
|.xf i f,τ,h=>match Gn τ i with
  |some (.v (.err _ g d))=>if g=f then .j (.v d) h else .u
  |_=>.u
|.make c q es,τ,h=>(Gc F es τ h).p λws h=>(F.j q (.v (.j h.e)::ws.j W.arg) (h++[.obj c []])).p λw h'=>match w with
  |.v .aw=>ak (.j h.e) h'
  |_=>.u
|.aI a c f,τ,h=>(eval F a τ h).p λw h=>match G6 h (y0 w)with
  |some (_,c',fs)=>if c'=c then(R.of h (fs.p f)).p λd h=>ak d h else .u
  |none=>.u
|.bT a c m q es,τ,h=>(eval F a τ h).p λw h=>match G6 h (y0 w)with
  |some (r,c',fs)=>if c'=c/\(fs.p m).w=k9 then(Gc F es τ h).p λws h=>F.j q (.v (.j r)::ws.j W.arg) h else .u
  |none=>.u
|.fB a,τ,h=>(eval F a τ h).p λw h=>(R.of h w.u).p λi h=>ak (.o ((Kb i:Nat):Int)) h
|.fE f a,τ,h=>(eval F a τ h).p λw h=>(R.of h (Kd (λx=>F.j f [.v (.o x)] []) ((w.cD h).p GO))).p λi h=>ak (.o i) h
@[simp]noncomputable def Gc(F:Fx):Es->Sl->AH->R (List W)
|.nil,_,h=>.j [] h
|.cons e es,τ,h=>(eval F e τ h).p λw h=>(Gc F es τ h).p λws h=>.j (w::ws) h
@[simp]noncomputable def Gv(F:Fx):Es->Sl->AH->R (List D)
|.nil,_,h=>.j [] h
|.cons e es,τ,h=>(eval F e τ h).p λw h=>(R.of h w.d).p λd h=>(Gv F es τ h).p λds h=>.j (d::ds) h
@[simp]noncomputable def Gk(F:Fx):It->Sl->AH->R (List D)
|.seq e,τ,h=>(eval F e τ h).p λw h=>match w with
  |.v (.u xs)=>.j xs h
  |.v (.w xs)=>.j xs h
  |.j xs=>.j xs h
  |.p xs=>.j xs h
  |_=>.u
|.ao a,τ,h=>(eval F a τ h).p λw h=>(R.of h w.u).p λn h=>if-(gj)<=n/\n<gj then .j ((Aa7 n.j).j λ(i:Nat)=>.o (i:Int)) h else .u
|.cJ e,τ,h=>(eval F e τ h).p λw h=>(R.of h (yQ w)).p λxs h=>.j (Km 0 xs) h
|.enum e,τ,h=>(eval F e τ h).p λw h=>match w with
|.v (.u xs)=>.j (Km 0 xs) h
|_=>.u
end
noncomputable def ou:W->Option (List D)
|.v (.u xs)=>y0 xs
|.v (.w xs)=>y0 xs
|.j xs=>y0 xs
|_=>u0
noncomputable def lJ:W->Option (List D)
|.v (.u xs)=>y0 xs
|.v (.w xs)=>y0 xs
|.p xs=>y0 xs
|_=>u0
@[simp]theorem Ks(xs):ou (.v (.u xs))=y0 xs:=rfl
@[simp]theorem Kw(xs):ou (.v (.w xs))=y0 xs:=rfl
@[simp]theorem Kh(xs):ou (.j xs)=y0 xs:=rfl
@[simp]theorem Kx(xs):lJ (.v (.u xs))=y0 xs:=rfl
@[simp]theorem Ky(xs):lJ (.v (.w xs))=y0 xs:=rfl
@[simp]theorem Kq(xs):lJ (.p xs)=y0 xs:=rfl
@[simp]noncomputable def GJ:E->Option Nat
|.var i=>y0 i
|_=>u0
@[simp]def Gs(F:Fx)(it:It)(τ:Sl)(h:AH):R (List D):=match it with
|.seq e=>match GJ e with
  |some i=>R.of h ((Gn τ i).p lJ)
  |none=>(eval F e τ h).p λw h=>R.of h (ou w)
|it=>Gk F it τ h
noncomputable def Gp(c:D->Sl->Option Sl)(b:Sl->AH->O):List D->Sl->AH->O
|[],τ,h=>.p τ h
|d::ds,τ,h=>match c d τ with
|none=>.u
|some e=>match b e h with
|.p a h2=>Gp c b ds a h2
|.cont a h2=>Gp c b ds a h2
|.brk a h2=>.p a h2
|o=>o
noncomputable def GG(c:Sl->AH->R Bool)(d:Sl->AH->O):Nat->Sl->AH->O
|0,_,_=>.u
|n+1,τ,h=>(c τ h).x λb h1=>match b with
|false=>.p τ h1
|true=>match d τ h1 with
|.p a h2=>GG c d n a h2
|.cont a h2=>GG c d n a h2
|.brk a h2=>.p a h2
|o=>o
def Gm(F:Fx)(e:E)(τ:Sl)(h:AH):R Bool:=(eval F e τ h).p λx h=>R.of h (G9 h x)
def GN:D->Bool
|.err _ _ d=>Gd d
|_=>y9
def Kn(d:D)(n:Nat)(h:AH):AH:=if GN d&&Gw (h.B n)then h.B n else h
def FY(w:W)(i:Nat)(τ:Sl)(h:AH):O:=match w with
|.v d=>.p (GB τ i (.v d)) h
|_=>.u
noncomputable def mD(call:String->List W->AH->R W)(a:Option Nat)(f:String)(τ:Sl):R (List W)->O
|.j b h=>match call f (b.j W.arg) h with
  |.j w h=>match a with
   |none=>.p τ h
   |some i=>FY w i τ h
  |.exc d h1=>.w d (Kn d h.e h1)
  |.u=>.u
|_=>.u
def KH(b:dG)(c:String)(nm:Nat)(e:Sl->AH->O)(τ:Sl)(d:D)(h:AH):O:=match bQ b (.v d) [c]with
|some true=>match e (GB τ nm (.v d)) h with
  |.p a h'=>.p (a.x nm u0) h'
  |_=>.u
|_=>.u
def KG(a:dG)(c:String)(nm:Nat)(b:Sl->AH->O)(τ:Sl):O->O
|.w d h=>KH a c nm b τ d h
|o=>o
noncomputable def gR:W->Option (D×D)
|.v (.u [a,b])=>y0 (a,b)
|_=>u0
def Kv(w a b:W)(τ:Sl)(h:AH):O:=match w,a,b with
|.v d,.v (.j r),.v (.o j)=>match h[r]? with
  |some (.lst xs)=>match ea xs.e j with
   |some n=>if Ko d then .p τ (h.x r (.lst (xs.x n d)))else .u
   |none=>.u
  |_=>.u
|_,_,_=>.u
@[simp]def lu(F:Fx):Tb->Sl->AH->O
|.ex f es,τ,h=>mD F.j u0 f τ (Gc F es τ h)
|.sv i f es,τ,h=>mD F.j (y0 i) f τ (Gc F es τ h)
|.iff c a b,τ,h=>match Gm F c τ h with
|.j k9 h=>lu F a τ h
|.j y9 h=>lu F b τ h
|_=>.u
mutual
@[simp]noncomputable def exec(F:Fx):S->Sl->AH->O
|.set i e,τ,h=>(eval F e τ h).x λw h=>match w with
  |.p _=>.u
  |w=>.p (GB τ i w) h
|.af i e,τ,h=>(eval F e τ h).x λw h=>match w.d with
  |some d=>.p (GB τ i (.v d)) h
  |none=>.u
|.fv is e,τ,h=>(eval F e τ h).x λw h=>match w with
  |.v (.u ds)=>match ba is ds τ with
   |some τ'=>.p τ' h
   |none=>.u
  |_=>.u
|.gD o k j e,τ,h=>(eval F e τ h).x λw h=>match gR w with
  |some (d1,d2)=>(eval F o τ h).x λow h=>(eval F k τ h).x λkw h=>if Ko d2 then(match Kv (.v d1) ow kw τ h with
|.p τ h=>.p (GB τ j (.v d2)) h
|_=>.u)else .u
  |none=>.u
|.b5 o k e,τ,h=>(eval F e τ h).x λw h=>(eval F o τ h).x λow h=>(eval F k τ h).x λkw h=>Kv w ow kw τ h
|.app i e,τ,h=>match Gn τ i with
  |some (.j xs)=>(eval F e τ h).x λw h=>match w.d with
   |some d=>if xs.e<bq then .p (GB τ i (.j (xs++[d]))) h else .u
   |none=>.u
  |_=>.u
|.ext i e,τ,h=>match Gn τ i with
  |some (.j xs)=>(eval F e τ h).x λw h=>match w with
   |.j ys=>if xs.e+ys.e<bq then .p (GB τ i (.j (xs++ys))) h else .u
   |_=>.u
  |_=>.u
|.bY i c f e,τ,h=>(eval F e τ h).x λw h=>match w.d with
  |some d=>match G6 h (Gn τ i)with
   |some (r,c',fs)=>if c'=c/\Gd d=k9/\fs.e<100 then .p τ (h.x r (.obj c (aZ f d fs)))else .u
   |none=>.u
  |none=>.u
|.eu i k e,τ,h=>(eval F e τ h).x λw h=>match Gn τ i with
  |some (.j xs)=>(eval F k τ h).x λkw h=>match w,kw with
   |.v d,.v (.o j)=>(match ea xs.e j with
|some n=>.p (GB τ i (.j (xs.x n d))) h
|none=>.u)
   |_,_=>.u
  |_=>.u
|.cI i k e,τ,h=>(eval F e τ h).x λw h=>match GV h (Gn τ i)with
  |some _=>(eval F k τ h).x λkw h=>match w,kw,GV h (Gn τ i)with
   |.v d,.v (.p t),y0 (r,ks)=>if ks.e<bq/\Gd d=k9 then .p τ (h.x r (.aR (GE ks t d)))else .u
   |_,_,_=>.u
  |none=>.u
|.ex e,τ,h=>(eval F e τ h).x λ_ h=>.p τ h
|.ret e,τ,h=>match GJ e with
  |some i=>match Gn τ i with
   |some (.p _)=>.u
   |some w=>.ret w h
   |none=>.u
  |none=>(eval F e τ h).x λw h=>match w with
  |.p _=>.u
  |w=>.ret w h
|.iff c a b,τ,h=>(Gm F c τ h).x λt h=>match t with
  |true=>execs F a τ h
  |false=>execs F b τ h
|.kz n c b,τ,h=>GG (λτ h=>Gm F c τ h) (λτ h=>execs F b τ h) n τ h
|.for tg one it b,τ,h=>(Gs F it τ h).x λds h=>Gp (Gq tg one) (λτ h=>execs F b τ h) ds τ h
|.eA c f e,τ,h=>(Gv F (.cons e .nil) τ h).x λds h=>match ds with
  |[d]=>.w (.err c f d) h
  |_=>.u
|.gO b c nm hb,τ,h=>KG F.cl c nm (λτ h=>execs F hb τ h) τ (lu F b τ h)
|.bO i c f e,τ,h=>(eval F e τ h).x λw h=>match w with
  |.v d=>match G6 h (Gn τ i)with
   |some (r,c',fs)=>if c'=c/\fs.e<100 then .p τ (h.x r (.obj c (aZ f d fs)))else .u
   |none=>.u
  |_=>.u
|.fb,_,_=>.u
@[simp]noncomputable def execs(F:Fx):Ss->Sl->AH->O
|.nil,τ,h=>.p τ h
|.cons s ss,τ,h=>(exec F s τ h).seq λτ h=>execs F ss τ h
end
structure Fn where
 ps:Nat
 n:Nat
 body:Ss
structure Prog where
 fns:List (String×Fn)
 cl:dG
 con:List (String×D)
def W.keep:W->Bool
|.v d=>Gd d
|.j xs=>Gf xs
|.p _=>k9
noncomputable def fin(n:Nat)(w:W)(h:AH):R W:=if h.e=n then .j w h else if w.keep&&Gw (h.B n)then .j w (h.B n)else .j w h
def Gx(n:Nat):O->R W
|.ret w h=>match w with
  |.p _=>.u
  |w=>fin n w h
|.p _ h=>fin n (.v .aw) h
|.w d h=>.exc d h
|_=>.u
@[simp]theorem Ga(d)(h h':AH)(e:h'.e=h.e):Gx h.e (.ret (.v d) h')=.j (.v d) h':=by simp[Gx,fin,e]
@[simp]theorem Gu(xs)(h h':AH)(e:h'.e=h.e):Gx h.e (.ret (.j xs) h')=.j (.j xs) h':=by simp[Gx,fin,e]
@[simp]theorem GA(τ)(h h':AH)(e:h'.e=h.e):Gx h.e (.p τ h')=.j (.v .aw) h':=by simp[Gx,fin,e]
@[simp]theorem GY(d)(n)(h):Gx n (.w d h)=.exc d h:=rfl
def run(F:Fx)(d:Fn)(ws:List W)(h:AH):R W:=if ws.e=d.ps then Gx h.e (execs F d.body (ws.j y0++Aa4 (d.n-d.ps) u0) h)else .u
def call(p:Prog):Nat->String->List W->AH->R W
|0,_,_,_=>.u
|k+1,f,a,h=>match p.fns.p f with
|some d=>run ⟨call p k,p.cl,p.con⟩ d a h
|none=>.u
def Gb(e:p.fns.p f=y0 d)(k)(ws)(h)(a:ws.e=d.ps):
 call p (k+1) f ws h=Gx h.e (execs ⟨call p k,p.cl,p.con⟩ d.body (ws.j y0++Aa4 (d.n-d.ps) u0) h):=by
 rw[call,e];simp[run,a]
end
end Lake.M
namespace Lake.MS
open Lake renaming V.int→Lake.V.o,V.ref→Lake.V.j,V.str→Lake.V.p,V.bl→Lake.V.C,Cx.env→Lake.Cx.j,Cx.prog→Lake.Cx.p,HO.lst→Lake.HO.w,Inv.base→Lake.Inv.u,Inv.list→Lake.Inv.C
open M renaming D.int→Lake.M.D.o,D.ref→Lake.M.D.j,D.str→Lake.M.D.p,D.tup→Lake.M.D.u,D.lst→Lake.M.D.w,D.bl→Lake.M.D.C,D.aw→Lake.M.D.T,D.err→Lake.M.D.x,Es.cons→Lake.M.Es.j,Es.nil→Lake.M.Es.p,R.ok→Lake.M.R.j,R.bind→Lake.M.R.p,R.fail→Lake.M.R.u,Fx.call→Lake.M.Fx.j,E.call→Lake.M.E.j,E.comp→Lake.M.E.N,E.var→Lake.M.E.X,E.chain→Lake.M.E.a2,E.share→Lake.M.E.a4,W.own→Lake.M.W.j,W.bor→Lake.M.W.p,O.fail→Lake.M.O.u,O.next→Lake.M.O.p,Ty.list→Lake.M.Ty.C
open PySem PySem.Spec
structure Ge where
 K:Ab
 ca:String->Addr
 cl:M.dG
 own:List String
 ma:String->Addr
open Lake renaming MS.Ge.ca→Lake.MS.Ge.j
structure gZ(Y:Ge)(c:String):Prop where
 k:l6 Y.K (Y.j c)
 own:∀t∈Y.own,An6 Y.K (.j (Y.j c)) (.j (Y.j t))=y0 ((M.GW Y.cl 8 c).w t)
 ve:PySem.W.kitOne Y.K (.j (Y.j c)) (.p "ValueError")=some ((M.GW Y.cl 8 c).w "ValueError")
structure Gh where
 fz:Addr->Prop
 aU:Nat->Addr
 n:Nat
open Lake renaming MS.Gh.aU→Lake.MS.Gh.j,MS.Gh.fz→Lake.MS.Gh.u
def fN(Y:Ge)(G:Gh)(H:Hp)(a:Addr)(vs:List V):Prop:=(G.u a/\H a=y0 (.tup vs))∨
 ∃(o:Obj)(b:Array Value)(n:Nat),Y.K.p a=some o/\o.cls=.p "tuple"/\o.w=none/\o.j=.j b n/\b.j<=sizeLine/\Vals vs b.p
def uk(Y:Ge)(a:Addr)(vs:List V):Prop:=∃(o:Obj)(b:Array Value)(n:Nat),Y.K.p a=some o/\o.cls=.p "list"/\o.w=none/\o.j=.j b n/\b.j<=sizeLine/\Vals vs b.p
def kX(Y:Ge)(G:Gh)(H:Hp)(a:Addr)(vs:List V):Prop:=(G.u a/\Rd H a (.w vs))\/uk Y a vs
def fN.sq (h:fN Y G H a vs):cY Y.K H a vs:=h.j (λz=>.p (.p z.2)) (by rintro⟨o,b,n,c,e,_,d⟩;exact .u ⟨o,b,n,c,e,d⟩)
def fN.pl (h:fN Y G H a vs):sW Y.K H a:=h.j (λz=>.p ⟨_,z.2⟩) (by rintro⟨o,_,_,b,d,c,_⟩;exact .u ⟨o,b,d,c⟩)
def kX.sq (h:kX Y G H a vs):bA Y.K H a vs:=h.j (λz=>.p z.2) λz=>.u z
noncomputable def aK(s:M.Tx):Str:=⟨s.u⟩
mutual
def aC(Y:Ge)(G:Gh)(H:Hp):M.D->V->Prop
|.T,v=>v=.aw
|.C b,v=>v=.C b
|.o i,v=>v=.o i
|.p s,v=>v=.p (aK s)
|.u ds,v=>∃a vs,v=.j a/\fN Y G H a vs/\aa Y G H ds vs
|.w ds,v=>∃a vs,v=.j a/\kX Y G H a vs/\aa Y G H ds vs
|.j r,v=>r<G.n/\v=.j (G.j r)
|.x c f d,v=>∃x dx u,v=.j x/\G.u x/\G.u dx/\H x=y0 (g7 x (Y.j c) (y0 dx))/\H dx=y0 (.xd [(Str.ofString f,u)])/\gZ Y c/\mB Y.K (Y.j c) (Str.ofString f)/\aC Y G H d u
def aa(Y:Ge)(G:Gh)(H:Hp):List M.D->List V->Prop
|[],vs=>vs=[]
|d::ds,vs=>∃v r,vs=v::r/\aC Y G H d v/\aa Y G H ds r
end
def bG(Y:Ge)(G:Gh)(H:Hp)(a:Addr):M.Cell->Prop
|.lst xs=>M.Gf xs=k9/\∃d,H a=y0 (.w d)/\aa Y G H xs d
|.aR ks=>M.Gf (ks.j (·.2))=k9/\∃b,H a=y0 (dS ((ks.j λp=>aK p.1).a0 b))/\aa Y G H (ks.j (·.2)) b
|.obj c fs=>∃dx b,H a=y0 (.ins (Y.j c) dx ((fs.j λp=>Str.ofString p.1).a0 b))/\aa Y G H (fs.j (·.2)) b
structure ah(Y:Ge)(G:Gh)(h:M.AH)(H:Hp):Prop where
 len:h.e=G.n
 any:∀r c,h[r]?=y0 c->¬G.u (G.j r)/\bG Y G H (G.j r) c
 inj:∀r s,r<G.n->s<G.n->G.j r=G.j s->r=s
 live:∀a,G.u a->∃o,H a=y0 o
open Lake renaming MS.ah.any→Lake.MS.ah.A,MS.ah.len→Lake.MS.ah.y,MS.ah.live→Lake.MS.ah.j
def dZ(G:Gh)(a:Addr):Prop:=∀r,r<G.n->G.j r≠a
structure Ext(G:Gh)(H:Hp)(G':Gh)(H':Hp):Prop where
 keep:∀a o,H a=y0 o->dZ G a->H' a=y0 o
 le:G.n<=G'.n
 aU:∀r,r<G.n->G'.j r=G.j r
 new:∀r,G.n<=r->r<G'.n->H (G'.j r)=u0
 fz:∀a,G.u a->G'.u a
 old:∀a,G'.u a->G.u a\/H a=u0
 cells:∀r,r<G.n->(∃o,H (G.j r)=y0 o)->∃o,H' (G.j r)=y0 o
open Lake renaming MS.Ext.cells→Lake.MS.Ext.u,MS.Ext.keep→Lake.MS.Ext.p
def ai(Y:Ge)(G:Gh)(H:Hp):M.W->V->Prop
|.v d,v=>aC Y G H d v
|.j xs,v=>∃a b,v=.j a/\¬G.u a/\dZ G a/\H a=y0 (.w b)/\aa Y G H xs b
|.p xs,v=>∃a b,v=.j a/\dZ G a/\Rd H a (.w b)/\aa Y G H xs b
noncomputable def hF:M.W->Bool
|.j _=>k9
|.p _=>k9
|_=>y9
structure au(Y:Ge)(G:Gh)(τ:M.Sl)(h:M.AH)(U:St)(H:Hp):Prop where
 len:τ.e=U.e
 slot:∀i w,M.Gn τ i=y0 w->∃v,U[i]?=y0 (y0 v)/\ai Y G H w v
 apart:∀i j xs w a,i≠j->M.Gn τ i=y0 (.j xs)->M.Gn τ j=y0 w->hF w=k9->U[i]?=y0 (y0 (.j a))->U[j]?≠y0 (y0 (.j a))
 heap:ah Y G h H
open Lake renaming MS.au.heap→Lake.MS.au.j,MS.au.slot→Lake.MS.au.u,MS.au.apart→Lake.MS.au.p
section
variable{Y:Ge}{G G' G1 G2:Gh}{H H' H1 H2:Hp}{h h':M.AH}{τ:M.Sl}{U:St}
def ah.cell (R:ah Y G h H)(r)(xs)(e:h[r]?=y0 (M.Cell.lst xs)):¬G.u (G.j r)/\∃vs,H (G.j r)=y0 (.w vs)/\aa Y G H xs vs:=⟨(R.A r _ e).1,(R.A r _ e).2.2⟩
def ah.pure (R:ah Y G h H)(r:Nat)(xs)(e:h[r]?=y0 (M.Cell.lst xs)):M.Gf xs=true:=(R.A r _ e).2.1
theorem ah.obj (R:ah Y G h H)(r)(c)(fs)(e:h[r]?=y0 (M.Cell.obj c fs)):¬G.u (G.j r)/\∃dx i,H (G.j r)=y0 (.ins (Y.j c) dx ((fs.j λp=>Str.ofString p.1).a0 i))/\aa Y G H (fs.j (·.2)) i:=R.A r _ e
def ah.lt (R:ah Y G h H)(e:h[r]?=y0 c):r<G.n:=by rw[←R.y];exact(Aa1.p e).1
def ah.at(R:ah Y G h H)(a:i<G.n):∃c,h[i]?=y0 c:=⟨_,Aa6 (by rw[R.y];exact a)⟩
def bG.there (z:bG Y G H a c):∃o,H a=y0 o:=by
 cases c with
|lst b=>obtain⟨_,_,z,_⟩:=z;exact⟨_,z⟩
|aR d=>obtain⟨_,_,z,_⟩:=z;exact⟨_,z⟩
|obj c fs=>obtain⟨_,_,z,_⟩:=z;exact⟨_,z⟩
def ah.me (r:ah Y G h H)(a:i<G.n):¬G.u (G.j i):=let⟨_,e⟩:=r.at a;(r.A i _ e).1
def ah.off (r:ah Y G h H)(c:G.u a):dZ G a:=λi b z=>r.me b (z▸c)
theorem ah.there (r:ah Y G h H)(a:i<G.n):∃o,H (G.j i)=y0 o:=let⟨_,e⟩:=r.at a;(r.A i _ e).2.there
def Ext.refl:Ext G H G H:=⟨λ_ _ e _=>e,Aa9 _,λ_ _=>rfl,λr a b=>absurd a (Ao1.u b),λ_ z=>z,λ_ z=>.p z,λ_ _ z=>z⟩
theorem Ext.none (e:Ext G H G' H')(f:ah Y G h H)(z:H' a=u0):H a=none:=by
 cases q:H a with
|none=>rfl
|some o=>
  by_cases b:dZ G a
  .rw[e.p a o q b]at z;cases z
  .unfold dZ at b;have:∃r,r<G.n/\G.j r=a:=Aj3 λg=>b λr f z=>g ⟨r,f,z⟩;obtain⟨r,c,rfl⟩:=this;obtain⟨i,d⟩:=e.u r c ⟨o,q⟩;rw[z]at d;cases d
def Ext.off (e:Ext G H G' H')(d:H a=y0 o)(c:dZ G a):dZ G' a:=λr f z=>by
 by_cases b:r<G.n
 .rw[e.aU r b]at z;exact c r b z
 .have:=e.new r (Nat.not_lt.p b) f;rw[z,d]at this;cases this
def Ext.trans (b:Ext G H G1 H1)(f:ah Y G h H)(d:Ext G1 H1 G2 H2):Ext G H G2 H2 where
 keep:=λa o z e=>d.p a o (b.p a o z e) (b.off z e)
 le:=Ab5 b.le d.le
 aU:=λr c=>by rw[d.aU r (Ab4 c b.le),b.aU r c]
 new:=λr g i=>by
  by_cases c:r<G1.n
  .rw[d.aU r c];exact b.new r g c
  .exact b.none f (d.new r (Nat.not_lt.p c) i)
 fz:=λa z=>d.fz a (b.fz a z)
 old:=λa z=>(d.old a z).j (λz=>b.old a z) λz=>.u (b.none f z)
 cells:=λr c z=>by
  have:=d.u r (Ab4 c b.le) (by rw[b.aU r c];exact b.u r c z)
  rwa [b.aU r c]at this
open Lake renaming MS.Ext.trans→Lake.MS.Ext.j
def Ext.rd (e:Ext G H G' H')(z:Rd H a u)(b:dZ G a):Rd H' a u:=z.j (λz=>.p (e.p a _ z b)) (by rintro⟨o,z⟩;exact .u ⟨o,e.p a _ z b⟩)
structure Mon(G:Gh)(H:Hp)(G':Gh)(H':Hp):Prop where
 keep:∀a o,G.u a->H a=y0 o->H' a=y0 o
 le:G.n<=G'.n
 aU:∀r,r<G.n->G'.j r=G.j r
 fz:∀a,G.u a->G'.u a
def Ext.mon (e:Ext G H G' H')(b:ah Y G h H):Mon G H G' H':=⟨λa o z q=>e.p a o q (b.off z),e.le,e.aU,e.fz⟩
def Mon.rd (e:Mon G H G' H')(z:Rd H a u)(b:G.u a):Rd H' a u:=z.j (λz=>.p (e.keep a _ b z)) (by rintro⟨o,z⟩;exact .u ⟨o,e.keep a _ b z⟩)
mutual
theorem aC.mon (e:Mon G H G' H'):∀{d:M.D}{v:V},aC Y G H d v->aC Y G' H' d v
|.T,_,z=>z
|.C _,_,z=>z
|.o _,_,z=>z
|.p _,_,z=>z
|.u _,_,z7=>by obtain⟨a,vs,z1,z2,z3⟩:=z7;exact⟨a,vs,z1,z2.j (λz=>.p ⟨e.fz a z.1,e.keep a _ z.1 z.2⟩) λz=>.u z,aa.mon e z3⟩
|.w _,_,z7=>by obtain⟨a,vs,z1,z2,z3⟩:=z7;exact⟨a,vs,z1,z2.j (λz=>.p ⟨e.fz a z.1,e.rd z.2 z.1⟩) .u,aa.mon e z3⟩
|.j r,_,z7=>by obtain⟨z1,z2⟩:=z7;exact⟨Ab4 z1 e.le,by rw[e.aU r z1];exact z2⟩
|.x c f d,_,z7=>by obtain⟨x,dx,u,z1,z2,z3,z4,z5,z6,z7,z8⟩:=z7;exact⟨x,dx,u,z1,e.fz x z2,e.fz dx z3,e.keep x _ z2 z4,e.keep dx _ z3 z5,z6,z7,aC.mon e z8⟩
 theorem aa.mon (e:Mon G H G' H'):∀{ds:List M.D}{vs:List V},aa Y G H ds vs->aa Y G' H' ds vs
|[],_,z=>z
|_::_,_,z7=>by obtain⟨v,r,z1,z2,z3⟩:=z7;exact⟨v,r,z1,aC.mon e z2,aa.mon e z3⟩
 end
theorem bG.mon (e:Mon G H G' H')(k:∀o,H a=y0 o->H' a=y0 o)(z:bG Y G H a c):bG Y G' H' a c:=by
 cases c with
|lst j=>obtain⟨g,h,b,d⟩:=z;exact⟨g,h,k _ b,d.mon e⟩
|aR l=>obtain⟨g,f,b,d⟩:=z;exact⟨g,f,k _ b,d.mon e⟩
|obj c fs=>obtain⟨i,f,b,d⟩:=z;exact⟨i,f,k _ b,d.mon e⟩
def aC.ext (e:Ext G H G' H')(a:ah Y G h H)(z:aC Y G H d v):aC Y G' H' d v:=z.mon (e.mon a)
def aa.ext (e:Ext G H G' H')(a:ah Y G h H)(z:aa Y G H d v):aa Y G' H' d v:=z.mon (e.mon a)
theorem ai.ext (e:Ext G H G' H')(f:ah Y G h H)(z:ai Y G H w v):ai Y G' H' w v:=by
 cases w with
|v d=>exact aC.ext e f z
|own k=>
  obtain⟨a,i,g,l,c,b,j⟩:=z;refine⟨a,i,g,λq=>?_,e.off b c,e.p a _ b c,aa.ext e f j⟩;obtain q|q:=e.old a q
  .exact l q
  .rw[b]at q;cases q
|bor k=>
  obtain⟨a,i,g,c,b,j⟩:=z;refine⟨a,i,g,?_,e.rd b c,aa.ext e f j⟩;obtain b|⟨o,b⟩:=b
  .exact e.off b c
  .exact e.off b c
theorem au.ext (s:au Y G τ h U H)(e:Ext G H G' H')(a:ah Y G' h' H'):au Y G' τ h' U H' where
 len:=s.len
 slot:=λi w z=>let⟨v,b,c⟩:=s.u i w z;⟨v,b,c.ext e s.j⟩
 apart:=s.p
 heap:=a
theorem aa.length:∀{ds}{vs},aa Y G H ds vs->ds.e=vs.e
|[],_,rfl=>rfl
|_::_,_,z7=>by obtain⟨_,_,rfl,_,z⟩:=z7;exact congrArg (·+1) (aa.length z)
theorem aa.get:∀{ds}{vs}{i:Nat}{d},aa Y G H ds vs->ds[i]?=y0 d->∃v,vs[i]?=y0 v/\aC Y G H d v
|[],_,_,_,_,e=>by simp at e
|_::_,_,0,_,z7,e=>by obtain⟨v,_,rfl,z,_⟩:=z7;simp at e;subst e;exact⟨v,rfl,z⟩
|_::_,_,i+1,_,z7,e=>by obtain⟨_,_,rfl,_,z⟩:=z7;obtain⟨v,a,b⟩:=aa.get z (by simpa using e);exact⟨v,by simpa using a,b⟩
theorem aa.append:∀{ds es}{vs i},aa Y G H ds vs->aa Y G H es i->aa Y G H (ds++es) (vs++i)
|[],_,_,_,rfl,z=>z
|_::_,_,_,_,z7,z=>by obtain⟨v,r,rfl,a,b⟩:=z7;exact⟨v,r++_,rfl,a,aa.append b z⟩
theorem aa.drop:∀{ds}{vs}(n),aa Y G H ds vs->aa Y G H (ds.K n) (vs.K n)
|_,_,0,z=>z
|[],_,_+1,rfl=>rfl
|_::_,_,n+1,z7=>by obtain⟨_,_,rfl,_,z⟩:=z7;exact aa.drop n z
theorem aa.take:∀{ds}{vs}(n),aa Y G H ds vs->aa Y G H (ds.B n) (vs.B n)
|_,_,0,_=>rfl
|[],_,_+1,rfl=>rfl
|_::_,_,n+1,z7=>by obtain⟨v,r,rfl,a,z⟩:=z7;exact⟨v,r.B n,rfl,a,aa.take n z⟩
theorem aa.set (z:aC Y G H d v):∀{ds}{vs} i,aa Y G H ds vs->aa Y G H (ds.x i d) (vs.x i v)
|[],_,_,rfl=>rfl
|_::_,_,0,z7=>by obtain⟨_,r,rfl,_,a⟩:=z7;exact⟨v,r,rfl,z,a⟩
|_::_,_,i+1,z7=>by obtain⟨u,r,rfl,b,a⟩:=z7;exact⟨u,r.x i v,rfl,b,aa.set z i a⟩
noncomputable def Gh.more (G:Gh)(a:Addr):Gh:={G with fz:=λb=>G.u b\/b=a}
open Lake renaming MS.Gh.more→Lake.MS.Gh.p
def qr(o)(b:H p=u0):Ext G H G (aE H p o) where
 keep:=λa u z _=>by rw[Za (jb z b)];exact z
 le:=Aa9 _
 aU:=λ_ _=>rfl
 new:=λr c d=>absurd c (Ao1.u d)
 fz:=λ_ z=>z
 old:=λ_ z=>.p z
 cells:=(by rintro r _⟨u,z⟩;exact⟨u,by rw[Za (jb z b)];exact z⟩)
def Qi(o)(b:H p=u0):Ext G H (G.p p) (aE H p o) where
 keep:=λa u z _=>by rw[Za (jb z b)];exact z
 le:=Aa9 _
 aU:=λ_ _=>rfl
 new:=λr c d=>absurd c (Ao1.u d)
 fz:=λ_ z=>.p z
 old:=λa z=>z.j .p λe=>.u (e▸b)
 cells:=(by rintro r _⟨u,z⟩;exact⟨u,by rw[Za (jb z b)];exact z⟩)
def ah.new (r:ah Y G h H)(o)(b:H p=u0):ah Y G h (aE H p o) where
 len:=r.y
 any:=λi c z=>⟨(r.A i c z).1,(r.A i c z).2.mon ((qr o b).mon r) λu q=>by rw[Za (jb q b)];exact q⟩
 inj:=r.inj
 live:=λa z=>let⟨u,q⟩:=r.j a z;⟨u,by rw[Za (jb q b)];exact q⟩
def ah.gP (r:ah Y G h H)(o)(b:H p=u0):ah Y (G.p p) h (aE H p o) where
 len:=r.y
 any:=λi c z=>by obtain⟨g,d⟩:=r.A i c z;obtain⟨u,f⟩:=d.there;exact⟨λq=>q.j g (jb f b),d.mon ((Qi o b).mon r) λu q=>by rw[Za (jb q b)];exact q⟩
 inj:=r.inj
 live:=λa z=>z.j (λz=>let⟨u,q⟩:=r.j a z;⟨u,by rw[Za (jb q b)];exact q⟩) λe=>⟨o,by rw[e];exact zb⟩
def ju(a):Mon G H (G.p a) H:=⟨λ_ _ _ z=>z,Aa9 _,λ_ _=>rfl,λ_ z=>.p z⟩
theorem Ext.more (e:Ext G H G1 H1)(c:H a=Option.none):Ext G H (G1.p a) H1:=
 ⟨e.p,e.le,e.aU,e.new,λb z=>.p (e.fz b z),λb z=>z.j (λz=>e.old b z) λz=>.u (z▸c),e.u⟩
theorem ah.more (r:ah Y G h H)(d:dZ G a)(f:∃o,H a=y0 o):ah Y (G.p a) h H where
 len:=r.y
 any:=λi c z=>⟨λq=>q.j (r.A i c z).1 λe=>d i (r.lt z) e,(r.A i c z).2.mon (ju a) λ_ q=>q⟩
 inj:=r.inj
 live:=λb z=>z.j (λz=>r.j b z) λe=>e▸f
theorem ai.more (z:ai Y G H w v)(k:hF w=k9->v≠.j a):ai Y (G.p a) H w v:=by
 cases w with
|v d=>exact aC.mon (ju a) z
|own j=>obtain⟨b,h,c,l,g,f,i⟩:=z;exact⟨b,h,c,λq=>q.j l λe=>k rfl (e▸c),g,f,i.mon (ju a)⟩
|bor j=>obtain⟨b,h,c,g,f,i⟩:=z;exact⟨b,h,c,g,f,i.mon (ju a)⟩
theorem au.more (s:au Y G τ h U H)(b:dZ G a)(d:∃o,H a=y0 o)(f:∀i w,M.Gn τ i=y0 w->hF w=k9->U[i]?≠y0 (y0 (.j a))):au Y (G.p a) τ h U H where
 len:=s.len
 slot:=λi w z=>by obtain⟨v,c,g⟩:=s.u i w z;exact⟨v,c,g.more λq e=>f i w z q (e▸c)⟩
 apart:=s.p
 heap:=s.j.more b d
def aL(τ:M.Sl)(U:St)(H:Hp):M.W->V->Prop
|.v _,_=>True
|.j _,v=>∃a,v=.j a/\H a=u0
|.p _,v=>∃(i:Nat)(w:M.W),M.Gn τ i=y0 w/\hF w=k9/\U[i]?=y0 (y0 v)
def aL.back (e:Ext G H G1 H1)(c:ah Y G h H)(z:aL τ U H1 w v):aL τ U H w v:=by
 cases w with
|v d=>trivial
|own b=>obtain⟨a,f,g⟩:=z;exact⟨a,f,e.none c g⟩
|bor b=>exact z
def au.dh (s:au Y G τ h U H)(e:M.Gn τ i=y0 w)(l:hF w=k9)(q:U[i]?=y0 (y0 (.j a))):∃o,H a=y0 o:=by
 obtain⟨v,f,g⟩:=s.u i w e;rw[q]at f;cases f;cases w with
|v d=>cases l
|own j=>obtain⟨b,k,f,_,_,c,_⟩:=g;cases f;exact⟨_,c⟩
|bor j=>
  obtain⟨b,k,f,_,c,_⟩:=g;cases f;obtain c|⟨o,c⟩:=c
  .exact⟨_,c⟩
  .exact⟨_,c⟩
def p9(Y:Ge)(E:XK)(d:M.D)(G:Gh)(H:Hp):Prop:=
 ∀c f a,d=.x c f a->gZ Y c->mB Y.K (Y.j c) (Str.ofString f)->∀dx u,G.u dx->H dx=y0 (.xd [(Str.ofString f,u)])->aC Y G H a u->E (.j (Y.j c)) (y0 dx) H
def av{b:Type}(Y:Ge)(E:XK)(G:Gh)(H:Hp)(r:M.R b)(P:b->M.AH->Gh->Hp->Prop):Prop:=match r with
|.j a h'=>∀G' H',Ext G H G' H'->ah Y G' h' H'->P a h' G' H'
|.exc d h'=>∀G' H',Ext G H G' H'->ah Y G' h' H'->p9 Y E d G' H'
|.u=>False
def av.on (p:av Y E G H r P)(e:Ext G H G1 H1)(i:ah Y G h H):av Y E G1 H1 r P:=by
 cases r with
|ok a j=>exactλg c f b=>p g c (e.j i f) b
|exc d j=>exactλg c f b=>p g c (e.j i f) b
|fail=>exact p
def tD(Y:Ge)(E:XK)(m:M.Sl->M.AH->M.R M.W):TE:=λU H Q=>∃G τ h,au Y G τ h U H/\av Y E G H (m τ h) λw h' G' H'=>∀v,ai Y G' H' w v->aL τ U H w v->Q v H'
def dr(Y:Ge)(E:XK)(m:M.Sl->M.AH->M.R Bool):TT:=λU H Q=>∃G τ h,au Y G τ h U H/\av Y E G H (m τ h) λb _ _ H'=>Q b H'
def Xa(a:ah Y G0 h0 H0)(b:Ext G0 H0 G H)(s:au Y G τ h U H)
 (p:av Y E G0 H0 ((m τ h).p f) P)
 (k:∀w v h1 G1 H1,Ext G0 H0 G1 H1->Ext G H G1 H1->au Y G1 τ h1 U H1->ai Y G1 H1 w v->aL τ U H w v->av Y E G0 H0 (f w h1) P->Q v H1):tD Y E m U H Q:=by
 refine⟨G,τ,h,s,?_⟩;cases q:m τ h with
|ok w h1=>rw[q]at p;exactλG1 H1 e c v g i=>k w v h1 G1 H1 (b.j a e) e (s.ext e c) g i p
|exc d h1=>rw[q]at p;exact av.on p b a
|fail=>rw[q]at p;exact p
def zS(a:ah Y G0 h0 H0)(c:Ext G0 H0 G H)(s:au Y G τ h U H)
 (p:av Y E G0 H0 ((m τ h).p f) P)
 (k:∀b h1 G1 H1,Ext G0 H0 G1 H1->Ext G H G1 H1->au Y G1 τ h1 U H1->av Y E G0 H0 (f b h1) P->Q b H1):dr Y E m U H Q:=by
 refine⟨G,τ,h,s,?_⟩;cases q:m τ h with
|ok w h1=>rw[q]at p;exactλG1 H1 e g=>k w h1 G1 H1 (c.j a e) e (s.ext e g) p
|exc d h1=>rw[q]at p;exact av.on p c a
|fail=>rw[q]at p;exact p
def kH(Y:Ge)(E:XK)(m:M.Sl->M.AH->M.R (List M.D)):TA:=λU H Q=>∃G τ h,au Y G τ h U H/\av Y E G H (m τ h) λds _ G' H'=>∀a,aa Y G' H' ds a->Q a H'
def br(Y:Ge)(G:Gh)(H:Hp):List M.W->List V->Prop
|[],a=>a=[]
|w::b,a=>∃v r,a=v::r/\ai Y G H w v/\br Y G H b r
theorem br.ext (e:Ext G H G' H')(a:ah Y G h H):∀{ws}{vs},br Y G H ws vs->br Y G' H' ws vs
|[],_,z=>z
|_::_,_,z7=>by obtain⟨v,r,c,d,b⟩:=z7;exact⟨v,r,c,ai.ext e a d,br.ext e a b⟩
theorem br.length:∀{ws}{vs},br Y G H ws vs->ws.e=vs.e
|[],_,rfl=>rfl
|_::_,_,z7=>by obtain⟨_,_,rfl,_,z⟩:=z7;exact congrArg (·+1) (br.length z)
def gr(Y:Ge)(E:XK)(m:M.Sl->M.AH->M.R (List M.W)):TA:=λU H Q=>∃G τ h,au Y G τ h U H/\av Y E G H (m τ h) λb _ G' H'=>∀a,br Y G' H' b a->Q a H'
def Z7(a:ah Y G0 h0 H0)(b:Ext G0 H0 G H)(s:au Y G τ h U H)
 (p:av Y E G0 H0 ((m τ h).p f) P)
 (k:∀ds vs h1 G1 H1,Ext G0 H0 G1 H1->Ext G H G1 H1->au Y G1 τ h1 U H1->aa Y G1 H1 ds vs->av Y E G0 H0 (f ds h1) P->Q vs H1):kH Y E m U H Q:=by
 refine⟨G,τ,h,s,?_⟩;cases q:m τ h with
|ok w h1=>rw[q]at p;exactλG1 H1 e c vs z=>k w vs h1 G1 H1 (b.j a e) e (s.ext e c) z p
|exc d h1=>rw[q]at p;exact av.on p b a
|fail=>rw[q]at p;exact p
def wt(a:ah Y G0 h0 H0)(b:Ext G0 H0 G H)(s:au Y G τ h U H)
 (p:av Y E G0 H0 ((m τ h).p f) P)
 (k:∀ds vs h1 G1 H1,Ext G0 H0 G1 H1->Ext G H G1 H1->au Y G1 τ h1 U H1->br Y G1 H1 ds vs->av Y E G0 H0 (f ds h1) P->Q vs H1):gr Y E m U H Q:=by
 refine⟨G,τ,h,s,?_⟩;cases q:m τ h with
|ok w h1=>rw[q]at p;exactλG1 H1 e c vs z=>k w vs h1 G1 H1 (b.j a e) e (s.ext e c) z p
|exc d h1=>rw[q]at p;exact av.on p b a
|fail=>rw[q]at p;exact p
theorem av.of (p:av Y E G H ((M.R.of h o).p f) P):∃b,o=y0 b/\av Y E G H (f b h) P:=by
 cases o with
|none=>exact p.j
|some b=>exact⟨b,rfl,p⟩
def av.at(p:av Y E G H (.j a h) P)(e:Ext G H G1 H1)(b:ah Y G1 h H1):P a h G1 H1:=p G1 H1 e b
def rq(e:Ext G H G1 H1)(s:au Y G1 τ h U H1)(m:au Y G τ h' U H)(r:ai Y G1 H1 w v)(f:aL τ U H w v)(c:w.d=y0 d):
 ∃G2,Ext G H G2 H1/\au Y G2 τ h U H1/\aC Y G2 H1 d v/\Mon G1 H1 G2 H1:=by
 cases w with
|v y=>cases c;exact⟨G1,e,s,r,⟨λ_ _ _ z=>z,Aa9 _,λ_ _=>rfl,λ_ z=>z⟩⟩
|own u=>cases c;obtain⟨a,x,rfl,A,t,g,n⟩:=r;obtain⟨b,p,k⟩:=f;cases p;refine⟨G1.p a,e.more k,s.more t ⟨_,g⟩ λi w q l z=>?_,⟨a,x,rfl,.p ⟨.u rfl,.p g⟩,n.mon (ju a)⟩,ju a⟩;obtain⟨o,j⟩:=m.dh q l z;rw[k]at j;cases j
|bor u=>cases c
end
open PySem PySem.Spec PyProof.Rows
mutual
def RV(hp:Heap):M.D->Value->Prop
|.T,u=>u=.w
|.C b,u=>u=.x b
|.o i,u=>∃t,u=.o i t
|.p s,u=>∃t,u=.str (aK s) t
|.u ds,u=>∃(a:Addr)(its:List Value),u=.j a/\IsTup hp a its.u/\cH hp ds its
|.w ds,u=>∃(a:Addr)(its:List Value),u=.j a/\hp.B a its.u/\cH hp ds its
|.j _,_=>False
|.x _ _ _,_=>False
def cH(hp:Heap):List M.D->List Value->Prop
|[],us=>us=[]
|d::ds,us=>∃u r,us=u::r/\RV hp d u/\cH hp ds r
end
theorem cH.length:∀{ds}{i},cH hp ds i->ds.e=i.e
|[],_,rfl=>rfl
|_::_,_,z7=>by obtain⟨_,_,rfl,_,z⟩:=z7;exact congrArg (·+1) (cH.length z)
open Lake renaming MS.cH.length→Lake.MS.cH.e
theorem cH.get:∀{ds}{us}{j:Nat}{u},cH hp ds us->us[j]?=y0 u->∃d,ds[j]?=y0 d/\RV hp d u
|[],_,_,_,rfl,e=>by simp at e
|d::_,_,0,_,z7,e=>by obtain⟨v,_,rfl,z,_⟩:=z7;simp at e;subst e;exact⟨d,rfl,z⟩
|_::_,_,j+1,_,z7,e=>by obtain⟨_,_,rfl,_,z⟩:=z7;obtain⟨v,a,b⟩:=cH.get z (by simpa using e);exact⟨v,by simpa using a,b⟩
section
variable{X:Cx}{Y:Ge}{G:Gh}{H:Hp}{h:M.AH}{pins:List (Addr×Obj)}{U:St}{s:Shared}
mutual
theorem aC.l1 (I:Inv X pins U H s)(hK:X.K=Y.K):∀{d:M.D}{x:V}{u:Value},aC Y G H d x->RelV x u->M.Gd d=k9->RV s.j d u
|.T,_,_,rfl,r,_=>r
|.C _,_,_,rfl,r,_=>r
|.o _,_,_,rfl,r,_=>r
|.p _,_,_,rfl,r,_=>r
|.u ds,_,_,⟨a,vs,rfl,z2,z3⟩,r,n=>by cases r;obtain⟨its,r1,p1,_⟩:=I.tuple (hK▸z2.sq);exact⟨a,its,rfl,p1,aa.l1 I hK z3 r1 (by simpa[M.Gd]using n)⟩
|.w ds,_,_,⟨a,vs,rfl,z2,z3⟩,r,n=>by cases r;obtain⟨its,r1,p1,_⟩:=I.C (hK▸z2.sq);exact⟨a,its,rfl,p1.J,aa.l1 I hK z3 r1 (by simpa[M.Gd]using n)⟩
|.j _,_,_,_,_,n=>by simp[M.Gd]at n
|.x _ _ _,_,_,_,_,n=>by simp[M.Gd]at n
theorem aa.l1 (I:Inv X pins U H s)(hK:X.K=Y.K):∀{ds:List M.D}{xs:List V}{us:List Value},aa Y G H ds xs->Vals xs us->M.Gf ds=k9->cH s.j ds us
|[],_,_,rfl,.p,_=>rfl
|d::ds,_,_,⟨v,r,rfl,z1,z2⟩,.j r1 r2,n=>by
  have n':M.Gd d=k9/\M.Gf ds=true:=by simpa[M.Gf]using n
  exact⟨_,_,rfl,aC.l1 I hK z1 r1 n'.1,aa.l1 I hK z2 r2 n'.2⟩
end
mutual
theorem aC.rv (I:Inv X pins U H s)(hK:X.K=Y.K)(hr:ah Y G h H):∀{d:M.D}{x:V}{u:Value},aC Y G H d x->RelV x u->M.Gd (M.res h d)=k9->RV s.j (M.res h d) u
|.T,_,_,rfl,r,_=>r
|.C _,_,_,rfl,r,_=>r
|.o _,_,_,rfl,r,_=>r
|.p _,_,_,rfl,r,_=>r
|.u ds,_,_,⟨a,vs,rfl,z2,z3⟩,r,n=>by cases r;obtain⟨its,r1,p1,_⟩:=I.tuple (hK▸z2.sq);rw[M.res]at n⊢;exact⟨a,its,rfl,p1,aa.rv I hK hr z3 r1 (by simpa[M.Gd]using n)⟩
|.w ds,_,_,⟨a,vs,rfl,z2,z3⟩,r,n=>by cases r;obtain⟨its,r1,p1,_⟩:=I.C (hK▸z2.sq);rw[M.res]at n⊢;exact⟨a,its,rfl,p1.J,aa.rv I hK hr z3 r1 (by simpa[M.Gd]using n)⟩
|.j i,_,_,⟨hi,e⟩,r,n=>by
  subst e;cases r;rw[M.res]at n⊢;cases q:h[i]? with
  |none=>rw[q]at n;simp[M.Gd]at n
  |some c=>
   cases c with
  |lst xs=>rw[q]at n;obtain⟨_,vs,z2,z3⟩:=hr.cell i xs q;obtain⟨its,r1,p1,_⟩:=I.C (bA.of (K:=X.K) z2);exact⟨_,its,rfl,p1.J,aa.l1 I hK z3 r1 (by simpa[M.Gd]using n)⟩
  |obj c fs=>rw[q]at n;simp[M.Gd]at n
  |aR ks=>rw[q]at n;simp[M.Gd]at n
|.x _ _ _,_,_,_,_,n=>by simp[M.res,M.Gd]at n
theorem aa.rv (I:Inv X pins U H s)(hK:X.K=Y.K)(hr:ah Y G h H):∀{ds:List M.D}{xs:List V}{us:List Value},aa Y G H ds xs->Vals xs us->M.Gf (M.GU h ds)=k9->cH s.j (M.GU h ds) us
|[],_,_,rfl,.p,_=>rfl
|d::ds,_,_,⟨v,r,rfl,z1,z2⟩,.j r1 r2,n=>by
  rw[M.GU]at n⊢;have n':M.Gd (M.res h d)=k9/\M.Gf (M.GU h ds)=true:=by simpa[M.Gf]using n
  exact⟨_,_,rfl,aC.rv I hK hr z1 r1 n'.1,aa.rv I hK hr z2 r2 n'.2⟩
end
theorem ai.rv (I:Inv X pins U H s)(j:X.K=Y.K)(f:ah Y G h H)(z:ai Y G H w x)(r:RelV x u)(n:M.Gd (w.dd h)=k9):RV s.j (w.dd h) u:=by
 cases w with
|v d=>exact aC.rv I j f z r n
|own k=>obtain⟨a,l,rfl,_,_,g,i⟩:=z;cases r;obtain⟨b,c,e,_⟩:=I.C (bA.of g);exact⟨a,b,rfl,e.J,aa.rv I j f i c (by simp_all)⟩
|bor k=>obtain⟨a,l,rfl,_,g,i⟩:=z;cases r;obtain⟨b,c,e,_⟩:=I.C (.p g);exact⟨a,b,rfl,e.J,aa.rv I j f i c (by simp_all)⟩
end
def ZB(h:aK a=aK b):a=b:=by have:=congrArg Str.cps h;simpa[aK]using this
def Z4{xs b:List Value}(h1:IsTup hp a xs.u)(d:IsTup hp a b.u):xs=b:=by obtain⟨o,e1,_,n,e⟩:=h1;obtain⟨g,e2,_,f,c⟩:=d;rw[e1]at e2;cases e2;rw[e]at c;cases c;rfl
def jN{d:Heap}{xs b:List Value}(h1:d.B a xs.u)(e:d.B a b.u):xs=b:=by obtain⟨o,e1,_,n,f⟩:=h1;obtain⟨h,e2,_,g,c⟩:=e;rw[e1]at e2;cases e2;rw[f]at c;cases c;rfl
def wE(h1:IsTup hp a xs)(d:hp.B a ys):False:=by obtain⟨o,e1,c,_⟩:=h1;obtain⟨e,e2,b,_⟩:=d;rw[e1]at e2;cases e2;rw[c]at b;exact absurd b (by decide)
mutual
theorem RV.inj {hp:Heap}:∀{d e:M.D}{u:Value},RV hp d u->RV hp e u->d=e
|.T,e,_,rfl,q=>by cases e<;>first|rfl|(simp[RV]at q)
|.C _,e,_,rfl,q=>by cases e<;>first|(simp[RV]at q;done)|(have q:=q;simp[RV]at q;try rw[q])
|.o _,e,_,z7,q=>by obtain⟨t,rfl⟩:=z7;cases e<;>first|(simp[RV]at q;done)|(have q:=q;simp[RV]at q;try rw[q])
|.p _,e,_,z7,q=>by
  obtain⟨t,rfl⟩:=z7;cases e with
  |str z=>
   obtain⟨t',q⟩:=q;injection q with q1 q2
   rw[ZB q1]
  |_=>simp[RV]at q
|.u ds,e,_,z7,q=>by
  obtain⟨a,its,rfl,p,r⟩:=z7;cases e with
  |tup es=>obtain⟨b,its2,e,p2,r2⟩:=q;cases e;cases Z4 p p2;rw[cH.inj r r2]
  |lst es=>obtain⟨b,its2,e,p2,r2⟩:=q;cases e;exact(wE p p2).j
  |_=>simp[RV]at q
|.w ds,e,_,z7,q=>by
  obtain⟨a,its,rfl,p,r⟩:=z7;cases e with
  |lst es=>obtain⟨b,its2,e,p2,r2⟩:=q;cases e;cases jN p p2;rw[cH.inj r r2]
  |tup es=>obtain⟨b,its2,e,p2,r2⟩:=q;cases e;exact(wE p2 p).j
  |_=>simp[RV]at q
|.j _,_,_,q,_=>q.j
|.x _ _ _,_,_,q,_=>q.j
theorem cH.inj {hp:Heap}:∀{d e:List M.D}{u:List Value},cH hp d u->cH hp e u->d=e
|[],e,_,rfl,q=>by
  cases e with
  |nil=>rfl
  |cons a b=>obtain⟨_,_,z,_⟩:=q;cases z
|d::ds,e,_,z7,q=>by
  obtain⟨u,r,rfl,z1,z2⟩:=z7;cases e with
|nil=>cases(show _::_=[]from q)
|cons a b=>obtain⟨_,_,z,y1,y2⟩:=q;cases z;rw[RV.inj z1 y1,cH.inj z2 y2]
end
mutual
theorem RV.refl {hp:Heap}:∀{d:M.D}{u:Value},RV hp d u->M.cM d d=k9
|.T,_,_=>rfl
|.C _,_,_=>by simp
|.o _,_,_=>by simp
|.p _,_,_=>by simp
|.u ds,_,z7=>by obtain⟨_,_,_,_,r⟩:=z7;rw[M.cM];exact cH.refl r
|.w ds,_,z7=>by obtain⟨_,_,_,_,r⟩:=z7;rw[M.cM];exact cH.refl r
|.j _,_,q=>q.j
|.x _ _ _,_,q=>q.j
theorem cH.refl {hp:Heap}:∀{d:List M.D}{u:List Value},cH hp d u->M.GK d d=k9
|[],_,_=>rfl
|d::ds,_,z7=>by obtain⟨_,_,_,z1,z2⟩:=z7;exact by rw[M.GK,RV.refl z1,cH.refl z2];rfl
 end
def kn(xs c:List M.D)(j:Nat):Bool:=match xs[j]?,c[j]? with
|some a,y0 b=>M.cM a b
|_,_=>k9
def QM(n)(e):(Aa7 (n+1)).N e=(e 0&&(Aa7 n).N λj=>e (j+1)):=by rw[Ah3,Al6,An8];rfl
theorem J7:∀(xs ys),xs.e=ys.e->(Aa7 xs.e).N (kn xs ys)=M.GK xs ys
|[],[],_=>rfl
|[],_::_,h=>by simp at h
|_::_,[],h=>by simp at h
|x::xs,y::ys,h=>by rw[Aa8,QM,M.GK];have a:=J7 xs ys (by simpa using h);rw[←a];rfl
theorem BM:∀(xs ys),M.GK xs ys=k9->xs.e=ys.e
|[],[],_=>rfl
|[],_::_,h=>by simp at h
|_::_,[],h=>by simp at h
|x::xs,y::ys,h=>by rw[M.GK,Aa0]at h;rw[Aa8,Aa8,BM xs ys h.2]
def yY(h:xs.e≠ys.e):M.GK xs ys=false:=by
 cases e:M.GK xs ys with
|false=>rfl
|true=>exact absurd (BM xs ys e) h
open SeqAt in
structure dX(A:Around)(s:Shared)(u v:Value)(b:Bool):Prop where
 rc:RcAt A s u v b
 ne:RcNeAt A s u v (!b)
 eq:EqAt A s u v b
section
open SeqAt
variable{A:Around}{s:Shared}
theorem JG:∀{ds}{j:Nat}{d},ds[j]?=y0 d->M.dep d<=M.GI ds
|[],_,_,e=>by simp at e
|x::a,0,d,e=>by simp at e;subst e;simp only[M.GI];lia
|x::a,j+1,d,e=>by have:=JG (by simpa using e);simp only[M.GI];lia
def tO(b:Bool):((if b then(1:Int)else 0))=((b.j:Nat):Int):=by cases b<;>rfl
def Ih(a b):(aK a==aK b)=(a==b):=by
 by_cases h:a=b
 .subst h;simp
 .have c:=λe=>h (ZB e);rw[beq_eq_false_iff_ne.u h,beq_eq_false_iff_ne.u c]
def HX(f:s.j.B l its.u)(g:s.j.B b its2.u)(k:cH s.j xs its)(m:cH s.j ys its2)(i:A.u<cLine)
 (z:∀(j:Nat) a c u v,xs[j]?=y0 a->ys[j]?=y0 c->RV s.j a u->RV s.j c v->EqAt A.j s u v (M.cM a c)):dX A s (.j l) (.j b) (M.GK xs ys):=by
 have q:∀j r (y:j<its2.u.j),EqAt A.j s its.u[j] its2.u[j] (kn xs ys j):=λj r y=>by obtain⟨a,n,x⟩:=k.get (j:=j) (u:=its.u[j]) (by simp);obtain⟨c,o,w⟩:=m.get (j:=j) (u:=its2.u[j]) (by simp);have:=z j a c _ _ n o x w;unfold kn;rw[n,o];exact this
 have t:=k.e;have l2:=m.e;have two:RcAt A s (.j l) (.j b) (M.GK xs ys)/\RcNeAt A s (.j l) (.j b) (!M.GK xs ys):=by
  by_cases p:xs.e=ys.e
  .have d:its.u.j=its2.u.j:=by simp;lia
   have e:(Aa7 its.u.j).N (kn xs ys)=M.GK xs ys:=by rw[Ab3,←t];exact J7 xs ys p
   have a:=RcAt.lists f g d i q;have c:=RcNeAt.lists f g d i q;rw[e]at a c;exact⟨a,c⟩
  .have d:(its.u.j !=its2.u.j)=true:=by simp;lia
   rw[yY p];exact⟨RcAt.lists_lengths f g d i,RcNeAt.lists_lengths f g d i⟩
 refine⟨two.1,two.2,?_⟩;by_cases h:l=b
 .subst h;cases jN f g;cases cH.inj k m;rw[cH.refl k];exact EqAt.same _
 .exact EqAt.of_refs h two.1
def LN(h:IsTup s.j l its.u)(i:IsTup s.j b its2.u)(g:cH s.j xs its)(k:cH s.j ys its2)(o:A.u<cLine)
 (x:∀(j:Nat) a c u v,xs[j]?=y0 a->ys[j]?=y0 c->RV s.j a u->RV s.j c v->EqAt A.j s u v (M.cM a c)):dX A s (.j l) (.j b) (M.GK xs ys):=by
 have p:∀j q (w:j<its2.u.j),EqAt A.j s its.u[j] its2.u[j] (kn xs ys j):=λj q w=>by obtain⟨a,m,t⟩:=g.get (j:=j) (u:=its.u[j]) (by simp);obtain⟨c,n,r⟩:=k.get (j:=j) (u:=its2.u[j]) (by simp);have:=x j a c _ _ m n t r;unfold kn;rw[m,n];exact this
 have e:((Aa7 (min its.u.j its2.u.j)).N (kn xs ys)&&its.u.j==its2.u.j)=M.GK xs ys:=by
  rw[Ab3,Ab3,←g.e,←k.e];by_cases f:xs.e=ys.e
  .rw[←f,Nat.min_self,J7 xs ys f];simp
  .rw[yY f];simp[f]
 have a:=RcAt.tuples h i o p;have c:=RcNeAt.tuples h i o p;rw[e]at a c;refine⟨a,c,?_⟩;by_cases d:l=b
 .subst d;cases Z4 h i;cases cH.inj g k;rw[cH.refl g];exact EqAt.same _
 .exact EqAt.of_refs d a
def dX.of (h:dX A s u v b)(e:b=b'):dX A s u v b':=e▸h
def rC:∀(n:Nat)(d e:M.D)(A:Around)(u v:Value),M.dep d<=n->A.u+n<cLine->RV s.j d u->RV s.j e v->dX A s u v (M.cM d e):=by
 intro n;induction n with
|zero=>
  intro d e A u v C K m f;have c:A.u<cLine:=Nat.le_trans ‹_› (by decide);cases d with
  |aw=>
   cases(show u=.w from m);cases e with
   |aw=>cases(show v=.w from f);exact⟨RcAt.none_none,RcNeAt.none_none,EqAt.same _⟩
   |bl b=>cases(show v=.x b from f);exact⟨RcAt.none_bool b,RcNeAt.none_bool b,EqAt.none_bool b⟩
   |int i=>obtain⟨t,rfl⟩:=f;exact⟨RcAt.none_int i t,RcNeAt.none_int i t,EqAt.none_int i t⟩
   |str z=>obtain⟨t,rfl⟩:=f;exact⟨RcAt.none_str _ t,RcNeAt.none_str _ t,EqAt.none_str _ t⟩
   |tup o=>obtain⟨a,k,rfl,p,_⟩:=f;exact⟨RcAt.none_tuple p c,RcNeAt.none_tuple p c,EqAt.none_tuple p c⟩
   |lst o=>obtain⟨a,k,rfl,p,_⟩:=f;exact⟨RcAt.none_list p c,RcNeAt.none_list p c,EqAt.none_list p c⟩
   |ref _=>exact f.j
   |err _ _ _=>exact f.j
  |bl x=>
   cases(show u=.x x from m);cases e with
   |aw=>cases(show v=.w from f);exact⟨RcAt.bool_none x,RcNeAt.bool_none x,EqAt.bool_none x⟩
   |bl b=>cases(show v=.x b from f);exact⟨RcAt.bool_bool x b,RcNeAt.bool_bool x b,EqAt.bool_bool x b⟩
   |int i=>obtain⟨t,rfl⟩:=f;exact(dX.mk (RcAt.bool_int x i t) (RcNeAt.bool_int x i t) (EqAt.bool_int x i t)).of (by rw[tO];rfl)
   |str z=>obtain⟨t,rfl⟩:=f;exact⟨RcAt.bool_str x _ t,RcNeAt.bool_str x _ t,EqAt.bool_str x _ t⟩
   |tup o=>obtain⟨a,k,rfl,p,_⟩:=f;exact⟨RcAt.bool_tuple x p c,RcNeAt.bool_tuple x p c,EqAt.bool_tuple x p c⟩
   |lst o=>obtain⟨a,k,rfl,p,_⟩:=f;exact⟨RcAt.bool_list x p c,RcNeAt.bool_list x p c,EqAt.bool_list x p c⟩
   |ref _=>exact f.j
   |err _ _ _=>exact f.j
  |int x=>
   obtain⟨g,rfl⟩:=m;cases e with
   |aw=>cases(show v=.w from f);exact⟨RcAt.int_none x g,RcNeAt.int_none x g,EqAt.int_none x g⟩
   |bl b=>cases(show v=.x b from f);exact(dX.mk (RcAt.int_bool x g b) (RcNeAt.int_bool x g b) (EqAt.int_bool x g b)).of (by rw[tO];rfl)
   |int i=>obtain⟨t,rfl⟩:=f;exact⟨RcAt.int_int x g i t,RcNeAt.int_int x g i t,EqAt.int_int x g i t⟩
   |str z=>obtain⟨t,rfl⟩:=f;exact⟨RcAt.int_str x g _ t,RcNeAt.int_str x g _ t,EqAt.int_str x g _ t⟩
   |tup o=>obtain⟨a,k,rfl,p,_⟩:=f;exact⟨RcAt.int_tuple x g p c,RcNeAt.int_tuple x g p c,EqAt.int_tuple x g p c⟩
   |lst o=>obtain⟨a,k,rfl,p,_⟩:=f;exact⟨RcAt.int_list x g p c,RcNeAt.int_list x g p c,EqAt.int_list x g p c⟩
   |ref _=>exact f.j
   |err _ _ _=>exact f.j
  |str x=>
   obtain⟨g,rfl⟩:=m;cases e with
   |aw=>cases(show v=.w from f);exact⟨RcAt.str_none _ g,RcNeAt.str_none _ g,EqAt.str_none _ g⟩
   |bl b=>cases(show v=.x b from f);exact⟨RcAt.str_bool _ g b,RcNeAt.str_bool _ g b,EqAt.str_bool _ g b⟩
   |int i=>obtain⟨t,rfl⟩:=f;exact⟨RcAt.str_int _ g i t,RcNeAt.str_int _ g i t,EqAt.str_int _ g i t⟩
   |str z=>obtain⟨t,rfl⟩:=f;exact(dX.mk (RcAt.str_str _ g _ t) (RcNeAt.str_str _ g _ t) (EqAt.str_str _ g _ t)).of (by rw[Ih];rfl)
   |tup o=>obtain⟨a,k,rfl,p,_⟩:=f;exact⟨RcAt.str_tuple _ g p c,RcNeAt.str_tuple _ g p c,EqAt.str_tuple _ g p c⟩
   |lst o=>obtain⟨a,k,rfl,p,_⟩:=f;exact⟨RcAt.str_list _ g p c,RcNeAt.str_list _ g p c,EqAt.str_list _ g p c⟩
   |ref _=>exact f.j
   |err _ _ _=>exact f.j
  |tup y=>simp only[M.dep]at C;lia
  |lst y=>simp only[M.dep]at C;lia
  |ref _=>exact m.j
  |err _ _ _=>exact m.j
|succ n w=>
  intro d e A u v C K m f;have c:A.u<cLine:=by lia
  cases d with
|tup y=>
   obtain⟨l,B,rfl,h,E⟩:=m;have r:M.GI y<=n:=by simp only[M.dep]at C;exact Nat.le_of_lt_succ ‹_›
   cases e with
   |aw=>cases(show v=.w from f);exact⟨RcAt.tuple_none h c,RcNeAt.tuple_none h c,EqAt.tuple_none h c⟩
   |bl b=>cases(show v=.x b from f);exact⟨RcAt.tuple_bool b h c,RcNeAt.tuple_bool b h c,EqAt.tuple_bool b h c⟩
   |int i=>obtain⟨t,rfl⟩:=f;exact⟨RcAt.tuple_int i t h c,RcNeAt.tuple_int i t h c,EqAt.tuple_int i t h c⟩
   |str z=>obtain⟨t,rfl⟩:=f;exact⟨RcAt.tuple_str _ t h c,RcNeAt.tuple_str _ t h c,EqAt.tuple_str _ t h c⟩
   |tup o=>obtain⟨a,k,rfl,p,q⟩:=f;rw[M.cM];exact LN h p E q c λj G H D F e1 e2 J I=>(w G H A.j D F (Ab5 (JG e1) r) (by show A.u+1+n<cLine;lia) J I).eq
   |lst o=>obtain⟨a,k,rfl,p,_⟩:=f;exact⟨RcAt.tuple_list h p c,RcNeAt.tuple_list h p c,EqAt.tuple_list h p c⟩
   |ref _=>exact f.j
   |err _ _ _=>exact f.j
|lst y=>
   obtain⟨l,B,rfl,h,E⟩:=m;have r:M.GI y<=n:=by simp only[M.dep]at C;exact Nat.le_of_lt_succ ‹_›
   cases e with
   |aw=>cases(show v=.w from f);exact⟨RcAt.list_none h c,RcNeAt.list_none h c,EqAt.list_none h c⟩
   |bl b=>cases(show v=.x b from f);exact⟨RcAt.list_bool b h c,RcNeAt.list_bool b h c,EqAt.list_bool b h c⟩
   |int i=>obtain⟨t,rfl⟩:=f;exact⟨RcAt.list_int i t h c,RcNeAt.list_int i t h c,EqAt.list_int i t h c⟩
   |str z=>obtain⟨t,rfl⟩:=f;exact⟨RcAt.list_str _ t h c,RcNeAt.list_str _ t h c,EqAt.list_str _ t h c⟩
   |lst o=>obtain⟨a,k,rfl,p,q⟩:=f;rw[M.cM];exact HX h p E q c λj G H D F e1 e2 J I=>(w G H A.j D F (Ab5 (JG e1) r) (by show A.u+1+n<cLine;lia) J I).eq
   |tup o=>obtain⟨a,k,rfl,p,_⟩:=f;exact⟨RcAt.list_tuple h p c,RcNeAt.list_tuple h p c,EqAt.list_tuple h p c⟩
   |ref _=>exact f.j
   |err _ _ _=>exact f.j
|aw=>exact w .T e A u v (by simp) (Nat.le_of_lt ‹_›) m f
|bl x=>exact w (.C x) e A u v (by simp) (Nat.le_of_lt ‹_›) m f
|int x=>exact w (.o x) e A u v (by simp) (Nat.le_of_lt ‹_›) m f
|str x=>exact w (.p x) e A u v (by simp) (Nat.le_of_lt ‹_›) m f
|ref _=>exact m.j
|err _ _ _=>exact m.j
end
def aA(Y:Ge)(E:XK)(G:Gh)(H:Hp)(r:M.R M.W)(Q:VK):Prop:=av Y E G H r λw _ G' H'=>∀v,ai Y G' H' w v->aL [] [] H w v->Q v H'
section
open Lake renaming MS.aa.length→Lake.MS.aa.e
variable{X:Cx}{Y:Ge}{G:Gh}{H:Hp}{h:M.AH}{pins:List (Addr×Obj)}{U:St}{s:Shared}{Q:VK}{E:XK}
theorem aA.v (p:aA Y E G H (.j (.v d) h) Q)(a:ah Y G h H){v:V}(z:aC Y G H d v):Q v H:=p G H Ext.refl a v z trivial
def ah.lq (c:ah Y G h H)(b:H a=u0):¬G.u a:=λq=>by obtain⟨o,z⟩:=c.j a q;rw[b]at z;cases z
def ah.gg (c:ah Y G h H)(b:H a=u0):dZ G a:=λr d e=>by obtain⟨o,q⟩:=c.there d;rw[e,b]at q;cases q
theorem aA.own (p:aA Y E G H (.j (.j xs) h) Q)(c:ah Y G h H)(z:aa Y G H xs vs)(a)(b:H a=u0):Q (.j a) (aE H a (.w vs)):=
 p G _ (qr _ b) (c.new _ b) _ ⟨a,vs,rfl,c.lq b,c.gg b,zb,z.ext (qr _ b) c⟩ ⟨a,rfl,b⟩
theorem aA.tup (p:aA Y E G H (.j (.v (.u xs)) h) Q)(c:ah Y G h H)(z:aa Y G H xs vs)(a)(b:H a=u0):Q (.j a) (aE H a (.tup vs)):=
 p _ _ (Qi _ b) (c.gP _ b) _ ⟨a,vs,rfl,.p ⟨.u rfl,zb⟩,z.ext (Qi _ b) c⟩ trivial
theorem aA.of (p:aA Y E G H ((M.R.of h o).p f) Q):∃b,o=y0 b/\aA Y E G H (f b h) Q:=av.of p
def aA.mk (p:av Y E G0 H0 r λw _ G' H'=>∀v,ai Y G' H' w v->aL τ U H0 w v->Q v H')(e:Ext G0 H0 G H)(c:ah Y G0 h0 H0):aA Y E G H r Q:=by
 cases r with
|ok w l=>
  refineλG' H' g b v k h=>p G' H' (e.trans c g) b v k ?_;cases w with
  |v d=>trivial
  |own m=>obtain⟨a,f,j⟩:=h;exact⟨a,f,e.none c j⟩
  |bor m=>obtain⟨i,w,f,_⟩:=h;simp at f
|exc d l=>exactλG' H' g b=>p G' H' (e.trans c g) b
|fail=>exact p
theorem ai.lst (j:ah Y G h H)(z:ai Y G H w v)(e:w.cD h=y0 xs):∃a vs,v=.j a/\bA Y.K H a vs/\aa Y G H xs vs:=by
 cases w with
|v d=>
  cases d with
  |lst i=>cases e;obtain⟨a,vs,f,g,b⟩:=z;exact⟨a,vs,f,g.sq,b⟩
  |ref r=>
   obtain⟨k,f⟩:=z;have e:(match h[r]? with|some (M.Cell.lst zs)=>y0 zs|_=>u0)=y0 xs:=e;cases q:h[r]? with
   |none=>rw[q]at e;cases e
   |some c=>
    cases c with
   |lst i=>rw[q]at e;cases e;obtain⟨_,vs,g,b⟩:=j.cell r _ q;exact⟨_,vs,f,bA.of g,b⟩
   |obj c fs=>rw[q]at e;cases e
   |aR l=>rw[q]at e;cases e
  |aw=>cases e
  |bl _=>cases e
  |int _=>cases e
  |str _=>cases e
  |tup _=>cases e
  |err _ _ _=>cases e
|own i=>cases e;obtain⟨a,vs,f,_,_,g,b⟩:=z;exact⟨a,vs,f,bA.of g,b⟩
|bor i=>cases e;obtain⟨a,vs,f,_,g,b⟩:=z;exact⟨a,vs,f,.p g,b⟩
theorem ai.rN (j:ah Y G h H)(z:ai Y G H w v)(e:w.iJ h=y0 xs):∃a vs,v=.j a/\Rd H a (.w vs)/\aa Y G H xs vs:=by
 cases w with
|v d=>
  cases d with
  |ref r=>
   obtain⟨k,f⟩:=z;have e:(match h[r]? with|some (M.Cell.lst zs)=>y0 zs|_=>u0)=y0 xs:=e;cases q:h[r]? with
   |none=>rw[q]at e;cases e
   |some c=>
    cases c with
   |lst i=>rw[q]at e;cases e;obtain⟨_,vs,g,b⟩:=j.cell r _ q;exact⟨_,vs,f,.p g,b⟩
   |obj c fs=>rw[q]at e;cases e
   |aR l=>rw[q]at e;cases e
  |_=>cases e
|own i=>cases e;obtain⟨a,vs,f,_,_,g,b⟩:=z;exact⟨a,vs,f,.p g,b⟩
|bor i=>cases e;obtain⟨a,vs,f,_,g,b⟩:=z;exact⟨a,vs,f,g,b⟩
theorem ai.seq (j:ah Y G h H)(z:ai Y G H w v)(e:w.seq? h=y0 xs):∃a vs,v=.j a/\(bA Y.K H a vs\/cY Y.K H a vs)/\aa Y G H xs vs:=by
 have b:w.cD h=y0 xs->∃a vs,v=.j a/\(bA Y.K H a vs\/cY Y.K H a vs)/\aa Y G H xs vs:=λe=>by obtain⟨a,vs,g,i,f⟩:=z.lst j e;exact⟨a,vs,g,.p i,f⟩
 cases w with
|v d=>
  cases d with
  |tup c=>cases e;obtain⟨a,vs,g,i,f⟩:=z;exact⟨a,vs,g,.u i.sq,f⟩
  |lst c=>exact b e
  |ref r=>exact b e
  |aw=>cases e
  |bl _=>cases e
  |int _=>cases e
  |str _=>cases e
  |err _ _ _=>cases e
|own c=>exact b e
|bor c=>exact b e
def CZ(I:Inv X pins U H s)(r:Rd H a (.w vs)):vs.e<=sizeLine/\∃i n,Vals vs i/\vs.e=i.e/\s.j.p a=y0 {cls:=.p "list",data:=.j i.u n}:=by obtain⟨z,i,n,r,e⟩:=r.ok I.aO;exact⟨z,i,n,r,r.length,e⟩
def qk:M.bq<=sizeLine:=by rw[M.Gg];decide
def Nl(K:Ab):R2:=λx y H Q=>∃l b xs zs,x=.j l/\y=.j b/\bA K H l xs/\bA K H b zs/\xs.e+zs.e<=sizeLine/\∀p,H p=u0->Q (.j p) (aE H p (.w (xs++zs)))
def Nt:b9 X (binaryOp .Add) (Nl X.K):=by
 intro t s U H x y v u Q I J A h;obtain⟨l,b,N,O,rfl,rfl,E,D,M,q⟩:=h;cases J;cases A;obtain⟨c,r,F,_⟩:=I.C E;obtain⟨a,o,B,_⟩:=I.C D;have L:=r.length;have l2:=o.length;have z:c.u++a.u=(c++a).u:=by simp
 obtain⟨⟨C,dd,p,sl⟩,m,G,n,K⟩:=id F.J;obtain⟨⟨k,g,e,j⟩,d,f,w,i⟩:=id B.J;subst G K f i;refine concat_meets ⟨_,m,rfl⟩ ⟨_,d,rfl⟩ noFill_list_add seq_list_add PySem.F.slot_list_add PySem.F.entry_list_add (PySem.F.args_list_add_2 _ _) (list_addW l b c.u a.u n w dd g sl j (by simp_all)) ⟨m,d,?_⟩;rw[z];exact⟨.j _,_,I.mv (r.append o) (by simp_all),rfl,q _ I.fresh⟩
def DO:R2:=λx y H Q=>∃l k xs,x=.j l/\y=.o k/\Rd H l (.w xs)/\-(2^63)<=k/\k<2^63/\xs.e*k.j<=sizeLine∧
 ∀p,H p=u0->Q (.j p) (aE H p (.w (Aa4 k.j xs).G))
def Hf:b9 X (binaryOp .Mult) DO:=by
 intro o s U H x y v u Q I K A h;obtain⟨l,k,L,rfl,rfl,E,B,D,j,q⟩:=h;cases K;obtain⟨t,rfl⟩:=A;obtain⟨z,b,n,r,w,e⟩:=CZ I E;have f:b.u.j*k.j<=sizeLine:=by rw[Ab3,←w];exact j
 have d:¬b.u.j*k.j>(2^63-1)/8:=by
  have:sizeLine<=(2^63-1)/8:=by decide
  lia
 have g:¬(!Builtin.List.listFitsIndex k)=true:=by rw[fitsIndex_both B D];exact Ab9
 have c:¬Builtin.List.listTooLong (b.u.j*k.j)=true:=by rw[ym f];exact Ab9
 have i:List.foldl (λC J=>C++J) #[] (Aa4 (if b.u.y=k9 then 0 else k.j) b.u)=(Aa4 k.j b).G.u:=by
  have G:=λm=>by have:=j6 b m [];rw[Ae7]at this;exact this
  rw[G];cases b with
|nil=>simp
|cons a M=>rw[if_neg (by simp)]
 refine wpAny_binaryOp_repeat_ref rfl ⟨_,e,rfl⟩ (λp=>typeIs_int p k t) noFill_list_mul F.fills_int_mul F.slot_int_rmul repeat_list F.slot_int_index.p
  (call_meets F.slot_int_rmul (typeIs_int s k t) F.entry_int_rmul (F.args_int_rmul_2 _ _) (int___rmul___int_list k t l b.u n)
    ⟨e,rfl,⟨_,e,rfl⟩,call_meets F.slot_list_mul ⟨_,e,rfl⟩ F.entry_list_mul (F.args_list_mul_2 _ _) (AutoListH.list___mul___list_int_3 l b.u n k t g d c) ⟨e,?_⟩⟩)
 rw[i];exact⟨.j _,_,I.mv (r.rep k.j) (by rw[KY,Am6];exact j),rfl,q _ I.fresh⟩
theorem aa.rep (z:aa Y G H ds vs):∀k:Nat,aa Y G H (Aa4 k ds).G (Aa4 k vs).G
|0=>rfl
|k+1=>by exact z.append (aa.rep z k)
def zd(a b:Nat):Builtin.bitAnd (a:Int) (b:Int)=((a&&&b:Nat):Int):=by rfl
def LM(a:Nat)(j)(b:¬0<=j):Builtin.bitAnd (a:Int) j=((a-(a&&&(-j-1).j):Nat):Int):=by
 have e:(Builtin.bitNot j).j=(-j-1).j:=by unfold Builtin.bitNot;exact by with_reducible rfl
 unfold Builtin.bitAnd;rw[decide_eq_true (Ap4 a),decide_eq_false b];show a-((a&&&(Builtin.bitNot j).j:Nat):Int)=_;rw[e];have:=@Nat.and_le_left a (-j-1).j;lia
def Wm(a b:Nat):Builtin.bitOr (a:Int) (b:Int)=((a|||b:Nat):Int):=by
 have c:¬0<=Builtin.bitNot a:=by unfold Builtin.bitNot;lia
 have d:¬0<=Builtin.bitNot b:=by unfold Builtin.bitNot;lia
 have e1:(Builtin.bitNot (Builtin.bitNot a)).j=a:=by unfold Builtin.bitNot;lia
 have e2:(Builtin.bitNot (Builtin.bitNot b)).j=b:=by unfold Builtin.bitNot;lia
 unfold Builtin.bitOr Builtin.bitAnd;rw[decide_eq_false c,decide_eq_false d];show Builtin.bitNot (Builtin.bitNot _)=_;rw[e1,e2];unfold Builtin.bitNot;lia
def Fz(h:M.Kg i j=y0 k):Builtin.bitAnd i j=k:=by
 unfold M.Kg at h;split at h
 .rename_i d;obtain⟨a,rfl⟩:=Ah0 d;split at h
  .rename_i c;obtain⟨b,rfl⟩:=Ah0 c;cases h;exact zd a b
  .rename_i c;cases h;exact LM a j c
 .cases h
def Lg(h:M.lG i j=y0 k):Builtin.bitOr i j=k:=by
 unfold M.lG at h;split at h
 .rename_i c;obtain⟨a,rfl⟩:=Ah0 c.1;obtain⟨b,rfl⟩:=Ah0 c.2;cases h;exact Wm a b
 .cases h
def Cu:∀a b:Nat,(a|||b)=(a^^^b)+(a&&&b):=by
 intro a;induction a using Nat.strongRecOn with
|ind a c=>
  intro b;by_cases h:a=0
  .subst h;simp
  .have i:=c (a/2) (by lia) (b/2);rw[←(@Nat.or_div_two_pow a b 1),←(@Nat.xor_div_two_pow a b 1),←(@Nat.and_div_two_pow a b 1)]at i;have e:(a|||b)%2=(a^^^b)%2+(a&&&b)%2:=by
    rw[(@Nat.or_mod_two_pow a b 1),(@Nat.xor_mod_two_pow a b 1),(@Nat.and_mod_two_pow a b 1)];rcases Nat.mod_two_eq_zero_or_one a with u|u<;>rcases Nat.mod_two_eq_zero_or_one b with v|v<;>rw[u,v]<;>rfl
   lia
def CC(h:M.KC i j=y0 k):Builtin.bitXor i j=k:=by
 unfold M.KC at h;split at h
 .rename_i c;obtain⟨a,rfl⟩:=Ah0 c.1;obtain⟨b,rfl⟩:=Ah0 c.2;cases h;show Builtin.bitOr a b-Builtin.bitAnd a b=((a^^^b));rw[Wm,zd,Cu];lia
 .cases h
noncomputable def oy:M.Op->Operator
|.add=>.Add|.sub=>.Sub|.mul=>.Mult|.fdiv=>.FloorDiv|.mod=>.Mod|.pow=>.Pow|.shl=>.LShift|.shr=>.RShift|.band=>.BitAnd|.bor=>.BitOr|.bxor=>.BitXor
def NF(Y:Ge)(E:XK)(o:M.Op):R2:=λx y H Q=>∃G h a b,ah Y G h H/\ai Y G H a x/\ai Y G H b y/\aA Y E G H (M.GQ o a b h) Q
def Mi(s t):aK s++aK t=aK (s++t):=by show Str.mk _=Str.mk _;simp[aK]
def ze(s):(aK s).e=s.e:=by show s.u.j=s.e;simp
def nT:M.Op->Bool
|_=>k9
def NX(d:nT o=k9)(e:M.Gi o i j=y0 k)(I:Inv X pins U H s)(b:RelV (.o i) v)(a:RelV (.o j) u)(q:Q (.o k) H):
 wpAny (model X.p X.w) X.A (binaryOp (oy o) v u) (EP X pins U Q) X.xe s:=by
 cases o with
|add=>cases e;exact N2 pins s U H _ _ v u Q I b a ⟨i,j,rfl,rfl,q⟩
|sub=>cases e;exact DC pins s U H _ _ v u Q I b a ⟨i,j,rfl,rfl,q⟩
|mul=>
  simp only[M.Gi,M.GZ,M.GC]at e;split at e
  .rename_i c;cases e;exact Ip pins s U H _ _ v u Q I b a ⟨i,j,rfl,rfl,c,q⟩
  .cases e
|fdiv=>
  simp only[M.Gi,M.GR,M.GC]at e;split at e
  .rename_i c;cases e;exact OC pins s U H _ _ v u Q I b a ⟨i,j,rfl,rfl,c,q⟩
  .cases e
|mod=>
  simp only[M.Gi,M.GC]at e;split at e
  .rename_i c;cases e;exact EV pins s U H _ _ v u Q I b a ⟨i,j,rfl,rfl,c,q⟩
  .cases e
|pow=>
  simp only[M.Gi,M.G7,M.GC]at e;split at e
  .rename_i c;cases e;exact Cq pins s U H _ _ v u Q I b a ⟨i,j,rfl,rfl,c,q⟩
  .cases e
|shl=>
  simp only[M.Gi,M.G7,M.GC]at e;split at e
  .rename_i c;cases e;exact FH pins s U H _ _ v u Q I b a ⟨i,j,rfl,rfl,c,q⟩
  .cases e
|shr=>
  simp only[M.Gi,M.GC]at e;split at e
  .rename_i c;cases e;exact Oh pins s U H _ _ v u Q I b a ⟨i,j,rfl,rfl,c,q⟩
  .cases e
|band=>exact DI pins s U H _ _ v u Q I b a ⟨i,j,rfl,rfl,by dsimp only;rw[Fz e];exact q⟩
|bor=>exact N7 pins s U H _ _ v u Q I b a ⟨i,j,rfl,rfl,by dsimp only;rw[Lg e];exact q⟩
|bxor=>exact Iw pins s U H _ _ v u Q I b a ⟨i,j,rfl,rfl,by dsimp only;rw[CC e];exact q⟩
theorem ai.int (z:ai Y G H w v)(e:w.int?=y0 i):v=.o i:=by
 cases w with
|v d=>
  cases d with
  |int j=>cases e;exact z
  |_=>cases e
|_=>cases e
theorem ai.str (z:ai Y G H w v)(e:w.d8=y0 i):v=.p (aK i):=by
 cases w with
|v d=>
  cases d with
  |str j=>cases e;exact z
  |_=>cases e
|_=>cases e
theorem ai.tup (z:ai Y G H w v)(e:w.eY=y0 xs):∃a vs,v=.j a/\fN Y G H a vs/\aa Y G H xs vs:=by
 cases w with
|v d=>
  cases d with
  |tup j=>cases e;exact z
  |_=>cases e
|_=>cases e
def OX(o)(N:nT o=k9)(B:X.K=Y.K):b9 X (binaryOp (oy o)) (NF Y E o):=by
 rintro d s U H x y v u Q I q n ⟨G,h,W,V,g,C,w,p⟩;have T:=qk;unfold M.GQ at p;split at p
 .rename_i i j e1 e2;obtain⟨k,e,p⟩:=p.of;cases C.int e1;cases w.int e2;exact NX N e I q n (p.v g rfl)
 .split at p
  .--add
    unfold M.KK at p;split at p
    .rename_i a b e1 e2;cases C.str e1;cases w.str e2;split at p
     .rename_i c;exact Hn d s U H _ _ v u Q I q n ⟨_,_,rfl,rfl,by rw[ze,ze];exact Nat.le_trans ‹_› ‹_›,by rw[Mi];exact p.v g rfl⟩
     .exact p.j
    .split at p
     .rename_i K L e1 e2;obtain⟨a,m,rfl,l,f⟩:=C.tup e1;obtain⟨b,F,rfl,J,D⟩:=w.tup e2;split at p
      .rename_i c;have r:=f.e;have l2:=D.e;by_cases ex:m=[]
       .subst ex;have:K=[]:=Ag7 r;subst this;exact E6 d s U H _ _ v u Q I q n ⟨a,b,F,rfl,rfl,B▸l.sq,B▸J.sq,p.v g ⟨b,F,rfl,J,D⟩⟩
       refine Ie d s U H _ _ v u Q I q n ⟨a,b,m,F,rfl,rfl,B▸l.sq,B▸J.sq,ex,by lia,λe=>?_,λe t A=>p.tup g (f.append D) t A⟩
       .subst e;have:L=[]:=Ag7 l2;subst this;rw[Ae]at p;exact p.v g ⟨a,m,rfl,l,f⟩
      .exact p.j
     .split at p
      .rename_i K L e1 e2;obtain⟨a,m,rfl,l,f⟩:=C.lst g e1;obtain⟨b,F,rfl,J,D⟩:=w.lst g e2;unfold M.KI at p;split at p
       .have r:=f.e;have l2:=D.e;exact Nt d s U H _ _ v u Q I q n ⟨a,b,m,F,rfl,rfl,B▸l,B▸J,by lia,λt A=>p.own g (f.append D) t A⟩
       .exact p.j
      .exact p.j
  .--mul
    unfold M.KJ at p;split at p
    .rename_i z j e1 e2;cases C.str e1;cases w.int e2;split at p
     .rename_i c;rw[M.Gg]at c;refine D0 d s U H _ _ v u Q I q n ⟨_,j,rfl,rfl,c.1,c.2.1,by rw[ze];exact c.2.2,?_⟩;have e:iL (aK z) j.j=aK (Aa4 j.j z).G:=by apply BG;rw[ZI];rfl
      rw[e];exact p.v g rfl
     .exact p.j
    split at p
    .rename_i K j e1 e2;obtain⟨a,m,rfl,l,f⟩:=C.rN g e1;cases w.int e2;unfold M.Kz at p;split at p
     .rename_i c;have r:=f.e;exact Hf d s U H _ _ v u Q I q n ⟨a,j,m,rfl,rfl,l,by lia,by lia,by rw[←r];lia,λt A=>p.own g (f.rep j.j) t A⟩
     .exact p.j
    split at p
    .rename_i K j e1 e2;obtain⟨a,m,rfl,l,f⟩:=C.tup e1;cases w.int e2;split at p
     .rename_i c;obtain⟨S,R,O,P⟩:=c;rw[M.Gg]at P;have r:=f.e;refine MY d s U H _ _ v u Q I q n ⟨a,j,m,rfl,rfl,B▸l.sq,λe=>S (Ag7 (by rw[r,e];rfl)),R,O,by rw[←r,sizeLine_eq];exact Nat.le_trans ‹_› (by decide),λe=>?_,λe t A=>p.tup g (f.rep j.j) t A⟩;subst e;exact p.v g ⟨a,m,rfl,l,by simpa using f⟩
     .exact p.j
    .exact p.j
  .exact p.j
noncomputable def gb:M.Cp->CmpOp
|.eq=>.Eq|.ne=>.NotEq|.lt=>.Lt|.le=>.LtE|.gt=>.Gt|.ge=>.GtE|.mem=>.In|.fP=>.NotIn|.dE=>.Is|.i9=>.IsNot
def lh(Y:Ge)(o:M.Cp):R2:=λx y H Q=>∃G h a c b,ah Y G h H/\ai Y G H a x/\ai Y G H c y/\M.Gr o a c h=y0 b/\Q (.C b) H
def WM:M.Cp->Bool
|.mem=>k9
|.fP=>k9
|_=>k9
def E9(e:M.KA o i j=y0 b)(I:Inv X pins U H s)(c:RelV (.o i) v)(a:RelV (.o j) u)(q:Q (.C b) H):
 wpAny (model X.p X.w) X.A (compareOp (gb o) v u) (EP X pins U Q) X.xe s:=by
 cases o with
|lt=>cases e;exact OS pins s U H _ _ v u Q I c a ⟨i,j,rfl,rfl,q⟩
|le=>cases e;exact Mx pins s U H _ _ v u Q I c a ⟨i,j,rfl,rfl,q⟩
|gt=>cases e;exact EH pins s U H _ _ v u Q I c a ⟨i,j,rfl,rfl,q⟩
|ge=>cases e;exact MC pins s U H _ _ v u Q I c a ⟨i,j,rfl,rfl,q⟩
|_=>cases e
def Eo(d:X.K=Y.K)(l:bc k X.A):b9 X (compareOp .Eq) (lh Y .eq):=by
 rintro g s U H x y v u Q I m i ⟨G,h,p,o,b,f,n,j,e,q⟩;simp only[M.Gr]at e;split at e
 .rename_i c;cases e;have a:=by simpa[M.Kc]using c
  exact(rC 150 _ _ X.A v u (by lia) (by have:=l.un;lia) (n.rv I d f m a.1.1) (j.rv I d f i a.1.2)).rc _ _ _ _ ⟨.C _,H,I,rfl,q⟩
 .cases e
def Fo(d:X.K=Y.K)(l:bc k X.A):b9 X (compareOp .NotEq) (lh Y .ne):=by
 rintro g s U H x y v u Q I m i ⟨G,h,p,o,b,f,n,j,e,q⟩;simp only[M.Gr]at e;split at e
 .rename_i c;cases e;have a:=by simpa[M.Kc]using c
  exact(rC 150 _ _ X.A v u (by lia) (by have:=l.un;lia) (n.rv I d f m a.1.1) (j.rv I d f i a.1.2)).ne _ _ _ _ ⟨.C _,H,I,rfl,q⟩
 .cases e
end
def PE.imp (h:PE X e t)(k:∀U H Q,t' U H Q->t U H Q):PE X e t':=λa s U H Q I q=>h a s U H Q I (k _ _ _ q)
def PT.imp (h:PT X e t)(k:∀U H Q,t' U H Q->t U H Q):PT X e t':=λa s U H Q I q=>h a s U H Q I (k _ _ _ q)
def PA.imp (h:PA X e t)(k:∀U H Q,t' U H Q->t U H Q):PA X e t':=λb a s U H Q I q=>h b a s U H Q I (k _ _ _ q)
section
variable{X:Cx}{Y:Ge}{G:Gh}{H:Hp}{h:M.AH}{pins:List (Addr×Obj)}{U:St}{s:Shared}{Q:VK}{E:XK}
def br.one (z:br Y G H [w] vs):∃v,vs=[v]/\ai Y G H w v:=by obtain⟨v,r,rfl,a,b⟩:=z;cases(show r=[]from b);exact⟨v,rfl,a⟩
def br.two (z:br Y G H [w,w'] vs):∃v v',vs=[v,v']/\ai Y G H w v/\ai Y G H w' v':=by obtain⟨v,r,rfl,b,c⟩:=z;obtain⟨v',rfl,a⟩:=c.one;exact⟨v,v',rfl,b,a⟩
def rD(Y:Ge)(E:XK)(b:M.Bi):List V->Hp->VK->Prop:=λxs H Q=>∃G h a,ah Y G h H/\br Y G H a xs/\aA Y E G H (M.ek b a h) Q
def uy{K:Ab}(h:bA K H a vs\/cY K H a vs):bA K H a vs\/cY K H a vs:=h
noncomputable def nZ:M.Bi->Bool
|.len=>k9|.int=>k9|.list=>k9|.tuple=>k9|.divmod=>k9|.sum=>k9|.all=>k9|.any=>k9|.sorted=>k9
|_=>y9
noncomputable def zev:M.Bi->Value
|.len=>.u "len"|.int=>.p "int"|.list=>.p "list"|.tuple=>.p "tuple"|.sum=>.u "sum"|.all=>.u "all"|.any=>.u "any"
|.sorted=>.u "sorted"|.divmod=>.u "divmod"|.str=>.p "str"|.min=>.u "min"|.max=>.u "max"|.abs=>.u "abs"
def aA.of2 {f:α->β->M.AH->M.R M.W}(p:aA Y E G H ((M.R.of h o).p λa h=>(M.R.of h o').p λb h=>f a b h) Q):∃a b,o=y0 a/\o'=y0 b/\aA Y E G H (f a b h) Q:=by obtain⟨a,e,p⟩:=p.of;obtain⟨b,c,p⟩:=p.of;exact⟨a,b,e,c,p⟩
theorem sk:∀{xs}{vs}{bs},M.Kp xs=y0 bs->aa Y G H xs vs->vs=bs.j V.bl
|[],_,_,e,z=>by cases e;exact z
|x::xs,_,bs,e,z7=>by
  obtain⟨v,r,c,d,a⟩:=z7;subst c;cases x with
|bl b=>obtain⟨f,e1,rfl⟩:=Ag2.p (e);cases(d);rw[sk e1 a];rfl
|_=>cases e
theorem tK:∀{xs}{vs}{n},M.Kk xs=y0 n->aa Y G H xs vs->∃ns:List Int,vs=ns.j V.int/\n=gY ns
|[],_,_,e,z=>by cases e;exact⟨[],z,rfl⟩
|x::xs,_,n,e,z7=>by
  obtain⟨v,r,b,f,d⟩:=z7;subst b;cases x with
|int i=>have e:=e;obtain⟨k,e1,rfl⟩:=Ag2.p e;obtain⟨ns,a,c⟩:=tK e1 d;cases(f);exact⟨i::ns,by rw[a];rfl,by rw[c];rfl⟩
|_=>cases e
theorem qK:∀{xs}{vs}{ns},M.GO xs=y0 ns->aa Y G H xs vs->vs=ns.j V.int
|[],_,_,e,z=>by cases e;exact z
|x::xs,_,ns,e,z7=>by
  obtain⟨v,r,c,d,a⟩:=z7;subst c;cases x with
|int b=>obtain⟨f,e1,rfl⟩:=Ag2.p (e);cases(d);rw[qK e1 a];rfl
|_=>cases e
theorem qR:∀{xs}{vs}{ns},M.GT xs=y0 ns->aa Y G H xs vs->vs=(ns.j aK).j V.str
|[],_,_,e,z=>by cases e;exact z
|x::xs,_,ns,e,z7=>by
  obtain⟨v,r,c,d,a⟩:=z7;subst c;cases x with
|str b=>obtain⟨f,e1,rfl⟩:=Ag2.p (e);cases(show v=.p (aK b)from d);rw[qR e1 a];rfl
|_=>cases e
theorem JU:∀(a:List M.Tx),aa Y G H (a.j .p) ((a.j aK).j V.str)
|[]=>rfl
|t::a=>⟨_,_,rfl,rfl,JU a⟩
theorem BD(x):∀{ys},ys.Pairwise (λa b=>¬b<a)->(M.Ke x ys).Pairwise (λa b=>¬b<a)
|[],_=>List.pairwise_singleton _ _
|y::ys,h=>by
  have e:=Ak3.p h;unfold M.Ke;split
  .rename_i q;refine Ak3.u ⟨λz d=>?_,BD x e.2⟩;have:z=x\/z∈ys:=by
    have g:∀{x}{ys},z∈M.Ke x ys->z=x\/z∈ys:=by
     intro x ys;induction ys with
|nil=>intro h;simp[M.Ke]at h;exact .p h
|cons y ys f=>
      intro h;unfold M.Ke at h;split at h
      .rcases Ab8.p h with h|h
       .exact .u (h▸Aa3)
       .exact(f h).imp id (Aa2 _)
      .rcases Ab8.p h with h|h
       .exact .p h
       .exact .u h
    exact g d
   rcases this with rfl|d
   .exactλc=>List.lt_irrefl _ (List.lt_trans c q)
   .exact e.1 z d
  .rename_i q;refine Ak3.u ⟨λz d=>?_,h⟩;rcases Ab8.p d with rfl|d
   .exact q
   .exact List.le_trans q (e.1 z d)
theorem vo:∀xs:List M.Tx,(M.Gz xs).Pairwise (λa b=>¬b<a)
|[]=>.nil
|x::xs=>BD x (vo xs)
theorem zr(x):∀ys:List M.Tx,(M.Ke x ys).Perm (x::ys)
|[]=>.refl _
|y::ys=>by
  unfold M.Ke;by_cases q:y<x
  .rw[if_pos q];exact((zr x ys).cons y).trans (.swap x y ys)
  .rw[if_neg q]
theorem Xk:∀xs:List M.Tx,(M.Gz xs).Perm xs
|[]=>.refl _
|x::xs=>(zr x (M.Gz xs)).trans ((Xk xs).cons x)
theorem uQ:∀{l}{p},risingS p l=k9->(p::l).Pairwise (λa b=>¬b.j.p<a.j.p)
|[],p,_=>List.pairwise_singleton _ _
|x::r,p,h=>by
  have h:(!ltCps x.j.p p.j.p&&risingS x r)=true:=h;rw[Aa0,ltCps_eq]at h;have d:=by simpa using h.1
  have e:=uQ h.2;refine Ak3.u ⟨λz c=>?_,e⟩;rcases Ab8.p c with rfl|c
  .exact d
  .exact List.le_trans d ((Ak3.p e).1 z c)
def IL(s):aK s.j.p=s:=by cases s;simp[aK]
def Na(g:ss.Perm (ts.j aK))(f:sortedS ss=k9):ss=(M.Gz ts).j aK:=by
 have c:=by
  have:=g.map (λs=>s.j.p);rw[Ad7]at this;have e:((λs:Str=>s.j.p)∘aK)=id:=by funext t;simp[aK]
  rw[e,List.map_id]at this;exact this
 have d:(ss.j λs=>s.j.p).Pairwise (λa b=>¬b<a):=by
  rw[List.pairwise_map];cases ss with
|nil=>exact .nil
|cons p l=>exact uQ f
 rw[←(List.Perm.eq_of_pairwise (λa b _ _ x y=>List.le_antisymm x y) d (vo ts) (c.trans (Xk ts).symm)),Ad7];have e:(aK∘λs:Str=>s.j.p)=id:=by funext t;exact IL t
 rw[e,List.map_id]
def Mz(b)(B:nZ b=k9)(A:X.K=Y.K)(J:X.calm=k9):Zs X (zev b) (rD Y E b):=by
 rintro f s U H xs x Q I r ⟨G,h,W,g,F,p⟩;have V:=qk;unfold M.ek at p;split at p
 .rename_i w;obtain⟨v,rfl,z⟩:=F.one;cases b with
|len=>
   simp only[M.la]at p;split at p
   .rename_i y e;cases z.str e;split at p
    .exact wX f s U H _ x Q I r ⟨_,rfl,by rw[ze];exact Nat.le_trans ‹_› ‹_›,by rw[ze];exact p.v g rfl⟩
    .exact p.j
   .obtain⟨C,e,p⟩:=p.of;obtain⟨a,t,rfl,m,o⟩:=z.seq g e;refine j5 f s U H _ x Q I r ⟨a,t,rfl,A▸uy m,?_⟩;rw[←o.length];exact p.v g rfl
|int=>
   simp only[M.la]at p;split at p
   .cases(z);exact W4 f s U H _ x Q I r (.p ⟨_,rfl,p.v g rfl⟩)
   .rename_i k;cases(z);refine W4 f s U H _ x Q I r (.u ⟨_,rfl,?_⟩);have:=p.v g rfl;cases k<;>exact this
   .exact p.j
|list=>obtain⟨C,e,p⟩:=p.of;obtain⟨a,t,rfl,m,o⟩:=z.seq g e;exact J0 f s U H _ x Q I r ⟨a,t,rfl,A▸uy m,λl u=>p.own g o l u⟩
|tuple=>
   obtain⟨C,e,D⟩:=p.of;clear p;cases w with
   |v d=>
    cases d with
    |tup K=>cases e;obtain⟨a,t,rfl,m,o⟩:=z;exact Wg f s U H _ x Q I r ⟨a,t,rfl,.u ⟨A▸m.sq,D.v g ⟨a,t,rfl,m,o⟩⟩⟩
    |lst K=>obtain⟨a,t,rfl,m,o⟩:=ai.lst g z e;exact Wg f s U H _ x Q I r ⟨a,t,rfl,.p ⟨A▸m,λl u=>D.tup g o l u⟩⟩
    |ref q=>obtain⟨a,t,rfl,m,o⟩:=ai.lst g z e;exact Wg f s U H _ x Q I r ⟨a,t,rfl,.p ⟨A▸m,λl u=>D.tup g o l u⟩⟩
    |aw=>cases e
    |bl _=>cases e
    |int _=>cases e
    |str _=>cases e
    |err _ _ _=>cases e
   |own K=>obtain⟨a,t,rfl,m,o⟩:=ai.lst g z e;exact Wg f s U H _ x Q I r ⟨a,t,rfl,.p ⟨A▸m,λl u=>D.tup g o l u⟩⟩
   |bor K=>obtain⟨a,t,rfl,m,o⟩:=ai.lst g z e;exact Wg f s U H _ x Q I r ⟨a,t,rfl,.p ⟨A▸m,λl u=>D.tup g o l u⟩⟩
|divmod=>exact p.j
|min=>cases B
|max=>cases B
|sum=>
   simp only[M.la]at p;obtain⟨n,e,p⟩:=p.of;obtain⟨C,e1,e2⟩:=Ag8.p e;split at e2;rotate_left
   .cases e2
   obtain⟨a,t,rfl,m,o⟩:=ai.lst g z e1;obtain⟨N,rfl,rfl⟩:=tK e2 o;exact CU J f s U H _ x Q I r ⟨a,N,rfl,A▸m,p.v g rfl⟩
|all=>simp only[M.la]at p;obtain⟨bs,e,p⟩:=p.of;obtain⟨C,e1,e2⟩:=Ag8.p e;obtain⟨a,t,rfl,m,o⟩:=ai.lst g z e1;cases sk e2 o;exact Mq J f s U H _ x Q I r ⟨a,bs,rfl,A▸m,p.v g rfl⟩
|any=>simp only[M.la]at p;obtain⟨bs,e,p⟩:=p.of;obtain⟨C,e1,e2⟩:=Ag8.p e;obtain⟨a,t,rfl,m,o⟩:=ai.lst g z e1;cases sk e2 o;exact EE J f s U H _ x Q I r ⟨a,bs,rfl,A▸m,p.v g rfl⟩
|sorted=>
   simp only[M.la]at p;obtain⟨S,e,p⟩:=p.of;obtain⟨C,e1,e2⟩:=Ag8.p e;obtain⟨a,t,rfl,m,o⟩:=ai.lst g z e1;cases qR e2 o;split at p
   .rename_i u;refine ZX f s U H _ x Q I r ⟨a,S.j aK,rfl,A▸m,by rw[Aa];exact u,λP R T l u=>?_⟩;rw[Na R T];exact p.own g (JU _) l u
   .exact p.j
|str=>cases B
|abs=>cases B
 .rename_i w Z;obtain⟨v,v',rfl,z,L⟩:=F.two;obtain⟨i,j,e,O,p⟩:=p.of2;cases z.int e;cases L.int O;cases b with
|divmod=>
   simp only[M.vO,M.GR]at p;split at p
   .rename_i c;exact W9 f s U H _ x Q I r ⟨i,j,rfl,c,λl u=>p.tup g ⟨_,_,rfl,rfl,_,_,rfl,rfl,rfl⟩ l u⟩
   .exact p.j
|min=>cases B
|max=>cases B
|len=>exact p.j
|int=>exact p.j
|list=>exact p.j
|tuple=>exact p.j
|sum=>exact p.j
|all=>exact p.j
|any=>exact p.j
|sorted=>exact p.j
|str=>cases B
|abs=>cases B
 .exact p.j
noncomputable def du:M.Ty->String
|.aw=>"NoneType"|.bool=>"bool"|.int=>"int"|.str=>"str"|.C=>"list"|.tuple=>"tuple"
def qz(K):∀u t,t≠.aw->An6 K (.p (du u)) (.p (du t))=y0 (M.Ty.le u t):=by
 intro u t a;cases u<;>cases t<;>first|exact absurd rfl a|kernel_rfl
def MX(Y:Ge):List V->Hp->VK->Prop:=λxs H Q=>∃G h w x t b,xs=[x,.ty (du t)]/\t≠.aw/\ah Y G h H/\ai Y G H w x/\M.cG t w=y0 b/\Q (.C b) H
def LQ(E:X.K=Y.K):Zs X (.u "isinstance") (MX Y):=by
 rintro k s U H S P Q I r ⟨G,h,w,x,t,b,K,j,T,z,e,q⟩;subst K;obtain⟨u,R,rfl,g,J⟩:=mG r;cases J;have fin:∀A,EP X k U Q (.x b) {s with toks:=A}:=λA=>⟨.C b,H,I.tok A,rfl,q⟩;have lst:∀{a}{m},x=.j a->Rd H a (.w m)->M.Ty.le .C t=b->wpAny (model X.p X.w) X.A (call (.u "isinstance") [u,.p (du t)]) (EP X k U Q) X.xe s:=by
  intro a m ex rd F;subst ex F;rcases rd with rd|⟨o,rd⟩
  .exact jl I g (.lst rd) (qz _ .C t j) fin
  .exact jl I g (.eJ rd) (qz _ .C t j) fin
 cases w with
|v d=>
  cases d with
  |aw=>cases e;cases(z);exact jl I g .aw (qz _ .aw t j) fin
  |bl c=>cases e;cases(z);exact jl I g (.bl c) (qz _ .bool t j) fin
  |int i=>cases e;cases(z);exact jl I g (.int i) (qz _ .int t j) fin
  |str y=>cases e;cases(z);exact jl I g (.str _) (qz _ .str t j) fin
  |tup p=>
   cases e;obtain⟨a,m,rfl,f,L⟩:=z;rcases f with⟨_,f⟩|⟨o,B,n,D,C,N,_⟩
   .exact jl I g (.tup f) (qz _ .tuple t j) fin
   .cases g;exact Af3 PySem.W.kitx_tuple I.bK ⟨o,I.bK a o (E▸D),C⟩ (qz _ .tuple t j) (λz=>nomatch z) fin
  |lst p=>
   cases e;obtain⟨a,m,l,f,L⟩:=z;rcases f with f|⟨o,B,n,D,C,N,_⟩
   .exact lst l f.2 rfl
   .subst l;cases g;exact Af3 Ap I.bK ⟨o,I.bK a o (E▸D),C⟩ (qz _ .C t j) (λz=>nomatch z) fin
  |ref O=>cases e
  |err _ _ _=>cases e
|own p=>cases e;obtain⟨a,m,l,_,_,f,_⟩:=z;exact lst l (.p f) rfl
|bor p=>cases e;obtain⟨a,m,l,_,f,_⟩:=z;exact lst l f rfl
def nD(m:X.K=Y.K)(p:ah Y G h H)(z:ai Y G H w x)(e:M.G9 h w=y0 b):kg X.K x H b:=by
 have lst:∀{a}{f}{g},x=.j a->bA X.K H a f->aa Y G H g f->(!g.y)=b->kg X.K x H b:=by
  intro a f g ex rd l n;subst ex n;refine .p ⟨f,rd,?_⟩;cases g with
|nil=>cases(show f=[]from l);rfl
|cons _ _=>obtain⟨_,_,rfl,_⟩:=l;rfl
 cases w with
|v d=>
  cases d with
  |aw=>cases e;cases(z);exact rfl
  |bl _=>cases e;cases(z);exact rfl
  |int _=>cases e;cases(z);exact rfl
  |str y=>
   cases(z);have e:(if y.e<=M.bq then y0 (!y.y)else u0)=y0 b:=e;split at e
   .rename_i c;cases e;refine⟨by rw[ze];have:=qk;exact Nat.le_trans ‹_› ‹_›,?_⟩;rw[ze];cases y with
|nil=>rfl
|cons a r=>
     have:((((a::r).e:Nat):Int) !=0)=true:=by rw[Aa8,bne_iff_ne];lia
     rw[this];rfl
   .cases e
  |tup g=>
   cases e;obtain⟨a,f,rfl,i,l⟩:=z;refine .u (.p ⟨f,m▸i.sq,?_⟩);cases g with
   |nil=>cases(show f=[]from l);rfl
   |cons _ _=>obtain⟨_,_,rfl,_⟩:=l;rfl
  |lst g=>cases e;obtain⟨a,f,j,i,k⟩:=z;exact lst j (m▸i.sq) k rfl
  |ref o=>cases e
  |err _ _ _=>cases e
|own g=>cases e;obtain⟨a,f,j,_,_,i,k⟩:=z;exact lst j (bA.of i) k rfl
|bor g=>cases e;obtain⟨a,f,j,_,i,k⟩:=z;exact lst j (.p i) k rfl
end
noncomputable abbrev Jd(x:String):Str:=Str.ofString x
example:("len":Str)=Jd "len":=rfl
structure oR where
 fl:List (String×String)
 mt:List (String×String×String)
 eW:List (String×String)
 ms:List String
 er:List (String×String)
structure Cg where
 fns:List String
 own:List String
 Pu:List String
 fT:List String
 ob:oR
 cb:Bool
 qf:List String
open Lake renaming MS.Cg.own→Lake.MS.Cg.j,MS.Cg.fns→Lake.MS.Cg.u,MS.Cg.ob→Lake.MS.Cg.w
structure Cf extends Cg where
 sc:Scope
 N:List Str
open Lake renaming MS.Cf.sc→Lake.MS.Cf.p
noncomputable def Cg.q (g:Cg):Cg:=⟨g.qf,g.j,[],[],⟨g.w.fl,[],[],[],[]⟩,y9,[]⟩
noncomputable def Cg.z (g:Cg):Cg:=⟨[],g.j,[],[],⟨g.w.fl,[],[],[],[]⟩,y9,[]⟩
noncomputable def zT(sc:Scope)(x:Str):Bool:=match sc.j.p x with
|some .local=>k9
|some .p=>k9
|some .w=>k9
|_=>y9
noncomputable def lY(sc:Scope)(x:Str):Bool:=match sc.j.p x with
|some .globalImplicit=>k9
|_=>y9
noncomputable def kB(sc:Scope)(x:Str):Bool:=match sc.j.p x with
|some .local=>k9
|some .p=>k9
|_=>y9
noncomputable def bp(x:Str):Bool:=!(x==("__debug__":Str))&&!(x==("__classdict__":Str))
noncomputable def n6:M.Bi->String
|.len=>"len"|.int=>"int"|.list=>"list"|.tuple=>"tuple"|.sum=>"sum"|.all=>"all"|.any=>"any"|.sorted=>"sorted"|.divmod=>"divmod"|.str=>"str"|.min=>"min"|.max=>"max"|.abs=>"abs"
noncomputable def cn:List String:=["len","int","list","tuple","sum","all","any","sorted","divmod","str","min","max","abs","isinstance","bool","range","reversed","zip","enumerate","set","dict","ValueError"]
noncomputable def pz:Expr->Str->Bool
|.j y _,x=>y==x
|_,_=>y9
def b8(sc:Scope)(x:String)(e:Expr):Bool:=pz e (Jd x)&&lY sc (Jd x)&&bp (Jd x)
noncomputable def vC:M.Mt->String
|.index=>"index"|.count=>"count"|.cu=>"index"
def AA:M.Mt->Bool
|.index=>k9|.count=>k9|.cu=>k9
noncomputable def qU:Expr->Bool
|.x _ [] _ _=>y9
|_=>k9
noncomputable def JI(cf:Cf):List String->List Expr->Bool
|[],[]=>k9
|t::a,e::es=>b8 cf.p t e&&cf.j.w t&&JI cf a es
|_,_=>y9
noncomputable def xy(cf:Cf):List Nat->List Expr->Bool
|[],[]=>k9
|i::is,.j x _::es=>u9 (cf.N[i]?=y0 x)&&kB cf.p x&&xy cf is es
|_,_=>y9
def lZ(cf:Cf)(x:String)(e:Expr):Bool:=cf.cb&&b8 cf.p x e
def rB(cf:Cf)(is:List Nat)(es:List Expr):Bool:=cf.cb&&xy cf is es
def jg(cf:Cf)(a:List Nat)(one:Bool)(e:Expr):Bool:=match one,e with
|true,.j x p=>(match a with|[_]=>k9|_=>y9)&&xy cf a [.j x p]
|false,.C es _ _=>rB cf a es
|_,_=>y9
noncomputable def Qb:Expr->Bool
|.Starred ..=>y9
|_=>k9
noncomputable def Wc:Expr->Bool
|.Slice ..=>y9
|_=>k9
def Zh:Expr->Bool
|.Set ..=>y9
|_=>k9
noncomputable def jL(cf:Cf):List Nat->List Str->Bool
|[],[]=>k9
|j::a,x::xs=>u9 (cf.N[j]?=y0 x)&&u9 (cf.p.j.p x=y0 .p\/cf.p.j.p x=y0 .w)&&jL cf a xs
|_,_=>y9
def Z8(cf:Cf)(a:Scope)(N:List Str)(k:Nat)(aD:List Nat):Bool:=
 cf.cb&&u9 (a.p=.j)&&u9 (a.j.j Prod.fst).C&&a.j.N (λy=>u9 (y.2=.local->a.j.p y.1=y0 .local))&&
 a.j.N (λy=>u9 (y.2=.w->cf.p.j.p y.1=y0 .p\/cf.p.j.p y.1=y0 .w))&&(N.K k).N (λx=>u9 (a.j.p x=y0 .w))&&
 jL cf aD (N.K k)&&u9 (k<=N.e)&&decide N.C&&decide aD.C
noncomputable def OZ:Expr->List Str
|.j x _=>[x]
|.C es _ _=>es.U λ|.j x _=>y0 x|_=>u0
|_=>[]
def Wy(cf:Cf)(t:Expr)(aD:List Nat):List Str:=OZ t++aD.U λj=>cf.N[j]?
noncomputable def fY:M.E->Bool
|.a4 _=>y9
|.not a=>fY a
|.and a b=>fY a&&fY b
|.or a b=>fY a&&fY b
|_=>k9
noncomputable def nB(neg:Bool):CmpOp:=if neg then .NotIn else .In
def bB{P:Prop}(h:y9=k9):P:=nomatch h
set_option backward.match.sparseCases false
noncomputable def lC{a:Type}(l:List a)(f:a->List a->Bool):Bool:=match l with
|x::r=>f x r
|_=>y9
noncomputable def oS{a:Type}(l:Option a)(f:a->Bool):Bool:=match l with
|some x=>f x
|_=>y9
@[elab_as_elim]theorem kC{P:List α->Prop}(k:∀x r,f x r=k9->P (x::r)):∀l,lC l f=k9->P l:=by rintro(_|_)<;>first|exact bB|exact k _ _
@[elab_as_elim]theorem kS{P:Option α->Prop}(k:∀x,f x=k9->P (y0 x)):∀l,oS l f=k9->P l:=by rintro(_|_)<;>first|exact bB|exact k _
noncomputable def xq(e:Expr)(f:Str->Bool):Bool:=match e with
|.j x _=>f x
|_=>y9
@[elab_as_elim]theorem Zq{P:Expr->Prop}(k:∀x p,f x=k9->P (.j x p)):∀e,xq e f=k9->P e:=by rintro(_|_)<;>first|exact bB|exact k _ _
noncomputable def Jy(e:Expr)(f:Const->Bool):Bool:=match e with
|.w x _ _=>f x
|_=>y9
@[elab_as_elim]theorem XE{P:Expr->Prop}(k:∀x n p,f x=k9->P (.w x n p)):∀e,Jy e f=k9->P e:=by rintro(_|_)<;>first|exact bB|exact k _ _ _
noncomputable def m2(e:Expr)(f:List Expr->Bool):Bool:=match e with
|.C x _ _=>f x
|_=>y9
@[elab_as_elim]theorem om{P:Expr->Prop}(k:∀x n p,f x=k9->P (.C x n p)):∀e,m2 e f=k9->P e:=by rintro(_|_)<;>first|exact bB|exact k _ _ _
noncomputable def Ax(e:Expr)(f:List Expr->Bool):Bool:=match e with
|.List x _=>f x
|_=>y9
@[elab_as_elim]theorem Im{P:Expr->Prop}(k:∀x p,f x=k9->P (.List x p)):∀e,Ax e f=k9->P e:=by rintro(_|_)<;>first|exact bB|exact k _ _
noncomputable def sV(e:Expr)(f:Expr->Operator->Expr->Bool):Bool:=match e with
|.BinOp x o y _=>f x o y
|_=>y9
@[elab_as_elim]theorem O4{P:Expr->Prop}(k:∀x o y p,f x o y=k9->P (.BinOp x o y p)):∀e,sV e f=k9->P e:=by rintro(_|_)<;>first|exact bB|exact k _ _ _ _
noncomputable def mn(e:Expr)(f:Expr->List CmpOp->List Expr->Bool):Bool:=match e with
|.B x o y _=>f x o y
|_=>y9
@[elab_as_elim]theorem nv{P:Expr->Prop}(k:∀x o y p,f x o y=k9->P (.B x o y p)):∀e,mn e f=k9->P e:=by rintro(_|_)<;>first|exact bB|exact k _ _ _ _
noncomputable def nO(e:Expr)(f:UnaryOp->Expr->Bool):Bool:=match e with
|.G o x _=>f o x
|_=>y9
@[elab_as_elim]theorem rM{P:Expr->Prop}(k:∀o x p,f o x=k9->P (.G o x p)):∀e,nO e f=k9->P e:=by rintro(_|_)<;>first|exact bB|exact k _ _ _
noncomputable def rS(e:Expr)(f:BoolOp->List Expr->Pos->Bool):Bool:=match e with
|.y o x p=>f o x p
|_=>y9
@[elab_as_elim]theorem AM{P:Expr->Prop}(k:∀o x p,f o x p=k9->P (.y o x p)):∀e,rS e f=k9->P e:=by rintro(_|_)<;>first|exact bB|exact k _ _ _
noncomputable def qm(e:Expr)(f:Expr->List Expr->List Keyword->Pos->Bool):Bool:=match e with
|.x g x l p=>f g x l p
|_=>y9
@[elab_as_elim]theorem jm{P:Expr->Prop}(k:∀g x l p,f g x l p=k9->P (.x g x l p)):∀e,qm e f=k9->P e:=by rintro(_|_)<;>first|exact bB|exact k _ _ _ _
noncomputable def gi(e:Expr)(f:Expr->Expr->Bool):Bool:=match e with
|.u x y _=>f x y
|_=>y9
@[elab_as_elim]theorem gU{P:Expr->Prop}(k:∀x y p,f x y=k9->P (.u x y p)):∀e,gi e f=k9->P e:=by rintro(_|_)<;>first|exact bB|exact k _ _ _
noncomputable def og(e:Expr)(f:Option Expr->Option Expr->Option Expr->Bool):Bool:=match e with
|.Slice x y z _=>f x y z
|_=>y9
@[elab_as_elim]theorem sy{P:Expr->Prop}(k:∀x y z p,f x y z=k9->P (.Slice x y z p)):∀e,og e f=k9->P e:=by rintro(_|_)<;>first|exact bB|exact k _ _ _ _
noncomputable def tF(e:Expr)(f:Expr->List Comprehension->Scope->Bool):Bool:=match e with
|.A y g s _=>f y g s
|_=>y9
@[elab_as_elim]theorem vN{P:Expr->Prop}(k:∀y g s p,f y g s=k9->P (.A y g s p)):∀e,tF e f=k9->P e:=by rintro(_|_)<;>first|exact bB|exact k _ _ _ _
noncomputable def ZK(e:Expr)(f:Expr->Str->Pos->Bool):Bool:=match e with
|.p x n p=>f x n p
|_=>y9
@[elab_as_elim]theorem zN{P:Expr->Prop}(k:∀x n p,f x n p=k9->P (.p x n p)):∀e,ZK e f=k9->P e:=by rintro(_|_)<;>first|exact bB|exact k _ _ _
noncomputable def pj(e:Expr)(f:List (Option Expr)->List Expr->Bool):Bool:=match e with
|.Dict x y _=>f x y
|_=>y9
@[elab_as_elim]theorem vp{P:Expr->Prop}(k:∀x y p,f x y=k9->P (.Dict x y p)):∀e,pj e f=k9->P e:=by rintro(_|_)<;>first|exact bB|exact k _ _ _
noncomputable def fW(e:Stmt)(f:List Expr->Expr->Bool):Bool:=match e with
|.j t v _=>f t v
|_=>y9
@[elab_as_elim]theorem gH{P:Stmt->Prop}(k:∀t v p,f t v=k9->P (.j t v p)):∀e,fW e f=k9->P e:=by rintro(_|_)<;>first|exact bB|exact k _ _ _
noncomputable def mz(e:Stmt)(f:Expr->Bool):Bool:=match e with
|.Expr v _=>f v
|_=>y9
@[elab_as_elim]theorem oE{P:Stmt->Prop}(k:∀v p,f v=k9->P (.Expr v p)):∀e,mz e f=k9->P e:=by rintro(_|_)<;>first|exact bB|exact k _ _
noncomputable def uj(e:Stmt)(f:Option Expr->Bool):Bool:=match e with
|.Return v _=>f v
|_=>y9
@[elab_as_elim]theorem Ho{P:Stmt->Prop}(k:∀v p,f v=k9->P (.Return v p)):∀e,uj e f=k9->P e:=by rintro(_|_)<;>first|exact bB|exact k _ _
noncomputable def sg(e:Stmt)(f:Expr->List Stmt->List Stmt->Bool):Bool:=match e with
|.If x y z _=>f x y z
|_=>y9
@[elab_as_elim]theorem tZ{P:Stmt->Prop}(k:∀x y z p,f x y z=k9->P (.If x y z p)):∀e,sg e f=k9->P e:=by rintro(_|_)<;>first|exact bB|exact k _ _ _ _
noncomputable def AU(e:Stmt)(f:Expr->List Stmt->List Stmt->Bool):Bool:=match e with
|.While x y z _=>f x y z
|_=>y9
@[elab_as_elim]theorem E1{P:Stmt->Prop}(k:∀x y z p,f x y z=k9->P (.While x y z p)):∀e,AU e f=k9->P e:=by rintro(_|_)<;>first|exact bB|exact k _ _ _ _
noncomputable def uF(e:Stmt)(f:Expr->Expr->List Stmt->List Stmt->Bool):Bool:=match e with
|.For t i y z _=>f t i y z
|_=>y9
@[elab_as_elim]theorem IX{P:Stmt->Prop}(k:∀t i y z p,f t i y z=k9->P (.For t i y z p)):∀e,uF e f=k9->P e:=by rintro(_|_)<;>first|exact bB|exact k _ _ _ _ _
noncomputable def tw(e:Stmt)(f:Option Expr->Option Expr->Bool):Bool:=match e with
|.Raise x y _=>f x y
|_=>y9
@[elab_as_elim]theorem Ni{P:Stmt->Prop}(k:∀x y p,f x y=k9->P (.Raise x y p)):∀e,tw e f=k9->P e:=by rintro(_|_)<;>first|exact bB|exact k _ _ _
set_option backward.match.sparseCases true
def vB(cf:Cf)(i:Nat)(x:Str):Bool:=u9 (cf.N[i]?=y0 x)&&zT cf.p x&&bp x
noncomputable def kZ{a:Type}(l:List a)(b:Bool):Bool:=l.y&&b
noncomputable def yx(e:Stmt)(f:List Stmt->List ExceptHandler->Bool):Bool:=match e with
|.Try a b c d _=>kZ c (kZ d (f a b))
|_=>y9
noncomputable def Aw(e:ExceptHandler)(f:Option Expr->Option Str->List Stmt->Bool):Bool:=match e with
|.ExceptHandler a b c _=>f a b c
def kK(t:M.Tx)(e:Option Expr):Bool:=oS e λe=>Jy e λc=>u9 (c=.p (aK t))
def pR(h:kK t e=k9):∃j p,e=y0 (.w (.p (aK t)) j p):=by refine kS (λe h=>XE (λc n p h=>?_) e h) e h;cases of_decide_eq_true h;exact⟨_,_,rfl⟩
mutual
noncomputable def Zc(cf:Cf):M.E->Expr->Bool
|.X i,e=>xq e (vB cf i)
|.con c,e=>b8 cf.p c e
|.int i,e=>Jy e λj=>u9 (j=.int i)
|.bl i,e=>Jy e λj=>u9 (j=.bool i)
|.aw,e=>Jy e λj=>u9 (j=.none)
|.str i,e=>Jy e λj=>u9 (j=.p (aK i))
|.tup es,e=>m2 e λxs=>u9 (xs.e<=1000)&&bC cf es xs
|.lst es,e=>Ax e λxs=>u9 (xs.e<=1000)&&bC cf es xs
|.bin o a b,e=>sV e λx p y=>u9 (p=oy o)&&nT o&&Zc cf a x&&Zc cf b y
|.cmp o a b,e=>mn e λx p y=>lC y λy r=>u9 (p=[gb o]/\r=[])&&WM o&&Zh y&&Zc cf a x&&Zc cf b y
|.a2 o q a b c,e=>mn e λx p y=>lC y λy r=>lC r λz r=>u9 (p=[gb o,gb q]/\r=[])&&WM o&&WM q&&Zh z&&Zc cf a x&&Zc cf b y&&Zc cf c z
|.fR neg a,e=>mn e λx p y=>lC y λy r=>Jy y λj=>u9 (p=[if neg then .IsNot else .Is]/\r=[])&&u9 (j=.none)&&Zc cf a x
|.neg a,e=>nO e λo x=>u9 (o=.USub)&&Zc cf a x
|.inv a,e=>nO e λo x=>u9 (o=.Invert)&&Zc cf a x
|.not a,e=>nO e λo x=>u9 (o=.Not)&&Zc cf a x
|.and a b,e=>rS e λo x p=>lC x λx r=>lC r λy r=>u9 (o=.And)&&Zc cf a x&&bif r.y then Zc cf b y else Zc cf b (.y .And (y::r) p)
|.or a b,e=>rS e λo x p=>lC x λx r=>lC r λy r=>u9 (o=.Or)&&Zc cf a x&&bif r.y then Zc cf b y else Zc cf b (.y .Or (y::r) p)
|.j f es,e=>qm e λg xs l _=>kZ l (b8 cf.p f g&&cf.u.w f&&bC cf es xs)
|.bi b es,e=>qm e λg xs l _=>kZ l (lC xs λx r=>lZ cf (n6 b) g&&nZ b&&bC cf es (x::r))
|.cG a t,e=>qm e λg xs l _=>kZ l (lC xs λx r=>lC r λy r=>kZ r (b8 cf.p "isinstance" g&&b8 cf.p (du t) y&&decide (t≠.aw)&&Qb x&&Zc cf a x))
|.bQ a one ts,e=>qm e fun g xs l _=>kZ l (lC xs fun x r=>lC r fun y r=>kZ r (b8 cf.p "isinstance" g&&Qb x&&Zc cf a x&&bif one then(lC ts fun t r=>kZ r (b8 cf.p t y&&(decide (t="ValueError")||cf.j.w t)))else(m2 y fun zs=>decide (zs.e<=1000)&&JI cf ts zs)))
|.ix a b,e=>gi e λx y=>Wc y&&Zc cf a x&&Zc cf b y
|.sl a lo hi,e=>gi e λx y=>og y λl u z=>oS l λl=>oS u λu=>z.w&&Zc cf a x&&Zc cf lo l&&Zc cf hi u
|.fL a lo,e=>gi e λx y=>og y λl u z=>oS l λl=>u.w&&z.w&&Zc cf a x&&Zc cf lo l
|.fM a hi,e=>gi e λx y=>og y λl u z=>oS u λu=>l.w&&z.w&&Zc cf a x&&Zc cf hi u
|.N tg one k aD it y7 c elt,e=>tF e λy g scope=>lC g λg r=>
  u9 (g.is_async=0/\r=[])&&Z8 cf scope (Wy cf g.target aD) k aD&&tg.N (λi=>u9 (i<k))&&jg {cf with sc:=scope,N:=Wy cf g.target aD} tg one g.target&&eB cf it g.iter&&Zc {cf with sc:=scope,N:=Wy cf g.target aD} elt y&&
   bif y7 then(lC g.ifs λz r=>kZ r (fY c&&Zc {cf with sc:=scope,N:=Wy cf g.target aD} c z))else g.ifs.y
|.dC,e=>pj e λx y=>x.y&&y.y
|.fh i a,e=>gi e λg y=>xq g λx=>vB cf i x&&Wc y&&Zc cf a y
|.de neg a i,e=>mn e λx p y=>lC y λy r=>xq y λy=>u9 (p=[nB neg]/\r=[])&&vB cf i y&&Zc cf a x
|.gF k1 a k2 b k3 c i,e=>gi e λd y=>pj d λks vs=>xq y λx=>lC ks λq1 ks=>lC ks λq2 ks=>lC ks λq3 ks=>kZ ks (lC vs λv1 vs=>lC vs λv2 vs=>lC vs λv3 vs=>kZ vs ((vB cf i x&&kK k1 q1&&kK k2 q2&&kK k3 q3)&&(decide [k1,k2,k3].C&&Zc cf a v1&&Zc cf b v2&&Zc cf c v3)))
|.eO i,e=>qm e λg xs l _=>kZ l (lC xs λx r=>kZ r (b8 cf.p "dict" g&&xq x (vB cf i)))
|.a4 a,e=>Zc cf a e
|.cy a,e=>qm e λg xs l _=>kZ l (lC xs λx r=>kZ r (qm x λg2 xs l _=>kZ l (lC xs λx r=>kZ r (lZ cf "list" g&&b8 cf.p "range" g2&&Qb x&&Zc cf a x))))
|.eg s ts,e=>qm e λg xs l q=>kZ l (lC xs λx r=>kZ r (ZK g λo n p=>Jy o λc=>Jy x λc2=>decide (n=Jd "split")&&decide (c=.p (aK s))&&decide (c2=.p bW)&&(p.j==q.p)&&nC (aK s) (ts.j aK)))
|.dY m a es,e=>qm e λg xs l q=>kZ l (lC xs λx r=>kZ r (ZK g λo n p=>u9 (n=Jd (vC m))&&AA m&&(p.j==q.p)&&qU o&&Zc cf a o&&bC cf es [x]))
|.xf i f,e=>ZK e λx n _=>xq x λx=>vB cf i x&&u9 (n=Jd f)
|.make c q es,e=>qm e λg ys l _=>kZ l (lC ys λx r=>b8 cf.p c g&&cf.w.eW.w (c,q)&&bC cf es (x::r))
|.aI a c f,e=>ZK e λx n _=>u9 (n=Jd f)&&cf.w.fl.w (c,f)&&qU x&&Zc cf a x
|.bT a c m q es,e=>qm e λg ys l s=>kZ l (ZK g λx n p=>u9 (n=Jd m)&&cf.w.mt.w (c,m,q)&&(p.j==s.p)&&u9 (ys.e<=20)&&qU x&&Zc cf a x&&lC ys λy r=>bC cf es (y::r))
|.fB a,e=>qm e λg ys l s=>kZ l (kZ ys (ZK g λx n p=>u9 (n=Jd "bit_length")&&(p.j==s.p)&&qU x&&Zc cf a x))
|.fE f a,e=>qm e λg ys l _=>lC ys λx r=>kZ r (lC l λw r=>kZ r (u9 (w.arg=y0 (Jd "key"))&&b8 cf.p f w.value&&cf.u.w f&&lZ cf "min" g&&Qb x&&Zc cf a x))
noncomputable def bC(cf:Cf):M.Es->List Expr->Bool
|.p,xs=>xs.y
|.j e es,xs=>lC xs λx xs=>Qb x&&Zc cf e x&&bC cf es xs
noncomputable def eB(cf:Cf):M.It->Expr->Bool
|.seq a,e=>Zh e&&Zc cf a e
|.ao a,e=>qm e λg xs l _=>kZ l (lC xs λx r=>kZ r (b8 cf.p "range" g&&Qb x&&Zc cf a x))
|.enum _,_=>y9
|.cJ _,_=>y9
end
noncomputable def wC:Expr->Bool
|.A ..=>y9
|.SetComp ..=>y9
|.DictComp ..=>y9
|_=>k9
noncomputable def xk:Expr->Bool
|.C ..=>y9
|_=>k9
noncomputable def z0(cf:Cf)(i:Nat)(x:Str):Bool:=u9 (cf.N[i]?=y0 x)&&u9 (cf.p.j.p x=y0 .local)
def qG(cf:Cf)(i:Nat)(x:Str):Bool:=u9 (cf.N[i]?=y0 x)&&kB cf.p x
def WY(cf:Cf)(i:Nat)(m:Str)(e:Expr)(a:Pos):Bool:=ZK e λx n p=>xq x λx=>vB cf i x&&u9 (n=m)&&(p.j==a.p)
def rO(cf:Cf):M.It->Expr->Bool
|.seq a,e=>Zh e&&Zc cf a e
|.ao a,e=>eB cf (.ao a) e
|.cJ a,e=>qm e λg xs l _=>kZ l (lC xs λx r=>kZ r (b8 cf.p "enumerate" g&&Qb x&&Zc cf a x))
|.enum _,_=>y9
def o9:M.It->Expr->Bool
|.enum _,e=>!xk e
|.cJ _,e=>!xk e
|_,_=>k9
noncomputable def vk(cf:Cf)(f:String)(s:Stmt)(q:List Expr->Bool):Bool:=mz s λe=>qm e λg xs l _=>kZ l (lC xs λx r=>b8 cf.p f g&&cf.u.w f&&q (x::r))
noncomputable def Bd(cf:Cf)(i:Nat)(f:String)(b:List Stmt)(q:List Expr->Bool):Bool:=lC b λs r=>kZ r (fW s λc e=>lC c λt r=>kZ r (xq t λa=>qm e λg xs l _=>kZ l (lC xs λx r=>z0 cf i a&&b8 cf.p f g&&cf.u.w f&&q (x::r))))
def mH(cf:Cf):M.Tb->List Stmt->Bool
|.ex f es,ys=>lC ys λs r=>kZ r (vk cf f s (λxs=>bC cf es xs))
|.sv i f es,ys=>Bd cf i f ys (λxs=>bC cf es xs)
|.iff c a b,ys=>lC ys λs r=>kZ r (sg s λt y z=>fY c&&Zc cf c t&&mH cf a y&&mH cf b z)
def vG(cf:Cf)(c:String)(nm:Nat)(a:List ExceptHandler)(q:List Stmt->Bool):Bool:=lC a λx r=>kZ r (Aw x λw n b=>oS w λw=>oS n λn=>b8 cf.p c w&&cf.fT.w c&&z0 cf nm n&&!b.y&&q b)
mutual
noncomputable def ue(cf:Cf):M.S->Stmt->Bool
|.set i e,st=>fW st λts v=>lC ts λt r=>xq t λx=>kZ r (qG cf i x&&Zc cf e v)
|.af i e,st=>fW st λts v=>lC ts λt r=>xq t λx=>kZ r (qG cf i x&&Zc cf e v)
|.fv is e,st=>fW st λts v=>lC ts λt r=>m2 t λts=>kZ r (rB cf is ts&&xk v&&Zc cf e v)
|.gD o kx j e,st=>fW st λts v=>lC ts λt r=>kZ r (m2 t λts=>lC ts λt1 r=>lC r λt2 r=>kZ r (gi t1 λx y=>xq t2 λa=>Wc y&&xk v&&(cf.cb&&qG cf j a)&&Zc cf o x&&(Zc cf kx y&&Zc cf e v)))
|.b5 o kx e,st=>fW st λts v=>lC ts λt r=>gi t λx y=>kZ r (Wc y&&xk v&&wC v&&Zc cf o x&&Zc cf kx y&&Zc cf e v)
|.app i e,st=>mz st λc=>qm c λf xs l p=>kZ l (lC xs λv r=>kZ r (WY cf i "append" f p&&Qb v&&Zc cf e v))
|.ext i e,st=>mz st λc=>qm c λf xs l p=>kZ l (lC xs λv r=>kZ r (WY cf i "extend" f p&&Qb v&&Zc cf e v))
|.bY i c f e,st=>fW st λts v=>lC ts λt r=>ZK t λx n _=>xq x λx=>kZ r (vB cf i x&&(u9 (n=Jd f)&&cf.w.fl.w (c,f)&&Zc cf e v))
|.eu i kx e,st=>fW st λts v=>lC ts λt r=>gi t λx y=>xq x λx=>kZ r (vB cf i x&&Wc y&&Zc cf kx y&&Zc cf e v)
|.cI i kx e,st=>fW st λts v=>lC ts λt r=>gi t λx y=>xq x λx=>kZ r (vB cf i x&&Wc y&&Zc cf kx y&&Zc cf e v)
|.ex e,st=>mz st λv=>wC v&&Zc cf e v
|.ret e,st=>uj st λv=>oS v λv=>Zc cf e v
|.iff c a b,st=>sg st λx ys zs=>fY c&&Zc cf c x&&cV cf a ys&&cV cf b zs
|.kz _ c b,st=>AU st λx ys zs=>kZ zs (fY c&&Zc cf c x&&cV cf b ys)
|.for tg one it b,st=>uF st λt iter ys zs=>kZ zs ((cf.cb&&o9 it t)&&jg cf tg one t&&rO cf it iter&&cV cf b ys)
|.eA c f e,st=>tw st λa b=>oS a λa=>qm a λg xs l _=>kZ l (lC xs λx r=>kZ r (b.w&&b8 cf.p c g&&(cf.cb&&cf.w.er.w (c,f))&&bC cf (.j e .p) [x]))
|.gO b c nm hb,st=>yx st λy hs=>mH cf b y&&vG cf c nm hs (λz=>cV {cf with toCg:=cf.toCg.q} hb z)
|.bO i c f e,st=>fW st λts v=>lC ts λt r=>ZK t λx n _=>xq x λx=>kZ r (vB cf i x&&u9 (n=Jd f)&&cf.w.fl.w (c,f)&&Zc cf e v)
|.fb,_=>k9
noncomputable def cV(cf:Cf):M.Ss->List Stmt->Bool
|.nil,sts=>sts.y
|.cons s ss,sts=>lC sts λst sts=>ue cf s st&&cV cf ss sts
end
structure Bn(X:Cx)(k:Nat)(x:Str)(ps:List Str)(sp:Sp):Prop where
 ex:∃f fd,bx X.p X.w X.K X.mg X.base (dq X.p X.w) k f fd ps sp/\Binds X.K fd ps []/\Ah5 X.K (.j f)=k9/\X.mg x=y0 (.j f)
noncomputable def nq:M.W->Bool
|.j _=>y9
|_=>k9
def hJ(Y:Ge)(m:List M.W->M.AH->M.R M.W):Sp:=λb H Q E=>∃G h a,ah Y G h H/\br Y G H a b/\(∀w∈a,nq w=k9)/\aA Y E G H (m a h) Q
structure Go(Y:Ge)(F:M.Fx)(X:Cx)(E:XK)(k:Nat)(cf:Cf):Prop where
 N:X.N=cf.N
 K:X.K=Y.K
 cl:F.cl=Y.cl
 ow:cf.j=Y.own
 nd:cf.N.C
 gA:∀x,zT cf.p x=k9->kF X.j.j x
 kL:∀x,cf.p.j.p x=y0 .local->X.j.j.j.p x=y0 .local
 g6:∀x,kB cf.p x=k9->lN X.j.j x/\(X.fn x=k9\/X.j.j.j.p x=y0 .local)
 kq:∀x,(cf.p.j.p x=y0 .p\/cf.p.j.p x=y0 .w)->X.j.w x=y0 .p\/X.j.w x=y0 .w
 gl:∀x,lY cf.p x=k9->Gl X x
 calm:cf.cb=k9->X.calm=k9
 room:bc k X.A
 cv:bc (k+1) X.A
 pass:zF (dq X.p X.w) X E
 blt:∀x,x∈cn->X.mg (Jd x)=u0
 con:∀x d,F.con.p x=y0 d->∃u v,X.mg (Jd x)=y0 u/\RelV v u/\∀G H,aC Y G H d v
 fn:∀f,cf.u.w f=k9->∃ps,Bn X k (Jd f) ps (hJ Y (F.j f))
 lT:∀f,cf.qf.w f=k9->∃ps,Bn X 2 (Jd f) ps (hJ Y (F.j f))
 cls:∀c,cf.j.w c=k9->X.mg (Jd c)=y0 (.j (Y.j c))
 fld:∀c f,cf.w.fl.w (c,f)=k9->dG X.K (Y.j c)/\cx X.K (Y.j c) (Jd f)
 i6:∀c m q,cf.w.mt.w (c,m,q)=k9->dG X.K (Y.j c)/\∃fa fd ps,nS X.K (Y.j c) (Jd m) fa/\bx X.p X.w X.K X.mg X.base (dq X.p X.w) k fa fd ps (hJ Y (F.j q))/\Binds X.K fd ps []
 eW:∀c q,cf.w.eW.w (c,q)=k9->X.mg (Jd c)=y0 (.j (Y.j c))/\∃fa fd ps,Mk X.K (Y.j c) fa/\bx X.p X.w X.K X.mg X.base (dq X.p X.w) k fa fd ps (hJ Y (F.j q))/\Binds X.K fd ps []
open Lake renaming MS.Go.calm→Lake.MS.Go.x,MS.Go.room→Lake.MS.Go.p,MS.Go.gl→Lake.MS.Go.u
@[elab_as_elim]theorem kE{P:List α->Prop}(k:b=k9->P []):∀l,kZ l b=k9->P l:=by rintro(_|_)<;>first|exact bB|exact k
@[elab_as_elim]theorem Mr{P:Stmt->Prop}(k:∀a b p,f a b=k9->P (.Try a b [] [] p)):∀e,yx e f=k9->P e:=by
 rintro(_|_)<;>first|exact bB|exactλh=>kE (λh=>kE (λh=>k _ _ _ h) _ h) _ h
@[elab_as_elim]theorem Ee{P:ExceptHandler->Prop}(k:∀a b c p,f a b c=k9->P (.ExceptHandler a b c p)):∀e,Aw e f=k9->P e
|.ExceptHandler _ _ _ _,h=>k _ _ _ _ h
def a2(h:(a&&b)=k9):a=k9/\b=true:=Bool.and_eq_true_iff.p h
def a3(h:(a&&b&&c)=k9):a=k9/\b=k9/\c=true:=⟨(a2 (a2 h).1).1,(a2 (a2 h).1).2,(a2 h).2⟩
def a4(h:(a&&b&&c&&d)=k9):a=k9/\b=k9/\c=k9/\d=true:=⟨(a3 (a2 h).1).1,(a3 (a2 h).1).2.1,(a3 (a2 h).1).2.2,(a2 h).2⟩
def a5(h:(a&&b&&c&&d&&e)=k9):a=k9/\b=k9/\c=k9/\d=k9/\e=true:=⟨(a2 (a4 h).1).1,(a2 (a4 h).1).2,(a4 h).2⟩
def a6(h:(a&&b&&c&&d&&e&&f)=k9):a=k9/\b=k9/\c=k9/\d=k9/\e=k9/\f=true:=⟨(a2 (a5 h).1).1,(a2 (a5 h).1).2,(a5 h).2⟩
def a7(h:(a&&b&&c&&d&&e&&f&&g)=k9):a=k9/\b=k9/\c=k9/\d=k9/\e=k9/\f=k9/\g=true:=⟨(a2 (a6 h).1).1,(a2 (a6 h).1).2,(a6 h).2⟩
def nn(h:o.w=k9):o=none:=Ah7.p h
def fU(h:vB cf i x=k9):cf.N[i]?=y0 x/\zT cf.p x=k9/\bp x=true:=⟨of_decide_eq_true (a3 h).1,(a3 h).2⟩
def jc(h:b8 sc x e=true):∃p,e=.j (Jd x) p/\lY sc (Jd x)=true/\(Jd x==("__debug__":Str))=false:=by
 unfold b8 at h;rw[Aa0,Aa0]at h;obtain⟨⟨b,c⟩,a⟩:=h;unfold bp at a;rw[Aa0]at a;cases e with
|Name y p=>
  have:y=Jd x:=by simpa[pz]using b
  subst this;exact⟨p,rfl,c,by simpa using a.1⟩
|_=>simp[pz]at b
def Xm(h:x∈cn):Jd x≠("__name__":Str):=by
 have:(cn.N λx=>decide (Jd x≠"__name__"))=true:=by decide+kernel
 exact of_decide_eq_true (Ai8.p this x h)
section
variable{Y:Ge}{F:M.Fx}{X:Cx}{E:XK}{k:Nat}{cf:Cf}
section
variable{G:Gh}{H:Hp}{h:M.AH}{τ:M.Sl}{U:St}{Q:VK}
def av.val (p:av Y E G0 H0 (.j w h) λw _ G' H'=>∀v,ai Y G' H' w v->aL τ U H0 w v->Q v H')(e:Ext G0 H0 G H)(a:ah Y G h H)(z:ai Y G H w v)(f:aL τ U H0 w v):Q v H:=
 p G H e a v z f
end
def LW(c:Go Y F X E k cf)(l:cf.N[i]?=y0 x)(u:zT cf.p x=k9)(b:bp x=k9):PE X (.j x pos) (tD Y E (M.eval F (.X i))):=by
 unfold bp at b;rw[Aa0]at b;refine PE.imp (zy (by rw[c.N];exact l) (c.gA x u) (by simpa using b.1) (by simpa using b.2)) λU H Q t=>?_;obtain⟨G,o,h,s,p⟩:=t;rw[M.eval]at p;cases q:M.Gn o i with
|none=>simp[M.Gj,q]at p;exact p.j
|some w=>
  obtain⟨v,e,r⟩:=s.u i w q;refine⟨v,e,?_⟩;cases w with
|v d=>rw[M.Ku q]at p;exact av.val p Ext.refl s.j r trivial
|own n=>rw[M.Kj q]at p;obtain⟨a,y,g,z,m,f,j⟩:=r;exact av.val p Ext.refl s.j ⟨a,y,g,m,.p f,j⟩ ⟨i,_,q,rfl,e⟩
|bor n=>rw[M.Ka q]at p;exact av.val p Ext.refl s.j r ⟨i,_,q,rfl,e⟩
def MT(g:Go Y F X E k cf)(j:b8 cf.p c e=k9):PE X e (tD Y E (M.eval F (.con c))):=by
 obtain⟨p,rfl,m,l⟩:=jc j;cases q:F.con.p c with
|none=>rintro b s U H Q I ⟨G,n,h,f,a⟩;rw[M.eval,q]at a;exact a.j
|some d=>obtain⟨u,v,i,rv,rd⟩:=g.con c d q;refine PE.imp (QU (g.u _ m) i rv l) λU H Q o=>?_;obtain⟨G,n,h,f,a⟩:=o;rw[M.eval,q]at a;exact av.val a Ext.refl f.j (rd G H) trivial
def B2:PE X (.w (.int i) j pos) (tD Y E (M.eval F (.int i))):=PE.imp NG (by rintro U H Q⟨G,a,h,s,p⟩;exact av.val p Ext.refl s.j rfl trivial)
def Eg:PE X (.w (.bool i) j pos) (tD Y E (M.eval F (.bl i))):=PE.imp Fb (by rintro U H Q⟨G,a,h,s,p⟩;exact av.val p Ext.refl s.j rfl trivial)
def N9:PE X (.w .none j pos) (tD Y E (M.eval F .aw)):=PE.imp OE (by rintro U H Q⟨G,a,h,s,p⟩;exact av.val p Ext.refl s.j rfl trivial)
def Ln:PE X (.w (.p (aK i)) j pos) (tD Y E (M.eval F (.str i))):=PE.imp pZ (by rintro U H Q⟨G,a,h,s,p⟩;exact av.val p Ext.refl s.j rfl trivial)
section
variable{a b c:M.E}{x y z:Expr}{pos:Pos}
def HK(z:Go Y F X E k cf)(n:nT o=k9)(j:PE X x (tD Y E (M.eval F a)))(i:PE X y (tD Y E (M.eval F b))):PE X (.BinOp x (oy o) y pos) (tD Y E (M.eval F (.bin o a b))):=by refine PE.imp (FI (OX (E:=E) o n z.K) j i) λU H Q w=>?_;obtain⟨G,J,h,s,p⟩:=w;exact Xa s.j Ext.refl s p λu v1 B I A e1 t d v C q=>Xa s.j e1 d q λg v2 m e D e2 c r l K f=>⟨e,m,u,g,r.j,v.ext c d.j,l,aA.mk f e2 s.j⟩
theorem oT(b:∀c y,RV hp c y->ee y=M.cM c d):∀{ys}{i},cH hp ys i->i.A ee=M.inD d ys
|[],_,rfl=>rfl
|c::ys,_,z7=>by obtain⟨u,r,rfl,e,f⟩:=z7;have a:=oT b f;unfold M.inD at a⊢;rw[Ag4,Ag4,a,b c u e]
def rY(f:bc k X.A)(r:M.GI ys<140)(m:RV s.j d v)(o:cH s.j ys its):∃i:Value->Bool,(∀c y,RV s.j c y->i y=M.cM c d)/\∀y,y∈its.u->SeqAt.EqAt X.A.j s y v (i y):=by
 have e:∃i:Value->Bool,∀c y,RV s.j c y->i y=M.cM c d:=⟨λy=>@u9 (∃a,RV s.j a y/\M.cM a d=k9) (Am3 _),λc y z=>by
  cases q:M.cM c d with
|true=>exact@decide_eq_true _ (Am3 _) ⟨c,z,q⟩
|false=>exact@decide_eq_false _ (Am3 _) λ⟨d,l,g⟩=>by rw[RV.inj l z,q]at g;cases g⟩
 obtain⟨i,h⟩:=e;refine⟨i,h,λy n=>?_⟩;obtain⟨j,p⟩:=List.getElem?_of_mem (List.mem_toArray.p n);obtain⟨a,b,rd⟩:=o.get p;rw[h a y rd];exact(rC 140 a _ X.A.j y v (by have:=JG b;lia) (by have:=f.un;lia) rd m).eq
def BH(A:X.K=Y.K)(j:bc k X.A)(neg:Bool){x y:V}(I:Inv X pins U H s)(D:RelV x v)(B:RelV y u){b:Bool}(z:ah Y G h H)
 (E:ai Y G H w1 x)(C:ai Y G H w2 y)(e:M.Ki w1 w2 h=y0 b)(q:Q (.C (if neg then !b else b)) H):wpAny (model X.p X.w) X.A (compareOp (if neg then .NotIn else .In) v u) (EP X pins U Q) X.xe s:=by
 unfold M.Ki at e;split at e
 .rename_i t e2;split at e
  .rename_i c;cases e;have l:=by simpa using c
   have w:=E.rv I A z D l.1.1;have o:=C.rv I A z B;cases p:w2.dd h with
|lst F=>
    rw[p]at e2 o;cases e2;obtain⟨a,f,rfl,g,m⟩:=o l.1.2;obtain⟨d,r,n⟩:=rY j l.2 w m;have i:f.u.any d=M.inD (w1.dd h) t:=by rw[List.any_toArray];exact oT r m
    cases neg with
    |true=>exact SeqAt.notIn_listAt d g n ⟨.C _,H,I,rfl,by rw[i];exact q⟩
    |false=>exact SeqAt.in_listAt d g n ⟨.C _,H,I,rfl,by rw[i];exact q⟩
|tup F=>
    rw[p]at e2 o;cases e2;obtain⟨a,f,rfl,g,m⟩:=o l.1.2;obtain⟨d,r,n⟩:=rY j l.2 w m;have i:f.u.any d=M.inD (w1.dd h) t:=by rw[List.any_toArray];exact oT r m
    cases neg with
    |true=>exact SeqAt.notIn_tupleAt d g n ⟨.C _,H,I,rfl,by rw[i];exact q⟩
    |false=>exact SeqAt.in_tupleAt d g n ⟨.C _,H,I,rfl,by rw[i];exact q⟩
|_=>rw[p]at e2;cases e2
  .cases e
 .cases e
def xP(r:Go Y F X E k cf)(o)(C:WM o=k9):b9 X (compareOp (gb o)) (lh Y o):=by
 have g:∀{o},(∀d a h b,M.Gr o d a h=y0 b->∃i j,M.W.int? d=y0 i/\M.W.int? a=y0 j/\M.KA o i j=y0 b)->b9 X (compareOp (gb o)) (lh Y o):=by rintro o B f s U H x y v u Q I n l ⟨G,h,d,a,b,w,p,m,e,q⟩;obtain⟨i,j,e1,e2,A⟩:=B d a h b e;cases p.int e1;cases m.int e2;exact E9 A I n l q
 have mk:∀{o}{d a}{h:M.AH}{b},(match M.W.int? d,M.W.int? a with
|some i,y0 j=>M.KA o i j
|_,_=>u0)=y0 b->∃i j,M.W.int? d=y0 i/\M.W.int? a=y0 j/\M.KA o i j=y0 b:=by
  intro o d a h b e;split at e
  .rename_i i j e1 e2;exact⟨i,j,e1,e2,e⟩
  .cases e
 cases o with
|eq=>exact Eo r.K r.p
|ne=>exact Fo r.K r.p
|lt=>exact g λd a h b e=>mk (h:=h) e
|le=>exact g λd a h b e=>mk (h:=h) e
|gt=>exact g λd a h b e=>mk (h:=h) e
|ge=>exact g λd a h b e=>mk (h:=h) e
|mem=>rintro f s U H x y v u Q I n l ⟨G,h,d,a,b,w,p,m,e,q⟩;exact BH r.K r.p y9 I n l w p m e q
|fP=>
  rintro f s U H x y v u Q I n l ⟨G,h,d,a,b,w,p,m,e,q⟩;have e:(M.Ki d a h).j (!·)=y0 b:=e;cases e2:M.Ki d a h with
  |none=>rw[e2]at e;cases e
  |some c=>rw[e2]at e;cases e;exact BH r.K r.p k9 I n l w p m e2 q
|dE=>
  rintro f s U H x y v u Q I n l ⟨G,h,d,a,b,w,p,m,e,q⟩;have e:M.Kt d a=y0 b:=e;unfold M.Kt at e;split at e
  .cases e;cases p;cases m;cases n;obtain⟨t,rfl⟩:=l;exact wpAny_is_plain rfl (nc I q rfl)
  .cases e;cases p;cases m;obtain⟨t,rfl⟩:=n;obtain⟨z,rfl⟩:=l;exact PyProof.Rows.is_bool (nc I q rfl)
  .cases e
|i9=>
  rintro f s U H x y v u Q I n l ⟨G,h,d,a,b,w,p,m,e,q⟩;have e:(M.Kt d a).j (!·)=y0 b:=e;unfold M.Kt at e;split at e
  .cases e;cases p;cases m;cases n;obtain⟨t,rfl⟩:=l;exact wpAny_isNot_plain rfl (nc I q rfl)
  .cases e;cases p;cases m;obtain⟨t,rfl⟩:=n;obtain⟨z,rfl⟩:=l;exact PyProof.Rows.isnot_bool (nc I q rfl)
  .cases e
def Wr(h:Zh e=k9):behindInMarks o e=false:=by
 cases e<;>first|rfl|(simp[Zh]at h)
def vx(D:Go Y F X E k cf)(s:au Y G τ h U H)
 (p:av Y E G H ((M.eval F a τ h).p λx h=>(M.eval F b τ h).p λy h=>(M.R.of h (M.Gr o x y h)).p λc h=>.j c h) λc _ _ H'=>R (.C c) H'):
 ml (lh Y o) (tD Y E (M.eval F a)) (tD Y E (M.eval F b)) U H R:=by
 refine Xa s.j Ext.refl s p λt v1 w B v e1 r f u z q=>Xa s.j e1 f q λj v2 n i A e2 e g m C d=>?_;obtain⟨c,l,d⟩:=d.of;exact⟨i,n,t,j,c,g.j,u.ext e f.j,m,l,d.at e2 g.j⟩
def av.map {f:α->β}(p:av Y E G H (r.p λa h=>.j (f a) h) P):av Y E G H r λa h G' H'=>P (f a) h G' H':=by
 cases r with
|ok a h=>exact p
|exc d h=>exact p
|fail=>exact p
def Qh(r:M.R α)(f)(g:β->M.AH->M.R γ):(r.p f).p g=r.p λa h=>(f a h).p g:=by cases r<;>rfl
def E7(l:Go Y F X E k cf)(u:WM o=k9)(A:Zh y=k9)(t:PE X x (tD Y E (M.eval F a)))(r:PE X y (tD Y E (M.eval F b))):PE X (.B x [gb o] [y] pos) (tD Y E (M.eval F (.cmp o a b))):=by
 refine PE.imp (BE (xP l o u) t r (Wr A)) λU H Q B=>?_;obtain⟨G,g,h,s,p⟩:=B;rw[M.eval]at p;refine vx l s ?_;have m:av Y E G H (((M.eval F a g h).p λx h=>(M.eval F b g h).p λy h=>(M.R.of h (M.Gr o x y h)).p λc h=>.j c h).p λc h=>.j (M.W.v (.C c)) h) λw _ j i=>∀v,ai Y j i w v->aL g U H w v->Q v i:=by simpa only[Qh,M.R.ae]using p
 have f:=m.map;cases q:(M.eval F a g h).p λx h=>(M.eval F b g h).p λy h=>(M.R.of h _).p λc h=>.j c h with
|ok c n=>rw[q]at f;exactλj i e z=>f j i e z _ rfl trivial
|exc d n=>rw[q]at f;exact f
|fail=>rw[q]at f;exact f
def F8(i:Go Y F X E k cf)(t:WM o=k9)(v:Zh y=k9)(n:PE X x (tD Y E (M.eval F a)))(m:PE X y (tD Y E (M.eval F b))):PT X (.B x [gb o] [y] pos) (dr Y E (M.Gm F (.cmp o a b))):=by
 refine PT.imp (yk (xP i o t) n m (Wr v)) λU H Q w=>?_;obtain⟨G,g,h,s,p⟩:=w;unfold M.Gm at p;rw[M.eval]at p;refine vx i s ?_;have f:=by simpa only[Qh,M.R.ae,M.GS,M.R.ar]using p
 cases q:(M.eval F a g h).p λx h=>(M.eval F b g h).p λy h=>(M.R.of h _).p λc h=>.j c h with
|ok c j=>rw[q]at f;exactλr l e u=>⟨c,rfl,f r l e u⟩
|exc d j=>rw[q]at f;exact f
|fail=>rw[q]at f;exact f
end
end
section
variable{Y:Ge}{F:M.Fx}{X:Cx}{E:XK}{k:Nat}{cf:Cf}{a b c:M.E}{x y z:Expr}{pos:Pos}
def QG(r:M.R α):(r.p λw h=>.j w h)=r:=by cases r<;>rfl
def Ef(o:Go Y F X E k cf)(f:PE X x (tD Y E (M.eval F a)))(r:∀i,isTrue x X.j i=(do let v←i;standAt x.pos;holding [v] (truthy v))):PT X x (dr Y E (M.Gm F a)):=by
 refine PT.imp (OT f r) λU H Q n=>?_;obtain⟨G,w,h,s,p⟩:=n;refine Xa s.j Ext.refl s p λl v1 e g d e1 j c m u b=>?_;cases q:M.G9 e l with
|none=>rw[q]at b;exact b.j
|some t=>rw[q]at b;exact⟨t,nD o.K c.j m q,b g d e1 c.j⟩
def Lx(e:PE X x ta):PE X (.G .Not x pos) (λU H Q=>ta U H λv H1=>∃t,kg X.K v H1 t/\Q (.C (!t)) H1):=by intro a s U H Q I h;exact UnaryOp_ (aN (e a s U H _ I h) (by rintro v g⟨x,H1,j,k,t,f,b⟩;exact not_of (aN (nt a g U H1 x v (λc d=>Q (.C (!c)) d) j k ⟨t,f,b⟩) (by rintro c m⟨i,l,q⟩;exact⟨.C (!c),i,l,rfl,q⟩))))
def NO(i:Go Y F X E k cf)(d:PE X x (tD Y E (M.eval F a))):PE X (.G .Not x pos) (tD Y E (M.eval F (.not a))):=by refine PE.imp (Lx d) λU H Q g=>?_;obtain⟨G,o,h,s,p⟩:=g;refine Xa s.j Ext.refl s p λr v1 l n j e1 e c f m b=>?_;obtain⟨t,q,b⟩:=b.of;exact⟨t,nD i.K c.j f q,av.val b e1 c.j rfl trivial⟩
def Pd(e:PT X x (dr Y E (M.Gm F a))):PT X (.G .Not x pos) (dr Y E (M.Gm F (.not a))):=by
 refine PT.imp (Ol e) λU H Q f=>?_;obtain⟨G,c,h,s,p⟩:=f;unfold M.Gm at p;rw[M.eval]at p;have g:av Y E G H ((M.Gm F a c h).p λt h=>.j (!t) h) λb _ _ d=>Q b d:=by unfold M.Gm;simpa only[Qh,M.R.ae,M.GS,M.R.ar]using p
 exact⟨G,c,h,s,g.map⟩
def Mg{rest:List Expr}(j:PE X x ta)(i:PE X (.y .And (y::rest) pos) tb):PE X (.y .And (x::y::rest) pos) (λU H Q=>ta U H λv H1=>∃t,kg X.K v H1 t/\if t=k9 then tb U H1 Q else Q v H1):=by
 intro a s U H Q I h;refine BoolOp_and (aN (j a s U H _ I h) ?_);rintro v l⟨x,H1,n,e,t,k,g⟩;refine aN (nt a l U H1 x v (λc b=>if c=k9 then tb U b Q else Q x b) n e ⟨t,k,g⟩) λc m o=>?_;obtain⟨d,f,q⟩:=o;cases c with
|true=>exact i a m U d Q f q
|false=>exact⟨x,d,f,e,q⟩
def Cw{rest:List Expr}(j:PE X x ta)(i:PE X (.y .Or (y::rest) pos) tb):PE X (.y .Or (x::y::rest) pos) (λU H Q=>ta U H λv H1=>∃t,kg X.K v H1 t/\if t=k9 then Q v H1 else tb U H1 Q):=by
 intro a s U H Q I h;refine BoolOp_or (aN (j a s U H _ I h) ?_);rintro v l⟨x,H1,n,e,t,k,g⟩;refine aN (nt a l U H1 x v (λc b=>if c=k9 then Q x b else tb U b Q) n e ⟨t,k,g⟩) λc m o=>?_;obtain⟨d,f,q⟩:=o;cases c with
|false=>exact i a m U d Q f q
|true=>exact⟨x,d,f,e,q⟩
def vU(v:Go Y F X E k cf){rest:List Expr}(j:PE X x (tD Y E (M.eval F a)))(i:PE X (.y .And (y::rest) pos) (tD Y E (M.eval F b))):PE X (.y .And (x::y::rest) pos) (tD Y E (M.eval F (.and a b))):=by
 refine PE.imp (Mg j i) λU H Q r=>?_;obtain⟨G,J,h,s,p⟩:=r;refine Xa s.j Ext.refl s p λK v1 z I w e1 o d e g c=>?_;obtain⟨t,q,c⟩:=c.of;refine⟨t,nD v.K d.j e q,?_⟩;cases t with
|true=>exact Xa s.j e1 d (by rw[QG];exact c) λB v2 C A D e2 l n m u f=>av.val f e2 n.j m (u.back e1 s.j)
|false=>exact av.val c e1 d.j e g
def td(v:Go Y F X E k cf){rest:List Expr}(j:PE X x (tD Y E (M.eval F a)))(i:PE X (.y .Or (y::rest) pos) (tD Y E (M.eval F b))):PE X (.y .Or (x::y::rest) pos) (tD Y E (M.eval F (.or a b))):=by
 refine PE.imp (Cw j i) λU H Q r=>?_;obtain⟨G,J,h,s,p⟩:=r;refine Xa s.j Ext.refl s p λK v1 z I w e1 o d e g c=>?_;obtain⟨t,q,c⟩:=c.of;refine⟨t,nD v.K d.j e q,?_⟩;cases t with
|false=>exact Xa s.j e1 d (by rw[QG];exact c) λB v2 C A D e2 l n m u f=>av.val f e2 n.j m (u.back e1 s.j)
|true=>exact av.val c e1 d.j e g
def Fg:M.Gm F (.and a b) τ h=(M.Gm F a τ h).p λt h=>match t with
|true=>M.Gm F b τ h
|false=>.j y9 h:=by
 unfold M.Gm;rw[M.eval];simp only[Qh];congr 1;funext w h1;cases q:M.G9 h1 w with
|none=>rfl
|some t=>
  cases t with
|true=>rfl
|false=>simp[q]
def F2:M.Gm F (.or a b) τ h=(M.Gm F a τ h).p λt h=>match t with
|true=>.j k9 h
|false=>M.Gm F b τ h:=by
 unfold M.Gm;rw[M.eval];simp only[Qh];congr 1;funext w h1;cases q:M.G9 h1 w with
|none=>rfl
|some t=>
  cases t with
|false=>rfl
|true=>simp[q]
def Bw{rest:List Expr}(l:PT X x (dr Y E (M.Gm F a)))(k:PW X (.y .And (y::rest) pos) (dr Y E (M.Gm F b))):PW X (.y .And (x::y::rest) pos) (dr Y E (M.Gm F (.and a b))):=by
 rintro o c v U H Q I ⟨G,C,h,s,p⟩;refine Il l k o c v U H Q I ?_;rw[Fg]at p;refine zS s.j Ext.refl s p λt z q g e1 u d e=>?_;cases t with
|true=>exact zS s.j e1 d (f:=λw h=>.j w h) (by rw[QG];exact e) λA B i n e2 m r j=>j i n e2 r.j
|false=>exact e q g e1 d.j
def uD{rest:List Expr}(l:PT X x (dr Y E (M.Gm F a)))(k:PW X (.y .Or (y::rest) pos) (dr Y E (M.Gm F b))):PW X (.y .Or (x::y::rest) pos) (dr Y E (M.Gm F (.or a b))):=by
 rintro o c v U H Q I ⟨G,C,h,s,p⟩;refine Eu l k o c v U H Q I ?_;rw[F2]at p;refine zS s.j Ext.refl s p λt z q g e1 u d e=>?_;cases t with
|false=>exact zS s.j e1 d (f:=λw h=>.j w h) (by rw[QG];exact e) λA B i n e2 m r j=>j i n e2 r.j
|true=>exact e q g e1 d.j
def Fq(c:PE X x (tD Y E (M.eval F a))):PE X (.G .USub x pos) (tD Y E (M.eval F (.neg a))):=by refine PE.imp (uM Ma c) λU H Q g=>?_;obtain⟨G,m,h,s,p⟩:=g;refine Xa s.j Ext.refl s p λn v1 j l i e1 e d f k b=>?_;obtain⟨t,q,b⟩:=b.of;exact⟨t,f.int q,av.val b e1 d.j rfl trivial⟩
def FQ(c:PE X x (tD Y E (M.eval F a))):PE X (.G .Invert x pos) (tD Y E (M.eval F (.inv a))):=by
 refine PE.imp (uM MW c) λU H Q i=>?_;obtain⟨G,n,h,s,p⟩:=i;refine Xa s.j Ext.refl s p λo v1 k m j e1 f d g l b=>?_;obtain⟨t,q,b⟩:=b.of;refine⟨t,g.int q,?_⟩;have e:Builtin.bitNot t=-t-1:=by unfold Builtin.bitNot;exact by with_reducible rfl
 exact av.val b e1 d.j rfl trivial
def Ar(r:ai Y G H w v):(v=.aw)↔w=.v .T:=by
 constructor
 .intro e;subst e;cases w with
|v d=>
   cases d with
   |aw=>rfl
   |bl _=>cases(r)
   |int _=>cases(r)
   |str _=>cases(r)
   |tup _=>obtain⟨_,_,e,_⟩:=r;cases e
   |lst _=>obtain⟨_,_,e,_⟩:=r;cases e
   |ref _=>obtain⟨_,e⟩:=r;cases e
   |err _ _ _=>obtain⟨_,_,_,e,_⟩:=r;cases e
|own _=>obtain⟨_,_,e,_⟩:=r;cases e
|bor _=>obtain⟨_,_,e,_⟩:=r;cases e
 .intro e;subst e;exact r
noncomputable def rZ(neg:Bool):M.W->Bool
|.v .T=>!neg
|_=>neg
def yL:M.eval F (.fR neg a) τ h=(M.eval F a τ h).p λw h=>M.ak (.C (rZ neg w)) h:=by
 rw[M.eval];congr 1;funext w h1;cases w with
|v d=>cases d<;>rfl
|own _=>rfl
|bor _=>rfl
def BF(r:ai Y G H w v)(neg:Bool):(if neg then !u9 (v=.aw)else u9 (v=.aw))=rZ neg w:=by
 by_cases a:v=.aw
 .have b:=(Ar r).p a;subst b a;cases neg<;>rfl
 .have b:=λe=>a ((Ar r).u e);rw[(decide_eq_false a)];have e2:rZ neg w=neg:=by
   cases w with
|v d=>cases d<;>first|rfl|exact absurd rfl b
|own _=>rfl
|bor _=>rfl
  rw[e2];cases neg<;>rfl
def Pa(d:PE X x (tD Y E (M.eval F a))):PE X (.B x [if neg then .IsNot else .Is] [.w .none j pos'] pos) (tD Y E (M.eval F (.fR neg a))):=by
 have b:∀U H Q,tD Y E (M.eval F (.fR neg a)) U H Q->tD Y E _ U H λv c=>Q (.C (if neg then !u9 (v=.aw)else decide _)) c:=λU H Q k=>by obtain⟨G,o,h,s,p⟩:=k;rw[yL]at p;refine Xa s.j Ext.refl s p λq v1 l n c e1 g e i m f=>?_;rw[BF i neg];exact av.val f e1 e.j rfl trivial
 cases neg with
|true=>exact PE.imp (tV (AO d)) b
|false=>exact PE.imp (tV (uh d)) b
def Ek(k:PE X x (tD Y E (M.eval F a))):PT X (.B x [if neg then .IsNot else .Is] [.w .none j pos'] pos) (dr Y E (M.Gm F (.fR neg a))):=by
 have g:∀U H Q,dr Y E (M.Gm F (.fR neg a)) U H Q->tD Y E _ U H λv b=>Q (if neg then !u9 (v=.aw)else decide _) b:=λU H Q C=>by obtain⟨G,i,h,s,p⟩:=C;unfold M.Gm at p;rw[yL,Qh]at p;refine Xa s.j Ext.refl s p λJ v1 D z b e1 A o B I u=>?_;rw[BF B neg];exact u z b e1 o.j
 have fin:∀U H Q,dr Y E _ U H Q->tD Y E (M.eval F a) U H λv b=>∃c,V.bl _=.C c/\Q c b:=λU H Q t=>by
  obtain⟨G,i,h,s,p⟩:=g U H Q t;refine⟨G,i,h,s,?_⟩;cases q:M.eval F a i h with
|ok w l=>rw[q]at p;exactλn m e y v r f=>⟨_,rfl,p n m e y v r f⟩
|exc d l=>rw[q]at p;exact p
|fail=>rw[q]at p;exact p
 cases neg with
|true=>exact PT.imp (BB (AO k)) fin
|false=>exact PT.imp (BB (uh k)) fin
def yJ(h:Zh e'=k9):lastMarks [o,o'] [e,e']=false:=Wr h
def y6(V:Go Y F X E k cf)(s:au Y G τ h U H)
 (l:∀b h' G' H',P (.v (.C b)) h' G' H'->R (.C b) H')(p:av Y E G H (M.eval F (.a2 o o' a b c) τ h) P):
 sm (lh Y o) (lh Y o') (tD Y E (M.eval F a)) (tD Y E (M.eval F b)) (tD Y E (M.eval F c)) U H R:=by
 refine Xa s.j Ext.refl s p λC v1 K S J e1 A q D L z=>Xa s.j e1 q z λn v2 x u Q e2 i e r T d=>?_;obtain⟨t,f,d⟩:=d.of;refine⟨u,x,C,n,t,e.j,D.ext i q.j,r,f,t,rfl,?_⟩;cases t with
|true=>refine Xa s.j e2 e d λI v3 w v O B g m y N j=>?_;obtain⟨t,f,j⟩:=j.of;exact⟨v,w,n,I,t,m.j,r.ext g e.j,y,f,l _ _ _ _ (j.at B m.j)⟩
|false=>exact l _ _ _ _ (d.at e2 e.j)
def Fp(e:Go Y F X E k cf)(i:WM o=k9)(d:WM o'=k9)(j:Zh z=k9)(g:PE X x (tD Y E (M.eval F a)))(f:PE X y (tD Y E (M.eval F b)))(l:PE X z (tD Y E (M.eval F c))):
 PE X (.B x [gb o,gb o'] [y,z] pos) (tD Y E (M.eval F (.a2 o o' a b c))):=
 PE.imp (D8 (xP e o i) (xP e o' d) g f l (yJ j)) (by rintro U H Q⟨G,t,h,s,p⟩;exact y6 e s (λb m r n q=>q _ rfl trivial) p)
def BV(i:Go Y F X E k cf)(t:WM o=k9)(g:WM o'=k9)(u:Zh z=k9)(r:PE X x (tD Y E (M.eval F a)))(n:PE X y (tD Y E (M.eval F b)))(A:PE X z (tD Y E (M.eval F c))):
 PT X (.B x [gb o,gb o'] [y,z] pos) (dr Y E (M.Gm F (.a2 o o' a b c))):=by
 refine PT.imp (NY (xP i o t) (xP i o' g) r n A (yJ u)) λU H Q C=>?_;obtain⟨G,B,h,s,p⟩:=C;refine y6 i s (P:=λw _ _ f=>∀b,w=.v (.C b)->Q b f) (λb j l f q=>⟨b,rfl,q b rfl⟩) ?_;unfold M.Gm at p;cases q:M.eval F _ B h with
|ok w j=>rw[q]at p;exactλl f e v b m=>by subst m;exact p l f e v
|exc d j=>rw[q]at p;exact p
|fail=>rw[q]at p;exact p
end
def Zb(h:Qb e=k9):starEach (e::es) env=(y9,eval e env)::starEach es env:=by
 cases e<;>first|rfl|(simp[Qb]at h)
def Qo(h:∀e∈es,Qb e=k9):(backTo pos (starEach es env)).A (·.1)=false:=by
 induction es with
|nil=>rfl
|cons e r c=>rw[Zb (h e Aa3)];show(y9||(backTo pos _).A _)=y9;rw[c λb a=>h b (Aa2 _ a)];rfl
section
variable{Y:Ge}{F:M.Fx}{X:Cx}{E:XK}{k:Nat}{cf:Cf}{a b c:M.E}{x y z:Expr}{pos:Pos}{es:M.Es}{xs:List Expr}
def Iq:PA X [] (kH Y E (M.Gv F .p)):=PA.imp Qm (by rintro U H Q⟨G,a,h,s,p⟩;exact p G H Ext.refl s.j [] rfl)
def EK(k:Qb x=k9)(l:PE X x (tD Y E (M.eval F a)))(r:PA X xs (kH Y E (M.Gv F es))):PA X (x::xs) (kH Y E (M.Gv F (.j a es))):=by refine PA.imp (Xe l r (Zb k)) λU H Q y=>?_;obtain⟨G,J,h,s,p⟩:=y;refine Xa s.j Ext.refl s p λK v1 A D z e1 u m w j c=>?_;obtain⟨d,q,c⟩:=c.of;obtain⟨B,e2,e,rd,_⟩:=rq e1 m s w j q;exact Z7 s.j e2 e c λI f C i o v b g n t=>t i o v g.j (v1::f) ⟨v1,f,rfl,rd.ext b e.j,n⟩
def IJ:PA X [] (gr Y E (M.Gc F .p)):=PA.imp Qm (by rintro U H Q⟨G,a,h,s,p⟩;exact p G H Ext.refl s.j [] rfl)
def Cm(g:Qb x=k9)(i:PE X x (tD Y E (M.eval F a)))(m:PA X xs (gr Y E (M.Gc F es))):PA X (x::xs) (gr Y E (M.Gc F (.j a es))):=by refine PA.imp (Xe i m (Zb g)) λU H Q t=>?_;obtain⟨G,B,h,s,p⟩:=t;exact Xa s.j Ext.refl s p λC v1 v z u e1 o c r w l=>wt s.j e1 c l λA d y f k q b e j n=>n f k q e.j (v1::d) ⟨v1,d,rfl,r.ext b c.j,j⟩
def EJ(z:xs.e<=1000)(a:∀τ h ds h',M.Gv F es τ h=.j ds h'->ds.e=xs.e)(l:PA X xs (kH Y E (M.Gv F es))):PE X (.C xs n pos) (tD Y E (M.eval F (.tup es))):=by
 refine PE.imp (vj l) λU H Q x=>?_;obtain⟨G,τ,h,s,p⟩:=x;rw[M.eval]at p;cases q:M.Gv F es τ h with
|ok c i=>
  have r:=a _ _ _ _ q;refine Z7 s.j Ext.refl s (f:=λds h=>if ds.e=xs.e then M.ak (.u ds) h else .u) (P:=λw h' m g=>∀v,ai Y m g w v->aL τ U H w v->Q v g) ?_ λds D A C y e1 u o j b=>?_
  .rw[q]at p⊢;show av Y E G H (if c.e=xs.e then M.ak _ i else .u) _;rw[if_pos r];exact p
  .by_cases k:ds.e=xs.e
   .rw[if_pos k]at b;have B:=j.length;exact⟨Ag0 (Zo (by lia)),λt e=>aA.tup (aA.mk b e1 s.j) o.j j t e⟩
   .rw[if_neg k]at b;exact b.j
|exc d i=>rw[q]at p;exact⟨G,τ,h,s,by rw[q];exact p⟩
|fail=>rw[q]at p;exact p.j
def NZ(y:xs.e<=1000)(a:∀τ h ds h',M.Gv F es τ h=.j ds h'->ds.e=xs.e)(l:PA X xs (kH Y E (M.Gv F es))):PE X (.List xs pos) (tD Y E (M.eval F (.lst es))):=by
 refine PE.imp (CD l) λU H Q u=>?_;obtain⟨G,τ,h,s,p⟩:=u;rw[M.eval]at p;cases q:M.Gv F es τ h with
|ok c i=>
  have o:=a _ _ _ _ q;refine Z7 s.j Ext.refl s (f:=λds h=>if ds.e=xs.e then .j (.j ds) h else .u) (P:=λw h' m g=>∀v,ai Y m g w v->aL τ U H w v->Q v g) ?_ λds C z B x e1 t n j b=>?_
  .rw[q]at p⊢;show av Y E G H (if c.e=xs.e then .j _ i else .u) _;rw[if_pos o];exact p
  .by_cases k:ds.e=xs.e
   .rw[if_pos k]at b;have A:=j.length;exact⟨Ag0 (Zo (by lia)),λr e=>aA.own (aA.mk b e1 s.j) n.j j r e⟩
   .rw[if_neg k]at b;exact b.j
|exc d i=>rw[q]at p;exact⟨G,τ,h,s,by rw[q];exact p⟩
|fail=>rw[q]at p;exact p.j
def Nn(r:ai Y G H w v):ai Y G H w.arg v:=by
 cases w with
|v d=>exact r
|own b=>obtain⟨a,g,f,_,e,c,h⟩:=r;exact⟨a,g,f,e,.p c,h⟩
|bor b=>exact r
theorem Xt:∀{ws}{vs},br Y G H ws vs->br Y G H (ws.j M.W.arg) vs
|[],_,z=>z
|_::_,_,z7=>by obtain⟨v,r,b,c,a⟩:=z7;exact⟨v,r,b,Nn c,Xt a⟩
def Qt(ws:List M.W):∀w∈ws.j M.W.arg,nq w=true:=λw a=>by obtain⟨u,_,rfl⟩:=Ac1.p a;cases u<;>rfl
def B5(a:Go Y F X E k cf)(j:b8 cf.p f g=k9)(n:cf.u.w f=k9)(c:∀e∈x::xs,Qb e=k9)(l:PA X (x::xs) (gr Y E (M.Gc F es))):PE X (.x g (x::xs) [] pos) (tD Y E (M.eval F (.j f es))):=by obtain⟨p,rfl,r,q⟩:=jc j;obtain⟨y,J,I,b,u,B,i⟩:=(a.fn f n).imp λy h=>h.ex;refine PE.imp (BR b a.p (a.u _ r) i B u .p a.pass l q (Zb (c _ Aa3)) (Qo λe C=>c e (Aa2 _ C))) λU H Q A=>?_;obtain⟨G,K,h,s,p⟩:=A;refine wt s.j Ext.refl s p λm L d v D e1 w o z t=>?_;rw[Ae];exact⟨v,d,_,o.j,Xt z,Qt m,aA.mk t e1 s.j⟩
def C1(a:Go Y F X E k cf)(d:b8 cf.p f g=k9)(i:cf.u.w f=k9):PE X (.x g [] [] pos) (tD Y E (M.eval F (.j f .p))):=by obtain⟨p,rfl,j,e⟩:=jc d;obtain⟨m,r,q,b,l,o,c⟩:=(a.fn f i).imp λm h=>h.ex;refine PE.imp (KZ b a.p (a.u _ j) c o l .p a.pass e) λU H Q n=>?_;obtain⟨G,t,h,s,p⟩:=n;exact⟨G,h,_,s.j,Xt (ws:=[]) rfl,Qt [],aA.mk p Ext.refl s.j⟩
def IU(b:M.Bi)(a:nZ b=k9):bootBuiltins (Jd (n6 b))=y0 (zev b):=by
 cases b<;>first|(exact absurd (show y9=k9 from a) Ab9)|decide+kernel
def yo(b):n6 b∈cn:=by cases b<;>decide
def CJ(c:Go Y F X E k cf){b:M.Bi}(q:nZ b=k9)(r:lZ cf (n6 b) g=k9)(t:∀e∈x::xs,Qb e=k9)(i:PA X (x::xs) (gr Y E (M.Gc F es))):PE X (.x g (x::xs) [] pos) (tD Y E (M.eval F (.bi b es))):=by
 obtain⟨p,rfl,m,j⟩:=jc (a2 r).2;have f:=c.blt _ (yo b);have l:=Xm (yo b);have bt:=IU b q;have n:Zs X (zev b) (rD Y E b):=Mz b q c.K (c.x (a2 r).1);have a:∀U H Q,tD Y E (M.eval F (.bi b es)) U H Q->pI (rD Y E b) (gr Y E (M.Gc F es)) U H Q:=λU H Q B=>by obtain⟨G,I,h,s,p⟩:=B;refine wt s.j Ext.refl s p λv J u y D e1 z d A w=>?_;exact⟨y,u,v,d.j,A,aA.mk w e1 s.j⟩
 have d:=Zb (env:=X.j) (es:=xs) (t _ Aa3);have o:=Qo (env:=X.j) (pos:=pos) λe C=>t e (Aa2 _ C);cases b with
|len=>exact PE.imp (Zk n (c.u _ m) f bt i l j d o) a
|divmod=>exact PE.imp (Zk n (c.u _ m) f bt i l j d o) a
|min=>cases q
|max=>cases q
|int=>exact PE.imp (wz n (c.u _ m) f bt i l j d o) a
|list=>exact PE.imp (wz n (c.u _ m) f bt i l j d o) a
|tuple=>exact PE.imp (wz n (c.u _ m) f bt i l j d o) a
|sum=>exact PE.imp (Zk n (c.u _ m) f bt i l j d o) a
|all=>exact PE.imp (Zk n (c.u _ m) f bt i l j d o) a
|any=>exact PE.imp (Zk n (c.u _ m) f bt i l j d o) a
|sorted=>exact PE.imp (Zk n (c.u _ m) f bt i l j d o) a
|str=>cases q
|abs=>cases q
def bF(h:qU o=k9)(w):attributeBase o n env w=w:=by
 cases o with
|Call f a b p=>
  cases a with
  |nil=>exact absurd (h) Ab9
  |cons x a=>cases f<;>rfl
|_=>rfl
theorem vc(t):∀{ts}{n},M.Kl t ts=y0 n->lD (aK t) (ts.j aK)=y0 n
|[],_,e=>by cases e
|y::ys,n,e=>by
  unfold M.Kl at e;rw[Ab2,lD];split at e
  .rename_i q;cases e;rw[if_pos (by rw[q])]
  .rename_i q;obtain⟨k,e1,rfl⟩:=Ag2.p e;rw[if_neg (λc=>q (by have:=congrArg (λs:Str=>s.j.p) c;simpa[aK]using this)),vc t e1];rfl
theorem As{a:Value->Bool}(b:∀c y,RV hp c y->a y=M.cM c d):∀{ys}{L}{j},cH hp ys L->M.Kr d ys=y0 j->∃y,L[j]?=y0 y/\a y=k9/\∀m z,m<j->L[m]?=y0 z->a z=y9
|[],_,_,rfl,h=>by cases h
|c::ys,_,j,z7,h=>by
  obtain⟨u,r,rfl,g,p⟩:=z7;rw[M.Kr]at h;by_cases q:M.cM c d=k9
  .rw[if_pos q]at h;cases h;exact⟨u,rfl,by rw[b c u g];exact q,λm z f=>absurd f (Ag6 m)⟩
  .rw[if_neg q]at h;obtain⟨i,e,rfl⟩:=Ag2.p h;obtain⟨y,l,o,n⟩:=As b p e;refine⟨y,l,o,λm z f k=>?_⟩;cases m with
|zero=>cases k;rw[b c u g];simpa using q
|succ m=>exact n m z (Nat.le_of_lt_succ ‹_›) k
def Lp(Y:Ge):V->List V->Hp->VK->Prop:=λx c H Q=>∃G h a b y j,c=[y]/\ah Y G h H/\ai Y G H a x/\ai Y G H b y/\M.KB b a h=y0 j/\Q (.o (j:Nat)) H
def KW(A:X.K=Y.K)(d:bc k X.A):kD X "list.index" (Lp Y):=by
 rintro B s U H x vs v us Q I O rv ⟨G,h,w1,w2,y,j,E,r,R,L,e,q⟩;subst E;obtain⟨u,rfl,P⟩:=rv.one;unfold M.KB at e;split at e
 .rename_i Z e2;split at e
  .rename_i c;have w:=by simpa using c
   have l:=R.rv I A r O (by simp_all);rw[e2]at l;obtain⟨a,f,rfl,C,i⟩:=l;obtain⟨F,V,T⟩:=rY d w.1.2 (L.rv I A r P w.1.1.1) i;obtain⟨z,D,h2,J⟩:=As V i e;obtain⟨⟨K,dd,t,sl⟩,p,N,k,S⟩:=id C;subst N S;have n:=i.e;obtain⟨hj,h4⟩:=Aa1.p D;have W:=M.Gg;refine call_meets PySem.F.slot_list_index ⟨_,p,rfl⟩ PySem.F.entry_list_index (PySem.F.args_list_index_2 _ _) (PySem.SeqAt.list_indexAt a f.u k dd sl u F j (by simp_all) (by lia) (by simp_all) (λm hm g=>?_)) ⟨p,T,?_⟩
   .exact J m _ g (by simp)
   .exact⟨.o j,H,I.kept λb o e=>e,⟨_,rfl⟩,q⟩
  .cases e
 .cases e
def K5(l:Go Y F X E k cf)(hm:AA m=k9)(J:(apos.j==k7.p)=k9)(W:qU o=k9)(q:Qb x=k9)(P:PE X o (tD Y E (M.eval F a)))(S:PA X [x] (gr Y E (M.Gc F es))):
 PE X (.x (.p o (Jd (vC m)) apos) [x] [] k7) (tD Y E (M.eval F (.dY m a es))):=by
 cases m with
|index=>
  refine PE.imp (nK PySem.F.plainAttrs_tuple PySem.F.slot_tuple_index PySem.F.type_tuple_index DB D4 P S (bF W _) (by rw[Zb q];rfl) J (Zb q) rfl) λU H Q C=>?_;obtain⟨G,τ,h,s,p⟩:=C;refine Xa s.j Ext.refl s p λw1 v1 h1 G1 H1 e1 B f j f1 e=>?_;split at e
  .rename_i D;obtain⟨xs,ex⟩:=Ai0.p (D);obtain⟨b,I,rfl,v,T⟩:=j.tup ex;refine⟨⟨b,rfl,l.K▸v.pl⟩,wt s.j e1 f e λy us R N H2 e2 d g z c=>?_⟩;obtain⟨b',vs',L,O,z3'⟩:=ai.ext (w:=.v (.u xs)) d f.j ⟨b,I,rfl,v,T⟩;cases L;cases y with
|nil=>exact c.j
|cons w wr=>
    cases wr with
|cons _ _=>exact c.j
|nil=>
     obtain⟨u,rfl,A⟩:=z.one;have c:=c;obtain⟨ts,r,c⟩:=c.of;obtain⟨t,K,c⟩:=c.of;obtain⟨n,Z,c⟩:=c.of;cases A.str K;rw[ex,Af6]at r;cases qR r z3';split at c
     .exact⟨b,aK t,n,ts.j aK,rfl,rfl,l.K▸fN.sq O,vc t Z,(aA.mk c e2 s.j).v g.j rfl⟩
     .exact c.j
  .exact e.j
|cu=>
  refine PE.imp (nK PySem.F.plainAttrs_list PySem.F.slot_list_index PySem.F.type_list_index AR (KW l.K l.p) P S (bF W _) (by rw[Zb q];rfl) J (Zb q) rfl) λU H Q C=>?_;obtain⟨G,τ,h,s,p⟩:=C;refine Xa s.j Ext.refl s p λw1 v1 h1 G1 H1 e1 B f j f1 e=>?_;split at e
  .rename_i D;obtain⟨ys,V⟩:=Ai0.p (D);obtain⟨b,I,rfl,v,T⟩:=ai.lst f.j j V;refine⟨⟨b,I,rfl,l.K▸v⟩,wt s.j e1 f e λy us R N H2 e2 d g z c=>?_⟩;cases y with
|nil=>exact c.j
|cons w wr=>
    cases wr with
|cons _ _=>exact c.j
|nil=>obtain⟨u,rfl,A⟩:=z.one;have c:=c;obtain⟨n,r,c⟩:=c.of;exact⟨N,R,w1,w,u,n,rfl,g.j,j.ext d f.j,A,r,(aA.mk c e2 s.j).v g.j rfl⟩
  .exact e.j
|count=>
  refine PE.imp (nK PySem.F.plainAttrs_list PySem.F.slot_list_count PySem.F.type_list_count AR Fi P S (bF W _) (by rw[Zb q];rfl) J (Zb q) rfl) λU H Q C=>?_;obtain⟨G,τ,h,s,p⟩:=C;refine Xa s.j Ext.refl s p λw1 v1 h1 G1 H1 e1 B f j f1 e=>?_;split at e
  .rename_i D;obtain⟨ys,V⟩:=Ai0.p (D);obtain⟨b,I,rfl,v,T⟩:=ai.lst f.j j V;refine⟨⟨b,I,rfl,l.K▸v⟩,wt s.j e1 f e λy us R N H2 e2 d g z c=>?_⟩;cases y with
|nil=>exact c.j
|cons w wr=>
    cases wr with
|cons _ _=>exact c.j
|nil=>
     obtain⟨u,rfl,A⟩:=z.one;have c:=c;obtain⟨is,r,c⟩:=c.of;obtain⟨i,K,c⟩:=c.of;obtain⟨ys2,Z,q4⟩:=Ag8.p r;obtain⟨b',vs',L,y2,y3⟩:=ai.lst g.j (j.ext d f.j) Z;cases L;cases qK q4 y3;cases A.int K;split at c
     .exact⟨b,i,is,rfl,rfl,l.K▸y2,(aA.mk c e2 s.j).v g.j rfl⟩
     .exact c.j
  .exact e.j
def Hl:"range"∈cn:=by decide
def Oc:"list"∈cn:=by decide
def Ep(d:Go Y F X E k cf)(j:lZ cf "list" g=true)(e:b8 cf.p "range" g2=true)(m:Qb x=true)(r:PE X x (tD Y E (M.eval F a))):PE X (.x g [.x g2 [x] [] pos2] [] pos) (tD Y E (M.eval F (.cy a))):=by
 obtain⟨p,rfl,w,K⟩:=jc (a2 j).2;obtain⟨L,rfl,f,u⟩:=jc e;refine PE.imp (CQ (d.x (a2 j).1) (d.u _ w) (d.blt _ Oc) (d.u _ f) (d.blt _ Hl) (Xe r Qm (Zb m)) (Zb m)) λU H Q C=>?_;obtain⟨G,N,h,s,p⟩:=C;refine Xa s.j Ext.refl s p λO v1 I y o e1 A v B J b=>?_;obtain⟨n,t,b⟩:=b.of;cases B.int t;split at b
 .rename_i c;refine⟨n.j,by rw[Am c.1],by lia,λl q=>?_⟩;have D:aa Y y o ((Aa7 n.j).j λ(i:Nat)=>M.D.int i) ((Aa7 n.j).j λ(i:Nat)=>V.int i):=by
   induction Aa7 n.j with
|nil=>rfl
|cons i is z=>exact⟨_,_,rfl,rfl,z⟩
  exact aA.own (aA.mk b e1 s.j) v.j D l q
 .exact b.j
def Dm(r:Go Y F X E k cf){s:M.Tx}{d:List M.Tx}{m n:Nat}{l g b c:Pos}(f:(b.j==c.p)=k9)(i:nC (aK s) (d.j aK)=k9):
 PE X (.x (.p (.w (.p (aK s)) m l) (Jd "split") b) [.w (.p bW) n g] [] c) (tD Y E (M.eval F (.eg s d))):=by
 refine PE.imp (nK PySem.F.plainAttrs_str PySem.F.slot_str_split PySem.F.type_str_split KL NI pZ (Xe pZ Qm rfl) rfl rfl f rfl rfl) λU H Q o=>?_;obtain⟨G,q,h,e,p⟩:=o;rw[M.eval]at p;exact⟨⟨_,rfl⟩,aK s,d.j aK,rfl,rfl,i,λa j=>aA.own (aA.mk p Ext.refl e.j) e.j (JU _) a j⟩
def Pb(d:Go Y F X E k cf)(f:t≠.aw)(o:b8 cf.p "isinstance" g=true)(B:b8 cf.p (du t) y=true)(j:Qb x=true)(r:PE X x (tD Y E (M.eval F a))):PE X (.x g [x,y] [] pos) (tD Y E (M.eval F (.cG a t))):=by
 obtain⟨p,rfl,w,u⟩:=jc o;obtain⟨q,rfl,z,C⟩:=jc B;have ej:du t∈cn:=by cases t<;>first|exact absurd rfl f|decide
 have bt:bootBuiltins (Jd (du t))=y0 (.p (du t)):=by cases t<;>first|exact absurd rfl f|decide+kernel
 have bi:bootBuiltins _=y0 _:=boot_isinstance;have b:"isinstance"∈cn:=by decide
 have i:PE X (.j (Jd (du t)) q) (tC (.ty (du t))):=yV (d.u _ z) (d.blt _ ej) bt rfl (Xm ej) C;refine PE.imp (Zk (LQ d.K) (d.u _ w) (d.blt _ b) bi (Xe r (Xe i Qm) (Zb j)) (Xm b) u (Zb j) rfl) λU H Q K=>?_;obtain⟨G,O,h,s,p⟩:=K;rw[M.eval]at p;refine Xa s.j Ext.refl s p λI v1 n A L e1 D l J N e=>?_;obtain⟨c,m,e⟩:=e.of;exact⟨A,n,I,v1,t,c,rfl,f,l.j,J,m,av.val e e1 l.j (v:=.C c) rfl trivial⟩
theorem vy(a:Go Y F X E k cf):∀{i}{zs},JI cf i zs=k9->PA X zs (λ_ H Q=>Q (i.j λt=>.j (Y.j t)) H)/\(∀t∈i,t∈Y.own)/\i.e=zs.e
|[],[],_=>⟨Qm,λ_ h=>absurd h (by simp),rfl⟩
|[],_::_,h=>by simp[JI]at h
|_::_,[],h=>by simp[JI]at h
|t::i,z::zs,h=>by
  unfold JI at h;rw[Aa0,Aa0]at h;obtain⟨⟨d,c⟩,e⟩:=h;obtain⟨p,rfl,f,g⟩:=jc d;obtain⟨i1,i2,i3⟩:=vy a e;refine⟨?_,λu b=>?_,congrArg (·+1) i3⟩
  .exact Xe (QU (v:=.j (Y.j t)) (a.u _ f) (a.cls t c) rfl g) i1
  .rcases Ab8.p b with rfl|b
   .rw[←a.ow];exact Al1.p c
   .exact i2 u b
theorem J2{c:String}(b:gZ Y c):∀{a:List String},(∀t∈a,t∈Y.own)->PySem.W.kitAny Y.K (.j (Y.j c)) ((a.j Y.j).j Value.ref)=y0 (a.A (M.GW Y.cl 8 c).w)
|[],_=>rfl
|t::a,h=>by
  rw[Ab2,Ab2,PySem.W.kitAny,b.own t (h t Aa3),Ag4];cases e:(M.GW Y.cl 8 c).w t with
|true=>rfl
|false=>exact J2 b λu d=>h u (Aa2 _ d)
def uX{b:Bool}(r:ai Y G H w v)(e:M.bQ cl w ts=y0 b):∃c x i,v=.j x/\H x=y0 (g7 x (Y.j c) i)/\gZ Y c/\b=ts.A (M.GW cl 8 c).w:=by
 unfold M.bQ at e;split at e
 .rename_i c f d;obtain⟨x,a,u,j,o,m,h,n,g,l,k⟩:=r;exact⟨c,x,y0 a,j,h,g,(Ad6.inj e).p⟩
 .cases e
def K6(d:Go Y F X E k cf)(r:t="ValueError"\/cf.j.w t=true)(I:b8 cf.p "isinstance" g=true)(R:b8 cf.p t y=true)(e:Qb x=true)(J:PE X x (tD Y E (M.eval F a))):
 PE X (.x g [x,y] [] pos) (tD Y E (M.eval F (.bQ a k9 [t]))):=by
 obtain⟨p,rfl,O,K⟩:=jc I;obtain⟨q,rfl,w,A⟩:=jc R;have bi:=boot_isinstance;have j:"isinstance"∈cn:=by decide
 have fin:∀v,PE X _ (tC v)->(∀c,gZ Y c->∀x b,b=[t].A (M.GW Y.cl 8 c).w->∀f H Q,H x=y0 _->Q (.C b) H->yb X.K [.j x,v] H Q)→
  PE X (.x (.j _ p) [x,.j (Jd t) q] [] pos) (tD Y E (M.eval F (.bQ a k9 [t]))):=λv W m=>by
  refine PE.imp (Zk vJ (d.u _ O) (d.blt _ j) bi (Xe J (Xe W Qm) (Zb e)) (Xm j) K (Zb e) rfl) λU H Q V=>?_;obtain⟨G,τ,h,s,p⟩:=V;refine Xa s.j Ext.refl s p λw1 v1 Z G1 B e1 S L T f1 o=>?_;obtain⟨b,C,o⟩:=o.of;obtain⟨c,N,f,rfl,P,D,u⟩:=uX T C;rw[d.cl]at u;exact m c D N b u f B Q P (av.val o e1 L.j rfl trivial)
 by_cases n:cf.j.w t=k9
 .refine fin (.j _) (QU (d.u _ w) (d.cls t n) rfl A) λc i x b l f H Q e q=>?_;have m:=i.own t (by rw[←d.ow];exact Al1.p n);refine⟨x,Y.j c,f,b,d.K▸i.k,e,.p ⟨Y.j t,rfl,?_⟩,q⟩;rw[d.K,m,l];simp
 .have r:=r.j id λz=>absurd z n;subst r;have rJ:"ValueError"∈cn:=by decide
  refine fin (.ty "ValueError") (yV (d.u _ w) (d.blt _ rJ) FN rfl (Xm rJ) A) fun c i x b l f H Q e q=>?_;refine⟨x,Y.j c,f,b,d.K▸i.k,e,.u (.p ⟨"ValueError",rfl,?_⟩),q⟩;rw[d.K,i.ve,l];simp
def NS(d:Go Y F X E k cf)(q:zs.e<=1000)(u:b8 cf.p "isinstance" g=true)(C:JI cf ts zs=true)(l:Qb x=true)(v:PE X x (tD Y E (M.eval F a))):
 PE X (.x g [x,.C zs n p2] [] pos) (tD Y E (M.eval F (.bQ a y9 ts))):=by
 obtain⟨p,rfl,A,w⟩:=jc u;have bi:=boot_isinstance;have e:"isinstance"∈cn:=by decide
 obtain⟨i1,i2,i3⟩:=vy d C;refine PE.imp (Zk vJ (d.u _ A) (d.blt _ e) bi (Xe v (Xe (vj i1) Qm) (Zb l)) (Xm e) w (Zb l) rfl) λU H Q J=>?_;obtain⟨G,R,h,s,p⟩:=J;refine Xa s.j Ext.refl s p λS v1 N P L e1 D y I O f=>?_;obtain⟨b,r,f⟩:=f.of;obtain⟨c,z,K,rfl,o,j,m⟩:=uX I r;rw[d.cl]at m;refine⟨?_,λt i=>?_⟩
 .rw[Aa,i3];exact Ag0 (Zo q)
 have B:=y.j.gP (.tup (ts.j λt=>.j (Y.j t))) i;have e2:=e1.trans s.j (Qi (.tup (ts.j λt=>.j (Y.j t))) i);refine⟨z,Y.j c,K,b,d.K▸j.k,?_,.u (.u ⟨t,ts.j Y.j,rfl,?_,?_⟩),av.val f e2 B rfl trivial⟩
 .rw[Za (jb o i)];exact o
 .rw[zb,Ad7];rfl
 .rw[d.K,J2 j i2,m]
def Pn(xs:List α)(i):M.aW xs i=Lake.aW xs i:=rfl
theorem aa.aW (z:aa Y G H ds vs)(e:M.aW ds i=y0 d):∃v,Lake.aW vs i=y0 v/\aC Y G H d v:=by
 unfold M.aW at e;unfold Lake.aW;rw[z.length]at e;cases q:M.ea vs.e i with
|none=>rw[q]at e;cases e
|some j=>rw[q]at e;obtain⟨v,b,c⟩:=z.get (e);refine⟨v,?_,c⟩;have a:Lake.ea vs.e i=y0 j:=q;rw[a];exact b
def zU(a:Wc y=k9):Az y:=by
 intro o i;cases y<;>first|rfl|(simp[Wc]at a)
def D1(u:Go Y F X E k cf)(L:Wc y=k9)(B:PE X x (tD Y E (M.eval F a)))(A:PE X y (tD Y E (M.eval F b))):PE X (.u x y pos) (tD Y E (M.eval F (.ix a b))):=by
 refine PE.imp (rl Ci B A (zU L)) λU H Q P=>?_;obtain⟨G,τ,h,s,p⟩:=P;refine Xa s.j Ext.refl s p λO v1 V G1 S e1 N r j Z K=>Xa s.j e1 r K λw2 v2 D W H2 e2 n o C f2 g=>?_;obtain⟨d,q,g⟩:=g.of;have j:=j.ext n r.j;unfold M.d4 at q;split at q
 .rename_i i z;cases C.int z;split at q
  .rename_i m R;cases j.str R;split at q
   .rename_i T;cases c:M.aW m i with
|none=>rw[c]at q;cases q
|some J=>
     rw[c]at q;cases q;refine .u (.u ⟨aK m,i,J,rfl,rfl,by rw[ze];have:=qk;exact Nat.le_trans ‹_› ‹_›,?_,av.val g e2 o.j rfl trivial⟩);have:(aK m).j.p=m:=by simp[aK]
     exact c
   .cases q
  .cases c:O.seq? D with
|none=>rw[c]at q;cases q
|some ds=>
    rw[c]at q;obtain⟨l,w,rfl,f,I⟩:=j.seq o.j c;obtain⟨v,e,rd⟩:=I.aW (q);have t:=av.val g e2 o.j rd trivial;obtain f|f:=f
    .exact .p ⟨l,w,i,v,rfl,rfl,u.K▸f,e,t⟩
    .exact .u (.p ⟨l,w,i,v,rfl,rfl,u.K▸f,e,t⟩)
 .cases q
end
section
variable{Y:Ge}{F:M.Fx}{X:Cx}{E:XK}{k:Nat}{cf:Cf}{a b c:M.E}{x y z:Expr}{pos p2:Pos}
def rR(xs:List α)(lo hi):M.cut xs lo hi=(xs.K (HT.aS xs.e 0 lo)).B (HT.aS xs.e xs.e hi-HT.aS xs.e 0 lo):=by
 unfold M.cut;have e:∀d o,M.aS xs.e d o=HT.aS xs.e d o:=λd o=>by cases o<;>rfl
 rw[e,e]
theorem aa.cut (z:aa Y G H ds vs)(lo hi):aa Y G H (M.cut ds lo hi) (mL vs lo hi):=by rw[rR];rw[z.length];exact(z.drop _).take _
def pb{b d:Option Int}(k:ah Y G0 h0 H0)(e:Ext G0 H0 G H)(j:ah Y G h H)(r:ai Y G H w v)
 (p:av Y E G0 H0 (M.fV w b d h) λw _ G' H'=>∀v,ai Y G' H' w v->aL τ U H0 w v->Q v H'):((pf Y.K v b d H Q\/sd Y.K v b d H Q)\/p8 Y.K v b d H Q)\/pT v b d H Q:=by
 unfold M.fV at p;split at p
 .rename_i z q;cases r.str q;split at p
  .rename_i c;have o:=qk;refine .u ⟨_,rfl,by rw[ze];exact Nat.le_trans ‹_› ‹_›,?_⟩;have e1:lE (aK z) b d=aK (M.cut z b d):=by unfold lE;rw[ze,rR];simp[aK]
   exact aA.v (aA.mk p e k) j rfl
  .exact p.j
 .split at p
  .rename_i n q;obtain⟨l,f,rfl,i,g⟩:=r.tup q;by_cases c:HT.aS f.e 0 b=0/\HT.aS f.e f.e d=f.e
   .have e2:M.cut n b d=n:=by rw[rR,g.length,c.1,c.2,List.drop_zero,Nat.sub_zero,←g.length,Aq1]
    rw[e2]at p;exact .p (.u ⟨l,f,rfl,i.sq,c.1,c.2,p G H e j _ ⟨l,f,rfl,i,g⟩ trivial⟩)
   .exact .p (.p (.u ⟨l,f,rfl,i.sq,c,λa m=>aA.tup (aA.mk p e k) j (g.cut b d) a m⟩))
  .split at p
   .rename_i n q;obtain⟨l,f,rfl,i,g⟩:=r.lst j q;exact .p<|.p<|.p ⟨l,f,rfl,i,λa m=>aA.own (aA.mk p e k) j (g.cut b d) a m⟩
   .exact p.j
def IG(K:Ab):V->Option Int->Option Int->Hp->VK->Prop:=λx lo hi H Q=>((pf K x lo hi H Q\/sd K x lo hi H Q)\/p8 K x lo hi H Q)\/pT x lo hi H Q
def r9:hI X (IG X.K):=((hV.or Ly).or LD).or oZ
def FU(I:Go Y F X E k cf){g m:M.E}(r:PE X x (tD Y E (M.eval F a)))(n:PE X l (tD Y E (M.eval F g)))(z:PE X u (tD Y E (M.eval F m))):PE X (.u x (.Slice (y0 l) (y0 u) u0 p2) pos) (tD Y E (M.eval F (.sl a g m))):=by refine PE.imp (JS r9 r (QR n) (QR z)) λU H Q D=>?_;obtain⟨G,τ,h,s,p⟩:=D;refine Xa s.j Ext.refl s p λw1 v1 K Z J e1 A e C N y=>Xa s.j e1 e y λP v2 S L W e2 c f t f2 p2=>?_;obtain⟨i,v,p2⟩:=p2.of;refine⟨i,t.int v,Xa s.j e2 f p2 λw3 v3 R O V B b o w T d=>?_⟩;obtain⟨j,q,d⟩:=d.of;exact⟨j,w.int q,I.K▸pb s.j B o.j ((C.ext c e.j).ext b f.j) d⟩
def Lh(t:Go Y F X E k cf){d:M.E}(f:PE X x (tD Y E (M.eval F a)))(e:PE X l (tD Y E (M.eval F d))):PE X (.u x (.Slice (y0 l) u0 u0 p2) pos) (tD Y E (M.eval F (.fL a d))):=by refine PE.imp (JS r9 f (QR e) uR) λU H Q r=>?_;obtain⟨G,D,h,s,p⟩:=r;refine Xa s.j Ext.refl s p λI v1 v C u e1 o c q y m=>Xa s.j e1 c m λz v2 A w B e2 b n g J p2=>?_;obtain⟨i,j,p2⟩:=p2.of;exact⟨i,g.int j,t.K▸pb s.j e2 n.j (q.ext b c.j) p2⟩
def Lu(q:Go Y F X E k cf)(d:PE X x (tD Y E (M.eval F a)))(j:PE X u (tD Y E (M.eval F hi))):PE X (.u x (.Slice u0 (y0 u) u0 p2) pos) (tD Y E (M.eval F (.fM a hi))):=by refine PE.imp (JS r9 d uR (QR j)) λU H Q o=>?_;obtain⟨G,C,h,s,p⟩:=o;refine Xa s.j Ext.refl s p λD v1 t B r e1 m c n w g=>Xa s.j e1 c g λy v2 z v A e2 b l e I p2=>?_;obtain⟨i,f,p2⟩:=p2.of;exact⟨i,e.int f,q.K▸pb s.j e2 l.j (n.ext b c.j) p2⟩
noncomputable def Gh.cell (G:Gh)(a:Addr):Gh:={G with aU:=λr=>if r=G.n then a else G.j r,n:=G.n+1}
def AS(a):Mon G H (G.cell a) H:=⟨λ_ _ _ z=>z,Ag _,λr b=>by show(if r=G.n then a else G.j r)=_;rw[if_neg (Nat.ne_of_lt ‹_›)],λ_ z=>z⟩
def zH{a:Addr}{c:M.Cell}(d:ah Y G h H)(n:¬G.u a)(k:dZ G a)(z:bG Y G H a c):ah Y (G.cell a) (h++[c]) H where
 len:=by rw[Aa5,d.y];rfl
 any:=λr j q=>by
  show¬G.u (if r=G.n then a else G.j r)/\bG Y (G.cell a) H (if r=G.n then a else G.j r) j;by_cases i:r=G.n
  .rw[if_pos i];rw[i,←d.y,Ae2 (Aa9 _),Ap9]at q;cases q;exact⟨n,z.mon (AS a) λ_ e=>e⟩
  .rw[if_neg i];have g:r<G.n:=by have:=(Aa1.p q).1;rw[Aa5,d.y]at this;simp at this;lia
   rw[Ad3 (by rw[d.y];exact g)]at q;exact⟨(d.A r j q).1,(d.A r j q).2.mon (AS a) λ_ e=>e⟩
 inj:=λr s l m e=>by
  have l:r<G.n+1:=l;have m:s<G.n+1:=m;have e:(if r=G.n then a else G.j r)=(if s=G.n then a else G.j s):=e;by_cases f:r=G.n
  .by_cases b:s=G.n
   .lia
   .rw[if_pos f,if_neg b]at e;exact absurd e.p (k s (by lia))
  .by_cases b:s=G.n
   .rw[if_neg f,if_pos b]at e;exact absurd e (k r (by lia))
   .rw[if_neg f,if_neg b]at e;exact d.inj r s (by lia) (by lia) e
 live:=d.j
def jX{a:Addr}(d:ah Y G h H)(c:¬G.u a)(b:dZ G a)(e:H a=y0 (.w vs))(z:aa Y G H xs vs)(f:M.Gf xs=k9):ah Y (G.cell a) (h++[.lst xs]) H:=zH d c b ⟨f,vs,e,z⟩
def HU{a:Addr}(d:ah Y G h H)(c:¬G.u a)(b:dZ G a)(e:H a=y0 (.ins (Y.j c0) dx0 [])):ah Y (G.cell a) (h++[.obj c0 []]) H:=zH d c b ⟨dx0,[],e,rfl⟩
def zA{a:Addr}(e:Ext G0 H0 G H)(d:H0 a=u0):Ext G0 H0 (G.cell a) H where
 keep:=e.p
 le:=Ab5 e.le (Ag _)
 aU:=λr f=>by show(if r=G.n then a else G.j r)=_;rw[if_neg (by have:=e.le;lia)];exact e.aU r f
 new:=λr g c=>by
  have c:r<G.n+1:=c;show H0 (if r=G.n then a else G.j r)=u0;by_cases b:r=G.n
  .rw[if_pos b];exact d
  .rw[if_neg b];exact e.new r g (by lia)
 fz:=e.fz
 old:=e.old
 cells:=e.u
def Eh:PE X (.Dict [] [] pos) (tD Y E (M.eval F .dC)):=by refine PE.imp FJ λU H Q c=>?_;obtain⟨G,d,h,s,p⟩:=c;intro a b;have e1:Ext G H G (aE H a (dS [])):=qr _ b;refine av.val p (zA e1 b) (zH (s.j.new _ b) (λz=>by obtain⟨o,q⟩:=s.j.j a z;rw[b]at q;cases q) (s.j.gg b) ⟨rfl,[],zb,rfl⟩) ?_ trivial;show h.e<G.n+1/\V.ref a=.j (if h.e=G.n then a else G.j h.e);rw[s.j.y,if_pos rfl];exact⟨Af9 _,rfl⟩
abbrev d3(a:List (M.Tx×M.D))(b:List V):List (Str×V):=(a.j λp=>aK p.1).a0 b
def wS(e:M.GV h o=y0 (r,ks)):o=y0 (.v (.j r))/\h[r]?=y0 (.aR ks):=by
 unfold M.GV at e;split at e
 .split at e
  .rename_i q;cases e;exact⟨rfl,q⟩
  .cases e
 .cases e
def Qp(s:au Y G τ h U H)(e:M.GV h (M.Gn τ i)=y0 (r,ks)):U[i]?=y0 (y0 (.j (G.j r)))/\M.Gf (ks.j (·.2))=k9/\∃j,H (G.j r)=y0 (dS (d3 ks j))/\aa Y G H (ks.j (·.2)) j:=by obtain⟨e1,e2⟩:=wS e;obtain⟨v,b,c⟩:=s.u i _ e1;obtain⟨d,a⟩:=(c);subst a;exact⟨b,(s.j.A r _ e2).2⟩
def pd(a b):(aK a==aK b)=(a==b):=by
 cases q:a==b with
|true=>rw[eq_of_beq q];exact beq_self_eq_true _
|false=>exact beq_eq_false_iff_ne.u λz=>(beq_eq_false_iff_ne.p q) (ZB z)
section
variable{G:Gh}{H:Hp}
theorem uH{k:M.Tx}:∀{ks}{i},aa Y G H (ks.j (·.2)) i->ks.p k=y0 d->∃v,(d3 ks i).p (aK k)=y0 v/\aC Y G H d v
|[],_,_,e=>by cases e
|(g,x)::fs,_,z7,e=>by
  obtain⟨v,r,rfl,b,a⟩:=z7;rw[Ab7]at e;show∃w,((aK g,v)::d3 fs r).p (aK k)=y0 w/\_;rw[Ab7,pd];cases q:k==g with
|true=>rw[q]at e;cases e;exact⟨v,rfl,b⟩
|false=>rw[q]at e;exact uH a e
theorem pU{k:M.Tx}:∀{ks}{i},aa Y G H (ks.j (·.2)) i->((d3 ks i).p (aK k)).u=(ks.p k).u
|[],_,_=>rfl
|(g,x)::fs,_,z7=>by
  obtain⟨v,r,rfl,b,a⟩:=z7;show(((aK g,v)::d3 fs r).p (aK k)).u=_;rw[Ab7,Ab7,pd];cases q:k==g with
|true=>rfl
|false=>exact pU a
theorem vr{k:M.Tx}:∀{ks}{i},aa Y G H (ks.j (·.2)) i->((d3 ks i).A λp=>u9 (p.1=aK k))=ks.A λp=>u9 (p.1=k)
|[],_,_=>rfl
|(g,x)::fs,_,z7=>by obtain⟨v,r,rfl,b,a⟩:=z7;show(u9 (aK g=aK k)||(d3 fs r).A λp=>u9 (p.1=aK k))=(u9 (g=k)||fs.A λp=>u9 (p.1=k));rw[vr a];congr 1;exact decide_eq_decide.u ⟨ZB,congrArg aK⟩
theorem yq{k:M.Tx}(rv:aC Y G H d v):∀{ks}{j},aa Y G H (ks.j (·.2)) j->∃i,aa Y G H ((ks.j λp=>if p.1=k then(p.1,d)else p).j (·.2)) i/\((d3 ks j).j λp=>if p.1=aK k then(p.1,v)else p)=d3 (ks.j λp=>if p.1=k then(p.1,d)else p) i
|[],_,rfl=>⟨[],rfl,rfl⟩
|(g,x)::fs,_,z7=>by
  obtain⟨u,r,rfl,e,f⟩:=z7;obtain⟨i,a,b⟩:=yq rv f;by_cases q:g=k
  .refine⟨v::i,?_,?_⟩
   .simp only[Ab2,q,if_true];exact⟨v,i,rfl,rv,a⟩
   .show(if aK g=aK k then(aK g,v)else(aK g,u))::(d3 fs r).j _=d3 ((if g=k then(g,d)else(g,x))::fs.j _) (v::i);rw[b,if_pos (congrArg aK q),if_pos q];rfl
  .have c:=λz=>q (ZB z);refine⟨u::i,?_,?_⟩
   .simp only[Ab2,q,if_false];exact⟨u,i,rfl,e,a⟩
   .show(if aK g=aK k then(aK g,v)else(aK g,u))::(d3 fs r).j _=d3 ((if g=k then(g,d)else(g,x))::fs.j _) (u::i);rw[b,if_neg c,if_neg q];rfl
theorem qT{k:M.Tx}(rv:aC Y G H d v):∀{ks}{i},aa Y G H (ks.j (·.2)) i->aa Y G H ((ks++[(k,d)]).j (·.2)) (i++[v])/\d3 ks i++[(aK k,v)]=d3 (ks++[(k,d)]) (i++[v])
|[],_,rfl=>⟨⟨v,[],rfl,rv,rfl⟩,rfl⟩
|(g,x)::fs,_,z7=>by obtain⟨u,r,rfl,b,a⟩:=z7;exact⟨⟨u,_,rfl,b,(qT rv a).1⟩,congrArg ((aK g,u)::·) (qT rv a).2⟩
def D6{k:M.Tx}(rv:aC Y G H d v)(z:aa Y G H (ks.j (·.2)) us):∃i,aa Y G H ((M.GE ks k d).j (·.2)) i/\iQ (d3 ks us) (aK k) v=d3 (M.GE ks k d) i:=by
 unfold M.GE iQ;rw[vr z];by_cases c:(ks.A λp=>u9 (p.1=k))=k9
 .rw[if_pos c,if_pos c];exact yq rv z
 .rw[if_neg c,if_neg c];exact⟨_,qT rv z⟩
end
theorem JO:∀{ds},M.Gf ds=k9↔∀d∈ds,M.Gd d=k9
|[]=>⟨λ_ _ h=>absurd h Ah6,λ_=>rfl⟩
|d::ds=>by rw[Aa0,JO,List.forall_mem_cons]
def Cz{k:M.Tx}(b:M.Gd d=k9)(z:M.Gf (ks.j (·.2))=k9):M.Gf ((M.GE ks k d).j (·.2))=true:=by
 rw[JO]at z⊢;unfold M.GE;split
 .intro y a;rw[Ad7,Ac1]at a;obtain⟨p,c,rfl⟩:=a;dsimp only[Function.comp];split
  .exact b
  .exact z _ (List.mem_map_of_mem c)
 .intro y a;rw[Ad8,Ac6]at a;obtain a|a:=a
  .exact z y a
  .cases Ac4.p a;exact b
def DW(z:aa Y G H (ks.j (·.2)) us):(d3 ks us).e=ks.e:=by have:=z.length;rw[Aa]at this;rw[Al7,Aa];lia
def LA:R2:=λx y H Q=>∃k a kvs v,y=.p k/\x=.j a/\H a=y0 (dS kvs)/\kvs.p k=y0 v/\Q v H
def Bh:hB X LA:=by rintro b c e s U H x y v u Q I l h ⟨k,a,m,d,j,ex,f,g,q⟩ n;subst ex j;cases l;obtain⟨_,_,_,_,dd⟩:=J8 I f;exact tail_any dd.mapOf.typeIs slot_dict_getitem.p (Pc I f h g λp o i r=>⟨_,H,i,r,q⟩) n
def DJ(neg:Bool):R2:=λx y H Q=>∃k a kvs,x=.p k/\y=.j a/\H a=y0 (dS kvs)/\Q (.C (if neg then !(kvs.p k).u else(kvs.p k).u)) H
def vw(neg):b9 X (compareOp (nB neg)) (DJ neg):=by
 rintro d j U H x y v u Q I c g ⟨k,a,i,ex,h,e,q⟩;subst ex h;cases g;cases neg with
|false=>exact Eb I e c λf b=>⟨.C _,H,b,rfl,q⟩
|true=>exact Iy I e c λf b=>⟨.C _,H,b,rfl,q⟩
def HY:V->V->V->Hp->(Hp->Prop)->Prop:=λo i v H Q=>∃k a kvs,i=.p k/\o=.j a/\H a=y0 (dS kvs)/\kvs.e<sizeLine/\Q (aE H a (dS (iQ kvs k v)))
def Ez:rf X HY:=by rintro b r U H o i v n m u Q I e h rv ⟨k,a,p,d,g,j,c,q⟩;subst d g;cases e;exact MM I j h rv c λl f=>⟨_,f,q⟩
def Ny:List V->Hp->VK->Prop:=λb H Q=>∃a kvs,b=[.j a]/\H a=y0 (dS kvs)/\∀p,H p=u0->Q (.j p) (aE H p (dS kvs))
def DS:Zs X (.p "dict") Ny:=by
 rintro b l U H m k Q I rv ⟨a,h,e,i,q⟩;subst e;cases rv with
|cons g d=>cases d;cases g;exact Mn I i λp j f c=>⟨.j p,_,c,rfl,q p f⟩
def Hm(q:PE X x (tD Y E (M.eval F a))):PE X x (tD Y E (M.eval F (.a4 a))):=by
 refine PE.imp q λU H Q z=>?_;obtain⟨G,C,h,s,p⟩:=z;refine Xa s.j Ext.refl s p λw v1 c f A e1 u i y n b=>?_;cases w with
|own e=>
  obtain⟨l,D,rfl,t,r,m,o⟩:=y;obtain⟨B,k,j⟩:=n;cases k;have b:av Y E G H (if M.Gf e=k9 then M.ak _ (c++[.lst e])else .u) _:=b;by_cases g:M.Gf e=k9;rotate_left
  .rw[if_neg g]at b;exact b.j
  rw[if_pos g]at b;refine av.val b (zA e1 j) (jX i.j t r m o g) ?_ trivial;show c.e<f.n+1/\V.ref l=.j (if c.e=f.n then l else f.j c.e);rw[i.j.y,if_pos rfl];exact⟨Af9 _,rfl⟩
|v d=>exact b.j
|bor e=>exact b.j
end
structure XU(Y:Ge)(J:It)(ds:List M.D)(C:Gh->Hp->Prop):Prop where
 go:∀i G H,C G H->i<ds.e->J.go i H
 gs:∀i G H x H',C G H->i<ds.e->J.gs i H x H'->∃G',Ext G H G' H'/\(∀h,ah Y G h H->ah Y G' h H')/\∃d,ds[i]?=y0 d/\aC Y G' H' d x
 stop:∀i G H,C G H->ds.e<=i->i<=ds.e->J.stop i H
 keep:∀G H G' H' h,C G H->Ext G H G' H'->ah Y G h H->C G' H'
noncomputable def zo(τ:M.Sl)(U:St)(H:Hp):Hp:=λa=>open Classical in if∃(i:Nat)(xs:List M.D),M.Gn τ i=y0 (.j xs)/\U[i]?=y0 (y0 (.j a))then u0 else H a
def iu(Y:Ge)(E:XK)(a:Bool)(m:M.Sl->M.AH->M.R (List M.D)):TI:=λU H R=>∃G τ h,au Y G τ h U H/\av Y E G H (m τ h) λds _ G' H'=>∀J C,XU Y J ds C->C G' H'->(a=k9->C G' (zo τ U H'))->R J H'
def PI.imp (h:PI X tg e t)(k:∀U H R,t' U H R->t U H R):PI X tg e t':=λa s U H R I q=>h a s U H R I (k _ _ _ q)
section
variable{Y:Ge}{F:M.Fx}{X:Cx}{E:XK}{k:Nat}{cf:Cf}{a b c:M.E}{x y z tg:Expr}{pos p2:Pos}{lp:Bool}
def mi(Y:Ge)(G:Gh)(H:Hp)(l:Addr)(vs:List V):Prop:=(Rd H l (.w vs)/\dZ G l)\/uk Y l vs
def CL(Y:Ge)(ds:List M.D)(l:Addr)(vs:List V)(G:Gh)(H:Hp):Prop:=mi Y G H l vs/\aa Y G H ds vs
def mi.sq (z:mi Y G H l vs):bA Y.K H l vs:=z.j (λz=>.p z.1) .u
def kX.rT (z:kX Y G H l vs)(a:ah Y G h H):mi Y G H l vs:=z.j (λz=>.p ⟨z.2,a.off z.1⟩) .u
def CL.keep (z:CL Y ds l vs G H)(e:Ext G H G' H')(c:ah Y G h H):CL Y ds l vs G' H':=by
 obtain⟨a,d⟩:=z;refine⟨?_,d.ext e c⟩;obtain⟨a,b⟩|a:=a
 .refine .p ⟨e.rd a b,?_⟩;obtain a|⟨o,a⟩:=a
  .exact e.off a b
  .exact e.off a b
 .exact .u a
def CL.walk {K:Ab}(d:K=Y.K):XU Y (l9 K l) ds (CL Y ds l vs) where
 go:=by rintro i G H ⟨b,c⟩ a;obtain⟨v,e,_⟩:=c.get (Aa6 a);exact⟨vs,v,d▸b.sq,e⟩
 gs:=by rintro i G H x f ⟨b,c⟩ a ⟨e,y⟩;subst e;obtain⟨v,e,rd⟩:=c.get (Aa6 a);have:=y vs (d▸b.sq);rw[e]at this;cases this;exact⟨G,Ext.refl,λ_ q=>q,_,Aa6 a,rd⟩
 stop:=(by rintro i G H⟨b,c⟩a _;exact⟨vs,d▸b.sq,by rw[←c.length];exact a⟩)
 keep:=λG H j f h z e g=>z.keep e g
def CT(Y:Ge)(ds:List M.D)(l:Addr)(vs:List V)(G:Gh)(H:Hp):Prop:=fN Y G H l vs/\aa Y G H ds vs
def fN.mon (z:fN Y G H l vs)(e:Mon G H G' H'):fN Y G' H' l vs:=z.j (λz=>.p ⟨e.fz l z.1,e.keep l _ z.1 z.2⟩) λz=>.u z
def CT.walk {K:Ab}(d:K=Y.K):XU Y (lK K l) ds (CT Y ds l vs) where
 go:=by rintro i G H ⟨b,c⟩ a;obtain⟨v,e,_⟩:=c.get (Aa6 a);exact⟨vs,v,d▸b.sq,e⟩
 gs:=by rintro i G H x g ⟨b,c⟩ a ⟨e,y⟩;subst e;obtain⟨v,e,rd⟩:=c.get (Aa6 a);have:=y vs (d▸b.sq);rw[e]at this;cases this;exact⟨G,Ext.refl,λ_ q=>q,_,Aa6 a,rd⟩
 stop:=(by rintro i G H⟨b,c⟩a _;exact⟨vs,d▸b.sq,by rw[←c.length];exact a⟩)
 keep:=λG H j g h z e f=>⟨z.1.mon (e.mon f),z.2.ext e f⟩
def OR{b:Int}:XU Y (m8 b n) ((Aa7 n).j λ(i:Nat)=>M.D.int (b+(i:Int))) (λ_ _=>True) where
 go:=λi G H _ a=>show i<n by simpa using a
 gs:=λi G H x d _ a c=>by
  obtain⟨e,y⟩:=c;subst e y;have a:=by simpa using a
  exact⟨G,Ext.refl,λ_ q=>q,.o (b+i),by simp[a],rfl⟩
 stop:=λi G H _ a _=>show n<=i by simpa using a
 keep:=λ_ _ _ _ _ _ _ _=>trivial
def Ql(a:¬∃i xs,M.Gn τ i=y0 (.j xs)/\U[i]?=y0 (y0 (.j l))):zo τ U H l=H l:=by unfold zo;rw[if_neg a]
def jt(s:au Y G τ h U H)(e:M.Gn τ i=y0 (.j xs))(f:U[i]?=y0 (y0 (.j l))):¬G.u l/\dZ G l/\∃vs,H l=y0 (.w vs)/\aa Y G H xs vs:=by obtain⟨v,b,a,vs,k,g,d,j,c⟩:=s.u i _ e;rw[f]at b;cases b;cases k;exact⟨g,d,vs,j,c⟩
def xA(s:au Y G τ h U H):Mon G H G (zo τ U H):=by refine⟨λa o z e=>?_,Aa9 _,λ_ _=>rfl,λ_ z=>z⟩;rw[Ql (by rintro⟨i,d,b,c⟩;exact(jt s b c).1 z)];exact e
section
open PySem.Calls PySem.W PyProof.Rows
def M4(K:Ab)(b:TE):TI:=λU H R=>b U H λx H1=>(∃a,x=.j a/\(∃xs,bA K H1 a xs)/\R (l9 K a) H1)\/∃a,x=.j a/\(∃xs,cY K H1 a xs)/\R (lK K a) H1
def sx(n:PE X l tl):PI X tg l (M4 X.K tl):=by
 intro d s U H R I h;refine aN (n d s U H _ I h) ?_;rintro v f ⟨x,k,c,m,r⟩;rcases r with⟨a,e,⟨u,j⟩,q⟩|⟨a,e,⟨u,j⟩,q⟩
 .subst e;cases m;obtain⟨i,rv,p,t⟩:=c.C j;refine wpAny_pyIter_list p.J ?_;refine⟨f.j.j.j,[f.j.j.j],_,_,k,rfl,c.kept λb o e=>Ab1 _ e,CO a _,⟨_,Ac8 _ rfl,rfl,rfl⟩,λb g=>?_,q⟩;have e:=by simpa using g
  subst e;exact c.d5 (Aa9 _) (c.aO.fresh (Aa9 _))
 .subst e;cases m;obtain⟨i,rv,p,t⟩:=c.tuple j;refine wpAny_pyIter_tuple (p) ?_;refine⟨f.j.j.j,[f.j.j.j],_,_,k,rfl,c.kept λb o e=>Ab1 _ e,BY a _,⟨_,Ac8 _ rfl,rfl,rfl⟩,λb g=>?_,q⟩;have e:=by simpa using g
  subst e;exact c.d5 (Aa9 _) (c.aO.fresh (Aa9 _))
end
def OH(q:Go Y F X E k cf)(B:PE X x (tD Y E (M.eval F a))):PI X tg x (iu Y E y9 (M.Gk F (.seq a))):=by
 refine PI.imp (sx B) λU H R L=>?_;obtain⟨G,I,h,s,p⟩:=L;refine Xa s.j Ext.refl s p λK v1 A n f e1 D u o N c=>?_;have lst:∀{e},av Y E G H (.j e A) (λe x y t=>∀J C,XU Y J e C->C y t->(y9=k9->C y (zo I U t))->R J t)->(∃l b,v1=.j l/\mi Y n f l b/\aa Y n f e b)→
  (∃a,v1=.j a/\(∃w,bA X.K f a w)/\R (l9 X.K a) f)\/∃a,v1=.j a/\(∃w,cY X.K f a w)/\R (lK X.K a) f:=λ{e} p ⟨l,b,g,j,m⟩=>
  .p ⟨l,g,⟨b,q.K▸j.sq⟩,p n f e1 u.j _ _ (CL.walk q.K) ⟨j,m⟩ λz=>absurd z Ab9⟩
 cases K with
|v d=>
  cases d with
  |tup e=>obtain⟨l,b,rfl,j,i⟩:=o;exact .u ⟨l,rfl,⟨b,q.K▸j.sq⟩,c n f e1 u.j _ _ (CT.walk q.K) ⟨j,i⟩ λz=>absurd z Ab9⟩
  |lst e=>obtain⟨l,b,g,j,i⟩:=o;exact lst c ⟨l,b,g,j.rT u.j,i⟩
  |aw=>exact c.j
  |bl _=>exact c.j
  |int _=>exact c.j
  |str _=>exact c.j
  |ref _=>exact c.j
  |err _ _ _=>exact c.j
|own e=>obtain⟨l,b,g,_,i,m,r⟩:=o;exact lst c ⟨l,b,g,.p ⟨.p m,i⟩,r⟩
|bor e=>obtain⟨l,b,g,i,m,r⟩:=o;exact lst c ⟨l,b,g,.p ⟨m,i⟩,r⟩
def C2(n:Int):((Aa7 n.j).j λ(i:Nat)=>M.D.int (i:Int))=(Aa7 n.j).j λ(i:Nat)=>M.D.int (0+(i:Int)):=by congr 1;funext i;rw[Int.zero_add]
def DM:"range"∈cn:=by decide
def QK(e:Go Y F X E k cf)(i:b8 cf.p "range" g=true)(d:Qb x=true)(j:PE X x (tD Y E (M.eval F a))):PI X tg (.x g [x] [] pos) (iu Y E lp (M.Gk F (.ao a))):=by
 obtain⟨p,rfl,m,y⟩:=jc i;refine PI.imp (Ew (e.u _ m) (e.blt _ DM) (Xe j Qm (Zb d)) (Zb d)) λU H R u=>?_;obtain⟨G,z,h,s,p⟩:=u;refine Xa s.j Ext.refl s p λA v1 v o f e1 r l t w b=>?_;obtain⟨n,q,b⟩:=b.of;split at b
 .rename_i c;rw[M.GL]at c;cases t.int q;rw[C2]at b;exact⟨n,rfl,c.1,c.2,b o f e1 l.j _ _ OR trivial λ_=>trivial⟩
 .exact b.j
end
section
variable{Y:Ge}{F:M.Fx}{X:Cx}{E:XK}{k:Nat}{cf:Cf}
theorem Xl:∀(τ)(i j)(w),M.Gn (M.GB τ i w) j=if j=i/\i<τ.e then y0 w else M.Gn τ j
|[],i,j,w=>by simp
|x::r,0,0,w=>by simp
|x::r,0,j+1,w=>by simp
|x::r,i+1,0,w=>by simp
|x::r,i+1,j+1,w=>by
  have:=Xl r i j w;simp only[M.GB,M.Gn,this,Aa8];by_cases h:j=i/\i<r.e
  .rw[if_pos h,if_pos (by lia)]
  .rw[if_neg h,if_neg (by lia)]
theorem Ww:∀(τ)(i)(w),(M.GB τ i w).e=τ.e
|[],_,_=>rfl
|_::_,0,_=>rfl
|_::r,i+1,w=>by simp[Ww r i w]
theorem xx:∀{τ}{i}{w},M.Gn τ i=y0 w->i<τ.e
|[],_,_,e=>by simp at e
|_::_,0,_,_=>by simp
|_::r,i+1,w,e=>by have:=xx (by simpa using e);simp;exact‹_›
theorem au.set (s:au Y G τ h U H)(r:ai Y G H w v)
 (l:hF w=k9->∀j L,j≠i->M.Gn τ j=y0 L->hF L=k9->∀a,v=.j a->U[j]?≠y0 (y0 (.j a))):au Y G (M.GB τ i w) h (U.x i (y0 v)) H where
 len:=by rw[Ww,Ad4];exact s.len
 slot:=λj L e=>by
  rw[Xl]at e;by_cases c:j=i/\i<τ.e
  .rw[if_pos c]at e;cases e;obtain⟨rfl,c⟩:=c;exact⟨v,Ab6 (by rw[←s.len];exact c),r⟩
  .rw[if_neg c]at e;have y:=λz=>c ⟨z,by subst z;exact xx e⟩;obtain⟨u,n,o⟩:=s.u j L e;exact⟨u,by rw[Ad0 (Ne.symm y)];exact n,o⟩
 apart:=λp q t L a b e1 e2 k g=>by
  rw[Xl]at e1 e2;by_cases d:p=i/\i<τ.e
  .rw[if_pos d]at e1;cases e1;obtain⟨rfl,d⟩:=d;rw[if_neg (λz=>b z.1.p)]at e2;rw[Ab6 (by rw[←s.len];exact d)]at g;cases g;rw[Ad0 b];exact l rfl q L (Ne.symm b) e2 k a rfl
  .rw[if_neg d]at e1;have m:=λz=>d ⟨z,by subst z;exact xx e1⟩;rw[Ad0 (Ne.symm m)]at g;by_cases f:q=i/\i<τ.e
   .rw[if_pos f]at e2;cases e2;obtain⟨rfl,f⟩:=f;rw[Ab6 (by rw[←s.len];exact f)];intro z;cases z;exact l k p _ m e1 rfl a rfl g
   .rw[if_neg f]at e2;have x:=λz=>f ⟨z,by subst z;exact xx e2⟩;rw[Ad0 (Ne.symm x)];exact s.p p q t L a b e1 e2 k g
 heap:=s.j
def au.d9 (s:au Y G τ h U H)(r:aC Y G H d v):au Y G (M.GB τ i (.v d)) h (U.x i (y0 v)) H:=s.set r λz=>by cases z
noncomputable def hO:List Nat->List V->St->St
|i::is,v::a,U=>hO is a (U.x i (y0 v))
|_,_,U=>U
theorem jP:∀{is}{ds}{vs}{τ j}{U},M.ba is ds τ=y0 j->aa Y G H ds vs->au Y G τ h U H->au Y G j h (hO is vs U) H/\is.e=vs.e
|[],[],_,_,_,_,e,rfl,s=>by cases e;exact⟨s,rfl⟩
|[],_::_,_,_,_,_,e,_,_=>by simp[M.ba]at e
|_::_,[],_,_,_,_,e,_,_=>by simp[M.ba]at e
|i::is,d::ds,_,_,_,_,e,z7,s=>by obtain⟨v,r,rfl,f,a⟩:=z7;obtain⟨b,c⟩:=jP (by simpa[M.ba]using e) a (s.d9 f);exact⟨b,congrArg (·+1) c⟩
def gM(Y:Ge)(c:List Nat)(one:Bool):TG:=λv U H Q=>match one with
|true=>∃i,c=[i]/\Q (U.x i (y0 v)) H
|false=>∃G ds b a,v=.j a/\fN Y G H a b/\aa Y G H ds b/\c.e=b.e/\Q (hO c b U) H
theorem qZ(b:Go Y F X E k cf):∀{is}{es},xy cf is es=k9->mq X es (λvs U H Q=>vs.e=is.e/\Q (hO is vs U) H)
|[],[],_=>λa s U H vs d Q I r h=>by have c:=Ag7 h.1;subst c;exact yW a s U H [] d Q I r ⟨rfl,h.2⟩
|[],_::_,h=>by simp[xy]at h
|_::_,[],h=>by simp[xy]at h
|i::is,e::es,h=>by
  cases e with
|Name x p=>
   simp only[xy,Aa0,decide_eq_true_eq]at h;obtain⟨⟨g,l⟩,j⟩:=h;have m:=qZ b j;have c:=b.g6 x l;have f:=WS (Q8 (pos:=p) (by rw[b.N];exact b.nd) (by rw[b.N];exact g) c.1 c.2) m;intro a s U H vs d Q I r q;refine f a s U H vs d Q I r ?_;cases vs with
   |nil=>simp at q
   |cons v vs=>refine⟨v,vs,rfl,?_⟩;exact⟨by simpa using q.1,q.2⟩
|_=>simp[xy]at h
theorem u5:∀{is}{es},xy cf is es=k9->(assignEach es env).e=is.e/\(assignEach es env).findIdx? (·.1)=u0
|[],[],_=>⟨rfl,rfl⟩
|[],_::_,h=>by simp[xy]at h
|_::_,[],h=>by simp[xy]at h
|i::is,e::es,h=>by
  cases e with
|Name x p=>simp only[xy,Aa0]at h;obtain⟨a,b⟩:=u5 h.2;have e1:assignEach (.j x p::es) env=(y9,assign (.j x p) env)::assignEach es env:=rfl;rw[e1];refine⟨congrArg (·+1) a,?_⟩;rw[List.findIdx?_cons];simp[b]
|_=>simp[xy]at h
def Jx(d:Go Y F X E k cf)(h:jg cf tg one e=k9):PG X e (gM Y tg one):=by
 cases one with
|true=>
  cases e with
  |Name x p=>
   simp only[jg,Aa0]at h;cases tg with
   |nil=>simp at h
   |cons i r=>
    cases r with
   |cons _ _=>simp at h
   |nil=>simp only[xy,Aa0,decide_eq_true_eq]at h;obtain⟨_,⟨m,y⟩,_⟩:=h;have g:=d.g6 x y;have c:=Q8 (pos:=p) (by rw[d.N];exact d.nd) (by rw[d.N];exact m) g.1 g.2;intro b s U H v u Q I r q;obtain⟨j,e,q⟩:=q;cases e;exact c b s U H v u Q I r q
  |_=>simp[jg]at h
|false=>
  cases e with
|Tuple C n p=>obtain⟨t,h⟩:=a2 (h);obtain⟨w,f⟩:=u5 h;have c:=yz (k:=n) (pos:=p) (d.x t) (qZ d h) w f;intro b s U H v u Q I r q;obtain⟨G,B,z,a,rfl,o,A,l,q⟩:=q;exact c b s U H _ u Q I r ⟨a,z,rfl,d.K▸o.sq,l.p,l.p,q⟩
|_=>simp[jg]at h
def jo(k)(l):∀i,M.Gn (Aa4 k u0++l) (k+i)=M.Gn l i:=by
 induction k with
|zero=>intro i;simp
|succ k a=>intro i;rw[Ae4,show k+1+i=(k+i)+1 by lia];exact a i
def zw(k)(l):∀{i},i<k->M.Gn (Aa4 k u0++l) i=none:=by
 induction k with
|zero=>intro i h;lia
|succ k a=>
  intro i h;cases i with
|zero=>rfl
|succ i=>rw[Ae4];exact a (Nat.le_of_lt_succ ‹_›)
theorem ZG:∀(l)(i),M.Gn l i=(l[i]?).x
|[],_=>by simp
|_::_,0=>by simp
|_::r,i+1=>by simpa using ZG r i
def QN(s:au Y G τ h U H)(e:M.Gj τ j=y0 w):∃v,U[j]?=y0 (y0 v)/\ai Y G H w v/\(hF w=k9->∃i,M.Gn τ j=y0 i/\hF i=k9)/\nq w=true:=by
 unfold M.Gj at e;cases q:M.Gn τ j with
|none=>rw[q]at e;cases e
|some i=>
  obtain⟨v,b,c⟩:=s.u j i q;rw[q]at e;cases i with
|v d=>cases e;exact⟨v,b,c,λz=>(by cases z),rfl⟩
|own f=>cases e;obtain⟨a,n,l,o,g,k,m⟩:=c;exact⟨v,b,⟨a,n,l,g,.p k,m⟩,λ_=>⟨_,rfl,rfl⟩,rfl⟩
|bor f=>cases e;exact⟨v,b,c,λ_=>⟨_,rfl,rfl⟩,rfl⟩
def kj(k:Nat)(aD:List Nat)(τ:M.Sl):M.Sl:=Aa4 k u0++aD.j λj=>M.Gj τ j
def N4(s:au Y G τ h U H)(kk)(aD)(d:Ub.e=kk+aD.e)(b:∀i,i<aD.e->Ub[kk+i]?=y0 ((U[aD.L i 0]?).x)):
 au Y G (kj kk aD τ) h Ub H where
 len:=by unfold kj;rw[Aa5,Ae3,Aa,d]
 slot:=λi w e=>by
  unfold kj at e;by_cases f:i<kk
  .rw[zw kk _ f]at e;cases e
  .obtain⟨j,rfl⟩:∃j,i=kk+j:=⟨i-kk,by lia⟩;rw[jo,ZG,Ac2]at e;cases q:aD[j]? with
|none=>rw[q]at e;cases e
|some c=>rw[q]at e;have e:=e;obtain⟨v,g,l,_⟩:=QN s e;have n:=(Aa1.p q).1;refine⟨v,?_,l⟩;rw[b j n,Ac7,q];show y0 ((U[c]?).x)=_;rw[g];rfl
 apart:=λi j p w a k e1 e2 o r=>by
  exfalso;unfold kj at e1;by_cases f:i<kk
  .rw[zw kk _ f]at e1;cases e1
  .obtain⟨m,rfl⟩:∃j,i=kk+j:=⟨i-kk,by lia⟩;rw[jo,ZG,Ac2]at e1;cases q:aD[m]? with
|none=>rw[q]at e1;cases e1
|some c=>rw[q]at e1;have e1:=e1;obtain⟨_,_,_,_,z⟩:=QN s e1;cases z
 heap:=s.j
end
theorem Jf{env:Env}{d:NameKind}(g:d≠.w):∀{a:List (Str×NameKind)}{x},a.p x=y0 d→
 (a.j λ(n,k)=>if(k==NameKind.free&&env.j.p==.j&&env.w n==y0 .p)then(n,NameKind.cell)else(n,k)).p x=y0 d
|[],_,h=>by simp at h
|(n,k)::r,x,h=>by
  have j:=@Jf env d g r x;rw[Ab2];rw[Ab7]at h;cases c:x==n with
|true=>
   rw[c]at h;have e:=by simpa using h
   subst e;have i:(k==NameKind.free)=false:=by simpa using g
   simp only[i,Ae5,Ak4,if_false,Ab7,c]
|false=>
   rw[c]at h;have q:=j h;by_cases b:(k==NameKind.free&&env.j.p==.j&&env.w n==y0 .p)=k9
   .simp only[b,if_true,Ab7,c];exact q
   .have f:=Aj7.u b;simp only[f,Ak4,if_false,Ab7,c];exact q
section
open Lake renaming MS.Ext.trans→Lake.MS.Ext.j
variable{Y:Ge}{F:M.Fx}{X:Cx}{E:XK}{k:Nat}{cf:Cf}
structure lQ(cf:Cf)(scope:Scope)(N:List Str)(k:Nat)(aD:List Nat):Prop where
 kind:scope.p=.j
 MZ:(scope.j.j Prod.fst).C
 names:∀y∈scope.j,y.2=.local->scope.j.p y.1=y0 .local
 free:∀y∈scope.j,y.2=.w->cf.p.j.p y.1=y0 .p\/cf.p.j.p y.1=y0 .w
 iC:∀x∈N.K k,scope.j.p x=y0 .w
 aD:jL cf aD (N.K k)=k9
 le:k<=N.e
 nd:N.C
 cb:cf.cb=k9
def XL(h:Z8 cf scope N kk aD=k9):lQ cf scope N kk aD:=by simp only[Z8,Aa0,decide_eq_true_eq,Ai8]at h;obtain⟨⟨⟨⟨⟨⟨⟨⟨⟨k,c⟩,g⟩,d⟩,e⟩,i⟩,b⟩,f⟩,j⟩,m⟩:=h;exact⟨c,g,λy a=>d y a,λy a=>e y a,λx l=>i x l,b,f,j,k⟩
theorem JY(a:Go Y F X E k cf):∀{aD}{xs},jL cf aD xs=k9->c3 X aD xs
|[],[],_=>trivial
|[],_::_,h=>by simp[jL]at h
|_::_,[],h=>by simp[jL]at h
|j::e,x::xs,h=>by simp only[jL,Aa0,decide_eq_true_eq]at h;obtain⟨⟨b,d⟩,c⟩:=h;exact⟨by rw[a.N];exact b,a.kq x d,JY a c⟩
def qY(a:Go Y F X E k cf)(h:lQ cf scope N kk aD):w4 X scope N kk aD:=
 ⟨h.kind,h.MZ,h.names,λy c b=>a.kq y.1 (h.free y c b),h.iC,JY a h.aD,h.le⟩
def Bl(h:zT sc x=k9):sc.j.p x=y0 .local\/sc.j.p x=y0 .p\/sc.j.p x=y0 .w:=by
 unfold zT at h;split at h
 .rename_i q;exact .p q
 .rename_i q;exact .u (.p q)
 .rename_i q;exact .u (.u q)
 .cases h
def yB(h:kB sc x=k9):sc.j.p x=y0 .local\/sc.j.p x=y0 .p:=by
 unfold kB at h;split at h
 .rename_i q;exact .p q
 .rename_i q;exact .u q
 .cases h
def pV(h:lY sc x=k9):sc.j.p x=y0 .globalImplicit:=by
 unfold lY at h;split at h
 .rename_i q;exact q
 .cases h
def jE(a:Go Y F X E k cf)(h:lQ cf scope N kk aD)(C:Addr)(v:List Addr)(s:Shared)(H:Hp):Go Y F (Qe X N scope C v s H) E0 k {cf with sc:=scope,N:=N} where
 N:=rfl
 K:=a.K
 cl:=a.cl
 ow:=a.ow
 nd:=h.nd
 gA:=λx b=>by
  rcases Bl b with q|q|q
  .exact .p (Jf (by decide) q)
  .exact .u (.p (Jf (by decide) q))
  .exact .u (jk q)
 kL:=λx b=>Jf (by decide) b
 g6:=λx b=>by
  rcases yB b with q|q
  .exact⟨.p (Jf (by decide) q),.u (Jf (by decide) q)⟩
  .exact⟨.u (Jf (by decide) q),.p (decide_eq_true q)⟩
 kq:=λx b=>by
  rcases b with q|q
  .exact .p (Jf (by decide) q)
  .exact jk q
 gl:=λx b=>Jf (by decide) (pV b)
 calm:=a.x
 room:=a.p
 cv:=a.cv
 pass:=λo U y w e u _ r=>by obtain⟨x,A,t,B,z,_,_,_,_,_,_,_,_,_,_,p⟩:=r;exact p.j
 blt:=a.blt
 con:=a.con
 fn:=λf j=>by obtain⟨c,n,g,d,l,i,m⟩:=(a.fn f j).imp λc h=>h.ex;exact⟨c,⟨n,g,d,l,i,m⟩⟩
 lT:=λf j=>by obtain⟨c,n,g,d,l,i,m⟩:=(a.lT f j).imp λc h=>h.ex;exact⟨c,⟨n,g,d,l,i,m⟩⟩
 cls:=a.cls
 fld:=a.fld
 i6:=a.i6
 eW:=a.eW
theorem vY:∀(is)(vs)(U)(j),j∉is->(hO is vs U)[j]?=U[j]?
|[],_,_,_,_=>rfl
|_::_,[],_,_,_=>rfl
|i::is,v::vs,U,j,h=>by show(hO is vs (U.x i (y0 v)))[j]?=U[j]?;rw[vY is vs _ j λz=>h (Aa2 _ z),Ad0 (λz:i=j=>h (by rw[z];exact Aa3))]
theorem JH:∀(is)(vs)(U),(hO is vs U).e=U.e
|[],_,_=>rfl
|_::_,[],_=>rfl
|i::is,v::vs,U=>by show(hO is vs (U.x i (y0 v))).e=U.e;rw[JH is vs,Ad4]
def ae(e:M.Gq tg one d τ=y0 τ')(r:aC Y G H d x)(s:au Y G τ h U H)
 (f:∀L,au Y G τ' h L H->(∀j,j∉tg->L[j]?=U[j]?)->L.e=U.e->Q L H):gM Y tg one x U H Q:=by
 cases one with
|true=>
  cases tg with
  |nil=>cases e
  |cons i n=>
   cases n with
  |cons _ _=>cases e
  |nil=>cases e;exact⟨i,rfl,f _ (s.d9 r) (λj b=>Ad0 λz=>b (by simp[z])) (Ad4 ..)⟩
|false=>
  cases d with
|tup o=>obtain⟨a,c,rfl,m,g⟩:=r;obtain⟨k,l⟩:=jP (e) g s;exact⟨G,o,c,a,rfl,m,g,l,f _ k (λj b=>vY tg c U j b) (JH tg c U)⟩
|_=>cases e
def wZ{step:M.D->M.AH->M.R (Option M.D)}:∀{ds}{h}{d}{h'},M.Gy step ds h≠.exc d h'
|[],_,_,_=>λe=>by cases e
|x::ds,h,d,h'=>λe=>by
  rw[M.Gy]at e;split at e
  .split at e<;>cases e
  .cases e
def X8{step:M.D->M.AH->M.R (Option M.D)}(e:M.Gy step (x::ds) h=.j ys hf):∃o h1 r,step x h=.j o h1/\M.Gy step ds h1=.j r hf/\ys=(match o with|some y=>y::r|none=>r):=by
 rw[M.Gy]at e;split at e
 .rename_i o h1 e1;split at e
  .rename_i r a e2;cases e;exact⟨o,h1,r,e1,e2,rfl⟩
  .cases e
 .cases e
def nG(F:M.Fx)(g:List Nat)(one:Bool)(f:M.Sl)(a:Bool)(c elt:M.E):M.D->M.AH->M.R (Option M.D):=λd h=>match M.Gq g one d f with
|none=>.u
|some e=>(if a then(M.eval F c e h).p λx h=>M.R.of h (M.G9 h x)else .j k9 h).p λb h=>match b with
|true=>(M.eval F elt e h).p λy h=>(M.R.of h y.d).p λy h=>.j (y0 y) h
|false=>.j u0 h
def OO:M.eval F (.N tg one kk aD it y7 c elt) τ h=(M.Gk F it τ h).p λds h=>
 if ds.e<=M.bq then(M.Gy (nG F tg one (kj kk aD τ) y7 c elt) ds h).p λys h=>.j (.j ys) h else .u:=by
 rw[M.eval];rfl
noncomputable def lO(F:M.Fx)(a:Bool)(c:M.E):M.Sl->M.AH->M.R Bool:=λτ h=>if a then M.Gm F c τ h else .j k9 h
def Jh{r:M.R α}(e:r.p f=.j b h):∃a h1,r=.j a h1/\f a h1=.j b h:=by
 cases r with
|ok a h1=>exact⟨a,h1,rfl,e⟩
|exc d h1=>cases e
|fail=>cases e
def rV(a:Zh iter=k9):∀v,foldedSetIterable iter env v=pure v:=λv=>by cases iter<;>first|rfl|(simp[Zh]at a)
def yZ(htk:∀i∈tg,i<kk)(h0:tD Y E (M.eval F (.N tg one kk aD it y7 c elt)) U H Q):
 oq kk aD (iu Y E y9 (M.Gk F it)) (λ_ _ _ _=>gM Y tg one) (λ_ _ _ _=>dr Y E0 (lO F y7 c)) (λ_ _ _ _=>tD Y E0 (M.eval F elt)) U H Q:=by
 obtain⟨G,R,h,s,p⟩:=h0;rw[OO]at p;refine⟨G,R,h,s,?_⟩;cases qi:M.Gk F it R h with
|exc d k=>rw[qi]at p;exact p
|fail=>rw[qi]at p;exact p
|ok f h1=>
  rw[qi]at p;intro G1 H1 e1 t J C N c0 _ Ca fp st;have p:av Y E G H (if f.e<=M.bq then(M.Gy _ f h1).p λys h=>.j _ h else .u) λw k q g=>∀v,ai Y q g w v->aL R U H w v->Q v g:=p;by_cases hL:f.e<=M.bq;rotate_left
  .rw[if_neg hL]at p;exact p.j
  rw[if_pos hL]at p;cases qc:M.Gy (nG F tg one _ y7 c elt) f h1 with
|exc d k=>exact absurd qc wZ
|fail=>rw[qc]at p;exact p.j
|ok ys hf=>
   rw[qc]at p;have p:=p;have hLs:=qk;refine⟨λi m yv Ub g=>∃q k done rest,(m=f.e-i/\i<=f.e/\done.e<=i)/\Ext G1 H1 q g/\ah Y q k g/\C q g/\aa Y q g done yv∧
    M.Gy (nG F tg one (kj kk aD R) y7 c elt) (f.K i) k=.j rest hf/\ys=done++rest/\Ub.e=kk+aD.e/\∀j,j<aD.e->Ub[kk+j]?=y0 ((U[aD.L j 0]?).x),⟨f.e,?_⟩,?_⟩
   .refine⟨G1,h1,[],ys,⟨by simp,Af4 _,Aa9 _⟩,Ext.refl,t,c0,rfl,qc,rfl,?_,λj X=>?_⟩
    .unfold m3;rw[Aa5,Ae3,Aa]
    .unfold m3;rw[Ae2 (by simp),Ae3,An3,Ac2,Aa6 X,Ac7,Aa6 X];rfl
   .rintro i m yv Ub g ⟨q,k,done,rest,⟨rfl,hi',hd⟩,e2,e,B,rd,Z,y,l,A⟩;have ldone:=rd.length;by_cases u:i<f.e
    .refine .u ⟨N.go i q g B u,by lia,_,λyv' Ub' O w=>⟨f.e-(i+1),(Nat.sub_lt_sub_left ‹_› (Nat.lt_succ_self _)),w⟩,λx O hy=>?_⟩;obtain⟨G4,x4,hx4,d,ed,rdx⟩:=N.gs i q g x O B u hy;have B:=N.keep _ _ _ _ k B x4 e;have rd:=rd.ext x4 e;have e2:=e2.j t x4;have e:=hx4 _ e;have edr:f.K i=d::f.K (i+1):=by rw[Am7 u];rw[Aa6 u]at ed;cases ed;rfl
     rw[edr]at Z;obtain⟨o,h2,r,S,T,er⟩:=X8 Z;unfold nG at S;cases qb:M.Gq tg one d (kj kk aD R)with
|none=>rw[qb]at S;cases S
|some L=>
      rw[qb]at S;have so:=s.ext (e1.j s.j e2) e;have sb:=N4 so kk aD l A;refine ae qb rdx sb λU2 s2 same W=>?_;have n:∀j,j<aD.e->U2[kk+j]?=y0 _:=λj X=>by rw[same _ λz=>by have:=htk _ z;lia];exact A j X
      obtain⟨b,h3,I,a⟩:=Jh (show(lO F y7 c L k).p _=_ from S);refine⟨G4,L,k,s2,?_⟩;rw[I];intro G3 H3 P V;have s3:=s2.ext P V;cases b with
|false=>refine oh ?_;have a:=a;cases a;exact⟨G3,_,done,r,⟨rfl,by lia,(Nat.le_succ_of_le ‹_›)⟩,e2.j t P,V,N.keep _ _ _ _ k B P e,rd.ext P e,T,by rw[y,er],by rw[W];exact l,n⟩
|true=>
       refine oB ?_;obtain⟨w,h4,qe,a⟩:=Jh (a);refine⟨G3,L,h3,s3,?_⟩;rw[qe];intro G4 H4 e4 hr4 v rw' fw;obtain⟨dd,h5,qd,a⟩:=Jh (a);cases qw:w.d with
|none=>rw[qw]at qd;cases qd
|some d'=>rw[qw]at qd;cases qd;cases(a);have s4:=s3.ext e4 hr4;obtain⟨G5,e5,s5,rdv,m5⟩:=rq e4 s4 s3 rw' fw qw;have K:=P.j e e5;refine⟨G5,_,done++[dd],r,⟨rfl,by lia,by rw[Aa5,List.length_singleton];exact Nat.succ_le_succ ‹_›⟩,e2.j t K,s5.j,N.keep _ _ _ _ k B K e,(rd.ext K e).append ⟨v,[],rfl,rdv,rfl⟩,T,?_,by rw[W];exact l,n⟩;rw[y,er];simp
    .have ei:i=f.e:=by lia
     subst ei;rw[List.drop_length]at Z;cases(Z);rw[Ae]at y;subst y;exact .p ⟨N.stop _ q g B (Aa9 _) (Aa9 _),by lia,λD hD=>aA.own (aA.mk p (e1.j s.j e2) s.j) e rd D hD⟩
def LS(e:Go Y F X E k cf)(a:lQ cf scope N kk aD)
 (h:aD.e=(N.K kk).e)(f:jg {cf with sc:=scope,N:=N} tg one t=k9)(d:∀i∈tg,i<kk)(b:Zh iter=k9)
 (g:PI X t iter (iu Y E y9 (M.Gk F it)))
 (l:∀C fp s H,PE (Qe X N scope C fp s H) y (tD Y E0 (M.eval F elt)))
 (j:∀C fp s H,iD (Qe X N scope C fp s H) ifs (dr Y E0 (lO F y7 c))):
 PE X (.A y [⟨t,iter,ifs,0⟩] scope pos) (tD Y E (M.eval F (.N tg one kk aD it y7 c elt))):=
 PE.imp (Li (qY e a) g (λC fp s H=>Jx (jE e a C fp s H) f) j l (e.x a.cb) (rV b)) λU H Q m=>yZ d m
def IT(b:Go Y F X E k cf)(n:cf.N[i]?=y0 x)(m:kB cf.p x=k9)(g:swapsWith (.A y [⟨t,iter,ifs,0⟩] scope p0) (y0 (.j x pos2)) pos.p X.j=pure k9)(a:lQ cf scope N kk aD)
 (p:aD.e=(N.K kk).e)(j:jg {cf with sc:=scope,N:=N} tg one t=k9)(f:∀i∈tg,i<kk)(d:Zh iter=k9)
 (o:PI X t iter (iu Y E y9 (M.Gk F it)))
 (u:∀C fp s H,PE (Qe X N scope C fp s H) y (tD Y E0 (M.eval F elt)))
 (r:∀C fp s H,iD (Qe X N scope C fp s H) ifs (dr Y E0 (lO F y7 c))):
 PS X (.j [.j x pos2] (.A y [⟨t,iter,ifs,0⟩] scope p0) pos) (iO (tD Y E (M.eval F (.N tg one kk aD it y7 c elt))) (XY i)):=by
 have l:=b.g6 x m;have h:=D3 (by rw[b.N];exact b.nd) (by rw[b.N];exact n) l.1 (qY b a) o (λC fp s H=>Jx (jE b a C fp s H) j) r u g (b.x a.cb) (rV d) l.2;exactλe s U H D I q=>h e s U H D I (yZ f q)
def Xp(b:Go Y F X E k cf)(h1:cf.N[i]?=y0 x)(c:zT cf.p x=k9)(a:bp x=k9):PE X (.j x p) (nI i):=by unfold bp at a;rw[Aa0]at a;exact zy (by rw[b.N];exact h1) (b.gA x c) (by simpa using a.1) (by simpa using a.2)
def BC:"dict"∈cn:=by decide
def MH(u:Go Y F X E k cf)(h1:cf.N[i]?=y0 y)(g:zT cf.p y=k9)(f:bp y=k9)(e:PE X x (tD Y E (M.eval F a))):PE X (.B x [nB neg] [.j y j] pos) (tD Y E (M.eval F (.de neg a i))):=by
 refine PE.imp (BE (vw neg) e (Xp u h1 g f) (Wr rfl)) λU H Q q=>?_;obtain⟨G,D,h,s,p⟩:=q;refine Xa s.j Ext.refl s p λI v1 h1 m w e1 n b o A j=>?_;unfold M.de at j;split at j
 .rename_i v r C t;cases o;obtain⟨d,B,z,l,c⟩:=Qp b t;exact⟨_,d,aK v,_,_,rfl,rfl,l,by rw[pU c];exact j m _ e1 b.j _ rfl trivial⟩
 .exact j.j
def Ob(u:Go Y F X E k cf)(h1:cf.N[i]?=y0 y)(g:zT cf.p y=k9)(f:bp y=k9)(e:PE X x (tD Y E (M.eval F a))):PT X (.B x [nB neg] [.j y j] pos) (dr Y E (M.Gm F (.de neg a i))):=by
 refine PT.imp (yk (vw neg) e (Xp u h1 g f) (Wr rfl)) λU H Q q=>?_;obtain⟨G,D,h,s,p⟩:=q;unfold M.Gm at p;rw[M.eval,Qh]at p;refine Xa s.j Ext.refl s p λI v1 h1 m w e1 n b o A j=>?_;unfold M.de at j;split at j
 .rename_i v r C t;cases o;obtain⟨d,B,z,l,c⟩:=Qp b t;exact⟨_,d,aK v,_,_,rfl,rfl,l,_,rfl,by rw[pU c];exact j m _ e1 b.j⟩
 .exact j.j
def De(I:Go Y F X E k cf)(h1:cf.N[i]?=y0 y)(n:zT cf.p y=k9)(m:bp y=k9)(K:Wc x=k9)(l:PE X x (tD Y E (M.eval F a))):PE X (.u (.j y j) x pos) (tD Y E (M.eval F (.fh i a))):=by
 refine PE.imp (rl Bh (Xp I h1 n m) l (zU K)) λU H Q C=>?_;obtain⟨G,A,h,s,p⟩:=C;rw[M.eval]at p;cases q:M.GV h (M.Gn A i)with
|none=>rw[q]at p;exact p.j
|some w=>
  obtain⟨N,t⟩:=w;rw[q]at p;have sl:=(Qp s q).1;refine⟨_,sl,Xa s.j Ext.refl s p λV v1 h1 S L e1 z e B P j=>?_⟩;unfold M.fh at j;split at j
  .rename_i J r T D;cases B;obtain⟨c,R,O,o,f⟩:=Qp e D;have b:=by rw[sl]at c;exact Ad6.inj (Ad6.inj c)
   split at j
   .rename_i d g;obtain⟨v,u,rv⟩:=uH f g;exact⟨aK J,_,_,v,rfl,b,o,u,(aA.mk j e1 s.j).v e.j rv⟩
   .exact j.j
  .exact j.j
def Dg(c:Go Y F X E k cf)(j:b8 cf.p "dict" g=true)(h1:cf.N[i]?=some y)(n:zT cf.p y=true)(m:bp y=true):PE X (.x g [.j y p1] [] pos) (tD Y E (M.eval F (.eO i))):=by
 obtain⟨p,rfl,w,l⟩:=jc j;refine PE.imp (wz DS (c.u _ w) (c.blt _ BC) (by decide+kernel) (Xe (Xp c h1 n m) Qm rfl) (Xm BC) l rfl rfl) λU H Q B=>?_;obtain⟨G,A,h,s,p⟩:=B;rw[M.eval]at p;cases q:M.GV h (M.Gn A i)with
|none=>rw[q]at p;exact p.j
|some v=>obtain⟨r,x⟩:=v;rw[q]at p;obtain⟨f,u,d,t,e⟩:=Qp s q;refine⟨_,f,_,_,rfl,t,λa b=>?_⟩;have e1:Ext G H G (aE H a (dS (d3 x d))):=qr _ b;refine av.val p (zA e1 b) (zH (s.j.new _ b) (λz=>by obtain⟨o,q⟩:=s.j.j a z;rw[b]at q;cases q) (s.j.gg b) ⟨u,d,zb,e.ext e1 s.j⟩) ?_ trivial;show h.e<G.n+1/\V.ref a=.j (if h.e=G.n then a else G.j h.e);rw[s.j.y,if_pos rfl];exact⟨Af9 _,rfl⟩
def LB(a:M.Ko d=k9)(z:aC Y G H d v):aC Y G' H' d v:=by
 cases d<;>first|exact z|exact absurd a (by simp)
def NR(e:Ext G H G1 H1)(d:H a=u0):Ext G H G1 (aE H1 a o):=
 ⟨λb u z c=>by rw[Za (λq:b=a=>by rw[q,d]at z;cases z)];exact e.p b u z c,e.le,e.aU,e.new,e.fz,e.old,λr g z=>by obtain⟨u,z⟩:=z;obtain⟨h,f⟩:=e.u r g ⟨u,z⟩;exact⟨h,by rw[Za (λq:G.j r=a=>by rw[q,d]at z;cases z)];exact f⟩⟩
def Ou(d:ah Y G h H)(f:¬G.u a)(of:dZ G a):ah Y G h (aE H a o):=by have mon:Mon G H G (aE H a o):=⟨λb u z q=>by rw[Za (λe:b=a=>f (e▸z))];exact q,Aa9 _,λ_ _=>rfl,λ_ z=>z⟩;refine⟨d.y,λq c e=>⟨(d.A q c e).1,(d.A q c e).2.mon mon λu z=>by rw[Za (of q (d.lt e))];exact z⟩,d.inj,λb z=>?_⟩;obtain⟨u,q⟩:=d.j b z;exact⟨u,by rw[Za (λe:b=a=>f (e▸z))];exact q⟩
def iF(G:Gh)(H:Hp)(a:Addr)(o:HO):Prop:=H a=y0 o/\¬G.u a/\dZ G a
def iF.ext (l:iF G H a o)(e:Ext G H G1 H1):iF G1 H1 a o:=
 ⟨e.p a o l.1 l.2.2,λz=>(e.old a z).j l.2.1 (λq=>by rw[l.1]at q;cases q),e.off l.1 l.2.2⟩
def OA{b a c k:M.Tx}(h:ai Y G H w1 v1)(j:ai Y G H w2 v2)(i:ai Y G H w3 v3)(e:[(b,w1),(a,w2),(c,w3)].p k=y0 w):∃v,[(aK b,v1),(aK a,v2),(aK c,v3)].p (aK k)=y0 v/\ai Y G H w v:=by
 simp[Ab7,List.lookup_nil]at e⊢;simp[pd];cases f:k==b with
|true=>rw[f]at e;cases e;exact⟨v1,rfl,h⟩
|false=>
  rw[f]at e;cases d:k==a with
|true=>rw[d]at e;cases e;exact⟨v2,rfl,j⟩
|false=>
   rw[d]at e;cases g:k==c with
|true=>rw[g]at e;cases e;exact⟨v3,rfl,i⟩
|false=>rw[g]at e;cases e
def OL(go:Go Y F X E k cf)(h1:cf.N[i]?=y0 x)(D:zT cf.p x=k9)(B:bp x=k9)(n:kK k1 q1=k9)(y:kK k2 q2=k9)(m:kK k3 q3=k9)(N:[k1,k2,k3].C)
 (K:PE X y1 (tD Y E (M.eval F a)))(hb:PE X y2 (tD Y E (M.eval F b)))(hc:PE X y3 (tD Y E (M.eval F c))):PE X (.u (.Dict [q1,q2,q3] [y1,y2,y3] L) (.j x p2) pos) (tD Y E (M.eval F (.gF k1 a k2 b k3 c i))):=by
 obtain⟨j1,o1,rfl⟩:=pR n;obtain⟨j2,o2,rfl⟩:=pR y;obtain⟨j3,o3,rfl⟩:=pR m;have ok:mY X [aK k1,aK k2,aK k3] [tD Y E _,tD Y E _,tD Y E _] [y0 (.w (.p (aK k1)) j1 o1),y0 (.w (.p (aK k2)) j2 o2),y0 (.w (.p (aK k3)) j3 o3)] [y1,y2,y3]:=
  ⟨_,_,_,_,_,_,_,rfl,rfl,rfl,K,_,_,_,_,_,_,_,rfl,rfl,rfl,hb,_,_,_,_,_,_,_,rfl,rfl,rfl,hc,rfl,rfl,rfl⟩
 refine PE.imp (rl Bh (M1 ok (by simp) (show 3<=15 by decide) (Ap2.map (l:=[k1,k2,k3]) aK (λa b z q=>z (ZB q)) N)) (Xp go h1 D B) (zU rfl)) λU H Q qq=>?_;obtain⟨G,S,h,s,p⟩:=qq;rw[M.eval]at p;intro w e;have J:Ext G H G (aE H w (dS [])):=qr _ e;have V:au Y G S h U _:=s.ext J (s.j.new _ e);have l0:iF G (aE H w (dS [])) w _:=⟨zb,s.j.lq e,s.j.gg e⟩;refine Xa s.j J V p λw1 v1 h1 G1 H1 e1 t C r1 f1 L=>Xa s.j e1 C L λw2 v2 D G2 H2 e2 j r O f2 p2=>Xa s.j e2 r p2 λw3 v3 B G3 H3 R g A r3 f3 f=>?_;have o:=((l0.ext t).ext j).ext g;refine⟨o.1,?_⟩;unfold M.gF at f;split at f
 .rename_i I Z;obtain⟨v,ev,rv⟩:=A.u i _ Z;cases(show v=.p (aK I)from rv);split at f
  .rename_i d T;split at f
   .rename_i hf;obtain⟨u,P,W⟩:=OA ((r1.ext j C.j).ext g r.j) (O.ext g r.j) r3 T;exact⟨_,ev,aK I,_,_,u,rfl,rfl,zb,P,av.val f (NR R e) (Ou A.j o.2.1 o.2.2) (v:=u) (show aC Y G3 _ d u from LB hf W) trivial⟩
   .exact f.j
  .exact f.j
 .exact f.j
def sO(h:Str.ofString a=Str.ofString b):a=b:=by
 rw[Str.ofString_eq_toList,Str.ofString_eq_toList]at h;have e:=by have:=congrArg (λs:Str=>s.j.p) h;simpa using this
 have inj:∀(l m:List Char),l.j Char.toNat=m.j Char.toNat->l=m:=by
  intro l;induction l with
|nil=>intro m q;cases m with|nil=>rfl|cons _ _=>cases q
|cons c l f=>
   intro m q;cases m with
|nil=>cases q
|cons d m=>simp[List.cons.injEq]at q;rw[Char.toNat_inj.p q.1,f m q.2]
 exact String.toList_inj.p (inj _ _ e)
def zJ(e:M.G6 h o=y0 (r,c,fs)):o=y0 (.v (.j r))/\h[r]?=y0 (.obj c fs):=by
 unfold M.G6 at e;split at e
 .split at e
  .rename_i q;cases e;exact⟨rfl,q⟩
  .cases e
 .cases e
def A5(s:au Y G τ h U H)(e:M.G6 h (M.Gn τ i)=y0 (r,c,fs)):U[i]?=y0 (y0 (.j (G.j r))):=by obtain⟨e1,e2⟩:=zJ e;obtain⟨v,b,d⟩:=s.u i _ e1;obtain⟨_,a⟩:=(show r<G.n/\v=.j (G.j r)from d);rw[b,a]
noncomputable abbrev ig(fs:List (String×M.D)):List Str:=fs.j λp=>Str.ofString p.1
section
variable{G:Gh}{H:Hp}
def vZ(a b):(Jd a==Str.ofString b)=(a==b):=by
 cases q:a==b with
|true=>rw[eq_of_beq q];exact beq_self_eq_true _
|false=>exact beq_eq_false_iff_ne.u λz=>(beq_eq_false_iff_ne.p q) (sO z)
theorem tN:∀{fs}{i},aa Y G H (fs.j (·.2)) i->fs.p f=y0 d->∃v,((ig fs).a0 i).p (Jd f)=y0 v/\aC Y G H d v
|[],_,_,e=>by cases e
|(g,x)::fs,_,z7,e=>by
  obtain⟨v,r,rfl,b,a⟩:=z7;rw[Ab7]at e;show∃w,(((Str.ofString g),v)::(ig fs).a0 r).p (Jd f)=y0 w/\_;rw[Ab7,vZ];cases q:f==g with
|true=>rw[q]at e;cases e;exact⟨v,rfl,b⟩
|false=>rw[q]at e;exact tN a e
theorem X4:∀{fs}{a:List V},fs.p f=u0->((ig fs).a0 a).p (Jd f)=u0
|[],_,_=>rfl
|(g,x)::fs,[],_=>rfl
|(g,x)::fs,v::r,e=>by
  rw[Ab7]at e;show(((Str.ofString g),v)::(ig fs).a0 r).p (Jd f)=u0;rw[Ab7,vZ];cases q:f==g with
|true=>rw[q]at e;cases e
|false=>rw[q]at e;exact X4 e
theorem ZU(rv:aC Y G H d v):∀{fs}{j},aa Y G H (fs.j (·.2)) j->∃i,aa Y G H ((M.aZ f d fs).j (·.2)) i/\Lake.aZ (Jd f) v ((ig fs).a0 j)=(ig (M.aZ f d fs)).a0 i
|[],_,z=>by cases z;exact⟨[v],⟨v,[],rfl,rv,rfl⟩,rfl⟩
|(g,x)::fs,_,z7=>by
  obtain⟨u,r,rfl,e,c⟩:=z7;show∃i,aa Y G H ((if g=f then(g,d)::fs else(g,x)::M.aZ f d fs).j (·.2)) i/\(if Str.ofString g=Jd f then(Str.ofString g,v)::(ig fs).a0 r else(Str.ofString g,u)::Lake.aZ (Jd f) v ((ig fs).a0 r))=(ig (if g=f then(g,d)::fs else(g,x)::M.aZ f d fs)).a0 i;by_cases q:g=f
  .rw[if_pos q,if_pos (congrArg Str.ofString q)];exact⟨v::r,⟨v,r,rfl,rv,c⟩,rfl⟩
  .rw[if_neg q,if_neg λz=>q (sO z)];obtain⟨i,a,b⟩:=ZU rv c;exact⟨u::i,⟨u,i,rfl,e,a⟩,by rw[b];rfl⟩
end
def Fm(a:Go Y F X E k cf)(h1:cf.N[i]?=y0 x)(o:zT cf.p x=k9)(m:bp x=k9):PE X (.p (.j x p1) (Jd f) pos) (tD Y E (M.eval F (.xf i f))):=by
 refine PE.imp (Ik (Xp a h1 o m) rfl) λU H Q y=>?_;obtain⟨G,C,h,s,p⟩:=y;rw[M.eval]at p;split at p
 .rename_i c g d q;split at p
  .rename_i e;subst e;obtain⟨v,w,n,l,u,rfl,B,A,b,j,z,r,t⟩:=s.u i _ q;exact⟨_,w,n,Y.j c,l,u,rfl,b,j,a.K▸r,av.val p Ext.refl s.j t trivial⟩
  .exact p.j
 .exact p.j
def DE(e:Ext G H G1 H1)(a:r<G.n):ai Y G1 H1 (.v (.j r)) (.j (G.j r)):=⟨Ab4 a e.le,by rw[e.aU r a]⟩
def O9(b:attributeBase o name env (eval o env)=eval o env)(a:methodCallForm args.e (backTo pos (starEach args env)) (backToKw pos (keywordEach [] env))=k9)(c:(apos.j==pos.p)=k9):
 eval (.x (.p o name apos) args [] pos) env=(do
  let i←eval o env
  standAt apos.atName
  let(f,first)←holding [i] (getMethod i name (do return (←importBound o env).getD k9))
  callWith pos f first (backTo pos (starEach args env)) (backToKw pos (keywordEach [] env))):=by
 have e1:methodCallForm (args.e+([]:List Keyword).e) _ _=true:=a;have e2:methodCallPos k9 o env apos pos=pure pos:=by unfold methodCallPos;simp[c]
 rw[arm_eval_Call,b];unfold methodCall;rw[e1];simp only[e2,calleeOf,if_true,pure_bind]
def N5(h:∀e∈args,Qb e=k9)(b:args.e<29):methodCallForm args.e (backTo pos (starEach args env)) (backToKw pos (keywordEach [] env))=true:=by
 unfold methodCallForm;have e1:(backTo pos (starEach args env)).N (λx=>!x.1)=true:=by have:=Qo (env:=env) (pos:=pos) h;rw[Ai8];intro x a;rw[Ak9]at this;simpa using this x a
 rw[e1];have e2:(backToKw pos (keywordEach [] env))=[]:=rfl;rw[e2];simp;exact Nat.lt_succ_of_lt ‹_›
def D7(q:Go Y F X E k cf)(P:b8 cf.p c g=k9)(O:cf.w.eW.w (c,q0)=k9)(K:∀e∈y::ys,Qb e=k9)(S:PA X (y::ys) (gr Y E (M.Gc F es))):
 PE X (.x g (y::ys) [] pos) (tD Y E (M.eval F (.make c q0 es))):=by
 obtain⟨p0,rfl,g2,T⟩:=jc P;obtain⟨D,fa,fd,ps,mk,A,bd⟩:=q.eW c q0 O;refine PE.imp (Fv mk A q.cv (q.u _ g2) D bd .p q.pass S T (Zb (K _ Aa3)) (Qo λe he=>K e (Aa2 _ he))) λU H Q qq=>?_;obtain⟨G,τ,h,s,p⟩:=qq;refine wt s.j Ext.refl s p λL vs j f r e1 e1' l r1 b=>?_;intro a n o N ne;rw[Ae];have I:aE r n (.own a) a=none:=by rw[Za (Ne.symm ne)];exact o
 have W:Ext f r f (aE r n (.own a)):=qr _ N;have Z:=l.j.new (.own a) N;have x2:Ext f _ f (aE _ a (.ins (Y.j c) n [])):=qr _ I;have r3:=Z.new (.ins (Y.j c) n []) I;have me:=l.j.lq o;have r4:=HU r3 me (l.j.gg o) zb;have t:=zA (W.j l.j x2) o;have u:=by show j.e<f.n+1/\V.ref a=.j (if j.e=f.n then a else f.j j.e);rw[l.j.y,if_pos rfl];exact⟨Af9 _,rfl⟩
 refine⟨f.cell a,j++[.obj c []],.v (.j j.e)::L.j M.W.arg,r4,⟨.j a,vs,rfl,u,br.ext t l.j (Xt r1)⟩,λw B=>?_,?_⟩
 .obtain rfl|B:=Ab8.p B
  .rfl
  .exact Qt L w B
 .cases C:F.j q0 _ (j++[.obj c []])with
|fail=>rw[C]at b;exact b.j
|exc d R=>rw[C]at b;exactλz x m i=>b z x ((e1.j s.j t).j s.j m) i
|ok w R=>
   rw[C]at b;intro z x m i v rv _;cases w with
|own _=>exact b.j
|bor _=>exact b.j
|v d=>
    cases d with
|aw=>refine⟨rv,?_⟩;have b:=b;have J:=u.1;exact b z x ((e1.j s.j t).j s.j m) i _ ⟨Ab4 J m.le,by rw[m.aU _ J];exact u.2⟩ trivial
|_=>exact b.j
def K0(l:Go Y F X E k cf)(i:cf.w.fl.w (c,f)=k9)(e:qU x=k9)(z:PE X x (tD Y E (M.eval F a))):PE X (.p x (Jd f) pos) (tD Y E (M.eval F (.aI a c f))):=by
 refine PE.imp (HL z (bF e _)) λU H Q K=>?_;obtain⟨G,S,h,s,p⟩:=K;refine Xa s.j Ext.refl s p λw v m g N e1 D j J R b=>?_;cases q:M.G6 m (y0 w)with
|none=>rw[q]at b;exact b.j
|some o=>
  obtain⟨r,I,fs⟩:=o;rw[q]at b;dsimp only at b;split at b
  .rename_i e;subst e;obtain⟨d,n,b⟩:=b.of;obtain⟨t,e2⟩:=zJ q;cases t;obtain⟨_,A⟩:=(show r<g.n/\v=.j (g.j r)from J);obtain⟨O,y,P,L,C⟩:=j.j.obj r _ fs e2;obtain⟨u,B,rv⟩:=tN C n;exact⟨g.j r,Y.j I,y,_,u,A,L,(l.fld _ _ i).1,(l.fld _ _ i).2,B,av.val b e1 j.j rv trivial⟩
  .exact b.j
def Dl(t:Go Y F X E k cf)(K:cf.w.mt.w (c,m,q0)=k9)(B:(apos.j==pos.p)=k9)(A:(y::ys).e<=20)(j:qU x=k9)(S:PE X x (tD Y E (M.eval F a)))(f:∀e∈y::ys,Qb e=k9)(O:PA X (y::ys) (gr Y E (M.Gc F es))):
 PE X (.x (.p x (Jd m) apos) (y::ys) [] pos) (tD Y E (M.eval F (.bT a c m q0 es))):=by
 obtain⟨C,fa,fd,ps,mt,d,T⟩:=t.i6 c m q0 K;refine PE.imp (HF S C mt d t.p T .p t.pass O (Zb (f _ Aa3)) (Qo λe he=>f e (Aa2 _ he)) (O9 (bF j _) (N5 f (Nat.lt_of_le_of_lt ‹_› (by decide))) B)) λU H Q qq=>?_;obtain⟨G,τ,h,s,p⟩:=qq;refine Xa s.j Ext.refl s p λw v D l H1 e1 W z Z f1 b=>?_;cases q:M.G6 D (y0 w)with
|none=>rw[q]at b;exact b.j
|some o=>
  obtain⟨r,c',fs⟩:=o;rw[q]at b;dsimp only at b;split at b
  .rename_i j;obtain⟨rfl,A⟩:=j;obtain⟨L,e2⟩:=zJ q;cases L;obtain⟨n,rfl⟩:=(show r<l.n/\v=.j (l.j r)from Z);obtain⟨nf,N,us,hv,ru⟩:=z.j.obj r _ fs e2;refine⟨l.j r,N,_,rfl,hv,X4 (Ah7.p A),wt s.j e1 z b λu vs R I H2 e2 g V P J=>?_⟩;rw[Ae];refine⟨I,R,.v _::u.j M.W.arg,V.j,⟨.j _,vs,rfl,DE g n,Xt P⟩,λw i=>?_,aA.mk J e2 s.j⟩;obtain rfl|i:=Ab8.p i
   .rfl
   .exact Qt u w i
  .exact b.j
def NH(z:Go Y F X E k cf)(c:(apos.j==pos.p)=k9)(j:qU x=k9)(g:PE X x (tD Y E (M.eval F a))):
 PE X (.x (.p x (Jd "bit_length") apos) [] [] pos) (tD Y E (M.eval F (.fB a))):=by
 refine PE.imp (Np PySem.F.plainAttrs_int slot_int_bit_length type_int_bit_length DX g (bF j _) c) λU H Q n=>?_;obtain⟨G,y,h,s,p⟩:=n;refine Xa s.j Ext.refl s p λw v r u o e1 l f m t b=>?_;obtain⟨i,e,b⟩:=b.of;cases m.int e;have d:Builtin.Int.intBits i=M.Kb i:=by
  unfold Builtin.Int.intBits M.Kb;by_cases q:i=0
  .rw[if_pos q,if_pos (by rw[q];rfl)]
  .rw[if_neg q,if_neg (by simpa using q)]
 refine⟨rfl,i,rfl,rfl,?_⟩;rw[d];exact av.val b e1 f.j rfl trivial
def OV(b:ah Y G h H)(l:dN H H'):Ext G H G H'/\ah Y G h H':=
 ⟨⟨λa o e _=>l a o e,Aa9 _,λ_ _=>rfl,λr f g=>absurd f (Ao1.u g),λ_ h=>h,λ_ h=>.p h,by rintro r _⟨o,e⟩;exact⟨o,l _ _ e⟩⟩,
  ⟨b.y,λr c e=>⟨(b.A r c e).1,(b.A r c e).2.mon ⟨λa o _ e=>l a o e,Aa9 _,λ_ _=>rfl,λ_ h=>h⟩ λo e=>l _ _ e⟩,b.inj,λa d=>(b.j a d).imp λo e=>l _ _ e⟩⟩
def gw(key:Int->M.R M.W)(m:Int):Int:=(M.G8 (key m)).getD 0
theorem rL:∀{is}{b i},M.GX key b (gw key b) is=y0 i->(∀m∈is,∃y,M.G8 (key m)=y0 y)/\i=gN (gw key) b is
|[],b,i,h=>⟨λm a=>absurd a Ah6,(Ad6.inj h).p⟩
|x::is,b,i,h=>by
  rw[M.GX]at h;cases q:M.G8 (key x)with
|none=>rw[q]at h;cases h
|some y=>
   have e:gw key x=y:=by rw[gw,q];rfl
   rw[q,Af6]at h;rw[gN,e];by_cases c:y<gw key b
   .rw[if_pos c,←e]at h;rw[if_pos c];obtain⟨d,f⟩:=rL h;exact⟨λm a=>(Ab8.p a).j (λz=>z▸⟨y,q⟩) (d m),f⟩
   .rw[if_neg c]at h;rw[if_neg c];obtain⟨d,f⟩:=rL h;exact⟨λm a=>(Ab8.p a).j (λz=>z▸⟨y,q⟩) (d m),f⟩
def NU(h:M.Kd key o=y0 i):∃n is,o=y0 (n::is)/\(∀m∈n::is,∃y,M.G8 (key m)=y0 y)/\i=gN (gw key) n is:=by
 match o,h with
|some (n::is),h=>
  rw[M.Kd]at h;cases q:M.G8 (key n)with
|none=>rw[q]at h;cases h
|some y=>
   have e:gw key n=y:=by rw[gw,q];rfl
   rw[q,Af6,←e]at h;obtain⟨a,b⟩:=rL h;exact⟨n,is,rfl,λm c=>(Ab8.p c).j (λz=>z▸⟨y,q⟩) (a m),b⟩
def yP:"min"∈cn:=by decide
def EL(h:M.G8 r=y0 y):r=.j (.v (.o y)) []:=by
 unfold M.G8 at h;split at h
 .cases h;rfl
 .cases h
def OP(b:Go Y F X E k cf)(d:w.arg=some (Jd "key"))(D:b8 cf.p f w.value=true)(hf:cf.u.w f=true)(L:lZ cf "min" g=true)(hx:Qb x=true)(he:PE X x (tD Y E (M.eval F a))):
 PE X (.x g [x] [w] pos) (tD Y E (M.eval F (.fE f a))):=by
 obtain⟨p0,rfl,R,g3⟩:=jc (a2 L).2;obtain⟨wa,wv,wq⟩:=w;obtain⟨j,e1,f2,f3⟩:=jc D;have e1:=e1;have d:=d;subst e1 d;obtain⟨ps,fa,fd,I,W,kp,C⟩:=(b.fn f hf).imp λps h=>h.ex;refine PE.imp (Lm (E:=E0) (b.x (a2 L).1) (b.u _ R) (b.blt _ yP) (by decide+kernel) I b.cv (b.u _ f2) C W (λz H s e s' hq=>by obtain⟨x,C',t,B,K,_,_,_,_,_,_,_,_,_,_,S⟩:=hq;exact S.j) he (Xm yP) g3 f3 (Zb hx)) λU H Q qq=>?_;obtain⟨G,τ,h,s,p⟩:=qq;rw[M.eval]at p;refine Xa s.j Ext.refl s p λw v h1 G1 H1 e1 Z J r1 f1 j=>?_;obtain⟨i,ei,j⟩:=j.of;obtain⟨n,is,eo,T,rfl⟩:=NU ei;obtain⟨xs,ex,A⟩:=Ag8.p eo;obtain⟨l,vs,rfl,sq,rd⟩:=r1.lst J.j ex;cases qK A rd;refine⟨l,n,is,gw λx=>F.j f [.v (.o x)] [],rfl,b.K▸sq,λm C K _=>?_,λK le=>?_⟩
 .obtain⟨y,N⟩:=T m C;have P:gw (λx=>F.j f [.v (.o x)] []) m=y:=by rw[gw,N];rfl
  refine⟨⟨λ_=>False,λ_=>0,0⟩,[],[.v (.o m)],⟨rfl,λr c e=>by simp at e,λr s u=>absurd u (Ag6 _),λa O=>O.j⟩,⟨.o m,[],rfl,rfl,rfl⟩,λw d=>by rw[Ac4.p d];rfl,?_⟩;rw[EL N];intro G' H' e u v rv _;have rv:=rv;exact⟨by rw[rv,P],λa o q=>e.p a o q λr u=>absurd u (Ag6 _)⟩
 .obtain⟨V,x2⟩:=OV J.j le;exact av.val j (e1.j s.j V) x2 rfl trivial
end
def PW.ft (h:PT X (.y op vs pos) t):PW X (.y op vs pos) t:=λb a s U H Q I q=>by have:=h a s U H Q I q;exact this
theorem xC:∀{es}{xs}{τ}{h}{ds}{h'},bC cf es xs=k9->M.Gv F es τ h=.j ds h'->ds.e=xs.e
|.p,xs,_,_,_,_,c,e=>by cases Af7.p c;rw[M.Gv]at e;cases e;rfl
|.j a es,xs,τ,h,ds,h',c,e=>by refine kC (λx r c=>?_) xs c;obtain⟨w,f,e1,e⟩:=Jh e;obtain⟨d,i,e2,e⟩:=Jh e;obtain⟨r,g,b,e⟩:=Jh e;cases e;rw[Aa8,Aa8,xC (a2 c).2 b]
theorem We:∀{es}{xs},bC cf es xs=k9->∀e∈xs,Qb e=k9
|.p,xs,c=>by cases Af7.p c;intro e b;cases b
|.j a es,xs,c=>by
  refine kC (λx r c=>?_) xs c;intro e b;rcases Ab8.p b with rfl|b
  .exact(a3 c).1
  .exact We (a2 c).2 e b
theorem wI:∀{aD}{xs},jL cf aD xs=k9->aD.e=xs.e
|[],[],_=>rfl
|[],_::_,h=>by simp[jL]at h
|_::_,[],h=>by simp[jL]at h
|j::a,x::xs,h=>by simp only[jL,Aa0]at h;exact congrArg (·+1) (wI h.2)
def ET(h:qm e f=k9):Zh e=true:=by refine jm (λg x l p h=>?_) e h;rfl
def ZW(h:eB cf it e=k9):Zh e=true:=by
 cases it with
|seq a=>exact(a2 h).1
|ao a=>exact ET h
|enum a=>exact bB h
|cJ a=>exact bB h
section
variable{Y:Ge}{F:M.Fx}{k:Nat}
def bo(a:Go Y F X E k cf)(r:PE X x (tD Y E (M.eval F m)))(b:∀i,isTrue x X.j i=(do let v←i;standAt x.pos;holding [v] (truthy v))):PE X x (tD Y E (M.eval F m))/\(fY m=k9->PT X x (dr Y E (M.Gm F m))):=⟨r,λ_=>Ef a r b⟩
mutual
theorem Jc:∀(m:M.E){X:Cx}{E:XK}{cf:Cf}{e:Expr},Go Y F X E k cf->Zc cf m e=k9->PE X e (tD Y E (M.eval F m))/\(fY m=k9->PT X e (dr Y E (M.Gm F m)))
|.X i,X,E,cf,e,go,h=>by refine Zq (λx p h=>?_) e h;obtain⟨h1,h2,h3⟩:=fU h;exact bo go (LW go h1 h2 h3) λ_=>rfl
|.con c,X,E,cf,e,go,h=>by have r:=MT go h;obtain⟨p,rfl,_,_⟩:=jc h;exact bo go r λ_=>rfl
|.int i,X,E,cf,e,go,h=>by refine XE (λx n p h=>?_) e h;cases of_decide_eq_true h;exact bo go B2 λ_=>rfl
|.bl i,X,E,cf,e,go,h=>by refine XE (λx n p h=>?_) e h;cases of_decide_eq_true h;exact bo go Eg λ_=>rfl
|.aw,X,E,cf,e,go,h=>by refine XE (λx n p h=>?_) e h;cases of_decide_eq_true h;exact bo go N9 λ_=>rfl
|.str i,X,E,cf,e,go,h=>by refine XE (λx n p h=>?_) e h;cases of_decide_eq_true h;exact bo go Ln λ_=>rfl
|.tup es,X,E,cf,e,go,h=>by refine om (λx n p h=>?_) e h;obtain⟨h1,h2⟩:=a2 h;exact bo go (EJ (of_decide_eq_true h1) (λτ hh ds h' q=>xC h2 q) (iA es go h2)) λ_=>rfl
|.lst es,X,E,cf,e,go,h=>by refine Im (λx p h=>?_) e h;obtain⟨h1,h2⟩:=a2 h;exact bo go (NZ (of_decide_eq_true h1) (λτ hh ds h' q=>xC h2 q) (iA es go h2)) λ_=>rfl
|.bin o a b,X,E,cf,e,go,h=>by refine O4 (λx o y p h=>?_) e h;obtain⟨h0,ho,h1,h2⟩:=a4 h;cases of_decide_eq_true h0;exact bo go (HK go ho (Jc a go h1).1 (Jc b go h2).1) λ_=>rfl
|.cmp o a b,X,E,cf,e,go,h=>by refine nv (λx o y p h=>?_) e h;refine kC (λy r h=>?_) y h;obtain⟨h0,ho,hs,h1,h2⟩:=a5 h;obtain⟨rfl,rfl⟩:=of_decide_eq_true h0;exact⟨E7 go ho hs (Jc a go h1).1 (Jc b go h2).1,λ_=>F8 go ho hs (Jc a go h1).1 (Jc b go h2).1⟩
|.a2 o q a b c,X,E,cf,e,go,h=>by refine nv (λx o y p h=>?_) e h;refine kC (λy r h=>?_) y h;refine kC (λz r h=>?_) r h;obtain⟨h0,ho,hq,hs,h1,h2,h3⟩:=a7 h;obtain⟨rfl,rfl⟩:=of_decide_eq_true h0;exact⟨Fp go ho hq hs (Jc a go h1).1 (Jc b go h2).1 (Jc c go h3).1,λ_=>BV go ho hq hs (Jc a go h1).1 (Jc b go h2).1 (Jc c go h3).1⟩
|.fR neg a,X,E,cf,e,go,h=>by refine nv (λx o y p h=>?_) e h;refine kC (λy r h=>?_) y h;refine XE (λj n p h=>?_) y h;obtain⟨h0,h1,h2⟩:=a3 h;obtain⟨rfl,rfl⟩:=of_decide_eq_true h0;cases of_decide_eq_true h1;exact⟨Pa (Jc a go h2).1,λ_=>Ek (Jc a go h2).1⟩
|.neg a,X,E,cf,e,go,h=>by refine rM (λo x p h=>?_) e h;cases of_decide_eq_true (a2 h).1;exact bo go (Fq (Jc a go (a2 h).2).1) λ_=>rfl
|.inv a,X,E,cf,e,go,h=>by refine rM (λo x p h=>?_) e h;cases of_decide_eq_true (a2 h).1;exact bo go (FQ (Jc a go (a2 h).2).1) λ_=>rfl
|.not a,X,E,cf,e,go,h=>by refine rM (λo x p h=>?_) e h;cases of_decide_eq_true (a2 h).1;exact⟨NO go (Jc a go (a2 h).2).1,λt=>Pd ((Jc a go (a2 h).2).2 t)⟩
|.and a b,X,E,cf,e,go,h=>by
  refine AM (λo x p h=>?_) e h;refine kC (λx r h=>?_) x h;refine kC (λy r h=>?_) r h;obtain⟨h0,h1,h2⟩:=a3 h;cases of_decide_eq_true h0;cases r with
  |nil=>exact⟨vU go (Jc a go h1).1 (Bb (Jc b go h2).1),λt=>(Bw ((Jc a go h1).2 (a2 t).1) (Lr ((Jc b go h2).2 (a2 t).2))).pt⟩
  |cons z r=>exact⟨vU go (Jc a go h1).1 (Jc b go h2).1,λt=>(Bw ((Jc a go h1).2 (a2 t).1) (PW.ft ((Jc b go h2).2 (a2 t).2))).pt⟩
|.or a b,X,E,cf,e,go,h=>by
  refine AM (λo x p h=>?_) e h;refine kC (λx r h=>?_) x h;refine kC (λy r h=>?_) r h;obtain⟨h0,h1,h2⟩:=a3 h;cases of_decide_eq_true h0;cases r with
  |nil=>exact⟨td go (Jc a go h1).1 (Bb (Jc b go h2).1),λt=>(uD ((Jc a go h1).2 (a2 t).1) (FG ((Jc b go h2).2 (a2 t).2))).pt⟩
  |cons z r=>exact⟨td go (Jc a go h1).1 (Jc b go h2).1,λt=>(uD ((Jc a go h1).2 (a2 t).1) (PW.ft ((Jc b go h2).2 (a2 t).2))).pt⟩
|.j f es,X,E,cf,e,go,h=>by
  refine jm (λg x l p h=>?_) e h;refine kE (λh=>?_) l h;obtain⟨h1,h2,h3⟩:=a3 h;cases x with
  |nil=>
   cases es with
   |cons _ _=>exact bB h3
   |nil=>have r:=C1 (pos:=p) go h1 h2;obtain⟨p,rfl,_,_⟩:=jc h1;exact bo go r λ_=>rfl
  |cons x r=>have r:=B5 (pos:=p) go h1 h2 (We h3) (dM es go h3);obtain⟨p,rfl,_,_⟩:=jc h1;exact bo go r λ_=>rfl
|.bi b es,X,E,cf,e,go,h=>by refine jm (λg x l p h=>?_) e h;refine kE (λh=>?_) l h;refine kC (λx r h=>?_) x h;obtain⟨h1,h2,h3⟩:=a3 h;have r:=CJ (pos:=p) go h2 h1 (We h3) (dM es go h3);obtain⟨p,rfl,_,_⟩:=jc (a2 h1).2;exact bo go r λ_=>rfl
|.cG a t,X,E,cf,e,go,h=>by refine jm (λg x l p h=>?_) e h;refine kE (λh=>?_) l h;refine kC (λx r h=>?_) x h;refine kC (λy r h=>?_) r h;refine kE (λh=>?_) r h;obtain⟨h1,h2,h3,h4,h5⟩:=a5 h;have r:=Pb (pos:=p) go (of_decide_eq_true h3) h1 h2 h4 (Jc a go h5).1;obtain⟨p,rfl,_,_⟩:=jc h1;exact bo go r λ_=>rfl
|.bQ a one ts,X,E,cf,e,go,h=>by
  refine jm (λg x l p h=>?_) e h;refine kE (λh=>?_) l h;refine kC (λx r h=>?_) x h;refine kC (λy r h=>?_) r h;refine kE (λh=>?_) r h;obtain⟨h1,h2,h3,h4⟩:=a4 h;have fin:PE X (.x g [x,y] [] p) (tD Y E (M.eval F (.bQ a one ts))):=by
   cases one with
|true=>refine kC (λt r h=>?_) ts h4;refine kE (λh=>?_) r h;obtain⟨h5,h6⟩:=a2 h;simp only[Ae8,decide_eq_true_eq]at h6;exact K6 go h6 h1 h5 h2 (Jc a go h3).1
|false=>refine om (λzs n p h=>?_) y h4;exact NS go (of_decide_eq_true (a2 h).1) h1 (a2 h).2 h2 (Jc a go h3).1
  obtain⟨p,rfl,_,_⟩:=jc h1;exact bo go fin λ_=>rfl
|.ix a b,X,E,cf,e,go,h=>by refine gU (λx y p h=>?_) e h;obtain⟨h1,h2,h3⟩:=a3 h;exact bo go (D1 go h1 (Jc a go h2).1 (Jc b go h3).1) λ_=>rfl
|.sl a lo hi,X,E,cf,e,go,h=>by refine gU (λx y p h=>?_) e h;refine sy (λl u z p2 h=>?_) y h;refine kS (λl h=>?_) l h;refine kS (λu h=>?_) u h;obtain⟨h0,h1,h2,h3⟩:=a4 h;cases nn h0;exact bo go (FU go (Jc a go h1).1 (Jc lo go h2).1 (Jc hi go h3).1) λ_=>rfl
|.fL a lo,X,E,cf,e,go,h=>by refine gU (λx y p h=>?_) e h;refine sy (λl u z p2 h=>?_) y h;refine kS (λl h=>?_) l h;obtain⟨h0,h1,h2,h3⟩:=a4 h;cases nn h0;cases nn h1;exact bo go (Lh go (Jc a go h2).1 (Jc lo go h3).1) λ_=>rfl
|.fM a hi,X,E,cf,e,go,h=>by refine gU (λx y p h=>?_) e h;refine sy (λl u z p2 h=>?_) y h;refine kS (λu h=>?_) u h;obtain⟨h0,h1,h2,h3⟩:=a4 h;cases nn h0;cases nn h1;exact bo go (Lu go (Jc a go h2).1 (Jc hi go h3).1) λ_=>rfl
|.N tg one kk aD it y7 c elt,X,E,cf,e,go,h=>by
  refine vN (λy g s p h=>?_) e h;refine kC (λg r h=>?_) g h;obtain⟨t,iter,ifs,z⟩:=g;obtain⟨h0,h1,h2,h3,h4,h5,h6⟩:=a7 h;obtain⟨rfl,rfl⟩:=of_decide_eq_true h0;simp only[Ai8,decide_eq_true_eq]at h2;have sc:=XL h1;have ht:∀C fp w H,iD (Qe X (Wy cf t aD) s C fp w H) ifs (dr Y E0 (lO F y7 c)):=λC fp w H=>by
   have gc:=jE go sc C fp w H;cases y7 with
|true=>refine kC (λz r h=>?_) ifs h6;refine kE (λh=>?_) r h;exact vL ((Jc c gc (a2 h).2).2 (a2 h).1)
|false=>cases Af7.p h6;rintro pins s1 U H1 Q I ⟨G,τ,h,st,p⟩;exact vW pins s1 U H1 Q I (p G H1 Ext.refl st.j)
  exact bo go (LS go sc (wI sc.aD) h3 h2 (ZW h4) (mX it go h4) (λC fp s H=>(Jc elt (jE go sc C fp s H) h5).1) ht) λ_=>rfl
|.dC,X,E,cf,e,go,h=>by refine vp (λx y p h=>?_) e h;cases Af7.p (a2 h).1;cases Af7.p (a2 h).2;exact bo go Eh λ_=>rfl
|.fh i a,X,E,cf,e,go,h=>by refine gU (λg y p h=>?_) e h;refine Zq (λx p1 h=>?_) g h;obtain⟨h0,h4,h5⟩:=a3 h;obtain⟨h1,h2,h3⟩:=fU h0;exact bo go (De go h1 h2 h3 h4 (Jc a go h5).1) λ_=>rfl
|.de neg a i,X,E,cf,e,go,h=>by refine nv (λx o y p h=>?_) e h;refine kC (λy r h=>?_) y h;refine Zq (λy p1 h=>?_) y h;obtain⟨h0,h1,h4⟩:=a3 h;obtain⟨rfl,rfl⟩:=of_decide_eq_true h0;obtain⟨h1,h2,h3⟩:=fU h1;exact⟨MH go h1 h2 h3 (Jc a go h4).1,λ_=>Ob go h1 h2 h3 (Jc a go h4).1⟩
|.gF k1 a k2 b k3 c i,X,E,cf,e,go,h=>by refine gU (λd y p h=>?_) e h;refine vp (λks vs p0 h=>?_) d h;refine Zq (λx p1 h=>?_) y h;refine kC (λq1 ks h=>?_) ks h;refine kC (λq2 ks h=>?_) ks h;refine kC (λq3 ks h=>?_) ks h;refine kE (λh=>?_) ks h;refine kC (λv1 vs h=>?_) vs h;refine kC (λv2 vs h=>?_) vs h;refine kC (λv3 vs h=>?_) vs h;refine kE (λh=>?_) vs h;obtain⟨g1,g2⟩:=a2 h;obtain⟨h0,h4,h5,h6⟩:=a4 g1;obtain⟨h7,h8,h9,h10⟩:=a4 g2;obtain⟨h1,h2,h3⟩:=fU h0;exact bo go (OL go h1 h2 h3 h4 h5 h6 (of_decide_eq_true h7) (Jc a go h8).1 (Jc b go h9).1 (Jc c go h10).1) λ_=>rfl
|.eO i,X,E,cf,e,go,h=>by refine jm (λg x l p h=>?_) e h;refine kE (λh=>?_) l h;refine kC (λx r h=>?_) x h;refine kE (λh=>?_) r h;obtain⟨h0,h1⟩:=a2 h;refine Zq (λx p1 h=>?_) x h1;obtain⟨h1,h2,h3⟩:=fU h;exact bo go (Dg go h0 h1 h2 h3) λ_=>rfl
|.a4 a,X,E,cf,e,go,h=>⟨Hm (Jc a go h).1,λt=>bB t⟩
|.cy a,X,E,cf,e,go,h=>by refine jm (λg x l p h=>?_) e h;refine kE (λh=>?_) l h;refine kC (λx r h=>?_) x h;refine kE (λh=>?_) r h;refine jm (λg2 x l p2 h=>?_) x h;refine kE (λh=>?_) l h;refine kC (λx r h=>?_) x h;refine kE (λh=>?_) r h;obtain⟨h1,h2,h3,h4⟩:=a4 h;exact bo go (Ep go h1 h2 h3 (Jc a go h4).1) λ_=>rfl
|.eg s ts,X,E,cf,e,go,h=>by refine jm (λg x l p h=>?_) e h;refine kE (λh=>?_) l h;refine kC (λx r h=>?_) x h;refine kE (λh=>?_) r h;refine zN (λo n q h=>?_) g h;refine XE (λc k1 p1 h=>?_) o h;refine XE (λc2 k2 p2 h=>?_) x h;obtain⟨h1,h2,h3,h4,h5⟩:=a5 h;cases of_decide_eq_true h1;cases of_decide_eq_true h2;cases of_decide_eq_true h3;exact bo go (Dm go h4 h5) λ_=>rfl
|.xf i f,X,E,cf,e,go,h=>by refine zN (λx n q h=>?_) e h;refine Zq (λx p h=>?_) x h;obtain⟨h,h0⟩:=a2 h;obtain⟨h1,h2,h3⟩:=fU h;cases of_decide_eq_true h0;exact bo go (Fm go h1 h2 h3) λ_=>rfl
|.make c q es,X,E,cf,e,go,h=>by refine jm (λg x l p h=>?_) e h;refine kE (λh=>?_) l h;refine kC (λx r h=>?_) x h;obtain⟨h1,h2,h3⟩:=a3 h;exact bo go (D7 go h1 h2 (We h3) (dM es go h3)) λ_=>rfl
|.aI a c f,X,E,cf,e,go,h=>by refine zN (λx n q h=>?_) e h;obtain⟨h0,h1,h2,h3⟩:=a4 h;cases of_decide_eq_true h0;exact bo go (K0 go h1 h2 (Jc a go h3).1) λ_=>rfl
|.bT a c m q es,X,E,cf,e,go,h=>by refine jm (λg ys l p h=>?_) e h;refine kE (λh=>?_) l h;refine zN (λx n p2 h=>?_) g h;obtain⟨h0,h1,h2,h3,h4,h5,h6⟩:=a7 h;cases of_decide_eq_true h0;revert h3;refine kC (λy ys h6 h3=>?_) ys h6;exact bo go (Dl go h1 h2 (of_decide_eq_true h3) h4 (Jc a go h5).1 (We h6) (dM es go h6)) λ_=>rfl
|.fB a,X,E,cf,e,go,h=>by refine jm (λg ys l p h=>?_) e h;refine kE (λh=>?_) l h;refine kE (λh=>?_) ys h;refine zN (λx n p2 h=>?_) g h;obtain⟨h0,h1,h2,h3⟩:=a4 h;cases of_decide_eq_true h0;exact bo go (NH go h1 h2 (Jc a go h3).1) λ_=>rfl
|.fE f a,X,E,cf,e,go,h=>by refine jm (λg ys l p h=>?_) e h;refine kC (λx r h=>?_) ys h;refine kE (λh=>?_) r h;refine kC (λw r h=>?_) l h;refine kE (λh=>?_) r h;obtain⟨h0,h1,h2,h3,h4,h5⟩:=a6 h;exact bo go (OP go (of_decide_eq_true h0) h1 h2 h3 h4 (Jc a go h5).1) λ_=>rfl
|.dY m a es,X,E,cf,e,go,h=>by refine jm (λg x l p h=>?_) e h;refine kE (λh=>?_) l h;refine kC (λx r h=>?_) x h;refine kE (λh=>?_) r h;refine zN (λo n q h=>?_) g h;obtain⟨h1,h2,h3,h4,h5,h6⟩:=a6 h;cases of_decide_eq_true h1;exact bo go (K5 go h2 h3 h4 (We h6 _ Aa3) (Jc a go h5).1 (dM es go h6)) λ_=>rfl
theorem iA:∀(es:M.Es){X:Cx}{E:XK}{cf:Cf}{xs:List Expr},Go Y F X E k cf->bC cf es xs=k9->PA X xs (kH Y E (M.Gv F es))
|.p,X,E,cf,xs,go,h=>by cases Af7.p h;exact Iq
|.j a es,X,E,cf,xs,go,h=>by refine kC (λx r h=>?_) xs h;obtain⟨h1,h2,h3⟩:=a3 h;exact EK h1 (Jc a go h2).1 (iA es go h3)
theorem dM:∀(es:M.Es){X:Cx}{E:XK}{cf:Cf}{xs:List Expr},Go Y F X E k cf->bC cf es xs=k9->PA X xs (gr Y E (M.Gc F es))
|.p,X,E,cf,xs,go,h=>by cases Af7.p h;exact IJ
|.j a es,X,E,cf,xs,go,h=>by refine kC (λx r h=>?_) xs h;obtain⟨h1,h2,h3⟩:=a3 h;exact Cm h1 (Jc a go h2).1 (dM es go h3)
theorem mX:∀(it:M.It){X:Cx}{E:XK}{cf:Cf}{tg e:Expr},Go Y F X E k cf->eB cf it e=k9->PI X tg e (iu Y E y9 (M.Gk F it))
|.seq a,X,E,cf,tg,e,go,h=>OH go (Jc a go (a2 h).2).1
|.ao a,X,E,cf,tg,e,go,h=>by refine jm (λg x l p h=>?_) e h;refine kE (λh=>?_) l h;refine kC (λx r h=>?_) x h;refine kE (λh=>?_) r h;obtain⟨h1,h2,h3⟩:=a3 h;exact QK go h1 h2 (Jc a go h3).1
|.enum a,X,E,cf,tg,e,go,h=>bB h
|.cJ a,X,E,cf,tg,e,go,h=>bB h
end
end
structure Bs where
 G:Gh
 H:Hp
 h:M.AH
structure bu(Y:Ge)(B:Bs)(G:Gh)(τ:M.Sl)(h:M.AH)(U:St)(H:Hp):Prop where
 st:au Y G τ h U H
 ext:Ext B.G B.H G H
 hr:ah Y B.G B.h B.H
 own:∀i xs a,M.Gn τ i=y0 (.j xs)->U[i]?=y0 (y0 (.j a))->B.H a=u0
open Lake renaming MS.bu.own→Lake.MS.bu.j,MS.bu.ext→Lake.MS.bu.I,MS.bu.st→Lake.MS.bu.p
def bg(Y:Ge)(E:XK)(B:Bs)(o:M.O)(D:gd):Prop:=match o with
|.p τ h=>∀G U H,bu Y B G τ h U H->D.nx U H
|.ret w h=>∀G v H,Ext B.G B.H G H->ah Y G h H->ai Y G H w v->aL [] [] B.H w v->D.rt v H
|.brk τ h=>∀G U H,bu Y B G τ h U H->D.bk U H
|.cont τ h=>∀G U H,bu Y B G τ h U H->D.ct U H
|.exc d h=>∀G H,Ext B.G B.H G H->ah Y G h H->p9 Y E d G H
|.u=>False
def cm(Y:Ge)(E:XK)(m:M.Sl->M.AH->M.O):TS:=λD U H=>∃B G τ h,bu Y B G τ h U H/\bg Y E B (m τ h) D
def PS.imp {st:Stmt}(h:PS X st t)(k:∀D U H,t' D U H->t D U H):PS X st t':=λa s U H D I q=>h a s U H D I (k _ _ _ q)
def dt.imp {st:List Stmt}(h:dt X st t)(k:∀D U H,t' D U H->t D U H):dt X st t':=λa s U H D I q=>h a s U H D I (k _ _ _ q)
section
variable{Y:Ge}{E:XK}{B:Bs}{G G1:Gh}{τ:M.Sl}{h h1:M.AH}{U:St}{H H1:Hp}{D:gd}
def bu.on (s:bu Y B G τ h U H)(e:Ext G H G1 H1)(a:ah Y G1 h1 H1):bu Y B G1 τ h1 U H1:=⟨s.p.ext e a,s.I.trans s.hr e,s.hr,s.j⟩
theorem bg.exc (s:bu Y B G τ h U H)(p:bg Y E B (.exc d h1) D):av Y E G H (.exc d h1) P:=λc a e b=>p c a (s.I.trans s.hr e) b
def Zd(s:bu Y B G τ h U H)(p:bg Y E B ((m τ h).cU f) D)
 (k:∀w v h1 G1 H1,Ext G H G1 H1->bu Y B G1 τ h1 U H1->ai Y G1 H1 w v->aL τ U H w v->bg Y E B (f w h1) D->Q v H1):tD Y E m U H Q:=by
 refine⟨G,τ,h,s.p,?_⟩;cases q:m τ h with
|ok w h1=>rw[q]at p;exactλG1 H1 e a v b c=>k w v h1 G1 H1 e (s.on e a) b c p
|exc d h1=>rw[q]at p;exact bg.exc s p
|fail=>rw[q]at p;exact p
def A9(s:bu Y B G τ h U H)(p:bg Y E B ((m τ h).cU f) D)
 (k:∀b h1 G1 H1,Ext G H G1 H1->bu Y B G1 τ h1 U H1->bg Y E B (f b h1) D->Q b H1):dr Y E m U H Q:=by
 refine⟨G,τ,h,s.p,?_⟩;cases q:m τ h with
|ok w h1=>rw[q]at p;exactλG1 H1 e a=>k w h1 G1 H1 e (s.on e a) p
|exc d h1=>rw[q]at p;exact bg.exc s p
|fail=>rw[q]at p;exact p
theorem bu.set (k:bu Y B G τ h U H)(e:Ext G H G1 H1)(s:bu Y B G1 τ h1 U H1)(r:ai Y G1 H1 w v)(f:aL τ U H w v)(u:∀xs,w≠.p xs):bu Y B G1 (M.GB τ i w) h1 (U.x i (y0 v)) H1:=by
 refine⟨s.p.set r λq j x p e1 m a t z=>?_,s.I,s.hr,λj xs a e1 e2=>?_⟩
 .cases w with
|v d=>cases q
|bor xs=>exact u xs rfl
|own xs=>obtain⟨b,g,l⟩:=f;subst t;cases g;obtain⟨o,n⟩:=k.p.dh e1 m z;rw[l]at n;cases n
 .rw[Xl]at e1;by_cases c:j=i/\i<τ.e
  .rw[if_pos c]at e1;cases e1;obtain⟨rfl,c⟩:=c;rw[Ab6 (by rw[←s.p.len];exact c)]at e2;cases e2;obtain⟨b,g,l⟩:=f;cases g;exact k.I.none k.hr l
  .rw[if_neg c]at e1;have p:=λz=>c ⟨z,by subst z;exact xx e1⟩;rw[Ad0 (Ne.symm p)]at e2;exact s.j j xs a e1 e2
def bu.fz (a:bu Y B G τ h U H)(e:Ext G H G1 H1)(s:bu Y B G1 τ h1 U H1)(r:ai Y G1 H1 w v)(f:aL τ U H w v)(b:w.d=y0 d):∃G2,Ext G H G2 H1/\bu Y B G2 τ h1 U H1/\aC Y G2 H1 d v:=by obtain⟨G2,e2,c,rd,_⟩:=rq e s.p a.p r f b;exact⟨G2,e2,⟨c,a.I.trans a.hr e2,s.hr,s.j⟩,rd⟩
def bu.d9 (s:bu Y B G τ h U H)(r:aC Y G H d v):bu Y B G (M.GB τ i (.v d)) h (U.x i (y0 v)) H:=bu.set s Ext.refl s r trivial λa z=>by cases z
theorem bu.ba:∀{is}{ds}{vs}{τ j}{U},M.ba is ds τ=y0 j->aa Y G H ds vs->bu Y B G τ h U H->bu Y B G j h (hO is vs U) H/\is.e=vs.e
|[],[],_,_,_,_,e,rfl,s=>by cases e;exact⟨s,rfl⟩
|[],_::_,_,_,_,_,e,_,_=>by simp[M.ba]at e
|_::_,[],_,_,_,_,e,_,_=>by simp[M.ba]at e
|i::is,d::ds,_,_,_,_,e,z7,s=>by obtain⟨v,r,rfl,f,a⟩:=z7;obtain⟨b,c⟩:=bu.ba (by simpa[M.ba]using e) a (s.d9 f);exact⟨b,congrArg (·+1) c⟩
def t9(e:M.Gq tg one d τ=y0 τ')(r:aC Y G H d x)(s:bu Y B G τ h U H)(b:∀j,bu Y B G τ' h j H->Q j H):gM Y tg one x U H Q:=by
 cases one with
|true=>
  cases tg with
  |nil=>cases e
  |cons i k=>
   cases k with
  |cons _ _=>cases e
  |nil=>cases e;exact⟨i,rfl,b _ (s.d9 r)⟩
|false=>
  cases d with
|tup l=>obtain⟨a,m,rfl,n,c⟩:=r;obtain⟨f,g⟩:=bu.ba (e) c s;exact⟨G,l,m,a,rfl,n,c,g,b _ f⟩
|_=>cases e
def bu.write (s:bu Y B G τ h U H)(m:M.Gn τ i=y0 (.j xs))(n:U[i]?=y0 (y0 (.j a)))(r:aa Y G H ys us):bu Y B G (M.GB τ i (.j ys)) h U (aE H a (.w us)):=by
 obtain⟨x,of,vs,Z,_⟩:=jt s.p m n;have P:=s.j i xs a m n;have mon:Mon G H G (aE H a (.w us)):=⟨λb o z q=>by rw[Za (λe:b=a=>x (e▸z))];exact q,Aa9 _,λ_ _=>rfl,λ_ z=>z⟩;have X:=xx m;have K:ah Y G h (aE H a (.w us)):=by refine⟨s.p.j.y,λq c e=>⟨(s.p.j.A q c e).1,(s.p.j.A q c e).2.mon mon λo z=>by rw[Za (of q (s.p.j.lt e))];exact z⟩,s.p.j.inj,λb z=>?_⟩;obtain⟨o,q⟩:=s.p.j.j b z;exact⟨o,by rw[Za (λe:b=a=>x (e▸z))];exact q⟩
 refine⟨⟨by rw[Ww];exact s.p.len,λj w e=>?_,λp q O w b F g f R W=>?_,K⟩,⟨λb o q D=>?_,s.I.le,s.I.aU,s.I.new,s.I.fz,s.I.old,λq J z=>?_⟩,s.hr,λj O b g f=>?_⟩
 .rw[Xl]at e;by_cases c:j=i/\i<τ.e
  .rw[if_pos c]at e;cases e;obtain⟨rfl,_⟩:=c;exact⟨.j a,n,a,us,rfl,x,of,zb,r.mon mon⟩
  .rw[if_neg c]at e;have Q:=λz=>c ⟨z,by subst z;exact xx e⟩;obtain⟨v,C,E⟩:=s.p.u j w e;refine⟨v,C,?_⟩;cases w with
|v d=>exact aC.mon mon E
|own T=>obtain⟨b,bs,rfl,V,A,l,I⟩:=E;have t:b≠a:=λz=>s.p.p i j xs _ a (Ne.symm Q) m e rfl n (z▸C);exact⟨b,bs,rfl,V,A,by rw[Za t];exact l,I.mon mon⟩
|bor T=>
    obtain⟨b,bs,rfl,A,l,I⟩:=E;have t:b≠a:=λz=>s.p.p i j xs _ a (Ne.symm Q) m e rfl n (z▸C);refine⟨b,bs,rfl,A,?_,I.mon mon⟩;obtain l|⟨o,l⟩:=l
    .exact .p (by rw[Za t];exact l)
    .exact .u ⟨o,by rw[Za t];exact l⟩
 .rw[Xl]at g f;have y:∃k,M.Gn τ p=y0 (.j k):=by
   by_cases c:p=i/\i<τ.e
   .exact⟨xs,by rw[c.1];exact m⟩
   .rw[if_neg c]at g;exact⟨O,g⟩
  have N:∃u,M.Gn τ q=y0 u/\hF u=true:=by
   by_cases c:q=i/\i<τ.e
   .exact⟨.j xs,by rw[c.1];exact m,rfl⟩
   .rw[if_neg c]at f;exact⟨w,f,R⟩
  obtain⟨k,y⟩:=y;obtain⟨u,N,L⟩:=N;exact s.p.p p q k u b F y N L W
 .rw[Za (λe:b=a=>by rw[e,P]at q;cases q)];exact s.I.p b o q D
 .obtain⟨o,S⟩:=s.I.u q J z;have:B.G.j q≠a:=λe=>by have:=of q (Ab4 J s.I.le);rw[s.I.aU q J]at this;exact this e
  exact⟨o,by rw[Za this];exact S⟩
 .rw[Xl]at g;by_cases c:j=i/\i<τ.e
  .obtain⟨rfl,_⟩:=c;rw[n]at f;cases f;exact P
  .rw[if_neg c]at g;exact s.j j O b g f
theorem JD:∀(xs)(n){d},M.Gf xs=k9->M.Gd d=k9->M.Gf (xs.x n d)=k9
|[],_,_,_,_=>rfl
|x::xs,0,d,h,a=>by have h:=h;rw[Aa0]at h;show(M.Gd d&&M.Gf xs)=k9;rw[a,h.2];rfl
|x::xs,n+1,d,h,a=>by have h:=h;rw[Aa0]at h;show(M.Gd x&&M.Gf (xs.x n d))=k9;rw[h.1,JD xs n h.2 a];rfl
def bu.gq (s:bu Y B G τ h U H)(p:h[r]?=y0 c0)(z:bG Y G (aE H (G.j r) o1) (G.j r) c1):bu Y B G τ (h.x r c1) U (aE H (G.j r) o1):=by
 have t:=(Aa1.p p).1;have g:=s.p.j.lt p;have k:=s.p.j.me g;have mon:Mon G H G (aE H _ o1):=⟨λb o w q=>by rw[Za (λe:b=G.j r=>k (e▸w))];exact q,Aa9 _,λ_ _=>rfl,λ_ w=>w⟩;have n:ah Y G (h.x r c1) (aE H (G.j r) o1):=by
  refine⟨by rw[Ad4];exact s.p.j.y,λq c e=>?_,s.p.j.inj,λb w=>?_⟩
  .by_cases c:q=r
   .subst c;rw[Ab6 t]at e;cases e;exact⟨k,z⟩
   .rw[Ad0 (Ne.symm c)]at e;exact⟨(s.p.j.A q _ e).1,(s.p.j.A q _ e).2.mon mon λo w=>by rw[Za λD=>c (s.p.j.inj q r (s.p.j.lt e) g D)];exact w⟩
  .obtain⟨o,q⟩:=s.p.j.j b w;exact⟨o,by rw[Za (λe:b=G.j r=>k (e▸w))];exact q⟩
 refine⟨⟨s.p.len,λj w e=>?_,s.p.p,n⟩,⟨λb o q i=>?_,s.I.le,s.I.aU,s.I.new,s.I.fz,s.I.old,λq E w=>?_⟩,s.hr,s.j⟩
 .obtain⟨v,u,l⟩:=s.p.u j w e;refine⟨v,u,?_⟩;cases w with
|v d=>exact aC.mon mon l
|own y=>obtain⟨b,bs,rfl,A,f,a,m⟩:=l;exact⟨b,bs,rfl,A,f,by rw[Za (Ne.symm (f r g))];exact a,m.mon mon⟩
|bor y=>
   obtain⟨b,bs,rfl,f,a,m⟩:=l;refine⟨b,bs,rfl,f,?_,m.mon mon⟩;obtain a|⟨o,a⟩:=a
   .exact .p (by rw[Za (Ne.symm (f r g))];exact a)
   .exact .u ⟨o,by rw[Za (Ne.symm (f r g))];exact a⟩
 .have x:b≠G.j r:=λe=>by
   by_cases c:r<B.G.n
   .exact i r c (by rw[←s.I.aU r c];exact e.p)
   .have:=s.I.new r (Nat.not_lt.p c) g;rw[←e,q]at this;cases this
  rw[Za x];exact s.I.p b o q i
 .by_cases c:B.G.j q=G.j r
  .exact⟨_,by rw[c];exact zb⟩
  .obtain⟨o,C⟩:=s.I.u q E w;exact⟨o,by rw[Za c];exact C⟩
def WQ(a:ah Y G h H)(c:r<G.n)(o):Mon G H G (aE H (G.j r) o):=⟨λb o w q=>by rw[Za (λe:b=G.j r=>a.me c (e▸w))];exact q,Aa9 _,λ_ _=>rfl,λ_ w=>w⟩
def bu.cell (s:bu Y B G τ h U H)(a:h[r]?=y0 (.lst xs))(b:M.Gf ys=k9)(z:aa Y G H ys us):bu Y B G τ (h.x r (.lst ys)) U (aE H (G.j r) (.w us)):=
 s.gq a ⟨b,us,zb,z.mon (WQ s.p.j (s.p.j.lt a) _)⟩
def bu.iY (s:bu Y B G τ h U H)(a:h[r]?=y0 (.obj c0 xs))(z:aa Y G H (ys.j (·.2)) us):bu Y B G τ (h.x r (.obj c0 ys)) U (aE H (G.j r) (.ins (Y.j c0) dx0 ((ys.j λp=>Str.ofString p.1).a0 us))):=
 s.gq a ⟨dx0,us,zb,z.mon (WQ s.p.j (s.p.j.lt a) _)⟩
end
structure fX(Y:Ge)(F:M.Fx)(X:Cx)(E:XK)(k:Nat)(cf:Cf):Prop extends Go Y F X E k cf where
 hX:PassesOwn (model X.p X.w) X.A X.j X.xe
 gX:X.stack=X.j::X.outer
 nL:X.j.frame=y0 X.j.p
 ex:X.ex=[]
 mZ:∀c f,cf.cb=true->cf.w.er.w (c,f)=true->lY cf.p (Jd c)=true->(Jd c==("__debug__":Str))=false->gZ Y c/\mB Y.K (Y.j c) (Jd f)/\∀(np k7 pos:Pos)(e:Expr)(t:TA),PA X [e] t->Qb e=true→
  PS X (.Raise (y0 (.x (.j (Jd c) np) [e] [] k7)) u0 pos) (Bo (Y.j c) (Jd f) E t)
 fT:∀c,cf.fT.w c=true->PySem.W.mroIn X.K (Y.j c) (.p "BaseException")=some true/\cf.j.w c=true/\2<=k
section
open Lake renaming MS.aa.length→Lake.MS.aa.e
variable{Y:Ge}{F:M.Fx}{X:Cx}{E:XK}{k:Nat}{cf:Cf}
def QH(h:qG cf i x=k9):cf.N[i]?=y0 x/\kB cf.p x=true:=by simpa[qG]using h
def WP(h:z0 cf i x=k9):cf.N[i]?=y0 x/\cf.p.j.p x=y0 .local:=by simpa[z0]using h
def Hu(r:tD Y E (M.eval F (.a4 a)) U H Q):tD Y E (M.eval F a) U H Q:=by
 obtain⟨G,A,h,s,p⟩:=r;refine Xa s.j Ext.refl s p λw v1 c f y e1 u i x n b=>?_;cases w with
|own e=>
  obtain⟨l,B,rfl,t,q,m,o⟩:=x;obtain⟨z,k,j⟩:=n;cases k;have b:av Y E G H (if M.Gf e=k9 then M.ak _ (c++[.lst e])else .u) _:=b;by_cases g:M.Gf e=k9;rotate_left
  .rw[if_neg g]at b;exact b.j
  rw[if_pos g]at b;refine av.val b (zA e1 j) (jX i.j t q m o g) ?_ trivial;show c.e<f.n+1/\V.ref l=.j (if c.e=f.n then l else f.j c.e);rw[i.j.y,if_pos rfl];exact⟨Af9 _,rfl⟩
|v d=>exact b.j
|bor e=>exact b.j
def Wh(h:wC v=k9):swapsWith v t l env=pure false:=by
 cases v<;>first|rfl|(simp[wC]at h)
def QO:swapsWith v (y0 (.p o n p)) l env=pure false:=by cases v<;>rfl
def QW(b:Go Y F X E k cf)(a:qG cf i x=k9)(e:PE X v (tD Y E (M.eval F m)))(c:swapsWith v (y0 (.j x p)) pos.p X.j=pure y9):
 PS X (.j [.j x p] v pos) (iO (tD Y E (M.eval F m)) (XY i)):=by
 obtain⟨d,f⟩:=QH a;have a:=b.g6 x f;exact B9 (by rw[b.N];exact b.nd) (by rw[b.N];exact d) a.1 e c a.2
noncomputable def uq:M.E->Bool
|.a4 _=>k9
|.N ..=>k9
|_=>y9
def NB(h:Zc cf m v=k9)(a:uq m=y9):wC v=true:=by
 cases v with
|ListComp _ _ _ _=>cases m<;>first|exact bB h|(exact absurd (a) Aq4)
|SetComp _ _ _ _=>cases m<;>first|exact bB h|(exact absurd (a) Aq4)
|DictComp _ _ _ _ _=>cases m<;>first|exact bB h|(exact absurd (a) Aq4)
|_=>rfl
def Hw(d:Cf)(a:Bool)(b:List Expr)(c:M.E):Bool:=bif a then(lC b λz r=>kZ r (fY c&&Zc d c z))else b.y
def K4(h:Zc cf (.N tg one kk aD it y7 c elt) v=k9):∃y t iter ifs scope p0,v=.A y [⟨t,iter,ifs,0⟩] scope p0∧
 lQ cf scope (Wy cf t aD) kk aD/\(∀i∈tg,i<kk)/\jg {cf with sc:=scope,N:=Wy cf t aD} tg one t=k9/\eB cf it iter=k9/\Zc {cf with sc:=scope,N:=Wy cf t aD} elt y=k9∧
 Hw {cf with sc:=scope,N:=Wy cf t aD} y7 ifs c=true:=by
 refine vN (λy g s p h=>kC (λg r h=>?_) g h) v h;obtain⟨t,iter,ifs,z⟩:=g;obtain⟨e,b,a,d,j,k,f⟩:=a7 h;obtain⟨rfl,rfl⟩:=of_decide_eq_true e;simp[decide_eq_true_eq]at a;exact⟨y,t,iter,ifs,s,p,rfl,XL b,a,d,j,k,f⟩
def Mw(e:Go Y F X E k cf)(n:qG cf i x=k9)(h:Zc cf (.N tg one kk aD it y7 c elt) v=k9):
 PS X (.j [.j x p] v pos) (iO (tD Y E (M.eval F (.N tg one kk aD it y7 c elt))) (XY i)):=by
 obtain⟨y,t,j,d,a,D,rfl,l,J,w,u,L,q⟩:=K4 h;obtain⟨b,o⟩:∃b,swapsWith (.A y [⟨t,j,d,0⟩] a D) (y0 (.j x p)) pos.p X.j=pure b:=⟨_,rfl⟩;cases b with
|false=>exact QW e n ((Jc _ e h).1) o
|true=>
  obtain⟨A,K⟩:=QH n;have O:∀C g s H,iD (Qe X _ a C g s H) d (dr Y E0 (lO F y7 c)):=λC g s H=>by
   cases y7 with
|true=>exact kC (λz r h=>kE (λh=>vL ((Jc c (jE e l C g s H) (a2 h).2).2 (a2 h).1)) r h) d q
|false=>cases Af7.p q;rintro f B U m Q I ⟨G,P,h,N,p⟩;exact vW f B U m Q I (p G m Ext.refl N.j)
  exact IT e A K o l (wI l.aD) w J (ZW u) (mX it e u) (λC g s H=>(Jc elt (jE e l C g s H) L).1) O
def Xb(a:Go Y F X E k cf)(b:qG cf i x=k9)(h:Zc cf m v=k9)(c:uq m=y9):PS X (.j [.j x p] v pos) (iO (tD Y E (M.eval F m)) (XY i)):=
 QW a b (Jc m a h).1 (Wh (NB h c))
theorem r6(c:Go Y F X E k cf)(b:qG cf i x=k9):∀m,Zc cf m v=k9->PS X (.j [.j x p] v pos) (iO (tD Y E (M.eval F m)) (XY i))
|.a4 a,h=>PS.imp (r6 c b a h) λD U H q=>Hu q
|.N ..,h=>Mw c b h
|.dC,h=>Xb c b h rfl
|.fh ..,h=>Xb c b h rfl
|.de ..,h=>Xb c b h rfl
|.eO _,h=>Xb c b h rfl
|.gF ..,h=>Xb c b h rfl
|.X _,h=>Xb c b h rfl
|.con _,h=>Xb c b h rfl
|.int _,h=>Xb c b h rfl
|.bl _,h=>Xb c b h rfl
|.aw,h=>Xb c b h rfl
|.str _,h=>Xb c b h rfl
|.tup _,h=>Xb c b h rfl
|.lst _,h=>Xb c b h rfl
|.bin ..,h=>Xb c b h rfl
|.cmp ..,h=>Xb c b h rfl
|.a2 ..,h=>Xb c b h rfl
|.fR ..,h=>Xb c b h rfl
|.neg _,h=>Xb c b h rfl
|.inv _,h=>Xb c b h rfl
|.not _,h=>Xb c b h rfl
|.and ..,h=>Xb c b h rfl
|.or ..,h=>Xb c b h rfl
|.j ..,h=>Xb c b h rfl
|.bi ..,h=>Xb c b h rfl
|.cG ..,h=>Xb c b h rfl
|.bQ ..,h=>Xb c b h rfl
|.ix ..,h=>Xb c b h rfl
|.sl ..,h=>Xb c b h rfl
|.fL ..,h=>Xb c b h rfl
|.fM ..,h=>Xb c b h rfl
|.cy _,h=>Xb c b h rfl
|.eg ..,h=>Xb c b h rfl
|.dY ..,h=>Xb c b h rfl
|.xf ..,h=>Xb c b h rfl
|.make ..,h=>Xb c b h rfl
|.aI ..,h=>Xb c b h rfl
|.bT ..,h=>Xb c b h rfl
|.fB ..,h=>Xb c b h rfl
|.fE ..,h=>Xb c b h rfl
def ML(o:Go Y F X E k cf)(l:qG cf i x=k9)(h:Zc cf m v=k9):PS X (.j [.j x p] v pos) (cm Y E (M.exec F (.set i m))):=by
 refine PS.imp (r6 o l m h) λD U H n=>?_;obtain⟨B,G,t,h,s,p⟩:=n;refine Zd s p λw v r g b e1 e j c a=>?_;cases w with
|bor f=>exact a.j
|v d=>exact a g _ b (bu.set s e1 e j c λf z=>by cases z)
|own q=>exact a g _ b (bu.set s e1 e j c λf z=>by cases z)
def Er(o:Go Y F X E k cf)(c:qG cf i x=k9)(h:Zc cf m v=k9):PS X (.j [.j x p] v pos) (cm Y E (M.exec F (.af i m))):=by
 refine PS.imp (r6 o c m h) λD U H n=>?_;obtain⟨B,G,u,h,s,p⟩:=n;refine Zd s p λw v r t b e1 g l f a=>?_;cases q:w.d with
|none=>rw[q]at a;exact a.j
|some d=>rw[q]at a;obtain⟨e,e2,j,rd⟩:=bu.fz s e1 g l f q;exact a e _ b (j.d9 rd)
def Z5:swapsWithSole [.C ts n p] v l env=pure false:=by cases v<;>rfl
def xL(h:xk v=k9):swappedStores [.C ts n p] v env=pure none:=by
 cases v<;>first|rfl|(simp[xk]at h)
def Hd(f:Go Y F X E k cf)(y:rB cf is ts=k9)(o:xk v=k9)(h:Zc cf m v=k9):PS X (.j [.C ts n p] v pos) (cm Y E (M.exec F (.fv is m))):=by
 refine PS.imp (W0 (Jc m f h).1 (Jx f (one:=y9) y) Z5 (xL o) rfl) λD U H x=>?_;obtain⟨B,G,e,h,s,p⟩:=x;refine Zd s p λw v j t g e1 r u z a=>?_;cases w with
|v d=>
  cases d with
  |tup c=>
   have a:bg Y E B (match M.ba is c e with|some b=>.p b j|none=>.u) D:=a;cases q:M.ba is c e with
   |none=>rw[q]at a;exact a.j
   |some b=>rw[q]at a;exact t9 (show M.Gq is y9 (.u c) e=y0 b from q) u r λl i=>a t l g i
  |_=>exact a.j
|own _=>exact a.j
|bor _=>exact a.j
def wL:swapsWithSole [.u x y p] v l env=pure false:=by cases v<;>rfl
def xE:swappedStores [.u x y p] v env=pure none:=by cases v<;>rfl
def ZR(a:Wc y=k9)(v):assign (.u x y p) env v=(do
 let i←holding [v] (eval x env);let j←holding [v,i] (eval y env)
 standAt p
 holding [v,i,j] (setItem i j v)
 release [v,i,j] []):=by
 cases y<;>first|rfl|(simp[Wc]at a)
def XT(a:M.Ko d=k9)(z:aC Y G H d v):aC Y G' H' d v:=by
 cases d with
|aw=>exact z
|bl _=>exact z
|int _=>exact z
|str _=>exact z
|_=>exact absurd (a) Ab9
def zO(a:M.Ko d=k9):M.Gd d=true:=by
 cases d<;>first|rfl|exact absurd (a) Ab9
def Hq(e:Go Y F X E k cf)(L:Wc y=k9)(A:Zc cf o x=k9)(l:Zc cf kx y=k9)(h:Zc cf m v=k9):PS X (.j [.u x y p] v pos) (cm Y E (M.exec F (.b5 o kx m))):=by
 refine PS.imp (W0 (Jc m e h).1 (nV (Jc o e A).1 (Jc kx e l).1 WT (ZR L)) wL xE rfl) λD U H Q=>?_;obtain⟨B,G,τ,h,s,p⟩:=Q;refine Zd s p λw v W G1 T e1 u P f1 K=>Zd u K λow ov h2 Z H2 e2 i z f2 t=>Zd i t λkw V h3 f I O b C f3 a=>?_;unfold M.Kv at a;split at a
 .rename_i d r j;split at a
  .rename_i c q;split at a
   .rename_i n J;split at a
    .rename_i g;obtain⟨h4,N⟩:=(ai.ext O i.p.j z);subst N;cases(C);have rd:aC Y f I d v:=XT g P;obtain⟨_,S,R,rv⟩:=b.p.j.cell r c q;refine⟨_,S,j,n,rfl,rfl,R,by rw[←rv.e];exact J,?_⟩;exact a f U _ (b.cell q (JD c n (b.p.j.pure r c q) (zO g)) (aa.set rd n rv))
    .exact a.j
   .exact a.j
  .exact a.j
 .exact a.j
def Dn(h:M.gR w=y0 (a,b)):w=.v (.u [a,b]):=by
 unfold M.gR at h;split at h
 .cases h;rfl
 .cases h
def MF(f:Go Y F X E k cf)(hy:Wc y=k9)(P:xk v=k9)(z:(cf.cb&&qG cf j a)=k9)(ho:Zc cf o x=k9)(hk:Zc cf kx y=k9)(h:Zc cf m v=k9):PS X (.j [.C [.u x y p,.j a pa] n pt] v pos) (cm Y E (M.exec F (.gD o kx j m))):=by
 obtain⟨j1,j2⟩:=QH (a2 z).2;have A:=f.g6 a j2;refine PS.imp (W0 (Jc m f h).1 (yz (f.x (a2 z).1) (WS (nV (Jc o f ho).1 (Jc kx f hk).1 WT (ZR hy)) (WS (Q8 (by rw[f.N];exact f.nd) (by rw[f.N];exact j1) A.1 A.2) yW))) Z5 (xL P) rfl) λD U H qq=>?_;obtain⟨B,G,Z,h,s,p⟩:=qq;refine Zd s p λw v h1 G1 H1 e1 Q r1 f1 g=>?_;cases u:M.gR w with
|none=>rw[u]at g;exact g.j
|some dd=>
  obtain⟨I,d2⟩:=dd;rw[u]at g;cases Dn u;obtain⟨b,L,rfl,S,v1,r',rfl,z3,v2,T,rfl,z4,rfl⟩:=(r1);refine⟨b,[v1,v2],rfl,f.K▸S.sq,rfl,v1,[v2],rfl,?_⟩;refine Zd Q g λow ov h2 G2 H2 e2 C R f2 p2=>?_;refine Zd C p2 λN iv O J H3 W i r3 f3 e=>?_;split at e;rotate_left
  .exact e.j
  rename_i t;cases c:M.Kv (.v I) ow N Z O with
|next τ' h'=>
   rw[c]at e;unfold M.Kv at c;split at c
   .rename_i d r j' e1;cases e1;split at c
    .rename_i l q;split at c
     .rename_i n qn;split at c
      .rename_i K;cases c;obtain⟨h4,V⟩:=(ai.ext W C.p.j R);subst V;cases(r3);have rd:aC Y J H3 I v1:=XT K z3;obtain⟨_,L,hv,rv⟩:=i.p.j.cell r l q;refine⟨_,L,j',n,rfl,rfl,hv,by rw[←rv.e];exact qn,?_⟩;have s4:=i.cell q (JD l n (i.p.j.pure r l q) (zO K)) (aa.set rd n rv);exact⟨v2,[],rfl,rfl,e J _ _ (s4.d9 (XT t z4))⟩
      .cases c
     .cases c
    .cases c
   .cases c
|ret _ _=>rw[c]at e;exact e.j
|brk _ _=>rw[c]at e;exact e.j
|cont _ _=>rw[c]at e;exact e.j
|exc _ _=>rw[c]at e;exact e.j
|fail=>rw[c]at e;exact e.j
def uA(h:WY cf i m e k7=k9):∃x p apos,e=.p (.j x p) m apos/\cf.N[i]?=y0 x/\zT cf.p x=k9/\bp x=k9/\(apos.j==k7.p)=true:=by refine zN (λx n q h=>Zq (λx p h=>?_) x h) e h;obtain⟨h,f,d⟩:=a3 h;obtain⟨a,c,b⟩:=fU h;cases of_decide_eq_true f;exact⟨_,_,_,rfl,a,c,b,d⟩
def BZ(n:Go Y F X E k cf)(L:WY cf i "append" f k7=true)(l:Qb v=true)(h:Zc cf m v=true):PS X (.Expr (.x f [v] [] k7) pos) (cm Y E (M.exec F (.app i m))):=by
 obtain⟨x,p,t,rfl,g,O,c,Q⟩:=uA L;unfold bp at c;rw[Aa0]at c;have pv:=zy (pos:=p) (by rw[n.N];exact g) (n.gA x O) (by simpa using c.1) (by simpa using c.2);refine PS.imp (pM (AB PySem.F.plainAttrs_list PySem.F.slot_list_append PySem.F.type_list_append BQ pv (Xe (Jc m n h).1 Qm (Zb l)) rfl (by rw[Zb l];rfl) Q (Zb l) rfl) (Wh rfl)) λD U H T=>?_;obtain⟨B,G,R,h,s,p⟩:=T;rw[M.exec]at p;cases q:M.Gn R i with
|none=>rw[q]at p;exact p.j
|some P=>
  rw[q]at p;cases P with
|v d=>exact p.j
|bor e=>exact p.j
|own e=>
   obtain⟨v0,j,a,V,rfl,z2,z3,A,z5⟩:=s.p.u i _ q;refine⟨.j a,j,.p ⟨rfl,V,bA.of A⟩,Zd s p λw v g G1 W e1 N S J b=>?_⟩;cases o:w.d with
|none=>rw[o]at b;exact b.j
|some d=>
    rw[o]at b;obtain⟨I,e2,y,rd⟩:=bu.fz s e1 N S J o;have b:bg Y E B (if e.e<M.bq then .p _ g else .u) D:=b;by_cases r:e.e<M.bq
    .rw[if_pos r]at b;obtain⟨Z,of,C,K,z⟩:=jt y.p q j;have u:=z.e;exact⟨a,C,v,rfl,rfl,K,by have:=qk;lia,b I U _ (y.write q j (z.append ⟨v,[],rfl,rd,rfl⟩))⟩
    .rw[if_neg r]at b;exact b.j
def D2(u:Go Y F X E k cf)(P:WY cf i "extend" f k7=true)(t:Qb v=true)(h:Zc cf m v=true):PS X (.Expr (.x f [v] [] k7) pos) (cm Y E (M.exec F (.ext i m))):=by
 obtain⟨x,p,A,rfl,l,Q,g,S⟩:=uA P;unfold bp at g;rw[Aa0]at g;have pv:=zy (pos:=p) (by rw[u.N];exact l) (u.gA x Q) (by simpa using g.1) (by simpa using g.2);refine PS.imp (pM (AB PySem.F.plainAttrs_list PySem.F.slot_list_extend PySem.F.type_list_extend FP pv (Xe (Jc m u h).1 Qm (Zb t)) rfl (by rw[Zb t];rfl) S (Zb t) rfl) (Wh rfl)) λD U H Z=>?_;obtain⟨B,G,V,h,s,p⟩:=Z;rw[M.exec]at p;cases q:M.Gn V i with
|none=>rw[q]at p;exact p.j
|some R=>
  rw[q]at p;cases R with
|v d=>exact p.j
|bor j=>exact p.j
|own j=>
   obtain⟨v0,n,a,vs,rfl,z2,z3,L,z5⟩:=s.p.u i _ q;refine⟨.j a,n,.p ⟨rfl,vs,bA.of L⟩,Zd s p λw v l T H1 e1 I W f1 c=>?_⟩;cases w with
|v d=>exact c.j
|bor r=>exact c.j
|own r=>
    obtain⟨b,o,rfl,_,_,N,e⟩:=W;have c:bg Y E B (if j.e+r.e<M.bq then .p _ l else .u) D:=c;by_cases z:j.e+r.e<M.bq
    .rw[if_pos z]at c;obtain⟨nf,of,K,O,J⟩:=jt I.p q n;have C:=J.e;have y:=e.e;exact⟨a,b,K,o,rfl,rfl,O,N,by have:=qk;lia,c T U _ (I.write q n (J.append e))⟩
    .rw[if_neg z]at c;exact c.j
def N1(a:Go Y F X E k cf)(h1:cf.N[i]?=y0 x)(y:zT cf.p x=k9)(u:bp x=k9)(g:cf.w.fl.w (c,f)=k9)(h:Zc cf m v=k9):PS X (.j [.p (.j x j) (Jd f) p2] v pos) (cm Y E (M.exec F (.bO i c f m))):=by
 refine PS.imp (sH (Xp a h1 y u) (Jc m a h).1 QO) λD U H L=>?_;obtain⟨B,G,J,h,s,p⟩:=L;refine Zd s p λw v h1 l P e1 b K T j=>?_;cases w with
|own _=>exact j.j
|bor _=>exact j.j
|v d=>
  cases q:M.G6 h1 (M.Gn J i)with
|none=>rw[q]at j;exact j.j
|some o=>
   obtain⟨r,I,fs⟩:=o;rw[q]at j;dsimp only at j;split at j
   .rename_i A;obtain⟨rfl,Q⟩:=A;obtain⟨e2,n⟩:=zJ q;obtain⟨R,t,S,z,C⟩:=b.p.j.obj r _ fs n;obtain⟨O,e,N⟩:=ZU (K) C;refine⟨_,A5 b.p q,l.j r,Y.j I,t,_,rfl,z,(a.fld _ _ g).1,(a.fld _ _ g).2,?_,?_⟩
    .rw[Al7,Aa];lia
    .rw[N];exact j l U _ (b.iY n e)
   .exact j.j
def Z1(a:Go Y F X E k cf)(h1:cf.N[i]?=y0 x)(C:zT cf.p x=k9)(z:bp x=k9)(n:cf.w.fl.w (c,f)=k9)(h:Zc cf m v=k9):PS X (.j [.p (.j x j) (Jd f) p2] v pos) (cm Y E (M.exec F (.bY i c f m))):=by
 refine PS.imp (sH (Xp a h1 C z) (Jc m a h).1 QO) λD U H P=>?_;obtain⟨B,G,N,h,s,p⟩:=P;refine Zd s p λw v h1 Z S e1 A O u j=>?_;cases g:w.d with
|none=>rw[g]at j;exact j.j
|some d=>
  rw[g]at j;obtain⟨l,e2,b,rd⟩:=bu.fz s e1 A O u g;cases q:M.G6 h1 (M.Gn N i)with
|none=>rw[q]at j;exact j.j
|some o=>
   obtain⟨r,L,fs⟩:=o;rw[q]at j;dsimp only at j;split at j
   .rename_i J;obtain⟨rfl,hd,T⟩:=J;obtain⟨e2,t⟩:=zJ q;obtain⟨V,y,W,I,K⟩:=b.p.j.obj r _ fs t;obtain⟨R,e,Q⟩:=ZU rd K;refine⟨_,A5 b.p q,l.j r,Y.j L,y,_,rfl,I,(a.fld _ _ n).1,(a.fld _ _ n).2,?_,?_⟩
    .rw[Al7,Aa];lia
    .rw[Q];exact j l U _ (b.iY t e)
   .exact j.j
def L8(l:Go Y F X E k cf)(h1:cf.N[i]?=y0 x)(z:zT cf.p x=k9)(J:bp x=k9)(Q:Wc y=k9)(C:Zc cf kx y=k9)(h:Zc cf m v=k9):PS X (.j [.u (.j x p) y p2] v pos) (cm Y E (M.exec F (.cI i kx m))):=by
 refine PS.imp (W0 (Jc m l h).1 (nV (Xp l h1 z J) (Jc kx l C).1 Ez (ZR Q)) wL xE rfl) λD U H T=>?_;obtain⟨B,G,R,h,s,p⟩:=T;refine Zd s p λw v h1 G1 V e1 g S f1 c=>?_;cases q:M.GV h1 (M.Gn R i)with
|none=>rw[q]at c;exact c.j
|some P=>
  obtain⟨W,N⟩:=P;rw[q]at c;have sl:=(Qp g.p q).1;refine⟨_,sl,Zd g c λkw Z z I H2 e2 e K f2 p2=>?_⟩;split at p2
  .rename_i d t r ks j;split at p2
   .rename_i A;obtain⟨u,O,us,L,o⟩:=Qp e.p j;have f:=by rw[sl]at u;exact Ad6.inj (Ad6.inj u)
    cases K;obtain⟨n,a,b⟩:=D6 ((S).ext e2 g.p.j) o;refine⟨aK t,_,_,rfl,f,L,by rw[DW o];have:=qk;lia,?_⟩;rw[b];exact p2 I U _ (e.gq (wS j).2 ⟨Cz A.2 O,n,zb,a.mon (WQ e.p.j (e.p.j.lt (wS j).2) _)⟩)
   .exact p2.j
  .exact p2.j
def Oe(e:Go Y F X E k cf)(h1:cf.N[i]?=y0 x)(l:zT cf.p x=k9)(c:bp x=k9)(L:Wc y=k9)(u:Zc cf kx y=k9)(h:Zc cf m v=k9):PS X (.j [.u (.j x p) y p2] v pos) (cm Y E (M.exec F (.eu i kx m))):=by
 unfold bp at c;rw[Aa0]at c;have pv:=zy (pos:=p) (by rw[e.N];exact h1) (e.gA x l) (by simpa using c.1) (by simpa using c.2);refine PS.imp (W0 (Jc m e h).1 (nV pv (Jc kx e u).1 WT (ZR L)) wL xE rfl) λD U H P=>?_;obtain⟨B,G,N,h,s,p⟩:=P;refine Zd s p λw v h1 G1 Q e1 g O V b=>?_;cases q:M.Gn N i with
|none=>rw[q]at b;exact b.j
|some J=>
  rw[q]at b;cases J with
|v d=>exact b.j
|bor t=>exact b.j
|own t=>
   obtain⟨v0,f,a,vs,rfl,z2,z3,T,W⟩:=g.p.u i _ q;refine⟨.j a,f,Zd g b λZ S l A H2 e2 o I f2 p2=>?_⟩;split at p2
   .rename_i d j;split at p2
    .rename_i n K;cases(I);obtain⟨R,of,z,C,r⟩:=jt o.p q f;refine⟨_,z,j,n,rfl,rfl,C,by rw[←r.e];exact K,?_⟩;exact p2 A U _ (o.write q f (aa.set ((O).ext e2 g.p.j) n r))
    .exact p2.j
   .exact p2.j
end
section
variable{Y:Ge}{E:XK}{B:Bs}{G:Gh}{τ:M.Sl}{h:M.AH}{U:St}{H:Hp}{D:gd}
def BU(c:M.Gn τ i=y0 (.j xs))(b:U[i]?=y0 (y0 (.j a))):zo τ U H a=none:=by unfold zo;rw[if_pos ⟨i,xs,c,b⟩]
def uL(e:zo τ U H a=y0 o):H a=y0 o:=by
 unfold zo at e;split at e
 .cases e
 .exact e
def LY(s:au Y G τ h U H):ah Y G h (zo τ U H) where
 len:=s.j.y
 any:=λr c e=>⟨(s.j.A r c e).1,(s.j.A r c e).2.mon (xA s) λo z=>by rw[Ql (by rintro⟨i,f,d,b⟩;exact(jt s d b).2.1 r (s.j.lt e) rfl)];exact z⟩
 inj:=s.j.inj
 live:=λa z=>by obtain⟨o,q⟩:=s.j.j a z;exact⟨o,by rw[Ql (by rintro⟨i,f,d,b⟩;exact(jt s d b).1 z)];exact q⟩
def lX(G:Gh)(τ:M.Sl)(h:M.AH)(U:St)(H:Hp):Bs:=⟨G,zo τ U H,h⟩
def xI(s:bu Y B G τ h U H):Ext B.G B.H G (zo τ U H) where
 keep:=λa o e f=>by rw[Ql λ⟨i,b,c,d⟩=>by rw[s.j i b a c d]at e;cases e];exact s.I.p a o e f
 le:=s.I.le
 aU:=s.I.aU
 new:=s.I.new
 fz:=s.I.fz
 old:=s.I.old
 cells:=λr j z=>by obtain⟨o,q⟩:=s.I.u r j z;refine⟨o,?_⟩;rw[Ql λg=>by obtain⟨i,b,c,d⟩:=g;obtain⟨u,z⟩:=z;rw[s.j i b _ c d]at z;cases z];exact q
def CW(s:bu Y B G τ h U H):bu Y (lX G τ h U H) G τ h U H where
 st:=s.p
 ext:=⟨λa o e _=>uL e,Aa9 _,λ_ _=>rfl,λr h1 h2=>absurd h1 (Ao1.u h2),λ_ z=>z,λ_ z=>.p z,by rintro r hr⟨o,z⟩;exact⟨o,uL z⟩⟩
 hr:=LY s.p
 own:=λi xs a e1 e2=>BU e1 e2
def zR(s:bu Y B G τ h U H)(b:bu Y (lX G τ h U H) G2 τ2 h2 U2 H2):bu Y B G2 τ2 h2 U2 H2:=
 ⟨b.p,(xI s).trans s.hr b.I,s.hr,λi c a e1 e2=>(xI s).none s.hr (b.j i c a e1 e2)⟩
def F5(s:bu Y B G τ h U H)(p:bg Y E B o D):bg Y E (lX G τ h U H) o D:=by
 cases o with
|next j k=>exactλc i b g=>p c i b (zR s g)
|brk j k=>exactλc i b g=>p c i b (zR s g)
|cont j k=>exactλc i b g=>p c i b (zR s g)
|ret w k=>
  refineλc v b e l r f=>p c v b ((xI s).trans s.hr e) l r ?_;cases w with
  |v d=>trivial
  |own q=>obtain⟨a,m,n⟩:=f;exact⟨a,m,(xI s).none s.hr n⟩
  |bor q=>exact f
|exc d k=>exactλc b e l=>p c b ((xI s).trans s.hr e) l
|fail=>exact p
end
section
variable{Y:Ge}{F:M.Fx}{X:Cx}{E:XK}{k:Nat}{cf:Cf}
def CL.hide (s:au Y G τ h U H)(c:CL Y ds l vs G H)(b:¬∃i xs,M.Gn τ i=y0 (.j xs)/\U[i]?=y0 (y0 (.j l))):CL Y ds l vs G (zo τ U H):=by
 obtain⟨a,d⟩:=c;refine⟨?_,d.mon (xA s)⟩;obtain⟨a,e⟩|a:=a
 .refine .p ⟨?_,e⟩;obtain a|⟨o,a⟩:=a
  .exact .p (by rw[Ql b];exact a)
  .exact .u ⟨o,by rw[Ql b];exact a⟩
 .exact .u a
def CL.i5 (s:au Y G τ h U H)(a:kX Y G H l vs)(b:aa Y G H ds vs):CL Y ds l vs G (zo τ U H):=by
 refine⟨?_,b.mon (xA s)⟩;obtain a|a:=a
 .exact(CL.hide s ⟨.p ⟨a.2,s.j.off a.1⟩,b⟩ (by rintro⟨j,e,d,c⟩;exact(jt s d c).1 a.1)).1
 .exact .u a
def CT.hide (s:au Y G τ h U H)(c:CT Y ds l vs G H):CT Y ds l vs G (zo τ U H):=⟨c.1.mon (xA s),c.2.mon (xA s)⟩
def zX(h:M.GJ a=y0 i):a=.X i:=by
 cases a<;>first|(cases h;rfl)|cases h
def OJ(h:Zc cf (.X i) e=k9):∃x p,e=.j x p/\cf.N[i]?=y0 x/\zT cf.p x=k9/\bp x=true:=by exact Zq (λx p h=>⟨_,_,rfl,fU h⟩) e h
def uo(b:Go Y F X E k cf)(h:Zc cf (.X i) e=k9):PE X e (nI i):=by obtain⟨x,p,rfl,c,d,a⟩:=OJ h;unfold bp at a;rw[Aa0]at a;exact zy (by rw[b.N];exact c) (b.gA x d) (by simpa using a.1) (by simpa using a.2)
def NT(s:au Y G τ h U H)(e:M.Gn τ i=y0 w)(n:w=.v (.w xs)\/w=.p xs):
 ∃l vs,U[i]?=y0 (y0 (.j l))/\CL Y xs l vs G H/\CL Y xs l vs G (zo τ U H):=by
 obtain⟨v,e2,r⟩:=s.u i w e;obtain rfl|rfl:=n
 .obtain⟨l,vs,rfl,b,a⟩:=r;exact⟨l,vs,e2,⟨b.rT s.j,a⟩,CL.i5 s b a⟩
 .obtain⟨l,vs,rfl,b,a,m⟩:=r;have c:CL Y xs l vs G H:=⟨.p ⟨a,b⟩,m⟩;refine⟨l,vs,e2,c,c.hide s λ⟨j,k,d,g⟩=>?_⟩;have f:j≠i:=λz=>by rw[z,e]at d;cases d
  exact s.p j i k _ l f d e rfl g e2
def X6(i:au Y G0 τ h0 U H0)(s:au Y G τ h U H)(r:ai Y G H w v)(f:aL τ U H0 w v)(p:w=.v (.w xs)\/w=.j xs):
 ∃l vs,v=.j l/\CL Y xs l vs G H/\CL Y xs l vs G (zo τ U H):=by
 obtain rfl|rfl:=p
 .obtain⟨l,vs,rfl,b,a⟩:=r;exact⟨l,vs,rfl,⟨b.rT s.j,a⟩,CL.i5 s b a⟩
 .obtain⟨l,vs,rfl,b,a,g,k⟩:=r;obtain⟨t,e,n⟩:=f;cases e;have c:CL Y xs l vs G H:=⟨.p ⟨.p g,a⟩,k⟩;refine⟨l,vs,rfl,c,c.hide s λ⟨j,q,m,d⟩=>?_⟩;obtain⟨o,z⟩:=i.dh m rfl d;rw[n]at z;cases z
def L6(j:Go Y F X E k cf)(N:Zc cf a e=k9):PI X tg e (iu Y E k9 (M.Gs F (.seq a))):=by
 cases q:M.GJ a with
|some i=>
  cases zX q;refine PI.imp (sx (uo j N)) λU H R L=>?_;obtain⟨G,r,h,s,p⟩:=L;have p:av Y E G H (M.R.of h ((M.Gn r i).p M.lJ)) λu _ n f=>∀J C,XU Y J u C->C n f->(k9=k9->C n (zo r U f))->R J f:=p;cases y:M.Gn r i with
  |none=>rw[y]at p;exact p.j
  |some w=>
   rw[y]at p;have lst:∀{b},(w=.v (.w b)\/w=.p b)->av Y E G H (.j b h) (λu _ n f=>∀J C,XU Y J u C->C n f->(k9=k9->C n (zo r U f))->R J f)→
    ∃v,U[i]?=y0 (y0 v)/\((∃a,v=.j a/\(∃b,bA X.K H a b)/\R (l9 X.K a) H)\/∃a,v=.j a/\(∃b,cY X.K H a b)/\R (lK X.K a) H):=λ{b} B p=>by
    obtain⟨l,m,e2,x,A⟩:=NT s y B;exact⟨_,e2,.p ⟨l,rfl,⟨m,j.K▸x.1.sq⟩,p G H Ext.refl s.j _ _ (CL.walk j.K) x λ_=>A⟩⟩
   cases w with
  |v d=>
    cases d with
    |lst b=>exact lst (.p rfl) p
    |tup b=>obtain⟨v,e2,l,m,rfl,t,D⟩:=s.u i _ y;have c:CT Y b l m G H:=⟨t,D⟩;exact⟨_,e2,.u ⟨l,rfl,⟨m,j.K▸t.sq⟩,p G H Ext.refl s.j _ _ (CT.walk j.K) c λ_=>c.hide s⟩⟩
    |aw=>exact p.j
    |bl _=>exact p.j
    |int _=>exact p.j
    |str _=>exact p.j
    |ref _=>exact p.j
    |err _ _ _=>exact p.j
  |bor b=>exact lst (.u rfl) p
  |own b=>exact p.j
|none=>
  refine PI.imp (sx (Jc a j N).1) λU H R L=>?_;obtain⟨G,r,h,s,p⟩:=L;have p:=by unfold M.Gs at p;dsimp only at p;rw[q]at p;exact p
  refine Xa s.j Ext.refl s p λK v1 P I o e1 S z O Q g=>?_;have lst:∀{b},(K=.v (.w b)\/K=.j b)->av Y E G H (.j b P) (λu _ n f=>∀J C,XU Y J u C->C n f->(k9=k9->C n (zo r U f))->R J f)→
   ((∃a,v1=.j a/\(∃b,bA X.K o a b)/\R (l9 X.K a) o)\/∃a,v1=.j a/\(∃b,cY X.K o a b)/\R (lK X.K a) o):=λ{b} B p=>by
   obtain⟨l,m,e2,x,A⟩:=X6 s z O Q B;exact .p ⟨l,e2,⟨m,j.K▸x.1.sq⟩,p I o e1 z.j _ _ (CL.walk j.K) x λ_=>A⟩
  cases K with
|v d=>
   cases d with
   |lst b=>exact lst (.p rfl) g
   |tup b=>obtain⟨l,m,rfl,t,D⟩:=O;have c:CT Y b l m I o:=⟨t,D⟩;exact .u ⟨l,rfl,⟨m,j.K▸t.sq⟩,g I o e1 z.j _ _ (CT.walk j.K) c λ_=>c.hide z⟩
   |aw=>exact g.j
   |bl _=>exact g.j
   |int _=>exact g.j
   |str _=>exact g.j
   |ref _=>exact g.j
   |err _ _ _=>exact g.j
|own b=>exact lst (.u rfl) g
|bor b=>exact g.j
theorem XG:∀(ds)(i),(M.Km i ds).e=ds.e
|[],_=>rfl
|d::ds,i=>congrArg (·+1) (XG ds (i+1))
theorem vP:∀(ds)(j i)(h:i<ds.e),(M.Km j ds)[i]?=y0 (.u [.o ((j+i:Nat):Int),ds[i]])
|d::ds,j,0,_=>rfl
|d::ds,j,i+1,h=>by have:=vP ds (j+1) i (by simpa using h);rw[show j+1+i=j+(i+1)by lia]at this;simpa[M.Km]using this
def Hi:"enumerate"∈cn:=by decide
def CL.mW {l:Addr}{vs:List V}{K:Ab}(j:K=Y.K):XU Y (oN K l) (M.Km 0 ds) (CL Y ds l vs) where
 go:=by rintro i G H ⟨c,d⟩ b;rw[XG]at b;obtain⟨v,e,_⟩:=d.get (Aa6 b);exact⟨vs,v,j▸c.sq,e⟩
 gs:=by rintro i G H x n ⟨c,d⟩ b ⟨p,y,g,ex,m,s⟩;rw[XG]at b;subst ex m;obtain⟨v,e,rd⟩:=d.get (Aa6 b);have:=s vs (j▸c.sq);rw[e]at this;cases this;refine⟨G.more p,Qi _ g,λh f=>f.gP _ g,.u [.o i,ds[i]],by rw[vP ds 0 i b,Am5],⟨p,[.o i,y],rfl,.p ⟨.u rfl,zb⟩,⟨.o i,[y],rfl,rfl,⟨y,[],rfl,?_,rfl⟩⟩⟩⟩;have t:Mon G H (G.more p) (aE H p (.tup [.o i,y])):=⟨λa o u q=>by rw[Za (jb q g)];exact q,Aa9 _,λ_ _=>rfl,λ_ z=>Or.inl z⟩;exact rd.mon t
 stop:=by rintro i G H ⟨c,d⟩ k r;rw[XG]at k r;exact⟨vs,j▸c.sq,by rw[←d.length];lia⟩
 keep:=λG H w n h z e f=>z.keep e f
def Ov(b:Go Y F X E k cf)(o:b8 cf.p "enumerate" g=true)(d:Qb x=true)(v:Zc cf a x=true):PI X (.C elts x1 tp) (.x g [x] [] pos) (iu Y E true (M.Gs F (.cJ a))):=by
 obtain⟨I,rfl,r,D⟩:=jc o;refine PI.imp (Mb (b.u _ r) (b.blt _ Hi) (Xe (Jc a b v).1 Qm (Zb d)) (Zb d)) λU H R A=>?_;obtain⟨G,J,h,s,p⟩:=A;refine Xa s.j Ext.refl s p λi v1 C w m e1 y e z n c=>?_;obtain⟨f,q,c⟩:=c.of;have u:i=.v (.w f)\/i=.j f:=by
  unfold M.yQ at q;split at q
  .cases q;exact .p rfl
  .cases q;exact .u rfl
  .cases q
 obtain⟨l,B,e2,j,t⟩:=X6 s e z n u;subst e2;exact⟨l,B,rfl,b.K▸j.1.sq,c w m e1 e.j _ _ (CL.mW b.K) j λ_=>t⟩
def Df(b:Go Y F X E k cf)(j:o9 it tg=k9)(h:rO cf it e=k9):PI X tg e (iu Y E k9 (M.Gs F it))/\Zh e=true:=by
 cases it with
|seq a=>exact⟨L6 b (a2 h).2,(a2 h).1⟩
|ao a=>refine jm (λg x l p h=>?_) e h;refine kE (λh=>?_) l h;refine kC (λx r h=>?_) x h;refine kE (λh=>?_) r h;obtain⟨c,f,d⟩:=a3 h;exact⟨QK b c f (Jc a b d).1,rfl⟩
|cJ a=>
  cases tg with
  |Tuple i n m=>refine jm (λg x l p h=>?_) e h;refine kE (λh=>?_) l h;refine kC (λx r h=>?_) x h;refine kE (λh=>?_) r h;obtain⟨c,f,d⟩:=a3 h;exact⟨Ov b c f d,rfl⟩
  |_=>exact bB j
|enum _=>exact bB h
end
section
variable{Y:Ge}{G G0:Gh}{H H0:Hp}{h:M.AH}
noncomputable def Gh.cut (G:Gh)(n:Nat):Gh:={G with n:=n}
mutual
theorem aC.cut (n:Nat):∀{d:M.D}{v:V},M.Gd d=k9->aC Y G H d v->aC Y (G.cut n) H d v
|.T,_,_,z=>z
|.C _,_,_,z=>z
|.o _,_,_,z=>z
|.p _,_,_,z=>z
|.u _,_,q,z7=>by obtain⟨a,vs,z1,z2,z3⟩:=z7;exact⟨a,vs,z1,z2,aa.eM n (by simpa[M.Gd]using q) z3⟩
|.w _,_,q,z7=>by obtain⟨a,vs,z1,z2,z3⟩:=z7;exact⟨a,vs,z1,z2,aa.eM n (by simpa[M.Gd]using q) z3⟩
|.j r,_,q,_=>by simp[M.Gd]at q
|.x c f d,_,q,z=>by simp[M.Gd]at q
theorem aa.eM (n:Nat):∀{ds:List M.D}{vs:List V},M.Gf ds=k9->aa Y G H ds vs->aa Y (G.cut n) H ds vs
|[],_,_,z=>z
|d::ds,_,q,z7=>by
  obtain⟨v,r,z1,z2,z3⟩:=z7;have q':M.Gd d=k9/\M.Gf ds=true:=by simpa[M.Gf]using q
  exact⟨v,r,z1,aC.cut n q'.1 z2,aa.eM n q'.2 z3⟩
end
theorem ah.cut (r:ah Y G h H)(g:n<=G.n)(s:M.Gw (h.B n)=k9):ah Y (G.cut n) (h.B n) H where
 len:=by rw[Ae9,r.y];exact Ak5 g
 any:=λi c e=>by
  have t:i<n:=by have:=(Aa1.p e).1;rw[Ae9]at this;lia
  have q:=Ai8.p s c (Ac5 e);rw[Am9 t]at e;obtain⟨m,k⟩:=r.A i c e;refine⟨m,?_⟩;cases c with
|lst v=>obtain⟨b,u,d,a⟩:=k;exact⟨b,u,d,aa.eM n b a⟩
|aR w=>obtain⟨b,f,d,a⟩:=k;exact⟨b,f,d,aa.eM n b a⟩
|obj c fs=>obtain⟨o,f,d,a⟩:=k;exact⟨o,f,d,aa.eM n q a⟩
 inj:=λi j l p e=>r.inj i j (Ab4 l g) (Ab4 p g) e
 live:=r.j
theorem Ext.cut (e:Ext G0 H0 G H):Ext G0 H0 (G.cut G0.n) H:=⟨e.p,Aa9 _,e.aU,λr b a=>absurd b (Ao1.u a),e.fz,e.old,e.u⟩
theorem ai.cut (n)(f:n<=G.n)(q:w.keep=k9)(b:∀xs,w≠.p xs)(z:ai Y G H w v):ai Y (G.cut n) H w v:=by
 cases w with
|v d=>exact aC.cut n q z
|own xs=>obtain⟨a,i,h,k,g,e,j⟩:=z;exact⟨a,i,h,k,λr c=>g r (Ab4 c f),e,aa.eM n q j⟩
|bor xs=>exact absurd rfl (b xs)
end
section
variable{Y:Ge}{F:M.Fx}{X:Cx}{E:XK}{k:Nat}{cf:Cf}
def NM(g:Go Y F X E k cf)(b:wC v=k9)(h:Zc cf m v=k9):PS X (.Expr v pos) (cm Y E (M.exec F (.ex m))):=by refine PS.imp (pM (Jc m g h).1 (Wh b)) λD U H f=>?_;obtain⟨B,G,l,h,s,p⟩:=f;exact Zd s p λw v i e a e1 c n j d=>d e U a c
def B1(s:bu Y B G τ h U H)(f:aL τ U H w v)(b:∀xs,w≠.p xs):aL [] [] B.H w v:=by
 cases w with
|v d=>trivial
|own xs=>obtain⟨a,c,e⟩:=f;exact⟨a,c,s.I.none s.hr e⟩
|bor xs=>exact absurd rfl (b xs)
def Ij(t:Go Y F X E k cf)(h:Zc cf m v=k9):PS X (.Return (y0 v) pos) (cm Y E (M.exec F (.ret m))):=by
 cases q:M.GJ m with
|some i=>
  cases zX q;refine PS.imp (Bm (uo t h)) λD U H j=>?_;obtain⟨B,G,g,h,s,p⟩:=j;rw[M.exec,q]at p;dsimp only at p;cases c:M.Gn g i with
  |none=>rw[c]at p;exact p.j
  |some w=>
   rw[c]at p;obtain⟨v,e2,r⟩:=s.p.u i w c;refine⟨v,e2,?_⟩;cases w with
  |bor b=>exact p.j
  |v d=>exact p G v H s.I s.p.j r trivial
  |own b=>have x:=r;obtain⟨a,A,rfl,_⟩:=x;exact p G _ H s.I s.p.j r ⟨a,rfl,s.j i b a c e2⟩
|none=>
  refine PS.imp (Bm (Jc m t h).1) λD U H j=>?_;obtain⟨B,G,g,h,s,p⟩:=j;have p:bg Y E B ((M.eval F m g h).cU λw h=>match w with
|.p _=>.u
|w=>.ret w h) D:=by
   rw[M.exec,q]at p;exact p
  refine Zd s p λw v y n l e1 e o u f=>?_;cases w with
|bor b=>exact f.j
|v d=>exact f n v l e.I e.p.j o trivial
|own b=>exact f n v l e.I e.p.j o (B1 s u λb z=>by cases z)
def Lc(l:PT X x (dr Y E (M.Gm F c)))(k:dt X ys (cm Y E (M.execs F a)))(j:dt X zs (cm Y E (M.execs F b))):PS X (.If x ys zs pos) (cm Y E (M.exec F (.iff c a b))):=by
 refine PS.imp (DR l k j) λD U H m=>?_;obtain⟨B,G,i,h,s,p⟩:=m;refine A9 s p λt d g n e1 e f=>?_;cases t with
|true=>exact oB ⟨B,g,i,d,e,f⟩
|false=>exact oh ⟨B,g,i,d,e,f⟩
def D9{st:Stmt}(h1:PS X st (cm Y E (M.exec F s)))(g:dt X sts (cm Y E (M.execs F ss))):dt X (st::sts) (cm Y E (M.execs F (.cons s ss))):=by
 refine dt.imp (Mj h1 g) λD U H j=>?_;obtain⟨B,G,c,h,e,p⟩:=j;rw[M.execs]at p;refine⟨B,G,c,h,e,?_⟩;cases q:M.exec F s c h with
|next a b=>rw[q]at p;exactλf l k i=>⟨B,f,a,b,i,p⟩
|ret w b=>rw[q]at p;exact p
|brk a b=>rw[q]at p;exact p
|cont a b=>rw[q]at p;exact p
|exc d b=>rw[q]at p;exact p
|fail=>rw[q]at p;exact p
def K7:dt X [] (cm Y E (M.execs F .nil)):=dt.imp Ht (by rintro D U H⟨B,G,a,h,s,p⟩;exact p G U H s)
def EC(L:fX Y F X E k cf)(J:PT X x (dr Y E (M.Gm F c)))(I:dt X ys (cm Y E (M.execs F b))):PS X (.While x ys [] pos) (cm Y E (M.exec F (.kz n c b))):=by
 refine PS.imp (DY L.hX J I) λD U H K=>?_;obtain⟨B,G,a,h,s,p⟩:=K;refine⟨λm U H=>∃G a h,bu Y B G a h U H/\bg Y E B (M.GG (λa h=>M.Gm F c a h) (λa h=>M.execs F b a h) m a h) D,⟨n,G,a,h,s,p⟩,?_⟩;rintro m U H ⟨G,a,h,s,p⟩;cases m with
|zero=>exact p.j
|succ m=>
  refine A9 s p λt l A C e1 z e=>?_;cases t with
|false=>exact oh (e A U C z)
|true=>
   refine oB ⟨_,λy v w=>⟨m,Af9 _,w⟩,B,A,a,l,z,?_⟩;have e:bg Y E B (match M.execs F b a l with
|.p f j=>M.GG (λa h=>M.Gm F c a h) (λa h=>M.execs F b a h) m f j
|.cont f j=>M.GG (λa h=>M.Gm F c a h) (λa h=>M.execs F b a h) m f j
|.brk f j=>.p f j
|o=>o) D:=e
   cases q:M.execs F b a l with
|next g i=>rw[q]at e;exactλr y v u=>⟨r,g,i,u,e⟩
|cont g i=>rw[q]at e;exactλr y v u=>⟨r,g,i,u,e⟩
|ret w i=>rw[q]at e;exact e
|brk g i=>rw[q]at e;exact e
|exc d i=>rw[q]at e;exact e
|fail=>rw[q]at e;exact e
def Ff(L:fX Y F X E k cf)(he:(cf.cb&&o9 it t)=k9)(ht:jg cf tg one t=k9)(hi:rO cf it iter=k9)(hb:dt X ys (cm Y E (M.execs F b))):
 PS X (.For t iter ys [] pos) (cm Y E (M.exec F (.for tg one it b))):=by
 obtain⟨li,ls⟩:=Df L.toGo (a2 he).2 hi;refine PS.imp (IK L.hX (L.x (a2 he).1) li (Jx L.toGo ht) hb (rV ls)) λD U H qq=>?_;obtain⟨B,G,g,h,s,p⟩:=qq;rw[M.exec]at p;refine⟨G,g,h,s.p,?_⟩;cases q:M.Gs F it g h with
|exc d A=>rw[q]at p;exact bg.exc s p
|fail=>rw[q]at p;exact p
|ok j A=>
  rw[q]at p;intro I N e hr J C K c0 S;have s1:=s.on e hr;have p1:=F5 s1 p;have cB:=S rfl;have s2:=CW s1;refine⟨λi m V y=>∃z n v,(m=j.e-i/\i<=j.e)/\bu Y (lX I g A U N) z n v V y/\bg Y E (lX I g A U N) (M.Gp (M.Gq tg one) (λg h=>M.execs F b g h) (j.K i) n v) D,
   ⟨j.e,I,g,A,⟨by simp,Af4 _⟩,s2,p1⟩,?_⟩
  rintro i m V y ⟨z,n,v,⟨rfl,hi'⟩,r,c⟩;have Z:=K.keep _ _ _ _ _ cB r.I r.hr;by_cases l:i<j.e
  .refine .u ⟨K.go i z y Z l,_,λU2 H2 w=>⟨j.e-(i+1),(Nat.sub_lt_sub_left ‹_› (Nat.lt_succ_self _)),w⟩,λx R hy=>?_⟩;obtain⟨G4,x4,O,d,ed,T⟩:=K.gs i z y x R Z l hy;have r:=r.on x4 (O _ r.p.j);have edr:j.K i=d::j.K (i+1):=by rw[Am7 l];rw[Aa6 l]at ed;cases ed;rfl
   rw[edr,M.Gp]at c;cases W:M.Gq tg one d n with
|none=>rw[W]at c;exact c.j
|some u=>
    rw[W]at c;refine t9 W T r λU2 s3=>⟨_,G4,u,v,s3,?_⟩;have c:bg Y E (lX I g A U N) (match M.execs F b u v with
|.p a f=>M.Gp (M.Gq tg one) (λg h=>M.execs F b g h) (j.K (i+1)) a f
|.cont a f=>M.Gp (M.Gq tg one) (λg h=>M.execs F b g h) (j.K (i+1)) a f
|.brk a f=>.p a f
|o=>o) D:=c
    cases q:M.execs F b u v with
|next a f=>rw[q]at c;exactλP U3 H3 Q=>⟨P,a,f,⟨rfl,by lia⟩,Q,c⟩
|cont a f=>rw[q]at c;exactλP U3 H3 Q=>⟨P,a,f,⟨rfl,by lia⟩,Q,c⟩
|ret w f=>rw[q]at c;exact c
|brk a f=>rw[q]at c;exact c
|exc d f=>rw[q]at c;exact c
|fail=>rw[q]at c;exact c
  .have ei:i=j.e:=by lia
   subst ei;rw[List.drop_length]at c;exact .p ⟨K.stop _ z y Z (Aa9 _) (Aa9 _),c z V y r⟩
theorem xO:∀(τ)(i j),M.Gn (τ.x i u0) j=if j=i then u0 else M.Gn τ j
|[],i,j=>by simp
|x::r,0,0=>by simp
|x::r,0,j+1=>by simp
|x::r,i+1,0=>by simp
|x::r,i+1,j+1=>by simpa using xO r i j
def bu.clear (s:bu Y B G τ h U H):bu Y B G (τ.x i u0) h (U.x i u0) H:=by
 have ne:∀{j w},M.Gn _ j=y0 w->j≠i/\M.Gn τ j=y0 w:=λ{j w} e=>by
  rw[xO]at e;split at e
  .cases e
  .rename_i b;exact⟨b,e⟩
 have c:∀{j},j≠i->(U.x i u0)[j]?=U[j]?:=λ{j} b=>Ad0 (Ne.symm b);refine⟨⟨by rw[Ad4,Ad4];exact s.p.len,λj w e=>?_,λp q d w a f e1 e2 k g=>?_,s.p.j⟩,s.I,s.hr,λj d a e1 e2=>?_⟩
 .obtain⟨b,e⟩:=ne e;obtain⟨v,l,m⟩:=s.p.u j w e;exact⟨v,by rw[c b];exact l,m⟩
 .obtain⟨n,e1⟩:=ne e1;obtain⟨o,e2⟩:=ne e2;rw[c n]at g;rw[c o];exact s.p.p p q d w a f e1 e2 k g
 .obtain⟨b,e1⟩:=ne e1;rw[c b]at e2;exact s.j j d a e1 e2
def B0(n:fX Y F X E k cf)(w:b8 cf.p c g=k9)(j:(cf.cb&&cf.w.er.w (c,f))=k9)(o:bC cf (.j e .p) [x]=k9):
 PS X (.Raise (y0 (.x g [x] [] k7)) u0 pos) (cm Y E (M.exec F (.eA c f e))):=by
 obtain⟨L,rfl,A,z⟩:=jc w;obtain⟨y,t,I⟩:=n.mZ c f (a2 j).1 (a2 j).2 A z;refine PS.imp (I _ _ _ _ _ (iA _ n.toGo o) (We o _ Aa3)) λD U H J=>?_;obtain⟨B,G,m,h,s,p⟩:=J;rw[M.exec]at p;refine⟨G,m,h,s.p,?_⟩;cases q:M.Gv F (.j e .p) m h with
|exc d u=>rw[q]at p;exact bg.exc s p
|fail=>rw[q]at p;exact p
|ok b u=>
  rw[q]at p;intro C K e1 l O r;cases b with
|nil=>exact p.j
|cons d b=>
   cases b with
|cons _ _=>exact p.j
|nil=>obtain⟨v,N,rfl,rd,rfl⟩:=r;refine⟨v,rfl,λi a=>?_⟩;exact(p (C.more i) _ ((s.I.trans s.hr e1).trans s.hr (Qi (.xd [(Jd f,v)]) a)) (l.gP _ a)) c f d rfl y t i v (.u rfl) zb (rd.ext (Qi _ a) l)
def Hs(a:gZ Y c)(d:w∈Y.own)(b:(M.GW Y.cl 8 c).w w=k9):PySem.W.kitCls Y.K (.j (Y.j c)) (.j (Y.j w))=y0 true:=by
 have h:=a.own w d;rw[b]at h;unfold An6 at h;split at h
 .rename_i e;have e:=by simpa using e
  rw[←e];exact a.k.slf
 .exact h
theorem Go.dU (a:Go Y F X E k cf):Go Y F X.dU E0 k cf:=⟨a.N,a.K,a.cl,a.ow,a.nd,a.gA,a.kL,a.g6,a.kq,a.u,a.x,a.p,a.cv,λn U H s e q _ p=>by
 obtain⟨x,u,t,B,r,_,_,_,_,_,_,_,_,_,_,o⟩:=p;exact o.j,a.blt,a.con,λf i=>by
 obtain⟨b,m,d,c,j,g,l⟩:=(a.fn f i).imp λb h=>h.ex;exact⟨b,⟨m,d,c,j,g,l⟩⟩,λf i=>by
 obtain⟨b,m,d,c,j,g,l⟩:=(a.lT f i).imp λb h=>h.ex;exact⟨b,⟨m,d,c,j,g,l⟩⟩,a.cls,a.fld,a.i6,a.eW⟩
theorem PS.dU {st:Stmt}(h:PS X.dU st t):PS X st t:=λa s U H D I q=>wpAny_mono (h a s U H D (I.dR _) q) (λ_ _ z=>SP.cq z) λ_ _ z=>False.elim z
def K8(h:vk cf f s q=k9):∃g x xs j i,s=.Expr (.x g (x::xs) [] j) i/\b8 cf.p f g=k9/\cf.u.w f=k9/\q (x::xs)=true:=by refine oE (λe p h=>?_) s h;refine jm (λg xs l p h=>?_) e h;refine kE (λh=>?_) l h;refine kC (λx r h=>?_) xs h;exact⟨_,_,_,_,_,rfl,a3 h⟩
def HI(h:Bd cf i f ys q=k9):∃a g x xs j L M,ys=[.j [.j a j] (.x g (x::xs) [] L) M]/\z0 cf i a=k9/\b8 cf.p f g=k9/\cf.u.w f=k9/\q (x::xs)=true:=by refine kC (λs r h=>?_) ys h;refine kE (λh=>?_) r h;refine gH (λb e p h=>?_) s h;refine kC (λt r h=>?_) b h;refine kE (λh=>?_) r h;refine Zq (λa p h=>?_) t h;refine jm (λg xs l p h=>?_) e h;refine kE (λh=>?_) l h;refine kC (λx r h=>?_) xs h;exact⟨_,_,_,_,_,_,_,rfl,a4 h⟩
theorem fX.iH (a:fX Y F X E k cf)(w:2<=k)(x:Addr):fX Y F (X.dU.iH x) E0 2 {cf with toCg:=cf.toCg.q} where
 N:=a.N
 K:=a.K
 cl:=a.cl
 ow:=a.ow
 nd:=a.nd
 gA:=a.gA
 kL:=a.kL
 g6:=a.g6
 kq:=a.kq
 gl:=a.u
 calm:=λz=>nomatch z
 room:=⟨λq=>absurd q (by decide),by have:=a.cv.dp;show X.A.depth+2+5<_;lia,by have:=a.cv.un;show X.A.u+16*2+200<_;lia⟩
 cv:=⟨λq=>absurd q (by decide),by have:=a.cv.dp;show X.A.depth+3+5<_;lia,by have:=a.cv.un;show X.A.u+16*3+200<_;lia⟩
 pass:=λg U H s e v _ u=>by obtain⟨x,A,t,B,y,_,_,_,_,_,_,_,_,_,_,r⟩:=u;exact r.j
 blt:=a.blt
 con:=a.con
 fn:=λf b=>by obtain⟨d,p,i,j,n,l,o⟩:=(a.lT f b).imp λd h=>h.ex;exact⟨d,⟨p,i,j,n,l,o⟩⟩
 lT:=λf b=>bB b
 cls:=a.cls
 fld:=a.fld
 i6:=λc m q h=>bB h
 eW:=λc q h=>bB h
 hX:=PassesOwn.never
 gX:=a.gX
 nL:=a.nL
 ex:=a.ex
 mZ:=λc f z=>nomatch z
 fT:=λc z=>bB z
def C8(t:fX Y F X E k cf)(T:cf.j.w c=k9)(J:bu Y B G1 τ h1 U H1)(r:Ext G1 H1 G2 H2)(i:ah Y G2 h2 H2)
 (p:bg Y E B (M.KH F.cl c nm (λτ h=>M.execs F hb τ h) τ d (M.Kn d h1.e h2)) D):p9 Y (kQ X.dU.K (Y.j c) nm (cm Y E0 (M.execs F hb)) D U) d G2 H2:=by
 unfold M.KH at p;have m:∀b n,M.bQ F.cl (.v d) [c]=y0 ([c].A (M.GW F.cl 8 b).w)->gZ Y b->(∃f,Ext G1 H1 f H2/\ah Y f (M.Kn d h1.e h2) H2/\∀y,H2 y=u0->aC Y (f.more y) (aE H2 y (g7 y (Y.j b) n)) d (.j y))→
  kQ X.dU.K (Y.j c) nm (cm Y E0 (M.execs F hb)) D U (.j (Y.j b)) n H2:=λb n ix l ⟨f,A,e,x⟩=>by
  rw[ix]at p;cases w:[c].A (M.GW F.cl 8 b).w with
|false=>rw[w]at p;exact p.j
|true=>
   rw[w]at p;have N:(M.GW Y.cl 8 b).w c=true:=by rw[←t.cl];simpa using w
   refine⟨_,rfl,t.K▸l.k,t.K▸Hs l (by rw[←t.ow];exact Al1.p T) N,λy g=>?_⟩;have W:=(J.on A e).on (Qi (g7 y (Y.j b) n) g) (e.gP (g7 y (Y.j b) n) g);refine⟨B,_,_,_,W.d9 (x y g),?_⟩;dsimp only at p;cases q:M.execs F hb (M.GB τ nm (.v d)) (M.Kn d h1.e h2)with
|next V h'=>rw[q]at p;exactλS U' Q L=>p S _ Q L.clear
|_=>rw[q]at p;exact p.j
 have H:=J.p.j.y;have kk:∀d,M.GN d=k9->∃f,Ext G1 H1 f H2/\ah Y f (M.Kn d h1.e h2) H2/\(∀a,G2.u a->f.u a)/\∀{j}{v},M.Gd j=k9->aC Y G2 H2 j v->aC Y f H2 j v:=λd Z=>by
  unfold M.Kn;rw[Z,Ae6];cases O:M.Gw (h2.B h1.e)with
|true=>exact⟨_,H▸r.cut,i.cut (by rw[H];exact r.le) O,λ_ h=>h,λq z=>aC.cut _ q z⟩
|false=>exact⟨G2,r,i,λ_ h=>h,λ_ z=>z⟩
 intro b I j P l C o u G s K;subst P;cases q:M.Gd j with
|true=>obtain⟨f,A,e,fz,R⟩:=kk (.x b I j) q;exact m b (y0 o) rfl l ⟨_,A,e,λy g=>⟨y,o,u,rfl,.u rfl,.p (fz _ G),zb,by rw[Za (jb s g)];exact s,l,C,(R q K).ext (Qi _ g) e⟩⟩
|false=>exact m b (y0 o) rfl l ⟨G2,r,by rw[M.Kn,show M.GN (.x b I j)=y9 from q,Ae5,if_neg Ab9];exact i,λy g=>⟨y,o,u,rfl,.u rfl,.p G,zb,by rw[Za (jb s g)];exact s,l,C,K.ext (Qi _ g) i⟩⟩
def AQ(l:fX Y F X E k cf)(P:cf.j.w c=k9)
 (I:∀{pins}{D}{U}{H1}{j s'}{L},Inv X.dU pins U H1 j->dq X.p X.w X.stack H1 j (kQ X.dU.K (Y.j c) nm (cm Y E0 (M.execs F hb)) D U) L s'->lH X.dU pins D hs L s')
 (K:b8 cf.p f g=k9)(O:cf.u.w f=k9)(n:bC cf es (x::xs)=k9):dj X.dU hs o (.x g (x::xs) [] cp) (cm Y E λτ h=>M.KG F.cl c nm (λτ h=>M.execs F hb τ h) τ (M.mD F.j o f τ (M.Gc F es τ h))):=by
 obtain⟨p0,rfl,w,N⟩:=jc K;obtain⟨T,fa,Z,r,R,W,J⟩:=(l.fn f O).imp λT h=>h.ex;have m:=We n;refine dj.imp (NK (λ_ _ z=>z) I r l.p (l.u _ w) J W R (dM es l.toGo.dU n) N (Zb (m _ Aa3)) (Qo λe n=>m e (Aa2 _ n))) ?_;rintro D U H ⟨B,G,τ,h,s,p⟩;refine⟨G,τ,h,s.p,?_⟩;dsimp only at p;cases q:M.Gc F es τ h with
|exc d t=>rw[q]at p;exact p.j
|fail=>rw[q]at p;exact p.j
|ok C t=>
  rw[q]at p;intro S H1 e1 b vs V;have j:=s.on e1 b;refine⟨S,t,_,b,Xt V,Qt C,?_⟩;unfold M.mD at p;dsimp only at p;cases A:F.j f (C.j M.W.arg) t with
|fail=>rw[A]at p;exact p.j
|ok Q w=>
   rw[A]at p;intro u y e2 a v' rv _;cases o with
   |none=>exact p u U y (j.on e2 a)
   |some i=>
    cases Q with
   |own _=>exact p.j
   |bor _=>exact p.j
   |v d=>exact p u _ y ((j.on e2 a).d9 rv)
|exc d w=>rw[A]at p;exactλu y e2 a=>C8 l P j e2 a p
theorem rb(e:fX Y F X E k cf)(n:cf.j.w c=k9)
 (m:∀{pins}{D}{U}{H1}{L s'}{O},Inv X.dU pins U H1 L->dq X.p X.w X.stack H1 L (kQ X.dU.K (Y.j c) nm (cm Y E0 (M.execs F hb)) D U) O s'->lH X.dU pins D hs O s'):
 ∀b {ys},mH cf b ys=k9->dI X.dU hs ys (cm Y E λτ h=>M.KG F.cl c nm (λτ h=>M.execs F hb τ h) τ (M.lu F b τ h))
|.ex f P,ys,h=>by refine kC (λa r h=>?_) ys h;refine kE (λh=>?_) r h;obtain⟨g,x,I,A,T,rfl,j,u,o⟩:=K8 h;exact LP (AQ e n m j u o) (Wh rfl)
|.sv i f P,ys,h=>by obtain⟨a,g,x,I,S,A,V,rfl,Q,K,R,N⟩:=HI h;obtain⟨J,a2⟩:=WP Q;exact Lz (AQ e n m K R N) (by show X.N.C;rw[e.N];exact e.nd) (by show X.N[i]?=_;rw[e.N];exact J) (e.kL a a2) (Wh rfl)
|.iff w a b,ys,h=>by
  refine kC (λs r h=>?_) ys h;refine kE (λh=>?_) r h;refine tZ (λt y z p h=>?_) s h;obtain⟨C,j,u,o⟩:=a4 h;refine dI.imp (DG (λ_ _ z=>z) ((Jc w e.toGo.dU j).2 C) (rb e n m a u) (rb e n m b o)) ?_;rintro D U H ⟨B,G,τ,h,s,p⟩;refine⟨G,τ,h,s.p,?_⟩;dsimp only[M.lu]at p;cases q:M.Gm F w τ h with
|exc d j=>rw[q]at p;exact p.j
|fail=>rw[q]at p;exact p.j
|ok b j=>
   rw[q]at p;intro v H1 e1 l;cases b with
|true=>exact oB ⟨B,v,τ,j,s.on e1 l,p⟩
|false=>exact oh ⟨B,v,τ,j,s.on e1 l,p⟩
def OM(a:fX Y F X E k cf)(h1:mH cf b ys=k9)(u:vG cf c nm hs q=k9)
 (y:2<=k->∀x z,q z=k9->dt (X.dU.iH x) z (cm Y E0 (M.execs F hb))):PS X (.Try ys hs [] [] pos) (cm Y E (M.exec F (.gO b c nm hb))):=by
 refine kC (λx r h=>?_) hs u;refine kE (λh=>?_) r h;refine Ee (λw n z p h=>?_) x h;refine kS (λw h=>?_) w h;refine kS (λn h=>?_) n h;obtain⟨t,A,o,f,I⟩:=a5 h;obtain⟨J,rfl,l,v⟩:=jc t;obtain⟨j,d,i⟩:=a.fT c A;obtain⟨m,g⟩:=WP o;refine PS.dU (PS.imp (IM (rb a d (Dv a.gX a.nL a.ex (a.u _ l) (a.cls c d) j (by show X.N.C;rw[a.N];exact a.nd) (by show X.N[nm]?=_;rw[a.N];exact m) (a.kL n g) v (λe=>by rw[e]at f;cases f) λx=>y i x z I) b h1)) λD U H ⟨B,G,C,h,s,p⟩=>⟨B,G,C,h,s,?_⟩);exact p
end
section
open Lake renaming MS.fX.toGo→Lake.MS.fX.j
variable{Y:Ge}{F:M.Fx}{k:Nat}{X:Cx}{E:XK}{cf:Cf}
mutual
theorem CA:∀(m:M.S)(X:Cx)(E:XK)(k:Nat)(cf:Cf)(st:Stmt),fX Y F X E k cf->ue cf m st=k9->PS X st (cm Y E (M.exec F m))
|.set i e=>λX E κ cf st go h=>by refine gH (λts v p h=>?_) st h;refine kC (λt r h=>?_) ts h;refine Zq (λx p1 h=>?_) t h;refine kE (λh=>?_) r h;exact ML go.j (a2 h).1 (a2 h).2
|.af i e=>λX E κ cf st go h=>by refine gH (λts v p h=>?_) st h;refine kC (λt r h=>?_) ts h;refine Zq (λx p1 h=>?_) t h;refine kE (λh=>?_) r h;exact Er go.j (a2 h).1 (a2 h).2
|.fv is e=>λX E κ cf st go h=>by refine gH (λts v p h=>?_) st h;refine kC (λt r h=>?_) ts h;refine om (λx n p1 h=>?_) t h;refine kE (λh=>?_) r h;obtain⟨h1,h2,h3⟩:=a3 h;exact Hd go.j h1 h2 h3
|.bY i c f e=>λX E κ cf st go h=>by refine gH (λts v p h=>?_) st h;refine kC (λt r h=>?_) ts h;refine zN (λx n p1 h=>?_) t h;refine Zq (λx p2 h=>?_) x h;refine kE (λh=>?_) r h;obtain⟨h0,h⟩:=a2 h;obtain⟨hn,h4,h6⟩:=a3 h;obtain⟨h1,h2,h3⟩:=fU h0;cases of_decide_eq_true hn;exact Z1 go.j h1 h2 h3 h4 h6
|.eu i kx e=>λX E κ cf st go h=>by refine gH (λts v p h=>?_) st h;refine kC (λt r h=>?_) ts h;refine gU (λx y p1 h=>?_) t h;refine Zq (λx p2 h=>?_) x h;refine kE (λh=>?_) r h;obtain⟨h0,h4,h6,h7⟩:=a4 h;obtain⟨h1,h2,h3⟩:=fU h0;exact Oe go.j h1 h2 h3 h4 h6 h7
|.cI i kx e=>λX E κ cf st go h=>by refine gH (λts v p h=>?_) st h;refine kC (λt r h=>?_) ts h;refine gU (λx y p1 h=>?_) t h;refine Zq (λx p2 h=>?_) x h;refine kE (λh=>?_) r h;obtain⟨h0,h4,h6,h7⟩:=a4 h;obtain⟨h1,h2,h3⟩:=fU h0;exact L8 go.j h1 h2 h3 h4 h6 h7
|.gD o kx j e=>λX E κ cf st go h=>by refine gH (λts v p h=>?_) st h;refine kC (λt r h=>?_) ts h;refine kE (λh=>?_) r h;refine om (λts n p h=>?_) t h;refine kC (λt1 r h=>?_) ts h;refine kC (λt2 r h=>?_) r h;refine kE (λh=>?_) r h;refine gU (λx y p1 h=>?_) t1 h;refine Zq (λa p2 h=>?_) t2 h;obtain⟨h1,h2,h3,h4,h5⟩:=a5 h;obtain⟨h5,h6⟩:=a2 h5;exact MF go.j h1 h2 h3 h4 h5 h6
|.b5 o kx e=>λX E κ cf st go h=>by refine gH (λts v p h=>?_) st h;refine kC (λt r h=>?_) ts h;refine gU (λx y p1 h=>?_) t h;refine kE (λh=>?_) r h;obtain⟨h1,_,_,h4,h5,h6⟩:=a6 h;exact Hq go.j h1 h4 h5 h6
|.app i e=>λX E κ cf st go h=>by refine oE (λc p h=>?_) st h;refine jm (λf x l q h=>?_) c h;refine kE (λh=>?_) l h;refine kC (λv r h=>?_) x h;refine kE (λh=>?_) r h;obtain⟨h1,h2,h3⟩:=a3 h;exact BZ go.j h1 h2 h3
|.ext i e=>λX E κ cf st go h=>by refine oE (λc p h=>?_) st h;refine jm (λf x l q h=>?_) c h;refine kE (λh=>?_) l h;refine kC (λv r h=>?_) x h;refine kE (λh=>?_) r h;obtain⟨h1,h2,h3⟩:=a3 h;exact D2 go.j h1 h2 h3
|.bO i c f e=>λX E κ cf st go h=>by refine gH (λts v p h=>?_) st h;refine kC (λt r h=>?_) ts h;refine zN (λx n p1 h=>?_) t h;refine Zq (λx p2 h=>?_) x h;refine kE (λh=>?_) r h;obtain⟨h0,hn,h4,h6⟩:=a4 h;obtain⟨h1,h2,h3⟩:=fU h0;cases of_decide_eq_true hn;exact N1 go.j h1 h2 h3 h4 h6
|.fb=>λX E κ cf st go h=>(by rintro pins s U H D I⟨B,G,τ,h,s',p⟩;exact p.j)
|.ex e=>λX E κ cf st go h=>by refine oE (λv p h=>?_) st h;exact NM go.j (a2 h).1 (a2 h).2
|.ret e=>λX E κ cf st go h=>by refine Ho (λv p h=>?_) st h;refine kS (λv h=>?_) v h;exact Ij go.j h
|.iff c a b=>λX E κ cf st go h=>by refine tZ (λx y z p h=>?_) st h;obtain⟨h0,h1,h2,h3⟩:=a4 h;exact Lc ((Jc c go.j h1).2 h0) (dH a _ _ _ _ _ go h2) (dH b _ _ _ _ _ go h3)
|.kz n c b=>λX E κ cf st go h=>by refine E1 (λx y z p h=>?_) st h;refine kE (λh=>?_) z h;obtain⟨h0,h1,h2⟩:=a3 h;exact EC go ((Jc c go.j h1).2 h0) (dH b _ _ _ _ _ go h2)
|.for tg one it b=>λX E κ cf st go h=>by refine IX (λt i y z p h=>?_) st h;refine kE (λh=>?_) z h;obtain⟨h1,h2,h3,h4⟩:=a4 h;exact Ff go h1 h2 h3 (dH b _ _ _ _ _ go h4)
|.eA c f e=>λX E κ cf st go h=>by refine Ni (λx y p h=>?_) st h;refine kS (λx h=>?_) x h;refine jm (λg x l q h=>?_) x h;refine kE (λh=>?_) l h;refine kC (λx r h=>?_) x h;refine kE (λh=>?_) r h;obtain⟨h0,h1,h2,h3⟩:=a4 h;cases nn h0;exact B0 go h1 h2 h3
|.gO b c nm hb=>λX E κ cf st go h=>by refine Mr (λy hs p h=>?_) st h;exact OM go (a2 h).1 (a2 h).2 λhk x z hz=>dH hb _ _ _ _ _ (go.iH hk x) hz
theorem dH:∀(m:M.Ss)(X:Cx)(E:XK)(k:Nat)(cf:Cf)(sts:List Stmt),fX Y F X E k cf->cV cf m sts=k9->dt X sts (cm Y E (M.execs F m))
|.nil=>λX E κ cf sts go h=>by cases Af7.p h;exact K7
|.cons s ss=>λX E κ cf sts go h=>by refine kC (λst r h=>?_) sts h;exact D9 (CA s _ _ _ _ _ go (a2 h).1) (dH ss _ _ _ _ _ go (a2 h).2)
end
end
section
variable{P:Program}{w:World}{K:Ab}{mg:Str->Option Value}{base:Heap}{N:List Str}{y8:Str}{scope:Scope}{f:Addr}{cd:Value}{A:Around}{outer:List Env}{s:Shared}{H:Hp}{E:XK}
def Lq:zF (dq P w) (fH (dq P w) P w K mg base N y8 scope f cd A outer s H E) E:=by
 intro pins U H1 s1 ev s' I hq;obtain⟨x,C,t,B,H',od,rfl,os,bare,fl,un,aO,comp,new,hd,hE⟩:=hq;have I':=rF I os bare un aO comp fl λb o z _=>⟨o.slots,z⟩;have ff:=fl.2.2.1;refine wpAny_mono (JV (QQ _ _) (wpAny_leaves_onW (Q:=λ_ s2=>∃h2,s2={s' with heap:=h2}/\Am2 B outer x _ _ h2/\s'.j.A h2) (E:=λ_ _=>False) I.ok.frames rfl fl λh2 x1 x4=>⟨h2,rfl,x1,x4⟩)) (λ_ s2 z=>?_) λ_ _ z=>z.1.j;obtain⟨⟨h2,rfl,x1,x4⟩,dk⟩:=z;have free:=I'.cX;have slotH:∀b o,b∈cj _->s'.j.p b=y0 o->∃sl,h2.p b=y0 {o with slots:=sl}:=λb o hb z=>by obtain⟨_,o',z',nf⟩:=ff.mem hb;rw[z]at z';cases z';exact x4 b o z nf
 have toH:=λb o z c n=>x1.1 b o (comp b o z c n);have cut:∀b,b∉cj outer->b≠s.j.j.j->b∉cj (envOfC y8 scope s.j.j.j f cd::outer):=λb n1 n2 hb=>by
  rcases Ab8.p (hb)with z|z
  .exact n2 z
  .exact n1 z
 have old:∀b o,s.j.p b=y0 o->b≠s.j.j.j:=λb o z=>Ac3 (Ac z);have el:∀b u,H' b=y0 u->b∉cj _:=λb u z hb=>by rw[free b hb]at z;cases z
 have in1:=λb o z=>I.u.there b o z (by show b∉[];simp);refine⟨x,C,t,B,H',od,rfl,os.j I.os,bare,x1,⟨λb o z n hb hx=>?_,λb o z n hb hx=>?_,I'.u.free,λb o z hx=>?_,I'.u.c8,I'.u.cQ,I'.u.dc⟩,λb u z=>?_,λb o z hc hb=>?_,?_,λdx z=>?_,hE⟩
 .exact toH b o (I'.u.keep b o z n hb hx) (.u (in1 b o z)) (cut b hb (old b o z))
 .obtain⟨sl,z1⟩:=I'.u.slot b o z n hb hx;obtain⟨sl2,z2⟩:=slotH b _ (Aa2 _ hb) z1;exact⟨sl2,z2⟩
 .obtain⟨o',z1⟩:=I'.u.there b o z hx;by_cases hb:b∈cj (envOfC y8 scope s.j.j.j f cd::outer)
  .obtain⟨sl,z2⟩:=slotH b o' hb z1;exact⟨_,z2⟩
  .exact⟨o',toH b o' z1 (.u (in1 b o z)) hb⟩
 .refine(aO b u z).cT (λc v hc z1=>?_) (λ_ z1=>z1) λ_ _ z1=>z1;obtain rfl|hc:=hc
  .exact toH c v z1 (.p ⟨u,z⟩) (el c u z)
  .exact toH c v z1 (.p ⟨_,hc⟩) (el c _ hc)
 .have two:∃o2,s'.j.p b=y0 o2/\((∃u,H' b=y0 u)\/∃u,s1.j.p b=y0 u)/\b∉cj (envOfC y8 scope s.j.j.j f cd::outer):=by
   obtain⟨u,hu⟩|⟨u,hu⟩:=hc
   .obtain⟨o2,z2⟩:=(aO b u hu).there;exact⟨o2,z2,.p ⟨u,hu⟩,el b u hu⟩
   .obtain⟨o2,z2⟩:=I'.u.there b u hu (by show b∉[];simp);exact⟨o2,z2,.u (in1 b u hu),cut b hb (old b u hu)⟩
  obtain⟨o2,z2,c2,nb⟩:=two;have z3:=toH b o2 z2 c2 nb;rw[show h2.p b=y0 o from z]at z3;cases z3;exact comp b _ z2 c2 nb
 .cases z:s.j.p x with
|none=>rfl
|some u=>obtain⟨o2,z2⟩:=in1 x u z;rw[new]at z2;cases z2
 .obtain⟨o,e1,e2⟩:=hd dx z;obtain⟨o',e3,e4⟩:=dk x o e1;exact⟨o',e3,e4.j e2⟩
end
structure Txt(K:Ab)(mg:Str->Option Value)(f:String) where
 st:Stmt
 fa:Addr
 fd:FuncData
 N:List Str
 ps:List Str
structure nj{K:Ab}{mg:Str->Option Value}{f:String}(t:Txt K mg f)(d:M.Fn)(g:Cg):Prop where
 fn:∃x y8,kA K x y8 t.st t.fa t.fd
 bd:Binds K t.fd t.ps []
 sc:zB t.N t.ps (Zm t.st)
 n:t.N.e=d.n
 p:t.ps.e=d.ps
 le:d.ps<=d.n
 Hx:cV ⟨g,Zm t.st,t.N⟩ d.body (zI t.st)=k9
structure fK(Y:Ge)(p:M.Prog)(mg:Str->Option Value)(g:Cg):Prop where
 cl:p.cl=Y.cl
 ow:g.j=Y.own
 blt:∀x,x∈cn->mg (Jd x)=u0
 con:∀x d,p.con.p x=y0 d->∃u v,mg (Jd x)=y0 u/\RelV v u/\∀G H,aC Y G H d v
 cls:∀c,g.j.w c=k9->mg (Jd c)=y0 (.j (Y.j c))
 mZ:∀c f,g.w.er.w (c,f)=true->gZ Y c/\mB Y.K (Y.j c) (Jd f)/\oA Y.K (Y.j c) (Jd f)/\mg (Jd c)=some (.j (Y.j c))/\∃fI fd ps,PySem.W.findIn Y.K (.j (Y.j c)) "__init__"=some (some (.j fI))/\m7 Y.K (Jd f) fI fd ps
 fT:∀c,g.fT.w c=true->PySem.W.mroIn Y.K (Y.j c) (.p "BaseException")=some true/\g.j.w c=true
 fld:∀c f,g.w.fl.w (c,f)=k9->dG Y.K (Y.j c)/\cx Y.K (Y.j c) (Jd f)
 i6:∀c m q,g.w.mt.w (c,m,q)=k9->dG Y.K (Y.j c)/\g.w.ms.w q=k9/\nS Y.K (Y.j c) (Jd m) (Y.ma q)
 eW:∀c q,g.w.eW.w (c,q)=k9->mg (Jd c)=y0 (.j (Y.j c))/\g.w.ms.w q=k9/\Mk Y.K (Y.j c) (Y.ma q)
section
variable{P:Program}{w:World}{Y:Ge}{mg:Str->Option Value}{base:Heap}{p:M.Prog}
theorem fK.z (a:fK Y p mg g):fK Y p mg g.z:=⟨a.cl,a.ow,a.blt,a.con,a.cls,λc f h=>bB h,λc h=>bB h,a.fld,λc m q h=>bB h,λc q h=>bB h⟩
def HN(g:ah Y G h H)(r:br Y G H ws vs)(no:∀w∈ws,nq w=k9)(o:N.e=n):bu Y ⟨G,H,h⟩ G (ws.j y0++Aa4 (n-ws.e) u0) h (start N vs) H:=by
 have get:∀{i}{w},M.Gn (ws.j y0++Aa4 (n-ws.e) u0) i=y0 w->ws[i]?=y0 w:=λ{i w} e=>by
  rw[ZG]at e;by_cases x:i<ws.e
  .rw[Ad3 (by simp_all),Ac2]at e;cases q:ws[i]? with
|none=>rw[q]at e;cases e
|some z=>rw[q]at e;exact e
  .rw[Ae2 (by simp_all),Ai5]at e;split at e<;>cases e
 have f:∀{ws}{vs}{i:Nat}{w},br Y G H ws vs->ws[i]?=y0 w->∃v,vs[i]?=y0 v/\ai Y G H w v:=by
  intro ws;induction ws with
|nil=>intro vs i w _ e;simp at e
|cons a r u=>
   rintro vs i w ⟨v,y,e1,l,s⟩ e;subst e1;cases i with
|zero=>simp at e;subst e;exact⟨v,rfl,l⟩
|succ i=>obtain⟨t,k,p⟩:=u s (by assumption);exact⟨t,by simpa using k,p⟩
 have b:∀{i}{c},M.Gn _ i≠y0 (.j c):=λ{i c} e=>by have:=no _ (Ac5 (get e));cases this
 refine⟨⟨?_,λi w e=>?_,λi j c w a m e1=>absurd e1 b,g⟩,Ext.refl,g,λi c a e1=>absurd e1 b⟩
 .unfold start;rw[Aa5,Aa5,Aa,Aa,Ae3,Ae3,o,r.length]
 .obtain⟨v,e2,d⟩:=f r (get e);refine⟨v,?_,d⟩;unfold start;have x:=(Aa1.p e2).1;rw[Ad3 (by simp_all),Ac2,e2];rfl
def Ea(l:ah Y G h H)(p:aA Y E G H (M.Gx h.e o) Q):bg Y E ⟨G,H,h⟩ o {nx:=λ_ H'=>Q .aw H',rt:=Q}:=by
 have g:∀{w}{c}{b}{H'}{v},_->aA Y E G H (M.fin h.e w c) Q->Ext G H b H'->ah Y b c H'->ai Y b H' w v->aL [] [] H w v->Q v H':=λ{w c b H' v} n p e a r f=>by
  unfold M.fin at p;split at p
  .exact p b H' e a v r f
  .split at p
   .rename_i j;rw[Aa0,l.y]at j;have q:=e.cut;rw[l.y]at p;exact p _ H' q (a.cut e.le j.2) v (r.cut G.n e.le j.1 n) f
   .exact p b H' e a v r f
 cases o with
|next m c=>exactλb s H' k=>g (λi z=>by cases z) p k.I k.p.j rfl trivial
|ret w c=>
  cases w with
  |bor i=>exact p.j
  |v d=>exactλb v H' e a r f=>g (λi z=>by cases z) p e a r f
  |own i=>exactλb v H' e a r f=>g (λi z=>by cases z) p e a r f
|exc d c=>exact p
|brk m c=>exact p.j
|cont m c=>exact p.j
|fail=>exact p.j
end
section
variable{P:Program}{w:World}{Y:Ge}{mg:Str->Option Value}{base:Heap}{p:M.Prog}{g:Cg}
def nJ(P:Program)(w:World)(Y:Ge)(mg:Str->Option Value)(base:Heap)(r:Nat)(m:List M.W->M.AH->M.R M.W)(f:String):Prop:=
 ∃ps a fd,bx P w Y.K mg base (dq P w) r a fd ps (hJ Y m)/\Binds Y.K fd ps []/\Ah5 Y.K (.j a)=k9/\mg (Jd f)=y0 (.j a)
def Bf(P:Program)(w:World)(Y:Ge)(mg:Str->Option Value)(base:Heap)(r:Nat)(m:List M.W->M.AH->M.R M.W)(q:String):Prop:=
 ∃ps fd,bx P w Y.K mg base (dq P w) r (Y.ma q) fd ps (hJ Y m)/\Binds Y.K fd ps []
def oD(i:fK Y p mg g){t:Txt Y.K mg f}(ok:nj t d g)(hf:p.fns.p f=y0 d)(k r)(y:g.cb=k9->3<=r)(X:∀c,g.fT.w c=k9->2<=r)(ih:∀h,g.u.w h=k9->nJ P w Y mg base r (M.call p k h) h)
 (iq:∀h,g.qf.w h=k9->nJ P w Y mg base 2 (M.call p k h) h)(im:∀q,g.w.ms.w q=k9->Bf P w Y mg base r (M.call p k q) q):bx P w Y.K mg base (dq P w) (r+2) t.fa t.fd t.ps (hJ Y (M.call p (k+1) f)):=by
 have a:∀{j}{h},j.e≠d.ps->M.call p (k+1) f j h=.u:=λ{j h} J=>by rw[M.call,hf];simp[M.run,J]
 have n:=λ{j h} J=>M.Gb hf k j h J;obtain⟨x,y8,F⟩:=ok.fn;refine kA.sD F ok.sc (λvs H Q E ⟨G,h,j,U,rs,no,q⟩=>?_) λcdv A D s H vs Q E b ⟨G,h,j,U,rs,no,q⟩=>?_
 .by_cases v:j.e=d.ps
  .rw[←rs.length,v,ok.p]
  .rw[a v]at q;exact q.j
 .by_cases v:j.e=d.ps;rotate_left
  .rw[a v]at q;exact q.j
  rw[n v]at q;have calm:g.cb=k9->A.p=none:=λz=>b.hd (Nat.succ_le_succ (y z));refine⟨cm Y E (M.execs ⟨M.call p k,p.cl,p.con⟩ d.body),dH d.body _ _ r _ _ ?_ ok.Hx,?_⟩
  .refine{N:=rfl,K:=rfl,cl:=i.cl,ow:=i.ow,nd:=ok.sc.nd,gA:=λx l=>Bl l,kL:=λx l=>l,g6:=λx l=>⟨yB l,.p rfl⟩,kq:=λx l=>l,gl:=λx l=>pV l,calm:=λz=>by rw[show Cx.calm _=A.p.w from rfl,calm z];rfl,room:=b.mono (Nat.le_succ _),cv:=b,pass:=Lq,blt:=i.blt,con:=i.con,fn:=λh B=>?_,lT:=λh B=>?_,cls:=i.cls,fld:=i.fld,i6:=λc m q hq=>?_,eW:=λc q hq=>?_,hX:=Iu,gX:=rfl,nL:=rfl,ex:=rfl,mZ:=λc f hb C B hd=>?_,fT:=λc C=>⟨(i.fT c C).1,(i.fT c C).2,X c C⟩}
   .obtain⟨O,W,L,o,u,R,V⟩:=ih h B;exact⟨O,⟨W,L,o,u,R,V⟩⟩
   .obtain⟨O,W,L,o,u,R,V⟩:=iq h B;exact⟨O,⟨W,L,o,u,R,V⟩⟩
   .obtain⟨I,T,S⟩:=i.i6 c m q hq;obtain⟨O,L,o,u⟩:=im q T;exact⟨I,_,L,O,S,o,u⟩
   .obtain⟨I,T,S⟩:=i.eW c q hq;obtain⟨O,L,o,u⟩:=im q T;exact⟨I,_,L,O,S,o,u⟩
   .obtain⟨xo,xg,xe,hm,fI,L,O,hi,Z⟩:=i.mZ c f C;exact⟨xo,xg,λnp k7 pos e t ha hp=>Oy (calm hb) xe hi Z hm (pV B) (b.mono (by have:=y hb;lia)) ha (Zb hp) hd⟩
  .refine⟨⟨G,H,h⟩,G,j.j y0++Aa4 (d.n-d.ps) u0,h,?_,Ea U q⟩;have:=HN U rs no ok.n;rw[v]at this;exact this
def X7(r)(f)(fa)(fd)(ps):bx P w Y.K mg base (dq P w) r fa fd ps (hJ Y (M.call p 0 f)):=
 ⟨by rintro g H Q E⟨G,h,e,d,c,no,q⟩;exact q.j,by rintro A a s H b i g Q E _ _ _ _⟨G,h,e,d,c,no,q⟩;exact q.j⟩
def uc(Y:Ge)(mg:Str->Option Value)(p:M.Prog)(g:Cg)(f:String):Prop:=∃d,p.fns.p f=y0 d/\∃t:Txt Y.K mg f,nj t d g/\Ah5 Y.K (.j t.fa)=k9/\mg (Jd f)=y0 (.j t.fa)
def Du(l:fK Y p mg g)(all:∀f,g.u.w f=k9->uc Y mg p g f)(b:∀f,g.qf.w f=k9->uc Y mg p g.z f)
 (a:∀q,g.w.ms.w q=k9->∃d,p.fns.p q=y0 d/\∃t:Txt Y.K mg q,nj t d g/\t.fa=Y.ma q):∀k,(∀f,g.u.w f=k9->nJ P w Y mg base (2*k+3) (M.call p k f) f)/\(∀f,g.qf.w f=k9->nJ P w Y mg base 2 (M.call p k f) f)/\∀q,g.w.ms.w q=k9->Bf P w Y mg base (2*k+3) (M.call p k q) q:=by
 intro k;induction k with
|zero=>
  refine⟨λf h=>?_,λf h=>?_,λq m=>?_⟩
  .obtain⟨d,c,t,ok,i,e⟩:=all f h;exact⟨t.ps,t.fa,t.fd,X7 _ f _ _ _,ok.bd,i,e⟩
  .obtain⟨d,c,t,ok,i,e⟩:=b f h;exact⟨t.ps,t.fa,t.fd,X7 _ f _ _ _,ok.bd,i,e⟩
  .obtain⟨d,c,t,ok,n⟩:=a q m;exact⟨t.ps,t.fd,X7 _ q _ _ _,ok.bd⟩
|succ k j=>
  refine⟨λf h=>?_,λf h=>?_,λq m=>?_⟩
  .obtain⟨d,c,t,ok,i,e⟩:=all f h;exact⟨t.ps,t.fa,t.fd,oD l ok c k _ (λ_=>(Nat.le_add_left _ _)) (λ_ _=>(Nat.le_add_left _ _)) j.1 j.2.1 j.2.2,ok.bd,i,e⟩
  .obtain⟨d,c,t,ok,i,e⟩:=b f h;exact⟨t.ps,t.fa,t.fd,oD l.z ok c k 0 (λz=>nomatch z) (λ_ z=>bB z) (λ_ z=>bB z) (λ_ z=>bB z) λ_ z=>bB z,ok.bd,i,e⟩
  .obtain⟨d,c,t,ok,n⟩:=a q m;exact⟨t.ps,t.fd,n▸oD l ok c k _ (λ_=>(Nat.le_add_left _ _)) (λ_ _=>(Nat.le_add_left _ _)) j.1 j.2.1 j.2.2,ok.bd⟩
def rm(K:Ab):Sp:=λc H Q _=>∃(a:Addr)(b:List Int),c=[.j a]/\bA K H a (b.j V.int)/\b.e<=63/\∀H',Q (.C k9) H'
theorem sS:∀(ns:List Int),aa Y G H (ns.j M.D.int) (ns.j V.int)
|[]=>rfl
|n::ns=>⟨_,_,rfl,rfl,sS ns⟩
def Nc(F:bx P w Y.K mg base (dq P w) n fa fd ps (hJ Y (M.call p k "law")))(gQ:∀ns:List Int,ns.e<=63->∃h',M.call p k "law" [.v (.w (ns.j .o))] []=.j (.v (.C true)) h'):
 bx P w Y.K mg base mT n fa fd ps (rm Y.K):=by
 refine bx.calm F ?_;rintro y H Q E ⟨a,ns,t,d,i,q⟩;subst t;obtain⟨h',m⟩:=gQ ns i;have fin:∀G:Gh,ah Y G [] H->kX Y G H a _->hJ Y (M.call p k "law") [.j a] H Q (fun _ _ _=>False):=fun G l u=>by
  refine⟨G,[],[.v (.w _)],l,⟨.j a,[],rfl,⟨a,ns.j V.int,rfl,u,sS ns⟩,rfl⟩,λw j=>?_,?_⟩
  .cases Ac4.p j;rfl
  .rw[m];intro x h _ _ v r _;cases(r);exact q h
 obtain d|d:=d
 .refine fin ⟨λb=>b=a,λ_=>0,0⟩ ⟨rfl,λr c e=>by simp at e,λr s f=>absurd f (Ag6 _),λb g=>?_⟩ (.p ⟨rfl,d⟩);subst g;obtain z|⟨o,z⟩:=d
  .exact⟨_,z⟩
  .exact⟨_,z⟩
 .exact fin ⟨λ_=>False,λ_=>0,0⟩ ⟨rfl,λr c e=>by simp at e,λr s f=>absurd f (Ag6 _),λb g=>g.j⟩ (.u d)
def walk{l:PySem.W.OpenLaw}{K:Params->Ab}(k)(e:bc k callerA)(m:l.most=y0 63)(b:d.params.defaults=[])
 (g:∀w h,YP w h->(K w.p).In h)
 (F:∀w mg i h,(K w.p).In h->h.Ns mainGlobals mg->mg d.name=y0 (.j i)→
   ∃fd:FuncData,(∀s u,BindsTo s fd ⟨[u],[]⟩ [(x,u)])/\∀base:Heap,(K w.p).In base->base.Ns mainGlobals mg->bx l.prog w (K w.p) mg base mT k i fd [x] (rm (K w.p))):
 PySem.W.WalkO q loose XP YP l.row.toRowW d [] (λf vs=>PySem.call f vs):=
 Lake.ia m (by decide) b e g F (λ_ _ a j c _ n=>⟨a,j,rfl,n,c,λ_=>rfl⟩) λ_ _ _ _ _ z=>z
end
open PySem PySem.W PyProof.Rows KTD
theorem yf{f g:Str->Option (Str×Value)}:∀{l:List Str},(∀n∈l,f n=g n)->l.U f=l.U g
|[],_=>rfl
|a::l,h=>by rw[Ak0,Ak0,h a Aa3,yf λn b=>h n (Aa2 _ b)]
theorem uC:∀{ps:List Str}{a:List Value},ps.C->a.e=ps.e->ps.U (λn=>((ps.a0 a).p n).j (n,·))=ps.a0 a
|[],a,_,_=>rfl
|p::ps,[],_,h=>by cases h
|p::ps,u::a,c,h=>by have b:=Ai1.p c;rw[List.zip_cons_cons,List.filterMap_cons_some (by rw[List.lookup_cons_self];rfl)];congr 1;refine(yf λn d=>?_).j (uC b.2 (Nat.succ.inj h));rw[Ab7,beq_eq_false_iff_ne.u (λe=>b.1 (e▸d):n≠p)]
def Cy{ps:List Str}{a:List Value}(h:a.e=ps.e)(b:n∈ps):((ps.a0 a).p n).u=true:=by
 induction ps generalizing a with
|nil=>cases b
|cons p ps c=>
  cases a with
|nil=>cases h
|cons u a=>
   rw[List.zip_cons_cons,Ab7];cases e:n==p with
|true=>rfl
|false=>exact c (Nat.succ.inj h) ((Ab8.p b).x (beq_eq_false_iff_ne.p e))
noncomputable abbrev eh(a:FuncData):List Str:=a.p.args.j (·.arg)
def DP(h1:fd.p.posonlyargs=[])(h2:fd.p.vararg=u0)(h3:fd.p.kwonlyargs=[])(h4:fd.p.kwarg=u0)(h5:fd.defaults=.w)(nd:(eh fd).C)(hl:us.e=(eh fd).e):bindArgs fd ⟨us,[]⟩=pure ((eh fd).a0 us):=by
 have e:∀k,((eh fd).B k).T (λn=>(((eh fd).a0 us).p n).w)=[]:=λk=>List.filter_eq_nil_iff.u λn hn=>by
  have:=Cy hl (List.mem_of_mem_take hn);cases q:((eh fd).a0 us).p n with
|none=>rw[q]at this;cases this
|some _=>simp
 obtain⟨n,q,⟨po,as,va,ko,kd,ka,df⟩,b,sc,g,cl,d,kV,doc,pm,an,cd,ct,bi⟩:=fd;cases h1;cases h2;cases h3;cases h4;cases h5;refine(if_neg ?_).j ((if_neg ?_).j ?_)
 .simpa using Al4 hl
 .exactλz=>by have z':=(congrArg (λl:List Str=>!l.y) (e _)).p.j z;cases z'
 .refine Eq.trans ?_ (congrArg pure (uC nd hl));rw[show∀k,List.drop k (none.getD #[]).p=[]fromλk=>List.drop_nil,List.zip_nil_right];exact congrArg (λl:List Str=>(pure _:Sem _)) (Ae _)
noncomputable def mU(K:Frag)(a:Addr)(f:FuncData->List Stmt->Bool):Bool:=match K.p a with
|some ⟨_,_,.func fd,_⟩=>(match fd.body with
|.stmts b=>f fd b
|_=>y9)
|_=>y9
def pX{K:Frag}(h:mU K a f=k9):∃oc i fd sl b,K.p a=y0 ⟨oc,i,.func fd,sl⟩/\fd.body=.stmts b/\f fd b=true:=by
 unfold mU at h;split at h
 .rename_i e;split at h
  .rename_i e2;exact⟨_,_,_,_,_,e,e2,h⟩
  .cases h
 .cases h
def mm(K:Frag)(a:Addr)(b:FuncData)(N:List Str):Prop:=
 (b.globals=mainGlobals/\b.builtins=builtinsNs/\b.closure=[]/\b.defaults=.w)/\codeIn K b.code b.qualname=k9/\keepIn K (.j a)=k9∧
 (b.p.posonlyargs.y=k9/\b.p.vararg.w=k9/\b.p.kwonlyargs.y=k9/\b.p.kwarg.w=k9)∧
 b.j.p=.j/\b.j.isCoroutine=y9/\b.j.isGenerator=y9/\N.C/\N.B (eh b).e=eh b/\(∀x∈eh b,b.j.j.p x=y0 .local\/b.j.j.p x=y0 .p)/\∀y∈b.j.j,y.2≠.w
instance{K:Frag}{a:Addr}{fd:FuncData}{N:List Str}:Decidable (mm K a fd N):=by unfold mm;infer_instance
def yc{K:Frag}(l:K.p a=y0 ⟨oc,od,.func fd,sl⟩)(n:fd.body=.stmts b)(p:mm K a fd N):
 ∃st x q,zI st=b/\Zm st=fd.j/\kA K x q st a fd/\zB N (eh fd) fd.j/\∀i:List Value,i.e=(eh fd).e->bindArgs fd ⟨i,[]⟩=pure ((eh fd).a0 i):=by
 obtain⟨⟨g,bi,h,c⟩,j,u,⟨s,a2,a3,a4⟩,o,r,k,d,e,t,m⟩:=p;refine⟨.FunctionDef fd.name fd.p b [] u0 [] fd.j u0 fd.name ⟨0,0,0,0⟩,fd.name,fd.qualname,rfl,rfl,⟨⟨oc,od,fd.kwdefaults,fd.doc,fd.pyModule,fd.annotations,fd.code,fd.closureTuple,sl,?_,l,j⟩,u⟩,⟨o,r,k,d,e,t,m⟩,λi f=>DP (Af7.p s) (Ah7.p a2) (Af7.p a3) (Ah7.p a4) c (e▸(List.take_sublist _ _).nodup d) f⟩;cases fd;cases n;cases g;cases bi;cases h;cases c;rfl
noncomputable def iW:Option (Option Value)->Addr
|some (y0 (.j a))=>a
|_=>0
abbrev cg(K:Frag)(c:String):Addr:=iW (nsIn K mainGlobals (Jd c))
abbrev mf(K:Frag)(c:String):Prop:=nsIn K mainGlobals (Jd c)=y0 (y0 (.j (cg K c)))
noncomputable def hZ(K:Frag)(a:oR)(q:String):Addr:=match a.mt.find? (·.2.2==q)with
|some (c,m,_)=>iW (findIn K (.j (cg K c)) (Jd m))
|none=>match a.eW.find? (·.2==q)with
|some (c,_)=>iW (findIn K (.j (cg K c)) "__init__")
|none=>0
noncomputable def vT(sc:Scope):List Str:=sc.j.U λy=>if y.2=.local\/y.2=.p then y0 y.1 else u0
def XP(K:Frag)(a:M.dG)(own:List String)(c:String):Prop:=((findIn K (.j (cg K c)) "__getattribute__"=some (some (.u "BaseException.__getattribute__"))/\findIn K (.j (cg K c)) "__getattr__"=some none/\findIn K (.j (cg K c)) "__class__"=some (some (.u "object.__class__")))∧
 specialIn K (.u "object.__class__") "__get__"=some (some (.u "getset_descriptor.__get__"))/\takesIn K (.u "object.__class__")=some true/\mroIn K (cg K c) (.p "object")=some true/\mroIn K (cg K c) (.p "BaseException")=some true/\kitCls K (.j (cg K c)) (.j (cg K c))=some true/\(clsIn K (cg K c)).u=true)∧
 (∀t∈own,kitOne K (.j (cg K c)) (.j (cg K t))=some ((M.GW a 8 c).w t))/\kitOne K (.j (cg K c)) (.p "ValueError")=some ((M.GW a 8 c).w "ValueError")/\mf K c
instance{K:Frag}{cl:M.dG}{own:List String}{c:String}:Decidable (XP K cl own c):=by unfold XP;infer_instance
def nQ(K:Frag)(p:M.Prog)(g:Cg)(nm:List (String×List String))(a:Addr)(f:String):Bool:=mU K a λfd b=>match p.fns.p f with
|some d=>(λN=>u9 (mm K a fd N/\N.e=d.n/\(eh fd).e=d.ps/\d.ps<=d.n)&&cV ⟨g,fd.j,N⟩ d.body b) (((nm.p f).j λl=>l.j Jd).getD (vT fd.j))
|none=>y9
def nF{K:Frag}(mg)(h:nQ K p g nm a f=k9):
 ∃d,p.fns.p f=y0 d/\∃t:Txt K mg f,nj t d g/\t.fa=a/\keepIn K (.j a)=k9/\∃oc L sl,K.p a=y0 ⟨oc,L,.func t.fd,sl⟩/\t.ps=eh t.fd/\∀i:List Value,i.e=t.ps.e->bindArgs t.fd ⟨i,[]⟩=pure (t.ps.a0 i):=by
 obtain⟨oc,L,j,sl,b,l,o,h⟩:=pX h;cases e:p.fns.p f with
|none=>rw[e]at h;cases h
|some d=>rw[e]at h;generalize ((nm.p f).j λl=>l.j Jd).getD (vT j.j)=N at h;obtain⟨n,c⟩:=(Aa0 _ _).mp h;obtain⟨q,r,u,v⟩:=of_decide_eq_true n;obtain⟨y,x,s,rfl,w,F,m,k⟩:=yc l o q;rw[←w]at m c;exact⟨d,rfl,⟨y,a,j,_,eh j⟩,⟨⟨x,s,F⟩,.all k,m,r,u,v,c⟩,rfl,F.kp,oc,L,sl,l,rfl,k⟩
noncomputable def vi(f n m:Str)(b:List Stmt):Bool:=lC b λst r=>kZ r (fW st λd v=>lC d λt r=>kZ r (ZK t λx g _=>xq x λa=>xq v λc=>u9 (a=n)&&u9 (g=f)&&u9 (c=m)))
def OI(h:vi f n m b=k9):∃i p2 L j,b=[.j [.p (.j n i) f p2] (.j m L) j]:=by refine kC (λk r h=>?_) b h;refine kE (λh=>?_) r h;refine gH (λo v p h=>?_) k h;refine kC (λt r h=>?_) o h;refine kE (λh=>?_) r h;refine zN (λx g p h=>?_) t h;refine Zq (λa p h=>?_) x h;refine Zq (λc p h=>?_) v h;obtain⟨d,l,e⟩:=a3 h;cases of_decide_eq_true d;cases of_decide_eq_true l;cases of_decide_eq_true e;exact⟨_,_,_,_,rfl⟩
def Br(K:Frag)(f:Str)(a:Addr):Bool:=mU K a λfd b=>match eh fd with
|[n,m]=>u9 (mm K a fd [n,m]/\(n==("__debug__":Str))=false/\(m==("__debug__":Str))=false/\(n==("__classdict__":Str))=false/\(m==("__classdict__":Str))=false)&&vi f n m b
|_=>y9
def Ow{K:Frag}(h:Br K f a=k9)(k:isFn K (.j a)=k9):∃fd ps,m7 K f a fd ps:=by
 obtain⟨oc,y,fd,sl,b,l,j,h⟩:=pX h;split at h
 .rename_i n m e;obtain⟨g,p⟩:=(Aa0 _ _).mp h;obtain⟨q,d⟩:=of_decide_eq_true g;obtain⟨w,x,o,rfl,v,F,c,t⟩:=yc l j q;obtain⟨r,i,u,s,e2⟩:=OI p;rw[←v]at c;exact⟨fd,eh fd,⟨x,o,w,_,n,m,r,i,u,s,F,e,rfl,c,e2,d⟩,.all t,beq_iff_eq.p k⟩
 .cases h
noncomputable def oW(K:Frag)(a:Addr)(f:List Value->Bool):Bool:=match K.p a with
|some o=>(match o.j with
|.j b _=>u9 (o.cls=.p "tuple"/\o.w=none/\b.j<=100)&&f b.p
|_=>y9)
|none=>y9
def Fe(h:oW Y.K a f=k9):∃i,f i=k9/\∀vs,Vals vs i->∀G H,fN Y G H a vs:=by
 unfold oW at h;split at h
 .rename_i o e;split at h
  .rename_i b n e2;obtain⟨g,j⟩:=(Aa0 _ _).mp h;obtain⟨d,k,c⟩:=of_decide_eq_true g;exact⟨_,j,λvs r G H=>.u ⟨o,b,n,e,d,k,e2,Ab5 c (by rw[sizeLine_eq];decide),r⟩⟩
  .cases h
 .cases h
def um(h:nR u=y0 x):RelV x u:=by
 cases u<;>cases h<;>first|rfl|exact⟨_,rfl⟩
mutual
noncomputable def sf(K:Frag):M.D->Value->Bool
|.o i,u=>u9 (nR u=y0 (.o i))
|.p s,u=>u9 (nR u=y0 (.p (aK s)))
|.u ds,u=>u9 (u=.j (iW (y0 (y0 u))))&&oW K (iW (y0 (y0 u))) λus=>gy K ds us
|_,_=>y9
noncomputable def gy(K:Frag):List M.D->List Value->Bool
|[],[]=>k9
|d::ds,u::us=>sf K d u&&gy K ds us
|_,_=>y9
end
def tT(K:Frag)(x:String)(d:M.D):Bool:=match nsIn K mainGlobals (Jd x)with
|some (y0 u)=>sf K d u
|_=>y9
mutual
theorem ug{Y:Ge}:∀{d:M.D}{u:Value},sf Y.K d u=k9->∃v,RelV v u/\∀G H,aC Y G H d v
|.o _,_,h=>⟨.o _,um (of_decide_eq_true h),λ_ _=>rfl⟩
|.p _,_,h=>⟨.p _,um (of_decide_eq_true h),λ_ _=>rfl⟩
|.T,_,h=>bB h
|.C _,_,h=>bB h
|.w _,_,h=>bB h
|.j _,_,h=>bB h
|.x ..,_,h=>bB h
|.u ds,u,h=>by obtain⟨h0,h⟩:=(Aa0 _ _).mp h;obtain⟨us,h1,h2⟩:=Fe h;obtain⟨vs,r,h3⟩:=fq h1;exact⟨.j _,of_decide_eq_true (p:=u=_) h0,λG H=>⟨_,vs,rfl,h2 vs r G H,h3 G H⟩⟩
theorem fq{Y:Ge}:∀{ds:List M.D}{us:List Value},gy Y.K ds us=k9->∃vs,Vals vs us/\∀G H,aa Y G H ds vs
|[],[],_=>⟨[],.p,λ_ _=>rfl⟩
|[],_::_,h=>bB h
|_::_,[],h=>bB h
|d::ds,u::us,h=>by obtain⟨h1,h2⟩:=(Aa0 _ _).mp h;obtain⟨v,r1,h3⟩:=ug h1;obtain⟨vs,r2,h4⟩:=fq h2;exact⟨v::vs,.j r1 r2,λG H=>⟨v,vs,rfl,h3 G H,h4 G H⟩⟩
end
theorem vb:∀{l:List (String×α)}{x}{d},l.p x=y0 d->(x,d)∈l
|(k,v)::l,x,d,h=>by
  rw[Ab7]at h;by_cases q:(x==k)=k9
  .rw[q]at h;cases h;rw[eq_of_beq q];exact Aa3
  .rw[eq_false_of_ne_true q]at h;exact Aa2 _ (vb h)
abbrev Bk(K:Frag)(C:Addr):Prop:=plainGet K C Str.empty=true/\hasDictIn K C=true/\plainOver K C=true/\findIn K (.j C) "__setattr__"=some (some (.u "object.__setattr__"))
def su(K:Frag)(p:M.Prog)(g:Cg)(nm:List (String×List String)):Prop:=
 (∀x∈cn,nsIn K mainGlobals (Jd x)=y0 u0)/\(∀x∈p.con,tT K x.1 x.2=k9)/\(∀c∈g.j,mf K c)∧
 (∀c∈g.w.er,XP K p.cl g.j c.1/\(xN K (cg K c.1)=true/\lU K (cg K c.1)=true/\findIn K (.j (cg K c.1)) "__setattr__"=some (some (.u "object.__setattr__"))/\findIn K (.j (cg K c.1)) (Jd c.2)=some none/\keepIn K (.j (cg K c.1))=true)∧
   findIn K (.j (cg K c.1)) "__init__"=some (some (.j (iW (findIn K (.j (cg K c.1)) "__init__"))))/\Br K (Jd c.2) (iW (findIn K (.j (cg K c.1)) "__init__"))=true/\isFn K (.j (iW (findIn K (.j (cg K c.1)) "__init__")))=true)∧
 (∀c∈g.fT,mroIn K (cg K c) (.p "BaseException")=some true/\g.j.w c=true)∧
 (∀c∈g.w.fl,Bk K (cg K c.1)/\findIn K (.j (cg K c.1)) (Jd c.2)=y0 u0)∧
 (∀c∈g.w.mt,Bk K (cg K c.1)/\g.w.ms.w c.2.2=k9/\findIn K (.j (cg K c.1)) (Jd c.2.1)=y0 (y0 (.j (hZ K g.w c.2.2)))/\isFn K (.j (hZ K g.w c.2.2))=k9/\keepIn K (.j (hZ K g.w c.2.2))=k9)∧
 (∀c∈g.w.eW,mf K c.1/\g.w.ms.w c.2=true/\makesIn K (cg K c.1)=true/\findIn K (.j (cg K c.1)) "__init__"=some (some (.j (hZ K g.w c.2)))/\isFn K (.j (hZ K g.w c.2))=true/\keepIn K (.j (cg K c.1))=true)∧
 (∀f∈g.u,mf K f/\nQ K p g nm (cg K f) f=true)/\(∀q∈g.w.ms,nQ K p g nm (hZ K g.w q) q=true)/\(∀f∈g.qf,mf K f/\nQ K p g.z nm (cg K f) f=true)/\g.u.w "law"=true/\mU K (cg K "law") (fun fd _=>decide (eh fd=[("_law_script":Str)]))=true
set_option synthInstance.maxSize 1000 in
instance{K:Frag}{p:M.Prog}{g:Cg}{nm:List (String×List String)}:Decidable (su K p g nm):=by unfold su;infer_instance
def jG  [BEq α][LawfulBEq α]{l:List α}(h:l.w x=k9):x∈l:=Al1.p h
def XP.ok {K:Frag}{p:M.Prog}(h:XP K p.cl own c):gZ ⟨K,cg K,p.cl,own,hZ K ob⟩ c:=by obtain⟨⟨⟨d,a2,a3⟩,a4,a5,a6,a7,a,e⟩,b,c,_⟩:=h;exact⟨⟨d,a2,a3,a4,a5,a6,a7,a,e⟩,b,c⟩
def ll{l:OpenLaw}{K:Frag}(p)(g)(nm)(k)(X:K.In h)(G:h.Ns mainGlobals mg)(J:mg "law"=some (.j fa))(T:decide (su K p g nm)=true)
 (gQ:∀ns:List Int,ns.e<=63->∃h',M.call p (k+1) "law" [.v (.w (ns.j .o))] []=.j (.v (.C true)) h'):
 ∃fd:FuncData,(∀s v,BindsTo s fd ⟨[v],[]⟩ [("_law_script",v)])/\∀base:Heap,K.In base->base.Ns mainGlobals mg->bx l.prog w K mg base mT (2*k+3+2) fa fd ["_law_script"] (rm K):=by
 obtain⟨U,W,t2,t4,V,t6,t7,t8,I,L,S,C,Q⟩:=of_decide_eq_true T;have R:fK ⟨K,cg K,p.cl,g.j,hZ K g.w⟩ p mg g:=by
  refine⟨rfl,rfl,λx Z=>mg_none_of X G (U x Z),λx d j=>?_,λc a=>mg_of X G (t2 c (jG a)),λc f a=>?_,λc a=>V c (jG a),λc f a=>?_,λc m q a=>?_,λc q a=>?_⟩
  .have z:=W (x,d) (vb j);unfold tT at z;split at z
   .rename_i u e;obtain⟨v,r⟩:=ug (Y:=⟨K,cg K,p.cl,g.j,hZ K g.w⟩) z;exact⟨u,v,mg_of X G e,r⟩
   .cases z
  .obtain⟨z,⟨e1,e2,A,n,y⟩,E,O,H⟩:=t4 (c,f) (jG a);obtain⟨fd,ps,i⟩:=Ow O H;exact⟨z.ok,⟨e2,n,z.1.1.1,z.1.1.2.1⟩,⟨e1,e2,A,n,y⟩,mg_of X G z.2.2.2,_,fd,ps,E,i⟩
  .obtain⟨⟨e1,e2,A,n⟩,y⟩:=t6 (c,f) (jG a);exact⟨⟨e1,e2,A,n⟩,y⟩
  .obtain⟨⟨e1,e2,A,n⟩,y,E,O,H⟩:=t7 (c,m,q) (jG a);exact⟨⟨e1,e2,A,n⟩,y,E,O,H⟩
  .obtain⟨e1,e2,A,n,y,E⟩:=t8 (c,q) (jG a);exact⟨mg_of X G e1,e2,A,n,y,E⟩
 have D:=λf o=>mg_of X G (I f (jG o)).1;have e:cg K "law"=fa:=by have:=(D "law" C).p.j J;cases this;rfl
 obtain⟨d,j,t,ok,b,F,oc,od,sl,lk,ep,bd⟩:=nF mg (I "law" (jG C)).2;obtain⟨_,_,fd,_,_,B,_,z⟩:=pX Q;rw[lk]at B;cases B;have z:=ep.j (of_decide_eq_true z);refine⟨t.fd,λs v=>.of_eq ((bd [v] (by rw[z];rfl)).j (by rw[z];rfl)),λbase _ _=>?_⟩;have N:=Du (P:=l.prog) (w:=w) (base:=base) R (λf o=>by
  obtain⟨d,j,t,ok,b,F,_⟩:=nF mg (I f (jG o)).2;exact⟨d,j,t,ok,b▸F,b▸D f o⟩) (λf o=>by
  obtain⟨d,j,t,ok,b,F,_⟩:=nF mg (S f (jG o)).2;exact⟨d,j,t,ok,b▸F,b▸mg_of X G (S f (jG o)).1⟩) (λq hq=>by
  obtain⟨d,j,t,ok,b,_⟩:=nF mg (L q (jG hq));exact⟨d,j,t,ok,b⟩) k
 have:=Nc (oD R ok j k _ (λ_=>(Nat.le_add_left _ _)) (λ_ _=>(Nat.le_add_left _ _)) N.1 N.2.1 N.2.2) gQ;rw[b,e,z]at this;exact this
end Lake.MS
namespace Wf
def ij(t k):t/2^k%2=(t.j k).j:=(Nat.toNat_testBit t k).p
theorem ZQ:∀(n a b:Nat),a<=n->(a|||b)+(a&&&b)=a+b
|0,a,b,h=>by
  have:a=0:=by lia
  subst this;simp
|n+1,a,b,h=>by
  by_cases c:a=0
  .subst c;simp
  have g:=ZQ n (a/2) (b/2) (by lia);have e1:=Al9 (a|||b) 2;have e2:=Al9 (a&&&b) 2;rw[Nat.or_div_two]at e1;rw[Nat.and_div_two]at e2;have f:(a|||b)%2=1↔a%2=1\/b%2=1:=Nat.or_mod_two_eq_one;have e:(a&&&b)%2=1↔a%2=1/\b%2=1:=Nat.and_mod_two_eq_one;have j:=Al9 a 2;have k:=Al9 b 2;have i:(a|||b)%2<2:=Ai9 _ (by decide);have l:(a&&&b)%2<2:=Ai9 _ (by decide);generalize (a|||b)%2=p at*;generalize (a&&&b)%2=q at*;by_cases c:a%2=1<;>by_cases d:b%2=1
  .have:p=1:=f.u (.p c);have:q=1:=e.u ⟨c,d⟩;lia
  .have:p=1:=f.u (.p c);have:¬q=1:=λh=>d (e.p h).2;lia
  .have:p=1:=f.u (.u d);have:¬q=1:=λh=>c (e.p h).1;lia
  .have:¬p=1:=λh=>(f.p h).j c d;have:¬q=1:=λh=>c (e.p h).1;lia
def DF(a b:Nat):a-(a&&&b)=a^^^(a&&&b):=by
 have h:=ZQ _ (a^^^(a&&&b)) (a&&&b) (Aa9 _);have e1:(a^^^(a&&&b))|||(a&&&b)=a:=Aj9 λk=>by simp[Ah2];cases a.j k<;>cases b.j k<;>rfl
 have e2:(a^^^(a&&&b))&&&(a&&&b)=0:=Aj9 λk=>by simp only[Nat.testBit_xor,Ah2,Af8];cases a.j k<;>cases b.j k<;>rfl
 lia
def aP(a b k:Nat):(a-(a&&&b)).j k=(a.j k&&!b.j k):=by rw[DF];simp[Ah2];cases a.j k<;>cases b.j k<;>rfl
noncomputable def az(n t:Nat):List (Nat×Nat):=((Aa7 (n*n)).T t.j).j λk=>(k/n,k%n)
noncomputable def c9(n:Nat)(ps:List (Nat×Nat)):Nat:=ps.X (λt p=>t|||2^(p.1*n+p.2)) 0
def fA(n:Nat)(ps:List (Nat×Nat)):Prop:=∀p∈ps,p.1<n/\p.2<n
def place_lt{n a b:Nat}(c:a<n)(d:b<n):a*n+b<n*n:=by
 have:a*n+n<=n*n:=by
  have:=Ao5 n (Nat.succ_le_of_lt c)
  rwa [Nat.succ_mul]at this
 lia
def aF{n a b:Nat}(c:b<n):(a*n+b)/n=a:=by rw[Am6,Nat.mul_add_div (Nat.le_trans (Nat.le_add_left _ _) ‹_›),Nat.div_eq_of_lt c,Nat.add_zero]
def aJ{n a b:Nat}(c:b<n):(a*n+b)%n=b:=by rw[Am6,Nat.mul_add_mod,Nat.mod_eq_of_lt c]
def bj{n k:Nat}(h:k<n*n):k/n<n:=Nat.div_lt_of_lt_mul h
def a9{n k:Nat}(h:k<n*n):k%n<n:=Ai9 _ (by
 cases n with
|zero=>simp at h
|succ m=>exact Nat.le_add_left _ _)
def bz(n k:Nat):k/n*n+k%n=k:=by rw[Am6];exact Al9 k n
theorem AJ(n):∀(ps:List (Nat×Nat))(t k:Nat),(ps.X (λt p=>t|||2^(p.1*n+p.2)) t).j k=(t.j k||ps.A λp=>u9 (p.1*n+p.2=k))
|[],t,k=>by simp
|p::r,t,k=>by rw[Aj2,AJ n r,Af1,Ae0,Ag4,Bool.or_assoc]
def cP(n)(ps)(k):(c9 n ps).j k=ps.A λp=>u9 (p.1*n+p.2=k):=by unfold c9;rw[AJ];simp
def dw(h:fA n ps):c9 n ps<2^(n*n):=by refine Nat.lt_pow_two_of_testBit _ λi b=>?_;rw[cP,Ak9];intro p a;have:=h p a;have:=place_lt this.1 this.2;simp;lia
def bI:p∈az n t↔∃k,k<n*n/\t.j k=k9/\p=(k/n,k%n):=by
 unfold az;simp[Ac0];constructor
 .rintro⟨k,⟨b,a⟩,rfl⟩;exact⟨k,b,a,rfl⟩
 .rintro⟨k,b,a,rfl⟩;exact⟨k,⟨b,a⟩,rfl⟩
def bZ(n t):fA n (az n t):=λp b=>by obtain⟨k,a,c,rfl⟩:=bI.p b;exact⟨bj a,a9 a⟩
noncomputable def mw(ps:List (Nat×Nat)):List (Nat×Nat):=ps.j λp=>(p.2,p.1)
def fm(h:fA n ps):fA n (mw ps):=λp b=>by obtain⟨q,a,rfl⟩:=Ac1.p b;exact⟨(h q a).2,(h q a).1⟩
def bL(n t:Nat):Nat:=c9 n (mw (az n t))
def gJ(n t):bL n t<2^(n*n):=dw (fm (bZ n t))
def fF(g:k<n*n):(bL n t).j k=t.j (k%n*n+k/n):=by
 unfold bL;rw[cP];have c:=bj g;by_cases h:t.j (k%n*n+k/n)=k9
 .rw[h,Ad1];refine⟨(k/n,k%n),?_,?_⟩
  .refine Ac1.u ⟨(k%n,k/n),bI.u ⟨k%n*n+k/n,place_lt (a9 g) c,h,?_⟩,rfl⟩;rw[aF c,aJ c]
  .simp[decide_eq_true_eq];exact bz n k
 .have d:=by simpa using h
  rw[d,Ak9];intro p l;obtain⟨q,i,rfl⟩:=Ac1.p l;obtain⟨j,b,a,rfl⟩:=bI.p i;simp[decide_eq_true_eq];intro e;subst e;have f:=bj b;have a2:=a9 b;rw[aF f,aJ f,bz]at d;rw[d]at a;cases a
def bH(n:Nat):Nat:=c9 n ((Aa7 n).j λa=>(a,a))
def eG(n):fA n ((Aa7 n).j λa=>(a,a)):=λp c=>by obtain⟨a,b,rfl⟩:=Ac1.p c;exact⟨Ac0.p b,Ac0.p b⟩
def Mp(c:k<n*n):(bH n).j k=u9 (k/n=k%n):=by
 unfold bH;rw[cP];have f:=a9 c;by_cases h:k/n=k%n
 .rw[decide_eq_true h,Ad1];refine⟨_,Ac1.u ⟨k/n,Ac0.u (bj c),rfl⟩,?_⟩;simp[decide_eq_true_eq];have:=bz n k;rw[←h]at this;exact this
 .rw[decide_eq_false h,Ak9];intro p d;obtain⟨a,b,rfl⟩:=Ac1.p d;simp[decide_eq_true_eq];intro e;subst e;have b:=Ac0.p b;exact h (by rw[aF b,aJ b])
noncomputable def cF(n p b:Nat):Nat:=p/2^(b*n)%2^n
def joinM(n o p:Nat):Nat:=(az n o).X (λt q=>t|||cF n p q.2*2^(q.1*n)) 0
def dz(n p b):cF n p b<2^n:=Ai9 _ (Nat.pow_pos (by decide))
def vE(a:c<n):(cF n p b).j c=p.j (b*n+c):=by unfold cF;rw[Ag9,decide_eq_true a,Ae6,Ah,Aq0]
def E8(f:x<2^n)(d:0<n):(x*2^(a*n)).j k=(u9 (k/n=a)&&x.j (k%n)):=by
 rw[Nat.testBit_mul_two_pow];have e:=bz n k;by_cases h:k/n=a
 .subst h;rw[decide_eq_true rfl,Ae6];have:k/n*n<=k:=by lia
  rw[decide_eq_true (this),Ae6];rw[show k-k/n*n=k%n by lia]
 .rw[decide_eq_false h,Ae5];by_cases b:k>=a*n
  .rw[decide_eq_true b,Ae6];refine Ak8 (Ab4 f (Ad2 (by decide) ?_));have c:a<k/n:=by have:a<=k/n:=(Nat.le_div_iff_mul_le d).u b;lia
   have g:=Ao5 n c;lia
  .rw[decide_eq_false b,Ae5]
theorem Bc(n p)(a:0<n):∀(ps:List (Nat×Nat)) t k,(ps.X (λt q=>t|||cF n p q.2*2^(q.1*n)) t).j k=(t.j k||ps.A λq=>u9 (k/n=q.1)&&(cF n p q.2).j (k%n))
|[],t,k=>by simp
|q::r,t,k=>by rw[Aj2,Bc n p a r,Af1,E8 (dz n p q.2) a,Ag4,Bool.or_assoc]
def M5(h:k<n*n):0<n:=by
 cases n with
|zero=>simp at h
|succ m=>exact Nat.le_add_left _ _
noncomputable def JB(n o p k:Nat):Bool:=(Aa7 n).A λb=>o.j (k/n*n+b)&&p.j (b*n+k%n)
def cz(f:k<n*n):(joinM n o p).j k=JB n o p k:=by
 have h:=a9 f;unfold joinM JB;rw[Bc n p (M5 f)];simp[Bool.false_or];rw[Bool.eq_iff_iff,Ad1,Ad1];constructor
 .rintro⟨q,i,a⟩;obtain⟨j,g,c,rfl⟩:=bI.p i;rw[Aa0,decide_eq_true_eq]at a;obtain⟨e,a⟩:=a;refine⟨j%n,Ac0.u (a9 g),?_⟩;rw[vE h]at a;rw[e,bz,c,a];rfl
 .rintro⟨b,a,d⟩;have a:=Ac0.p a;rw[Aa0]at d;refine⟨_,bI.u ⟨k/n*n+b,place_lt (bj f) a,d.1,by rw[aF a,aJ a]⟩,?_⟩;rw[vE h,d.2];simp
def dJ(n o p):joinM n o p<2^(n*n):=by
 have c:∀(a:List (Nat×Nat)) t,(∀q∈a,q.1<n)->t<2^(n*n)->a.X (λt q=>t|||cF n p q.2*2^(q.1*n)) t<2^(n*n):=by
  intro a;induction a with
|nil=>intro t _ h;exact h
|cons q r f=>
   intro t d g;refine f _ (λz i=>d z (Aa2 _ i)) (Al g ?_);have b:=d q Aa3;have:=dz n p q.2;have e:2^n*2^(q.1*n)<=2^(n*n):=by rw[←Nat.pow_add];refine Ad2 (by decide) ?_;have:=Ao5 n (Nat.succ_le_of_lt b);lia
   exact Ab4 (Nat.mul_lt_mul_of_pos_right this (Nat.pow_pos (by decide))) e
 exact c _ _ (λq b=>(bZ n o q b).1) (Nat.pow_pos (by decide))
def eS(c:s<2^n)(b:t<2^n)(h:∀k,k<n->s.j k=t.j k):s=t:=
 Aj9 λk=>by
  by_cases a:k<n
  .exact h k a
  .rw[Ak8 (Ab4 c (Ad2 (by decide) (Nat.le_of_not_lt ‹_›))),Ak8 (Ab4 b (Ad2 (by decide) (Nat.le_of_not_lt ‹_›)))]
def eV(d:a<n)(c:b<n):(bH n).j (a*n+b)=u9 (a=b):=by rw[Mp (place_lt d c),aF c,aJ c]
def gK(n):bH n<2^(n*n):=dw (eG n)
inductive TC(n t a:Nat):Nat->Prop
|step {b:Nat}:a<n->b<n->t.j (a*n+b)=k9->TC n t a b
|more {b c:Nat}:TC n t a b->b<n->c<n->t.j (b*n+c)=k9->TC n t a c
def TC.trans (h1:TC n t a b)(e:TC n t b c):TC n t a c:=by
 induction e with
|step x y z=>exact .more h1 x y z
|more _ x y z d=>exact .more d x y z
structure fy(n t r:Nat):Prop where
 lt:r<2^(n*n)
 bit:∀a b,a<n->b<n->(r.j (a*n+b)=k9↔TC n t a b)
structure gz(n t r:Nat):Prop where
 lt:r<2^(n*n)
 sub:∀a b,a<n->b<n->r.j (a*n+b)=k9->TC n t a b
 sup:∀k,t.j k=k9->r.j k=k9
def gz.start (h:t<2^(n*n)):gz n t t:=⟨h,λ_ _ b a h=>.step b a h,λ_ h=>h⟩
def cW(d:c<n):JB n o p (a*n+c)=(Aa7 n).A λb=>o.j (a*n+b)&&p.j (b*n+c):=by unfold JB;rw[aF d,aJ d]
def gz.next (h:gz n t r):gz n t (r|||joinM n r r):=by
 refine⟨Al h.lt (dJ _ _ _),λa b g e d=>?_,λk i=>?_⟩
 .rw[Af1,Ae8]at d;obtain d|d:=d
  .exact h.sub a b g e d
  .rw[cz (place_lt g e),cW e,Ad1]at d;obtain⟨c,f,d⟩:=d;have f:=Ac0.p f;rw[Aa0]at d;exact(h.sub a c g f d.1).trans (h.sub c b f e d.2)
 .rw[Af1,h.sup k i,Am4]
def Dr{a b:Nat}(h:a|||b=a)(k)(c:b.j k=k9):a.j k=true:=by rw[←h,Af1,c,An9]
def gz.done (h:gz n t r)(e:r|||joinM n r r=r):fy n t r:=by
 refine⟨h.lt,λa b i j=>⟨h.sub a b i j,λg=>?_⟩⟩;induction g with
|step c d f=>exact h.sup _ f
|more g c d f k=>refine Dr e _ ?_;rw[cz (place_lt i d),cW d,Ad1];exact⟨_,Ac0.u c,by rw[(k c),h.sup _ f];rfl⟩
def gz.grow (h:gz n t r)(ne:r|||joinM n r r≠r):r<r|||joinM n r r:=by have:=@Nat.left_le_or r (joinM n r r);lia
structure Pq(n t a:Nat)(re wa:List Nat):Prop where
 an:a<n
 nd:re.C
 tc:∀x∈re,TC n t a x
 wl:∀x∈wa,x<n/\(x=a\/x∈re)
 cl:∀x,(x=a\/x∈re)->x∉wa->∀b,b<n->t.j (x*n+b)=k9->b∈re
structure Lk(n t a:Nat)(re wa:List Nat)(h b:Nat):Prop where
 an:a<n
 nd:re.C
 tc:∀x∈re,TC n t a x
 wl:∀x∈wa,x<n/\(x=a\/x∈re)
 cl:∀x,(x=a\/x∈re)->x∉wa->x≠h->∀b,b<n->t.j (x*n+b)=k9->b∈re
 hn:h<n
 hr:h=a\/h∈re
 hb:∀b',b'<b->t.j (h*n+b')=k9->b'∈re
end Wf
namespace Lake.M
open M renaming E.int→Lake.M.E.o,E.str→Lake.M.E.p,E.tup→Lake.M.E.u,E.call→Lake.M.E.j,E.lst→Lake.M.E.w,E.bin→Lake.M.E.x,E.cmp→Lake.M.E.y,E.ix→Lake.M.E.B,E.bl→Lake.M.E.C,E.comp→Lake.M.E.N,E.aw→Lake.M.E.T,E.var→Lake.M.E.X,E.not→Lake.M.E.a0,E.chain→Lake.M.E.a2,D.int→Lake.M.D.o,Ss.cons→Lake.M.Ss.j,Ss.nil→Lake.M.Ss.p,Es.cons→Lake.M.Es.j,Es.nil→Lake.M.Es.p,R.ok→Lake.M.R.j,S.set→Lake.M.S.x,S.ret→Lake.M.S.j,S.af→Lake.M.S.p,S.iff→Lake.M.S.u,It.seq→Lake.M.It.j,It.ao→Lake.M.It.p,Ty.tuple→Lake.M.Ty.x,Bi.tuple→Lake.M.Bi.x,Bi.len→Lake.M.Bi.y,Op.bor→Lake.M.Op.p,Op.add→Lake.M.Op.j,Op.band→Lake.M.Op.u,Op.mul→Lake.M.Op.w,Op.mod→Lake.M.Op.x,Op.sub→Lake.M.Op.y,Op.shl→Lake.M.Op.A,Op.shr→Lake.M.Op.B,Cp.eq→Lake.M.Cp.j,Cp.mem→Lake.M.Cp.p,Cp.ne→Lake.M.Cp.u
noncomputable abbrev Bv:Tx:=[115,111,109,101,32,110,111,32,108,101,97,115,116,32,109,111,115,116,32,101,97,99,104,32,105,110,32,97,110,100,32,111,114,32,110,111,116,32,115,97,109,101,32,97,108,108,32,110,111,110,101,32,107,105,110,100,32,116,105,101,32,115,97,121]
abbrev gG:Tx:=[108,101,97,115,116]
noncomputable abbrev vX:Tx:=[97,98,99,100,101,102,103,104,105,106,107,108,109,110,111,112,113,114,115,116,117,118,119,120,121,122]
abbrev kb:Tx:=[98,114,111,107,101,110]
abbrev iX:Tx:=[119,111,114,108,100]
abbrev gW:Tx:=[115,111,109,101]
abbrev iB:Tx:=[109,111,115,116]
abbrev oj:Tx:=[101,97,99,104,108,101,97,115,116]
abbrev kl:Tx:=[101,113,117,97,108]
abbrev gu:Tx:=[110,111,116]
abbrev k5:Tx:=[110,111,110,101]
abbrev ky:Tx:=[115,97,109,101]
abbrev m1:Tx:=[115,112,108,105,116]
abbrev mQ:Tx:=[112,97,112,101,114]
abbrev gm:Tx:=[111,114]
abbrev gf:Tx:=[105,110]
abbrev pk:Tx:=[106,111,105,110,101,100]
abbrev rP:Tx:=[116,117,114,110,101,100]
abbrev kI:Tx:=[97,108,108]
abbrev tf:Tx:=[101,97,99,104,109,111,115,116]
abbrev nN:Tx:=[108,101,115,115]
abbrev lV:Tx:=[97,110,100]
abbrev iT:Tx:=[110,111]
abbrev nX:Tx:=[110,97,109,101]
abbrev yG:Tx:=[99,108,111,115,101,100]
abbrev rW:Tx:=[112,108,117,115]
abbrev r0:Tx:=[98,111,116,104]
noncomputable abbrev S.r (c x:E):S:=.u c (.j (.j x) .p) .p
noncomputable abbrev E.v0:E:=.X 0
open M renaming E.v0→Lake.M.E.A
noncomputable abbrev E.v1:E:=.X 1
open M renaming E.v1→Lake.M.E.G
noncomputable abbrev E.v2:E:=.X 2
open M renaming E.v2→Lake.M.E.K
abbrev E.v3:E:=.X 3
open M renaming E.v3→Lake.M.E.L
abbrev E.v4:E:=.X 4
open M renaming E.v4→Lake.M.E.Y
abbrev E.v5:E:=.X 5
abbrev E.v6:E:=.X 6
abbrev E.v7:E:=.X 7
abbrev E.v8:E:=.X 8
abbrev E.v9:E:=.X 9
abbrev E.i0:E:=.o 0
open M renaming E.i0→Lake.M.E.U
noncomputable abbrev E.i1:E:=.o 1
open M renaming E.i1→Lake.M.E.Q
abbrev E.i2:E:=.o 2
abbrev E.i3:E:=.o 3
abbrev E.i4:E:=.o 4
abbrev Es.a (x:E):Es:=.j x .p
noncomputable abbrev Es.b (x y:E):Es:=.j x (.j y .p)
noncomputable abbrev Es.c (x y z:E):Es:=.j x (.j y (.j z .p))
noncomputable abbrev Es.d (x y z u:E):Es:=.j x (.j y (.j z (.j u .p)))
noncomputable abbrev Es.f (x y z u v:E):Es:=.j x (.j y (.j z (.j u (.j v .p))))
noncomputable abbrev Es.g (x y z u v w:E):Es:=.j x (.j y (.j z (.j u (.j v (.j w .p)))))
abbrev Ss.a (x:S):Ss:=.j x .p
noncomputable abbrev Ss.b (x y:S):Ss:=.j x (.j y .p)
noncomputable abbrev Ss.c (x y z:S):Ss:=.j x (.j y (.j z .p))
noncomputable abbrev Ss.d (x y z u:S):Ss:=.j x (.j y (.j z (.j u .p)))
noncomputable abbrev Ss.f (x y z u v:S):Ss:=.j x (.j y (.j z (.j u (.j v .p))))
noncomputable abbrev Ss.g (x y z u v w:S):Ss:=.j x (.j y (.j z (.j u (.j v (.j w .p)))))
noncomputable abbrev Ss.h (x y z u v w a:S):Ss:=.j x (.j y (.j z (.j u (.j v (.j w (.j a .p))))))
noncomputable abbrev Ss.k (x y z u v w a b:S):Ss:=.j x (.j y (.j z (.j u (.j v (.j w (.j a (.j b .p)))))))
noncomputable abbrev Ss.m (x y z u v w a b c:S):Ss:=.j x (.j y (.j z (.j u (.j v (.j w (.j a (.j b (.j c .p))))))))
def ND:Fn:=⟨1,1,.a (.j (.and (.cG .A .int) (.a0 (.cG .A .bool))))⟩
def QC:Fn:=⟨2,2,.a (.j (.and (.j "is_whole" (.a .A)) (.a2 .le .lt .U .A .G)))⟩
noncomputable def ZF:E:=.N [0] k9 1 [1,0] (.p (.x .w .A .A)) k9 (.x .u (.x .B .G .A) .Q) (.bi .divmod (.b .A .K))
def wN:Fn:=⟨2,2,.a (.j ZF)⟩
def jj:Ss:=.a (.p 2 (.x .p .K (.x .A .Q (.x .j (.x .w .L .A) .Y))))
def qP:Fn:=⟨2,5,.c (.p 2 .U) (.for [3,4] y9 (.j .G) jj) (.j .K)⟩
def uZ:Fn:=⟨2,2,.a (.j (.x .u .A .G))⟩
def vM:Fn:=⟨2,2,.a (.j (.x .p .A .G))⟩
def q5:Fn:=⟨2,2,.a (.j (.x .u .A (.inv .G)))⟩
def WB:E:=.N [0,1] false 2 [] (.j (.j "pairs_of" (.b .A .G))) false (.C true) (.u (.b .G .A))
def vR:Fn:=⟨2,2,.a (.j (.j "gathered" (.b .A WB)))⟩
noncomputable def Zu:Ss:=.b (.p 7 (.x .u (.x .B .K (.x .w .v6 .A)) .L)) (.p 4 (.x .p .Y (.x .A .v7 (.x .w .v5 .A))))
def yO:Fn:=⟨3,8,.d (.p 3 (.x .y (.x .A .Q .A) .Q)) (.p 4 .U) (.for [5,6] y9 (.j (.j "pairs_of" (.b .A .G))) Zu) (.j .Y)⟩
def Xu:E:=.y .u .L .K
def xu:Ss:=.b (.p 2 .L) (.p 3 (.j "either" (.b .K (.j "joined" (.c .A .K .K)))))
def Bu:Fn:=⟨2,4,.d (.p 2 .G) (.p 3 (.j "either" (.b .K (.j "joined" (.c .A .K .K))))) (.kz 100000 Xu xu) (.j .K)⟩
def jR:E:=.N [0] k9 1 [] (.p .A) y9 (.C k9) (.u (.b .A .A))
def yg:Fn:=⟨1,1,.a (.j (.j "gathered" (.b .A jR)))⟩
def yX:Fn:=⟨1,1,.a (.j (.x .y (.x .A .Q (.x .w .A .A)) .Q))⟩
def xi:E:=.N [0] k9 1 [4] (.p .L) k9 (.x .u (.x .B .G .A) .Q) (.u (.b .A .A))
def zt:Fn:=⟨3,5,.d (.r (.y .p .K (.B .A .Q)) (.B (.B .G .i2) (.dY .index (.B .A .Q) (.a .K)))) (.p 3 (.B .G .U)) (.p 4 (.B (.B .G .Q) (.dY .index (.B .A .U) (.a .K)))) (.j (.j "gathered" (.b .L xi)))⟩
def JA:Fn:=⟨3,3,.m (.r (.y .j .G (.p ky)) (.j "same" (.a .A))) (.r (.y .j .G (.p kI)) (.j "every" (.a .A))) (.r (.y .j .G (.p k5)) .U) (.r (.y .j .G (.p rW)) (.j "either" (.b (.B .K .U) (.B .K .Q)))) (.r (.y .j .G (.p nN)) (.j "without" (.b (.B .K .U) (.B .K .Q)))) (.r (.y .j .G (.p r0)) (.j "common" (.b (.B .K .U) (.B .K .Q)))) (.r (.y .j .G (.p pk)) (.j "joined" (.c .A (.B .K .U) (.B .K .Q)))) (.r (.y .j .G (.p rP)) (.j "turned" (.b .A (.B .K .U)))) (.j (.j "closed" (.b .A (.B .K .U))))⟩
def zE:E:=.N [0] k9 1 [4] (.p .A) y9 (.C k9) (.dY .count .G (.a .A))
def QD:E:=.N [0,1] y9 2 [] (.j .L) y9 (.C k9) .A
def yy:Fn:=⟨3,5,.d (.p 3 (.j "pairs_of" (.b .A .K))) (.r (.y .p .G (.u (.b (.p gG) (.p iB)))) (.w (.a (.bi .y (.a .L))))) (.p 4 QD) (.j zE)⟩
def WC:E:=.N [0,1] y9 2 [] (.j .v5) y9 (.C k9) .G
def ZD:E:=.N [0,1] y9 2 [] (.j .v5) y9 (.C k9) .A
def Qu:E:=.N [0] k9 1 [0,1] (.j (.fL .K .Q)) y9 (.C k9) (.j "bounds" (.c .G .K .A))
def bJ:Fn:=⟨3,9,.k (.p 3 (.B .K .U)) (.u (.y .j .L (.p nX)) (.b (.p 4 (.B .K .Q)) (.j (.u (.b (.j "value_of_name" (.c .A (.B .G .U) .Y)) (.j "value_of_name" (.c .A (.B .G .Q) .Y)))))) .p) (.p 5 Qu) (.p 6 ZD) (.p 7 WC) (.r (.y .j .L (.p nN)) (.u (.b (.j "without" (.b (.B .v6 .U) (.B .v7 .Q))) (.j "without" (.b (.B .v7 .U) (.B .v6 .Q)))))) (.p 8 (.B (.B .G .U) .U)) (.j (.u (.b (.j "made" (.c .v8 .L .v6)) (.j "made" (.c .v8 .L .v7)))))⟩
def WX:Fn:=⟨2,2,.c (.r .A (.C k9)) (.r .G (.C y9)) (.j .T)⟩
def zQ:Fn:=⟨1,1,.a (.j (.j "settled" (.b (.y .dE .A (.C false)) (.y .dE .A (.C true)))))⟩
def wP:Fn:=⟨2,2,.a (.j (.j "settled" (.b (.and (.y .dE .A (.C true)) (.y .dE .G (.C true))) (.or (.y .dE .A (.C false)) (.y .dE .G (.C false))))))⟩
def XX:Fn:=⟨2,2,.a (.j (.j "settled" (.b (.or (.y .dE .A (.C true)) (.y .dE .G (.C true))) (.and (.y .dE .A (.C false)) (.y .dE .G (.C false))))))⟩
def xX:Fn:=⟨2,2,.a (.j (.j "settled" (.b (.y .j (.j "without" (.b (.B .A .Q) (.B .G .U))) .U) (.y .u (.j "without" (.b (.B .A .U) (.B .G .Q))) .U))))⟩
def Jv:E:=.N [0] k9 1 [2] (.j .v5) y9 (.C k9) (.y .le .A .G)
def qv:E:=.N [0] k9 1 [2] (.j .Y) y9 (.C k9) (.y .gt .A .G)
def Xv:E:=.N [0] k9 1 [2] (.j .Y) y9 (.C k9) (.y .ge .A .G)
def Wv:E:=.N [0] k9 1 [2] (.j .v5) y9 (.C k9) (.y .lt .A .G)
def JF:Fn:=⟨4,6,.d (.p 4 (.j "counts" (.c .A .G (.B .L .U)))) (.p 5 (.j "counts" (.c .A .G (.B .L .Q)))) (.r (.y .p .G (.u (.b (.p gG) (.p oj)))) (.j "settled" (.b (.bi .all (.a Xv)) (.bi .any (.a Wv))))) (.j (.j "settled" (.b (.bi .all (.a Jv)) (.bi .any (.a qv)))))⟩
def cL:Fn:=⟨3,4,.f (.p 3 (.B .K .U)) (.r (.y .j .L (.p gu)) (.j "not_told" (.a (.j "told" (.c .A .G (.B .K .Q)))))) (.r (.y .j .L (.p lV)) (.j "and_told" (.b (.j "told" (.c .A .G (.B .K .Q))) (.j "told" (.c .A .G (.B .K .i2)))))) (.r (.y .j .L (.p gm)) (.j "or_told" (.b (.j "told" (.c .A .G (.B .K .Q))) (.j "told" (.c .A .G (.B .K .i2)))))) (.j (.j "fact_told" (.c .A .G .K)))⟩
def aX:Fn:=⟨3,7,.k (.p 3 (.B .K .U)) (.p 4 (.B (.B .G .U) .U)) (.p 5 (.j "bounds" (.c .A .G (.B .K (.neg .Q))))) (.r (.y .j .L (.p gW)) (.j "count_told" (.d .Y (.p gG) .Q .v5))) (.r (.y .j .L (.p iT)) (.j "count_told" (.d .Y (.p iB) .U .v5))) (.r (.y .j .L (.p gf)) (.j "in_told" (.b (.j "bounds" (.c .A .G (.B .K .Q))) .v5))) (.u (.y .j .L (.p kl)) (.b (.p 6 (.j "bounds" (.c .A .G (.B .K .Q)))) (.j (.j "and_told" (.b (.j "in_told" (.b .v6 .v5)) (.j "in_told" (.b .v5 .v6)))))) .p) (.j (.j "count_told" (.d .Y .L (.B .K .Q) .v5)))⟩
def X0:Fn:=⟨1,1,.a (.j (.j "is_below" (.b .A (.x .j (.con "GREATEST_SIZE") .Q))))⟩
noncomputable def AF:Fn:=⟨2,2,.a (.j (.x .j (.x .w (.w (.a .G)) (.bi .y (.a (.B .A .U)))) (.x .w (.w (.a (.x .w .G .G))) (.bi .y (.a (.B .A .Q))))))⟩
def uw:Fn:=⟨2,2,.a (.j (.bi .sum (.a (.j "widths" (.b .A .G)))))⟩
def wF:Fn:=⟨1,1,.a (.u (.a0 (.j "is_size" (.a .A))) (.a .fb) .p)⟩
def QF:Fn:=⟨3,4,.c (.ex (.j "check_size" (.a .G))) (.p 3 (.j "bits" (.b .A .G))) (.u (.y .gt .L .K) (.a .fb) .p)⟩
def qt:Ss:=.b (.app 3 (.x .u .Y (.x .y (.x .A .Q .v5) .Q))) (.p 4 (.x .B .Y .v5))
def XO:Fn:=⟨3,7,.h (.ex (.j "check_size" (.a .G))) (.u (.a0 (.j "is_below" (.b .K (.x .A .Q (.j "bits" (.b .A .G)))))) (.a .fb) .p) (.x 3 (.w .p)) (.p 4 .K) (.for [5] true (.j (.j "widths" (.b .A .G))) qt) (.p 6 (.bi .y (.a (.B .A .U)))) (.j (.u (.c .G (.bi .x (.a (.fM .L .v6))) (.bi .x (.a (.fL .L .v6))))))⟩
def Wp:E:=.N [0,1] false 2 [3] (.j (.j "pairs_of" (.b .G (.j "every" (.a .G))))) false (.C true) (.u (.c .K .A .G))
def Qx:Ss:=.a (.ext 2 Wp)
def jp:E:=.N [0] k9 1 [3] (.p .G) y9 (.C k9) (.u (.c .G .A .A))
def WA:Ss:=.a (.ext 2 jp)
noncomputable def jx:Fn:=⟨2,4,.d (.x 2 (.w .p)) (.for [3] k9 (.j (.B .A .U)) WA) (.for [3] k9 (.j (.B .A .Q)) Qx) (.j .K)⟩
noncomputable def ZA:Fn:=⟨3,3,.b (.r (.or (.a0 (.cG .A .x)) (.y .u (.bi .y (.a .A)) .K)) (.C y9)) (.j (.and (.cG (.B .A .U) .str) (.y .j (.B .A .U) .G)))⟩
def Xj:Fn:=⟨3,3,.f (.bO 0 "Cases" "words" (.B .G .U)) (.bO 0 "Cases" "sayings" (.B .G .Q)) (.bO 0 "Cases" "size" .K) (.bY 0 "Cases" "places" (.j "places_of" (.b (.B .G .U) .K))) (.bO 0 "Cases" "whole" (.x .y (.x .A .Q (.bi .y (.j (.aI .A "Cases" "places") .p))) .Q))⟩
def qj:Fn:=⟨2,2,.a (.j (.j "world_of" (.j (.aI .A "Cases" "words") (.j (.aI .A "Cases" "size") (.a .G)))))⟩
def qA:Fn:=⟨4,5,.b (.p 4 (.u (.j (.bT .A "Cases" "world_of_code" "Cases.world_of_code" (.a .K)) (.j (.bT .A "Cases" "world_of_code" "Cases.world_of_code" (.a .L)) .p)))) (.j (.j "told" (.j (.aI .A "Cases" "words") (.b .Y (.B (.aI .A "Cases" "sayings") .G)))))⟩
def jv:Fn:=⟨4,4,.c (.r (.or (.a0 (.cG .G .str)) (.or (.a0 (.j "is_whole" (.a .K))) (.a0 (.j "is_whole" (.a .L))))) .U) (.r (.y .fP (.u (.c .G .K .L)) (.aI .A "Cases" "places")) .U) (.j (.x .A .Q (.dY .cu (.aI .A "Cases" "places") (.a (.u (.c .G .K .L))))))⟩
def wg:Fn:=⟨4,6,.f (.u (.j "is_tuple_of" (.c .G (.p kb) .i2)) (.b (.p 4 (.B .G .Q)) (.j (.and (.j "is_below" (.b .Y (.bi .y (.j (.aI .A "Cases" "sayings") .p)))) (.y .dE (.bT .A "Cases" "truth" "Cases.truth" (.c .Y .K .L)) (.C false))))) .p) (.r (.a0 (.j "is_tuple_of" (.c .G (.p m1) (.o 6)))) (.C false)) (.p 5 (.bT .A "Cases" "bit_of" "Cases.bit_of" (.c (.B .G .Q) (.B .G .i2) (.B .G .i3)))) (.r (.y .j (.x .u (.x .u .v5 .L) (.inv .K)) .U) (.C false)) (.j (.and (.bT .A "Cases" "is_shown" "Cases.is_shown" (.c (.B .G .i4) (.x .p .K .v5) .L)) (.bT .A "Cases" "is_shown" "Cases.is_shown" (.c (.B .G (.o 5)) .K (.x .u .L (.inv .v5))))))⟩
def wm:Ss:=.a (.u (.cG .K .x) (.a (.ext 1 (.j "names_in" (.a .K)))) .p)
noncomputable def XD:Fn:=⟨1,3,.d (.r (.y .j (.B .A .U) (.p nX)) (.w (.a (.B .A .Q)))) (.x 1 (.w .p)) (.for [2] k9 (.j (.fL .A .Q)) wm) (.j .G)⟩
def zl:Ss:=.a (.u (.y .p (.B .v5 .U) .K) (.a (.p 3 (.x .p .L (.x .A .Q .Y)))) .p)
def XR:Fn:=⟨2,6,.d (.p 2 (.j "names_in" (.a .G))) (.p 3 .U) (.for [4,5] false (.cJ (.aI .A "Cases" "places")) zl) (.j .L)⟩
def Wd:E:=.y .gt .A .U
def wj:Ss:=.b (.p 0 (.x .u .A (.x .y .A .Q))) (.p 1 (.x .j .G .Q))
def XM:Fn:=⟨1,2,.c (.p 1 .U) (.kz 100000 Wd wj) (.j .G)⟩
def Zg:E:=.N [0] k9 1 [0] (.j (.B .G .Q)) y9 (.C k9) (.j "needed_bits" (.j (.aI .G "Search" "cases") (.a .A)))
def ji:Fn:=⟨3,3,.b (.bO 0 "Search" "cases" (.make "Cases" "Cases.__init__" (.b .G .K))) (.bY 0 "Search" "needs" Zg)⟩
noncomputable def Xg:Fn:=⟨2,2,.a (.j (.bT .A "Search" "told_of_case" "Search.told_of_case" (.j .G (.j .U (.j (.aI (.aI .A "Search" "cases") "Cases" "whole") .p)))))⟩
noncomputable def xh:E:=.N [0] k9 1 [0,3,2] (.j .G) y9 (.C k9) (.x .u (.x .u (.B (.aI .G "Search" "needs") .A) .K) (.inv .L))
def Je:Fn:=⟨4,6,.c (.p 4 xh) (.p 5 (.fE "how_many_set" .Y)) (.j (.x .y (.fB (.x .u .v5 (.neg .v5))) .Q))⟩
noncomputable def ja:Ss:=.c (.p 6 (.bT (.aI .A "Search" "cases") "Cases" "truth" "Cases.truth" (.c .v5 .K .L))) (.r (.y .dE .v6 (.C false)) (.u (.b (.p mQ) (.u (.b (.p kb) .v5))))) (.u (.fR false .v6) (.a (.app 4 .v5)) .p)
def aM:Fn:=⟨4,7,.d (.x 4 (.w .p)) (.for [5] k9 (.j .G) ja) (.r (.y .j .Y (.w .p)) (.u (.j (.p iX) (.j (.bT (.aI .A "Search" "cases") "Cases" "world_of_code" "Cases.world_of_code" (.a .K)) .p)))) (.j (.bT .A "Search" "told_of_halves" "Search.told_of_halves" (.c .Y .K .L)))⟩
noncomputable def aG:Fn:=⟨4,11,.k (.p 4 (.bT .A "Search" "chosen_place" "Search.chosen_place" (.c .G .K .L))) (.p 5 (.x .A .Q .Y)) (.p 6 (.bT .A "Search" "told_of_case" "Search.told_of_case" (.c .G (.x .p .K .v5) .L))) (.r (.or (.y .j (.B .v6 .U) (.p iX)) (.bT (.aI .A "Search" "cases") "Cases" "is_shown" "Cases.is_shown" (.c (.B .v6 .Q) .K .L))) .v6) (.p 7 (.bT .A "Search" "told_of_case" "Search.told_of_case" (.c .G .K (.x .u .L (.inv .v5))))) (.r (.y .j (.B .v7 .U) (.p iX)) .v7) (.fv [8,9,10] (.B (.aI (.aI .A "Search" "cases") "Cases" "places") .Y)) (.j (.u (.b (.p mQ) (.u (.g (.p m1) .v8 .v9 (.X 10) (.B .v6 .Q) (.B .v7 .Q))))))⟩
def rH:Fn:=⟨2,2,.b (.ex (.j "check_bits" (.c (.B .A .U) .G (.con "MOST_BITS")))) (.j (.bT (.make "Search" "Search.__init__" (.b .A .G)) "Search" "told_of_sayings" "Search.told_of_sayings" (.a (.cy (.bi .y (.a (.B .A .Q)))))))⟩
def XA:Fn:=⟨3,6,.d (.fv [3,4] .A) (.u (.a0 (.j "is_below" (.b .K (.bi .y (.a .Y))))) (.a (.eA "NoNumber" "number" .K)) .p) (.p 5 (.x .j (.fM .Y .K) (.fL .Y (.x .j .K .Q)))) (.j (.j "found" (.b (.u (.b .L (.x .j .v5 (.u (.a (.u (.b (.p gu) (.B .Y .K)))))))) .G)))⟩
def jM:Fn:=⟨1,1,.a (.j (.w (.c .A .U (.bi .sum (.a (.fM .A .Q))))))⟩
noncomputable def ZP:Fn:=⟨1,1,.c (.b5 .A .Q (.x .j (.B .A .Q) .Q)) (.b5 .A .i2 (.x .x (.x .j (.x .w (.o 7) (.B .A .Q)) (.bi .sum (.a (.fM (.B .A .U) (.o 9))))) (.o 16777213))) (.u (.y .lt (.B .A .Q) (.bi .y (.a (.B .A .U)))) (.a (.b5 .A .i2 (.B (.B .A .U) (.B .A .Q)))) .p)⟩
noncomputable def qE:Fn:=⟨2,3,.c (.u (.a0 (.a2 .le .lt .U (.B .A .i2) (.x .pow (.o 10) (.o 18)))) (.b (.gD .A .i2 2 (.bi .divmod (.b (.B .A .i2) .G))) (.j .K)) .p) (.b5 .A .i2 (.x .x (.x .j (.x .j (.x .w (.B .A .i2) (.o 742939)) (.x .w (.B .A .Q) (.o 65063))) (.o 40503)) (.o 16777213))) (.j (.x .x (.x .fdiv (.x .w (.B .A .i2) (.x .j (.x .x (.B .A .i2) (.o 4093)) (.o 7))) (.o 64)) .G))⟩
def zk:Ss:=.c (.p 8 (.x .j (.x .j (.fM .Y .v6) (.B .K (.x .x (.x .j .L (.x .w (.o 5) .v5)) (.o 26)))) (.fL .Y .v6))) (.u (.y .p .v8 (.eg Bv [gW,iT,gG,iB,[101,97,99,104],gf,lV,gm,gu,ky,kI,k5,[107,105,110,100],[116,105,101],[115,97,121]])) (.a (.p 8 (.x .j .v8 (.p [113])))) .p) (.app 7 .v8)
def qp:Ss:=.a (.p 4 (.x .j .Y (.B .K (.j "_law_draw" (.b .A (.o 26))))))
def Zz:E:=.N [0] k9 1 [2,3] (.p .G) y9 (.C k9) (.x .w (.B .G .K) (.x .j .A .Q))
def zx:Fn:=⟨2,9,.m (.p 2 (.p vX)) (.p 3 (.j "_law_draw" (.b .A (.o 26)))) (.r (.y .j (.j "_law_draw" (.b .A .i3)) .U) Zz) (.p 4 (.p [])) (.for [5] true (.p (.j "_law_draw" (.b .A (.o 6)))) qp) (.p 6 (.j "_law_draw" (.b .A (.x .j (.bi .y (.a .Y)) .Q)))) (.x 7 (.w .p)) (.for [5] true (.p .G) zk) (.j .v7)⟩
def JJ:Fn:=⟨1,6,.f (.p 1 (.w (.j (.u (.c .U .Q .i2)) (.j (.u (.c .Q .Q .Q)) (.j (.u (.c .U .Q .i2)) (.g (.u (.c .i2 .U .i2)) (.u (.c .Q .U .i3)) (.u (.c .U .i2 .Q)) (.u (.c .U .Q .Q)) (.u (.c .i3 .i2 .Q)) (.u (.c .Q .U .i4)))))))) (.p 1 (.x .j .G (.w (.c (.u (.c .U .Q .i2)) (.u (.c .Q .Q .U)) (.u (.c .Q .Q .Q)))))) (.fv [2,3,4] (.B .G (.j "_law_draw" (.b .A (.bi .y (.a .G)))))) (.p 5 (.j "_law_names" (.b .A (.x .j .K .L)))) (.j (.u (.b .Y (.u (.b (.bi .x (.a (.bi .sorted (.a (.fM .v5 .K))))) (.bi .x (.a (.bi .sorted (.a (.fL .v5 .K))))))))))⟩
def Ze:E:=.N [0] k9 1 [] (.j .G) y9 (.C k9) (.u (.b (.p nX) .A))
def Xd:Fn:=⟨3,7,.g (.p 3 (.j "_law_draw" (.b .A (.o 10)))) (.u (.or (.y .j .K .U) (.y .lt .L .i3)) (.b (.p 4 (.x .j (.x .w Ze .i2) (.w (.c (.u (.a (.p ky))) (.u (.a (.p kI))) (.u (.a (.p k5))))))) (.j (.B .Y (.j "_law_draw" (.b .A (.bi .y (.a .Y))))))) .p) (.p 5 (.j "_law_expression" (.c .A .G (.x .y .K .Q)))) (.r (.y .lt .L (.o 5)) (.u (.b (.B (.w (.b (.p rP) (.p yG))) (.x .y .L .i3)) .v5))) (.p 6 (.j "_law_expression" (.c .A .G (.x .y .K .Q)))) (.j (.u (.c (.B (.w (.f (.p rW) (.p nN) (.p r0) (.p pk) (.p pk))) (.x .y .L (.o 5))) .v5 .v6)))⟩
def aY:Fn:=⟨3,6,.h (.p 3 (.j "_law_draw" (.b .A (.o 11)))) (.u (.and (.y .gt .K .U) (.y .gt .L (.o 7))) (.c (.p 4 (.j "_law_saying" (.c .A .G (.x .y .K .Q)))) (.r (.y .j .L (.o 8)) (.u (.b (.p gu) .Y))) (.j (.u (.c (.B (.w (.b (.p lV) (.p gm))) (.x .y .L (.o 9))) .Y (.j "_law_saying" (.c .A .G (.x .y .K .Q))))))) .p) (.p 5 (.B (.w (.j (.p gf) (.j (.p kl) (.g (.p gW) (.p iT) (.p gG) (.p iB) (.p oj) (.p tf))))) (.x .x .L (.o 8)))) (.p 4 (.j "_law_expression" (.c .A .G .Q))) (.r (.or (.y .j .v5 (.p gf)) (.y .j .v5 (.p kl))) (.u (.c .v5 .Y (.j "_law_expression" (.c .A .G .Q))))) (.r (.or (.y .j .v5 (.p gW)) (.y .j .v5 (.p iT))) (.u (.b .v5 .Y))) (.j (.u (.c .v5 (.B (.w (.j .U (.j .Q (.g .Q .i2 .i2 .i3 .i4 (.x .j (.o 10) (.j "_law_draw" (.b .A (.o 90)))))))) (.j "_law_draw" (.b .A (.o 8)))) .Y)))⟩
def Zi:Ss:=.c (.ex (.j "_law_turn" (.a .A))) (.app 4 (.j "_law_saying" (.c .A .L .Q))) (.u (.and (.y .gt .v5 .U) (.y .j (.j "_law_draw" (.b .A (.o 9))) .U)) (.a (.eu 4 (.neg .Q) (.u (.b (.p gu) (.B .Y (.j "_law_draw" (.b .A .v5))))))) .p)
def xr:Fn:=⟨3,6,.d (.p 3 (.bi .list (.a (.x .j (.B .G .U) (.B .G .Q))))) (.x 4 (.w .p)) (.for [5] k9 (.p (.j "_law_draw" (.b .A (.x .j .K .Q)))) Zi) (.j (.u (.b .G (.bi .x (.a .Y)))))⟩
noncomputable def Wi:Ss:=.a (.u (.y .j (.x .u (.x .B .G (.x .j (.x .w .Y .A) .v5)) .Q) .Q) (.b (.p 6 (.x .u (.x .B .K (.x .w .v5 .A)) (.x .y (.x .A .Q .A) .Q))) (.p 3 (.x .p .L (.x .A .v6 (.x .w .Y .A))))) .p)
def Zv:Ss:=.a (.for [5] k9 (.p .A) Wi)
def ZE:Fn:=⟨3,7,.c (.p 3 .U) (.for [4] k9 (.p .A) Zv) (.j .L)⟩
noncomputable def Zn:Ss:=.a (.u (.y .j (.x .u (.x .B .G (.x .j (.x .w .L .A) .Y)) .Q) .Q) (.a (.p 2 (.x .p .K (.x .A .Q (.x .j (.x .w .Y .A) .L))))) .p)
def Qv:Ss:=.a (.for [4] k9 (.p .A) Zn)
def xt:Fn:=⟨2,5,.c (.p 2 .U) (.for [3] k9 (.p .A) Qv) (.j .K)⟩
def Qn:Ss:=.a (.p 2 (.x .p .K (.j "_law_joined" (.c .A .K .G))))
def qF:Fn:=⟨2,4,.c (.p 2 .G) (.for [3] k9 (.p .A) Qn) (.j .K)⟩
def qs:E:=.N [0] k9 1 [0] (.p .A) y9 (.C k9) (.x .A .Q (.x .j (.x .w .A .G) .A))
def qO:Fn:=⟨1,1,.a (.j (.bi .sum (.a qs)))⟩
def j4:Fn:=⟨4,4,.c (.r (.y .j .A (.p rW)) (.x .p .K .L)) (.r (.y .j .A (.p r0)) (.x .u .K .L)) (.j (.j "_law_joined" (.c .G .K .L)))⟩
def ay:Fn:=⟨3,10,.j (.p 3 (.B .K .U)) (.m (.p 4 (.x .y (.x .A .Q (.x .w .A .A)) .Q)) (.r (.y .j .L (.p nX)) (.fh 1 (.B .K .Q))) (.u (.y .p .L (.w (.c (.p ky) (.p kI) (.p k5)))) (.b (.p 5 (.gF ky (.j "_law_same" (.a .A)) kI .Y k5 .U 3)) (.j (.u (.b .v5 .v5)))) .p) (.fv [6,7] (.j "_law_bounds" (.c .A .G (.B .K .Q)))) (.r (.y .j .L (.p rP)) (.u (.b (.j "_law_turned" (.b .A .v6)) (.j "_law_turned" (.b .A .v7))))) (.r (.y .j .L (.p yG)) (.u (.b (.j "_law_closed" (.b .A .v6)) (.j "_law_closed" (.b .A .v7))))) (.fv [8,9] (.j "_law_bounds" (.c .A .G (.B .K .i2)))) (.r (.y .j .L (.p nN)) (.u (.b (.x .u .v6 (.x .bxor .Y .v9)) (.x .u .v7 (.x .bxor .Y .v8))))) (.j (.u (.b (.j "_law_two" (.d .L .A .v6 .v8)) (.j "_law_two" (.d .L .A .v7 .v9))))))⟩
def zn:E:=.y .gt .A .U
def jn:Ss:=.b (.p 1 (.x .j .G (.x .x .A .i2))) (.p 0 (.x .fdiv .A .i2))
def wO:Fn:=⟨1,2,.c (.p 1 .U) (.kz 100000 zn jn) (.j .G)⟩
def wy:E:=.N [0,1] y9 2 [1] (.j .K) y9 (.C k9) (.y .gt .A .K)
def Xy:E:=.N [0,1] y9 2 [1] (.j .K) y9 (.C k9) (.y .le .G .K)
def Wz:E:=.N [0,1] y9 2 [1] (.j .K) y9 (.C k9) (.y .lt .G .K)
def qy:E:=.N [0,1] y9 2 [1] (.j .K) y9 (.C k9) (.y .ge .A .K)
noncomputable def Zw:Fn:=⟨3,3,.c (.u .A (.b (.r (.bi .all (.a qy)) (.C k9)) (.j (.B (.w (.b .T (.C y9))) (.bi .int (.a (.bi .any (.a Wz))))))) .p) (.r (.bi .all (.a Xy)) (.C k9)) (.j (.B (.w (.b .T (.C y9))) (.bi .int (.a (.bi .any (.a wy))))))⟩
noncomputable def WE:Fn:=⟨2,2,.b (.r (.y .j (.x .u (.B .A .Q) (.B .G .U)) (.B .A .Q)) (.C k9)) (.j (.B (.w (.b .T (.C y9))) (.bi .int (.a (.y .u (.x .u (.B .A .U) (.B .G .Q)) (.B .A .U))))))⟩
def Xr:E:=.N [0] k9 1 [4,0,6,5] (.p .A) y9 (.C k9) (.u (.b (.j "_law_many" (.a (.x .u (.x .B .G (.x .w .A .K)) .L))) (.j "_law_many" (.a (.x .u (.x .B .Y (.x .w .A .K)) .L)))))
def bw:Fn:=⟨3,8,.h (.p 3 (.B .K .U)) (.u (.or (.y .j .L (.p gW)) (.y .j .L (.p iT))) (.b (.p 2 (.u (.c (.B (.w (.b (.p iB) (.p gG))) (.bi .int (.a (.y .j .L (.p gW))))) (.bi .int (.a (.y .j .L (.p gW)))) (.B .K .Q)))) (.p 3 (.B .K .U))) .p) (.fv [4,5] (.j "_law_bounds" (.c .A .G (.B .K .i2)))) (.r (.or (.y .j .L (.p gG)) (.y .j .L (.p iB))) (.j "_law_ruled" (.c (.y .j .L (.p gG)) (.B .K .Q) (.w (.a (.u (.b (.j "_law_many" (.a .Y)) (.j "_law_many" (.a .v5))))))))) (.p 6 (.x .y (.x .A .Q .A) .Q)) (.p 7 Xr) (.j (.j "_law_ruled" (.c (.y .j .L (.p oj)) (.B .K .Q) .v7)))⟩
def Jr:E:=.N [0] k9 1 [0,1] (.j .v5) y9 (.C k9) (.j "_law_told" (.c .G .K .A))
def bh:Fn:=⟨3,7,.f (.p 3 (.B .K .U)) (.u (.y .j .L (.p gu)) (.c (.p 4 (.j "_law_told" (.c .A .G (.B .K .Q)))) (.r (.fR false .Y) .T) (.j (.a0 .Y))) .p) (.u (.y .p .L (.w (.c (.p lV) (.p gm) (.p kl)))) (.g (.p 5 (.w (.b (.B .K .Q) (.B .K .i2)))) (.u (.y .j .L (.p kl)) (.a (.p 5 (.w (.b (.u (.c (.p gf) (.B .K .Q) (.B .K .i2))) (.u (.c (.p gf) (.B .K .i2) (.B .K .Q))))))) .p) (.p 6 Jr) (.r (.y .p (.y .j .L (.p gm)) .v6) (.y .j .L (.p gm))) (.r (.y .p .T .v6) .T) (.j (.y .u .L (.p gm)))) .p) (.r (.y .j .L (.p gf)) (.j "_law_within" (.b (.j "_law_bounds" (.c .A .G (.B .K .Q))) (.j "_law_bounds" (.c .A .G (.B .K .i2)))))) (.j (.j "_law_fact" (.c .A .G .K)))⟩
def Z9:Fn:=⟨1,1,.a (.j (.and (.cG .A .int) (.a0 (.cG .A .bool))))⟩
noncomputable def xn:E:=.N [0] k9 1 [1,0] (.p .A) y9 (.C k9) (.x .A (.x .u (.x .B .G .A) .Q) (.x .j (.x .w .A .K) .A))
def XF:Fn:=⟨2,2,.a (.j (.bi .sum (.a xn)))⟩
def Wq:Ss:=.a (.cI 3 (.B (.B .A .Q) .Y) (.u (.b (.B (.B .G .i2) .Y) (.B (.B .G .i2) .Y))))
def Xs:Ss:=.b (.p 5 (.j "_law_spread" (.b .K (.B (.B .G .Q) .Y)))) (.cI 3 (.B (.B .A .U) .Y) (.u (.b .v5 .v5)))
def xB:Fn:=⟨2,6,.f (.p 2 (.B .G .U)) (.x 3 .dC) (.for [4] k9 (.p (.bi .y (.a (.B .A .U)))) Xs) (.for [4] k9 (.p (.bi .y (.a (.B .A .Q)))) Wq) (.j .L)⟩
def Jj:Ss:=.a (.r (.or (.a0 (.j "_law_whole" (.a .v5))) (.a0 (.a2 .le .lt .U .v5 (.x .A .Q (.B (.w (.b .G (.x .w .G .G))) .L))))) (.C false))
def jq:Ss:=.c (.p 4 (.B .K (.x .j .Q .L))) (.r (.or (.a0 (.cG .Y .x)) (.y .u (.bi .y (.a .Y)) (.bi .y (.a (.B .A .L))))) (.C y9)) (.for [5] k9 (.j .Y) Jj)
def Wu:Fn:=⟨3,6,.c (.r (.or (.a0 (.cG .K .x)) (.or (.y .u (.bi .y (.a .K)) .i3) (.or (.a0 (.j "_law_whole" (.a (.B .K .U)))) (.y .u (.B .K .U) .G)))) (.C false)) (.for [3] true (.p .i2) jq) (.j (.C true))⟩
def Qy:E:=.N [0] true 1 [1,2] (.j (.B .A .Q)) false (.C true) (.y .dE (.j "_law_told" (.c (.B .G .U) .K .A)) (.C true))
def Qw:Fn:=⟨2,3,.b (.p 2 (.j "_law_seen" (.b (.B .A .U) .G))) (.j (.bi .all (.a Qy)))⟩
def Ws:Ss:=.a (.cI 2 .L (.u (.b .U (.x .y (.x .A .Q (.x .w .G .G)) .Q))))
def Js:Ss:=.a (.cI 2 .L (.u (.b .U (.j "_law_same" (.a .G)))))
noncomputable def zD:Fn:=⟨2,4,.d (.x 2 .dC) (.for [3] k9 (.j (.B .A .U)) Js) (.for [3] k9 (.j (.B .A .Q)) Ws) (.j .K)⟩
def Xw:Fn:=⟨3,11,.j (.fv [3,4,5] .K) (.j (.r (.or (.a0 (.cG .L .str)) (.or (.de k9 .L 1) (.or (.a0 (.j "_law_whole" (.a .Y))) (.a0 (.j "_law_whole" (.a .v5)))))) .T) (.m (.r (.or (.a0 (.a2 .le .lt .U .Y .A)) (.a0 (.a2 .le .lt .U .v5 .A))) .T) (.fv [6,7] (.fh 1 .L)) (.p 8 (.x .A .Q (.x .j (.x .w .Y .A) .v5))) (.r (.or (.y .u (.x .u .v6 .v8) .U) (.y .j (.x .u .v7 .v8) .U)) .T) (.x 9 (.eO 1)) (.cI 9 .L (.u (.b (.x .p .v6 .v8) .v7))) (.x 10 (.eO 1)) (.cI 10 .L (.u (.b .v6 (.x .y .v7 .v8)))) (.j (.w (.b .v9 (.X 10))))))⟩
def Jp:Fn:=⟨4,5,.g (.r (.or (.a0 (.cG .L .x)) (.y .j (.bi .y (.a .L)) .U)) (.C false)) (.u (.and (.y .j (.B .L .U) (.p kb)) (.y .j (.bi .y (.a .L)) .i2)) (.b (.r (.or (.a0 (.j "_law_whole" (.a (.B .L .Q)))) (.a0 (.a2 .le .lt .U (.B .L .Q) (.bi .y (.a (.B .A .Q)))))) (.C false)) (.j (.y .dE (.j "_law_told" (.c .G .K (.B (.B .A .Q) (.B .L .Q)))) (.C false)))) .p) (.r (.or (.y .u (.B .L .U) (.p m1)) (.y .u (.bi .y (.a .L)) (.o 6))) (.C false)) (.p 4 (.j "_law_split" (.c .G .K (.sl .L .Q .i4)))) (.r (.fR false .Y) (.C false)) (.j (.and (.j "_law_walks" (.d .A .G (.B .Y .U) (.B .L .i4))) (.j "_law_walks" (.d .A .G (.B .Y .Q) (.B .L (.o 5))))))⟩
def ww:Fn:=⟨4,5,.d (.r (.or (.a0 (.cG .L .x)) (.y .u (.bi .y (.a .L)) .i2)) (.C y9)) (.p 4 (.u (.b (.B .A .U) (.x .j (.B .A .Q) (.u (.a .G)))))) (.r (.y .j (.B .L .U) (.p mQ)) (.j "_law_walks" (.d .Y .K (.j "_law_open" (.b (.B .A .U) .K)) (.B .L .Q)))) (.j (.and (.y .j (.B .L .U) (.p iX)) (.and (.j "_law_is_world" (.c (.B .A .U) .K (.B .L .Q))) (.j "_law_keeps" (.b .Y (.B .L .Q))))))⟩
def jy:Fn:=⟨1,2,.f (.p 1 (.w (.d (.bQ .A true ["NoSize"]) (.bQ .A true ["NoPair"]) (.bQ .A true ["NoName"]) (.bQ .A true ["NoCode"])))) (.p 1 (.x .j .G (.w (.d (.bQ .A true ["NoText"]) (.bQ .A true ["Crowded"]) (.bQ .A true ["TooBig"]) (.bQ .A true ["NoWorld"]))))) (.p 1 (.x .j .G (.w (.d (.bQ .A true ["NoRenaming"]) (.bQ .A true ["NoNumber"]) (.bQ .A true ["Broken"]) (.bQ .A true ["Kept"]))))) (.p 1 (.x .j .G (.w (.d (.bQ .A true ["Unlike"]) (.bQ .A true ["NoRow"]) (.bQ .A true ["NoStand"]) (.bQ .A true ["ValueError"]))))) (.j .G)⟩
def wR:E:=.N [0] k9 1 [0] (.p (.o 16)) y9 (.C k9) (.or (.y .j .A .G) (.y .j .A (.o 15)))
def qI:Fn:=⟨1,1,.a (.j wR)⟩
def Qs:Fn:=⟨3,5,.j (.p 3 .T) (.j (.gO (.ex "matters" (.c .A .G .K)) "WorldError" 4 (.b (.p 3 (.u (.b (.j "_law_classes" (.a .Y)) .T))) (.u (.bQ .Y true ["NoNumber"]) (.a (.p 3 (.u (.b (.j "_law_classes" (.a .Y)) (.w (.a (.xf 4 "number"))))))) .p))) (.a (.j .L)))⟩
def rr:Ss:=.b (.p 13 (.j "_law_caught" (.c .Y (.X 12) (.X 11)))) (.r (.or (.fR false (.X 13)) (.or (.y .u (.B (.X 13) .U) (.j "_law_class" (.a (.o 9)))) (.y .u (.B (.X 13) .Q) (.w (.a (.X 11)))))) (.C false))
def qS:Ss:=.c (.p 9 (.x .x (.x .j .v7 .v8) (.bi .y (.a .v5)))) (.p 10 (.u (.b .L (.x .j (.fM .v5 .v9) (.fL .v5 (.x .j .v9 .Q)))))) (.r (.a0 (.j "_law_shows" (.d (.X 10) (.u (.b (.p gu) (.B .v5 .v9))) .K (.j "matters" (.c .Y .K .v9))))) (.C false))
def cw:Fn:=⟨1,14,.j (.x 1 (.share (.j "_law_start" (.a .A)))) (.j (.fv [2,3] (.j "_law_words" (.a .G))) (.j (.p 4 (.j "_law_theory" (.c .G .L .i3))) (.j (.ex (.j "_law_turn" (.a .G))) (.m (.p 5 (.x .j (.B .Y .Q) (.u (.a (.j "_law_saying" (.c .G (.bi .list (.a (.x .j (.B .L .U) (.B .L .Q)))) .Q)))))) (.ex (.j "_law_turn" (.a .G))) (.u (.y .j (.j "_law_draw" (.b .G .i2)) .U) (.b (.p 6 (.B .v5 (.j "_law_draw" (.b .G (.bi .y (.a .v5)))))) (.p 5 (.x .j .v5 (.u (.a (.B (.w (.b .v6 (.u (.c (.p gm) .v6 (.B .v5 .U))))) (.j "_law_draw" (.b .G .i2)))))))) .p) (.p 4 (.u (.b .L .v5))) (.p 7 (.j "_law_draw" (.b .G (.bi .y (.a .v5))))) (.for [8] true (.p (.bi .y (.a .v5))) qS) (.p 11 (.B (.w (.g (.x .y .U .Q) (.bi .y (.a .v5)) (.x .pow (.o 10) (.o 30)) (.C true) .T (.p [48]))) (.j "_law_draw" (.b .G (.o 6))))) (.for [12] true (.j (.w (.b .K (.o 7)))) rr) (.j (.C true))))))⟩
def prog:Prog:=⟨[("is_whole",ND),("is_below",QC),("pairs_of",wN),("gathered",qP),("common",uZ),("either",vM),("without",q5),("turned",vR),("joined",yO),("closed",Bu),("same",yg),("every",yX),("value_of_name",zt),("made",JA),("counts",yy),("bounds",bJ),("settled",WX),("not_told",zQ),("and_told",wP),("or_told",XX),("in_told",xX),("count_told",JF),("told",cL),("fact_told",aX),("is_size",X0),("widths",AF),("bits",uw),("check_size",wF),("check_bits",QF),("world_of",XO),("places_of",jx),("is_tuple_of",ZA),("Cases.__init__",Xj),("Cases.world_of_code",qj),("Cases.truth",qA),("Cases.bit_of",jv),("Cases.is_shown",wg),("names_in",XD),("needed_bits",XR),("how_many_set",XM),("Search.__init__",ji),("Search.told_of_sayings",Xg),("Search.chosen_place",Je),("Search.told_of_case",aM),("Search.told_of_halves",aG),("found",rH),("matters",XA),("_law_start",jM),("_law_turn",ZP),("_law_draw",qE),("_law_names",zx),("_law_words",JJ),("_law_expression",Xd),("_law_saying",aY),("_law_theory",xr),("_law_joined",ZE),("_law_turned",xt),("_law_closed",qF),("_law_same",qO),("_law_two",j4),("_law_bounds",ay),("_law_many",wO),("_law_ruled",Zw),("_law_within",WE),("_law_fact",bw),("_law_told",bh),("_law_whole",Z9),("_law_spread",XF),("_law_seen",xB),("_law_is_world",Wu),("_law_keeps",Qw),("_law_open",zD),("_law_split",Xw),("_law_walks",Jp),("_law_shows",ww),("_law_classes",jy),("_law_class",qI),("_law_caught",Qs),("law",cw)],[("WorldError","ValueError"),("NoSize","WorldError"),("NoPair","WorldError"),("NoName","WorldError"),("NoCode","WorldError"),("NoText","WorldError"),("Crowded","WorldError"),("TooBig","WorldError"),("NoWorld","WorldError"),("NoRenaming","WorldError"),("NoNumber","WorldError"),("Broken","WorldError"),("Kept","WorldError"),("Unlike","WorldError"),("NoRow","WorldError"),("NoStand","WorldError")],[("GREATEST_SIZE",.o 4),("MOST_BITS",.o 16)]⟩
abbrev k8(m:Nat):Fx:=⟨call prog m,prog.cl,prog.con⟩
noncomputable abbrev W.i (n:Nat):W:=.v (.o (n:Int))
abbrev W.r (n:Nat):W:=.v (.ref n)
abbrev W.s (t:Tx):W:=.v (.str t)
abbrev W.b (b:Bool):W:=.v (.bl b)
abbrev W.t (t:List D):W:=.v (.tup t)
noncomputable abbrev W.l (t:List D):W:=.v (.lst t)
noncomputable abbrev sv(d:D):Option W:=y0 (.v d)
abbrev si(n:Nat):Option W:=y0 (.i n)
def nk(m j:Nat)(h:j<=m):∃k,m=k+j:=⟨m-j,((Nat.sub_add_cancel ‹_›).symm)⟩
noncomputable abbrev D.n (n:Nat):D:=.o (n:Int)
theorem jD(f):∀ds,(∀d∈ds,step d h=.j (f d) h)->Gy step ds h=.j (ds.U f) h
|[],_=>rfl
|d::ds,a=>by have c:=jD f ds λd b=>a d (Aa2 _ b);rw[Gy,a d Aa3];simp only[c];cases q:f d<;>simp[q]
def tW(f)(e:Gk F it τ h=.j ds h)(g:ds.e<=bq)
 (o:∀d∈ds,∃i b,Gq tg one d (Aa4 k u0++aD.j λj=>Gj τ j)=y0 i/\Gm F c i h=.j b h/\(if b=k9 then∃w y,eval F elt i h=.j w h/\w.d=y0 y/\f d=y0 y else f d=u0)):
 eval F (.N tg one k aD it k9 c elt) τ h=.j (.own (ds.U f)) h:=by
 rw[eval,e,R.ae,if_pos g,jD f]
 .rfl
 intro d l;obtain⟨i,b,m,n,a⟩:=o d l;rw[m];show((Gm F c i h).bind _)=_;rw[n];cases b with
|true=>obtain⟨w,y,e1,e2,p⟩:=a;simp[e1,e2,p]
|false=>rw[if_neg (by simp)]at a;simp[a]
def Zl(f)(a:Gk F it τ h=.j ds h)(b:ds.e<=bq)
 (l:∀d∈ds,∃i,Gq tg one d (Aa4 k u0++aD.j λj=>Gj τ j)=y0 i/\∃w,eval F elt i h=.j w h/\w.d=y0 (f d)):
 eval F (.N tg one k aD it y9 c elt) τ h=.j (.own (ds.j f)) h:=by
 rw[eval,a,R.ae,if_pos b,jD (λd=>y0 (f d))]
 .simp[List.filterMap_eq_map']
 intro d e;obtain⟨i,g,w,e1,e2⟩:=l d e;rw[g];simp[e1,e2]
def C7(bnd)(body)(d)(ds)(τ)(h):Gp bnd body (d::ds) τ h=match bnd d τ with
|none=>.fail
|some c=>match body c h with
|.next a b=>Gp bnd body ds a b
|.cont a b=>Gp bnd body ds a b
|.brk a b=>.next a b
|o=>o:=rfl
@[simp]theorem Xx(bnd)(body)(τ)(h):Gp bnd body [] τ h=.next τ h:=rfl
def Wa(b:bnd d τ=y0 τ1)(a:body τ1 h=.next τ2 h2):Gp bnd body (d::ds) τ h=Gp bnd body ds τ2 h2:=by rw[C7,b];simp[a]
@[simp]theorem GD(i)(d)(τ):Gq [i] k9 d τ=y0 (GB τ i (.v d)):=rfl
@[simp]theorem Kf(tg)(ds)(τ):Gq tg y9 (.tup ds) τ=ba tg ds τ:=rfl
def zd(a b:Nat):Kg (a:Int) (b:Int)=y0 ((a&&&b:Nat):Int):=by simp[Kg]
def Wm(a b:Nat):lG (a:Int) (b:Int)=y0 ((a|||b:Nat):Int):=by simp[lG]
@[simp]theorem yr(i j):Gi .x i j=if 0<j then y0 (i%j)else none:=rfl
@[simp]theorem Ic(i j):Gi .fdiv i j=if 0<j/\j<lz then y0 (i/j)else none:=rfl
@[simp]theorem wc(i j):Gi .u i j=Kg i j:=rfl
@[simp]theorem wn(i j):Gi .p i j=lG i j:=rfl
def je(a b:Nat)(h:a<2^64):Gi .w (a:Int) (b:Int)=y0 ((a*b:Nat):Int):=by
 have c:(-et<a/\a<et)\/(-et<b/\b<et):=by rw[GZ];lia
 show(if _ then _ else _)=_;rw[if_pos c,Am0]
def z9(k:Nat)(h:k<=1000000):Gi .A 1 (k:Int)=y0 ((2^k:Nat):Int):=by
 have a:0<=(k:Int)/\k<=BP/\(1:Int).p<kv:=by rw[G7,GC];exact⟨(Int.natCast_nonneg _),by lia,by decide⟩
 show(if _ then _ else _)=_;rw[if_pos a,Int.one_mul,Ac9];simp
def Xo(t k:Nat):Gi .B (t:Int) (k:Int)=y0 ((t/2^k:Nat):Int):=by simp[Gi,Int.natCast_pow]
def ZT(t k):(t/2^k&&&1)=(t.j k).j:=by have:=Af5 (t/2^k) 1;rw[this];exact Wf.ij t k
noncomputable def pD(p:Nat×Nat):D:=.tup [.o (p.1:Nat),.o (p.2:Nat)]
def Iz(n t:Nat)(m):(((Aa7 m).j λi=>D.n i).U λd=>match d with
|.o i=>if t.j i.j then y0 (.tup [.o (i/(n:Int)),.o (i%(n:Int))])else u0
|_=>u0)=(((Aa7 m).T t.j).j λk=>(k/n,k%n)).j pD:=by
 induction Aa7 m with
|nil=>rfl
|cons x c a=>
  by_cases b:t.j x=k9
  .simp[b,pD,a]
  .simp[b,a]
def iV(m)(b:d∈(Aa7 m).j λi=>D.n i):∃i:Nat,i<m/\d=.n i:=by obtain⟨i,a,rfl⟩:=Ac1.p b;exact⟨i,Ac0.p a,rfl⟩
def Ji(a:n<=20):n*n<=400:=Ab5 (Ag1 a a) (by decide)
def tx(a:n<=20):n*n<=bq:=Ab5 (Ji a) (by rw[Gg];decide)
def Ju(e:eval F a τ h=.j (.i m) h)(c:m<=1000000):Gk F (.p a) τ h=.j ((Aa7 m).j λi=>.n i) h:=by
 have b:-gj<=m/\m<gj:=by rw[GL];lia
 rw[Gk,e,R.ae,int?_int,R.ar,R.ae,if_pos b,Ac9]
def Lo(a:n<=20)(e:Gj τ i=si n/\Gj τ j=si n):Gk F (.p (.x .w (.X i) (.X j))) τ h=.j ((Aa7 (n*n)).j λi=>.n i) h:=by have b:=Ji a;refine Ju ?_ (Nat.le_trans ‹_› (by decide));simp[e.1,e.2,(je n n (Nat.lt_of_le_of_lt ‹_› (by decide)))]
def wu(k n t)(h)(c:n<=20):call prog (k+1) "pairs_of" [.i n,.i t] h=.j (.own ((Wf.az n t).j pD)) h:=by
 rw[Gb rfl _ _ _ rfl];simp only[wN,execs,exec,ZF,GJ];rw[tW (λd=>match d with
|.o i=>if t.j i.j then y0 (.tup [.o _,.o (i%n)])else u0
|_=>u0) (Lo c (by simp[Gj])) (by simpa using tx c)]
 .rw[Iz];simp[Wf.az]
 .intro d j;obtain⟨i,f,rfl⟩:=iV _ j;have b:0<n:=by cases n with
|zero=>simp at f
|succ m=>exact Nat.le_add_left _ _
  have a:0<n/\n<lz:=by rw[GR];lia
  have g:Kg ((t/2^i:Nat)) 1=y0 (((t.j i).j:Nat):Int):=by rw[show 1=((1:Nat):Int)from rfl,zd,ZT]
  refine⟨_,t.j i,rfl,?_,?_⟩
  .unfold Gm;simp only[eval,Gj,Ae4,List.replicate_zero,Ab2,Aq2,Ae7,GB,Gn,R.ae,GF,Xo,wc,g,R.ar,uE];cases t.j i<;>rfl
  .by_cases e:t.j i=k9
   .simp[e,Gj,a,b]
   .simp[e]
end Lake.M
local macro_rules|`(tactic|simp![$xs,*])=>do
 let y:=("Lake.M.exec Lake.M.execs Lake.M.Gm Lake.M.eval Lake.M.Gc Lake.M.Gv Lake.M.Gk Lake.M.Gs Lake.M.GJ Lake.M.Gj Lake.M.Gn Lake.M.GB Lake.M.ba Lake.M.R.ae Lake.M.R.ax Lake.M.R.ar Lake.M.O.bS Lake.M.O.cR Lake.M.O.iG Lake.M.W.rg Lake.M.W.gS Lake.M.W.cc Lake.M.W.fc Lake.M.W.hY List.map_cons List.map_nil List.cons_append List.nil_append Nat.reduceSub List.replicate_succ List.replicate_zero Lake.M.GS Bool.not_true Bool.not_false Lake.M.GF Option.bind_some Lake.M.Ky Lake.M.Kq Lake.M.Kx Lake.M.Kh Lake.M.Kw Lake.M.Ks Lake.M.int?_int Lake.M.Ga Lake.M.Gu Lake.M.GY Lake.M.GA Lake.M.GD Lake.M.Kf".splitOn " ").toArray.map λx=>Lean.mkNode ``Lean.Parser.Tactic.simpLemma #[Lean.mkNullNode,Lean.mkNullNode,Lean.mkIdent (`_root_++x.toName)]
 `(tactic|simp only[$y,*,$xs,*])
namespace Lake.M
open M renaming D.int→Lake.M.D.o,D.str→Lake.M.D.p,D.tup→Lake.M.D.u,R.ok→Lake.M.R.j,W.own→Lake.M.W.j,O.next→Lake.M.O.p
def Nd(f:n<=20)(e:a<n)(d:b<n)(h):
 execs F jj [si n,y0 l,si t,si a,si b] h=
  .p [si n,y0 l,si (t|||2^(a*n+b)),si a,si b] h:=by
 have c:Gi .shl 1 _=y0 ((2^(a*n+b):Nat):Int):=z9 _ (by have:=Wf.place_lt e d;have:=Ji f;lia);rw[Int.natCast_add]at c;simp only[jj,execs,exec,eval,Gj,Gn,R.ae,R.ar,R.ax,O.bS,GF,(je a n (by lia)),Qc,c,wn,(Wm t (2^(a*n+b))),W.rg,GB]
theorem AD(a:n<=20)(h):∀ps t r x y,Wf.fA n ps->∃j i,
 Gp (Gq [3,4] y9) (λτ h=>execs F jj τ h) (ps.j pD++r) [si n,y0 l,si t,x,y] h=
  Gp (Gq [3,4] y9) (λτ h=>execs F jj τ h) r [si n,y0 l,sv (.o ((ps.X (λt p=>t|||2^(p.1*n+p.2)) t:Nat):Int)),j,i] h
|[],t,r,x,y,_=>⟨x,y,rfl⟩
|p::ps,t,r,x,y,c=>by have b:=c p Aa3;obtain⟨j,i,e⟩:=AD a h ps (t|||2^(p.1*n+p.2)) r (sv (.o p.1)) (sv (.o p.2)) λq d=>c q (Aa2 _ d);refine⟨j,i,?_⟩;rw[Ab2,Aq2,Wa rfl (Nd a b.1 b.2 h),e];rfl
def ER(k n)(ps)(l)(a:lJ l=y0 (ps.j pD))(h)(b:n<=20)(c:Wf.fA n ps):call prog (k+1) "gathered" [.i n,l] h=.j (.i (Wf.c9 n ps)) h:=by rw[Gb rfl _ _ _ rfl];obtain⟨f,d,e⟩:=AD b h ps 0 [] u0 u0 c;rw[Ae,Xx]at e;simp[qP,a,R.ar];rw[show(0)=((0:Nat):Int)from rfl,e];simp[Wf.c9]
def XJ(k n)(ps)(h)(b:n<=20)(a:Wf.fA n ps):call prog (k+3) "gathered" [.i n,.bor (ps.j pD)] h=.j (.i (Wf.c9 n ps)) h:=ER _ n ps _ rfl h b a
def wV(k s t)(h):call prog (k+1) "either" [.i s,.i t] h=.j (.i (s|||t)) h:=by rw[Gb rfl _ _ _ rfl];simp![vM,wn,Wm]
def FZ(k s t)(h):call prog (k+1) "common" [.i s,.i t] h=.j (.i (s&&&t)) h:=by rw[Gb rfl _ _ _ rfl];simp![uZ,wc,zd]
def JK(s t:Nat):Kg (s:Int) (-(t:Int)-1)=y0 ((s-(s&&&t):Nat):Int):=by
 have a:¬(0<=-(t:Int)-1):=by lia
 have c:0<=(s:Int):=Int.natCast_nonneg _;have b:(-(-(t:Int)-1)-1).j=t:=by lia
 rw[Kg,if_pos c,if_neg a,b,Ac9]
def jz(k s t)(h):call prog (k+1) "without" [.i s,.i t] h=.j (.i (s-(s&&&t))) h:=by rw[Gb rfl _ _ _ rfl];simp![q5,wc,JK]
def Cc(q:eval F e τ h=.j (.j xs) h):Gk F (.seq e) τ h=.j xs h:=by rw[Gk,q];rfl
def Nb(q:eval F e τ h=.j (.t xs) h):Gk F (.seq e) τ h=.j xs h:=by rw[Gk,q];rfl
def xK(n t)(a:n<=20):((Wf.az n t).j pD).e<=bq:=by refine Ab5 ?_ (tx a);simp only[Wf.az,Aa];exact Ab5 (Aj1 _ _) (by simp)
def OB(k n t)(h)(a:n<=20):call prog (k+4) "turned" [.i n,.i t] h=.j (.i (Wf.bL n t)) h:=by
 rw[Gb rfl _ _ _ rfl];have c:∀h,eval (k8 (k+3)) WB [si n,si t] h=.j (.j ((Wf.mw (Wf.az n t)).j pD)) h:=by
  intro h;rw[WB,Zl (λd=>match d with|.u [x,y]=>.u [y,x]|d=>d) (Cc ?_) (xK n t a)]
  .simp[Wf.mw,pD,Function.comp_def]
  .intro d b;obtain⟨p,e,rfl⟩:=Ac1.p b;exact⟨_,rfl,_,rfl,rfl⟩
  .simp![wu _ n t h a]
 simp![vR,c,XJ k n _ h a (Wf.fm (Wf.bZ n t))];rfl
def Ms(k n)(h)(c:n<=20):call prog (k+4) "same" [.i n] h=.j (.i (Wf.bH n)) h:=by
 rw[Gb rfl _ _ _ rfl];have b:∀h,eval (k8 (k+3)) jR [si n] h=.j (.j (((Aa7 n).j λa=>(a,a)).j pD)) h:=by
  intro h;rw[jR,Zl (λd=>.u [d,d]) (Ju (m:=n) (by simp![]) (Nat.le_trans ‹_› (by decide))) (by simp;rw[Gg];exact Nat.le_trans ‹_› (by decide))]
  .simp[pD,Function.comp_def]
  .intro d e;exact⟨_,rfl,_,rfl,rfl⟩
 simp![yg,b,XJ k n _ h c (Wf.eG n)];rfl
def yi(k n)(h)(c:n<=20):call prog (k+1) "every" [.i n] h=.j (.i (2^(n*n)-1)) h:=by
 rw[Gb rfl _ _ _ rfl];have a:=z9 (n*n) (by have:=Ji c;exact Nat.le_trans ‹_› (by decide));have b:((2^(n*n):Nat))-1=((2^(n*n)-1:Nat):Int):=by have:=Ad5 (n*n);lia
 simp![yX,(je n n (Nat.lt_of_le_of_lt ‹_› (by decide))),a,we,b]
def jU(x k:Nat)(b:x<2^64)(h:k<=1000000):Gi .shl (x:Int) (k:Int)=y0 ((x*2^k:Nat):Int):=by
 have a:0<=(k:Int)/\k<=BP/\(x:Int).p<kv:=by rw[G7,GC];exact⟨(Int.natCast_nonneg _),by lia,by simpa using b⟩
 show(if _ then _ else _)=_;rw[if_pos a,Ac9,Am0,Int.natCast_pow];rfl
def HE(c:n<=20)(e:a<n)(g:b<n)(h):
 execs F Zu [si n,si o,si p,si (2^n-1),si t,si a,si b,x7] h=
  .p [si n,si o,si p,si (2^n-1),si (t|||Wf.cF n p b*2^(a*n)),si a,si b,si (Wf.cF n p b)] h:=by
 have f:(p/2^(b*n)&&&(2^n-1))=Wf.cF n p b:=by rw[Af5];rfl
 have d:=Ab5 (Ag1 (Ag0 e) (Aa9 n)) (Ji c);simp![Zu,(je a n (by lia)),(je b n (by lia)),Xo,wc,zd,f,(jU _ (a*n) (Ab4 (Wf.dz n p b) (Ab5 (Ad2 (by decide) c) (by decide))) (Nat.le_trans ‹_› (by decide))),wn,Wm]
theorem AE(a:n<=20)(h):∀ps t x y z,Wf.fA n ps->∃L j i,
 Gp (Gq [5,6] y9) (λτ h=>execs F Zu τ h) (ps.j pD) [si n,si o,si p,si (2^n-1),si t,x,y,z] h=
  .p [si n,si o,si p,si (2^n-1),sv (.o ((ps.X (λt q=>t|||Wf.cF n p q.2*2^(q.1*n)) t:Nat):Int)),L,j,i] h
|[],t,x,y,z,_=>⟨x,y,z,rfl⟩
|q::ps,t,x,y,z,c=>by have b:=c q Aa3;obtain⟨L,j,i,e⟩:=AE a h ps (t|||Wf.cF n p q.2*2^(q.1*n)) (sv (.o q.1)) (sv (.o q.2)) (si (Wf.cF n p q.2)) λq d=>c q (Aa2 _ d);refine⟨L,j,i,?_⟩;rw[Ab2,Wa rfl (HE a b.1 b.2 h),e];rfl
def xT(k n o p)(h)(a:n<=20):call prog (k+2) "joined" [.i n,.i o,.i p] h=.j (.i (Wf.joinM n o p)) h:=by
 rw[Gb rfl _ _ _ rfl];have b:((2^n:Nat))-1=((2^n-1:Nat):Int):=by have:=Ad5 n;lia
 obtain⟨f,d,c,e⟩:=AE a h _ 0 u0 u0 u0 (Wf.bZ n o);simp![yO,(z9 n (Nat.le_trans ‹_› (by decide))),we,b,wu k n o h a];rw[show(0)=((0:Nat):Int)from rfl,e];simp![];rfl
theorem WW(d:n<=20)(h):∀f r,2^(n*n)-r<f->Wf.gz n t r->∃r',Wf.fy n t r'∧
 GG (λτ h=>Gm (k8 (k+2)) Xu τ h) (λτ h=>execs (k8 (k+2)) xu τ h) f [si n,si t,si r,si (r|||Wf.joinM n r r)] h=
  .p [si n,si t,si r',si r'] h
|0,r,g,_=>absurd g (Ag6 _)
|f+1,r,g,c=>by
  have o:∀a b,Gm (k8 (k+2)) Xu [si n,si t,si a,si b] h=.j (!u9 (b=a)) h:=by
   intro a b;simp[Gm,Xu,Gj,Kc];by_cases q:b=a
   .simp[q]
   .have:¬(b=(a:Int)):=by lia
    simp[q,this]
  rw[GG,o,R.ax];by_cases e:r|||Wf.joinM n r r=r
  .refine⟨r,c.done e,?_⟩;simp only[e,decide_true,An2]
  .have p:=c.grow e;have l:=c.next.lt;obtain⟨r',i,m⟩:=WW d h f (r|||Wf.joinM n r r) (by lia) c.next;refine⟨r',i,?_⟩;simp only[e,decide_false,Ao6];have j:execs (k8 (k+2)) xu [si n,si t,si r,si (r|||Wf.joinM n r r)] h=
    .p [si n,si t,si (r|||Wf.joinM n r r),si ((r|||Wf.joinM n r r)|||Wf.joinM n (r|||Wf.joinM n r r) (r|||Wf.joinM n r r))] h:=by
    simp![xu,xT k n _ _ h d,wV (k+1) _ _ h]
   simp only[j];exact m
def Ng(k n t)(h)(a:n<=4)(e:t<2^(n*n)):∃r,Wf.fy n t r/\call prog (k+3) "closed" [.i n,.i t] h=.j (.i r) h:=by
 rw[Gb rfl _ _ _ rfl];have d:2^(n*n)-t<100000:=by have:n*n<=16:=Ag1 a a;have:2^_<=2^16:=Ad2 (by decide) this;lia
 obtain⟨r,c,b⟩:=WW (Nat.le_trans ‹_› (by decide)) h 100000 t d (Wf.gz.start e);refine⟨r,c,?_⟩;simp[Gm]at b;simp![Bu,xT k n _ _ h (Nat.le_trans ‹_› (by decide)),wV _ _ _ h];rw[b];simp![]
def za(e:exec F s τ h=.p τ1 h1):execs F (.cons s ss) τ h=execs F ss τ1 h1:=by rw[execs,e,O.bS]
def fx(e:exec F s τ h=.p τ1 h1)(g:Gx n (execs F ss τ1 h1)=r):Gx n (execs F (.cons s ss) τ h)=r:=by rw[za e];exact g
def qa(e:exec F s τ h=.ret w h1):execs F (.cons s ss) τ h=.ret w h1:=by rw[execs,e,O.cR]
def Qq(e:Gm F c τ h=.j k9 h1):exec F (.iff c a b) τ h=execs F a τ h1:=by rw[exec,e,R.ax]
def oI(e:Gm F c τ h=.j y9 h1):exec F (.iff c a b) τ h=execs F b τ h1:=by rw[exec,e,R.ax]
def Jw(a:GJ e=u0)(q:eval F e τ h=.j (.j xs) h1):exec F (.ret e) τ h=.ret (.j xs) h1:=by rw[exec,a];simp[q,R.ax]
def Ja(a:GJ e=u0)(q:eval F e τ h=.j (.v d) h1):exec F (.ret e) τ h=.ret (.v d) h1:=by rw[exec,a];simp[q,R.ax]
def xv(e:h[r]?=y0 (.lst xs))(i):d4 (.r r) (.v (.o i)) h=aW xs i:=by simp[d4,W.d8,W.seq?,e]
def oG(x y z:D):aW [x,y,z] 0=y0 x:=rfl
def Z6(x y z:D):aW [x,y,z] 1=y0 y:=rfl
def lP(x y z:D):aW [x,y,z] 2=y0 z:=rfl
def O2:ea 3 2=y0 2:=rfl
def Qz(f:eval F e τ h=.j (.v d) h)(c:Gj τ i=y0 (.r r))(g:h[r]?=y0 (.lst xs))(a:ea xs.e j=y0 n)(k:Ko d=k9)(b:h2=h.x r (.lst (xs.x n d))):
 exec F (.b5 (.var i) (.int j) e) τ h=.p τ h2:=by
 subst b;simp only[exec,f,R.ax,eval,c,Kv,g,a,k,if_true]
def rX(a b)(h:-(2:Int)^64<b/\b<2^64):Gi .mul a b=y0 (a*b):=by
 have c:(-et<a/\a<et)\/(-et<b/\b<et):=by rw[GZ];exact .u h
 show(if _ then _ else _)=_;rw[if_pos c]
def Ll(a b)(h:-(2:Int)^64<a/\a<2^64):Gi .mul a b=y0 (a*b):=by
 have c:(-et<a/\a<et)\/(-et<b/\b<et):=by rw[GZ];exact .p h
 show(if _ then _ else _)=_;rw[if_pos c]
def XI(a b)(h:0<b):Gi .mod a b=y0 (a%b):=by rw[yr,if_pos h]
def vI(a b)(h:0<b)(c:b<1073741824):Gi .fdiv a b=y0 (a/b):=by rw[Ic,if_pos ⟨h,by rw[GR];exact c⟩]
def DT(i j)(h):Gr .eq (.v (.o i)) (.v (.o j)) h=y0 (u9 (i=j)):=by rfl
theorem jY:∀xs:List Int,Kk (xs.j .o)=y0 xs.Y
|[]=>rfl
|x::xs=>by simp[Kk,jY xs]
def Ox(f:α->β)(xs)(lo hi):cut (xs.j f) lo hi=(cut xs lo hi).j f:=by simp[cut,Ap1]
def OU(xs:List α)(lo hi):(cut xs lo hi).e<=xs.e:=by simp[cut,Af];lia
abbrev mj:Tx:=vX
noncomputable def B7:List Tx:=[gW,iT,gG,iB,[101,97,99,104],gf,lV,gm,gu,ky,kI,k5,[107,105,110,100],[116,105,101],[115,97,121]]
structure MV(t:Tx):Prop where
 lo:1<=t.e
 hi:t.e<=8
 MN:∀c∈t,97<=c/\c<=122
 free:t∉B7
def Hj(i:Nat)(h:i<26):aW mj (i:Int)=y0 (97+i):=by
 have:∀i:Nat,i<26->aW mj i=y0 (97+i):=by decide
 exact this i h
def ny(xs:List α)(n:Nat):cut xs u0 (y0 (n:Int))=xs.B n:=by
 have a:¬((n:Int)<0):=by lia
 simp only[cut,aS,a,if_false,Ac9,List.drop_zero,Nat.sub_zero];by_cases q:n<=xs.e
 .rw[Ak5 q]
 .rw[Nat.min_eq_right (by lia),Aj (Aa9 _),Aj (by lia)]
def xQ(xs:List α)(n:Nat):cut xs (y0 (n:Int)) u0=xs.K n:=by
 have a:¬((n:Int)<0):=by lia
 simp[cut,aS,a,Ac9];by_cases q:n<=xs.e
 .rw[Ak5 q,Aj (by simp)]
 .rw[Nat.min_eq_right (by lia),List.drop_of_length_le (Aa9 _),List.drop_of_length_le (by lia),List.take_nil]
def oZ(s)(lo hi)(h)(a:s.e<=bq):fV (.s s) lo hi h=.j (.s (cut s lo hi)) h:=by show(if s.e<=bq then _ else _)=_;rw[if_pos a]
def mul_str(s)(n)(h)(b:n<=1000)(a:s.e*n<=1000000):GQ .mul (.s s) (.i n) h=.j (.v (.p (Aa4 n s).G)) h:=by show(if 0<=(n:Int)/\(n:Int)<=1000/\s.e*(n:Int).j<=bq then _ else _)=_;rw[if_pos ⟨(Int.natCast_nonneg _),by lia,by rw[Gg,Ac9];exact a⟩,Ac9]
def add_str(s u)(h)(a:s.e+u.e<=1000000):GQ .add (.s s) (.s u) h=.j (.s (s++u)) h:=by rw[DD,if_pos (by rw[Gg];exact a)]
def ZC(i)(a:i<26)(h):d4 (.s mj) (.i i) h=y0 (.p [97+i]):=by rw[oU,if_pos (by rw[Gg];decide),Hj i a];rfl
def sN(f:Nat->α)(m)(h:m<=8)(g:∀i,i<8->∀j,j<8->i≠j->f i≠f j):((Aa7 m).j f).C:=by rw[List.Nodup,List.pairwise_map];refine Ap2.imp_of_mem ?_ (List.nodup_range);intro a b e d c;exact g a (by have:=Ac0.p e;exact Nat.lt_of_lt_of_le ‹_› ‹_›) b (by have:=Ac0.p d;exact Nat.lt_of_lt_of_le ‹_› ‹_›) c
def rG(a b:Nat)(c:0<b):Gi .mod (a:Int) (b:Int)=y0 ((a%b:Nat):Int):=by rw[XI _ _ (by lia)];rfl
def Hy(a b:Nat)(c:0<b)(d:b<1073741824):Gi .fdiv (a:Int) (b:Int)=y0 ((a/b:Nat):Int):=by rw[vI _ _ (by lia) (by lia)];rfl
def Ph(a b:Nat):Gi .add (a:Int) (b:Int)=y0 ((a+b:Nat):Int):=rfl
def Xf(xs:List α)(i)(h:i<xs.e):aW xs (i:Int)=xs[i]?:=by have:(i)<xs.e:=‹_›;simp[aW,ea,this]
def Zj(i j)(h):Gr .eq (.i i) (.i j) h=y0 (u9 (i=j)):=by rw[DT];congr 1;exact decide_eq_decide.u (by lia)
theorem WD:∀i:List Tx,GT (i.j .p)=y0 i
|[]=>rfl
|t::i=>by simp[GT,WD i]
theorem BI(s):∀i:List Tx,inD (.p s) (i.j .p)=u9 (s∈i)
|[]=>rfl
|t::i=>by
  have a:=BI s i;simp only[inD]at a;by_cases q:t=s
  .subst q;simp[inD]
  .have b:¬s=t:=λe=>q e.p;simp only[inD,Ab2,Ag4,a,Ab8,b,false_or];simp[q]
theorem uu:∀(a:List Tx)(h),(GU h (a.j .p)=a.j .p/\Gf (a.j .p)=k9)/\GI (a.j .p)=0
|[],_=>⟨⟨rfl,rfl⟩,rfl⟩
|t::a,h=>by have b:=uu a h;simp[b]
def Xz(s)(a:List Tx)(w)(h)(b:sM (w.dd h)=y0 (GU h (a.j .p))):Ki (.s s) w h=y0 (u9 (s∈a)):=by unfold Ki;simp[b,(uu a h),BI]
structure Nm(ts:List Tx):Prop where
 nd:ts.C
 good:∀t∈ts,MV t
def jf(x)(r:List α):aW (x::r) 0=y0 x:=by
 have:0<(x::r).e:=by simp
 simp[aW,ea,this]
def IE(xs)(n)(h)(b:n<=1000)(a:xs.e*n<=1000000):GQ .mul (.j xs) (.i n) h=.j (.j (Aa4 n xs).G) h:=by show Kz xs n h=_;rw[Kz,if_pos ⟨(Int.natCast_nonneg _),by lia,by rw[Ac9,Gg];exact a⟩,Ac9]
def m6(a:Gd d=k9)(c:n<=h.e)(b:Gw (h.B n)=k9):∃h',Gx n (.ret (.v d) h)=.j (.v d) h'/\h'=h.B n:=by
 by_cases q:h.e=n
 .exact⟨h,by simp[Gx,fin,q],by rw[←q,Aq1]⟩
 .exact⟨h.B n,by simp[Gx,fin,q,W.keep,a,b],rfl⟩
theorem jw:∀i:List Tx,Gf (i.j .p)=k9
|[]=>rfl
|t::i=>by simp[jw i]
def Ib(c:Gc F es τ h=.j ws h)(a:F.call f (ws.j W.arg) h=.j (.j xs) h)(b:Gf xs=k9):eval F (.share (.call f es)) τ h=.j (.r h.e) (h++[.lst xs]):=by simp only[eval,c,R.ae,a,b,if_true]
theorem zr(x):∀ys:List Tx,(Ke x ys).Perm (x::ys)
|[]=>.refl _
|y::ys=>by
  unfold Ke;by_cases q:y<x
  .rw[if_pos q];exact((zr x ys).cons y).trans (.swap x y ys)
  .rw[if_neg q]
theorem Xk:∀xs:List Tx,(Gz xs).Perm xs
|[]=>.refl _
|x::xs=>(zr x (Gz xs)).trans ((Xk xs).cons x)
noncomputable abbrev iP(a:List Tx):D:=.u (a.j .p)
abbrev wD(K T:List Tx):D:=.u [iP K,iP T]
def jO(ts)(h)(a:ts.e<64):ek .sorted [.j (ts.j .p)] h=.j (.j ((Gz ts).j .p)) h:=by show(R.of h ((y0 _).p GT)).bind _=_;rw[Af6,WD,R.ar,R.ae,if_pos a]
abbrev aB(l:List Nat):List D:=l.j λ(x:Nat)=>.n x
abbrev kW(n:Nat)(a b:List Nat):D:=.u [.n n,.u (aB a),.u (aB b)]
structure Lj(n K T:Nat)(ks ts:List Nat):Prop where
 n4:n<=4
 lk:ks.e=K
 lt:ts.e=T
 bk:∀x∈ks,x<2^n
 bt:∀x∈ts,x<2^(n*n)
inductive Ex where
|name (t:Tx)
|same
|all
|none
|turned (a:Ex)
|closed (a:Ex)
|plus (a b:Ex)
|less (a b:Ex)
|both (a b:Ex)
|joined (a b:Ex)
abbrev zh:Tx:=[110,97,109,101]
noncomputable abbrev Qg:Tx:=[115,97,109,101]
abbrev Xn:Tx:=[97,108,108]
abbrev wh:Tx:=[110,111,110,101]
abbrev xF:Tx:=[112,108,117,115]
abbrev zq:Tx:=[108,101,115,115]
abbrev zz:Tx:=[98,111,116,104]
abbrev jh:Tx:=[106,111,105,110,101,100]
abbrev Xi:Tx:=[116,117,114,110,101,100]
abbrev zj:Tx:=[99,108,111,115,101,100]
noncomputable def aV:Ex->D
|.name t=>.u [.p zh,.p t]
|.same=>.u [.p Qg]
|.all=>.u [.p Xn]
|.none=>.u [.p wh]
|.turned a=>.u [.p Xi,aV a]
|.closed a=>.u [.p zj,aV a]
|.plus a b=>.u [.p xF,aV a,aV b]
|.less a b=>.u [.p zq,aV a,aV b]
|.both a b=>.u [.p zz,aV a,aV b]
|.joined a b=>.u [.p jh,aV a,aV b]
def Ex.wf (N:List Tx):Ex->Prop
|.name t=>t∈N
|.turned a=>a.wf N
|.closed a=>a.wf N
|.plus a b=>a.wf N/\b.wf N
|.less a b=>a.wf N/\b.wf N
|.both a b=>a.wf N/\b.wf N
|.joined a b=>a.wf N/\b.wf N
|_=>True
noncomputable def Ex.dp:Ex->Nat
|.turned a=>a.dp+1
|.closed a=>a.dp+1
|.plus a b=>max a.dp b.dp+1
|.less a b=>max a.dp b.dp+1
|.both a b=>max a.dp b.dp+1
|.joined a b=>max a.dp b.dp+1
|_=>0
end Lake.M
namespace Wf
noncomputable def wr(g:Nat->Nat->Bool):Nat->Nat->Nat->Bool
|0,a,b=>g a b
|k+1,a,b=>wr g k a b||(wr g k a k&&wr g k k b)
theorem rh:∀k,g a b=k9->wr g k a b=k9
|0,h=>h
|k+1,h=>by rw[wr,rh k h,Am4]
theorem uI:∀k m,m<k->∀a b,wr g k a m=k9->wr g k m b=k9->wr g k a b=k9
|0,m,f=>absurd f (Ag6 _)
|k+1,m,f=>λa b c d=>by
  rw[wr,Ae8,Aa0]at c d;rw[wr,Ae8,Aa0];by_cases q:m=k
  .subst q;have c:=c.j id And.left;have d:=d.j id And.right;exact .u ⟨c,d⟩
  .have h:m<k:=by lia
   have e:=uI (g:=g) k m h;rcases c with c|c<;>rcases d with d|d
   .exact .p (e a b c d)
   .exact .u ⟨e a k c d.1,d.2⟩
   .exact .u ⟨c.1,e k b c.2 d⟩
   .exact .u ⟨c.1,d.2⟩
theorem xG(e:∀a b,a<n->b<n->(g a b=k9↔t.j (a*n+b)=k9)):∀k,k<=n->∀a b,a<n->b<n->wr g k a b=k9->TC n t a b
|0,_,a,b,d,c,h=>.step d c ((e a b d c).p h)
|k+1,f,a,b,d,c,h=>by
  rw[wr,Ae8,Aa0]at h;rcases h with h|h
  .exact xG e k (Nat.le_of_lt ‹_›) a b d c h
  .exact(xG e k (Nat.le_of_lt ‹_›) a k d (by lia) h.1).trans (xG e k (Nat.le_of_lt ‹_›) k b (by lia) c h.2)
def CS(f:∀a b,a<n->b<n->(g a b=k9↔t.j (a*n+b)=k9))(h:TC n t a b):wr g n a b=true:=by
 induction h with
|step c d e=>exact rh n ((f _ _ c d).u e)
|more j c d e i=>exact uI n _ c _ _ i (rh n ((f _ _ c d).u e))
def k6(c:∀a b,a<n->b<n->(g a b=k9↔t.j (a*n+b)=k9))(e:a<n)(d:b<n):wr g n a b=k9↔TC n t a b:=⟨xG c n (Aa9 n) a b e d,CS c⟩
end Wf
namespace Lake.M
open M renaming E.int→Lake.M.E.o,E.str→Lake.M.E.p,E.tup→Lake.M.E.u,E.call→Lake.M.E.j,E.lst→Lake.M.E.w,E.bin→Lake.M.E.x,E.cmp→Lake.M.E.y,E.v0→Lake.M.E.A,E.ix→Lake.M.E.B,E.bl→Lake.M.E.C,E.v1→Lake.M.E.G,E.v2→Lake.M.E.K,E.v3→Lake.M.E.L,E.comp→Lake.M.E.N,E.var→Lake.M.E.X,D.int→Lake.M.D.o,D.ref→Lake.M.D.j,D.str→Lake.M.D.p,D.tup→Lake.M.D.u,D.lst→Lake.M.D.w,D.bl→Lake.M.D.C,D.aw→Lake.M.D.T,D.err→Lake.M.D.x,Ss.cons→Lake.M.Ss.j,Ss.nil→Lake.M.Ss.p,Es.cons→Lake.M.Es.j,Es.nil→Lake.M.Es.p,R.ok→Lake.M.R.j,R.bind→Lake.M.R.p,W.own→Lake.M.W.j,W.bor→Lake.M.W.p,O.ret→Lake.M.O.j,O.next→Lake.M.O.p,It.seq→Lake.M.It.j,Ty.tuple→Lake.M.Ty.x,Ex.none→Lake.M.Ex.w,Ex.turned→Lake.M.Ex.A,Ex.dp→Lake.M.Ex.j,Ex.name→Lake.M.Ex.p,Ex.joined→Lake.M.Ex.u,Ex.closed→Lake.M.Ex.x,Ex.wf→Lake.M.Ex.y,Bi.len→Lake.M.Bi.y,Cell.obj→Lake.M.Cell.j,Cell.aR→Lake.M.Cell.p,S.af→Lake.M.S.p,Op.add→Lake.M.Op.j,Op.band→Lake.M.Op.u,Op.mul→Lake.M.Op.w,Op.mod→Lake.M.Op.x,Cp.eq→Lake.M.Cp.j,Cp.mem→Lake.M.Cp.p,Cp.ne→Lake.M.Cp.u,Fn.body→Lake.M.Fn.j
def dA(t:Tx)(a:List Tx):Nat:=(Kl t a).getD 0
theorem xm:∀{i},t∈i->Kl t i=y0 (dA t i)/\dA t i<i.e
|y::a,h=>by
  unfold dA;by_cases q:y=t
  .simp[Kl,q]
  .have b:t∈a:=by
    rcases Ab8.p h with e|e
    .exact absurd e.p q
    .exact e
   obtain⟨e,l⟩:=xm b;simp only[Kl,q,if_false,e,Option.map_some,Al0,Aa8]at l⊢;exact⟨trivial,(Nat.succ_le_succ ‹_›)⟩
structure Wo where
 n:Nat
 K:List Tx
 T:List Tx
 ks:List Nat
 ts:List Nat
structure Wo.Ok (w:Wo):Prop where
 hK:w.K.e<=4
 hT:w.T.e<=4
 nd:(w.K++w.T).C
 wl:Lj w.n w.K.e w.T.e w.ks w.ts
def Wo.at(w:Wo)(t:Tx)(a b:Nat):Prop:=if t∈w.T then(w.ts.L (dA t w.T) 0).j (a*w.n+b)=k9 else a=b/\(w.ks.L (dA t w.K) 0).j a=k9
def f7(w:Wo):Ex->Nat->Nat->Prop
|.p t,a,b=>w.at t a b
|.same,a,b=>a=b
|.all,_,_=>True
|.w,_,_=>False
|.A e,a,b=>f7 w e b a
|.x e,a,b=>∃t,t<2^(w.n*w.n)/\(∀x y,x<w.n->y<w.n->(t.j (x*w.n+y)=k9↔f7 w e x y))/\Wf.TC w.n t a b
|.plus e f,a,b=>f7 w e a b\/f7 w f a b
|.less e f,a,b=>f7 w e a b/\¬f7 w f a b
|.both e f,a,b=>f7 w e a b/\f7 w f a b
|.u e f,a,b=>∃c,c<w.n/\f7 w e a c/\f7 w f c b
def Is(w:Wo)(e:Ex)(v:Nat):Prop:=v<2^(w.n*w.n)/\∀a b,a<w.n->b<w.n->(v.j (a*w.n+b)=k9↔f7 w e a b)
def px(a:s<2^n)(b:t<2^n):s|||t<2^n:=Al a b
def Wo.words (w:Wo):D:=wD w.K w.T
open M renaming Wo.words→Lake.M.Wo.j
def Wo.bb (w:Wo):D:=kW w.n w.ks w.ts
def m4(l)(i:Nat)(h:i<l.e):aW (aB l) (i:Int)=y0 (.n (l.L i 0)):=by rw[Xf _ _ (by simp_all),Ac2,Aa6 h,Ac7,Aa6 h];rfl
def J3(ts)(t)(h)(a:t∈ts)(b:ts.e<=1000):nu .index (.v (iP ts)) [.s t] h=.j (.i (dA t ts)) h:=by show(R.of h ((y0 _).p GT)).p _=_;rw[Af6,WD,R.ar,R.ae];show(R.of h (y0 t)).p _=_;rw[R.ar,R.ae,(xm a).1,R.ar,R.ae,if_pos (by rw[Gg];exact Nat.le_trans ‹_› (by decide))]
def IZ(x y z:D):aW [x,y,z] 0=y0 x:=rfl
def Xh(x y:D):aW [x,y] 0=y0 x:=rfl
def qg(x y:D):aW [x,y] 1=y0 y:=rfl
def H9(x:D):aW [x] 0=y0 x:=rfl
noncomputable def km(n x:Nat):List (Nat×Nat):=((Aa7 n).T x.j).j λa=>(a,a)
def XS(n x):Wf.fA n (km n x):=λp c=>by obtain⟨a,b,rfl⟩:=Ac1.p c;have:=Ac0.p (Aj0.p b).1;exact⟨this,this⟩
def yC(h:a<n)(f:b<n):(Wf.c9 n (km n x)).j (a*n+b)=k9↔a=b/\x.j a=true:=by
 rw[Wf.cP,Ad1];refine⟨λ⟨p,i,e⟩=>?_,λ⟨e,j⟩=>?_⟩
 .obtain⟨c,d,rfl⟩:=Ac1.p i;have g:=Aj0.p d;have d:=Ac0.p g.1;have e:=of_decide_eq_true e;have e1:=congrArg (·/n) e;have e2:=congrArg (·%n) e;simp[Wf.aF d,Wf.aF f,Wf.aJ d,Wf.aJ f]at e1 e2;subst e1;exact⟨e2,g.2⟩
 .subst e;exact⟨_,Ac1.u ⟨a,Aj0.u ⟨Ac0.u h,j⟩,rfl⟩,decide_eq_true rfl⟩
def B8(n x)(o:n<=4)(h):eval F xi [a,b,c,si n,si x] h=.j (.j ((km n x).j pD)) h:=by
 rw[xi,tW (λd=>match d with
|.o i=>if x.j i.j then y0 (.u [.o i,.o i])else u0
|_=>u0) (Ju (m:=n) (by simp![]) (Nat.le_trans ‹_› (by decide))) (by simp;rw[Gg];exact Nat.le_trans ‹_› (by decide))]
 .congr 2;rw[List.filterMap_map,km,Ad7];induction Aa7 n with
|nil=>rfl
|cons y l f=>
   by_cases e:x.j y=k9
   .simp[e,pD,f]
   .simp[e,f]
 .intro d j;obtain⟨i,k,rfl⟩:=iV _ j;have g:Kg ((x/2^i:Nat)) 1=y0 (((x.j i).j:Nat):Int):=by rw[show 1=((1:Nat):Int)from rfl,zd,ZT]
  refine⟨[si i,si x],x.j i,rfl,?_,?_⟩
  .unfold Gm;simp only[eval,Gj,Gn,R.ae,GF,Xo,wc,g,R.ar,uE];cases x.j i<;>rfl
  .by_cases e:x.j i=k9
   .simp[e,Gj]
   .simp[e]
def vH(t)(ts)(h):Gr .p (.s t) (.v (iP ts)) h=y0 (u9 (t∈ts)):=Xz t ts (.v (iP ts)) h rfl
def Zr(k)(ok:w.Ok)(t)(g:t∈w.K++w.T)(h):∃v,Is w (.p t) v/\call prog (k+4) "value_of_name" [.v w.j,.v w.bb,.s t] h=.j (.i v) h:=by
 rw[Gb rfl _ _ _ rfl];simp only[zt];show∃v,_/\Gx _ (execs _ _ [sv (wD w.K w.T),sv (kW w.n w.ks w.ts),y0 _,u0,u0] h)=_;have j:=ok.hK;have i:=ok.hT;by_cases q:t∈w.T
 .have c:=(xm q).2;refine⟨w.ts.L (dA t w.T) 0,⟨?_,λa b e d=>?_⟩,?_⟩
  .rw[Ac7,Aa6 (by rw[ok.wl.lt];exact c)];exact ok.wl.bt _ (Ai7 _)
  .show _↔w.at t a b;rw[Wo.at,if_pos q]
  .rw[qa,Ga _ _ _ rfl];rw[Qq (h1:=h) (by simp![ab,qg,vH,decide_eq_true q])];exact qa (Ja rfl (by simp only[eval,Gc,Gj,Gn,R.ae,ab,qg,lP,R.ar,Au,if_true,J3 w.T t h q (Nat.le_trans ‹_› (by decide))];rw[m4 _ _ (by rw[ok.wl.lt];exact c)];rfl))
 .have f:=(Ac6.p g).w q;have n4:=ok.wl.n4;refine⟨Wf.c9 w.n (km w.n (w.ks.L (dA t w.K) 0)),⟨Wf.dw (XS _ _),λa b e d=>?_⟩,?_⟩
  .show _↔w.at t a b;rw[Wo.at,if_neg q];exact yC e d
  .rw[za (τ1:=[sv (wD w.K w.T),sv (kW w.n w.ks w.ts),y0 (.s t),u0,u0]) (h1:=h) (by simp![ab,qg,vH,decide_eq_false q])];rw[za (τ1:=[sv _,sv _,y0 _,si w.n,u0]) rfl];rw[za (τ1:=[sv _,sv _,y0 _,si w.n,si _]) (by simp only[exec,eval,Gc,Gj,Gn,R.ae,ab,Xh,Z6,R.ar,Au,if_true,J3 w.K t h f (Nat.le_trans ‹_› (by decide))];rw[m4 _ _ (by rw[ok.wl.lk];exact((xm f).2))];rfl)];rw[qa (Ja rfl ?_),Ga _ _ _ rfl];simp only[eval,Gc,Gj,Gn,R.ae,B8 w.n _ n4 h,Ab2,Af2,W.cc,W.fc,XJ k w.n _ h (Nat.le_trans ‹_› (by decide)) (XS _ _)]
def xb(s t)(h):Gr .j (.s s) (.s t) h=y0 (s==t):=by simp[Kc]
def xa(e:Gm F c τ h=.j y9 h):execs F (.j (.iff c a .p) ss) τ h=execs F ss τ h:=za (oI e)
def Zf(e:Gm F c τ h=.j k9 h)(r:exec F s τ h=.j w h):execs F (.j (.iff c (.j s .p) .p) ss) τ h=.j w h:=qa ((Qq e).j (qa r))
def Jb(s X)(h):Gm F (.y .j .G (.p X)) [a,y0 (.s s),c] h=.j (s==X) h:=by simp only[Gm,eval,Gj,Gn,R.ae,xb,R.ar,GS]
abbrev ly(n:Nat)(s:Tx)(l:List D):Sl:=[si n,y0 (.s s),y0 (.l l)]
def E4(k n)(l)(h)(a:n<=4):call prog (k+5) "made" [.i n,.s Qg,.l l] h=.j (.i (Wf.bH n)) h:=by rw[Gb rfl _ _ _ rfl];simp only[JA];show Gx _ (execs _ _ (ly n Qg l) h)=_;rw[Zf (Jb _ _ _) (Ja rfl (by simp only[eval,Gc,Gj,Gn,R.ae,Ab2,Af2,W.cc,Ms k n h (Nat.le_trans ‹_› (by decide))];rfl)),Ga _ _ _ rfl]
def OY(k n)(l)(h)(a:n<=4):call prog (k+5) "made" [.i n,.s Xn,.l l] h=.j (.i (2^(n*n)-1)) h:=by rw[Gb rfl _ _ _ rfl];simp only[JA];show Gx _ (execs _ _ (ly n Xn l) h)=_;rw[xa (Jb _ _ _),Zf (Jb _ _ _) (Ja rfl (by simp only[eval,Gc,Gj,Gn,R.ae,Ab2,Af2,W.cc,yi _ n h (Nat.le_trans ‹_› (by decide))];rfl)),Ga _ _ _ rfl]
def Hc(k n)(l)(h):call prog (k+5) "made" [.i n,.s wh,.l l] h=.j (.i (0)) h:=by rw[Gb rfl _ _ _ rfl];simp only[JA];rw[xa (Jb _ _ _),xa (Jb _ _ _),Zf (Jb _ _ _) _,Ga _ _ _ rfl];rfl
abbrev l2(s t:Nat):List D:=[.n s,.n t]
def zY(k n s t)(h):call prog (k+5) "made" [.i n,.s xF,.l (l2 s t)] h=.j (.i (s|||t)) h:=by rw[Gb rfl _ _ _ rfl];simp only[JA];show Gx _ (execs _ _ (ly n xF _) h)=_;rw[xa (Jb _ _ _),xa (Jb _ _ _),xa (Jb _ _ _),Zf (Jb _ _ _) (Ja rfl (by simp only[eval,Gc,Gj,Gn,R.ae,jr,Xh,qg,R.ar,Ab2,Af2,W.cc,wV _ s t h];rfl)),Ga _ _ _ rfl]
def W5(k n s t)(h):call prog (k+5) "made" [.i n,.s zz,.l (l2 s t)] h=.j (.i (s&&&t)) h:=by rw[Gb rfl _ _ _ rfl];simp only[JA];show Gx _ (execs _ _ (ly n zz _) h)=_;rw[xa (Jb _ _ _),xa (Jb _ _ _),xa (Jb _ _ _),xa (Jb _ _ _),xa (Jb _ _ _),Zf (Jb _ _ _) (Ja rfl (by simp only[eval,Gc,Gj,Gn,R.ae,jr,Xh,qg,R.ar,Ab2,Af2,W.cc,FZ _ s t h];rfl)),Ga _ _ _ rfl]
def ZL(k n s t)(h)(a:n<=4):call prog (k+5) "made" [.i n,.s jh,.l (l2 s t)] h=.j (.i (Wf.joinM n s t)) h:=by rw[Gb rfl _ _ _ rfl];simp only[JA];show Gx _ (execs _ _ (ly n jh _) h)=_;rw[xa (Jb _ _ _),xa (Jb _ _ _),xa (Jb _ _ _),xa (Jb _ _ _),xa (Jb _ _ _),xa (Jb _ _ _),Zf (Jb _ _ _) (Ja rfl (by simp only[eval,Gc,Gj,Gn,R.ae,jr,Xh,qg,R.ar,Ab2,Af2,W.cc,xT _ n s t h (Nat.le_trans ‹_› (by decide))];rfl)),Ga _ _ _ rfl]
def wJ(k n s)(h)(a:n<=4):call prog (k+5) "made" [.i n,.s Xi,.l [.n s]] h=.j (.i (Wf.bL n s)) h:=by rw[Gb rfl _ _ _ rfl];simp only[JA];show Gx _ (execs _ _ (ly n Xi [.n s]) h)=_;rw[xa (Jb _ _ _),xa (Jb _ _ _),xa (Jb _ _ _),xa (Jb _ _ _),xa (Jb _ _ _),xa (Jb _ _ _),xa (Jb _ _ _),Zf (Jb _ _ _) (Ja rfl (by simp only[eval,Gc,Gj,Gn,R.ae,jr,H9,R.ar,Ab2,Af2,W.cc,OB k n s h (Nat.le_trans ‹_› (by decide))];rfl)),Ga _ _ _ rfl]
def QL(k n s)(h)(b:n<=4)(c:s<2^(n*n)):∃r,Wf.fy n s r/\call prog (k+5) "made" [.i n,.s zj,.l [.n s]] h=.j (.i r) h:=by obtain⟨r,a,e⟩:=Ng _ n s h b c;refine⟨r,a,?_⟩;rw[Gb rfl _ _ _ rfl];simp only[JA];rw[xa (Jb _ _ _),xa (Jb _ _ _),xa (Jb _ _ _),xa (Jb _ _ _),xa (Jb _ _ _),xa (Jb _ _ _),xa (Jb _ _ _),xa (Jb _ _ _),qa (Ja rfl (by assumption)),Ga _ _ _ rfl]
def L5(a:Gk F it τ h=.j [] h):eval F (.N tg one k aD it y9 c elt) τ h=.j (.j []) h:=by rw[eval,a,R.ae,if_pos (show[].e<=bq from Af4 _)];rfl
def AZ(a:Gk F it τ h=.j [d] h)(e:eval F elt (GB (Aa4 k u0++aD.j λj=>Gj τ j) 0 (.v d)) h=.j (.v y) h):eval F (.N [0] k9 k aD it y9 c elt) τ h=.j (.j [y]) h:=by
 have b:[d].e<=bq:=by rw[Gg];simp
 rw[eval,a,R.ae,if_pos b];simp[Gy,e,R.ar]
def xY(a:Gk F it τ h=.j [d1,d2] h)(e:eval F elt (GB (Aa4 k u0++aD.j λj=>Gj τ j) 0 (.v d1)) h=.j (.v y1) h)(d:eval F elt (GB (Aa4 k u0++aD.j λj=>Gj τ j) 0 (.v d2)) h=.j (.v y2) h):eval F (.N [0] k9 k aD it y9 c elt) τ h=.j (.j [y1,y2]) h:=by
 have b:[d1,d2].e<=bq:=by rw[Gg];simp
 rw[eval,a,R.ae,if_pos b];simp[Gy,e,d,R.ar]
def xp(f)(l:eval F e τ h=.j (.i n) h)(m:n<=1000)
 (k:∀i,i<n->∃w,eval F elt (si i::aD.j λj=>Gj τ j) h=.j w h/\w.d=y0 (f i)):eval F (.N [0] k9 1 aD (.ao e) y9 (.C k9) elt) τ h=.j (.j ((Aa7 n).j f)) h:=by
 rw[Zl (λd=>match d with|.o i=>f i.j|d=>d) (Ju l (Nat.le_trans ‹_› (by decide))) (by simp;rw[Gg];exact Nat.le_trans ‹_› (by decide))]
 .simp[Function.comp_def]
 .intro d b;obtain⟨i,a,rfl⟩:=iV _ b;obtain⟨w,c,g⟩:=k i a;exact⟨_,rfl,w,c,by simpa using g⟩
def Qr(x y)(r:List D):aW (x::y::r) 1=y0 y:=by have:=Xf (x::y::r) 1 (by simp);exact this
abbrev tb(n v:Nat)(a b:Nat):Bool:=v.j (a*n+b)
noncomputable def fj(n:Nat)(g:Nat->Nat->Bool)(a:Nat):Nat:=((Aa7 n).j λb=>(g a b).j).Y
theorem Wt(g):∀l:List Nat,(l.T g).e=(l.j λb=>(g b).j).Y
|[]=>rfl
|x::l=>by
  have a:=Wt g l;by_cases q:g x=k9
  .rw[List.filter_cons_of_pos q,Aa8,Ab2,An1,a,q];simp;lia
  .have c:=by simpa using q
   rw[List.filter_cons_of_neg q,Ab2,An1,a,c];simp
def xD(m n):Aa7 ((m+1)*n)=Aa7 (m*n)++(Aa7 n).j (m*n+·):=by rw[Nat.succ_mul,List.range_add]
def FV{b:Nat}(a:b<n):(m*n+b)/n=m:=Wf.aF a
theorem vq(n v)(a):∀m,((((Aa7 (m*n)).T v.j).j (·/n)).count a)=if a<m then fj n (tb n v) a else 0
|0=>by simp
|m+1=>by
  have g:=vq n v a m;rw[xD,List.filter_append,Ad8,List.count_append,g,An7,Ad7];have e:((Aa7 n).T (v.j∘(m*n+·))).j ((·/n)∘(m*n+·))=Aa4 ((Aa7 n).T (v.j∘(m*n+·))).e m:=by rw[List.eq_replicate_iff];refine⟨by simp,λx h=>?_⟩;obtain⟨b,d,rfl⟩:=Ac1.p h;exact FV (Ac0.p (Aj0.p d).1)
  rw[e,List.count_replicate,Wt];by_cases q:a=m
  .subst q;simp[fj,tb]
  .have f:¬(m==a)=true:=by simp;exactλe=>q e.p
   rw[if_neg f];by_cases c:a<m
   .rw[if_pos c,if_pos (Nat.lt_succ_of_lt ‹_›)];exact Nat.succ_sub_one _
   .rw[if_neg c,if_neg (by lia)]
def B6(b:a<n):((Wf.az n v).j (·.1)).count a=fj n (tb n v) a:=by have:=vq n v a n;rw[if_pos b]at this;rw[←this,Wf.az,Ad7];rfl
theorem qH(n v):∀m,((Aa7 (m*n)).T v.j).e=((Aa7 m).j (fj n (tb n v))).Y
|0=>by simp
|m+1=>by have a:=qH n v m;rw[xD,List.filter_append,Aa5,a,An7,Aa,Wt,List.range_succ,Ad8,List.sum_append];simp[fj,tb]
def KP(n v):(Wf.az n v).e=((Aa7 n).j (fj n (tb n v))).Y:=by rw[Wf.az,Aa,qH]
noncomputable abbrev Qa:Tx:=[108,101,97,115,116]
abbrev xc:Tx:=[109,111,115,116]
abbrev wb:Tx:=[101,97,99,104,108,101,97,115,116]
abbrev zi:Tx:=[101,97,99,104,109,111,115,116]
abbrev xH:Tx:=[105,110]
abbrev zc:Tx:=[101,113,117,97,108]
abbrev Wj:Tx:=[115,111,109,101]
abbrev Q1:Tx:=[110,111]
def WR(s a b)(h):Gr .p (.s s) (.t [.p a,.p b]) h=y0 (u9 (s∈[a,b])):=Xz s [a,b] (.t [.p a,.p b]) h rfl
def jB(n v:Nat):List Nat:=(Aa7 n).j (fj n (tb n v))
def Qk(n v:Nat)(s:Tx):List Nat:=if s∈[Qa,xc]then[(jB n v).Y]else jB n v
theorem q9:∀l:List Nat,GO (aB l)=y0 (l.j λ(x:Nat)=>(x:Int))
|[]=>rfl
|x::l=>by have:=q9 l;simp only[Ab2,GO]at this⊢;rw[this];rfl
def FT(l:List Nat)(a:Nat):(l.j λ(x:Nat)=>(x:Int)).count (a:Int)=l.count a:=by
 induction l with
|nil=>rfl
|cons x l b=>
  rw[Ab2,List.count_cons,List.count_cons,b];by_cases q:x=a
  .simp[q]
  .have:¬(x=(a:Int)):=by lia
   simp[q,this]
def AG(k n v)(s)(i:n<=4)(h):call prog (k+2) "counts" [.i n,.s s,.i v] h=.j (.j (aB (Qk n v s))) h:=by
 rw[Gb rfl _ _ _ rfl];simp only[yy];refine fx (by simp![wu k n v h (Nat.le_trans ‹_› (by decide))];rfl) ?_;by_cases q:s∈[Qa,xc]
 .rw[qa,Gu _ _ _ rfl];rw[Qq (h1:=h) (by simp![WR,decide_eq_true q])];refine qa (Jw rfl ?_);simp only[eval,Gv,Gc,Gj,Gn,R.ae,jI,W.rg,R.ar,Aa,KP];rw[Qk,if_pos q];rfl
 .refine fx (by simp![WR,decide_eq_false q];rfl) ?_;have e2:eval (k8 (k+1)) QD [si n,y0 (.s s),si v,y0 (.l ((Wf.az n v).j pD)),u0] h=.j (.j (aB ((Wf.az n v).j (·.1)))) h:=by
   rw[QD,Zl (λd=>match d with|.u [x,_]=>x|d=>d) (by simp![]) (xK n v (Nat.le_trans ‹_› (by decide)))]
   .simp[pD,aB,Function.comp_def]
   .intro d f;obtain⟨p,_,rfl⟩:=Ac1.p f;exact⟨_,rfl,_,rfl,rfl⟩
  have e1:eval (k8 (k+1)) zE [si n,y0 (.s s),si v,y0 (.l ((Wf.az n v).j pD)),y0 (.l (aB ((Wf.az n v).j (·.1))))] h=.j (.j (aB (jB n v))) h:=by
   rw[zE,xp (λa=>.n _) rfl (Nat.le_trans ‹_› (by decide)) λa e=>⟨.i _,?_,rfl⟩]
   .rw[aB,jB,Ad7];rfl
   .have c:((((Wf.az n v).j (·.1)).j λ(x:Nat)=>(x:Int))).e<=bq:=by have:=xK n v (show n<=20 by lia);simpa using this
    have g:nu .count (.l (aB ((Wf.az n v).j (·.1)))) [.i a] h=.j (.i (fj n (tb n v) a)) h:=by show(R.of h ((y0 (aB ((Wf.az n v).j (·.1)))).p GO)).p _=_;rw[Af6,q9,R.ar,R.ae];show(R.of h (y0 (a:Int))).p _=_;rw[R.ar,R.ae,if_pos c,FT,B6 e]
    have b:n5 .count (.l (aB ((Wf.az n v).j (·.1)))) h=true:=rfl;simp only[eval,Gc,Gj,Gn,Ab2,Af2,R.ae,b,if_true,g]
  rw[za (τ1:=[si n,y0 (.s s),si v,y0 (.l ((Wf.az n v).j pD)),y0 (.l (aB ((Wf.az n v).j (·.1))))]) (by rw[exec,e2];rfl)];rw[qa (Jw rfl e1),Gu _ _ _ rfl,Qk,if_neg q]
inductive Fc where
|d7 (a b:Ex)
|eF (a b:Ex)
|eD (a:Ex)
|aw (a:Ex)
|cnt (s:Tx)(k:Nat)(a:Ex)
def dO:Fc->D
|.d7 a b=>.u [.p xH,aV a,aV b]
|.eF a b=>.u [.p zc,aV a,aV b]
|.eD a=>.u [.p Wj,aV a]
|.aw a=>.u [.p Q1,aV a]
|.cnt s k a=>.u [.p s,.n k,aV a]
def Fc.wf (N:List Tx):Fc->Prop
|.d7 a b=>a.y N/\b.y N
|.eF a b=>a.y N/\b.y N
|.eD a=>a.y N
|.aw a=>a.y N
|.cnt s _ a=>s∈[Qa,xc,wb,zi]/\a.y N
def Fc.dp:Fc->Nat
|.d7 a b=>max a.j b.j
|.eF a b=>max a.j b.j
|.eD a=>a.j
|.aw a=>a.j
|.cnt _ _ a=>a.j
theorem o5:∀bs:List Bool,Kp (bs.j .C)=y0 bs
|[]=>rfl
|b::bs=>by simp[Kp,o5 bs]
def Wx{bs:List Bool}(q:eval F e τ h=.j (.j (bs.j .C)) h):eval F (.bi .all (.j e .p)) τ h=.j (.b (bs.N id)) h:=by rw[eval,Gc,q];simp[o5,R.ar]
def ri(p)(l:List α):(l.j p).N id=l.N p:=by rw[An8];rfl
theorem jT:∀l:List Nat,Kk (aB l)=y0 ((l.Y:Nat):Int)
|[]=>rfl
|x::l=>by have:=jT l;simp only[Ab2,Kk]at this⊢;rw[this,An1];simp
def Po:eval F (.neg (.o 1)) τ h=.j (.v (.o (-1))) h:=rfl
def ui(x y:D):aW [x,y] (-1)=y0 y:=rfl
def xV(x y z:D):aW [x,y,z] (-1)=y0 z:=rfl
def sP(s:Tx)(k:Nat)(l:List Nat):Bool:=if s∈[Qa,wb]then l.N λx=>u9 (k<=x)else l.N λx=>u9 (x<=k)
def JE(x y z:D):aW [x,y,z] 2=y0 z:=rfl
def Jk(X)(e:Gn τ i=y0 (.s s)):Gm F (.y .j (.X i) (.p X)) τ h=.j (s==X) h:=by simp only[Gm,eval,Gj,e,R.ae,xb,R.ar,GS]
structure V(n v:Nat)(g:Nat->Nat->Bool):Prop where
 lt:v<2^(n*n)
 bit:∀a b,a<n->b<n->(v.j (a*n+b)=k9↔g a b=k9)
section
variable{n s t:Nat}{g f:Nat->Nat->Bool}
def V.plus (h:V n s g)(q:V n t f):V n (s|||t) λa b=>g a b||f a b:=⟨px h.1 q.1,λa b d c=>by rw[Af1,Ae8,h.2 a b d c,q.2 a b d c,Ae8]⟩
def V.both (h:V n s g)(q:V n t f):V n (s&&&t) λa b=>g a b&&f a b:=⟨Nat.and_lt_two_pow s q.1,λa b d c=>by rw[Ah2,Aa0,h.2 a b d c,q.2 a b d c,Aa0]⟩
def V.less (h:V n s g)(q:V n t f):V n (s-(s&&&t)) λa b=>g a b&&!f a b:=⟨Ah8 (Ap7 _ _) h.1,λa b d c=>by rw[Wf.aP,Aa0,h.2 a b d c,(Bool.eq_iff_iff.u (q.2 a b d c)),Aa0]⟩
def V.turned (h:V n s g):V n (Wf.bL n s) λa b=>g b a:=⟨Wf.gJ _ _,λa b d c=>by rw[Wf.fF (Wf.place_lt d c),Wf.aF c,Wf.aJ c,h.2 b a c d]⟩
def V.joined (h:V n s g)(q:V n t f):V n (Wf.joinM n s t) λa b=>(Aa7 n).A λc=>g a c&&f c b:=⟨Wf.dJ _ _ _,λa b j i=>by
 rw[Wf.cz (Wf.place_lt j i),Wf.cW i,Ad1,Ad1];constructor
 .rintro⟨c,e,z⟩;have d:=Ac0.p e;rw[Aa0]at z;exact⟨c,e,by rw[Aa0];exact⟨(h.2 a c j d).p z.1,(q.2 c b d i).p z.2⟩⟩
 .rintro⟨c,e,z⟩;have d:=Ac0.p e;rw[Aa0]at z;exact⟨c,e,by rw[Aa0];exact⟨(h.2 a c j d).u z.1,(q.2 c b d i).u z.2⟩⟩⟩
def V.closed (h:V n s g)(q:Wf.fy n s r):V n r (Wf.wr g n):=⟨q.lt,λa b d c=>(q.bit a b d c).j (Wf.k6 (λx y f e=>(h.2 x y f e).symm) d c).symm⟩
end
open M renaming V.turned→Lake.M.V.A,V.joined→Lake.M.V.u,V.closed→Lake.M.V.x
abbrev JZ(s:Tx):Nat->Nat->Bool:=λa b=>(s==Xn)||((s==Qg)&&u9 (a=b))
abbrev ck(a b:Wo):D:=.u [a.bb,b.bb]
structure Pt(a b:Wo):Prop where
 p7:a.Ok
 IS:b.Ok
 en:b.n=a.n
 eK:b.K=a.K
 eT:b.T=a.T
def Pt.ew (p:Pt a b):b.j=a.j:=by rw[Wo.words,Wo.words,p.eK,p.eT]
abbrev gE(a b:Wo)(d:D)(s:Tx)(x4 f x6 c e:Option W):Sl:=[sv a.j,sv (ck a b),sv d,y0 (.s s),x4,f,x6,c,e]
abbrev bf(v u:Nat):D:=.u [.n v,.n u]
section
variable{m:Nat}{a b:Wo}{h:AH}
def kP:Gk F (.j (.fL .K (.o 1))) (gE a b (.u (s::ds)) z x4 x5 x6 x7 x8) h=.j ds h:=by have e:cut (s::ds) (y0 1) u0=ds:=xQ (s::ds) 1;refine Nb ?_;show(if aS (s::ds).e 0 (y0 1)=0/\aS (s::ds).e (s::ds).e u0=(s::ds).e then R.fail else R.ok _ h)=_;rw[if_neg (λc=>by have:=c.1;simp[aS]at this),e]
def zv(q:call prog m "bounds" [.v a.j,.v (ck a b),.v d] h=.j (.v y) h):eval (k8 m) (.j "bounds" (.c .G .K .A)) (GB (List.replicate 1 none++[0,1].j fun j=>Gj (gE a b v z x4 x5 x6 x7 x8) j) 0 (.v d)) h=.j (.v y) h:=by simp_all
def vD{s:Tx}{ds:List D}{x:W}(f:(s==zh)=y9){ps:List (Nat×Nat)}(i:ps.e<=2)
 (h1:eval (k8 m) Qu (gE a b (.u (.p s::ds)) s u0 u0 u0 u0 u0) h=.j (.j (ps.j pD)) h){d:D}
 (q:execs (k8 m) (match bJ.j with|.j _ (.j _ (.j _ (.j _ (.j _ r))))=>r|r=>r) (gE a b (.u (.p s::ds)) s u0 (y0 (.l (ps.j pD))) (y0 (.l (aB (ps.j (·.1))))) (y0 (.l (aB (ps.j (·.2))))) u0) h=.j (.v d) h):
 call prog (m+1) "bounds" [.v a.j,.v (ck a b),.t (.p s::ds)] h=.j (.v d) h:=by
 rw[Gb (d:=bJ) rfl _ _ _ rfl];simp only[bJ]at q⊢;refine fx (by simp![ab,jf];rfl) ?_;rw[xa (by simp![xb,f])];have e:(ps.j pD).e<=bq:=by rw[Gg];simp;exact Nat.le_trans ‹_› (by decide)
 rw[za (τ1:=gE a b _ s u0 _ u0 u0 u0) (h1:=h) (by rw[exec,h1];rfl)];have e2:eval (k8 m) ZD (gE a b (.u (.p s::ds)) s u0 (y0 (.l (ps.j pD))) u0 u0 u0) h=.j (.j (aB (ps.j (·.1)))) h:=by
  rw[ZD,Zl (h:=h) (ds:=ps.j pD) (λd=>match d with|.u [x,_]=>x|d=>d) (by simp![]) e]
  .simp[pD,aB,Function.comp_def]
  .intro d c;obtain⟨p,_,rfl⟩:=Ac1.p c;exact⟨_,rfl,_,rfl,rfl⟩
 rw[za (τ1:=gE a b _ s u0 _ _ u0 u0) (h1:=h) (by rw[exec,e2];rfl)];have g:eval (k8 m) WC (gE a b (.u (.p s::ds)) s u0 (y0 (.l (ps.j pD))) (y0 (.l (aB (ps.j (·.1))))) u0 u0) h=.j (.j (aB (ps.j (·.2)))) h:=by
  rw[WC,Zl (h:=h) (ds:=ps.j pD) (λd=>match d with|.u [_,x]=>x|d=>d) (by simp![]) e]
  .simp[pD,aB,Function.comp_def]
  .intro d c;obtain⟨p,_,rfl⟩:=Ac1.p c;exact⟨_,rfl,_,rfl,rfl⟩
 rw[za (τ1:=gE a b _ s u0 _ _ _ u0) (h1:=h) (by rw[exec,g];rfl)];rw[q,Ga _ _ _ rfl]
def XC{s:Tx}{ds:List D}(g:(s==zh)=y9)(c:(s==zq)=y9){ps:List (Nat×Nat)}(d:ps.e<=2){v u:Nat}
 (h1:eval (k8 m) Qu (gE a b (.u (.p s::ds)) s u0 u0 u0 u0 u0) h=.j (.j (ps.j pD)) h)
 (f:call prog m "made" [.i a.n,.s s,.l (aB (ps.j (·.1)))] h=.j (.i v) h)(e:call prog m "made" [.i a.n,.s s,.l (aB (ps.j (·.2)))] h=.j (.i u) h):
 call prog (m+1) "bounds" [.v a.j,.v (ck a b),.t (.p s::ds)] h=.j (.v (bf v u)) h:=by
 refine vD (x:=.v .T) g d h1 ?_;simp only[bJ];rw[xa (by simp![xb,c])];have i:d4 (.v (ck a b)) (.v (.o 0)) h=y0 a.bb:=rfl;have e1:d4 (.v a.bb) (.v (.o 0)) h=y0 _:=rfl;refine(za (by simp![e1];rfl)).j ?_;rw[qa (Ja rfl (by simp![f,e];rfl))]
def Ir
 (h1:eval (k8 (k+1)) Qu (gE a b (.u (.p zq::ds)) zq u0 u0 u0 u0 u0) h=.j (.j ([(s,s'),(t,t')].j pD)) h):
 call prog (k+2) "bounds" [.v a.j,.v (ck a b),.t (.p zq::ds)] h=.j (.v (bf (s-(s&&&t')) (s'-(s'&&&t)))) h:=by
 refine vD (x:=.v .T) rfl (by simp) h1 ?_;refine qa ((Qq (h1:=h) ?_).j (qa (Ja rfl ?_)))
 .simp![xb];rfl
 .simp![jr,Xh,qg,jz k s t' h,jz k s' t h]
end
abbrev WL:Tx:=[110,111,116]
abbrev qx:Tx:=[97,110,100]
abbrev jA:Tx:=[111,114]
inductive Sy where
|fact (f:Fc)
|neg (a:Sy)
|cK (a b:Sy)
|cE (a b:Sy)
open M renaming Sy.fact→Lake.M.Sy.p
def aj:Sy->D
|.p f=>dO f
|.neg a=>.u [.p WL,aj a]
|.cK a b=>.u [.p qx,aj a,aj b]
|.cE a b=>.u [.p jA,aj a,aj b]
def Sy.wf (N:List Tx):Sy->Prop
|.p f=>f.wf N
|.neg a=>a.wf N
|.cK a b=>a.wf N/\b.wf N
|.cE a b=>a.wf N/\b.wf N
open M renaming Sy.wf→Lake.M.Sy.y
def Sy.dp:Sy->Nat
|.p f=>f.dp
|.neg a=>a.dp+1
|.cK a b=>max a.dp b.dp+1
|.cE a b=>max a.dp b.dp+1
open M renaming Sy.dp→Lake.M.Sy.j
def C5(f)(wf:f.wf N):∃s ds,dO f=.u (.p s::ds)/\(s==WL)=y9/\(s==qx)=y9/\(s==jA)=false:=by
 cases f with
|d7 a b=>exact⟨xH,_,rfl,rfl,rfl,rfl⟩
|eF a b=>exact⟨zc,_,rfl,rfl,rfl,rfl⟩
|eD a=>exact⟨Wj,_,rfl,rfl,rfl,rfl⟩
|aw a=>exact⟨Q1,_,rfl,rfl,rfl,rfl⟩
|cnt s j a=>
  have:∀s∈[Qa,xc,wb,zi],(s==WL)=y9/\(s==qx)=y9/\(s==jA)=false:=by decide
  exact⟨s,_,rfl,this s wf.1⟩
noncomputable def aH:Option Bool->D
|none=>.T
|some b=>.C b
noncomputable def xS(a b:Bool):Option Bool:=if a then y0 k9 else if b then y0 y9 else u0
def eR(r q:Option Bool):Option Bool:=xS (r==y0 k9&&q==y0 k9) (r==y0 y9||q==y0 y9)
def f9(r q:Option Bool):Option Bool:=xS (r==y0 k9||q==y0 k9) (r==y0 y9&&q==y0 y9)
def Jo(k)(a b)(h):call prog (k+1) "settled" [.b a,.b b] h=.j (.v (aH (xS a b))) h:=by
 rw[Gb rfl _ _ _ rfl];simp[WX];cases a
 .cases b
  .simp![];rfl
  .simp![];rfl
 .simp![];rfl
def Fl(r)(b):Kt (.v (aH r)) (.b b)=y0 (r==y0 b):=by
 cases r with
|none=>rfl
|some c=>cases c<;>cases b<;>rfl
def lR(r)(b)(h):Gr .dE (.v (aH r)) (.b b) h=y0 (r==y0 b):=Fl r b
section
variable{k:Nat}{r q:Option Bool}{h:AH}
def DQ:call prog (k+2) "not_told" [.v (aH r)] h=.j (.v (aH (r.j (!·)))) h:=by
 rw[Gb rfl _ _ _ rfl];simp only[zQ];rw[qa (Ja (d:=aH (xS (r==y0 y9) (r==y0 k9))) (h1:=h) rfl (by simp![lR,Jo])),Ga _ _ _ rfl];cases r with
|none=>rfl
|some c=>cases c<;>rfl
def kJ(h1:eval F e τ h=.j (.b a) h)(c:eval F f τ h=.j (.b b) h):eval F (.or e f) τ h=.j (.b (a||b)) h:=by
 rw[eval,h1];cases a
 .simp[c,Bool.false_or]
 .simp[Am4]
def w6(h1:eval F e τ h=.j (.b a) h)(c:eval F f τ h=.j (.b b) h):eval F (.and e f) τ h=.j (.b (a&&b)) h:=by
 rw[eval,h1];cases a
 .simp[Ae5]
 .simp[c,Ae6]
def QE(b)(e:Gj τ i=sv (aH r)):eval F (.y .dE (.X i) (.C b)) τ h=.j (.b (r==y0 b)) h:=by simp[e,lR,R.ar]
def wQ:call prog (k+2) "and_told" [.v (aH r),.v (aH q)] h=.j (.v (aH (eR r q))) h:=by rw[Gb rfl _ _ _ rfl];simp only[wP];show Gx _ (execs _ _ [sv _,sv _] h)=_;rw[qa (Ja (d:=aH (eR r q)) rfl (by rw[eval,Gc,(w6 (F:=(k8 (k+1))) (QE (h:=h) (τ:=[sv (aH r),sv (aH q)]) (i:=0) k9 rfl) (QE (i:=1) k9 rfl)),R.ae,Gc,(kJ (F:=(k8 (k+1))) (QE (h:=h) (τ:=[sv (aH r),sv (aH q)]) (i:=0) y9 rfl) (QE (i:=1) y9 rfl))];simp only[R.ae,Gc,Ab2,Af2,W.cc,Jo];rfl)),Ga _ _ _ rfl]
def DU:call prog (k+2) "or_told" [.v (aH r),.v (aH q)] h=.j (.v (aH (f9 r q))) h:=by rw[Gb rfl _ _ _ rfl];simp only[XX];show Gx _ (execs _ _ [sv _,sv _] h)=_;rw[qa (Ja (d:=aH (f9 r q)) rfl (by rw[eval,Gc,(kJ (F:=(k8 (k+1))) (QE (h:=h) (τ:=[sv (aH r),sv (aH q)]) (i:=0) k9 rfl) (QE (i:=1) k9 rfl)),R.ae,Gc,(w6 (F:=(k8 (k+1))) (QE (h:=h) (τ:=[sv (aH r),sv (aH q)]) (i:=0) y9 rfl) (QE (i:=1) y9 rfl))];simp only[R.ae,Gc,Ab2,Af2,W.cc,Jo];rfl)),Ga _ _ _ rfl]
end
def wG{bs:List Bool}(q:eval F e τ h=.j (.j (bs.j .C)) h):eval F (.bi .any (.j e .p)) τ h=.j (.b (bs.A id)) h:=by rw[eval,Gc,q];simp[o5,R.ar]
def rk(p)(l:List α):(l.j p).A id=l.A p:=by rw[Ap8];rfl
def B3(n)(h):Gr .u (.i n) (.v (.o 0)) h=y0 (!u9 (n=0)):=by
 have this:Gr .j _ (.v (.o 0)) h=y0 _:=Zj n 0 h;rw[Dw]at this;rw[Ej];split at this
 .rename_i c;rw[if_pos c];have:=Ad6.inj this;rw[←this]
 .cases this
def rA(n)(h):Gr .j (.i n) (.v (.o 0)) h=y0 (u9 (n=0)):=Zj n 0 h
def ej(v u b a:Nat):Option Bool:=xS (u9 (u-(u&&&b)=0)) (!u9 (v-(v&&&a)=0))
def jW(k v u v' u')(h):call prog (k+2) "in_told" [.v (bf v u),.v (bf v' u')] h=.j (.v (aH (ej v u v' u'))) h:=by rw[Gb rfl _ _ _ rfl];simp only[xX];rw[qa (Ja (d:=aH (ej v u v' u')) rfl (by simp![ab,Xh,qg,jz k u v' h,jz k v u' h,rA,B3,Jo];rfl)),Ga _ _ _ rfl]
noncomputable def xM(s:Tx)(j:Nat)(l u:List Nat):Option Bool:=if s∈[Qa,wb]then xS (l.N λx=>u9 (j<=x)) (u.A λx=>u9 (x<j))else xS (u.N λx=>u9 (x<=j)) (l.A λx=>u9 (j<x))
def n3(p)(m:l.e<=4)(b:Gj τ i=y0 (.l (aB l)))(e:Gj τ c=si j)(g:∀x:Nat,Gr o (.i x) (.i j) h=y0 (p x)):
 eval F (.N [0] k9 1 [c] (.j (.X i)) y9 (.C k9) (.y o .A .G)) τ h=.j (.j ((l.j p).j .C)) h:=by
 have f:Gk F (.j (.X i)) τ h=.j (aB l) h:=by simp[b,R.ae]
 rw[Zl (λd=>match d with|.o x=>.C (p x.j)|d=>d) f (by rw[Gg,aB,Aa];exact Nat.le_trans ‹_› (by decide))]
 .simp[Function.comp_def]
 .intro k a;obtain⟨x,_,rfl⟩:=Ac1.p a;refine⟨[si x,si j],by simp only[Ab2,e];rfl,.b (p x),?_,by simp⟩;simp![g]
def AN(j x)(h):Gr .le (.i x) (.i j) h=y0 (u9 (x<=j)):=by rw[Q2];congr 1;exact decide_eq_decide.u (by lia)
def AK(j x)(h):Gr .ge (.i x) (.i j) h=y0 (u9 (j<=x)):=by rw[Hk];congr 1;exact decide_eq_decide.u (by lia)
def oF(j x)(h):Gr .lt (.i x) (.i j) h=y0 (u9 (x<j)):=by rw[WZ];congr 1;exact decide_eq_decide.u (by lia)
def iz(j x)(h):Gr .gt (.i x) (.i j) h=y0 (u9 (j<x)):=by rw[K9];congr 1;exact decide_eq_decide.u (by lia)
def ud(n v)(s)(a:n<=4):(Qk n v s).e<=4:=by
 rw[Qk];split
 .simp
 .simp[jB];exact Nat.le_trans ‹_› (by decide)
abbrev nz(n:Nat)(s:Tx)(j v u:Nat)(x4 a:Option W):Sl:=[si n,y0 (.s s),si j,sv (bf v u),x4,a]
def Xq(k n)(s)(j v u)(a:n<=4)(h):call prog (k+3) "count_told" [.i n,.s s,.i j,.v (bf v u)] h=.j (.v (aH (xM s j (Qk n v s) (Qk n u s)))) h:=by
 rw[Gb rfl _ _ _ rfl];simp only[JF];refine fx (by simp![ab,Xh,AG k n v s a h];rfl) ?_;refine fx (by simp![ab,qg,AG k n u s a h];rfl) ?_;have e:=ud n v s a;have b:=ud n u s a;rw[xM];by_cases q:s∈[Qa,wb]
 .have e1:=n3 (F:=(k8 (k+2))) (τ:=nz n s j v u (y0 (.l _)) (y0 (.l (aB (Qk n u s))))) (i:=4) (c:=2) _ e rfl rfl λx=>AK j x h;have e2:=n3 (F:=(k8 (k+2))) (τ:=nz n s j v u (y0 (.l (aB (Qk n v s)))) (y0 (.l _))) (i:=5) (c:=2) (h:=h) _ b rfl rfl λx=>oF j x h;rw[if_pos q,Zf (by simp![WR,decide_eq_true q]) (Ja (d:=aH (xS ((Qk n v s).N λx=>u9 (j<=x)) ((Qk n u s).A λx=>u9 (x<j)))) rfl (by rw[eval,Gc,Xv,Wx e1,R.ae,Gc,Wv,wG e2,ri,rk];simp only[R.ae,Gc,Ab2,Af2,W.cc,Jo])),Ga _ _ _ rfl]
 .have e1:=n3 (F:=(k8 (k+2))) (τ:=nz n s j v u (y0 (.l (aB (Qk n v s)))) (y0 (.l (aB (Qk n u s))))) (i:=5) (c:=2) (o:=.le) (h:=h) _ b rfl rfl λx=>AN j x h;have e2:=n3 (F:=(k8 (k+2))) (τ:=nz n s j v u (y0 (.l (aB (Qk n v s)))) (y0 (.l (aB (Qk n u s))))) (i:=4) (c:=2) (o:=.gt) (h:=h) _ e rfl rfl λx=>iz j x h;rw[if_neg q,xa (by simp![WR,decide_eq_false q]),qa (Ja (d:=aH (xS ((Qk n u s).N λx=>u9 (x<=j)) ((Qk n v s).A λx=>u9 (j<x)))) (h1:=h) rfl (by rw[eval,Gc,Jv,Wx e1,R.ae,Gc,qv,wG e2,ri,rk];simp only[R.ae,Gc,Ab2,Af2,W.cc,Jo])),Ga _ _ _ rfl]
noncomputable abbrev BK(a b:Wo)(d:D)(s:Tx)(v u:Nat)(x6:Option W):Sl:=[sv a.j,sv (ck a b),sv d,y0 (.s s),si a.n,sv (bf v u),x6]
section
variable{k m:Nat}{a b:Wo}{h:AH}{v u v' u':Nat}{e e':Ex}
def wA(f:aW (.p s::ds) (-1)=y0 (aV e))(c:call prog m "bounds" [.v a.j,.v (ck a b),.v (aV e)] h=.j (.v (bf v u)) h)
 (q:execs (k8 m) (match aX.j with|.j _ (.j _ (.j _ r))=>r|r=>r) (BK a b (.u (.p s::ds)) s v u u0) h=.j (.v d) h):call prog (m+1) "fact_told" [.v a.j,.v (ck a b),.t (.p s::ds)] h=.j (.v d) h:=by
 rw[Gb rfl _ _ _ rfl];simp only[aX]at q⊢;have i0:d4 (.v (ck a b)) (.v (.o 0)) h=y0 a.bb:=rfl;have i1:d4 (.v a.bb) (.v (.o 0)) h=y0 _:=rfl;refine fx (by simp![ab,jf];rfl) ?_;refine fx (by simp![i1];rfl) ?_;rw[za (τ1:=BK a b (.u (.p s::ds)) s v u u0) (h1:=h) (by simp![ab,f,c]),q,Ga _ _ _ rfl]
variable(n4:a.n<=4)(e1:call prog (k+3) "bounds" [.v a.j,.v (ck a b),.v (aV e)] h=.j (.v (bf v u)) h)(e2:call prog (k+3) "bounds" [.v a.j,.v (ck a b),.v (aV e')] h=.j (.v (bf v' u')) h)
include n4 e1
def N8:call prog (k+4) "fact_told" [.v a.j,.v (ck a b),.v (dO (.eD e))] h=.j (.v (aH (xM Qa 1 (Qk a.n v Qa) (Qk a.n u Qa)))) h:=by refine wA (ui _ _) e1 ?_;have c:=Xq k a.n Qa 1 v u n4 h;have c:=c;simp only[aX];rw[Zf (Jk (s:=Wj) _ rfl) (Ja rfl (by assumption))]
def Ck:call prog (k+4) "fact_told" [.v a.j,.v (ck a b),.v (dO (.aw e))] h=.j (.v (aH (xM xc 0 (Qk a.n v xc) (Qk a.n u xc)))) h:=by refine wA (ui _ _) e1 ?_;have c:=Xq k a.n xc 0 v u n4 h;have c:=c;simp only[aX];rw[xa (Jk (s:=Q1) _ rfl),Zf (Jk (s:=Q1) _ rfl) (Ja rfl (by assumption))]
def Cb(d:s∈[Qa,xc,wb,zi]):call prog (k+4) "fact_told" [.v a.j,.v (ck a b),.v (dO (.cnt s j e))] h=.j (.v (aH (xM s j (Qk a.n v s) (Qk a.n u s)))) h:=by
 refine wA (xV _ _ _) e1 ?_;have c:=Xq k a.n s j v u n4 h;have ne:=by
  have:∀s∈[Qa,xc,wb,zi],(s==Wj)=y9/\(s==Q1)=y9/\(s==xH)=y9/\(s==zc)=false:=by decide
  exact this s d
 simp only[aX];rw[xa ((Jk _ rfl).j (by rw[ne.1])),xa ((Jk _ rfl).j (by rw[ne.2.1])),xa ((Jk _ rfl).j (by rw[ne.2.2.1])),xa ((Jk _ rfl).j (by rw[ne.2.2.2])),qa (Ja rfl (by assumption))]
include e2
theorem O7:call prog (k+4) "fact_told" [.v a.j,.v (ck a b),.v (dO (.d7 e' e))] h=.j (.v (aH (ej v' u' v u))) h:=by refine wA (xV _ _ _) e1 ?_;simp only[aX];rw[xa (Jk (s:=xH) _ rfl),xa (Jk (s:=xH) _ rfl),Zf (Jk (s:=xH) _ rfl) (Ja rfl (by simp![ab,Qr,e2,jW];rfl))]
theorem MO:call prog (k+4) "fact_told" [.v a.j,.v (ck a b),.v (dO (.eF e' e))] h=.j (.v (aH (eR (ej v' u' v u) (ej v u v' u')))) h:=by refine wA (xV _ _ _) e1 ?_;simp only[aX];rw[xa (Jk (s:=zc) _ rfl),xa (Jk (s:=zc) _ rfl),xa (Jk (s:=zc) _ rfl)];refine qa ((Qq (Jk (s:=zc) _ rfl)).j ?_);refine(za (by simp![ab,Qr,e2];rfl)).j ?_;exact qa (Ja rfl (by simp![jW,wQ]))
end
def V.leaf:V n (Wf.bH n) (JZ Qg)/\V n (2^(n*n)-1) (JZ Xn)/\V n 0 (JZ wh):=by
 refine⟨⟨Wf.gK _,λa b d c=>?_⟩,⟨Nat.sub_lt (Ad5 _) (by decide),λa b d c=>?_⟩,⟨Ad5 _,λa b d c=>?_⟩⟩
 .rw[Wf.eV d c,decide_eq_true_eq];show _↔(y9||(k9&&decide _))=k9;simp
 .rw[Ah1,decide_eq_true (Wf.place_lt d c)];show _↔(k9||(y9&&decide _))=k9;simp
 .rw[Af8];show _↔(y9||(y9&&decide _))=k9;simp
noncomputable def bp(w:Wo)(t:Tx)(x y:Nat):Bool:=if t∈w.T then(w.ts.L (dA t w.T) 0).j (x*w.n+y)else u9 (x=y)&&(w.ks.L (dA t w.K) 0).j x
def A3(w)(t)(x y):bp w t x y=k9↔f7 w (.p t) x y:=by
 show _↔w.at t x y;unfold bp Wo.at;split
 .exact Iff.rfl
 .rw[Aa0,decide_eq_true_eq]
def bt(a b:Wo):Bool->Ex->Nat->Nat->Bool
|false,.p t=>bp a t
|true,.p t=>bp b t
|_,.same=>JZ Qg
|_,.all=>JZ Xn
|_,.w=>JZ wh
|p,.A e=>λx y=>bt a b p e y x
|p,.x e=>Wf.wr (bt a b p e) a.n
|p,.plus e f=>λx y=>bt a b p e x y||bt a b p f x y
|p,.less e f=>λx y=>bt a b p e x y&&!bt a b (!p) f x y
|p,.both e f=>λx y=>bt a b p e x y&&bt a b p f x y
|p,.u e f=>λx y=>(Aa7 a.n).A λc=>bt a b p e x c&&bt a b p f c y
def Mo(w):∀e p,bt w w p e=bt w w k9 e:=by
 intro e;induction e with
|name t=>intro p;cases p<;>rfl
|turned e b=>intro p;simp[bt,b p]
|closed e b=>intro p;simp[bt,b p]
|plus e f b a=>intro p;simp[bt,b p,a p]
|less e f b a=>intro p;simp[bt,b p,a _]
|both e f b a=>intro p;simp[bt,b p,a p]
|joined e f b a=>intro p;simp[bt,b p,a p]
|_=>intro p;cases p<;>rfl
structure Le(a c:Wo):Prop where
 en:c.n=a.n
 nm:∀t x y,bp a t x y=k9->bp c t x y=k9
def Le.refl (a):Le a a:=⟨rfl,λ_ _ _ h=>h⟩
theorem mJ(h:∀x y,g x y=k9->g' x y=k9):∀k x y,Wf.wr g k x y=k9->Wf.wr g' k x y=k9
|0,x,y,z=>h x y z
|k+1,x,y,z=>by rw[Wf.wr,Ae8,Aa0]at z⊢;exact z.j (λz=>.p (mJ h k x y z)) λz=>.u ⟨mJ h k _ _ z.1,mJ h k _ _ z.2⟩
def yp(h:∀c,f c=k9->g c=k9)(l:List Nat)(z:l.A f=k9):l.A g=true:=by rw[Ad1]at z⊢;exact let⟨c,a,b⟩:=z;⟨c,a,h c b⟩
def xR(L:Le a a')(h:Le b' b):∀e x y,(bt a b y9 e x y=k9->bt a' b' y9 e x y=k9)/\(bt a' b' k9 e x y=k9->bt a b k9 e x y=k9):=by
 intro e;induction e with
|name t=>exactλx y=>⟨L.nm t x y,h.nm t x y⟩
|same=>exactλx y=>⟨id,id⟩
|all=>exactλx y=>⟨id,id⟩
|none=>exactλx y=>⟨id,id⟩
|turned e g=>exactλx y=>g y x
|closed e g=>intro x y;simp[bt,L.en];exact⟨mJ (λx y=>(g x y).1) _ x y,mJ (λx y=>(g x y).2) _ x y⟩
|plus e f g d=>intro x y;simp[bt,Ae8];exact⟨λz=>z.j (λz=>.p ((g x y).1 z)) λz=>.u ((d x y).1 z),λz=>z.j (λz=>.p ((g x y).2 z)) λz=>.u ((d x y).2 z)⟩
|less e f g d=>intro x y;simp only[bt,Aa0,Ag3,←Aq3];exact⟨λz=>⟨(g x y).1 z.1,λq=>z.2 ((d x y).2 q)⟩,λz=>⟨(g x y).2 z.1,λq=>z.2 ((d x y).1 q)⟩⟩
|both e f g d=>intro x y;simp only[bt,Aa0];exact⟨λz=>⟨(g x y).1 z.1,(d x y).1 z.2⟩,λz=>⟨(g x y).2 z.1,(d x y).2 z.2⟩⟩
|joined e f g d=>intro x y;simp only[bt,L.en];exact⟨yp (λc z=>by rw[Aa0]at z⊢;exact⟨(g x c).1 z.1,(d c y).1 z.2⟩) _,yp (λc z=>by rw[Aa0]at z⊢;exact⟨(g x c).2 z.1,(d c y).2 z.2⟩) _⟩
def Sub(v w:Nat):Prop:=∀k,v.j k=k9->w.j k=k9
def V.sub (h:V n v g)(q:V n w f)(d:∀x y,g x y=k9->f x y=k9):Sub v w:=λk z=>by
 by_cases a:k<n*n
 .have b:=h.2 _ _ (Wf.bj a) (Wf.a9 a);have c:=q.2 _ _ (Wf.bj a) (Wf.a9 a);rw[Wf.bz]at b c;exact c.u (d _ _ (b.p z))
 .rw[Ak8 (Ab4 h.1 (Ad2 (by decide) (Nat.not_lt.p a)))]at z;cases z
def Sub.and (h:Sub v w):v&&&w=v:=Aj9 λk=>by
 rw[Ah2];cases q:v.j k with
|false=>rfl
|true=>rw[h k q];rfl
def sub_zero:v-(v&&&w)=0↔Sub v w:=by refine⟨λh k z=>?_,λh=>by rw[h.and,Ap9]⟩;have e:=congrArg (·.j k) h;simp[Wf.aP,z,Ae6]at e;simpa using e
structure B(a b:Wo)(e:Ex)(v u:Nat):Prop where
 lo:V a.n v (bt a b y9 e)
 hi:V a.n u (bt a b k9 e)
open M renaming B.lo→Lake.M.B.j,B.hi→Lake.M.B.p
section
variable{a b a' b':Wo}{e:Ex}{v u w z:Nat}
def B.mono (h:B a b e v u)(q:B a' b' e w z)(L:Le a a')(c:Le b' b):Sub v w/\Sub z u:=
 ⟨V.sub h.j (L.en▸q.j) λx y=>(xR L c e x y).1,V.sub (L.en▸q.p) h.p λx y=>(xR L c e x y).2⟩
def B.in(h:B a b e v u)(L:Le a b):Sub v u:=V.sub h.j h.p λx y q=>(xR (Le.refl a) L e x y).2 (Mo a e y9▸(xR (Le.refl a) L e x y).1 q)
end
def qM(h:a=k9->a'=k9)(q:b=k9->b'=k9)(n:a'=k9->b'=k9->False)(e:xS a b=y0 x):xS a' b'=y0 x:=by
 cases a with
|true=>rw[h rfl];exact e
|false=>
  cases b with
|false=>cases e
|true=>
   rw[q rfl];cases a' with
|true=>exact(n rfl (q rfl)).j
|false=>exact e
def vQ(a):xS a (!a)=y0 a:=by cases a<;>rfl
def jV(h:Sub v w/\Sub z u)(q:Sub v' w'/\Sub z' u')(h1:Sub w z)(c:Sub w' z')(e:ej v u v' u'=y0 x):ej w z w' z'=y0 x:=by
 refine qM (λk=>?_) (λk=>?_) (λk b=>?_) e
 .rw[decide_eq_true_eq,sub_zero]at k⊢;exactλi a=>q.1 i (k i (h.2 i a))
 .rw[Ag3,decide_eq_false_iff_not,sub_zero]at k⊢;exactλl=>k λi a=>q.2 i (l i (h.1 i a))
 .rw[decide_eq_true_eq,sub_zero]at k;rw[Ag3,decide_eq_false_iff_not,sub_zero]at b;exact b λi a=>c i (k i (h1 i a))
def dQ:List Nat->List Nat->Prop
|[],[]=>True
|x::xs,y::ys=>x<=y/\dQ xs ys
|_,_=>False
theorem dQ.map (h:∀x,f x<=g x):∀l:List Nat,dQ (l.j f) (l.j g)
|[]=>trivial
|x::l=>⟨h x,dQ.map h l⟩
theorem dQ.sum:∀{l m},dQ l m->l.Y<=m.Y
|[],[],_=>Aa9 _
|x::a,y::b,h=>by exact Nat.add_le_add h.1 (dQ.sum h.2)
|[],_::_,h=>h.j
|_::_,[],h=>h.j
theorem dQ.all (a:∀x y,x<=y->p x=k9->q y=k9):∀{l m},dQ l m->l.N p=k9->m.N q=k9
|[],[],_,_=>rfl
|x::b,y::c,h,z=>by rw[Al6,Aa0]at z⊢;exact⟨a x y h.1 z.1,dQ.all a h.2 z.2⟩
|[],_::_,h,_=>h.j
|_::_,[],h,_=>h.j
theorem dQ.dn (a:∀x y,x<=y->p y=k9->q x=k9):∀{l m},dQ l m->m.N p=k9->l.N q=k9
|[],[],_,_=>rfl
|x::b,y::c,h,z=>by rw[Al6,Aa0]at z⊢;exact⟨a x y h.1 z.1,dQ.dn a h.2 z.2⟩
|[],_::_,h,_=>h.j
|_::_,[],h,_=>h.j
def A8(p q)(h:∀x,p x=!q x)(l:List Nat):l.A p=!l.N q:=by
 induction l with
|nil=>rfl
|cons x l a=>rw[Ag4,Al6,a,h x,Bool.not_and]
def yE(j x:Nat):u9 (x<j)=!u9 (j<=x):=by grind
def yw(s)(j)(l u):xM s j l u=if s∈[Qa,wb]then xS (l.N λx=>u9 (j<=x)) (!u.N λx=>u9 (j<=x))else xS (u.N λx=>u9 (x<=j)) (!l.N λx=>u9 (x<=j)):=by rw[xM,A8 _ (λx=>decide _) (λx=>yE j x),A8 (λx=>decide _) (λx=>decide _) (λx=>yE x j)]
def LU(h:dQ l l')(q:dQ u' u)(n:dQ l' u')(e:xM s j l u=y0 x):xM s j l' u'=y0 x:=by
 have up:∀x y:Nat,x<=y->u9 (j<=x)=k9->u9 (j<=y)=true:=λx y h k=>by rw[decide_eq_true_eq]at k⊢;exact Nat.le_trans ‹_› ‹_›
 have dn:∀x y:Nat,x<=y->u9 (y<=j)=k9->u9 (x<=j)=true:=λx y h k=>by rw[decide_eq_true_eq]at k⊢;exact Nat.le_trans ‹_› ‹_›
 rw[yw]at e⊢;split at e
 .rename_i c;rw[if_pos c];refine qM (λk=>h.all up k) (λk=>?_) (λk a=>?_) e
  .rw[Ag3,←Aq3]at k⊢;exactλl=>k (q.all up l)
  .rw[n.all up k]at a;cases a
 .rename_i c;rw[if_neg c];refine qM (λk=>q.dn dn k) (λk=>?_) (λk a=>?_) e
  .rw[Ag3,←Aq3]at k⊢;exactλl=>k (h.dn dn l)
  .rw[n.dn dn k]at a;cases a
def oK(s)(h:Sub v w):dQ (Qk n v s) (Qk n w s):=by
 have r:dQ (jB n v) (jB n w):=dQ.map (λa=>dQ.sum (dQ.map (λb=>by
  unfold tb;cases q:v.j (a*n+b)with
|false=>exact Af4 _
|true=>rw[h _ q];exact Aa9 _) _)) _
 unfold Qk;split
 .exact⟨r.sum,trivial⟩
 .exact r
def ZH(s)(j)(l):xM s j l l=y0 (sP s j l):=by rw[yw,sP];split<;>exact vQ _
def ZV(v u):ej v v u u=y0 (u9 (v-(v&&&u)=0)):=vQ _
def g0(a b:Wo):Fc->Option Bool->Prop
|.d7 x y,r=>∃v u v' u',B a b x v u/\B a b y v' u'/\r=ej v u v' u'
|.eF x y,r=>∃v u v' u',B a b x v u/\B a b y v' u'/\r=eR (ej v u v' u') (ej v' u' v u)
|.eD x,r=>∃v u,B a b x v u/\r=xM Qa 1 (Qk a.n v Qa) (Qk a.n u Qa)
|.aw x,r=>∃v u,B a b x v u/\r=xM xc 0 (Qk a.n v xc) (Qk a.n u xc)
|.cnt s j x,r=>∃v u,B a b x v u/\r=xM s j (Qk a.n v s) (Qk a.n u s)
def Td(a b:Wo):Sy->Option Bool->Prop
|.p f,r=>g0 a b f r
|.neg s,r=>∃q,Td a b s q/\r=q.j (!·)
|.cK s t,r=>∃p q,Td a b s p/\Td a b t q/\r=eR p q
|.cE s t,r=>∃p q,Td a b s p/\Td a b t q/\r=f9 p q
def W3(h:∀x,p=y0 x->p'=y0 x)(k:∀x,q=y0 x->q'=y0 x)(e:eR p q=y0 x):eR p' q'=y0 x:=by
 rcases p with _|_|_<;>rcases q with _|_|_<;>cases e<;>(first|rw[h _ rfl]|skip)<;>(first|rw[k _ rfl]|skip)<;>first|rfl|(rcases p' with _|_|_<;>rfl)|(rcases q' with _|_|_)
def Fw(h:∀x,p=y0 x->p'=y0 x)(k:∀x,q=y0 x->q'=y0 x)(e:f9 p q=y0 x):f9 p' q'=y0 x:=by
 rcases p with _|_|_<;>rcases q with _|_|_<;>cases e<;>(first|rw[h _ rfl]|skip)<;>(first|rw[k _ rfl]|skip)<;>first|rfl|(rcases p' with _|_|_<;>rfl)|(rcases q' with _|_|_)
theorem g0.mono (L:Le a a')(i:Le b' b)(k:Le a' b')(h:g0 a b f r)(q:g0 a' b' f r')(e:r=y0 x):r'=y0 x:=by
 have cnt:∀{y}{v u o l}{s}{j},B a b y v u->B a' b' y o l->xM s j _ _=y0 x->xM s j (Qk a'.n o s) (Qk a'.n l s)=y0 x:=λd c e=>by have m:=d.mono c L i;rw[L.en];exact LU (oK _ m.1) (oK _ m.2) (oK _ (c.in k)) e
 cases f with
|d7 y z=>obtain⟨v,u,o,l,d,n,rfl⟩:=h;obtain⟨w,t,A,p,c,g,rfl⟩:=q;exact jV (d.mono c L i) (n.mono g L i) (c.in k) (g.in k) e
|eF y z=>obtain⟨v,u,o,l,d,n,rfl⟩:=h;obtain⟨w,t,A,p,c,g,rfl⟩:=q;exact W3 (λx=>jV (d.mono c L i) (n.mono g L i) (c.in k) (g.in k)) (λx=>jV (n.mono g L i) (d.mono c L i) (g.in k) (c.in k)) e
|eD y=>obtain⟨v,u,d,rfl⟩:=h;obtain⟨w,t,c,rfl⟩:=q;exact cnt d c e
|aw y=>obtain⟨v,u,d,rfl⟩:=h;obtain⟨w,t,c,rfl⟩:=q;exact cnt d c e
|cnt s j y=>obtain⟨v,u,d,rfl⟩:=h;obtain⟨w,t,c,rfl⟩:=q;exact cnt d c e
theorem Td.mono (L:Le a a')(d:Le b' b)(g:Le a' b'):∀s r r' x,Td a b s r->Td a' b' s r'->r=y0 x->r'=y0 x
|.p f,r,r',x,h,q,e=>g0.mono L d g h q e
|.neg s,r,r',x,z7,z8,e=>by
  obtain⟨p,h,i⟩:=z7;obtain⟨w,q,c⟩:=z8;rw[c];rw[i]at e;cases p with
  |none=>cases e
  |some y=>rw[Td.mono L d g s _ _ y h q rfl];exact e
|.cK s t,r,r',x,z7,z8,e=>by obtain⟨v,o,j,k,i⟩:=z7;obtain⟨u,n,m,l,c⟩:=z8;rw[c];rw[i]at e;exact W3 (λy z=>Td.mono L d g s _ _ y j m z) (λy z=>Td.mono L d g t _ _ y k l z) e
|.cE s t,r,r',x,z7,z8,e=>by obtain⟨v,o,j,k,i⟩:=z7;obtain⟨u,n,m,l,c⟩:=z8;rw[c];rw[i]at e;exact Fw (λy z=>Td.mono L d g s _ _ y j m z) (λy z=>Td.mono L d g t _ _ y k l z) e
def Zp(P:Pt a b)(h):∀e m,e.j+7<=m->e.y (a.K++a.T)->∃v u,B a b e v u/\call prog m "bounds" [.v a.j,.v (ck a b),.v (aV e)] h=.j (.v (bf v u)) h:=by
 have n4:=P.p7.wl.n4;have leaf:∀e s k v,aV e=.u [.p s]->(s==zh)=y9->(s==zq)=y9->V a.n v (bt a b y9 e)->V a.n v (bt a b k9 e)->(∀l,call prog (k+5) "made" [.i a.n,.s s,.l l] h=.j (.i v) h)->∃v u,B a b e v u/\call prog (k+6) "bounds" [.v a.j,.v (ck a b),.v (aV e)] h=.j (.v (bf v u)) h:=by intro e s k v O D K A z f;rw[O];exact⟨v,v,⟨A,z⟩,XC (ps:=[]) D K (by simp) (L5 kP) (f _) (f _)⟩
 intro e;induction e with
|name t=>
  intro m f wf;obtain⟨k,rfl⟩:∃k,m=k+6:=⟨m-6,by simp[Ex.dp]at f;lia⟩;have I:t∈b.K++b.T:=by rw[P.eK,P.eT];exact wf
  obtain⟨v,A,e1⟩:=Zr (k+1) P.p7 t wf h;obtain⟨u,z,e2⟩:=Zr (k+1) P.IS t I h;have M:V a.n v _:=⟨A.1,λx y E G=>(A.2 x y E G).j (A3 a t x y).symm⟩;have J:V b.n u _:=⟨z.1,λx y E G=>(z.2 x y E G).j (A3 b t x y).symm⟩;rw[P.en]at J;rw[P.ew]at e2;refine⟨v,u,⟨M,J⟩,?_⟩;rw[Gb (d:=bJ) rfl _ _ _ rfl];simp only[bJ,aV];have i0:d4 (.v (ck a b)) (.v (.o 0)) h=y0 a.bb:=rfl;have i1:d4 (.v (ck a b)) (.v (.o 1)) h=y0 b.bb:=rfl;refine fx (by simp![ab,jf];rfl) ?_;rw[qa (w:=.v (bf v u)) (h1:=h) ((Qq (h1:=h) (Jk (s:=zh) _ rfl)).j ?_),Ga _ _ _ rfl];refine(za (by simp![ab,qg];rfl)).j ?_;exact qa (Ja rfl (by simp![i0,i1,e1,e2]))
|same=>intro m f wf;obtain⟨k,rfl⟩:∃k,m=k+6:=⟨m-6,by simp[Ex.dp]at f;lia⟩;exact leaf .same Qg k _ rfl rfl rfl V.leaf.1 V.leaf.1 λl=>E4 k a.n l h n4
|all=>intro m f wf;obtain⟨k,rfl⟩:∃k,m=k+6:=⟨m-6,by simp[Ex.dp]at f;lia⟩;exact leaf .all Xn k _ rfl rfl rfl V.leaf.2.1 V.leaf.2.1 λl=>OY k a.n l h n4
|none=>intro m f wf;obtain⟨k,rfl⟩:∃k,m=k+6:=⟨m-6,by simp[Ex.dp]at f;lia⟩;exact leaf .w wh k _ rfl rfl rfl V.leaf.2.2 V.leaf.2.2 λl=>Hc k a.n l h
|turned c F=>intro m f wf;simp only[Ex.dp]at f;obtain⟨k,rfl⟩:=nk m 6 (Nat.le_trans (Nat.le_add_left _ _) ‹_›);obtain⟨v,u,q,e1⟩:=F (k+5) (Nat.le_of_lt_succ ‹_›) wf;exact⟨_,_,⟨q.j.A,q.p.A⟩,XC (ps:=[(v,u)]) rfl rfl (by simp) (AZ kP (zv e1)) (wJ k a.n v h n4) (wJ k a.n u h n4)⟩
|closed c F=>intro m f wf;simp only[Ex.dp]at f;obtain⟨k,rfl⟩:=nk m 6 (Nat.le_trans (Nat.le_add_left _ _) ‹_›);obtain⟨v,u,q,e1⟩:=F (k+5) (Nat.le_of_lt_succ ‹_›) wf;obtain⟨r,L,N⟩:=QL k a.n v h n4 q.j.1;obtain⟨Q,H,C⟩:=QL k a.n u h n4 q.p.1;exact⟨_,_,⟨q.j.x L,q.p.x H⟩,XC (ps:=[(v,u)]) rfl rfl (by simp) (AZ kP (zv e1)) N C⟩
|plus c d i g=>intro m f wf;simp only[Ex.dp]at f;obtain⟨k,rfl⟩:=nk m 6 (Nat.le_trans (Nat.le_add_left _ _) ‹_›);obtain⟨v,u,q,e1⟩:=i (k+5) (by lia) wf.1;obtain⟨p,o,n,j⟩:=g (k+5) (by lia) wf.2;exact⟨_,_,⟨q.j.plus n.j,q.p.plus n.p⟩,XC (ps:=[(v,u),(p,o)]) rfl rfl (by simp) (xY kP (zv e1) (zv j)) (zY k a.n v p h) (zY k a.n u o h)⟩
|less c d i g=>intro m f wf;simp only[Ex.dp]at f;obtain⟨k,rfl⟩:=nk m 6 (Nat.le_trans (Nat.le_add_left _ _) ‹_›);obtain⟨v,u,q,e1⟩:=i (k+5) (by lia) wf.1;obtain⟨p,o,n,j⟩:=g (k+5) (by lia) wf.2;exact⟨_,_,⟨q.j.less n.p,q.p.less n.j⟩,Ir (xY kP (zv e1) (zv j))⟩
|both c d i g=>intro m f wf;simp only[Ex.dp]at f;obtain⟨k,rfl⟩:=nk m 6 (Nat.le_trans (Nat.le_add_left _ _) ‹_›);obtain⟨v,u,q,e1⟩:=i (k+5) (by lia) wf.1;obtain⟨p,o,n,j⟩:=g (k+5) (by lia) wf.2;exact⟨_,_,⟨q.j.both n.j,q.p.both n.p⟩,XC (ps:=[(v,u),(p,o)]) rfl rfl (by simp) (xY kP (zv e1) (zv j)) (W5 k a.n v p h) (W5 k a.n u o h)⟩
|joined c d i g=>intro m f wf;simp only[Ex.dp]at f;obtain⟨k,rfl⟩:=nk m 6 (Nat.le_trans (Nat.le_add_left _ _) ‹_›);obtain⟨v,u,q,e1⟩:=i (k+5) (by lia) wf.1;obtain⟨p,o,n,j⟩:=g (k+5) (by lia) wf.2;exact⟨_,_,⟨q.j.u n.j,q.p.u n.p⟩,XC (ps:=[(v,u),(p,o)]) rfl rfl (by simp) (xY kP (zv e1) (zv j)) (ZL k a.n v p h n4) (ZL k a.n u o h n4)⟩
def j8(P:Pt a b)(h)(f)(m)(c:f.dp+7<=m)(wf:f.wf (a.K++a.T)):∃r,g0 a b f r/\call prog (m+1) "fact_told" [.v a.j,.v (ck a b),.v (dO f)] h=.j (.v (aH r)) h:=by
 have n4:=P.p7.wl.n4;obtain⟨k,rfl⟩:=nk m 3 (Nat.le_trans (Nat.le_add_left _ _) ‹_›);cases f with
|d7 x y=>simp[Fc.dp]at c;obtain⟨l,g,d,i⟩:=Zp P h x (k+3) (by lia) wf.1;obtain⟨v,u,q,e⟩:=Zp P h y (k+3) (by lia) wf.2;exact⟨_,⟨l,g,v,u,d,q,rfl⟩,O7 n4 e i⟩
|eF x y=>simp[Fc.dp]at c;obtain⟨l,g,d,i⟩:=Zp P h x (k+3) (by lia) wf.1;obtain⟨v,u,q,e⟩:=Zp P h y (k+3) (by lia) wf.2;exact⟨_,⟨l,g,v,u,d,q,rfl⟩,MO n4 e i⟩
|eD x=>obtain⟨v,u,q,e⟩:=Zp P h x _ c wf;exact⟨_,⟨v,u,q,rfl⟩,N8 n4 e⟩
|aw x=>obtain⟨v,u,q,e⟩:=Zp P h x _ c wf;exact⟨_,⟨v,u,q,rfl⟩,Ck n4 e⟩
|cnt s j x=>obtain⟨v,u,q,e⟩:=Zp P h x _ c wf.2;exact⟨_,⟨v,u,q,rfl⟩,Cb n4 e wf.1⟩
abbrev vf(a b:Wo)(d:D)(s:Tx):Sl:=[sv a.j,sv (ck a b),sv d,y0 (.s s)]
section
variable{m k:Nat}{a b:Wo}{h:AH}{x y:D}{r q:Option Bool}
def wH(z:execs (k8 m) (match cL.j with|.j _ r=>r|r=>r) (vf a b (.u (.p s::ds)) s) h=.j (.v d) h):call prog (m+1) "told" [.v a.j,.v (ck a b),.t (.p s::ds)] h=.j (.v d) h:=by rw[Gb rfl _ _ _ rfl];simp only[cL]at z⊢;rw[za (τ1:=vf a b (.u (.p s::ds)) s) (h1:=h) (by simp![ab,jf]),z,Ga _ _ _ rfl]
def F0(c:call prog (k+2) "told" [.v a.j,.v (ck a b),.v x] h=.j (.v (aH r)) h):call prog (k+3) "told" [.v a.j,.v (ck a b),.t [.p WL,x]] h=.j (.v (aH (r.j (!·)))) h:=by refine wH ?_;simp only[cL];rw[Zf (Jk (s:=WL) _ rfl) (Ja rfl (by simp![ab,Qr,c,DQ];rfl))]
def HJ(d:call prog (k+2) "told" [.v a.j,.v (ck a b),.v x] h=.j (.v (aH r)) h)(c:call prog (k+2) "told" [.v a.j,.v (ck a b),.v y] h=.j (.v (aH q)) h):call prog (k+3) "told" [.v a.j,.v (ck a b),.t [.p qx,x,y]] h=.j (.v (aH (eR r q))) h:=by refine wH ?_;simp only[cL];rw[xa (Jk (s:=qx) _ rfl),Zf (Jk (s:=qx) _ rfl) (Ja rfl (by simp![ab,Qr,JE,d,c,wQ];rfl))]
def El(d:call prog (k+2) "told" [.v a.j,.v (ck a b),.v x] h=.j (.v (aH r)) h)(c:call prog (k+2) "told" [.v a.j,.v (ck a b),.v y] h=.j (.v (aH q)) h):call prog (k+3) "told" [.v a.j,.v (ck a b),.t [.p jA,x,y]] h=.j (.v (aH (f9 r q))) h:=by refine wH ?_;simp only[cL];rw[xa (Jk (s:=jA) _ rfl),xa (Jk (s:=jA) _ rfl),Zf (Jk (s:=jA) _ rfl) (Ja rfl (by simp![ab,Qr,JE,d,c,DU];rfl))]
def Ei(wf:f.wf N)(e:call prog m "fact_told" [.v a.j,.v (ck a b),.v (dO f)] h=.j (.v (aH r)) h):call prog (m+1) "told" [.v a.j,.v (ck a b),.v (dO f)] h=.j (.v (aH r)) h:=by obtain⟨s,j,c,d,i,g⟩:=C5 f wf;rw[c]at e⊢;refine wH ?_;simp only[cL];rw[xa ((Jk _ rfl).j (by rw[d])),xa ((Jk _ rfl).j (by rw[i])),xa ((Jk _ rfl).j (by rw[g])),qa (Ja rfl (by assumption))]
end
def DZ(P:Pt a b)(h):∀s m,s.j+9<=m->s.y (a.K++a.T)->∃r,Td a b s r/\call prog m "told" [.v a.j,.v (ck a b),.v (aj s)] h=.j (.v (aH r)) h:=by
 intro s;induction s with
|fact f=>intro m c wf;simp[Sy.dp]at c;obtain⟨k,rfl⟩:=nk m 2 (Nat.le_trans (Nat.le_add_left _ _) ‹_›);obtain⟨r,t,e⟩:=j8 P h f k (by lia) wf;exact⟨r,t,Ei wf e⟩
|neg x l=>intro m c wf;simp[Sy.dp]at c;obtain⟨k,rfl⟩:=nk m 3 (Nat.le_trans (Nat.le_add_left _ _) ‹_›);obtain⟨r,t,e⟩:=l (k+2) (Nat.le_of_lt_succ ‹_›) wf;exact⟨_,⟨r,t,rfl⟩,F0 e⟩
|cK x y g d=>intro m c wf;simp[Sy.dp]at c;obtain⟨k,rfl⟩:=nk m 3 (Nat.le_trans (Nat.le_add_left _ _) ‹_›);obtain⟨r,t,e⟩:=g (k+2) (by lia) wf.1;obtain⟨q,i,j⟩:=d (k+2) (by lia) wf.2;exact⟨_,⟨r,q,t,i,rfl⟩,HJ e j⟩
|cE x y g d=>intro m c wf;simp[Sy.dp]at c;obtain⟨k,rfl⟩:=nk m 3 (Nat.le_trans (Nat.le_add_left _ _) ‹_›);obtain⟨r,t,e⟩:=g (k+2) (by lia) wf.1;obtain⟨q,i,j⟩:=d (k+2) (by lia) wf.2;exact⟨_,⟨r,q,t,i,rfl⟩,El e j⟩
mutual
theorem tU:∀{d:D},Gd d=k9->cM d d=k9
|.T,_=>rfl
|.C b,_=>by simp
|.o i,_=>by simp
|.p s,_=>by simp
|.u xs,h=>by rw[cM];exact GH (by simpa[Gd]using h)
|.w xs,h=>by rw[cM];exact GH (by simpa[Gd]using h)
|.j _,h=>by simp at h
theorem GH:∀{xs:List D},Gf xs=k9->GK xs xs=k9
|[],_=>rfl
|x::xs,h=>by
  have h':Gd x=k9/\Gf xs=true:=by simpa[Gf]using h
  rw[GK,tU h'.1,GH h'.2];rfl
end
mutual
theorem oo{h:AH}:∀{d:D},Gd d=k9->res h d=d
|.T,_=>rfl
|.C b,_=>rfl
|.o i,_=>rfl
|.p s,_=>rfl
|.u xs,q=>by rw[res,GM (by simpa[Gd]using q)]
|.w xs,q=>by rw[res,GM (by simpa[Gd]using q)]
|.j _,q=>by simp at q
theorem GM{h:AH}:∀{xs:List D},Gf xs=k9->GU h xs=xs
|[],_=>rfl
|x::xs,q=>by
  have h':Gd x=k9/\Gf xs=true:=by simpa[Gf]using q
  rw[GU,oo h'.1,GM h'.2]
end
theorem Wn(f)(a:∀x,Gd (f x)=k9):∀l:List α,Gf (l.j f)=k9
|[]=>rfl
|x::l=>by simp[a x,Wn f a l]
theorem JT(f)(k)(a:∀x,dep (f x)<=k):∀l:List α,GI (l.j f)<=k
|[]=>Af4 _
|x::l=>by have b:=a x;have c:=JT f k a l;exact Nat.max_le.u ⟨b,c⟩
def vV(d)(a:Gd d=k9)(b:dep d<150)(h):Gr .u (.v d) (.v d) h=y0 false:=by show(if Kc (res h d) (res h d)then y0 (!cM (res h d) (res h d))else u0)=_;rw[oo a,if_pos (by simp_all),tU a];rfl
def xz:D->Bool
|.o _=>k9
|_=>y9
noncomputable def qh(d:D)(e:Int):Bool:=match d with
|.o i=>u9 (0<=i)&&u9 (i<e)
|_=>y9
def qB(k)(d)(h)(a:Gd d=k9):call prog (k+1) "is_whole" [.v d] h=.j (.b (xz d)) h:=by
 cases d<;>first|exact Ga _ _ _ rfl|cases a
def qo(k)(d)(e)(h)(b:Gd d=k9):call prog (k+2) "is_below" [.v d,.v (.o e)] h=.j (.b (qh d e)) h:=by
 rw[Gb rfl _ _ _ rfl];have a:=qB k d h b;cases d with
|int i=>simp[a,QC,xz,qh,Gj];by_cases c:0<=i<;>simp[c]
|_=>first|(simp[a,QC,xz,qh,Gj])|(simp at b)
def oH(l):Gf (aB l)=true:=Wn _ (λ_=>rfl) l
def Cn(l):GI (aB l)<=0:=JT _ 0 (λ_=>Aa9 _) l
def Lv(k)(d)(h)(b:Gd d=k9):call prog (k+3) "is_size" [.v d] h=.j (.b (qh d 5)) h:=by rw[Gb rfl _ _ _ rfl];have a:prog.con.p "GREATEST_SIZE"=some _:=rfl;have c:(4:Int)+1=5:=rfl;simp only[X0];simp![a,Qc,c,(qo k d 5 h b)]
def A0(k)(d)(h)(b:Gd d=k9)(c:qh d 5=k9):call prog (k+4) "check_size" [.v d] h=.j (.v .T) h:=by rw[Gb rfl _ _ _ rfl];have a:=Lv k d h b;rw[c]at a;simp only[wF];rw[xa (by simp![a])];simp![]
noncomputable def cd:List (Nat×Nat)->Nat
|[]=>0
|q::r=>q.2+2^q.1*cd r
noncomputable def dg:List Nat->Nat->List Nat
|[],_=>[]
|w::a,c=>c%2^w::dg a (c/2^w)
noncomputable def di(n K T:Nat):List Nat:=Aa4 K n++Aa4 T (n*n)
structure Wl(n:Nat)(ks ts:List Nat):Prop where
 n4:n<=4
 k4:ks.e<=4
 t4:ts.e<=4
 bk:∀x∈ks,x<2^n
 bt:∀x∈ts,x<2^(n*n)
def oe(n K T):(di n K T).e=K+T:=by simp[di]
noncomputable abbrev ng(A B:List D):D:=.u [.u A,.u B]
def ES(n K T):aB (di n K T)=Aa4 K (.n n)++Aa4 T (.n (n*n)):=by simp[di]
theorem qD(x):∀m,(Aa4 m x).Y=m*x
|0=>by simp
|m+1=>by rw[Ae4,An1,qD x m,Nat.succ_mul,Aq0]
def pW(n K T):(di n K T).Y=K*n+T*(n*n):=by rw[di,List.sum_append,qD,qD]
theorem yS(h):∀ws c i j,(∀w∈ws,w<=16)->i.e+ws.e<=1000->∃L M,
 Gp (Gq [5] k9) (λτ h=>execs F qt τ h) (aB ws) [x0,x1,x2,y0 (.j (aB i)),si c,j,x6] h=.p [x0,x1,x2,y0 (.j (aB (i++dg ws c))),L,M,x6] h
|[],c,i,j,_,_=>⟨si c,j,by simp[dg]⟩
|w::ws,c,i,j,b,d=>by
  rw[Aa8]at d;have o:=b w Aa3;obtain⟨L,M,e⟩:=yS h ws (c/2^w) (i++[c%2^w]) (si w) (λx k=>b x (Aa2 _ k)) (by simp;lia);refine⟨L,M,?_⟩;have m:=z9 w (Nat.le_trans ‹_› (by decide));have p:0<2^w:=Nat.pow_pos (by decide);have n:((2^w:Nat))-1=((2^w-1:Nat):Int):=by lia
  have a:=zd c (2^w-1);rw[Af5]at a;have l:=Xo c w;have f:(aB i).e<bq:=by rw[Gg,Aa];lia
  have g:aB (i++[c%2^w])=aB i++[.n (c%2^w)]:=by simp
  rw[show aB (w::ws)=.n w::aB ws from rfl,Wa rfl ?_,e,Af0]
  .rfl
  .rw[g];simp![qt,m,we,n,wc,a,f,if_true,l]
def BL(x)(m)(a:m<=1000)(h):GQ .w (.j [x]) (.i m) h=.j (.j (Aa4 m x)) h:=by
 show Kz [x] m h=_;have c:-1000<=(m:Int)/\(m:Int)<=1000/\[x].e*(m:Int).j<=bq:=by rw[Gg,Ac9];simp;lia
 rw[Kz,if_pos c,Ac9,show(Aa4 m [x]).G=Aa4 m x by simp]
def u1(k n)(A B)(h)(d:n<=4)(b:A.e<=4)(c:B.e<=4):call prog (k+1) "widths" [.v (ng A B),.i n] h=.j (.j (aB (di n A.e B.e))) h:=by
 rw[Gb rfl _ _ _ rfl];have a:(Aa4 A.e (D.n n)).e+(Aa4 B.e (D.n (n*n))).e<=bq:=by rw[Gg];simp;lia
 rw[ES];simp only[AF];simp![ab,Xh,qg,Xc,(BL (.n n) A.e (Nat.le_trans ‹_› (by decide)) h),(je n n (Nat.lt_of_le_of_lt ‹_› (by decide))),(BL (.n (n*n)) B.e (Nat.le_trans ‹_› (by decide)) h),M9,a,if_true]
def vd(k n)(A B)(h)(d:n<=4)(b:A.e<=4)(c:B.e<=4):call prog (k+2) "bits" [.v (ng A B),.i n] h=.j (.i ((di n A.e B.e).Y)) h:=by
 rw[Gb rfl _ _ _ rfl];have a:(aB (di n A.e B.e)).e<=bq:=by rw[Gg,Aa,oe];lia
 simp only[uw];simp![(u1 k n A B h d b c),y4,a,if_true,jT]
theorem tH(n):∀m,Aa7 (m*n)=(Aa7 m).Q λa=>(Aa7 n).j (a*n+·)
|0=>by simp
|m+1=>by rw[xD,tH n m,List.range_succ,List.flatMap_append];simp
def LK(n t):Wf.az n t=(Aa7 n).Q λa=>((Aa7 n).T λb=>t.j (a*n+b)).j λb=>(a,b):=by unfold Wf.az;rw[tH n n,List.filter_flatMap,List.map_flatMap];rw[List.flatMap_def,List.flatMap_def];congr 1;refine Ai4 λa d=>?_;rw[An7,Ad7];refine Ai4 λb c=>?_;have c:=Ac0.p (Aj0.p c).1;show(_/n,_%n)=_;rw[Wf.aF c,Wf.aJ c]
def JW(n t)(f)(z:α):(Wf.az n t).X f z=(Aa7 n).X (λz a=>(Aa7 n).X (λz b=>if t.j (a*n+b)then f z (a,b)else z) z) z:=by rw[LK,List.foldl_flatMap];congr 1;funext z a;rw[List.foldl_map,List.foldl_filter]
def mr(e:Gj τ i=si n)(a:n<=1000000):Gs F (.ao (.X i)) τ h=.j ((Aa7 n).j λi=>.n i) h:=Ju (by rw[eval,e]) a
def sA{st:Nat->Option W->Option W->Option W->Sl}{f:Nat->Nat->Nat->Nat}(w:n<=1000)
 (m:b2=.a (.for [j] k9 (.ao .A) b1))(r:∀t x y z,Gj (st t x y z) 0=si n)
 (s:∀d t x y z,GB (st t x y z) i (.v d)=st t (sv d) y z)(A:∀d t x y z,GB (st t x y z) j (.v d)=st t x (sv d) z)
 (u:∀a b t z,a<n->b<n->∃L,execs F b1 (st t (si a) (si b) z) h=.p (st (f a b t) (si a) (si b) L) h):
 ∀(l:List Nat) t x y z,(∀a∈l,a<n)->∃V M L,Gp (Gq [i] k9) (λτ h=>execs F b2 τ h) (l.j λa=>D.n a) (st t x y z) h=.p (st (l.X (λt a=>(Aa7 n).X (λt b=>f a b t) t) t) V M L) h:=by
 have d7:∀a,a<n->∀(l:List Nat) t y z,(∀b∈l,b<n)->∃M L,Gp (Gq [j] k9) (λτ h=>execs F b1 τ h) (l.j λb=>D.n b) (st t (si a) y z) h=.p (st (l.X (λt b=>f a b t) t) (si a) M L) h:=by
  intro a q l;induction l with
|nil=>exactλt y z _=>⟨y,z,rfl⟩
|cons b l p=>intro t y z g;obtain⟨k,e1⟩:=u a b t z q (g b Aa3);obtain⟨M,L,e⟩:=p _ _ k λc o=>g c (Aa2 _ o);refine⟨M,L,?_⟩;rw[Ab2,Wa (by simp_all) e1,e];rfl
 intro l;induction l with
|nil=>exactλt x y z _=>⟨x,y,z,rfl⟩
|cons a l p=>intro t x y z g;obtain⟨v,k,e1⟩:=d7 a (g a Aa3) _ t y z λb m=>Ac0.p m;obtain⟨V,M,L,e⟩:=p _ _ v k λc o=>g c (Aa2 _ o);refine⟨V,M,L,?_⟩;rw[Ab2,Wa (by rw[GD,s]) (by rw[m,execs,exec];rw[mr (r _ _ _ _) (Nat.le_trans ‹_› (by decide)),R.ax,e1,O.bS,execs]),e];rfl
def pY(o c):Gi .u ((o/2^c:Nat):Int) 1=y0 ((((o.j c).j:Nat)):Int):=by rw[wc,show 1=((1:Nat):Int)from rfl,zd,ZT]
def vz(x)(h):Gr .j (.i (x.j)) (.v (.o 1)) h=y0 x:=by cases x<;>rfl
abbrev mI(n o p t:Nat)(x y z:Option W):Sl:=[si n,si o,si p,si t,x,y,z]
def W1(k n o p)(h)(m:n<=20):call prog (k+1) "_law_joined" [.i n,.i o,.i p] h=.j (.i (Wf.joinM n o p)) h:=by
 rw[Gb rfl _ _ _ rfl];have step:∀a b t z,a<n->b<n->∃d,execs (k8 k) Wi (mI n o p t (si a) (si b) z) h=.p (mI n o p (if o.j (a*n+b)then t|||Wf.cF n p b*2^(a*n)else t) (si a) (si b) d) h:=by
  intro a b t z f y;have l:Gi .w (a:Int) (n:Int)=y0 _:=je a n (by lia);have g:Gi .w (b:Int) (n:Int)=y0 _:=je b n (by lia);have v:(p/2^(b*n)&&&(2^n-1))=Wf.cF n p b:=by rw[Af5];rfl
  have x:a*n<=400:=Ab5 (Ag1 (Ag0 f) (Aa9 n)) (Ji m);have c:((2^n:Nat):Int)-1=((2^n-1:Nat):Int):=by have:=Ad5 n;lia
  have j:Gm (k8 k) (.y .j (.x .u (.x .shr .G (.x .j (.x .w .v4 .A) .v5)) (.o 1)) (.o 1)) (mI n o p t (si a) (si b) z) h=.j (o.j (a*n+b)) h:=by have r:(((a*n:Nat):Int)+(b:Int))=((a*n+b:Nat):Int):=rfl;simp![l,Qc,r,Xo,pY,vz]
  cases q:o.j (a*n+b)with
|false=>refine⟨z,?_⟩;unfold Wi;rw[xa (by rw[j,q]),execs];rfl
|true=>refine⟨si (Wf.cF n p b),?_⟩;unfold Wi;rw[execs,Qq (by rw[j,q])];simp![l,g,Xo,(z9 n (Nat.le_trans ‹_› (by decide))),we,c,wc,zd,v,(jU _ (a*n) (Ab4 (Wf.dz n p b) (Ab5 (Ad2 (by decide) m) (by decide))) (Nat.le_trans ‹_› (by decide))),wn,Wm,if_true]
 obtain⟨u,s,d,e⟩:=sA (i:=4) (b2:=Zv) (Nat.le_trans ‹_› (by decide)) rfl (λ_ _ _ _=>rfl) (λ_ _ _ _ _=>rfl) (λ_ _ _ _ _=>rfl) step _ 0 u0 u0 u0 λa f=>Ac0.p f;simp only[ZE];rw[za (τ1:=mI n o p 0 u0 u0 u0) rfl];rw[za (τ1:=mI n o p (Wf.joinM n o p) u s d) (h1:=h) (by rw[exec,mr (n:=n) rfl (Nat.le_trans ‹_› (by decide)),R.ax,e];rw[Wf.joinM,JW])];rw[qa (w:=.i (Wf.joinM n o p)) (h1:=h) rfl,Ga _ _ _ rfl]
abbrev lA(n o t:Nat)(x y:Option W):Sl:=[si n,si o,si t,x,y]
def yT(k n o)(h)(u:n<=20):call prog (k+1) "_law_turned" [.i n,.i o] h=.j (.i (Wf.bL n o)) h:=by
 rw[Gb (d:=xt) rfl _ _ _ rfl];have step:∀a b t (z:Option W),a<n->b<n->∃r:Option W,execs (k8 k) Zn (lA n o t (si a) (si b)) h=.p (lA n o (if o.j (a*n+b)then t|||2^(b*n+a)else t) (si a) (si b)) h:=by
  intro a b t z c s;refine⟨u0,?_⟩;have p:Gi .w (a:Int) (n:Int)=y0 _:=je a n (by lia);have f:Gi .w (b:Int) (n:Int)=y0 _:=je b n (by lia);have B:b*n+a<=400:=Ab5 (Ag0 (Wf.place_lt s c)) (Ji u);have l:(((b*n:Nat):Int)+(a:Int))=((b*n+a:Nat):Int):=rfl;have g:Gm (k8 k) (.y .j (.x .u (.x .shr .G (.x .j (.x .w .L .A) .v4)) (.o 1)) (.o 1)) (lA n o t (si a) (si b)) h=.j (o.j (a*n+b)) h:=by have m:(((a*n:Nat):Int)+(b:Int))=((a*n+b:Nat):Int):=rfl;simp![p,Qc,m,Xo,pY,vz]
  unfold Zn;cases q:o.j (a*n+b)with
|false=>rw[xa (by rw[g,q]),execs];rfl
|true=>rw[execs,Qq (h1:=h) (by rw[g,q])];simp![f,Qc,l,(z9 (b*n+a) (Nat.le_trans ‹_› (by decide))),wn,Wm,if_true]
 obtain⟨A,v,r,e⟩:=sA (st:=λt x y _=>lA n o t x y) (i:=3) (j:=4) (b2:=Qv) (Nat.le_trans ‹_› (by decide)) rfl (λ_ _ _ _=>rfl) (λ_ _ _ _ _=>rfl) (λ_ _ _ _ _=>rfl) step _ 0 u0 u0 u0 λa c=>Ac0.p c;simp only[xt];rw[za (τ1:=lA n o 0 u0 u0) (h1:=h) rfl];rw[za (τ1:=lA n o (Wf.bL n o) A v) (h1:=h) (by rw[exec,mr (n:=n) rfl (Nat.le_trans ‹_› (by decide)),R.ax,e];rw[Wf.bL,Wf.c9,Wf.mw,List.foldl_map,JW])];rw[qa (w:=.i (Wf.bL n o)) (h1:=h) rfl,Ga _ _ _ rfl]
def c7(n t:Nat):Nat->Nat
|0=>t
|i+1=>c7 n t i|||Wf.joinM n (c7 n t i) t
theorem nY:∀{l:List Nat},(∀x∈l,p x=k9->q x=k9)->(∃x∈l,q x=k9/\p x=y9)->(l.T p).e<(l.T q).e
|[],_,h=>by obtain⟨x,a,_⟩:=h;cases a
|y::l,h,g=>by
  have le:∀l:List Nat,(∀x∈l,p x=k9->q x=k9)->(l.T p).e<=(l.T q).e:=by
   intro l;induction l with
|nil=>exactλ_=>Aa9 _
|cons z l b=>
    intro e;have f:=b λx a=>e x (Aa2 _ a);have i:=e z Aa3;rw[Al5,Al5];cases e1:p z with
|true=>rw[i e1,if_pos rfl,if_pos rfl,Aa8,Aa8];exact Nat.succ_le_succ ‹_›
|false=>
     rw[if_neg Ab9];cases q z with
|true=>rw[if_pos rfl,Aa8];exact Nat.le_succ_of_le ‹_›
|false=>rw[if_neg Ab9];exact f
  have k:=le l λx a=>h x (Aa2 _ a);have j:=h y Aa3;obtain⟨x,a,d,c⟩:=g;rw[Al5,Al5];rcases Ab8.p a with rfl|a
  .rw[d,c,if_pos rfl,if_neg Ab9,Aa8];exact Nat.succ_le_succ ‹_›
  .have b:=nY (λx a=>h x (Aa2 _ a)) ⟨x,a,d,c⟩;cases e1:p y with
|true=>rw[j e1,if_pos rfl,if_pos rfl,Aa8,Aa8];exact Nat.succ_le_succ ‹_›
|false=>
    rw[if_neg Ab9];cases q y with
|true=>rw[if_pos rfl,Aa8];exact Nat.succ_le_succ ‹_›
|false=>rw[if_neg Ab9];exact b
section
variable{n t:Nat}
def qu(e:a<n)(d:b<n):(c7 n t (i+1)).j (a*n+b)=((c7 n t i).j (a*n+b)||(Aa7 n).A λc=>(c7 n t i).j (a*n+c)&&t.j (c*n+b)):=by rw[c7,Af1,Wf.cz (Wf.place_lt e d),Wf.cW d]
def lx(n t i a:Nat):Prop:=∀b,b<n->(c7 n t (i+1)).j (a*n+b)=(c7 n t i).j (a*n+b)
def QY(e:a<n)(h:lx n t i a):lx n t (i+1) a:=λb d=>by
 rw[qu e d];cases q:(Aa7 n).A λc=>(c7 n t _).j _&&t.j (c*n+b)with
|false=>rw[Ap3]
|true=>rw[An9,qu e d,Ao9.u (.u ?_)];rw[Ad1]at q⊢;obtain⟨c,f,z⟩:=q;rw[h c (Ac0.p f)]at z;exact⟨c,f,z⟩
abbrev nM(n t i a:Nat):Nat:=((Aa7 n).T λb=>(c7 n t i).j (a*n+b)).e
def yh(d:a<n)(h:¬lx n t i a):nM n t i a<nM n t (i+1) a:=by
 have h:∃b,b<n/\(c7 n t _).j _≠(c7 n t i).j _:=Aj3 λz=>h λb c=>Aj3 λq=>z ⟨b,c,q⟩;obtain⟨b,c,ne⟩:=h;refine nY (λx e z=>by rw[qu d (Ac0.p e),z,Am4]) ⟨b,Ac0.u c,?_⟩;cases q:(c7 n t i).j (a*n+b)with
|false=>rw[q]at ne;exact⟨by simpa using ne,rfl⟩
|true=>exact absurd (by rw[qu d c,q,Am4]) ne
theorem yj(b:a<n):∀i,lx n t i a\/i<=nM n t i a
|0=>.u (Af4 _)
|i+1=>(yj b i).j (λz=>.p (QY b z)) λz=>by
  by_cases q:lx n t i a
  .exact .p (QY b q)
  .have:=yh b q;exact .u (Nat.lt_of_le_of_lt ‹_› ‹_›)
def Oo(b:a<n):lx n t n a:=(yj b n).j id λz=>Aj3 λq=>by have c:=yh b q;have d:nM n t (n+1) a<=n:=Ab5 (Aj1 _ _) (by simp);lia
theorem j9:∀(i a b),a<n->b<n->(c7 n t i).j (a*n+b)=k9->Wf.TC n t a b
|0,a,b,e,d,z=>.step e d z
|i+1,a,b,e,d,z=>by
  rw[qu e d,Ae8,Ad1]at z;rcases z with z|⟨c,f,z⟩
  .exact j9 i a b e d z
  .rw[Aa0]at z;have f:=Ac0.p f;exact .more (j9 i a c e f z.1) f d z.2
theorem yR:∀(i k),t.j k=k9->(c7 n t i).j k=k9
|0,_,z=>z
|i+1,k,z=>by rw[c7,Af1,yR i k z,Am4]
theorem tM(a:t<2^(n*n)):∀i,c7 n t i<2^(n*n)
|0=>a
|i+1=>Al (tM a i) (Wf.dJ _ _ _)
def uS(i:t<2^(n*n)):Wf.fy n t (c7 n t n):=⟨tM i n,λa b c h=>⟨j9 n a b c h,λg=>by
 induction g with
|step d e f=>exact yR n _ f
|more g d e f j=>rw[←Oo c _ e,qu c e,Ao9,Ad1];exact .u ⟨_,Ac0.u d,by rw[j d,f];rfl⟩⟩⟩
end
abbrev nU(n t r:Nat)(x:Option W):Sl:=[si n,si t,si r,x]
theorem JP(k n t)(a:n<=20)(h):∀m i x,∃L,Gp (Gq [3] k9) (λτ h=>execs (k8 (k+1)) Qn τ h) ((Aa7 m).j λj=>D.n (i+j)) (nU n t (c7 n t i) x) h=.p (nU n t (c7 n t (i+m)) L) h
|0,i,x=>⟨x,rfl⟩
|m+1,i,x=>by
  obtain⟨L,e⟩:=JP k n t a h m (i+1) (si (i));refine⟨L,?_⟩;rw[Ah3,Ab2,Ad7,Wa (τ1:=nU n t (c7 n t i) (si (i))) rfl (by unfold Qn;rw[za (τ1:=nU n t (c7 n t (i+1)) (si (i))) (by simp![W1 k n (c7 n t i) t h a,Wm];rfl),execs])];have:((λj=>D.n (i+j))∘Nat.succ)=λj=>D.n (i+1+j):=by funext j;show D.n (i+(j+1))=_;rw[show i+(j+1)=i+1+j by lia]
  rw[this,e,show i+1+m=i+(m+1)by lia]
def uz(k n t)(h)(a:n<=20):call prog (k+2) "_law_closed" [.i n,.i t] h=.j (.i (c7 n t n)) h:=by rw[Gb rfl _ _ _ rfl];obtain⟨b,e⟩:=JP k n t a h n 0 u0;simp[Am5]at e;simp only[qF];rw[za rfl];rw[za (by rw[exec,mr rfl (Nat.le_trans ‹_› (by decide)),R.ax];exact e)];rw[qa rfl,Ga _ _ _ rfl]
def MG(a b:Nat):KC (a:Int) (b:Int)=y0 ((a^^^b:Nat):Int):=rfl
def AX(k n)(h)(l:n<=4):call prog (k+1) "_law_same" [.i n] h=.j (.i (Wf.bH n)) h:=by
 rw[Gb rfl _ _ _ rfl];have e:eval (k8 k) qs [si n] h=.j (.j (aB ((Aa7 n).j λa=>2^(a*n+a)))) h:=by
  unfold qs;rw[xp (λa=>.n _) rfl (Nat.le_trans ‹_› (by decide)) λa c=>⟨.i _,?_,rfl⟩]
  .rw[aB,Ad7];rfl
  .have j:=je a n (by lia);have g:=z9 (a*n+a) (by have:=Wf.place_lt c c;have:=Ji (show n<=20 by lia);lia);have f:(((a*n:Nat):Int)+(a:Int))=((a*n+a:Nat):Int):=rfl;simp![j,Qc,f,g]
 have i:((Aa7 n).j λa=>2^(a*n+a)).Y=Wf.bH n:=by
  have:n=0\/n=1\/n=2\/n=3\/n=4:=by lia
  rcases this with rfl|rfl|rfl|rfl|rfl<;>decide+kernel
 have d:ek .sum [.j (aB ((Aa7 n).j λa=>2^(a*n+a)))] h=.j (.i (Wf.bH n)) h:=by show(R.of h ((y0 (aB ((Aa7 n).j λa=>2^(a*n+a)))).p λb=>if b.e<=bq then Kk b else u0)).p _=_;rw[Af6,if_pos (by rw[Gg,aB,Aa,Aa,Ai2];exact Nat.le_trans ‹_› (by decide)),jT,i];rfl
 simp only[qO];rw[qa (w:=.i (Wf.bH n)) (h1:=h) (Ja rfl (by simp![e,d])),Ga _ _ _ rfl]
def jQ(k n s t)(h)(a:n<=20):(call prog (k+2) "_law_two" [.s xF,.i n,.i s,.i t] h=.j (.i (s|||t)) h∧
 call prog (k+2) "_law_two" [.s zz,.i n,.i s,.i t] h=.j (.i (s&&&t)) h)∧
 call prog (k+2) "_law_two" [.s jh,.i n,.i s,.i t] h=.j (.i (Wf.joinM n s t)) h:=by
 refine⟨⟨?_,?_⟩,?_⟩
 all_goals
  rw[Gb rfl _ _ _ rfl];simp only[j4]
 .show Gx _ (execs _ _ [y0 _,si n,si s,si t] h)=_;rw[Zf (w:=.i (s|||t)) (Jk (s:=xF) _ rfl) (Ja rfl (by simp![wn,Wm])),Ga _ _ _ rfl]
 .show Gx _ (execs _ _ [y0 _,si n,si s,si t] h)=_;rw[xa (Jk (s:=zz) _ rfl),Zf (w:=.i (s&&&t)) (Jk (s:=zz) _ rfl) (Ja rfl (by simp![wc,zd])),Ga _ _ _ rfl]
 .show Gx _ (execs _ _ [y0 _,si n,si s,si t] h)=_;rw[xa (Jk (s:=jh) _ rfl),xa (Jk (s:=jh) _ rfl),qa (w:=.i (Wf.joinM n s t)) (h1:=h) (Ja rfl (by simp![W1 k n s t h a])),Ga _ _ _ rfl]
def V.iZ (h:V n s g)(q:V n t f):V n (s&&&((2^(n*n)-1)^^^t)) λa b=>g a b&&!f a b:=⟨Ah8 Nat.and_le_left h.1,λa b i d=>by
 have k:=q.2 a b i d;rw[Ah2,Nat.testBit_xor,Ah1,decide_eq_true (Wf.place_lt i d),Bool.true_xor,Aa0,Aa0,(h.2 a b i d)];constructor
 .rintro⟨j,c⟩;refine⟨j,?_⟩;cases e:f a b with
|false=>rfl
|true=>rw[k.u e]at c;cases c
 .rintro⟨j,c⟩;refine⟨j,?_⟩;cases e:t.j (a*n+b)with
|false=>rfl
|true=>rw[k.p e]at c;cases c⟩
def aQ(N:List Tx)(f:Tx->Nat×Nat):List (Tx×D):=N.j λt=>(t,bf (f t).1 (f t).2)
theorem rQ:∀{N},t∈N->(aQ N f).p t=y0 (bf (f t).1 (f t).2)
|y::N,h=>by
  show Ah9 t ((y,_)::aQ N f)=_;rw[Ab7];by_cases e:t=y
  .subst e;rw[beq_self_eq_true]
  .rw[beq_eq_false_iff_ne.u e];exact rQ ((Ab8.p h).x e)
structure Dc(a b:Wo)(f:Tx->Nat×Nat)(r:Nat)(h:AH):Prop where
 ad:h[r]?=y0 (.p (aQ (a.K++a.T) f))
 n4:a.n<=4
 lo:∀t∈a.K++a.T,V a.n (f t).1 (bp a t)
 hi:∀t∈a.K++a.T,V a.n (f t).2 (bp b t)
noncomputable abbrev kh(n r:Nat)(d:D)(s:Tx)(c x6 a b e:Option W):Sl:=[si n,y0 (.r r),sv d,y0 (.s s),si (2^(n*n)-1),c,x6,a,b,e]
def JR(s)(a:List Tx)(h):Gr .p (.s s) (.j (a.j .p)) h=y0 (u9 (s∈a)):=Xz s a (.j _) h rfl
section
variable{m n r:Nat}{h:AH}
def xU(d:n<=4)(z:execs (k8 m) (match ay.j with|.j _ (.j _ r)=>r|r=>r) (kh n r (.u (.p s::ds)) s u0 u0 u0 u0 u0) h=.j w h)(c:Gx h.e (.j w h)=.j w h):call prog (m+1) "_law_bounds" [.i n,.r r,.t (.p s::ds)] h=.j w h:=by
 rw[Gb rfl _ _ _ rfl];simp only[ay]at z⊢;have b:=z9 (n*n) (by have:=Ji (show n<=20 by lia);exact Nat.le_trans ‹_› (by decide));have a:((2^(n*n):Nat):Int)-1=((2^(n*n)-1:Nat):Int):=by have:=Ad5 (n*n);lia
 refine fx (by simp![ab,jf];rfl) ?_;rw[za (τ1:=kh n r (.u (.p s::ds)) s u0 u0 u0 u0 u0) (h1:=h) (by simp![(je n n (Nat.lt_of_le_of_lt ‹_› (by decide))),b,we,a]),z];exact c
def LZ(a:n<=4)(e:h[r]?=y0 (.p kvs))(l:kvs.p t=y0 d):call prog (m+1) "_law_bounds" [.i n,.r r,.t [.p zh,.p t]] h=.j (.v d) h:=by
 refine xU a ?_ (Ga _ _ _ rfl);simp only[ay];have dd:GV h (y0 (.r r))=y0 (r,kvs):=by unfold GV;simp[e]
 have dg:fh (.s t) (y0 (r,kvs)) h=ak d h:=by unfold fh;simp[l]
 rw[Zf (w:=.v d) (Jk (s:=zh) _ rfl) (Ja rfl (by simp![dd,ab,qg,dg]))]
def rz(d:n<=4)(i:(s==zh)=y9)(f:s∈[Qg,Xn,wh])(a:List.lookup s [(Qg,Wf.bH n),(Xn,2^(n*n)-1),(wh,0)]=y0 v):call prog (m+2) "_law_bounds" [.i n,.r r,.t [.p s]] h=.j (.v (bf v v)) h:=by
 refine xU d ?_ (Ga _ _ _ rfl);simp only[ay];have j:Gm (k8 (m+1)) (.y .p .L (.w (.c (.p Qg) (.p Xn) (.p wh)))) (kh n r (.u [.p s]) s u0 u0 u0 u0 u0) h=.j k9 h:=by have:=JR s [Qg,Xn,wh] h;simp only[Ab2,Af2]at this;simp![this,decide_eq_true f]
 have g:gF [(Qg,.i (Wf.bH n)),(Xn,.i (2^(n*n)-1)),(wh,.v (.o 0))] (y0 (.s s)) h=.j (.i v) h:=by
  unfold gF;simp only[Ab7,List.lookup_nil]at a⊢;cases c:s==Qg with
|true=>rw[c]at a;cases a;rfl
|false=>
   rw[c]at a;cases b:s==Xn with
|true=>rw[b]at a;cases a;rfl
|false=>
    rw[b]at a;cases e:s==wh with
|true=>rw[e]at a;cases a;rfl
|false=>rw[e]at a;cases a
 rw[xa ((Jk _ rfl).j (by rw[i]))];rw[qa];refine(Qq j).j ?_;refine(za (by simp![AX m n h d,g];rfl)).j ?_;rw[qa (w:=.v (bf v v)) (h1:=h) (Ja rfl (by simp![]))]
def tu(a:aW (.p s::ds) i=y0 d)(e:call prog m "_law_bounds" [.i n,.r r,.v d] h=.j (.v (bf v u)) h):eval (k8 m) (.j "_law_bounds" (.c .A .G (.B .K (.o i)))) (kh n r (.u (.p s::ds)) s x5 x6 x7 x8 x9) h=.j (.v (bf v u)) h:=by simp![ab,a,e]
def oV(b:n<=4)(f:(s==zh)=y9)(a:s∉[Qg,Xn,wh])(e:call prog m "_law_bounds" [.i n,.r r,.v d] h=.j (.v (bf v u)) h)
 (z:execs (k8 m) (match ay.j with|.j _ (.j _ (.j _ (.j _ (.j _ r))))=>r|r=>r) (kh n r (.u (.p s::d::ds)) s u0 (si v) (si u) u0 u0) h=.j w h)(c:Gx h.e (.j w h)=.j w h):call prog (m+1) "_law_bounds" [.i n,.r r,.t (.p s::d::ds)] h=.j w h:=by
 refine xU b ?_ c;simp only[ay]at z⊢;have g:Gm (k8 m) (.y .p .L (.w (.c (.p Qg) (.p Xn) (.p wh)))) (kh n r (.u (.p s::d::ds)) s u0 u0 u0 u0 u0) h=.j y9 h:=by have:=JR s [Qg,Xn,wh] h;simp only[Ab2,Af2]at this;simp![this,decide_eq_false a]
 rw[xa ((Jk _ rfl).j (by rw[f])),xa g];refine(za (by rw[exec,tu (Qr _ _ _) e,R.ax];rfl)).j ?_;exact z
def Fs(a:n<=4)(e:call prog (m+1) "_law_bounds" [.i n,.r r,.v d] h=.j (.v (bf v u)) h):call prog (m+2) "_law_bounds" [.i n,.r r,.t [.p Xi,d]] h=.j (.v (bf (Wf.bL n v) (Wf.bL n u))) h:=by refine oV a rfl (by decide) e ?_ (Ga _ _ _ rfl);simp only[ay];rw[Zf (w:=.v (bf (Wf.bL n v) (Wf.bL n u))) (Jk (s:=Xi) _ rfl) (Ja rfl (by simp![yT m n v h (Nat.le_trans ‹_› (by decide)),yT m n u h (Nat.le_trans ‹_› (by decide))]))]
def CP(a:n<=4)(e:call prog (m+2) "_law_bounds" [.i n,.r r,.v d] h=.j (.v (bf v u)) h):call prog (m+3) "_law_bounds" [.i n,.r r,.t [.p zj,d]] h=.j (.v (bf (c7 n v n) (c7 n u n))) h:=by refine oV a rfl (by decide) e ?_ (Ga _ _ _ rfl);simp only[ay];rw[xa (Jk (s:=zj) _ rfl),Zf (w:=.v (bf (c7 n v n) (c7 n u n))) (Jk (s:=zj) _ rfl) (Ja rfl (by simp![uz m n v h (Nat.le_trans ‹_› (by decide)),uz m n u h (Nat.le_trans ‹_› (by decide))]))]
def sJ(c:n<=4)(i:(s==zh)=y9)(a:s∉[Qg,Xn,wh])(h1:(s==Xi)=y9)(f:(s==zj)=y9)(e:call prog m "_law_bounds" [.i n,.r r,.v d] h=.j (.v (bf v u)) h)(b:call prog m "_law_bounds" [.i n,.r r,.v d'] h=.j (.v (bf v' u')) h)
 (z:execs (k8 m) (match ay.j with|.j _ (.j _ (.j _ (.j _ (.j _ (.j _ (.j _ (.j _ r)))))))=>r|r=>r) (kh n r (.u [.p s,d,d']) s u0 (si v) (si u) (si v') (si u')) h=.j w h)(g:Gx h.e (.j w h)=.j w h):call prog (m+1) "_law_bounds" [.i n,.r r,.t [.p s,d,d']] h=.j w h:=by
 refine oV c i a e ?_ g;simp only[ay]at z⊢;rw[xa ((Jk _ rfl).j (by rw[h1])),xa ((Jk _ rfl).j (by rw[f]))];refine(za (by rw[exec,tu (JE _ _ _) b,R.ax];rfl)).j ?_;exact z
def EW(c:n<=4)(e:call prog m "_law_bounds" [.i n,.r r,.v d] h=.j (.v (bf v u)) h)(a:call prog m "_law_bounds" [.i n,.r r,.v d'] h=.j (.v (bf v' u')) h):call prog (m+1) "_law_bounds" [.i n,.r r,.t [.p zq,d,d']] h=.j (.v (bf (v&&&((2^(n*n)-1)^^^u')) (u&&&((2^(n*n)-1)^^^v')))) h:=by refine sJ c rfl (by decide) rfl rfl e a ?_ (Ga _ _ _ rfl);simp only[ay];have b:∀i j:Int,Gi .bxor i j=KC i j:=λ_ _=>rfl;rw[Zf (w:=.v (bf (v&&&((2^(n*n)-1)^^^u')) (u&&&((2^(n*n)-1)^^^v')))) (Jk (s:=zq) _ rfl) (Ja rfl (by simp![b,MG,wc,zd]))]
def pN(f:n<=4)(k:(s==zh)=y9)(a:s∉[Qg,Xn,wh])(h1:(s==Xi)=y9)(i:(s==zj)=y9)(g:(s==zq)=y9)(e:call prog m "_law_bounds" [.i n,.r r,.v d] h=.j (.v (bf v u)) h)(b:call prog m "_law_bounds" [.i n,.r r,.v d'] h=.j (.v (bf v' u')) h)
 (c:call prog m "_law_two" [.s s,.i n,.i v,.i v'] h=.j (.i x) h)(j:call prog m "_law_two" [.s s,.i n,.i u,.i u'] h=.j (.i y) h):call prog (m+1) "_law_bounds" [.i n,.r r,.t [.p s,d,d']] h=.j (.v (bf x y)) h:=by
 refine sJ f k a h1 i e b ?_ (Ga _ _ _ rfl);simp only[ay];rw[xa ((Jk _ rfl).j (by rw[g])),qa (w:=.v (bf x y)) (h1:=h) (Ja rfl (by simp![c,j]))]
end
def zm(P:Dc a b f r h):∀e m,e.j+4<=m->e.y (a.K++a.T)->∃v u,B a b e v u/\call prog m "_law_bounds" [.i a.n,.r r,.v (aV e)] h=.j (.v (bf v u)) h:=by
 have n4:=P.n4;intro e;induction e with
|name t=>intro m g wf;obtain⟨k,rfl⟩:=nk m 1 (Nat.le_trans (Nat.le_add_left _ _) ‹_›);exact⟨_,_,⟨P.lo t wf,P.hi t wf⟩,LZ n4 P.ad (rQ wf)⟩
|same=>intro m g wf;obtain⟨k,rfl⟩:=nk m 2 (Nat.le_trans (Nat.le_add_left _ _) ‹_›);exact⟨_,_,⟨V.leaf.1,V.leaf.1⟩,rz n4 rfl (by decide) rfl⟩
|all=>intro m g wf;obtain⟨k,rfl⟩:=nk m 2 (Nat.le_trans (Nat.le_add_left _ _) ‹_›);exact⟨_,_,⟨V.leaf.2.1,V.leaf.2.1⟩,rz n4 rfl (by decide) rfl⟩
|none=>intro m g wf;obtain⟨k,rfl⟩:=nk m 2 (Nat.le_trans (Nat.le_add_left _ _) ‹_›);exact⟨_,_,⟨V.leaf.2.2,V.leaf.2.2⟩,rz n4 rfl (by decide) rfl⟩
|turned c s=>intro m g wf;simp only[Ex.dp]at g;obtain⟨k,rfl⟩:=nk m 2 (Nat.le_trans (Nat.le_add_left _ _) ‹_›);obtain⟨v,u,q,e1⟩:=s (k+1) (Nat.le_of_lt_succ ‹_›) wf;exact⟨_,_,⟨q.j.A,q.p.A⟩,Fs n4 e1⟩
|closed c s=>intro m g wf;simp only[Ex.dp]at g;obtain⟨k,rfl⟩:=nk m 3 (Nat.le_trans (Nat.le_add_left _ _) ‹_›);obtain⟨v,u,q,e1⟩:=s (k+2) (Nat.le_of_lt_succ ‹_›) wf;exact⟨_,_,⟨q.j.x (uS q.j.1),q.p.x (uS q.p.1)⟩,CP n4 e1⟩
|plus c d j i=>intro m g wf;simp only[Ex.dp]at g;obtain⟨k,rfl⟩:=nk m 3 (Nat.le_trans (Nat.le_add_left _ _) ‹_›);obtain⟨v,u,q,e1⟩:=j (k+2) (by lia) wf.1;obtain⟨p,o,n,l⟩:=i (k+2) (by lia) wf.2;exact⟨_,_,⟨q.j.plus n.j,q.p.plus n.p⟩,pN n4 rfl (by decide) rfl rfl rfl e1 l (jQ k a.n v p h (Nat.le_trans ‹_› (by decide))).1.1 (jQ k a.n u o h (Nat.le_trans ‹_› (by decide))).1.1⟩
|less c d j i=>intro m g wf;simp only[Ex.dp]at g;obtain⟨k,rfl⟩:=nk m 3 (Nat.le_trans (Nat.le_add_left _ _) ‹_›);obtain⟨v,u,q,e1⟩:=j (k+2) (by lia) wf.1;obtain⟨p,o,n,l⟩:=i (k+2) (by lia) wf.2;exact⟨_,_,⟨q.j.iZ n.p,q.p.iZ n.j⟩,EW n4 e1 l⟩
|both c d j i=>intro m g wf;simp only[Ex.dp]at g;obtain⟨k,rfl⟩:=nk m 3 (Nat.le_trans (Nat.le_add_left _ _) ‹_›);obtain⟨v,u,q,e1⟩:=j (k+2) (by lia) wf.1;obtain⟨p,o,n,l⟩:=i (k+2) (by lia) wf.2;exact⟨_,_,⟨q.j.both n.j,q.p.both n.p⟩,pN n4 rfl (by decide) rfl rfl rfl e1 l (jQ k a.n v p h (Nat.le_trans ‹_› (by decide))).1.2 (jQ k a.n u o h (Nat.le_trans ‹_› (by decide))).1.2⟩
|joined c d j i=>intro m g wf;simp only[Ex.dp]at g;obtain⟨k,rfl⟩:=nk m 3 (Nat.le_trans (Nat.le_add_left _ _) ‹_›);obtain⟨v,u,q,e1⟩:=j (k+2) (by lia) wf.1;obtain⟨p,o,n,l⟩:=i (k+2) (by lia) wf.2;exact⟨_,_,⟨q.j.u n.j,q.p.u n.p⟩,pN n4 rfl (by decide) rfl rfl rfl e1 l (jQ k a.n v p h (Nat.le_trans ‹_› (by decide))).2 (jQ k a.n u o h (Nat.le_trans ‹_› (by decide))).2⟩
noncomputable def lF:Nat->Nat->Nat
|0,_=>0
|L+1,v=>v%2+lF L (v/2)
theorem pS:∀(L v),lF L v=((Aa7 L).T v.j).e
|0,_=>rfl
|L+1,v=>by
  rw[lF,pS L,Ah3,Al5,An7];have e:(v.j∘Nat.succ)=(v/2).j:=by funext i;exact Nat.testBit_succ v i
  rw[e];by_cases q:v%2=1
  .rw[if_pos (by rw[Nat.testBit_zero,decide_eq_true q]),Aa8,Aa,q];lia
  .rw[if_neg (by rw[Nat.testBit_zero,decide_eq_false q];exact Ab9),Aa];lia
abbrev my(v a:Nat):Sl:=[si v,si a]
theorem tE(h):∀L f v a,v<2^L->L<f->GG (λτ h=>Gm F zn τ h) (λτ h=>execs F jn τ h) f (my v a) h=.p (my 0 (a+lF L v)) h
|L,0,v,a,_,b=>absurd b (Ag6 _)
|L,f+1,v,a,c,b=>by
  have e:Gm F zn (my v a) h=.j (u9 (0<v)) h:=by
   have:Gr .gt (.i v) (.v (.o 0)) h=y0 (u9 (0<v)):=by show y0 (u9 (0<(v:Int)))=_;congr 1;exact decide_eq_decide.u (by lia)
   unfold zn;simp![this]
  rw[GG,e,R.ax];by_cases q:0<v
  .cases L with
|zero=>simp at c;lia
|succ L=>
    have d:execs F jn (my v a) h=.p (my (v/2) (a+v%2)) h:=by have i:Gi .x v 2=y0 ((v%2:Nat):Int):=rG v 2 (by decide);have g:Gi .fdiv v 2=y0 ((v/2:Nat):Int):=Hy v 2 (by decide) (by decide);unfold jn;simp![i,g,Ph]
    rw[decide_eq_true q];simp only[d];rw[tE h L f (v/2) (a+v%2) (by rw[Nat.pow_succ]at c;lia) (Nat.le_of_lt_succ ‹_›),lF,Nat.add_assoc]
  .have v0:v=0:=by lia
   subst v0;have z:lF L 0=0:=by rw[pS];simp
   rw[decide_eq_false q,z];rfl
def qV(k L v)(h)(b:L<=16)(a:v<2^L):call prog (k+1) "_law_many" [.i v] h=.j (.v (.o ((((List.range L).T v.j).e:Nat):Int))) h:=by rw[Gb rfl _ _ _ rfl];simp only[wO];rw[za rfl];rw[za (by rw[exec];exact tE h L 100000 v 0 a (Nat.lt_of_le_of_lt ‹_› (by decide)))];rw[qa rfl,Ga _ _ _ rfl,Am5,pS]
def o7{F:Fx}{e:E}{τ:Sl}{h:AH}{b:Bool}(q:eval F e τ h=.j (.b b) h):eval F (.B (.w (.b .aw (.C y9))) (.bi .int (.j e .p))) τ h=.j (.v (aH (xS y9 b))) h:=by
 have e1:eval F (.bi .int (.j e .p)) τ h=.j (.i b.j) h:=by rw[eval,Gc,q];rfl
 rw[eval,show eval F _ τ h=.j _ h from rfl,R.ae,e1,R.ae,qN];cases b<;>rfl
def nh{F:Fx}{τ:Sl}{i j:Nat}{ps:List (Nat×Nat)}{h:AH}{o:Cp}(p:Nat->Bool)(g:ps.e<=4)(b:Gk F (.j .K) τ h=.j (ps.j pD) h)(c:Gj τ 1=si j)(e:i=0\/i=1)(a:∀x:Nat,Gr o (.i x) (.i j) h=y0 (p x)):
 eval F (.N [0,1] y9 2 [1] (.j .K) y9 (.C k9) (.y o (.X i) .K)) τ h=.j (.j ((ps.j λq=>p (if i=0 then q.1 else q.2)).j .C)) h:=by
 rw[Zl (h:=h) (ds:=ps.j pD) (λd=>match d with|.u [.o x,.o y]=>.C (p (if i=0 then x.j else y.j))|d=>d) b (by rw[Gg,Aa];exact Nat.le_trans ‹_› (by decide))]
 .simp[Function.comp_def,pD]
 .intro k f;obtain⟨q,_,rfl⟩:=Ac1.p f;refine⟨[si (q.1),si (q.2),si j],?_,?_⟩
  .rw[Ab2,Af2,c];rfl
  .obtain rfl|rfl:=e
   .exact⟨.b (p q.1),by simp![a],by simp[pD]⟩
   .exact⟨.b (p q.2),by simp![a],by simp[pD]⟩
def pK{F:Fx}{e:E}{a:Ss}{b:Ss}{τ:Sl}{h:AH}{x y:Bool}(c:eval F e τ h=.j (.b x) h)(z:execs F b τ h=.j (.v (aH (xS y9 y))) h):execs F (.j (.r e (.C k9)) b) τ h=.j (.v (aH (xS x y))) h:=by
 have t:Gm F e τ h=.j x h:=by rw[Gm,c,R.ae];rfl
 cases x with
|true=>exact qa ((Qq t).j (qa rfl))
|false=>rw[xa t];exact z
def Dt(k j:Nat)(up:Bool){w:W}{ps:List (Nat×Nat)}(h:AH)(c:ps.e<=4)(e:∀a b:Option W,Gk (k8 k) (.j .K) [a,b,y0 w] h=.j (ps.j pD) h):
 call prog (k+1) "_law_ruled" [.b up,.i j,w] h=.j (.v (aH (if up then xS ((ps.j (·.1)).N fun x=>decide (j<=x)) ((ps.j (·.2)).A fun x=>decide (x<j))else xS ((ps.j (·.2)).N fun x=>decide (x<=j)) ((ps.j (·.1)).A fun x=>decide (j<x))))) h:=by
 rw[Gb (d:=Zw) rfl _ _ _ rfl];show Gx _ (execs _ _ [y0 _,si j,y0 w] h)=_;simp only[Zw,wy,Xy,Wz,qy];have f:=Wx (nh (F:=(k8 k)) (τ:=[y0 (.b up),si j,y0 w]) (i:=0) (λx=>decide _) c (e _ _) rfl (.p rfl) (λx=>AK j x h));have g:=wG (nh (F:=(k8 k)) (τ:=[y0 (.b up),si j,y0 w]) (i:=1) (λx=>decide _) c (e _ _) rfl (.u rfl) (λx=>oF j x h));have e2:=Wx (nh (F:=(k8 k)) (τ:=[y0 (.b up),si j,y0 w]) (i:=1) (λx=>u9 (x<=j)) c (e _ _) rfl (.u rfl) (λx=>AN j x h));have e1:=wG (nh (F:=(k8 k)) (τ:=[y0 (.b up),si j,y0 w]) (i:=0) (λx=>u9 (j<x)) c (e _ _) rfl (.p rfl) (λx=>iz j x h));rw[ri]at f e2;rw[rk]at g e1;rw[An8,Ap8,An8,Ap8];cases up with
|true=>rw[qa (w:=.v _) (h1:=h) ((Qq (h1:=h) rfl).j (pK (a:=.p) f (qa (Ja rfl (o7 g))))),Ga _ _ _ rfl];rfl
|false=>rw[xa rfl,pK (a:=.p) e2 (qa (Ja rfl (o7 e1))),Ga _ _ _ rfl];rfl
def Ay(u v):u9 (u&&&v=u)=u9 (u-(u&&&v)=0):=by have:=@Nat.and_le_left u v;exact decide_eq_decide.u (by lia)
def tQ(i j)(h):Gr .u (.i i) (.i j) h=y0 (!u9 (i=j)):=by have this:=Zj i j h;exact congrArg (Option.map (!·)) this
def Nv(k v u v' u')(h):call prog (k+1) "_law_within" [.v (bf v u),.v (bf v' u')] h=.j (.v (aH (ej v u v' u'))) h:=by rw[Gb rfl _ _ _ rfl];simp only[WE];rw[pK (a:=.p) (x:=u9 (u&&&v'=u)) (y:=!u9 (v&&&u'=v)) (by simp![ab,Xh,qg,wc,zd,Zj]) (qa (Ja rfl (o7 (by simp![ab,Xh,qg,wc,zd,tQ])))),Ga _ _ _ rfl,ej,Ay,Ay]
abbrev mE(n r:Nat)(d:D)(s:Tx)(x4 b x6 a:Option W):Sl:=[si n,y0 (.r r),sv d,y0 (.s s),x4,b,x6,a]
def sL(n v a):((Aa7 n).T (v/2^(a*n)&&&(2^n-1)).j).e=fj n (tb n v) a:=by rw[Wt,fj];congr 1;refine Ai4 λb c=>?_;rw[Af5,Ag9,decide_eq_true (Ac0.p c),Ae6,Ah,Aq0]
section
variable{m n r:Nat}{h:AH}
def rp(B:n<=4)(J:s∈[Qa,xc,wb,zi])(H:v<2^(n*n))(G:u<2^(n*n))(e:call prog (m+1) "_law_bounds" [.i n,.r r,.v x] h=.j (.v (bf v u)) h):
 execs (k8 (m+1)) (match bw.j with|.j _ (.j _ r)=>r|r=>r) (mE n r (.u [.p s,.n j,x]) s u0 u0 u0 u0) h=.j (.v (aH (xM s j (Qk n v s) (Qk n u s)))) h:=by
 have g:n*n<=16:=Ag1 B B;simp only[bw];refine(za (by rw[exec];simp![ab,JE,e];rfl)).j ?_;have y:Gm (k8 (m+1)) (.or (.y .j .L (.p Qa)) (.y .j .L (.p xc))) (mE n r (.u [.p s,.n j,x]) s (si v) (si u) u0 u0) h=.j (s==Qa||s==xc) h:=by rw[Gm,kJ (a:=s==Qa) (b:=s==xc) (by simp![xb]) (by simp![xb]),R.ae];rfl
 have i:∀(w:W)(p:List (Nat×Nat))(X:Tx),p.e<=4->(∀a b:Option W,Gk (k8 m) (.j .K) [a,b,y0 w] h=.j (p.j pD) h)->call prog _ "_law_ruled" [.b _,.i j,w] h=.j _ h:=fun w p X f F=>Dt m j (s==X) h f F;have up:(s∈[Qa,wb])↔(s==Qa)=k9\/(s==wb)=true:=by simp
 by_cases c:(s==Qa||s==xc)=k9
 .have d:s∈[Qa,xc]:=by simpa using c
  have ne:(s==wb)=false:=by
   have:∀s∈[Qa,xc],(s==wb)=false:=by decide
   exact this s d
  have k:=i (.p [bf (jB n v).Y (jB n u).Y]) [((jB n v).Y,(jB n u).Y)] Qa (by simp) (λa b=>rfl);have o:call prog (m+1) "_law_many" [.i v] h=.j (.i ((jB n v).Y)) h:=by rw[qV m _ v h g H,qH n v n,jB]
  have l:call prog (m+1) "_law_many" [.i u] h=.j (.i ((jB n u).Y)) h:=by rw[qV m _ u h g G,qH n u n,jB]
  rw[qa (w:=.v (aH (xM s j (Qk n v s) (Qk n u s)))) (h1:=h)];refine(Qq (h1:=h) (by rw[y,c])).j (qa (Ja rfl ?_));rw[xM,Qk,Qk,if_pos d,if_pos d];simp![xb,ab,Qr,o,l,k];have iff:(s∈[Qa,wb])↔(s==Qa)=true:=up.j (by rw[ne];simp);by_cases q:s∈[Qa,wb]
  .rw[if_pos q,if_pos (iff.p q)]
  .rw[if_neg q,if_neg λz=>q (iff.u z)]
 .have t:(s==Qa||s==xc)=false:=by simpa using c
  have d:s∉[Qa,xc]:=by simpa using c
  have ne:(s==Qa)=false:=by rw[Bool.or_eq_false_iff]at t;exact t.1
  rw[xa (by rw[y,t])];have E:=z9 n (Nat.le_trans ‹_› (by decide));have f:((2^n:Nat):Int)-1=((2^n-1:Nat):Int):=by have:=Ad5 n;lia
  refine(za (by simp![E,we,f];rfl)).j ?_;have D:eval (k8 (m+1)) Xr (mE n r (.u [.p s,.n j,x]) s (si v) (si u) (si (2^n-1)) u0) h=.j (.j (((jB n v).a0 (jB n u)).j pD)) h:=by
   unfold Xr;rw[xp (n:=n) (λa=>bf (fj n (tb n v) a) (fj n (tb n u) a)) rfl (Nat.le_trans ‹_› (by decide)) λa I=>⟨.v _,?_,rfl⟩]
   .rw[jB,jB,List.zip_map',Ad7];rfl
   .have C:Gi .w (a:Int) (n:Int)=y0 _:=je a n (by lia);have lt:∀w:Nat,(w/2^(a*n)&&&(2^n-1))<2^n:=λw=>by rw[Af5];exact Ai9 _ (Ad5 n)
    have o:call prog (m+1) "_law_many" [.i (v/2^(a*n)&&&(2^n-1))] h=.j (.i (fj n (tb n v) a)) h:=by rw[qV m n _ h (Nat.le_trans ‹_› (by decide)) (lt v),sL]
    have l:call prog (m+1) "_law_many" [.i (u/2^(a*n)&&&(2^n-1))] h=.j (.i (fj n (tb n u) a)) h:=by rw[qV m n _ h (Nat.le_trans ‹_› (by decide)) (lt u),sL]
    simp![C,Xo,wc,zd,o,l]
  have A:(jB n v).e=(jB n u).e:=by simp[jB]
  have k:=i (.l (((jB n v).a0 (jB n u)).j pD)) ((jB n v).a0 (jB n u)) wb (by rw[Al7];simp[jB];exact Nat.le_trans ‹_› (by decide)) (λa b=>rfl);rw[List.map_fst_zip (Al4 A),List.map_snd_zip (Al4 A.p)]at k;refine(za (by rw[exec,D];rfl)).j ?_;rw[qa (w:=.v (aH (xM s j (Qk n v s) (Qk n u s)))) (h1:=h)];refine Ja rfl ?_;rw[xM,Qk,Qk,if_neg d,if_neg d];simp![xb,ab,Qr,k];have iff:(s∈[Qa,wb])↔(s==wb)=true:=up.j (by rw[ne];simp);by_cases q:s∈[Qa,wb]
  .rw[if_pos q,if_pos (iff.p q)]
  .rw[if_neg q,if_neg λz=>q (iff.u z)]
def Dp(f:n<=4)(d:s∈[Qa,xc,wb,zi])(i:v<2^(n*n))(g:u<2^(n*n))(e:call prog (m+1) "_law_bounds" [.i n,.r r,.v x] h=.j (.v (bf v u)) h):call prog (m+2) "_law_fact" [.i n,.r r,.t [.p s,.n j,x]] h=.j (.v (aH (xM s j (Qk n v s) (Qk n u s)))) h:=by
 have z:=rp (j:=j) f d i g e;rw[Gb rfl _ _ _ rfl];simp only[bw]at z⊢;have c:=by
  have:∀s∈[Qa,xc,wb,zi],(s==Wj)=y9/\(s==Q1)=false:=by decide
  exact this s d
 refine fx (by simp![jf];rfl) ?_;rw[xa (by rw[Gm,kJ (a:=s==Wj) (b:=s==Q1) (by simp![xb]) (by simp![xb]),R.ae,c.1,c.2];rfl),z,Ga _ _ _ rfl]
def sT{b:Bool}(c:n<=4)(f:v<2^(n*n))(a:u<2^(n*n))(e:call prog (m+1) "_law_bounds" [.i n,.r r,.v x] h=.j (.v (bf v u)) h):call prog (m+2) "_law_fact" [.i n,.r r,.t [.p (if b then Wj else Q1),x]] h=.j (.v (aH (xM (if b then Qa else xc) b.j (Qk n v (if b then Qa else xc)) (Qk n u (if b then Qa else xc))))) h:=by
 cases b with
|true=>have z:=rp (s:=Qa) (j:=1) c (by decide) f a e;rw[Gb rfl _ _ _ rfl];simp only[bw]at z⊢;refine fx (by simp![ab,jf];rfl) ?_;rw[za (τ1:=mE n r (.u [.p Qa,.n (1),x]) Qa u0 u0 u0 u0) rfl,z,Ga _ _ _ rfl];rfl
|false=>have z:=rp (s:=xc) (j:=0) c (by decide) f a e;rw[Gb (d:=bw) rfl _ _ _ rfl];simp only[bw]at z⊢;refine fx (by simp![ab,jf];rfl) ?_;rw[za (τ1:=mE n r (.u [.p xc,.n (0),x]) xc u0 u0 u0 u0) (h1:=h) rfl,z,Ga _ _ _ rfl];rfl
end
abbrev hM(n r:Nat)(d:D)(s:Tx)(x4 a x6:Option W):Sl:=[si n,y0 (.r r),sv d,y0 (.s s),x4,a,x6]
def EG(b)(p q)(h):Gr .p (.b b) (.l [aH p,aH q]) h=y0 (p==y0 b||q==y0 b):=by
 cases b<;>rcases p with _|_|_<;>rcases q with _|_|_<;>rfl
def O5(p q)(h):Gr .p (.v .T) (.l [aH p,aH q]) h=y0 (p==u0||q==u0):=by
 rcases p with _|_|_<;>rcases q with _|_|_<;>rfl
def LH(b)(p q:Option Bool)(c:(p==y0 b||q==y0 b)=k9):y0 b=if b then f9 p q else eR p q:=by
 cases b<;>rcases p with _|_|_<;>rcases q with _|_|_<;>first|rfl|cases c
def Od(b)(p q:Option Bool)(a:(p==y0 b||q==y0 b)=y9)(c:(p==u0||q==u0)=k9):u0=if b then f9 p q else eR p q:=by
 cases b<;>rcases p with _|_|_<;>rcases q with _|_|_<;>first|rfl|exact absurd a (by decide)|exact absurd c (by decide)
def FK(b)(p q)(a:(p==y0 b||q==y0 b)=y9)(c:(p==u0||q==u0)=y9):y0 (!b)=if b then f9 p q else eR p q:=by
 cases b<;>rcases p with _|_|_<;>rcases q with _|_|_<;>first|rfl|exact absurd a (by decide)|exact absurd c (by decide)
section
variable{m n r:Nat}{h:AH}
def QA(z:execs (k8 m) (match bh.j with|.j _ r=>r|r=>r) (hM n r (.u (.p s::ds)) s u0 u0 u0) h=.j (.v d) h):call prog (m+1) "_law_told" [.i n,.r r,.t (.p s::ds)] h=.j (.v d) h:=by rw[Gb rfl _ _ _ rfl];simp only[bh]at z⊢;rw[za (τ1:=hM n r (.u (.p s::ds)) s u0 u0 u0) (h1:=h) (by simp![ab,jf]),z,Ga _ _ _ rfl]
def EX(e:call prog m "_law_told" [.i n,.r r,.v x] h=.j (.v (aH p)) h):call prog (m+1) "_law_told" [.i n,.r r,.t [.p WL,x]] h=.j (.v (aH (p.j (!·)))) h:=by
 refine QA ?_;simp only[bh];rw[qa];refine(Qq (Jk (s:=WL) _ rfl)).j ?_;refine(za (by simp![ab,Qr,e];rfl)).j ?_;cases p with
|none=>exact qa ((Qq rfl).j (qa rfl))
|some b=>rw[xa rfl];exact qa (Ja rfl (by simp![];rfl))
def EZ(b:call prog m "_law_told" [.i n,.r r,.v x] h=.j (.v (aH p)) h)(a:call prog m "_law_told" [.i n,.r r,.v y] h=.j (.v (aH q)) h):eval (k8 m) Jr (hM n r d s x4 (some (.l [x,y])) none) h=.j (.j [aH p,aH q]) h:=by exact xY rfl (by assumption) (by assumption)
def yH(g:call prog m "_law_told" [.i n,.r r,.v x] h=.j (.v (aH p)) h)(f:call prog m "_law_told" [.i n,.r r,.v y] h=.j (.v (aH q)) h):execs (k8 m) (.d (.p 6 Jr) (.r (.y .p (.y .j .L (.p jA)) .v6) (.y .j .L (.p jA))) (.r (.y .p .aw .v6) .aw) (.ret (.y .u .L (.p jA)))) (hM n r d s none (some (.l [x,y])) none) h=.j (.v (aH (if s==jA then f9 p q else eR p q))) h:=by
 rw[za (τ1:=hM n r d s u0 _ _) (by rw[exec,EZ g f];rfl)];have c:Gm (k8 m) (.y .p (.y .j .L (.p jA)) .v6) (hM n r d s u0 (y0 (.l [x,y])) (y0 (.l [aH p,aH q]))) h=.j (p==y0 (s==jA)||q==y0 (s==jA)) h:=by simp![xb,EG]
 have e:Gm (k8 m) (.y .p .aw .v6) (hM n r d s u0 (y0 (.l [x,y])) (y0 (.l [aH p,aH q]))) h=.j (p==u0||q==u0) h:=by simp![O5]
 have ne:Gr .u (.s s) (.s jA) h=y0 (!(s==jA)):=by have this:=xb s jA h;exact congrArg (Option.map (!·)) this
 cases a:(p==y0 _||q==y0 _)with
|true=>rw[Zf (w:=.b (s==jA)) (by rw[c,a]) (Ja rfl (by simp![xb]))];rw[←LH _ p q a];rfl
|false=>
  rw[xa (by rw[c,a])];cases b:(p==u0||q==u0)with
|true=>rw[Zf (by rw[e,b]) rfl];rw[←Od _ p q a b];rfl
|false=>rw[xa (by rw[e,b]),qa (w:=.b (!(s==jA))) (h1:=h) (Ja rfl (by simp![ne]))];rw[←FK _ p q a b];rfl
def nH:Gm (k8 m) (.y .p .L (.w (.c (.p qx) (.p jA) (.p zc)))) (hM n r d s u0 u0 u0) h=.j (u9 (s∈[qx,jA,zc])) h:=by have:=JR s [qx,jA,zc] h;simp only[Ab2,Af2]at this;simp![this]
def ux(b:(s==WL)=y9)(e:s∈[qx,jA,zc])(a:(s==zc)=y9)(d:call prog m "_law_told" [.i n,.r r,.v x] h=.j (.v (aH p)) h)(c:call prog m "_law_told" [.i n,.r r,.v y] h=.j (.v (aH q)) h):call prog (m+1) "_law_told" [.i n,.r r,.t [.p s,x,y]] h=.j (.v (aH (if s==jA then f9 p q else eR p q))) h:=by refine QA ?_;simp only[bh];rw[xa ((Jk _ rfl).j (by rw[b])),qa];refine(Qq (by rw[nH,decide_eq_true e])).j ?_;refine(za (by simp![JE];rfl)).j ?_;rw[xa ((Jk _ rfl).j (by rw[a]))];exact yH d c
def BS(b:call prog m "_law_told" [.i n,.r r,.t [.p xH,x,y]] h=.j (.v (aH p)) h)(a:call prog m "_law_told" [.i n,.r r,.t [.p xH,y,x]] h=.j (.v (aH q)) h):call prog (m+1) "_law_told" [.i n,.r r,.t [.p zc,x,y]] h=.j (.v (aH (eR p q))) h:=by refine QA ?_;simp only[bh];rw[xa (Jk (s:=zc) _ rfl),qa];refine(Qq (by rw[nH];rfl)).j ?_;refine(za (by simp![JE];rfl)).j ?_;rw[za ((Qq (Jk (s:=zc) _ rfl)).j (by rw[za (τ1:=hM n r (.u [.p zc,x,y]) zc u0 (y0 (.l [.u [.p xH,x,y],.u [.p xH,y,x]])) u0) (h1:=h) (by simp![ab,Qr,JE]),execs]))];exact yH b a
def pG(b:call prog (m+1) "_law_bounds" [.i n,.r r,.v x] h=.j (.v (bf v u)) h)(a:call prog (m+1) "_law_bounds" [.i n,.r r,.v y] h=.j (.v (bf v' u')) h):call prog (m+2) "_law_told" [.i n,.r r,.t [.p xH,x,y]] h=.j (.v (aH (ej v u v' u'))) h:=by refine QA ?_;simp only[bh];rw[xa (Jk (s:=xH) _ rfl),xa (by rw[nH];rfl),Zf (w:=.v (aH (ej v u v' u'))) (Jk (s:=xH) _ rfl) (Ja rfl (by simp![ab,Qr,JE,b,a,Nv]))]
def Q7(h1:(s==WL)=y9)(b:s∉[qx,jA,zc])(a:(s==xH)=y9)(e:call prog m "_law_fact" [.i n,.r r,.t (.p s::ds)] h=.j (.v d) h):call prog (m+1) "_law_told" [.i n,.r r,.t (.p s::ds)] h=.j (.v d) h:=by refine QA ?_;simp only[bh];rw[xa ((Jk _ rfl).j (by rw[h1])),xa (by rw[nH,decide_eq_false b]),xa ((Jk _ rfl).j (by rw[a])),qa (w:=.v d) (h1:=h) (Ja rfl (by assumption))]
end
def yD(P:Dc a b f r h):∀s m,s.j+8<=m->s.y (a.K++a.T)->∃q,Td a b s q/\call prog m "_law_told" [.i a.n,.r r,.v (aj s)] h=.j (.v (aH q)) h:=by
 have n4:=P.n4;intro s;induction s with
|fact f=>
  intro m c wf;simp only[Sy.dp]at c;cases f with
  |d7 x y=>simp only[Fc.dp]at c;obtain⟨k,rfl⟩:=nk m 2 (Nat.le_trans (Nat.le_add_left _ _) ‹_›);obtain⟨v,u,q,e⟩:=zm P x (k+1) (by lia) wf.1;obtain⟨w,o,l,d⟩:=zm P y (k+1) (by lia) wf.2;exact⟨_,⟨v,u,w,o,q,l,rfl⟩,pG e d⟩
  |eF x y=>simp only[Fc.dp]at c;obtain⟨k,rfl⟩:=nk m 3 (Nat.le_trans (Nat.le_add_left _ _) ‹_›);obtain⟨v,u,q,e⟩:=zm P x (k+1) (by lia) wf.1;obtain⟨w,o,l,d⟩:=zm P y (k+1) (by lia) wf.2;exact⟨_,⟨v,u,w,o,q,l,rfl⟩,BS (pG e d) (pG d e)⟩
  |eD x=>simp only[Fc.dp]at c;obtain⟨k,rfl⟩:=nk m 3 (Nat.le_trans (Nat.le_add_left _ _) ‹_›);obtain⟨v,u,q,e⟩:=zm P x (k+1) (by lia) wf;exact⟨_,⟨v,u,q,rfl⟩,Q7 rfl (by decide) rfl (sT (b:=k9) n4 q.j.1 q.p.1 e)⟩
  |aw x=>simp only[Fc.dp]at c;obtain⟨k,rfl⟩:=nk m 3 (Nat.le_trans (Nat.le_add_left _ _) ‹_›);obtain⟨v,u,q,e⟩:=zm P x (k+1) (by lia) wf;exact⟨_,⟨v,u,q,rfl⟩,Q7 rfl (by decide) rfl (sT (b:=y9) n4 q.j.1 q.p.1 e)⟩
  |cnt s j x=>
   simp only[Fc.dp]at c;obtain⟨k,rfl⟩:=nk m 3 (Nat.le_trans (Nat.le_add_left _ _) ‹_›);obtain⟨v,u,q,e⟩:=zm P x (k+1) (by lia) wf.2;have A:∀s∈[Qa,xc,wb,zi],(s==WL)=y9/\s∉[qx,jA,zc]/\(s==xH)=false:=by decide
   obtain⟨z,C,B⟩:=A s wf.1;exact⟨_,⟨v,u,q,rfl⟩,Q7 z C B (Dp n4 wf.1 q.j.1 q.p.1 e)⟩
|neg x D=>intro m c wf;simp only[Sy.dp]at c;obtain⟨k,rfl⟩:=nk m 1 (Nat.le_trans (Nat.le_add_left _ _) ‹_›);obtain⟨q,t,e⟩:=D k (Nat.le_of_lt_succ ‹_›) wf;exact⟨_,⟨q,t,rfl⟩,EX e⟩
|cK x y i g=>intro m c wf;simp only[Sy.dp]at c;obtain⟨k,rfl⟩:=nk m 1 (Nat.le_trans (Nat.le_add_left _ _) ‹_›);obtain⟨p,t,e⟩:=i k (by lia) wf.1;obtain⟨q,n,d⟩:=g k (by lia) wf.2;exact⟨_,⟨p,q,t,n,rfl⟩,ux (s:=qx) rfl (by decide) rfl e d⟩
|cE x y i g=>intro m c wf;simp only[Sy.dp]at c;obtain⟨k,rfl⟩:=nk m 1 (Nat.le_trans (Nat.le_add_left _ _) ‹_›);obtain⟨p,t,e⟩:=i k (by lia) wf.1;obtain⟨q,n,d⟩:=g k (by lia) wf.2;exact⟨_,⟨p,q,t,n,rfl⟩,ux (s:=jA) rfl (by decide) rfl e d⟩
abbrev ag(ns:List Int)(i:Nat)(v:Int):Cell:=.lst [.w (ns.j .o),.n i,.o v]
def LI:Gi .pow 10 18=y0 1000000000000000000:=by
 have:(0:Int)<=18/\18<=BP/\(10:Int).p<kv:=by rw[G7,GC];decide
 show(if _ then _ else _)=_;rw[if_pos this];rfl
def CY(v)(e:eval F (.B .A (.o 2)) τ h=.j (.v (.o v)) h):Gm F (.not (.chain .le .lt (.o 0) (.B .A (.o 2)) (.x .pow (.o 10) (.o 18)))) τ h=.j (!(u9 (0<=v)&&u9 (v<1000000000000000000))) h:=by
 rw[Gm,eval];rw[show eval F _ τ h=.j (.b (u9 (0<=v)&&u9 (v<1000000000000000000))) h by
  rw[eval,eval,R.ae,e,R.ae];by_cases q:0<=v
  .simp![Q2,WZ,LI,q,decide_true,Ae6]
  .simp![Q2,q,decide_false,Ae5]]
 simp![]
def zg(k:Nat){ns:List Int}{i:Nat}{v:Int}{h:AH}{r m:Nat}(e:h[r]?=y0 (ag ns i v))(C:0<m)(D:m<1073741824):
 ∃(d:Nat)(l:Int),d<m/\call prog (k+1) "_law_draw" [.r r,.i m] h=.j (.i d) (h.x r (ag ns i l)):=by
 rw[Gb (d:=qE) rfl _ _ _ rfl];have a:(0:Int)<(m:Int):=by lia
 have z:r<h.e:=(Aa1.p e).1;have i2:eval (k8 k) (.B .A (.o 2)) [y0 (.r r),si m,u0] h=.j (.v (.o v)) h:=by simp![xv e,lP]
 have g:=CY v i2;show∃d l,_/\Gx _ (execs _ _ [y0 (.r r),si m,u0] h)=_;simp only[qE];have o:∀x:Int,∃d:Nat,d<m/\x%(m:Int)=(d:Int):=λx=>⟨(x%(m:Int)).j,by have:=Ap5 x a;have:=Ao0 x (Int.ne_of_gt a);lia,by have:=Ao0 x (Int.ne_of_gt a);lia⟩;cases c:(u9 (0<=v)&&u9 (v<1000000000000000000))with
|false=>
  obtain⟨d,f,b⟩:=o v;refine⟨d,v/(m:Int),f,?_⟩;have B:ek .divmod [.v (.o v),.i m] h=ak (.u [.o (v/(m:Int)),.n d]) h:=by rw[HW,if_pos ⟨a,by rw[GR];lia⟩,b]
  rw[qa (w:=.i d) (h1:=h.x r (ag ns i (v/(m:Int))))]
  .exact Ga _ h _ (by rw[Ad4])
  refine(Qq (h1:=h) (by rw[g,c];rfl)).j ?_;refine(za (by rw[exec,show eval (k8 k) (.bi .divmod (.b (.B .A (.o 2)) .G)) [y0 (.r r),si m,u0] h=ak (.u [.o (v/(m:Int)),.n d]) h by simp![xv e,lP,B]];simp![ak,gR,Kv,e,O2,Ko,if_true];rfl)).j ?_;exact qa rfl
|true=>
  rw[Aa0,decide_eq_true_eq,decide_eq_true_eq]at c;have y:Gi .w v 742939=y0 (v*742939):=rX _ _ (by decide);have u:Gi .w (i:Int) 65063=y0 ((i:Int)*65063):=rX _ _ (by decide);have j:Gi .x (v*742939+(i:Int)*65063+40503) 16777213=y0 ((v*742939+(i:Int)*65063+40503)%16777213):=XI _ _ (by decide);have t:=Ao0 (v*742939+(i:Int)*65063+40503) (show(16777213:Int)≠0 by decide);have A:=Ap5 (v*742939+(i:Int)*65063+40503) (show(0:Int)<16777213 by decide);generalize F:(v*742939+(i:Int)*65063+40503)%16777213=w at j t A;have i1:eval (k8 k) (.B .A (.o 1)) [y0 (.r r),si m,u0] h=.j (.i i) h:=by simp![xv e,Z6]
  have e2:(h.x r (ag ns i w))[r]?=y0 (ag ns i w):=Ab6 z;obtain⟨d,f,b⟩:=o (w*(w%4093+7)/64);refine⟨d,w,f,?_⟩;rw[xa (by rw[g,decide_eq_true c.1,decide_eq_true c.2];rfl)];rw[za (τ1:=[y0 (.r r),si m,u0]) (h1:=h.x r (ag ns i w)) (Qz (d:=.o w) (xs:=[.w (ns.j .o),.n i,.o v]) (n:=2) (by simp![xv e,Z6,lP,y,u,Qc,j]) rfl e rfl rfl rfl)];have G:=Ao0 w (show(4093:Int)≠0 by decide);have E:=Ap5 w (show(0:Int)<4093 by decide);have q:Gi .x w 4093=y0 (w%4093):=XI _ _ (by decide);have p:Gi .w w (w%4093+7)=y0 (w*(w%4093+7)):=rX _ _ (by lia);have s:Gi .fdiv (w*(w%4093+7)) 64=y0 (w*(w%4093+7)/64):=vI _ _ (by decide) (by decide);have n4:Gi .x (w*(w%4093+7)/64) (m:Int)=y0 ((d:Nat):Int):=by rw[XI _ _ a,b]
  rw[qa (w:=.i d) (h1:=h.x r (ag ns i w)) (Ja rfl (by simp![xv e2,lP,q,Qc,p,s,n4]))];exact Ga _ h _ (by rw[Ad4])
def vv{ns:List Int}(b:ns.e<=63)(q:eval F e τ h=.j (.l (ns.j .o)) h):∃s,eval F (.bi .sum (.a (.fM e (.o j)))) τ h=.j (.v (.o s)) h:=by
 have a:(cut ns u0 (y0 j)).e<=bq:=by have:=OU ns u0 (y0 j);rw[Gg];lia
 refine⟨(cut ns u0 (y0 j)).Y,?_⟩;simp![q,tq,Ox,y4,jY,Aa,a,if_true]
def LL(k)(ns:List Int)(a:ns.e<=63)(h):∃v,call prog (k+1) "_law_start" [.l (ns.j .o)] h=.j (.j [.w (ns.j .o),.n (0),.o v]) h:=by show∃v,Gx _ (execs _ _ [y0 _] h)=_;obtain⟨s,e⟩:=vv (F:=(k8 k)) (e:=.X 0) (τ:=[y0 (.l (ns.j .o))]) (h:=h) (j:=1) a (by simp![]);refine⟨s,?_⟩;simp only[jM];rw[qa (w:=.j [.w (ns.j .o),.n (0),.o s]) (h1:=h) (Jw rfl (by generalize E.bi _ _=X at e⊢;simp![e];rfl)),Gu _ _ _ rfl]
def sr(k)(j:ns.e<=63)(e:h[r]?=y0 (ag ns i v)):
 ∃v':Int,call prog (k+1) "_law_turn" [.r r] h=.j (.v .T) (h.x r (ag ns (i+1) v')):=by
 rw[Gb rfl _ _ _ rfl];have f:r<h.e:=(Aa1.p e).1;have e1:(h.x r (ag ns (i+1) v))[r]?=y0 _:=Ab6 f;show∃v',Gx _ (execs _ _ [y0 _] h)=_;simp only[ZP];obtain⟨s,g⟩:=vv (F:=(k8 k)) (e:=.B .A (.o 0)) (τ:=[y0 (.r r)]) (h:=h.x r (ag ns (i+1) v)) j (by simp![xv e1,oG]);have o:Gi .w 7 _=y0 (7*((i+1:Nat):Int)):=Ll _ _ (by decide);have m:∀x:Int,Gi .x x 16777213=y0 _:=λx=>XI _ _ (by decide);have a:∀x y,(h.x r (ag ns (i+1) x)).x r _=h.x r (ag ns (i+1) y):=λx y=>Ae1 ..;have i1:((i:Int)+1)=((i+1:Nat):Int):=rfl;generalize l:(7*((i+1:Nat):Int)+s)%16777213=w;have e2:(h.x r (ag ns (i+1) w))[r]?=y0 _:=Ab6 f;rw[za (h1:=h.x r (ag ns (i+1) v)) (Qz (d:=.n (i+1)) (xs:=[.w (ns.j .o),.n i,.o v]) (n:=1) (by simp![xv e,Z6,Qc,i1]) rfl e rfl rfl rfl)];rw[za (τ1:=[y0 (.r r)]) (h1:=h.x r (ag ns (i+1) w)) (Qz (d:=.o w) (xs:=[.w (ns.j .o),.n (i+1),.o v]) (n:=2) (by generalize E.bi _ _=X at g⊢;simp![g,xv e1,Z6,o,Qc,m,l]) rfl e1 rfl rfl (a v w).p)];have c:Gm (k8 k) (.y .lt (.B .A (.o 1)) (.bi .y (.a (.B .A (.o 0))))) [y0 (.r r)] (h.x r (ag ns (i+1) w))=.j (u9 (i+1<ns.e)) (h.x r (ag ns (i+1) w)):=by have:(u9 (((i+1:Nat):Int)<(ns.e:Int)))=u9 (i+1<ns.e):=decide_eq_decide.u (by lia);simp![xv e2,Z6,oG,jI,ak,Aa,WZ,this]
 by_cases q:i+1<ns.e
 .refine⟨ns[i+1],?_⟩;have b:aW (ns.j D.int) ((i+1:Nat):Int)=y0 (.o ns[i+1]):=by rw[Xf _ _ (by rw[Aa];exact q),Ac2,Aa6 q];rfl
  rw[za (τ1:=[y0 (.r r)]) (h1:=h.x r (ag ns (i+1) ns[i+1])) ((Qq (h1:=h.x r (ag ns (i+1) w)) (by rw[c,decide_eq_true q])).j (by rw[za (τ1:=[y0 (.r r)]) (h1:=h.x r (ag ns (i+1) ns[i+1])) (Qz (d:=.o ns[i+1]) (xs:=[.w (ns.j .o),.n (i+1),.o w]) (n:=2) (by simp![xv e2,oG,Z6,jr,b]) rfl e2 rfl rfl (a w _).p),execs]))];rw[execs];exact GA _ h _ (by rw[Ad4])
 .refine⟨w,?_⟩;rw[xa (by rw[c,decide_eq_false q]),execs];exact GA _ h _ (by rw[Ad4])
def V.uniq (h:V n v g)(q:V n w g):v=w:=Wf.eS h.lt q.lt λk a=>by have b:=h.2 _ _ (Wf.bj a) (Wf.a9 a);have c:=q.2 _ _ (Wf.bj a) (Wf.a9 a);rw[Wf.bz]at b c;rw[Bool.eq_iff_iff,b,c]
theorem B.uniq (h:B a b e v u)(q:B a b e v' u'):v=v'/\u=u':=⟨h.j.uniq q.j,h.p.uniq q.p⟩
theorem g0.uniq (h:g0 a b f p)(k:g0 a b f q):p=q:=by
 cases f with
|d7 x y=>obtain⟨v,u,n,l,c,e,rfl⟩:=h;obtain⟨w,t,m,i,d,g,rfl⟩:=k;obtain⟨rfl,rfl⟩:=c.uniq d;obtain⟨rfl,rfl⟩:=e.uniq g;rfl
|eF x y=>obtain⟨v,u,n,l,c,e,rfl⟩:=h;obtain⟨w,t,m,i,d,g,rfl⟩:=k;obtain⟨rfl,rfl⟩:=c.uniq d;obtain⟨rfl,rfl⟩:=e.uniq g;rfl
|eD x=>obtain⟨v,u,c,rfl⟩:=h;obtain⟨w,t,d,rfl⟩:=k;obtain⟨rfl,rfl⟩:=c.uniq d;rfl
|aw x=>obtain⟨v,u,c,rfl⟩:=h;obtain⟨w,t,d,rfl⟩:=k;obtain⟨rfl,rfl⟩:=c.uniq d;rfl
|cnt s j x=>obtain⟨v,u,c,rfl⟩:=h;obtain⟨w,t,d,rfl⟩:=k;obtain⟨rfl,rfl⟩:=c.uniq d;rfl
theorem Td.uniq:∀{s}{p q},Td a b s p->Td a b s q->p=q
|.p _,_,_,h,k=>g0.uniq h k
|.neg _,_,_,z7,z8=>by obtain⟨p,h,e⟩:=z7;obtain⟨q,k,c⟩:=z8;rw[e,c,Td.uniq h k]
|.cK _ _,_,_,z7,z8=>by obtain⟨p,q,h,f,e⟩:=z7;obtain⟨i,g,k,d,c⟩:=z8;rw[e,c,Td.uniq h k,Td.uniq f d]
|.cE _ _,_,_,z7,z8=>by obtain⟨p,q,h,f,e⟩:=z7;obtain⟨i,g,k,d,c⟩:=z8;rw[e,c,Td.uniq h k,Td.uniq f d]
theorem sZ:∀{N},((aQ N f).p t).u=u9 (t∈N)
|[]=>rfl
|y::N=>by
  show(Ah9 t ((y,_)::aQ N f)).u=_;rw[Ab7];by_cases e:t=y
  .subst e;rw[beq_self_eq_true,decide_eq_true Aa3];rfl
  .rw[beq_eq_false_iff_ne.u e];rw[sZ];exact decide_eq_decide.u ⟨Aa2 _,λh=>(Ab8.p h).x e⟩
noncomputable def qW(f:Tx->Nat×Nat)(t:Tx)(p:Nat×Nat):Tx->Nat×Nat:=λx=>if x=t then p else f x
def sG(h:t∈N):GE (aQ N f) t (bf p.1 p.2)=aQ N (qW f t p):=by
 unfold GE aQ;rw[if_pos (Ad1.u ⟨_,Ac1.u ⟨t,h,rfl⟩,by simp⟩)];rw[Ad7];refine Ai4 λx a=>?_;show(if x=t then(x,bf p.1 p.2)else(x,bf (f x).1 (f x).2))=(x,bf (qW f t p x).1 (qW f t p x).2);unfold qW;by_cases e:x=t
 .rw[if_pos e,if_pos e]
 .rw[if_neg e,if_neg e]
def Zy(k)(d)(h)(a:Gd d=k9):call prog (k+1) "_law_whole" [.v d] h=.j (.b (xz d)) h:=by
 cases d<;>first|exact Ga _ _ _ rfl|cases a
abbrev AW(n r:Nat)(g dn f c:D)(x6 b d e a:Option W):Sl:=[si n,y0 (.r r),sv g,sv dn,sv f,sv c,x6,b,d,e,a]
def Jq(e:h[r]?=y0 (.p ks)):GV h (y0 (.r r))=y0 (r,ks):=by unfold GV;simp[e]
def sj(v p:Nat):Gi .u (v:Int) ((2^p:Nat):Int)=y0 ((if v.j p then 2^p else 0:Nat):Int):=by
 rw[wc,zd];congr 2;refine Aj9 λk=>?_;rw[Ah2,Ae0];by_cases e:p=k
 .subst e;rw[decide_eq_true rfl,Bool.and_true];cases v.j p with
|true=>rw[if_pos rfl,Ak2]
|false=>rw[if_neg Ab9,Af8]
 .rw[decide_eq_false e,Ag5];cases v.j p with
|true=>rw[if_pos rfl,Ae0,decide_eq_false e]
|false=>rw[if_neg Ab9,Af8]
def Nk(k)(e:h[r]?=y0 (.p (aQ N f)))(F:n<=4)(j:t∈N)(Z:N.e<=100)(s:a<n)(q:b<n)(y:(f t).1.j (a*n+b)=y9)(g:(f t).2.j (a*n+b)=k9):
 call prog (k+2) "_law_split" [.i n,.r r,.t [.p t,.n a,.n b]] h=.j (.j [.j h.e,.j (h.e+1)]) (h++[.p (aQ N (qW f t ((f t).1|||2^(a*n+b),(f t).2))),.p (aQ N (qW f t ((f t).1,(f t).2-2^(a*n+b))))]):=by
 rw[Gb (d:=Xw) rfl _ _ _ rfl];have R:r<h.e:=(Aa1.p e).1;have o:a*n+b<16:=by have:=Wf.place_lt s q;have:n*n<=16:=Ag1 F F;exact Nat.lt_of_lt_of_le ‹_› ‹_›
 have ge:2^_<=(f t).2:=Nat.ge_two_pow_of_testBit g;generalize T:a*n+b=p at y g o ge⊢;have C:(aQ N f).e<bq:=by rw[Gg,aQ,Aa];exact Nat.lt_of_le_of_lt ‹_› (by decide)
 generalize Q:(f t).1=A at y⊢;generalize O:(f t).2=c at g ge⊢;have G:aQ N _=GE (aQ N f) t _:=(sG (p:=(A|||2^p,c)) j).p;have X:aQ N _=GE (aQ N f) t _:=(sG (p:=(A,c-2^p)) j).p;have u:(aQ N f).p t=y0 (bf A c):=by rw[rQ j,Q,O]
 simp only[Xw];have dd:=Jq e;refine fx (by simp![];rfl) ?_;have V:de k9 (.s t) (y0 (r,aQ N f)) h=.j (.b y9) h:=by unfold de;simp only[sZ,decide_eq_true j,if_true];rfl
 have l:cG .str (.s t)=y0 true:=rfl;rw[xa (by simp![l,dd,V,(Zy k (.n a) h rfl),(Zy k (.n b) h rfl),xz])];have i:∀x:Nat,x<n->((0:Int)<=(x:Int)/\(x:Int)<(n:Int)):=λx Y=>by lia
 rw[xa (by simp![Q2,WZ,decide_eq_true (i a s).1,decide_eq_true (i a s).2,decide_eq_true (i b q).1,decide_eq_true (i b q).2,ak])];have dg:fh (.s t) (y0 (r,aQ N f)) h=.j (.v (bf A c)) h:=by unfold fh;simp only[u]
 refine fx (by simp![dd,dg];rfl) ?_;have J:Gi .w (a:Int) (n:Int)=y0 ((a*n:Nat):Int):=je a n (by lia);have I:(((a*n:Nat):Int)+(b:Int))=((p:Nat):Int):=by rw[←T];rfl
 refine fx (by simp![J,Qc,I,(z9 p (Nat.le_of_lt (Nat.lt_of_lt_of_le ‹_› (by decide))))];rfl) ?_;have E:=sj A p;have B:=sj c p;rw[y,if_neg Ab9]at E;rw[g,if_pos rfl]at B;have p0:0<2^p:=Ad5 p;have K:Gr .u (.i (0)) (.v (.o 0)) h=y0 false:=rfl;have P:Gr .j (.i (2^p)) (.v (.o 0)) h=y0 false:=by have:=Zj (2^p) 0 h;rw[decide_eq_false (Nat.ne_of_gt ‹_›)]at this;exact this
 rw[xa (by simp![E,B,K,P])];have H:((c:Int)-((2^p:Nat):Int))=((c-2^p:Nat):Int):=by lia
 have M:(h++[Cell.aR (aQ N f)])[h.e]?=y0 (.p (aQ N f)):=by simp
 have m:(h++[Cell.aR (aQ N f)]).x h.e (.p (GE (aQ N f) t (bf (A|||2^p) c)))=h++[.p (GE (aQ N f) t (bf (A|||2^p) c))]:=by simp
 have nr:Gd (bf (A|||2^p) c)=true:=rfl;have z:Gd (bf A (c-2^p))=true:=rfl;refine fx (by simp![dd,ak];rfl) ?_;rw[za (τ1:=AW n r (.u [.p t,.n a,.n b]) (.p t) (.n a) (.n b) (si A) (si c) (si (2^p)) (y0 (.r h.e)) u0) (h1:=h++[.p (GE (aQ N f) t (bf (A|||2^p) c))]) (by simp![wn,Wm,Jq M,ak];rw[if_pos ⟨C,nr⟩,m])];have D:(h++[Cell.aR (GE (aQ N f) t (bf (A|||2^p) c))])[r]?=y0 (.p (aQ N f)):=by rw[Ad3 R,e]
 generalize GE (aQ N f) t (bf (A|||2^p) c)=U at D G⊢;have S:(h++[Cell.aR U]++[Cell.aR (aQ N f)])[h.e+1]?=y0 (.p (aQ N f)):=by simp
 have v:(h++[Cell.aR U]++[Cell.aR (aQ N f)]).x (h.e+1) (.p (GE (aQ N f) t (bf A (c-2^p))))=h++[Cell.aR U,.p (GE (aQ N f) t (bf A (c-2^p)))]:=by simp[List.set_append]
 have L:(h++[Cell.aR U]).e=h.e+1:=by simp
 refine fx (by simp![Jq D,ak,L];rfl) ?_;rw[za (τ1:=AW n r (.u [.p t,.n a,.n b]) (.p t) (.n a) (.n b) (si A) (si c) (si (2^p)) (y0 (.r h.e)) (y0 (.r (h.e+1)))) (h1:=h++[.p U,.p (GE (aQ N f) t (bf A (c-2^p)))]) (by simp![we,H,Jq S,ak];rw[if_pos ⟨C,z⟩,v])];rw[qa (w:=.j [.j h.e,.j (h.e+1)]) (h1:=h++[.p U,.p (GE (aQ N f) t (bf A (c-2^p)))]) (Jw rfl (by simp![])),G,X];show fin h.e (.j [.j h.e,.j (h.e+1)]) _=_;unfold fin;rw[if_neg (by simp),if_neg (by simp[W.keep])]
abbrev Pl:=Tx×Nat×Nat
def bU(p:Pl):D:=.u [.p p.1,.n (p.2.1),.n (p.2.2)]
noncomputable def fk(n:Nat)(t:Tx):List Pl:=(Aa7 n).j λa=>(t,a,a)
def gB(n:Nat)(t:Tx):List Pl:=(Wf.az n (2^(n*n)-1)).j λq=>(t,q.1,q.2)
abbrev fg(K T:List Tx)(n:Nat)(l:List Pl)(x:Option W):Sl:=[sv (wD K T),si n,y0 (.j (l.j bU)),x]
theorem pL(g)(d:∀t,(g t).e<=16)(c:∀t l,l.e<=200->execs F b (fg K T n l (y0 (.s t))) h=.p (fg K T n (l++g t) (y0 (.s t))) h):
 ∀(a:List Tx) l x,l.e+16*a.e<=200->∃i,Gp (Gq [3] k9) (λτ h=>execs F b τ h) (a.j .p) (fg K T n l x) h=.p (fg K T n (l++a.Q g) i) h
|[],l,x,_=>⟨x,by simp[Gp]⟩
|t::a,l,x,f=>by rw[Aa8]at f;have:=d t;obtain⟨i,e⟩:=pL g d c a (l++g t) (y0 (.s t)) (by rw[Aa5];lia);refine⟨i,?_⟩;rw[Ab2,Wa rfl (c t l (Nat.le_trans (Nat.le_add_right _ _) ‹_›)),e,Aj5,Af0]
def EF(k n)(K T)(h)(p:n<=4)(H:K.e<=4)(E:T.e<=4):call prog (k+3) "places_of" [.v (wD K T),.i n] h=.j (.j ((K.Q (fk n)++T.Q (gB n)).j bU)) h:=by
 rw[Gb (d:=jx) rfl _ _ _ rfl];have m:n*n<=16:=Ag1 p p;simp only[jx];have o:∀t,(fk n t).e<=16:=λt=>by simp[fk];exact Nat.le_trans ‹_› (by decide)
 have lt:∀t,(gB n t).e<=16:=λt=>by rw[gB,Aa,Wf.az,Aa];exact Ab5 (Aj1 _ _) (by rw[Ai2];exact m)
 have i:∀(c:List Tx)(g:Tx->List Pl),(∀t,(g t).e<=16)->(c.Q g).e<=16*c.e:=λc g f=>by
  induction c with
|nil=>simp
|cons t c G=>rw[Aj5,Aa5,Aa8];have:=f t;lia
 have ext:∀e b (g:Tx->List Pl),(∀t,(g t).e<=16)->b=.a (.ext 2 e)->(∀(t:Tx)(l:List Pl),eval (k8 (k+2)) e (fg K T n l (y0 (.s t))) h=.j (.j ((g t).j bU)) h)->∀(t:Tx)(l:List Pl),l.e<=200->execs (k8 (k+2)) b (fg K T n l (y0 (.s t))) h=.p (fg K T n (l++g t) (y0 (.s t))) h:=λe b g f r B t l D=>by
  have C:(l.j bU).e+((g t).j bU).e<bq:=by rw[Gg,Aa,Aa];have:=f t;lia
  rw[r,za (τ1:=fg K T n (l++g t) (y0 (.s t))) (h1:=h) (by rw[exec];simp![B,C,if_true];rw[←Ad8]),execs]
 have z:=ext jp WA _ o rfl λt l=>by unfold jp;rw[xp (n:=n) (λa=>bU (t,a,a)) rfl (Nat.le_trans ‹_› (by decide)) λa F=>⟨.v _,by simp![];rfl,rfl⟩];rw[fk,Ad7];rfl
 have s:=ext Wp Qx _ lt rfl λt l=>by
  unfold Wp;have A:Gk (k8 (k+2)) (.j (.j "pairs_of" (.b .G (.j "every" (.a .G))))) (fg K T n l (some (.s t))) h=.j ((Wf.az n (2^(n*n)-1)).j pD) h:=by simp![yi _ n h (Nat.le_trans ‹_› (by decide)),wu _ n _ h (Nat.le_trans ‹_› (by decide))]
  rw[Zl (h:=h) (ds:=(Wf.az n (2^(n*n)-1)).j pD) (λd=>match d with|.u [x,y]=>.u [.p t,x,y]|d=>d) A (by rw[Gg,Aa,Wf.az,Aa];have:=Aj1 (2^(n*n)-1).j (Aa7 (n*n));rw[Ai2]at this;lia)]
  .rw[gB,Ad7,Ad7];rfl
  .intro d v;obtain⟨q,_,rfl⟩:=Ac1.p v;exact⟨[si _,si _,y0 _],rfl,.t [.p t,.n _,.n _],by simp![],rfl⟩
 obtain⟨j,e1⟩:=pL _ o z K [] u0 (by simp;lia);obtain⟨u,e2⟩:=pL _ lt s T (K.Q (fk n)) j (by have:=i K (fk n) o;lia);rw[Ae7]at e1;rw[za (τ1:=fg K T n [] u0) (h1:=h) rfl];rw[za (τ1:=fg K T n (K.Q (fk n)) j) (h1:=h) (by rw[exec,show Gs (k8 (k+2)) (.j (.B .A (.o 0))) (fg K T n [] u0) h=.j (K.j .p) h by simp![ab,Xh],R.ax];exact e1)];rw[za (τ1:=fg K T n (K.Q (fk n)++T.Q (gB n)) u) (h1:=h) (by rw[exec,show Gs (k8 (k+2)) (.j (.B .A (.o 1))) (fg K T n (K.Q (fk n)) j) h=.j (T.j .p) h by simp![ab,qg],R.ax];exact e2)];rw[qa (w:=.j ((K.Q (fk n)++T.Q (gB n)).j bU)) (h1:=h) rfl,Gu _ _ _ rfl]
noncomputable abbrev mM:List Tx:=[gW,iT,gG,iB,[101,97,99,104],gf,lV,gm,gu,ky,kI,k5,[107,105,110,100],[116,105,101],[115,97,121]]
noncomputable def zW(st:Tx)(at' f k:Nat):Tx:=st.B at'++[97+(f+5*k)%26]++st.K at'
def c5(st:Tx)(at' f k:Nat):Tx:=if zW st at' f k∈mM then zW st at' f k++[113]else zW st at' f k
def tR(h:at'<=st.e):(c5 st at' f k)[at']?=y0 (97+(f+5*k)%26):=by
 have b:(zW st at' f k)[at']?=y0 (97+(f+5*k)%26):=by unfold zW;rw[Af0,Ae2 (by simp_all),Ae9,Ak5 h,Ap9];rfl
 unfold c5;split
 .rw[Ad3 (Aa1.p b).1];exact b
 .exact b
def Ot(a:st.e<=6):(c5 st at' f k).e<=8:=by
 have b:(zW st at' f k).e<=7:=by unfold zW;rw[Aa5,Aa5,Ae9,Af];simp only[Aa8,Ad9];lia
 unfold c5;split
 .rw[Aa5];simp[Ad9];exact Nat.le_trans ‹_› (by decide)
 .lia
def HC(st)(at' f m)(h:at'<=st.e)(a:m<=8):((Aa7 m).j (c5 st at' f)).C:=sN _ m a λi b j c ne z=>by have e1:=tR (f:=f) (k:=i) h;rw[z,(tR (f:=f) (k:=j) h)]at e1;have:=Ad6.inj e1;lia
abbrev dD(r m:Nat)(f:Nat)(x4 c x6 a b:Option W):Sl:=[y0 (.r r),si m,y0 (.s mj),si f,x4,c,x6,a,b]
theorem ya(k):∀(l:List Nat) h v st x,h[r]?=y0 (ag ns i v)->st.e+l.e<=6->∃L v' M,L.e<=6∧
 Gp (Gq [5] k9) (λτ h=>execs (k8 (k+1)) qp τ h) (l.j λj=>D.n j) (dD r m f (y0 (.s st)) x u0 u0 u0) h=.p (dD r m f (y0 (.s L)) M u0 u0 u0) (h.x r (ag ns i v'))
|[],h,v,st,x,e,a=>⟨st,v,x,by simpa using a,by
  rw[show h.x r (ag ns i v)=h by
   refine List.ext_getElem? λj=>?_;by_cases q:r=j
   .subst q;rw[Ab6 (Aa1.p e).1,e]
   .rw[Ad0 q]]
  rfl⟩
|j::l,h,v,st,x,e,a=>by rw[Aa8]at a;obtain⟨d,v1,g,e1⟩:=zg k e (m:=26) (by decide) (by decide);have c:=(Aa1.p e).1;obtain⟨L,v',M,b,e2⟩:=ya k l (h.x r (ag ns i v1)) v1 (st++[97+d]) (si j) (Ab6 c) (by rw[Aa5];simp;lia);rw[Ae1]at e2;refine⟨L,v',M,b,?_⟩;have e1:call prog (k+1) "_law_draw" [.r r,.v (.o 26)] h=.j (.i d) (h.x r (ag ns i v1)):=e1;rw[Ab2,Wa (τ1:=dD r m f (y0 (.s st)) (si j) u0 u0 u0) rfl (by unfold qp;rw[za (τ1:=dD r m f (y0 (.s (st++[97+d]))) (si j) u0 u0 u0) (h1:=h.x r (ag ns i v1)) (by simp![e1,ZC d g,add_str st [97+d] _ (by simp;lia)]),execs]),e2]
theorem uP(A:st.e<=6)(h):∀c j M L,j+c<=100->∃V O,Gp (Gq [5] k9) (λτ h=>execs F zk τ h) ((Aa7 c).j λi=>D.n (j+i)) (dD r m f (y0 (.s st)) M (si at') (y0 (.j (((Aa7 j).j (c5 st at' f)).j .p))) L) h=.p (dD r m f (y0 (.s st)) V (si at') (y0 (.j (((Aa7 (j+c)).j (c5 st at' f)).j .p))) O) h
|0,j,M,L,_=>⟨M,L,rfl⟩
|c+1,j,M,L,G=>by
  obtain⟨u,x,e⟩:=uP A h c (j+1) (si (j)) (y0 (.s (c5 st at' f j))) (by lia);refine⟨u,x,?_⟩;have k:execs F zk (dD r m f (y0 (.s st)) (si (j)) (si at') (y0 (.j (((Aa7 j).j (c5 st at' f)).j .p))) L) h=.p (dD r m f (y0 (.s st)) (si (j)) (si at') (y0 (.j (((Aa7 (j+1)).j (c5 st at' f)).j .p))) (y0 (.s (c5 st at' f j)))) h:=by
   have d:Gi .w 5 (j:Int)=y0 ((5*j:Nat):Int):=je 5 j (by decide);have n:((f:Int)+((5*j:Nat):Int))=((f+5*j:Nat):Int):=rfl;have o:Gi .x ((f+5*j:Nat):Int) 26=y0 (((f+5*j)%26:Nat):Int):=rG _ 26 (by decide);have B:=ZC ((f+5*j)%26) (Ai9 _ (by decide)) h;have z:st.e<=bq:=by rw[Gg];exact Nat.le_trans ‹_› (by decide)
   have v:cut st u0 (y0 (at':Int))=st.B at':=ny st at';have l:cut st (y0 (at':Int)) u0=st.K at':=xQ st at';have E:(st.B at').e<=6:=by rw[Ae9];lia
   have l2:(st.K at').e<=6:=by rw[Af];lia
   have p:=add_str (st.B at') [97+(f+5*j)%26] h (by simp only[Aa8,Ad9];exact Nat.lt_of_le_of_lt ‹_› (by decide));have a2:=add_str (st.B at'++[97+(f+5*j)%26]) (st.K at') h (by rw[Aa5];simp only[Aa8,Ad9];lia);have C:(zW st at' f j).e<=13:=by unfold zW;rw[Aa5,Aa5];simp only[Aa8,Ad9];lia
   have a3:=add_str (zW st at' f j) [113] h (by simp only[Aa8,Ad9];exact Nat.lt_of_le_of_lt ‹_› (by decide));have s:=JR (zW st at' f j) mM h;have w:(((Aa7 j).j (c5 st at' f)).j D.str).e<bq:=by rw[Gg,Aa,Aa,Ai2];lia
   have g:((Aa7 (j+1)).j (c5 st at' f)).j D.str=((Aa7 j).j (c5 st at' f)).j D.str++[.p (c5 st at' f j)]:=by rw[List.range_succ];simp
   unfold zk;rw[za (τ1:=dD r m f (y0 (.s st)) (si (j)) (si at') (y0 (.j (((Aa7 j).j (c5 st at' f)).j .p))) (y0 (.s (zW st at' f j)))) (by simp![oZ,z,v,l,d,Qc,n,o,B,p,a2];rfl)];have b:Gm F (.y .p .v8 (.eg Bv mM)) (dD r m f (y0 (.s st)) (si (j)) (si at') (y0 (.j (((Aa7 j).j (c5 st at' f)).j .p))) (y0 (.s (zW st at' f j)))) h=.j (u9 (zW st at' f j∈mM)) h:=by rw[Gm,eval,eval];rw[show Gj (dD r m f (y0 (.s st)) (si (j)) (si at') (y0 (.j (((Aa7 j).j (c5 st at' f)).j .p))) (y0 (.s (zW st at' f j)))) 8=y0 (.s (zW st at' f j))from rfl,R.ae,eval,R.ae,s];rfl
   have a:∀t:Tx,t=c5 st at' f j->execs F (.a (.app 7 .v8)) (dD r m f (y0 (.s st)) (si (j)) (si at') (y0 (.j (((Aa7 j).j (c5 st at' f)).j .p))) (y0 (.s t))) h=.p (dD r m f (y0 (.s st)) (si (j)) (si at') (y0 (.j (((Aa7 (j+1)).j (c5 st at' f)).j .p))) (y0 (.s (c5 st at' f j)))) h:=λt y=>by subst y;rw[g];simp![w,if_true]
   by_cases q:zW st at' f j∈mM
   .rw[za (τ1:=dD r m f (y0 (.s st)) (si (j)) (si at') (y0 (.j (((Aa7 j).j (c5 st at' f)).j .p))) (y0 (.s (zW st at' f j++[113])))) (h1:=h) ((Qq (by rw[b,decide_eq_true q])).j (by simp![a3]))];exact a _ (by rw[c5,if_pos q])
   .rw[xa (by rw[b,decide_eq_false q])];exact a _ (by rw[c5,if_neg q])
  rw[Ah3,Ab2,Ad7,Wa rfl k];have:((λi=>D.n (j+i))∘Nat.succ)=λi=>D.n (j+1+i):=by funext i;show D.n (j+(i+1))=_;rw[show j+(i+1)=j+1+i by lia]
  rw[this,e,show j+1+c=j+(c+1)by lia]
def FR(c k:Nat):(Aa4 k [c]).G=Aa4 k c:=by simp
def F4(k)(e:h[r]?=y0 (ag ns i v))(B:m<=8):∃(N:List Tx)(G:Int),N.e=m/\N.C/\(∀t∈N,t.e<=8)/\call prog (k+2) "_law_names" [.r r,.i m] h=.j (.j (N.j .p)) (h.x r (ag ns i G)):=by
 have O:r<h.e:=(Aa1.p e).1;have o:∀w,_[r]?=y0 (ag ns i w):=λw=>Ab6 O;have H:∀w,(h.x r (ag ns i w)).e=h.e:=λw=>Ad4 ..;rw[Gb (d:=zx) rfl _ _ _ rfl];show∃N G,_/\_/\_/\Gx _ _=_;simp only[zx];obtain⟨f,v1,M,e1⟩:=zg k e (m:=26) (by decide) (by decide);have e1:call prog _ "_law_draw" [.r r,.v (.o 26)] h=.j _ _:=e1;obtain⟨d,v2,V,e2⟩:=zg k (o v1) (m:=3) (by decide) (by decide);rw[Ae1]at e2;have e2:call prog _ "_law_draw" [.r r,.v (.o 3)] _=.j _ _:=e2;rw[za (τ1:=[y0 (.r r),si m,y0 (.s mj),u0,u0,u0,u0,u0,u0]) (h1:=h) rfl];rw[za (τ1:=dD r m f u0 u0 u0 u0 u0) (h1:=h.x r (ag ns i v1)) (by simp![e1])];have K:∀h,Gr .j _ (.v (.o 0)) h=y0 _:=λh=>Zj d 0 h;have A:Gm (k8 (k+1)) (.y .j (.j "_law_draw" (.b .A (.o 3))) (.o 0)) (dD r m f none none none none none) (h.x r (ag ns i v1))=.j (decide (d=0)) (h.x r (ag ns i v2)):=by simp![e2,K]
 by_cases q:d=0
 .refine⟨(Aa7 m).j λj=>Aa4 (j+1) (97+f),v2,by simp,sN _ m B (λa L b C ne z=>by have:=congrArg List.length z;simp at this;lia),λt y=>?_,?_⟩
  .obtain⟨j,x,rfl⟩:=Ac1.p y;rw[Ae3];have:=Ac0.p x;exact Nat.lt_of_lt_of_le ‹_› ‹_›
  .rw[qa (w:=.j (((Aa7 m).j λj=>Aa4 (j+1) (97+f)).j .p)) (h1:=h.x r (ag ns i v2)) ((Qq (h1:=h.x r (ag ns i v2)) (by rw[A,decide_eq_true q])).j (qa (Jw rfl ?_)))]
   .exact Gu _ h _ (H v2)
   .unfold Zz;rw[xp (n:=m) (λj=>.p (Aa4 (j+1) (97+f))) rfl (Nat.le_trans ‹_› (by decide)) λj x=>⟨.s (Aa4 (j+1) (97+f)),?_,rfl⟩]
    .rw[Ad7];rfl
    .have u:((j:Int)+1)=((j+1:Nat):Int):=rfl;have E:=mul_str [97+f] (j+1) (h.x r (ag ns i v2)) (by lia) (by simp;lia);rw[FR]at E;simp![ZC f M,Qc,u,E]
 .rw[za (τ1:=dD r m f u0 u0 u0 u0 u0) (h1:=h.x r (ag ns i v2)) ((oI (h1:=h.x r (ag ns i v2)) (by rw[A,decide_eq_false q])).j rfl)];rw[za (τ1:=dD r m f (y0 (.s [])) u0 u0 u0 u0) (h1:=h.x r (ag ns i v2)) rfl];obtain⟨c,v3,U,p⟩:=zg k (o v2) (m:=6) (by decide) (by decide);rw[Ae1]at p;have p:call prog (k+1) "_law_draw" [.r r,.v (.o 6)] (h.x r (ag ns i v2))=.j (.i c) (h.x r (ag ns i v3)):=p;obtain⟨g,v4,s,l,I⟩:=ya k (ns:=ns) (i:=i) (r:=r) (m:=m) (f:=f) (Aa7 c) (h.x r (ag ns i v3)) v3 [] u0 (o v3) (by simp;exact Nat.le_of_lt ‹_›);rw[Ae1]at I;have S:Gs (k8 (k+1)) (.ao (.j "_law_draw" (.b .A (.o 6)))) (dD r m f (some (.s [])) none none none none) (h.x r (ag ns i v2))=.j ((List.range c).j fun i=>.n i) (h.x r (ag ns i v3)):=by
   have C:-gj<=(c:Int)/\(c:Int)<gj:=by rw[GL];lia
   simp![p];rw[if_pos C,Ac9]
  rw[za (τ1:=dD r m f (y0 (.s g)) s u0 u0 u0) (h1:=h.x r (ag ns i v4)) (by rw[exec,S,R.ax];exact I)];obtain⟨a,v5,L,D⟩:=zg k (o v4) (m:=g.e+1) (Nat.le_add_left _ _) (by lia);rw[Ae1]at D;have T:g.e<=bq:=by rw[Gg];exact Nat.le_trans ‹_› (by decide)
  have u:((g.e:Int)+1)=((g.e+1:Nat):Int):=rfl;rw[za (τ1:=dD r m f (y0 (.s g)) s (si a) u0 u0) (h1:=h.x r (ag ns i v5)) (by simp![len_str,T,if_true,ak,Qc,u,D])];rw[za (τ1:=dD r m f (y0 (.s g)) s (si a) (y0 (.j [])) u0) (h1:=h.x r (ag ns i v5)) rfl];obtain⟨P,Q,J⟩:=uP (F:=(k8 (k+1))) (r:=r) (m:=m) (f:=f) (at':=a) l (h.x r (ag ns i v5)) m 0 s u0 (by lia);simp only[Am5]at J;rw[za (τ1:=dD r m f (y0 (.s g)) P (si a) (y0 (.j (((Aa7 m).j (c5 g a f)).j .p))) Q) (h1:=h.x r (ag ns i v5)) (by rw[exec,mr (n:=m) rfl (Nat.le_trans ‹_› (by decide)),R.ax];exact J)];refine⟨(Aa7 m).j (c5 g a f),v5,by simp,HC g a f m (Nat.le_of_lt_succ ‹_›) B,λt y=>?_,?_⟩
  .obtain⟨j,x,rfl⟩:=Ac1.p y;exact Ot l
  .rw[qa (w:=.j (((Aa7 m).j (c5 g a f)).j .p)) (h1:=h.x r (ag ns i v5)) rfl];exact Gu _ h _ (H v5)
noncomputable abbrev b7:List (Nat×Nat×Nat):=[(0,1,2),(1,1,1),(0,1,2),(2,0,2),(1,0,3),(0,2,1),(0,1,1),(3,2,1),(1,0,4),(0,1,2),(1,1,0),(1,1,1)]
def ef(p:Nat×Nat×Nat):D:=.u [.n (p.1),.n (p.2.1),.n (p.2.2)]
structure bM(n:Nat)(K T:List Tx):Prop where
 n4:n<=4
 k4:K.e<=4
 t4:T.e<=4
 b6:K.e*n+T.e*(n*n)<=6
 nd:(K++T).C
 l8:∀t∈K++T,t.e<=8
abbrev l3(r:Nat)(l:List D)(a b c:Option W)(x:Option W):Sl:=[y0 (.r r),y0 (.l l),a,b,c,x]
def HH(k)(e:h[r]?=y0 (ag ns i v)):∃n K T v',bM n K T/\call prog (k+3) "_law_words" [.r r] h=.j (.t [.n n,wD K T]) (h.x r (ag ns i v')):=by
 have G:r<h.e:=(Aa1.p e).1;have A:∀w,_[r]?=y0 (ag ns i w):=λw=>Ab6 G;have I:∀w,(h.x r (ag ns i w)).e=h.e:=λw=>Ad4 ..;rw[Gb rfl _ _ _ rfl];show∃n K T v',_/\Gx _ _=_;simp only[JJ];obtain⟨d,v1,z,e1⟩:=zg _ e (m:=12) (by decide) (by decide);have e1:call prog _ "_law_draw" [.r r,.v _] h=.j _ _:=e1;have B:∀p∈b7,p.1+p.2.1<=8/\p.2.2<=4/\p.1<=4/\p.2.1<=4/\p.1*p.2.2+p.2.1*(p.2.2*p.2.2)<=6:=by decide
 obtain⟨⟨a,b,n⟩,y⟩:∃p,b7[d]?=y0 p:=⟨b7[d],Aa6 z⟩;obtain⟨q,g,j,o,F⟩:=B _ (Ac5 y);have q:a+b<=8:=q;have g:n<=4:=g;have j:a<=4:=j;have o:b<=4:=o;have c:aW (b7.j ef) (d:Int)=y0 (ef (a,b,n)):=by rw[Xf _ _ (by rw[Aa];exact z),Ac2,y];rfl
 obtain⟨N,v2,R,nn,M,e2⟩:=F4 k (A v1) q;rw[Ae1]at e2;have l:((a:Int)+(b:Int))=((a+b:Nat):Int):=rfl;refine⟨n,Gz (N.B a),Gz (N.K a),v2,?_,?_⟩
 .have s:=Xk (N.B a);have pt:=Xk (N.K a);have x:(Gz (N.B a)).e=a:=by rw[s.length_eq,Ae9];lia
  have lt:(Gz (N.K a)).e=b:=by rw[pt.length_eq,Af];lia
  have u:(Gz (N.B a)++Gz (N.K a)).Perm N:=(s.append pt).trans (by rw[List.take_append_drop]);exact⟨g,by rw[x];exact j,by rw[lt];exact o,by rw[x,lt];exact F,u.nodup_iff.u nn,λt O=>M t (u.mem_iff.p O)⟩
 .rw[za (τ1:=l3 r ((b7.B 9).j ef) u0 u0 u0 u0) (h1:=h) rfl];have E:GQ .j (.l ((b7.B 9).j ef)) (.j ((b7.K 9).j ef)) h=.j (.j (b7.j ef)) h:=by show(if((b7.B 9).j ef).e+((b7.K 9).j ef).e<=bq then _ else _)=_;rw[if_pos (by rw[Gg];decide)];rfl
  rw[za (τ1:=l3 r (b7.j ef) u0 u0 u0 u0) (h1:=h) (by rw[exec,show eval (k8 (k+2)) (.x .j .G (.w (.c (.u (.c (.o 0) (.o 1) (.o 2))) (.u (.c (.o 1) (.o 1) (.o 0))) (.u (.c (.o 1) (.o 1) (.o 1)))))) (l3 r ((b7.B 9).j ef) u0 u0 u0 u0) h=.j (.j (b7.j ef)) h from E];rfl)];rw[za (τ1:=l3 r (b7.j ef) (si a) (si b) (si n) u0) (h1:=h.x r (ag ns i v1)) (by rw[exec,show eval (k8 (k+2)) (.B .G (.j "_law_draw" (.b .A (.bi .y (.a .G))))) (l3 r (b7.j ef) none none none none) h=.j (.v (ef (a,b,n))) (h.x r (ag ns i v1))by have Q:((b7.j ef).e:Int)=12:=rfl;have f:call prog (k+2) "_law_draw" [.r r,.v (.o ((b7.j ef).e:Int))] h=.j (.i d) (h.x r (ag ns i v1)):=e1;generalize b7.j ef=L at c f⊢;simp![jI,ak,f,jr,c]];rfl)];rw[za (τ1:=l3 r (b7.j ef) (si a) (si b) (si n) (y0 (.l (N.j .p)))) (h1:=h.x r (ag ns i v2)) (by simp![Qc,l,e2])];have C:=jO (N.B a) (h.x r (ag ns i v2)) (by rw[Ae9];lia);have H:=jO (N.K a) (h.x r (ag ns i v2)) (by rw[Af];lia);have P:cut (N.j D.str) u0 (y0 (a:Int))=(N.B a).j D.str:=by rw[ny,Ap1]
  have J:cut (N.j D.str) (y0 (a:Int)) u0=(N.K a).j D.str:=by rw[xQ,List.map_drop]
  rw[qa (w:=.t [.n n,wD (Gz (N.B a)) (Gz (N.K a))]) (h1:=h.x r (ag ns i v2)) (Ja rfl (by simp![tq,P,J,C,H,Z0,ak]))];exact Ga _ h _ (I v2)
def DA(s:Nat)(h1:3<=s)(b:s<5):∃f:Ex->Ex,(∀a,(f a).j=a.j+1)/\(∀N a,a.y N->(f a).y N)/\∃t,aW [D.str Xi,.p zj] ((s:Int)-3)=y0 (.p t)/\∀a,aV (f a)=.u [.p t,aV a]:=by
 match s,h1,b with
|3,_,_=>exact⟨.A,λ_=>rfl,λ_ _ h=>h,Xi,rfl,λ_=>rfl⟩
|4,_,_=>exact⟨.x,λ_=>rfl,λ_ _ h=>h,zj,rfl,λ_=>rfl⟩
|s+5,_,h=>exact absurd h (by lia)
def EN(s:Nat)(h1:5<=s)(c:s<10):∃f:Ex->Ex->Ex,(∀a b,(f a b).j=max a.j b.j+1)/\(∀N a b,a.y N->b.y N->(f a b).y N)/\∃t,aW [D.str xF,.p zq,.p zz,.p jh,.p jh] ((s:Int)-5)=y0 (.p t)/\∀a b,aV (f a b)=.u [.p t,aV a,aV b]:=by
 match s,h1,c with
|5,_,_=>exact⟨.plus,λ_ _=>rfl,λ_ _ _ h g=>⟨h,g⟩,xF,rfl,λ_ _=>rfl⟩
|6,_,_=>exact⟨.less,λ_ _=>rfl,λ_ _ _ h g=>⟨h,g⟩,zq,rfl,λ_ _=>rfl⟩
|7,_,_=>exact⟨.both,λ_ _=>rfl,λ_ _ _ h g=>⟨h,g⟩,zz,rfl,λ_ _=>rfl⟩
|8,_,_=>exact⟨.u,λ_ _=>rfl,λ_ _ _ h g=>⟨h,g⟩,jh,rfl,λ_ _=>rfl⟩
|9,_,_=>exact⟨.u,λ_ _=>rfl,λ_ _ _ h g=>⟨h,g⟩,jh,rfl,λ_ _=>rfl⟩
|s+10,_,h=>exact absurd h (by lia)
abbrev kM(r:Nat)(w:W)(g p:Nat)(x4 a x6:Option W):Sl:=[y0 (.r r),y0 (w),si g,si p,x4,a,x6]
def Nw(N:List Tx)(w:W):Prop:=w=.l (N.j .p)\/w=.p (N.j .p)
noncomputable def fu(N:List Tx):List Ex:=(N++N).j .p++[.same,.all,.w]
def oz(h:e∈fu N):e.y N/\e.j=0:=by
 obtain h|h:=Ac6.p h
 .obtain⟨t,a,rfl⟩:=Ac1.p h;exact⟨(Ac6.p a).j id id,rfl⟩
 .have:e=.same\/e=.all\/e=.w:=by simpa using h
  rcases this with rfl|rfl|rfl<;>exact⟨trivial,rfl⟩
def sE(m)(k:Nw N w)(n:N.e<=8)(e:h[r]?=some (ag ns i v)):∃x v',x∈fu N/\execs (k8 (m+1)) (.b (.p 4 (.x .j (.x .w Ze (.o 2)) (.w (.c (.u (.a (.p Qg))) (.u (.a (.p Xn))) (.u (.a (.p wh))))))) (.ret (.B .v4 (.j "_law_draw" (.b .A (.bi .y (.a .v4))))))) (kM r w g p none none none) h=.j (.v (aV x)) (h.x r (ag ns i v')):=by
 have l:(fu N).e=2*N.e+3:=by simp[fu];lia
 obtain⟨d,v1,f,e1⟩:=zg m e (m:=(fu N).e) (by lia) (by lia);refine⟨(fu N)[d],v1,Ai7 f,?_⟩;have c:eval (k8 (m+1)) Ze (kM r w g p u0 u0 u0) h=.j (.j (N.j λt=>aV (.p t))) h:=by
  unfold Ze;rw[Zl (ds:=N.j .p) (λd=>.u [.p zh,d]) (by rcases k with rfl|rfl<;>simp![]) (by rw[Gg,Aa];exact Nat.le_trans ‹_› (by decide))]
  .rw[Ad7];rfl
  .intro d f;exact⟨[sv d],rfl,.t [.p zh,d],by simp![],rfl⟩
 have b:=IE (N.j λt=>aV (.p t)) 2 h (by decide) (by rw[Aa];lia);have j:GQ .j (.j (Aa4 2 (N.j λt=>aV (.p t))).G) (.j [.u [.p Qg],.u [.p Xn],.u [.p wh]]) h=.j (.j ((fu N).j aV)) h:=by show(if((Aa4 2 (N.j λt=>aV (.p t))).G).e+3<=bq then _ else _)=_;rw[if_pos (by rw[Gg];simp;lia)];simp[fu,aV,ak,Ae4,Function.comp_def]
 rw[za (τ1:=kM r w g p (y0 (.l ((fu N).j aV))) u0 u0) (h1:=h) (by have b:GQ .w (.j (N.j λt=>aV (.p t))) (.v (.o 2)) h=.j (.j (Aa4 2 (N.j λt=>aV (.p t))).G) h:=b;generalize (Aa4 2 (N.j λt=>aV (.p t))).G=Z at b j;simp![c,b,j])];have a:aW ((fu N).j aV) d=y0 (aV (fu N)[d]):=by rw[Xf _ _ (by rw[Aa];exact f),Ac2,Aa6 f];rfl
 have e1:call prog (m+1) "_law_draw" [.r r,.v (.o (((fu N).j aV).e))] h=.j (.i d) (h.x r (ag ns i v1)):=by rw[List.length_map];exact e1
 generalize (fu N).j aV=L at a e1⊢;exact qa (Ja rfl (by simp![jI,ak,e1,jr,a]))
def tX(l:Nw N w)(H:N.e<=8):∀g k h v,h[r]?=y0 (ag ns i v)->∃e v',e.y N/\e.j<=g/\call prog (g+k+2) "_law_expression" [.r r,w,.i g] h=.j (.v (aV e)) (h.x r (ag ns i v')):=by
 intro g;induction g with
|zero=>intro k h v e;have B:r<h.e:=(Aa1.p e).1;have c:∀w,(h.x r (ag ns i w))[r]?=y0 (ag ns i w):=λw=>Ab6 B;obtain⟨p,v1,K,e1⟩:=zg (0+k) e (m:=10) (by decide) (by decide);have e1:call prog (0+k+1) "_law_draw" [.r r,.v (.o 10)] h=.j (.i p) (h.x r (ag ns i v1)):=e1;obtain⟨x,v2,j,e2⟩:=sE (0+k) (g:=0) (p:=p) l H (c v1);rw[Ae1]at e2;refine⟨x,v2,(oz j).1,Al4 (oz j).2,?_⟩;rw[Gb (d:=Xd) rfl _ _ _ rfl];simp only[Xd];refine fx (by simp![e1];rfl) ?_;rw[qa (w:=.v (aV x)) (h1:=h.x r (ag ns i v2)) ((Qq (h1:=h.x r (ag ns i v1)) (by have z:Gr .j (.i (0)) (.v (.o 0)) (h.x r (ag ns i v1))=y0 true:=Zj 0 0 _;simp![z])).j e2)];exact Ga _ h _ (Ad4 ..)
|succ g J=>
  intro k h v e;have B:r<h.e:=(Aa1.p e).1;have c:∀w,(h.x r (ag ns i w))[r]?=y0 (ag ns i w):=λw=>Ab6 B;have C:∀w,(h.x r (ag ns i w)).e=h.e:=λw=>Ad4 ..;rw[show g+1+k+2=(g+k+2)+1 by lia];obtain⟨p,v1,K,e1⟩:=zg (g+k+1) e (m:=10) (by decide) (by decide);have e1:call prog (g+k+2) "_law_draw" [.r r,.v (.o 10)] h=.j (.i p) (h.x r (ag ns i v1)):=e1;have E:Gm (k8 (g+k+2)) (.or (.y .j .K (.o 0)) (.y .lt .L (.o 3))) (kM r w (g+1) p u0 u0 u0) (h.x r (ag ns i v1))=.j (u9 (p<3)) (h.x r (ag ns i v1)):=by
   have z:Gr .j (.i (g+1)) (.v (.o 0)) (h.x r (ag ns i v1))=y0 false:=by have:=Zj (g+1) 0 (h.x r (ag ns i v1));rw[decide_eq_false (by lia)]at this;exact this
   have A:=oF 3 p (h.x r (ag ns i v1));have A:Gr .lt (.i p) (.v (.o 3)) (h.x r (ag ns i v1))=y0 (u9 (p<3)):=A;rw[Gm,kJ (a:=y9) (b:=u9 (p<3)) (by simp![z]) (by simp![A]),R.ae];rfl
  rw[Gb (d:=Xd) rfl _ _ _ rfl];show∃e v',_/\_/\Gx _ (execs _ _ [y0 (.r r),y0 (w),si (g+1),u0,u0,u0,u0] h)=_;simp only[Xd];rw[za (τ1:=kM r w (g+1) p u0 u0 u0) (h1:=h.x r (ag ns i v1)) (by simp![e1])];by_cases q:p<3
  .obtain⟨x,v2,j,e2⟩:=sE (g+k+1) (g:=g+1) (p:=p) l H (c v1);rw[Ae1]at e2;refine⟨x,v2,(oz j).1,by rw[(oz j).2];exact Nat.zero_le _,?_⟩;rw[qa (w:=.v (aV x)) (h1:=h.x r (ag ns i v2)) ((Qq (h1:=h.x r (ag ns i v1)) (by rw[E,decide_eq_true q])).j e2)];exact Ga _ h _ (C v2)
  .rw[xa (by rw[E,decide_eq_false q])];obtain⟨x,v2,I,P,e2⟩:=J k _ v1 (c v1);rw[Ae1]at e2;have F:(((g+1:Nat):Int)-1)=((g:Nat):Int):=by lia
   rw[za (τ1:=kM r w (g+1) p u0 (sv (aV x)) u0) (h1:=h.x r (ag ns i v2)) (by rcases l with rfl|rfl<;>simp![we,F,e2])];have G:Gr .lt (.i p) (.v (.o 5)) (h.x r (ag ns i v2))=y0 (u9 (p<5)):=oF 5 p _;by_cases s:p<5
   .obtain⟨f,o,D,t,u,n⟩:=DA p (Nat.le_of_not_lt ‹_›) s;refine⟨f x,v2,D N x I,by rw[o];exact Nat.succ_le_succ ‹_›,?_⟩;rw[Zf (w:=.v (aV (f x))) (by simp![G,decide_eq_true s]) (Ja rfl (by rw[n];simp![we,qN,u]))];exact Ga _ h _ (C v2)
   .rw[xa (by simp![G,decide_eq_false s])];obtain⟨y,v3,M,O,L⟩:=J k _ v2 (c v2);rw[Ae1]at L;rw[za (τ1:=kM r w (g+1) p u0 (sv (aV x)) (sv (aV y))) (h1:=h.x r (ag ns i v3)) (by rcases l with rfl|rfl<;>simp![we,F,L])];obtain⟨f,o,D,t,u,n⟩:=EN p (Nat.le_of_not_lt ‹_›) K;refine⟨f x y,v3,D N x y I M,by rw[o];lia,?_⟩;rw[qa (w:=.v (aV (f x y))) (h1:=h.x r (ag ns i v3)) (Ja rfl (by rw[n];simp![we,qN,u]))];exact Ga _ h _ (C v3)
theorem p6:∀(ws)(c j w),ws[j]?=y0 w->(dg ws c)[j]?=y0 (c/2^(ws.B j).Y%2^w)
|[],_,_,_,h=>by simp at h
|u::ws,c,0,w,h=>by
  have:u=w:=by simpa using h
  subst this;simp[dg]
|u::ws,c,j+1,w,h=>by
  have h:=by simpa using h
  show(dg ws (c/2^u))[j]?=_;rw[p6 ws _ j w h,List.take_succ_cons,An1,Nat.div_div_eq_div_mul,←Nat.pow_add]
theorem pO:∀(ws)(c),(dg ws c).e=ws.e
|[],_=>rfl
|w::ws,c=>by rw[dg,Aa8,pO ws,Aa8]
def c4(n a b c:Nat):List Nat:=(dg (di n a b) c).B a
def dv(n a b c:Nat):List Nat:=(dg (di n a b) c).K a
def Mc(n a b j)(h:j<=a):((di n a b).B j).Y=j*n:=by rw[di,List.take_append_of_le_length (by simp_all),List.take_replicate,qD,Ak5 h]
def O1(n a b j:Nat)(h:j<=b):((di n a b).B (a+j)).Y=a*n+j*(n*n):=by rw[di,List.take_append,Ae3,Aj (by simp),List.sum_append,List.take_replicate,qD,qD,An3,Ak5 h]
def nA(h:j<a):(c4 n a b c)[j]?=y0 (c/2^(j*n)%2^n):=by rw[c4,Am9 h,p6 _ _ _ n (by rw[di,Ad3 (by simp_all),Ai5,if_pos h]),Mc _ _ _ _ (Ag0 h)]
def oi(h:j<b):(dv n a b c)[j]?=y0 (c/2^(a*n+j*(n*n))%2^(n*n)):=by rw[dv,List.getElem?_drop,p6 _ _ _ _ (by rw[di,Ae2 (by simp),Ae3,An3,Ai5,if_pos h]),O1 _ _ _ _ (Ag0 h)]
def wo(n:Nat)(K T:List Tx)(c:Nat):Wo:=⟨n,K,T,c4 n K.e T.e c,dv n K.e T.e c⟩
def QV(n a b c):(c4 n a b c).e=a:=by rw[c4,Ae9,pO,oe];lia
def XV(n a b c):(dv n a b c).e=b:=by rw[dv,Af,pO,oe];lia
theorem bM.wo (g:bM n K T)(c):(wo n K T c).Ok:=by
 refine⟨g.k4,g.t4,g.nd,g.n4,QV ..,XV ..,λx b=>?_,λx b=>?_⟩
 .obtain⟨j,a,e⟩:=Al8 b;have:(c4 n K.e T.e c)[j]?=y0 x:=by rw[←e];exact Aa6 a
  rw[nA (by rw[←QV n K.e T.e c];exact a)]at this;rw[←Ad6.inj this];exact Ai9 _ (Ad5 _)
 .obtain⟨j,a,e⟩:=Al8 b;have:(dv n K.e T.e c)[j]?=y0 x:=by rw[←e];exact Aa6 a
  rw[oi (by rw[←XV n K.e T.e c];exact a)]at this;rw[←Ad6.inj this];exact Ai9 _ (Ad5 _)
def bM.pt (g:bM n K T)(c d):Pt (M.wo n K T c) (M.wo n K T d):=⟨g.wo c,g.wo d,rfl,rfl,rfl⟩
theorem jZ:∀{i}{j},i.C->i[j]?=y0 t->dA t i=j
|[],_,_,h=>by simp at h
|y::c,0,_,h=>by
  have:y=t:=by simpa using h
  simp[dA,Kl,this]
|y::c,j+1,a,h=>by
  have h:=by simpa using h
  have m:=Ac5 h;have a:=Ai1.p a;have ne:y≠t:=λe=>a.1 (e▸m);have b:=jZ a.2 h;rw[dA]at b⊢;rw[Kl,if_neg ne,(xm m).1];rw[(xm m).1]at b;simpa using b
theorem rj{c b:Type}(g)(m)(a:∀t,(g t).e=m):∀(l:List c) i (y:b),(l.Q g)[i]?=y0 y->∃j t p,l[j]?=y0 t/\(g t)[p]?=y0 y/\p<m/\i=j*m+p
|[],i,y,h=>by simp at h
|t::l,i,y,h=>by
  rw[Aj5]at h;by_cases q:i<m
  .rw[Ad3 (by rw[a];exact q)]at h;exact⟨0,t,i,rfl,h,q,by lia⟩
  .rw[Ae2 (by rw[a];exact Nat.le_of_not_lt ‹_›),a]at h;obtain⟨j,u,p,d,f,e,k⟩:=rj g m a l _ y h;exact⟨j+1,u,p,d,f,e,by rw[Nat.add_mul];lia⟩
theorem ZN{a c:Type}(g:a->List c)(m)(b:∀t,(g t).e=m):∀l:List a,(l.Q g).e=l.e*m
|[]=>by simp
|t::l=>by rw[Aj5,Aa5,b,ZN g m b l,Aa8,Nat.add_mul];lia
def bV(n:Nat)(K T:List Tx):List Pl:=K.Q (fk n)++T.Q (gB n)
def XB(n):Wf.az n (2^(n*n)-1)=(Aa7 (n*n)).j λk=>(k/n,k%n):=by rw[Wf.az,List.filter_eq_self.u λk a=>by rw[Ah1,decide_eq_true (Ac0.p a)]]
def WH(n)(t):(fk n t).e=n:=by simp[fk]
def vm(n)(t):(gB n t).e=n*n:=by simp[gB,XB]
def jF(n)(K T):(bV n K T).e=K.e*n+T.e*(n*n):=by rw[bV,Aa5,ZN _ _ (WH n),ZN _ _ (vm n)]
def ql(g:bM n K T)(h:(bV n K T)[i]?=y0 (t,x,y))(c):bp (wo n K T c) t x y=c.j i/\t∈K++T/\x<n/\y<n:=by
 obtain⟨f,e,m⟩:=Aj4.p g.nd;rw[bV]at h;by_cases q:i<K.e*n
 .rw[Ad3 (by rw[ZN _ _ (WH n)];exact q)]at h;obtain⟨j,u,p,d,b,a,l⟩:=rj _ n (WH n) _ _ _ h;rw[fk,Ac2,List.getElem?_range a]at b;have b:=Ad6.inj b;obtain⟨rfl,rfl,rfl⟩:u=t/\p=x/\p=y:=by simpa using b
  have mk:=Ac5 d;refine⟨?_,Ad _ mk,a,a⟩;rw[bp,if_neg (show u∉(wo n K T c).T from(λz=>m u mk u z rfl))];show(decide _&&((c4 n K.e T.e c).L (dA u K) 0).j p)=_;rw[jZ f d,Ac7,nA ((Aa1.p d).1),Al0,Ag9,Ah,decide_eq_true a,decide_eq_true rfl,l,Aq0];rfl
 .rw[Ae2 (by rw[ZN _ _ (WH n)];exact Nat.le_of_not_lt ‹_›),ZN _ _ (WH n)]at h;obtain⟨j,u,p,d,b,a,l⟩:=rj _ _ (vm n) _ _ _ h;rw[gB,XB,Ad7,Ac2,List.getElem?_range a]at b;have b:=Ad6.inj b;obtain⟨rfl,rfl,rfl⟩:u=t/\p/n=x/\p%n=y:=by simpa using b
  have k:=Ac5 d;refine⟨?_,Ab0 _ k,Wf.bj a,Wf.a9 a⟩;rw[bp,if_pos (show u∈(wo n K T c).T from k)];show(((dv n K.e T.e c).L (dA u T) 0).j (p/n*n+p%n))=_;rw[jZ e d,Ac7,oi ((Aa1.p d).1),Al0,Ag9,Ah,Wf.bz,decide_eq_true a,Ae6];congr 1;lia
def oP(b:x<n)(a:y<n)(h:t∈T\/(t∈K/\x=y)):∃i:Nat,(bV n K T)[i]?=y0 (t,x,y):=by
 have:(t,x,y)∈bV n K T:=by
  rw[bV,Ac6,List.mem_flatMap,List.mem_flatMap];obtain h|⟨h,rfl⟩:=h
  .refine .u ⟨t,h,?_⟩;rw[gB,XB,Ad7];refine Ac1.u ⟨x*n+y,Ac0.u (Wf.place_lt b a),?_⟩;show(t,_/n,_%n)=_;rw[Wf.aF a,Wf.aJ a]
  .exact .p ⟨t,h,Ac1.u ⟨x,Ac0.u b,rfl⟩⟩
 obtain⟨i,c,e⟩:=Al8 this;exact⟨i,by rw[←e];exact Aa6 c⟩
def BO(a:t∈K++T)(d:x<n)(b:y<n)(h:bp (wo n K T c) t x y=k9):∃i:Nat,(bV n K T)[i]?=y0 (t,x,y):=by
 refine oP d b ?_;by_cases q:t∈T
 .exact .p q
 .rw[bp,if_neg (show t∉(wo n K T c).T from q),Aa0,decide_eq_true_eq]at h;exact .u ⟨(Ac6.p a).w q,h.1⟩
def oY(g:bM n K T){i j:Nat}(h:(bV n K T)[i]?=y0 p)(q:(bV n K T)[j]?=y0 p):i=j:=by have a:=(ql g q (2^i)).1;rw[((ql g h _).1),Ak2,Ae0]at a;simpa using a.p
def MK(k n)(A B)(c)(h)(b:n<=4)(h1:A.e<=4)(f:B.e<=4)(lt:c<2^(di n A.e B.e).Y):call prog (k+5) "world_of" [.v (ng A B),.i n,.i c] h=.j (.v (kW n (c4 n A.e B.e c) (dv n A.e B.e c))) h:=by
 rw[Gb rfl _ _ _ rfl];have d:=Ag1 b b;have i:=A0 k (.n n) h rfl (by simp[qh];lia);have a:=u1 (k+3) n A B h b h1 f;have q:(di n A.e B.e).Y<=100:=by rw[pW];have o:A.e*n<=4*4:=Ag1 h1 b;have a2:B.e*(n*n)<=4*16:=Ag1 f d;lia
 have g:=qo (k+2) (.n c) ((2^(di n A.e B.e).Y:Nat):Int) h rfl;have bt:qh (.n c) ((2^(di n A.e B.e).Y:Nat):Int)=true:=by simp only[qh,Aa0,decide_eq_true_eq];lia
 rw[bt]at g;obtain⟨m,p,e⟩:=yS h (di n A.e B.e) c [] u0 (λw a=>by
  rcases Ac6.p a with a|a
  .rw[(List.mem_replicate.p a).2];exact Nat.le_trans ‹_› (by decide)
  .rw[(List.mem_replicate.p a).2];exact d) (by rw[oe];simp;lia)
 rw[Ae7]at e;simp only[XO];refine fx (by simp![i];rfl) ?_;rw[xa (by simp![(vd (k+2) n A B h b h1 f),(z9 (di n A.e B.e).Y (Nat.le_trans ‹_› (by decide))),g])];refine fx (by simp![];rfl) ?_;refine fx (by simp![];rfl) ?_;have ew:eval (k8 (k+4)) (.j "widths" (.b .A .G)) [sv (ng A B),si n,si c,some (.j []),si c,none,none] h=.j (.j (aB (di n A.e B.e))) h:=by simp![a]
 rw[za (by simp only[exec,Gs,GJ,ew,R.ae,Kh,R.ar,R.ax];exact e)];have l:cut (aB (dg (di n A.e B.e) c)) u0 (y0 (A.e:Int))=aB (c4 n A.e B.e c):=by rw[ny,aB,←Ap1];rfl
 have j:cut (aB (dg (di n A.e B.e) c)) (y0 (A.e:Int)) u0=aB (dv n A.e B.e c):=by rw[xQ,aB,←List.map_drop];rfl
 refine fx (by simp![ab,Xh,Xc];rfl) ?_;rw[qa (w:=.v (kW n (c4 n A.e B.e c) (dv n A.e B.e c))) (h1:=h) (Ja rfl (by simp![Co,l,j,Z0]))];exact Ga _ _ _ rfl
noncomputable abbrev bN(n:Nat)(K T:List Tx):Nat:=K.e*n+T.e*(n*n)
def cN(n:Nat)(K T:List Tx)(S:List Sy):List (String×D):=[("words",wD K T),("sayings",.u (S.j aj)),("size",.n n),("places",.w ((bV n K T).j bU)),("whole",.n (2^bN n K T-1))]
def zp(e:h[r]?=y0 (.j c fs)):G6 h (y0 (.r r))=y0 (r,c,fs):=by unfold G6;simp[e]
def Jl(a:h[r]?=y0 (.j c fs))(e:Gn τ i=y0 (.r r))(b:fs.p f=y0 d):eval F (.aI (.X i) c f) τ h=.j (.v d) h:=by rw[eval,eval,Gj,e];simp[zp a,b,ak]
def wK(a:h[r]?=y0 (.j c fs))(d:Gn τ i=y0 (.r r))(b:(fs.p m).w=k9)(e:Gc F es τ h=.j ws h):eval F (.bT (.X i) c m q es) τ h=F.call q (.r r::ws.j W.arg) h:=by rw[eval,eval,Gj,d];simp[zp a,b,e]
section
variable{n:Nat}{K T:List Tx}{S:List Sy}{ro:Nat}{h:AH}
def pF(k c)(g:bM n K T)(C:h[ro]?=y0 (.j "Cases" (cN n K T S)))(d:c<2^bN n K T):call prog (k+6) "Cases.world_of_code" [.r ro,.i c] h=.j (.v (wo n K T c).bb) h:=by rw[Gb rfl _ _ _ rfl];have e:=MK k n (K.j .p) (T.j .p) c h g.n4 (by rw[Aa];exact g.k4) (by rw[Aa];exact g.t4) (by rw[pW,Aa,Aa];exact d);rw[Aa,Aa]at e;simp only[qj];have b:=Jl (F:=(k8 (k+5))) (τ:=[y0 _,si c]) (i:=0) (f:="words") C rfl rfl;have a:=Jl (F:=(k8 (k+5))) (τ:=[y0 _,si c]) (i:=0) (f:="size") C rfl rfl;rw[qa (w:=.v (wo n K T c).bb) (h1:=h) (Ja rfl (by generalize E.aI _ _ _=X at b⊢;generalize E.aI _ _ _=Y at a⊢;simp![b,a,e];rfl)),Ga _ _ _ rfl]
def wU(m j c d)(g:bM n K T)(C:h[ro]?=some (.j "Cases" (cN n K T S)))(x:c<2^bN n K T)(z:d<2^bN n K T)(t:S[j]?=some s)(u:s.j+9<=m)(wf:s.y (K++T)):∃r,Td (wo n K T c) (wo n K T d) s r/\call prog (m+1) "Cases.truth" [.r ro,.i j,.i c,.i d] h=.j (.v (aH r)) h:=by
 obtain⟨k,rfl⟩:=nk m 6 (Nat.le_trans (Nat.le_add_left _ _) ‹_›);obtain⟨r,y,e⟩:=DZ (g.pt c d) h s _ u wf;refine⟨r,y,?_⟩;rw[Gb rfl _ _ _ rfl];simp only[qA];have a:=wK (F:=(k8 (k+6))) (τ:=[y0 _,si j,si c,si d,u0]) (i:=0) (m:="world_of_code") (q:="Cases.world_of_code") (es:=.j .K .p) (ws:=[.i c]) C rfl rfl (by simp![]);have b:=wK (F:=(k8 (k+6))) (τ:=[y0 _,si j,si c,si d,u0]) (i:=0) (m:="world_of_code") (q:="Cases.world_of_code") (es:=.j .L .p) (ws:=[.i d]) C rfl rfl (by simp![]);have a:=a.j (pF k c g C x);have b:=b.j (pF k d g C z);have v:j<S.e:=(Aa1.p t).1;have l:aW (S.j aj) (j:Int)=y0 (aj s):=by rw[Xf _ _ (by rw[Aa];exact v),Ac2,t];rfl
 rw[za (τ1:=[y0 (.r ro),si j,si c,si d,sv (ck (wo n K T c) (wo n K T d))]) (h1:=h) (by generalize E.bT _ _ _ _ _=X at a⊢;generalize E.bT _ _ _ _ _=Y at b⊢;simp![a,b])];have p:=Jl (F:=(k8 (k+6))) (τ:=[y0 _,si j,si c,si d,sv (ck (wo n K T c) (wo n K T d))]) (i:=0) (f:="words") C rfl rfl;have o:=Jl (F:=(k8 (k+6))) (τ:=[y0 _,si j,si c,si d,sv (ck (wo n K T c) (wo n K T d))]) (i:=0) (f:="sayings") C rfl rfl;have e:call prog _ "told" [.v (wD K T),.v _,.v _] h=.j _ h:=e;rw[qa (w:=.v (aH r)) (h1:=h) (Ja rfl (by generalize E.aI _ _ _=X at p⊢;generalize E.aI _ _ _=Y at o⊢;simp![p,o,ab,l,e])),Ga _ _ _ rfl]
end
def uK(p)(t)(a b):cM (bU p) (.u [.p t,.o a,.o b])=k9↔p.1=t/\(p.2.1:Int)=a/\(p.2.2:Int)=b:=by simp[bU,GK]
theorem tJ(t)(a b):∀L:List Pl,inD (.u [.p t,.o a,.o b]) (L.j bU)=k9->∃i x y,Kr (.u [.p t,.o a,.o b]) (L.j bU)=y0 i/\L[i]?=y0 (t,x,y)/\a=(x:Int)/\b=(y:Int)
|[],h=>by simp[inD]at h
|p::L,h=>by
  rw[Ab2,Kr];by_cases q:cM (bU p) (.u [.p t,.o a,.o b])=k9
  .obtain⟨c,e,d⟩:=(uK p t a b).p q;refine⟨0,p.2.1,p.2.2,by rw[if_pos q],?_,e.p,d.p⟩;rw[←c];rfl
  .rw[if_neg q];have h:=by rw[inD,Ab2,Ag4,Ae8]at h;exact h.x q
   obtain⟨i,x,y,c,e,d,f⟩:=tJ t a b L h;exact⟨i+1,x,y,by rw[c];rfl,e,d,f⟩
def vt{x y i:Nat}{L:List Pl}(h:L[i]?=y0 (t,x,y)):inD (.u [.p t,.n x,.n y]) (L.j bU)=true:=by rw[inD,Ad1];exact⟨bU _,Ac1.u ⟨_,Ac5 h,rfl⟩,(uK _ _ _ _).u ⟨rfl,rfl,rfl⟩⟩
def zL(L:List Pl):Gf (L.j bU)=true:=Wn _ (λ_=>rfl) L
def uW(L:List Pl):GI (L.j bU)<140:=Ah8 (JT bU 1 (λ_=>by simp[bU]) L) (by decide)
def NV(t)(a b)(L:List Pl)(h):Gr .fP (.t [.p t,.o a,.o b]) (.l (L.j bU)) h=y0 (!inD (.u [.p t,.o a,.o b]) (L.j bU)):=by
 have g:Ki (.t [.p t,.o a,.o b]) (.l (L.j bU)) h=y0 (inD (.u [.p t,.o a,.o b]) (L.j bU)):=by unfold Ki;rw[W.iy,W.iy,oo (by exact zL L)];show(if _=k9 then _ else _)=_;rw[zL,decide_eq_true (uW L)];rfl
 show(Ki _ _ h).j (!·)=_;rw[g];rfl
def Dx{L:List Pl}(h)(c:L.e<=1000)(e:Kr (.u [.p t,.o a,.o b]) (L.j bU)=y0 i):nu .cu (.l (L.j bU)) [.t [.p t,.o a,.o b]] h=.j (.i i) h:=by
 have g:KB (.t [.p t,.o a,.o b]) (.l (L.j bU)) h=y0 i:=by unfold KB;rw[W.iy,W.iy,oo (by exact zL L)];show(if _=k9 then _ else _)=_;rw[zL,decide_eq_true (uW L),decide_eq_true (by rw[Gg,Aa];exact Nat.le_trans ‹_› (by decide))];exact e
 show(R.of h _).p _=_;rw[g];rfl
section
variable{n:Nat}{K T:List Tx}{S:List Sy}{ro:Nat}{h:AH}
def KN(k)(g:bM n K T)(C:h[ro]?=some (.j "Cases" (cN n K T S)))(a:(bV n K T)[i]?=some (t,x,y)):call prog (k+2) "Cases.bit_of" [.r ro,.s t,.i x,.i y] h=.j (.i (2^i)) h:=by
 rw[Gb rfl _ _ _ rfl];simp only[jv];have b:cG .str (.s t)=y0 true:=rfl;rw[xa (by simp![b,(qB k (.n x) h rfl),(qB k (.n y) h rfl),xz])];have c:=Jl (F:=(k8 (k+1))) (τ:=[y0 _,y0 (.s t),si x,si y]) (i:=0) (f:="places") C rfl rfl;have e:=NV t x y (bV n K T) h;rw[vt a]at e;obtain⟨j,q,p,d,m,e1,e2⟩:=tJ t x y _ (vt a);obtain rfl:=Int.ofNat.inj e1;obtain rfl:=Int.ofNat.inj e2;obtain rfl:=oY g a m;have o:(bV n K T).e<=100:=by rw[jF];have:=g.b6;exact Nat.le_trans ‹_› (by decide)
 have l:n5 .cu (.l ((bV n K T).j bU)) h=true:=rfl;generalize E.aI _ _ _=X at c⊢;rw[xa (by simp![c,e])];rw[qa (w:=.i (2^i)) (h1:=h) (Ja rfl (by simp![c,l,if_true,(Dx h (Nat.le_trans ‹_› (by decide)) d),(z9 i (by grind))])),Ga _ _ _ rfl]
end
def A4(n a b c j p):((dv n a b c).L j 0).j p=(u9 (j<b)&&(u9 (p<n*n)&&c.j (p+(a*n+j*(n*n))))):=by
 rw[Ac7];by_cases q:j<b
 .rw[oi q,Al0,Ag9,Ah,decide_eq_true q,Ae6]
 .rw[List.getElem?_eq_none (by rw[XV];exact Nat.le_of_not_lt ‹_›),An0,Af8,decide_eq_false q,Ae5]
def uU(n a b c j p):((c4 n a b c).L j 0).j p=(u9 (j<a)&&(u9 (p<n)&&c.j (p+j*n))):=by
 rw[Ac7];by_cases q:j<a
 .rw[nA q,Al0,Ag9,Ah,decide_eq_true q,Ae6]
 .rw[List.getElem?_eq_none (by rw[QV];exact Nat.le_of_not_lt ‹_›),An0,Af8,decide_eq_false q,Ae5]
def mC(h:Sub c d):Le (wo n K T c) (wo n K T d):=⟨rfl,λt x y z=>by
 unfold bp at z⊢;by_cases q:t∈T
 .rw[if_pos (show t∈(wo n K T _).T from q)]at z⊢;have z:((dv n K.e T.e c).L _ 0).j _=true:=z;show((dv n K.e T.e d).L _ 0).j _=k9;rw[A4,Aa0,Aa0]at z⊢;exact⟨z.1,z.2.1,h _ z.2.2⟩
 .rw[if_neg (show t∉(wo n K T _).T from q)]at z⊢;have z:(decide _&&((c4 n K.e T.e c).L (dA t K) 0).j x)=true:=z;show(decide _&&((c4 n K.e T.e d).L (dA t K) 0).j x)=k9;rw[uU,Aa0,Aa0,Aa0]at z⊢;exact⟨z.1,z.2.1,z.2.2.1,h _ z.2.2.2⟩⟩
section
variable{n:Nat}{K T:List Tx}
def qC(c d:Nat)(a:t∈K++T)(f:x<n)(b:y<n)(q:¬∃i:Nat,(bV n K T)[i]?=y0 (t,x,y)):bp (wo n K T c) t x y=false:=by
 cases e:bp _ t x y with
|false=>rfl
|true=>exact absurd (BO a f b e) q
def OW(g:bM n K T)(h:(bV n K T)[i]?=y0 (t,x,y))(c)(b:t'∈K++T)(f:x'<n)(d:y'<n):bp (wo n K T (c|||2^i)) t' x' y'=(bp (wo n K T c) t' x' y'||u9 ((t',x',y')=(t,x,y))):=by
 by_cases q:∃j:Nat,(bV n K T)[j]?=y0 (t',x',y')
 .obtain⟨j,a⟩:=q;rw[(ql g a _).1,(ql g a _).1,Af1,Ae0];congr 1;refine decide_eq_decide.u ⟨λe=>?_,λe=>?_⟩
  .subst e;rw[h]at a;exact(Ad6.inj a).p
  .rw[e]at a;exact oY g h a
 .rw[qC _ c b f d q,qC _ c b f d q,decide_eq_false λe=>q ⟨i,by rw[e];exact h⟩];rfl
def Pe(g:bM n K T)(h:(bV n K T)[i]?=y0 (t,x,y))(c)(b:t'∈K++T)(f:x'<n)(d:y'<n):bp (wo n K T (c-(c&&&2^i))) t' x' y'=(bp (wo n K T c) t' x' y'&&!u9 ((t',x',y')=(t,x,y))):=by
 by_cases q:∃j:Nat,(bV n K T)[j]?=y0 (t',x',y')
 .obtain⟨j,a⟩:=q;rw[(ql g a _).1,(ql g a _).1,Wf.aP,Ae0];congr 2;refine decide_eq_decide.u ⟨λe=>?_,λe=>?_⟩
  .subst e;rw[h]at a;exact(Ad6.inj a).p
  .rw[e]at a;exact oY g h a
 .rw[qC _ c b f d q,qC _ c b f d q];rfl
def tj{t t':Tx}(c:y<n)(b:y'<n):u9 ((t',x',y')=(t,x,y))=(u9 (t'=t)&&u9 (x*n+y=x'*n+y')):=by
 by_cases e:t'=t
 .rw[decide_eq_true e,Ae6];refine decide_eq_decide.u ⟨λz=>?_,λz=>?_⟩
  .have:x'=x/\y'=y:=by simpa[e]using z
   rw[this.1,this.2]
  .have d:x=x':=by rw[←Wf.aF (a:=x) c,z,Wf.aF b]
   have f:y=y':=by rw[←Wf.aJ c,z,Wf.aJ b]
   rw[e,d,f]
 .rw[decide_eq_false e,Ae5,decide_eq_false];exactλz=>e (by injection z)
variable{f:Tx->Nat×Nat}{r low high:Nat}{h:AH}
def Dc.eg (P:Dc (wo n K T low) (wo n K T high) f r h)(g:bM n K T)(a:(bV n K T)[i]?=y0 (t,x,y))(h1:high.j i=k9)(e:low.j i=y9):(f t).1.j (x*n+y)=y9/\(f t).2.j (x*n+y)=true:=by obtain⟨e1,d,c,b⟩:=ql g a low;refine⟨Aj7.u λz=>?_,((P.hi t d).bit x y c b).u (by rw[((ql g a high).1),h1])⟩;have:=((P.lo t d).bit x y c b).p z;rw[e1,e]at this;cases this
def Dc.yes (P:Dc (wo n K T low) (wo n K T high) f r h)(g:bM n K T)(m:(bV n K T)[i]?=y0 (t,x,y))(e:h'[r']?=y0 (.p (aQ (K++T) (qW f t ((f t).1|||2^(x*n+y),(f t).2))))):Dc (wo n K T (low|||2^i)) (wo n K T high) (qW f t ((f t).1|||2^(x*n+y),(f t).2)) r' h':=by
 obtain⟨-,s,p,o⟩:=ql g m low;refine⟨e,g.n4,λd l=>?_,λd l=>?_⟩
 .have v:=P.lo d l;have k:∀a b,a<n->b<n->bp _ d a b=(bp (wo n K T low) d a b||(u9 (d=t)&&u9 (x*n+y=a*n+b))):=λa b j k=>by rw[OW g m low l j k,tj o k]
  unfold qW;by_cases q:d=t
  .subst q;rw[if_pos rfl];refine⟨px v.lt (Ao4 (by decide) (Wf.place_lt p o)),λa b j c=>?_⟩;rw[k a b j c,decide_eq_true rfl,Ae6];rw[Af1,Ae0,Ae8,Ae8];exact or_congr (v.bit a b j c) Iff.rfl
  .rw[if_neg q];refine⟨v.lt,λa b j c=>?_⟩;rw[k a b j c,decide_eq_false q,Ae5,Ap3];exact v.bit a b j c
 .have v:=P.hi d l;unfold qW;by_cases q:d=t
  .subst q;rw[if_pos rfl];exact v
  .rw[if_neg q];exact v
def Dc.no (P:Dc (wo n K T low) (wo n K T high) f r h)(g:bM n K T)(s:(bV n K T)[i]?=y0 (t,x,y))(o:high.j i=k9)(e:h'[r']?=y0 (.p (aQ (K++T) (qW f t ((f t).1,(f t).2-2^(x*n+y)))))):Dc (wo n K T low) (wo n K T (high-(high&&&2^i))) (qW f t ((f t).1,(f t).2-2^(x*n+y))) r' h':=by
 obtain⟨m,A,w,p⟩:=ql g s high;refine⟨e,g.n4,λc l=>?_,λc l=>?_⟩
 .have v:=P.lo c l;unfold qW;by_cases q:c=t
  .subst q;rw[if_pos rfl];exact v
  .rw[if_neg q];exact v
 .have v:=P.hi c l;have k:∀a b,a<n->b<n->bp _ c a b=(bp (wo n K T high) c a b&&!(u9 (c=t)&&u9 (x*n+y=a*n+b))):=λa b j k=>by rw[Pe g s high l j k,tj p k]
  unfold qW;by_cases q:c=t
  .subst q;rw[if_pos rfl];have bt:(f c).2.j (x*n+y)=true:=(v.bit x y w p).u (by rw[m];exact o);have u:=by have:=sj (f c).2 (x*n+y);rw[wc,zd,bt,if_pos rfl]at this;exact Int.ofNat.inj (Ad6.inj this)
   refine⟨Ah8 (Ap7 _ _) v.lt,λa b j d=>?_⟩;rw[k a b j d,decide_eq_true rfl,Ae6];have z:(f c).2-2^(x*n+y)=(f c).2-((f c).2&&&2^(x*n+y)):=by rw[u]
   rw[z,Wf.aP,Ae0,Aa0,Aa0];exact and_congr (v.bit a b j d) Iff.rfl
  .rw[if_neg q];refine⟨v.lt,λa b j d=>?_⟩;rw[k a b j d,decide_eq_false q,Ae5,Ao6,Bool.and_true];exact v.bit a b j d
end
abbrev Jz:Tx:=[98,114,111,107,101,110]
abbrev Qj:Tx:=[115,112,108,105,116]
abbrev a8(K T:List Tx)(S:List Sy):D:=.u [wD K T,.u (S.j aj)]
def JC(k)(w)(l)(h):call prog (k+1) "is_tuple_of" [.t (.p s::r),.s w,.i l] h=.j (.b (decide (r.e+1=l)&&s==w)) h:=by
 rw[Gb rfl _ _ _ rfl];simp only[ZA];have a:cG .x (.t (.p s::r))=y0 true:=rfl;have c:cG .str (.s s)=y0 true:=rfl;have b:=tQ (r.e+1) l h;by_cases e:r.e+1=l
 .rw[decide_eq_true e]at b⊢;rw[xa (by simp![a,Xc,ak,Aa8,b])];rw[qa (w:=.b (s==w)) (h1:=h) (Ja rfl (by simp![ab,jf,c,xb])),Ga _ _ _ rfl];rfl
 .rw[decide_eq_false e]at b⊢;rw[Zf (by simp![a,Xc,ak,Aa8,b]) rfl,Ga _ _ _ rfl];rfl
section
variable{n:Nat}{K T:List Tx}{S:List Sy}{h:AH}
def EB(m r)(c:S[j]?=some s)(e:call prog (m+1) "_law_told" [.i n,.r r,.v (aj s)] h=.j (.v (aH (some false))) h):call prog (m+2) "_law_walks" [.v (a8 K T S),.i n,.r r,.t [.p Jz,.n j]] h=.j (.b true) h:=by
 rw[Gb rfl _ _ _ rfl];simp only[Jp];have k:=(Aa1.p c).1;have d:=Zy m (.n j) h rfl;have a:aW (S.j aj) (j:Int)=y0 (aj s):=by rw[Xf _ _ (by rw[Aa];exact k),Ac2,c];rfl
 have b:cG .x (.t [.p Jz,.n j])=y0 true:=rfl;have g:Gr .j (.i (2)) (.v (.o 0)) h=y0 false:=rfl;have l:Gr .j (.i (2)) (.v (.o 2)) h=y0 true:=rfl;have f:((0:Int)<=(j:Int)):=Int.natCast_nonneg _;have i:((j:Int)<(S.e:Int)):=by lia
 rw[xa (by simp![b,Xc,ak,Aa8,Ad9,g])];rw[qa ((Qq (h1:=h) (by simp![ab,Xh,xb,ak,show(Jz==kb)=k9 from rfl,Xc,Aa8,Ad9,l])).j ?_),Ga _ _ _ rfl];rw[xa (by simp![ab,qg,d,xz,ak,Q2,WZ,f,i,decide_true,Xc,Aa])];exact qa (Ja rfl (by simp![ab,qg,a,e,(lR _ y9 h),ak];rfl))
def ID(m r)(e:call prog (m+1) "_law_split" [.i n,.r r,.t [dn,da,db]] h=.j (.j [.j h.e,.j (h.e+1)]) h2)(b:h2.B h.e=h)(c:h.e<=h2.e)(q:Gw h=true)
 (l:call prog (m+1) "_law_walks" [.v (a8 K T S),.i n,.r h.e,.v p1] h2=.j (.b true) h2)(j:call prog (m+1) "_law_walks" [.v (a8 K T S),.i n,.r (h.e+1),.v p2] h2=.j (.b true) h2):
 call prog (m+2) "_law_walks" [.v (a8 K T S),.i n,.r r,.t [.p Qj,dn,da,db,p1,p2]] h=.j (.b true) h:=by
 rw[Gb (d:=Jp) rfl _ _ _ rfl];simp only[Jp];have a:cG .x (.t [.p Qj,dn,da,db,p1,p2])=y0 true:=rfl;have i:Gr .j (.i (6)) (.v (.o 0)) h=y0 false:=rfl;have f:Gr .u (.i (6)) (.v (.o 6)) h=y0 false:=rfl;have g:Gr .u (.s Qj) (.s m1) h=y0 false:=rfl;rw[xa (by simp![a,Xc,ak,Aa8,Ad9,i])];rw[xa (by simp![ab,jf,xb,ak,show(Qj==kb)=y9 from rfl]),xa (by simp![ab,jf,g,ak,Xc,Aa8,Ad9,f])];have p:fV (.t [D.str Qj,dn,da,db,p1,p2]) (y0 1) (y0 4) h=.j (.t [dn,da,db]) h:=rfl;refine fx (by simp![p,e];rfl) ?_;rw[xa (by simp![])];have a4:aW [D.str Qj,dn,da,db,p1,p2] 4=y0 p1:=rfl;have a5:aW [D.str Qj,dn,da,db,p1,p2] 5=y0 p2:=rfl;rw[qa (w:=.b k9) (h1:=h2) (Ja rfl (by simp![jr,Xh,qg,ab,a4,a5,l,j]))];obtain⟨s,o,k⟩:=m6 (d:=.C k9) (h:=h2) (n:=h.e) rfl c (by rw[b];exact q);rw[o,k,b]
end
section
variable{n:Nat}{K T:List Tx}{S:List Sy}{h:AH}{ro low high:Nat}
abbrev kY(ro:Nat)(p:D)(b a:Nat)(x y:Option W):Sl:=[y0 (.r ro),sv p,si b,si a,x,y]
def II(m)(C:h[ro]?=some (.j "Cases" (cN n K T S)))(g:j<S.e)(e:call prog (m+2) "Cases.truth" [.r ro,.i j,.i low,.i high] h=.j (.v (aH o)) h):call prog (m+3) "Cases.is_shown" [.r ro,.t [.p Jz,.n j],.i low,.i high] h=.j (.b (o==some false)) h:=by rw[Gb rfl _ _ _ rfl];simp only[wg];have b:call prog _ "is_tuple_of" [.t [.p Jz,.n j],.s kb,.v (.o 2)] h=.j (.b true) h:=JC (m+1) Jz 2 h;rw[qa ((Qq (h1:=h) (by simp![b])).j ?_),Ga _ _ _ rfl];refine(za (by simp![ab,qg];rfl)).j ?_;have c:=qo m (.n j) S.e h rfl;rw[show qh _ S.e=k9 by rw[qh,Aa0,decide_eq_true_eq,decide_eq_true_eq];lia]at c;have d:=Jl (F:=(k8 (m+2))) (τ:=kY ro (.u [.p Jz,.n j]) low high (si j) u0) (i:=0) (f:="sayings") C rfl rfl;have a:=wK (F:=(k8 (m+2))) (τ:=kY ro (.u [.p Jz,.n j]) low high (si j) u0) (i:=0) (m:="truth") (q:="Cases.truth") (es:=.j .v4 (.b .K .L)) (ws:=[.i j,.i low,.i high]) C rfl rfl (by simp![]);have a:=a.j e;have dE:=lR o y9 h;generalize E.aI _ _ _=X at d⊢;generalize E.bT _ _ _ _ _=Y at a⊢;exact qa (Ja rfl (by simp_all))
def C3(i):((2^i&&&high)-((2^i&&&high)&&&low)=0)↔¬(high.j i=k9/\low.j i=y9):=by
 rw[sub_zero];constructor
 .rintro z ⟨c,b⟩;have:=z i (by simp_all);rw[b]at this;cases this
 .intro z k a;rw[Ah2,Ae0,Aa0,decide_eq_true_eq]at a;obtain⟨rfl,a⟩:=a;cases q:low.j i with
|true=>rfl
|false=>exact absurd ⟨a,q⟩ z
def M7(m)(C:h[ro]?=y0 (.j "Cases" (cN n K T S)))(e:call prog (m+1) "Cases.bit_of" [.r ro,.v dn,.v da,.v db] h=.j (.i v) h)(g:call prog (m+1) "Cases.is_shown" [.r ro,.v p1,.i (low|||v),.i high] h=.j (.b b1) h)(f:call prog (m+1) "Cases.is_shown" [.r ro,.v p2,.i low,.i (high-(high&&&v))] h=.j (.b b2) h):
 call prog (m+2) "Cases.is_shown" [.r ro,.t [.p Qj,dn,da,db,p1,p2],.i low,.i high] h=.j (.b (!decide ((v&&&high)-((v&&&high)&&&low)=0)&&(b1&&b2))) h:=by
 rw[Gb (d:=wg) rfl _ _ _ rfl];simp only[wg];have c:call prog _ "is_tuple_of" [.t [.p Qj,dn,da,db,p1,p2],.s kb,.v (.o 2)] h=.j (.b false) h:=JC m Jz 2 h;have j:call prog _ "is_tuple_of" [.t [.p Qj,dn,da,db,p1,p2],.s m1,.v (.o 6)] h=.j (.b true) h:=JC m Qj 6 h;rw[xa (by simp![c]),xa (by simp![j,ak])];have k:aW [D.str Qj,dn,da,db,p1,p2] 1=y0 dn:=rfl;have a2:aW [D.str Qj,dn,da,db,p1,p2] 2=y0 da:=rfl;have a3:aW [D.str Qj,dn,da,db,p1,p2] 3=y0 db:=rfl;have a4:aW [D.str Qj,dn,da,db,p1,p2] 4=y0 p1:=rfl;have a5:aW [D.str Qj,dn,da,db,p1,p2] 5=y0 p2:=rfl;have b:=wK (F:=(k8 (m+1))) (τ:=kY ro (.u [.p Qj,dn,da,db,p1,p2]) low high u0 u0) (i:=0) (m:="bit_of") (q:="Cases.bit_of") (es:=.j (.B .G (.o 1)) (.b (.B .G (.o 2)) (.B .G (.o 3)))) (ws:=[.v dn,.v da,.v db]) C rfl rfl (by simp![ab,k,a2,a3]);have b:=b.j e;rw[za (τ1:=kY ro (.u [.p Qj,dn,da,db,p1,p2]) low high u0 (si v)) (h1:=h) (by generalize E.bT _ _ _ _ _=X at b⊢;simp![b])];have a:Gm (k8 (m+1)) (.y .j (.x .u (.x .u .v5 .L) (.inv .K)) (.o 0)) (kY ro (.u [.p Qj,dn,da,db,p1,p2]) low high u0 (si v)) h=.j (u9 ((v&&&high)-((v&&&high)&&&low)=0)) h:=by simp![wc,zd,JK,rA]
 cases q:u9 ((v&&&high)-((v&&&high)&&&low)=0)
 .rw[q]at a;rw[xa a];rw[qa (w:=.b (b1&&b2)) (h1:=h) (Ja rfl (w6 ((wK (F:=(k8 (m+1))) (τ:=kY ro (.u [.p Qj,dn,da,db,p1,p2]) low high none (si v)) (i:=0) (m:="is_shown") (q:="Cases.is_shown") (es:=.j (.B .G (.o 4)) (.b (.x .bor .K .v5) .L)) (ws:=[.v p1,.i (low|||v),.i high]) C rfl rfl (by simp![ab,a4,wn,Wm])).j g) ((wK (F:=(k8 (m+1))) (τ:=kY ro (.u [.p Qj,dn,da,db,p1,p2]) low high none (si v)) (i:=0) (m:="is_shown") (q:="Cases.is_shown") (es:=.j (.B .G (.o 5)) (.b .K (.x .u .L (.inv .v5)))) (ws:=[.v p2,.i low,.i (high-(high&&&v))]) C rfl rfl (by simp![ab,a5,wc,JK])).j f))),Ga _ _ _ rfl];rfl
 .rw[q]at a;rw[Zf (w:=.b y9) a rfl,Ga _ _ _ rfl];rfl
end
def tP(h:Sub a w)(q:Sub b w):Sub (a|||b) w:=λk z=>by rw[Af1,Ae8]at z;exact z.j (h k) (q k)
def uN(h:Sub w c)(q:w.j i=y9):Sub w (c-(c&&&2^i)):=λk z=>by rw[Wf.aP,h k z,Ae0,Ae6,Ag3];refine decide_eq_false λe=>?_;rw[←e,q]at z;cases z
def tG(p:Gw h=k9)(a b):Gw (h++[.p a,.p b])=true:=by rw[Gw,List.all_append,show h.N Cell.pure=k9 from p];rfl
inductive Pp(n:Nat)(K T:List Tx)(S:List Sy):D->Prop where
|brk {j:Nat}(h:j<S.e):Pp n K T S (.u [.p Jz,.n j])
|eg {i x y:Nat}{t:Tx}{p1 p2:D}(h:(bV n K T)[i]?=y0 (t,x,y))(h1:Pp n K T S p1)(h2:Pp n K T S p2):Pp n K T S (.u [.p Qj,.p t,.n x,.n y,p1,p2])
def Pp.nr {S:List Sy}(h:Pp n K T S p):Gd p=true:=by
 induction h with
|brk _=>rfl
|eg _ _ _ a b=>simp[a,b]
structure Wk(n:Nat)(K T:List Tx)(S:List Sy)(c:Nat)(p:D)(low high r:Nat)(h:AH):Prop where
 nP:Gw h=true->∀m,c<=m->call prog m "_law_walks" [.v (a8 K T S),.i n,.r r,.v p] h=.j (.b true) h
 snd:∀w,Sub low w->Sub w high->∃s∈S,∀o,Td (wo n K T w) (wo n K T w) s o->o=y0 y9
def Lw(n:Nat)(K T:List Tx)(S:List Sy)(c:Nat)(p:D)(b a:Nat):Prop:=∀f r h,Dc (wo n K T b) (wo n K T a) f r h->Wk n K T S c p b a r h
section
variable{n q c low high:Nat}{K T:List Tx}{S:List Sy}
def Lw.up (w:Lw n K T S c p low high)(l:c<=c'):Lw n K T S c' p low high:=λf r h P=>⟨λa m b=>(w f r h P).nP a m (Ab5 l b),(w f r h P).snd⟩
def Lw.brk (o:∀s∈S,s.y (K++T)/\s.j<=q)(g:S[j]?=y0 s)(d:Td (wo n K T low) (wo n K T high) s (y0 y9)):Lw n K T S (q+10) (.u [.p Jz,.n j]) low high:=λf r h P=>by have b:=Ac5 g;obtain⟨wf,dp⟩:=o s b;refine⟨λ_ m p=>?_,λw i l=>⟨s,b,λc a=>Td.mono (mC i) (mC l) (Le.refl _) s _ c y9 d a rfl⟩⟩;obtain⟨k,rfl⟩:=nk m 2 (Nat.le_trans (Nat.le_add_left _ _) ‹_›);obtain⟨c,a,e⟩:=yD P s (k+1) (by lia) wf;rw[a.uniq d]at e;exact EB k r g e
theorem Lw.eg (g:bM n K T)(a:(bV n K T)[i]?=y0 (t,x,y))(o:high.j i=k9)(u:low.j i=y9)(F:3<=c)(B:Lw n K T S c p1 (low|||2^i) high)(z:Lw n K T S c p2 low (high-(high&&&2^i))):Lw n K T S (c+1) (.u [.p Qj,.p t,.n x,.n y,p1,p2]) low high:=λf r h P=>by
 obtain⟨-,C,A,d⟩:=ql g a low;obtain⟨v,l2⟩:=P.eg g a o u;have D:(K++T).e<=100:=by rw[Aa5];have:=g.k4;have:=g.t4;lia
 have s:=B _ _ _ (P.yes g a (r':=h.e) (h':=h++[.p (aQ (K++T) (qW f t ((f t).1|||2^(x*n+y),(f t).2))),.p (aQ (K++T) (qW f t ((f t).1,(f t).2-2^(x*n+y))))]) (by simp));have q:=z _ _ _ (P.no g a o (r':=h.e+1) (h':=h++[.p (aQ (K++T) (qW f t ((f t).1|||2^(x*n+y),(f t).2))),.p (aQ (K++T) (qW f t ((f t).1,(f t).2-2^(x*n+y))))]) (by simp));refine⟨λb m E=>?_,λw j p=>?_⟩
 .obtain⟨k,rfl⟩:=nk m 3 (by lia);exact ID _ r (Nk k P.ad g.n4 C D A d v l2) (by simp) (by simp) b (s.nP (tG b _ _) _ (Nat.le_of_lt_succ ‹_›)) (q.nP (tG b _ _) _ (Nat.le_of_lt_succ ‹_›))
 .cases l:w.j i with
|true=>exact s.snd w (tP j λk e=>by rw[Ae0,decide_eq_true_eq]at e;rw[←e];exact l) p
|false=>exact q.snd w j (uN p l)
def walk(g:bM n K T)(B:∀s∈S,s.y (K++T)/\s.j<=q)(L:Pp n K T S p):∀d,dep p<=d->∀low high:Nat,low<2^bN n K T->high<2^bN n K T->∃b:Bool,(∀m ro (h':AH),d+q+12<=m->h'[ro]?=some (.j "Cases" (cN n K T S))->call prog m "Cases.is_shown" [.r ro,.v p,.i low,.i high] h'=.j (.b b) h')/\(b=true->Lw n K T S (d+q+12) p low high):=by
 induction L with
|@brk j w=>intro d D low high a c;obtain⟨s,f⟩:∃s,S[j]?=y0 s:=⟨S[j],Aa6 w⟩;obtain⟨wf,dp⟩:=B s (Ac5 f);obtain⟨o,A,-⟩:=wU (q+9) j low high (ro:=0) (h:=[Cell.obj "Cases" _]) g rfl a c f (Nat.add_le_add ‹_› (by decide)) wf;refine⟨o==y0 y9,λm ro h' G C=>?_,λz=>(Lw.brk B f (eq_of_beq z▸A)).up (by lia)⟩;obtain⟨k,rfl⟩:=nk m 3 (Nat.le_trans (Nat.le_add_left _ _) ‹_›);obtain⟨U,u,e⟩:=wU (k+1) j low high g C a c f (by lia) wf;rw[u.uniq A]at e;exact II k C w e
|@eg i x y t R Q v _ _ r l=>
  intro d D low high a c;simp only[dep,GI]at D;obtain⟨d,rfl⟩:∃e,d=e+1:=⟨d-1,by lia⟩;have J:i<bN n K T:=by have:=(Aa1.p v).1;rw[jF]at this;exact this
  obtain⟨M,F,O⟩:=r d (by lia) _ high (px a (Ao4 (by decide) J)) c;obtain⟨I,P,N⟩:=l d (by lia) low _ a (Ah8 (Ap7 _ _) c);refine⟨!u9 ((2^i&&&high)-((2^i&&&high)&&&low)=0)&&(M&&I),λm ro h' G C=>?_,λz=>?_⟩
  .obtain⟨k,rfl⟩:=nk m 3 (Nat.le_trans (Nat.le_add_left _ _) ‹_›);exact M7 _ C (KN k g C v) (F _ ro h' (by lia) C) (P _ ro h' (by lia) C)
  .rw[Aa0,Aa0,Ag3,decide_eq_false_iff_not]at z;obtain⟨H,E⟩:=Classical.not_not.p λy=>z.1 ((C3 i).u y);rw[show d+1+q+12=d+q+12+1 by lia];exact Lw.eg g v H E (Nat.le_add_left _ _) (O z.2.1) (N z.2.2)
end
abbrev ku:List Tx:=[xH,zc,Wj,Q1,Qa,xc,wb,zi]
abbrev g8(r:Nat)(u:W)(g p:Nat)(x4 a:Option W):Sl:=[y0 (.r r),y0 (u),si g,si p,x4,a]
def kT(X Y)(e:Gn τ i=y0 (.s s)):Gm F (.or (.y .j (.X i) (.p X)) (.y .j (.X i) (.p Y))) τ h=.j (s==X||s==Y) h:=by rw[Gm,kJ (a:=s==X) (b:=s==Y) (by simp only[eval,Gj,e,R.ae,xb,R.ar,ak]) (by simp only[eval,Gj,e,R.ae,xb,R.ar,ak]),R.ae];rfl
def ON(k)(o:Nw N u)(G:N.e<=8)(e:h[r]?=y0 (ag ns i v)):∃f v',f.wf N/\f.dp<=2/\execs (k8 (k+4)) (match aY.j with|.j _ (.j _ r)=>r|r=>r) (g8 r u g p u0 u0) h=.j (.v (dO f)) (h.x r (ag ns i v')):=by
 have L:r<h.e:=(Aa1.p e).1;have B:∀w,(h.x r (ag ns i w))[r]?=y0 (ag ns i w):=λw=>Ab6 L;obtain⟨a,v1,d,C,e1⟩:=tX o G 1 (k+1) h v e;have e1:call prog (k+4) "_law_expression" [.r r,u,.v (.o 1)] h=.j (.v (aV a)) (h.x r (ag ns i v1)):=by rw[show 1+(k+1)+2=k+4 by lia]at e1;exact e1
 have K:Gi .x (p:Int) 8=y0 ((p%8:Nat):Int):=rG p 8 (by decide);have pl:p%8<8:=Ai9 _ (by decide);obtain⟨w,I⟩:∃w,ku[p%8]?=y0 w:=⟨ku[p%8],Aa6 pl⟩;have z:aW [D.str xH,.p zc,.p Wj,.p Q1,.p Qa,.p xc,.p wb,.p zi] ((p%8:Nat):Int)=y0 (.p w):=by show aW (ku.j D.str) _=_;rw[Xf _ _ (by rw[Aa];exact pl),Ac2,I];rfl
 have n:w=xH\/w=zc\/w=Wj\/w=Q1\/w∈[Qa,xc,wb,zi]:=by have:=Ac5 I;simpa using this
 simp only[aY];have O:∀X,execs (k8 (k+4)) X (g8 r u g p (sv (aV a)) (some (.s w))) (h.x r (ag ns i v1))=execs (k8 (k+4)) (.j (.p 5 (.B (.w (.j (.p gf) (.j (.p kl) (.g (.p gW) (.p iT) (.p gG) (.p iB) (.p oj) (.p tf))))) (.x .x .L (.o 8)))) (.j (.p 4 (.j "_law_expression" (.c .A .G (.o 1)))) X)) (g8 r u g p none none) h:=fun X=>by rw[za (τ1:=g8 r u g p u0 (y0 (.s w))) (h1:=h) (by simp![K,qN,z])];rw[za (τ1:=g8 r u g p (sv (aV a)) (y0 (.s w))) (h1:=h.x r (ag ns i v1)) (by rcases o with rfl|rfl<;>simp![e1])]
 rw[←O];have two:(w==xH||w==zc)=true->∃b v',b.y N/\b.j<=2/\∀X,execs (k8 (k+4)) (.j (.r (.or (.y .j .v5 (.p gf)) (.y .j .v5 (.p kl))) (.u (.c .v5 .v4 (.j "_law_expression" (.c .A .G (.o 1)))))) X) (g8 r u g p (sv (aV a)) (some (.s w))) (h.x r (ag ns i v1))=.j (.t [.p w,aV a,aV b]) (h.x r (ag ns i v')):=fun q=>by
  obtain⟨b,v2,l,E,e2⟩:=tX o G 1 (k+1) _ v1 (B v1);have e2:call prog (k+4) "_law_expression" [.r r,u,.v (.o 1)] (h.x r (ag ns i v1))=.j (.v (aV b)) (h.x r (ag ns i v2)):=by rw[show 1+(k+1)+2=k+4 by lia,Ae1]at e2;exact e2
  refine⟨b,v2,l,(Nat.le_succ_of_le ‹_›),λX=>?_⟩;refine qa ((Qq (h1:=h.x r (ag ns i v1)) ?_).j (qa (Ja rfl ?_)))
  .rw[kT xH zc rfl,q]
  .rcases o with rfl|rfl<;>simp![e2]
 rcases n with rfl|rfl|rfl|rfl|n
 .obtain⟨b,v2,l,E,e2⟩:=two rfl;exact⟨.d7 a b,v2,⟨d,l⟩,by simp only[Fc.dp];lia,e2 _⟩
 .obtain⟨b,v2,l,E,e2⟩:=two rfl;exact⟨.eF a b,v2,⟨d,l⟩,by simp only[Fc.dp];lia,e2 _⟩
 .refine⟨.eD a,v1,d,Aj8 C,?_⟩;rw[xa (kT (s:=Wj) xH zc rfl)];exact Zf (kT (s:=Wj) Wj Q1 rfl) (Ja rfl (by simp![];rfl))
 .refine⟨.aw a,v1,d,Aj8 C,?_⟩;rw[xa (kT (s:=Q1) xH zc rfl)];exact Zf (kT (s:=Q1) Wj Q1 rfl) (Ja rfl (by simp![];rfl))
 .obtain⟨c,v2,A,e2⟩:=zg (k+3) (B v1) (m:=90) (by decide) (by decide);rw[Ae1]at e2;have e2:call prog (k+4) "_law_draw" [.r r,.v (.o 90)] (h.x r (ag ns i v1))=.j (.i c) (h.x r (ag ns i v2)):=e2;obtain⟨t,v3,H,x⟩:=zg (k+3) (B v2) (m:=8) (by decide) (by decide);rw[Ae1]at x;have x:call prog (k+4) "_law_draw" [.r r,.v (.o 8)] (h.x r (ag ns i v2))=.j (.i t) (h.x r (ag ns i v3)):=x;have J:((10:Int)+(c:Int))=((10+c:Nat):Int):=rfl;obtain⟨j,M⟩:∃j,[0,1,1,2,2,3,4,10+c][t]?=y0 j:=⟨_,Aa6 (show t<[0,1,1,2,2,3,4,10+c].e from H)⟩;have y:aW [D.int 0,.o 1,.o 1,.o 2,.o 2,.o 3,.o 4,.n (10+c)] (t:Int)=y0 (.n j):=by show aW (aB [0,1,1,2,2,3,4,10+c]) _=_;rw[Xf _ _ (by rw[Aa];exact H),Ac2,M];rfl
  refine⟨.cnt w j a,v3,⟨n,d⟩,Aj8 C,?_⟩;have F:(w==xH||w==zc)=y9/\(w==Wj||w==Q1)=false:=by
   have:w=Qa\/w=xc\/w=wb\/w=zi:=by simpa using n
   rcases this with rfl|rfl|rfl|rfl<;>exact⟨rfl,rfl⟩
  rw[xa (by rw[kT xH zc rfl,F.1])];rw[xa (by rw[kT Wj Q1 rfl,F.2])];exact qa (Ja rfl (by simp![e2,Qc,J,x,qN,y];rfl))
def AL(o:Nw N u)(L:N.e<=8):∀g k h v,h[r]?=y0 (ag ns i v)->∃s v',s.y N/\s.j<=g+2/\call prog (g+k+5) "_law_saying" [.r r,u,.i g] h=.j (.v (aj s)) (h.x r (ag ns i v')):=by
 have leaf:∀g K h v,h[r]?=y0 (ag ns i v)->∀p v1,(g=0\/¬7<p)->call prog (K+4) "_law_draw" [.r r,.v (.o 11)] h=.j (.i p) (h.x r (ag ns i v1))->∃s v',s.y N/\s.j<=g+2/\call prog (K+5) "_law_saying" [.r r,u,.i g] h=.j (.v (aj s)) (h.x r (ag ns i v')):=by
  intro g K h v e p v1 q e1;have n:r<h.e:=(Aa1.p e).1;obtain⟨f,v2,wf,U,e2⟩:=ON K o L (Ab6 n);rw[Ae1]at e2;refine⟨.p f,v2,wf,by simp only[Sy.dp];lia,?_⟩;rw[Gb (d:=aY) rfl _ _ _ rfl];simp only[aY]at e2⊢;refine fx (by simp![e1];rfl) ?_;rw[xa (by
   have c:=iz 0 g (h.x r (ag ns i v1));have c:Gr .gt (.i g) (.v (.o 0)) (h.x r (ag ns i v1))=y0 (u9 (0<g)):=c;have l:Gr .gt (.i p) (.v (.o 7)) (h.x r (ag ns i v1))=y0 (u9 (7<p)):=iz 7 p _;rw[Gm,w6 (a:=u9 (0<g)) (b:=u9 (7<p)) (by simp![c]) (by simp![l]),R.ae];have:(u9 (0<g)&&u9 (7<p))=false:=by
    rw[Bool.and_eq_false_iff,decide_eq_false_iff_not,decide_eq_false_iff_not];rcases q with q|q
    .exact .p (by lia)
    .exact .u q
   rw[this];rfl),e2]
  exact Ga _ h _ (Ad4 ..)
 intro g;induction g with
|zero=>intro k h v e;obtain⟨p,v1,Q,e1⟩:=zg (k+3) e (m:=11) (by decide) (by decide);rw[show 0+k+5=k+5 by lia];have e1:call prog (k+4) "_law_draw" [.r r,.v (.o 11)] h=.j (.i p) (h.x r (ag ns i v1)):=e1;exact leaf 0 k h v e p v1 (.p rfl) e1
|succ g E=>
  intro k h v e;have n:r<h.e:=(Aa1.p e).1;have z:∀w,(h.x r (ag ns i w))[r]?=y0 (ag ns i w):=λw=>Ab6 n;have C:∀w,(h.x r (ag ns i w)).e=h.e:=λw=>Ad4 ..;rw[show g+1+k+5=(g+k+1)+5 by lia];obtain⟨p,v1,Q,e1⟩:=zg (g+k+1+3) e (m:=11) (by decide) (by decide);by_cases q:7<p
  .have e1:call prog (g+k+5) "_law_draw" [.r r,.v (.o 11)] h=.j (.i p) (h.x r (ag ns i v1)):=e1;obtain⟨s,v2,A,V,e2⟩:=E k _ v1 (z v1);rw[Ae1]at e2;have y:(((g+1:Nat):Int)-1)=((g:Nat):Int):=by lia
   rw[Gb (d:=aY) rfl _ _ _ rfl];show∃s v',_/\_/\Gx _ (execs _ _ [y0 (.r r),y0 (u),si (g+1),u0,u0,u0] h)=_;simp only[aY];rw[za (τ1:=g8 r u (g+1) p u0 u0) (h1:=h.x r (ag ns i v1)) (by simp![e1])];have I:∀a X,execs (k8 (g+k+5)) (.j (.iff (.and (.y .gt .K (.o 0)) (.y .gt .L (.o 7))) a .p) X) (g8 r u (g+1) p u0 u0) (h.x r (ag ns i v1))=(execs (k8 (g+k+5)) a (g8 r u (g+1) p u0 u0) (h.x r (ag ns i v1))).seq λS h=>execs (k8 (g+k+5)) X S h:=λa X=>by rw[execs,Qq (h1:=h.x r (ag ns i v1))];have c:Gr .gt (.i (g+1)) (.v (.o 0)) (h.x r (ag ns i v1))=y0 (u9 (0<g+1)):=iz 0 (g+1) _;have l:Gr .gt (.i p) (.v (.o 7)) (h.x r (ag ns i v1))=y0 (u9 (7<p)):=iz 7 p _;rw[Gm,w6 (a:=u9 (0<g+1)) (b:=u9 (7<p)) (by simp![c]) (by simp![l]),R.ae,decide_eq_true q,decide_eq_true (by lia)];rfl
   rw[I];rw[za (τ1:=g8 r u (g+1) p (sv (aj s)) u0) (h1:=h.x r (ag ns i v2)) (by rcases o with rfl|rfl<;>simp![we,y,e2])];have B:Gr .j (.i p) (.v (.o 8)) (h.x r (ag ns i v2))=y0 (u9 (p=8)):=Zj p 8 _;by_cases G:p=8
   .refine⟨.neg s,v2,A,by simp only[Sy.dp];exact Nat.succ_le_succ ‹_›,?_⟩;rw[Zf (w:=.v (aj (.neg s))) (by simp![B,decide_eq_true G]) (Ja rfl (by simp![];rfl)),O.cR];exact Ga _ h _ (C v2)
   .rw[xa (by simp![B,decide_eq_false G])];obtain⟨x,v3,j,P,F⟩:=E k _ v2 (z v2);rw[Ae1]at F;obtain⟨f,J,T,t,M,H⟩:∃f:Sy->Sy->Sy,(∀a b,(f a b).j=max a.j b.j+1)/\(∀a b,a.y N->b.y N->(f a b).y N)/\∃t,aW [D.str qx,.p jA] ((p:Int)-9)=y0 (.p t)/\∀a b,aj (f a b)=.u [.p t,aj a,aj b]:=by
     have:p=9\/p=10:=by lia
     rcases this with rfl|rfl
     .exact⟨.cK,λ_ _=>rfl,λ_ _ h g=>⟨h,g⟩,qx,rfl,λ_ _=>rfl⟩
     .exact⟨.cE,λ_ _=>rfl,λ_ _ h g=>⟨h,g⟩,jA,rfl,λ_ _=>rfl⟩
    refine⟨f s x,v3,T _ _ A j,by rw[J];lia,?_⟩;rw[qa (w:=.v (aj (f s x))) (h1:=h.x r (ag ns i v3)) (Ja rfl (by rw[H];rcases o with rfl|rfl<;>simp![we,qN,M,y,F])),O.cR];exact Ga _ h _ (C v3)
  .have e1:call prog (g+k+1+4) "_law_draw" [.r r,.v (.o 11)] h=.j (.i p) (h.x r (ag ns i v1)):=e1;exact leaf (g+1) (g+k+1) h v e p v1 (.u q) e1
noncomputable abbrev du(r:Nat)(w:D)(M:Nat)(N:List Tx)(L:List D)(x:Option W):Sl:=[y0 (.r r),sv w,si M,y0 (.l (N.j .p)),y0 (.j L),x]
def Nu(k)(z:N.e<=8)(y:ns.e<=63)(e:h[r]?=y0 (ag ns i v))(F:L.e=j)(J:j<5)(D:∀s∈L,s.y N/\s.j<=4+j):∃s O v',s.y N/\s.j<=5+j/\execs (k8 (k+7)) Zi (du r w M N (L.j aj) (si j)) h=.p (du r w M N ((L++[s]).j aj) (si j)) (h.x r (ag ns O v')):=by
 have B:r<h.e:=(Aa1.p e).1;have f:∀i w,(h.x r (ag ns i w))[r]?=y0 (ag ns i w):=λi w=>Ab6 B;obtain⟨v1,e1⟩:=sr (k+6) y e;obtain⟨s,v2,p,I,e2⟩:=AL (.p rfl) z 1 (k+1) _ v1 (f (i+1) v1);have e2:call prog (k+7) "_law_saying" [.r r,.l (N.j .p),.v (.o 1)] (h.x r (ag ns (i+1) v1))=.j (.v (aj s)) (h.x r (ag ns (i+1) v2)):=by rw[Ae1,show 1+(k+1)+5=k+7 by lia]at e2;exact e2
 unfold Zi;rw[za (τ1:=du r w M N (L.j aj) (si j)) (h1:=h.x r (ag ns (i+1) v1)) (by simp![e1])];have E:(L.j aj).e<bq:=by rw[Gg,Aa];lia
 rw[za (τ1:=du r w M N ((L++[s]).j aj) (si j)) (h1:=h.x r (ag ns (i+1) v2)) (by simp![e2,E,if_true];rw[Ad8];rfl)];have o:∀C:AH,Gr .gt (.i j) (.v (.o 0)) C=y0 (u9 (0<j)):=iz 0 j;by_cases q:0<j
 .obtain⟨d,v3,K,c⟩:=zg (k+6) (f (i+1) v2) (m:=9) (by decide) (by decide);rw[Ae1]at c;have c:call prog (k+7) "_law_draw" [.r r,.v (.o 9)] (h.x r (ag ns (i+1) v2))=.j (.i d) (h.x r (ag ns (i+1) v3)):=c;have l:Gm (k8 (k+7)) (.and (.y .gt .v5 (.o 0)) (.y .j (.j "_law_draw" (.b .A (.o 9))) (.o 0))) (du r w M N ((L++[s]).j aj) (si j)) (h.x r (ag ns (i+1) v2))=.j (decide (d=0)) (h.x r (ag ns (i+1) v3)):=by simp![o,decide_eq_true q,c,rA]
  by_cases n:d=0
  .obtain⟨x,v4,G,t⟩:=zg (k+6) (f (i+1) v3) (m:=j) q (Nat.le_trans ‹_› (by decide));rw[Ae1]at t;have g:x<L.e:=by lia
   have a:aW ((L++[s]).j aj) (x:Int)=y0 (aj L[x]):=by rw[Xf _ _ (by rw[Aa,Aa5];exact Nat.lt_succ_of_lt ‹_›),Ac2,Ad3 g,Aa6 g];rfl
   obtain⟨A,H⟩:=D _ (Ai7 g);refine⟨.neg L[x],i+1,v4,A,by simp only[Sy.dp];lia,?_⟩;have b:ea ((L++[s]).j aj).e (-1)=y0 L.e:=by rw[Aa,Aa5];simp[ea];lia
   have u:((L++[s]).j aj).x L.e (.u [.p WL,aj L[x]])=(L++[Sy.neg L[x]]).j aj:=by rw[Ad8,Ad8,List.set_append_right _ _ (by rw[Aa];exact Nat.le_refl _),Aa,Ap9];rfl
   rw[za (τ1:=du r w M N ((L++[Sy.neg L[x]]).j aj) (si j)) (h1:=h.x r (ag ns (i+1) v4)) ((Qq (h1:=h.x r (ag ns (i+1) v3)) (by rw[l,decide_eq_true n])).j ?_),execs];rw[za (τ1:=du r w M N ((L++[Sy.neg L[x]]).j aj) (si j)) (h1:=h.x r (ag ns (i+1) v4)),execs];generalize (L++[s]).j aj=Z at a b u⊢;simp![t,Dq,a,b,u,Int.reduceNeg]
  .refine⟨s,i+1,v3,p,by lia,?_⟩;rw[za (oI (h1:=h.x r (ag ns (i+1) v3)) (by rw[l,decide_eq_false n])),execs]
 .refine⟨s,i+1,v2,p,by lia,?_⟩;rw[xa (by simp![o,decide_eq_false q]),execs]
theorem uG(k)(p:N.e<=8)(o:ns.e<=63):∀c j i v (h:AH)(L:List Sy)(x:Option W),h[r]?=y0 (ag ns i v)->L.e=j->j+c<=5->(∀s∈L,s.y N/\s.j<=4+j)->∃(d:List Sy)(m:Nat)(l:Int)(g:Option W),(∀s∈d,s.y N/\s.j<=4+(j+c))/\d.e=j+c/\Gp (Gq [5] k9) (λτ h=>execs (k8 (k+7)) Zi τ h) ((Ao7 j c).j λ(x:Nat)=>D.n x) (du r w M N (L.j aj) x) h=.p (du r w M N (d.j aj) g) (h.x r (ag ns m l))
|0,j,i,v,h,L,x,e,f,_,b=>⟨L,i,v,x,b,f,by rw[List.range'_zero,Af2,Xx];congr 1;obtain⟨t,e⟩:=Aa1.p e;rw[←e,List.set_getElem_self]⟩
|c+1,j,i,v,h,L,x,e,f,A,b=>by
  have t:r<h.e:=(Aa1.p e).1;obtain⟨s,i1,v1,y,B,e1⟩:=Nu k (M:=M) (w:=w) p o e f (by lia) b
  obtain⟨d,m,l,g,u,z,q⟩:=uG k (M:=M) (w:=w) p o c (j+1) i1 v1 (h.x r (ag ns i1 v1)) (L++[s]) (si j) (Ab6 t) (by rw[Aa5,f];rfl) (by lia) (λn a=>by
   rcases Ac6.p a with a|a
   .exact⟨(b n a).1,by have:=(b n a).2;exact Nat.le_succ_of_le ‹_›⟩
   .rw[Ac4.p a];exact⟨y,by lia⟩)
  rw[Ae1]at q;refine⟨d,m,l,g,λs b=>by have:=u s b;exact⟨this.1,by lia⟩,by lia,?_⟩;rw[An4,Ab2,Wa (τ1:=du r w M N (L.j aj) (si j)) rfl e1,q]
def NQ(k)(g:bM n K T)(z:M<=5)(l:ns.e<=63)(e:h[r]?=y0 (ag ns i v)):∃S j v',(∀s∈S,s.y (K++T)/\s.j<=9)/\S.e<=M/\call prog (k+8) "_law_theory" [.r r,.v (wD K T),.i M] h=.j (.v (a8 K T S)) (h.x r (ag ns j v')):=by
 have u:r<h.e:=(Aa1.p e).1;obtain⟨d,v1,B,e1⟩:=zg _ e (m:=M+1) (Nat.le_add_left _ _) (by lia);have e1:call prog (k+7) "_law_draw" [.r r,.i _] h=.j _ _:=e1;have o:(K++T).e<=8:=by rw[Aa5];have:=g.k4;have:=g.t4;lia
 obtain⟨L,j,v',p,a,A,f⟩:=uG k (M:=M) (N:=K++T) (w:=wD K T) o l d 0 i v1 _ [] u0 (Ab6 u) rfl (by lia) (λ_ h=>absurd h Ah6);rw[Ae1]at f;refine⟨L,j,v',λs y=>by have:=a s y;exact⟨this.1,by lia⟩,by lia,?_⟩;rw[Gb (d:=xr) rfl _ _ _ rfl];show Gx _ (execs _ _ [y0 _,sv _,si M,u0,u0,u0] h)=_;simp only[xr];have t:(K.j D.str).e+(T.j D.str).e<=bq:=by rw[Gg,Aa,Aa];have:=g.k4;have:=g.t4;lia
 rw[za (τ1:=[y0 _,sv _,si M,y0 (.l ((K++T).j .p)),u0,u0]) (h1:=h) (by simp![ab,Xh,qg,Bt,t,if_true,ak,tL];rw[Ad8])];rw[za (τ1:=du r (wD K T) M (K++T) [] u0) (h1:=h) (by simp![])];have c:((M:Int)+1)=((M+1:Nat):Int):=rfl;have q:Gs (k8 (k+7)) (.ao (.j "_law_draw" (.b .A (.x .j .K (.o 1))))) (du r (wD K T) M (K++T) [] none) h=.j ((List.range d).j fun x=>D.n x) (h.x r (ag ns i v1)):=by
  have b:-(gj)<=(d:Int)/\(d:Int)<gj:=by rw[GL];lia
  simp![Qc,c,e1,b,and_self,if_true,Ac9]
 rw[za (τ1:=du r (wD K T) M (K++T) (L.j aj) p) (h1:=h.x r (ag ns j v')) (by rw[exec,q,R.ax,Ao2];exact f)];rw[qa (w:=.v (a8 K T L)) (h1:=h.x r (ag ns j v')) (Ja rfl (by simp![NP,ak]))];exact Ga _ h _ (Ad4 ..)
def vK{f:Tx->Nat×Nat}{t:Tx}{N:List Tx}(h:t∉N):GE (aQ N f) t (bf (f t).1 (f t).2)=aQ (N++[t]) f:=by
 unfold GE aQ;rw[if_neg,Ad8]
 .rfl
 .rw[Ad1];rintro⟨p,a,e⟩;obtain⟨x,b,rfl⟩:=Ac1.p a;have e:=by simpa using e
  exact h (e▸b)
def zu(h)(a b:Cell):(h++[a]).x h.e b=h++[b]:=by simp
def Jm(h)(a:Cell):(h++[a])[h.e]?=y0 a:=by simp
theorem oX{st:Option W->Sl}(c:∀x d,GB (st x) 3 (.v d)=st (sv d)):∀(a N:List Tx)(x:Option W),(N++a).C->(∀t∈a,∀N:List Tx,N.e<=8->execs F b (st (y0 (.s t))) (h++[.p (aQ N f)])=.p (st (y0 (.s t))) (h++[.p (GE (aQ N f) t (bf (f t).1 (f t).2))]))->(N++a).e<=8->∃i,Gp (Gq [3] k9) (λτ h=>execs F b τ h) (a.j .p) (st x) (h++[.p (aQ N f)])=.p (st i) (h++[.p (aQ (N++a) f)])
|[],N,x,_,_,_=>⟨x,by rw[Ae];rfl⟩
|t::a,N,x,k,j,g=>by have l:t∉N:=λz=>(Aj4.p k).2.2 t z t Aa3 rfl;have e1:=j t Aa3 N (by rw[Aa5]at g;exact Nat.le_trans (Nat.le_add_right _ _) ‹_›);rw[vK l]at e1;obtain⟨i,e⟩:=oX c a (N++[t]) (y0 (.s t)) (by rw[Af0];exact k) (λu m=>j u (Aa2 _ m)) (by rw[Af0];exact g);refine⟨i,?_⟩;rw[Ab2,Wa (τ1:=st (y0 (.s t))) (by rw[GD,c]) e1,e,Af0];rfl
def fO(n:Nat)(T:List Tx)(t:Tx):Nat×Nat:=if t∈T then(0,2^(n*n)-1)else(0,Wf.bH n)
def HM(k)(g:bM n K T)(h):call prog (k+2) "_law_open" [.v (wD K T),.i n] h=.j (.r h.e) (h++[.p (aQ (K++T) (fO n T))]):=by
 obtain⟨i,o,u⟩:=Aj4.p g.nd;have s:n*n<=16:=Ag1 g.n4 g.n4;have m:Gi .w (n:Int) (n:Int)=y0 _:=je n n (by have:=g.n4;exact Nat.lt_of_le_of_lt ‹_› (by decide));have v:=z9 (n*n) (Nat.le_trans ‹_› (by decide));have a:((2^(n*n):Nat):Int)-1=((2^(n*n)-1:Nat):Int):=by have:=Ad5 (n*n);lia
 rw[Gb (d:=zD) rfl _ _ _ rfl];simp only[zD];have l:∀N:List Tx,N.e<=8->(aQ N (fO n T)).e<bq:=λN c=>by rw[Gg,aQ,Aa];exact Nat.lt_of_le_of_lt ‹_› (by decide)
 obtain⟨e,e1⟩:=oX (F:=(k8 (k+1))) (h:=h) (b:=Js) (f:=fO n T) (st:=λx=>[sv _,si n,y0 (.r h.e),x]) (λ_ _=>rfl) K [] u0 i (λt j N c=>by
  have r:t∉T:=λz=>u t j t z rfl;have q:=AX k n (h++[.p (aQ N (fO n T))]) g.n4;have nr:Gd (bf (fO n T t).1 (fO n T t).2)=true:=rfl;have:fO n T t=(0,Wf.bH n):=by rw[fO,if_neg r]
  unfold Js;rw[za (τ1:=[sv (wD K T),si n,y0 (.r h.e),y0 (.s t)]) (h1:=h++[.p (GE (aQ N (fO n T)) t (bf (fO n T t).1 (fO n T t).2))]) (by simp![q,Jq (Jm h (.p (aQ N (fO n T)))),ak];rw[if_pos ⟨l N c,rfl⟩,zu,this];rfl),execs]) (by have:=g.k4;rw[Ae7];exact Nat.le_trans ‹_› (by decide))
 obtain⟨p,e2⟩:=oX (F:=(k8 (k+1))) (h:=h) (b:=Ws) (f:=fO n T) (st:=λx=>[sv (wD K T),si n,y0 (.r h.e),x]) (λ_ _=>rfl) T K e g.nd (λt j N c=>by
  have:fO n T t=(0,2^(n*n)-1):=by rw[fO,if_pos j]
  unfold Ws;rw[za (τ1:=[sv (wD K T),si n,y0 (.r h.e),y0 (.s t)]) (h1:=h++[.p (GE (aQ N (fO n T)) t (bf (fO n T t).1 (fO n T t).2))]) (by simp![m,v,we,a,Jq (Jm h (.p (aQ N (fO n T)))),ak];rw[if_pos ⟨l N c,rfl⟩,zu,this];rfl),execs]) (by have:=g.k4;have:=g.t4;rw[Aa5];lia)
 rw[Ae7]at e1;rw[za (τ1:=[sv (wD K T),si n,y0 (.r h.e),u0]) (h1:=h++[.p (aQ [] (fO n T))]) (by simp![ak];rfl)];rw[za (τ1:=[sv (wD K T),si n,y0 (.r h.e),e]) (h1:=h++[.p (aQ K (fO n T))]) (by rw[exec,show Gs (k8 (k+1)) (.j (.B .A (.o 0))) [sv (wD K T),si n,y0 (.r h.e),u0] (h++[.p (aQ [] (fO n T))])=.j (K.j .p) (h++[.p (aQ [] (fO n T))])by simp![ab,Xh],R.ax];exact e1)];rw[za (τ1:=[sv (wD K T),si n,y0 (.r h.e),p]) (h1:=h++[.p (aQ (K++T) (fO n T))]) (by rw[exec,show Gs (k8 (k+1)) (.j (.B .A (.o 1))) [sv (wD K T),si n,y0 (.r h.e),e] (h++[.p (aQ K (fO n T))])=.j (T.j .p) (h++[.p (aQ K (fO n T))])by simp![ab,qg],R.ax];exact e2)];rw[qa (w:=.r h.e) (h1:=h++[.p (aQ (K++T) (fO n T))]) rfl];show fin h.e _ _=_;unfold fin;rw[if_neg (by simp),if_neg (by simp[W.keep])]
def LF{n:Nat}{K T:List Tx}(g:bM n K T){r:Nat}{h:AH}(e:h[r]?=y0 (.p (aQ (K++T) (fO n T)))):Dc (wo n K T 0) (wo n K T (2^bN n K T-1)) (fO n T) r h:=by
 have b:∀{i x y:Nat}{t:Tx},_[i]?=y0 _->bp _ t x y=true:=λ{i x y t} c=>by have j:=(Aa1.p c).1;rw[jF]at j;rw[(ql g c _).1,Ah1,decide_eq_true j]
 refine⟨e,g.n4,λt f=>?_,λt f=>?_⟩
 .have:(fO n T t).1=0:=by unfold fO;split<;>rfl
  rw[this];refine⟨Ad5 _,λx y a d=>?_⟩;rw[Af8];refine⟨(λz=>by cases z),λz=>?_⟩;obtain⟨i,c⟩:=BO f a d z;rw[(ql g c 0).1,Af8]at z;cases z
 .unfold fO;by_cases q:t∈T
  .rw[if_pos q];refine⟨Nat.sub_lt (Ad5 _) (by decide),λx y a d=>?_⟩;obtain⟨i,c⟩:=oP (K:=K) a d (.p q);have k:x*n+y<n*n:=Wf.place_lt a d;show(2^_-1).j (x*n+y)=k9↔_;rw[Ah1,decide_eq_true k,b c]
  .rw[if_neg q];have v:=(V.leaf (n:=n)).1;refine⟨v.lt,λx y a d=>(v.bit x y a d).j ?_⟩;by_cases e:x=y
   .subst e;obtain⟨i,c⟩:=oP (T:=T) a a (.u ⟨((Ac6.p f).w q),rfl⟩);rw[b c];simp[JZ]
   .rw[bp,if_neg (show t∉(wo n K T _).T from q),decide_eq_false e,Ae5];simp[JZ,e]
noncomputable def fi(n x:Nat):Nat:=((Aa7 n).j λa=>(x.j a).j*2^(a*n+a)).Y
def yt{n x:Nat}(b:n<=4)(a:x<2^n):fi n x=Wf.c9 n (km n x):=by
 have:∀n,n<5->∀x,x<16->fi n x=Wf.c9 n (km n x):=by decide+kernel
 exact this n (Nat.succ_le_succ ‹_›) x (Ab4 a (Ad2 (by decide) b))
def L7(k n x)(h)(l:n<=4):call prog (k+1) "_law_spread" [.i n,.i x] h=.j (.i (fi n x)) h:=by
 rw[Gb rfl _ _ _ rfl];have e:eval (k8 k) xn [si n,si x] h=.j (.j (aB ((Aa7 n).j λa=>(x.j a).j*2^(a*n+a)))) h:=by
  unfold xn;rw[xp (λa=>.n _) rfl (Nat.le_trans ‹_› (by decide)) λa c=>⟨.i _,?_,rfl⟩]
  .rw[aB,Ad7];rfl
  .have i:=je a n (by lia);have j:(x.j a).j<=1:=by cases x.j a<;>decide
   have g:=jU (x.j a).j (a*n+a) (Nat.lt_of_le_of_lt ‹_› (by decide)) (by have:=Wf.place_lt c c;have:=Ji (show n<=20 by lia);lia);have f:(((a*n:Nat):Int)+(a:Int))=((a*n+a:Nat):Int):=rfl;simp![i,Qc,f,Xo,pY,g]
 have d:ek .sum [.j (aB ((Aa7 n).j λa=>(x.j a).j*2^(a*n+a)))] h=.j (.i (fi n x)) h:=by show(R.of h ((y0 _).p λb=>if b.e<=bq then Kk b else u0)).p _=_;rw[Af6,if_pos (by rw[Gg,aB,Aa,Aa,Ai2];exact Nat.le_trans ‹_› (by decide)),jT];rfl
 simp only[XF];rw[qa (w:=.i (fi n x)) (h1:=h) (Ja rfl (by simp![e,d])),Ga _ _ _ rfl]
theorem o4{st:Option W->Option W->Sl}(g:∀x y d,GB (st x y) 4 (.v d)=st (sv d) y)(L a:List Tx)(l:(a++L).C)(m:(a++L).e<=8)(n:∀(j:Nat)(t:Tx)(y:Option W)(N:List Tx),L[j]?=y0 t->N.e<=8->∃i,execs F b (st (si j) y) (h++[.p (aQ N f)])=.p (st (si j) i) (h++[.p (GE (aQ N f) t (bf (f t).1 (f t).2))])):∀(c j:Nat)(x y:Option W),j+c=L.e->∃M i,Gp (Gq [4] k9) (λτ h=>execs F b τ h) ((Ao7 j c).j λ(x:Nat)=>D.n x) (st x y) (h++[.p (aQ (a++L.B j) f)])=.p (st M i) (h++[.p (aQ (a++L) f)])
|0,j,x,y,q=>⟨x,y,by rw[Aj (by lia)];rfl⟩
|c+1,j,x,y,q=>by
  have k:j<L.e:=by lia
  have s:L[j]?=y0 L[j]:=Aa6 k;have o:a++L=(a++L.B j)++(L[j]::L.K (j+1)):=by rw[Af0,←Am7 k,List.take_append_drop]
  have p:L[j]∉a++L.B j:=λz=>by rw[o]at l;exact(Aj4.p l).2.2 _ z _ Aa3 rfl
  obtain⟨r,e1⟩:=n j L[j] y (a++L.B j) s (by rw[o,Aa5]at m;exact Nat.le_trans (Nat.le_add_right _ _) ‹_›);rw[vK p,Af0,show L.B j++[L[j]]=L.B (j+1)by rw[List.take_append_getElem k]]at e1;obtain⟨M,i,e⟩:=o4 g L a l m n c (j+1) (si j) r (by lia);refine⟨M,i,?_⟩;rw[An4,Ab2,Wa (τ1:=st (si j) y) (by rw[GD,g]) e1,e]
noncomputable def fS(n:Nat)(K T:List Tx)(c:Nat)(t:Tx):Nat×Nat:=if t∈T then((dv n K.e T.e c).L (dA t T) 0,(dv n K.e T.e c).L (dA t T) 0)else(fi n ((c4 n K.e T.e c).L (dA t K) 0),fi n ((c4 n K.e T.e c).L (dA t K) 0))
def D5{n c:Nat}{K T:List Tx}(g:bM n K T){r:Nat}{h:AH}(e:h[r]?=y0 (.p (aQ (K++T) (fS n K T c)))):Dc (wo n K T c) (wo n K T c) (fS n K T c) r h:=by
 have ok:=g.wo c;have a:∀t∈K++T,V n (fS n K T c t).1 (bp _ t)/\(fS n K T c t).2=(fS n K T c t).1:=λt b=>by
  unfold fS;by_cases q:t∈T
  .rw[if_pos q];have i:=(xm q).2;refine⟨⟨?_,λx y d f=>?_⟩,rfl⟩
   .show(dv n K.e T.e c).L _ 0<_;rw[Ac7,oi i];exact Ai9 _ (Ad5 _)
   .rw[bp,if_pos (show t∈(wo n K T c).T from q)];exact Iff.rfl
  .rw[if_neg q];have lt:(c4 n K.e T.e c).L (dA t K) 0<2^n:=by rw[Ac7,nA ((xm ((Ac6.p b).w q)).2)];exact Ai9 _ (Ad5 _)
   refine⟨⟨?_,λx y d f=>?_⟩,rfl⟩
   .show fi n _<_;rw[yt g.n4 lt];exact Wf.dw (XS _ _)
   .show(fi n _).j _=k9↔_;rw[yt g.n4 lt,yC d f,bp,if_neg (show t∉(wo n K T c).T from q),Aa0,decide_eq_true_eq];exact Iff.rfl
 exact⟨e,g.n4,λt b=>(a t b).1,λt b=>by rw[(a t b).2];exact(a t b).1⟩
def Di(k c)(g:bM n K T)(h):call prog (k+2) "_law_seen" [.v (wD K T),.v (wo n K T c).bb] h=.j (.r h.e) (h++[.p (aQ (K++T) (fS n K T c))]):=by
 obtain⟨p,u,U⟩:=Aj4.p g.nd;have Q:=g.k4;have M:=g.t4;rw[Gb (d:=xB) rfl _ _ _ rfl];show Gx _ (execs _ _ [sv (wD K T),sv (kW n (c4 n K.e T.e c) (dv n K.e T.e c)),u0,u0,u0,u0] h)=_;simp only[xB];have E:∀N:List Tx,N.e<=8->(aQ N (fS n K T c)).e<bq:=λN r=>by rw[Gg,aQ,Aa];exact Nat.lt_of_le_of_lt ‹_› (by decide)
 have o:∀(L:List Tx)(j:Nat)(t:Tx),L[j]?=y0 t->aW (L.j D.str) (j:Int)=y0 _:=λL j t e=>by rw[Xf _ _ (by rw[Aa];exact(Aa1.p e).1),Ac2,e];rfl
 generalize m:kW n _ _=a;have X:aW [D.n n,.u _,.u (aB (dv n K.e T.e c))] 1=y0 (.u (aB (c4 n K.e T.e c))):=rfl
 obtain⟨v,C,e1⟩:=o4 (F:=(k8 (k+1))) (h:=h) (b:=Xs) (f:=fS n K T c) (st:=λx y=>[sv (wD K T),sv a,si n,y0 (.r h.e),x,y]) (λ_ _ _=>rfl) K [] p (by rw[Ae7];exact Nat.le_trans ‹_› (by decide)) (λj t y N l r=>by
  have S:=Ac5 l;have O:t∉T:=λz=>U t S t z rfl;have s:j<(c4 n K.e T.e c).e:=by rw[QV];exact(Aa1.p l).1
  have I:=L7 k n ((c4 n K.e T.e c).L j 0) (h++[.p (aQ N (fS n K T c))]) g.n4;have A:fS n K T c t=(fi n ((c4 n K.e T.e c).L j 0),fi n ((c4 n K.e T.e c).L j 0)):=by rw[fS,if_neg O,jZ p l]
  have P:=m4 _ j s;have a2:=o K j t l;refine⟨sv (.o ((fi n ((c4 n K.e T.e c).L j 0):Nat):Int)),?_⟩;unfold Xs;rw[za (τ1:=[sv (wD K T),sv a,si n,y0 (.r h.e),si j,sv (.o ((fi n ((c4 n K.e T.e c).L j 0):Nat):Int))]) (h1:=h++[.p (aQ N (fS n K T c))]) (by rw[←m];simp![ab,Z6,P,I])];rw[za (τ1:=[sv (wD K T),sv a,si n,y0 (.r h.e),si j,sv (.o ((fi n ((c4 n K.e T.e c).L j 0):Nat):Int))]) (h1:=h++[.p (GE (aQ N (fS n K T c)) t (bf (fS n K T c t).1 (fS n K T c t).2))]) (by simp![ab,Xh,a2,Jq (Jm h (.p (aQ N (fS n K T c)))),ak];rw[if_pos ⟨E N r,rfl⟩,zu,A]),execs]) K.e 0 u0 u0 (by lia)
 obtain⟨J,H,e2⟩:=o4 (F:=(k8 (k+1))) (h:=h) (b:=Wq) (f:=fS n K T c) (st:=λx y=>[sv (wD K T),sv a,si n,y0 (.r h.e),x,y]) (λ_ _ _=>rfl) T K g.nd (by rw[Aa5];lia) (λj t y N l r=>by
  have s:j<(dv n K.e T.e c).e:=by rw[XV];exact(Aa1.p l).1
  have A:fS n K T c t=((dv n K.e T.e c).L j 0,(dv n K.e T.e c).L j 0):=by rw[fS,if_pos (Ac5 l),jZ u l]
  have a2:=o T j t l;refine⟨y,?_⟩;unfold Wq;rw[za (τ1:=[sv (wD K T),sv a,si n,y0 (.r h.e),si j,y]) (h1:=h++[.p (GE (aQ N (fS n K T c)) t (bf (fS n K T c t).1 (fS n K T c t).2))]) (by rw[←m];simp![ab,qg,lP,(m4 _ j s),a2,Jq (Jm h (.p (aQ N (fS n K T c)))),ak];rw[if_pos ⟨E N r,rfl⟩,zu,A]),execs]) T.e 0 v C (by lia)
 rw[List.take_zero,Ae7]at e1;rw[List.take_zero,Ae]at e2;rw[Ae7]at e1;have G:∀(i:Int)(L:List Tx)(x y:Option W)(B:AH),L.e<=4->aW [iP K,iP T] i=y0 (iP L)->Gs (k8 (k+1)) (.ao (.bi .y (.a (.B .A (.o i))))) [sv (wD K T),sv a,si n,y0 (.r h.e),x,y] B=.j ((Ao7 0 L.e).j λ(x:Nat)=>D.n x) B:=λi L x y B V q=>by rw[←Ao2];exact Ju (by simp![ab,q,Xc,ak,Aa]) (Nat.le_trans ‹_› (by decide))
 rw[za (τ1:=[sv (wD K T),sv a,si n,u0,u0,u0]) (h1:=h) (by rw[←m];simp![ab,oG])];rw[za (τ1:=[sv (wD K T),sv a,si n,y0 (.r h.e),u0,u0]) (h1:=h++[.p (aQ [] (fS n K T c))]) (by simp![ak];rfl)];rw[za (τ1:=[sv (wD K T),sv a,si n,y0 (.r h.e),v,C]) (h1:=h++[.p (aQ K (fS n K T c))]) (by rw[exec,G 0 K u0 u0 _ Q rfl,R.ax];exact e1)];rw[za (τ1:=[sv (wD K T),sv a,si n,y0 (.r h.e),J,H]) (h1:=h++[.p (aQ (K++T) (fS n K T c))]) (by rw[exec,G 1 T v C _ M rfl,R.ax];exact e2)];rw[qa (w:=.r h.e) (h1:=h++[.p (aQ (K++T) (fS n K T c))]) rfl];show fin h.e (.r h.e) _=_;unfold fin;rw[if_neg (by simp),if_neg (by simp[W.keep])]
def oM{F:Fx}{k:Nat}{aD:List Nat}{it:It}{c elt:E}{τ:Sl}{h:AH}{ds:List D}(Q:D->D->Prop)(i:Gk F it τ h=.j ds h)(l:ds.e<=1000)(e:∀d∈ds,∃y,eval F elt (GB (Aa4 k u0++aD.j λj=>Gj τ j) 0 (.v d)) h=.j (.v y) h/\Q d y):∃f:D->D,eval F (.N [0] k9 k aD it y9 c elt) τ h=.j (.j (ds.j f)) h/\∀d∈ds,Q d (f d):=by
 have:∀d,∃y,d∈ds->eval F elt _ h=.j _ h/\Q d y:=λd=>by
  by_cases m:d∈ds
  .obtain⟨y,g⟩:=e d m;exact⟨y,λ_=>g⟩
  .exact⟨.T,λz=>absurd z m⟩
 obtain⟨f,b⟩:=Classical.skolem.p this;refine⟨f,?_,λd a=>(b d a).2⟩;exact Zl f i (by rw[Gg];exact Nat.le_trans ‹_› (by decide)) λd a=>⟨_,rfl,_,(b d a).1,rfl⟩
theorem Bj(f:D->D):∀ds:List D,(∀d∈ds,∃b,f d=.C b)->∃bs:List Bool,ds.j f=bs.j .C
|[],_=>⟨[],rfl⟩
|d::ds,h=>by obtain⟨b,e⟩:=h d Aa3;obtain⟨bs,e2⟩:=Bj f ds λd a=>h d (Aa2 _ a);exact⟨b::bs,by rw[Ab2,e,e2];rfl⟩
section
variable{n q:Nat}{K T:List Tx}{S:List Sy}
def DN(m c)(g:bM n K T)(J:∀s∈S,s.y (K++T)/\s.j<=q)(U:S.e<=100)(V:q+8<=m)(h)(N:Gw h=true):∃b:Bool,call prog (m+1) "_law_keeps" [.v (a8 K T S),.v (wo n K T c).bb] h=.j (.b b) h/\(b=true↔∀s∈S,Td (wo n K T c) (wo n K T c) s (some true)):=by
 obtain⟨k,rfl⟩:=nk m 2 (Nat.le_trans (Nat.le_add_left _ _) ‹_›);have e1:=Di k c g h;have P:=D5 g (c:=c) (Jm h (.p (aQ (K++T) (fS n K T c))));rw[Gb (d:=Qw) rfl _ _ _ rfl];show∃b,Gx _ (execs _ _ [sv (a8 K T S),sv ((wo n K T c).bb),u0] h)=_/\_;simp only[Qw];have t:(h++[Cell.aR (aQ (K++T) (fS n K T c))]).B h.e=h:=by simp
 have H:h.e<=(h++[Cell.aR (aQ (K++T) (fS n K T c))]).e:=by simp
 generalize h++[Cell.aR _]=j at e1 P t H;have B:aW [D.n n,.u (aB (c4 n K.e T.e c)),.u (aB (dv n K.e T.e c))] 0=y0 _:=rfl;have I:∀s∈S,∃o,Td _ _ s o/\eval (k8 (k+2)) (.y .dE (.j "_law_told" (.c (.B .G (.o 0)) .K .A)) (.C true)) [sv (aj s),sv ((wo n K T c).bb),some (.r h.e)] j=.j (.b (o==some true)) j:=fun s a=>by obtain⟨o,p,r⟩:=yD P s (k+2) (by have:=(J s a).2;lia) (J s a).1;have r:call prog (k+2) "_law_told" [.i n,.r h.e,.v (aj s)] j=.j (.v (aH o)) j:=r;have O:(wo n K T c).bb=.u [.n n,.u (aB (c4 n K.e T.e c)),.u (aB (dv n K.e T.e c))]:=rfl;refine⟨o,p,?_⟩;rw[O];simp![ab,B,r,(lR o k9 j)]
 obtain⟨f,u,C⟩:=oM (F:=(k8 (k+2))) (k:=1) (aD:=[1,2]) (it:=.j (.B .A (.o 1))) (c:=.C true) (elt:=.y .dE (.j "_law_told" (.c (.B .G (.o 0)) .K .A)) (.C true)) (τ:=[sv (a8 K T S),sv ((wo n K T c).bb),some (.r h.e)]) (h:=j) (ds:=S.j aj) (fun d y=>∀s∈S,d=aj s->∃o,Td (wo n K T c) (wo n K T c) s o/\y=.C (o==some true)) (by simp![ab,qg]) (by rw[List.length_map];exact Nat.le_trans ‹_› (by decide)) (fun d l=>by
  obtain⟨s,a,rfl⟩:=Ac1.p l;obtain⟨o,p,r⟩:=I s a;refine⟨.C (o==y0 k9),r,λL A e=>?_⟩;obtain⟨Q,G,i⟩:=I L A;rw[←e]at i;rw[r]at i;refine⟨Q,G,?_⟩;injection i with i
  injection i)
 obtain⟨bs,v⟩:=Bj f (S.j aj) λd l=>by obtain⟨s,a,e⟩:=Ac1.p l;obtain⟨o,-,e2⟩:=C d l s a e.p;exact⟨_,e2⟩
 rw[v]at u;have u:eval (k8 (k+2)) Qy [sv (a8 K T S),sv ((wo n K T c).bb),y0 (.r h.e)] j=.j (.j (bs.j .C)) j:=u;refine⟨bs.N id,?_,λz s a=>?_,λz=>?_⟩
 .have E:aW [wD K T,D.tup (S.j aj)] 0=y0 (wD K T):=rfl;refine fx (by simp![ab,E,e1];rfl) ?_;rw[qa (w:=.b (bs.N id)) (h1:=j) (Ja rfl (Wx u))];obtain⟨W,M,R⟩:=m6 (d:=.C (bs.N id)) (h:=j) (n:=h.e) rfl H (by rw[t];exact N);rw[M,R,t]
 .obtain⟨o,p,e⟩:=C (aj s) (Ac1.u ⟨s,a,rfl⟩) s a rfl;have m:f (aj s)∈bs.j D.bl:=by rw[←v];exact Ac1.u ⟨_,Ac1.u ⟨s,a,rfl⟩,rfl⟩
  obtain⟨b,x,e2⟩:=Ac1.p m;rw[e]at e2;have e2:b=(o==y0 k9):=by injection e2
  have:=Ai8.p z b x;rw[e2]at this;have:o=y0 true:=eq_of_beq this;rw[←this];exact p
 .rw[Ai8];intro b x;have m:D.bl b∈bs.j D.bl:=Ac1.u ⟨b,x,rfl⟩;rw[←v]at m;obtain⟨d,l,e⟩:=Ac1.p m;obtain⟨s,a,rfl⟩:=Ac1.p l;obtain⟨o,p,e2⟩:=C (aj s) l s a rfl;rw[e2,p.uniq (z s a)]at e;injection e with e
  exact e.p
end
def CH(l)(x):aB (l++[x])=aB l++[.n x]:=by simp
noncomputable def cA:Ex->List Tx
|.p t=>[t]
|.A a=>cA a
|.x a=>cA a
|.plus a b=>cA a++cA b
|.less a b=>cA a++cA b
|.both a b=>cA a++cA b
|.u a b=>cA a++cA b
|_=>[]
def Pg:Fc->List Tx
|.d7 a b=>cA a++cA b
|.eF a b=>cA a++cA b
|.eD a=>cA a
|.aw a=>cA a
|.cnt _ _ a=>cA a
def eQ:Sy->List Tx
|.p f=>Pg f
|.neg a=>eQ a
|.cK a b=>eQ a++eQ b
|.cE a b=>eQ a++eQ b
def zG(h:a<=2^x)(g:b<=2^y):a+b<=2^(max x y+1):=by have d:2^x<=2^max x y:=Ad2 (by decide) (Nat.le_max_left _ _);have c:2^y<=2^max x y:=Ad2 (by decide) (Nat.le_max_right _ _);lia
def lW(h:a<=2^x):a<=2^(x+1):=Ab5 h (Ad2 (by decide) (Ag _))
theorem jd:∀e:Ex,(cA e).e<=2^e.j
|.p _=>Aa9 _
|.same=>Af4 _
|.all=>Af4 _
|.w=>Af4 _
|.A a=>lW (jd a)
|.x a=>lW (jd a)
|.plus a b=>by rw[cA,Aa5];exact zG (jd a) (jd b)
|.less a b=>by rw[cA,Aa5];exact zG (jd a) (jd b)
|.both a b=>by rw[cA,Aa5];exact zG (jd a) (jd b)
|.u a b=>by rw[cA,Aa5];exact zG (jd a) (jd b)
theorem Jn:∀s:Sy,(eQ s).e<=2^(s.j+1)
|.p f=>by
  cases f with
  |d7 a b=>show(cA a++cA b).e<=_;rw[Aa5];exact zG (jd a) (jd b)
  |eF a b=>show(cA a++cA b).e<=_;rw[Aa5];exact zG (jd a) (jd b)
  |eD a=>exact lW (jd a)
  |aw a=>exact lW (jd a)
  |cnt _ _ a=>exact lW (jd a)
|.neg a=>lW (Jn a)
|.cK a b=>by rw[eQ,Aa5,Sy.dp];have:=zG (Jn a) (Jn b);rw[show max (a.j+1) (b.j+1)+1=max a.j b.j+1+1 by lia]at this;exact this
|.cE a b=>by rw[eQ,Aa5,Sy.dp];have:=zG (Jn a) (Jn b);rw[show max (a.j+1) (b.j+1)+1=max a.j b.j+1+1 by lia]at this;exact this
def iK(m:Nat)(h:AH)(p:D×List Tx):Prop:=(∃i,p.1=.o i/\p.2=[])\/∃xs,p.1=.u xs/\call prog m "names_in" [.v p.1] h=.j (.j (p.2.j .p)) h
theorem sF:∀(ps:List (D×List Tx)) j x,(∀p∈ps,iK m h p)->j.e+(ps.Q (·.2)).e<=900000->∃L,Gp (Gq [2] k9) (λτ h=>execs (k8 m) wm τ h) (ps.j (·.1)) [sv th,y0 (.j (j.j .p)),x] h=.p [sv th,y0 (.j ((j++ps.Q (·.2)).j .p)),L] h
|[],j,x,_,_=>⟨x,by simp[Gp]⟩
|(d,l)::ps,j,x,c,a=>by
  rw[Aj5,Aa5]at a;have a:j.e+(l.e+(ps.Q (·.2)).e)<=900000:=a;obtain⟨L,e⟩:=sF ps (j++l) (sv d) (λp b=>c p (Aa2 _ b)) (by rw[Aa5];lia);refine⟨L,?_⟩;rw[Ab2,Wa (τ1:=[sv th,y0 (.j (j.j .p)),sv d]) rfl,e,Aj5,Af0];show execs _ wm _ h=_;unfold wm;rcases c (d,l) Aa3 with⟨i,e1,e2⟩|⟨f,e1,e2⟩
  .cases e1;cases e2;rw[xa (by simp![M3,Ty.mu]),execs,Ae]
  .cases e1;have e2:=e2;have g:(j.j D.str).e+(l.j D.str).e<bq:=by rw[Gg,Aa,Aa];lia
   rw[za ((Qq (h1:=h) (by simp![HS,Ty.ir])).j ?_),execs];rw[za (τ1:=[sv th,y0 (.j ((j++l).j .p)),y0 (.t f)]) (by simp![e2,g,if_true];rw[Ad8]),execs]
def pe(a:(s==zh)=y9)(ps:List (D×List Tx))(b:∀p∈ps,iK m h p)(c:(ps.Q (·.2)).e<=900000):call prog (m+1) "names_in" [.t (.p s::ps.j (·.1))] h=.j (.j ((ps.Q (·.2)).j .p)) h:=by
 obtain⟨d,e⟩:=sF ps [] u0 b (by simp_all);rw[Ae7]at e;rw[Gb rfl _ _ _ rfl];simp only[XD];rw[xa (by rw[←a];simp![ab,jf,xb])];refine fx (by simp![];rfl) ?_;have sl:fV (.t (.p s::ps.j (·.1))) (y0 1) u0 h=.j (.t (ps.j (·.1))) h:=by show ak _ h=_;rw[show cut _ (y0 1) u0=_ from xQ _ 1];rfl
 rw[za (by rw[exec,show Gs (k8 m) _ [y0 _,y0 _,u0] h=.j (ps.j (·.1)) h by simp![sl],R.ax];exact e)];rw[qa rfl,Gu _ _ _ rfl]
def J9(a:(s==zh)=y9):call prog (m+1) "names_in" [.t [.p s]] h=.j (.j (([]:List Tx).j .p)) h:=pe a [] (fun _ h=>absurd h List.not_mem_nil) (Nat.zero_le _)
def n9(b:(s==zh)=y9)(a:iK m h (d,l))(e:l.e<=400000):call prog (m+1) "names_in" [.t [.p s,d]] h=.j (.j (l.j .p)) h:=by have:=pe b [_] (λp c=>by rw[Ac4.p c];exact a) (by simp;exact Nat.le_trans ‹_› (by decide));simpa using this
def WO(f:(s==zh)=y9)(c:iK m h (d,l))(a:iK m h (d',l'))(g:l.e<=400000)(e:l'.e<=400000):call prog (m+1) "names_in" [.t [.p s,d,d']] h=.j (.j ((l++l').j .p)) h:=by
 have:=pe f [_,_] (λp b=>by
  obtain rfl|b:=Ab8.p b
  .exact c
  .rw[Ac4.p b];exact a) (by simp;lia)
 simpa using this
def yA(e):∃xs,aV e=.u xs:=by cases e<;>exact⟨_,rfl⟩
def W2(s):∃xs,aj s=.u xs:=by
 cases s with
|fact f=>cases f<;>exact⟨_,rfl⟩
|_=>exact⟨_,rfl⟩
def zM(d)(h:d<=17):2^d<=400000:=Ab5 (Ad2 (by decide) h) (by decide)
def MQ(h):∀e m,e.j+1<=m->e.j<=16->call prog m "names_in" [.v (aV e)] h=.j (.j ((cA e).j .p)) h:=by
 intro e;have ok:∀e m,(∀m,e.j+1<=m->e.j<=16->call prog m "names_in" [.v _] h=.j _ h)->e.j+1<=m->e.j<=16->iK m h (aV e,cA e)/\(cA e).e<=400000:=fun e m d f g=>by obtain⟨n,ex⟩:=yA e;exact⟨.u ⟨n,ex,d m f g⟩,Ab5 (jd e) (zM _ (Nat.le_succ_of_le ‹_›))⟩
 have one:∀s a,_=y9->(∀m,a.j+1<=m->a.j<=16->call prog m "names_in" [.v _] h=.j _ h)->∀m,a.j+1+1<=m->a.j+1<=16->call prog m "names_in" [.t [.p s,aV a]] h=.j _ h:=fun s a j d m f g=>by obtain⟨k,rfl⟩:=nk m 1 (Nat.le_trans (Nat.le_add_left _ _) ‹_›);obtain⟨l,i⟩:=ok a k d (Nat.le_of_lt_succ ‹_›) (Nat.le_of_lt ‹_›);exact n9 j l i
 have two:∀s a b,_=y9->(∀m,a.j+1<=m->a.j<=16->call prog m "names_in" [.v _] h=.j _ h)->(∀m,b.j+1<=m->b.j<=16->call prog m "names_in" [.v _] h=.j _ h)->∀m,max a.j b.j+1+1<=m->max a.j b.j+1<=16->call prog m "names_in" [.t [.p s,aV a,aV b]] h=.j _ h:=fun s a b j d c m f g=>by obtain⟨k,rfl⟩:=nk m 1 (Nat.le_trans (Nat.le_add_left _ _) ‹_›);obtain⟨l,i⟩:=ok a k d (by lia) (by lia);obtain⟨p,o⟩:=ok b k c (by lia) (by lia);exact WO j l p i o
 induction e with
|name t=>intro m f _;obtain⟨k,rfl⟩:∃k,m=k+1:=⟨m-1,by simp[Ex.dp]at f;exact(Nat.sub_add_cancel ‹_›).symm⟩;rw[Gb rfl _ _ _ rfl];show Gx _ (execs _ _ [y0 (.t [.p zh,.p t]),u0,u0] h)=_;simp only[XD];rw[qa (w:=.j [.p t]) (h1:=h) ((Qq (by simp![xb];rfl)).j (qa (Jw rfl (by simp![ab,qg])))),Gu _ _ _ rfl];rfl
|same=>intro m f _;obtain⟨k,rfl⟩:=nk m 1 (Nat.le_trans (Nat.le_add_left _ _) ‹_›);exact J9 rfl
|all=>intro m f _;obtain⟨k,rfl⟩:=nk m 1 (Nat.le_trans (Nat.le_add_left _ _) ‹_›);exact J9 rfl
|none=>intro m f _;obtain⟨k,rfl⟩:=nk m 1 (Nat.le_trans (Nat.le_add_left _ _) ‹_›);exact J9 rfl
|turned a d=>exact one Xi a rfl d
|closed a d=>exact one zj a rfl d
|plus a b d c=>exact two xF a b rfl d c
|less a b d c=>exact two zq a b rfl d c
|both a b d c=>exact two zz a b rfl d c
|joined a b d c=>exact two jh a b rfl d c
def Et(h):∀s m,s.y N->s.j+2<=m->s.j<=14->call prog m "names_in" [.v (aj s)] h=.j (.j ((eQ s).j .p)) h:=by
 intro s;have c:∀e m,e.j+1<=m->e.j<=14->iK m h (aV e,cA e)/\(cA e).e<=400000:=λe m d g=>by obtain⟨n,ex⟩:=yA e;exact⟨.u ⟨n,ex,MQ h e m d (Nat.le_trans ‹_› (by decide))⟩,Ab5 (jd e) (zM _ (Nat.le_trans ‹_› (by decide)))⟩
 induction s with
|fact f=>
  intro m wf d g;obtain⟨k,rfl⟩:=nk m 1 (Nat.le_trans (Nat.le_add_left _ _) ‹_›);cases f with
  |d7 a b=>simp only[Sy.dp,Fc.dp]at d g;obtain⟨l,i⟩:=c a k (by lia) (by lia);obtain⟨v,u⟩:=c b k (by lia) (by lia);exact WO rfl l v i u
  |eF a b=>simp only[Sy.dp,Fc.dp]at d g;obtain⟨l,i⟩:=c a k (by lia) (by lia);obtain⟨v,u⟩:=c b k (by lia) (by lia);exact WO rfl l v i u
  |eD a=>simp only[Sy.dp,Fc.dp]at d g;obtain⟨l,i⟩:=c a k (Nat.le_of_lt_succ ‹_›) (Nat.le_trans ‹_› (by decide));exact n9 rfl l i
  |aw a=>simp only[Sy.dp,Fc.dp]at d g;obtain⟨l,i⟩:=c a k (Nat.le_of_lt_succ ‹_›) (Nat.le_trans ‹_› (by decide));exact n9 rfl l i
  |cnt t j a=>
   simp only[Sy.dp,Fc.dp]at d g;obtain⟨l,i⟩:=c a k (Nat.le_of_lt_succ ‹_›) (Nat.le_trans ‹_› (by decide));have w:(t==zh)=false:=by
    have:t=Qa\/t=xc\/t=wb\/t=zi:=by simpa using wf.1
    rcases this with rfl|rfl|rfl|rfl<;>rfl
   have:=WO w (.p ⟨_,rfl,rfl⟩:iK k h (.n j,[])) l (Af4 _) i;exact this
|neg a p=>intro m wf d g;obtain⟨k,rfl⟩:=nk m 1 (Nat.le_trans (Nat.le_add_left _ _) ‹_›);simp only[Sy.dp]at d g;obtain⟨n,ex⟩:=W2 a;exact n9 rfl (.u ⟨n,ex,p k wf (Nat.le_of_lt_succ ‹_›) (Nat.le_of_lt ‹_›)⟩) (Ab5 (Jn a) (zM _ (Nat.le_trans ‹_› (by decide))))
|cK a b p o=>intro m wf d g;obtain⟨k,rfl⟩:=nk m 1 (Nat.le_trans (Nat.le_add_left _ _) ‹_›);simp only[Sy.dp]at d g;obtain⟨n,ex⟩:=W2 a;obtain⟨q,r⟩:=W2 b;exact WO rfl (.u ⟨n,ex,p k wf.1 (by lia) (by lia)⟩) (.u ⟨q,r,o k wf.2 (by lia) (by lia)⟩) (Ab5 (Jn a) (zM _ (by lia))) (Ab5 (Jn b) (zM _ (by lia)))
|cE a b p o=>intro m wf d g;obtain⟨k,rfl⟩:=nk m 1 (Nat.le_trans (Nat.le_add_left _ _) ‹_›);simp only[Sy.dp]at d g;obtain⟨n,ex⟩:=W2 a;obtain⟨q,r⟩:=W2 b;exact WO rfl (.u ⟨n,ex,p k wf.1 (by lia) (by lia)⟩) (.u ⟨q,r,o k wf.2 (by lia) (by lia)⟩) (Ab5 (Jn a) (zM _ (by lia))) (Ab5 (Jn b) (zM _ (by lia)))
noncomputable def l7(L:List Tx):Nat->List Pl->Nat->Nat
|_,[],v=>v
|i,p::ps,v=>l7 L (i+1) ps (if p.1∈L then v|||2^i else v)
theorem uf:∀ps i v j,(l7 L i ps v).j j=k9↔v.j j=k9\/∃k p,ps[k]?=y0 p/\j=i+k/\p.1∈L
|[],i,v,j=>by exact⟨.p,λh=>h.j id (by rintro⟨k,p,e,_⟩;exact by simp at e)⟩
|p::ps,i,v,j=>by
  rw[l7,uf ps];have b:(if p.1∈L then v|||2^i else v).j j=k9↔v.j j=k9\/(j=i/\p.1∈L):=by
   by_cases q:p.1∈L
   .rw[if_pos q,Af1,Ae0,Ae8,decide_eq_true_eq];exact or_congr Iff.rfl ⟨λz=>⟨z.p,q⟩,λz=>z.1.p⟩
   .rw[if_neg q];exact⟨.p,λz=>z.j id λz=>absurd z.2 q⟩
  rw[b];constructor
  .rintro((h|⟨rfl,h⟩)|⟨k,a,e,rfl,h⟩)
   .exact .p h
   .exact .u ⟨0,p,rfl,rfl,h⟩
   .exact .u ⟨k+1,a,e,(Nat.add_right_comm _ _ _),h⟩
  .rintro(h|⟨k,a,e,rfl,h⟩)
   .exact .p (.p h)
   .cases k with
|zero=>
     have:p=a:=by simpa using e
     exact .p (.u ⟨rfl,this▸h⟩)
|succ k=>exact .u ⟨k,a,by simpa using e,by lia,h⟩
abbrev iS(ro:Nat)(s:D)(L:List Tx)(v:Nat)(x y:Option W):Sl:=[y0 (.r ro),sv s,y0 (.l (L.j .p)),si v,x,y]
def F9(s)(a:List Tx)(h):Gr .p (.s s) (.l (a.j .p)) h=y0 (u9 (s∈a)):=Xz s a (.l _) h rfl
theorem By:∀ps i v x y,i+ps.e<=1000->∃M j,Gp (Gq [4,5] y9) (λτ h=>execs F zl τ h) (Km i (ps.j bU)) (iS ro s L v x y) h=.p (iS ro s L (l7 L i ps v) M j) h
|[],i,v,x,y,_=>⟨x,y,rfl⟩
|p::ps,i,v,x,y,b=>by
  rw[Aa8]at b;obtain⟨M,j,e⟩:=By ps (i+1) (if p.1∈L then v|||2^i else v) (si i) (sv (bU p)) (by lia);refine⟨M,j,?_⟩;rw[Ab2,Km,Wa (τ1:=iS ro s L v (si i) (sv (bU p))) rfl,e,l7];unfold zl;have i0:d4 (.v (bU p)) (.v (.o 0)) h=y0 (.p p.1):=rfl;have a:Gm F (.y .p (.B .v5 (.o 0)) .K) (iS ro s L v (si i) (sv (bU p))) h=.j (u9 (p.1∈L)) h:=by simp![i0,F9]
  by_cases q:p.1∈L
  .rw[if_pos q,za ((Qq (by rw[a,decide_eq_true q])).j ?_),execs];have c:=z9 i (by lia);rw[za (τ1:=iS ro s L (v|||2^i) (si i) (sv (bU p))) (h1:=h) (by simp![c,wn,Wm]),execs]
  .rw[if_neg q,xa (by rw[a,decide_eq_false q]),execs]
def eP(n:Nat)(K T:List Tx)(s:Sy):Nat:=l7 (eQ s) 0 (bV n K T) 0
section
variable{n:Nat}{K T:List Tx}{S:List Sy}{ro:Nat}{h:AH}
def tS(s)(j):(eP n K T s).j j=k9↔∃p:Pl,(bV n K T)[j]?=y0 p/\p.1∈eQ s:=by
 rw[eP,uf,Af8];constructor
 .rintro(h|⟨k,p,e,rfl,h⟩)
  .cases h
  .exact⟨p,by rw[Am5];exact e,h⟩
 .rintro⟨p,e,h⟩;exact .u ⟨j,p,e,(Am5 j).p,h⟩
def LO(m)(g:bM n K T)(C:h[ro]?=y0 (.j "Cases" (cN n K T S)))(wf:s.y (K++T))(c:s.j+2<=m)(b:s.j<=14):call prog (m+1) "needed_bits" [.r ro,.v (aj s)] h=.j (.i (eP n K T s)) h:=by
 have a:0+(bV n K T).e<=1000:=by rw[jF];have:=g.b6;lia
 obtain⟨j,e,e2⟩:=By _ 0 0 u0 u0 a;refine fx (by simp![(Et h s m wf c b)];rfl) ?_;rw[za (τ1:=iS ro _ _ 0 u0 u0) (by simp![];rfl)];rw[za (by
  have d:Gs (k8 m) (.cJ (.aI .A "Cases" "places")) (iS ro (aj s) (eQ s) 0 none none) h=.j (Km 0 ((bV n K T).j bU)) h:=by show(eval _ _ _ h).p _=_;rw[(Jl (F:=(k8 m)) (τ:=iS ro (aj s) (eQ s) 0 u0 u0) (i:=0) (f:="places") C rfl rfl)];rfl
  rw[exec,d,R.ax];exact e2)]
 rw[qa (w:=.i (eP n K T s)) (h1:=h) rfl,Ga _ _ _ rfl]
end
theorem ye:∀f x a,x<f->∃y:Nat,GG (λτ h=>Gm F Wd τ h) (λτ h=>execs F wj τ h) f [si x,si a] h=.p [si (0),si y] h
|0,x,a,c=>absurd c (Ag6 _)
|f+1,x,a,c=>by
  have d:Gm F Wd [si x,si a] h=.j (u9 (0<x)) h:=by have z:Gr .gt (.i x) (.v (.o 0)) h=y0 (u9 (0<x)):=iz 0 x h;unfold Wd;simp![z]
  show∃y:Nat,((Gm F Wd _ h).cU _)=_;rw[d,R.ax];by_cases q:0<x
  .obtain⟨y,e⟩:=ye f (x&&&(x-1)) (a+1) (by have:x&&&(x-1)<=x-1:=Nat.and_le_right;lia);refine⟨y,?_⟩;rw[decide_eq_true q];have b:execs F wj [si x,si a] h=.p [si (x&&&(x-1)),si (a+1)] h:=by
    have g:x-1=((x-1:Nat):Int):=by lia
    have i:a+1=((a+1:Nat):Int):=rfl;refine(za (by simp![we,g,wc,zd];rfl)).j ?_;rw[za (τ1:=[si (x&&&(x-1)),si (a+1)]) (h1:=h) (by simp![Qc,i]),execs]
   simp only[b];exact e
  .refine⟨a,?_⟩;have:x=0:=by lia
   subst this;rfl
def M8(k x)(h)(a:x<100000):∃y:Nat,call prog (k+1) "how_many_set" [.i x] h=.j (.i y) h:=by obtain⟨y,e⟩:=ye 100000 x 0 a;refine⟨y,?_⟩;refine fx (by simp![];rfl) ?_;rw[za (by assumption)];rw[qa rfl,Ga _ _ _ rfl]
theorem WV:∀xs b j,(∀m∈xs,∃y,G8 (key m)=y0 y)->∃i∈b::xs,GX key b j xs=y0 i
|[],b,j,_=>⟨b,Aa3,rfl⟩
|x::xs,b,j,h=>by
  obtain⟨y,e⟩:=h x Aa3;rw[GX,e,Af6];by_cases q:y<j
  .obtain⟨i,a,c⟩:=WV xs x y λm d=>h m (Aa2 _ d);exact⟨i,Aa2 _ a,by rw[if_pos q];exact c⟩
  .obtain⟨i,a,c⟩:=WV xs b j λm d=>h m (Aa2 _ d);refine⟨i,?_,by rw[if_neg q];exact c⟩;rcases Ab8.p a with rfl|a
   .exact Aa3
   .exact Aa2 _ (Aa2 _ a)
def L9(d:xs≠[])(h:∀m∈xs,∃y,G8 (key m)=y0 y):∃i∈xs,Kd key (y0 xs)=y0 i:=by
 cases xs with
|nil=>exact absurd rfl d
|cons x xs=>obtain⟨y,e⟩:=h x Aa3;obtain⟨i,a,b⟩:=WV xs x y λm c=>h m (Aa2 _ c);exact⟨i,a,by rw[Kd,e];exact b⟩
def B4(b:0<f)(h1:f<1024):∃i:Nat,i<10/\f.j i=k9/\f-(f&&&(f-1))=2^i:=by
 have:∀f,f<1024->0<f->(Aa7 10).A λi=>f.j i&&u9 (f-(f&&&(f-1))=2^i):=by decide+kernel
 obtain⟨i,a,e⟩:=Ad1.p (this f h1 b);rw[Aa0,decide_eq_true_eq]at e;exact⟨i,Ac0.p a,e.1,e.2⟩
def HG{f:Nat}(a:0<f):Gi .u (f:Int) (-(f:Int))=y0 ((f-(f&&&(f-1)):Nat):Int):=by rw[wc,Kg,if_pos (Ap4 f),if_neg (by lia),Ac9,show(-(-(f:Int))-1).j=f-1 by lia]
def HA(i):Kb ((2^i:Nat):Int)=i+1:=by have:(2^i)≠0:=Aq (Ad5 i);rw[Kb,if_neg (by lia),Int.natAbs_natCast,Nat.log2_two_pow]
def kG(e:Ex):Gd (aV e)=k9/\dep (aV e)<=e.j+1:=by
 induction e with
|turned a d=>obtain⟨c,g⟩:=d;exact⟨by simp[aV,c],by simp[aV,Ex.dp];exact‹_›⟩
|closed a d=>obtain⟨c,g⟩:=d;exact⟨by simp[aV,c],by simp[aV,Ex.dp];exact‹_›⟩
|plus a b d k=>obtain⟨c,g⟩:=d;obtain⟨f,h⟩:=k;exact⟨by simp[aV,c,f],by simp[aV,Ex.dp];lia⟩
|less a b d k=>obtain⟨c,g⟩:=d;obtain⟨f,h⟩:=k;exact⟨by simp[aV,c,f],by simp[aV,Ex.dp];lia⟩
|both a b d k=>obtain⟨c,g⟩:=d;obtain⟨f,h⟩:=k;exact⟨by simp[aV,c,f],by simp[aV,Ex.dp];lia⟩
|joined a b d k=>obtain⟨c,g⟩:=d;obtain⟨f,h⟩:=k;exact⟨by simp[aV,c,f],by simp[aV,Ex.dp];lia⟩
|_=>exact⟨rfl,by simp[aV]⟩
def EM(s:Sy):Gd (aj s)=k9/\dep (aj s)<=s.j+2:=by
 induction s with
|fact f=>
  cases f with
  |d7 a b=>obtain⟨c,d⟩:=kG a;obtain⟨e,h⟩:=kG b;exact⟨by simp[aj,dO,c,e],by simp[aj,dO,Sy.dp,Fc.dp];lia⟩
  |eF a b=>obtain⟨c,d⟩:=kG a;obtain⟨e,h⟩:=kG b;exact⟨by simp[aj,dO,c,e],by simp[aj,dO,Sy.dp,Fc.dp];lia⟩
  |eD a=>obtain⟨c,d⟩:=kG a;exact⟨by simp[aj,dO,c],by simp[aj,dO,Sy.dp,Fc.dp];exact‹_›⟩
  |aw a=>obtain⟨c,d⟩:=kG a;exact⟨by simp[aj,dO,c],by simp[aj,dO,Sy.dp,Fc.dp];exact‹_›⟩
  |cnt t j a=>obtain⟨c,d⟩:=kG a;exact⟨by simp[aj,dO,c],by simp[aj,dO,dep,GI,Sy.dp,Fc.dp];exact‹_›⟩
|neg a g=>obtain⟨c,d⟩:=g;exact⟨by simp[aj,c],by simp[aj,dep,GI,Sy.dp];exact‹_›⟩
|cK a b g k=>obtain⟨c,d⟩:=g;obtain⟨e,h⟩:=k;exact⟨by simp[aj,c,e],by simp[aj,dep,GI,Sy.dp];lia⟩
|cE a b g k=>obtain⟨c,d⟩:=g;obtain⟨e,h⟩:=k;exact⟨by simp[aj,c,e],by simp[aj,dep,GI,Sy.dp];lia⟩
def J1(k)(g:bM n K T)(h):call prog (k+5) "check_bits" [.v (wD K T),.i n,.v (.o 16)] h=.j (.v .T) h:=by have n4:=g.n4;have c:=g.b6;have b:=A0 k (.n n) h rfl (by simp[qh];lia);have a:=vd (k+2) n (K.j .p) (T.j .p) h n4 (by rw[Aa];exact g.k4) (by rw[Aa];exact g.t4);rw[Aa,Aa,pW]at a;rw[Gb rfl _ _ _ rfl];simp only[QF];refine fx (by simp![b];rfl) ?_;refine fx (by simp![a];rfl) ?_;have z:Gr .gt _ (.v (.o 16)) h=y0 _:=iz 16 (bN n K T) h;rw[decide_eq_false (by lia)]at z;rw[xa (by simp![z]),execs];exact GA _ h _ rfl
def ZS(h:eval F e τ (g++[.j c fs])=.j (.v d) (g++[.j c fs]))(a:Gn τ i=y0 (.r g.e))(b:Gd d=k9)(j:fs.e<100):exec F (.bO i c f e) τ (g++[.j c fs])=.p τ (g++[.j c (aZ f d fs)]):=by rw[exec,h,R.ax];simp only[a,zp (Jm g _),b,j,and_self,if_true,zu]
def Io(d:eval F e τ (g++[.j c fs])=.j (.j xs) (g++[.j c fs]))(a:Gn τ i=y0 (.r g.e))(b:Gf xs=k9)(h:fs.e<100):exec F (.bY i c f e) τ (g++[.j c fs])=.p τ (g++[.j c (aZ f (.w xs) fs)]):=by rw[exec,d,R.ax];simp only[W.gS,a,zp (Jm g _),show Gd (.w xs)=k9 from b,h,and_self,if_true,zu]
def Cd(k){S:List Sy}(g:bM n K T)(h:AH):call prog (k+4) "Cases.__init__" [.r h.e,.v (a8 K T S),.i n] (h++[.j "Cases" []])=.j (.v .T) (h++[Cell.obj "Cases" (cN n K T S)]):=by
 rw[Gb (d:=Xj) rfl _ _ _ rfl];show Gx _ (execs _ _ [y0 (.r h.e),sv (a8 K T S),si n] (h++[.j "Cases" []]))=_;simp only[Xj];have e:Gd (wD K T)=true:=by show(Gf (K.j .p)&&(Gf (T.j .p)&&k9))=k9;rw[jw,jw];rfl
 have o:Gd (.u (S.j aj))=true:=Wn _ (λs=>(EM s).1) S;have j:∀a,eval (k8 (k+3)) (.B .G (.o 0)) [y0 (.r h.e),sv (a8 K T S),si n] a=.j (.v (wD K T)) a:=λa=>by simp![ab,Xh]
 have p:∀a,eval (k8 (k+3)) (.B .G (.o 1)) [y0 (.r h.e),sv (a8 K T S),si n] a=.j (.t (S.j aj)) a:=λa=>by simp![ab,qg]
 rw[za (ZS (fs:=[]) (j _) rfl e (show 0<100 by decide))];rw[za (ZS (fs:=aZ "words" (wD K T) []) (p _) rfl o (show 1<100 by decide))];rw[za (ZS (fs:=aZ "sayings" (.u (S.j aj)) (aZ "words" (wD K T) [])) (d:=.n n) (by simp![]) rfl rfl (show 2<100 by decide))];have pl:∀a,eval (k8 (k+3)) (.j "places_of" (.b (.B .G (.o 0)) .K)) [some (.r h.e),sv (a8 K T S),si n] a=.j (.j ((bV n K T).j bU)) a:=fun a=>by simp![ab,Xh,(EF k n K T a g.n4 g.k4 g.t4)];rfl
 rw[za (Io (fs:=aZ "size" (.n n) (aZ "sayings" (.u (S.j aj)) (aZ "words" (wD K T) []))) (pl _) rfl (zL _) (show 3<100 by decide))];have c:aZ "places" (.w ((bV n K T).j bU)) (aZ "size" (.n n) (aZ "sayings" (.u (S.j aj)) (aZ "words" (wD K T) [])))=[("words",wD K T),("sayings",.u (S.j aj)),("size",.n n),("places",.w ((bV n K T).j bU))]:=rfl;rw[c];have q:=g.b6;have m:=z9 (bN n K T) (by show K.e*n+T.e*(n*n)<=_;exact Nat.le_trans ‹_› (by decide));have l:((2^bN n K T:Nat):Int)-1=((2^bN n K T-1:Nat):Int):=by have:=Ad5 (bN n K T);lia
 rw[za (ZS (d:=.n (2^bN n K T-1)) (by have b:=Jl (F:=(k8 (k+3))) (τ:=[y0 (.r h.e),sv (a8 K T S),si n]) (i:=0) (f:="places") (Jm h (.j "Cases" [("words",wD K T),("sayings",.u (S.j aj)),("size",.n n),("places",.w ((bV n K T).j bU))])) rfl rfl;generalize E.aI _ _ _=X at b⊢;simp![b,jI,ak,Aa,jF,m,we,l]) rfl rfl (by simp))];rw[execs];exact GA _ _ _ (by simp)
noncomputable def eZ(n:Nat)(K T:List Tx)(S:List Sy)(a:Nat):List (String×D):=[("cases",.j a),("needs",.w (aB (S.j (eP n K T))))]
structure Se(n:Nat)(K T:List Tx)(S:List Sy)(rs rc:Nat)(h:AH):Prop where
 se:h[rs]?=y0 (.j "Search" (eZ n K T S rc))
 cs:h[rc]?=y0 (.j "Cases" (cN n K T S))
theorem uJ(f)(P:Nat->Prop):∀ds:List D,(∀d∈ds,∃x:Nat,f d=.n x/\P x)->∃xs:List Nat,ds.j f=aB xs/\(∀x∈xs,P x)/\xs.e=ds.e
|[],_=>⟨[],rfl,λ_ h=>absurd h Ah6,rfl⟩
|d::ds,h=>by
  obtain⟨x,e,p⟩:=h d Aa3;obtain⟨xs,e2,c,l2⟩:=uJ f P ds λd b=>h d (Aa2 _ b);refine⟨x::xs,by rw[Ab2,e,e2];rfl,λy a=>?_,by rw[Aa8,l2,Aa8]⟩;rcases Ab8.p a with rfl|a
  .exact p
  .exact c y a
section
variable{n q:Nat}{K T:List Tx}{S:List Sy}
def ED(m:Nat)(g:bM n K T)(r:∀s∈S,s.y (K++T)/\s.j<=q)(L:S.e<=100)(M:q+7<=m)(N:q<=14)(h:AH):call prog (m+1) "Search.__init__" [.r h.e,.v (a8 K T S),.i n] (h++[.j "Search" []])=.j (.v .T) (h++[.j "Search" (eZ n K T S (h.e+1)),.j "Cases" (cN n K T S)]):=by
 obtain⟨k,rfl⟩:=nk m 4 (Nat.le_trans (Nat.le_add_left _ _) ‹_›);have e1:=Cd k (S:=S) g (h++[Cell.obj "Search" []]);have l:(h++[Cell.obj "Search" []]).e=h.e+1:=by simp
 rw[l]at e1;rw[Gb (d:=ji) rfl _ _ _ rfl];show Gx _ (execs _ _ [y0 (.r h.e),sv (a8 K T S),si n] (h++[.j "Search" []]))=_;simp only[ji];have z:∀fs x,G6 (h++[Cell.obj "Search" fs]++x) _=some (h.e,"Search",fs):=fun fs x=>zp (by simp);have A:∀fs b x,(h++[Cell.obj "Search" fs]++x).x h.e (.j "Search" b)=h++[Cell.obj "Search" b]++x:=fun fs b x=>by simp
 have mk:eval (k8 (k+4)) (.make "Cases" "Cases.__init__" (.b .G .K)) [some (.r h.e),sv (a8 K T S),si n] (h++[.j "Search" []])=.j (.r (h.e+1)) (h++[.j "Search" []]++[.j "Cases" (cN n K T S)]):=by simp![l,e1,ak]
 rw[za (τ1:=[y0 (.r h.e),sv (a8 K T S),si n]) (h1:=h++[.j "Search" [("cases",.j (h.e+1))]]++[.j "Cases" (cN n K T S)]) (by rw[exec,mk,R.ax];simp only[Gn,z,Ad9,show(0:Nat)<100 by decide,and_self,if_true,A];rfl)];have t:(h++[Cell.obj "Search" [("cases",.j (h.e+1))]]++[Cell.obj "Cases" (cN n K T S)])[h.e+1]?=some (.j "Cases" (cN n K T S)):=by simp
 have j:(h++[Cell.obj "Search" [("cases",.j (h.e+1))]]++[Cell.obj "Cases" (cN n K T S)])[h.e]?=some (.j "Search" [("cases",.j (h.e+1))]):=by simp
 have v:=z [("cases",.j (h.e+1))] [Cell.obj "Cases" (cN n K T S)];have w:=A [("cases",.j (h.e+1))] (eZ n K T S (h.e+1)) [Cell.obj "Cases" (cN n K T S)];have G:h++[Cell.obj "Search" (eZ n K T S (h.e+1))]++[Cell.obj "Cases" (cN n K T S)]=h++[.j "Search" (eZ n K T S (h.e+1)),.j "Cases" (cN n K T S)]:=by simp
 generalize h++[Cell.obj "Search" [("cases",.j (h.e+1))]]++[Cell.obj "Cases" (cN n K T S)]=H at t j v w⊢;have comp:eval (k8 (k+4)) Zg [y0 (.r h.e),sv (a8 K T S),si n] H=.j (.j (aB (S.j (eP n K T)))) H:=by
  unfold Zg
  obtain⟨f,C,D⟩:=oM (F:=(k8 (k+4))) (k:=1) (aD:=[0]) (it:=.j (.B .G (.o 1))) (c:=.C true) (elt:=.j "needed_bits" (.j (.aI .G "Search" "cases") (.a .A))) (τ:=[some (.r h.e),sv (a8 K T S),si n]) (h:=H) (ds:=S.j aj) (fun d y=>∀s∈S,d=aj s->y=.n (eP n K T s)) (by simp![ab,qg]) (by rw[List.length_map];exact Nat.le_trans ‹_› (by decide)) (fun d J=>by
   have p:∀s∈S,eval (k8 (k+4)) (.j "needed_bits" (.j (.aI .G "Search" "cases") (.a .A))) [sv (aj s),some (.r h.e)] H=.j (.i (eP n K T s)) H:=fun s a=>by have e:=LO (k+3) g t (r s a).1 (by have:=(r s a).2;lia) (by have:=(r s a).2;exact Nat.le_trans ‹_› ‹_›);have u:=Jl (F:=(k8 (k+4))) (τ:=[sv (aj s),y0 (.r h.e)]) (i:=1) (f:="cases") j rfl rfl;generalize E.aI _ _ _=X at u⊢;simp![u,e]
   obtain⟨s,a,rfl⟩:=Ac1.p J;refine⟨_,p s a,λB o e=>?_⟩;have e1:=p s a;rw[e,p B o]at e1;injection e1 with e1
   injection e1 with e1
   exact e1.p)
  rw[C];congr 2;rw[Ad7,aB,Ad7];exact Ai4 λs a=>D (aj s) (Ac1.u ⟨s,a,rfl⟩) s a rfl
 rw[za (τ1:=[y0 (.r h.e),sv (a8 K T S),si n]) (h1:=h++[.j "Search" (eZ n K T S (h.e+1)),.j "Cases" (cN n K T S)]) (by rw[exec,comp,R.ax];simp only[W.gS,Gn,v,show Gd (.w (aB (S.j (eP n K T))))=k9 from oH _,Aa8,Ad9,show(0+1:Nat)<100 by decide,and_self,if_true];rw[show(aZ "needs" (.w (aB (S.j (eP n K T)))) [("cases",.j (h.e+1))])=eZ n K T S (h.e+1)from rfl,w,G]),execs];show fin _ (.v .T) _=_;unfold fin;have I:Gw ((h++[Cell.obj "Search" (eZ n K T S (h.e+1)),.j "Cases" (cN n K T S)]).B (h++[Cell.obj "Search" []]).e)=false:=by rw[l,show h++[Cell.obj "Search" (eZ n K T S (h.e+1)),.j "Cases" (cN n K T S)]=h++[Cell.obj "Search" (eZ n K T S (h.e+1))]++[.j "Cases" (cN n K T S)]by simp,List.take_left' (by simp),Gw,List.all_append];show(h.N Cell.pure&&y9)=y9;rw[Ag5]
 rw[if_neg (by simp),I,Ag5,if_neg Ab9]
def ib(n:Nat)(K T:List Tx)(b a:Nat)(s:Sy):Nat:=(eP n K T s&&&a)-((eP n K T s&&&a)&&&b)
def sI(low high)(s)(i):(ib n K T low high s).j i=((eP n K T s).j i&&high.j i&&!low.j i):=by rw[ib,Wf.aP,Ah2]
def Ft(m)(g:bM n K T)(I:Se n K T S rs rc H)(hh:high<2^bN n K T)(u:js≠[])(G:js.e<=1000)(Z:∀j∈js,∃s,S[j]?=y0 s/\ib n K T low high s≠0):
 ∃i:Nat,i<bN n K T/\high.j i=k9/\low.j i=y9/\call prog (m+2) "Search.chosen_place" [.r rs,.p (aB js),.i low,.i high] H=.j (.i i) H:=by
 have V:bN n K T<=6:=g.b6
 obtain⟨f,b,O⟩:=oM (F:=(k8 (m+1))) (k:=1) (aD:=[0,3,2]) (it:=.j .G) (c:=.C true) (elt:=.x .u (.x .u (.B (.aI .G "Search" "needs") .A) .K) (.inv .L)) (τ:=[some (.r rs),some (.p (aB js)),si low,si high,none,none]) (h:=H) (ds:=aB js) (fun d y=>∃x:Nat,y=.n x/\(∃s,x=ib n K T low high s)/\x≠0) (by simp![]) (by rw[List.length_map];exact G) (fun d t=>by
  obtain⟨j,u,rfl⟩:=Ac1.p t;obtain⟨s,e1,e2⟩:=Z j u;have L:j<S.e:=(Aa1.p e1).1;have v:=Jl (F:=(k8 (m+1))) (τ:=[si j,y0 (.r rs),si high,si low]) (i:=1) (f:="needs") I.se rfl rfl;have q:aW (aB (S.j (eP n K T))) (j:Int)=y0 (.n (eP n K T s)):=by rw[Xf _ _ (by rw[Aa,Aa];exact L),Ac2,Ac2,e1];rfl
  refine⟨.n (ib n K T low high s),?_,_,rfl,⟨s,rfl⟩,e2⟩;show eval _ _ [si j,y0 (.r rs),si high,si low] H=_;generalize E.aI _ _ _=X at v⊢;simp![v,jr,q,wc,zd,JK];rfl)
 obtain⟨l,ex,A,C⟩:=uJ f (λx=>(∃s,x=ib n K T low high s)/\x≠0) _ λd t=>by obtain⟨x,e,p⟩:=O d t;exact⟨x,e,p⟩
 rw[ex]at b;have lt:∀x∈l,0<x/\x<64:=λx a=>by obtain⟨⟨s,e⟩,ne⟩:=A x a;refine⟨Nat.pos_of_ne_zero ne,?_⟩;have J:ib n K T low high s<=high:=Ab5 (Ap7 _ _) Nat.and_le_right;have h2:2^bN n K T<=2^6:=Ad2 (by decide) V;lia
 obtain⟨i0,o,r⟩:=L9 (key:=fun x=>call prog (m+1) "how_many_set" [.v (.o x)] []) (xs:=l.j fun(x:Nat)=>(x:Int)) (by
  cases l with
|nil=>rw[Aa]at C;exact absurd (List.length_eq_zero_iff.p C.p) u
|cons _ _=>simp) (λy R=>by
  obtain⟨x,a,rfl⟩:=Ac1.p R;obtain⟨y,e⟩:=M8 m x [] (by have:=(lt x a).2;exact Nat.le_trans ‹_› (by decide));exact⟨_,by show G8 (call prog (m+1) "how_many_set" [.i x] [])=_;rw[e];rfl⟩)
 obtain⟨x,a,rfl⟩:=Ac1.p o;obtain⟨D,M⟩:=lt x a;obtain⟨i,_,B,N⟩:=B4 D (Nat.le_trans ‹_› (by decide));obtain⟨⟨s,rfl⟩,_⟩:=A x a;rw[sI,Aa0,Aa0,Ag3]at B;obtain⟨⟨Y,P⟩,Q⟩:=B;obtain⟨p,U,_⟩:=(tS s i).p Y;refine⟨i,?_,P,Q,?_⟩
 .have:=(Aa1.p U).1;rw[jF]at this;exact this
 rw[Gb (d:=Je) rfl _ _ _ rfl];simp only[Je];have b:eval (k8 _) xh [y0 _,y0 _,si low,si high,u0,u0] H=.j _ H:=b;refine fx (by simp![b];rfl) ?_;refine fx (by simp![W.mO,q9,r,ak];rfl) ?_;have z:=HG D;rw[N]at z;have e1:((i+1:Nat):Int)-1=(i:Int):=by lia
 rw[qa (w:=.i i) (h1:=H) (Ja rfl (by simp![z,HA,ak,we,e1])),Ga _ _ _ rfl]
end
def Ey:∀e p,(∀t∈cA e,bp a t=bp b t)->bt a b p e=bt a b k9 e:=by
 intro e;induction e with
|name t=>intro p h;cases p with
  |true=>rfl
  |false=>exact h t Aa3
|turned e g=>intro p h;simp[bt,g p h]
|closed e g=>intro p h;simp[bt,g p h]
|plus e f g d=>intro p h;simp[bt,g p λt c=>h t (Ad _ c),d p λt c=>h t (Ab0 _ c)]
|less e f g d=>intro p h;simp[bt,g p (λt c=>h t (Ad _ c)),d _ (λt c=>h t (Ab0 _ c))]
|both e f g d=>intro p h;simp[bt,g p λt c=>h t (Ad _ c),d p λt c=>h t (Ab0 _ c)]
|joined e f g d=>intro p h;simp[bt,g p λt c=>h t (Ad _ c),d p λt c=>h t (Ab0 _ c)]
|_=>intro p h;cases p<;>rfl
def B.nm (h:B a b e v u)(k:∀t∈cA e,bp a t=bp b t):v=u:=by have l:=h.j;rw[Ey e y9 k]at l;exact l.uniq h.p
def Q4(h:p≠u0)(g:q≠u0):eR p q≠none:=by
 rcases p with _|_|_<;>rcases q with _|_|_<;>first|exact absurd rfl h|exact absurd rfl g|(intro z;cases z)
def O3(h:p≠u0)(g:q≠u0):f9 p q≠none:=by
 rcases p with _|_|_<;>rcases q with _|_|_<;>first|exact absurd rfl h|exact absurd rfl g|(intro z;cases z)
theorem Td.nm:∀s r,Td a b s r->(∀t∈eQ s,bp a t=bp b t)->r≠u0
|.p f,r,h,k=>by
  cases f with
  |d7 x y=>obtain⟨v,u,m,l,c,g,rfl⟩:=h;cases c.nm λt i=>k t (Ad _ i);cases g.nm λt i=>k t (Ab0 _ i);rw[ZV];intro z;cases z
  |eF x y=>obtain⟨v,u,m,l,c,g,rfl⟩:=h;cases c.nm λt i=>k t (Ad _ i);cases g.nm λt i=>k t (Ab0 _ i);rw[ZV,ZV];exact Q4 (λz=>by cases z) λz=>by cases z
  |eD x=>obtain⟨v,u,c,rfl⟩:=h;cases c.nm k;rw[ZH];intro z;cases z
  |aw x=>obtain⟨v,u,c,rfl⟩:=h;cases c.nm k;rw[ZH];intro z;cases z
  |cnt s j x=>obtain⟨v,u,c,rfl⟩:=h;cases c.nm k;rw[ZH];intro z;cases z
|.neg s,r,z7,k=>by
  obtain⟨q,h,e⟩:=z7;have:=Td.nm s q h k;cases q with
  |none=>exact absurd rfl this
  |some x=>rw[e];intro z;cases z
|.cK s t,r,z7,k=>by obtain⟨p,q,c,g,e⟩:=z7;rw[e];exact Q4 (Td.nm s p c λx d=>k x (Ad _ d)) (Td.nm t q g λx d=>k x (Ab0 _ d))
|.cE s t,r,z7,k=>by obtain⟨p,q,c,g,e⟩:=z7;rw[e];exact O3 (Td.nm s p c λx d=>k x (Ad _ d)) (Td.nm t q g λx d=>k x (Ab0 _ d))
theorem xj:∀e:Ex,e.y N->∀t∈cA e,t∈N
|.p x,w,t,h=>by rw[Ac4.p h];exact w
|.A a,w,t,h=>xj a w t h
|.x a,w,t,h=>xj a w t h
|.plus a b,w,t,h=>(Ac6.p h).j (xj a w.1 t) (xj b w.2 t)
|.less a b,w,t,h=>(Ac6.p h).j (xj a w.1 t) (xj b w.2 t)
|.both a b,w,t,h=>(Ac6.p h).j (xj a w.1 t) (xj b w.2 t)
|.u a b,w,t,h=>(Ac6.p h).j (xj a w.1 t) (xj b w.2 t)
theorem JN:∀s:Sy,s.y N->∀t∈eQ s,t∈N
|.p f,w,t,h=>by
  cases f with
  |d7 a b=>exact(Ac6.p h).j (xj a w.1 t) (xj b w.2 t)
  |eF a b=>exact(Ac6.p h).j (xj a w.1 t) (xj b w.2 t)
  |eD a=>exact xj a w t h
  |aw a=>exact xj a w t h
  |cnt _ _ a=>exact xj a w.2 t h
|.neg a,w,t,h=>JN a w t h
|.cK a b,w,t,h=>(Ac6.p h).j (JN a w.1 t) (JN b w.2 t)
|.cE a b,w,t,h=>(Ac6.p h).j (JN a w.1 t) (JN b w.2 t)
section
variable{n:Nat}{K T:List Tx}{low high:Nat}
def Ls(g:bM n K T)(f:t∈K++T)(h:∀i x y,(bV n K T)[i]?=y0 (t,x,y)->low.j i=high.j i):bp (wo n K T low) t=bp (wo n K T high) t:=by
 have b:∀x y,x<n->y<n->bp _ t x y=bp (wo n K T high) t x y:=λx y k j=>by
  by_cases q:∃i:Nat,(bV n K T)[i]?=y0 (t,x,y)
  .obtain⟨i,d⟩:=q;rw[(ql g d low).1,(ql g d high).1,h i x y d]
  .rw[qC low 0 f k j q,qC high 0 f k j q]
 funext x y;by_cases q:t∈T
 .have a:∀c,bp _ t x y=if x*n+y<n*n then bp _ t _ (_%n)else false:=λc=>by
   unfold bp;rw[if_pos (show t∈(wo n K T c).T from q),if_pos (show t∈(wo n K T c).T from q)];show((dv n K.e T.e c).L (dA t T) 0).j (x*n+y)=if _ then((dv n K.e T.e c).L (dA t T) 0).j ((x*n+y)/n*n+(x*n+y)%n)else y9;rw[Wf.bz];by_cases z:x*n+y<n*n
   .rw[if_pos z]
   .rw[if_neg z,A4,decide_eq_false z,Ae5,Ag5]
  rw[a,a];by_cases z:x*n+y<n*n
  .rw[if_pos z,if_pos z];exact b _ _ (Wf.bj z) (Wf.a9 z)
  .rw[if_neg z,if_neg z]
 .by_cases z:x=y/\x<n
  .obtain⟨rfl,z⟩:=z;exact b x x z z
  .have a:∀c,bp _ t x y=false:=λc=>by
    unfold bp;rw[if_neg (show t∉(wo n K T c).T from q)];show(decide _&&((c4 n K.e T.e c).L _ 0).j x)=y9;by_cases e:x=y
    .rw[uU,decide_eq_false (λl=>z ⟨e,l⟩),Ae5,Ag5,Ag5]
    .rw[decide_eq_false e,Ae5]
   rw[a,a]
def Nz(g:bM n K T)(sub:Sub low high)(wf:s.y (K++T))(h:Td (wo n K T low) (wo n K T high) s u0):ib n K T low high s≠0:=λz=>by
 refine Td.nm s u0 h (λt b=>Ls g (JN s wf t b) λi x y c=>?_) rfl;have d:=(tS s i).u ⟨_,c,b⟩;have e:=sI (n:=n) (K:=K) (T:=T) low high s i;rw[z,Af8,d,Ae6]at e;cases q:high.j i with
|true=>
  rw[q,Ae6]at e;cases a:low.j i with
  |true=>rfl
  |false=>rw[a]at e;cases e
|false=>
  cases a:low.j i with
|false=>rfl
|true=>rw[sub i a]at q;cases q
def oc(n:Nat)(K T:List Tx)(b a:Nat):Nat:=((Aa7 (bN n K T)).T λi=>a.j i&&!b.j i).e
def E5(a:i<bN n K T)(h:high.j i=k9)(l:low.j i=y9):oc n K T (low|||2^i) high<oc n K T low high:=by refine nY (λj _ z=>?_) ⟨i,Ac0.u a,by rw[h,l];rfl,by rw[Af1,Ak2,An9,An2,Ag5]⟩;rw[Af1,Bool.not_or,Aa0,Aa0]at z;rw[z.1,z.2.1];rfl
def Ct(a:i<bN n K T)(h:high.j i=k9)(l:low.j i=y9):oc n K T low (high-(high&&&2^i))<oc n K T low high:=by refine nY (λj _ z=>?_) ⟨i,Ac0.u a,by rw[h,l];rfl,by rw[Wf.aP,Ak2,An2,Ag5,Ae5]⟩;rw[Wf.aP,Aa0,Aa0]at z;rw[z.1.1,z.2];rfl
def F1:oc n K T low high<=bN n K T:=by have:=Aj1 (λi=>high.j i&&!low.j i) (Aa7 (bN n K T));rw[Ai2]at this;exact this
end
abbrev jK:Tx:=[119,111,114,108,100]
abbrev zf:Tx:=[112,97,112,101,114]
structure GP(n:Nat)(K T:List Tx)(S:List Sy)(q d:Nat)(p:D)(low high:Nat):Prop where
 pp:Pp n K T S p
 dp:dep p<=d
 wk:Lw n K T S (d+q+12) p low high
section
variable{n q:Nat}{K T:List Tx}{S:List Sy}{d low high:Nat}{p:D}
theorem GP.up (h:GP n K T S q d p low high)(l:d<=d'):GP n K T S q d' p low high:=⟨h.pp,Ab5 h.dp l,h.wk.up (by lia)⟩
theorem GP.brk (b:∀s∈S,s.y (K++T)/\s.j<=q)(a:S[j]?=y0 s)(c:Td (wo n K T low) (wo n K T high) s (y0 y9))(e:1<=d):GP n K T S q d (.u [.p Jz,.n j]) low high:=⟨.brk (Aa1.p a).1,by simp;exact‹_›,(Lw.brk b a c).up (by lia)⟩
theorem GP.eg (g:bM n K T)(c:(bV n K T)[i]?=y0 (t,x,y))(e:high.j i=k9)(f:low.j i=y9)(a:GP n K T S q d p1 (low|||2^i) high)(b:GP n K T S q d p2 low (high-(high&&&2^i))):GP n K T S q (d+1) (.u [.p Qj,.p t,.n x,.n y,p1,p2]) low high:=⟨.eg c a.pp b.pp,by have:=a.dp;have:=b.dp;simp[GI];lia,(Lw.eg g c e f (Nat.le_add_left _ _) a.wk b.wk).up (by lia)⟩
def gv(n:Nat)(K T:List Tx)(S:List Sy)(q d e b:Nat)(a:D):Prop:=(∃c,Sub e c/\Sub c b/\c<2^bN n K T/\a=.u [.p jK,(wo n K T c).bb]/\∀s∈S,Td (wo n K T c) (wo n K T c) s (y0 k9))\/∃p,a=.u [.p zf,p]/\GP n K T S q d p e b
noncomputable abbrev cS(c:Nat)(d:List Nat)(b a:Nat)(l:List Nat)(x y:Option W):Sl:=[y0 (.r c),y0 (.p (aB d)),si b,si a,y0 (.j (aB l)),x,y]
theorem rK(g:bM n K T)(G:∀s∈S,s.y (K++T)/\s.j<=q)(A:low<2^bN n K T)(J:high<2^bN n K T)(p:Se n K T S rs rc H)(U:q+10<=m):∀O L x y,(∀j∈O,j<S.e)->L.e+O.e<=1000→
 (∃j s,S[j]?=y0 s/\Td (wo n K T low) (wo n K T high) s (y0 y9)/\Gp (Gq [5] k9) (λτ h=>execs (k8 m) ja τ h) (aB O) (cS rs j0 low high L x y) H=.j (.t [.p zf,.u [.p Jz,.n (j)]]) H)∨
 ∃M W V,(∀j∈M,∃s,S[j]?=y0 s/\Td (wo n K T low) (wo n K T high) s u0)/\(∀j∈O,j∉M->∃s,S[j]?=y0 s/\Td (wo n K T low) (wo n K T high) s (y0 k9))/\M.e<=O.e/\Gp (Gq [5] k9) (λτ h=>execs (k8 m) ja τ h) (aB O) (cS rs j0 low high L x y) H=.p (cS rs j0 low high (L++M) W V) H
|[],L,x,y,_,_=>.u ⟨[],x,y,λ_ h=>absurd h Ah6,λ_ h=>absurd h Ah6,Aa9 _,by rw[Ae];rfl⟩
|j::O,L,x,y,N,hc=>by
  rw[Aa8]at hc;have Y:=N j Aa3;obtain⟨s,t⟩:∃s,S[j]?=y0 s:=⟨S[j],Aa6 Y⟩;obtain⟨wf,dp⟩:=G s (Ac5 t);obtain⟨k,rfl⟩:=nk m 1 (Nat.le_trans (Nat.le_add_left _ _) ‹_›);obtain⟨o,D,e1⟩:=wU k j low high g p.cs A J t (by lia) wf;have Q:=Jl (F:=(k8 (k+1))) (τ:=cS rs j0 low high L (si j) y) (i:=0) (f:="cases") p.se rfl rfl;have tr:eval (k8 (k+1)) (.bT (.aI .A "Search" "cases") "Cases" "truth" "Cases.truth" (.c .v5 .K .L)) (cS rs j0 low high L (si j) y) H=.j (.v (aH o)) H:=by generalize E.aI _ _ _=X at Q⊢;rw[eval,Q,R.ae];simp only[zp p.cs];rw[if_pos ⟨trivial,rfl⟩];simp![e1]
  have P:∀X,execs (k8 (k+1)) (.j (.p 6 (.bT (.aI .A "Search" "cases") "Cases" "truth" "Cases.truth" (.c .v5 .K .L))) X) (cS rs j0 low high L (si j) y) H=execs (k8 (k+1)) X (cS rs j0 low high L (si j) (sv (aH o))) H:=fun X=>by generalize E.bT _ _ _ _ _=Z at tr⊢;rw[za (τ1:=cS rs j0 low high L (si j) (sv (aH o))) (h1:=H) (by simp![tr])]
  have i1:=lR o y9 H;have B:Gm (k8 (k+1)) (.y .dE .v6 (.C y9)) (cS rs j0 low high L (si j) (sv (aH o))) H=.j (o==y0 y9) H:=by simp![i1]
  have v:∀c,c.e+O.e<=1000->execs (k8 (k+1)) ja (cS rs j0 low high L (si j) y) H=.p (cS rs j0 low high c (si j) (sv (aH o))) H->Gp (Gq [5] k9) (λτ h=>execs (k8 (k+1)) ja τ h) (aB (j::O)) (cS rs j0 low high L x y) H=Gp (Gq [5] k9) (λτ h=>execs (k8 (k+1)) ja τ h) (aB O) (cS rs j0 low high c (si j) (sv (aH o))) H:=λc _ e=>by rw[aB,Ab2,Wa (τ1:=cS rs j0 low high L (si j) y) rfl e]
  rcases o with _|_|_
  .have b:execs (k8 (k+1)) ja (cS rs j0 low high L (si j) y) H=.p (cS rs j0 low high (L++[j]) (si j) (sv (aH u0))) H:=by
    unfold ja;rw[P,xa B];rw[za (τ1:=cS rs j0 low high (L++[j]) (si j) (sv (aH u0))) (h1:=H) ((Qq (h1:=H) (by simp![aH,ak,Ao6])).j ?_),execs];have lL:(aB L).e<bq:=by rw[Gg,Aa];lia
    rw[za (τ1:=cS rs j0 low high (L++[j]) (si j) (sv (aH u0))) (h1:=H) (by simp![lL,if_true];simp only[cS,CH]),execs]
   rcases rK (j0:=j0) g G A J p U O (L++[j]) (si j) (sv (aH u0)) (λi a=>N i (Aa2 _ a)) (by rw[Aa5];simp;lia)with⟨C,w,d,l,r⟩|⟨M,W,V,d,l,r,I⟩
   .exact .p ⟨C,w,d,l,(v _ (by rw[Aa5];simp;lia) b).j r⟩
   .refine .u ⟨j::M,W,V,λi a=>?_,λi a u=>?_,by rw[Aa8,Aa8];exact Nat.succ_le_succ ‹_›,?_⟩
    .rcases Ab8.p a with rfl|a
     .exact⟨s,t,D⟩
     .exact d i a
    .rcases Ab8.p a with rfl|a
     .exact absurd Aa3 u
     .exact l i a λz=>u (Aa2 _ z)
    .rw[v _ (by rw[Aa5];simp;lia) b,I,Af0];rfl
  .refine .p ⟨j,s,t,D,?_⟩;rw[aB,Ab2,Gp,show Gq [5] k9 (.n j) (cS rs j0 low high L x y)=y0 (cS rs j0 low high L (si j) y)from rfl];have b:execs (k8 (k+1)) ja (cS rs j0 low high L (si j) y) H=.j (.t [.p zf,.u [.p Jz,.n j]]) H:=by unfold ja;rw[P];exact Zf B (Ja rfl (by simp![]))
   simp only[b]
  .have b:execs (k8 (k+1)) ja (cS rs j0 low high L (si j) y) H=.p (cS rs j0 low high L (si j) (sv (aH (y0 k9)))) H:=by unfold ja;rw[P,xa B,xa (by simp![aH,ak]),execs]
   rcases rK (j0:=j0) g G A J p U O L (si j) (sv (aH (y0 k9))) (λi a=>N i (Aa2 _ a)) (Nat.le_of_lt ‹_›)with⟨C,w,d,l,r⟩|⟨M,W,V,d,l,r,I⟩
   .exact .p ⟨C,w,d,l,(v _ (Nat.le_of_lt ‹_›) b).j r⟩
   .refine .u ⟨M,W,V,d,λi a u=>?_,by rw[Aa8];exact Nat.le_succ_of_le ‹_›,(v _ (Nat.le_of_lt ‹_›) b).j I⟩;rcases Ab8.p a with rfl|a
    .exact⟨s,t,D⟩
    .exact l i a u
end
def u2(e:eval F a τ h=.j (.r r) h)(b:h[r]?=y0 (.j c fs))(d:(fs.p m).w=k9)(f:Gc F es τ h=.j ws h):eval F (.bT a c m q es) τ h=F.call q (.r r::ws.j W.arg) h:=by rw[eval,e,R.ae];simp only[zp b];rw[if_pos ⟨trivial,d⟩,f,R.ae]
def BA(g:eval F a τ h=.j (.r r) h)(b:h[r]?=y0 (.j c fs))(e:fs.p f=y0 d):eval F (.aI a c f) τ h=.j (.v d) h:=by rw[eval,g,R.ae];simp only[zp b];rw[if_pos trivial,e];rfl
def sR(l)(h):Gr .j (.p (aB l)) (.j []) h=y0 (l==[]):=by
 cases l with
|nil=>rfl
|cons x a=>
  show(if Kc _ ((W.own []).dd h)then y0 (cM _ _)else u0)=_;rw[W.kR,W.lr,GM (oH (x::a))];have e:Kc (.w (aB (x::a))) (.w (GU h []))=true:=by have:=Cn (x::a);have:=oH (x::a);simp only[GU,decide_eq_true_eq];lia
  rw[if_pos e];rfl
section
variable{n q:Nat}{K T:List Tx}{S:List Sy}{low high:Nat}
def Tr(n:Nat)(K T:List Tx)(S:List Sy)(b a j:Nat):Prop:=∃s,S[j]?=y0 s/\Td (wo n K T b) (wo n K T a) s (y0 k9)
theorem Tr.mono (g:bM n K T)(i:∀s∈S,s.y (K++T)/\s.j<=q)(h:Tr n K T S low high j)(f:Sub low low')(k:Sub high' high)(d:Sub low' high')(b:low'<2^bN n K T)(c:high'<2^bN n K T):Tr n K T S low' high' j:=by obtain⟨s,e,t⟩:=h;obtain⟨wf,dp⟩:=i s (Ac5 e);obtain⟨r,a,_⟩:=wU _ j low' high' (ro:=0) (h:=[Cell.obj "Cases" _]) g rfl b c e (Nat.le_refl _) wf;have:=Td.mono (mC f) (mC k) (mC d) s _ _ k9 t a rfl;exact⟨s,e,this▸a⟩
def Sub.eX (a):Sub a a:=λ_ h=>h
def Sub.tr (h:Sub a b)(k:Sub b c):Sub a c:=λi z=>k i (h i z)
def gv.of (f:Sub low low')(g:Sub high' high)(h:∃c,Sub low' c/\Sub c high'/\c<2^bN n K T/\a=.u [.p jK,(wo n K T c).bb]/\∀s∈S,Td (wo n K T c) (wo n K T c) s (y0 k9)):gv n K T S q d low high a:=by obtain⟨c,b,i,e⟩:=h;exact .p ⟨c,f.tr b,i.tr g,e⟩
def HZ(w:Wo):Gd w.bb=true:=by simp[Wo.bb,oH,Bool.and_self]
def sX(a b):Sub a (a|||b):=λk z=>by rw[Af1,z];rfl
def sU(a b):Sub (a-(a&&&b)) a:=λk z=>by rw[Wf.aP,Aa0]at z;exact z.1
def LX(h:a.j i=k9):Sub (2^i) a:=λk z=>by rw[Ae0]at z;rw[←of_decide_eq_true z];exact h
def uO(i:Nat)(h:i<=1000):Gi .shl (1:Int) (i:Int)=y0 ((2^i:Nat):Int):=by
 have:=jU 1 i (by decide) (Nat.le_trans ‹_› (by decide))
 rwa [Nat.one_mul]at this
noncomputable abbrev g9(c:Nat)(d:List Nat)(b a i:Nat)(y z u v w:Option W):Sl:=[y0 (.r c),y0 (.p (aB d)),si b,si a,si i,si (2^i),y,z,u,v,w]
def yI(g:bM n K T)(L:∀s∈S,s.y (K++T)/\s.j<=q)(w:Se n K T S rs rc H)(IH:∀(u r:Nat)(l:List Nat),oc n K T u r<oc n K T low high->Sub u r->u<2^bN n K T->r<2^bN n K T->(∀j∈l,j<S.e)->l.e<=500->(∀j,j<S.e->j∉l->Tr n K T S u r j)->∃a,Gd a=true/\gv n K T S q k u r a/\call prog (m+2) "Search.told_of_case" [.r rs,.p (aB l),.i u,.i r] H=.j (.v a) H)(hk:k<90)(sub:Sub low high)(B:low<2^bN n K T)(M:high<2^bN n K T)(v:∀j∈js,j<S.e)(l5:js.e<=500)(tr:∀j,j<S.e->j∉js->Tr n K T S low high j)(hm:k+q+18<=m):∃a,Gd a=true/\gv n K T S q (k+1) low high a/\call prog (m+4) "Search.told_of_case" [.r rs,.p (aB js),.i low,.i high] H=.j (.v a) H:=by
 have run:=λ(a:D)(e:execs (k8 (m+3)) aM.j [y0 (.r rs),y0 (.p (aB js)),si low,si high,u0,u0,u0] H=.j (.v a) H)=>(show call prog (m+4) "Search.told_of_case" [.r rs,.p (aB js),.i low,.i high] H=.j (.v a) H from by rw[Gb (d:=aM) rfl _ _ _ rfl];show Gx _ (execs _ _ [y0 (.r rs),y0 (.p (aB js)),si low,si high,u0,u0,u0] H)=_;rw[e,Ga _ _ _ rfl]);simp only[aM]at run;have st:∀X,execs (k8 _) (.j (.set 4 (.w .p)) (.j (.for [5] k9 (.j .G) ja) X)) [y0 (.r rs),y0 (.p (aB js)),si low,si high,u0,u0,u0] H=(Gp (Gq [5] k9) (λW h=>execs (k8 (m+3)) ja W h) (aB js) (cS rs js low high [] u0 u0) H).seq λW h=>execs (k8 (m+3)) X W h:=λX=>by rw[za (τ1:=cS rs js low high [] u0 u0) (h1:=H) (by simp![];rfl),execs,exec,show Gs (k8 (m+3)) (.j .G) (cS rs js low high [] u0 u0) H=.j (aB js) H by simp![],R.ax]
 rcases rK (j0:=js) g L B M w (m:=m+3) (by lia) js [] u0 u0 v (by simp;exact Nat.le_trans ‹_› (by decide))with⟨j,s,h1,h2,h3⟩|⟨l,x',y',h1,h2,h3,h4⟩
 .refine⟨_,by simp,.u ⟨_,rfl,GP.brk L h1 h2 (Nat.le_add_left _ _)⟩,run _ ?_⟩;rw[st,h3,O.cR]
 rw[Ae7]at h4;have I:∀j,j<S.e->j∉l->Tr n K T S low high j:=λj v U=>by
  by_cases G:j∈js
  .exact h2 j G U
  .exact tr j v G
 by_cases nil:l=[]
 .subst nil;refine⟨_,by simp[HZ],.p ⟨low,Sub.eX low,sub,B,rfl,λs hs=>?_⟩,run _ ?_⟩
  .obtain⟨j,v,rfl⟩:=Al8 hs;obtain⟨s,e,t⟩:=(I j v Ah6).mono g L (Sub.eX low) sub (Sub.eX low) B B;rw[Aa6 v]at e;injection e with e
   rw[e];exact t
  .rw[st,h4,O.bS];have f3:=pF (m-3) low g w.cs B;rw[show m-3+6=m+3 by lia]at f3;have f3:=(u2 (m:="world_of_code") (q:="Cases.world_of_code") (es:=.j .K .p) (ws:=[.i low]) (Jl (F:=(k8 (m+3))) (τ:=cS rs js low high [] x' y') (i:=0) (f:="cases") w.se rfl rfl) w.cs rfl (by simp![])).j f3;generalize E.bT _ _ _ _ _=X at f3⊢;exact Zf (by simp![show Gr .j (.p []) (.j []) H=y0 k9 from sR [] H,ak]) (Ja rfl (by simp![f3]))
 have ns':∀j∈l,j<S.e:=λj v=>by obtain⟨s,e,_⟩:=h1 j v;exact(Aa1.p e).1
 have op:∀j∈l,∃s,S[j]?=y0 s/\ib n K T low high s≠0:=λj v=>by obtain⟨s,e,t⟩:=h1 j v;exact⟨s,e,Nz g sub (L s (Ac5 e)).1 t⟩
 have l5':l.e<=500:=Nat.le_trans ‹_› ‹_›;obtain⟨i,G,hb,lb,ec⟩:=Ft m g w M nil (Nat.le_trans ‹_› (by decide)) op;have b6:bN n K T<=6:=g.b6;have J:2^i<2^bN n K T:=Ao4 (by decide) G;have hl1:low|||2^i<2^bN n K T:=Al B J
 have hh1:high-(high&&&2^i)<2^bN n K T:=Ah8 (Ap7 _ _) M;have Q:Sub (low|||2^i) high:=tP sub (LX hb);have P:Sub low (high-(high&&&2^i)):=uN sub lb;obtain⟨V,n1,A1,c1⟩:=IH (low|||2^i) high l (E5 G hb lb) Q hl1 M ns' l5' λj v U=>(I j v U).mono g L (sX _ _) (Sub.eX _) Q hl1 M;obtain⟨a2,n2,A2,c2⟩:=IH low (high-(high&&&2^i)) l (Ct G hb lb) P B hh1 ns' l5' λj v U=>(I j v U).mono g L (Sub.eX _) (sU _ _) P B hh1;have C:∀a,call prog (m+3) "Search.told_of_halves" [.r rs,.p (aB l),.i low,.i high] H=.j (.v a) H->call prog (m+4) "Search.told_of_case" [.r rs,.p (aB js),.i low,.i high] H=.j (.v a) H:=fun a e=>run a (by rw[st,h4,O.bS];rw[xa (by simp![sR,beq_eq_false_iff_ne.u nil,ak])];exact qa (Ja rfl ((wK (F:=(k8 (m+3))) (τ:=cS rs js low high l x' y') (i:=0) (m:="told_of_halves") (q:="Search.told_of_halves") (es:=.j .v4 (.b .K .L)) (ws:=[.p (aB l),.i low,.i high]) w.se rfl rfl (by simp![])).j e)));have o:=λ(a:D)(e:execs (k8 (m+2)) aG.j [y0 (.r rs),y0 (.p (aB l)),si low,si high,u0,u0,u0,u0,u0,u0,u0] H=.j (.v a) H)=>C a (show call prog (m+3) "Search.told_of_halves" [.r rs,.p (aB l),.i low,.i high] H=.j (.v a) H from by rw[Gb (d:=aG) rfl _ _ _ rfl];show Gx _ (execs _ _ [y0 (.r rs),y0 (.p (aB l)),si low,si high,u0,u0,u0,u0,u0,u0,u0] H)=_;rw[e,Ga _ _ _ rfl]);clear run C st h4;simp only[aG]at o;have g1:eval (k8 (m+2)) (.bT .A "Search" "chosen_place" "Search.chosen_place" (.c .G .K .L)) [some (.r rs),some (.p (aB l)),si low,si high,none,none,none,none,none,none,none] H=.j (.i i) H:=(wK (ws:=[.p (aB l),.i low,.i high]) w.se rfl rfl (by simp![])).j ec;have g2:eval (k8 (m+2)) (.bT .A "Search" "told_of_case" "Search.told_of_case" (.c .G (.x .bor .K .v5) .L)) (g9 rs l low high i none none none none none) H=.j (.v V) H:=(wK (ws:=[.p (aB l),.i (low|||2^i),.i high]) w.se rfl rfl (by simp![wn,Wm,ak])).j c1;have g3:eval (k8 (m+2)) (.bT .A "Search" "told_of_case" "Search.told_of_case" (.c .G .K (.x .u .L (.inv .v5)))) (g9 rs l low high i (sv V) none none none none) H=.j (.v a2) H:=(wK (ws:=[.p (aB l),.i low,.i (high-(high&&&2^i))]) w.se rfl rfl (by simp![wc,JK,ak])).j c2;generalize E.bT _ _ _ _ _=X1 at g1 o;generalize E.bT _ _ _ _ _=X2 at g2 o;generalize E.bT _ _ _ _ _=X3 at g3 o;have A:∀X,execs (k8 (m+2)) (.j (.p 4 X1) (.j (.p 5 (.x .shl (.o 1) .v4)) (.j (.p 6 X2) X))) [y0 (.r rs),y0 (.p (aB l)),si low,si high,u0,u0,u0,u0,u0,u0,u0] H=execs (k8 (m+2)) X (g9 rs l low high i (sv V) u0 u0 u0 u0) H:=λX=>by
  rw[za (τ1:=[y0 (.r rs),y0 (.p (aB l)),si low,si high,si i,u0,u0,u0,u0,u0,u0]) (h1:=H) (by simp![g1]),
   za (τ1:=g9 rs l low high i u0 u0 u0 u0 u0) (h1:=H) (by simp![(uO i (by lia)),ak]),za (τ1:=g9 rs l low high i (sv V) u0 u0 u0 u0) (h1:=H) (by simp![g2])]
 rcases A1 with wd|⟨z,rfl,N⟩
 .refine⟨V,n1,gv.of (sX _ _) (Sub.eX _) wd,o _ ?_⟩;obtain⟨c,_,_,_,rfl,_⟩:=wd;rw[A];generalize E.bT _ _ _ _ _=Y;exact Zf (by simp![ab,jf,xb,ak];rfl) rfl
 obtain⟨b,Wb,Wl⟩:=walk g L N.pp k N.dp low high B M;have g4:eval (k8 (m+2)) (.bT (.aI .A "Search" "cases") "Cases" "is_shown" "Cases.is_shown" (.c (.B .v6 (.o 1)) .K .L)) (g9 rs l low high i (some (.t [.p zf,z])) none none none none) H=.j (.b b) H:=(u2 (ws:=[.v z,.i low,.i high]) (Jl w.se rfl rfl) w.cs rfl (by simp![ab,show aW [D.str zf,z] 1=some z from rfl,ak])).j (Wb (m+2) rc H (by lia) w.cs);generalize E.bT _ _ _ _ _=Y at g4 o;have tt:Gm (k8 (m+2)) (.or (.y .j (.B .v6 (.o 0)) (.p iX)) Y) (g9 rs l low high i (y0 (.t [.p zf,z])) u0 u0 u0 u0) H=.j b H:=by simp![ab,jf,xb,ak,show(zf==iX)=y9 from rfl,g4]
 cases b with
|true=>refine⟨_,n1,.u ⟨z,rfl,GP.up ⟨N.pp,N.dp,Wl rfl⟩ (Ag k)⟩,o _ ?_⟩;rw[A];exact Zf tt rfl
|false=>
  rcases A2 with wd|⟨J,rfl,P2⟩
  .refine⟨a2,n2,gv.of (Sub.eX _) (sU _ _) wd,o _ ?_⟩;obtain⟨c,_,_,_,rfl,_⟩:=wd;rw[A,xa tt,za (τ1:=g9 rs l low high i (y0 (.t [.p zf,z])) (y0 (.t [.p jK,(wo n K T c).bb])) u0 u0 u0) (h1:=H) (by simp![g3])];exact Zf (by simp![ab,jf,xb,ak];rfl) rfl
  .obtain⟨⟨t,x,y⟩,hp⟩:∃p,(bV n K T)[i]?=y0 p:=⟨_,Aa6 (by rw[jF];exact G)⟩;refine⟨.u [.p zf,.u [.p Qj,.p t,.n x,.n y,z,J]],by simp[N.pp.nr,P2.pp.nr],.u ⟨_,rfl,GP.eg g hp hb lb N P2⟩,o _ ?_⟩;have at1:aW ((bV n K T).j bU) (i:Int)=y0 (.u [.p t,.n x,.n y]):=by rw[Xf _ _ (by rw[Aa,jF];exact G),Ac2,hp];rfl
   have g5:eval (k8 (m+2)) (.aI (.aI .A "Search" "cases") "Cases" "places") (g9 rs l low high i (some (.t [.p zf,z])) (some (.t [.p zf,J])) none none none) H=.j (.l ((bV n K T).j bU)) H:=BA (Jl w.se rfl rfl) w.cs rfl;generalize E.aI _ _ _=Z at g5⊢;rw[A,xa tt,za (τ1:=g9 rs l low high i (y0 (.t [.p zf,z])) (y0 (.t [.p zf,J])) u0 u0 u0) (h1:=H) (by simp![g3]),xa (by simp![ab,jf,xb,ak,show(zf==iX)=y9 from rfl])];refine(za (by simp![g5,jr,at1,ak];rfl)).j ?_;exact qa (Ja rfl (by simp![ab,show aW [D.str zf,z] 1=y0 z from rfl,show aW [D.str zf,J] 1=y0 J from rfl,ak]))
theorem yN(g:bM n K T)(o:∀s∈S,s.y (K++T)/\s.j<=q)(h:Se n K T S rs rc H):∀k low high m i,oc n K T low high<=k->k<80->Sub low high->low<2^bN n K T->high<2^bN n K T->(∀j∈i,j<S.e)->i.e<=500->(∀j,j<S.e->j∉i->Tr n K T S low high j)->2*k+q+22<=m->∃a,Gd a=k9/\gv n K T S q (k+1) low high a/\call prog m "Search.told_of_case" [.r rs,.p (aB i),.i low,.i high] H=.j (.v a) H
|0,low,high,m,i,A,v,sub,f,r,t,p,tr,w=>by obtain⟨m,rfl⟩:∃x,m=x+4:=⟨m-4,by lia⟩;exact yI g o h (λ_ _ _ z=>absurd z (by lia)) (Nat.le_add_left _ _) sub f r t p tr (by lia)
|k+1,low,high,m,i,A,v,sub,f,r,t,p,tr,w=>by obtain⟨m,rfl⟩:∃x,m=x+4:=⟨m-4,by lia⟩;exact yI g o h (λB y l z u a b c d e=>yN g o h k B y (m+2) l (by lia) (Nat.le_of_lt ‹_›) u a b c d e (by lia)) (Nat.le_trans ‹_› (by decide)) sub f r t p tr (by lia)
end
section
variable{n q:Nat}{K T:List Tx}{S:List Sy}
def DV(w):Sub 0 w:=λk z=>by rw[Af8]at z;cases z
def He(g:bM n K T)(o:∀s∈S,s.y (K++T)/\s.j<=q)(r:S.e<=100)(b:Se n K T S rs rc H)(t:q+34<=m):∃a,Gd a=k9/\gv n K T S q 7 0 (2^bN n K T-1) a/\call prog (m+1) "Search.told_of_sayings" [.r rs,.p (aB (List.range S.e))] H=.j (.v a) H:=by have f:bN n K T<=6:=g.b6;have h:=Ad5 (bN n K T);obtain⟨a,k,A,e⟩:=yN g o b 6 0 (2^bN n K T-1) m _ (Ab5 F1 f) (by decide) (DV _) h (Nat.sub_lt_sub_left ‹_› (Nat.lt_succ_self _)) (λj c=>Ac0.p c) (by grind) (λj c l=>absurd (Ac0.u c) l) (by lia);refine⟨a,k,A,?_⟩;rw[Gb rfl _ _ _ rfl];show Gx _ (execs _ _ [y0 _,y0 _] H)=_;simp only[Xg];have d:eval (k8 m) (.aI (.aI .A "Search" "cases") "Cases" "whole") [some _,some (.p (aB (List.range S.e)))] H=.j _ H:=BA (Jl b.se rfl rfl) b.cs rfl;generalize E.aI _ _ _=Z at d⊢;have p:=wK (F:=(k8 m)) (τ:=[y0 _,y0 (.p (aB (List.range S.e)))]) (i:=0) (m:="told_of_case") (q:="Search.told_of_case") (es:=.j .G (.j (.o 0) (.j Z .p))) (ws:=[.p _,.i (0),.i _]) b.se rfl rfl (by simp![d];rfl);rw[qa (Ja rfl (p.j e)),Ga _ _ _ rfl]
def wB(xs ys)(h)(a:xs.e+ys.e<=100):GQ .j (.t xs) (.t ys) h=.j (.t (xs++ys)) h:=by rw[Bt,if_pos (by rw[Gg];exact Nat.le_trans ‹_› (by decide))]
def CF(p:Gw h=k9)(a:Gw h'=k9):Gw (h++h')=true:=by rw[Gw,List.all_append,show h.N Cell.pure=k9 from p,show h'.N Cell.pure=k9 from a];rfl
def vS(a:Gd d=k9)(b:Gw h=k9):Gx h.e (.j (.v d) (h++h'))=.j (.v d) h:=by have e:(h++h').B h.e=h:=List.take_left' rfl;obtain⟨x,e1,e2⟩:=m6 (n:=h.e) (h:=h++h') a (by simp) (by rw[e];exact b);rw[e1,e2,e]
def N3(g:bM n K T)(f:∀s∈S,s.y (K++T)/\s.j<=q)(b:S.e<=100)(r:q<=14)(o:Gw h=k9)(t:q+35<=m):∃a,Gd a=k9/\gv n K T S q 7 0 (2^bN n K T-1) a/\call prog (m+1) "found" [.v (a8 K T S),.i n] h=.j (.v a) h:=by
 obtain⟨k,rfl⟩:=nk m 5 (Nat.le_trans (Nat.le_add_left _ _) ‹_›);have c:Se n K T S h.e (h.e+1) (h++[.j "Search" (eZ n K T S (h.e+1)),.j "Cases" (cN n K T S)]):=⟨by simp,by simp⟩;obtain⟨a,e,A,p⟩:=He g f b (m:=k+4) c (Nat.le_of_lt_succ ‹_›);refine⟨a,e,A,?_⟩;rw[Gb (d:=rH) rfl _ _ _ rfl];simp only[rH];refine fx (by simp![ab,Xh,ak,show List.lookup "MOST_BITS" prog.con=some (.o 16)from rfl,(J1 k g h)];rfl) ?_;have mk:eval (k8 (k+5)) (.make "Search" "Search.__init__" (.b .A .G)) [sv (a8 K T S),si n] h=.j (.r h.e) (h++[.j "Search" (eZ n K T S (h.e+1)),.j "Cases" (cN n K T S)]):=by simp![(ED (k+4) g f b (by lia) r h),ak]
 have i:(0:Int)<=(S.e:Int)/\(S.e:Int)<=1000:=by lia
 have j:Gc (k8 (k+5)) (.a (.cy (.bi .y (.a (.B .A (.o 1)))))) [sv (a8 K T S),si n] (h++[.j "Search" (eZ n K T S (h.e+1)),.j "Cases" (cN n K T S)])=.j [.j (aB (List.range S.e))] (h++[.j "Search" (eZ n K T S (h.e+1)),.j "Cases" (cN n K T S)]):=by simp![ab,qg,ak,Xc,Aa,i,and_self,if_true,Ac9]
 generalize E.make _ _ _=Z at mk⊢;have l:eval (k8 (k+5)) (.bT Z "Search" "told_of_sayings" "Search.told_of_sayings" (.a (.cy (.bi .y (.a (.B .A (.o 1))))))) [sv (a8 K T S),si n] h=.j (.v a) (h++[.j "Search" (eZ n K T S (h.e+1)),.j "Cases" (cN n K T S)]):=by rw[eval,mk,R.ae];simp only[zp c.se];rw[if_pos ⟨trivial,rfl⟩,j,R.ae];exact p
 rw[qa (Ja rfl l),vS e o]
end
section
variable{n q:Nat}{K T:List Tx}{S:List Sy}
abbrev ki(K T:List Tx)(n:Nat)(w:D)(a x4 b:Option W):Sl:=[sv (wD K T),si n,sv w,a,x4,b]
theorem vn(a:n<=4)(f:i=0/\e=n\/i=1/\e=n*n):∀l x,(∀y∈l,y<2^e)->∃j,Gp (Gq [5] k9) (λτ h=>execs (k8 (m+1)) Jj τ h) (aB l) (ki K T n w (si i) x4 x) h=.p (ki K T n w (si i) x4 j) h
|[],x,_=>⟨x,rfl⟩
|y::l,x,b=>by
  obtain⟨j,e2⟩:=vn a f l (si y) λz o=>b z (Aa2 _ o);refine⟨j,?_⟩;have p:=Ag1 a a;rw[aB,Ab2,Wa (τ1:=ki K T n w (si i) x4 (si y)) rfl ?_]
  .exact e2
  have e1:=Zy m (.n y) h rfl;have d:=je n n (Nat.lt_of_le_of_lt ‹_› (by decide));have g:=uO e (by lia);have c:eval (k8 (m+1)) (.B (.w (.b .G (.x .w .G .G))) .L) (ki K T n w (si i) x4 (si y)) h=.j (.i e) h:=by
   rcases f with⟨rfl,rfl⟩|⟨rfl,rfl⟩
   .simp![d,ak];rfl
   .simp![d,ak];rfl
  have q:Gr .le (.v (.o 0)) (.i y) h=y0 true:=by show y0 (u9 (0<=y))=_;rw[decide_eq_true (Nat.zero_le _)]
  have k:Gr .lt (.i y) (.i (2^e)) h=y0 true:=by show y0 (u9 (y<((2^e:Nat):Int)))=_;rw[decide_eq_true (Int.ofNat_lt.u (b y Aa3))]
  unfold Jj;generalize E.ix _ _=X at c⊢;rw[xa (by simp![e1,ak,xz,q,c,g,k]),execs]
def Bx{m i e:Nat}(o:n<=4)(k:i=0/\e=n\/i=1/\e=n*n)(l)(N:List Tx)(b:∀y∈l,y<2^e)(c:aW [x,y,z] (1+(i:Int))=y0 (.u (aB l)))(f:aW [D.tup (K.j .p),.u (T.j .p)] (i:Int)=y0 (.u (N.j .p)))(d:l.e=N.e):∃j L,execs (k8 (m+1)) jq (ki K T n (.u [x,y,z]) (si i) x4 x5) h=.p (ki K T n (.u [x,y,z]) (si i) j L) h:=by
 obtain⟨g,e2⟩:=vn o k l x5 b;refine⟨y0 (.t (aB l)),g,?_⟩;refine(za (by simp![Qc,ab,c,ak];rfl)).j ?_;rw[xa (by
  have a:cG .x (.t (aB l))=y0 true:=rfl;have nn:Gr .u (.i l.e) (.i N.e) h=y0 false:=by rw[d];show y0 (!(decide _))=_;rw[decide_eq_true rfl];rfl
  simp![a,Xc,Aa,ab,f,nn])]
 rw[za (by exact e2),execs]
def NC(g:bM n K T)(m c)(h):call prog (m+2) "_law_is_world" [.v (wD K T),.i n,.v (wo n K T c).bb] h=.j (.b true) h:=by
 have ok:=(g.wo c).wl;obtain⟨k,i,e1⟩:=Bx g.n4 (.p ⟨rfl,rfl⟩) (wo n K T c).ks K ok.bk rfl rfl ok.lk;obtain⟨a2,j,e2⟩:=Bx g.n4 (.u ⟨rfl,rfl⟩) (wo n K T c).ts T ok.bt rfl rfl ok.lt;have f:=Zy m (.n n) h rfl;show Gx _ (execs _ _ (ki K T n (.u [.n n,.u _,.u _]) u0 u0 u0) h)=_;simp only[Wu];rw[xa (by
  have a:cG .x (.t [.n n,.u (aB (wo n K T c).ks),.u (aB (wo n K T c).ts)])=y0 true:=rfl;have e:Gr .u (.i (3)) (.v (.o 3)) h=y0 false:=rfl;have d:Gr .u (.i n) (.i n) h=y0 false:=by show y0 (!(decide _))=_;rw[decide_eq_true rfl];rfl
  simp![a,ak,Xc,Aa8,Ad9,e,ab,IZ,d,f,xz])]
 rw[za (by rw[exec,show Gs (k8 _) _ _ h=.j [.n (0),.n (1)] h by(have b:-(gj)<=2/\2<gj:=by rw[GL];exact by decide);simp![b,and_self,if_true];rfl,R.ax];rw[Wa rfl e1];rw[Wa rfl e2,Xx])];rw[qa rfl,Ga _ _ _ rfl]
def KR(g:bM n K T)(u:∀s∈S++[y],s.y (K++T)/\s.j<=q)(x:S.e<=11)(A:gv n K T (S++[y]) q 7 0 (2^bN n K T-1) a){m:Nat}(f:Gw h=true)(z:q+22<=m):call prog (m+1) "_law_shows" [.v (a8 K T S),.v (aj y),.i n,.v a] h=.j (.b true) h:=by
 have o:=wB (S.j aj) [aj y] h (by simp;exact Nat.le_trans ‹_› (by decide));have i:∀(w:Tx)(p:D)(X:Ss),execs (k8 m) (.j (.r (.or (.not (.cG .L .x)) (.y .u (.bi .y (.a .L)) (.o 2))) (.C y9)) (.j (.p 4 (.u (.b (.B .A (.o 0)) (.x .j (.B .A (.o 1)) (.u (.a .G)))))) X)) [sv (a8 K T S),sv (aj y),si n,y0 (.t [.p w,p]),u0] h=execs (k8 m) X [sv _,sv _,si n,y0 _,sv _] h:=λw p X=>by have e:cG .x (.t [.p w,p])=y0 true:=rfl;have l:Gr .u (.i (2)) (.v (.o 2)) h=y0 false:=rfl;rw[xa (by simp![e,ak,Xc,Aa8,Ad9,l])];rw[za (τ1:=[sv (a8 K T S),sv (aj y),si n,y0 (.t [.p w,p]),sv (a8 K T (S++[y]))]) (h1:=h) (by simp![ab,Xh,qg,ak,o];rw[show a8 K T (S++[y])=.u [wD K T,.u (S.j aj++[aj y])]by rw[a8,Ad8];rfl])]
 rw[Gb (d:=ww) rfl _ _ _ rfl];show Gx _ (execs _ _ [sv (a8 K T S),sv (aj y),si n,sv a,u0] h)=_;simp only[ww];rcases A with⟨c,_,_,B,rfl,v⟩|⟨p,rfl,P⟩
 .obtain⟨k,rfl⟩:=nk m 2 (Nat.le_trans (Nat.le_add_left _ _) ‹_›);have e1:=NC g k c h;obtain⟨b,e2,j⟩:=DN (k+1) c g u (by rw[Aa5];simp;exact Nat.le_trans ‹_› (by decide)) (by lia) h f;rw[j.u v]at e2;rw[i,xa (by simp![ab,Xh,xb,ak,show(jK==mQ)=y9 from rfl])];rw[qa (w:=.b k9) (h1:=h) (Ja rfl (by simp![ab,Xh,qg,xb,ak,show(jK==iX)=k9 from rfl,e1,e2])),Ga _ _ _ rfl]
 .obtain⟨k,rfl⟩:=nk m 2 (Nat.le_trans (Nat.le_add_left _ _) ‹_›);have e1:=HM k g h;have t:=P.wk _ _ _ (LF g (r:=h.e) (h:=h++[.p (aQ (K++T) (fO n T))]) (by simp));have e2:=t.nP (CF f rfl) (k+2) (by lia);rw[i,qa (h1:=h++[.p (aQ (K++T) (fO n T))]) ((Qq (h1:=h) (by simp![ab,Xh,xb,ak,show(zf==mQ)=k9 from rfl])).j (qa (Ja (d:=.C k9) rfl (by simp![ab,Xh,qg,ak,e1,e2])))),vS rfl f]
end
section
variable{n q:Nat}{K T:List Tx}{S:List Sy}
noncomputable def eU(S:List Sy)(j:Nat):List Sy:=S.B j++S.K (j+1)
def yU(j:Nat)(h)(a:S.e<=11):fV (.t (S.j aj)) u0 (y0 (j:Int)) h=.j (.t ((S.B j).j aj)) h/\fV (.t (S.j aj)) (y0 ((j+1:Nat):Int)) u0 h=.j (.t ((S.K (j+1)).j aj)) h/\GQ .j (.t ((S.B j).j aj)) (.t ((S.K (j+1)).j aj)) h=.j (.t ((eU S j).j aj)) h:=by
 refine⟨?_,?_,?_⟩
 .show ak (.u (cut _ u0 (y0 j))) h=_;rw[ny,Ap1]
 .show ak (.u (cut _ (y0 (j+1:Nat)) u0)) h=_;rw[xQ,List.map_drop]
 .rw[wB _ _ h (by simp;lia),eU,Ad8]
def m9(a:j<S.e):aW (S.j aj) (j:Int)=y0 (aj S[j]):=by rw[Xf _ _ (by rw[Aa];exact a),Ac2,Aa6 a];rfl
def Ia(g:bM n K T)(hj)(x:∀s∈eU S j++[Sy.neg S[j]],s.y (K++T)/\s.j<=q)(p:S.e<=11)(z:q<=14)(y:Gw h=k9)(B:q+36<=m):∃a,Gd a=k9/\gv n K T (eU S j++[Sy.neg S[j]]) q 7 0 (2^bN n K T-1) a/\call prog (m+1) "matters" [.v (a8 K T S),.i n,.i j] h=.j (.v a) h:=by
 obtain⟨k,rfl⟩:=nk m 5 (Nat.le_trans (Nat.le_add_left _ _) ‹_›);have C:(eU S j).e<=11:=by rw[eU,Aa5,Ae9,Af];lia
 obtain⟨a,t,A,c⟩:=N3 g x (by rw[Aa5];simp;exact Nat.le_trans ‹_› (by decide)) z (m:=k+4) y (Nat.le_of_lt_succ ‹_›);refine⟨a,t,A,?_⟩;obtain⟨i,f,u⟩:=yU (S:=S) j h p;have l:=qo (k+3) (.n j) S.e h rfl;rw[show qh (.n j) S.e=k9 by simp only[qh,Aa0,decide_eq_true_eq];lia]at l;have b:=m9 hj;have o:((S.j aj).e:Int)=(S.e:Int):=by rw[Aa]
 have v:=wB ((eU S j).j aj) [aj (.neg S[j])] h (by simp;exact Nat.le_trans ‹_› (by decide));have c:call prog (k+5) "found" [.t [wD K T,.u ((eU S j).j aj++[aj (.neg S[j])])],.i n] h=.j (.v a) h:=by rw[a8,Ad8]at c;exact c
 have e:((j:Int)+1)=((j+1:Nat):Int):=rfl;rw[Gb (d:=XA) rfl _ _ _ rfl];simp only[XA];refine fx (τ1:=[sv (a8 K T S),si n,si j,sv (wD K T),y0 (.t (S.j aj)),u0]) (h1:=h) (by simp![]) ?_;generalize a8 K T S=r;generalize S.j aj=L at i f b o⊢;rw[xa (by simp![Xc,ak,o,l,An2])];refine fx (τ1:=[sv r,si n,si j,sv (wD K T),y0 (.t L),y0 (.t ((eU S j).j aj))]) (h1:=h) (by simp![i,Qc,e,f,u]) ?_;rw[qa (w:=.v a) (h1:=h) (Ja rfl (by simp![ab,b,ak,show D.tup [.p gu,aj S[j]]=aj (.neg S[j])from rfl,v,c])),Ga _ _ _ rfl]
def yl(e:exec F s τ h=.exc d h1):execs F (.j s ss) τ h=.exc d h1:=by rw[execs,e];rfl
def Dk(k)(e:Gd d=k9)(c:qh d S.e=y9)(h):call prog (k+3) "matters" [.v (a8 K T S),.v x,.v d] h=.exc (.x "NoNumber" "number" d) h:=by
 have a:=qo k d S.e h e;rw[c]at a;have b:((S.j aj).e)=S.e:=by rw[Aa]
 rw[Gb rfl _ _ _ rfl];simp only[XA];refine fx (τ1:=[sv (a8 K T S),sv x,sv d,sv (wD K T),y0 (.t (S.j aj)),u0]) (h1:=h) (by simp![]) ?_;generalize a8 K T S=f;generalize S.j aj=L at b⊢;rw[yl ((Qq (h1:=h) (by simp![Xc,b,a,Bool.not_false])).j (yl (d:=.x "NoNumber" "number" d) (h1:=h) (by simp![]))),GY]
end
noncomputable def eL(j:Nat):List D:=(Aa7 16).j λi=>.C (u9 (i=j)||u9 (i=15))
noncomputable def pB:List String:=["NoSize","NoPair","NoName","NoCode","NoText","Crowded","TooBig","NoWorld","NoRenaming","NoNumber","Broken","Kept","Unlike","NoRow","NoStand","ValueError"]
def C6(xs ys)(h)(a:xs.e+ys.e<=100):GQ .j (.l xs) (.j ys) h=.j (.j (xs++ys)) h:=by show KI xs ys h=_;rw[KI,if_pos (by rw[Gg];exact Nat.le_trans ‹_› (by decide))]
def NA(k)(f:String->Bool)(H:∀c,bQ prog.cl (.v e) [c]=y0 (f c))(h):call prog (k+1) "_law_classes" [.v e] h=.j (.l (pB.j fun c=>.C (f c))) h:=by
 rw[Gb rfl _ _ _ rfl];simp only[jy];have g:∀a b c d x,eval (k8 k) (.w (.d (.bQ .A k9 [a]) (.bQ .A k9 [b]) (.bQ .A k9 [c]) (.bQ .A k9 [d]))) [sv e,x] h=.j (.j [.C (f a),.C (f b),.C (f c),.C (f d)]) h:=λa b c d x=>by simp![H,ak]
 have add:∀l a b c d,l.e<=90->exec (k8 k) (.p 1 (.x .j .G (.w (.d (.bQ .A k9 [a]) (.bQ .A k9 [b]) (.bQ .A k9 [c]) (.bQ .A k9 [d]))))) [sv e,y0 (.l l)] h=.p [sv e,y0 (.l (l++[.C (f a),.C (f b),.C (f c),.C (f d)]))] h:=λl a b c d i=>by have r:=g a b c d (y0 (.l l));generalize E.lst _=X at r⊢;simp![r,C6 l [.C (f a),.C (f b),.C (f c),.C (f d)] h (by simp;exact Nat.le_trans ‹_› (by decide))]
 refine fx (by rw[exec];exact(congrArg (λr=>R.cU r _) (g _ _ _ _ _)).j rfl) ?_;refine fx (add _ _ _ _ _ (by simp)) ?_;refine fx (add _ _ _ _ _ (by simp)) ?_;refine fx (add _ _ _ _ _ (by simp)) ?_;rw[qa rfl];exact Ga _ _ _ rfl
def E3(k)(h):call prog (k+1) "_law_classes" [.v (.x "NoNumber" "number" d)] h=.j (.l (eL 9)) h:=(NA k (fun x=>[x].A (GW prog.cl 8 "NoNumber").w) (fun x=>rfl) h).j (by rfl)
def Em(k j)(h):call prog (k+1) "_law_class" [.i j] h=.j (.j (eL j)) h:=by rw[Gb rfl _ _ _ rfl];simp only[qI];rw[qa (Jw rfl ?_),Gu _ _ _ rfl];refine xp (λi=>.C (u9 (i=j)||u9 (i=15))) rfl (by decide) λi c=>⟨.b (u9 (i=j)||u9 (i=15)),?_,rfl⟩;have a:=Zj i j h;have b:=Zj i 15 h;have b:Gr .j (.i i) (.v (.o 15)) h=y0 (u9 (i=15)):=b;exact kJ (by simp![a,ak]) (by simp![b,ak])
noncomputable abbrev gC(a b c:W)(x y:Option W):Sl:=[y0 a,y0 b,y0 c,x,y]
def Ed(k){S:List Sy}(c:Gd d=k9)(f:qh d S.e=y9)(j:Gw h=k9):call prog (k+4) "_law_caught" [.v (a8 K T S),.v x,.v d] h=.j (.v (.u [.w (eL 9),.w [d]])) h:=by
 have e1:=E3 (d:=d) (k+2) h;have e2:=Dk (K:=K) (T:=T) (x:=x) k c f h;have g:∀o y q,eval (k8 (k+3)) q (gC (.v (a8 K T S)) (.v x) (.v d) o (sv (.x "NoNumber" "number" d))) h=.j (.v y) h->exec (k8 (k+3)) (.p 3 (.u (.j (.j "_law_classes" (.a .v4)) (.j q .p)))) (gC (.v (a8 K T S)) (.v x) (.v d) o (sv (.x "NoNumber" "number" d))) h=.p (gC (.v (a8 K T S)) (.v x) (.v d) (sv (.u [.w (eL 9),y])) (sv (.x "NoNumber" "number" d))) h:=fun o y q i=>by simp![e1,i,ak]
 have b:∀o:Option W,exec (k8 (k+3)) (.p 3 (.u (.b (.j "_law_classes" (.a .v4)) (.w (.a (.xf 4 "number")))))) (gC (.v (a8 K T S)) (.v x) (.v d) o (sv (.x "NoNumber" "number" d))) h=.p (gC (.v (a8 K T S)) (.v x) (.v d) (sv (.u [.w (eL 9),.w [d]])) (sv (.x "NoNumber" "number" d))) h:=fun o=>by simp![e1,if_true,ak]
 rw[Gb (d:=Qs) rfl _ _ _ rfl];simp only[Qs];refine fx (τ1:=gC (.v (a8 K T S)) (.v x) (.v d) (sv .T) u0) (h1:=h) (by simp![]) ?_;refine fx (τ1:=gC (.v (a8 K T S)) (.v x) (.v d) (sv (.u [.w (eL 9),.w [d]])) u0) (h1:=h) ?_ ?_
 .rw[exec];dsimp only[lu];rw[show Gc (k8 (k+3)) (.c .A .G .K) (gC (.v (a8 K T S)) (.v x) (.v d) (sv .T) u0) h=.j [.v (a8 K T S),.v x,.v d] h by simp![]];have e:Kn (.x "NoNumber" "number" d) h.e h=h:=by rw[Kn,List.take_length,show GN (.x "NoNumber" "number" d)=Gd d from rfl,c,j];rfl
  have tb:mD (call prog (k+3)) none "matters" (gC (.v (a8 K T S)) (.v x) (.v d) (sv .T) none) (.j [.v (a8 K T S),.v x,.v d] h)=.exc (.x "NoNumber" "number" d) h:=by show(match call prog (k+3) "matters" [.v (a8 K T S),.v x,.v d] h with|.j w h=>_|.exc d a=>O.exc d (Kn d h.e a)|.fail=>_)=_;rw[e2];dsimp only;rw[e]
  rw[tb,KG,KH,show bQ prog.cl (.v (.x "NoNumber" "number" d)) ["WorldError"]=some true from rfl];dsimp only;rw[show GB (gC (.v (a8 K T S)) (.v x) (.v d) (sv .T) u0) 4 (.v (.x "NoNumber" "number" d))=gC (.v (a8 K T S)) (.v x) (.v d) (sv .T) (sv (.x "NoNumber" "number" d))from rfl];rw[za (g _ .T .aw rfl),za ((Qq (h1:=h) (by simp![ak];rfl)).j ((za (b _)).j rfl)),execs];rfl
 .rw[qa (w:=.v (.u [.w (eL 9),.w [d]])) (h1:=h) rfl];exact Ga _ _ _ rfl
noncomputable abbrev mS(sc:D)(n:Nat)(K T:List Tx)(x4 g x6 e f h b c a d:Option W):Sl:=[sv sc,y0 (.r 0),si n,sv (wD K T),x4,g,x6,e,f,h,b,c,a,d]
section
variable{n:Nat}{K T:List Tx}{S:List Sy}{sc:D}
def MD(h:s∈eU S j):s∈S:=by
 rcases Ac6.p h with h|h
 .exact List.mem_of_mem_take h
 .exact List.mem_of_mem_drop h
def nx(s):D.tup [.p gu,aj s]=aj (.neg s):=rfl
def C4(g:bM n K T)(o:∀s∈S,s.y (K++T)/\s.j<=10)(x:S.e<=5)(p:Gw H=k9)(t:0<S.e)(x6 x9 x10):∃O M,execs (k8 69) qS (mS sc n K T (sv (a8 K T S)) (y0 (.t (S.j aj))) x6 (si f) (si i) x9 x10 u0 u0 u0) H=.p (mS sc n K T (sv (a8 K T S)) (y0 (.t (S.j aj))) x6 (si f) (si i) O M u0 u0 u0) H:=by
 obtain⟨j,e,w⟩:∃j,j<S.e/\Gi .x ((f:Int)+(i:Int)) (S.e:Int)=y0 (j:Int):=⟨(f+i)%S.e,Ai9 _ t,by rw[yr,if_pos (by lia)];rfl⟩;have c:∀s∈eU S j++[Sy.neg S[j]],s.y (K++T)/\s.j<=12:=λs d=>by
  rcases Ac6.p d with d|d
  .have:=o s (MD d);exact⟨this.1,by lia⟩
  .rw[Ac4.p d];have:=o _ (Ai7 e);exact⟨this.1,by rw[Sy.dp];lia⟩
 have v:(eU S j).e<=11:=by rw[eU,Aa5,Ae9,Af];lia
 obtain⟨a,y,A,e1⟩:=Ia (m:=68) g e c (Nat.le_trans ‹_› (by decide)) (by decide) p (by decide);have e2:=KR (m:=68) g c v A p (by decide);obtain⟨q,l,u⟩:=yU (S:=S) j H (Nat.le_trans ‹_› (by decide));have b:=m9 e;have r:((S.j aj).e:Int)=(S.e:Int):=by rw[Aa]
 have h:((j:Int)+1)=((j+1:Nat):Int):=rfl;refine⟨si j,sv (a8 K T (eU S j)),?_⟩;unfold qS;generalize a8 K T S=k at e1⊢;generalize S.j aj=L at q l b r⊢;rw[za (τ1:=mS sc n K T (sv k) (y0 (.t L)) x6 (si f) (si i) (si j) x10 u0 u0 u0) (h1:=H) (by simp![Xc,r,Qc,ak,w])];rw[za (τ1:=mS sc n K T (sv k) (y0 (.t L)) x6 (si f) (si i) (si j) (sv (a8 K T (eU S j))) u0 u0 u0) (h1:=H) (by simp![q,Qc,h,l,u,ak])];rw[xa (by simp![ab,b,nx,e1,e2,ak]),execs]
theorem Bg(g:bM n K T)(e:∀s∈S,s.y (K++T)/\s.j<=10)(c:S.e<=5)(k:Gw H=k9)(d:0<S.e)(x6):∀l O M j,∃V W L,Gp (Gq [8] k9) (λτ h=>execs (k8 69) qS τ h) (aB l) (mS sc n K T (sv (a8 K T S)) (y0 (.t (S.j aj))) x6 (si f) O M j u0 u0 u0) H=.p (mS sc n K T (sv (a8 K T S)) (y0 (.t (S.j aj))) x6 (si f) V W L u0 u0 u0) H
|[],O,M,j=>⟨O,M,j,rfl⟩
|i::l,O,M,j=>by obtain⟨p,a,e1⟩:=C4 g e c k d x6 M j;obtain⟨o,m,b,e2⟩:=Bg g e c k d x6 l (si i) p a;refine⟨o,m,b,?_⟩;rw[aB,Ab2,Wa rfl e1];exact e2
def hA(m:Nat):List D:=[.o (-1),.n m,.o (10^30),.C k9,.T,.p [48]]
def Cv(b:m<=5):∀d∈hA m,Gd d=k9/\qh d m=y9/\dep d=0:=λd a=>by
 simp only[hA,Ab8,Ah6,or_false]at a;rcases a with rfl|rfl|rfl|rfl|rfl|rfl
 .exact⟨rfl,by simp[qh],rfl⟩
 .exact⟨rfl,by simp[qh],rfl⟩
 .refine⟨rfl,?_,rfl⟩;simp only[qh];rw[decide_eq_false (show¬((10^30)<(m:Int))by lia),Ag5]
 .exact⟨rfl,rfl,rfl⟩
 .exact⟨rfl,rfl,rfl⟩
 .exact⟨rfl,rfl,rfl⟩
def O8:Gi .pow 10 30=y0 ((10:Int)^30):=by
 have:(0:Int)<=30/\30<=BP/\(10:Int).p<kv:=by rw[G7,GC];decide
 show(if _ then _ else _)=_;rw[if_pos this];rfl
def tI(h:S.e<=5)(f:d∈hA S.e)(i:Gw H=k9)(y)(x6 x7 x8 x9 x10 x13):execs (k8 69) rr (mS sc n K T (sv (a8 K T S)) (y0 (.t (S.j aj))) x6 x7 x8 x9 x10 (sv d) (sv y) x13) H=.p (mS sc n K T (sv (a8 K T S)) (y0 (.t (S.j aj))) x6 x7 x8 x9 x10 (sv d) (sv y) (sv (.u [.w (eL 9),.w [d]]))) H:=by obtain⟨a,c,j⟩:=Cv h d f;have e1:=Ed (K:=K) (T:=T) (x:=y) 65 a c i;have e2:=Em 68 9 H;have e2:call prog 69 "_law_class" [.v (.o 9)] H=.j (.j (eL 9)) H:=e2;have e:Gr .u (.l (eL 9)) (.j (eL 9)) H=y0 false:=vV (.w (eL 9)) rfl (by decide) H;have b:Gr .u (.l [d]) (.j [d]) H=y0 false:=vV (.w [d]) (by simp[a]) (by simp[j]) H;unfold rr;generalize a8 K T S=g at e1⊢;rw[za (τ1:=mS sc n K T (sv g) (y0 (.t (S.j aj))) x6 x7 x8 x9 x10 (sv d) (sv y) (sv (.u [.w (eL 9),.w [d]]))) (h1:=H) (by simp![e1])];rw[xa (by simp![ab,Xh,qg,e2,e,b,ak]),execs]
end
noncomputable def j7:Nat->Ss->Ss
|0,s=>s
|n+1,.j _ s=>j7 n s
|_,.p=>.p
def LR{S:List Sy}(g:bM n K T)(z:∀s∈S,s.y (K++T)/\s.j<=10)(o:S.e<=5)(u:0<S.e):∃H,execs (k8 69) (j7 7 cw.j) (mS sc n K T x4 (y0 (.t (S.j aj))) x6 u0 u0 u0 u0 u0 u0 u0) [ag ns i v]=.j (.b k9) H:=by
 obtain⟨f,v1,D,e1⟩:=zg 68 (h:=[ag ns i v]) (r:=0) rfl (m:=S.e) u (Nat.lt_of_le_of_lt ‹_› (by decide));have e1:call prog 69 "_law_draw" [.r 0,.i S.e] [ag ns i v]=.j (.i f) [ag ns i v1]:=e1;obtain⟨j,v2,l,e2⟩:=zg 68 (h:=[ag ns i v1]) (r:=0) rfl (m:=6) (by decide) (by decide);have e2:call prog 69 "_law_draw" [.r 0,.v (.o 6)] [ag ns i v1]=.j (.i j) [ag ns i v2]:=e2;obtain⟨c,e,a,y⟩:=Bg (sc:=sc) g z o (H:=[ag ns i v1]) rfl (f:=f) u x6 (Aa7 S.e) u0 u0 u0;have p:(hA S.e)[j]'l∈hA S.e:=Ai7 _;have k:aW (hA S.e) (j:Int)=y0 ((hA S.e)[j]'l):=by rw[Xf _ _ l,Aa6 l]
 generalize B:(hA S.e)[j]'l=d at p k;have t:=tI (sc:=sc) (n:=n) (K:=K) (T:=T) o p (H:=[ag ns i v2]) rfl (.n n) x6 (si f) c e a u0;have x:=tI (sc:=sc) (n:=n) (K:=K) (T:=T) o p (H:=[ag ns i v2]) rfl (.o 7) x6 (si f) c e a (sv (.u [.w (eL 9),.w [d]]));have q:((S.j aj).e:Int)=(S.e:Int):=by rw[Aa]
 refine⟨[ag ns i v2],?_⟩;simp only[cw,j7];rw[za (τ1:=mS sc n K T (sv (a8 K T S)) (y0 (.t (S.j aj))) x6 u0 u0 u0 u0 u0 u0 u0) (h1:=[ag ns i v]) (by simp![ak])];generalize a8 K T S=b at y t x⊢;have C:(0:Int)<=(S.e:Int)/\(S.e:Int)<=1000:=by lia
 rw[za (τ1:=mS sc n K T (sv b) (y0 (.t (S.j aj))) x6 (si f) u0 u0 u0 u0 u0 u0) (h1:=[ag ns i v1]) (by simp![Xc,q,ak,e1])];rw[za (τ1:=mS sc n K T (sv b) (y0 (.t (S.j aj))) x6 (si f) c e a u0 u0 u0) (h1:=[ag ns i v1]) (by rw[exec,show Gs (k8 69) (.ao (.bi .y (.a .v5))) (mS sc n K T (sv b) (y0 (.t (S.j aj))) x6 (si f) u0 u0 u0 u0 u0 u0) [ag ns i v1]=.j (aB (Aa7 S.e)) [ag ns i v1]by simp![Xc,q,ak];rw[if_pos (by rw[GL];lia),Ac9],R.ax];exact y)];rw[za (τ1:=mS sc n K T (sv b) (y0 (.t (S.j aj))) x6 (si f) c e a (sv d) u0 u0) (h1:=[ag ns i v2]) (by
  have le:eval (k8 69) (.w (.g (.x .sub (.o 0) (.o 1)) (.bi .y (.a .v5)) (.x .pow (.o 10) (.o 30)) (.C k9) .aw (.p [48]))) (mS sc n K T (sv b) (y0 (.t (S.j aj))) x6 (si f) c e a u0 u0 u0) [ag ns i v1]=.j (.j (hA S.e)) [ag ns i v1]:=by simp![Xc,q,ak,O8,we];rfl
  have A:d4 (.j (hA S.e)) (.i j) [ag ns i v2]=y0 d:=k;generalize E.lst _=X at le⊢;simp![le,e2,A,ak])]
 rw[za (τ1:=mS sc n K T (sv b) (y0 (.t (S.j aj))) x6 (si f) c e a (sv d) (sv (.o 7)) (sv (.u [.w (eL 9),.w [d]]))) (h1:=[ag ns i v2]) (by rw[exec,show Gs (k8 69) (.j (.w (.b .K (.o 7)))) (mS sc n K T (sv b) (y0 (.t (S.j aj))) x6 (si f) c e a (sv d) u0 u0) [ag ns i v2]=.j [.n n,.o 7] [ag ns i v2]by simp![],R.ax];rw[Wa (τ1:=mS sc n K T (sv b) (y0 (.t (S.j aj))) x6 (si f) c e a (sv d) (si n) u0) rfl t,Wa (τ1:=mS sc n K T (sv b) (y0 (.t (S.j aj))) x6 (si f) c e a (sv d) (sv (.o 7)) (sv (.u [.w (eL 9),.w [d]]))) rfl x,Xx])];rw[qa (w:=.b k9) (h1:=[ag ns i v2]) rfl]
def gQ(ns:List Int)(hl:ns.e<=63):∃h',call prog 70 "law" [.l (ns.j .o)] []=.j (.b true) h':=by
 suffices key:∃H,execs (k8 69) cw.j [y0 (.l (ns.j .o)),u0,u0,u0,u0,u0,u0,u0,u0,u0,u0,u0,u0,u0] []=.j (.b k9) H by obtain⟨H,e⟩:=key;rw[Gb (d:=cw) rfl _ _ _ rfl];show∃h',Gx 0 (execs _ cw.j [y0 (.l (ns.j .o)),u0,u0,u0,u0,u0,u0,u0,u0,u0,u0,u0,u0,u0] [])=_;rw[e];obtain⟨h',f1,f2⟩:=m6 (d:=.C k9) (h:=H) (n:=0) rfl (Af4 _) rfl;exact⟨h',f1⟩
 obtain⟨v0,e0⟩:=LL 68 ns hl [];obtain⟨n,K,T,v1,g,e1⟩:=HH 66 (h:=[ag ns 0 v0]) (r:=0) (i:=0) rfl;have e1:call prog 69 "_law_words" [.r 0] [ag ns 0 v0]=.j (.t [.n n,wD K T]) [ag ns 0 v1]:=e1;obtain⟨S,i2,v2,hS,lS,e2⟩:=NQ 61 g (M:=3) (by decide) hl (h:=[ag ns 0 v1]) (r:=0) (i:=0) rfl;have e2:call prog 69 "_law_theory" [.r 0,.v (wD K T),.v (.o 3)] [ag ns 0 v1]=.j (.v (a8 K T S)) [ag ns i2 v2]:=e2;obtain⟨v3,e3⟩:=sr 68 hl (h:=[ag ns i2 v2]) (r:=0) (i:=i2) rfl;have e3:call prog 69 "_law_turn" [.r 0] [ag ns i2 v2]=.j (.v .T) [ag ns (i2+1) v3]:=e3;have hN:(K++T).e<=8:=by rw[Aa5];have:=g.k4;have:=g.t4;lia
 have ad:=wB (K.j D.str) (T.j D.str) [ag ns (i2+1) v3] (by rw[Aa,Aa];have:=g.k4;have:=g.t4;lia);obtain⟨s,v4,w1,w2,e4⟩:=AL (N:=K++T) (.u rfl) hN 1 63 [ag ns (i2+1) v3] v3 (r:=0) (ns:=ns) (i:=i2+1) rfl;have e4:call prog 69 "_law_saying" [.r 0,.p (K.j .p++T.j .p),.v (.o 1)] [ag ns (i2+1) v3]=.j (.v (aj s)) [ag ns (i2+1) v4]:=by rw[←List.map_append];exact e4
 obtain⟨v5,e5⟩:=sr 68 hl (h:=[ag ns (i2+1) v4]) (r:=0) (i:=i2+1) rfl;have e5:call prog 69 "_law_turn" [.r 0] [ag ns (i2+1) v4]=.j (.v .T) [ag ns (i2+1+1) v5]:=e5;have hS1:∀s'∈S++[s],s'.y (K++T)/\s'.j<=9:=λs' hs=>by
  rcases Ac6.p hs with hs|hs
  .exact hS _ hs
  .rw[Ac4.p hs];exact⟨w1,(Nat.le_trans ‹_› (by decide))⟩
 have at2:GQ .j (.t (S.j aj)) (.t [aj s]) [ag ns (i2+1) v4]=.j (.t ((S++[s]).j aj)) [ag ns (i2+1) v4]:=by rw[Ad8];exact wB (S.j aj) [aj s] _ (by simp;exact Nat.le_trans ‹_› (by decide))
 have l4:(S++[s]).e<=4:=by simp;exact Nat.le_trans ‹_› (by decide)
 have l0:0<(S++[s]).e:=by simp
 generalize S++[s]=A at at2 hS1 l4 l0;obtain⟨c,v6,hc,e6⟩:=zg 68 (h:=[ag ns (i2+1+1) v5]) (r:=0) (m:=2) rfl (by decide) (by decide);have e6:call prog 69 "_law_draw" [.r 0,.v (.o 2)] [ag ns (i2+1+1) v5]=.j (.i c) [ag ns (i2+1+1) v6]:=e6;have sh:eval (k8 69) (.share (.j "_law_start" (.a .A))) [some (.l (ns.j .o)),none,none,none,none,none,none,none,none,none,none,none,none,none] []=.j (.r 0) [ag ns 0 v0]:=Ib (ws:=[.l (ns.j .o)]) (by simp![]) e0 (by show(Gf (ns.j .o)&&k9)=k9;rw[Wn _ (λ_=>rfl)];rfl);have en:∀(v:Int)(x:Option W)(B:List Sy),(∀s∈B,s.y (K++T)/\s.j<=10)->B.e<=5->0<B.e->exec (k8 69) (match j7 6 cw.j with|.j a _=>a|_=>.fb) (mS (.w (ns.j .o)) n K T (sv (a8 K T S)) (y0 (.t (A.j aj))) u0 u0 u0 u0 u0 u0 u0 u0) [ag ns (i2+1+1) v5]=.p (mS (.w (ns.j .o)) n K T (sv (a8 K T S)) (y0 (.t (B.j aj))) x u0 u0 u0 u0 u0 u0 u0) [ag ns (i2+1+1) v]->∃H,execs (k8 69) cw.j [y0 (.l (ns.j .o)),u0,u0,u0,u0,u0,u0,u0,u0,u0,u0,u0,u0,u0] []=.j (.b k9) H:=λv x B b1 b2 b3 ex=>by obtain⟨H,q⟩:=LR (sc:=.w (ns.j .o)) (ns:=ns) (i:=i2+1+1) (v:=v) (x4:=sv (a8 K T S)) (x6:=x) g b1 b2 b3;refine⟨H,?_⟩;simp only[cw,j7]at ex q⊢;rw[za (τ1:=[sv (.w (ns.j .o)),y0 (.r 0),u0,u0,u0,u0,u0,u0,u0,u0,u0,u0,u0,u0]) (h1:=[ag ns 0 v0]) (by generalize E.share _=X at sh⊢;simp![sh])];generalize D.lst (ns.j .o)=sc at ex q⊢;rw[za (τ1:=mS sc n K T u0 u0 u0 u0 u0 u0 u0 u0 u0 u0) (h1:=[ag ns 0 v1]) (by simp![e1])];rw[za (τ1:=mS sc n K T (sv (a8 K T S)) u0 u0 u0 u0 u0 u0 u0 u0 u0) (h1:=[ag ns i2 v2]) (by simp![e2])];rw[za (τ1:=mS sc n K T (sv (a8 K T S)) u0 u0 u0 u0 u0 u0 u0 u0 u0) (h1:=[ag ns (i2+1) v3]) (by simp![e3])];rw[za (τ1:=mS sc n K T (sv (a8 K T S)) (y0 (.t (A.j aj))) u0 u0 u0 u0 u0 u0 u0 u0) (h1:=[ag ns (i2+1) v4]) (by simp![ab,Xh,qg,ad,ak,tL,e4,at2])];rw[za (τ1:=mS sc n K T (sv (a8 K T S)) (y0 (.t (A.j aj))) u0 u0 u0 u0 u0 u0 u0 u0) (h1:=[ag ns (i2+1+1) v5]) (by simp![e5])];rw[za ex];exact q
 have z:Gr .j (.i c) (.v (.o 0)) [ag ns (i2+1+1) v6]=y0 (u9 (c=0)):=Zj c 0 _;have lL:((A.j aj).e:Int)=(A.e:Int):=by rw[Aa]
 by_cases q0:c=0
 .obtain⟨y,v7,hy,e7⟩:=zg 68 (h:=[ag ns (i2+1+1) v6]) (r:=0) rfl (m:=A.e) l0 (Nat.lt_of_le_of_lt ‹_› (by decide));have e7:call prog 69 "_law_draw" [.r 0,.i A.e] [ag ns (i2+1+1) v6]=.j (.i y) [ag ns (i2+1+1) v7]:=e7;obtain⟨o,v8,ho,e8⟩:=zg 68 (h:=[ag ns (i2+1+1) v7]) (r:=0) rfl (m:=2) (by decide) (by decide);have e8:call prog 69 "_law_draw" [.r 0,.v (.o 2)] [ag ns (i2+1+1) v7]=.j (.i o) [ag ns (i2+1+1) v8]:=e8;have a1:=m9 hy;have a0:aW (A.j aj) (0:Int)=y0 (aj A[0]):=m9 l0;obtain⟨p,hp1,hp2⟩:∃p:Sy,(p.y (K++T)/\p.j<=10)/\d4 (.j [aj A[y],.u [.p gm,aj A[y],aj A[0]]]) (.i o) [ag ns (i2+1+1) v8]=y0 (aj p):=by
   have g1:=hS1 _ (Ai7 hy);have g2:=hS1 _ (Ai7 l0);obtain rfl|rfl:o=0\/o=1:=by lia
   .exact⟨A[y],⟨g1.1,by lia⟩,rfl⟩
   .exact⟨.cE A[y] A[0],⟨⟨g1.1,g2.1⟩,by rw[Sy.dp];lia⟩,rfl⟩
  have at3:=wB (A.j aj) [aj p] [ag ns (i2+1+1) v8] (by simp;exact Nat.le_trans ‹_› (by decide));refine en v8 (sv (aj A[y])) (A++[p]) (λs hs=>?_) (by simp;exact Nat.le_trans ‹_› (by decide)) (by simp) ?_
  .rcases Ac6.p hs with hs|hs
   .have:=hS1 _ hs;exact⟨this.1,by lia⟩
   .rw[Ac4.p hs];exact hp1
  simp only[cw,j7];generalize a8 K T S=th;rw[Ad8];generalize A.j aj=L at lL a1 a0 at3⊢;refine(Qq (h1:=[ag ns (i2+1+1) v6]) (by simp![e6,z,ak,decide_eq_true q0])).j ?_;rw[za (τ1:=mS (.w (ns.j .o)) n K T (sv th) (y0 (.t L)) (sv (aj A[y])) u0 u0 u0 u0 u0 u0 u0) (h1:=[ag ns (i2+1+1) v7]) (by simp![Xc,lL,ak,e7,ab,a1])];rw[za (τ1:=mS (.w (ns.j .o)) n K T (sv th) (y0 (.t (L++[aj p]))) (sv (aj A[y])) u0 u0 u0 u0 u0 u0 u0) (h1:=[ag ns (i2+1+1) v8]) (by simp![ak,ab,a0,e8,hp2,at3]),execs];rfl
 .refine en v6 u0 A (λs hs=>⟨(hS1 s hs).1,by have:=(hS1 s hs).2;exact Nat.le_succ_of_le ‹_›⟩) (Nat.le_succ_of_le ‹_›) l0 ?_;simp only[cw,j7];exact(oI (by simp![e6,z,ak,decide_eq_false q0])).j rfl
end Lake.M
namespace Lake.MS
open PySem PyProof.Rows
noncomputable def EU:List String:=["is_whole","is_below","pairs_of","gathered","common","either","without","turned","joined","closed","same","every","value_of_name","made","counts","bounds","settled","not_told","and_told","or_told","in_told","count_told","told","fact_told","is_size","widths","bits","check_size","check_bits","world_of","places_of","is_tuple_of","names_in","needed_bits","how_many_set","found","matters","_law_start","_law_turn","_law_draw","_law_names","_law_words","_law_expression","_law_saying","_law_theory","_law_joined","_law_turned","_law_closed","_law_same","_law_two","_law_bounds","_law_many","_law_ruled","_law_within","_law_fact","_law_told","_law_whole","_law_spread","_law_seen","_law_is_world","_law_keeps","_law_open","_law_split","_law_walks","_law_shows","_law_classes","_law_class","_law_caught","law"]
noncomputable def NL:List String:=["WorldError","NoSize","NoPair","NoName","NoCode","NoText","Crowded","TooBig","NoWorld","NoRenaming","NoNumber","Broken","Kept","Unlike","NoRow","NoStand"]
def Lb:List String:=[]
def LG:List String:=["WorldError"]
def Oz:List String:=["_law_classes"]
noncomputable def OG:oR:=⟨[("Cases","words"),("Cases","sayings"),("Cases","size"),("Cases","places"),("Cases","whole"),("Search","cases"),("Search","needs")],[("Cases","world_of_code","Cases.world_of_code"),("Cases","truth","Cases.truth"),("Cases","bit_of","Cases.bit_of"),("Cases","is_shown","Cases.is_shown"),("Search","told_of_sayings","Search.told_of_sayings"),("Search","chosen_place","Search.chosen_place"),("Search","told_of_case","Search.told_of_case"),("Search","told_of_halves","Search.told_of_halves")],[("Cases","Cases.__init__"),("Search","Search.__init__")],["Cases.__init__","Cases.world_of_code","Cases.truth","Cases.bit_of","Cases.is_shown","Search.__init__","Search.told_of_sayings","Search.chosen_place","Search.told_of_case","Search.told_of_halves"],[("NoNumber","number")]⟩
noncomputable def Ec:List (String×List String):=[("_law_names",["_law_pack","_law_many_here","_law_letters","_law_first","_law_stem","_law_k","_law_at","_law_names_here","_law_name"])]
def CB:Cg:=⟨EU,NL,Lb,LG,OG,k9,Oz⟩
end Lake.MS
namespace PySem.W.Fast
def tw445226115352870701:=Nat
def tw5909194920605391320:=Nat
def tw10563672564184207613:=Nat
def tw4245632168973777515:=Nat
def tw12016322132003476596:=Nat
def tw52726330856246587:=Nat
def tw7422785432109699200:=Nat
def tw5983326674443476068:=Nat
def tw11324730319298163779:=Nat
def tw14962201160530501462:=Nat
def tw17484228884919650373:=Nat
def tw16870065308790455916:=Nat
def tw10295437449511557207:=Nat
def tw16610718894567662060:=Nat
def tw13794598078740302934:=Nat
def tw8885876535377384187:=Nat
def tw5682997927026794814:=Nat
def tw10637337714752180769:=Nat
def tw13102675115370810011:=Nat
def tw157522185475273885:=Nat
def tw10136815212403369777:=Nat
def tw15496634144501150928:=Nat
def tw8446963706885848019:=Nat
def tw8759745280426983403:=Nat
def tw15679746969428187916:=Nat
def tw13501290335287531328:=Nat
def tw2233172289322274206:=Nat
def tw16520218790290468812:=Nat
def tw10224801805904210876:=Nat
def tw2036271503458347129:=Nat
def tw18134594118187672069:=Nat
def tw17456148940407458321:=Nat
def tw14357876782831735396:=Nat
def tw1345354096512851128:=Nat
def tw1932345286319401747:=Nat
def tw16134034645626086215:=Nat
def tw15975650468421596030:=Nat
def tw882199103868058539:=Nat
def tw5575047161188700627:=Nat
def tw869389617195569994:=Nat
def tw4675418420578267569:=Nat
def tw14429172846970075788:=Nat
def tw10116316540983154508:=Nat
def tw16668992434252869395:=Nat
def tw17399169448964746775:=Nat
def tw1579591474613172363:=Nat
def tw779645705412686309:=Nat
def tw5768659760575010805:=Nat
def tw479664523009754577:=Nat
def tw6877974419391113481:=Nat
def tw9827513122981940564:=Nat
def tw6506752483423812743:=Nat
def tw549747609653614706:=Nat
def tw16115210181471646024:=Nat
def tw11546495203652571674:=Nat
def tw1001267603801968358:=Nat
def tw9289926492129120328:=Nat
def tw15925705639735795346:=Nat
def tw17651082397797716298:=Nat
def tw8770911260550327923:=Nat
def tw16345208989422744893:=Nat
def tw7342931197225716181:=Nat
def tw15488200918795352889:=Nat
def tw4862841358974385888:=Nat
def tw4968421220363068104:=Nat
def tw10949683002611322663:=Nat
def tw3133187037858278119:=Nat
def tw13664134886704503967:=Nat
def tw13496215426148523541:=Nat
def tw4273583579279158975:=Nat
def tw14300743816507039157:=Nat
def tw9695581178407359084:=Nat
def tw9590510836556971343:=Nat
def tw18416407386658533558:=Nat
def tw16983706820985947640:=Nat
def tw16248251612030339987:=Nat
def tw15599997829438901069:=Nat
def tw15322050593940651410:=Nat
def tw8999571909458122135:=Nat
def tw8079371031285321625:=Nat
def tw5700458702768877044:=Nat
def tw475208810113634777:=Nat
def tw4104216738062399740:=Nat
def tw16345849696839254616:=Nat
def tw11878114173623572141:=Nat
def tw11208488571606556512:=Nat
def tw1861229170799195565:=Nat
def tw13203974244835900937:=Nat
def tw12897018771432581604:=Nat
def tw11377337787139594200:=Nat
def tw5245884932636113924:=Nat
def tw14043190806301843362:=Nat
def tw9552943673228984008:=Nat
def tw16625955503660252888:=Nat
def tw12320206281130037743:=Nat
def tw4044946274086284437:=Nat
def tw2675595902714820919:=Nat
def tw15741926551283520106:=Nat
def tw12610828673275917280:=Nat
def tw13256068426353532983:=Nat
def tw9446101608560434032:=Nat
def tw7872081379346183318:=Nat
def tw4892566605428833598:=Nat
def tw6319478262470669980:=Nat
def tw18160458853251470045:=Nat
def tw14560494297248638308:=Nat
def tw12350136331979591136:=Nat
def tw94639101900468994:=Nat
def tw14618900367653185719:=Nat
def tw12721952522224520411:=Nat
def tw1365010982472887860:=Nat
def tw11592813120012836941:=Nat
def tw7627152764762943887:=Nat
def tw99757355019542450:=Nat
def tw4877342894829684466:=Nat
def tw17755761657990342960:=Nat
def tw13826328731600910791:=Nat
def tw12366144923619479359:=Nat
def tw10849334841995711045:=Nat
def tw2955288132518070069:=Nat
def tw13597962898985530125:=Nat
def tw11628267680950209714:=Nat
def tw3587281174596269932:=Nat
def tw6415175129835773936:=Nat
def tw17575844986022631173:=Nat
def tw11547428682237437450:=Nat
def tw10237018918840328467:=Nat
def tw10150878454859765203:=Nat
def tw8696708521390467754:=Nat
def tw599548806508255299:=Nat
def tw4039944707940683712:=Nat
def tw17526935819919972886:=Nat
def tw9697054071574484168:=Nat
def tw1879290706346450970:=Nat
def tw16944649078836077910:=Nat
def tw17301977500004741976:=Nat
def tw15454441369127644828:=Nat
def tw12683982087727065594:=Nat
def tw1271166810529438127:=Nat
def tw7526821203388850412:=Nat
def tw6532268455306586264:=Nat
def tw11649363107142297145:=Nat
def tw10221432473714669257:=Nat
def tw8630373463493806787:=Nat
def tw3340454794594127568:=Nat
def tw10637074750523527816:=Nat
def tw4485123314026612786:=Nat
def tw2745572779290488667:=Nat
def tw13423266344221783682:=Nat
def tw15843207004028863139:=Nat
def tw9223967148439535025:=Nat
def tw7713089203948262635:=Nat
def tw17997576769517578248:=Nat
def tw472367726388144481:=Nat
def tw17430120122796916498:=Nat
def tw1786680931429423270:=Nat
def tw16681304935730806660:=Nat
def tw5791996668009507832:=Nat
def tw5455136431536605762:=Nat
def tw15576398932162922505:=Nat
def tw1488513655899264174:=Nat
def tw1431423624936983284:=Nat
def tw8689200755929502502:=Nat
def tw7942038625026115193:=Nat
def tw3629630637781860325:=Nat
def tw10714969882809738135:=Nat
def tw8795083870786520184:=Nat
def tw3430104556939749817:=Nat
def tw2213073194026511274:=Nat
def tw17446589858440088573:=Nat
def tw10927708730812605027:=Nat
def tw8707339578577484490:=Nat
def tw869669682638522947:=Nat
def tw17249458873040473062:=Nat
def tw10374811710193277472:=Nat
def tw8051130598258652740:=Nat
def tw6503757311098437805:=Nat
def tw585165513279861044:=Nat
def tw3572949750198351707:=Nat
def tw4808548682643297313:=Nat
def tw11422891708042520830:=Nat
def tw9686023227100226323:=Nat
def tw7922918515203132721:=Nat
def tw7057206554956066604:=Nat
def tw2505955732579764246:=Nat
def tw2131107291381018458:=Nat
def tw1020513228265803647:=Nat
def tw9872242892216735017:=Nat
def tw14849398476668965982:=Nat
def tw723716767928670871:=Nat
def tw6686497371526571262:=Nat
def tw3613256958132650124:=Nat
def tw17616496262650688739:=Nat
def tw8405533085218927830:=Nat
def tw6482177766204660844:=Nat
def tw17904081469887791863:=Nat
def tw15813977540769739658:=Nat
def tw12269550516270107022:=Nat
def tw8054028597901220044:=Nat
def tw4409529661145368562:=Nat
def tw16504807471191593324:=Nat
def tw139961139499643362:=Nat
def tw8339106813387196312:=Nat
def tw6876947178569638852:=Nat
def tw1575445416098487828:=Nat
def tw13157607246512548705:=Nat
def tw733897706700312035:=Nat
def tw4867451066773845845:=Nat
def tw17939599483164693643:=Nat
def tw16967332904120135474:=Nat
def tw7582390295845141558:=Nat
def tw5855946736628148989:=Nat
def tw4963877017549348491:=Nat
def tw3837695277886972162:=Nat
def tw1520015501484649196:=Nat
def tw13707570698575500296:=Nat
def tw13634740042008527135:=Nat
def tw13230640710035728025:=Nat
def tw1272555452701112188:=Nat
def tw11608190488219158939:=Nat
def tw17260399713434214471:=Nat
def tw1178943220231528311:=Nat
def tw11048455668637934489:=Nat
def tw8278576024178188721:=Nat
def tw7635089721635550892:=Nat
def tw7564115567380259965:=Nat
def tw7424841250727745296:=Nat
def tw5356507290239044313:=Nat
def tw1589931992751144777:=Nat
def tw1486460250978543347:=Nat
def tw14594627237355815538:=Nat
def tw14438963725776643888:=Nat
def tw17691720219504664276:=Nat
def tw1735502950800300382:=Nat
def tw14543674273390847253:=Nat
def tw10031921275833794751:=Nat
def tw3625003125344313263:=Nat
def tw10328244808348519789:=Nat
def tw16149494325310750785:=Nat
def tw761268004955488801:=Nat
def tw7118565853202939086:=Nat
def tw590682560421331163:=Nat
def tw4865466836835333130:=Nat
def tw4177394416928255839:=Nat
def tw3946341708592359887:=Nat
def tw18185174033995669466:=Nat
def tw16834475335487010190:=Nat
def tw15346363297943370588:=Nat
def tw13876958207219576421:=Nat
def tw13037858729227185211:=Nat
def tw1205514625097248583:=Nat
def tw11122761333661697603:=Nat
def tw1535548776810495142:=Nat
def tw747437301776444411:=Nat
def tw16162949764039458845:=Nat
def tw15279600450681551953:=Nat
def tw943150937344502986:=Nat
def tw9394138235068798411:=Nat
def tw16542701673930596378:=Nat
def tw15841210808055126187:=Nat
def tw2470380695988453234:=Nat
def tw7230934598669518348:=Nat
def tw6286233241330332335:=Nat
def tw6212179266844831747:=Nat
def tw6103720322173122211:=Nat
def tw15466337254670629535:=Nat
def tw15191693504907950428:=Nat
def tw9933744820469277203:=Nat
def tw84715637422370700:=Nat
def tw6541275483431106460:=Nat
def tw552461513838030862:=Nat
def tw3953068948788178407:=Nat
def tw1648929587026363070:=Nat
def tw15869836111702906487:=Nat
def tw12339305034253052618:=Nat
def tw12135623571272631353:=Nat
def tw11940102338673408252:=Nat
def tw11507519236857421901:=Nat
def tw10618248408502427997:=Nat
def tw14107880134756254816:=Nat
def tw13132320295234778932:=Nat
def tw7121245366523830994:=Nat
def tw4112777888376941583:=Nat
def tw17637211560470396247:=Nat
def tw15415231999268768163:=Nat
def tw5649645424254191051:=Nat
def tw12805316354782295579:=Nat
def tw8321247491392226993:=Nat
def tw11346817497589004641:=Nat
def tw17515523658181524575:=Nat
def tw12748614544273462866:=Nat
def tw16104424950972706156:=Nat
def tw11083345924672624513:=Nat
def tw13800588169928001201:=Nat
def tw9664813709653010488:=Nat
def tw8993397291682488653:=Nat
def tw7272682348730207402:=Nat
def tw6046946306900722678:=Nat
def tw5947028197368981409:=Nat
def tw5659590815348239852:=Nat
def tw3832969317442767558:=Nat
def tw3753937967085109792:=Nat
def tw3414114050497823767:=Nat
def tw1712895759508591575:=Nat
def tw16167515497896708373:=Nat
def tw15232747786068608584:=Nat
def tw14043072783889511333:=Nat
def tw13548572765045967288:=Nat
def tw12359059207986295843:=Nat
def tw12094921052923121814:=Nat
def tw11550244555322113441:=Nat
def tw18326548662782960697:=Nat
def tw5719595705427250798:=Nat
def tw9925286732984201715:=Nat
def tw8745223497071943793:=Nat
def tw8104639873120311163:=Nat
def tw7255648393899301561:=Nat
def tw7175512756547587270:=Nat
def tw4477151009882997777:=Nat
def tw267444436033850645:=Nat
def tw2541878815071180749:=Nat
def tw2134548645496912155:=Nat
def tw2088660455461095522:=Nat
def tw2001511894564321184:=Nat
def tw16899796236617547794:=Nat
def tw14446300470675732363:=Nat
def tw12361701215205434434:=Nat
def tw11240942780926067148:=Nat
def tw10767806548421504513:=Nat
def tw8045467007286006291:=Nat
def tw2791626347170318105:=Nat
def tw2403701112175653300:=Nat
def tw2284290587699168610:=Nat
def tw17413296450812496428:=Nat
def tw15833045992202459203:=Nat
def tw15129158161864278218:=Nat
def tw10879821021919519601:=Nat
def tw1517501374849642261:=Nat
def tw7782047444931007841:=Nat
def tw15832013962943967678:=Nat
def tw4958022326982912957:=Nat
def tw18004752384075596271:=Nat
def tw17148245798053839548:=Nat
def tw16705571914511968375:=Nat
def tw14295880352229608447:=Nat
def tw13782602300296508948:=Nat
def tw922530491081667623:=Nat
def tw8820973503372752659:=Nat
def tw7354156853061059710:=Nat
def tw7049622639073410527:=Nat
def tw3445196950302520852:=Nat
def tw2363811990444924931:=Nat
def tw220698741390855709:=Nat
def tw15330058107478615439:=Nat
def tw14361893093177148598:=Nat
def tw13388051161725616803:=Nat
def tw11147384211328341132:=Nat
def tw8452267666732709981:=Nat
def tw8249443358362850588:=Nat
def tw8212833947753844153:=Nat
def tw8085465193586215534:=Nat
def tw7400485269263558356:=Nat
def tw6519030587470130739:=Nat
def tw3510249486655248418:=Nat
def tw2856604671274916061:=Nat
def tw2411476548848929610:=Nat
def tw16620369381345841412:=Nat
def tw9876477644706323685:=Nat
def tw9853664167913795879:=Nat
def tw9838593251314690395:=Nat
def tw9577237688856959244:=Nat
def tw9487544474528773821:=Nat
def tw9456123335433244664:=Nat
def tw9369448778690685313:=Nat
def tw9299083440562511596:=Nat
def tw9293350258293356769:=Nat
def tw9234683640417813969:=Nat
def tw9138477265718720674:=Nat
def tw9127462237742067142:=Nat
def tw9015893620838912490:=Nat
def tw8991970151683105064:=Nat
def tw8955418496973859010:=Nat
def tw8910183766646454410:=Nat
def tw8789868699730481462:=Nat
def tw8688431798123059051:=Nat
def tw8627650911569144138:=Nat
def tw8613967285529232277:=Nat
def tw8566560809992645013:=Nat
def tw8357795713840620766:=Nat
def tw8298749753641973900:=Nat
def tw8287799083113801656:=Nat
def tw8180487814152781680:=Nat
def tw8142638070568752292:=Nat
def tw8063060229097095029:=Nat
def tw7944261258106142481:=Nat
def tw7895875572418378370:=Nat
def tw7878387934646145613:=Nat
def tw7841062507743396793:=Nat
def tw7835812780811977332:=Nat
def tw7735647539866657523:=Nat
def tw7605244051135797075:=Nat
def tw7540224560181586139:=Nat
def tw7411897162832311788:=Nat
def tw6967666236852572052:=Nat
def tw6875266924137567856:=Nat
def tw6854500986252596864:=Nat
def tw679844643987386043:=Nat
def tw6765747272134968772:=Nat
def tw6611886350473663561:=Nat
def tw6556019076441741900:=Nat
def tw641266110374543876:=Nat
def tw6368432391661705176:=Nat
def tw6346552230387822173:=Nat
def tw620177851253532806:=Nat
def tw6199565532730239935:=Nat
def tw6142104041258483372:=Nat
def tw596518847060654276:=Nat
def tw5963971158796661543:=Nat
def tw593206286362737349:=Nat
def tw5855058035374511521:=Nat
def tw5756972191620147591:=Nat
def tw5709232512694512574:=Nat
def tw5484673223692424308:=Nat
def tw5432263886196499278:=Nat
def tw5426872821419644961:=Nat
def tw5239062195132925809:=Nat
def tw5166304102036551968:=Nat
def tw5162813742949488140:=Nat
def tw5078643598641891793:=Nat
def tw5054639779333533257:=Nat
def tw4819281316914004057:=Nat
def tw4720926335351282247:=Nat
def tw4698953641129420254:=Nat
def tw4646832277184178349:=Nat
def tw4568351906169114184:=Nat
def tw4424735963340411998:=Nat
def tw4407435640511384453:=Nat
def tw4404360482290045498:=Nat
def tw4353458191240764417:=Nat
def tw4286894138239581745:=Nat
def tw4279101122851449921:=Nat
def tw4198999393056492155:=Nat
def tw4097996008572037810:=Nat
def tw4033707323851488856:=Nat
def tw3790433599383322252:=Nat
def tw3694195018473677896:=Nat
def tw3634140330258170084:=Nat
def tw3594866560214088771:=Nat
def tw3528165827797467404:=Nat
def tw3405884864224448672:=Nat
def tw338169938225699314:=Nat
def tw3360849705500892097:=Nat
def tw2970850682901236581:=Nat
def tw2953681631101847245:=Nat
def tw2724293727479385850:=Nat
def tw2723464814833342467:=Nat
def tw2683736582955302136:=Nat
def tw2651920131350196901:=Nat
def tw257555904672909318:=Nat
def tw2546452138363677360:=Nat
def tw2436870508216475819:=Nat
def tw2223301032665311654:=Nat
def tw2136432028147699958:=Nat
def tw2035491325624302301:=Nat
def tw18409497753728194923:=Nat
def tw18367033983444208042:=Nat
def tw18242542991043593389:=Nat
def tw18097902876885167751:=Nat
def tw18038265347196472356:=Nat
def tw18011822581501761570:=Nat
def tw17949352107135800666:=Nat
def tw17901186575455135791:=Nat
def tw17838085490911866788:=Nat
def tw17808129927161903523:=Nat
def tw17747325128103289906:=Nat
def tw17733172913580705747:=Nat
def tw17675483030909269235:=Nat
def tw17642431975366761485:=Nat
def tw17446760695339471149:=Nat
def tw17440768046574707871:=Nat
def tw17429081812376351004:=Nat
def tw17408931289190909887:=Nat
def tw17391921716993155640:=Nat
def tw17391694528195851840:=Nat
def tw17351127288695378640:=Nat
def tw17281473292660775220:=Nat
def tw17243024460208020290:=Nat
def tw17171634718886275756:=Nat
def tw17161352523520923426:=Nat
def tw17142329880701400127:=Nat
def tw16913925735240202040:=Nat
def tw16784627900672974017:=Nat
def tw16566123854086287923:=Nat
def tw16519234140049235291:=Nat
def tw16474165771536824581:=Nat
def tw16284428421975214997:=Nat
def tw16166378225514901665:=Nat
def tw16129481141056028692:=Nat
def tw16069959248623070993:=Nat
def tw15998293976142780168:=Nat
def tw15887518198586757708:=Nat
def tw15842668584401167973:=Nat
def tw15821121440728573143:=Nat
def tw15812597319421280138:=Nat
def tw15691408156201754704:=Nat
def tw15615563277268945149:=Nat
def tw15517217103487454168:=Nat
def tw15514502817659642460:=Nat
def tw15506412065698283151:=Nat
def tw15353021606147489807:=Nat
def tw1514605046383357793:=Nat
def tw14697906645783384024:=Nat
def tw14588810533490965249:=Nat
def tw14579000965137388213:=Nat
def tw14232742947484807312:=Nat
def tw14177523280983854345:=Nat
def tw14095103244392176450:=Nat
def tw14094383481847982977:=Nat
def tw13825917266355479066:=Nat
def tw13689408558030377255:=Nat
def tw13656525235671823798:=Nat
def tw13610727814078986060:=Nat
def tw13558288591982196699:=Nat
def tw13457745579370708186:=Nat
def tw1344579487189688254:=Nat
def tw13394216469919788951:=Nat
def tw13250463380072937606:=Nat
def tw13223553023262973824:=Nat
def tw13105490535924075508:=Nat
def tw13089653732752900500:=Nat
def tw1301522704362157956:=Nat
def tw12884918185424398101:=Nat
def tw12703508955092288787:=Nat
def tw12682333255225173217:=Nat
def tw12660334587913552202:=Nat
def tw12007341270701576135:=Nat
def tw11982038706975138541:=Nat
def tw11975684507841986388:=Nat
def tw11971341698513155300:=Nat
def tw11965364792240798369:=Nat
def tw11955076811320325750:=Nat
def tw12783049786816703732:=Nat
def tw6914045085678933323:=Nat
def tw17909402215682123835:=Nat
def tw10272545494556515726:=Nat
def tw17262888687845319687:=Nat
def tw6185686125242304871:=Nat
def tw6894892322159777580:=Nat
def tw7328602127624049327:=Nat
def tw14930609635000907961:=Nat
def tw6174228663833523074:=Nat
def tw1774885616052385518:=Nat
def tw14637185202754787446:=Nat
def tw5471992026297002204:=Nat
def tw11185206978404313481:=Nat
def tw5853443873763356286:=Nat
def tw13979001189197791871:=Nat
def tw12233387560363161358:=Nat
def tw13964123736755053436:=Nat
def tw6142883060626597447:=Nat
def tw14195487173945680861:=Nat
def tw5535486074809444098:=Nat
def tw2437420446431050243:=Nat
def tw11267550067803128386:=Nat
def tw2426553139487113965:=Nat
def tw2926138136288788208:=Nat
def tw6625799161671735874:=Nat
def tw10909462195982480279:=Nat
def tw11057114566332906737:=Nat
def tw12399965623711152699:=Nat
def tw6179905280852348563:=Nat
def tw1458858228946062732:=Nat
def tw4685468796918913246:=Nat
def tw3871756226819912880:=Nat
def tw16021023525052431112:=Nat
def tw12095436782843309906:=Nat
def tw6571456839330573313:=Nat
def tw13153343370279176356:=Nat
def tw8161351338531571618:=Nat
def tw4455321796189029191:=Nat
def tw10033329756361800954:=Nat
def tw2532106356952766169:=Nat
def tw8287040872646205464:=Nat
def tw1419573376559064883:=Nat
def tw10611471895490932715:=Nat
def tw13867006111448544834:=Nat
def tw259891766264484564:=Nat
def tw825577497646287728:=Nat
def tw15171272600625836524:=Nat
def tw3876041773136666374:=Nat
def tw6417938911325821976:=Nat
def tw14371367128039768890:=Nat
def tw16530416344115072875:=Nat
def tw12058269041581196470:=Nat
def tw4515295460543937015:=Nat
def tw15359263411475308957:=Nat
def tw14510472565180862423:=Nat
def tw4354634365321333847:=Nat
def tw3312602983591387829:=Nat
def tw2575798115758230486:=Nat
def tw8556729674657578014:=Nat
def tw13568959906290346480:=Nat
def tw10578369378111512169:=Nat
def tw12069711540037188056:=Nat
def tw2056249015441668251:=Nat
def tw17328774526449726790:=Nat
def tw13326093661428193970:=Nat
def tw12509049182572667308:=Nat
def tw18438456627554530197:=Nat
def tw7442999483143404186:=Nat
def tw8543478740697251102:=Nat
def tw40983110856196720:=Nat
def tw5336674125326154598:=Nat
def tw16341126861419867295:=Nat
def tw6020480987072009545:=Nat
def tw17103339067581990078:=Nat
def tw12224947666420703047:=Nat
def tw5430334219262365103:=Nat
def tw263417700471885153:=Nat
def tw13398747951891689149:=Nat
def tw11829586440260905756:=Nat
def tw3881980237778255097:=Nat
def tw1956651479996531989:=Nat
def tw14111601791535041732:=Nat
def tw4860035143976713128:=Nat
def tw9427181049398380114:=Nat
def tw1811535402896864103:=Nat
def tw13019680479128215643:=Nat
def tw10139832556931694669:=Nat
def tw4807869864170989683:=Nat
def tw6583248385107364574:=Nat
def tw9164617548572908532:=Nat
def tw10672402182173356111:=Nat
def tw14703188016854782912:=Nat
def tw5388071185193329473:=Nat
def tw2768099285895265436:=Nat
def tw8321565252399797937:=Nat
def tw171914690192631556:=Nat
def tw11911270056190899630:=Nat
def tw15757575584846665266:=Nat
def tw9678652720949674740:=Nat
def tw13998509487159589888:=Nat
def tw8140445828723680622:=Nat
def tw7655925138952454911:=Nat
def tw17668251796438782411:=Nat
def tw340453783311410432:=Nat
def tw4486772003690788714:=Nat
def tw4760401568469400792:=Nat
def tw17727906307456965607:=Nat
def tw1424047396998234766:=Nat
def tw2472067195111852041:=Nat
def tw10858898303020615309:=Nat
def tw6074678216049117868:=Nat
def tw17881528172742325724:=Nat
def tw4532475071918186719:=Nat
def tw17655730393708885919:=Nat
def tw5188619972170737363:=Nat
def tw2711847807610355857:=Nat
def tw12196854839249509283:=Nat
def tw465441202944706577:=Nat
def tw3063469213726511040:=Nat
def tw9033626414393657933:=Nat
def tw6402177069158033571:=Nat
def tw6104459149815559833:=Nat
def tw7486594438410037801:=Nat
def tw10314998900721655173:=Nat
def tw6601658997316056690:=Nat
def tw7125608749452914233:=Nat
def tw4355080657061383133:=Nat
def tw809601485891412198:=Nat
def tw10291238640457062472:=Nat
def tw1759613253053365325:=Nat
def tw132320309221027534:=Nat
def tw1695010245340655134:=Nat
def tw1714897266085717223:=Nat
def tw16785852276600413804:=Nat
def tw15242314166461083750:=Nat
def tw14559964049993219824:=Nat
def tw17987217453431924968:=Nat
def tw12935446021968525180:=Nat
def tw2779080802172643558:=Nat
def tw4772157696045884118:=Nat
def tw18311328554064816165:=Nat
def tw5976310554956051067:=Nat
def tw7358472497742363130:=Nat
def tw16142720938793527844:=Nat
def tw3026005318232911109:=Nat
def tw5501601495381863054:=Nat
def tw12832573423074027203:=Nat
def tw11800030974500460474:=Nat
def tw770369619192096803:=Nat
def tw8199734034175275379:=Nat
def tw10138739005746923447:=Nat
def tw3331837615387133096:=Nat
def tw16290132411101860873:=Nat
def tw9214675444613403157:=Nat
def tw8073463230777940963:=Nat
def tw850849917603796969:=Nat
def tw4461013570619741617:=Nat
def tw14054763915095215857:=Nat
def tw13473645007613624667:=Nat
def tw3588806121295360035:=Nat
def tw17499434878051519134:=Nat
def tw2131699305039954362:=Nat
def tw823271778805440290:=Nat
def tw829586394353650156:=Nat
def tw9178462907400222977:=Nat
def tw10010833724158434141:=Nat
def tw4126272722741356585:=Nat
def tw13422319179994387640:=Nat
def tw8881492294168030362:=Nat
def tw7762181103049385371:=Nat
def tw6950826821407634678:=Nat
def tw12682145188166254484:=Nat
def tw16015542961508687815:=Nat
def tw9705590036640604682:=Nat
def tw1414005983129223925:=Nat
def tw1836705767494168487:=Nat
def tw14324096488742253820:=Nat
def tw4468168559577442678:=Nat
def tw14042025117066115082:=Nat
def tw5195037766343130515:=Nat
def tw8030250269660667547:=Nat
def tw54965498343194690:=Nat
def tw4927567978093507445:=Nat
def tw826971500430443004:=Nat
def tw1508657190403969892:=Nat
def tw14856176038977681990:=Nat
def tw9162789807053084545:=Nat
def tw3262747155910236464:=Nat
def tw7229929688645013080:=Nat
def tw15386751801294539102:=Nat
def tw3231542313411729809:=Nat
def tw12530422883229527543:=Nat
def tw17788310920238016063:=Nat
def tw15731585536615545818:=Nat
def tw12216442817193327144:=Nat
def tw1699344207215252805:=Nat
def tw16666686751997838582:=Nat
def tw3781080115903822114:=Nat
def tw5369242579158365580:=Nat
def tw615344272845029152:=Nat
def tw2778047537079863681:=Nat
def tw17277046175236715260:=Nat
def tw13310400383394059002:=Nat
def tw11512959570475281589:=Nat
def tw7111581672933832046:=Nat
def tw6276380489587712372:=Nat
end PySem.W.Fast
open PySem PySem.W PyProof.Rows
set_option maxRecDepth 100000 in
set_option maxHeartbeats 0 in
theorem PySem.Challenge.cw_worldfind_k62_what_matters_holds : PySem.Challenge.rw_worldfind_k62_what_matters.Holds := by
 w_on;o_law;k_head;(case hw=>w_witness2)
 k_fill
 refine Lake.MS.walk (l:=PySem.Challenge.rw_worldfind_k62_what_matters) (x:="_law_script") (2*70+3) ⟨fun _=>rfl,by decide,by decide⟩ rfl rfl (fun w h Y=>PySem.W.kIn_of Y) ?F
 case F=>
  intro w mg fa h KX G hmg;exact Lake.MS.ll Lake.M.prog Lake.MS.CB Lake.MS.Ec 69 KX G hmg (by kernel_rfl) Lake.M.gQ
