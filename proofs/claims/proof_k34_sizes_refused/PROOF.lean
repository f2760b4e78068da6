import PyProof.Rows.All
import Wide.All
import OpenK.AllK
import Wide.FinOn
import Lean
import PyProof.EqAt
import PyProof.EqKinds
import PyProof.TupleCall
import PyProof.NeKinds
import PyProof.NsDelKeeps
import KE.KRevSl
import PyProof.StrWalks
import PyProof.ConsumeWalk
import PyProof.SumWalk
import PyProof.Rows.SortStr
import PyProof.SumWalkG
import PyProof.StrCalls2
import PyProof.StrLawsIdx
import PyProof.WalkInts
import PyProof.StrOps2
import PyProof.SliceStr2
import PyProof.Draws
import PyProof.EnumMake
import PyProof.Rows.SetFrom
import PyProof.SetRoads
import PyProof.WalksMore
import PyProof.ListRange
import PyProof.TupleOfSeq
import PyProof.TupleOfGen
import PyProof.Rows.SortShell
import PyProof.ZipIter
import PyProof.DictStraight
import PyProof.TupleKey
import PyProof.DictRoadsH
import PyProof.DictTruth
import PyProof.Rows.TupTab
import KE.KTabLook
import PyProof.FString
import PyProof.CallStr
import KE.KIntText
import PyProof.Rows.Range3
import PyProof.DictRoads
import PyProof.Rows.StrNews2
import KE.KDictOf
import KE.KMinKey
import PyProof.AttrMissHeap
import PyProof.FactsAll.zip
import PySem.Challenge.RW_worldfind_k34_sizes_refused
set_option Elab.async false
set_option linter.all false
set_option maxRecDepth 100000
set_option compiler.extract_closed false
local macro_rules|`(tactic|omega)=>`(tactic|lia)
set_option genSizeOf false
set_option bootstrap.genMatcherCode false
noncomputable section
open List renaming length_map→Aa,replicate→Aa1,mem_cons_of_mem→Aa3,mem_cons_self→Aa4,mem_append_right→Aa5,length_cons→Aa7,getElem?_eq_some_iff→Aa8,length_append→Ab,getElem?_eq_getElem→Ab0,range→Ab1,size_toArray→Ab2,map_cons→Ab4,mem_cons→Ab7,lookup_cons→Ab9,mem_map→Ac0,mem_range→Ac1,append_nil→Ac3,getD_eq_getElem?_getD→Ac4,mem_singleton→Ac5,getElem?_set_self→Ac6,mem_of_getElem?→Ac7,mem_append_left→Ac8,getElem?_map→Ac9,length_replicate→Ad0,mem_append→Ad1,getElem?_set_ne→Ad2,getElem?_append_right→Ad3,getElem?_append_left→Ad4,map_map→Ad7,length_take→Ad8,replicate_succ→Ad9,any_eq_true→Ae1,map_append→Ae5,length_set→Ae6,length_drop→Ae8,length_nil→Af3,not_mem_nil→Af5,map_nil→Af6,isEmpty_iff→Af7,any_cons→Ag,nil_append→Ag1,eq_nil_of_length_eq_zero→Ag4,append_assoc→Ag7,lookup→Ah1,nodup_cons→Ah5,foldl_cons→Ah6,getElem?_replicate→Ah8,length_range→Ai5,flatMap_cons→Ai6,getElem_of_mem→Ai9,filterMap_cons→Aj,sum_cons→Aj2,pairwise_cons→Aj3,mem_filter→Aj4,take_of_length_le→Aj9,range_succ_eq_map→Ak,any_eq_false→Ak2,set_set→Ak5,length_filter_le→Ak6,contains_iff_mem→Ak7,all_eq_true→Ak9,mem_of_mem_take→Al,map_take→Al0,all_cons→Al1,getElem?_take_of_lt→Am1,filter_cons→Am7,forIn_cons→An,forIn_nil→An8,range'→Ao,mem_map_of_mem→Ao0,length→Ao1,mem_replicate→Ao4,mem_filterMap→Ao5,nodup_append→Ao9,flatten_cons→Ap,take_length→Ap5,range'_succ→Ap6,cons_append→Ap7
open Bool renaming and_eq_true→Aa0,false_ne_true→Ab8,true_and→Ae,false_and→Ae2,and_false→Ae3,or_eq_true→Ae7,not_eq_true'→Af1,false_eq_true→Ai2,eq_false_iff→Ak3,not_true→Al2,eq_iff_iff→An0,and_eq_false_iff→An1,not_false→An9,or_true→Ap2,not_eq_true→Ap8,noConfusion→Ap9
open PySem.Heap renaming get?_push_of_some→Aa2,lt_size→Ab5,get?_push_size→Ac,size_push→Af2,SameBut→Ag6,get?_update_self→Ai3,get?_update_other→Ak0,FlyingW→Al8,get?_update_ne→Ao2
open PySem.W renaming Frag→Aa6,kia_one→Ae0,keepIn→Ah,emptyDict→Ah2,instObj→Aj0,findIn→Aj8,plainGet→Am0,cellsFrom_some→Am2,lookIn→Am8,kitOne→Am9,plainGet_of→An2,callWith_K→An6,kitx_list→Ao3
open Nat renaming le_refl→Aa9,lt_of_lt_of_le→Ab3,le_trans→Ab6,ne_of_lt→Ac2,pow_le_pow_right→Ad6,lt_succ_self→Ae9,zero_le→Af,le_succ→Af0,two_pow_pos→Af4,le_of_lt→Af9,testBit_or→Ag0,not_lt_zero→Ag2,zero_testBit→Ag5,testBit_two_pow→Ag8,mul_le_mul→Ah3,testBit_mod_two_pow→Ah9,testBit_div_two_pow→Ai,lt_irrefl→Ai0,testBit_and→Ai4,eq_of_testBit_eq→Ai8,ne_of_gt→Aj1,min_eq_left→Aj5,lt_of_le_of_lt→Aj6,testBit_lt_two_pow→Ak1,and_two_pow_sub_one_eq_mod→Ak8,mod_lt→Al3,testBit_two_pow_sub_one→Al4,div_add_mod→Al5,mul_comm→Am,testBit_two_pow_self→Am4,or_lt_two_pow→Am5,add_sub_cancel_left→Am6,sub_self→An3,not_le→An5,mul_le_mul_right→An7,succ→Ao6,not_lt→Ap0,le_succ_of_le→Ap1,zero_add→Ap3,le_of_eq→Ap4
open Int renaming toNat_natCast→Ad,toNat_of_nonneg→Ai1,eq_ofNat_of_zero_le→Aj7,natCast_mul→Al6,fdiv_eq_ediv_of_nonneg→Al7,emod_nonneg→An4,natCast_nonneg→Ao7,emod_lt_of_pos→Ao8
open Option renaming some→Ad5,bind_eq_some_iff→Ae4,map_eq_some_iff→Af8,bind_some→Ag3,isNone_iff_eq_none→Ah0,isSome_iff_exists→Ah4,getD_some→Ak4,getD_none→Am3
open Classical renaming choose_spec→Ag9,choose→Ai7,propDecidable→Al9
open Array renaming length_toList→Ah7
open Decidable renaming decide→u9
open Option renaming some→y0,none→u0
open Bool renaming true→k9,false→y9
namespace L2
open PySem PySem.Spec PyProof.Rows
abbrev cN:=Sum Int Str
def m1:cN->Value->Bool
|.inl k,v=>Value.isInt k v
|.inr x,v=>Value.isStrOf x v
def L1(w:World):cN->Int
|.inl k=>hashInt k
|.inr x=>hashStr w x
def Xc:∀{k}{v},m1 k v=k9->(∃i t,k=Sum.inl i/\v=Value.int i t)\/(∃x t,k=Sum.inr x/\v=Value.str x t)
|.inl i,v,h=>by obtain⟨t,e⟩:=Value.isInt_shape h;exact .inl ⟨i,t,rfl,e⟩
|.inr x,v,h=>by obtain⟨t,e⟩:=Value.isStrOf_shape h;exact .inr ⟨x,t,rfl,e⟩
def DW(x)(t):m1 (.inr x) (.str x t)=true:=by simp[m1,Value.isStrOf]
def Iu(a b):u9 ((Sum.inl a:cN)=Sum.inl b)=(a==b):=by grind
def ME(a b):u9 ((Sum.inr a:cN)=Sum.inr b)=u9 (a=b):=by simp
def CN(a)(b):u9 ((Sum.inl a:cN)=Sum.inr b)=false:=decide_eq_false (λq=>nomatch q)
def BQ(a)(b):u9 ((Sum.inr a:cN)=Sum.inl b)=false:=decide_eq_false (λq=>nomatch q)
noncomputable def xl(prog:Program)(w:World):PySem.KeyKind prog w cN where
 is:=m1
 hash:=L1 w
 inj:=λv a b g d=>by
  rcases Xc g with⟨i,t,rfl,rfl⟩|⟨x,t,rfl,rfl⟩
  .rcases Xc d with⟨j,u,rfl,e⟩|⟨y,u,rfl,e⟩
   .injection e with e1 _;rw[e1]
   .exact nomatch e
  .rcases Xc d with⟨j,u,rfl,e⟩|⟨y,u,rfl,e⟩
   .exact nomatch e
   .injection e with e1 _;rw[e1]
 byValue:=λk v h=>by
  rcases Xc h with⟨i,t,rfl,rfl⟩|⟨x,t,rfl,rfl⟩<;>rfl
 pyHash:=λc h=>by
  rcases Xc c with⟨i,t,rfl,rfl⟩|⟨x,t,rfl,rfl⟩
  .exact wpAny_pyHash_int h
  .exact wpAny_pyHash_str h
 eqBool:=λf c h=>by
  rcases Xc f with⟨i,t,rfl,rfl⟩|⟨x,t,rfl,rfl⟩
  .rcases Xc c with⟨j,u,rfl,rfl⟩|⟨y,u,rfl,rfl⟩
   .rw[Iu]at h;exact wpAny_eqBool_int h
   .rw[CN]at h;exact SeqAt.EqAt.int_str i t y u _ _ _ _ h
  .rcases Xc c with⟨j,u,rfl,rfl⟩|⟨y,u,rfl,rfl⟩
   .rw[BQ]at h;exact SeqAt.EqAt.str_int x t j u _ _ _ _ h
   .rw[ME]at h;exact wpAny_eqBool_str h
 «strs»:=λk x t v h=>by
  rcases Xc h with⟨i,u,rfl,e⟩|⟨y,u,rfl,e⟩
  .exact nomatch e
  .injection e with e1 _
   subst e1;cases v<;>rfl
def Zn(prog)(w)(x)(t):(xl prog w).is (.inr x) (.str x t)=true:=DW x t
inductive V where
|ak|bl (b:Bool)|int (i:Int)|str (x:Str)|ke (b:Array UInt8)|iI (b:UInt64)|ref (a:Addr)|ty (n:String)
 deriving DecidableEq
def RelV:V->Value->Prop
|.ak,u=>u=Value.none
|.bl b,u=>u=Value.bool b
|.int i,u=>∃t,u=Value.int i t
|.str x,u=>∃t,u=Value.str x t
|.ke b,u=>∃t,u=Value.bytes b t
|.iI b,u=>∃t,u=Value.float b t
|.ref a,u=>u=Value.ref a
|.ty n,u=>u=Value.type n
abbrev Vals:List V->List Value->Prop:=Paired RelV
theorem Vals.length (r:Vals xs us):xs.length=us.length:=Paired.length r
theorem Vals.get:∀{xs}{us}{i:Nat}{x},Vals xs us->xs[i]?=y0 x->∃u,us[i]?=y0 u/\RelV x u
|_,_,_,_,.nil,e=>by simp at e
|_,_,0,_,.cons r _,e=>by simp at e;subst e;exact⟨_,rfl,r⟩
|_,_,i+1,x,.cons _ t,e=>by obtain⟨u,a,b⟩:=Vals.get t (by simpa using e);exact⟨u,by simpa using a,b⟩
theorem Vals.set (r:RelV x u):∀{xs}{us} i,Vals xs us->Vals (xs.set i x) (us.set i u)
|_,_,_,.nil=>.nil
|_,_,0,.cons _ t=>.cons r t
|_,_,i+1,.cons q t=>.cons q (Vals.set r i t)
theorem Vals.append:∀{xs ys}{us ws},Vals xs us->Vals ys ws->Vals (xs++ys) (us++ws)
|_,_,_,_,.nil,s=>s
|_,_,_,_,.cons r t,s=>.cons r (Vals.append t s)
theorem Vals.take:∀{xs}{us}(n),Vals xs us->Vals (xs.take n) (us.take n)
|_,_,0,_=>.nil
|_,_,_+1,.nil=>.nil
|_,_,n+1,.cons r t=>.cons r (Vals.take n t)
theorem Vals.drop:∀{xs}{us}(n),Vals xs us->Vals (xs.drop n) (us.drop n)
|_,_,0,r=>r
|_,_,_+1,.nil=>.nil
|_,_,n+1,.cons _ t=>Vals.drop n t
def bW:Option V->Option Value->Prop
|some v,y0 u=>RelV v u
|none,none=>True
|_,_=>False
def KV{a:Type}:List (a×V)->List (a×Value)->Prop:=Paired λ(p:a×V)(q:a×Value)=>p.1=q.1/\RelV p.2 q.2
def kV:cN->V
|.inl i=>.int i
|.inr x=>.str x
inductive HO where
|lst (xs:List V)
|tup (xs:List V)
|dK (kvs:List (cN×V))|dT (kvs:List (List cN×V))
|set (S:Int->Bool)(n:Nat)
|ins (C dx:Addr)(fs:List (Str×V))
|own (x:Addr)
|xd (fs:List (Str×V))
|met (f x:Addr)
|iB (lo hi:Int)
|eA (o:Obj)(u:HO)
|iD (ps:Array Value)
|ext (φ:Heap->Prop)
abbrev Hp:=Addr->Option HO
def aJ(H:Hp)(a:Addr)(o:HO):Hp:=λb=>if b=a then y0 o else H b
def zb:aJ H a o a=y0 o:=by unfold aJ;rw[if_pos rfl]
def ja(h:b≠a):aJ H a o b=H b:=by unfold aJ;rw[if_neg h]
def Xa{H:Hp}(h:H a=y0 o)(h':H b=u0):a≠b:=by intro e;subst e;rw[h]at h';cases h'
def dz(h:Heap)(a:Addr)(b:Array Value):Prop:=∃o,h.get? a=some o/\o.cls=.type "tuple"/\o.dict=none/\∃n,o.data=.seq b n
def dz.is (p:dz h a items):IsTup h a items:=let⟨o,e,c,_,n,d⟩:=p;⟨o,e,c,n,d⟩
theorem dz.lt (p:dz h a items):a<h.objs.size:=p.is.lt
def dz.new (h:Heap)(items):dz (h.push {cls:=.type "tuple",data:=.seq items}) h.objs.size items:=⟨_,Heap.get?_push_size _ rfl,rfl,rfl,_,rfl⟩
section
variable(P:Program)(w:World)
def aN(H:Hp)(h:Heap)(a:Addr):HO->Prop
|.lst xs=>xs.length<=sizeLine/\∃(b:List Value)(n:Nat),Vals xs b/\h.get? a=y0 {cls:=.type "list",data:=.seq b.toArray n}
|.tup xs=>xs.length<=sizeLine/\∃b:List Value,Vals xs b/\dz h a b.toArray
|.dK kvs=>kvs.length<=sizeLine/\(a==sysModules)=y9/\∃d,KV kvs d/\h.DictOf (xl P w) a d
|.dT kvs=>kvs.length<=sizeLine/\(a==sysModules)=y9/\∃xs:List (List cN×Addr×Value),
  Paired (λ(p:List cN×V)(q:List cN×Addr×Value)=>p.1=q.1/\H q.2.1=y0 (.tup (p.1.map kV))/\RelV p.2 q.2.2) kvs xs∧
  ∃o es e,h.get? a=y0 o/\o.ExactDict/\o.data=.dict es e/\es.toList=xs.map (entryOfKey (tupleKind (xl P w)))/\(xs.map (·.1)).Nodup
|.set S n=>h.SetOf (intKind P w) a S n
|.ins C dx fs=>H dx=y0 (.own a)/\fs.length<=1000/\dx≠a/\h.get? a=y0 (Aj0 C dx)∧
  ∃mA,h.Ns1 dx mA/\(∀f,bW (fs.lookup f) (mA f))/\PySem.Within mA (fs.map (·.1))
|.own _=>∃o,h.get? a=y0 o
|.xd fs=>∃mA,h.Ns1 a mA/\∀f,bW (fs.lookup f) (mA f)
|.iB lo hi=>∃t u v,h.get? a=y0 {cls:=.type "range",data:=.fields #[.int lo t,.int hi u,.int 1 v]}
|.eA o u=>h.get? a=y0 o/\aN H h a u
|.iD ps=>h.get? a=y0 {cls:=.none,data:=.fields ps}
|.met f x=>h.get? a=y0 (PySem.W.methodObj (.ref f) (.ref x))
|.ext c=>c h/\(∃o,h.get? a=y0 o)/\∀h1 h2:Heap,c h1->(∀o,h1.get? a=y0 o->h2.get? a=y0 o)->c h2
def c8(H:Hp)(h:Heap):Prop:=∀a o,H a=y0 o->aN P w H h a o
end
section
variable{P:Program}{w:World}{H H':Hp}{h h':Heap}{a:Addr}{o:HO}
theorem aN.lt (x:aN P w H h a o):a<h.objs.size:=by
 cases o with
|lst c=>obtain⟨_,_,_,_,e⟩:=x;exact Ab5 e
|tup c=>obtain⟨_,_,_,p⟩:=x;exact p.lt
|dK b=>obtain⟨_,_,_,_,o,_,_,e,_⟩:=x;exact Ab5 e
|dT b=>obtain⟨_,_,_,_,o,_,_,e,_⟩:=x;exact Ab5 e
|set S n=>obtain⟨o,_,_,_,e,_⟩:=x;exact Ab5 e
|ins C j fs=>obtain⟨_,_,_,e,_⟩:=x;exact Ab5 e
|own y=>obtain⟨_,e⟩:=x;exact Ab5 e
|xd fs=>obtain⟨_,⟨_,_,_,e,_⟩,_⟩:=x;exact Ab5 e
|iB g i=>obtain⟨_,_,_,e⟩:=x;exact Ab5 e
|eA l u=>obtain⟨e,_⟩:=x;exact Ab5 e
|iD k=>exact Ab5 (x)
|met f y=>exact Ab5 (x)
|ext d=>obtain⟨_,⟨_,e⟩,_⟩:=x;exact Ab5 e
theorem Paired.me:∀{j}{L},Paired F j L->(∀a b,F a b->G a b)->Paired G j L
|_,_,.nil,_=>.nil
|_,_,.cons r t,f=>.cons (f _ _ r) (Paired.me t f)
def aN.cD (x:aN P w H h a o)(k:∀b u,(b=a\/H b=y0 (.own a))->h.get? b=y0 u->h'.get? b=y0 u)
 (E:∀b,H b=y0 (.own a)->H' b=y0 (.own a))(F:∀b xs,H b=y0 (.tup xs)->H' b=y0 (.tup xs)):aN P w H' h' a o:=by
 induction o with
|lst xs=>obtain⟨z,l,n,r,e⟩:=x;exact⟨z,l,n,r,k _ _ (.inl rfl) e⟩
|tup xs=>obtain⟨z,l,r,g,e,c⟩:=x;exact⟨z,l,r,g,k _ _ (.inl rfl) e,c⟩
|dK A=>obtain⟨z,y,D,r,g,i,j,e,c⟩:=x;exact⟨z,y,D,r,g,i,j,k _ _ (.inl rfl) e,c⟩
|dT A=>obtain⟨z,y,xs,r,g,i,j,e,c⟩:=x;exact⟨z,y,xs,Paired.me r λp q z=>⟨z.1,F _ _ z.2.1,z.2.2⟩,g,i,j,k _ _ (.inl rfl) e,c⟩
|set S n=>obtain⟨g,i,j,t,e,c⟩:=x;exact⟨g,i,j,t,k _ _ (.inl rfl) e,c⟩
|ins C L fs=>obtain⟨d,z,ne,e,s,⟨m,i,j,e2,c⟩,r⟩:=x;exact⟨E _ d,z,ne,k _ _ (.inl rfl) e,s,⟨m,i,j,k _ _ (.inr d) e2,c⟩,r⟩
|own y=>obtain⟨g,e⟩:=x;exact⟨g,k _ _ (.inl rfl) e⟩
|xd fs=>obtain⟨s,⟨m,i,j,e,c⟩,r⟩:=x;exact⟨s,⟨m,i,j,k _ _ (.inl rfl) e,c⟩,r⟩
|iB J K=>obtain⟨t,u,v,e⟩:=x;exact⟨t,u,v,k _ _ (.inl rfl) e⟩
|eA g u G=>obtain⟨e,q⟩:=x;exact⟨k _ _ (.inl rfl) e,G q⟩
|iD M=>have e:=x;exact k a _ (.inl rfl) e
|met f y=>have e:=x;exact k a _ (.inl rfl) e
|ext I=>obtain⟨p,⟨o,e⟩,B⟩:=x;exact⟨B _ _ p λo q=>k _ _ (.inl rfl) q,⟨o,k _ _ (.inl rfl) e⟩,B⟩
theorem c8.lt (x:c8 P w H h)(e:H a=y0 o):a<h.objs.size:=(x a o e).lt
def c8.fresh (x:c8 P w H h)(e:h.objs.size<=a):H a=none:=by
 cases q:H a with
|none=>rfl
|some u=>exact absurd (Ab3 (x.lt q) e) (Ai0 _)
def c8.kept (x:c8 P w H h)(k:∀b u,h.get? b=y0 u->h'.get? b=y0 u):c8 P w H h':=λa o e=>
 (x a o e).cD (λb u _ q=>k b u q) (λ_ q=>q) λ_ _ q=>q
def c8.laid (x:c8 P w H h)(k:∀b u,h.get? b=y0 u->h'.get? b=y0 u)(g:h.objs.size<=a)(new:aN P w (aJ H a o) h' a o):c8 P w (aJ H a o) h':=λb u e=>by
 have f:=x.fresh g;by_cases d:b=a
 .subst d;rw[zb]at e;cases e;exact new
 .rw[ja d]at e;exact(x b u e).cD (λc v _ q=>k c v q) (λc q=>by rw[ja (Xa q f)];exact q) λc i q=>by rw[ja (Xa q f)];exact q
end
def Rd(H:Hp)(a:Addr)(u:HO):Prop:=H a=y0 u\/∃o,H a=y0 (.eA o u)
def Rd.ok (r:Rd H a u)(x:c8 P w H h):aN P w H h a u:=by
 rcases r with r|⟨o,r⟩
 .exact x a u r
 .obtain⟨_,q⟩:=x a _ r;exact q
def mQ:Option HO->Prop
|some (.lst _)=>True
|some (.dK _)=>True
|some (.dT _)=>True
|some (.set _ _)=>True
|some (.ins _ _ _)=>True
|some (.ext _)=>True
|_=>False
section
variable{P:Program}{w:World}{H:Hp}{h h':Heap}{x e:Addr}{o':HO}
def c8.write (ok:c8 P w H h)(l:mQ (H x))(o:e=x\/H e=y0 (.own x))(k:∀b u,b≠e->h.get? b=y0 u->h'.get? b=y0 u)(m:∃u,h'.get? e=y0 u)
 (new:aN P w (aJ H x o') h' x o'):c8 P w (aJ H x o') h':=λb u q=>by
 have d:∀c y,H c=y0 (.own y)->c≠x:=λc y r z=>by subst z;rw[r]at l;exact l
 have f:∀c i,H c=y0 (.tup i)->c≠x:=λc i r z=>by subst z;rw[r]at l;exact l
 by_cases j:b=x
 .subst j;rw[zb]at q;cases q;exact new
 .rw[ja j]at q;by_cases a:b=e
  .have n:H b=y0 (.own x):=by
    rcases o with z|z
    .exact absurd (a.trans z) j
    .rw[a];exact z
   rw[q]at n;cases n;obtain⟨v,p⟩:=m;exact⟨v,by rw[a];exact p⟩
  .refine(ok b u q).cD (λc v g r=>k c v ?_ r) (λc r=>by rw[ja (d c b r)];exact r) λc i r=>by rw[ja (f c i r)];exact r
   rcases g with rfl|g
   .exact a
   .rintro rfl;rcases o with z|z
    .exact d c b g z
    .rw[g]at z;cases z;exact j rfl
end
structure Un(fs ex:List Addr)(H H':Hp)(h h':Heap):Prop where
 keep:∀b o,h.get? b=y0 o->H b=u0->b∉fs->b∉ex->h'.get? b=y0 o
 slot:∀b o,h.get? b=y0 o->H b=u0->b∈fs->b∉ex->∃sl,h'.get? b=y0 {o with slots:=sl}
 free:∀b o,h.get? b=y0 o->H b=u0->b∉ex->H' b=u0
 there:∀b o,h.get? b=y0 o->b∉ex->∃o',h'.get? b=y0 o'
 cP:∀b xs,H b=y0 (.tup xs)->H' b=y0 (.tup xs)
 cJ:∀b o u,H b=y0 (.eA o u)->H' b=y0 (.eA o u)
 cU:∀b ps,H b=y0 (.iD ps)->∃more,H' b=y0 (.iD (ps++more))
section
variable{fs fs' ex ex':List Addr}{H H1 H2:Hp}{h h1 h2 h':Heap}{a x e:Addr}{o:HO}
def Un.any (u:Un fs ex H H1 h h1)(q:h.get? b=y0 ob)(n:H b=u0)(a:b∉ex):∃j,h1.get? b=y0 {ob with slots:=j}:=by
 by_cases c:b∈fs
 .exact u.slot b ob q n c a
 .exact⟨ob.slots,u.keep b ob q n c a⟩
def Un.kept (k:∀b u,h.get? b=y0 u->h'.get? b=y0 u):Un fs ex H H h h':=
 ⟨λb a q _ _ _=>k b a q,λb a q _ _ _=>⟨a.slots,k b a q⟩,λ_ _ _ n _=>n,λb a q _=>⟨a,k b a q⟩,λ_ _ q=>q,λ_ _ _ q=>q,λ_ c q=>⟨#[],by rw[q];simp⟩⟩
def Un.refl:Un fs ex H H h h:=Un.kept λ_ _ q=>q
def Un.laid (k:∀b u,h.get? b=y0 u->h'.get? b=y0 u)(e:h.objs.size<=a)(c:H a=u0):Un fs ex H (aJ H a o) h h' where
 keep:=λb u q _ _ _=>k b u q
 slot:=λb u q _ _ _=>⟨u.slots,k b u q⟩
 free:=λb u q n _=>by rw[ja (Ac2 (Ab3 (Ab5 q) e))];exact n
 there:=λb u q _=>⟨u,k b u q⟩
 cP:=λb d q=>by rw[ja (Xa q c)];exact q
 cJ:=λb u d q=>by rw[ja (Xa q c)];exact q
 cU:=λb f q=>⟨#[],by rw[ja (Xa q c),q];simp⟩
def Un.write (c:mQ (H x))(j:e=x\/H e=y0 (.own x))(k:∀b u,b≠e->h.get? b=y0 u->h'.get? b=y0 u)(d:∃u,h'.get? e=y0 u):Un fs ex H (aJ H x o) h h':=by
 have g:∀b,H b=u0->b≠x:=λb n z=>by subst z;rw[n]at c;exact c
 have i:∀b,H b=u0->b≠e:=λb n z=>by
  subst z;rcases j with r|r
  .exact g b n r
  .rw[n]at r;cases r
 have f:∀b u,H b=y0 u->¬mQ (y0 u)->b≠x:=λb u q nm z=>by subst z;rw[q]at c;exact nm c
 refine⟨λb u q n _ _=>k b u (i b n) q,λb u q n _ _=>⟨u.slots,k b u (i b n) q⟩,λb u q n _=>by rw[ja (g b n)];exact n,λb u q _=>?_,
  λb l q=>by rw[ja (f b _ q λz=>z)];exact q,λb u l q=>by rw[ja (f b _ q λz=>z)];exact q,λb m q=>⟨#[],by rw[ja (f b _ q λz=>z),q];simp⟩⟩
 by_cases a:b=e
 .subst a;exact d
 .exact⟨u,k b u a q⟩
end
def eg(h:Heap)(H:Hp):List Addr:=(Ab1 h.objs.size).filter λa=>(H a).isSome
def iM(h:Heap)(H:Hp):Heap:=PySem.W.hideAll h (eg h H)
def Me(h)(H):(iM h H).objs.size=h.objs.size:=PySem.W.hideAll_size _ _
def LO(e:h.get? b=y0 o)(n:H b=u0):(iM h H).get? b=y0 o:=
 PySem.W.hideAll_get _ e λa=>by have q:=(Aj4.mp a).2;rw[n]at q;simp at q
def E8(e:(iM h H).get? b=y0 o):h.get? b=y0 o/\H b=none:=by
 have a:=PySem.W.of_hideAll (eg h H) e;refine⟨a,?_⟩;cases q:H b with
|none=>rfl
|some x=>have c:b∈eg h H:=Aj4.mpr ⟨Ac1.mpr (Ab5 a),by simp[q]⟩;have z:(iM h H).get? b=none:=PySem.W.hideAll_none (eg h H) c;rw[z]at e;cases e
noncomputable def D9(g h:Heap)(L:Addr):List (Addr×Obj):=(Ab1 h.objs.size).filterMap λa=>if a=L\/(g.get? a).isSome=k9 then u0 else(h.get? a).map λo=>(a,o)
def rest(g h:Heap)(L d:Addr):List (Addr×Obj):=(D9 g h L).filter λp=>u9 (p.1≠d)
structure Mod(K:Aa6)(mg:Str->Option Value)(base:Heap):Prop where
 iw:K.In base
 glob:base.Ns mainGlobals mg
 blt:∃mb,base.Ns builtinsNs mb/\∀x:Str,x≠"__name__"->mb x=bootBuiltins x
 nolimit:base.NoLimit
structure Cx where
 prog:Program
 w:World
 K:Aa6
 mg:Str->Option Value
 base:Heap
 A:Around
 N:List Str
 s₀:Shared
 H₀:Hp
 env:Env
 outer:List Env
 stack:List Env
 ex:List Addr
 fn:Str->Bool
 calm:Bool
 pn:List (Addr×Obj)
 xe:Value->Shared->Prop
def b4(l:List Env):List Addr:=l.filterMap (·.frame)
abbrev Cx.fs (X:Cx):List Addr:=b4 X.outer
def kg(sc:Scope)(x:Str):Prop:=sc.names.lookup x=y0 .local\/sc.names.lookup x=y0 .cell\/sc.names.lookup x=y0 .free
def lj(sc:Scope)(x:Str):Prop:=sc.names.lookup x=y0 .local\/sc.names.lookup x=y0 .cell
def td(env:Env)(h:Heap)(m:Str->Option Value)(x:Str)(u:Value):Prop:=
 (env.kindOf x=y0 .local/\m x=y0 u)\/((env.kindOf x=y0 .cell\/env.kindOf x=y0 .free)/\∃c,env.cells.lookup x=y0 c/\h.IsCell c (y0 u))
structure Cx.Ok (X:Cx):Prop where
 mod:Mod X.K X.mg X.base
 kind:X.env.scope.kind=.function
 glob:X.env.globals=mainGlobals
 blt:X.env.builtins=builtinsNs
 above:X.s₀.heap.objs.size<=X.env.locals
 inj:∀x y c,X.env.cells.lookup x=y0 c->X.env.cells.lookup y=y0 c->x=y
 has:∀x,(X.env.kindOf x=y0 .cell\/X.env.kindOf x=y0 .free)->∃c,X.env.cells.lookup x=y0 c
 kQ:∀x c,X.fn x=k9->X.env.cells.lookup x=y0 c->X.s₀.heap.objs.size<=c
 hd:X.calm=k9->X.A.handled=u0
 frames:X.A.frames=y0 X.stack
 gR:X.stack=X.outer\/(X.stack=X.env::X.outer/\X.env.frame=y0 X.env.locals)
 mw:∀b∈X.ex,b≠X.env.locals/\∀x c,X.env.cells.lookup x=y0 c->c≠b
 bs:∀b o,X.base.get? b=y0 o->X.s₀.heap.get? b=y0 o/\X.H₀ b=u0
 gk:X.base.objs.size<=X.s₀.heap.objs.size
 fm:∀b o,X.base.get? b=y0 o->b∉X.ex
 fu:∀b∈X.ex,b∉X.fs
 cI:X.s₀.heap.FunFrames X.base X.outer
 hI:∀b∈X.fs,X.H₀ b=u0
structure Inv(X:Cx)(pins:List (Addr×Obj))(U:List (Option V))(H:Hp)(s:Shared):Prop where
 ok:X.Ok
 os:s.os=X.s₀.os
 bare:AllBare s.gens
 base:Un X.fs X.ex X.H₀ H X.s₀.heap s.heap
 loc:∃m,s.heap.Ns X.env.locals m/\∀(i:Nat)(x:Str)(v:V),X.N[i]?=y0 x->U[i]?=y0 (y0 v)->kg X.env.scope x->∃u,RelV v u/\td X.env s.heap m x u
 cell:∀x c,X.env.cells.lookup x=y0 c->∃v,s.heap.IsCell c v
 free:H X.env.locals=u0
 bB:∀x c,X.env.cells.lookup x=y0 c->H c=u0
 pin:∀p∈X.pn++pins,s.heap.get? p.1=y0 p.2/\H p.1=u0/\p.1≠X.env.locals/\p.1∉X.fs/\∀v,p.2.data≠.cell v
 aL:c8 X.prog X.w H s.heap
 len:U.length=X.N.length
section
variable{X:Cx}{pins:List (Addr×Obj)}{U:List (Option V)}{H H':Hp}{s:Shared}{h':Heap}
def Cx.Ok.pE (ok:X.Ok)(e:X.base.get? b=y0 o):b∉X.fs:=λa=>by have:=(ok.cI.mem a).1;rw[e]at this;cases this
theorem Inv.bs (I:Inv X pins U H s):∀b o,X.base.get? b=y0 o->s.heap.get? b=y0 o/\H b=none:=λb o e=>
 ⟨I.base.keep b o (I.ok.bs b o e).1 (I.ok.bs b o e).2 (I.ok.pE e) (I.ok.fm b o e),I.base.free b o (I.ok.bs b o e).1 (I.ok.bs b o e).2 (I.ok.fm b o e)⟩
def Inv.bk (I:Inv X pins U H s):∀b o,X.base.get? b=y0 o->s.heap.get? b=y0 o:=λb o e=>(I.bs b o e).1
theorem Inv.mod (I:Inv X pins U H s):Mod X.K X.mg X.base:=I.ok.mod
def Inv.bI (I:Inv X pins U H s):X.K.In s.heap:=I.ok.mod.iw.keeps I.bk
theorem Inv.lt (I:Inv X pins U H s):X.env.locals<s.heap.objs.size:=let⟨_,a,_⟩:=I.loc;a.lt
def Inv.sz (I:Inv X pins U H s):X.s₀.heap.objs.size<=s.heap.objs.size:=Ab6 I.ok.above (Af9 I.lt)
def Inv.pW (I:Inv X pins U H s)(h:s.heap.objs.size<=a):a∉X.fs:=λc=>by obtain⟨_,o,b,_⟩:=I.ok.cI.mem c;exact absurd (Ab3 (Ab5 b) (Ab6 I.sz h)) (Ai0 _)
def Inv.hZ (I:Inv X pins U H s):∀x c,X.env.cells.lookup x=y0 c->c≠X.env.locals:=λx c e z=>by obtain⟨v,o,d,f⟩:=I.cell x c e;obtain⟨m,⟨i,g,h,b,a,_⟩,_⟩:=I.loc;rw[z,b]at d;cases d;rw[a]at f;cases f
theorem Inv.cI (I:Inv X pins U H s):s.heap.FunFrames X.base X.outer:=by
 have all:∀l,(∀b∈b4 l,b∈X.fs)->X.s₀.heap.FunFrames X.base l->s.heap.FunFrames X.base l:=by
  intro l;induction l with
|nil=>intro _ _;trivial
|cons p r k=>intro f j;obtain⟨h,⟨L,o,a,g,i,n⟩,m⟩:=j;have c:=f L (by unfold b4;rw[Aj,a];exact Aa4);obtain⟨q,e⟩:=I.base.slot L o i (I.ok.hI L c) c λz=>I.ok.fu L z c;exact⟨h,⟨L,_,a,g,e,n⟩,k (λb d=>f b (by unfold b4;rw[Aj,a];exact Aa3 _ d)) m⟩
 exact all X.outer (λ_ d=>d) I.ok.cI
theorem Inv.stack (I:Inv X pins U H s):s.heap.FunFrames X.base X.stack:=by
 rcases I.ok.gR with e|⟨e,a⟩
 .rw[e];exact I.cI
 .rw[e];obtain⟨m,b,_⟩:=I.loc;refine .cons (by rw[I.ok.kind];decide) a b ?_ I.cI;exact Heap.get?_none_of_le (Ab6 I.ok.gk I.ok.above)
def Inv.dU (I:Inv X pins U H s):∀b∈b4 X.stack,b∈X.env.locals::X.fs:=λb a=>by
 rcases I.ok.gR with e|⟨e,c⟩
 .rw[e]at a;exact Aa3 _ a
 .rw[e]at a;unfold b4 at a;rw[Aj,c]at a;exact a
def Inv.cH (I:Inv X pins U H s):∀b∈b4 X.stack,H b=none:=λb a=>by
 rcases Ab7.mp (I.dU b a)with e|a
 .rw[e];exact I.free
 .obtain⟨_,o,c,_⟩:=I.ok.cI.mem a;exact I.base.free b o c (I.ok.hI b a) λz=>I.ok.fu b z a
def Inv.step {ch:List Addr}(I:Inv X pins U H s)
 (g:∀b∈ch,(b∈X.ex\/X.s₀.heap.objs.size<=b)/\b≠X.env.locals/\(∀x c,X.env.cells.lookup x=y0 c->c≠b)/\∀p∈X.pn++pins,p.1≠b)
 (keep:∀b o,b≠X.env.locals->b∉X.fs->b∉ch->s.heap.get? b=y0 o->H b=u0->h'.get? b=y0 o)
 (w:∀b o,b≠X.env.locals->b∈X.fs->b∉ch->s.heap.get? b=y0 o->H b=u0->∃L,h'.get? b=y0 {o with slots:=L})(f:∀b o,b∉ch->s.heap.get? b=y0 o->H b=u0->H' b=u0)
 (there:∀b o,b∉ch->s.heap.get? b=y0 o->∃o',h'.get? b=y0 o')
 (E:∀b xs,H b=y0 (.tup xs)->H' b=y0 (.tup xs))(D:∀b o u,H b=y0 (.eA o u)->H' b=y0 (.eA o u))(C:∀b ps,H b=y0 (.iD ps)->∃more,H' b=y0 (.iD (ps++more)))
 (ns:∀m,s.heap.Ns X.env.locals m->h'.Ns X.env.locals m)(J:c8 X.prog X.w H' h')(R:AllBare g'):
 Inv X pins U H' {s with heap:=h',gens:=g',drawn:=d',toks:=t'}:=by
 have B:∀b o,X.s₀.heap.get? b=y0 o->b≠X.env.locals:=λb o e=>Ac2 (Ab3 (Ab5 e) I.ok.above);have t:∀b o,X.s₀.heap.get? b=y0 o->b∉X.ex->b∉ch:=λb o e a y=>by
  rcases(g b y).1 with z|z
  .exact a z
  .exact absurd (Ab3 (Ab5 e) z) (Ai0 _)
 have h:∀x c,X.env.cells.lookup x=y0 c->∀v,s.heap.IsCell c v->h'.IsCell c v:=by
  rintro x c e v ⟨o,A,G⟩;have j:c∉ch:=λz=>(g c z).2.2.1 x c e rfl;by_cases K:c∈X.fs
  .obtain⟨L,q⟩:=w c o (I.hZ x c e) K j A (I.bB x c e);exact⟨_,q,G⟩
  .exact⟨o,keep c o (I.hZ x c e) K j A (I.bB x c e),G⟩
 refine⟨I.ok,I.os,R,⟨λb o e n y a=>?_,λb o e n y a=>?_,λb o e n a=>?_,λb o e a=>?_,λb xs e=>E b xs (I.base.cP b xs e),λb o xs e=>D b o xs (I.base.cJ b o xs e),λb ps e=>?_⟩,?_,λx c e=>?_,?_,λx c e=>?_,λp N=>?_,J,I.len⟩
 .exact keep b o (B b o e) y (t b o e a) (I.base.keep b o e n y a) (I.base.free b o e n a)
 .obtain⟨L,e1⟩:=I.base.slot b o e n y a;obtain⟨F,e2⟩:=w b _ (B b o e) y (t b o e a) e1 (I.base.free b o e n a);exact⟨F,e2⟩
 .obtain⟨o',e1⟩:=I.base.there b o e a;exact f b o' (t b o e a) e1 (I.base.free b o e n a)
 .obtain⟨o',e1⟩:=I.base.there b o e a;exact there b o' (t b o e a) e1
 .obtain⟨T,e1⟩:=I.base.cU b ps e;obtain⟨P,e2⟩:=C b _ e1;exact⟨T++P,by rw[e2,Array.append_assoc]⟩
 .obtain⟨m,O,S⟩:=I.loc;refine⟨m,ns m O,λi x v e1 e2 Q=>?_⟩;obtain⟨u,r,l⟩:=S i x v e1 e2 Q;refine⟨u,r,?_⟩;rcases l with l|⟨k,c,e,z⟩
  .exact .inl l
  .exact .inr ⟨k,c,e,h x c e _ z⟩
 .obtain⟨v,z⟩:=I.cell x c e;exact⟨v,h x c e v z⟩
 .obtain⟨m,⟨o,_,_,A,_⟩,_⟩:=I.loc;exact f _ o (λz=>(g _ z).2.1 rfl) A I.free
 .obtain⟨v,o,A,G⟩:=I.cell x c e;exact f c o (λz=>(g c z).2.2.1 x c e rfl) A (I.bB x c e)
 .obtain⟨e,n,ne,M,d⟩:=I.pin p N;have j:p.1∉ch:=λz=>(g p.1 z).2.2.2 p N rfl;exact⟨keep p.1 p.2 ne M j e n,f p.1 p.2 j e n,ne,M,d⟩
def Inv.un (I:Inv X pins U H s)(u:Un X.fs [] H H' s.heap h')(g:c8 X.prog X.w H' h'):Inv X pins U H' {s with heap:=h',toks:=t'}:=by obtain⟨m,⟨o,l,p,h,r⟩,_⟩:=id I.loc;obtain⟨q,i⟩:=u.any h I.free (by simp);exact I.step (ch:=[]) (λ_ z=>nomatch z) (λb o _ d _ e n=>u.keep b o e n d (by simp)) (λb o _ d _ e n=>u.slot b o e n d (by simp)) (λb o _ e n=>u.free b o e n (by simp)) (λb o _ e=>u.there b o e (by simp)) u.cP u.cJ u.cU (λv k=>by obtain⟨t,f,c,a,j⟩:=k;rw[h]at a;cases a;exact⟨_,f,c,i,j⟩) g I.bare
def Inv.call (I:Inv X pins U H s)(u:Un (b4 X.stack) ch H H' s.heap h')(j:c8 X.prog X.w H' h')(l:AllBare g')
 (d:∀b∈ch,(b∈X.ex\/X.s₀.heap.objs.size<=b)/\b≠X.env.locals/\(∀x c,X.env.cells.lookup x=y0 c->c≠b)/\∀p∈X.pn++pins,p.1≠b):
 Inv X pins U H' {s with heap:=h',gens:=g',drawn:=d',toks:=t'}:=by
 obtain⟨m,⟨o,w,y,k,r⟩,_⟩:=id I.loc;obtain⟨A,g⟩:=u.any k I.free λz=>(d _ z).2.1 rfl;exact I.step d (λb o g t a e n=>u.keep b o e n (λz=>(Ab7.mp (I.dU b z)).elim g t) a) (λb o _ _ a e n=>u.any e n a) (λb o a e n=>u.free b o e n a) (λb o a e=>u.there b o e a) u.cP u.cJ u.cU (λC v=>by obtain⟨B,i,h,f,q⟩:=v;rw[k]at f;cases f;exact⟨_,i,h,g,q⟩) j l
def Inv.turned (I:Inv X pins U H s)(k:∀b o,b≠it->s.heap.get? b=y0 o->h'.get? b=y0 o)(j:H it=u0)(f:it≠X.env.locals)
 (h1:it∈X.ex\/X.s₀.heap.objs.size<=it)(y:∀x c,X.env.cells.lookup x=y0 c->c≠it)(h:∀p∈X.pn++pins,p.1≠it):Inv X pins U H {s with heap:=h',toks:=t'}:=by
 have d:∀b u,H b=y0 u->b≠it:=λb u e z=>by rw[z,j]at e;cases e
 refine I.step (ch:=[it]) (λb t=>?_) (λb o _ _ a e _=>k b o (λz=>a (by simp[z])) e) (λb o _ _ a e _=>⟨o.slots,k b o (λz=>a (by simp[z])) e⟩) (λ_ _ _ _ n=>n)
  (λb o a e=>⟨o,k b o (λz=>a (by simp[z])) e⟩) (λ_ _ e=>e) (λ_ _ _ e=>e) (λb A e=>⟨#[],by rw[e];simp⟩) (λm w=>?_) (λb u e=>?_) I.bare
 .have e:=by simpa using t
  subst e;exact⟨h1,f,y,h⟩
 .obtain⟨o,g,i,l,r⟩:=w;exact⟨o,g,i,k _ o (Ne.symm f) l,r⟩
 .refine(I.aL b u e).cD (λc v a q=>k c v ?_ q) (λ_ q=>q) λ_ _ q=>q;rcases a with z|z
  .rw[z];exact d b u e
  .exact d c _ z
def Inv.tok (I:Inv X pins U H s)(t):Inv X pins U H {s with toks:=t}:=I.un Un.refl I.aL
theorem Inv.kept (I:Inv X pins U H s)(k:∀b u,s.heap.get? b=y0 u->h'.get? b=y0 u):Inv X pins U H {s with heap:=h',toks:=t'}:=I.un (Un.kept k) (I.aL.kept k)
theorem Inv.laid (I:Inv X pins U H s)(k:∀b u,s.heap.get? b=y0 u->h'.get? b=y0 u)(c:s.heap.objs.size<=a)(new:aN X.prog X.w (aJ H a o) h' a o):
 Inv X pins U (aJ H a o) {s with heap:=h',toks:=t'}:=I.un (Un.laid k c (I.aL.fresh c)) (I.aL.laid k c new)
theorem Inv.write (I:Inv X pins U H s)(d:mQ (H x))(c:e=x\/H e=y0 (.own x))(k:∀b u,b≠e->s.heap.get? b=y0 u->h'.get? b=y0 u)(a:∃u,h'.get? e=y0 u)
 (new:aN X.prog X.w (aJ H x o) h' x o):Inv X pins U (aJ H x o) {s with heap:=h',toks:=t'}:=I.un (Un.write d c k a) (I.aL.write d c k a new)
def Inv.bY (I:Inv X pins U H s)(h:∀p∈pins',s.heap.get? p.1=y0 p.2/\H p.1=u0/\p.1≠X.env.locals/\p.1∉X.fs/\∀v,p.2.data≠.cell v):Inv X pins' U H s:=
 ⟨I.ok,I.os,I.bare,I.base,I.loc,I.cell,I.free,I.bB,λp a=>(Ad1.mp a).elim (λz=>I.pin p (Ac8 _ z)) (h p),I.aL,I.len⟩
def JP{N:List Str}(c:N.Nodup){i j:Nat}(a:N[i]?=y0 x)(b:N[j]?=y0 x):i=j:=by obtain⟨d,e1⟩:=Aa8.mp a;obtain⟨e,e2⟩:=Aa8.mp b;exact(List.getElem_inj c).mp (e1.trans e2.symm)
def IW(I:Inv X pins U H s)(hN:X.N.Nodup)(O:X.N[i]?=y0 x)(t:lj X.env.scope x)(r:RelV v u)
 (h:∀s',Inv X pins (U.set i (y0 v)) H s'->(∃a,Ag6 a s.heap s'.heap/\(a=X.env.locals\/X.env.cells.lookup x=y0 a))->Q () s')(hf:X.fn x=k9\/X.env.scope.names.lookup x=y0 .local:=by first|exact .inl rfl|exact .inr rfl|assumption):wpAny M A (storeName X.env x u) Q E s:=by
 obtain⟨m,W,hl⟩:=id I.loc;have K:(X.env.scope.kind==.class||(X.env.scope.kind==.module&&X.env.locals !=X.env.globals))=false:=by rw[I.ok.kind];rfl
 have P:i<U.length:=by rw[I.len];exact(Aa8.mp O).1
 have hZ:=I.hZ;have g:∀{a}{G},(∃o,s.heap.get? a=y0 o/\H a=u0)->Ag6 a s.heap G->c8 X.prog X.w H G:=λ{a G} ha f b ob e=>by
  obtain⟨_,_,w⟩:=ha;refine(I.aL b ob e).cD (λc S l q=>(f.2 c ?_).trans q) (λ_ q=>q) λ_ _ q=>q;rintro rfl;rcases l with rfl|l
  .rw[w]at e;cases e
  .rw[w]at l;cases l
 rcases t with B|B
 .refine wpAny_storeName_local B W (λG Z f=>?_) K;obtain⟨oL,_,_,hoL,_⟩:=id W;refine h _ ⟨I.ok,I.os,I.bare,⟨λb o e n D t=>?_,λb o e n D t=>?_,I.base.free,λb o e t=>?_,I.base.cP,I.base.cJ,I.base.cU⟩,⟨_,Z,λj y v' e1 e2 e3=>?_⟩,λy c e=>?_,I.free,I.bB,λp hp=>?_,g ⟨oL,hoL,I.free⟩ f,by simpa using I.len⟩ ⟨_,f,.inl rfl⟩
  .exact(f.2 b (Ac2 (Ab3 (Ab5 e) I.ok.above))).trans (I.base.keep b o e n D t)
  .obtain⟨Y,e1⟩:=I.base.slot b o e n D t;exact⟨Y,(f.2 b (Ac2 (Ab3 (Ab5 e) I.ok.above))).trans e1⟩
  .obtain⟨o',e1⟩:=I.base.there b o e t;exact⟨o',(f.2 b (Ac2 (Ab3 (Ab5 e) I.ok.above))).trans e1⟩
  .by_cases C:j=i
   .subst C;rw[O]at e1;cases e1;rw[Ac6 P]at e2;cases e2;exact⟨u,r,.inl ⟨B,by simp⟩⟩
   .rw[Ad2 (Ne.symm C)]at e2;obtain⟨u',r',q⟩:=hl j y v' e1 e2 e3;refine⟨u',r',?_⟩;rcases q with⟨k,e⟩|⟨k,c,e,z⟩
    .refine .inl ⟨k,?_⟩;have:y≠x:=λe=>C (JP hN e1 (e▸O));simp[this,e]
    .exact .inr ⟨k,c,e,z.sameBut f (hZ y c e)⟩
  .obtain⟨S,z⟩:=I.cell y c e;exact⟨S,z.sameBut f (hZ y c e)⟩
  .obtain⟨e,n,ne,V,d⟩:=I.pin p hp;exact⟨(f.2 p.1 ne).trans e,n,ne,V,d⟩
 .have F:X.fn x=true:=by
   rcases hf with z|z
   .exact z
   .rw[z]at B;cases B
  obtain⟨c,l⟩:=I.ok.has x (.inl B);obtain⟨S,z⟩:=I.cell x c l;refine wpAny_storeName_cell I.ok.kind B l z (λG L f=>?_);obtain⟨oc,R,J⟩:=id z;refine h {s with heap:=G} ⟨I.ok,I.os,I.bare,⟨λb o e n D t=>?_,λb o e n D t=>?_,I.base.free,λb o e t=>?_,I.base.cP,I.base.cJ,I.base.cU⟩,⟨m,W.sameBut f (Ne.symm (hZ x c l)),λj y v' e1 e2 e3=>?_⟩,λy T e=>?_,I.free,I.bB,λp hp=>?_,g ⟨oc,R,I.bB x c l⟩ f,by simpa using I.len⟩ ⟨c,f,.inr l⟩
  .exact(f.2 b (Ac2 (Ab3 (Ab5 e) (I.ok.kQ x c F l)))).trans (I.base.keep b o e n D t)
  .obtain⟨Y,e1⟩:=I.base.slot b o e n D t;exact⟨Y,(f.2 b (Ac2 (Ab3 (Ab5 e) (I.ok.kQ x c F l)))).trans e1⟩
  .obtain⟨o',e1⟩:=I.base.there b o e t;exact⟨o',(f.2 b (Ac2 (Ab3 (Ab5 e) (I.ok.kQ x c F l)))).trans e1⟩
  .by_cases C:j=i
   .subst C;rw[O]at e1;cases e1;rw[Ac6 P]at e2;cases e2;exact⟨u,r,.inr ⟨.inl B,c,l,L⟩⟩
   .rw[Ad2 (Ne.symm C)]at e2;obtain⟨u',r',q⟩:=hl j y v' e1 e2 e3;refine⟨u',r',?_⟩;rcases q with q|⟨k,T,e,z'⟩
    .exact .inl q
    .refine .inr ⟨k,T,e,z'.sameBut f ?_⟩;rintro rfl;exact C (JP hN e1 (I.ok.inj _ _ _ e l▸O))
  .by_cases N:T=c
   .subst N;exact⟨_,L⟩
   .obtain⟨w2,z2⟩:=I.cell y T e;exact⟨w2,z2.sameBut f N⟩
  .obtain⟨e,n,ne,V,d⟩:=I.pin p hp;refine⟨(f.2 p.1 ?_).trans e,n,ne,V,d⟩;intro q;rw[q,R]at e;have q':=Ad5.inj e;exact d S (by rw[←q'];exact J)
def jp(I:Inv X pins U H s)(e:X.N.Nodup)(d:X.N[i]?=y0 x)(c:lj X.env.scope x)(r:RelV v u)
 (h:∀s',Inv X pins (U.set i (y0 v)) H s'->Q () s')(a:X.fn x=k9\/X.env.scope.names.lookup x=y0 .local:=by first|exact .inl rfl|exact .inr rfl|assumption):wpAny M A (storeName X.env x u) Q E s:=
 IW I e d c r (λs' b _=>h s' b) a
def Inv.iK (I:Inv X pins U H s)(f:s'.os=s.os)(u:Un (b4 X.stack) ch H H' s.heap s'.heap)(d:c8 X.prog X.w H' s'.heap)(g:AllBare s'.gens)
 (a:∀b∈ch,(b∈X.ex\/X.s₀.heap.objs.size<=b)/\b≠X.env.locals/\(∀x c,X.env.cells.lookup x=y0 c->c≠b)/\∀p∈X.pn++pins,p.1≠b):Inv X pins U H' s':=by
 obtain⟨i,j,h,k,l⟩:=s';have e:=f;subst e;exact I.call u d g a
end
abbrev XK:=Value->Option Addr->Hp->Prop
abbrev St:=List (Option V)
abbrev VK:=V->Hp->Prop
abbrev TE:=St->Hp->VK->Prop
abbrev TT:=St->Hp->(Bool->Hp->Prop)->Prop
abbrev TA:=St->Hp->(List V->Hp->Prop)->Prop
structure fU where
 nx:St->Hp->Prop
 rt:VK
 bk:St->Hp->Prop:=λ_ _=>False
 ct:St->Hp->Prop:=λ_ _=>False
abbrev TS:=fU->St->Hp->Prop
def EP(X:Cx)(a:List (Addr×Obj))(U:St)(Q:VK)(u:Value)(s':Shared):Prop:=∃v H',Inv X a U H' s'/\RelV v u/\Q v H'
def TP(X:Cx)(a:List (Addr×Obj))(U:St)(Q:Bool->Hp->Prop)(b:Bool)(s':Shared):Prop:=∃H',Inv X a U H' s'/\Q b H'
def AP(X:Cx)(a:List (Addr×Obj))(U:St)(Q:List V->Hp->Prop)(us:List Value)(s':Shared):Prop:=∃b H',Inv X a U H' s'/\Vals b us/\Q b H'
def SP(X:Cx)(a:List (Addr×Obj))(D:fU)(f:Flow)(s':Shared):Prop:=
 match f with
|.next=>∃b H',Inv X a b H' s'/\D.nx b H'
|.brk=>∃b H',Inv X a b H' s'/\D.bk b H'
|.cont=>∃b H',Inv X a b H' s'/\D.ct b H'
|.ret u=>∃v b H',Inv X a b H' s'/\RelV v u/\D.rt v H'
def PE(X:Cx)(e:Expr)(t:TE):Prop:=
 ∀(pins:List (Addr×Obj))(s:Shared)(U:St)(H:Hp)(Q:VK),Inv X pins U H s->t U H Q->wpAny (model X.prog X.w) X.A (eval e X.env) (EP X pins U Q) X.xe s
def PT(X:Cx)(e:Expr)(t:TT):Prop:=
 ∀(pins:List (Addr×Obj))(s:Shared)(U:St)(H:Hp)(Q:Bool->Hp->Prop),Inv X pins U H s->t U H Q->wpAny (model X.prog X.w) X.A (isTrue e X.env (eval e X.env)) (TP X pins U Q) X.xe s
def PW(X:Cx)(e:Expr)(t:TT):Prop:=
 ∀(a:Sem Value)(pins:List (Addr×Obj))(s:Shared)(U:St)(H:Hp)(Q:Bool->Hp->Prop),Inv X pins U H s->t U H Q->wpAny (model X.prog X.w) X.A (isTrue e X.env a) (TP X pins U Q) X.xe s
def PW.pt (h:PW X e t):PT X e t:=h _
def PA(X:Cx)(es:List Expr)(t:TA):Prop:=
 ∀(pos:Pos)(pins:List (Addr×Obj))(s:Shared)(U:St)(H:Hp)(Q:List V->Hp->Prop),Inv X pins U H s->t U H Q->wpAny (model X.prog X.w) X.A (spliced (backTo pos (starEach es X.env))) (AP X pins U Q) X.xe s
def PS(X:Cx)(st:Stmt)(t:TS):Prop:=
 ∀(pins:List (Addr×Obj))(s:Shared)(U:St)(H:Hp)(D:fU),Inv X pins U H s->t D U H->wpAny (model X.prog X.w) X.A (exec st X.env) (SP X pins D) X.xe s
def c9(X:Cx)(st:List Stmt)(t:TS):Prop:=
 ∀(pins:List (Addr×Obj))(s:Shared)(U:St)(H:Hp)(D:fU),Inv X pins U H s->t D U H->wpAny (model X.prog X.w) X.A (execs st X.env) (SP X pins D) X.xe s
def aH(h:wpAny M A t Q E s)(b:∀a s,Q a s->Q' a s):wpAny M A t Q' E s:=wpAny_mono h b λ_ _ x=>x
section
variable{X:Cx}
def bin(l:PE X a ta)(k:PE X b tb){R:V->V->Hp->Prop}(I:Inv X pins U H s)(h:ta U H λx H1=>tb U H1 λy H2=>R x y H2)
 {f:Value->Value->Sem α}
 (c:∀v u M x y H2,Inv X pins U H2 M->RelV x v->RelV y u->R x y H2->wpAny (model X.prog X.w) X.A (f v u) Q X.xe M):
 wpAny (model X.prog X.w) X.A (eval a X.env) (λv L=>wpAny (model X.prog X.w) X.A (eval b X.env) (λu j=>wpAny (model X.prog X.w) X.A (f v u) Q X.xe j) X.xe L) X.xe s:=by
 refine aH (l pins s U H _ I h) ?_;rintro v o ⟨x,H1,g,m,n⟩;refine aH (k pins o U H1 _ g n) ?_;rintro u M ⟨y,H2,e,i,d⟩;exact c v u M x y H2 e m i d
def nB(i:Nat):TE:=λU H Q=>∃v,U[i]?=y0 (y0 v)/\Q v H
def tC(v:V):TE:=λ_ H Q=>Q v H
def Xy(p:X.N[i]?=some x)(n:kg X.env.scope x)(g:(x==("__debug__":Str))=false:=by decide)(f:(x==("__classdict__":Str))=false:=by decide):PE X (.Name x pos) (nB i):=by
 intro d s U H Q I h;obtain⟨v,e,h⟩:=h;obtain⟨m,k,o⟩:=I.loc;obtain⟨u,r,l⟩:=o i x v p e n;have fin:EP X d U Q u s:=⟨v,H,I,r,h⟩;rcases l with⟨b,q⟩|⟨b,c,j,a⟩
 .exact wpAny_Name (wpAny_loadName_local I.ok.kind b k q fin) g
 .rcases b with b|b
  .exact wpAny_Name (wpAny_loadName_cell I.ok.kind b j a fin) g
  .exact wpAny_Name (wpAny_loadName_free I.ok.kind b j a fin f) g
def F6{i j pos}:PE X (.Constant (.int i) j pos) (tC (.int i)):=λ_ _ _ H _ I h=>wpAny_Constant_int ⟨.int i,H,I.tok _,⟨_,rfl⟩,h⟩
def Mh{b j pos}:PE X (.Constant (.bool b) j pos) (tC (.bl b)):=λ_ _ _ H _ I h=>Constant_bool ⟨.bl b,H,I,rfl,h⟩
def MR{j pos}:PE X (.Constant .none j pos) (tC .ak):=λ_ _ _ H _ I h=>Constant_none ⟨.ak,H,I,rfl,h⟩
def oy{x j pos}:PE X (.Constant (.str x) j pos) (tC (.str x)):=λ_ _ _ H _ I h=>Calls.Constant_str ⟨.str x,H,I.tok _,⟨_,rfl⟩,h⟩
def Gl(X:Cx)(x:Str):Prop:=X.env.kindOf x=y0 .globalImplicit
def Xs(I:Inv X pins U H s)(c:Gl X x)(b:X.mg x=y0 u)(h:Q u s)
 (a:(x==("__debug__":Str))=false:=by decide):wpAny (model X.prog X.w) X.A (eval (.Name x pos) X.env) Q E s:=
 Calls.Name_function_global I.ok.kind c (Calls.loadGlobal_global (by rw[I.ok.glob];exact I.mod.glob.keeps I.bk) b h) a
def xr(I:Inv X pins U H s)(f:Gl X x)(d:X.mg x=u0)(g:bootBuiltins x=y0 u)(h:Q u s)
 (b:x≠"__name__":=by decide)(c:(x==("__debug__":Str))=false:=by decide):wpAny (model X.prog X.w) X.A (eval (.Name x pos) X.env) Q E s:=by
 obtain⟨i,a,e⟩:=I.mod.blt;exact Calls.Name_function_global I.ok.kind f (Calls.loadGlobal_builtin (by rw[I.ok.glob];exact I.mod.glob.keeps I.bk) d (by rw[I.ok.blt];exact a.keeps I.bk) ((e x b).trans g) h) c
def QN(c:Gl X x)(b:X.mg x=some u)(r:RelV v u)(a:(x==("__debug__":Str))=false:=by decide):PE X (.Name x pos) (tC v):=
 λ_ _ _ H _ I h=>Xs I c b ⟨v,H,I,r,h⟩ a
def tK(e:Gl X x)(c:X.mg x=none)(d:bootBuiltins x=some u)(r:RelV v u)(a:x≠"__name__":=by decide)(b:(x==("__debug__":Str))=false:=by decide):PE X (.Name x pos) (tC v):=
 λ_ _ _ H _ I h=>xr I e c d ⟨v,H,I,r,h⟩ a b
variable{a b:Expr}{ta tb:TE}{pos:Pos}
def PC(X:Cx)(e:CmpOp)(a b:Expr)(t:TE):Prop:=
 ∀(pins:List (Addr×Obj))(s:Shared)(U:St)(H:Hp)(Q:VK),Inv X pins U H s->t U H Q→
  wpAny (model X.prog X.w) X.A (eval a X.env) (λv d=>wpAny (model X.prog X.w) X.A (eval b X.env) (λu c=>wpAny (model X.prog X.w) X.A (compareOp e v u) (EP X pins U Q) X.xe c) X.xe d) X.xe s
def tE(b)(h:op≠.In)(a:op≠.NotIn):behindInMarks op b=false:=by
 have e1:(op==CmpOp.In)=false:=by cases op<;>first|rfl|exact absurd rfl h
 have e2:(op==CmpOp.NotIn)=false:=by cases op<;>first|rfl|exact absurd rfl a
 cases b<;>simp[behindInMarks,e1,e2]
def El(a:TE):TE:=λU H Q=>a U H λx H1=>Q (.bl (u9 (x=.ak))) H1
def B7(a:TE):TE:=λU H Q=>a U H λx H1=>Q (.bl (!u9 (x=.ak))) H1
def RelV.ef (r:RelV x v):(v==Value.none)=u9 (x=.ak):=by
 cases x with
|ak=>cases r;rfl
|bl _=>cases r;rfl
|int _=>obtain⟨t,rfl⟩:=r;rfl
|str _=>obtain⟨t,rfl⟩:=r;rfl
|ke _=>obtain⟨t,rfl⟩:=r;rfl
|iI _=>obtain⟨t,rfl⟩:=r;rfl
|ref _=>cases r;rfl
|ty _=>cases r;rfl
def uO{j pos'}(g:PE X a ta):PC X .Is a (.Constant .none j pos') (El ta):=by intro b s U H Q I h;refine aH (g b s U H _ I h) ?_;rintro v i ⟨x,f,c,d,e⟩;exact Constant_none (is_none_gen ⟨.bl _,f,c,by rw[d.ef];rfl,e⟩)
def vn{j pos'}(g:PE X a ta):PC X .IsNot a (.Constant .none j pos') (B7 ta):=by intro b s U H Q I h;refine aH (g b s U H _ I h) ?_;rintro v i ⟨x,f,c,d,e⟩;exact Constant_none (isnot_none_gen ⟨.bl _,f,c,by rw[d.ef];rfl,e⟩)
def tB(t:TE):TT:=λU H Q=>t U H λx H1=>∃c,x=.bl c/\Q c H1
def uu(h:PC X op a b t)(h1:behindInMarks op b=false:=by first|exact tE _ (by decide) (by decide)|rfl):PE X (.Compare a [op] [b] pos) t:=λc s U H Q I d=>wpAny_Compare1 (h c s U H Q I d) h1
def yQ(h:PC X op a b t)(h1:behindInMarks op b=false:=by first|exact tE _ (by decide) (by decide)|rfl):PT X (.Compare a [op] [b] pos) (tB t):=by intro e s U H Q I i;refine wpAny_isTrue_Compare1 (aH (h e s U H _ I i) λv o h1=>aH h1 λu m l=>aH l ?_) h1;rintro c n⟨x,f,g,j,k⟩;obtain⟨d,rfl,q⟩:=k;cases j;exact wpAny_truthy_bool ⟨f,g,q⟩
variable{tA tB':TT}{rest:List Expr}
def Dn(t u:TT):TT:=λU H Q=>t U H λc H1=>if c=k9 then u U H1 Q else Q y9 H1
def BD(t u:TT):TT:=λU H Q=>t U H λc H1=>if c=k9 then Q k9 H1 else u U H1 Q
def A9(t:TT):TT:=λU H Q=>t U H λc H1=>Q (!c) H1
def C9(d:PT X a tA):PW X (.BoolOp .And [a] pos) tA:=by
 intro f b s U H Q I h;refine isTrue_and (aH (d b s U H Q I h) λc g e=>?_);cases c with
|true=>exact isTrue_and_nil e
|false=>exact e
def NR(d:PT X a tA):PW X (.BoolOp .Or [a] pos) tA:=by
 intro f b s U H Q I h;refine isTrue_or (aH (d b s U H Q I h) λc g e=>?_);cases c with
|false=>exact isTrue_or_nil e
|true=>exact e
def Mg(l:PT X a tA)(k:PW X (.BoolOp .And (b::rest) pos) tB'):PW X (.BoolOp .And (a::b::rest) pos) (Dn tA tB'):=by
 intro i d s U H Q I h;refine isTrue_and (aH (l d s U H _ I h) ?_);rintro c j ⟨g,e,f⟩;cases c with
|true=>exact k i d j U g Q e f
|false=>exact⟨g,e,f⟩
def Ey(l:PT X a tA)(k:PW X (.BoolOp .Or (b::rest) pos) tB'):PW X (.BoolOp .Or (a::b::rest) pos) (BD tA tB'):=by
 intro i d s U H Q I h;refine isTrue_or (aH (l d s U H _ I h) ?_);rintro c j ⟨g,e,f⟩;cases c with
|true=>exact⟨g,e,f⟩
|false=>exact k i d j U g Q e f
def AE(e:PT X a tA):PT X (.UnaryOp .Not a pos) (A9 tA):=by intro b s U H Q I h;exact isTrue_not (e b s U H (λc d=>Q (!c) d) I h)
def uN{op}(h:PE X a t):PE X (.BoolOp op [a] pos) t:=λb s U H Q I c=>BoolOp_one (h b s U H Q I c)
end
def br(K:Aa6)(H:Hp)(a:Addr)(xs:List V):Prop:=
 Rd H a (.lst xs)∨
  ∃(o:Obj)(b:Array Value)(n:Nat),K.lookup a=some o/\o.cls=.type "list"/\o.dict=none/\o.data=.seq b n/\b.size<=sizeLine/\Vals xs b.toList
def cz(K:Aa6)(H:Hp)(a:Addr)(xs:List V):Prop:=
 Rd H a (.tup xs)∨
  ∃(o:Obj)(b:Array Value)(n:Nat),K.lookup a=y0 o/\o.cls=.type "tuple"/\o.data=.seq b n/\b.size<=sizeLine/\Vals xs b.toList
noncomputable def nh:Value->Option V
|.none=>y0 .ak
|.bool b=>y0 (.bl b)
|.int i _=>y0 (.int i)
|.str x _=>y0 (.str x)
|.bytes b _=>y0 (.ke b)
|.float b _=>y0 (.iI b)
|.ref a=>y0 (.ref a)
|.type n=>y0 (.ty n)
|_=>u0
def RelV.abs (r:RelV x u):nh u=y0 x:=by
 cases x with
|ak=>cases r;rfl
|bl _=>cases r;rfl
|int _=>obtain⟨t,rfl⟩:=r;rfl
|str _=>obtain⟨t,rfl⟩:=r;rfl
|ke _=>obtain⟨t,rfl⟩:=r;rfl
|iI _=>obtain⟨t,rfl⟩:=r;rfl
|ref _=>cases r;rfl
|ty _=>cases r;rfl
theorem RelV.inj (r:RelV x u)(q:RelV y u):x=y:=Ad5.inj (r.abs.symm.trans q.abs)
theorem Vals.inj:∀{xs ys}{us},Vals xs us->Vals ys us->xs=ys
|_,_,_,.nil,.nil=>rfl
|_,_,_,.cons r t,.cons b a=>by rw[r.inj b,Vals.inj t a]
section
variable{X:Cx}{pins:List (Addr×Obj)}{U:St}{H:Hp}{s:Shared}{a:Addr}{xs ys:List V}
def br.of {K:Aa6}(h:H a=y0 (.lst xs)):br K H a xs:=.inl (.inl h)
def Inv.list (I:Inv X pins U H s)(h:br X.K H a xs):∃j:List Value,Vals xs j/\PlainL s.heap a j.toArray/\xs.length<=sizeLine:=by
 rcases h with h|⟨o,j,n,b,c,d,f,g,r⟩
 .obtain⟨z,j,n,r,e⟩:=h.ok I.aL;exact⟨j,r,⟨_,n,e,rfl,rfl,rfl⟩,z⟩
 .refine⟨j.toList,r,⟨o,n,I.bI a o b,c,d,by simpa using f⟩,?_⟩;have e:=r.length;simp only[Ah7]at e;omega
def Inv.tuple (I:Inv X pins U H s)(h:cz X.K H a xs):∃j:List Value,Vals xs j/\IsTup s.heap a j.toArray/\xs.length<=sizeLine:=by
 rcases h with h|⟨o,j,n,b,c,d,f,r⟩
 .obtain⟨z,j,r,p⟩:=h.ok I.aL;exact⟨j,r,p.is,z⟩
 .refine⟨j.toList,r,⟨o,I.bI a o b,c,n,by simpa using d⟩,?_⟩;have e:=r.length;simp only[Ah7]at e;omega
def Inv.ea (I:Inv X pins U H s)(h:br X.K H a xs)(h':br X.K H a ys):xs=ys:=by
 obtain⟨c,r,⟨o,n,e,_,_,d⟩,_⟩:=I.list h;obtain⟨b,i,⟨l,k,g,_,_,f⟩,_⟩:=I.list h';rw[e]at g;cases g;rw[d]at f;injection f with j _
 have:c=b:=by simpa using congrArg Array.toList j
 subst this;exact r.inj i
def Inv.fH (I:Inv X pins U H s)(h:cz X.K H a xs)(h':cz X.K H a ys):xs=ys:=by
 obtain⟨c,r,⟨o,e,_,n,d⟩,_⟩:=I.tuple h;obtain⟨b,i,⟨l,g,_,k,f⟩,_⟩:=I.tuple h';rw[e]at g;cases g;rw[d]at f;injection f with j _
 have:c=b:=by simpa using congrArg Array.toList j
 subst this;exact r.inj i
end
abbrev Cx.dD (X:Cx)(E:Value->Shared->Prop):Cx:={X with xe:=E}
abbrev Cx.d5 (X:Cx):Cx:=X.dD λ_ _=>False
theorem Cx.Ok.dD {X:Cx}(ok:X.Ok)(E):(X.dD E).Ok:=
 ⟨ok.mod,ok.kind,ok.glob,ok.blt,ok.above,ok.inj,ok.has,ok.kQ,ok.hd,ok.frames,ok.gR,ok.mw,ok.bs,ok.gk,ok.fm,ok.fu,ok.cI,ok.hI⟩
def Cx.Ok.ck {X:Cx}(ok:(X.dD E).Ok):X.Ok:=
 ⟨ok.mod,ok.kind,ok.glob,ok.blt,ok.above,ok.inj,ok.has,ok.kQ,ok.hd,ok.frames,ok.gR,ok.mw,ok.bs,ok.gk,ok.fm,ok.fu,ok.cI,ok.hI⟩
section
variable{X:Cx}{pins:List (Addr×Obj)}{U:St}{H:Hp}{s:Shared}{E:Value->Shared->Prop}
theorem Inv.dD (I:Inv X pins U H s)(E):Inv (X.dD E) pins U H s:=⟨I.ok.dD E,I.os,I.bare,I.base,I.loc,I.cell,I.free,I.bB,I.pin,I.aL,I.len⟩
theorem Inv.ck (I:Inv (X.dD E) pins U H s):Inv X pins U H s:=⟨I.ok.ck,I.os,I.bare,I.base,I.loc,I.cell,I.free,I.bB,I.pin,I.aL,I.len⟩
theorem SP.ck (h:SP (X.dD E) pins D f s'):SP X pins D f s':=by
 cases f with
|next=>obtain⟨b,a,I,q⟩:=h;exact⟨b,a,I.ck,q⟩
|brk=>obtain⟨b,a,I,q⟩:=h;exact⟨b,a,I.ck,q⟩
|cont=>obtain⟨b,a,I,q⟩:=h;exact⟨b,a,I.ck,q⟩
|ret u=>obtain⟨v,b,a,I,r,q⟩:=h;exact⟨v,b,a,I.ck,r,q⟩
end
section
variable{X:Cx}{st:Stmt}{rest:List Stmt}{t u:TS}{e:Expr}{te:TE}{pos:Pos}
def Mc:TS:=λD U H=>D.nx U H
def A6(t u:TS):TS:=λD U H=>t {D with nx:=u D} U H
def M1:c9 X [] Mc:=λ_ _ U H _ I h=>wpAny_execs_nil ⟨U,H,I,h⟩
def Nc(h1:PS X st t)(g:c9 X rest u):c9 X (st::rest) (A6 t u):=by
 intro a s U H D I h;refine wpAny_execs_cons (aH (h1 a s U H {D with nx:=u D} I h) λf d q=>?_);cases f with
|next=>obtain⟨e,c,b,q⟩:=q;exact g a d e c D b q
|ret v=>exact q
|brk=>exact q
|cont=>exact q
def EG(h1:PS X st t):c9 X [st] t:=by
 intro a s U H D I h;refine wpAny_execs_cons (aH (h1 a s U H D I h) λf b q=>?_);cases f with
|next=>exact wpAny_execs_nil q
|ret v=>exact q
|brk=>exact q
|cont=>exact q
def Inv.quiet (I:Inv X pins U H s):interactive X.env=false:=by simp[interactive,I.ok.kind]
def Ha(a:TE):TS:=λD U H=>a U H λ_ H1=>D.nx U H1
def jQ(c:PE X e te)(g:swapsWith e u0 pos.line X.env=pure false:=by rfl):PS X (.Expr e pos) (Ha te):=by intro a s U H D I h;exact wpAny_Expr_any (aH (c a s U H _ I h) (by rintro v j⟨x,f,b,i,d⟩;exact⟨U,f,b,d⟩)) I.quiet g
def Np(a:TE):TS:=λD U H=>a U H D.rt
def uE(c:PE X e te):PS X (.Return (y0 e) pos) (Np te):=by intro a s U H D I h;exact wpAny_Return_some (aH (c a s U H _ I h) (by rintro v i⟨x,g,b,d,f⟩;exact⟨x,U,g,b,d,f⟩))
def Be(c:TT)(t u:TS):TS:=λD U H=>c U H λb H1=>if b=k9 then t D U H1 else u D U H1
def Ea(k:PT X c tc)(m:c9 X a t)(l:c9 X b u):PS X (.If c a b pos) (Be tc t u):=by
 intro e s U H D I h;refine wpAny_If (aH (k e s U H _ I h) ?_);rintro d j ⟨i,f,g⟩;cases d with
|true=>exact m e j U i D f g
|false=>exact l e j U i D f g
end
abbrev TG:=V->St->Hp->(St->Hp->Prop)->Prop
abbrev mx:=List V->St->Hp->(St->Hp->Prop)->Prop
def PG(X:Cx)(a:Expr)(t:TG):Prop:=
 ∀(pins:List (Addr×Obj))(s:Shared)(U:St)(H:Hp)(v:V)(u:Value)(Q:St->Hp->Prop),Inv X pins U H s->RelV v u->t v U H Q→
  wpAny (model X.prog X.w) X.A (assign a X.env u) (λ_ s'=>∃b H',Inv X pins b H' s'/\Q b H') X.xe s
def lV(X:Cx)(d:List Expr)(t:mx):Prop:=
 ∀(pins:List (Addr×Obj))(s:Shared)(U:St)(H:Hp)(a:List V)(b:List Value)(Q:St->Hp->Prop),Inv X pins U H s->Vals a b->t a U H Q→
  wpAny (model X.prog X.w) X.A (assignInOrder ((assignEach d X.env).map (·.2)) b) (λ_ s'=>∃c H',Inv X pins c H' s'/\Q c H') X.xe s
abbrev r0:=V->V->V->Hp->(Hp->Prop)->Prop
def vw(X:Cx)(t:r0):Prop:=
 ∀(pins:List (Addr×Obj))(s:Shared)(U:St)(H:Hp)(o i v:V)(a b u:Value)(Q:Hp->Prop),Inv X pins U H s->RelV o a->RelV i b->RelV v u->t o i v H Q→
  wpAny (model X.prog X.w) X.A (setItem a b u) (λ_ s'=>∃H',Inv X pins U H' s'/\Q H') X.xe s
section
variable{X:Cx}{pos:Pos}
def QT(i:Nat):TG:=λv U H Q=>Q (U.set i (y0 v)) H
def j2(f:X.N.Nodup)(e:X.N[i]?=y0 x)(d:lj X.env.scope x)(b:X.fn x=k9\/X.env.scope.names.lookup x=y0 .local:=by first|exact .inl rfl|exact .inr rfl|assumption):PG X (.Name x pos) (QT i):=by intro a s U H v u Q I r h;exact wpAny_assign_Name (jp I f e d r (λg c=>⟨_,H,c,h⟩) b)
def BI:mx:=λa U H Q=>a=[]/\Q U H
def D3(t:TG)(u:mx):mx:=λa U H Q=>∃v r,a=v::r/\t v U H λb H'=>u r b H' Q
def sy:lV X [] BI:=by intro a s U H b c Q I r h;obtain⟨e,h⟩:=h;subst e;cases r;exact assignInOrder_nil ⟨U,H,I,h⟩
def JN(h1:PG X e t)(k:lV X es u)
 (g:(assignEach (e::es) X.env).map (·.2)=assign e X.env::(assignEach es X.env).map (·.2):=by rfl):lV X (e::es) (D3 t u):=by
 intro a s U H l n Q I r h;obtain⟨v,m,e1,h⟩:=h;subst e1;cases r with
|cons r f=>rw[g];refine assignInOrder_cons (aH (h1 a s U H _ _ _ I r h) ?_);rintro _ j ⟨b,c,d,i⟩;exact k a j b c _ _ Q d f i
def Ec(K:Aa6)(n:Nat)(t:mx):TG:=λv U H Q=>∃a xs,v=.ref a/\cz K H a xs/\xs.length=n/\t xs U H Q
def vk(g:X.calm=k9)(h:lV X es t)
 (i:(assignEach es X.env).length=n:=by rfl)(f:(assignEach es X.env).findIdx? (·.1)=none:=by rfl):PG X (.Tuple es k pos) (Ec X.K n t):=by
 intro c s U H v u Q I r d;obtain⟨a,q,e1,x,p,d⟩:=d;subst e1;cases r;obtain⟨y,rv,j,z⟩:=I.tuple x;refine assign_Tuple_tuple (I.ok.hd g) j (by simp[i,←p,rv.length]) f λm w=>?_;have l:Inv X c U H {s with heap:=m}:=I.kept λb o e=>w b o (Ac2 (Ab5 e)) e;exact h c _ U H q _ Q l (by simpa using rv) d
def AA(a c:TE)(t:r0):TG:=λv U H Q=>a U H λo H1=>c U H1 λi H2=>t o i v H2 λb=>Q U b
def rY(e:PE X o to)(p:PE X i ti)(w:vw X t)
 (z:∀v,assign (.Subscript o i pos) X.env v=(do
   let j←holding [v] (eval o X.env);let L←holding [v,j] (eval i X.env)
   standAt pos
   holding [v,j,L] (setItem j L v)
   release [v,j,L] []):=by intro _;rfl):PG X (.Subscript o i pos) (AA to ti t):=by
 intro a s U H v u Q I r h;rw[z];refine wpAny_bind (wpAny_holding (aH (e a s U H _ I h) ?_));rintro j C ⟨x,g,k,A,B⟩;refine wpAny_bind (wpAny_holding (aH (p a C U g _ k B) ?_));rintro L f ⟨y,l,d,q,c⟩;refine wpAny_bind (wpAny_standAt (wpAny_bind (wpAny_holding (aH (w a f U l x y v j L u _ d A q r c) ?_))));rintro _ D ⟨m,b,n⟩;exact wpAny_release ⟨U,m,b,n⟩
def iu(a:TE)(g:TG):TS:=λD U H=>a U H λx H1=>g x U H1 D.nx
def pA(b:PE X e te)(d:PG X tg g)(j:swapsWithSole [tg] e pos.line X.env=pure false:=by rfl)(i:swappedStores [tg] e X.env=pure none:=by rfl)
 (h1:(assignEach [tg] X.env).map (·.2)=[assign tg X.env]:=by rfl):PS X (.Assign [tg] e pos) (iu te g):=by
 intro a s U H D I h;refine wpAny_Assign_stores (aH (b a s U H _ I h) ?_) j i;rintro v m⟨x,c,f,k,l⟩;rw[h1];exact aH (d a m U c x v _ f k l) λ_ n q=>q
def NO(m:X.N.Nodup)(k:X.N[i]?=y0 x)(j:lj X.env.scope x)(d:PE X e te)(l:swapsWith e (y0 (.Name x pos')) pos.line X.env=pure false:=by rfl)(b:X.fn x=k9\/X.env.scope.names.lookup x=y0 .local:=by first|exact .inl rfl|exact .inr rfl|assumption):
 PS X (.Assign [.Name x pos'] e pos) (iu te (QT i)):=by
 intro a s U H D I h;refine wpAny_Assign_Name (aH (d a s U H _ I h) ?_) l;rintro v q⟨y,f,g,n,o⟩;exact jp g m k j n (λp c=>⟨_,f,c,o⟩) b
end
section
variable{X:Cx}{pos:Pos}
def CW(c:TT)(tb:TS):TS:=λD U H=>∃W:Nat->St->Hp->Prop,(∃m,W m U H)/\∀m U H,W m U H→
 c U H λb H1=>if b=k9 then∃N:St->Hp->Prop,(∀d H',N d H'->∃a,a<m/\W a d H')/\tb {D with nx:=N,ct:=N,bk:=D.nx} U H1 else D.nx U H1
def Nw(y:PassesOwn (model X.prog X.w) X.A X.env X.xe)(A:PT X c tc)(G:c9 X body tb):PS X (.While c body [] pos) (CW tc tb):=by
 intro a s U H D I h;obtain⟨W,⟨F,J⟩,d⟩:=h;refine wpAny_While (codeAny_whileLoop (λn K=>∃t r,Inv X a t r K/\W n t r) ?_ F ⟨U,H,I,J⟩);rintro n L ⟨i,w,E,B⟩;refine wpAny_passesOwn y (aH (A a L i w _ E (d n i w B)) ?_);rintro b C ⟨x,u,j⟩;cases b with
|true=>
  obtain⟨N,z,j⟩:=j;refine wpAny_passesOwn y (aH (G a C i x _ u j) λf M k=>?_);cases f with
  |next=>obtain⟨e,g,l,p⟩:=k;obtain⟨m,o,q⟩:=z e g p;exact⟨m,o,e,g,l,q⟩
  |cont=>obtain⟨e,g,l,p⟩:=k;obtain⟨m,o,q⟩:=z e g p;exact⟨m,o,e,g,l,q⟩
  |brk=>exact k
  |ret v=>exact k
|false=>exact wpAny_execs_nil ⟨i,x,u,j⟩
end
structure It where
 go:Nat->Hp->Prop
 f6:Nat->Hp->V->Hp->Prop
 stop:Nat->Hp->Prop
def bA(X:Cx)(a:List (Addr×Obj))(H:Hp)(b:Addr):Prop:=
 H b=u0/\b≠X.env.locals/\b∉X.fs/\(b∈X.ex\/X.s₀.heap.objs.size<=b)/\(∀x c,X.env.cells.lookup x=y0 c->c≠b)/\∀p∈X.pn++a,p.1≠b
def Inv.dN (I:Inv X pins U H s)(a:s.heap.objs.size<=b)(d:H' b=u0):bA X pins H' b:=by
 refine⟨d,Aj1 (Ab3 I.lt a),I.pW a,.inr (Ab6 I.sz a),λx c e z=>?_,λp f z=>?_⟩
 .obtain⟨v,q⟩:=I.cell x c e;exact absurd (Ab3 q.lt (by rw[z];exact a)) (Ai0 _)
 .exact absurd (Ab3 (Ab5 (I.pin p f).1) (by rw[z];exact a)) (Ai0 _)
structure lX(P:Program)(w:World)(K:Aa6)(tg:Expr)(J:It)(fp:List Addr)(it:Addr)(tn:Nat->Heap->Prop):Prop where
 mem:it∈fp
 obj:∀i h,tn i h->∀b∈fp,∃o,h.get? b=y0 o/\∀v,o.data≠.cell v
 keep:∀i h h',tn i h->(∀b∈fp,∀o,h.get? b=y0 o->h'.get? b=y0 o)->tn i h'
 item:∀(X:Cx),X.prog=P->X.w=w->X.K=K->X.calm=k9->∀(i:Nat)(pins:List (Addr×Obj))(s:Shared)(U:St)(H:Hp)(E:Value->Shared->Prop),Inv X pins U H s->(∀b∈fp,bA X pins H b)->tn i s.heap->J.go i H→
  wpAny (model P w) X.A (pyNext (.ref it)) (λr s1=>∃u,r=y0 u∧
   wpAny (model P w) X.A (letOwnedTupleGo tg (.ref it) u) (λ_ s2=>∃x H',Inv X pins U H' s2/\RelV x u/\J.f6 i H x H'/\tn (i+1) s2.heap/\∀b∈fp,H' b=u0) E s1) E s
 done:∀(X:Cx),X.prog=P->X.w=w->X.K=K->X.calm=k9->∀(i:Nat)(pins:List (Addr×Obj))(s:Shared)(U:St)(H:Hp)(E:Value->Shared->Prop),Inv X pins U H s->(∀b∈fp,bA X pins H b)->tn i s.heap->J.stop i H→
  wpAny (model P w) X.A (pyNext (.ref it)) (λr s1=>r=u0/\Inv X pins U H s1) E s
 self:∀(A:Around)(i:Nat)(s:Shared)(Q:Value->Shared->Prop)(E:Value->Shared->Prop),tn i s.heap->Q (.ref it) s->wpAny (model P w) A (pyIter (.ref it)) Q E s
abbrev TI:=St->Hp->(It->Hp->Prop)->Prop
def yC(X:Cx)(a:List (Addr×Obj))(U:St)(g:Expr)(R:It->Hp->Prop)(c:Value)(e:Shared):Prop:=
 ∃(d:Addr)(fp:List Addr)(f:Nat->Heap->Prop)(J:It)(H':Hp),c=.ref d/\Inv X a U H' e/\lX X.prog X.w X.K g J fp d f/\f 0 e.heap/\(∀b∈fp,bA X a H' b)/\R J H'
def PI(X:Cx)(b a:Expr)(d:TI):Prop:=
 ∀(pins:List (Addr×Obj))(s:Shared)(U:St)(H:Hp)(R:It->Hp->Prop),Inv X pins U H s->d U H R→
  wpAny (model X.prog X.w) X.A (eval a X.env) (λv c=>wpAny (model X.prog X.w) X.A (pyIter v) (yC X pins U b R) X.xe c) X.xe s
def pw(b:s.heap.get? it=y0 o)(c:o.cls=.type n)(e:o.data=.fields vs)
 (d:["enumerate","zip","dict_itemiterator","dict_reverseitemiterator","odict_iterator","itertools.zip_longest","itertools.pairwise"].contains n=false)(a:Q () s):wpAny M A (letOwnedTupleGo tg (.ref it) u) Q E s:=by
 unfold letOwnedTupleGo;cases tg<;>first
|exact wpAny_pure a
|(cases u<;>first
|exact wpAny_pure a
      | (refine wpAny_bind (wpAny_load b ?_)
         rw[c,e];show wpAny M A (if(["enumerate","zip","dict_itemiterator","dict_reverseitemiterator","odict_iterator","itertools.zip_longest","itertools.pairwise"].contains n&&vs[0]?==some (rawInt _))=true then _ else _) Q E s;rw[if_neg (by intro h;rw[d,Ae2]at h;cases h)];exact wpAny_pure a))
noncomputable def lM(K:Aa6)(a:Addr):It:=
 ⟨λi H=>∃xs x,br K H a xs/\xs[i]?=y0 x,λi H x H'=>H'=H/\∀xs,br K H a xs->xs[i]?=y0 x,λi H=>∃xs,br K H a xs/\xs.length<=i⟩
noncomputable def lA(K:Aa6)(a:Addr):It:=
 ⟨λi H=>∃xs x,cz K H a xs/\xs[i]?=y0 x,λi H x H'=>H'=H/\∀xs,cz K H a xs->xs[i]?=y0 x,λi H=>∃xs,cz K H a xs/\xs.length<=i⟩
def mW(a:Int)(n:Nat):It:=⟨λi _=>i<n,λi H x H'=>H'=H/\x=.int (a+i),λi _=>n<=i⟩
def AB{K:Aa6}(a it):lX P w K tg (lM K a) [it] it (λi h=>h.IsListIter it a i) where
 mem:=by simp
 obj:=λi h f b j=>by
  have e:=by simpa using j
  subst e;obtain⟨o,e,c,d⟩:=f;exact⟨o,e,λv z=>by rw[d]at z;cases z⟩
 keep:=λi h B f k=>f.at λo e=>k it (by simp) o e
 item:=by intro X r D t M i g s U H E I m f A;subst r D t;obtain⟨S,x,n,F⟩:=A;obtain⟨J,rv,p,W⟩:=I.list n;obtain⟨u,T,O⟩:=rv.get F;obtain⟨C,G,V,y,L,q⟩:=m it (by simp);refine wpAny_pyNext_list_item f p.isList (by simpa using T) λB l Y=>?_;have R:Inv X g U H {s with heap:=B}:=I.turned (λb o j e=>(Y.2 b j).trans e) C G y L q;obtain⟨o,e,c,d⟩:=id l;exact⟨u,rfl,pw e c d (by decide) ⟨x,H,R,O,⟨rfl,λys Q=>by rw[I.ea Q n];exact F⟩,l,λb j=>(m b j).1⟩⟩
 done:=by intro X r D t M i g s U H E I m f A;subst r D t;obtain⟨S,n,F⟩:=A;obtain⟨J,rv,p,W⟩:=I.list n;obtain⟨C,G,V,y,L,q⟩:=m it (by simp);have Z:=rv.length;exact wpAny_pyNext_list_end (I.ok.hd M) f p.isList (by simp;omega) λB N=>⟨rfl,I.turned (λb o j e=>N b o j e) C G y L q⟩
 self:=λ_ _ _ _ _ f h=>wpAny_pyIter_listiter f h
def Mj{K:Aa6}(a it):lX P w K tg (lA K a) [it] it (λi h=>h.IsTupleIter it a i) where
 mem:=by simp
 obj:=λi h f b j=>by
  have e:=by simpa using j
  subst e;obtain⟨o,e,c,d⟩:=f;exact⟨o,e,λv z=>by rw[d]at z;cases z⟩
 keep:=λi h B f k=>f.at λo e=>k it (by simp) o e
 item:=by intro X r D t M i g s U H E I m f A;subst r D t;obtain⟨S,x,n,F⟩:=A;obtain⟨J,rv,p,W⟩:=I.tuple n;obtain⟨u,T,O⟩:=rv.get F;obtain⟨C,G,V,y,L,q⟩:=m it (by simp);refine wpAny_pyNext_tuple_item f (p) (by simpa using T) λB l Y=>?_;have R:Inv X g U H {s with heap:=B}:=I.turned (λb o j e=>(Y.2 b j).trans e) C G y L q;obtain⟨o,e,c,d⟩:=id l;exact⟨u,rfl,pw e c d (by decide) ⟨x,H,R,O,⟨rfl,λys Q=>by rw[I.fH Q n];exact F⟩,l,λb j=>(m b j).1⟩⟩
 done:=by intro X r D t M i g s U H E I m f A;subst r D t;obtain⟨S,n,F⟩:=A;obtain⟨J,rv,p,W⟩:=I.tuple n;obtain⟨C,G,V,y,L,q⟩:=m it (by simp);have Z:=rv.length;exact wpAny_pyNext_tuple_end (I.ok.hd M) f (p) (by simp;omega) λB N=>⟨rfl,I.turned (λb o j e=>N b o j e) C G y L q⟩
 self:=λ_ _ _ _ _ f h=>wpAny_pyIter_tupleiter f h
def D7{K:Aa6}(it)(lo)(n):lX P w K tg (mW lo n) [it] it (λi h=>IsRangeIter h it (lo+(i:Nat)*1) ((n:Int)-(i:Nat)) 1) where
 mem:=by simp
 obj:=λi h a b d=>by
  have e:=by simpa using d
  subst e;exact⟨_,a,λv z=>by have J:=z;cases J⟩
 keep:=λi h q a k=>k it (by simp) _ a
 item:=by intro X y B A j i c s U H E I g a p;subst y B A;obtain⟨r,u,M,m,x,l⟩:=g it (by simp);have W:=Walks.range (prog:=X.prog) (w:=X.w) (I.ok.hd j) it lo 1 n;refine W.item i s _ _ p a λv q G D f L=>?_;obtain⟨t,rfl⟩:=D;have F:Inv X c U H {s with heap:=q,toks:=G}:=I.turned (λb o d e=>L b o (by simpa using d) e) r u m x l;refine⟨_,rfl,pw f rfl rfl (by decide) ⟨.int (lo+i),H,F,⟨t,?_⟩,⟨rfl,rfl⟩,f,λb d=>(g b d).1⟩⟩;rw[Int.mul_one]
 done:=by intro X y B A j i c s U H E I g a p;obtain⟨r,u,M,m,x,l⟩:=g it (by simp);exact wpAny_pyNext_range_end (I.ok.hd j) a (by have:n<=i:=p;omega) λq C=>⟨rfl,I.turned (λb o d e=>C b o d e) r u m x l⟩
 self:=λ_ _ _ _ _ a h=>wpAny_pyIter_rangeiter a h
section
variable{X:Cx}{tg:Expr}
def K7{a c:Int}(I:Inv X pins U H s)(h1:-(2^62)<=a)(i:a<2^62)(g:-(2^62)<=c)(f:c<2^62)
 (q:R (mW a (c-a).toNat) H):wpAny (model X.prog X.w) X.A (pyIter (.ref s.heap.objs.size)) (yC X pins U tg R) E {s with heap:=s.heap.push {cls:=.type "range",data:=.fields #[.int a t,.int c u,.int 1 v]},toks:=tk}:=by
 refine wpAny_pyIter_range (IsRange.new ..) (small_one h1 i g f) ?_;have d:Inv X pins U H {s with heap:=s.heap.push {cls:=.type "range",data:=.fields #[.int a t,.int c u,.int 1 v]},toks:=tk}:=I.kept fun b o e=>Heap.get?_push_of_some _ e;refine⟨(s.heap.push {cls:=.type "range",data:=.fields #[.int a t,.int c u,.int 1 v]}).objs.size,[(s.heap.push {cls:=.type "range",data:=.fields #[.int a t,.int c u,.int 1 v]}).objs.size],_,_,H,rfl,
  d.kept λb o e=>Aa2 _ e,D7 _ a (c-a).toNat,?_,λb h=>?_,q⟩
 .have e1:a+(0:Nat)*1=a:=by simp
  have e2:((c-a).toNat:Nat)-(0:Nat)=Builtin.Range.rangeSize a c 1:=by rw[rangeSize_one];split<;>omega
  rw[e1,e2];exact Ac _ rfl
 .have e:b=(s.heap.push {cls:=.type "range",data:=.fields #[.int a t,.int c u,.int 1 v]}).objs.size:=by simpa using h
  subst e;exact d.dN (Aa9 _) (d.aL.fresh (Aa9 _))
def MA(b:TA):TI:=λU H R=>b U H λa H1=>∃j:Int,a=[.int j]/\-(2^62)<=j/\j<2^62/\R (mW 0 j.toNat) H1
def CJ(f:Gl X "range")(n:X.mg "range"=none)(l:PA X [a] ta)(k:starEach [a] X.env=[(false,eval a X.env)]:=by rfl):PI X tg (.Call (.Name "range" p) [a] [] pos) (MA ta):=by
 intro b s U H R I h;refine Call_ (xr I f n boot_range (PyProof.Rows.callWith_type1 (aH (l pos b s U H _ I h) ?_) k rfl));rintro w v⟨o,u,g,m,c⟩;obtain⟨j,e,c,d,q⟩:=c;subst e;cases m with
|cons r i=>cases i;obtain⟨t,rfl⟩:=r;exact call_range_1 (K7 g (by omega) (by omega) c d (by simpa using q))
def EV(c:TI)(g:TG)(tb:TS):TS:=λD U H=>c U H λJ H1=>∃W:Nat->Nat->St->Hp->Prop,(∃m,W 0 m U H1)/\∀i m U H,W i m U H→
 (J.stop i H/\D.nx U H)\/(J.go i H/\∃N:St->Hp->Prop,(∀b H',N b H'->∃a,a<m/\W (i+1) a b H')/\∀x H',J.f6 i H x H'->g x U H' λd H2=>tb {D with nx:=N,ct:=N,bk:=D.nx} d H2)
def JE(a:List Addr)(h:Heap):List (Addr×Obj):=a.filterMap λb=>(h.get? b).map λo=>(b,o)
def Jf(a:b∈fp)(e:h.get? b=y0 o):(b,o)∈JE fp h:=Ao5.mpr ⟨b,a,by rw[e];rfl⟩
def zU(c:p∈JE fp h):p.1∈fp/\h.get? p.1=y0 p.2:=by
 obtain⟨b,d,e⟩:=Ao5.mp c;cases q:h.get? b with
|none=>rw[q]at e;cases e
|some o=>rw[q]at e;have a:=Ad5.inj e;subst a;exact⟨d,q⟩
def Inv.pinned (I:Inv X pins U H s)(f:∀b∈fp,bA X pins H b)(g:∀b∈fp,∃o,s.heap.get? b=y0 o/\∀v,o.data≠.cell v):Inv X (pins++JE fp s.heap) U H s:=
 I.bY λp j=>(Ad1.mp j).elim (λz=>I.pin p (Aa5 _ z)) λz=>by obtain⟨c,e⟩:=zU z;obtain⟨h,i,k,_⟩:=f p.1 c;obtain⟨o,a,d⟩:=g p.1 c;rw[e]at a;cases a;exact⟨e,h,i,k,d⟩
def Inv.bO (I:Inv X (pins++pl) U H s):Inv X pins U H s:=I.bY λp a=>I.pin p (Aa5 _ (Ac8 _ a))
def Ft(F:PassesOwn (model X.prog X.w) X.A X.env X.xe)(Y:X.calm=k9)(hi:PI X tg iter wi)(hg:PG X tg g)(l:c9 X body tb)
 (hs:∀x,foldedSetIterable iter X.env x=pure x:=by intro _;rfl):PS X (.For tg iter body [] pos) (EV wi g tb):=by
 intro a s U H D I h;refine wpAny_For (aH (hi a s U H _ I h) λv s1 h1=>aH h1 λitv s2 h2=>?_) hs;obtain⟨it,C,tn,J,H2,e,I2,T,R,f2,W,⟨m0,w0⟩,z⟩:=h2;subst e;have q:∀{t},(∀b∈C,t b=u0)->∀b∈C,bA X a t b:=λhn b l=>⟨hn b l,(f2 b l).2⟩;refine codeAny_forLoop_any (λn V=>∃i B t,Inv X a B t V/\tn i V.heap/\(∀b∈C,t b=u0)/\W i n B t) ?_ m0 ⟨0,U,H2,I2,R,λb l=>(f2 b l).1,w0⟩;rintro n Z ⟨i,K,L,S,E,A,w3⟩;rcases z i n K L w3 with⟨stop,qn⟩|⟨go,N,hN,step⟩
 .refine wpAny_passesOwn F (aH (T.done X rfl rfl rfl Y i a Z K L X.xe S (q A) E stop) ?_);rintro r s4 ⟨O,I4⟩;subst O;exact wpAny_execs_nil ⟨K,L,I4,qn⟩
 .refine wpAny_passesOwn F (aH (T.item X rfl rfl rfl Y i a Z K L X.xe S (q A) E go) ?_);rintro r s4 ⟨u,O,h4⟩;subst O;refine wpAny_passesOwn F (aH h4 ?_);rintro _ s5 ⟨x,H5,I5,r5,y5,y,P⟩;have M:=I5.pinned (q P) (T.obj _ _ y);refine wpAny_passesOwn F (aH (hg _ s5 K H5 x u _ M r5 (step x H5 y5)) ?_);rintro _ s6 ⟨U6,H6,I6,q6⟩;refine wpAny_passesOwn F (aH (l _ s6 U6 H6 _ I6 q6) λf Q w=>?_);have p:∀{c}{k},Inv X (a++JE C s5.heap) c k Q->N c k->∃m,m<n/\∃i B t,Inv X a B t Q/\tn i Q.heap/\(∀b∈C,t b=u0)/\W i m B t:=λ{c k} j G=>by obtain⟨m',hm,w7⟩:=hN c k G;refine⟨m',hm,i+1,c,k,j.bO,T.keep _ _ _ y λb l o e=>(j.pin (b,o) (Aa5 _ (Aa5 _ (Jf l e)))).1,λb l=>?_,w7⟩;obtain⟨o,e,d⟩:=T.obj _ _ y b l;exact(j.pin (b,o) (Aa5 _ (Aa5 _ (Jf l e)))).2.1
  cases f with
|next=>obtain⟨c,k,j,G⟩:=w;exact p j G
|cont=>obtain⟨c,k,j,G⟩:=w;exact p j G
|brk=>obtain⟨c,k,j,w⟩:=w;exact⟨c,k,j.bO,w⟩
|ret v=>obtain⟨x7,c,k,j,r7,w⟩:=w;exact⟨x7,c,k,j.bO,r7,w⟩
end
abbrev R2:=V->V->Hp->VK->Prop
def b7(X:Cx)(f:Value->Value->Sem Value)(r:R2):Prop:=
 ∀(pins:List (Addr×Obj))(s:Shared)(U:St)(H:Hp)(x y:V)(v u:Value)(Q:VK),Inv X pins U H s->RelV x v->RelV y u->r x y H Q→
  wpAny (model X.prog X.w) X.A (f v u) (EP X pins U Q) X.xe s
def nU(X:Cx)(f:Value->Sem Value)(r:V->Hp->VK->Prop):Prop:=
 ∀(pins:List (Addr×Obj))(s:Shared)(U:St)(H:Hp)(x:V)(v:Value)(Q:VK),Inv X pins U H s->RelV x v->r x H Q→
  wpAny (model X.prog X.w) X.A (f v) (EP X pins U Q) X.xe s
def Qn(X:Cx)(f:Value)(r:List V->Hp->VK->Prop):Prop:=
 ∀(pins:List (Addr×Obj))(s:Shared)(U:St)(H:Hp)(xs:List V)(a:List Value)(Q:VK),Inv X pins U H s->Vals xs a->r xs H Q→
  wpAny (model X.prog X.w) X.A (call f a) (EP X pins U Q) X.xe s
def Hg(X:Cx)(r:V->Hp->(Bool->Hp->Prop)->Prop):Prop:=
 ∀(pins:List (Addr×Obj))(s:Shared)(U:St)(H:Hp)(x:V)(v:Value)(Q:Bool->Hp->Prop),Inv X pins U H s->RelV x v->r x H Q→
  wpAny (model X.prog X.w) X.A (truthy v) (TP X pins U Q) X.xe s
def mB(r:R2)(a tb:TE):TE:=λU H Q=>a U H λx H1=>tb U H1 λy H2=>r x y H2 Q
def LY(r:V->Hp->VK->Prop)(a:TE):TE:=λU H Q=>a U H λx H1=>r x H1 Q
def rI(C:Int->Int->Prop)(g:Int->Int->V):R2:=λx y H Q=>∃i j,x=.int i/\y=.int j/\C i j/\Q (g i j) H
def gL(g:Int->Int->V):R2:=λx y H Q=>∃i j,x=.int i/\y=.int j/\Q (g i j) H
def rU(g:Int->V):V->Hp->VK->Prop:=λx H Q=>∃i,x=.int i/\Q (g i) H
section
variable{X:Cx}{a b c:Expr}{ta tb tc:TE}{pos:Pos}
def pG(l:PE X a ta)(k:PE X b tb){R:V->V->Hp->Prop}(I:Inv X pins U H s)
 (h:ta U H λx H1=>tb U H1 λy H2=>R x y H2){f:Value->Value->Sem Value}
 (c:∀v u M x y H2,Inv X pins U H2 M->RelV x v->RelV y u->R x y H2->wpAny (model X.prog X.w) X.A (f v u) Q X.xe M):
 wpAny (model X.prog X.w) X.A (eval a X.env) (λv L=>wpAny (model X.prog X.w) X.A (eval b X.env) (λu j=>wpAny (model X.prog X.w) X.A (f v u) Q X.xe j) X.xe L) X.xe s:=by
 refine aH (l pins s U H _ I h) ?_;rintro v o ⟨x,H1,g,m,n⟩;refine aH (k pins o U H1 _ g n) ?_;rintro u M ⟨y,H2,e,i,d⟩;exact c v u M x y H2 e m i d
def Hz(f:b7 X (binaryOp op) r)(l:PE X a ta)(k:PE X b tb):PE X (.BinOp a op b pos) (mB r ta tb):=by intro c s U H Q I h;exact wpAny_BinOp (pG l k I h λv u g x y j e i d q=>f c g U j x y v u Q e i d q)
def rB(d:nU X (unaryOp op) r)(j:PE X a ta):PE X (.UnaryOp op a pos) (LY r ta):=by intro b s U H Q I h;exact UnaryOp_ (aH (j b s U H _ I h) (by rintro v i⟨x,g,c,e,f⟩;exact d b i U g x v Q c e f))
def lP{g:Int->Int->Int}
 (a:∀i j t u s Q E,C i j->Q (.int (g i j) s.toks) {s with toks:=s.toks+1}->wpAny (model X.prog X.w) X.A (f (.int i t) (.int j u)) Q E s):
 b7 X f (rI C λi j=>.int (g i j)):=by
 intro b s U H x y v u Q I k d h;obtain⟨i,j,rfl,rfl,c,q⟩:=h;obtain⟨t,rfl⟩:=k;obtain⟨e,rfl⟩:=d;exact a i j t e s _ _ c ⟨.int (g i j),H,I.tok _,⟨_,rfl⟩,q⟩
def n0{g:Int->Int->Int}
 (a:∀i j t u s Q E,Q (.int (g i j) s.toks) {s with toks:=s.toks+1}->wpAny (model X.prog X.w) X.A (f (.int i t) (.int j u)) Q E s):
 b7 X f (gL λi j=>.int (g i j)):=by
 intro b s U H x y v u Q I e c h;obtain⟨i,j,rfl,rfl,q⟩:=h;obtain⟨t,rfl⟩:=e;obtain⟨d,rfl⟩:=c;exact a i j t d s _ _ ⟨.int (g i j),H,I.tok _,⟨_,rfl⟩,q⟩
def mY{g:Int->Int->Bool}
 (a:∀i j t u s Q E,Q (.bool (g i j)) s->wpAny (model X.prog X.w) X.A (f (.int i t) (.int j u)) Q E s):
 b7 X f (gL λi j=>.bl (g i j)):=by
 intro b s U H x y v u Q I e c h;obtain⟨i,j,rfl,rfl,q⟩:=h;obtain⟨t,rfl⟩:=e;obtain⟨d,rfl⟩:=c;exact a i j t d s _ _ ⟨.bl (g i j),H,I,rfl,q⟩
def rV(i j:Int):Prop:=0<j/\j<1073741824
def uJ(i j:Int):Prop:=0<=j/\j<=1000000/\i.natAbs<2^64
def kq(i j:Int):Prop:=(-(2^64)<i/\i<2^64)\/(-(2^64)<j/\j<2^64)
def kq.ok (h:kq i j):IntMulOk i j:=by
 rcases h with⟨a,b⟩|⟨a,b⟩
 .exact .of_left (intBits_le_64 a b)
 .exact .of_right (intBits_le_64 a b)
def Dz(k):(0:Int)<=2^k:=by exact Ao7 _
def BU:b7 X (binaryOp .Add) (gL λi j=>.int (i+j)):=n0 λ_ _ _ _ _ _ _ q=>add_int q
def Dd:b7 X (binaryOp .Sub) (gL λi j=>.int (i-j)):=n0 λ_ _ _ _ _ _ _ q=>sub_int q
def CI:b7 X (binaryOp .Mult) (rI kq λi j=>.int (i*j)):=lP λ_ _ _ _ _ _ _ a q=>mul_int q a.ok
def Bt:b7 X (binaryOp .FloorDiv) (rI rV λi j=>.int (i/j)):=lP λi j _ _ _ _ _ a q=>by have b:=a.1;have c:=a.2;exact floordiv_int (by omega) (by rw[Al7 i (by omega)];exact q) (.inl (PyProof.noPylong_small (by omega)))
def FA:b7 X (binaryOp .Mod) (rI (λ_ j=>0<j) λi j=>.int (i%j)):=lP λi j _ _ _ _ _ a q=>by have b:=a;exact mod_int' (by omega) (by rw[Int.fmod_eq_emod_of_nonneg i (by omega)];exact q)
def Bg:b7 X (binaryOp .Pow) (rI uJ λi j=>.int (i^j.toNat)):=lP λ_ _ _ _ _ _ _ a q=>pow_int_small a.1 a.2.1 a.2.2 q
def BH:b7 X (binaryOp .LShift) (rI uJ λi j=>.int (i*2^j.toNat)):=lP λ_ _ _ _ _ _ _ a q=>lshift_int_small a.1 a.2.1 a.2.2 q
def AF:b7 X (binaryOp .RShift) (rI (λ_ j=>0<=j) λi j=>.int (i/2^j.toNat)):=lP λi j _ _ _ _ _ a q=>
 rshift_int a (by rw[Al7 i (Dz _)];exact q)
def BJ:b7 X (binaryOp .BitAnd) (gL λi j=>.int (Builtin.bitAnd i j)):=n0 λ_ _ _ _ _ _ _ q=>and_int q
def Nb:b7 X (binaryOp .BitOr) (gL λi j=>.int (Builtin.bitOr i j)):=n0 λ_ _ _ _ _ _ _ q=>or_int q
def sG{g:Int->Int}
 (a:∀i t s Q E,Q (.int (g i) s.toks) {s with toks:=s.toks+1}->wpAny (model X.prog X.w) X.A (f (.int i t)) Q E s):
 nU X f (rU λi=>.int (g i)):=by
 intro b s U H x v Q I c h;obtain⟨i,rfl,q⟩:=h;obtain⟨t,rfl⟩:=c;exact a i t s _ _ ⟨.int (g i),H,I.tok _,⟨_,rfl⟩,q⟩
def BM:nU X (unaryOp .USub) (rU λi=>.int (-i)):=sG λ_ _ _ _ _ q=>neg_int q
def C7:nU X (unaryOp .Invert) (rU λi=>.int (Builtin.bitNot i)):=sG λ_ _ _ _ _ q=>invert_int q
end
section
variable{X:Cx}{a b c:Expr}{ta tb tc:TE}{pos:Pos}
def mO(I:Inv X pins U H s)(q:Q (.bl k) H)(e:k=k'):EP X pins U Q (.bool k') s:=by subst e;exact⟨.bl k,H,I,rfl,q⟩
def DJ:b7 X (compareOp .Lt) (gL λi j=>.bl (u9 (i<j))):=mY λ_ _ _ _ _ _ _ q=>lt_int q
def DF:b7 X (compareOp .LtE) (gL λi j=>.bl (u9 (i<=j))):=mY λ_ _ _ _ _ _ _ q=>le_int q
def Ik:b7 X (compareOp .Gt) (gL λi j=>.bl (u9 (j<i))):=mY λ_ _ _ _ _ _ _ q=>gt_int q
def C8:b7 X (compareOp .GtE) (gL λi j=>.bl (u9 (j<=i))):=mY λ_ _ _ _ _ _ _ q=>ge_int q
def tM(f:b7 X (compareOp op) r)(l:PE X a ta)(k:PE X b tb)(m:behindInMarks op b=y9):PE X (.Compare a [op] [b] pos) (mB r ta tb):=by intro c s U H Q I h;exact wpAny_Compare1 (pG l k I h λv u g x y j e i d q=>f c g U j x y v u Q e i d q) m
def sS(t:TE):TT:=λU H Q=>t U H λx H'=>∃k,x=.bl k/\Q k H'
def rn(l:b7 X (compareOp op) r)(B:PE X a ta)(A:PE X b tb)(E:behindInMarks op b=y9):PT X (.Compare a [op] [b] pos) (sS (mB r ta tb)):=by intro d s U H Q I h;refine wpAny_isTrue_Compare1 (aH (B d s U H _ I h) ?_) E;rintro v F⟨x,n,o,C,D⟩;refine aH (A d F U n _ o D) ?_;rintro u m⟨y,p,j,w,i⟩;refine aH (l d m U p x y v u _ j C w i) ?_;rintro c G⟨z,q,g,f,k,e,t⟩;subst e;cases f;exact wpAny_truthy_bool ⟨q,g,t⟩
def ot(r d:R2)(c tb e:TE):TE:=λU H Q=>c U H λx H1=>tb U H1 λy H2=>r x y H2 λz a=>∃k,z=.bl k∧
 (if k=k9 then e U a λf b=>d y f b Q else Q (.bl y9) a)
def EC(B:b7 X (compareOp op) r)(g:b7 X (compareOp op') r')(M:PE X a ta)(L:PE X b tb)(p:PE X c tc)
 (T:lastMarks [op,op'] [b,c]=false:=by with_unfolding_all rfl):PE X (.Compare a [op,op'] [b,c] pos) (ot r r' ta tb tc):=by
 intro f s U H Q I h;refine Compare_chain (aH (M f s U H _ I h) ?_) T;rintro v S⟨x,D,G,P,R⟩;refine chain_link (aH (L f S U D _ G R) ?_);rintro u C⟨y,J,w,m,t⟩;refine aH (B f C U J x y v u _ w P m t) ?_;rintro d E⟨z,j,i,n,k,e,l⟩;subst e;cases n;refine wpAny_truthy_bool ?_;cases k with
|false=>exact ite_ff ⟨.bl y9,j,i,rfl,l⟩
|true=>exact ite_tt (chain_last (aH (p f E U j _ i l) (by rintro F N⟨O,o,K,q,A⟩;exact g f N U o y O u F Q K m q A)))
def Nh(D:b7 X (compareOp op) r)(g:b7 X (compareOp op') r')(R:PE X a ta)(P:PE X b tb)(p:PE X c tc)
 (hm:lastMarks [op,op'] [b,c]=false:=by with_unfolding_all rfl):PT X (.Compare a [op,op'] [b,c] pos) (sS (ot r r' ta tb tc)):=by
 intro f s U H Q I h;refine isTrue_chain (aH (R f s U H _ I h) ?_) hm;rintro v Z⟨x,F,L,V,W⟩;refine test_link (aH (P f Z U F _ L W) ?_);rintro u E⟨y,M,B,m,w⟩;refine aH (D f E U M x y v u _ B V m w) ?_;rintro d J⟨z,j,i,n,k,e,l⟩;subst e;cases n;refine wpAny_truthy_bool ?_;cases k with
|false=>obtain⟨k',t,A⟩:=l;cases t;exact ite_ff ⟨j,i,A⟩
|true=>refine ite_tt (test_last (aH (p f J U j _ i l) ?_));rintro K S⟨T,o,N,q,C⟩;refine aH (g f S U o y T u K _ N m q C) ?_;rintro d' s5 ⟨z2,G,I5,Y,k2,e2,O⟩;subst e2;cases Y;exact wpAny_truthy_bool ⟨G,I5,O⟩
def kl(K:Aa6)(x:V)(H:Hp)(k:Bool):Prop:=
 match x with
|.ak=>k=y9
|.bl b=>k=b
|.int i=>k=(i !=0)
|.str y=>y.length<=sizeLine/\k=((y.length:Int) !=0)
|.ke y=>y.size<=sizeLine/\k=((y.size:Int) !=0)
|.ref p=>(∃xs,br K H p xs/\k=!xs.isEmpty)\/(∃xs,cz K H p xs/\k=!xs.isEmpty)\/∃kvs,H p=y0 (.dK kvs)/\k=!kvs.isEmpty
|_=>False
def DV(r:KV kvs vs):(!vs.isEmpty)=!kvs.isEmpty:=by cases r<;>rfl
def XI(r:Vals xs its):(!its.toArray.isEmpty)=!xs.isEmpty:=by cases r<;>simp
def WF:(sizeLine:Nat)<2^63:=by rw[sizeLine_eq];decide
def nv:Hg X (λx H Q=>∃k,kl X.K x H k/\Q k H):=by
 intro n s U H x v Q I d h;obtain⟨k,e,q⟩:=h;have A:=WF;have B:=sizeLine_eq;cases x with
|ak=>cases d;have a:=e;subst a;exact truthy_none ⟨H,I,q⟩
|bl b=>cases d;have a:=e;subst a;exact wpAny_truthy_bool ⟨H,I,q⟩
|int i=>obtain⟨t,rfl⟩:=d;have a:=e;subst a;exact PySem.P.truthy_int ⟨H,I,q⟩
|str y=>obtain⟨t,rfl⟩:=d;obtain⟨w,a⟩:y.length<=sizeLine/\k=((y.length:Int) !=0):=e;subst a;exact PySem.P.truthy_str (by omega) ⟨H,I.tok _,q⟩
|ke y=>obtain⟨t,rfl⟩:=d;obtain⟨w,a⟩:y.size<=sizeLine/\k=((y.size:Int) !=0):=e;subst a;exact PySem.W.truthy_bytes (by omega) ⟨H,I.tok _,q⟩
|ref p=>
  cases d;have a:=e;rcases a with⟨z,g,a⟩|⟨z,g,a⟩|⟨f,g,a⟩
  .subst a;obtain⟨l,r,pl,o⟩:=I.list g;have c:=r.length;exact wpAny_truthy_list pl.isList (by simp only[Ab2];omega) ⟨H,I.tok _,by rw[XI r];exact q⟩
  .subst a;obtain⟨l,r,pl,o⟩:=I.tuple g;have c:=r.length;exact truthy_tuple pl (by simp only[Ab2];omega) ⟨H,I.tok _,by rw[XI r];exact q⟩
  .subst a;obtain⟨o,u,j,r,m⟩:f.length<=sizeLine/\(p==sysModules)=y9/\∃j,KV f j/\s.heap.DictOf (xl X.prog X.w) p j:=I.aL p _ g;have c:=Paired.length r;exact wpAny_truthy_dict u m (by omega) ⟨H,I.tok _,by rw[DV r];exact q⟩
|_=>exact(e).elim
def DI(f:PE X a ta)(c:∀j,isTrue a X.env j=(do let v←j;standAt a.pos;holding [v] (truthy v))):
 PT X a (λU H Q=>ta U H λx H'=>∃k,kl X.K x H' k/\Q k H'):=by
 intro b s U H Q I h;exact isTrue_plain (aH (f b s U H _ I h) (by rintro v l⟨x,d,e,g,i⟩;exact nv b l U d x v Q e g i)) (c _)
def FX:b7 X (binaryOp .Add) (λx y H Q=>∃i j,x=.str i/\y=.str j/\i.length+j.length<=sizeLine/\Q (.str (i++j)) H):=by intro a s U H x y v u Q I d b h;obtain⟨i,j,rfl,rfl,e,q⟩:=h;obtain⟨t,rfl⟩:=d;obtain⟨c,rfl⟩:=b;exact add_str (λc f=>⟨.str (i++j),H,I.tok _,⟨_,rfl⟩,q⟩) e
def jE(r:Vals [x] us):∃u,us=[u]/\RelV x u:=by
 cases r with
|cons b a=>cases a;exact⟨_,rfl,b⟩
def lH(r:Vals [x,y] us):∃u w',us=[u,w']/\RelV x u/\RelV y w':=by
 cases r with
|cons c d=>
  cases d with
|cons a b=>cases b;exact⟨_,_,rfl,c,a⟩
def Cm(c:X.calm=k9):Qn X (.builtin "min") (fun xs H Q=>∃i j,xs=[.int i,.int j]/\Q (.int (if j<i then j else i)) H):=by
 intro b s U H xs l Q I r h;obtain⟨i,j,rfl,q⟩:=h;obtain⟨u,e,rfl,⟨t,rfl⟩,⟨d,rfl⟩⟩:=lH r;refine min_two_ints (I.ok.hd c) λf g k=>⟨_,H,I.kept k,?_,q⟩;by_cases a:j<i
 .rw[if_pos a,if_pos a];exact⟨_,rfl⟩
 .rw[if_neg a,if_neg a];exact⟨_,rfl⟩
def jV:Qn X (.type "int") (fun xs H Q=>(∃i,xs=[.int i]/\Q (.int i) H)\/∃k,xs=[.bl k]/\Q (.int (if k then 1 else 0)) H):=by
 intro a s U H xs c Q I r h;rcases h with⟨i,rfl,q⟩|⟨k,rfl,q⟩
 .obtain⟨u,rfl,t,rfl⟩:=jE r;exact call_int_int ⟨.int i,H,I,⟨_,rfl⟩,q⟩
 .obtain⟨u,rfl,b⟩:=jE r;cases b;exact call_int_bool ⟨.int (if k then 1 else 0),H,I.tok _,⟨_,rfl⟩,q⟩
def Z0:Qn X (.builtin "divmod") (fun xs H Q=>∃i j,xs=[.int i,.int j]/\rV i j/\∀p,H p=none->Q (.ref p) (aJ H p (.tup [.int (i/j),.int (i%j)]))):=by intro a s U H xs k Q I r h;obtain⟨i,j,rfl,⟨g,l⟩,q⟩:=h;obtain⟨u,f,rfl,⟨t,rfl⟩,⟨d,rfl⟩⟩:=lH r;refine divmod_int (by omega) ?_ (.inl (PyProof.noPylong_small (by omega)));rw[Al7 i (by omega),Int.fmod_eq_emod_of_nonneg i (by omega)];have c:=I.aL.fresh (Aa9 _);refine⟨.ref s.heap.objs.size,_,?_,rfl,q _ c⟩;refine I.laid (λb o e=>Aa2 _ e) (Aa9 _) ⟨by simp only[Aa7,Af3];rw[sizeLine_eq];decide,[.int (i/j) s.toks,.int (i%j) (s.toks+1)],.cons ⟨_,rfl⟩ (.cons ⟨_,rfl⟩ .nil),?_⟩;exact⟨_,Ac s.heap rfl,rfl,rfl,0,rfl⟩
end
structure eM(h:Heap)(x dx C:Addr)(mA:Str->Option Value):Prop where
 obj:h.get? x=y0 (Aj0 C dx)
 ns:h.Ns1 dx mA
 ne:dx≠x
def wT{h:Heap}(n:h.Ns1 dx mA):∃j,h.get? dx=y0 j/\∀name,Am8 name j=y0 (mA name):=by
 obtain⟨o,c,m,f,k,d,_,l⟩:=n;refine⟨o,f,λname=>?_⟩;have e:=l name;unfold nsFind findBy at e;rw[←Array.find?_toList]at e;unfold Am8;rw[k];dsimp only;split
 .rename_i y q;rw[q]at e;exact congrArg y0 e
 .rename_i q;rw[q]at e;have a:c.toList.any (·.refKey)=false:=by rw[Ak2];intro y i;obtain⟨z,t,b⟩:=d y (Array.mem_toList_iff.mp i);simp[DictEntry.refKey,b]
  have g:¬c.toList.any (·.refKey)=true:=by rw[a];exact Ab8
  rw[if_neg g];exact congrArg y0 e
def eM.look (I:eM h x dx C mA):∃j,PySem.W.InstAt h x (Aj0 C dx) C (y0 j)/\∀name,Am8 name j=y0 (mA name):=
 let⟨j,a,b⟩:=wT I.ns
 ⟨j,⟨I.obj,rfl,rfl,a⟩,b⟩
section
variable{prog:Program}{w:World}{A:Around}{E:Value->Shared->Prop}{s:Shared}{K:Aa6}{x dx C f:Addr}{mA:Str->Option Value}{name:Str}{v:Value}
def L6(X:K.In s.heap)(I:eM s.heap x dx C mA)(f:Am0 K C name=k9)(c:PySem.W.hasDictIn K C=k9)
 (e:Aj8 K (.ref C) name=y0 u0)(d:mA name=y0 v)(a:PySem.W.handedIn v=k9)(h:Q v {s with toks:=s.toks+1}):
 wpAny (model prog w) A (getAttr (.ref x) name expr) Q E s:=by
 obtain⟨g,J,b⟩:=I.look;exact PySem.W.get_value X J (An2 f).1 (PySem.W.findObj_own c e rfl (by rw[b,d])) a h
def FW(X:K.In s.heap)(I:eM s.heap x dx C mA)(a:Am0 K C name=k9)
 (b:Aj8 K (.ref C) name=y0 (y0 (.ref f)))(g:PySem.W.isFn K (.ref f)=k9)(e:mA name=u0)(h:Q (.ref f,[.ref x]) s):
 wpAny (model prog w) A (getMethod (.ref x) name pl) Q E s:=by
 obtain⟨d,J,c⟩:=I.look;exact PySem.W.method_fn X J (An2 a).1 (An2 a).2 b (beq_iff_eq.mp g) (by show(Am8 name d).map (·.isSome)=y0 y9;rw[c,e];rfl) h
def B1(X:K.In s.heap)(I:eM s.heap x dx C mA)
 (o:PySem.W.findIn K (.ref C) "__setattr__"=some (some (.builtin "object.__setattr__")))(n:PySem.W.plainOver K C=true)(q:PySem.W.takerIn K C name=some none)(l:PySem.W.hasDictIn K C=true)
 (k:PySem.Within mA ns)(hsz:ns.length<=sizeLine)
 (h:∀h',eM h' x dx C (λy=>if y=name then y0 v else mA y)->Ag6 dx s.heap h'->Q () {s with heap:=h',toks:=s.toks+2}):
 wpAny (model prog w) A (setAttr (.ref x) name v) Q E s:=by
 obtain⟨r,J,u⟩:=I.look;refine PySem.W.set_plain X J o (PySem.W.osa_open X J n q λb=>?_);obtain⟨cd,i,e⟩:=PySem.W.any_some l;have m:=I.obj;refine wpAny_bind (wpAny_pure (wpAny_bind (wpAny_bind (wpAny_loadPart m (wpAny_bind (PySem.W.Looks.here (PySem.W.looks_clsIn X i) ?_))))));rw[e];refine wpAny_pure (wpAny_bind (wpAny_pure (wpAny_bind ?_)));refine wpAny_nsSet1 I.ns λh' a c=>?_;obtain⟨t,j,p,f,d,g⟩:=a.count (PySem.Within.cons name v k);refine wpAny_bind (wpAny_lookBehind f (by rw[d];exact pastItsLine_dict (Ab6 g (by rw[Aa7];omega))) ?_);exact wpAny_pure (h _ ⟨(c.2 _ (Ne.symm I.ne)).trans I.obj,a,I.ne⟩ c)
def Fs(X:K.In s.heap)(c:PySem.W.makesIn K C=k9)
 (e:PySem.W.findIn K (.ref C) "__init__"=some (some (.ref f)))(b:PySem.W.typeIn K (.ref f)=some (.type "function"))
 (h:codeAny (model prog w) (A.under (.builtin "type.__call__" ⟨.ref C::vs,kw⟩)) (.call (.ref f) ⟨.ref (s.heap.objs.size+1)::vs,kw⟩) (PySem.W.InitBack (s.heap.objs.size+1) R)
   {s with heap:=(s.heap.push Ah2).push (Aj0 C s.heap.objs.size)}):
 codeAny (model prog w) A (.call (.ref C) ⟨vs,kw⟩) R s:=by
 obtain⟨i,g,d,t,j⟩:=s;exact PySem.W.make_core (PySem.W.makes_of X c) (PySem.W.looks_findIn X e) (λa=>PySem.W.bind_fn X a b) (.inl rfl) h
end
noncomputable def aS(f:Str)(v:V):List (Str×V)->List (Str×V)
|[]=>[(f,v)]
|(g,x)::r=>if g=f then(g,v)::r else(g,x)::aS f v r
theorem zC(f g)(v):∀fs:List (Str×V),(aS f v fs).lookup g=if g=f then y0 v else fs.lookup g
|[]=>by
  show Ah1 g [(f,v)]=_;by_cases h:g=f
  .have a:=beq_iff_eq.mpr h;simp only[Ah1,a,if_pos h]
  .have a:=beq_eq_false_iff_ne.mpr h;simp only[Ah1,a,if_neg h]
|(k,x)::r=>by
  have c:=zC f g v r;rw[show aS f v ((k,x)::r)=(if k=f then(k,v)::r else(k,x)::aS f v r)from rfl];by_cases b:k=f
  .rw[if_pos b];by_cases h:g=k
   .have a:=beq_iff_eq.mpr h;simp only[Ah1,a,if_pos (h.trans b)]
   .have a:=beq_eq_false_iff_ne.mpr h;simp only[Ah1,a,if_neg (λe:g=f=>h (e.trans b.symm))]
  .rw[if_neg b];by_cases h:g=k
   .have a:=beq_iff_eq.mpr h;simp only[Ah1,a,if_neg (λe:g=f=>b (h.symm.trans e))]
   .have a:=beq_eq_false_iff_ne.mpr h;simp only[Ah1,a];exact c
theorem qC(f)(v):∀fs:List (Str×V),f∈(aS f v fs).map (·.1)/\∀g,g∈fs.map (·.1)->g∈(aS f v fs).map (·.1)
|[]=>⟨by simp[aS],λg h=>by simp at h⟩
|(k,x)::r=>by
  obtain⟨i1,i2⟩:=qC f v r;rw[show aS f v ((k,x)::r)=(if k=f then(k,v)::r else(k,x)::aS f v r)from rfl];by_cases a:k=f
  .rw[if_pos a];subst a;exact⟨by simp,λg h=>by simpa using h⟩
  .rw[if_neg a];refine⟨?_,λg h=>?_⟩
   .rw[Ab4];exact Aa3 _ i1
   .rw[Ab4]at h⊢;rcases Ab7.mp h with e|e
    .exact Ab7.mpr (.inl e)
    .exact Aa3 _ (i2 g e)
theorem wE(f)(v):∀fs:List (Str×V),(aS f v fs).length<=fs.length+1
|[]=>by simp[aS]
|(k,x)::r=>by
  have b:=wE f v r;rw[show aS f v ((k,x)::r)=(if k=f then(k,v)::r else(k,x)::aS f v r)from rfl];by_cases a:k=f
  .rw[if_pos a,Aa7,Aa7];omega
  .rw[if_neg a,Aa7,Aa7];omega
def bW.some_of (r:bW (y0 v) o):∃u,o=y0 u/\RelV v u:=by
 cases o with
|none=>exact(r).elim
|some u=>exact⟨u,rfl,r⟩
def bW.none_of (r:bW u0 o):o=none:=by
 cases o with
|none=>rfl
|some u=>exact(r).elim
def JX(r:RelV v u):PySem.W.handedIn u=true:=by
 cases v with
|ak=>cases(r);rfl
|bl b=>cases(r);rfl
|int i=>obtain⟨t,e⟩:=(r);cases e;rfl
|str x=>obtain⟨t,e⟩:=(r);cases e;rfl
|ke b=>obtain⟨t,e⟩:=(r);cases e;rfl
|iI b=>obtain⟨t,e⟩:=(r);cases e;rfl
|ref a=>cases(r);rfl
|ty n=>cases(r);rfl
section
variable{P:Program}{w:World}{H H':Hp}{h h':Heap}{a C dx:Addr}{fs fs':List (Str×V)}
def XM(b:c8 P w H h)(e:H a=y0 (.ins C dx fs)):∃mA,eM h a dx C mA/\(∀f,bW (fs.lookup f) (mA f))/\PySem.Within mA (fs.map (·.1))/\fs.length<=1000/\H dx=y0 (.own a):=by obtain⟨d,z,ne,c,mA,n,r,q⟩:=(show aN P w H h a (.ins C dx fs)from b a _ e);exact⟨mA,⟨c,n,ne⟩,r,q,z,d⟩
end
structure dm(K:Aa6)(C:Addr):Prop where
 pg:Am0 K C Str.empty=k9
 hd:PySem.W.hasDictIn K C=k9
 po:PySem.W.plainOver K C=k9
 sa:PySem.W.findIn K (.ref C) "__setattr__"=some (some (.builtin "object.__setattr__"))
def dm.get {K:Aa6}(c:dm K C)(f):Am0 K C f=true:=c.pg
def cj(K:Aa6)(C:Addr)(f:Str):Prop:=Aj8 K (.ref C) f=y0 u0
def cj.lU {K:Aa6}(n:cj K C f):PySem.W.takerIn K C f=y0 none:=by unfold PySem.W.takerIn;rw[show Aj8 K (.ref C) f=y0 u0 from n];rfl
structure Of(K:Aa6)(C:Addr)(f:Str)(v:V)(u:Value):Prop where
 at_:Aj8 K (.ref C) f=y0 (y0 u)
 rel:RelV v u
 get:PySem.W.specialIn K u "__get__"=some none
 cp:PySem.W.copiedNames.contains f=y9
structure nG(K:Aa6)(C:Addr)(m:Str)(f:Addr):Prop where
 at_:Aj8 K (.ref C) m=y0 (y0 (.ref f))
 fn:PySem.W.isFn K (.ref f)=k9
 kp:Ah K (.ref f)=k9
section
variable{X:Cx}{pins:List (Addr×Obj)}{U:St}{H:Hp}{s:Shared}{a C dx:Addr}{fs:List (Str×V)}{f:Str}{v:V}{A:Around}{E:Value->Shared->Prop}
def Bn(I:Inv X pins U H s)(e:H a=y0 (.ins C dx fs))(c:dm X.K C)(n:cj X.K C f)(l:fs.lookup f=y0 v)
 (h:∀u s',Inv X pins U H s'->RelV v u->Q u s'):wpAny (model X.prog X.w) A (getAttr (.ref a) f b) Q E s:=by
 obtain⟨i,O,r,_,_,_⟩:=XM I.aL e;obtain⟨u,g,d⟩:=bW.some_of (by rw[←l];exact r f);exact L6 I.bI O (c.get f) c.hd n g (JX d) (h u _ (I.tok _) d)
def Ei(I:Inv X pins U H s)(e:H a=y0 (.ins C dx fs))(c:dm X.K C)(k:nG X.K C m g)(l:fs.lookup m=u0)
 (h:Q (.ref g,[.ref a]) s):wpAny (model X.prog X.w) A (getMethod (.ref a) m pl) Q E s:=by
 obtain⟨d,O,r,_,_,_⟩:=XM I.aL e;have b:=bW.none_of (by rw[←l];exact r m);exact FW I.bI O (c.get m) k.at_ k.fn b h
def FP(I:Inv X pins U H s)(e:H a=y0 (.ins C dx fs))(c:dm X.K C)(n:cj X.K C f)(D:fs.length<1000)(m:RelV y u)
 (h:∀s',Inv X pins U (aJ H a (.ins C dx (aS f y fs))) s'->Q () s'):wpAny (model X.prog X.w) A (setAttr (.ref a) f u) Q E s:=by
 obtain⟨j,O,r,k,_,i⟩:=XM I.aL e;have x:(fs.map (·.1)).length<=sizeLine:=by rw[Aa,sizeLine_eq];omega
 refine B1 I.bI O c.sa c.po n.lU c.hd k x λt d B=>h _ ?_;have w:∃o,t.get? dx=y0 o:=let⟨o,_,_,l,_⟩:=d.ns;⟨o,l⟩;refine I.write (by rw[e];exact True.intro) (.inr i) (λb q v z=>(B.2 b v).trans z) w ?_;refine⟨by rw[ja O.ne];exact i,?_,O.ne,d.obj,_,d.ns,λg=>?_,λg p=>?_⟩
 .have:=wE f y fs;omega
 .show bW ((aS f y fs).lookup g) (if g=f then y0 u else j g);rw[zC];by_cases q:g=f
  .rw[if_pos q,if_pos q];exact m
  .rw[if_neg q,if_neg q];exact r g
 .by_cases q:g=f
  .rw[q];exact(qC f y fs).1
  .refine(qC f y fs).2 g (k g λz=>p ?_);show(if g=f then y0 u else j g)=u0;rw[if_neg q];exact z
def Inv.made (I:Inv X pins U H s):Inv X pins U (aJ (aJ H s.heap.objs.size (.own (s.heap.objs.size+1))) (s.heap.objs.size+1) (.ins C s.heap.objs.size []))
 {s with heap:=(s.heap.push Ah2).push (Aj0 C s.heap.objs.size)}:=by
 have e1:(s.heap.push Ah2).get? s.heap.objs.size=y0 Ah2:=Ac s.heap rfl;have e2:=by
  have:=Ac (s.heap.push Ah2) (o:=Aj0 C s.heap.objs.size) rfl
  rwa [Af2]at this
 have d:(s.heap.push Ah2).Ns s.heap.objs.size (λ_=>u0):=⟨Ah2,#[],_,e1,rfl,(λe c=>absurd c (by simp)),λ_=>rfl⟩;have a:=I.laid (o:=.own (s.heap.objs.size+1)) (t':=s.toks) (λb u q=>Aa2 _ q) (Aa9 _) ⟨_,e1⟩;refine a.laid (λb u q=>Aa2 _ q) (Ap4 (Af2 _ _)) ?_;have ne:s.heap.objs.size≠s.heap.objs.size+1:=Ac2 (Ae9 _);refine⟨by rw[ja ne,zb],Af _,ne,e2,λ_=>u0,(Heap.Ns1.of_empty d).at λo q=>Aa2 _ q,λ_=>True.intro,λy f=>absurd rfl f⟩
def y6(a:attributeBase e f env (eval e env)=eval e env)
 (h:wpAny (model prog w) A (eval e env) (λo j=>wpAny (model prog w) A (getAttr o f k9) Q E j) E s):wpAny (model prog w) A (eval (.Attribute e f pos) env) Q E s:=
 Attribute_any_ h (by rw[arm_eval_Attribute,a])
end
def Ia(K:Aa6)(b:TE)(f:Str):TE:=λU H Q=>b U H λx H1=>∃a C dx fs v,x=.ref a/\H1 a=y0 (.ins C dx fs)/\dm K C/\cj K C f/\fs.lookup f=y0 v/\Q v H1
def EF(K:Aa6)(b c:TE)(f:Str):TS:=λD U H=>c U H λy H1=>b U H1 λx H2=>∃a C dx fs,x=.ref a/\H2 a=y0 (.ins C dx fs)/\dm K C/\cj K C f/\fs.length<1000∧
 D.nx U (aJ H2 a (.ins C dx (aS f y fs)))
section
variable{X:Cx}{o e value:Expr}{f:Str}{pos pos' tpos:Pos}{ta tv:TE}
def MM(g:PE X e ta)(o:attributeBase e f X.env (eval e X.env)=eval e X.env):PE X (.Attribute e f pos) (Ia X.K ta f):=by intro b s U H Q I h;refine y6 o (aH (g b s U H _ I h) ?_);rintro u y ⟨x,j,m,k,a,C,w,fs,v,ex,p,c,n,l,q⟩;subst ex;obtain rfl:u=Value.ref a:=k;exact Bn m p c n l λt r d i=>⟨v,j,d,i,q⟩
def tV(v:PE X o ta)(m:PE X value tv)(t:swapsWith value (y0 (.Attribute o f pos')) pos.line X.env=pure y9):PS X (.Assign [.Attribute o f pos'] value pos) (EF X.K ta tv f):=by intro b s U H D I h;refine plainObj_wpAny_Assign_Attribute (aH (m b s U H _ I h) ?_) t;rintro u z⟨y,k,r,g,q⟩;refine aH (v b z U k _ r q) ?_;rintro d A⟨x,E,j,p,a,C,F,fs,ex,w,c,n,l,i⟩;subst ex;obtain rfl:d=Value.ref a:=p;exact FP j w c n l g λB e=>⟨U,_,e,i⟩
end
section
variable{X:Cx}{pins:List (Addr×Obj)}{U:St}{H:Hp}{s:Shared}{A:Around}{E:Value->Shared->Prop}{Q:Value->Shared->Prop}{c:Value}{b:Bool}
inductive fP(K:Aa6)(H:Hp):V->Value->Prop where
|ak:fP K H .ak (.type "NoneType")
|bl (x:Bool):fP K H (.bl x) (.type "bool")
|int (i:Int):fP K H (.int i) (.type "int")
|str (x:Str):fP K H (.str x) (.type "str")
|iI (x:UInt64):fP K H (.iI x) (.type "float")
|lst {a:Addr}{xs:List V}(e:H a=y0 (.lst xs)):fP K H (.ref a) (.type "list")
|eA {a:Addr}{o:Obj}{xs:List V}(e:H a=y0 (.eA o (.lst xs))):fP K H (.ref a) (.type "list")
|tup {a:Addr}{xs:List V}(e:H a=y0 (.tup xs)):fP K H (.ref a) (.type "tuple")
|dK {a:Addr}{kvs:List (cN×V)}(e:H a=y0 (.dK kvs)):fP K H (.ref a) (.type "dict")
|dT {a:Addr}{kvs:List (List cN×V)}(e:H a=y0 (.dT kvs)):fP K H (.ref a) (.type "dict")
|ins {a C dx:Addr}{fs:List (Str×V)}(e:H a=some (.ins C dx fs))(cl:dm K C)(ha:PySem.W.findIn K (.ref C) "__class__"=some (some (.builtin "object.__class__")))
  (hn:PySem.W.specialIn K (.builtin "object.__class__") "__get__"=some (some (.builtin "getset_descriptor.__get__")))(htk:PySem.W.takesIn K (.builtin "object.__class__")=some true)
  (hm:PySem.W.mroIn K C (.type "object")=some true):fP K H (.ref a) (.ref C)
def jk(I:Inv X pins U H s)(d:RelV x u)(ty:fP X.K H x t)(e:Am9 X.K t c=y0 b)(h:∀tk,Q (.bool b) {s with toks:=tk}):
 wpAny (model X.prog X.w) A (call (.builtin "isinstance") [u,c]) Q E s:=by
 cases ty with
|ak=>cases(d);exact Ae0 PySem.W.kitx_none I.bI True.intro e (λz=>nomatch z) h
|bl y=>cases(d);exact Ae0 PySem.W.kitx_bool I.bI True.intro e (λz=>nomatch z) h
|int i=>obtain⟨t,q⟩:=(d);cases q;exact Ae0 PySem.W.kitx_int I.bI True.intro e (λz=>nomatch z) h
|str y=>obtain⟨t,q⟩:=(d);cases q;exact Ae0 PySem.W.kitx_str I.bI True.intro e (λz=>nomatch z) h
|iI y=>obtain⟨t,q⟩:=(d);cases q;exact Ae0 PySem.W.kitx_float I.bI True.intro e (λz=>nomatch z) h
|@lst a k f=>cases(d);obtain⟨_,_,n,_,g⟩:=(show aN X.prog X.w H s.heap a (.lst k)from I.aL a _ f);exact Ae0 Ao3 I.bI ⟨_,g,rfl⟩ e (λz=>nomatch z) h
|@eA a G k f=>cases(d);obtain⟨_,_,_,n,_,g⟩:=(show aN X.prog X.w H s.heap a (.eA G (.lst k))from I.aL a _ f);exact Ae0 Ao3 I.bI ⟨_,g,rfl⟩ e (λz=>nomatch z) h
|@tup a k f=>cases(d);obtain⟨_,_,_,p⟩:=(show aN X.prog X.w H s.heap a (.tup k)from I.aL a _ f);obtain⟨o,g,l,_⟩:=p;exact Ae0 PySem.W.kitx_tuple I.bI ⟨o,g,l⟩ e (λz=>nomatch z) h
|@dK a j f=>cases(d);obtain⟨_,_,K,_,p⟩:=(show aN X.prog X.w H s.heap a (.dK j)from I.aL a _ f);obtain⟨o,v,w,g,l,_⟩:=p;exact Ae0 PySem.W.kitx_dict I.bI ⟨o,g,l.1⟩ e (λz=>nomatch z) h
|@dT a j f=>cases(d);obtain⟨_,_,k,_,o,v,w,g,l,_⟩:=(show aN X.prog X.w H s.heap a (.dT j)from I.aL a _ f);exact Ae0 PySem.W.kitx_dict I.bI ⟨o,g,l.1⟩ e (λz=>nomatch z) h
|@ins a C N fs f r D B m F=>cases(d);obtain⟨M,O,_⟩:=XM I.aL f;obtain⟨L,J,_⟩:=O.look;exact Ae0 (PySem.W.kitx_own (r.get _) r.hd D B m F) I.bI J e (λz=>nomatch z) h
end
structure aY(k:Nat)(A:Around):Prop where
 hd:4<=k->A.handled=u0
 dp:A.depth+k+5<recursionLimit
 un:A.units+16*k+200<cLine
def aY.mono (r:aY k A)(h:j<=k):aY j A:=⟨λq=>r.hd (Ab6 q h),by have:=r.dp;omega,by have:=r.un;omega⟩
theorem aY.deeper (r:aY (k+1) A)(env):aY k (A.deeper env):=
 ⟨λq=>r.hd (Ap1 q),by have:=r.dp;show A.depth+1+k+5<_;omega,by have:=r.un;show A.units+3+16*k+200<_;omega⟩
theorem aY.in1 (r:aY (k+1) A):aY k A.in1:=
 ⟨λq=>r.hd (Ap1 q),by have:=r.dp;show A.depth+k+5<_;omega,by have:=r.un;show A.units+1+16*k+200<_;omega⟩
def Ml{A:Around}:(A.under (.builtin "type.__call__" ⟨.ref C::us,kw⟩)).depth=A.depth+1:=by
 first|rfl|simp[guardIds]
def FQ{A:Around}:(A.under (.builtin "type.__call__" ⟨.ref C::us,kw⟩)).units=A.units+1:=by
 first|rfl|simp[Code.isFrame]
def aY.make (r:aY (k+1) A)(C)(us)(kw):aY k (A.under (.builtin "type.__call__" ⟨.ref C::us,kw⟩)):=
 ⟨λq=>r.hd (Ap1 q),by have:=r.dp;rw[Ml];omega,by have:=r.un;rw[FQ];omega⟩
theorem aY.depth (r:aY k A):A.depth<recursionLimit:=by have:=r.dp;omega
def nC:TA:=λ_ H Q=>Q [] H
def om(a:TE)(tr:TA):TA:=λU H Q=>a U H λx H1=>tr U H1 λxs H2=>Q (x::xs) H2
section
variable{X:Cx}{e:Expr}{es:List Expr}{te:TE}{t:TA}{pos:Pos}
def Jj:PA X [] nC:=λ_ _ _ _ H Q I h=>Calls.spliced_nil ⟨[],H,I,.nil,h⟩
def jd(m:PE X e te)(p:PA X es t)(l:starEach (e::es) X.env=(y9,eval e X.env)::starEach es X.env:=by rfl):PA X (e::es) (om te t):=by intro b a s U H Q I h;rw[l];refine Calls.spliced_cons (aH (m a s U H _ I h) ?_);rintro u q ⟨x,f,g,n,o⟩;exact aH (p b a q U f _ g o) (by rintro v r⟨j,i,d,k,c⟩;exact⟨x::j,i,d,.cons n k,c⟩)
def Eg(t:TA):TE:=λU H Q=>t U H λxs H1=>xs.length<=sizeLine/\∀p,H1 p=u0->Q (.ref p) (aJ H1 p (.tup xs))
def N2(t:TA):TE:=λU H Q=>t U H λxs H1=>xs.length<=sizeLine/\∀p,H1 p=u0->Q (.ref p) (aJ H1 p (.lst xs))
def ug{x1}(h:PA X es t):PE X (.Tuple es x1 pos) (Eg t):=by intro a s U H Q I j;refine wpAny_Tuple_spliced (aH (h pos a s U H _ I j) λk d ⟨i,g,c,r,z,q⟩=>⟨by rw[←r.length];exact z,?_⟩);have f:=c.aL.fresh (Aa9 _);refine⟨.ref d.heap.objs.size,aJ g d.heap.objs.size (.tup i),c.laid (λb u e=>Aa2 _ e) (Aa9 _) ?_,rfl,q _ f⟩;exact⟨z,k,r,⟨_,Ac _ rfl,rfl,rfl,_,rfl⟩⟩
def Eu(h:PA X es t):PE X (.List es pos) (N2 t):=by intro a s U H Q I j;refine wpAny_List_spliced (aH (h pos a s U H _ I j) λk d ⟨i,g,c,r,z,q⟩=>⟨by rw[←r.length];exact z,?_⟩);have f:=c.aL.fresh (Aa9 _);refine⟨.ref d.heap.objs.size,aJ g d.heap.objs.size (.lst i),c.laid (λb u e=>Aa2 _ e) (Aa9 _) ?_,rfl,q _ f⟩;exact⟨z,k,0,r,Ac _ rfl⟩
end
abbrev Sp:=List V->Hp->VK->XK->Prop
abbrev gN:=List Env->Hp->Shared->XK->Value->Shared->Prop
structure dE(P:Program)(w:World)(K:Aa6)(mg:Str->Option Value)(base:Heap)(A:Around)(outer:List Env)(s:Shared)(H:Hp):Prop where
 frames:A.frames=y0 outer
 mod:Mod K mg base
 bs:∀b o,base.get? b=y0 o->s.heap.get? b=y0 o/\H b=u0
 gk:base.objs.size<=s.heap.objs.size
 cI:s.heap.FunFrames base outer
 hI:∀b∈b4 outer,H b=u0
 aL:c8 P w H s.heap
 bare:AllBare s.gens
def CE(a:List Env)(P:Program)(w:World)(H:Hp)(s:Shared)(Q:VK)(u:Value)(s':Shared):Prop:=
 ∃v H',s'.os=s.os/\AllBare s'.gens/\Un (b4 a) [] H H' s.heap s'.heap/\c8 P w H' s'.heap/\RelV v u/\Q v H'
def CR(b:gN)(a:List Env)(P:Program)(w:World)(H:Hp)(s:Shared)(Q:VK)(E:XK)(r:Result)(s':Shared):Prop:=
 match r with
|.ok (.ret u)=>CE a P w H s Q u s'
|.ok _=>False
|.error e=>b a H s E e s'
structure bq(P:Program)(w:World)(K:Aa6)(mg:Str->Option Value)(base:Heap)(CX:gN)(k:Nat)(f:Addr)(fd:FuncData)(ps:List Str)(sp:Sp):Prop where
 len:∀vs H Q E,sp vs H Q E->vs.length=ps.length
 run:∀(A:Around)(outer:List Env)(s:Shared)(H:Hp)(args:Args)(us:List Value)(vs:List V)(Q:VK)(E:XK),aY k A->dE P w K mg base A outer s H->BindsTo s fd args (ps.zip us)->Vals vs us->sp vs H Q E→
  codeAny (model P w) A (.call (.ref f) args) (CR CX outer P w H s Q E) s
def dE.make {K:Aa6}(e:dE P w K mg base A outer s H)(C)(us)(kw):
 dE P w K mg base (A.under (.builtin "type.__call__" ⟨.ref C::us,kw⟩)) outer s H:=⟨by first|exact e.frames|(simpa[pushEnvs]using e.frames),e.mod,e.bs,e.gk,e.cI,e.hI,e.aL,e.bare⟩
theorem dE.in1 {K:Aa6}(e:dE P w K mg base A outer s H):
 dE P w K mg base A.in1 outer s H:=⟨e.frames,e.mod,e.bs,e.gk,e.cI,e.hI,e.aL,e.bare⟩
section
variable{X:Cx}{pins:List (Addr×Obj)}{U:St}{H:Hp}{s s':Shared}
def Inv.gF (I:Inv X pins U H s):dE X.prog X.w X.K X.mg X.base X.A X.stack s H:=
 ⟨I.ok.frames,I.ok.mod,I.bs,Ab6 I.ok.gk I.sz,I.stack,I.cH,I.aL,I.bare⟩
def Inv.after (I:Inv X pins U H s)(h:CE X.stack X.prog X.w H s Q u s'):EP X pins U Q u s':=by obtain⟨v,f,i,a,un,e,r,q⟩:=h;obtain⟨j,g,d,t,c⟩:=s';obtain rfl:c=s.os:=i;exact⟨v,f,I.call un e a (λb z=>absurd z (by simp)),r,q⟩
end
def tF(c:Sp)(a:List V)(E:XK)(t:TA):TE:=λU H Q=>t U H λb H1=>c (b++a) H1 Q E
def KU(C:Addr)(m:Str)(d:Sp)(b:List V)(E:XK)(e:TE)(t:TA):TE:=λU H Q=>e U H λx H1=>∃a dx fs,x=.ref a/\H1 a=y0 (.ins C dx fs)/\fs.lookup m=u0∧
 t U H1 λc H2=>d (x::(c++b)) H2 Q E
def HD(C:Addr)(c:Sp)(a:List V)(E:XK)(t:TA):TE:=λU H Q=>t U H λb H1=>∀x dx,H1 x=u0->H1 dx=u0->dx≠x→
 c (.ref x::(b++a)) (aJ (aJ H1 dx (.own x)) x (.ins C dx [])) (λv H2=>v=.ak/\Q (.ref x) H2) E
def Binds(K:Aa6)(b:FuncData)(ps:List Str)(ds:List Value):Prop:=
 ∀(s:Shared)(a:List Value),K.In s.heap->(a++ds).length=ps.length->BindsTo s b ⟨a,[]⟩ (ps.zip (a++ds))
def Binds.all {K:Aa6}(h:∀us:List Value,us.length=ps.length->bindArgs fd ⟨us,[]⟩=pure (ps.zip us)):Binds K fd ps []:=λs us _ a=>by rw[Ac3]at a⊢;exact .of_eq (h us a)
def Xz(a:gN)(X:Cx)(E:XK):Prop:=∀(pins:List (Addr×Obj))(U:St)(H:Hp)(s:Shared)(e:Value)(s':Shared),Inv X pins U H s->a X.stack H s E e s'->X.xe e s'
section
variable{X:Cx}{CX:gN}{k:Nat}{f C:Addr}{fd:FuncData}{ps:List Str}{sp:Sp}{dvs:List V}{ds:List Value}{E:XK}{x m:Str}{p pos apos:Pos}{e o:Expr}{es:List Expr}{ta:TE}{t:TA}
def oE(F:bq X.prog X.w X.K X.mg X.base CX k f fd ps sp)(i:aY k X.A)(m:Binds X.K fd ps ds)(j:Vals dvs ds)(l:Xz CX X E)
 (I:Inv X pins U H s)(r:Vals vs us)(h:sp (vs++dvs) H Q E):wpAny (model X.prog X.w) X.A (call (.ref f) us) (EP X pins U Q) X.xe s:=by
 have b:=r.append j;have c:(us++ds).length=ps.length:=by rw[←b.length];exact F.len _ _ _ _ h
 refine wpAny_call (codeAny_mono (F.run X.A X.stack s H ⟨us,[]⟩ (us++ds) (vs++dvs) Q E i I.gF (m s us I.bI c) b h) λr d a=>?_);cases r with
|error e=>exact l pins U H s e d I a
|ok g=>
  cases g with
|ret u=>exact I.after a
|next=>exact False.elim a
|brk=>exact False.elim a
|cont=>exact False.elim a
def Fd(F:bq X.prog X.w X.K X.mg X.base CX k f fd ps sp)(o:aY k X.A)(j:Gl X x)(v:X.mg x=y0 (.ref f))(g:Ah X.K (.ref f)=k9)(m:Binds X.K fd ps ds)(u:Vals dvs ds)(l:Xz CX X E)
 (n:PA X (e::es) t)(c:(x==("__debug__":Str))=false:=by decide)(i:starEach (e::es) X.env=(false,eval e X.env)::starEach es X.env:=by rfl)(b:(backTo pos (starEach es X.env)).any (·.1)=false:=by rfl):
 PE X (.Call (.Name x p) (e::es) [] pos) (tF sp dvs E t):=by
 intro a s U H Q I h;refine wpAny_Call_Name_kw (Xs I j v ?_ c);refine An6 I.ok.mod.iw g (aH (n pos a s U H _ I h) ?_) i b;rintro A z⟨w,y,d,r,q⟩;refine⟨d.bI,?_⟩;exact oE F o m u l d r q
def MU(F:bq X.prog X.w X.K X.mg X.base CX k f fd ps sp)(d:aY k X.A)(l:Gl X x)(i:X.mg x=y0 (.ref f))(c:Ah X.K (.ref f)=k9)(j:Binds X.K fd ps ds)(e:Vals dvs ds)(g:Xz CX X E)
 (a:(x==("__debug__":Str))=false:=by decide):PE X (.Call (.Name x p) [] [] pos) (tF sp dvs E nC):=by
 intro b s U H Q I h;refine wpAny_Call_Name_kw (Xs I l i ?_ a);exact PySem.W.callWith_K0 I.bI c (oE F d j e g I .nil h)
def D1(z:PE X o ta)(c:dm X.K C)(v:nG X.K C m f)(F:bq X.prog X.w X.K X.mg X.base CX k f fd ps sp)(L:aY k X.A)(G:Binds X.K fd ps ds)(M:Vals dvs ds)(D:Xz CX X E)(J:PA X (e::es) t)
 (g:starEach (e::es) X.env=(y9,eval e X.env)::starEach es X.env:=by rfl)(d:(backTo pos (starEach es X.env)).any (·.1)=false:=by rfl)
 (y:eval (.Call (.Attribute o m apos) (e::es) [] pos) X.env=(do
   let j←eval o X.env
   standAt apos.atName
   let(f,first)←holding [j] (getMethod j m pl)
   callWith pos f first (backTo pos (starEach (e::es) X.env)) (backToKw pos (keywordEach [] X.env))):=by rfl):
 PE X (.Call (.Attribute o m apos) (e::es) [] pos) (KU C m sp dvs E ta t):=by
 intro b s U H Q I h;refine PySem.W.methodCall_KW (aH (z b s U H _ I h) ?_) y;rintro u N⟨x,A,p,B,a,R,fs,ex,K,l,q⟩;subst ex;obtain rfl:u=Value.ref a:=B;refine Ei p K c v l ?_;refine An6 I.ok.mod.iw v.kp (aH (J pos b N U A _ p q) ?_) g d;rintro S O⟨i,P,n,r,w⟩;refine⟨n.bI,?_⟩;exact oE (vs:=.ref a::i) F L G M D n (.cons rfl r) w
structure Mk(K:Aa6)(C f:Addr):Prop where
 makes:PySem.W.makesIn K C=k9
 init:PySem.W.findIn K (.ref C) "__init__"=some (some (.ref f))
 fn:PySem.W.isFn K (.ref f)=k9
 kp:Ah K (.ref C)=k9
def By(M:Mk X.K C f)(F:bq X.prog X.w X.K X.mg X.base CX k f fd ps sp)(t:aY (k+1) X.A)(o:Binds X.K fd ps ds)(w:Vals dvs ds)
 (m:Xz CX X E)(I:Inv X pins U H s)(r:Vals vs us)
 (h:∀x dx,H x=u0->H dx=u0->dx≠x->sp (.ref x::(vs++dvs)) (aJ (aJ H dx (.own x)) x (.ins C dx [])) (λv H2=>v=.ak/\Q (.ref x) H2) E):
 wpAny (model X.prog X.w) X.A (call (.ref C) us) (EP X pins U Q) X.xe s:=by
 have d:=h (s.heap.objs.size+1) s.heap.objs.size (I.aL.fresh (Af0 _)) (I.aL.fresh (Aa9 _)) (Ac2 (Ae9 _));have b:=Inv.made (C:=C) I;have c:Vals (V.ref (s.heap.objs.size+1)::(vs++dvs)) (Value.ref (s.heap.objs.size+1)::(us++ds)):=.cons rfl (r.append w);have l:=by have e:=c.length;rw[F.len _ _ _ _ d]at e;exact e.symm
 refine wpAny_call (Fs I.bI M.makes M.init (beq_iff_eq.mp M.fn) (codeAny_mono (F.run _ X.stack _ _ ⟨Value.ref (s.heap.objs.size+1)::us,[]⟩ (Value.ref (s.heap.objs.size+1)::(us++ds)) _ _ E (t.make C us [])
  (b.gF.make C us []) (o _ (Value.ref (s.heap.objs.size+1)::us) b.bI l) c d) λr q a=>?_))
 cases r with
|error e=>exact m pins U _ _ e q b a
|ok i=>
  cases i with
|ret u=>obtain⟨v,g,j,rv,p,n⟩:=b.after a;subst p;exact⟨rv,⟨V.ref (s.heap.objs.size+1),g,j,rfl,n⟩⟩
|next=>exact False.elim a
|brk=>exact False.elim a
|cont=>exact False.elim a
def NW(M:Mk X.K C f)(F:bq X.prog X.w X.K X.mg X.base CX k f fd ps sp)(n:aY (k+1) X.A)(i:Gl X x)(u:X.mg x=y0 (.ref C))(l:Binds X.K fd ps ds)(o:Vals dvs ds)(j:Xz CX X E)
 (m:PA X (e::es) t)(c:(x==("__debug__":Str))=false:=by decide)(g:starEach (e::es) X.env=(false,eval e X.env)::starEach es X.env:=by rfl)(b:(backTo pos (starEach es X.env)).any (·.1)=false:=by rfl):
 PE X (.Call (.Name x p) (e::es) [] pos) (HD C sp dvs E t):=by
 intro a s U H Q I h;refine wpAny_Call_Name_kw (Xs I i u ?_ c);refine An6 I.ok.mod.iw M.kp (aH (m pos a s U H _ I h) ?_) g b;rintro z y⟨v,w,d,r,q⟩;refine⟨d.bI,?_⟩;exact By M F n l o j d r q
end
def PK(X:Cx)(a:List Keyword)(t:TA):Prop:=
 ∀(pos:Pos)(pins:List (Addr×Obj))(s:Shared)(U:St)(H:Hp)(Q:List V->Hp->Prop),Inv X pins U H s->t U H Q->wpAny (model X.prog X.w) X.A (evalAll ((backToKw pos (keywordEach a X.env)).map (·.2))) (AP X pins U Q) X.xe s
section
variable{X:Cx}{CX:gN}{k:Nat}{f C:Addr}{fd:FuncData}{ps ks:List Str}{sp:Sp}{E:XK}{x m:Str}{p pos apos kpos:Pos}{e o:Expr}{es:List Expr}{kws:List Keyword}{te ta:TE}{t tk:TA}{nm:Option Str}
def IV:PK X [] nC:=λ_ _ _ _ H Q I h=>wpAny_evalAll_nil ⟨[],H,I,.nil,h⟩
def DM(l:PE X e te)(o:PK X kws t):PK X (⟨nm,e,kpos⟩::kws) (om te t):=by intro b a s U H Q I h;refine wpAny_evalAll_cons (wpAny_bind (aH (l a s U H _ I h) ?_));rintro u p⟨x,f,g,m,n⟩;refine wpAny_bind (wpAny_standAt (wpAny_pure ?_));exact aH (o b a p U f _ g n) (by rintro r q⟨j,i,d,k,c⟩;exact⟨x::j,i,d,.cons m k,c⟩)
structure Ob(K:Aa6)(fd:FuncData)(ps ks:List Str)(g:List Value->List Value->List Value)(gV:List V->List V->List V):Prop where
 to:∀(s:Shared)(us ws:List Value),K.In s.heap->(g us ws).length=ps.length->BindsTo s fd ⟨us,ks.zip ws⟩ (ps.zip (g us ws))
 rel:∀{vs:List V}{us:List Value}{zs:List V}{ws:List Value},Vals vs us->Vals zs ws->Vals (gV vs zs) (g us ws)
variable{g:List Value->List Value->List Value}{gV:List V->List V->List V}
end
structure qy(N P:List Str)(sc:Scope):Prop where
 kind:sc.kind=.function
 co:sc.isCoroutine=y9
 gen:sc.isGenerator=y9
 nd:N.Nodup
 pre:N.take P.length=P
 par:∀x∈P,sc.names.lookup x=y0 .local\/sc.names.lookup x=y0 .cell
 iW:∀y∈sc.names,y.2≠.free
theorem QR{a:Str->Option NameKind}:∀{j}{m},(∀v,(x,v)∉j)->bindL a j m x=m x
|[],_,_=>rfl
|(n,v)::r,m,h=>by
  unfold bindL;rw[QR λw b=>h w (Aa3 _ b)];split
  .have:x≠n:=by rintro rfl;exact h v Aa4
   simp[this]
  .rfl
theorem JU{a:Str->Option NameKind}:∀{j}{m},(∀v,(x,v)∉j)->bindC a j m x=m x
|[],_,_=>rfl
|(n,v)::r,m,h=>by
  unfold bindC;rw[JU λw b=>h w (Aa3 _ b)];split
  .rfl
  .have:x≠n:=by rintro rfl;exact h v Aa4
   simp[this]
theorem wS{a:Str->Option NameKind}:∀{P:List Str}{vs}{i:Nat}{m},P.Nodup->P[i]?=y0 x->vs[i]?=y0 v->a x=y0 .local→
 bindL a (P.zip vs) m x=y0 v
|[],_,_,_,_,h,_,_=>by simp at h
|_::_,[],_,_,_,_,h,_=>by simp at h
|p::P,w::vs,0,m,e,b,c,d=>by simp at b c;subst b;subst c;show bindL a ((p,w)::P.zip vs) m p=_;unfold bindL;rw[QR λv f=>(Ah5.mp e).1 (List.of_mem_zip f).1,if_pos d];simp
|p::P,w::vs,i+1,m,e,b,c,d=>by unfold bindL;exact wS (Ah5.mp e).2 (by simpa using b) (by simpa using c) d
theorem XV{a:Str->Option NameKind}:∀{P:List Str}{vs}{i:Nat}{m},P.Nodup->P[i]?=y0 x->vs[i]?=y0 v->a x≠y0 .local→
 bindC a (P.zip vs) m x=y0 v
|[],_,_,_,_,h,_,_=>by simp at h
|_::_,[],_,_,_,_,h,_=>by simp at h
|p::P,w::vs,0,m,e,b,c,d=>by simp at b c;subst b;subst c;show bindC a ((p,w)::P.zip vs) m p=_;unfold bindC;rw[JU λv f=>(Ah5.mp e).1 (List.of_mem_zip f).1,if_neg d];simp
|p::P,w::vs,i+1,m,e,b,c,d=>by unfold bindC;exact XV (Ah5.mp e).2 (by simpa using b) (by simpa using c) d
def start(N:List Str)(vs:List V):St:=vs.map y0++Aa1 (N.length-vs.length) u0
noncomputable def xQ(CX:gN)(P:Program)(w:World)(K:Aa6)(mg:Str->Option Value)(base:Heap)(N:List Str)(y8:Str)(scope:Scope)(f:Addr)(cd:Value)(A:Around)(outer:List Env)(s:Shared)(H:Hp)(E:XK):Cx where
 prog:=P
 w:=w
 K:=K
 mg:=mg
 base:=base
 A:=A.deeper (envOfC y8 scope s.heap.objs.size f cd)
 N:=N
 s₀:=s
 H₀:=H
 env:=envOfC y8 scope s.heap.objs.size f cd
 outer:=outer
 stack:=envOfC y8 scope s.heap.objs.size f cd::outer
 ex:=[]
 calm:=A.handled.isNone
 fn:=λ_=>k9
 pn:=[]
 xe:=λe s'=>wpAny (model P w) (A.deeper (envOfC y8 scope s.heap.objs.size f cd)) (leaving (envOfC y8 scope s.heap.objs.size f cd) e) (λ_ s''=>CX outer H s E e s'') (λe' s''=>CX outer H s E e' s'') s'
def u7{sc:Scope}(h:sc.names.lookup x=y0 .cell):∃c,(cellsFrom n sc.names []).lookup x=y0 c:=by have q:=Am2 sc.names n [] (.inl h);exact Ah4.mp q
def B6{K:Aa6}
 (S:qy N ps scope)(e0:dE P w K mg base A outer s H)(hl:vs.length=ps.length)(r:Vals vs us)
 (x:InCallC s s.heap.objs.size (bindL (envOfC y8 scope s.heap.objs.size f cd).kindOf (ps.zip us) λ_=>u0) (cellsFrom (s.heap.objs.size+1) scope.names []) (bindC (envOfC y8 scope s.heap.objs.size f cd).kindOf (ps.zip us) λ_=>u0) s1):
 Inv (xQ CX P w K mg base N y8 scope f cd A outer s H E) [] (start N vs) H s1:=by
 have hpl:ps.length<=N.length:=by have:=congrArg Ao1 S.pre;rw[Ad8]at this;omega
 obtain⟨h1,tk,rfl,hk⟩:=x.done;have noA:∀b:Addr,b∉(xQ CX P w K mg base N y8 scope f cd A outer s H E).ex:=λb z=>absurd (show b∈[]from z) (by simp);refine⟨⟨e0.mod,S.kind,rfl,rfl,Aa9 _,λy z c h1 h2=>?_,λy hy=>?_,λy c _ h=>?_,λq=>Ah0.mp q,Around.frames_deeper e0.frames,.inr ⟨rfl,rfl⟩,λb z=>absurd z (noA b),e0.bs,e0.gk,λb _ _=>noA b,λb z=>absurd z (noA b),e0.cI,e0.hI⟩,
  rfl,e0.bare,Un.kept hk,⟨_,x.toInCall.ns,λi y v h1 h2 h3=>?_⟩,λy c h=>⟨_,x.cell y c h⟩,e0.aL.fresh (Aa9 _),λy c h=>?_,λp hp=>absurd (show p∈[]from hp) (by simp),e0.aL.kept hk,?_⟩
 .exact name_of_addr x.apart (PySem.mem_of_lookup h1) (PySem.mem_of_lookup h2)
 .have hy:=hy;rcases hy with hy|hy
  .exact u7 hy
  .exact absurd rfl (S.iW _ (PySem.mem_of_lookup hy))
 .exact Af9 (x.above y c (PySem.mem_of_lookup h))
 .have hi:i<vs.length:=by
   unfold start at h2;by_cases hi:i<vs.length
   .exact hi
   .rw[Ad3 (by simpa using hi)]at h2;rw[Ah8]at h2;split at h2<;>cases h2
  have ha:vs[i]?=y0 v:=by
   unfold start at h2;rw[Ad4 (by simpa using hi),Ac9]at h2;cases e:vs[i]? with
|none=>rw[e]at h2;cases h2
|some a=>rw[e]at h2;cases h2;rfl
  obtain⟨u,hu,rv⟩:=r.get ha;have hp:ps[i]?=y0 y:=by rw[←S.pre,Am1 (by omega)];exact h1
  have ndP:ps.Nodup:=by rw[←S.pre];exact S.nd.sublist (List.take_sublist _ _)
  refine⟨u,rv,?_⟩;rcases S.par y (Ac7 hp)with k|k
  .exact .inl ⟨k,wS ndP hp hu k⟩
  .obtain⟨c,e⟩:=u7 k;refine .inr ⟨.inl k,c,e,?_⟩;have q:=x.cell y c e;rw[XV ndP hp hu (by show scope.names.lookup y≠_;rw[k];decide)]at q;exact q
 .exact e0.aL.fresh (Af9 (x.above y c (PySem.mem_of_lookup h)))
 .unfold start;show _=N.length;rw[Ab,Aa,Ad0];omega
def Ew{K:Aa6}{dV kV doc pm cdv ct oc:Value}
 (lk:K.lookup f=y0 ⟨oc,od,.func (PySem.W.fnOf name y8 params body scope dV kV doc pm an cdv ct),osl⟩)(hcd:PySem.W.codeIn K cdv y8=k9)(S:qy N ps scope)
 (len:∀vs H Q E,sp vs H Q E->vs.length=ps.length)
 (hbody:∀A outer s H vs Q E,aY k (A.deeper (envOfC y8 scope s.heap.objs.size f cdv))->sp vs H Q E→
   ∃t,c9 (xQ CX P w K mg base N y8 scope f cdv A outer s H E) body t/\t {nx:=λ_ H'=>Q .ak H',rt:=Q} (start N vs) H):
 bq P w K mg base CX (k+1) f (PySem.W.fnOf name y8 params body scope dV kV doc pm an cdv ct) ps sp:=by
 refine⟨len,λA outer s H args us vs Q E hr e0 hb r hsp=>?_⟩;have hl:=len _ _ _ _ hsp;have KX:=e0.mod.iw.keeps λb o e=>(e0.bs b o e).1;have lim:=e0.mod.nolimit.keeps λb o e=>(e0.bs b o e).1;have hkind:∀y∈ps.zip us,scope.names.lookup y.1=y0 .local\/(scope.names.lookup y.1=y0 .cell/\((cellsFrom (s.heap.objs.size+1) scope.names []).lookup y.1).isSome=k9):=by
  rintro⟨n,v⟩ hy;rcases S.par n (List.of_mem_zip hy).1 with q|q
  .exact .inl q
  .exact .inr ⟨q,Am2 _ _ _ (.inl q)⟩
 refine codeAny_call_function hr.depth (KX _ _ lk) rfl S.co S.gen rfl (PySem.W.codeRec_of KX hcd) (hb _ _ _ _ ?_);refine wpAny_newFunctionEnv_cells S.kind hkind λenv he s1 x=>?_;subst he;refine⟨lim.keeps x.toInCall.keep,codeAny_func ?_⟩;obtain⟨t,ht,hq⟩:=hbody A outer s H vs Q E (hr.deeper _) hsp;have I:Inv (xQ CX P w K mg base N y8 scope f cdv A outer s H E) [] (start N vs) H s1:=B6 S e0 hl r x;refine wpAny_mono (ht [] s1 (start N vs) H _ I hq) (λfl s' hs=>?_) λe s' hs=>hs;have fin:∀{U'}{H'}{v}{u},Inv (xQ CX P w K mg base N y8 scope f cdv A outer s H E) [] U' H' s'->RelV v u->Q v H'->CE outer P w H s Q u s':=
  λ{U' H' v u} J rv q=>⟨v,H',J.os,J.bare,J.base,J.aL,rv,q⟩
 cases fl with
|ret u=>obtain⟨v,U',H',J,rv,q⟩:=hs;exact fin J rv q
|next=>obtain⟨U',H',J,q⟩:=hs;exact fin (v:=V.ak) J rfl q
|brk=>obtain⟨_,_,_,q⟩:=hs;exact False.elim q
|cont=>obtain⟨_,_,_,q⟩:=hs;exact False.elim q
section
variable{X:Cx}{x:Str}{p pos:Pos}{e:Expr}{es:List Expr}{t:TA}{id T:String}{r:List V->Hp->VK->Prop}
def pI(r:List V->Hp->VK->Prop)(t:TA):TE:=λU H Q=>t U H λa H1=>r a H1 Q
def zh(f:Qn X (.builtin id) r)(l:Gl X x)(u:X.mg x=none)(k:bootBuiltins x=some (.builtin id))(n:PA X (e::es) t)(g:x≠"__name__":=by decide)(c:(x==("__debug__":Str))=false:=by decide)
 (i:starEach (e::es) X.env=(y9,eval e X.env)::starEach es X.env:=by rfl)(b:(backTo pos (starEach es X.env)).any (·.1)=false:=by rfl):PE X (.Call (.Name x p) (e::es) [] pos) (pI r t):=by
 intro a s U H Q I h;refine wpAny_Call_Name_kw (xr I l u k ?_ g c);exact PyProof.Rows.callWith_builtin1 (aH (n pos a s U H _ I h) (by rintro w v⟨d,j,m,o,q⟩;exact f a v U j d w Q m o q)) i b
def ZD(f:Qn X (.type T) r)(l:Gl X x)(u:X.mg x=none)(k:bootBuiltins x=some (.type T))(n:PA X (e::es) t)(g:x≠"__name__":=by decide)(c:(x==("__debug__":Str))=false:=by decide)
 (i:starEach (e::es) X.env=(y9,eval e X.env)::starEach es X.env:=by rfl)(b:(backTo pos (starEach es X.env)).any (·.1)=false:=by rfl):PE X (.Call (.Name x p) (e::es) [] pos) (pI r t):=by
 intro a s U H Q I h;refine wpAny_Call_Name_kw (xr I l u k ?_ g c);exact PyProof.Rows.callWith_type1 (aH (n pos a s U H _ I h) (by rintro w v⟨d,j,m,o,q⟩;exact f a v U j d w Q m o q)) i b
end
end L2
namespace HT
open PySem PyProof.Rows
section
variable{prog:Program}{w:World}{A:Around}{E:Value->Shared->Prop}{s:Shared}
def h7(v:IsTup s.heap t vs.toArray)(r:IsTup s.heap b ws.toArray)(m:vs≠[])
 (h1:ws=[]->Q (.ref t) s)(x:ws≠[]->Q (.ref s.heap.objs.size) {s with heap:=s.heap.push {cls:=.type "tuple",data:=.seq (vs++ws).toArray}})
 (hsz:vs.length+ws.length<=sizeLine):wpAny (model prog w) A (binaryOp .Add (.ref t) (.ref b)) Q E s:=by
 obtain⟨⟨L,dd,j,l⟩,f,q,n,u⟩:=id v;obtain⟨⟨p,c,k,d⟩,a,h,o,i⟩:=id r;subst q u h i;have e:vs.toArray++ws.toArray=(vs++ws).toArray:=by simp
 by_cases g:ws=[]
 .exact concat_meets ⟨_,f,rfl⟩ ⟨_,a,rfl⟩ noFill_tuple_add seq_tuple_add PySem.F.slot_tuple_add PySem.F.entry_tuple_add (PySem.F.args_tuple_add_2 _ _)
   (tuple_addW1 t b vs.toArray ws.toArray n o dd c l d (by simpa using m) (by simp[g])) ⟨f,a,h1 g⟩
 .refine concat_meets ⟨_,f,rfl⟩ ⟨_,a,rfl⟩ noFill_tuple_add seq_tuple_add PySem.F.slot_tuple_add PySem.F.entry_tuple_add (PySem.F.args_tuple_add_2 _ _)
   (tuple_addW2 t b vs.toArray ws.toArray n o dd c l d (by simpa using m) (by simpa using g) (by rw[Ab2,Ab2];exact hsz)) ⟨f,a,?_⟩
  rw[e];exact x g
def aM(n d:Nat):Option Int->Nat
|none=>d
|some v=>if v<0 then(v+(n:Int)).toNat else min v.toNat n
def Hh(n d)(b:d<=n)(o):aM n d o<=n:=by
 cases o with
|none=>exact b
|some v=>
  show(if v<0 then(v+n).toNat else min v.toNat n)<=n;by_cases a:v<0
  .rw[if_pos a];omega
  .rw[if_neg a];exact Nat.min_le_right _ _
def u2(v)(n d:Nat):(if v<0 then max (v+(n:Int)) 0 else min v (n:Int))=((aM n d (y0 v):Nat):Int):=by
 show(if v<0 then max (v+n) 0 else min v n)=(((if v<0 then(v+(n:Int)).toNat else min v.toNat n):Nat));by_cases a:v<0
 .simp only[if_pos a];omega
 .simp only[if_neg a];omega
def Lm(b a)(n:Nat):Builtin.Slice.sliceAdjust b a 1 (n:Int)=(((aM n 0 b:Nat):Int),((aM n n a:Nat):Int)):=by
 have c:¬(1<0):=by omega
 refine Prod.ext ?_ ?_
 .cases b with
|none=>rfl
|some v=>exact u2 v n 0
 .cases a with
|none=>rfl
|some v=>exact u2 v n n
def DX(i j:Nat):Builtin.Slice.slicePlaces (i:Int) (j:Int) 1=j-i:=by
 unfold Builtin.Slice.slicePlaces;have a:(1:Int)>0:=by omega
 simp only[Int.ediv_one];split<;>omega
def jK(p:IsPart v o)(h:Q o s):wpAny (model prog w) A (Builtin.Slice.slicePartIndex v) Q E s:=by
 cases p with
|none=>exact slicePart_none h
|int i t=>exact slicePart_int h
def bP{a d:Option Int}{Q:Int×Int×Nat->Shared->Prop}(g:s.heap.IsSliceOf sl vl vu .none)(pl:IsPart vl a)(e:IsPart vu d)
 (h:Q (((aM n 0 a:Nat):Int),1,aM n n d-aM n 0 a) s):wpAny (model prog w) A (Builtin.Slice.sliceApplied (.ref sl) (pure (n:Int))) Q E s:=by
 obtain⟨i,c,f,b⟩:=id g;refine wpAny_bind (wpAny_bind (wpAny_field c b (x:=vl) rfl (wpAny_bind (wpAny_field c b (x:=vu) rfl (wpAny_bind (wpAny_field c b rfl (wpAny_pure ?_)))))));refine wpAny_bind (slicePart_none ?_);refine wpAny_bind (jK pl (wpAny_bind (jK e (wpAny_bind (wpAny_pure ?_)))));show wpAny _ _ (match Builtin.Slice.sliceAdjust a d 1 (n:Int)with|(a,d)=>pure (a,(1:Int),Builtin.Slice.slicePlaces a d 1)) _ _ s;rw[Lm a d n];show wpAny _ _ (pure (((aM n 0 a:Nat):Int),1,Builtin.Slice.slicePlaces ((aM n 0 a:Nat)) ((aM n n d:Nat)) 1)) _ _ s;rw[DX];exact wpAny_pure h
def BN(xs:Array Value)(i k:Nat):((Ab1 k).filterMap λ(m:Nat)=>xs[((i:Int)+(m:Int)*1).toNat]?).toArray=((xs.toList.drop i).take k).toArray:=by
 have e:(λ(m:Nat)=>xs[(i+(m:Int)*1).toNat]?)=λm=>xs[i+m]?:=by
  funext m;have:(i+(m:Int)*1).toNat=i+m:=by omega
  rw[this]
 rw[e];have:=pick_run xs i k;rw[List.filterMap_map]at this;have e2:((λx=>xs[x]?)∘λx=>i+x)=λm=>xs[i+m]?:=rfl;rw[e2]at this;rw[this]
def cG{b c:Option Int}(d:IsTup s.heap t items)(j:s.heap.IsSliceOf sl vl vu .none)(pl:IsPart vl b)(k:IsPart vu c)
 (m:¬(aM items.size 0 b=0/\aM items.size items.size c=items.size))
 (h:Q (.ref s.heap.objs.size) {s with heap:=s.heap.push {cls:=.type "tuple",data:=.seq ((items.toList.drop (aM items.size 0 b)).take (aM items.size items.size c-aM items.size 0 b)).toArray}})
 (hsz:items.size<=sizeLine):wpAny (model prog w) A (getItem (.ref t) (.ref sl)) Q E s:=by
 have a:=by show((items.toList.drop (aM items.size 0 b)).take (aM items.size items.size c-aM items.size 0 b)).toArray.size<=sizeLine;rw[Ab2,Ad8,Ae8,Ah7];omega
 have o:aM items.size items.size c<=items.size:=Hh _ _ (Aa9 _) c;obtain⟨n,f,e,l⟩:=id j;have g:s.TypeIs (.ref sl) "slice":=⟨n,f,e⟩;unfold getItem
 try with_reducible refine wpAny_holding ?_
 first|refine wpAny_bind (wpAny_pure ?_)|skip
 refine wpAny_bind (wpAny_sequenceKey d.typeIs (by decide) ?_);refine wpAny_bind (wpAny_callSpecial?_slot d.typeIs PyProof.Rows.slot_tuple_getitem
  (wpAny_call_entry PyProof.Rows.slot_tuple_getitem d.typeIs entry_tuple_getitem ?_ (args_tuple_getitem _ _)))
 show wpAny _ _ (Builtin.Tuple.tupleItemsOf (.ref t)>>=_) _ _ s;refine wpAny_bind (tupleItemsOf_ d ?_);refine wpAny_bind (wpAny_typeOf g ?_);rw[if_pos (by decide)];refine wpAny_bind (bP j pl k ?_);have i:¬((((aM items.size 0 b:Nat):Int)==0&&(1:Int)==1&&(aM items.size items.size c-aM items.size 0 b)==items.size)=k9):=by intro q;rw[Aa0,Aa0]at q;have r:=eq_of_beq q.1.1;have p:=eq_of_beq q.2;exact m ⟨by omega,by omega⟩
 show wpAny _ _ (if(((aM items.size 0 b:Nat):Int)==0&&1==1&&(aM items.size items.size c-aM items.size 0 b)==items.size)=k9 then _ else _) _ _ s;rw[if_neg i,BN]
 first
|exact wpAny_bind (wpAny_newObj_type (wpAny_pure ⟨_,rfl,wpAny_pure h⟩) a)
|exact wpAny_bind (wpAny_newObj_type (wpAny_bind (wpAny_pure (wpAny_pure ⟨_,rfl,wpAny_pure h⟩))) a)
|exact wpAny_bind (wpAny_bind (wpAny_newObj_type (wpAny_pure (wpAny_pure ⟨_,rfl,wpAny_pure h⟩)) a))
|exact wpAny_bind (wpAny_bind (wpAny_newObj_type (wpAny_pure ⟨_,rfl,wpAny_pure h⟩) a))
end
end HT
namespace L2
open PySem PySem.Spec PyProof.Rows
abbrev TO:=St->Hp->(Option Int->Hp->Prop)->Prop
def PO(X:Cx)(e:Option Expr)(t:TO):Prop:=
 ∀(pins:List (Addr×Obj))(s:Shared)(U:St)(H:Hp)(Q:Option Int->Hp->Prop),Inv X pins U H s->t U H Q→
  wpAny (model X.prog X.w) X.A (evalPart e X.env) (λu s'=>∃o H',Inv X pins U H' s'/\IsPart u o/\Q o H') X.xe s
def HN:TO:=λ_ H Q=>Q u0 H
def F7(t:TE):TO:=λU H Q=>t U H λx H1=>∃i,x=.int i/\Q (y0 i) H1
section
variable{X:Cx}{e:Expr}{te:TE}{lo hi:Option Expr}{tl th:TO}{pos p2:Pos}
def rJ:PO X u0 HN:=by intro a s U H Q I h;exact wpAny_pure ⟨u0,H,I,.none,h⟩
def sU(h:PE X e te):PO X (y0 e) (F7 te):=by intro a s U H Q I d;refine aH (h a s U H _ I d) ?_;rintro u j ⟨x,b,c,f,g⟩;obtain⟨i,rfl,q⟩:=g;obtain⟨t,rfl⟩:=f;exact⟨y0 i,b,c,.int i t,q⟩
def gW(X:Cx)(r:V->Option Int->Option Int->Hp->VK->Prop):Prop:=
 ∀(pins:List (Addr×Obj))(s:Shared)(U:St)(H:Hp)(x:V)(v a b:Value)(lo hi:Option Int)(c:Addr)(Q:VK),Inv X pins U H s->RelV x v->s.heap.IsSliceOf c a b .none->IsPart a lo->IsPart b hi->r x lo hi H Q→
  ∃T id,typeLookup (.type T) "__getitem__"=pure (some (.builtin id))/\s.TypeIs v T/\wpAny (model X.prog X.w) X.A (getItem v (.ref c)) (EP X pins U Q) X.xe s
def gW.or (h:gW X r)(h':gW X r'):gW X (λx lo hi H Q=>r x lo hi H Q\/r' x lo hi H Q):=by
 intro a s U H x v e c lo hi d Q I f g pl b q;rcases q with q|q
 .exact h a s U H x v e c lo hi d Q I f g pl b q
 .exact h' a s U H x v e c lo hi d Q I f g pl b q
def Ly(r:V->Option Int->Option Int->Hp->VK->Prop)(c:TE)(a d:TO):TE:=λU H Q=>c U H λx H1=>a U H1 λl H2=>d U H2 λu b=>r x l u b Q
def J6(G:gW X r)(n:PE X e te)(A:PO X lo tl)(D:PO X hi th):PE X (.Subscript e (.Slice lo hi u0 p2) pos) (Ly r te tl th):=by intro a s U H Q I h;refine Subscript_ (aH (n a s U H _ I h) ?_);rintro v J ⟨x,p,w,E,F⟩;refine wpAny_Slice (aH (A a J U p _ w F) ?_);rintro f o⟨l,z,m,pl,k⟩;refine aH (D a o U z _ m k) ?_;rintro d c ⟨u,g,j,i,C⟩;refine wpAny_pure ?_;have B:Inv X a U g {c with heap:=c.heap.push {cls:=.type "slice",data:=.fields #[f,d,.none]}}:=j.kept fun b L q=>Heap.get?_push_of_some _ q;obtain⟨T,id,y,K,t⟩:=G a {c with heap:=c.heap.push {cls:=.type "slice",data:=.fields #[f,d,.none]}} U g x v f d l u c.heap.objs.size Q B E (Heap.IsSliceOf.new ..) pl i C;exact tail_any K y t (by with_unfolding_all rfl)
noncomputable def lR(xs:List V)(a b:Option Int):List V:=(xs.drop (HT.aM xs.length 0 a)).take (HT.aM xs.length xs.length b-HT.aM xs.length 0 a)
def WC(xs)(lo hi):(lR xs lo hi).length<=xs.length:=by unfold lR;rw[Ad8,Ae8];omega
def pj(K:Aa6):V->Option Int->Option Int->Hp->VK->Prop:=λx lo hi H Q=>∃a xs,x=.ref a/\cz K H a xs∧
 ¬(HT.aM xs.length 0 lo=0/\HT.aM xs.length xs.length hi=xs.length)/\∀p,H p=u0->Q (.ref p) (aJ H p (.tup (lR xs lo hi)))
def pz:gW X (pj X.K):=by
 intro g s U H x v w t e j u Q I m p pl l h;obtain⟨a,d,rfl,o,n,q⟩:=h;cases m;obtain⟨f,r,i,k⟩:=I.tuple o;have c:f.toArray.size=d.length:=by rw[Ab2];exact r.length.symm
 refine⟨"tuple",_,PyProof.Rows.slot_tuple_getitem.lookup,i.typeIs,?_⟩;refine HT.cG i p pl l (by rw[c];exact n) ?_ (by rw[c];exact k);rw[c];refine⟨.ref s.heap.objs.size,_,I.laid (λb y q=>Aa2 _ q) (Aa9 _) ?_,rfl,q _ (I.aL.fresh (Aa9 _))⟩;exact⟨Ab6 (WC d e j) k,_,(r.drop (HT.aM d.length 0 e)).take (HT.aM d.length d.length j-HT.aM d.length 0 e),dz.new _ _⟩
def EH(K:Aa6):R2:=λx y H Q=>∃a b xs ys,x=.ref a/\y=.ref b/\cz K H a xs/\cz K H b ys/\xs≠[]/\xs.length+ys.length<=sizeLine∧
 (ys=[]->Q (.ref a) H)/\(ys≠[]->∀p,H p=u0->Q (.ref p) (aJ H p (.tup (xs++ys))))
def Vals.dj (r:Vals xs us):us=[]↔xs=[]:=by
 cases r with
|nil=>simp
|cons _ _=>simp
def CQ:b7 X (binaryOp .Add) (EH X.K):=by intro f s U H x y v u Q I l i h;obtain⟨a,b,A,B,rfl,rfl,o,n,m,g,p,j⟩:=h;cases l;cases i;obtain⟨t,d,r,_⟩:=I.tuple o;obtain⟨e,c,k,_⟩:=I.tuple n;refine HT.h7 r k (λz=>m (d.dj.mp z)) (λz=>⟨.ref a,H,I,rfl,p (c.dj.mp z)⟩) (λz=>?_) (by rw[←d.length,←c.length];exact g);refine⟨.ref s.heap.objs.size,_,I.laid (λb C q=>Aa2 _ q) (Aa9 _) ?_,rfl,j (λw=>z (c.dj.mpr w)) _ (I.aL.fresh (Aa9 _))⟩;exact⟨by rw[Ab];exact g,_,d.append c,dz.new _ _⟩
end
noncomputable def eB(n:Nat)(i:Int):Option Nat:=if 0<=i then(if i<n then y0 i.toNat else u0)else if-(n:Int)<=i then y0 (i+n).toNat else u0
def bw{a:Type}(xs:List a)(i:Int):Option a:=(eB xs.length i).bind λj=>xs[j]?
def rL(h:eB n i=y0 j):seqIndex? i n=y0 j/\j<n/\-(n:Int)<=i/\i<n:=by
 unfold eB at h;by_cases b:0<=i
 .rw[if_pos b]at h;by_cases a:i<n
  .rw[if_pos a]at h;have e:=Ad5.inj h;exact⟨by rw[seqIndex_of b a,e],by omega,by omega,a⟩
  .rw[if_neg a]at h;cases h
 .rw[if_neg b]at h;by_cases a:-n<=i
  .rw[if_pos a]at h;have e:=Ad5.inj h;exact⟨by rw[seqIndex_neg (by omega) a,e],by omega,a,by omega⟩
  .rw[if_neg a]at h;cases h
def Q4(h:bw xs i=y0 v):∃j,seqIndex? i xs.length=y0 j/\xs[j]?=y0 v/\j<xs.length/\-(xs.length:Int)<=i/\i<xs.length:=by
 unfold bw at h;cases e:eB xs.length i with
|none=>rw[e]at h;cases h
|some j=>rw[e]at h;obtain⟨b,d,c,a⟩:=rL e;exact⟨j,b,h,d,c,a⟩
def Jr{j:Nat}(h:xs[j]?=y0 v):bw xs (j:Int)=y0 v:=by
 have a:=(Aa8.mp h).1;have e:eB xs.length j=y0 j:=by unfold eB;rw[if_pos (by omega),if_pos (by omega)];simp
 unfold bw;rw[e];exact h
def sm(b:Expr):Prop:=∀o i,subscripted b y9 o i=operate [o,i] (getItem o i)
def gQ(X:Cx)(r:R2):Prop:=
 ∀(value a:Expr)(pins:List (Addr×Obj))(s:Shared)(U:St)(H:Hp)(x y:V)(v u:Value)(Q:VK),Inv X pins U H s->RelV x v->RelV y u->r x y H Q→
  subscripted a y9 v u=operate [v,u] (getItem v u)->wpAny (model X.prog X.w) X.A (subscriptTail value a v u) (EP X pins U Q) X.xe s
def og(X:Cx)(id:String)(r:V->List V->Hp->VK->Prop):Prop:=
 ∀(pins:List (Addr×Obj))(s:Shared)(U:St)(H:Hp)(x:V)(xs:List V)(v:Value)(a:List Value)(Q:VK),Inv X pins U H s->RelV x v->Vals xs a->r x xs H Q→
  wpAny (model X.prog X.w) X.A (call (.builtin id) (v::a)) (EP X pins U Q) X.xe s
section
variable{X:Cx}{a b:Expr}{ta tb:TE}{pos:Pos}
def gQ.or (h:gQ X r)(h':gQ X r'):gQ X (λx y H Q=>r x y H Q\/r' x y H Q):=by
 intro b a c s U H x y v u Q I f e q d;rcases q with q|q
 .exact h b a c s U H x y v u Q I f e q d
 .exact h' b a c s U H x y v u Q I f e q d
def rg(m:gQ X r)(l:PE X a ta)(k:PE X b tb)(j:sm b):PE X (.Subscript a b pos) (mB r ta tb):=by intro c s U H Q I h;exact Subscript_ (pG l k I h λv u f x y i e g d q=>m a b c f U i x y v u Q e g d q (j _ _))
def vQ(K:Aa6):R2:=λx y H Q=>∃p xs i v,x=.ref p/\y=.int i/\br K H p xs/\bw xs i=y0 v/\Q v H
def rC(K:Aa6):R2:=λx y H Q=>∃p xs i v,x=.ref p/\y=.int i/\cz K H p xs/\bw xs i=y0 v/\Q v H
def vc:R2:=λx y H Q=>∃z i c,x=.str z/\y=.int i/\z.length<=sizeLine/\bw z.cps.toList i=y0 c/\Q (.str ⟨#[c]⟩) H
def hF:gQ X (vQ X.K):=by
 intro f d a s U H x y v u Q I A m h k;obtain⟨p,J,i,z,rfl,rfl,D,n,q⟩:=h;cases A;obtain⟨t,rfl⟩:=m;obtain⟨e,r,pl,K⟩:=I.list D;obtain⟨j,b,E,F,C,o⟩:=Q4 n;obtain⟨w,ew,g⟩:=r.get E;have B:=r.length;have G:=WF;have fin:EP X a U Q w s:=⟨z,H,I,g,q⟩;by_cases l:0<=i
 .have c:=by rw[seqIndex_of l o]at b;exact Ad5.inj b
  exact item_listR pl.isList l (by omega) (by rw[c];simpa using ew) fin k
 .have c:(i+e.toArray.size).toNat=j:=by rw[seqIndex_neg (by omega) C]at b;rw[Ab2,←B];exact Ad5.inj b
  exact subscriptTail_builtinR pl.isList.typeIs slot_list_getitem.lookup
   (wpAny_getItem_list_neg pl.isList (by omega) (by rw[Ab2]<;>omega) (by omega) (by rw[c];simpa using ew) ⟨rfl,fin⟩) k
def af:gQ X (rC X.K):=by
 intro c b a s U H x y v u Q I g e h m;obtain⟨p,E,i,z,rfl,rfl,n,f,q⟩:=h;cases g;obtain⟨t,rfl⟩:=e;obtain⟨o,r,pl,G⟩:=I.tuple n;obtain⟨j,l,A,B,F,D⟩:=Q4 f;obtain⟨w,ew,d⟩:=r.get A;have k:=r.length;have C:=WF;have fin:EP X a U Q w s:=⟨z,H,I,d,q⟩;exact subscriptTail_builtinR pl.typeIs slot_tuple_getitem.lookup
  (getItem_tuple pl (by omega) (by omega) (by rw[Ab2,←k];exact l) (by simpa using ew) ⟨rfl,fin⟩) m
def oO:gQ X vc:=by
 intro b a d s U H x y v u Q I l f h n;obtain⟨z,i,c,rfl,rfl,B,g,q⟩:=h;obtain⟨t,rfl⟩:=l;obtain⟨A,rfl⟩:=f;obtain⟨j,e,p,r,o,k⟩:=Q4 g;have m:z.cps.toList.length=z.length:=by simp[Str.length]
 rw[m]at e o k;have w:=WF;exact tail_any (typeIs_str s z t) slot_str_getitem.lookup (getItem_str (by have e1:u9 (i< -(2^63:Int))=false:=decide_eq_false (by omega);have e2:u9 (i>=2^63)=false:=decide_eq_false (by omega);rw[e1,e2,Bool.or_false]) (by rw[e];simpa using p) ⟨.str ⟨#[c]⟩,H,I.tok _,⟨_,rfl⟩,q⟩) n
def HQ(K:Aa6):R2:=λx y H Q=>vQ K x y H Q\/rC K x y H Q\/vc x y H Q
def ET:gQ X (HQ X.K):=hF.or (af.or oO)
def AX(a:List Value)(n j)(u):Obj.mapSeq (·.setIfInBounds j u) {cls:=.type "list",data:=.seq a.toArray n}={cls:=.type "list",data:=.seq (a.set j u).toArray n}:=by simp[Obj.mapSeq]
theorem Inv.lst (I:Inv X pins U H s)(h:H p=y0 (.lst xs)):
 ∃j n,Vals xs j/\s.heap.get? p=y0 {cls:=.type "list",data:=.seq j.toArray n}/\xs.length<=sizeLine:=by
 obtain⟨z,j,n,r,e⟩:=I.aL p _ h;exact⟨j,n,r,e,z⟩
def Inv.kA {c a:List Value}(I:Inv X pins U H s)(h:H p=y0 (.lst xs))
 (g:s.heap.get? p=y0 {cls:=.type "list",data:=.seq c.toArray n})(d:f {cls:=.type "list",data:=.seq c.toArray n}={cls:=.type "list",data:=.seq a.toArray n'})(r:Vals ys a)(i:ys.length<=sizeLine)(t):
 Inv X pins U (aJ H p (.lst ys)) {s with heap:=s.heap.update p f,toks:=t}:=by
 have e:(s.heap.update p f).get? p=y0 {cls:=.type "list",data:=.seq a.toArray n'}:=by rw[Ai3 f g (by rw[d]<;>rfl),d]
 refine I.write (by rw[h];trivial) (.inl rfl) (λb u j q=>(Ak0 _ _ (Ne.symm j)).trans q) ⟨_,e⟩ ?_;exact⟨i,a,n',r,e⟩
def Ms:V->V->V->Hp->(Hp->Prop)->Prop:=λo i v H Q=>∃p xs k j,o=.ref p/\i=.int k/\H p=y0 (.lst xs)/\eB xs.length k=y0 j/\Q (aJ H p (.lst (xs.set j v)))
def Q7:vw X Ms:=by
 intro g s U H o i v D E u Q I z A rv h;obtain⟨p,F,k,j,rfl,rfl,m,y,q⟩:=h;cases z;obtain⟨t,rfl⟩:=A;obtain⟨a,n,r,d,B⟩:=I.lst m;obtain⟨b,G,f,x⟩:=rL y;have e:=r.length;have C:=WF;have l:=
  I.kA m d (AX a n j u) (r.set rv j) (by rw[Ae6];exact B) s.toks
 by_cases w:0<=k
 .have c:=by rw[seqIndex_of w x]at b;exact Ad5.inj b
  exact PySem.W.ki_setAt d w (by omega) (by rw[Ab2,←e];exact x) (by rw[c];exact⟨_,l,q⟩)
 .have c:(k+a.toArray.size).toNat=j:=by rw[seqIndex_neg (by omega) f]at b;rw[Ab2,←e];exact Ad5.inj b
  exact PySem.W.ki_setBack d (by omega) (by rw[Ab2,←e];exact f) (by omega) (by rw[c];exact⟨_,l,q⟩)
def qT(lo hi)(n):(sliceBounds lo hi u0 n).1=((HT.aM n 0 lo:Nat):Int)/\(sliceBounds lo hi u0 n).2.1=((HT.aM n n hi:Nat):Int)/\(sliceBounds lo hi u0 n).2.2=1:=by
 refine⟨?_,?_,rfl⟩
 .cases lo with
|none=>simp[sliceBounds,HT.aM]
|some i=>
   simp only[sliceBounds,HT.aM,Am3,show(1:Int)>0 by decide,if_true];by_cases h:i<0
   .simp only[h,if_true]<;>omega
   .simp only[h,if_false]<;>omega
 .cases hi with
|none=>simp[sliceBounds,HT.aM]
|some i=>
   simp only[sliceBounds,HT.aM,Am3,show(1:Int)>0 by decide,if_true];by_cases h:i<0
   .simp only[h,if_true]<;>omega
   .simp only[h,if_false]<;>omega
def wM(a:List Value)(lo hi):slicePick a.toArray lo hi u0=((a.drop (HT.aM a.length 0 lo)).take (HT.aM a.length a.length hi-HT.aM a.length 0 lo)).toArray:=by obtain⟨b,d,c⟩:=qT lo hi a.toArray.size;unfold slicePick;rw[b,d,c];simp only[sliceRange_one,pick_run,Ab2]<;>rfl
def pS(K:Aa6):V->Option Int->Option Int->Hp->VK->Prop:=λx lo hi H Q=>∃a xs,x=.ref a/\br K H a xs/\∀p,H p=u0->Q (.ref p) (aJ H p (.lst (lR xs lo hi)))
def hB:gW X (pS X.K):=by intro f s U H x v u p e i t Q I k m pl j h;obtain⟨a,d,rfl,l,q⟩:=h;cases k;obtain⟨o,r,g,n⟩:=I.list l;have c:=r.length;refine⟨"list",_,slot_list_getitem.lookup,g.isList.typeIs,?_⟩;refine wpAny_getItem_list_slice g.isList m pl j .none (by simp) ?_ (by rw[Ab2]<;>omega);rw[wM,←c];refine⟨.ref s.heap.objs.size,_,I.laid (λb w q=>Aa2 _ q) (Aa9 _) ?_,rfl,q _ (I.aL.fresh (Aa9 _))⟩;exact⟨Ab6 (WC d e i) n,_,0,(r.drop (HT.aM d.length 0 e)).take (HT.aM d.length d.length i-HT.aM d.length 0 e),Ac _ rfl⟩
noncomputable def ID:V->V->Bool
|.ak,.ak=>k9
|.bl a,.bl b=>a==b
|.bl a,.int b=>(if a then 1 else 0)==b
|.int a,.bl b=>a==(if b then 1 else 0)
|.int a,.int b=>a==b
|.str a,.str b=>a==b
|_,_=>y9
def p6(x:V)(xs:List V):Bool:=xs.any λy=>ID y x
def ZW:Qn X (.builtin "len") (fun xs H Q=>∃p ys,xs=[.ref p]/\(br X.K H p ys\/cz X.K H p ys)/\Q (.int ys.length) H):=by
 intro e s U H xs j Q I r h;obtain⟨p,ys,rfl,b,q⟩:=h;obtain⟨u,rfl,f⟩:=jE r;cases f;have i:=WF;rcases b with b|b
 .obtain⟨d,c,pl,g⟩:=I.list b;have a:=c.length;exact Calls.call_len_list pl.isList (by simp only[Ab2]<;>omega) ⟨.int ys.length,H,I.tok _,⟨s.toks+1,by rw[Ab2,a]⟩,q⟩
 .obtain⟨d,c,pl,g⟩:=I.tuple b;have a:=c.length;exact len_tuple pl (by simp only[Ab2]<;>omega) ⟨.int ys.length,H,I.tok _,⟨s.toks+1,by rw[Ab2,a]⟩,q⟩
def zS:Qn X (.builtin "len") (fun xs H Q=>∃z,xs=[.str z]/\z.length<=sizeLine/\Q (.int z.length) H):=by intro a s U H xs d Q I r h;obtain⟨z,rfl,c,q⟩:=h;obtain⟨u,rfl,t,rfl⟩:=jE r;have b:=WF;exact len_str (by omega) ⟨.int z.length,H,I.tok _,⟨_,rfl⟩,q⟩
def WX:Qn X (.type "list") (fun xs H Q=>∃p ys,xs=[.ref p]/\(br X.K H p ys\/cz X.K H p ys)/\∀l,H l=none->Q (.ref l) (aJ H l (.lst ys))):=by
 intro g s U H xs z Q I r h;obtain⟨p,ys,rfl,k,q⟩:=h;obtain⟨u,rfl,y⟩:=jE r;cases y;have fin:∀a,Vals ys a->ys.length<=sizeLine->∀c f,(∀b x,s.heap.get? b=y0 x->c.get? b=y0 x)→
  c.get? s.heap.objs.size=some {cls:=.type "list",dict:=none,data:=.seq a.toArray f,slots:=#[]}->EP X g U Q (.ref s.heap.objs.size) {s with heap:=c}:=fun a d m c f i e=>
  ⟨.ref s.heap.objs.size,_,I.laid i (Aa9 _) (show aN X.prog X.w _ c _ (.lst ys)from⟨m,a,f,d,e⟩),rfl,q _ (I.aL.fresh (Aa9 _))⟩
 rcases k with k|k
 .obtain⟨a,d,pl,m⟩:=I.list k;have j:=d.length;obtain⟨o,v,t,n,w⟩:=pl.isList;exact call_list_seq p (.inl rfl) v t w (λc f i e=>fin a d m c f i e) (by simp only[Ab2]<;>omega)
 .obtain⟨a,d,pl,m⟩:=I.tuple k;have j:=d.length;obtain⟨o,v,t,n,w⟩:=pl;exact call_list_seq p (.inr rfl) v t w (λc f i e=>fin a d m c f i e) (by simp only[Ab2]<;>omega)
def Xf:Qn X (.type "tuple") (fun xs H Q=>∃p ys,xs=[.ref p]/\((br X.K H p ys/\∀l,H l=none->Q (.ref l) (aJ H l (.tup ys)))\/(cz X.K H p ys/\Q (.ref p) H))):=by
 intro a s U H xs v Q I r h;obtain⟨p,ys,rfl,h⟩:=h;obtain⟨u,rfl,t⟩:=jE r;cases t;rcases h with⟨g,q⟩|⟨g,q⟩
 .obtain⟨c,f,pl,k⟩:=I.list g;have i:=f.length;refine call_tuple_list pl.isList (λd n=>?_) (by simp only[Ab2]<;>omega);have j:Inv X a U H {s with heap:=d}:=I.kept n;have m:Inv X a U (aJ H d.objs.size (.tup ys)) {s with heap:=d.push {cls:=.type "tuple",data:=.seq c.toArray}}:=
   j.laid (λb o e=>Aa2 _ e) (Aa9 _) (show aN X.prog X.w _ _ _ (.tup ys)from⟨k,c,f,dz.new _ _⟩)
  exact⟨.ref d.objs.size,_,m,rfl,q _ (j.aL.fresh (Aa9 _))⟩
 .obtain⟨c,f,pl,k⟩:=I.tuple g;exact call_tuple_same pl ⟨.ref p,H,I,rfl,q⟩
def o8(K:Aa6)(T:String)(x:V)(H:Hp):Prop:=match x with
|.str _=>T="str"
|.int _=>T="int"
|.ref p=>(T="list"/\∃xs,br K H p xs)\/(T="tuple"/\∃o,K.lookup p=some o/\o.cls=.type "tuple"/\o.dict=none)∨
  (T="dict"/\((∃kvs,H p=some (.dK kvs))\/∃kvs,H p=some (.dT kvs)))\/(T="set"/\∃S n,H p=some (.set S n))
|_=>False
def sY(I:Inv X pins U H s)(r:RelV x v)(ty:o8 X.K T x H):
 s.TypeIs v T/\∀a,v=.ref a->∃j,s.heap.get? a=y0 j/\j.dict=none:=by
 cases x with
|str z=>obtain⟨t,rfl⟩:=r;cases(ty);exact⟨typeIs_str s z t,λ_ e=>nomatch e⟩
|int i=>obtain⟨t,rfl⟩:=r;cases(ty);exact⟨typeIs_int s i t,λ_ e=>nomatch e⟩
|ref p=>
  cases r;rcases ty with⟨rfl,l,h⟩|⟨rfl,o,b,g,f⟩|⟨rfl,b⟩|⟨rfl,S,n,b⟩
  .obtain⟨k,_,pl,_⟩:=I.list h;refine⟨pl.isList.typeIs,λa e=>?_⟩;cases e;obtain⟨o,n,e,c,f,_⟩:=pl;exact⟨o,e,f⟩
  .refine⟨⟨o,I.bI p o b,g⟩,λa e=>?_⟩;cases e;exact⟨o,I.bI _ o b,f⟩
  .have z:∃o,s.heap.get? p=y0 o/\o.ExactDict:=by
    rcases b with⟨d,b⟩|⟨d,b⟩
    .obtain⟨_,_,_,_,o,_,_,e,ex,_⟩:=I.aL p _ b;exact⟨o,e,ex⟩
    .obtain⟨_,_,_,_,o,_,_,e,ex,_⟩:=I.aL p _ b;exact⟨o,e,ex⟩
   obtain⟨o,e,ex⟩:=z;refine⟨⟨o,e,ex.1⟩,λa e2=>?_⟩;cases e2;exact⟨o,e,ex.2.1⟩
  .obtain⟨o,_,_,_,e,ex,_⟩:=I.aL p _ b;refine⟨⟨o,e,ex.1⟩,λa e2=>?_⟩;cases e2;exact⟨o,e,ex.2.1⟩
|_=>exact False.elim ty
def F4(K:Aa6)(T:String)(r:V->List V->Hp->VK->Prop)(a:TE):TE:=λU H Q=>a U H λx H1=>o8 K T x H1/\r x [] H1 Q
def BZ(K:Aa6)(T:String)(r:V->List V->Hp->VK->Prop)(a:TE)(t:TA):TE:=λU H Q=>a U H λx H1=>o8 K T x H1/\t U H1 λxs H2=>r x xs H2 Q
variable{o e:Expr}{es:List Expr}{to:TE}{t:TA}{name:Str}{apos cpos:Pos}{T id:String}{r:V->List V->Hp->VK->Prop}
def Br(l:PlainAttrs T)(d:Slot T name id)(e:typeOf (.builtin id)=pure (.type "method_descriptor"))(n:og X id r)(i:PE X o to)
 (b:attributeBase o name X.env (eval o X.env)=eval o X.env:=by rfl)(c:(apos.endLine==cpos.line)=true:=by rfl):PE X (.Call (.Attribute o name apos) [] [] cpos) (F4 X.K T r to):=by
 intro a s U H Q I h;refine wpAny_Call_method0_late b c (aH (i a s U H _ I h) ?_);rintro v p ⟨x,j,f,g,ty,m⟩;obtain⟨k,q⟩:=sY f g ty;exact⟨T,id,l,d,e,k,q,Calls.callWith_builtin rfl (PySem.evalArgs_none (n a p U j x [] v [] Q f g .nil m))⟩
def oh(A:PlainAttrs T)(f:Slot T name id)(i:typeOf (.builtin id)=pure (.type "method_descriptor"))(F:og X id r)(q:PE X o to)(D:PA X (e::es) t)
 (c:attributeBase o name X.env (eval o X.env)=eval o X.env:=by rfl)
 (g:((backTo cpos (starEach (e::es) X.env)).all (λx=>!x.1)&&(backToKw cpos (keywordEach [] X.env)).all (λx=>x.1.isSome)
   &&u9 ((e::es).length+([]:List Keyword).length+(if([]:List Keyword).isEmpty then 0 else 1)<30))=true:=by rfl)
 (d:(apos.endLine==cpos.line)=true:=by rfl)(C:starEach (e::es) X.env=(y9,eval e X.env)::starEach es X.env:=by rfl)(b:(backTo cpos (starEach es X.env)).any (·.1)=false:=by rfl):
 PE X (.Call (.Attribute o name apos) (e::es) [] cpos) (BZ X.K T r to t):=by
 intro a s U H Q I h;refine wpAny_Call_method_late c g d rfl (aH (q a s U H _ I h) ?_);rintro v G ⟨x,w,j,k,ty,E⟩;obtain⟨z,K⟩:=sY j k ty;refine⟨T,id,A,f,i,z,K,?_⟩;have l:=D cpos a G U w _ j E;rw[C]at l⊢;refine Calls.callWith_builtin (by show(y9||(backTo cpos (starEach es X.env)).any (·.1))=y9;rw[b]<;>rfl) (Calls.evalArgs_plain ?_);exact aH l (by rintro J u⟨m,y,p,B,n⟩;exact F a u U y x m v J Q p k B n)
end
def i5(X:Cx)(id:String)(r:V->List V->Hp->VK->Prop):Prop:=
 ∀(pins:List (Addr×Obj))(s:Shared)(U:St)(H:Hp)(x:V)(xs:List V)(v:Value)(a:List Value)(Q:VK),Inv X pins U H s->RelV x v->Vals xs a->r x xs H Q→
  wpAny (model X.prog X.w) X.A (call (.builtin id) (v::a)) (EP X pins U Q) X.xe s
def Vals.one:∀{x}{us},Vals [x] us->∃u,us=[u]/\RelV x u
|_,_,.cons r .nil=>⟨_,rfl,r⟩
theorem Vals.rep (h:Vals xs us):∀k:Nat,Vals (Aa1 k xs).flatten (Aa1 k us).flatten
|0=>.nil
|k+1=>by exact Vals.append h (Vals.rep h k)
theorem wV(its):∀k (a:List Value),
 List.foldl (λL j=>L++j) a.toArray (Aa1 k its.toArray)=(a++(Aa1 k its).flatten).toArray
|0,a=>by simp
|k+1,a=>by
  have e:a.toArray++its.toArray=(a++its).toArray:=by simp
  have e2:(a++its)++(Aa1 k its).flatten=a++(Aa1 (k+1) its).flatten:=by rw[Ad9,Ap,Ag7]
  rw[←e2,←wV its k (a++its),←e,Ad9,Ah6]
section
variable{X:Cx}{pins:List (Addr×Obj)}{U:St}{H:Hp}{s:Shared}{l b:Addr}{xs ys zs:List V}
def Inv.mF {b a:List Value}(I:Inv X pins U H s)(g:H l=y0 (.lst xs))
 (e:s.heap.get? l=y0 {cls:=.type "list",data:=.seq b.toArray n})(c:f b.toArray=a.toArray)(h:Vals ys a)(d:ys.length<=sizeLine):
 Inv X pins U (aJ H l (.lst ys)) {s with heap:=s.heap.update l (Obj.mapSeq f),toks:=t'}:=by
 have q:=PySem.IsL.update e f;rw[c]at q;refine I.write (by rw[g];exact trivial) (.inl rfl) (λk u j i=>(Ak0 s.heap (Obj.mapSeq f) (Ne.symm j)).trans i) ⟨_,q⟩ ?_;exact⟨d,a,_,h,q⟩
def Inv.mh (I:Inv X pins U H s)(a:Vals ys its)(b:ys.length<=sizeLine):
 Inv X pins U (aJ H s.heap.objs.size (.lst ys)) {s with heap:=s.heap.push {cls:=.type "list",data:=.seq its.toArray},toks:=t'}:=
 I.laid (λ_ _ q=>Aa2 _ q) (Aa9 _) ⟨b,its,0,a,Ac _ rfl⟩
theorem Inv.fresh (I:Inv X pins U H s):H s.heap.objs.size=none:=I.aL.fresh (Aa9 _)
def Inv.iY (I:Inv X pins U H s)(a:H l=y0 (.lst xs)):xs.length<=sizeLine/\∃j n,Vals xs j/\xs.length=j.length/\s.heap.get? l=y0 {cls:=.type "list",data:=.seq j.toArray n}:=by obtain⟨z,j,n,r,e⟩:=I.aL l _ a;exact⟨z,j,n,r,r.length,e⟩
def J8(h:n<=sizeLine):Builtin.List.listTooLong n=false:=by exact decide_eq_false (by omega)
end
section
variable{X:Cx}
def N3:V->List V->Hp->VK->Prop:=λx a H Q=>∃l xs y,x=.ref l/\a=[y]/\H l=y0 (.lst xs)/\xs.length<sizeLine/\Q .ak (aJ H l (.lst (xs++[y])))
def qU:i5 X "list.append" N3:=by intro b s U H x g v m Q I f rv h;obtain⟨l,j,y,rfl,rfl,c,k,q⟩:=h;cases f;obtain⟨u,rfl,d⟩:=rv.one;obtain⟨z,a,n,r,i,e⟩:=I.iY c;refine call_meets F.slot_list_append ⟨_,e,rfl⟩ F.entry_list_append (F.args_list_append_2 _ _) (PySem.list_append l a.toArray n u (by rw[Ab2];omega)) ⟨e,?_⟩;refine⟨.ak,_,I.mF c e (by simp) (r.append (.cons d .nil)) ?_,rfl,q⟩;rw[Ab,List.length_singleton];omega
def LC:V->List V->Hp->VK->Prop:=λx a H Q=>∃l b xs zs,x=.ref l/\a=[.ref b]/\H l=y0 (.lst xs)/\H b=y0 (.lst zs)/\xs.length+zs.length<=sizeLine/\Q .ak (aJ H l (.lst (xs++zs)))
def M8:i5 X "list.extend" LC:=by
 intro g s U H x w v E Q I m rv h;obtain⟨l,b,C,A,rfl,rfl,i,o,D,q⟩:=h;cases m;obtain⟨u,rfl,j⟩:=rv.one;cases j;obtain⟨z,c,n,r,B,e⟩:=I.iY i;obtain⟨y,a,k,p,t,e2⟩:=I.iY o;have f:c.toArray.size+a.toArray.size<=sizeLine:=by rw[Ab2,Ab2];omega
 have d:¬(!c.toArray.isEmpty&&Builtin.List.listTooLong (c.toArray.size+a.toArray.size))=true:=by rw[J8 f,Ae3];exact Ab8
 refine call_meets F.slot_list_extend ⟨_,e,rfl⟩ F.entry_list_extend (F.args_list_extend_2 _ _)
  (AutoSeq1.list_extend_list_list_0 l c.toArray n b a.toArray k d (by rw[Ab2];omega) (by omega)) ⟨e,e2,?_⟩
 refine⟨.ak,_,I.mF i e (by simp) (r.append p) ?_,rfl,q⟩;rw[Ab];omega
def DE(xs:List α)(k):(Aa1 k xs).flatten.length=k*xs.length:=by simp
end
end L2
namespace Att
open PySem PySem.W PySem.Calls PyProof.Rows
def XD:∀ns vs,WellAll P h vs (ns.map WData.int)->IntsAre vs ns:=by
 intro ns;induction ns with
|nil=>intro vs w;cases w;exact .nil
|cons n ns c=>
  intro vs w;cases w with
|cons a b=>cases a;exact .cons _ _ (c _ b)
def EA{l:OpenLaw}(p:l.most=y0 n)
 (b:l.row.toRowW.claim.pre args=k9)(j:WellAll P h vals args):
 ∃a vs ns,vals=[Value.ref a]/\args=[WData.list (ns.map WData.int)]/\h.get? a=y0 {cls:=.type "list",data:=.seq vs.toArray}/\IntsAre vs ns/\ns.length<=n:=by
 have g:WShape.hasAll [] args [.list .int]=true:=(pre_splitW b).1;have k:l.pre.holds [] {args:=args}=true:=(pre_splitW b).2;obtain⟨d,r,rfl,v,w⟩:=hasAllW_cons g;obtain rfl:=hasAllW_nil w;obtain⟨x,rfl,o⟩:=hasW_list v;obtain⟨ns,rfl⟩:=items_int o;have c:ns.length<=n:=by
  have f:=by have f:=(holds_andW k).1;rw[p]at f;exact f
  have i:=condW_of f (w_not (w_lt w_lit (w_len_list (w_arg rfl))));refine Nat.le_of_not_lt λq=>?_;have s:=by omega
  first
|(rw[decide_eq_true s]at i;exact absurd i (by decide))
  |(simp at i;omega)
 cases j with
|cons t m=>
  cases m;cases t with
|list u e=>exact⟨_,_,ns,rfl,rfl,u,XD ns _ e,c⟩
def DO(l:OpenLaw)(args):l.row.toRowW.claim.post args (.bool k9) args=true:=
 postW_of
  (show WShape.has [] (.bool k9) .bool=k9 by first|rfl|decide|simp[WShape.armsAll])
  (show(WTm.eq .res (.lit (.bool k9))).value [] {args:=args,res:=y0 (.bool k9),after:=args}=y0 (.bool (k9==k9))from w_eq_bool (w_res rfl) w_lit) rfl
def el{l:OpenLaw}
 (x:l.most=y0 n)(h:d.params.defaults=[])
 (call:∀w L j mg V O o W cd M a vs ns,
   Ground q loose [] XP w L mg V j.heap->YP w j.heap→
   j.heap.get? O=y0 o->o.data=.func (docDef d.name d.params d.body d.scope W cd M)->j.heap.CodeRec cd d.name->mg d.name=y0 (.ref O)→
   j.heap.get? a=y0 {cls:=.type "list",data:=.seq vs.toArray}->IntsAre vs ns->ns.length<=n->j.gens=#[]→
   codeAny (model l.prog w) callerA (.call (.ref O) ⟨[.ref a],[]⟩) (λr s'=>r=.ok (.ret (.bool k9))/\OldK j.heap s'.heap/\s'.os=j.os/\AllBare s'.gens) j):
 WalkO q loose XP YP l.row.toRowW d [] (λf vs=>PySem.call f vs):=by
 intro w L j mg V G Y O o W cd M I kV y E k u i z s p J c t A m B;obtain rfl:I=.none:=Dflts.none u h;obtain rfl:kV=.none:=Dflts.noKw u;obtain⟨a,vs,ns,rfl,rfl,g,b,e⟩:=EA x c m;refine enter_call (codeAny_mono (call w L j mg V O o W cd M a vs ns G Y y (fd_plain E) k i g b e z) λr s' H=>?_);obtain⟨rfl,C,v,D⟩:=H;exact⟨.inl ⟨.bool k9,.bool k9,[],rfl,λ_=>rfl,.bool k9,DO l _,λ_=>⟨List.Pairwise.nil,λ_ F=>(nomatch F)⟩⟩,C,v,D⟩
end Att
namespace L2
open PySem PySem.Spec PyProof.Rows
theorem WW:∀{vs}{ns},IntsAre vs ns->Vals (ns.map V.int) vs
|_,_,.nil=>.nil
|_,_,.cons n t h=>.cons ⟨t,rfl⟩ (WW h)
def oT(H:Hp):Prop:=∀b,H b=u0\/∃o xs,H b=y0 (.eA o (.lst xs))
def AM{K:Aa6}
 (T:K.In s₁.heap)(p:s₁.heap.Ns mainGlobals mg)(c:s₁.heap.Ns builtinsNs mb)(N:∀x:Str,x≠"__name__"->mb x=bootBuiltins x)(A:s₁.heap.NoLimit)(hg:s₁.gens=#[])
 (G:s₁.heap.get? a=y0 {cls:=.type "list",data:=.seq vs.toArray})(S:IntsAre vs ns)(R:ns.length<=sizeLine)(hr:aY k callerA)
 (F:∀base:Heap,K.In base->base.Ns mainGlobals mg->bq P w K mg base CX k fa fd [x] sp)(i:∀s u,BindsTo s fd ⟨[u],[]⟩ [(x,u)])
 (O:∀H:Hp,oT H->br K H a (ns.map V.int)->sp [.ref a] H (λv _=>v=.bl k9) λ_ _ _=>False)
 (L:∀H e s',CX [] H s₁ (λ_ _ _=>False) e s'->False):
 codeAny (model P w) callerA (.call (.ref fa) ⟨[.ref a],[]⟩) (λr s'=>r=.ok (.ret (.bool k9))/\OldK s₁.heap s'.heap/\s'.os=s₁.os/\AllBare s'.gens) s₁:=by
 have rv:=WW S;have y:=S.length;have g:∀H:Hp,oT H->br K H a (ns.map V.int)->c8 P w H s₁.heap->(∀b,H b≠u0->b=a)->(H a≠u0->K.lookup a=u0)→
  codeAny (model P w) callerA (.call (.ref fa) ⟨[.ref a],[]⟩) (λr s'=>r=.ok (.ret (.bool k9))/\OldK s₁.heap s'.heap/\s'.os=s₁.os/\AllBare s'.gens) s₁:=by
  intro H Q Z C U hK;have bC:∀{b}{o},s₁.heap.get? b=y0 o->H b=u0->(iM s₁.heap H).get? b=y0 o:=λe n=>LO e n;have M:∀{b}{o}{D}{E},s₁.heap.get? b=y0 o->o.data=.dict D E->H b=none:=λ{b o D E} e d=>by
   cases q:H b with
|none=>rfl
|some u=>have I:=U b (by rw[q];simp);subst I;rw[G]at e;cases e;have W:=d;cases W
  have f:∀{b}{m},s₁.heap.Ns b m->(iM s₁.heap H).Ns b m:=λ{b m} ⟨o,D,E,e,d,r⟩=>⟨o,D,E,bC e (M e d),d,r⟩;have j:=λb o e=>bC (T b o e) (by
   cases q:H b with
|none=>rfl
|some u=>have I:=U b (by rw[q];simp);subst I;rw[hK (by rw[q];simp)]at e;cases e)
  have X:Mod K mg (iM s₁.heap H):=⟨j,f p,⟨mb,f c,N⟩,let⟨mc,h1,h2⟩:=A;⟨mc,f h1,h2⟩⟩;have e0:dE P w K mg (iM s₁.heap H) callerA [] s₁ H:=⟨rfl,X,λb o e=>E8 e,Ap4 (Me _ _),trivial,λb c=>absurd (show b∈([]:List Addr)from c) (by simp),C,.of_eq hg⟩;refine codeAny_mono ((F _ j (f p)).run callerA [] s₁ H ⟨[.ref a],[]⟩ [.ref a] [.ref a] _ _ hr e0 (i s₁ (.ref a)) (.cons rfl .nil) (O H Q Z)) λr s' h=>?_;cases r with
|error e=>exact(L H e s' h).elim
|ok Y=>
   cases Y with
|next=>exact False.elim h
|brk=>exact False.elim h
|cont=>exact False.elim h
|ret u=>
    obtain⟨v,H',os,l,un,t,r',q⟩:=h;have q':=q;subst q';obtain rfl:u=Value.bool true:=r';refine⟨rfl,OldK.of_keep λb o e=>?_,os,l⟩;cases q:H b with
|none=>exact un.keep b o e q (by intro z;exact absurd (show b∈([]:List Addr)from z) (by simp)) (by simp)
|some u=>
     rcases Q b with z|⟨ob,xs,z⟩
     .rw[q]at z;cases z
     .have z2:=un.cJ b ob _ z;obtain⟨e1,_⟩:=C b _ z;obtain⟨e2,_⟩:=t b _ z2;rw[e]at e1;cases e1;exact e2
 cases J:K.lookup a with
|some o=>have e:=T a o J;rw[G]at e;cases e;refine g (λ_=>u0) (λ_=>.inl rfl) (.inr ⟨_,vs.toArray,_,J,rfl,rfl,rfl,by rw[Ab2,y];exact R,by simpa using rv⟩) (λb u z=>by have B:=z;cases B) (λb z=>absurd rfl z) λz=>absurd rfl z
|none=>
  refine g (fun b=>if b=a then some (.eA {cls:=.type "list",data:=.seq vs.toArray} (.lst (ns.map V.int)))else none) (fun b=>?_) (.inl (.inr ⟨{cls:=.type "list",data:=.seq vs.toArray},if_pos rfl⟩)) (fun b u z=>?_) (fun b z=>?_) fun _=>J
  .by_cases c:b=a
   .exact .inr ⟨_,_,if_pos c⟩
   .exact .inl (if_neg c)
  .by_cases c:b=a
   .have B:=(if_pos c).symm.trans z;cases B;subst c;exact⟨G,by rw[Aa];exact R,vs,_,rv,G⟩
   .have B:=(if_neg c).symm.trans z;cases B
  .by_cases c:b=a
   .exact c
   .exact absurd (if_neg c) z
abbrev Og{K:Aa6}{h:Heap}(_:K.In h):Aa6:=K
def h9{l:PySem.W.OpenLaw}{K:Params->Aa6}{A:World->gN}{B:World->Sp}
 (E:l.most=y0 n)(t:n<=sizeLine)(m:d.params.defaults=[])(Q:aY k callerA)
 (D:∀w h,YP w h->(K w.params).In h)
 (F:∀w mg j h,(K w.params).In h->h.Ns mainGlobals mg->mg d.name=y0 (.ref j)→
   ∃fd:FuncData,(∀s u,BindsTo s fd ⟨[u],[]⟩ [(x,u)])∧
    ∀base:Heap,(K w.params).In base->base.Ns mainGlobals mg->bq l.prog w (K w.params) mg base (A w) k j fd [x] (B w))
 (y:∀w H a (ns:List Int),ns.length<=n->oT H->br (K w.params) H a (ns.map V.int)->B w [.ref a] H (λv _=>v=.bl k9) λ_ _ _=>False)
 (p:∀w H s e s',A w [] H s (λ_ _ _=>False) e s'->False):
 PySem.W.WalkO q loose XP YP l.row.toRowW d [] (λf vs=>PySem.call f vs):=by
 refine Att.el E m λw z i mg R j o T cd L a vs ns G Y S U N r g c b M=>?_;have C:=D w _ Y;obtain⟨fd,P,O⟩:=F w mg j _ C G.T.g r;exact AM C G.T.g G.T.b G.T.builtins G.T.nolimit M g c (Ab6 b t) Q O P (λH I J=>y w H a ns b I J) λH e s'=>p w H i e s'
noncomputable def Ng(s:Stmt):Arguments:=match s with
|.FunctionDef _ a _ _ _ _ _ _ _ _=>a
|_=>{posonlyargs:=[],args:=[],vararg:=u0,kwonlyargs:=[],kw_defaults:=[],kwarg:=u0,defaults:=[]}
def ZE(s:Stmt):List Stmt:=match s with
|.FunctionDef _ _ b _ _ _ _ _ _ _=>b
|_=>[]
noncomputable def Zk(s:Stmt):Scope:=match s with
|.FunctionDef _ _ _ _ _ _ a _ _ _=>a
|_=>{kind:=.function,names:=[],isGenerator:=y9,isCoroutine:=y9}
abbrev mj:gN:=λ_ _ _ _ _ _=>False
abbrev E0:XK:=λ_ _ _=>False
structure km(K:Aa6)(x y8:Str)(st:Stmt)(f:Addr)(fd:FuncData):Prop where
 ex:∃(oc:Value)(od:Option Addr)(kV doc pm:Value)(an:Option Addr)(cdv ct:Value)(osl:Array (Option Value)),
  fd=PySem.W.fnOf x y8 (Ng st) (ZE st) (Zk st) .none kV doc pm an cdv ct/\K.lookup f=y0 ⟨oc,od,.func fd,osl⟩/\PySem.W.codeIn K cdv y8=k9
 kp:Ah K (.ref f)=k9
def wj(h:n<=1000):n<sizeLine:=Aj6 h (by decide)
section
variable{X:Cx}
def pv(i)(c:X.N[i]?=some x:=by rfl)(d:kg X.env.scope x:=by first|exact Or.inl rfl|exact Or.inr (Or.inl rfl)|exact Or.inr (Or.inr rfl))(b:(x==("__debug__":Str))=false:=by decide)
 (a:(x==("__classdict__":Str))=false:=by decide):PE X (.Name x pos) (nB i):=Xy c d b a
end
def nI{A B:Prop}(h:B):if y9=k9 then A else B:=by exact h
def nR{A B:Prop}(h:A):if k9=k9 then A else B:=by exact h
end L2
set_option maxHeartbeats 4000000
namespace L2
open PySem PySem.Spec PyProof.Rows
noncomputable def we(env:Env)(a:List (Str×Addr))(y:Str×NameKind):List (Str×Addr):=
 if y.2==.free then(match env.cells.lookup y.1 with|some c=>(y.1,c)::a|none=>a)else a
def wO(a:Scope)(env:Env):List (Str×Addr):=a.names.foldl (we env) []
theorem t9:∀(a:List (Str×NameKind)) j,(∀y∈a,y.2=.free->∃c,env.cells.lookup y.1=y0 c)→
 (do
   let mut L:=j
   for (name,kind) in a do
    if kind==.free then L:=(name,←cellOf env name)::L
   return L:Sem (List (Str×Addr)))=pure (a.foldl (we env) j)
|[],j,_=>by simp
|(n,k)::r,j,h=>by
  have f:=λL=>t9 r L λy i=>h y (Aa3 _ i);by_cases d:k=.free
  .subst d;obtain⟨c,b⟩:=h (n,.free) Aa4 rfl;have b:=b;have e:we env j (n,.free)=(n,c)::j:=by show(if(NameKind.free==NameKind.free)=k9 then(match env.cells.lookup n with|some c=>(n,c)::j|none=>j)else j)=_;rw[if_pos (show(NameKind.free==NameKind.free)=k9 from rfl),b]
   rw[Ah6,e,←f];simp[cellOf,b]
  .have g:(k==NameKind.free)=false:=by simpa using d
   have e:we env j (n,k)=j:=by show(if(k==NameKind.free)=k9 then _ else j)=_;rw[g,if_neg Ab8]
   rw[Ah6,e,←f];simp[d]
def JM(h:∀y∈scope.names,y.2=.free->∃c,env.cells.lookup y.1=y0 c):closureFor scope env=pure (wO scope env):=
 t9 scope.names [] h
theorem QF:∀(a:List (Str×NameKind)) j,(∀x c,j.lookup x=y0 c->env.cells.lookup x=y0 c)->∀x c,(a.foldl (we env) j).lookup x=y0 c->env.cells.lookup x=y0 c
|[],_,h=>h
|(n,k)::r,j,h=>by
  refine QF r (we env j (n,k)) λx c e=>?_;unfold we at e;split at e
  .split at e
   .rename_i f b;rw[Ab9]at e;cases d:x==n with
|true=>
     rw[d]at e;have:x=n:=by simpa using d
     subst this;cases e;exact b
|false=>rw[d]at e;exact h x c e
   .exact h x c e
  .exact h x c e
theorem jU(b:env.cells.lookup x=y0 c):∀(a:List (Str×NameKind)) L,((x,.free)∈a\/∃j,L.lookup x=y0 j)->∃j,(a.foldl (we env) L).lookup x=y0 j
|[],L,h=>h.elim (λz=>absurd z (by simp)) id
|(n,k)::r,L,h=>by
  refine jU b r (we env L (n,k)) ?_;have grow:(∃j,L.lookup x=y0 j)->∃j,(we env L (n,k)).lookup x=y0 j:=by
   rintro⟨j,e⟩;unfold we;split
   .split
    .rw[Ab9];cases x==n with
|true=>exact⟨_,rfl⟩
|false=>exact⟨j,e⟩
    .exact⟨j,e⟩
   .exact⟨j,e⟩
  rcases h with h|h
  .rcases Ab7.mp h with h|h
   .cases h;refine .inr ⟨c,?_⟩;show Ah1 x (if(NameKind.free==NameKind.free)=k9 then(match env.cells.lookup x with|some c=>(x,c)::L|none=>L)else L)=_;rw[if_pos (show(NameKind.free==NameKind.free)=k9 from rfl),b];simp
   .exact .inl h
  .exact .inr (grow h)
def JR(I:Nat->Shared->Prop)
 (k:∀n s,I n s->wpAny (model prog w) A (pyNext it) (λr L=>match r with
|none=>R (.ok .next) L
|some v=>wpAny (model prog w) A (letOwnedTupleGo tg it v) (λ_ j=>wpAny (model prog w) A (assign tg env v) (λ_ O=>
    wpAny (model prog w) A (forIn ifs k9 λc r=>if r=k9 then do let ok←isTrue c env (eval c env);pure (ForInStep.yield ok)else pure (ForInStep.yield r)) (λok M=>
     if ok=k9 then wpAny (model prog w) A (eval elt env) (λx V=>
      wpAny (model prog w) A (call (.builtin "list.append") [acc,x]) (fun _ W=>∃m,m<n/\I m W) (notedBy (model prog w) A env fun e s'=>R (.error e) s') V) (notedBy (model prog w) A env fun e s'=>R (.error e) s') M
     else∃m,m<n/\I m M) (notedBy (model prog w) A env λe s'=>R (.error e) s') O) (notedBy (model prog w) A env λe s'=>R (.error e) s') j) (notedBy (model prog w) A env λe s'=>R (.error e) s') L) (notedBy (model prog w) A env λe s'=>R (.error e) s') s)
 (n)(h:I n s):codeAny (model prog w) A (.compLoop (.ListComp elt [⟨tg,iter,ifs,0⟩] scope pos) 0 it acc env) R s:=by
 refine codeAny_loop rfl I (λn s o=>wpAny_noted ?_) n h;rw[compTurn_list];refine wpAny_bind (wpAny_standAt (wpAny_bind (wpAny_mono (k n s o) (λr L b=>?_) λ_ _ a=>a)));cases r with
|none=>exact wpAny_pure b
|some v=>
  refine wpAny_bind (wpAny_mono b (λ_ j f=>wpAny_bind (wpAny_mono f (λ_ O g=>wpAny_bind (wpAny_mono g (λok M d=>?_) λ_ _ a=>a)) λ_ _ a=>a)) λ_ _ a=>a);cases ok with
|false=>exact wpAny_pure ⟨rfl,d⟩
|true=>exact wpAny_bind (wpAny_bind (wpAny_mono d (λx V l=>wpAny_bind (wpAny_mono l (λ_ W i=>wpAny_pure (wpAny_pure ⟨rfl,i⟩)) λ_ _ a=>a)) λ_ _ a=>a))
theorem W1:∀j n L,(x,NameKind.cell)∉j->(cellsFrom n j L).lookup x=L.lookup x
|[],_,_,_=>rfl
|(y,k)::r,n,L,h=>by
  unfold cellsFrom;split
  .rename_i a;have a:=by simpa using a
   subst a;rw[W1 r (n+1) _ λz=>h (Aa3 _ z),Ab9];cases b:x==y with
|true=>
    have:x=y:=by simpa using b
    subst this;exact absurd Aa4 h
|false=>rfl
  .exact W1 r n L λz=>h (Aa3 _ z)
theorem xZ:∀j (h:Heap) L M,(L.lookup x=y0 c->M\/(h.IsCell c u0/\(x,NameKind.cell)∈j\/h.IsCell c u0/\M))->∀lo,lo<=h.objs.size→
 (cellsFrom h.objs.size j L).lookup x=y0 c->L.lookup x=y0 c\/(lo<=c/\(x,NameKind.cell)∈j/\(pushCells h j).IsCell c u0)
|[],_,_,_,_,_,_,e=>.inl e
|(y,k)::r,h,L,M,m,lo,d,e=>by
  unfold cellsFrom at e;unfold pushCells;split at e
  .rename_i a;rw[if_pos a];have a:=by simpa using a
   subst a;have e:(cellsFrom (h.push {cls:=.type "cell",data:=.cell none}).objs.size r ((y,h.objs.size)::L)).lookup x=some c:=by rw[Heap.size_push];exact e
   rcases xZ r (h.push {cls:=.type "cell",data:=.cell none}) _ True (fun _=>.inl trivial) lo (by rw[Heap.size_push];omega) e with q|⟨l,f,i⟩
   .rw[Ab9]at q;cases g:x==y with
|true=>
     rw[g]at q;have:x=y:=by simpa using g
     subst this;cases q;exact .inr ⟨d,List.mem_cons_self,(show(h.push {cls:=.type "cell",data:=.cell none}).IsCell h.objs.size none from⟨_,Heap.get?_push_size _ rfl,rfl⟩).keeps fun b o e=>pushCells_keeps r _ b o e⟩
|false=>rw[g]at q;exact .inl q
   .exact .inr ⟨l,Aa3 _ f,i⟩
  .rename_i a;rw[if_neg a];rcases xZ r h L True (λ_=>.inl trivial) lo d e with q|⟨l,f,i⟩
   .exact .inl q
   .exact .inr ⟨l,Aa3 _ f,i⟩
theorem pf:∀(L)(n)(j),(∀x c,j.lookup x=y0 c->c<n)->(∀x y c,j.lookup x=y0 c->j.lookup y=y0 c->x=y)→
 ∀x y c,(cellsFrom n L j).lookup x=y0 c->(cellsFrom n L j).lookup y=y0 c->x=y
|[],_,_,_,b=>b
|(z,k)::r,n,j,a,b=>by
  unfold cellsFrom;split
  .have look:∀x c,((z,n)::j).lookup x=y0 c->(x=z/\c=n)\/(j.lookup x=y0 c):=λx c e=>by
    rw[Ab9]at e;cases d:x==z with
|true=>rw[d]at e;cases e;exact .inl ⟨by simpa using d,rfl⟩
|false=>rw[d]at e;exact .inr e
   refine pf r (n+1) _ (λx c e=>?_) λx y c e1 e2=>?_
   .rcases look x c e with⟨_,q⟩|q
    .exact q▸Ae9 n
    .exact Nat.lt_succ_of_lt (a x c q)
   .rcases look x c e1 with⟨i,g⟩|p<;>rcases look y c e2 with⟨h,f⟩|q
    .rw[i,h]
    .exact absurd (g▸a y c q) (Ai0 _)
    .exact absurd (f▸a x c p) (Ai0 _)
    .exact b x y c p q
  .exact pf r n j a b
theorem qL:∀(a:List (Str×NameKind)) j,(a.foldl (we env) j).lookup x=y0 c->j.lookup x=y0 c\/(x,NameKind.free)∈a
|[],_,h=>.inl h
|(y,k)::r,j,h=>by
  rcases qL r _ h with q|q
  .unfold we at q;split at q
   .rename_i b;have b:=by simpa using b
    subst b;split at q
    .rw[Ab9]at q;cases d:x==y with
|true=>
      have:x=y:=by simpa using d
      subst this;exact .inr Aa4
|false=>rw[d]at q;exact .inl q
    .exact .inl q
   .exact .inl q
  .exact .inr (Aa3 _ q)
theorem WT{env:Env}:∀{a:List (Str×NameKind)}{x},
 ((a.map λ(n,k)=>if(k==NameKind.free&&env.scope.kind==.function&&env.kindOf n==y0 .cell)then(n,NameKind.cell)else(n,k)).lookup x=y0 .cell∨
   (a.map λ(n,k)=>if(k==NameKind.free&&env.scope.kind==.function&&env.kindOf n==y0 .cell)then(n,NameKind.cell)else(n,k)).lookup x=y0 .free)->(x,.free)∈a\/(x,.cell)∈a
|[],_,h=>by simp at h
|(n,k)::r,x,h=>by
  have e:=@WT env r x;rw[Ab4]at h;by_cases b:(k==NameKind.free&&env.scope.kind==.function&&env.kindOf n==y0 .cell)=k9
  .have f:=by rw[Aa0,Aa0]at b;simpa using b.1.1
   subst f;simp only[b,if_true,Ab9]at h;cases c:x==n with
|true=>
    have:x=n:=by simpa using c
    subst this;exact .inl Aa4
|false=>rw[c]at h;exact(e h).imp (Aa3 _) (Aa3 _)
  .have d:=Ak3.mpr b;simp only[d,Ai2,if_false,Ab9]at h;cases c:x==n with
|true=>
    have:x=n:=by simpa using c
    subst this;rw[c]at h;rcases h with h|h
    .have:k=.cell:=by simpa using h
     subst this;exact .inr Aa4
    .have:k=.free:=by simpa using h
     subst this;exact .inl Aa4
|false=>rw[c]at h;exact(e (by simpa using h)).imp (Aa3 _) (Aa3 _)
theorem p9:∀{a:List (Str×NameKind)}{x}{k L},(a.map Prod.fst).Nodup->(x,k)∈a->(x,L)∈a->k=L
|(y,j)::r,x,k,L,b,c,d=>by
  rw[Ab4,Ah5]at b;rcases Ab7.mp c with e1|e1<;>rcases Ab7.mp d with e2|e2
  .cases e1;cases e2;rfl
  .cases e1;exact absurd (Ac0.mpr ⟨_,e2,rfl⟩) b.1
  .cases e2;exact absurd (Ac0.mpr ⟨_,e1,rfl⟩) b.1
  .exact p9 b.2 e1 e2
theorem J4:∀{a:List (Str×NameKind)}{x}{k},(a.map Prod.fst).Nodup->(x,k)∈a->a.lookup x=y0 k
|(y,j)::r,x,k,b,h=>by
  rw[Ab4,Ah5]at b;rw[Ab9];rcases Ab7.mp h with e|e
  .cases e;simp
  .have:(x==y)=false:=by
    cases c:x==y with
|false=>rfl
|true=>
     have:x=y:=by simpa using c
     subst this;exact absurd (Ac0.mpr ⟨_,e,rfl⟩) b.1
   rw[this];exact J4 b.2 e
def iN(a:Scope)(C:Addr)(env:Env):List (Str×Addr):=cellsFrom (C+1) a.names (wO a env)
def Xw
 (d:Q (newEnv scope s.heap.objs.size globals (cellsFrom (s.heap.objs.size+1) scope.names cl) y8 u0 .none (y0 env) builtinsNs) {s with heap:=pushCells (s.heap.push {cls:=.type "dict",data:=.dict #[]}) scope.names}):
 wpAny M A (newFunctionEnv scope globals cl [] y8 u0 .none (y0 env)) Q E s:=by
 simp only[newFunctionEnv,Option.isSome_some,if_true];refine wpAny_bind (wpAny_alloc ?_);refine wpAny_bind (wpAny_layCells _ (λname a b=>by cases c:a==NameKind.cell<;>simp[c]) _ _ _ _ ?_);rw[show({s with heap:=s.heap.push {cls:=.type "dict",data:=.dict #[]}}:Shared).heap.objs.size=s.heap.objs.size+1 from Heap.size_push ..];exact wpAny_bind (wpAny_pure (wpAny_pure d))
noncomputable def Jd(X:Cx)(N:List Str)(a:Scope)(C:Addr)(b:List Addr)(s:Shared)(H:Hp):Cx where
 prog:=X.prog
 w:=X.w
 K:=X.K
 mg:=X.mg
 base:=X.base
 A:=X.A
 N:=N
 s₀:=s
 H₀:=H
 env:=compEnvC a (iN a C X.env) C X.env
 outer:=X.stack
 stack:=X.stack
 ex:=b
 fn:=λx=>u9 (a.names.lookup x=y0 .cell)
 calm:=X.calm
 pn:=[]
 xe:=λ_ _=>False
def cE(X:Cx):List Nat->List Str->Prop
|[],[]=>True
|j::a,x::xs=>X.N[j]?=y0 x/\(X.env.kindOf x=y0 .cell\/X.env.kindOf x=y0 .free)/\cE X a xs
|_,_=>False
theorem cE.get {U:St}:∀{az}{xs}{i:Nat}{x}{v},cE X az xs->xs[i]?=y0 x->(az.map λj=>(U[j]?).join)[i]?=y0 (y0 v)→
 ∃j:Nat,X.N[j]?=y0 x/\U[j]?=y0 (y0 v)/\(X.env.kindOf x=y0 .cell\/X.env.kindOf x=y0 .free)
|[],[],_,_,_,_,e,_=>by simp at e
|[],_::_,_,_,_,h,_,_=>h.elim
|_::_,[],_,_,_,h,_,_=>h.elim
|j::c,b::xs,0,x,v,h,e1,e2=>by
  obtain⟨a,d,_⟩:=h;simp at e1;subst e1;refine⟨j,a,?_,d⟩;have e2:y0 ((U[j]?).join)=y0 (y0 v):=by simpa using e2
  have e2:=Ad5.inj e2;cases q:U[j]? with
  |none=>rw[q]at e2;cases e2
  |some z=>rw[q]at e2;have:z=y0 v:=e2;rw[this]
|j::c,b::xs,i+1,x,v,h,e1,e2=>cE.get h.2.2 (by simpa using e1) (by simpa using e2)
theorem cE.length:∀{az}{xs},cE X az xs->az.length=xs.length
|[],[],_=>rfl
|[],_::_,h=>h.elim
|_::_,[],h=>h.elim
|_::_,_::_,h=>congrArg (·+1) (cE.length h.2.2)
def nP(k:Nat)(az:List Nat)(U:St):St:=Aa1 k u0++az.map λ(j:Nat)=>(U[j]?).join
def ig(X:Cx)(a:List Expr)(t:TT):Prop:=
 ∀(pins:List (Addr×Obj))(s:Shared)(U:St)(H:Hp)(Q:Bool->Hp->Prop),Inv X pins U H s->t U H Q→
  wpAny (model X.prog X.w) X.A (forIn a k9 λc r=>if r=k9 then do let ok←isTrue c X.env (eval c X.env);pure (ForInStep.yield ok)else pure (ForInStep.yield r)) (TP X pins U Q) X.xe s
def NU:TT:=λ_ H Q=>Q k9 H
def vp:ig X [] NU:=λ_ _ _ H _ I h=>wpAny_tests_nil ⟨H,I,h⟩
def rD(h:PT X c t):ig X [c] t:=λa s U H Q I b=>wpAny_tests_one (h a s U H Q I b)
def NZ(J:It)(g:TG)(l:TT)(n:TE)(e:St)(k:Hp)(Q:VK):Prop:=∃W:Nat->Nat->List V->St->Hp->Prop,(∃m,W 0 m [] e k)/\∀i m ys τ H,W i m ys τ H→
 (J.stop i H/\ys.length<=sizeLine/\∀D,H D=u0->Q (.ref D) (aJ H D (.lst ys)))∨
 (J.go i H/\ys.length<sizeLine/\∃N:List V->St->Hp->Prop,(∀c d H',N c d H'->∃h,h<m/\W (i+1) h c d H')∧
   ∀x H',J.f6 i H x H'->g x τ H' λa H2=>l a H2 λb f=>if b=k9 then n a f λy j=>N (ys++[y]) a j else N ys a f)
abbrev lx(a:Type):=Addr->List Addr->Shared->Hp->a
def mS(k:Nat)(az:List Nat)(c:TI)(g:lx TG)(b:lx TT)(a:lx TE):TE:=λU H Q=>c U H λJ H1=>∀C fp s,NZ J (g C fp s H1) (b C fp s H1) (a C fp s H1) (nP k az U) H1 Q
def Inv.adopt (I:Inv X pins U H s)(l:bA X pins H D)(w:X.s₀.heap.objs.size<=D)
 (e:s.heap.get? D=y0 {cls:=.type "list",data:=.seq its.toArray n})(r:Vals ys its)(C:ys.length<=sizeLine):Inv X pins U (aJ H D (.lst ys)) s:=by
 obtain⟨y,m,F,E,A,k⟩:=l;have up:∀b o,H b=y0 o->aJ H D (.lst ys) b=y0 o:=λb o q=>by rw[ja (Xa q y)];exact q
 have a:∀b o,X.s₀.heap.get? b=y0 o->b≠D:=λb o q z=>by rw[z]at q;exact absurd (Ab3 (Ab5 q) w) (Ai0 _)
 refine⟨I.ok,I.os,I.bare,⟨I.base.keep,I.base.slot,λb o d t v=>?_,I.base.there,λb f q=>up b _ (I.base.cP b f q),λb o u q=>up b _ (I.base.cJ b o u q),λb B q=>?_⟩,I.loc,I.cell,?_,λx c q=>?_,λp g=>?_,λb u q=>?_,I.len⟩
 .rw[ja (a b o d)];exact I.base.free b o d t v
 .obtain⟨more,i⟩:=I.base.cU b B q;exact⟨more,up b _ i⟩
 .rw[ja (Ne.symm m)];exact I.free
 .rw[ja (A x c q)];exact I.bB x c q
 .obtain⟨j,a2,a3⟩:=I.pin p g;exact⟨j,by rw[ja (k p g)];exact a2,a3⟩
 .by_cases h:b=D
  .subst h;rw[zb]at q;cases q;exact⟨C,its,n,r,e⟩
  .rw[ja h]at q;exact(I.aL b u q).cD (λ_ _ _ z=>z) (λc z=>up c _ z) λc f z=>up c _ z
theorem Wi{env:Env}:∀{b:List (Str×NameKind)}{x},b.lookup x=y0 .free→
 ((b.map λ(n,k)=>if(k==NameKind.free&&env.scope.kind==.function&&env.kindOf n==y0 .cell)then(n,NameKind.cell)else(n,k)).lookup x=y0 .cell∨
   (b.map λ(n,k)=>if(k==NameKind.free&&env.scope.kind==.function&&env.kindOf n==y0 .cell)then(n,NameKind.cell)else(n,k)).lookup x=y0 .free)
|[],_,h=>by simp at h
|(n,k)::r,x,h=>by
  have e:=@Wi env r x;rw[Ab4];rw[Ab9]at h;cases d:x==n with
|true=>
   rw[d]at h;have f:=by simpa using h
   subst f;by_cases a:(NameKind.free==NameKind.free&&env.scope.kind==.function&&env.kindOf n==y0 .cell)=k9
   .simp only[a,if_true,Ab9,d]
    first|exact .inl rfl|exact .inl trivial|simp
   .have c:=Ak3.mpr a;simp only[c,Ai2,if_false,Ab9,d]
    first|exact .inr rfl|exact .inr trivial|simp
|false=>
   rw[d]at h;have q:=e h;by_cases a:(k==NameKind.free&&env.scope.kind==.function&&env.kindOf n==y0 .cell)=k9
   .simp only[a,if_true,Ab9,d];exact q
   .have c:=Ak3.mpr a;simp only[c,Ai2,if_false,Ab9,d];exact q
structure JQ(X:Cx)(scope:Scope)(N:List Str)(k:Nat)(az:List Nat):Prop where
 kind:scope.kind=.function
 nd:(scope.names.map Prod.fst).Nodup
 names:∀y∈scope.names,y.2=.local->scope.names.lookup y.1=y0 .local
 free:∀y∈scope.names,y.2=.free->X.env.kindOf y.1=y0 .cell\/X.env.kindOf y.1=y0 .free
 hU:∀x∈N.drop k,scope.names.lookup x=y0 .free
 az:cE X az (N.drop k)
 le:k<=N.length
structure Oi(sc scope:Scope)(N:List Str)(k:Nat):Prop where
 kind:scope.kind=.function
 nd:(scope.names.map Prod.fst).Nodup
 names:∀y∈scope.names,y.2=.local->scope.names.lookup y.1=y0 .local
 free:∀y∈scope.names,y.2=.free->sc.names.lookup y.1=y0 .cell\/sc.names.lookup y.1=y0 .free
 hU:∀x∈N.drop k,scope.names.lookup x=y0 .free
 le:k<=N.length
section
variable{X:Cx}{elt tg iter:Expr}{ifs:List Expr}{scope:Scope}{pos p0:Pos}{N:List Str}{k:Nat}{az:List Nat}{wi:TI}{g:lx TG}{tc:lx TT}{te:lx TE}
def Ee(ok:JQ X scope N k az)(a:Inv X pins U H2 s2)(G:∀b∈fp,bA X pins H2 b)(O:∀b∈fp,b<s2.heap.objs.size)
 (t:s2.heap.objs.size<=C)(I:h₁.Ns C m)(f:∀b o,s2.heap.get? b=y0 o->h₁.get? b=y0 o)
 (d:∀x c,(iN scope C X.env).lookup x=y0 c->(wO scope X.env).lookup x=y0 c\/(C+1<=c/\(x,NameKind.cell)∈scope.names/\h₁.IsCell c u0)):
 Inv (Jd X N scope C fp s2 H2) [] (nP k az U) H2 {s2 with heap:=h₁,toks:=tk}:=by
 have sub:∀x c,(wO scope X.env).lookup x=y0 c->X.env.cells.lookup x=y0 c:=QF scope.names [] λx c e=>by simp at e
 have D:∀x,(x,NameKind.free)∈scope.names->∃c,(wO scope X.env).lookup x=y0 c:=λx F=>by obtain⟨c,w⟩:=a.ok.has x (ok.free _ F rfl);exact jU w scope.names [] (.inl F)
 have lt:∀x c,(wO scope X.env).lookup x=y0 c->c<C+1:=λx c e=>by obtain⟨v,o,B,_⟩:=a.cell x c (sub x c e);exact Nat.lt_succ_of_le (Ab6 (Af9 (Ab5 B)) t)
 have keep:∀x c,(x,NameKind.free)∈scope.names->(wO scope X.env).lookup x=y0 c->(iN scope C X.env).lookup x=y0 c:=λx c F e=>by unfold iN;rw[W1 scope.names _ _ λz=>by cases p9 ok.nd F z];exact e
 have A:∀x,_∈scope.names\/(x,NameKind.cell)∈scope.names->∃c,(iN scope C X.env).lookup x=y0 c:=λx h=>by
  rcases h with h|h
  .obtain⟨c,w⟩:=D x h;exact⟨c,keep x c h w⟩
  .exact Ah4.mp (Am2 scope.names _ _ (.inl (J4 ok.nd h)))
 refine⟨⟨a.ok.mod,ok.kind,a.ok.glob,a.ok.blt,t,(pf scope.names _ _ lt λx y c J H=>a.ok.inj x y c (sub x c J) (sub y c H)),λx h=>A x (WT h),λx c s e=>?_,a.ok.hd,a.ok.frames,.inl rfl,λb n=>⟨?_,λx c e=>?_⟩,
  λb o e=>a.bs b o e,Ab6 a.ok.gk a.sz,λb o e n=>?_,λb n z=>(Ab7.mp (a.dU b z)).elim (G b n).2.1 (G b n).2.2.1,a.stack,a.cH⟩,
  rfl,a.bare,Un.kept f,⟨m,I,λi x v e1 e2 e3=>?_⟩,λx c e=>?_,a.aL.fresh t,λx c e=>?_,λp T=>absurd (show p∈([]:List _)from T) (by simp),a.aL.kept f,?_⟩
 .have s:=of_decide_eq_true s;rcases d x c e with q|q
  .rcases qL scope.names [] q with z|z
   .simp at z
   .have:=J4 ok.nd z;rw[s]at this;cases this
  .exact Ab6 t (Ab6 (Af0 C) q.1)
 .show b≠C;exact Ac2 (Ab3 (O b n) t)
 .rcases d x c e with q|q
  .exact(G b n).2.2.2.2.1 x c (sub x c q)
  .exact Ne.symm (Ac2 (Ab3 (O b n) (Ab6 t (Ab6 (Af0 C) q.1))))
 .rcases(G b n).2.2.2.1 with z|z
  .exact a.ok.fm b o e z
  .have J:=Ab5 e;have H:=a.ok.gk;exact absurd (Ab3 J (Ab6 H z)) (Ai0 _)
 .have g:k<=i:=by
   by_cases g:i<k
   .have e2:(Aa1 k u0++az.map λ(j:Nat)=>(U[j]?).join)[i]?=y0 _:=e2;rw[Ad4 (by simpa using g),Ah8,if_pos g]at e2;cases e2
   .omega
  have E:(N.drop k)[i-k]?=y0 x:=by rw[List.getElem?_drop,show k+(i-k)=i by omega];exact e1
  have K:(az.map λ(j:Nat)=>(U[j]?).join)[i-k]?=y0 (y0 v):=by have e2:(Aa1 k u0++az.map λ(j:Nat)=>(U[j]?).join)[i]?=y0 _:=e2;rw[Ad3 (by simpa using g),Ad0]at e2;exact e2
  obtain⟨j,Q,V,P⟩:=ok.az.get (U:=U) E K;obtain⟨Y,W,S⟩:=a.loc;obtain⟨u,r,l⟩:=S j x v Q V (.inr (P.elim (λz=>.inl z) λz=>.inr z));refine⟨u,r,.inr ?_⟩;have s:=ok.hU x (Ac7 E);refine⟨Wi s,?_⟩;obtain⟨c,w⟩:=D x (PySem.mem_of_lookup s);refine⟨c,keep x c (PySem.mem_of_lookup s) w,?_⟩;rcases l with⟨R,_⟩|⟨_,Z,M,o,B,L⟩
  .rcases P with z|z<;>(rw[R]at z;cases z)
  .have d:=sub x c w;rw[M]at d;cases d;exact⟨o,f _ o B,L⟩
 .rcases d x c e with q|q
  .obtain⟨v,o,B,L⟩:=a.cell x c (sub x c q);exact⟨v,o,f c o B,L⟩
  .exact⟨u0,q.2.2⟩
 .rcases d x c e with q|q
  .exact a.bB x c (sub x c q)
  .exact a.aL.fresh (Ab6 t (Ab6 (Af0 C) q.1))
 .show(Aa1 k u0++az.map λ(j:Nat)=>(U[j]?).join).length=N.length;have H:=ok.le;rw[Ab,Ad0,Aa,ok.az.length,Ae8];omega
def xX(use)(hc:X.calm=k9)(ok:JQ X scope N k az)(hi:PI X tg iter wi)
 (hg:∀C fp s H,PG (Jd X N scope C fp s H) tg (g C fp s H))(ht:∀C fp s H,ig (Jd X N scope C fp s H) ifs (tc C fp s H))(he:∀C fp s H,PE (Jd X N scope C fp s H) elt (te C fp s H))
 (hs:∀x,foldedSetIterable iter X.env x=pure x)
 (I:Inv X pins U H s)(h:mS k az wi g tc te U H Q)
 (fin:∀(D C:Addr)(oC:Obj)(m:Str->Option Value)(H4:Hp)(s4:Shared),Inv X (pins++[(C,oC)]) U H4 s4->bA X pins H4 C->Q (.ref D) H4->(∀h:Heap,h.get? C=y0 oC->h.Ns C m)→
   compPost (model X.prog X.w) X.A X.xe use Q' (.ref D) C (.ok .next) s4):
 wpAny (model X.prog X.w) X.A (comprehension (.ListComp elt [⟨tg,iter,ifs,0⟩] scope pos) scope X.env p0 (newList []) y9 (eval iter X.env) use) Q' X.xe s:=by
 have hcl:closureFor scope X.env=pure _:=JM λy hy hf=>I.ok.has y.1 (ok.free y hy hf);refine wpAny_comprehension_free (use:=use) rfl hs hcl ok.kind ok.names (aH (hi pins s U H _ I h) λv s1 h1=>aH h1 λitv s2 h2=>?_);obtain⟨it,fp,tn,J,H2,e,I2,T,st2,f2,hW⟩:=h2;subst e;refine wpAny_newObj_type (Xw ?_);dsimp only;generalize hHp:s2.heap.push {cls:=.type "list",dict:=none,data:=.seq ([]:List Value).toArray}=HP;have hCs:HP.objs.size=s2.heap.objs.size+1:=by rw[←hHp,Af2]
 generalize hDD:s2.heap.objs.size=D at hCs⊢;have hns0:(HP.push {cls:=.type "dict",data:=.dict #[]}).Ns HP.objs.size fun _=>none:=Heap.Ns.new HP _;have hlk:∀x c,(iN scope HP.objs.size X.env).lookup x=some c->(wO scope X.env).lookup x=some c\/(HP.objs.size+1<=c/\(x,NameKind.cell)∈scope.names/\(pushCells (HP.push {cls:=.type "dict",data:=.dict #[]}) scope.names).IsCell c none):=fun x c e=>by refine xZ scope.names _ _ True (λ_=>.inl trivial) _ (by rw[Af2];exact Aa9 _) ?_;rw[Af2];exact e
 generalize hh1:pushCells _ scope.names=h₁ at hlk⊢;have hns₁:h₁.Ns HP.objs.size λ_=>none:=by rw[←hh1];exact hns0.keeps (pushCells_keeps _ _)
 have hk1:∀b o,HP.get? b=y0 o->h₁.get? b=y0 o:=λb o e=>by rw[←hh1];exact pushCells_keeps _ _ b o (Aa2 _ e)
 generalize hCC:HP.objs.size=C at hCs hns₁ hlk⊢;have hDC:D≠C:=by rw[hCs];exact Ac2 (Ae9 _)
 have hle:s2.heap.objs.size<=C:=by rw[hDD,hCs];exact Af0 _
 have hleD:s2.heap.objs.size<=D:=Ap4 hDD;have fo:∀b∈fp,b<D:=λb hb=>by obtain⟨o,eo,_⟩:=T.obj _ _ st2 b hb;rw[←hDD];exact Ab5 eo
 have old:∀b o,s2.heap.get? b=y0 o->h₁.get? b=y0 o:=λb o e=>by exact hk1 b o (hHp▸Aa2 _ e)
 have hacc:h₁.get? D=y0 {cls:=.type "list",data:=.seq ([]:List Value).toArray}:=by refine hk1 _ _ ?_;rw[←hHp,←hDD];exact Ac _ rfl
 obtain⟨W,⟨m0,w0⟩,turn⟩:=hW C fp s2;have I3:Inv _ [] _ H2 {s2 with heap:=h₁,toks:=s2.toks}:=
  Ee ok I2 f2 (λb hb=>by rw[hDD];exact fo b hb) hle hns₁ old hlk
 have st3:tn 0 h₁:=T.keep _ _ _ st2 λb _ o e=>old b o e;have hch:∀b∈fp,_/\b≠X.env.locals/\(∀x c,X.env.cells.lookup x=y0 c->c≠b)/\∀p∈X.pn++pins,p.1≠b:=λb hb=>⟨(f2 b hb).2.2.2.1,(f2 b hb).2.1,(f2 b hb).2.2.2.2.1,(f2 b hb).2.2.2.2.2⟩;have FD:∀{H':Hp},H' D=u0->bA X pins H' D:=λhn=>I2.dN hleD hn;have FC:∀{H':Hp},H' C=u0->bA X pins H' C:=λhn=>I2.dN hle hn;have sub:∀x c,(wO scope X.env).lookup x=y0 c->X.env.cells.lookup x=y0 c:=QF scope.names [] λx c e=>by simp at e
 have hDst:D∉b4 X.stack:=λz=>(Ab7.mp (I2.dU D z)).elim (FD (H':=λ_=>u0) rfl).2.1 (FD (H':=λ_=>u0) rfl).2.2.1;have hDc:∀x c,(iN scope C X.env).lookup x=y0 c->c≠D:=λx c e=>by
  rcases hlk x c e with q|q
  .exact(FD (H':=λ_=>u0) rfl).2.2.2.2.1 x c (sub x c q)
  .exact Ne.symm (Ac2 (Ab3 (by rw[hCs];exact Nat.lt_succ_of_lt (Ae9 _)) q.1))
 have loop:∀s₃:Shared,s₃={s2 with heap:=h₁,toks:=s2.toks}→
  codeAny (model X.prog X.w) X.A (.compLoop (.ListComp elt [⟨tg,iter,ifs,0⟩] scope pos) 0 (.ref it) (.ref D) (compEnvC scope (iN scope C X.env) C X.env))
   (compPost (model X.prog X.w) X.A X.xe use Q' (.ref D) C) s₃:=by
  rintro s₃ rfl;refine JR (λn s'=>∃i ys its kk τ H',Inv (Jd X N scope C fp s2 H2) [] τ H' s'/\tn i s'.heap/\(∀b∈fp,H' b=u0)/\H' D=u0/\s'.heap.get? D=y0 {cls:=.type "list",data:=.seq (its:List Value).toArray kk}/\Vals ys its/\W i n ys τ H') ?_ m0 ⟨0,[],[],0,_,H2,I3,st3,λb hb=>(f2 b hb).1,I2.aL.fresh hleD,hacc,.nil,w0⟩;rintro n s3 ⟨i,ys,its,kk,τ,H3,I3,st3,fr3,hD3,eD3,rv3,w3⟩;have IP:Inv (Jd X N scope C fp s2 H2) [(D,{cls:=.type "list",data:=.seq its.toArray kk})] τ H3 s3:=I3.bY fun p hp=>by
   have e:p=(D,{cls:=.type "list",data:=.seq its.toArray kk}):=by simpa using hp
   subst e;exact⟨eD3,hD3,hDC,hDst,λv z=>by cases z⟩
  have fpok:∀{H':Hp},(∀b∈fp,H' b=u0)->∀b∈fp,bA (Jd X N scope C fp s2 H2) [(D,{cls:=.type "list",data:=.seq its.toArray kk})] H' b:=fun{H'} hn b hb=>by
   refine⟨hn b hb,I3.ok.mw b hb|>.1,I3.ok.fu b hb,.inl hb,I3.ok.mw b hb|>.2,λp hp=>?_⟩;have e:p=(D,{cls:=.type "list",data:=.seq its.toArray kk}):=by have hp:p∈([]:List (Addr×Obj))++[(D,{cls:=.type "list",data:=.seq its.toArray kk})]:=hp;simpa using hp
   rw[e];exact Ne.symm (Ac2 (fo b hb))
  rcases turn i n ys τ H3 w3 with⟨stop,hz,q⟩|⟨go,hz,NN,hN,step⟩
  .refine aH (T.done (Jd X N scope C fp s2 H2) rfl rfl rfl hc i _ s3 τ H3 _ IP (fpok fr3) st3 stop) ?_;rintro r s4 ⟨hr,I4⟩;subst hr;have I5:Inv X pins U H3 s4:=I2.iK (ch:=fp) I4.os I4.base I4.aL I4.bare hch;have I6:=I5.adopt (FD hD3) (Ab6 I2.sz hleD) ((I4.pin _ (Aa5 _ Aa4)).1) rv3 hz;obtain⟨m,⟨oC,es,ep,hoC,hdC,hr⟩,_⟩:=I4.loc;have fC:bA X pins (aJ H3 D (.lst ys)) C:=FC (by rw[ja (Ne.symm hDC)];exact I4.free);have I7:Inv X (pins++[(C,oC)]) U (aJ H3 D (.lst ys)) s4:=I6.bY λp hp=>(Ad1.mp hp).elim (λz=>I6.pin p (Aa5 _ z)) λz=>by
    have e:p=(C,oC):=by simpa using z
    subst e;exact⟨hoC,fC.1,fC.2.1,fC.2.2.1,λv z=>by rw[hdC]at z;cases z⟩
   exact fin D C oC m _ s4 I7 fC (q D hD3) λh e=>⟨oC,es,ep,e,hdC,hr⟩
  .refine aH (T.item (Jd X N scope C fp s2 H2) rfl rfl rfl hc i _ s3 τ H3 _ IP (fpok fr3) st3 go) ?_;rintro r s4 ⟨u,hr,h4⟩;subst hr;refine aH h4 ?_;rintro _ s5 ⟨x,H5,I5,r5,y5,st5,fr5⟩;have I5':=I5.pinned (fpok fr5) (T.obj _ _ st5);refine wpAny_mono (hg C fp s2 H2 _ s5 τ H5 x u _ I5' r5 (step x H5 y5)) ?_ λ_ _ z=>False.elim z;rintro _ s6⟨U6,H6,I6,q6⟩;refine wpAny_mono (ht C fp s2 H2 _ s6 U6 H6 _ I6 q6) ?_ λ_ _ z=>False.elim z;rintro b s7⟨H7,I7,q7⟩;have hp5:∀b∈fp,∃o,s5.heap.get? b=y0 o:=λb hb=>let⟨o,e,_⟩:=T.obj _ _ st5 b hb;⟨o,e⟩;cases b with
|false=>
    rw[if_neg Ab8]at q7⊢;obtain⟨m',hm,w7⟩:=hN _ _ _ q7;refine⟨m',hm,i+1,ys,its,kk,U6,H7,I7.bY λp hp=>absurd hp (by simp),T.keep _ _ _ st5 λb hb o e=>(I7.pin (b,o) (Aa5 _ (Aa5 _ (Jf hb e)))).1,λb hb=>?_,?_,?_,rv3,w7⟩
    .obtain⟨o,e⟩:=hp5 b hb;exact(I7.pin (b,o) (Aa5 _ (Aa5 _ (Jf hb e)))).2.1
    .exact(I7.pin _ (Aa5 _ (Ac8 _ Aa4))).2.1
    .exact(I7.pin _ (Aa5 _ (Ac8 _ Aa4))).1
|true=>
    rw[if_pos rfl]at q7⊢;refine wpAny_mono (he C fp s2 H2 _ s7 U6 H7 _ I7 q7) ?_ λ_ _ z=>False.elim z;rintro y s8⟨yv,H8,I8,r8,q8⟩;have pD:=I8.pin _ (Aa5 _ (Ac8 _ Aa4));have eD8:s8.heap.get? D=y0 {cls:=.type "list",data:=.seq its.toArray kk}:=pD.1;have hD8:H8 D=none:=pD.2.1;have u8:=rv3.length;refine call_meets F.slot_list_append ⟨_,eD8,rfl⟩ F.entry_list_append (F.args_list_append_2 _ _) (PySem.list_append D its.toArray kk y (by rw[Ab2];omega)) ⟨eD8,?_⟩;obtain⟨m',hm,w8⟩:=hN _ _ _ q8;have IQ:Inv (Jd X N scope C fp s2 H2) (JE fp s5.heap) U6 H8 s8:=I8.bY λp hp=>I8.pin p (Aa5 _ (Aa5 _ hp));have e9:=PySem.IsL.update eD8 (·.push y);rw[show its.toArray.push y=(its++[y]).toArray by simp]at e9;have I9:Inv (Jd X N scope C fp s2 H2) (JE fp s5.heap) U6 H8 {s8 with heap:=s8.heap.update D (Obj.mapSeq (·.push y)),toks:=s8.toks}:=
     IQ.turned (it:=D) (λb o hb e=>(Ak0 s8.heap (Obj.mapSeq (·.push y)) (Ne.symm hb)).trans e) hD8 hDC (.inr hleD) hDc λp hp=>by have hp:p∈([]:List (Addr×Obj))++JE fp s5.heap:=hp;have:=fo p.1 (zU (by simpa using hp)).1;exact Ac2 this
    refine⟨m',hm,i+1,ys++[yv],its++[y],_,U6,H8,I9.bY λp hp=>absurd hp (by simp),T.keep _ _ _ st5 λb hb o e=>(I9.pin (b,o) (Aa5 _ (Jf hb e))).1,λb hb=>?_,hD8,e9,rv3.append (.cons r8 .nil),w8⟩;obtain⟨o,e⟩:=hp5 b hb;exact(I9.pin (b,o) (Aa5 _ (Jf hb e))).2.1
 exact codeAny_compStart_list (loop _ rfl) (T.self _ 0 _ _ _ st3 (loop _ rfl))
def ER(ok:JQ X scope N k az)(t:PI X tg iter wi)
 (r:∀C fp s H,PG (Jd X N scope C fp s H) tg (g C fp s H))(n:∀C fp s H,ig (Jd X N scope C fp s H) ifs (tc C fp s H))(p:∀C fp s H,PE (Jd X N scope C fp s H) elt (te C fp s H))
 (l:X.calm=true:=by rfl)(u:∀x,foldedSetIterable iter X.env x=pure x:=by intro _;rfl):PE X (.ListComp elt [⟨tg,iter,ifs,0⟩] scope pos) (mS k az wi g tc te):=by
 intro f s U H Q I h;exact xX u0 l ok t r n p u I h λD C z m j y i a q c=>⟨m,c _ (i.pin _ (Aa5 _ (Aa5 _ Aa4))).1,λw d=>⟨.ref D,j,(i.bO).turned (λb o v e=>d.extBut b o v e) a.1 a.2.1 a.2.2.2.1 a.2.2.2.2.1 a.2.2.2.2.2,rfl,q⟩⟩
def CY(G:X.N.Nodup)(c:X.N[i]?=y0 x)(A:lj X.env.scope x)(ok:JQ X scope N k az)(B:PI X tg iter wi)
 (y:∀C fp s H,PG (Jd X N scope C fp s H) tg (g C fp s H))(u:∀C fp s H,ig (Jd X N scope C fp s H) ifs (tc C fp s H))(w:∀C fp s H,PE (Jd X N scope C fp s H) elt (te C fp s H))
 (j:swapsWith (.ListComp elt [⟨tg,iter,ifs,0⟩] scope p0) (y0 (.Name x pos')) pos.line X.env=pure true:=by rfl)
 (t:X.calm=true:=by rfl)(E:∀x,foldedSetIterable iter X.env x=pure x:=by intro _;rfl)(r:X.fn x=k9\/X.env.scope.names.lookup x=y0 .local:=by first|exact .inl rfl|exact .inr rfl|assumption):
 PS X (.Assign [.Name x pos'] (.ListComp elt [⟨tg,iter,ifs,0⟩] scope p0) pos) (iu (mS k az wi g tc te) (QT i)):=by
 intro l s U H D I h;rw[exec_Assign_Name_used _ _ _ _ j];exact wpAny_bind (wpAny_standAt (wpAny_bind (wpAny_bind (wpAny_mono (xX _ t ok B y u w E I h λJ C Q m p O z a q d=>wpAny_assign_Name (jp z G c A (v:=.ref J) rfl (λM n=>⟨m,d _ (n.pin _ (Aa5 _ (Aa5 _ Aa4))).1,λL f=>⟨_,p,(n.bO).turned (λb o F e=>f.extBut b o F e) a.1 a.2.1 a.2.2.2.1 a.2.2.2.2.1 a.2.2.2.2.2,q⟩⟩) r)) (λ_ P K=>wpAny_pure (wpAny_pure K)) λ_ _ e=>e))))
end
structure Oa(P:Program)(w:World)(K:Aa6)(mg:Str->Option Value)(base:Heap)(k:Nat)(x:Str)(ps:List Str)(sp:Sp):Prop where
 ex:∃f fd,bq P w K mg base mj k f fd ps sp/\Binds K fd ps []/\Ah K (.ref f)=k9/\mg x=y0 (.ref f)
open PySem PySem.Spec PySem.Calls PySem.W PyProof.Rows
structure lq(K:Frag)(C:Addr):Prop where
 ga:findIn K (.ref C) "__getattribute__"=some (some (.builtin "BaseException.__getattribute__"))
 gn:findIn K (.ref C) "__getattr__"=some none
 cl:findIn K (.ref C) "__class__"=some (some (.builtin "object.__class__"))
 get:specialIn K (.builtin "object.__class__") "__get__"=some (some (.builtin "getset_descriptor.__get__"))
 set:takesIn K (.builtin "object.__class__")=some true
 obj:mroIn K C (.type "object")=some true
 bas:mroIn K C (.type "BaseException")=some true
 slf:kitCls K (.ref C) (.ref C)=y0 k9
 cls:(clsIn K C).isSome=k9
def ExcAt(h:Heap)(x C:Addr):Prop:=∃o,h.get? x=y0 o/\o.cls=.ref C
def ExcAt.type (e:ExcAt h x C):Looks M h (typeOf (.ref x)) (.ref C):=by obtain⟨o,a,b⟩:=e;rw[←b];exact(Looks.ld a).andThen Looks.now
section
variable{prog:Program}{w:World}{A:Around}{E:Value->Shared->Prop}{s:Shared}{K:Frag}{x C:Addr}
def X4(X:K.In s.heap)(I:ExcAt s.heap x C)(Z:lq K C)(a:R (.ok (.ret (.ref C))) s):
 codeAny (model prog w) A (.call (.builtin "getset_descriptor.__get__") ⟨[.builtin "object.__class__",.ref x,tp],[]⟩) R s:=by
 obtain⟨g,e,dd,d,c⟩:=s;have f:=I.type (M:=model prog w);have b:=looks_mroIn (M:=model prog w) X Z.obj;refine codeAny_call_builtin KF.slot_gs.plain KF.entry_gs (KF.slot_gs.check _ _ _ _ _ _ _ _ KF.type_class (KF.args_gs _ _ _) ?_);unfold Builtin.«getset_descriptor.__get__»Builtin.Getset_descriptor.descrGet;rw[dga_obj];refine wpAny_bind (wpAny_pure ?_);unfold Builtin.Getset_descriptor.descrGetter Builtin.Getset_descriptor.descrCheckInstance Builtin.Getset_descriptor.descrNameAndClass isInstance;simp only[KF.owner_class]
 repeat lk
 refine⟨Code.quiet_builtin _ (by decide+kernel),codeAny_builtin KF.entry_class ?_⟩;unfold Builtin.«object.__class__»shownTypeOf
 repeat lk
 exact a
def xR(X:K.In s.heap)(I:ExcAt s.heap x C)(Z:lq K C)(v:Q (y0 (.ref C)) {s with toks:=s.toks+1}):
 wpAny (model prog w) A (getAttr? (.ref x) "__class__") Q E s:=by
 obtain⟨c,e,dd,y,d⟩:=s;have j:=I.type (M:=model prog w);have r:=looks_findIn (M:=model prog w) X Z.ga;have m:=looks_findIn (M:=model prog w) X Z.gn;have n:=looks_findIn (M:=model prog w) X Z.cl;have Le:=looks_specialIn (M:=model prog w) X Z.get;have q:=looks_takesIn (M:=model prog w) X Z.set;have p:=looks_mroIn (M:=model prog w) X Z.bas;have b:Looks (model prog w) c (Builtin.ObjectAttr.find (.ref x) (.ref C) "__class__") (.bind (.builtin "getset_descriptor.__get__") (.builtin "object.__class__")):=by unfold Builtin.ObjectAttr.find;refine n.andThen ?_;refine Looks.andThen (show Looks (model prog w) c (Builtin.ObjectAttr.getOf (some (.builtin "object.__class__"))) (some (.builtin "getset_descriptor.__get__"))from Le) ?_;unfold Builtin.ObjectAttr.dataDescriptor?;refine Looks.andThen (a:=y0 (.builtin "getset_descriptor.__get__",.builtin "object.__class__")) (q.andThen ?_) (Looks.tag Looks.now);exact Looks.now
 have f:∀A g Q E t,Q (.done (.ret (.ref C))) ⟨c,e,dd,t,d⟩→
  wpAny _ A (Builtin.«object.__getattribute__» ⟨[.ref x,.str "__class__" g],[]⟩) Q E ⟨c,e,dd,t,d⟩:=fun A g Q E t h=>by
  unfold Builtin.«object.__getattribute__»;refine wpAny_bind (wpAny_of_eq (a:=(Value.ref x,[Value.str "__class__" g])) rfl ?_);dsimp only;refine wpAny_bind (wpAny_of_eq (a:=("__class__":Str)) rfl ?_);refine wpAny_bind (j.at (wpAny_bind (b.at ?_)));show wpAny _ _ (Builtin.ObjectAttr.bindTo _ _ _ _) _ _ _;unfold Builtin.ObjectAttr.bindTo;dsimp only;exact wpAny_bind (wpAny_holding (wpAny_call (X4 X I Z (wpAny_pure h))))
 have k:∀A i Q E t,Q () ⟨c,e,dd,t,d⟩→
  wpAny (model prog w) A (checkBuiltinCall "BaseException.__getattribute__" ⟨[.ref x,i],[]⟩) Q E ⟨c,e,dd,t,d⟩:=fun A i Q E t h=>by
  have u:builtinKind "BaseException.__getattribute__"=some .slot:=by decide+kernel
  have o:splitId "BaseException.__getattribute__"=some ("BaseException","__getattribute__"):=by decide+kernel
  have l:=F.args_bexc_ga (.ref x) i;simp only[checkBuiltinCall,u,o];refine wpAny_bind ((j.andThen p:Looks (model prog w) c (isInstance (.ref x) (.type "BaseException")) true).at ?_);rw[if_neg (by decide)];exact wpAny_of_eq l h
 unfold getAttr? getAttrBy? getAttrBy;refine wpAny_bind (wpAny_mkText (wpAny_bind (wpAny_attempt (wpAny_holding (wpAny_bind (j.at (wpAny_bind (r.at ?_))))))));show wpAny _ _ (getAttrByItsOwn _ _ _ _ _ _) _ _ _;unfold getAttrByItsOwn hookBefore;refine wpAny_bind (m.at ?_);refine wpAny_bind (wpAny_attempt (wpAny_holding ?_));show wpAny _ _ (boundAndCalled (.builtin "BaseException.__getattribute__") (.ref x) _) _ _ _;unfold boundAndCalled;refine wpAny_bind (wpAny_of_eq (F.excAttr_ValueError.ga.bind _) ?_);refine wpAny_call (codeAny_call_builtin F.excAttr_ValueError.ga.plain F.entry_bexc_ga (k _ _ _ _ _ (f _ _ _ _ _ ?_)));show wpAny _ _ (handedOut (.ref C)) _ _ _;exact handed_on rfl (wpAny_pure v)
end
def QP{K:Frag}(Z:lq K C):KitX K (.ref x) (.ref C) (λh=>ExcAt h x C) where
 ty:=λ_ _ _ I=>I.type
 it:=λM h X _=>(kit_cls X Z.slf).2.1
 ne:=λh g dd d n f X a=>by
  rw[Ak3];intro q;have e:=Value.ref.inj (beq_iff_eq.mp q);subst e;have z:=Z.cls;cases b:K.lookup C with
|none=>simp[clsIn,b]at z
|some o=>have c:=X C o b;rw[a]at c;cases c;simp[clsIn,b]at z
 ca:=λX I k=>xR X I Z k
noncomputable def gA(x C:Addr)(a:Option Addr):HO:=.ext λh=>∃o,h.get? x=y0 o/\o.cls=.ref C/\notCls o=k9/\∀dx,a=y0 dx->o.dict=y0 dx
def FF(e:h.get? x=y0 o)(c:o.cls=.ref C)(d:notCls o=k9)(f:∀dx,od=y0 dx->o.dict=y0 dx):aN P w H h x (gA x C od):=
 ⟨⟨o,e,c,d,f⟩,⟨o,e⟩,by rintro g i⟨o,a,b⟩k;exact⟨o,k o a,b⟩⟩
def yG(K:Frag):List V->Hp->VK->Prop:=λxs H Q=>∃x C a b,lq K C/\H x=y0 (gA x C a)∧
 ((∃(D:Addr),xs=[.ref x,.ref D]/\kitOne K (.ref C) (.ref D)=y0 b)\/(∃(T:String),xs=[.ref x,.ty T]/\kitOne K (.ref C) (.type T)=y0 b)∨
   ∃(t:Addr)(ds:List Addr),xs=[.ref x,.ref t]/\H t=y0 (.tup (ds.map V.ref))/\kitAny K (.ref C) (ds.map Value.ref)=y0 b)/\Q (.bl b) H
theorem ZV:∀{ds:List Addr}{us},Vals (ds.map V.ref) us->us=ds.map Value.ref
|[],_,.nil=>rfl
|_::_,_,.cons r t=>by cases r;rw[ZV t];rfl
def vM:Qn X (.builtin "isinstance") (yG X.K):=by
 intro i s U H G K Q I r h;obtain⟨x,C,y,b,Z,p,k,q⟩:=h;have ex:ExcAt s.heap x C:=let⟨o,a,b,_⟩:=(I.aL x _ p).1;⟨o,a,b⟩;obtain⟨D,rfl,e⟩|⟨T,rfl,e⟩|⟨t,E,rfl,l,e⟩:=k
 .obtain⟨u,j,rfl,d,c⟩:=lH r;cases d;cases c;exact kia_one (QP Z) I.bI ex e (λz=>nomatch z) λf=>⟨.bl b,H,I.tok f,rfl,q⟩
 .obtain⟨u,j,rfl,d,c⟩:=lH r;cases d;cases c;exact kia_one (QP Z) I.bI ex e (λz=>nomatch z) λf=>⟨.bl b,H,I.tok f,rfl,q⟩
 .obtain⟨u,j,rfl,d,c⟩:=lH r;cases d;cases c;obtain⟨_,v,rv,o,m,w,_,n,g⟩:=I.aL t _ l;rw[ZV rv]at g;obtain⟨B,J,F,A⟩:=o;subst w g;exact kia_tup (QP Z) I.bI ex m e (λz=>nomatch z) λf=>⟨.bl b,H,I.tok f,rfl,q⟩
def DK(h h':Heap):Prop:=∀b o,h.get? b=y0 o->∃o',h'.get? b=y0 o'/\o'.dict=o.dict
def DK.refl (h):DK h h:=λ_ o e=>⟨o,e,rfl⟩
theorem DK.trans (x:DK a b)(y:DK b c):DK a c:=λi o e=>
 let⟨d,e1,h⟩:=x i o e;let⟨g,e2,f⟩:=y i d e1
 ⟨g,e2,f.trans h⟩
def KD{b:Type}:Sem b->Prop
|.pure _=>True
|.raise _=>True
|.unsupported _=>True
|.finish _=>True
|.register _ _=>True
|.rule _ k=>KD (k ())
|.at _ k=>KD (k ())
|.load _ _ k=>∀o,KD (k o)
|.update _ _ f k=>(∀o,(f o).dict=o.dict/\(o.isFreed=y9->(f o).isFreed=y9))/\KD (k ())
|.alloc _ k=>∀a,KD (k a)
|.loadIfAlive _ k=>∀o,KD (k o)
|.point _ k=>KD (k ())
|.fresh k=>∀t,KD (k t)
|.ask k=>∀t,KD (k t)
|.handled _ k=>∀t,KD (k t)
|.stack k=>∀t,KD (k t)
|.thread k=>∀t,KD (k t)
|_=>False
theorem KD.bind (c:∀a,KD (f a))(h:KD m):KD (m.bind f):=by
 induction m with
|pure a=>exact c a
|raise _=>exact trivial
|unsupported _=>exact trivial
|finish _=>exact trivial
|register _ _=>exact trivial
|rule _ k b=>exact b () h
|«at»_ k b=>exact b () h
|load _ _ k b=>exactλo=>b o (h o)
|update _ _ _ k b=>exact⟨h.1,b () h.2⟩
|alloc _ k b=>exactλo=>b o (h o)
|loadIfAlive _ k b=>exactλo=>b o (h o)
|point _ k b=>exact b () h
|fresh k b=>exactλo=>b o (h o)
|ask k b=>exactλo=>b o (h o)
|handled _ k b=>exactλo=>b o (h o)
|stack k b=>exactλo=>b o (h o)
|thread k b=>exactλo=>b o (h o)
|_=>exact False.elim h
theorem DK.push (h)(o):DK h (h.push o):=λb u e=>⟨u,Aa2 _ e,rfl⟩
theorem DK.update (h)(a)(c:∀o,(f o).dict=o.dict/\(o.isFreed=y9->(f o).isFreed=y9)):DK h (h.update a f):=λb u e=>by
 by_cases q:a=b
 .subst q;exact⟨f u,Ai3 f e ((c u).2 (Heap.get?_some_iff.mp e).2),(c u).1⟩
 .exact⟨u,by rw[Ak0 _ _ q];exact e,rfl⟩
def Fj:∀{p}{s},KD t->DK h0 s.heap->Sem.wp M Y t Q E p s→
 Sem.wp M Y t (λa p s'=>Q a p s'/\DK h0 s'.heap) (λe p s'=>E e p s'/\DK h0 s'.heap) p s:=by
 induction t with
|pure a=>exactλk d h=>⟨h,d⟩
|raise _=>exactλk d h=>⟨h,d⟩
|unsupported _=>exactλk d h=>h
|finish _=>exactλk d h=>h
|register _ _=>exactλk d h=>h
|rule _ t b=>exactλk d h=>b () k d h
|«at»_ t b=>exactλk d h=>b () k d h
|load _ _ t b=>exactλk d ⟨o,e,h⟩=>⟨o,e,b o (k o) d h⟩
|update a _ f t b=>exactλk d ⟨e,h⟩=>⟨e,b () k.2 (d.trans (DK.update _ _ k.1)) h⟩
|alloc o t b=>exactλk d h=>b _ (k _) (d.trans (DK.push _ _)) h
|loadIfAlive _ t b=>exactλk d h=>b _ (k _) d h
|point _ t b=>exactλk d h=>b () k d h
|fresh t b=>exactλk d h=>b _ (k _) d h
|ask t b=>exactλk d h=>b _ (k _) d h
|handled _ t b=>exactλk d h=>b _ (k _) d h
|stack t b=>exactλk d h=>b _ (k _) d h
|thread t b=>exactλk d h=>b _ (k _) d h
|_=>exactλk=>False.elim k
def xM(k:KD t)(h:wpAny M A t Q E s):
 wpAny M A t (λa s'=>Q a s'/\DK s.heap s'.heap) (λe s'=>E e s'/\DK s.heap s'.heap) s:=λY p b=>Fj k (DK.refl _) (h Y p b)
def ZY(v):KD (fieldsOf v):=by
 cases v<;>first|exact trivial|skip
 refine KD.bind (λo=>?_) λ_=>trivial;split<;>exact trivial
def XA(v)(i):KD (field v i):=by refine KD.bind (λo=>?_) (ZY v);split<;>exact trivial
def ZZ{c:Bool}(e:KD a)(d:KD b):KD (if c then a else b):=by cases c<;>assumption
def qs(v)(i)(x):KD (setField v i x):=by
 cases v<;>first|exact trivial|skip
 refine KD.bind (λo=>?_) λ_=>trivial;split
 .split
  .refine⟨λo=>?_,trivial⟩;obtain⟨c,d,a,b⟩:=o;cases a<;>exact⟨rfl,λz=>z⟩
  .exact trivial
 .exact trivial
def jM(f)(b):KD (entryPlaceOf f b):=by refine KD.bind (λo=>?_) λ_=>trivial;split<;>exact trivial
def J0(a b c d e)(p):KD (EntryCells.newEntry a b c d e p):=by
 have g:∀f:Array Value,KD (if f.size>sizeLine+2 then do
  unsupported "record:memory"
  else newObjAsIs (Value.type "traceback") (Data.fields f)):=fun f=>by
  split
  .exact trivial
  .unfold newObjAsIs;exactλ_=>trivial
 exact g _
theorem tj:∀l:List Env,KD (readyFrames l)
|[]=>trivial
|env::outer=>by
  unfold readyFrames;split
  .refine KD.bind (λo=>?_) λ_=>trivial;refine ZZ trivial ?_;refine KD.bind (λi=>?_) ?_
   .refine KD.bind (λb=>?_) ?_
    .refine KD.bind (λ_=>tj outer) ⟨λo=>⟨rfl,λz=>?_⟩,trivial⟩;obtain⟨c,d,a,e⟩:=o;cases a<;>exact z
    .unfold keptBack;split
     .refine ZZ trivial ?_;refine KD.bind (λ_=>trivial) ?_;exactλ_=>trivial
     .exact trivial
   .unfold behindIsImport;refine ZZ trivial (ZZ trivial ?_);exact KD.bind (λ_=>trivial) (XA _ _)
  .exact trivial
def Cn(env):KD (PySem.frameOf env):=by
 refine KD.bind (λl=>?_) λ_=>trivial;refine KD.bind (λo=>?_) ?_
 .split<;>exact trivial
 .unfold frameObject;split
  .exact trivial
  .exact KD.bind (λ_=>trivial) (tj _)
def yO(e)(env):KD (noteFrame e env):=by
 unfold noteFrame;split
 .refine KD.bind (λf=>?_) (XA _ _);have d:KD (do setField e 1 (←EntryCells.newEntry f (←PySem.frameOf env) .none (rawInt ‹Addr›) .none (←entryPlaceOf ‹Addr› (f !=.none)))):=
   KD.bind (λa=>KD.bind (λb=>KD.bind (λc=>qs _ _ _) (J0 _ _ _ _ _ _)) (jM _ _)) (Cn env)
  refine ZZ ?_ d;refine KD.bind (λx=>?_) (XA _ _);refine ZZ trivial ?_;exact KD.bind (λ_=>d) (qs _ _ _)
 .exact trivial
def WB(e)(f):KD (setFlight e f):=by refine KD.bind (λx=>?_) (XA _ _);exact ZZ (qs _ _ _) trivial
def ZI(env)(e):KD (leaving env e):=KD.bind (λ_=>WB e u0) (yO e env)
def aN.there (x:aN P w H h a o):∃u,h.get? a=y0 u:=by
 cases o with
|lst c=>exact⟨_,x.2.choose_spec.choose_spec.2⟩
|tup c=>obtain⟨_,_,_,u,e,_⟩:=x;exact⟨u,e⟩
|dK b=>obtain⟨_,_,_,_,u,_,_,e,_⟩:=x;exact⟨u,e⟩
|dT b=>obtain⟨_,_,_,_,u,_,_,e,_⟩:=x;exact⟨u,e⟩
|set S n=>obtain⟨u,_,_,_,e,_⟩:=x;exact⟨u,e⟩
|ins C d fs=>obtain⟨_,_,_,e,_⟩:=x;exact⟨_,e⟩
|own y=>exact x
|xd fs=>obtain⟨_,⟨u,_,_,e,_⟩,_⟩:=x;exact⟨u,e⟩
|iB k l=>obtain⟨_,_,_,e⟩:=x;exact⟨_,e⟩
|eA j u=>exact⟨_,x.1⟩
|iD g=>exact⟨_,show h.get? a=y0 _ from x⟩
|met f y=>exact⟨_,show h.get? a=y0 _ from x⟩
|ext i=>exact x.2.1
def zev(P:Program)(w:World):gN:=λouter H s E e s'=>∃(x C t:Addr)(B:Heap)(H':Hp)(a:Option Addr),e=.ref x/\s'.os=s.os/\AllBare s'.gens∧
 Al8 B outer x (.ref C) (.ref t) s'.heap/\Un (b4 outer) [] H H' s.heap s'.heap/\c8 P w H' s'.heap∧
 (∀b o,s'.heap.get? b=y0 o->((∃u,H' b=y0 u)\/∃u,s.heap.get? b=y0 u)->b∉b4 outer->B.get? b=y0 o)/\s.heap.get? x=u0/\(∀dx,a=y0 dx->∃o,s'.heap.get? x=y0 o/\o.dict=y0 dx)/\E (.ref C) a H'
noncomputable def fM(C t:Addr)(a:Option Addr):Obj:={cls:=.ref C,dict:=a,data:=.fields #[.ref t,.none,.none,.none,.bool y9,.none]}
section
variable{P:Program}{w:World}{K:Frag}{mg:Str->Option Value}{base:Heap}{N:List Str}{y8:Str}{scope:Scope}{f:Addr}{cd:Value}{A:Around}{outer:List Env}{s:Shared}{H:Hp}{E:XK}
def xJ(I:Inv (xQ (zev P w) P w K mg base N y8 scope f cd A outer s H E) pins U H1 s2)
 (he:s2.heap.get? e=y0 (fM C t od))(new:s.heap.get? e=u0)(h0:H1 e=u0)(q:E (.ref C) od H1):(xQ (zev P w) P w K mg base N y8 scope f cd A outer s H E).xe (.ref e) s2:=by
 have ff:=I.stack;have fb0:=funFrames_hide (as:=e::b4 _) ff λenv he a ha=>Aa3 _ (Ao5.mpr ⟨env,he,ha⟩);have free:=I.cH;have fe:e∉b4 _:=λhm=>by obtain⟨_,o,ho,nf⟩:=ff.mem hm;rw[he]at ho;cases ho;exact nf _ rfl
 refine wpAny_mono (xM (ZI _ _) (wpAny_leaving_firstW (E:=λ_ _=>False) (Q:=λ_ s'=>Heap.LeftW (hideAll s2.heap (e::b4 (envOfC y8 scope s.heap.objs.size f cd::outer))) _ e (.ref C) (.ref t) s2.heap s'.heap/\s'={s2 with heap:=s'.heap}) I.ok.frames fb0 rfl he (λb o z=>of_hideAll _ z) (hideAll_none _ (Aa4 ..)) rfl rfl rfl λh' hL=>⟨hL,rfl⟩)) ?_ (λ_ _ z=>z.1.elim);rintro _ s'⟨⟨hL,hs⟩,dk⟩;obtain⟨k1,k2,k3,x4⟩:=hL;obtain⟨h2,g2,d2,t2,o2⟩:=s';simp only[Shared.mk.injEq]at hs;obtain⟨-,rfl,rfl,rfl,rfl⟩:=hs;have fq:∀b o,s2.heap.get? b=y0 o->b≠e->b∉b4 _->(hideAll s2.heap (e::b4 (envOfC y8 scope s.heap.objs.size f cd::outer))).get? b=y0 o:=λb o z ne n=>hideAll_get _ z (by rw[Ab7];exactλq=>q.elim ne n);have toH:∀b o,s2.heap.get? b=y0 o->b≠e->b∉b4 _->h2.get? b=y0 o:=λb o z ne n=>k1 b o (fq b o z ne n);have slotH:∀b o,b∈b4 _->s2.heap.get? b=y0 o->∃sl,h2.get? b=y0 {o with slots:=sl}:=λb o hb z=>by obtain⟨_,o',z',nf⟩:=ff.mem hb;rw[z]at z';cases z';exact x4 b o z nf
 have cut:∀b,b∉b4 outer->b≠s.heap.objs.size->b∉b4 (envOfC y8 scope s.heap.objs.size f cd::outer):=λb n1 n2 hb=>by
  rcases Ab7.mp (show b∈s.heap.objs.size::b4 outer from hb)with z|z
  .exact n2 z
  .exact n1 z
 have old:∀b o,s.heap.get? b=y0 o->b≠s.heap.objs.size:=λb o z=>Ac2 (Ab5 z);have olde:∀b o,s.heap.get? b=y0 o->b≠e:=λb o z q=>by rw[q,new]at z;cases z
 have eg:∀b u,H1 b=y0 u->b≠e/\b∉b4 _:=λb u z=>⟨λq=>(by simp_all),λhb=>(by rw[free b hb]at z;cases z)⟩;refine⟨e,C,t,_,H1,od,rfl,I.os,I.bare,⟨k1,hideAll_none _ (Aa4 ..),k2.2.2,k3⟩,⟨λb o z n hb hx=>?_,λb o z n hb hx=>?_,I.base.free,λb o z hx=>?_,I.base.cP,I.base.cJ,I.base.cU⟩,λb u z=>?_,λb o z hc hb=>?_,new,λdx z=>?_,q⟩
 .exact toH b o (I.base.keep b o z n hb hx) (olde b o z) (cut b hb (old b o z))
 .obtain⟨sl,z1⟩:=I.base.slot b o z n hb hx;obtain⟨sl2,z2⟩:=slotH b _ (Aa3 _ hb) z1;exact⟨sl2,z2⟩
 .obtain⟨o',z1⟩:=I.base.there b o z hx;by_cases hb:b∈b4 (envOfC y8 scope s.heap.objs.size f cd::outer)
  .obtain⟨sl,z2⟩:=slotH b o' hb z1;exact⟨_,z2⟩
  .exact⟨o',toH b o' z1 (olde b o z) hb⟩
 .refine(I.aL b u z).cD (λc v hc z1=>?_) (λ_ z1=>z1) λ_ _ z1=>z1;obtain rfl|hc:=hc
  .exact toH c v z1 (eg c u z).1 (eg c u z).2
  .exact toH c v z1 (eg c _ hc).1 (eg c _ hc).2
 .have two:∃o2,s2.heap.get? b=y0 o2/\b≠e/\b∉b4 (envOfC y8 scope s.heap.objs.size f cd::outer):=by
   obtain⟨u,hu⟩|⟨u,hu⟩:=hc
   .obtain⟨o2,z2⟩:=(I.aL b u hu).there;exact⟨o2,z2,eg b u hu⟩
   .obtain⟨o2,z2⟩:=I.base.there b u hu (by show b∉([]:List Addr);simp);exact⟨o2,z2,olde b u hu,cut b hb (old b u hu)⟩
  obtain⟨o2,z2,nb⟩:=two;have z3:=toH b o2 z2 nb.1 nb.2;rw[show h2.get? b=y0 o from z]at z3;cases z3;exact fq b _ z2 nb.1 nb.2
 .obtain⟨o',e1,e2⟩:=dk e _ he;exact⟨o',e1,e2.trans z⟩
def Q0(I:Inv (xQ (zev P w) P w K mg base N y8 scope f cd A outer s H E) pins U H1 s2)
 (b:Heap.MadeExcOf s2.heap h' e (.ref C) vs)(q:E (.ref C) u0 H1):(xQ (zev P w) P w K mg base N y8 scope f cd A outer s H E).xe (.ref e) {s2 with heap:=h'}:=by
 obtain⟨t,c,_⟩:=b.there;refine xJ (I.kept b.keeps) c ?_ ?_ q
 .cases z:s.heap.get? e with
|none=>rfl
|some u=>obtain⟨d,a⟩:=I.base.there e u z (by show e∉[];simp);rw[b.new]at a;cases a
 .cases z:H1 e with
|none=>rfl
|some u=>obtain⟨d,a⟩:=(I.aL e u z).there;rw[b.new]at a;cases a
end
def LF{K:Frag}(X:K.In h)(q:excIn K C bmB newId=k9):
 ∃bm M nm j bs L sn sub ab col dd k0 k1 k2 k3 k5 mN,h.get? C=some (excClassObj nm j C M bs bm L sn sub ab col dd k0 k1 k2 k3 k5 newId)/\h.Ns M mN/\mN "__init__"=none/\OwnTail h bmB bm:=by
 unfold excIn at q;split at q;next dd cd d k=>
  split at q;next o n k0 k1 k2 k3 nn k5 f g=>
   simp only[Aa0,beq_iff_eq,Af1]at q;obtain⟨⟨⟨⟨⟨rfl,rfl⟩,e1⟩,e2⟩,b⟩,e⟩:=q;obtain⟨nm,bs,m,c,j,L,sn,sub,ab,col,i⟩:=cd;dsimp only at f e1 b e;subst f e1;have a:d=#[k0,k1,k2,k3,y0 (.builtin nn),k5]:=by
    cases d with
|mk l=>exact congrArg Array.mk g
   subst a;exact⟨n,c,nm,j,bs,L,sn,sub,ab,col,dd,k0,k1,k2,k3,k5,_,X _ _ k,.of_isNs (isNs_of_in X b),nsMap_none_of_in X b e,tail_of_in X e2⟩
  next=>cases q
 next=>cases q
section
variable{P:Program}{w:World}{K:Frag}{mg:Str->Option Value}{base:Heap}{N:List Str}{y8:Str}{scope:Scope}{f:Addr}{cd:Value}{A:Around}{outer:List Env}{s:Shared}{H:Hp}{E:XK}
abbrev zE:List Value:=[.type "ValueError",.type "Exception",.type "BaseException",.type "object"]
def ra(C:Addr)(E:XK)(t:TA):TS:=λ_ U H=>t U H λa H1=>a.length<=sizeLine/\E (.ref C) u0 H1
def IZ{x:Str}{S b pos:Pos}{e:Expr}{es:List Expr}{t:TA}{C:Addr}(R:A.handled=none)(hq:excIn K C zE "ValueError.__new__"=true)(hm:mg x=some (.ref C))(Q:Gl (xQ (zev P w) P w K mg base N y8 scope f cd A outer s H E) x)
 (W:PA (xQ (zev P w) P w K mg base N y8 scope f cd A outer s H E) (e::es) t)
 (v:starEach (e::es) (envOfC y8 scope s.heap.objs.size f cd)=(y9,eval e (envOfC y8 scope s.heap.objs.size f cd))::starEach es (envOfC y8 scope s.heap.objs.size f cd):=by rfl)
 (j:(backTo b (starEach es (envOfC y8 scope s.heap.objs.size f cd))).any (·.1)=false:=by rfl)(hd:(x==("__debug__":Str))=false:=by decide):
 PS (xQ (zev P w) P w K mg base N y8 scope f cd A outer s H E) (.Raise (y0 (.Call (.Name x S) (e::es) [] b)) u0 pos) (ra C E t):=by
 intro c m U O D I h;obtain⟨B,L,nm,Y,bs,k,p,sub,r,g,dd,F,G,u,o,y,J,Z,X,l,T⟩:=LF I.mod.iw hq;refine wpAny_Raise_call_subT (C:=C) (nm:=nm) (q:=Y) (N:=L) (bs:=bs) (bm:=B) (hdct:=k) (sn:=p) (sub:=sub) (ab:=r) (col:=g) (dd:=dd) (k0:=F) (k1:=G) (k2:=u) (k3:=o) (k5:=y)
  PySem.F.excBase_ValueError (mN:=J) (T.hasType PySem.F.excBase_ValueError.hasBase) R ?_ l (Xs I Q hm ⟨rfl,?_⟩ hd)
 .show(backTo b (starEach (e::es) (envOfC y8 scope s.heap.objs.size f cd))).any (·.1)=y9;rw[v];show(y9||(backTo b (starEach es (envOfC y8 scope s.heap.objs.size f cd))).any (·.1))=y9;rw[j];rfl
 .have hA:=W b c m U O _ I h;show wpAny (model P w) _ (evalArgs (.ref C) k9 (backTo b (starEach (e::es) (envOfC y8 scope s.heap.objs.size f cd))) []) _ _ m;have d:wpAny (model P w) (A.deeper (envOfC y8 scope s.heap.objs.size f cd)) (spliced (backTo b (starEach (e::es) (envOfC y8 scope s.heap.objs.size f cd)))) _ _ m:=hA;rw[v]at d⊢;exact Calls.evalArgs_plain (aH d (by rintro us s2⟨vs,H2,i,V,z,M⟩;exact⟨rfl,by show us.length<=sizeLine;rw[←V.length];exact z,i.bk _ _ Z,X.keeps i.bk,T.keeps i.bk,λh' a n=>Q0 i n M⟩))
def km.yJ {st:Stmt}(F:km K x y8 st f fd)(S:qy N ps (Zk st))(len:∀vs H Q E,sp vs H Q E->vs.length=ps.length)
 (a:∀j A outer s H vs Q E,aY k (A.deeper (envOfC y8 (Zk st) s.heap.objs.size f j))->sp vs H Q E→
   ∃t,c9 (xQ (zev P w) P w K mg base N y8 (Zk st) f j A outer s H E) (ZE st) t/\t {nx:=λ_ H'=>Q .ak H',rt:=Q} (start N vs) H):bq P w K mg base (zev P w) (k+1) f fd ps sp:=by
 obtain⟨oc,i,kV,d,m,l,j,n,h,rfl,e,b⟩:=F.ex;exact Ew e b S len λA outer s H vs Q E g c=>a j A outer s H vs Q E g c
def E4:PassesOwn (model P w) (A.deeper (envOfC y8 scope s.heap.objs.size f cd)) (envOfC y8 scope s.heap.objs.size f cd) (xQ (zev P w) P w K mg base N y8 scope f cd A outer s H E).xe:=
 PassesOwn.leaving
end
section
variable{X:Cx}{pins:List (Addr×Obj)}{U:St}{H:Hp}{s:Shared}
def Inv.hO (I:Inv X pins U H s)(f:Ag6 X.env.locals s.heap h')(k:h'.Ns X.env.locals m')
 (q:∀(i:Nat)(x:Str)(v:V),X.N[i]?=y0 x->U'[i]?=y0 (y0 v)->kg X.env.scope x->∃u,RelV v u/\td X.env h' m' x u)(len:U'.length=X.N.length):Inv X pins U' H {s with heap:=h',toks:=t'}:=by
 have a:∀b o,X.s₀.heap.get? b=y0 o->b≠X.env.locals:=λb o e=>Ac2 (Ab3 (Ab5 e) I.ok.above);refine⟨I.ok,I.os,I.bare,⟨λb o e n j g=>(f.2 b (a b o e)).trans (I.base.keep b o e n j g),λb o e n j g=>?_,I.base.free,λb o e g=>?_,I.base.cP,I.base.cJ,I.base.cU⟩,⟨m',k,q⟩,λy c e=>?_,I.free,I.bB,λp t=>?_,λb u e=>?_,len⟩
 .obtain⟨l,e1⟩:=I.base.slot b o e n j g;exact⟨l,(f.2 b (a b o e)).trans e1⟩
 .obtain⟨m,e1⟩:=I.base.there b o e g;exact⟨m,(f.2 b (a b o e)).trans e1⟩
 .obtain⟨v,z⟩:=I.cell y c e;exact⟨v,z.sameBut f (I.hZ y c e)⟩
 .obtain⟨e,n,ne,r⟩:=I.pin p t;exact⟨(f.2 p.1 ne).trans e,n,ne,r⟩
 .refine(I.aL b u e).cD (λc v d z=>(f.2 c ?_).trans z) (λ_ z=>z) λ_ _ z=>z;intro h;obtain d|d:=d
  .rw[←d,h,I.free]at e;cases e
  .rw[h,I.free]at d;cases d
def Inv.kn (I:Inv X pins U H s)(k:H D=u0)(h1:D≠X.env.locals)(l:∀x c,X.env.cells.lookup x=y0 c->c≠D)(r:∀p∈X.pn++pins,p.1≠D)(a:∀b u,X.s₀.heap.get? b=y0 u->b≠D)
 (new:aN X.prog X.w (aJ H D o) s.heap D o):Inv X pins U (aJ H D o) s:=by
 have up:∀b u,H b=y0 u->aJ H D o b=y0 u:=λb u q=>by rw[ja (Xa q k)];exact q
 refine⟨I.ok,I.os,I.bare,⟨I.base.keep,I.base.slot,λb u e n j=>?_,I.base.there,λb d q=>up b _ (I.base.cP b d q),λb u v q=>up b _ (I.base.cJ b u v q),λb m q=>?_⟩,I.loc,I.cell,?_,λx c q=>?_,λp f=>?_,λb u q=>?_,I.len⟩
 .rw[ja (a b u e)];exact I.base.free b u e n j
 .obtain⟨more,h⟩:=I.base.cU b m q;exact⟨more,up b _ h⟩
 .rw[ja (Ne.symm h1)];exact I.free
 .rw[ja (l x c q)];exact I.bB x c q
 .obtain⟨i,a2,a3⟩:=I.pin p f;exact⟨i,by rw[ja (r p f)];exact a2,a3⟩
 .by_cases g:b=D
  .subst g;rw[zb]at q;cases q;exact new
  .rw[ja g]at q;exact(I.aL b u q).cD (λ_ _ _ z=>z) (λc z=>up c _ z) λc d z=>up c _ z
def K9(I:Inv X pins U H s)(B:X.N.Nodup)(q:X.N[i]?=y0 n)(p:X.env.scope.names.lookup n=y0 .local)
 (h:∀s',Inv X pins (U.set i u0) H s'->Q () s'):wpAny M A (do bindName X.env n .none;unbindBehindTheSuite X.env n hp) Q E s:=by
 have f:(X.env.scope.kind==.class||(X.env.scope.kind==.module&&X.env.locals !=X.env.globals))=false:=by rw[I.ok.kind];rfl
 have x:X.env.kindOf n=y0 .local:=p;have g:i<U.length:=by rw[I.len];exact(Aa8.mp q).1
 refine wpAny_bind (wpAny_bindName (jp I B q (.inl p) (v:=.ak) rfl (λG t=>?_) (.inr p)));obtain⟨m,C,a⟩:=t.loc;have b:(m n).isSome=true:=by
  obtain⟨u,_,l⟩:=a i n .ak q (Ac6 g) (.inl p);obtain⟨_,e⟩|⟨z,_⟩:=l
  .rw[e];rfl
  .rcases z with z|z<;>(rw[x]at z;cases z)
 refine wpAny_onRaise ?_;refine wpAny_bind (wpAny_point (wpAny_bind ?_));unfold deleteName;simp only[x,f];refine wpAny_bind (wpAny_nsDel_keeps C λJ v w o=>?_);rw[b];refine wpAny_pure (wpAny_point (h _ ?_));refine t.hO o w (λj y D e1 e2 F=>?_) (by rw[Ae6];exact I.len);have d:j≠i:=λz=>by subst z;rw[Ac6 g]at e2;cases e2
 rw[Ad2 (Ne.symm d)]at e2;obtain⟨u,r,l⟩:=a j y D e1 (by rw[Ad2 (Ne.symm d)];exact e2) F;refine⟨u,r,?_⟩;obtain⟨k,e⟩|⟨k,c,e,z⟩:=l
 .refine .inl ⟨k,?_⟩;have:y≠n:=λe=>d (JP B e1 (e▸q));simp[this,e]
 .exact .inr ⟨k,c,e,z.sameBut o (t.hZ y c e)⟩
end
def jZ{K:Frag}(X:K.In s.heap)(I:ExcAt s.heap x C)(z:kitCls K (.ref C) (.ref W)=some true)(f:mroIn K W (.type "BaseException")=some true)(c:Q true s):
 wpAny (model prog w) A (excMatches (.ref x) (.ref W)) Q E s:=by
 obtain⟨a,j,dd,i,h⟩:=s;obtain⟨d,b,k⟩:=kit_cls X z;have e:=looks_mroIn (M:=model prog w) X f;have Le:=I.type (M:=model prog w);have l:Looks (model prog w) a (isInstance _ _) false:=d.andThen (Looks.of_pure tc_notTuple);have g:Looks _ a (isExcClass _) true:=b.andThen e
 repeat lk
 exact c
def W3{k s':Shared}(j:Inv X pins U H1 k)(w:s'.os=k.os)(f:AllBare s'.gens)(un:Un (b4 X.stack) [] H1 H' k.heap s'.heap)(m:c8 X.prog X.w H' s'.heap)
 (comp:∀b o,s'.heap.get? b=y0 o->((∃u,H' b=y0 u)\/∃u,k.heap.get? b=y0 u)->b∉b4 X.stack->B.get? b=y0 o)(g:Al8 B X.stack x (.ref C) (.ref t) h6)(s:s'.heap.UpToSlots h6):Inv X pins U H' {s' with heap:=h6}:=by
 have eg:∀c u,H' c=y0 u->c∉b4 X.stack:=λc u z d=>by obtain⟨_,o,e,_⟩:=j.stack.mem d;have:=un.free c o e (j.cH c d) (by simp);rw[this]at z;cases z
 refine j.iK (s':={s' with heap:=h6}) (ch:=[]) w ⟨λb o e n a h=>?_,λb o e n a h=>?_,un.free,λb o e h=>?_,un.cP,un.cJ,un.cU⟩ (λb u e=>?_) f λb a=>absurd a (by simp)
 .exact g.1 b o (comp b o (un.keep b o e n a h) (.inr ⟨o,e⟩) a)
 .obtain⟨y,e1⟩:=un.slot b o e n a h;obtain⟨_,i,e2,p⟩:=j.stack.mem a;rw[e]at e2;cases e2;obtain⟨l,q⟩:=s b _ e1 p;exact⟨l,q⟩
 .obtain⟨i,e1⟩:=un.there b o e h;by_cases a:b∈b4 X.stack
  .obtain⟨_,r,e2,_⟩:=g.2.2.1.mem a;exact⟨r,e2⟩
  .exact⟨i,g.1 b i (comp b i e1 (.inr ⟨o,e⟩) a)⟩
 .refine(m b u e).cD (λc v d z=>?_) (λ_ z=>z) λ_ _ z=>z;obtain rfl|d:=d
  .exact g.1 c v (comp c v z (.inl ⟨u,e⟩) (eg c u e))
  .exact g.1 c v (comp c v z (.inl ⟨_,d⟩) (eg c _ d))
def XY{R:Heap->Prop}(k:KD t)(h:∀j:Unit->Shared->Prop,(∀h',R h'->j () {s with heap:=h'})->wpAny M A t j E s)(g:∀h',R h'->DK s.heap h'->Q () {s with heap:=h'}):wpAny M A t Q E s:=
 wpAny_mono (xM k (h (λ_ a=>∃h',a={s with heap:=h'}/\R h') λh' r=>⟨h',rfl,r⟩)) (λ_ a ⟨⟨h',e,r⟩,b⟩=>by subst e;exact g h' r b) (λ_ _ z=>z.1)
def bq.calm {K:Frag}(F:bq P w K mg base (zev P w) k f fd ps sp)
 (h:∀vs H Q E,sp0 vs H Q E->sp vs H Q (λ_ _ _=>False)):bq P w K mg base mj k f fd ps sp0:=by
 refine⟨λvs H Q E q=>F.len vs H Q _ (h _ _ _ _ q),λA a s H b n vs Q E m g l i j=>codeAny_mono (F.run A a s H b n vs Q _ m g l i (h _ _ _ _ j)) λres r c=>?_⟩;cases res with
|ok d=>
  cases d with
  |ret u=>exact c
  |next=>exact c
  |brk=>exact c
  |cont=>exact c
|error p=>obtain⟨x,C,t,B,o,_,_,_,_,_,_,_,_,_,_,e⟩:=c;exact e
def E3:bootBuiltins "ValueError"=some (.type "ValueError"):=by decide+kernel
section
variable{X:Cx}
def Vals.kI (r:Vals xs us){i:Nat}(h:us[i]?=y0 u):∃x,xs[i]?=y0 x/\RelV x u:=by
 have d:=r.length;have e:=(Aa8.mp h).1;have b:i<xs.length:=by lia
 obtain⟨f,a,c⟩:=r.get (Ab0 b);rw[h]at a;cases a;exact⟨_,Ab0 b,c⟩
def EO(bs:List Bool):(Ab1 bs.length).all (λi=>bs.getD i y9)=bs.all id:=by
 induction bs with
|nil=>rfl
|cons b bs a=>rw[Aa7,Ak,Al1,List.all_map,Al1,←a];rfl
def BR(bs:List Bool):(Ab1 bs.length).any (λi=>bs.getD i y9)=bs.any id:=by
 induction bs with
|nil=>rfl
|cons b bs a=>rw[Aa7,Ak,Ag,List.any_map,Ag,←a];rfl
def ZT{bs:List Bool}(r:Vals (bs.map V.bl) its):TruthOf P w A (λi v=>its.toArray[i]?=y0 v) (λi=>bs.getD i y9):=by
 intro i v s Q E d f;obtain⟨x,a,g⟩:=r.kI (by simpa using d);rw[Ac9]at a;cases c:bs[i]? with
|none=>rw[c]at a;cases a
|some b=>
  rw[c]at a;cases a;cases g;refine wpAny_truthy_bool ?_;have e:bs.getD i y9=b:=by rw[Ac4,c];rfl
  rw[←e];exact f
def Ct(g:X.calm=k9):Qn X (.builtin "all") (fun xs H Q=>∃p,∃bs:List Bool,xs=[.ref p]/\br X.K H p (bs.map V.bl)/\Q (.bl (bs.all id)) H):=by
 intro c s U H xs x Q I r h;obtain⟨p,bs,rfl,v,q⟩:=h;obtain⟨u,rfl,l⟩:=jE r;cases l;obtain⟨f,rv,pl,w⟩:=I.list v;have a:=rv.length;rw[Aa]at a;refine call_all_walk (wpAny_pyIter_list pl.isList ?_);have d:p≠s.heap.objs.size:=by obtain⟨o,k,_⟩:=pl.isList;exact Ac2 (Ab5 k)
 refine⟨s.heap.objs.size,_,_,_,_,_,λi=>bs.getD i y9,rfl,Walks.list (A:=X.A.in1) (I.ok.hd g) _ p d f.toArray,⟨⟨_,Ac _ rfl,rfl,rfl⟩,pl.isList.at λo e=>Aa2 _ e⟩,ZT rv,λn t j=>?_⟩;have m:Inv X c U H {s with heap:=n,toks:=t}:=I.kept λb o e=>j b o (by simp;exact Ac2 (Ab5 e)) (Aa2 _ e);refine⟨.bl _,H,m,?_,q⟩;show _=_;rw[Ab2,←a,EO]
def IC(g:X.calm=k9):Qn X (.builtin "any") (fun xs H Q=>∃p,∃bs:List Bool,xs=[.ref p]/\br X.K H p (bs.map V.bl)/\Q (.bl (bs.any id)) H):=by
 intro c s U H xs x Q I r h;obtain⟨p,bs,rfl,v,q⟩:=h;obtain⟨u,rfl,l⟩:=jE r;cases l;obtain⟨f,rv,pl,w⟩:=I.list v;have a:=rv.length;rw[Aa]at a;refine call_any_walk (wpAny_pyIter_list pl.isList ?_);have d:p≠s.heap.objs.size:=by obtain⟨o,k,_⟩:=pl.isList;exact Ac2 (Ab5 k)
 refine⟨s.heap.objs.size,_,_,_,_,_,λi=>bs.getD i y9,rfl,Walks.list (A:=X.A.in1) (I.ok.hd g) _ p d f.toArray,⟨⟨_,Ac _ rfl,rfl,rfl⟩,pl.isList.at λo e=>Aa2 _ e⟩,ZT rv,λn t j=>?_⟩;have m:Inv X c U H {s with heap:=n,toks:=t}:=I.kept λb o e=>j b o (by simp;exact Ac2 (Ab5 e)) (Aa2 _ e);refine⟨.bl _,H,m,?_,q⟩;show _=_;rw[Ab2,←a,BR]
def gK:List Int->Int
|[]=>0
|i::r=>i+gK r
theorem qY:∀(xs)(x),gK (xs++[x])=gK xs+x
|[],x=>by simp[gK]
|y::a,x=>by show y+gK (a++[x])=y+gK a+x;rw[qY a x];omega
theorem xD(ns:List Int):∀j,j<=ns.length->preSum (λi=>ns.getD i 0) j=gK (ns.take j)
|0,_=>rfl
|j+1,h=>by rw[preSum,xD ns j (by omega),List.take_succ,Ab0 (by omega)];show _=gK (ns.take j++[ns[j]]);rw[qY,Ac4,Ab0 (by omega)];rfl
end
section
variable{X:Cx}
theorem Qs:∀{j}{us},Vals (j.map V.str) us->StrsAre us j
|[],us,r=>by cases r;exact .nil
|z::j,us,r=>by
  cases r with
|cons h t=>obtain⟨k,rfl⟩:=h;exact .cons _ _ (Qs t)
theorem yK:∀{us}{j},StrsAre us j->Vals (j.map V.str) us
|_,_,.nil=>.nil
|_,_,.cons _ _ h=>.cons ⟨_,rfl⟩ (yK h)
def XX:Qn X (.builtin "sorted") (fun xs H Q=>∃p,∃L:List Str,xs=[.ref p]/\br X.K H p (L.map V.str)/\L.length<64/\∀j,j.Perm L->sortedS j=true->∀l,H l=none->Q (.ref l) (aJ H l (.lst (j.map V.str)))):=by
 intro f s U H xs w Q I r h;obtain⟨p,L,rfl,v,m,q⟩:=h;obtain⟨u,rfl,n⟩:=jE r;cases n;obtain⟨d,rv,pl,g⟩:=I.list v;have a:=rv.length;rw[Aa]at a;refine sorted_strs pl.isList (Qs rv) (by lia) λc j i a2 a3=>?_;obtain⟨e,k⟩:=sortedAll_at s.heap d c;have t:j.length<=sizeLine:=by rw[a2.length_eq];rw[Aa]at g;exact g
 refine⟨.ref _,_,I.laid (λb o e=>sortedAll_old e) (Af0 _) (show aN X.prog X.w _ _ _ (.lst _)from⟨by rw[Aa];exact t,c.toList,e,yK i,by simpa[seqObj]using k⟩),rfl,q j a2 a3 _ (I.aL.fresh (Af0 _))⟩
end
section
variable{X:Cx}
def iU(x:Str)(n:Nat):Str:=⟨(Aa1 n x.cps).foldl (·++·) #[]⟩
theorem jR:∀n (a b:Array α),((Aa1 n a).foldl (·++·) b).toList=b.toList++(Aa1 n a.toList).flatten
|0,a,b=>by simp
|n+1,a,b=>by rw[Ad9,Ah6,jR n,Ad9,Ap];simp
def WE(x)(n):(iU x n).cps.toList=(Aa1 n x.cps.toList).flatten:=by unfold iU;rw[jR];simp
def CC(x)(n):(iU x n).length=x.length*n:=by show(iU x n).cps.size=x.cps.size*n;rw[←Ah7,WE];simp[Am]
def uy{a b:Str}(h:a.cps.toList=b.cps.toList):a=b:=by cases a;cases b;simp[Str.mk.injEq];exact Array.toList_inj.mp h
def ED:b7 X (binaryOp .Mult) (λx y H Q=>∃z k,x=.str z/\y=.int k/\0<=k/\k<=1000/\z.length*k.toNat<=1000000/\Q (.str (iU z k.toNat)) H):=by
 intro pins s U H x y v u Q I rx ry h;obtain⟨z,k,rfl,rfl,h0,h1,hl,q⟩:=h;obtain⟨t,rfl⟩:=rx;obtain⟨t',rfl⟩:=ry;have hsz:(iU z k.toNat).length<=sizeLine:=by rw[CC];exact Ab6 hl (by decide)
 refine P.mul_str (by
  have a:¬k< -(2^63:Int):=by lia
  have b:¬k>=2^63:=by lia
  rw[decide_eq_false a,decide_eq_false b];rfl) (λc1 c2=>?_) (λc1 c2=>?_) ?_
 .have hk:=by omega
  have:(2:Int)^63-1>=(z.length:Int)*k:=by
   have e:((z.length*k.toNat:Nat):Int)=(z.length:Int)*k:=by rw[Al6,Ai1 h0]
   have:=hl;lia
  have:=Int.le_ediv_of_mul_le (c:=k) (by omega) (by omega);lia
 .unfold Builtin.Str.tooLong
  exact decide_eq_false (by have:sizeLine>=1000000:=by decide
                            lia)
 .by_cases c1:k<1
  .have hk:k=0:=by lia
   subst hk;rw[if_pos c1];exact⟨by decide,.str _,H,I.kept λb o e=>e,⟨_,rfl⟩,q⟩
  .rw[if_neg c1];by_cases c2:(k==1||z.length==0)=k9
   .rw[if_pos c2];have e:iU z k.toNat=z:=by
     apply uy;rw[WE];obtain c|c:=Bool.or_eq_true_iff.mp c2
     .have:k=1:=by simpa using c
      subst this;simp
     .have:z.cps.toList=[]:=by
       have c:z.length=0:=by simpa using c
       have c:z.cps.size=0:=c;rw[←Ah7]at c;exact Ag4 c
      rw[this];simp
    rw[e]at q;exact⟨.str z,H,I,⟨t,rfl⟩,q⟩
   .rw[if_neg c2];exact⟨hsz,.str _,H,I.kept λb o e=>e,⟨_,rfl⟩,q⟩
def Dl:b7 X (binaryOp .Add) (λx y H Q=>∃a b ys,x=.ref a/\y=.ref b/\cz X.K H a []/\cz X.K H b ys/\Q (.ref b) H):=by
 intro k s U H x y v u Q I B t h;obtain⟨a,b,ys,rfl,rfl,D,C,q⟩:=h;cases B;cases t;obtain⟨J,E,F,_⟩:=I.tuple D;obtain⟨c,K,w,_⟩:=I.tuple C;cases E;obtain⟨⟨z,dd,m,r⟩,l,p,n,G⟩:=id F;obtain⟨⟨o,g,j,i⟩,d,e,A,f⟩:=id w;subst p G e f;exact concat_meets ⟨_,l,rfl⟩ ⟨_,d,rfl⟩ noFill_tuple_add seq_tuple_add PySem.F.slot_tuple_add PySem.F.entry_tuple_add (PySem.F.args_tuple_add_2 _ _)
  (tuple_addW0 a b _ c.toArray n A dd g r i rfl) ⟨l,d,.ref b,H,I,rfl,q⟩
def Iw(l:X.calm=k9):Qn X (.builtin "sum") (fun xs H Q=>∃p,∃ns:List Int,xs=[.ref p]/\br X.K H p (ns.map V.int)/\Q (.int (gK ns)) H):=by
 intro f s U H xs J Q I r h;obtain⟨p,ns,rfl,E,q⟩:=h;obtain⟨u,rfl,z⟩:=jE r;cases z;obtain⟨k,rv,pl,G⟩:=I.list E;have a:=rv.length;rw[Aa]at a;refine call_sum_walkG (wpAny_pyIter_list pl.isList ?_);have g:p<s.heap.objs.size:=by obtain⟨o,n,_⟩:=pl.isList;exact Ab5 n
 have d:s.heap.objs.size<(s.heap.push {cls:=.type "list_iterator",data:=.fields #[.ref p,.int 0 0]}).objs.size:=Heap.lt_size (Heap.get?_push_size _ rfl);refine⟨s.heap.objs.size,_,_,_,_,_,λi=>ns.getD i 0,rfl,Walks.list (A:=X.A.in1) (I.ok.hd l) _ p (Ac2 g) k.toArray,⟨⟨_,Ac _ rfl,rfl,rfl⟩,pl.isList.at λo e=>Aa2 _ e⟩,λb c=>?_,λi v y=>?_,λC D w m=>?_⟩
 .simp[or_false]at c;obtain rfl|rfl:=c
  .exact d
  .exact Nat.lt_trans g d
 .obtain⟨x,j,F⟩:=rv.kI (by simpa using y);rw[Ac9]at j;cases c:ns[i]? with
|none=>rw[c]at j;cases j
|some b=>rw[c]at j;cases j;obtain⟨t,rfl⟩:=F;exact⟨t,by show Value.int b t=Value.int (ns.getD i 0) t;rw[Ac4,c];rfl⟩
 .have B:Inv X f U H {s with heap:=C,toks:=D}:=I.kept λb o e=>m b o (by simp;exact Ac2 (Ab5 e)) (Aa2 _ e);refine⟨.int _,H,B,⟨w,?_⟩,q⟩;rw[Ab2,←a,xD ns _ (Aa9 _),Ap5]
theorem Wv:∀{ns}{j},Vals (ns.map V.int) j->∃ps:List (Int×Tok),j=ps.map (λp=>.int p.1 p.2)/\ps.map (·.1)=ns
|[],j,r=>by cases r;exact⟨[],rfl,rfl⟩
|n::ns,j,r=>by
  cases r with
|cons h t=>obtain⟨k,rfl⟩:=h;obtain⟨ps,e1,e2⟩:=Wv t;exact⟨(n,k)::ps,by rw[e1];rfl,by rw[←e2];rfl⟩
def jI(f:Int->Int->Bool):List Int->Int->Int
|[],a=>a
|b::r,a=>jI f r (if f b a then b else a)
theorem xY(f):∀l b a,jI f (l++[b]) a=if f b (jI f l a)then b else jI f l a
|[],b,a=>rfl
|c::l,b,a=>by show jI f (l++[b]) _=_;rw[xY f l b];rfl
theorem Z7(f)(val:Nat->Int):∀n,val (argBest (λi j=>f (val i) (val j)) n)=jI f ((Ab1 n).map λi=>val (i+1)) (val 0)
|0=>rfl
|n+1=>by
  have a:=Z7 f val n;rw[List.range_succ,Ae5,Ab4,Af6,xY,←a,argBest];by_cases q:f (val (n+1)) (val (argBest (λi j=>f (val i) (val j)) n))=k9
  .simp only[q,if_true]
  .simp only[q,if_false,Ai2]
def AY{ps:List (Int×Tok)}(e:ps.map (·.1)=n::ns)(f)
 (h:(intItems ps.toArray)[argBest (λi j=>f (numAt ps.toArray i) (numAt ps.toArray j)) (ps.toArray.size-1)]?=y0 v):∃t,v=.int (jI f ns n) t:=by
 obtain⟨t,rfl⟩:=intItems_at h;refine⟨t,?_⟩;rw[Z7 f (numAt ps.toArray)];have d:=by have:=congrArg Ao1 e;simpa using this
 have c:∀i,numAt ps.toArray i=(n::ns).getD i 0:=λi=>by
  rw[←e,Ac4,Ac9];unfold numAt;rw[List.getElem?_toArray]
  all_goals (cases ps[i]?)
 have g:(Ab1 (ps.toArray.size-1)).map (λi=>numAt ps.toArray (i+1))=ns:=by
  rw[Ab2,d,Nat.add_sub_cancel];apply List.ext_getElem
  .simp
  .intro i a b;simp only[List.getElem_map,List.getElem_range,c];rw[Ac4,List.getElem?_cons_succ,Ab0 b];rfl
 rw[g,c 0];rfl
def AS(f:X.calm=k9):Qn X (.builtin "min") (fun xs H Q=>∃p n,∃ns:List Int,xs=[.ref p]/\br X.K H p ((n::ns).map V.int)/\Q (.int (jI (fun a b=>decide (a<b)) ns n)) H):=by
 intro d s U H xs z Q I r h;obtain⟨p,n,ns,rfl,m,q⟩:=h;obtain⟨u,rfl,j⟩:=jE r;cases j;obtain⟨l,rv,pl,y⟩:=I.list m;obtain⟨c,rfl,e2⟩:=Wv rv;have k:s.heap.IsList p (intItems c.toArray):=by
  have e:intItems c.toArray=(c.map λp=>Value.int p.1 p.2).toArray:=by simp[intItems]
  rw[e];exact pl.isList
 refine min_intList (I.ok.hd f) k (by grind) λv w x i g=>?_;obtain⟨t,rfl⟩:=AY e2 (λa b=>decide _) i;exact⟨.int _,H,I.kept λb o e=>g b o e,⟨t,rfl⟩,q⟩
def qA(lo)(d n)(a:d<=n):(match lo with|none=>(d:Int)|some i=>max 0 (min (if i<0 then i+n else i) n))=((HT.aM n d lo:Nat):Int)/\HT.aM n d lo<=n:=by
 cases lo with
|none=>exact⟨rfl,a⟩
|some i=>
  by_cases q:i<0
  .simp[HT.aM,q,if_true];lia
  .simp[HT.aM,q,if_false];lia
def jY(x:Str)(a b:Option Int):Builtin.Str.strSliceIndices a b 1 x.length=(Ab1 (HT.aM x.length x.length b-HT.aM x.length 0 a)).map λk=>HT.aM x.length 0 a+k:=by
 have e:Builtin.Str.strSliceIndices a b 1 x.length=sliceRange ((HT.aM x.length 0 a)) ((HT.aM x.length x.length b)) 1:=by rw[←(qA a 0 x.length (Af _)).1,←(qA b x.length x.length (Aa9 _)).1];cases a<;>cases b<;>rfl
 rw[e];unfold sliceRange;simp only[show(1:Int)>0 by decide,if_true,Int.ediv_one,Int.one_mul];have e2:(if((HT.aM x.length 0 a))<((HT.aM x.length x.length b:Nat):Int)then((HT.aM x.length x.length b))-((HT.aM x.length 0 a:Nat):Int)+1-1 else 0).toNat=HT.aM x.length x.length b-HT.aM x.length 0 a:=by split<;>lia
 rw[e2];refine List.map_congr_left λk _=>?_;lia
noncomputable def kU(x:Str)(a b:Option Int):Str:=⟨((x.cps.toList.drop (HT.aM x.length 0 a)).take (HT.aM x.length x.length b-HT.aM x.length 0 a)).toArray⟩
def Lz(x)(lo hi):Txt.slice x lo hi=kU x lo hi:=by
 have c:=(qA lo 0 x.length (Af _)).2;have a:=(qA hi x.length x.length (Aa9 _)).2;by_cases q:HT.aM x.length 0 lo<=HT.aM x.length x.length hi
 .have e:=StrLaws.sliceText_nat x q a;rw[show kU x lo hi=⟨((x.cps.toList.drop _).take _).toArray⟩from rfl,←e];unfold Txt.slice StrLaws.sliceText;rw[jY x lo hi,StrLaws.strSliceIndices_plain q a]
 .have b:HT.aM x.length x.length hi-HT.aM x.length 0 lo=0:=by lia
  unfold Txt.slice kU;rw[jY x lo hi,b];rw[if_neg (by simp;lia)];simp
def oo:V->Option Int->Option Int->Hp->VK->Prop:=λx lo hi H Q=>∃z,x=.str z/\z.length<=sizeLine/\Q (.str (kU z lo hi)) H
def oH:gW X oo:=by
 intro a s U H x v w p g i r Q I m d pl j h;obtain⟨z,rfl,n,q⟩:=h;obtain⟨t,rfl⟩:=m;refine⟨"str",_,F.slot_str_getitem.lookup,typeIs_str _ _ _,?_⟩;have fin:∀f k,EP X a U Q (.str (Txt.slice z g i) f) {s with toks:=k}:=λf k=>by rw[Lz];exact⟨.str _,H,I.kept (t':=k) λb o e=>e,⟨_,rfl⟩,q⟩
 have c:(Txt.slice z g i).length<=sizeLine:=Ab6 (Txt.slice_le z _ _) n;cases pl<;>cases j
 .exact wpAny_getItem_str_slice (l:=u0) (u:=u0) (st:=u0) d rfl (post_val_or_str ⟨c,fin⟩)
 .exact wpAny_getItem_str_slice (l:=u0) (u:=y0 (_,_)) (st:=u0) d rfl (post_val_or_str ⟨c,fin⟩)
 .exact wpAny_getItem_str_slice (l:=y0 (_,_)) (u:=u0) (st:=u0) d rfl (post_val_or_str ⟨c,fin⟩)
 .exact wpAny_getItem_str_slice (l:=y0 (_,_)) (u:=y0 (_,_)) (st:=u0) d rfl (post_val_or_str ⟨c,fin⟩)
end
open PySem PySem.Spec PyProof.Rows PySem.MeetsSeq
section
variable{X:Cx}
def MO{e:Nat->Bool}(l:IsTup s.heap a items)
 (m:∀i y,items[i]?=y0 y->PySem.SeqAt.EqAt A.in1 s y x (e i))(r:j<items.size)(d:e j=k9)(g:∀i,i<j->e i=y9)(h:∀t',Q (.int (j:Int) t') {s with toks:=s.toks+1}):
 wpAny (model prog w) A (call (.builtin "tuple.index") [.ref a,x]) Q E s:=by
 refine wpAny_call_entry F.slot_tuple_index l.typeIs F.entry_tuple_index (wpAny_bind (wpAny_of_eq (show PySem.selfAndSome "tuple.index" "index" 1 3 ⟨[.ref a,x],[]⟩=pure (Value.ref a,[x])from rfl) (wpAny_bind (tupleItemsOf_ l (wpAny_bind (wpAny_pure (wpAny_bind (wpAny_pure (wpAny_bind ?_))))))))) (F.args_tuple_index_2 _ _);rw[Nat.min_self,Std.Legacy.Range.forIn_eq_forIn_range'];refine wpAny_forIn_list _ (λrest b f=>f=s/\b=(u0,())/\∃i,i<=j/\rest=Ao i (items.size-i)) _ ?_ ?_ _ _ ⟨rfl,rfl,0,Af _,by simp⟩
 .rintro i rest b f ⟨rfl,rfl,i0,o,c⟩;have e1:items.size-i0=(items.size-(i0+1))+1:=by lia
  rw[e1,Ap6]at c;injection c with n p
  subst n;have k:i<items.size:=by lia
  rw[Array.getElem?_eq_getElem k];refine wpAny_bind (m i items[i] (Array.getElem?_eq_getElem k) prog w _ _ ?_);by_cases q:i=j
  .subst q;rw[d,if_pos rfl];exact wpAny_bind (wpAny_bind (wpAny_mkInt (wpAny_pure (wpAny_pure (wpAny_pure ⟨_,rfl,h _⟩)))))
  .rw[g i (by lia),if_neg Ab8];exact wpAny_pure ⟨rfl,rfl,i+1,by lia,p⟩
 .rintro b f ⟨rfl,rfl,i0,o,c⟩;have e1:items.size-i0=(items.size-(i0+1))+1:=by lia
  rw[e1,Ap6]at c;cases c
abbrev yX:=V->Hp->Prop
def mR(X:Cx)(T:String)(ty:yX):Prop:=∀(pins:List (Addr×Obj))(s:Shared)(U:St)(H:Hp)(x:V)(v:Value),Inv X pins U H s->RelV x v->ty x H->s.TypeIs v T/\∀a,v=.ref a->∃b,s.heap.get? a=y0 b/\b.dict=u0
def Hb(ty:yX)(r:V->List V->Hp->VK->Prop)(a:TE)(t:TA):TE:=λU H Q=>a U H λx H1=>ty x H1/\t U H1 λxs H2=>r x xs H2 Q
def mZ{T id:String}(C:PlainAttrs T)(d:Slot T name id)(i:typeOf (.builtin id)=pure (.type "method_descriptor"))(L:mR X T ty)(J:i5 X id r)(y:PE X o to)(F:PA X (e::es) t)
 (b:attributeBase o name X.env (eval o X.env)=eval o X.env)
 (f:((backTo cpos (starEach (e::es) X.env)).all (λx=>!x.1)&&(backToKw cpos (keywordEach [] X.env)).all (λx=>x.1.isSome)
   &&u9 ((e::es).length+([]:List Keyword).length+(if([]:List Keyword).isEmpty then 0 else 1)<30))=k9)
 (c:(apos.endLine==cpos.line)=k9)(E:starEach (e::es) X.env=(y9,eval e X.env)::starEach es X.env)(g:(backTo cpos (starEach es X.env)).any (·.1)=y9):
 PE X (.Call (.Attribute o name apos) (e::es) [] cpos) (Hb ty r to t):=by
 intro a s U H Q I h;refine wpAny_Call_method_late b f c rfl (aH (y a s U H _ I h) ?_);rintro v m ⟨x,j,k,l,q,G⟩;obtain⟨B,M⟩:=L a m U j x v k l q;refine⟨T,id,C,d,i,B,M,?_⟩;have n:=F cpos a m U j _ k G;rw[E]at n⊢;exact Calls.callWith_builtin (by assumption) (Calls.evalArgs_plain (aH n (by rintro K z⟨p,A,w,D,u⟩;exact J a z U A x p v K Q w l D u)))
def yW(K:PySem.W.Frag)(H:Hp)(a:Addr):Prop:=(∃xs,H a=some (.tup xs))\/∃o,K.lookup a=some o/\o.cls=.type "tuple"/\o.dict=none
def EI:mR X "tuple" (fun x H=>∃a,x=.ref a/\yW X.K H a):=by
 intro g s U H x v I r h;obtain⟨a,rfl,h⟩:=h;cases r;obtain⟨m,h⟩|⟨o,f,i,j⟩:=h
 .obtain⟨_,k,_,o,e,c,d,n,l⟩:=I.aL a _ h;refine⟨⟨o,e,c⟩,λb z=>?_⟩;cases z;exact⟨o,e,d⟩
 .refine⟨⟨o,I.bI a o f,i⟩,λb z=>?_⟩;cases z;exact⟨o,I.bI _ o f,j⟩
def DL:mR X "str" (fun x _=>∃z,x=.str z):=by intro a s U H x v I r h;obtain⟨z,rfl⟩:=h;obtain⟨t,rfl⟩:=r;exact⟨typeIs_str s z t,λ_ e=>nomatch e⟩
def yL:mR X "list" (fun x H=>∃a xs,x=.ref a/\br X.K H a xs):=by intro d s U H x v I r h;obtain⟨a,xs,rfl,h⟩:=h;cases r;obtain⟨g,_,pl,_⟩:=I.list h;refine⟨pl.isList.typeIs,λb e=>?_⟩;cases e;obtain⟨o,n,e,c,f,_⟩:=pl;exact⟨o,e,f⟩
def kT(x:Str):List Str->Option Nat
|[]=>u0
|y::ys=>if y=x then y0 0 else(kT x ys).map (·+1)
theorem uH:∀{L}{j},kT x L=y0 j->j<L.length/\L[j]?=y0 x/\∀i,i<j->∀y,L[i]?=y0 y->y≠x
|[],_,h=>by cases h
|y::g,j,h=>by
  unfold kT at h;split at h
  .rename_i q;cases h;exact⟨Nat.zero_lt_succ _,by simp[q],λi b=>absurd b (Ag2 _)⟩
  .rename_i q;obtain⟨k,e,rfl⟩:=Af8.mp h;obtain⟨c,f,d⟩:=uH e;refine⟨Nat.succ_lt_succ c,by simpa using f,λi b z a=>?_⟩;cases i with
|zero=>simp at a;rw[←a];exact q
|succ i=>exact d i (by omega) z (by simpa using a)
def Bh(K:Aa6):V->List V->Hp->VK->Prop:=λx c H Q=>∃a z j,∃b:List Str,x=.ref a/\c=[.str z]/\cz K H a (b.map V.str)/\kT z b=y0 j/\Q (.int (j:Nat)) H
def DN:i5 X "tuple.index" (Bh X.K):=by
 intro l s U H x L v P Q I F rv h;obtain⟨a,z,j,f,rfl,rfl,J,B,q⟩:=h;cases F;obtain⟨u,rfl,E⟩:=rv.one;obtain⟨t,rfl⟩:=E;obtain⟨k,r,p,O⟩:=I.tuple J;obtain⟨N,K,C⟩:=uH B;have m:=r.length;have look:∀(i:Nat) y,k.toArray[i]?=y0 y->∃w d,f[i]?=y0 w/\y=Value.str w d:=λi y g=>by
  obtain⟨M,e1,e2⟩:=r.kI (by simpa using g);rw[Ac9]at e1;cases n:f[i]? with
|none=>rw[n]at e1;cases e1
|some b=>rw[n]at e1;cases e1;obtain⟨d,rfl⟩:=e2;exact⟨b,d,rfl,rfl⟩
 refine MO (e:=λi=>u9 (f[i]?=y0 z)) p (λi y g=>?_) (by simp_all) (decide_eq_true K) (λi G=>?_) λd=>⟨.int j,H,I.kept λb o e=>e,⟨d,rfl⟩,q⟩
 .obtain⟨w,d,e,rfl⟩:=look i y g;have:=PySem.SeqAt.EqAt.str_str (A:=X.A.in1) (s:=s) w d z t;have e2:u9 (f[i]?=y0 z)=(w==z):=by
   rw[e];by_cases q:w=z
   .subst q;simp
   .simp[q]
  rw[e2];exact this
 .have D:=by omega
  exact decide_eq_false λc=>C i G z c rfl
def IS(K:Aa6):V->List V->Hp->VK->Prop:=λx c H Q=>∃a n,∃b:List Int,x=.ref a/\c=[.int n]/\br K H a (b.map V.int)/\Q (.int ((b.count n:Nat):Int)) H
def Bj:i5 X "list.count" (IS X.K):=by
 intro c s U H x D v K Q I z rv h;obtain⟨a,n,E,rfl,rfl,C,q⟩:=h;cases z;obtain⟨u,rfl,m⟩:=rv.one;obtain⟨t,rfl⟩:=m;obtain⟨A,r,pl,J⟩:=I.list C;obtain⟨G,rfl,e2⟩:=Wv r;obtain⟨⟨w,dd,f,l⟩,d,j,k,B⟩:=id pl.isList;subst j B;refine call_meets F.slot_list_count ⟨_,d,rfl⟩ F.entry_list_count (F.args_list_count_2 _ _) (PySem.SeqAt.list_countAt a _ k dd l _ (λy=>match y with|.int i _=>i==n|_=>y9)) ⟨d,λy g=>?_,?_⟩
 .simp only[List.mem_toArray,Ac0]at g;obtain⟨p,_,rfl⟩:=g;exact PySem.SeqAt.EqAt.int_int p.1 p.2 n t
 .refine⟨.int _,H,I.kept λb o e=>e,⟨s.toks,?_⟩,q⟩;rw[←e2,List.count_eq_countP,List.countP_map];simp only[List.countP_map];rfl
end
section
variable{X:Cx}{pins:List (Addr×Obj)}{U:St}{H:Hp}{s:Shared}{h':Heap}
def Inv.gY (I:Inv X pins U H s)(k:∀b o,b≠e->b≠it->s.heap.get? b=y0 o->h'.get? b=y0 o)(G:H it=u0)(A:H e=u0)(l:it≠X.env.locals)(f:e≠X.env.locals)
 (h1:it∈X.ex\/X.s₀.heap.objs.size<=it)(j:e∈X.ex\/X.s₀.heap.objs.size<=e)(F:∀x c,X.env.cells.lookup x=y0 c->c≠it)(h:∀x c,X.env.cells.lookup x=y0 c->c≠e)(w:∀p∈X.pn++pins,p.1≠it)(g:∀p∈X.pn++pins,p.1≠e):Inv X pins U H {s with heap:=h',toks:=t'}:=by
 have d:∀b u,H b=y0 u->b≠e/\b≠it:=λb u q=>⟨λz=>(by simp_all),λz=>(by simp_all)⟩;have i:∀b o,b∉[e,it]->s.heap.get? b=y0 o->h'.get? b=y0 o:=λb o a q=>k b o (λz=>a (by simp[z])) (λz=>a (by simp[z])) q;refine I.step (λb D=>?_) (λb o _ _ a e _=>i b o a e) (λb o _ _ a e _=>⟨o.slots,i b o a e⟩) (λ_ _ _ _ n=>n)
  (λb o a e=>⟨o,i b o a e⟩) (λ_ _ e=>e) (λ_ _ _ e=>e) (λb J e=>⟨#[],by rw[e];simp⟩) (λm E=>?_) (λb u q=>?_) I.bare
 .obtain z|z:=Ab7.mp D
  .rw[z];exact⟨j,f,h,g⟩
  .rw[Ac5.mp z];exact⟨h1,l,F,w⟩
 .obtain⟨o,t,y,C,r⟩:=E;exact⟨o,t,y,k _ o (Ne.symm f) (Ne.symm l) C,r⟩
 .refine(I.aL b u q).cD (λc v a B=>k c v ?_ ?_ B) (λ_ q=>q) λ_ _ q=>q
  .obtain z|z:=a
   .rw[z];exact(d b u q).1
   .exact(d c _ z).1
  .obtain z|z:=a
   .rw[z];exact(d b u q).2
   .exact(d c _ z).2
end
def JH:bootBuiltins "enumerate"=some (.type "enumerate"):=by decide+kernel
def ND(h:ItemsOf (λi v=>∃t,v=Value.int (0+(i:Int)*1) t) acc n):Vals ((Ab1 n).map λ(i:Nat)=>V.int (i:Int)) acc.toList:=by
 have f:∀a k m,a.length=m->(∀j v,a[j]?=y0 v->∃t,v=Value.int (k+j:Nat) t)->Vals ((Ao k m).map λ(i:Nat)=>V.int i) a:=by
  intro a;induction a with
|nil=>intro k m b _;cases b;exact .nil
|cons x a g=>intro k m b c;cases b;refine .cons (c 0 x rfl) (g _ _ rfl λj v d=>?_);obtain⟨t,e⟩:=c (j+1) v (by simp_all);exact⟨t,by rw[e];congr 1;lia⟩
 rw[List.range_eq_range'];refine f acc.toList 0 n (by rw[Ah7];exact h.1) λj v d=>?_;obtain⟨t,e⟩:=h.2 j v (by simp_all);exact⟨t,by rw[e];congr 1;lia⟩
section
variable{X:Cx}
def B9:bootBuiltins "range"=some (.type "range"):=by decide+kernel
end
def xH{f e:Option Int}(a:IsTup s.heap t vs)(g:s.heap.IsSliceOf sl vl vu .none)(pl:IsPart vl f)(i:IsPart vu e)
 (l:HT.aM vs.size 0 f=0)(h1:HT.aM vs.size vs.size e=vs.size)(h:Q (.ref t) s):wpAny (model prog w) A (getItem (.ref t) (.ref sl)) Q E s:=by
 obtain⟨k,d,c,j⟩:=id g;have b:s.TypeIs (.ref sl) "slice":=⟨k,d,c⟩;unfold getItem
 try with_reducible refine wpAny_holding ?_
 refine wpAny_bind (wpAny_sequenceKey a.typeIs rfl (wpAny_bind (wpAny_callSpecial?_slot a.typeIs PyProof.Rows.slot_tuple_getitem
  (wpAny_call_entry PyProof.Rows.slot_tuple_getitem a.typeIs PyProof.Rows.entry_tuple_getitem ?_ (PyProof.Rows.args_tuple_getitem _ _)))))
 show wpAny _ _ (Builtin.Tuple.tupleItemsOf _>>=_) _ _ s;refine wpAny_bind (tupleItemsOf_ a (wpAny_bind (wpAny_typeOf b (wpAny_bind (HT.bP g pl i ?_)))));show wpAny _ _ (if _=k9 then _ else _) _ _ s;rw[if_pos (by simp_all)];exact wpAny_bind (wpAny_bind (wpAny_typeOf a.typeIs (wpAny_pure (wpAny_bind (wpAny_rule (wpAny_pure ⟨_,rfl,wpAny_pure h⟩))))))
section
variable{X:Cx}
def pF(K:Aa6):V->Option Int->Option Int->Hp->VK->Prop:=λx lo hi H Q=>∃a xs,x=.ref a/\cz K H a xs/\HT.aM xs.length 0 lo=0/\HT.aM xs.length xs.length hi=xs.length/\Q (.ref a) H
def IM:gW X (pF X.K):=by
 intro d s U H x v p n t u o Q I g l pl f h;obtain⟨a,j,rfl,k,m,i,q⟩:=h;cases g;obtain⟨c,r,e,w⟩:=I.tuple k;have b:c.toArray.size=j.length:=by rw[Ab2];exact r.length.symm
 refine⟨"tuple",_,PyProof.Rows.slot_tuple_getitem.lookup,e.typeIs,?_⟩;exact xH e l pl f (by rw[b];exact m) (by rw[b];exact i) ⟨.ref a,H,I,rfl,q⟩
end
section
variable{X:Cx}
def Ma:bootBuiltins "list"=some (.type "list"):=by decide+kernel
def NV(b:TA):TE:=λU H Q=>b U H λa H1=>∃n:Nat,a=[.int (n:Int)]/\n<=1000/\∀l,H1 l=u0->Q (.ref l) (aJ H1 l (.lst ((Ab1 n).map λ(i:Nat)=>V.int (i:Int))))
def E6(u:X.calm=true)(x:Gl X "list")(E:X.mg "list"=none)(k:Gl X "range")(l:X.mg "range"=none)(B:PA X [a] ta)(A:starEach [a] X.env=[(false,eval a X.env)]):
 PE X (.Call (.Name "list" p) [.Call (.Name "range" p2) [a] [] pos2] [] pos) (NV ta):=by
 intro d s U H Q I h;refine Call_ (xr I x E Ma (PyProof.Rows.callWith_type1 (Calls.spliced_cons (Call_ (xr I k l B9 (PyProof.Rows.callWith_type1 (aH (B pos2 d s U H _ I h) ?_) A rfl)))) rfl rfl));rintro N m⟨G,K,j,C,D⟩;obtain⟨n,e,J,q⟩:=D;subst e;cases C with
|cons r y=>
  cases y;obtain⟨t,rfl⟩:=r;refine call_range_1 (Calls.spliced_nil ?_);have g:Builtin.Range.rangeSize 0 n 1=n:=by unfold Builtin.Range.rangeSize;simp;lia
  refine call_list_range (j.ok.hd u) (IsRange.new ..) (small_one (by decide) (by decide) (by lia) (by lia)) g (by lia) λL M i F w v f=>?_;have c:∀o:Obj,m.heap.objs.size<=(m.heap.push o).objs.size:=λo=>by rw[Af2];exact Af0 _
  refine⟨.ref _,_,j.laid (o:=.lst _) (λb o z=>w b o (Aa2 _ z)) (c _) ⟨by rw[Aa,Ai5,sizeLine_eq];lia,i.toList,F,(ND f),by simpa using v⟩,rfl,q _ (j.aL.fresh (c _))⟩
end
section
variable{X:Cx}{pins:List (Addr×Obj)}{U:St}{H:Hp}{s:Shared}{h':Heap}
def Inv.cm {ch:List Addr}(I:Inv X pins U H s)(k:∀b o,b∉ch->s.heap.get? b=y0 o->h'.get? b=y0 o)(f:∀b∈ch,bA X pins H b):Inv X pins U H {s with heap:=h',toks:=t'}:=by
 have d:∀b u,H b=y0 u->b∉ch:=λb u q z=>by rw[(f b z).1]at q;cases q
 refine I.step (λb t=>?_) (λb o _ _ a e _=>k b o a e) (λb o _ _ a e _=>⟨o.slots,k b o a e⟩) (λ_ _ _ _ n=>n)
  (λb o a e=>⟨o,k b o a e⟩) (λ_ _ e=>e) (λ_ _ _ e=>e) (λb B e=>⟨#[],by rw[e];simp⟩) (λm x=>?_) (λb u q=>?_) I.bare
 .obtain⟨A,w,C,p,y,h⟩:=f b t;exact⟨p,w,y,h⟩
 .obtain⟨o,g,i,l,r⟩:=x;exact⟨o,g,i,k _ o (λz=>(f _ z).2.1 rfl) l,r⟩
 .refine(I.aL b u q).cD (λc v a j=>k c v ?_ j) (λ_ q=>q) λ_ _ q=>q;obtain z|z:=a
  .rw[z];exact d b u q
  .exact d c _ z
end
def Hr:bootBuiltins "zip"=some (.type "zip"):=by decide+kernel
end L2
set_option maxHeartbeats 8000000
namespace L2
open PySem PySem.Spec PyProof.Rows
open Sem (wp)
abbrev K2:=List (Int⊕List Int)
section
variable(prog:Program)(w:World)
inductive qW(h:Heap):K2->List Value->Prop
|nil:qW h [] []
|int {i:Int}{t:Tok}{ks:K2}{vs:List Value}:qW h ks vs->qW h (.inl i::ks) (.int i t::vs)
|tup {l:List Int}{a:Addr}{ks:K2}{vs:List Value}:IsTupleKey (intKind prog w) h l a->qW h ks vs->qW h (.inr l::ks) (.ref a::vs)
end
abbrev WK:=Int×List Int×List Int
section
variable{X:Cx}{pins:List (Addr×Obj)}{U:St}{H:Hp}{s:Shared}{a b:Addr}{k:WK}{xs:List (WK×Addr×Value)}{r:Value}{A:Around}{E:Value->Shared->Prop}
def Mb(I:Inv X pins U H s):sysModules<s.heap.objs.size:=by exact Nat.lt_trans (by decide) ((I.mod.glob.keeps I.bk).lt)
end
open PySem.AutoSeq1 (wpAny_loadPart')
open MeetsSeq MeetsSeq2 MeetsSeq3 SeqRoads2 PySem.SeqAt
open PySem PySem.Spec PyProof.Rows PyProof.Rows.KTD PyProof.V
def HX(K:Aa6)(a:Addr)(T:List (Str×PyData)):Prop:=tabLook flatLooks (λb=>K.lookup b) a T=k9
noncomputable def pb(K:Aa6)(a:Addr):It:=
 ⟨λi H=>∃xs x,br K H a xs/\xs[i]?=y0 x,λi H x H'=>∃p y,H p=u0/\x=.ref p/\H'=aJ H p (.tup [.int (i:Int),y])/\∀xs,br K H a xs->xs[i]?=y0 y,λi H=>∃xs,br K H a xs/\xs.length=i⟩
def C6{K:Aa6}(a it e)(t:e≠it):lX P w K (.Tuple elts x1 tp) (pb K a) [e,it] e (λi h=>(∃j,IsEnum h e it (i:Int) j)/\h.IsListIter it a i) where
 mem:=by simp
 obj:=λi h l b L=>by
  obtain⟨⟨j,q⟩,⟨o,q2,c,d⟩⟩:=l;rcases Ab7.mp L with z|z
  .subst z;exact⟨_,q,λv z=>by cases z⟩
  .rw[Ac5.mp z];exact⟨o,q2,λv z=>by rw[d]at z;cases z⟩
 keep:=λi h h' l k=>⟨let⟨j,q⟩:=l.1;⟨j,k e (by simp) _ q⟩,let⟨o,q,r⟩:=l.2;⟨o,k it (by simp) o q,r⟩⟩
 item:=by
  intro X hP Z hK V i m s U H E I M l hg;subst hP Z hK;obtain⟨⟨j,B⟩,f⟩:=l;obtain⟨xs,x,O,S⟩:=hg;obtain⟨g,rv,p,hz⟩:=I.list O;obtain⟨u,hu,ru⟩:=rv.get S;have C:=p.isList;have n:a≠it:=λz=>by obtain⟨o,q,c,_⟩:=C;obtain⟨o',q',F,_⟩:=f;rw[z,q']at q;cases q;rw[c]at F;exact absurd F (by decide)
  have hae:a≠e:=λz=>by obtain⟨o,q,c,_⟩:=C;rw[z,B]at q;cases q;exact absurd (show Value.type "enumerate"=Value.type "list" from c) (by decide)
  obtain⟨f0,f1,f2,f3,f4,f5⟩:=M e (by simp);obtain⟨Q,g1,g2,T,g4,Y⟩:=M it (by simp);have hlt:=by have:=Aa8.mp hu;simpa using this.1
  have A:X.A.in1.handled=none:=I.ok.hd V;refine wpAny_pyNext_enum_itemD (Draws.list A it a n g.toArray) B ⟨f,C⟩ hlt t (by simp[t,Ne.symm hae]) λy h1 G D ho W hT hsz hk=>?_;have ey:y=u:=by rw[List.getElem?_toArray]at D;rw[hu]at D;cases D;rfl
  subst ey;refine⟨_,rfl,wpAny_letOwnedTupleGo_enum ho λh2 R N=>?_⟩;have N:=N;have hep:=Aj1 (Ab5 B);have hn:=I.aL.fresh (Aa9 _);have I1:Inv X m U (aJ H s.heap.objs.size (.tup [.int (i:Int),x])) {s with heap:=s.heap.push {cls:=.type "tuple",data:=.seq #[.int i G,y]},toks:=G+1}:=by refine I.laid (λb o q=>Aa2 _ q) (Aa9 _) ⟨by simp only[Aa7,Af3];rw[sizeLine_eq];decide,[.int i G,y],.cons ⟨_,rfl⟩ (.cons ru .nil),?_⟩;exact⟨_,Ac s.heap rfl,rfl,rfl,_,rfl⟩
  have J:it<s.heap.objs.size:=by obtain⟨o,q,_⟩:=f;exact Ab5 q
  have ee:=Ab5 B;have I2:=I1.gY (t':=G+1) (λb o b1 b2 q=>by
   refine(N.2 b b1).trans ?_;rcases Heap.get?_push_cases (show(s.heap.push {cls:=.type "tuple",data:=.seq #[.int i G,y]}).get? b=some o from q)with⟨z,z2⟩|z
   .rw[z,z2];exact hT
   .exact hk b o b1 b2 z) (by rw[ja (Ac2 J)];exact Q) (by rw[ja (Ac2 ee)];exact f0) g1 f1 T f3 g4 f4 Y f5
  refine⟨.ref s.heap.objs.size,_,I2,rfl,⟨s.heap.objs.size,x,hn,rfl,rfl,λys D=>by rw[I.ea D O];exact S⟩,⟨⟨y,by simpa using R⟩,?_⟩,λb L=>?_⟩
  .obtain⟨o,q,r⟩:=W.1;exact⟨o,(N.2 it (Ne.symm t)).trans q,r⟩
  .rcases Ab7.mp L with z|z
   .rw[z,ja (Ac2 ee)];exact f0
   .rw[Ac5.mp z,ja (Ac2 J)];exact Q
 done:=by
  intro X hP Z hK V i m s U H E I M l hg;subst hP Z hK;obtain⟨⟨j,B⟩,f⟩:=l;obtain⟨xs,O,S⟩:=hg;obtain⟨g,rv,p,hz⟩:=I.list O;have C:s.heap.IsList a g.toArray:=p.isList;have n:a≠it:=λz=>by obtain⟨o,q,c,_⟩:=C;obtain⟨o',q',F,_⟩:=f;rw[z,q']at q;cases q;rw[c]at F;exact absurd F (by decide)
  obtain⟨Q,g1,g2,T,g4,Y⟩:=M it (by simp);have hl:=rv.length;have A:X.A.in1.handled=none:=I.ok.hd V;have hi:i=g.toArray.size:=by simp;omega
  subst hi;exact wpAny_pyNext_enum_endD (Draws.list A it a n g.toArray) B ⟨f,C⟩ λh' eb=>⟨rfl,I.turned (λb o L q=>eb b o L q) Q g1 T g4 Y⟩
 self:=λ_ _ _ _ _ l h=>wpAny_pyIter_enum l.1.choose_spec h
def N9(K:Aa6)(c:TA):TI:=λU H R=>c U H λb H1=>∃a xs,b=[.ref a]/\br K H1 a xs/\R (pb K a) H1
def CH(n:Gl X "enumerate")(A:X.mg "enumerate"=none)(v:PA X [a] ta)(t:starEach [a] X.env=[(false,eval a X.env)]:=by rfl):PI X (.Tuple elts x1 tp) (.Call (.Name "enumerate" p) [a] [] pos) (N9 X.K ta):=by
 intro f s U H R I h;refine Call_ (xr I n A JH (PyProof.Rows.callWith_type1 (aH (v pos f s U H _ I h) ?_) t rfl));rintro G g⟨C,m,d,w,x⟩;obtain⟨b,E,e,B,q⟩:=x;subst e;cases w with
|cons r o=>
  cases o;cases r;obtain⟨y,rv,pl,F⟩:=d.list B;refine call_enumerate_list pl.isList λD j i k l=>wpAny_pyIter_enum j ?_;refine⟨g.heap.objs.size+1,[g.heap.objs.size+1,g.heap.objs.size],_,_,m,rfl,d.kept l,C6 b g.heap.objs.size _ (Nat.succ_ne_self _),⟨⟨_,by simpa using j⟩,i⟩,λc u=>?_,q⟩;obtain z|z:=Ab7.mp u
  .rw[z];exact d.dN (Af0 _) (d.aL.fresh (Af0 _))
  .rw[Ac5.mp z];exact d.dN (Aa9 _) (d.aL.fresh (Aa9 _))
open PySem PySem.Spec PySem.Calls PySem.W PyProof.Rows
def xP:List Value->Bool
|[]=>y9
|x::r=>match x with
|.ref _=>xP r
|_=>x::r==zE
theorem zp{P:List Value->Prop}(a:P zE)(h1:∀c r,P r->P (.ref c::r)):∀{l},xP l=k9->P l
|[],e=>by cases e
|x::r,e=>by
  unfold xP at e;split at e
  .exact h1 _ _ (zp a h1 e)
  .rw[beq_iff_eq.mp e];exact a
def zW(self)(e:xP l=k9):refuseLoop self "__setattr__" l=pure ():=
 zp (P:=fun l=>refuseLoop self "__setattr__" l=pure ()) (PySem.F.store_ValueError.passes self) (fun c r h=>by rw[refuseLoop_ref];exact h) e
def QX(e:xP l=true):l.contains (.type "object")=true:=
 zp (P:=λl=>l.contains _=k9) (by decide+kernel) (λc r h=>by rw[List.contains_cons,h,Ap2]) e
def EN(e:xP l=true):l.contains (.type "BaseException")=true:=
 zp (P:=λl=>l.contains _=k9) (by decide+kernel) (λc r h=>by rw[List.contains_cons,h,Ap2]) e
def yu(e:xP l=k9):l.isEmpty=false:=
 zp (P:=λl=>l.isEmpty=y9) rfl (λc r h=>rfl) e
def kY(K:Frag)(C:Addr):Bool:=(clsIn K C).any λcd=>xP cd.mro&&cd.hasDict
def yx{K:Frag}(h:kY K C=k9):∃cd,clsIn K C=y0 cd/\xP cd.mro=k9/\cd.hasDict=true:=by obtain⟨cd,b,a⟩:=PySem.W.any_some h;rw[Aa0]at a;exact⟨cd,b,a.1,a.2⟩
section
variable{prog:Program}{w:World}{A:Around}{E:Value->Shared->Prop}{s:Shared}{K:Frag}{x C t:Addr}{f:Str}{u:Value}
def Mn(X:K.In s.heap)(j:s.heap.get? x=some (fM C t none))(B:kY K C=true)(G:findIn K (.ref C) "__setattr__"=some (some (.builtin "object.__setattr__")))(v:findIn K (.ref C) f=some none)
 (h:∀h',(∀b o,b≠x->s.heap.get? b=y0 o->h'.get? b=y0 o)->h'.get? x=y0 (fM C t (y0 s.heap.objs.size))->h'.Ns1 s.heap.objs.size (λy=>if y=f then y0 u else u0)->Q () {s with heap:=h',toks:=s.toks+2}):
 wpAny (model prog w) A (setAttr (.ref x) f u) Q E s:=by
 obtain⟨cd,k,r,L⟩:=yx B;have I:PySem.W.InstAt s.heap x _ C none:=⟨j,rfl,rfl,trivial⟩;refine PySem.W.set_plain X I G ?_;have i:=PySem.F.store_object;have sub:Looks (model prog w) s.heap (isInstance _ _) true:=I.type.andThen (looks_mroIn X (by unfold mroIn;rw[k,Ag3,if_neg (by rw[yu r];decide),QX r]));have N:Looks (model prog w) s.heap (mroOf (.ref C)) cd.mro:=(looks_clsIn X k).andThen .now;have F:=looks_findIn (M:=model prog w) X v;refine codeAny_call_builtin i.slot.plain i.entry (@check_slot _ _ _ {s with toks:=s.toks+1} "object.__setattr__" "object" "__setattr__" _ [.str f s.toks,u] [] _ i.kind i.split sub (i.args _ _ u) ?_);rw[osa_eq,refuse_eq];refine wpAny_bind (wpAny_bind (I.type.here (s:={s with toks:=s.toks+1}) (wpAny_bind (N.here (s:={s with toks:=s.toks+1}) ?_))));rw[zW _ r];refine wpAny_pure (wpAny_bind (I.type.here (s:={s with toks:=s.toks+1}) (wpAny_bind (F.here (s:={s with toks:=s.toks+1}) (wpAny_bind (wpAny_pure ?_))))));have g:(s.heap.push {cls:=.type "dict",data:=.dict #[]}).get? x=some _:=Heap.get?_push_of_some _ j;have c:=Ac2 (Ab5 j);refine wpAny_bind (wpAny_pure (wpAny_bind (wpAny_bind (wpAny_loadPart j (wpAny_bind (PySem.W.Looks.here (PySem.W.looks_clsIn X k) ?_))))));rw[L];have m:((s.heap.push {cls:=.type "dict",data:=.dict #[]}).update x fun o=>{o with dict:=some s.heap.objs.size}).get? s.heap.objs.size=some {cls:=.type "dict",data:=.dict #[]}:=
  (Ao2 _ _ _ _ c.symm).trans (Ac _ rfl)
 have p:((s.heap.push {cls:=.type "dict",data:=.dict #[]}).update x fun o=>{o with dict:=some s.heap.objs.size}).Ns s.heap.objs.size (fun _=>none):=
  ⟨_,#[],_,m,rfl,λe D=>absurd D (by simp),λ_=>rfl⟩
 refine wpAny_bind (wpAny_alloc (wpAny_bind (wpAny_update g (wpAny_pure ?_))));refine wpAny_bind (wpAny_pure (wpAny_bind (wpAny_nsSet1 (Heap.Ns1.of_empty p) λh' d a=>?_)));obtain⟨O,z,J,n,l,q⟩:=d.count (PySem.Within.cons f u PySem.Within.nil);refine wpAny_bind (wpAny_lookBehind n (by rw[l];exact pastItsLine_dict (Ab6 q (by rw[Aa7,Af3,sizeLine_eq];omega))) ?_);refine wpAny_pure (h h' (λb o H e=>?_) ?_ d)
 .exact(a.2 b (Ac2 (Ab5 e))).trans ((Ao2 _ _ _ _ H).trans (Aa2 _ e))
 .exact(a.2 x c).trans (Ai3 _ g rfl)
end
noncomputable def zJ(K:Frag)(C:Addr):Bool:=match K.lookup C with
|some ⟨t,_,.cls cd,l⟩=>u9 (t=.type "type"/\cd.mro=.ref C::cd.mro.tail/\l=#[l.getD 0 none,l.getD 1 none,l.getD 2 none,l.getD 3 none,some (.builtin "ValueError.__new__"),l.getD 5 none]/\cd.hasDel=false)&&(tailIn K zE cd.mro.tail&&nsOkIn K cd.ns)
|_=>y9
def QC{K:Frag}(X:K.In h)(q:zJ K C=k9):
 ∃bm M nm j bs L sn sub ab col dd k0 k1 k2 k3 k5 mN,h.get? C=y0 (excClassObj nm j C M bs bm L sn sub ab col dd k0 k1 k2 k3 k5 "ValueError.__new__")/\h.Ns M mN/\OwnTail h zE bm:=by
 unfold zJ at q;split at q;next t dd cd l e=>
  simp only[Aa0,decide_eq_true_eq]at q;obtain⟨⟨rfl,a,g,e1⟩,e2,d⟩:=q;obtain⟨nm,bs,b,c,j,L,sn,sub,ab,col,f⟩:=cd;dsimp only at a e1 e2 d;generalize b.tail=i at a e2;subst e1 a;rw[g]at e;exact⟨i,c,nm,j,bs,L,sn,sub,ab,col,dd,_,_,_,_,_,_,X _ _ e,.of_isNs (isNs_of_in X d),tail_of_in X e2⟩
 next=>cases q
section
variable{prog:Program}{w:World}{A:Around}{E:Value->Shared->Prop}{h:Heap}{g:Array GenState}{d:Drawn}{t:Nat}{os:OsState}{K:Frag}{C fI:Addr}
def XW(h:Heap)(C:Addr)(rest:List Value):Heap:=(h.push {cls:=.type "tuple",data:=.seq rest.toArray}).push (fM C h.objs.size none)
def Jv{rest:List Value}(e:h.get? b=y0 o):(XW h C rest).get? b=y0 o:=Aa2 _ (Aa2 _ e)
def tJ{rest:List Value}:(XW h C rest).get? (h.objs.size+1)=y0 (fM C h.objs.size u0):=by
 have:=Heap.get?_push_size (h.push {cls:=.type "tuple",data:=.seq rest.toArray}) (o:=fM C h.objs.size none) rfl
 rwa [Af2]at this
def Mz{rest:List Value}{Q:Value->Shared->Prop}(X:K.In h)(m:zJ K C=true)(s:findIn K (.ref C) "__init__"=some (some (.ref fI)))(l:typeIn K (.ref fI)=some (.type "function"))(c:rest.length<=sizeLine)
 (v:wpAny (model prog w) (A.under (.builtin "type.__call__" ⟨.ref C::rest,[]⟩)) (call (.ref fI) (.ref (h.objs.size+1)::rest)) (fun r s'=>r=.none/\Q (.ref (h.objs.size+1)) s') E ⟨XW h C rest,g,d,t,os⟩):
 wpAny (model prog w) A (call (.ref C) rest) Q E ⟨h,g,d,t,os⟩:=by
 obtain⟨n,z,nm,P,bs,p,D,sub,G,y,dd,J,N,H,B,I,S,a,O,T⟩:=QC X m;have F:=PySem.F.excBase_ValueError;have R:=tc_lookup;have U:=tc_bind (.ref C);have L:(⟨h,g,d,t,os⟩:Shared).TypeIs (.ref C) "type":=⟨_,a,rfl⟩;refine wpAny_call (codeAny_of_tree ?_);show wpAny _ _ _ _ _ _
 repeat (any_goals (first|assumption|with_reducible refine wpAny_loadPart_at a ?_|wp_step))
 refine⟨rfl,codeAny_call_builtin_at (Code.quiet_builtin _ (by decide+kernel)) entry_typeCall (wpAny_check_type_call_sub a ?_)⟩
 repeat (first|with_reducible refine wpAny_loadPart_at a ?_|with_reducible refine wpAny_madeBy_exc a ?_|wp_step)
 refine codeAny_call_builtin_code (Code.quiet_builtin _ F.quiet) (wpAny_check_new_subT F T a (codeAny_exc_new_subT F T a ?_ c));show wpAny _ _ _ _ _ ⟨XW h C rest,g,d,t,os⟩;have k:K.In (XW h C rest):=λb o e=>Jv (X b o e);have j:=Jv (C:=C) (rest:=rest) a;have i:(XW h C rest).get? (h.objs.size+1)=y0 {cls:=.ref C,data:=.fields #[.ref h.objs.size,.none,.none,.none,.bool y9,.none]}:=tJ;have f:(Value.ref C::n).contains (.ref C)=true:=by simp
 unfold isInstance
 repeat (first|with_reducible refine wpAny_loadPart_at i ?_|(with_reducible refine wpAny_isSubtype_exc j ?_;rw[f])|wp_step)
 show wpAny _ _ (typeLookup (.ref C) _) _ _ _;refine(looks_findIn (M:=model prog w) k s).at ?_;refine wpAny_holding (wpAny_bind ((bind_fn (M:=model prog w) k (.ref (h.objs.size+1)) l).at ?_));refine wpAny_bind (wpAny_mono v (λr s' u=>?_) λ_ _ x=>x);obtain⟨rfl,q⟩:=u
 wp_walk
 exact q
end
def fX(x C t:Addr)(a:Option Addr):HO:=.ext λh=>h.get? x=y0 (fM C t a)
def sV(e:h.get? x=y0 (fM C t od)):aN P w H h x (fX x C t od):=⟨e,⟨_,e⟩,λ_ _ z k=>k _ z⟩
def kf(H:Hp)(x:Addr):Hp:=λb=>if b=x then u0 else H b
def pJ(h:b≠x):kf H x b=H b:=if_neg h
def ud:kf H x x=none:=if_pos rfl
section
variable{X:Cx}{pins:List (Addr×Obj)}{U:St}{H:Hp}{s:Shared}
def Inv.forget (I:Inv X pins U H s)(a:H x=y0 (.ext j)):Inv X pins U (kf H x) s:=by
 have ne:∀b o,H b=y0 o->(∀j,o≠.ext j)->kf H x b=y0 o:=λb o q n=>by rw[pJ (λe=>by rw[e,a]at q;cases q;exact n _ rfl)];exact q
 have nn:∀b,H b=u0->kf H x b=none:=λb q=>by
  unfold kf;split
  .rfl
  .exact q
 refine⟨I.ok,I.os,I.bare,⟨I.base.keep,I.base.slot,λb u e n a=>nn b (I.base.free b u e n a),I.base.there,λb d q=>ne b _ (I.base.cP b d q) (λ_ z=>by cases z),λb u v q=>ne b _ (I.base.cJ b u v q) (λ_ z=>by cases z),λb k q=>?_⟩,
  I.loc,I.cell,nn _ I.free,λy c q=>nn _ (I.bB y c q),λp i=>?_,λb u q=>?_,I.len⟩
 .obtain⟨more,g⟩:=I.base.cU b k q;exact⟨more,ne b _ g (λ_ z=>by cases z)⟩
 .obtain⟨h,a2,a3⟩:=I.pin p i;exact⟨h,nn _ a2,a3⟩
 .by_cases f:b=x
  .rw[f,ud]at q;cases q
  .rw[pJ f]at q;exact(I.aL b u q).cD (λ_ _ _ z=>z) (λc z=>ne c _ z (λ_ z=>by cases z)) λc d z=>ne c _ z (λ_ z=>by cases z)
def Inv.stored (I:Inv X pins U H s)(j:H x=y0 (fX x C t u0))(m:RelV y u)(k:∀b o,b≠x->s.heap.get? b=y0 o->h'.get? b=y0 o)
 (e:h'.get? x=y0 (fM C t (y0 s.heap.objs.size)))(l:h'.Ns1 s.heap.objs.size (λz=>if z=f then y0 u else u0)):
 Inv X pins U (aJ (aJ H s.heap.objs.size (.xd [(f,y)])) x (fX x C t (y0 s.heap.objs.size))) {s with heap:=h',toks:=t'}:=by
 have d:=(I.aL x _ j).1;have c:=Ac2 (Ab5 d);have p:(h'.update x λ_=>fM C t u0).get? x=y0 _:=Ai3 _ e rfl;have i:∀b,b≠x->(h'.update x λ_=>fM C t u0).get? b=h'.get? b:=λb a=>Ao2 _ _ _ _ a;have n:=I.laid (o:=.xd [(f,y)]) (t':=t') (λb o q=>by
  by_cases a:b=x
  .subst a;rw[d]at q;cases q;exact p
  .rw[i b a];exact k b o a q) (Aa9 _) ⟨_,l.at λo q=>(by rw[i _ c.symm];exact q),λg=>by
   by_cases h:g=f
   .rw[if_pos h];subst h;show bW (match g==g with|true=>y0 y|false=>u0) _;rw[beq_self_eq_true];exact m
   .rw[if_neg h];show bW (match g==f with|true=>y0 y|false=>u0) _;rw[beq_eq_false_iff_ne.mpr h];exact trivial⟩
 refine n.write (by rw[ja c,j];exact True.intro) (.inl rfl) (λb o a q=>?_) ⟨_,e⟩ (sV e);exact(i b a).symm.trans q
end
structure nq(K:Frag)(C:Addr)(f:Str):Prop where
 cls:zJ K C=k9
 ov:kY K C=k9
 sa:findIn K (.ref C) "__setattr__"=some (some (.builtin "object.__setattr__"))
 no:findIn K (.ref C) f=y0 u0
 kp:keepIn K (.ref C)=k9
def F8(K:Frag)(b c:TE)(f:Str):TS:=λD U H=>c U H λy H1=>b U H1 λx H2=>∃a C t,x=.ref a/\H2 a=y0 (fX a C t u0)/\nq K C f/\∀dx,H2 dx=u0->dx≠a->D.nx U (aJ (aJ H2 dx (.xd [(f,y)])) a (fX a C t (y0 dx)))
def N5(A:PE X o ta)(r:PE X value tv)(z:swapsWith value (y0 (.Attribute o f pos')) pos.line X.env=pure y9):PS X (.Assign [.Attribute o f pos'] value pos) (F8 X.K ta tv f):=by intro b s U H D I h;refine plainObj_wpAny_Assign_Attribute (aH (r b s U H _ I h) ?_) z;rintro u B⟨y,p,w,m,q⟩;refine aH (A b B U p _ w q) ?_;rintro l E⟨x,G,g,v,a,C,t,ex,i,c,n⟩;subst ex;obtain rfl:l=Value.ref a:=v;have d:=(g.aL a _ i).1;exact Mn g.bI d c.ov c.sa c.no λF k e j=>⟨U,_,g.stored i m k e j,n _ (g.aL.fresh (Aa9 _)) (Aj1 (Ab5 d))⟩
def HS(K:Frag)(f:Str):Sp:=λb H Q _=>∃a v C t,b=[.ref a,v]/\H a=y0 (fX a C t u0)/\nq K C f/\∀dx,H dx=u0->dx≠a->Q .ak (aJ (aJ H dx (.xd [(f,v)])) a (fX a C t (y0 dx)))
structure nM(K:Frag)(f:Str)(fI:Addr)(fd:FuncData)(ps:List Str):Prop where
 ex:∃x y8 st N n1 n2 p1 p2 p3 p4,km K x y8 st fI fd/\ps=[n1,n2]/\N=[n1,n2]/\qy N ps (Zk st)/\ZE st=[.Assign [.Attribute (.Name n1 p1) f p2] (.Name n2 p3) p4]/\(n1==("__debug__":Str))=false/\(n2==("__debug__":Str))=false∧
  (n1==("__classdict__":Str))=false/\(n2==("__classdict__":Str))=false
 bd:Binds K fd ps []
 fn:typeIn K (.ref fI)=y0 (.type "function")
def Hn{K:Frag}(Z:nM K f fI fd ps):bq P w K mg base (zev P w) 1 fI fd ps (HS K f):=by obtain⟨x,g,B,N,j,d,G,y,D,I,F,rfl,rfl,S,p,o,n,u,l⟩:=Z.ex;refine km.yJ F S (λk H Q E ⟨a,v,C,t,e,_⟩=>by subst e;rfl) ?_;rintro m A b s H k Q E h ⟨a,v,C,t,e,r,c,q⟩;subst e;rw[p];have v1:kg _ j:=(S.par j (by simp)).elim .inl λz=>.inr (.inl z);have v2:kg _ d:=(S.par d (by simp)).elim .inl λz=>.inr (.inl z);refine⟨_,EG (N5 (Xy (i:=0) rfl v1 o u) (Xy (i:=1) rfl v2 n l) rfl),?_⟩;exact⟨v,rfl,.ref a,rfl,a,C,t,rfl,r,c,q⟩
def C2{M:Model}{A:Around}{E:Value->Shared->Prop}{s:Shared}{env:Env}{v:Sem Value}{K:Frag}{C:Addr}{Q:Flow->Shared->Prop}(f:zJ K C=k9)(o:A.handled=u0)
 (h:wpAny M A v (λv j=>∃e t L,v=.ref e/\K.In j.heap/\j.heap.get? e=y0 (fM C t L)/\E (.ref e) j) E s):wpAny M A (raiseStmt env (y0 v) u0) Q E s:=by
 refine wpAny_bind (wpAny_mono h (λv j n=>?_) λ_ _ x=>x);obtain⟨e,t,L,rfl,X,k,i⟩:=n;obtain⟨l,q,nm,I,bs,m,u,sub,w,p,dd,B,G,y,r,z,J,c,H,T⟩:=QC X f;have a:(Value.ref C::l).contains (.type "BaseException")=true:=by rw[List.contains_cons,T.hasType PySem.F.excBase_ValueError.hasBase,Bool.or_true]
 have b:j.heap.get? e=y0 {cls:=.ref C,dict:=L,data:=.fields #[.ref t,.none,.none,.none,.bool y9,.none]}:=k;obtain⟨F,g,d,D,N⟩:=j
 repeat (first|with_reducible refine wpAny_loadPart_at b ?_|with_reducible refine wpAny_loadPart_at c ?_|(with_reducible refine wpAny_isSubtype_exc c ?_;rw[a])|wp_step)
 exact wpAny_raiseNew_none o i
section
variable{P:Program}{w:World}{K:Frag}{mg:Str->Option Value}{base:Heap}{N:List Str}{y8:Str}{scope:Scope}{f:Addr}{cd:Value}{A:Around}{outer:List Env}{s:Shared}{H:Hp}{E:XK}
def rZ(C:Addr)(b:Str)(E:XK)(t:TA):TS:=λ_ U H=>t U H λa H1=>∃v,a=[v]/\∀dx,H1 dx=u0->E (.ref C) (y0 dx) (aJ H1 dx (.xd [(b,v)]))
def EX(Y:A.handled=none)(n:nq K C fl)(hi:findIn K (.ref C) "__init__"=some (some (.ref fI)))(Z:nM K fl fI fd ps)(hm:mg x=some (.ref C))(V:Gl (xQ (zev P w) P w K mg base N y8 scope f cd A outer s H E) x)
 (hr:aY 2 (A.deeper (envOfC y8 scope s.heap.objs.size f cd)))(ha:PA (xQ (zev P w) P w K mg base N y8 scope f cd A outer s H E) [e] t)
 (S:starEach [e] (envOfC y8 scope s.heap.objs.size f cd)=(false,eval e (envOfC y8 scope s.heap.objs.size f cd))::starEach [] (envOfC y8 scope s.heap.objs.size f cd):=by rfl)(hd:(x==("__debug__":Str))=false:=by decide):
 PS (xQ (zev P w) P w K mg base N y8 scope f cd A outer s H E) (.Raise (y0 (.Call (.Name x np) [e] [] cpos)) u0 pos) (rZ C fl E t):=by
 intro i s1 U T D I h;rw[arm_exec_Raise];refine wpAny_bind (wpAny_standAt (C2 n.cls Y ?_));refine wpAny_bind (wpAny_mono (wpAny_Call_Name_kw (Xs I V hm ?_ hd)) (λv s3 R=>wpAny_bind (wpAny_standAt (wpAny_pure R))) λ_ _ x=>x);refine callWith_K I.ok.mod.iw n.kp (aH (ha cpos i s1 U T _ I h) ?_) S rfl;rintro us a⟨vs,k,j,r,v,O,q⟩;refine⟨j.bI,?_⟩;subst O;obtain⟨u,rfl,G⟩:∃u,us=[u]/\RelV v u:=by
  cases r with
|cons G r2=>cases r2;exact⟨_,rfl,G⟩
 have y:=j.laid (h':=XW a.heap C [u]) (t':=a.toks) (λb o z=>Jv z) (Af0 _) (sV tJ);have d:k (a.heap.objs.size+1)=none:=j.aL.fresh (Af0 _);refine Mz j.bI n.cls hi Z.fn (show 1<=sizeLine by rw[sizeLine_eq];decide) ?_;have F:=Hn (P:=P) (w:=w) (mg:=mg) (base:=base) Z;have X:ps.length=2:=by obtain⟨_,_,_,_,_,_,_,_,_,_,_,rfl,_⟩:=Z.ex;rfl
 refine wpAny_call (codeAny_mono (F.run _ (envOfC y8 scope s.heap.objs.size f cd::outer) _ _ ⟨[.ref (a.heap.objs.size+1),u],[]⟩ [.ref (a.heap.objs.size+1),u] [.ref (a.heap.objs.size+1),v]
  (λL J=>L=.ak/\∃c,k c=u0/\c≠a.heap.objs.size+1/\J=aJ (aJ (aJ k (a.heap.objs.size+1) (fX (a.heap.objs.size+1) C a.heap.objs.size u0)) c (.xd [(fl,v)])) (a.heap.objs.size+1) (fX (a.heap.objs.size+1) C a.heap.objs.size (y0 c)))
  (λ_ _ _=>False) (hr.make C [u] []) (y.gF.make C [u] []) (by
    have:=Z.bd ⟨XW a.heap C [u],a.gens,a.drawn,a.toks,a.os⟩ [.ref (a.heap.objs.size+1),u] y.bI (by rw[Ac3,X];rfl)
    rwa [Ac3]at this) (.cons rfl (.cons G .nil)) ⟨_,v,C,a.heap.objs.size,rfl,zb,n,λc z ne=>⟨rfl,c,by rw[ja ne]at z;exact z,ne,rfl⟩⟩) λres s' l=>?_)
 cases res with
|error O=>obtain⟨_,_,_,_,_,_,_,_,_,_,_,_,_,_,_,z⟩:=l;exact z.elim
|ok B=>
  cases B with
|ret u'=>
   obtain⟨L,J,m,rv,rfl,c,W,M,rfl⟩:=y.after l;refine⟨rv,_,a.heap.objs.size,y0 c,rfl,m.bI,(m.aL _ _ zb).1,?_⟩;have Q:=m.forget zb;have eH:kf (aJ (aJ (aJ k (a.heap.objs.size+1) (fX (a.heap.objs.size+1) C a.heap.objs.size u0)) c (.xd [(fl,v)])) (a.heap.objs.size+1) (fX (a.heap.objs.size+1) C a.heap.objs.size (y0 c))) (a.heap.objs.size+1)=aJ k c (.xd [(fl,v)]):=by
    funext b;by_cases p:b=a.heap.objs.size+1
    .rw[p,ud,ja (Ne.symm M),d]
    .rw[pJ p,ja p];by_cases g:b=c
     .rw[g,zb,zb]
     .rw[ja g,ja g,ja p]
   rw[eH]at Q;refine xJ Q (m.aL _ _ zb).1 (Heap.get?_none_of_le (Ab6 j.sz (Af0 _))) ?_ (q c W);rw[ja (Ne.symm M),d]
|next=>exact False.elim l
|brk=>exact False.elim l
|cont=>exact False.elim l
end
section
variable{prog:Program}{w:World}{A:Around}{E:Value->Shared->Prop}{s:Shared}{K:Frag}{x C dx:Addr}{fl:Str}{u:Value}{ox:Obj}{mA:Str->Option Value}
def Ef(X:K.In s.heap)(o:s.heap.get? x=y0 ox)(y:ox.cls=.ref C)(B:notCls ox=k9)(N:ox.dict=y0 dx)(q:s.heap.Ns1 dx mA)(L:mA fl=y0 u)(J:handedIn u=k9)(G:kY K C=k9)(v:findIn K (.ref C) fl=y0 u0)
 (m:findIn K (.ref C) "__getattribute__"=some (some (.builtin "BaseException.__getattribute__")))(D:findIn K (.ref C) "__getattr__"=some none)
 (h:Q u {s with toks:=s.toks+1}):wpAny (model prog w) A (getAttr (.ref x) fl b) Q E s:=by
 obtain⟨cd,a,c,f⟩:=yx G;obtain⟨l,g,d,t,P⟩:=s;dsimp only at X o q h;obtain⟨z,n,k⟩:=wT q;have I:PySem.W.InstAt l x ox C (y0 z):=⟨o,y,B,by rw[N];exact n⟩;have e:findObj K C _ fl=y0 _:=PySem.W.findObj_own (by unfold hasDictIn;rw[a];exact f) v rfl (by rw[k,L]);have r:=I.type (M:=model prog w);have O:=looks_findIn (M:=model prog w) X m;have H:=looks_findIn (M:=model prog w) X D;have F:=looks_find (M:=model prog w) X I e;have sub:Looks (model prog w) l (isInstance (.ref x) (.type "BaseException")) true:=I.type.andThen (looks_mroIn X (by unfold mroIn;rw[a,Option.bind_some,if_neg (by rw[yu c];decide),EN c]));have p:=PySem.F.attrBase_ValueError;have R:=p.ga.bind (.ref x);have i:(b&&onTheHeap (Value.builtin "BaseException.__getattribute__"))=false:=by cases b<;>rfl
 unfold getAttr getAttrBy;refine wpAny_bind (wpAny_mkText (wpAny_holding (wpAny_bind (r.at (wpAny_bind (O.at ?_))))));have j:(Value.builtin "BaseException.__getattribute__"==Value.builtin "object.__getattribute__")=false:=by decide+kernel
 dsimp only;rw[j,Ae3,if_neg (by decide)];unfold getAttrByItsOwn hookBefore;refine wpAny_bind (H.at (wpAny_bind (wpAny_attempt (wpAny_holding ?_))));unfold callGetattribute;rw[i,if_neg (by decide)]
 repeat (any_goals (first|assumption|wp_step))
 refine codeAny_call_builtin p.ga.plain PySem.F.entry_bexc_ga (@check_slot (model prog w) _ _ ⟨l,g,d,t+1,P⟩ "BaseException.__getattribute__" "BaseException" "__getattribute__" (.ref x) [.str fl t] [] _ (by decide+kernel) (by decide+kernel) sub (PySem.F.args_bexc_ga (.ref x) (.str fl t)) ?_);refine wpAny_bind (wpAny_pure (wpAny_bind (wpAny_pure (wpAny_bind (r.at (wpAny_bind (F.at ?_)))))));refine wpAny_pure ?_;show wpAny _ _ (handedOut u) _ _ _;rw[handedOut_of J];exact wpAny_pure h
end
structure mG(K:Frag)(C:Addr)(f:Str):Prop where
 ov:kY K C=k9
 no:findIn K (.ref C) f=y0 u0
 ga:findIn K (.ref C) "__getattribute__"=some (some (.builtin "BaseException.__getattribute__"))
 gh:findIn K (.ref C) "__getattr__"=some none
def F2(K:Frag)(b:TE)(f:Str):TE:=λU H Q=>b U H λx H1=>∃a C dx v,x=.ref a/\H1 a=y0 (gA a C (y0 dx))/\H1 dx=y0 (.xd [(f,v)])/\mG K C f/\Q v H1
def HF(w:PE X e ta)(B:attributeBase e f X.env (eval e X.env)=eval e X.env):PE X (.Attribute e f pos) (F2 X.K ta f):=by intro b s U H Q I h;refine y6 B (aH (w b s U H _ I h) ?_);rintro u G ⟨x,y,d,z,a,C,i,v,ex,D,n,c,q⟩;subst ex;obtain rfl:u=Value.ref a:=z;obtain⟨o,t,m,p,E⟩:=(d.aL a _ D).1;obtain⟨j,F,r⟩:∃j,G.heap.Ns1 i j/\∀g,bW _ _:=d.aL i _ n;have l:=r f;rw[show Ah1 f [_]=y0 v by simp[Ah1]]at l;obtain⟨J,A,k⟩:=bW.some_of l;exact Ef d.bI t m p (E i rfl) F A (JX k) c.ov c.no c.ga c.gh ⟨v,y,d.tok _,k,q⟩
def KP(a:TT)(t u:TS):TS:=λD U H=>a U H λb H1=>if b then t D U H1 else u D U H1
end L2
namespace L2
open PySem PySem.Spec PyProof.Rows PySem.Builtin.Str
def bU:Str:=⟨#[32]⟩
noncomputable def m4(z:Str)(a:List Str):Bool:=!(u9 (z.length<bU.length)||u9 (strKind z<strKind bU))&&!(occurrences z bU 0 z.length (z.length+1)).isEmpty&&u9 (z.length<=1000)&&u9 (partsBetween z (occurrences z bU 0 z.length (z.length+1)) bU.length=a)&&u9 (a.length<=1000)
section
variable{X:Cx}
theorem xT:∀(ps)(t),Vals (ps.map V.str) (strsFrom t ps)
|[],_=>.nil
|p::ps,t=>.cons ⟨_,rfl⟩ (xT ps (t+1))
def Bq:i5 X "str.split" (fun x vs H Q=>∃z j,x=.str z/\vs=[.str bU]/\m4 z j=true/\∀p,H p=none->Q (.ref p) (aJ H p (.lst (j.map V.str)))):=by intro c s U H x vs v r Q I l rv h;obtain⟨z,j,rfl,rfl,a,q⟩:=h;obtain⟨t,rfl⟩:=l;obtain⟨u,rfl,k⟩:=rv.one;obtain⟨i,rfl⟩:=k;unfold m4 at a;simp only[Aa0,Af1,decide_eq_true_eq]at a;obtain⟨⟨⟨⟨m,n⟩,g⟩,f⟩,d⟩:=a;refine call_meets PySem.F.slot_str_split (typeIs_str _ _ _) PySem.F.entry_str_split (PySem.F.args_str_split_2 _ _) (meets_str_split_sep z bU t i m rfl n (Af9 (wj g)) (by rw[f];exact(Af9 (wj d)))) ?_;rw[f];refine⟨.ref s.heap.objs.size,_,?_,rfl,q _ (I.aL.fresh (Aa9 _))⟩;exact I.laid (λb o e=>Aa2 _ e) (Aa9 _) (show aN X.prog X.w _ _ _ (.lst _)from⟨by rw[Aa];exact(Af9 (wj d)),strsFrom s.toks j,0,xT j s.toks,Ac s.heap rfl⟩)
end
open PySem PySem.Spec PyProof.Rows
def dS(kvs:List (Str×V)):HO:=.dK (kvs.map λp=>(.inr p.1,p.2))
noncomputable def ia(kvs:List (Str×V))(k:Str)(v:V):List (Str×V):=if kvs.any (λp=>u9 (p.1=k))then kvs.map (λp=>if p.1=k then(p.1,v)else p)else kvs++[(k,v)]
theorem u5:∀{kvs:List (Str×V)}{vs},KV (kvs.map λp=>((.inr p.1:cN),p.2)) vs->(vs.any λj=>j.1=.inr k)=kvs.any λp=>u9 (p.1=k)
|[],_,.nil=>rfl
|p::kvs,(a,b)::vs,.cons r t=>by obtain⟨e1,e2⟩:=r;rw[Ag,Ag,u5 t,←e1];by_cases q:p.1=k<;>simp[q]
theorem nY:∀{kvs:List (Str×V)}{vs},KV (kvs.map λp=>((.inr p.1:cN),p.2)) vs->bW (kvs.lookup k) (valueAt vs (.inr k))
|[],_,.nil=>trivial
|p::kvs,(a,b)::vs,.cons r t=>by
  obtain⟨e1,e2⟩:=r;have c:=nY (k:=k) t;unfold valueAt at c⊢;rw[List.find?_cons,Ab9,←e1];by_cases q:p.1=k
  .rw[beq_iff_eq.mpr q.symm];simp only[q,decide_true];exact e2
  .rw[beq_eq_false_iff_ne.mpr λz=>q z.symm];have:¬(Sum.inr p.1:cN)=.inr k:=λz=>q (by injection z);simp only[this,decide_false];exact c
def CB(d:RelV v u)(h:KV (kvs.map λp=>((.inr p.1:cN),p.2)) vs):KV ((ia kvs k v).map λp=>((.inr p.1:cN),p.2)) (stored vs (.inr k) u):=by
 unfold ia stored;rw[u5 h];by_cases c:(kvs.any λp=>u9 (p.1=k))=k9
 .rw[if_pos c,if_pos c];clear c;induction kvs generalizing vs with
|nil=>cases h;exact .nil
|cons p kvs e=>
   cases h with
|@cons _ q _ vs r t=>
    obtain⟨a,b⟩:=q;obtain⟨e1,e2⟩:=r;subst e1;refine .cons ?_ (e t);by_cases q:p.1=k
    .subst q;simp only[if_true];exact⟨trivial,d⟩
    .have:¬(Sum.inr p.1:cN)=.inr k:=λz=>q (by injection z);simp only[q,this,if_false];exact⟨trivial,e2⟩
 .rw[if_neg c,if_neg c,Ae5];exact Paired.snoc h ⟨rfl,d⟩
section
variable{X:Cx}{pins:List (Addr×Obj)}{U:St}{H:Hp}{s:Shared}{a:Addr}{k:Str}{kvs:List (Str×V)}{u r:Value}{A:Around}{E:Value->Shared->Prop}
def nH(I:Inv X pins U H s)(e:H a=y0 (dS kvs)):kvs.length<=sizeLine/\(a==sysModules)=y9/\∃vs,KV (kvs.map λp=>((.inr p.1:cN),p.2)) vs/\s.heap.DictOf (xl X.prog X.w) a vs:=by obtain⟨z,c,vs,b,dd⟩:=(show aN X.prog X.w H s.heap a (dS kvs)from I.aL a _ e);rw[Aa]at z;exact⟨z,c,vs,b,dd⟩
def M3(I:Inv X pins U H s)(e:H a=y0 (dS kvs))(f:RelV (.str k) u)(l:kvs.lookup k=y0 v)(h:∀w' s',Inv X pins U H s'->RelV v w'->Q w' s'):wpAny (model X.prog X.w) A (getItem (.ref a) u) Q E s:=by obtain⟨z,i,g,b,dd⟩:=nH I e;obtain⟨t,rfl⟩:=f;obtain⟨w',d,c⟩:=bW.some_of (by rw[←l];exact nY b);exact wpAny_getItem_of (Zn _ _ k t) dd.mapOf d (h w' _ (I.tok _) c)
def sT(r:bW o q):q.isSome=o.isSome:=by
 cases o with
|none=>rw[bW.none_of r];rfl
|some v=>obtain⟨u,rfl,_⟩:=bW.some_of r;rfl
def KR(I:Inv X pins U H s)(e:H a=y0 (dS kvs))(d:RelV (.str k) u)(h:∀s',Inv X pins U H s'->Q (.bool (kvs.lookup k).isSome) s'):wpAny (model X.prog X.w) A (compareOp .In u (.ref a)) Q E s:=by obtain⟨z,c,f,b,dd⟩:=nH I e;obtain⟨t,rfl⟩:=d;refine wpAny_in_of (Zn _ _ k t) c dd.mapOf ?_;rw[sT (nY b)];exact h _ (I.tok _)
def Dc(I:Inv X pins U H s)(e:H a=y0 (dS kvs))(d:RelV (.str k) u)(h:∀s',Inv X pins U H s'->Q (.bool (!(kvs.lookup k).isSome)) s'):wpAny (model X.prog X.w) A (compareOp .NotIn u (.ref a)) Q E s:=by obtain⟨z,c,f,b,dd⟩:=nH I e;obtain⟨t,rfl⟩:=d;refine wpAny_notIn_of (Zn _ _ k t) c dd.mapOf ?_;rw[sT (nY b)];exact h _ (I.tok _)
def Cd(kvs)(k)(v):(ia kvs k v).length<=kvs.length+1:=by
 unfold ia;split
 .rw[Aa];lia
 .simp
end
open PySem PySem.Spec PySem.Calls PySem.W PyProof.Rows
open PySem PySem.Spec PySem.Calls PyProof.Rows
section
variable{X:Cx}
def NB:og X "int.bit_length" (fun x xs H Q=>∃i:Int,x=.int i/\xs=[]/\Q (.int ((Builtin.Int.intBits i:Nat):Int)) H):=by intro a s U H x xs v c Q I b rv h;obtain⟨i,rfl,rfl,q⟩:=h;obtain⟨t,rfl⟩:=b;cases rv;exact call_int_bit_length ⟨.int _,H,I.tok _,⟨_,rfl⟩,q⟩
end
def dB(H H':Hp):Prop:=∀a o,H a=y0 o->H' a=y0 o
def dB.refl:dB H H:=λ_ _ h=>h
def dB.trans (a:dB H H1)(b:dB H1 H2):dB H H2:=λx o h=>b x o (a x o h)
def br.le {K:Aa6}(h:br K H a xs)(l:dB H H'):br K H' a xs:=by
 obtain h|h:=h
 .refine .inl ?_;obtain h|⟨u,h⟩:=h
  .exact .inl (l _ _ h)
  .exact .inr ⟨u,l _ _ h⟩
 .exact .inr h
def fY(g:Int->Int):Int->List Int->Int
|b,[]=>b
|b,x::xs=>if g x<g b then fY g x xs else fY g b xs
def jS{id:String}(b:(args.any (·.1)||kws.any (·.1.isNone))=y9)
 (h:wpAny M A (evalArgs (.builtin id) k9 args kws) (λa j=>wpAny M A (call (.builtin id) (first++a.pos) a.kw) Q E j) E s):
 wpAny M A (callWith pos (.builtin id) first args kws) Q E s:=by
 refine wpAny_bind (wpAny_holding (wpAny_mono h (λa j c=>wpAny_bind (wpAny_standAt ?_)) λ_ _ x=>x));simp only[b];exact wpAny_bind (wpAny_pure (wpAny_bind (wpAny_mono c (λr d e=>wpAny_bind (wpAny_holding (wpAny_point (wpAny_pure e)))) λ_ _ x=>x)))
section
variable{X:Cx}{pins:List (Addr×Obj)}{U:St}{H0:Hp}{q l S J:Addr}{is:List Int}{g:Int->Int}{R:Result->Shared->Prop}
def pZ(X:Cx)(U:St)(a:Hp)(q:Addr)(is:List Int)(g:Int->Int):Prop:=∀(pins:List (Addr×Obj))(s:Shared)(H:Hp)(n:Int)(t:Tok),n∈is->Inv X pins U H s->dB a H→
 wpAny (model X.prog X.w) X.A.in1 (call (.ref q) [.int n t]) (EP X pins U λv H'=>v=.int (g n)/\dB H H') (λ_ _=>False) s
def bA.keep (h:bA X pins H b)(n:H' b=u0):bA X pins H' b:=⟨n,h.2⟩
def uq(T:pZ X U H0 q is g)(m:n∈is)(I:Inv X pins U H s)(l:dB H0 H)(h:bA X pins H S)(f:bA X pins H J)(e:s.heap.get? S=y0 oS)(i:s.heap.get? J=y0 oJ)(dS:∀v,oS.data≠.cell v)(w:∀v,oJ.data≠.cell v)
 (k:∀t' s' H',Inv X pins U H' s'->dB H0 H'->bA X pins H' S->bA X pins H' J->s'.heap.get? S=y0 oS->s'.heap.get? J=y0 oJ->Q (.int (g n) t') s'):
 wpAny (model X.prog X.w) X.A.in1 (call (.ref q) [.int n t]) Q E s:=by
 have p:=I.pinned (λb a=>by
  obtain rfl|a:=Ab7.mp a
  .exact h
  .rw[Ac5.mp a];exact f) (λb a=>by
  obtain rfl|a:=Ab7.mp a
  .exact⟨_,e,dS⟩
  .rw[Ac5.mp a];exact⟨_,i,w⟩)
 refine wpAny_mono (T _ s H n t m p l) (λu s' r=>?_) λ_ _ z=>z.elim;obtain⟨v,H',c,o,rfl,le⟩:=r;obtain⟨t',rfl⟩:=o;have j:=c.pin _ (Aa5 _ (Aa5 _ (Jf (by simp) e)));have d:=c.pin _ (Aa5 _ (Aa5 _ (Jf (by simp) i)));exact k t' s' H' c.bO (l.trans le) (h.keep j.2.1) (f.keep d.2.1) j.1 d.1
def Cw(hh:X.A.handled=u0)(T:pZ X U H0 q is g)(hl:br X.K H0 l (is.map .int))(M:l≠J)(G:S≠J):∀(rest:List Int)(j:Nat)(f:Int)(tv tb:Tok)(c:Nat)(s:Shared)(H:Hp),is.drop (j+1)=rest->j+1<=is.length->Inv X pins U H s->dB H0 H->bA X pins H S->bA X pins H J→
 s.heap.get? S=y0 (seqObj "list" #[.int f tv,.int (g f) tb] c)->s.heap.IsListIter J l (j+1)->(∀t s' H',Inv X pins U H' s'->dB H0 H'->R (.ok (.ret (.int (fY g f rest) t))) s')->codeAny (model X.prog X.w) X.A (.builtin "min.loop" ⟨[.ref J,.ref q,.ref S],[]⟩) R s:=by
 have k:(toString "min"++toString ".loop":String)="min.loop":=by decide
 intro rest;induction rest with
|nil=>
  intro j f tv tb c s H Z hj I hH fS fJ eS E hR;obtain⟨d,rv,pl,-⟩:=I.list (hl.le hH);have il:d.length=is.length:=by rw[←rv.length,Aa]
  have hin:j+1=is.length:=by have:=congrArg Ao1 Z;rw[Ae8]at this;simp at this;omega
  have W:=Walks.list (prog:=X.prog) (w:=X.w) (A:=X.A.in1) hh J l M d.toArray;refine codeAny_builtin PySem.F.entry_min_loop ?_;rw[Around.under_plainId PySem.F.plain_min_loop _];show wpAny _ X.A.in1 _ _ _ _;refine wpAny_bind (wpAny_seqItems eS rfl ?_);show wpAny _ X.A.in1 (tryCatch (pyNext (.ref J)) _>>=_) _ _ _;refine wpAny_bind (wpAny_tryCatch (W.done _ _ _ ⟨by rw[Ab2,il,←hin];exact E,pl.isList⟩ λY K m=>?_));have L:=m S _ (by simpa using G) eS;have s1:=Ag6.update Y S (Obj.mapSeq λ_=>(#[]:Array Value));show wpAny _ X.A.in1 (updateSeq S (λ_=>#[])>>=_) _ _ _;refine wpAny_bind (wpAny_updateSeq L rfl (wpAny_bind (wpAny_letGo (wpAny_pure ?_))));have I1:Inv X pins U H {s with heap:=Y,toks:=K}:=I.cm (ch:=[J]) (λb o a e=>m b o a e) λb a=>by rw[Ac5.mp a];exact fJ
  exact hR _ _ _ (I1.cm (ch:=[S]) (λb o a e=>(s1.2 b (by simpa using a)).trans e) λb a=>by rw[Ac5.mp a];exact fS) hH
|cons n rest ih=>
  intro j f tv tb c s H Z hj I hH fS fJ eS E hR;obtain⟨d,rv,pl,-⟩:=I.list (hl.le hH);have il:d.length=is.length:=by rw[←rv.length,Aa]
  have F:j+1<is.length:=by have:=congrArg Ao1 Z;rw[Ae8]at this;simp at this;omega
  have en:is[j+1]?=y0 n:=by have:=congrArg (·[0]?) Z;simpa using this
  refine codeAny_builtin PySem.F.entry_min_loop ?_;rw[Around.under_plainId PySem.F.plain_min_loop _];show wpAny _ X.A.in1 (seqItems? (.ref S)>>=_) _ _ _;refine wpAny_bind (wpAny_seqItems eS rfl ?_);show wpAny _ X.A.in1 (tryCatch (pyNext (.ref J)) _>>=_) _ _ _;refine wpAny_bind (wpAny_tryCatch ((Walks.list (prog:=X.prog) (w:=X.w) (A:=X.A.in1) hh J l M d.toArray).item (j+1) _ _ _ (by rw[Ab2,il];exact F) ⟨E,pl.isList⟩ λv Y K hP N m=>?_));obtain⟨u,hu,ru⟩:=rv.get (i:=j+1) (x:=.int n) (by rw[Ac9,en];rfl);obtain⟨r,rfl⟩:=ru;obtain rfl:v=.int n r:=by
   have:d[j+1]?=y0 v:=by simpa using hP
   rw[hu]at this;exact(Ad5.inj this).symm
  obtain⟨oJ,hoJ,hoc,D⟩:=id N.1;have I1:Inv X pins U H {s with heap:=Y,toks:=K}:=I.cm (ch:=[J]) (λb o a e=>m b o a e) λb a=>by rw[Ac5.mp a];exact fJ
  have L:Y.get? S=y0 _:=m S _ (by simpa using G) eS;show wpAny _ X.A.in1 (tryCatch (holding [.int n r] (call (.ref q) [.int n r])) _>>=_) _ _ _;refine wpAny_bind (wpAny_tryCatch (wpAny_holding (uq T (Ac7 en) I1 hH fS fJ L hoJ (λv z=>by cases z) (λv z=>by rw[D]at z;cases z) λy s2 H2 I2 O C V B Q=>?_)));have hit2:s2.heap.IsListIter J l (j+1+1):=⟨oJ,Q,hoc,D⟩;have hd2:is.drop (j+1+1)=rest:=by have:=congrArg List.tail Z;simpa[List.tail_drop]using this
  show wpAny _ X.A.in1 (tryCatch (holding [.int n r,.int (g n) y] (richCompare .Lt (.int (g n) y) (.int (g f) tb)>>=_)) _>>=_) _ _ _;refine wpAny_bind (wpAny_tryCatch (wpAny_holding (wpAny_bind (CmpOf.ints_lt (prog:=X.prog) (w:=X.w) (A:=X.A.in1) (P:=λ(i:Nat) v=>∃t,v=.int (if i=0 then g n else g f) t) (λi=>if i=0 then g n else g f) (λi v h=>h) 0 1 _ _ _ _ _ ⟨y,rfl⟩ ⟨tb,rfl⟩ (wpAny_bind (wpAny_holding (wpAny_truthy_bool (wpAny_bind (wpAny_letGo (wpAny_pure ?_))))))))));show wpAny _ X.A.in1 (if u9 (g n<g f)=k9 then _ else _) _ _ _;by_cases p:g n<g f
  .have s1:=Ag6.update s2.heap S (Obj.mapSeq λ_=>#[.int n r,.int (g n) y]);obtain⟨c2,hc2⟩:∃c2,(s2.heap.update S (Obj.mapSeq fun _=>#[.int n r,.int (g n) y])).get? S=y0 (seqObj "list" #[.int n r,.int (g n) y] c2):=⟨_,get?_update_seq B fun _=>#[.int n r,.int (g n) y]⟩;rw[if_pos (decide_eq_true p)];refine wpAny_bind (wpAny_updateSeq B rfl (wpAny_bind (wpAny_letGo ?_)));rw[k];refine wpAny_pure ⟨plainId_quiet PySem.F.plain_min_loop _,ih (j+1) n r y c2 _ H2 hd2 F ?_ O C V hc2 ⟨oJ,(s1.2 J G.symm).trans Q,hoc,D⟩ λt s' H' I' l'=>?_⟩
   .exact I2.cm (ch:=[S]) (λb o a e=>(s1.2 b (by simpa using a)).trans e) λb a=>by rw[Ac5.mp a];exact C
   .have:=hR t s' H' I' l';rw[fY,if_pos p]at this;exact this
  .rw[if_neg (by rw[decide_eq_false p];exact Ab8)];refine wpAny_bind (wpAny_letGo ?_);rw[k];refine wpAny_pure ⟨plainId_quiet PySem.F.plain_min_loop _,ih (j+1) f tv tb c _ H2 hd2 F I2 O C V B hit2 λt s' H' I' l'=>?_⟩;have:=hR t s' H' I' l';rw[fY,if_neg p]at this;exact this
def EZ(hh:X.A.handled=u0)(T:pZ X U H q (n::is) g)(I:Inv X pins U H s)(hl:br X.K H l ((n::is).map .int))(hQ:∀t s' H',Inv X pins U H' s'->dB H H'->Q (.int (fY g n is) t) s'):
 wpAny (model X.prog X.w) X.A (call (.builtin "min") [.ref l] [(Str.ofString "key",.ref q)]) Q E s:=by
 have a:(toString "min"++toString ".loop":String)="min.loop":=by decide
 obtain⟨d,rv,pl,-⟩:=I.list hl;have k:=pl.isList;obtain⟨ol,R,_⟩:=id k;have N:l<s.heap.objs.size:=Ab5 R;have il:d.length=(n::is).length:=by rw[←rv.length,Aa]
 refine kmk_tree PySem.F.kind_min PySem.F.plain_min PySem.F.entry_min (kmk_min_key _ _) ?_;show wpAny _ X.A.in1 _ _ _ s;refine wpAny_bind (wpAny_of_eq (show Builtin.Builtins.bindParams "min" ["key","default"] 0 ⟨[],[(Str.ofString "key",.ref q)]⟩=pure [some (.ref q),none]from rfl) ?_);refine wpAny_bind (wpAny_pure ?_);refine wpAny_bind (wpAny_pyIter_list k ?_);refine wpAny_bind (wpAny_newList ?_ (Af _));rw[a];have M:(s.heap.push {cls:=.type "list_iterator",data:=.fields #[.ref l,.int 0 0]}).objs.size=s.heap.objs.size+1:=size_push' ..;have f:l≠s.heap.objs.size:=Ac2 N;have c:(s.heap.push {cls:=.type "list_iterator",data:=.fields #[.ref l,.int 0 0]}).objs.size≠s.heap.objs.size:=by rw[M];exact Nat.ne_of_gt (Nat.lt_succ_self _)
 have V:bA X pins H s.heap.objs.size:=I.dN (Aa9 _) (I.aL.fresh (Aa9 _));have fS:bA X pins H (s.heap.push {cls:=.type "list_iterator",data:=.fields #[.ref l,.int 0 0]}).objs.size:=I.dN (by rw[M];exact Nat.le_succ _) (I.aL.fresh (by rw[M];exact Nat.le_succ _));refine wpAny_pure ⟨plainId_quiet PySem.F.plain_min_loop _,?_⟩;have O:((s.heap.push {cls:=.type "list_iterator",data:=.fields #[.ref l,.int 0 0]}).push (seqObj "list" #[] 0)).get? s.heap.objs.size=some {cls:=.type "list_iterator",data:=.fields #[.ref l,.int 0 0]}:=
  Aa2 _ (Ac _ rfl)
 have gS:((s.heap.push {cls:=.type "list_iterator",data:=.fields #[.ref l,.int 0 0]}).push (seqObj "list" #[] 0)).get? (s.heap.push {cls:=.type "list_iterator",data:=.fields #[.ref l,.int 0 0]}).objs.size=some _:=Heap.get?_push_size _ rfl;have I0:Inv X pins U H {s with heap:=(s.heap.push {cls:=.type "list_iterator",data:=.fields #[.ref l,.int 0 0]}).push (seqObj "list" #[] 0),toks:=s.toks}:=I.kept fun b u e=>Heap.get?_push_of_some _ (Heap.get?_push_of_some _ e);have B:((s.heap.push {cls:=.type "list_iterator",data:=.fields #[.ref l,.int 0 0]}).push (seqObj "list" #[] 0)).IsList l d.toArray:=k.at fun o e=>Heap.get?_push_of_some _ (Heap.get?_push_of_some _ e);generalize (s.heap.push {cls:=.type "list_iterator",data:=.fields #[.ref l,.int 0 0]}).objs.size=S at c fS gS I0 B O⊢;generalize s.heap.objs.size=J at f c V O⊢;have W:=Walks.list (prog:=X.prog) (w:=X.w) (A:=X.A.in1) hh J l f d.toArray;refine codeAny_builtin PySem.F.entry_min_loop ?_;rw[Around.under_plainId PySem.F.plain_min_loop _];show wpAny _ X.A.in1 _ _ _ _;refine wpAny_bind (wpAny_seqItems gS rfl ?_);show wpAny _ X.A.in1 (tryCatch (pyNext (.ref J)) _>>=_) _ _ _;refine wpAny_bind (wpAny_tryCatch (W.item 0 _ _ _ (by rw[Ab2,il];exact Nat.succ_pos _) ⟨⟨_,O,rfl,rfl⟩,B⟩ λv G m hP p y=>?_));obtain⟨u,hu,ru⟩:=rv.get (i:=0) (x:=.int n) rfl;obtain⟨h,rfl⟩:=ru;obtain rfl:v=.int n h:=by
  have:d[0]?=y0 v:=by simpa using hP
  rw[hu]at this;exact(Ad5.inj this).symm
 obtain⟨oJ,hoJ,hoc,r⟩:=id p.1;have Y:=I0.cm (h':=G) (t':=m) (ch:=[J]) (λb o j e=>y b o j e) λb j=>by rw[Ac5.mp j];exact V
 have Y:Inv X pins U H {s with heap:=G,toks:=m}:=Y;have Z:G.get? S=y0 _:=y S _ (by simpa using c) gS;show wpAny _ X.A.in1 (tryCatch (holding [.int n h] (call (.ref q) [.int n h])) _>>=_) _ _ _;refine wpAny_bind (wpAny_tryCatch (wpAny_holding (uq T Aa4 Y dB.refl fS V Z hoJ (λv z=>by cases z) (λv z=>by rw[r]at z;cases z) λF s2 H2 I2 hH2 D P C L=>?_)));have s1:=Ag6.update s2.heap S (Obj.mapSeq λ_=>#[.int n h,.int (g n) F]);obtain⟨c2,K⟩:∃c2,(s2.heap.update S (Obj.mapSeq λ_=>#[.int n h,.int (g n) F])).get? S=y0 _:=⟨_,get?_update_seq C λ_=>#[.int n h,.int _ F]⟩;show wpAny _ X.A.in1 _ _ _ _;refine wpAny_bind ?_;refine wpAny_updateSeq C rfl ?_;rw[a];refine wpAny_pure ⟨plainId_quiet PySem.F.plain_min_loop _,Cw hh T hl f c is 0 n h F c2 _ H2 rfl (Nat.succ_le_succ (Af _)) ?_ hH2 D P K ⟨oJ,(s1.2 J c.symm).trans L,hoc,r⟩ λt s' H' I' l'=>hQ t s' H' I' l'⟩;exact I2.cm (ch:=[S]) (λb o j e=>(s1.2 b (by simpa using j)).trans e) λb j=>by rw[Ac5.mp j];exact D
end
def DD(K:Aa6)(a:Sp)(E:XK)(c:TE):TE:=λU H Q=>c U H λx H1=>∃(l:Addr)(n:Int)(is:List Int)(g:Int->Int),x=.ref l/\br K H1 l ((n::is).map .int)/\(∀m∈n::is,∀H2,dB H1 H2->a [.int m] H2 (λv b=>v=.int (g m)/\dB H2 b) E)/\∀H2,dB H1 H2->Q (.int (fY g n is)) H2
section
variable{X:Cx}{CX:gN}{k:Nat}{f:Addr}{fd:FuncData}{ps:List Str}{sp:Sp}{E:XK}{x fn:Str}{p p2 kp pos:Pos}{e:Expr}{te:TE}
def K3(P:X.calm=true)(hg:Gl X x)(hm:X.mg x=none)(hv:bootBuiltins x=some (.builtin "min"))(F:bq X.prog X.w X.K X.mg X.base CX k f fd ps sp)(hr:aY (k+1) X.A)(q:Gl X fn)(A:X.mg fn=some (.ref f))(hb:Binds X.K fd ps [])
 (T:∀outer H s e s',¬CX outer H s E e s')(Z:PE X e te)(S:x≠"__name__":=by decide)(B:(x==("__debug__":Str))=false:=by decide)(z:(fn==("__debug__":Str))=false:=by decide)
 (C:starEach [e] X.env=(y9,eval e X.env)::starEach [] X.env:=by rfl):PE X (.Call (.Name x p) [e] [⟨y0 (Str.ofString "key"),.Name fn p2,kp⟩] pos) (DD X.K sp E te):=by
 intro a s U H Q I h;refine wpAny_Call_Name_kw (xr I hg hm hv ?_ S B);have ha:=jd Z Jj C;have W:PK X [⟨y0 (Str.ofString "key"),.Name fn p2,kp⟩] (om (tC (.ref f)) nC):=DM (QN q A rfl z) IV;have O:=ha pos a s U H (λo i=>match o with
|[v]=>∃l n is g,v=.ref l/\br X.K i l ((n::is).map .int)/\(∀m∈n::is,∀b,dB i b->sp [.int m] b (λv H3=>v=.int (g m)/\dB b H3) E)/\∀b,dB i b->Q (.int (fY g n is)) b
|_=>False) I h
 .refine jS (by rw[C];rfl) ?_;rw[C]at O⊢;refine evalArgs_kw rfl (aH O ?_);rintro us s1 ⟨o,i,L,r1,N⟩;obtain⟨v,rfl⟩:∃v,o=[v]:=by
   match o,N with
|[v],_=>exact⟨v,rfl⟩
  obtain⟨l,n,is,g,rfl,hl,D,hQ⟩:=N;refine aH (W pos a s1 U i (λK b=>K=[.ref f]/\b=i) L ?_) λws s2 ⟨K,b,Y,rz,ez,eH⟩=>?_
  .exact⟨rfl,rfl⟩
  subst ez eH;obtain⟨u,rfl,ru⟩:=r1.one;obtain⟨w,rfl,G⟩:=rz.one;obtain rfl:u=.ref l:=ru;obtain rfl:w=.ref f:=G;refine EZ (L.ok.hd P) (λa s H d t y I hH=>?_) Y hl λt s' J I' l'=>⟨.int _,J,I',⟨_,rfl⟩,hQ J l'⟩;have c:=D d y H hH;have M:Vals [V.int d] [Value.int d t]:=.cons ⟨_,rfl⟩ .nil;refine wpAny_call (codeAny_mono (F.run X.A.in1 X.stack s H ⟨[.int d t],[]⟩ [.int d t] [.int d] _ E hr.in1 I.gF.in1 (hb s [.int d t] I.bI (by rw[Ac3,←M.length];exact F.len _ _ _ _ c)) M c) λr s' j=>?_);cases r with
|error e=>exact T _ _ _ _ _ j
|ok R=>
   cases R with
|ret u=>exact I.after j
|next=>exact False.elim j
|brk=>exact False.elim j
|cont=>exact False.elim j
end
def Cx.hY (X:Cx)(x:Addr):Cx:={X with A:=X.A.mark (y0 (.ref x)),calm:=y9,xe:=λ_ _=>False}
section
variable{X:Cx}{pins:List (Addr×Obj)}{U:St}{H:Hp}{s:Shared}{x:Addr}
theorem Inv.hY (I:Inv X pins U H s)(x:Addr):Inv (X.hY x) pins U H s:=
 ⟨⟨I.ok.mod,I.ok.kind,I.ok.glob,I.ok.blt,I.ok.above,I.ok.inj,I.ok.has,I.ok.kQ,(λz=>nomatch z),I.ok.frames,I.ok.gR,I.ok.mw,I.ok.bs,I.ok.gk,I.ok.fm,I.ok.fu,I.ok.cI,I.ok.hI⟩,I.os,I.bare,I.base,I.loc,I.cell,I.free,I.bB,I.pin,I.aL,I.len⟩
def Inv.my (ok:X.Ok)(I:Inv (X.hY x) pins U H s):Inv X pins U H s:=⟨ok,I.os,I.bare,I.base,I.loc,I.cell,I.free,I.bB,I.pin,I.aL,I.len⟩
end
def ki(K:Frag)(W:Addr)(b:Nat)(d:TS)(D:fU)(U:St):XK:=λa c H2=>∃C,a=.ref C/\lq K C/\kitCls K (.ref C) (.ref W)=y0 k9∧
 ∀x,H2 x=u0->d {nx:=λe H'=>D.nx (e.set b u0) H',rt:=λ_ _=>False} (U.set b (y0 (.ref x))) (aJ H2 x (gA x C c))
def lE(X:Cx)(a:List (Addr×Obj))(D:fU)(d:List ExceptHandler)(b:Value)(s':Shared):Prop:=
 wpAny (model X.prog X.w) X.A (noteFrame b X.env) (λ_ c=>wpAny (model X.prog X.w) X.A (setFlight b u0) (λ_ e=>wpAny (model X.prog X.w) X.A (handleBy b X.env d) (SP X a D) X.xe e) X.xe c) X.xe s'
def Ld
 (f:X.stack=X.env::X.outer)(hf:X.env.frame=some X.env.locals)(V:X.ex=[])(hW:Gl X wx)(hmW:X.mg wx=some (.ref W))(hbW:mroIn X.K W (.type "BaseException")=some true)(hN:X.N.Nodup)(F:X.N[ie]?=some n)(i:X.env.scope.names.lookup n=some .local)
 (hdW:(wx==("__debug__":Str))=false)(hb:b≠[])(hS:∀x,c9 (X.hY x) b th)
 (h:Inv X pins U H1 s1)(hq:zev X.prog X.w X.stack H1 s1 (ki X.K W ie th D U) ev s'):lE X pins D [.ExceptHandler (y0 (.Name wx wq)) (y0 n) b hp] ev s':=by
 obtain⟨b0,b,rfl⟩:=List.exists_cons_of_ne_nil hb;obtain⟨x,t,O,B,M,od,rfl,os,g,N,un,l,comp,new,dic,C,hC,Z,kc,q2⟩:=hq;cases hC;have hfr:X.A.frames=y0 (X.env::X.outer):=by rw[←f];exact h.ok.frames
 have T:Al8 B (X.env::X.outer) x (.ref t) (.ref O) s'.heap:=by rw[←f];exact N
 refine XY (R:=λs=>Heap.HeldW B (X.env::X.outer) x (.ref t) (.ref O) X.env.locals s/\s'.heap.UpToSlots s) (yO _ _) (λQ' k=>wpAny_looks_onW hfr hf T λs a b=>k s ⟨a,b⟩) ?_;rintro s ⟨A,I⟩ S;refine XY (R:=λr=>Al8 B (X.env::X.outer) x (.ref t) (.ref O) r/\s.UpToSlots r) (WB _ _) (λQ' k=>wpAny_landsW A λr a b=>k r ⟨a,b⟩) ?_;rintro r ⟨j,K⟩ Q;have L:=W3 h os g un l comp (by rw[f];exact j) (I.trans K);have ex5:ExcAt r x t:=j.there;refine wpAny_handleBy_cons (codeAny_handlers_test (Calls.Name_function_global L.ok.kind hW (Calls.loadGlobal_global (by rw[L.ok.glob];exact L.mod.glob.keeps L.bk) hmW ?_) hdW)) (λz=>nomatch z);refine jZ L.bI ex5 kc hbW ?_;refine codeAny_handlers_suite_as ?_;refine XY (R:=λw=>Al8 B (X.env::X.outer) x (.ref t) (.ref O) w/\r.UpToSlots w) (WB _ _) (λQ' k=>lands_againW j λw a b=>k w ⟨a,b⟩) ?_;rintro w ⟨H,P⟩ Y;have I6:=W3 h os g un l comp (by rw[f];exact H) ((I.trans K).trans P);have G:M x=none:=by
  cases z:M x with
|none=>rfl
|some u=>
   obtain⟨o,e1⟩:=(l x u z).there;have nf:x∉b4 X.stack:=λhx=>by obtain⟨_,o2,e2,_⟩:=h.stack.mem hx;rw[new]at e2;cases e2
   have e3:=comp x o e1 (.inl ⟨u,z⟩) nf;rw[N.2.1]at e3;cases e3
 have d:∀b o,s1.heap.get? b=y0 o->b≠x:=λb o z e=>by rw[e,new]at z;cases z
 obtain⟨o6,vs6,e6,c6,d6,_⟩:=H.first;have I7:Inv X pins U (aJ M x (gA x t od)) {s' with heap:=w}:=by
  refine I6.kn G (λz=>?_) (λy c z=>?_) (λp hp=>?_) (λb u z=>?_) (FF e6 c6 (by unfold notCls;rw[d6]) λdx z=>?_)
  .obtain⟨m,⟨o,_,_,E,_⟩,_⟩:=h.loc;exact d _ o E z.symm
  .obtain⟨_,o,E,_⟩:=h.cell y c z;exact d c o E
  .exact d p.1 _ (h.pin p hp).1
  .obtain⟨o,E⟩:=h.base.there b u z (by rw[V];simp);exact d b o E
  .obtain⟨o,e0,d0⟩:=dic dx z;obtain⟨o',e1,d1⟩:=((S.trans Q).trans Y) x o e0;have:=e6.symm.trans e1;cases this;exact d1.trans d0
 refine jp I7 hN F (.inl i) (v:=.ref x) rfl (λs8 I8=>?_) (.inr i);refine wpAny_mono (hS x pins s8 _ _ _ (I8.hY x) (q2 x G)) (λN s9 z=>?_) λ_ _ z=>False.elim z;cases N with
|next=>obtain⟨U',M,J,q⟩:=z;exact K9 (J.my I8.ok) hN F i λs10 I10=>⟨_,_,I10,q⟩
|ret u=>obtain⟨_,_,_,_,_,q⟩:=z;exact q.elim
|brk=>obtain⟨_,_,_,q⟩:=z;exact q.elim
|cont=>obtain⟨_,_,_,q⟩:=z;exact q.elim
def dA(X:Cx)(d:List ExceptHandler)(a:List Stmt)(t:TS):Prop:=
 ∀(pins:List (Addr×Obj))(s:Shared)(U:St)(H:Hp)(D:fU)(b:Flow->Shared->Prop),Inv X pins U H s->t D U H->(∀s c H',Inv X pins c H' s->D.nx c H'->b .next s)→
  wpAny (model X.prog X.w) X.A (execs a X.env) b (lE X pins D d) s
def dA.imp {st:List Stmt}(h:dA X hs st t)(k:∀D U H,t' D U H->t D U H):dA X hs st t':=λa s U H D b I q c=>h a s U H D b I (k _ _ _ q) c
def KZ(K:Frag)(W:Addr)(d:Nat)(c:TS)(b:Sp)(t:TA)(o:Option Nat):TS:=λD U H=>t U H λa H1=>b a H1 (λy H2=>D.nx (match o with|none=>U|some i=>U.set i (y0 y)) H2) (ki K W d c D U)
def c7(X:Cx)(c:List ExceptHandler)(o:Option Nat)(e:Expr)(t:TS):Prop:=
 ∀(pins:List (Addr×Obj))(s:Shared)(U:St)(H:Hp)(D:fU)(b:Value->Shared->Prop),Inv X pins U H s->t D U H->(∀u a y H2,Inv X pins U H2 a->RelV y u->D.nx (match o with|none=>U|some i=>U.set i (y0 y)) H2->b u a)→
  wpAny (model X.prog X.w) X.A (eval e X.env) b (lE X pins D c) s
def c7.imp (h:c7 X hs o e t)(k:∀D U H,t' D U H->t D U H):c7 X hs o e t':=λa s U H D b I q c=>h a s U H D b I (k _ _ _ q) c
def EK
 (x:∀a b,¬X.xe a b)(C:∀{pins}{D}{U}{H1}{j s'}{L},Inv X pins U H1 j->zev X.prog X.w X.stack H1 j (ki X.K W ie th D U) L s'->lE X pins D hs L s')
 (F:bq X.prog X.w X.K X.mg X.base (zev X.prog X.w) k f fd ps sp)(O:aY k X.A)(G:Gl X fx)(P:X.mg fx=y0 (.ref f))
 (A:keepIn X.K (.ref f)=true)(M:Binds X.K fd ps [])(N:PA X (e::es) t)(l:(fx==("__debug__":Str))=false)(E:starEach (e::es) X.env=(false,eval e X.env)::starEach es X.env)(i:(backTo cp (starEach es X.env)).any (·.1)=false):
 c7 X hs o (.Call (.Name fx p) (e::es) [] cp) (KZ X.K W ie th sp t o):=by
 intro pins s U H D R I h K;refine wpAny_Call_Name_kw (Xs I G P ?_ l);refine callWith_K I.ok.mod.iw A (wpAny_mono (N cp pins s U H _ I h) ?_ λ_ _ z=>(x _ _ z).elim) E i;rintro g j⟨m,H1,c,r,q⟩;refine⟨c.bI,?_⟩;have J:(g++[]).length=ps.length:=by rw[Ac3,←r.length];exact F.len _ _ _ _ q
 refine wpAny_call (codeAny_mono (F.run X.A X.stack j H1 ⟨g,[]⟩ (g++[]) m _ _ O c.gF (M j g c.bI J) (by rw[Ac3];exact r) q) λres s' d=>?_);cases res with
|ok n=>
  cases n with
  |ret u=>obtain⟨y,Q,B,v,w⟩:=c.after d;exact K _ _ _ _ B v w
  |next=>exact False.elim d
  |brk=>exact False.elim d
  |cont=>exact False.elim d
|error L=>exact C c d
def Ht(h:c7 X hs u0 e t)(f:swapsWith e u0 ep.line X.env=pure y9):dA X hs [.Expr e ep] t:=λa s U H D j I q c=>
 wpAny_execs_cons (wpAny_Expr_any (h a s U H D _ I q λu i y g b k d=>wpAny_execs_nil (c _ _ _ b d)) I.quiet f)
def Fe(h:c7 X hs (y0 i) e t)(l:X.N.Nodup)(k:X.N[i]?=y0 gx)(b:X.env.scope.names.lookup gx=y0 .local)(m:swapsWith e (y0 (.Name gx gp)) aq.line X.env=pure y9):dA X hs [.Assign [.Name gx gp] e aq] t:=λa s U H D n I q g=>
 wpAny_execs_cons (wpAny_Assign_Name (h a s U H D _ I q λu p y r f c d=>jp f l k (.inl b) c (λo j=>wpAny_execs_nil (g _ _ _ j d)) (.inr b)) m)
def De(o:∀a b,¬X.xe a b)(m:PT X c tc)(h1:dA X hs a t)(v:dA X hs b u):dA X hs [.If c a b ip] (KP tc t u):=by
 intro e s U H D w I h j;refine wpAny_execs_cons (wpAny_If (wpAny_mono (m e s U H _ I h) ?_ λ_ _ z=>(o _ _ z).elim));rintro d l⟨g,i,k⟩;cases d with
|true=>exact h1 e l U g D _ i k λr p n f q=>wpAny_execs_nil (j _ _ _ f q)
|false=>exact v e l U g D _ i k λr p n f q=>wpAny_execs_nil (j _ _ _ f q)
def Dq(h1:dA X (d::hs) sts t):PS X (.Try sts (d::hs) [] [] pos) t:=by intro a s U H D I h;exact wpAny_Try_except (h1 a s U H D _ I h λf e c b q=>wpAny_execs_nil ⟨e,c,b,q⟩)
open PySem PySem.Spec PySem.Calls PySem.W PyProof.Rows Builtin
def ZH:fillsNumberSlot (.type "tuple") "mul"=pure false:=rfl
def HL:seqRepeat? (.type "tuple")=pure (some (.builtin "tuple.__mul__")):=rfl
def AG(a)(t)(l)(items)(n)(d)(sl):
 Meets (Builtin.«int.__rmul__» ⟨[.int a t,.ref l],[]⟩) (λ_ R s=>s.heap.get? l=y0 {cls:=.type "tuple",dict:=d,data:=.seq items n,slots:=sl}/\R (.ok (.ret Value.notImplemented)) s):=
 .of_wp λprog w A R s h=>by obtain⟨e,g,d,b,f⟩:=s;obtain⟨c,h⟩:=h;wp_walk;exact⟨_,rfl,h⟩
def MG(l)(items)(n)(d)(sl)(u):
 Meets (Builtin.«tuple.__mul__» ⟨[.ref l,.int 1 u],[]⟩) (λ_ R s=>s.heap.get? l=y0 {cls:=.type "tuple",dict:=d,data:=.seq items n,slots:=sl}/\R (.ok (.ret (.ref l))) s):=
 .of_wp λprog w A R s h=>by obtain⟨c,g,d,a,e⟩:=s;obtain⟨b,h⟩:=h;wp_walk;exact⟨_,rfl,h⟩
def Hd(l)(items)(n)(d)(sl)(x)(u:Tok)(h1:1<x)(y:x<1001)(a:items.isEmpty=y9)(t:items.size*x.toNat<=sizeLine)(i:List.foldl (λj L=>j++L) #[] (Aa1 x.toNat items)=ys)(r:ys.size<=sizeLine):
 Meets (Builtin.«tuple.__mul__» ⟨[.ref l,.int x u],[]⟩) (λ_ R s=>s.heap.get? l=y0 {cls:=.type "tuple",dict:=d,data:=.seq items n,slots:=sl}/\R (.ok (.ret (Value.ref s.heap.objs.size))) {s with heap:=s.heap.push {cls:=Value.type "tuple",data:=Data.seq ys},toks:=s.toks}):=
 .of_wp λprog w A R s h=>by
  obtain⟨q,g,d,o,v⟩:=s;obtain⟨p,h⟩:=h;have m:(u9 (x< -(2^63))||u9 (x>=2^63))=false:=by rw[Bool.or_eq_false_iff];constructor<;>(apply decide_eq_false;omega)
  have b:(items.isEmpty||x==1)=false:=by rw[a,Bool.false_or];apply beq_eq_false_iff_ne.mpr;omega
  have c:(u9 (x<=0)||items.isEmpty)=false:=by rw[a,Bool.or_false];apply decide_eq_false;omega
  have f:¬((items.size:Int)*x>(2^63-1)/8):=by
   have e:((items.size*x.toNat:Nat):Int)=(items.size:Int)*x:=by rw[Al6,Ai1 (by omega)]
   have:sizeLine<=(2^63-1)/8:=by decide
   omega
  have k:Tuple.tupleTooMany ((items.size:Int)*x)=false:=by
   unfold Tuple.tupleTooMany;have e:((items.size*x.toNat:Nat):Int)=(items.size:Int)*x:=by rw[Al6,Ai1 (by omega)]
   apply decide_eq_false;omega
  wp_walk
  rw[if_neg (by rw[m];exact Ab8)]
  wp_walk
  rw[if_neg (by rw[b];exact Ab8),if_neg (by rw[c];exact Ab8),if_neg f,if_neg (by rw[k];exact Ab8)];rw[i]
  wp_walk
  exact⟨_,rfl,h⟩
def MB(K:Frag):R2:=λx y H Q=>∃l k xs,x=.ref l/\y=.int k/\cz K H l xs/\xs≠[]/\1<=k/\k<1001/\xs.length*k.toNat<=sizeLine/\(k=1->Q (.ref l) H)/\(1<k->∀p,H p=u0->Q (.ref p) (aJ H p (.tup (Aa1 k.toNat xs).flatten)))
theorem rh(its):∀m (a:List Value),List.foldl (λj L=>j++L) a.toArray (Aa1 m its.toArray)=(a++(Aa1 m its).flatten).toArray
|0,a=>by simp
|m+1,a=>by rw[Ad9,Ah6,List.append_toArray,rh its m,Ad9,Ap,Ag7]
theorem X9(r:Vals xs us):∀m:Nat,Vals (Aa1 m xs).flatten (Aa1 m us).flatten
|0=>.nil
|m+1=>by exact r.append (X9 r m)
def KW:b7 X (binaryOp .Mult) (MB X.K):=by
 intro i s U H x y v u Q I C w h;obtain⟨l,k,o,rfl,rfl,L,E,N,M,g,F,z⟩:=h;cases C;obtain⟨t,rfl⟩:=w;obtain⟨a,r,J,_⟩:=I.tuple L;obtain⟨⟨B,dd,j,f⟩,d,p,n,K⟩:=id J;subst p K;have D:=r.length;refine wpAny_binaryOp_repeat_ref (by decide) ⟨_,d,rfl⟩ (λG=>typeIs_int G k t) ZH PySem.F.fills_int_mul PySem.F.slot_int_rmul HL PySem.F.slot_int_index.lookup
  (call_meets PySem.F.slot_int_rmul (typeIs_int s k t) PySem.F.entry_int_rmul (PySem.F.args_int_rmul_2 _ _) (AG k t l a.toArray n dd f) ⟨d,rfl,⟨_,d,rfl⟩,?_⟩)
 by_cases A:k=1
 .subst A;exact call_meets PySem.F.slot_tuple_mul ⟨_,d,rfl⟩ PySem.F.entry_tuple_mul (PySem.F.args_tuple_mul_2 _ _) (MG l a.toArray n dd f t) ⟨d,.ref l,H,I,rfl,F rfl⟩
 .have e:=rh a k.toNat [];rw[Ag1]at e;have m:=X9 r k.toNat;have c:(Aa1 k.toNat o).flatten.length=o.length*k.toNat:=by simp[Am]
  refine call_meets PySem.F.slot_tuple_mul ⟨_,d,rfl⟩ PySem.F.entry_tuple_mul (PySem.F.args_tuple_mul_2 _ _) (Hd l a.toArray n dd f k t (by omega) M ?_ (by rw[Ab2,←D];exact g) e (by rw[Ab2,←m.length,c];exact g)) ⟨d,?_⟩
  .cases a with
|nil=>exact absurd (r.dj.mp rfl) E
|cons _ _=>rfl
  .refine⟨.ref s.heap.objs.size,_,I.laid (λb O q=>Aa2 _ q) (Aa9 _) ?_,rfl,z (by omega) _ (I.aL.fresh (Aa9 _))⟩;exact⟨by rw[c];exact g,_,m,dz.new _ _⟩
section
variable{prog:Program}{w:World}{A:Around}{E:Value->Shared->Prop}{s:Shared}
def Xp{it l:Addr}{i:Nat}{items}{x:Value}{Q:Value->Shared->Prop}(a:s.heap.IsTupleIter it l i)(g:s.heap.IsTuple l items)(h:items[i]?=y0 x)
 (j:∀h',h'.IsTupleIter it l (i+1)->Ag6 it s.heap h'->Q x {s with heap:=h'}):wpAny (model prog w) A (Builtin.SmallTypes.nextOf (.ref it)) Q E s:=by
 obtain⟨o,c,f,b⟩:=id a;obtain⟨k,e,_,m,d⟩:=g;unfold Builtin.SmallTypes.nextOf;refine wpAny_bind (wpAny_callSpecial?_slot (name:=Str.ofString "__next__") a.typeIs PySem.F.slot_tuple_iterator_next
  (wpAny_call_entry PySem.F.slot_tuple_iterator_next a.typeIs PySem.F.entry_tuple_iterator_next ?_ (PySem.F.args_tuple_iterator_next_1 _)))
 show wpAny _ _ (field (.ref it) 0>>=_) _ _ s;refine wpAny_bind (wpAny_field c b (x:=.ref l) rfl ?_);show wpAny _ _ (if(Value.ref l==Value.none)=k9 then _ else _) _ _ s;rw[if_neg (show¬((Value.ref l==Value.none)=k9)from Ab8)];show wpAny _ _ (field (.ref it) 1>>=_) _ _ s;refine wpAny_bind (wpAny_field c b (x:=.int i 0) rfl ?_);show wpAny _ _ (seqItems? (.ref l)>>=_) _ _ s;refine wpAny_bind (wpAny_seqItems e d ?_);simp only[Ad,h];refine wpAny_bind (wpAny_setField c b (by simp) (wpAny_pure ⟨x,rfl,wpAny_pure (j _ ?_ (Ag6.update ..))⟩));exact⟨_,Ai3 _ c (Obj.isFreed_of_fields (Obj.data_mapFields b _)),(Obj.cls_mapFields ..).trans f,by rw[Obj.data_mapFields b];simp[rawInt]⟩
def QS{it l:Addr}{i:Nat}{items}{Q:Value->Shared->Prop}(h:A.handled=u0)(b:s.heap.IsTupleIter it l i)(k:s.heap.IsTuple l items)(n:items[i]?=u0)
 (j:∀h' e,Heap.ExtBut it s.heap h'->(∃o,h'.get? e=y0 o/\o.cls=.type "StopIteration")->E (.ref e) {s with heap:=h'}):wpAny (model prog w) A (Builtin.SmallTypes.nextOf (.ref it)) Q E s:=by
 obtain⟨o,d,p,g⟩:=id b;obtain⟨q,f,_,r,c⟩:=k;unfold Builtin.SmallTypes.nextOf;refine wpAny_bind (wpAny_callSpecial?_slot (name:=Str.ofString "__next__") b.typeIs PySem.F.slot_tuple_iterator_next
  (wpAny_call_entry PySem.F.slot_tuple_iterator_next b.typeIs PySem.F.entry_tuple_iterator_next ?_ (PySem.F.args_tuple_iterator_next_1 _)))
 show wpAny _ _ (field (.ref it) 0>>=_) _ _ s;refine wpAny_bind (wpAny_field d g (x:=.ref l) rfl ?_);show wpAny _ _ (if(Value.ref l==Value.none)=k9 then _ else _) _ _ s;rw[if_neg (show¬((Value.ref l==Value.none)=k9)from Ab8)];show wpAny _ _ (field (.ref it) 1>>=_) _ _ s;refine wpAny_bind (wpAny_field d g (x:=.int i 0) rfl ?_);show wpAny _ _ (seqItems? (.ref l)>>=_) _ _ s;refine wpAny_bind (wpAny_seqItems f c ?_);simp only[Ad,n];refine wpAny_bind (wpAny_rule (wpAny_bind (wpAny_setField d g (by simp) ?_)));show wpAny _ _ (newExc (.type "StopIteration") []>>=_) _ _ _;refine wpAny_bind ?_;simp only[newExc,newTuple];refine wpAny_bind (wpAny_newObj_type ?_ (by size_fits));refine wpAny_bind (m:=firstArgMember _ _) (wpAny_of_eq (a:=Value.none) (by first|rfl|(simp only[firstArgMember];rfl)) ?_);refine wpAny_newObj_type ?_ (by size_fits);simp only[raiseNew];refine wpAny_bind (wpAny_handled ?_)
 first|rw[show A.in1.handled=u0 from h]|rw[h]
 refine wpAny_bind (wpAny_pure (wpAny_throw ?_));exact j _ _ (((Ag6.update ..).extBut.push _).push _) ⟨_,Ac _ rfl,rfl⟩
def KL{a:Addr}{o:Obj}{Q:Option Obj->Shared->Prop}(h:s.heap.get? a=y0 o)(b:Q (y0 o) s):wpAny (model prog w) A (loadIfAlive a) Q E s:=by intro p c d;show PySem.Sem.wp _ _ (.loadIfAlive a .pure) _ _ _ _;rw[PySem.Sem.wp_loadIfAlive,h];exact b
abbrev nZ(h:Heap)(z TI TO:Addr)(a:Value)(b:Bool):Prop:=h.get? z=some {cls:=.type "zip",dict:=none,data:=.fields #[a,.bool b,.bool false,.ref TI,.ref TO],slots:=#[]}
structure lD(h:Heap)(z TI TO i1 i2 l1 l2:Addr)(xs ys:Array Value)(i:Nat)(f0:Value)(b:Bool):Prop where
 z:nZ h z TI TO f0 b
 ti:IsPair h TI (.ref i1) (.ref i2)
 to:∃a b,IsPair h TO a b
 i1:h.IsTupleIter i1 l1 i
 i2:h.IsTupleIter i2 l2 i
 l1:h.IsTuple l1 xs
 l2:h.IsTuple l2 ys
variable{z TI TO i1 i2 l1 l2:Addr}{xs ys:Array Value}{x y:Value}{i:Nat}
def sg{T:Nat}{g:Obj}{b:Bool}{Q:Bool->Shared->Prop}(a:nZ s.heap z TI TO (rawInt T) b)(f:s.heap.get? T=y0 g)(e:∀h',nZ h' z TI TO (rawInt T) k9->Ag6 z s.heap h'->Q y9 {s with heap:=h'}):
 wpAny (model prog w) A (Builtin.SmallTypes.ownedTupleIsFree (.ref z)) Q E s:=by
 unfold Builtin.SmallTypes.ownedTupleIsFree;refine wpAny_bind (wpAny_field a rfl (x:=rawInt T) rfl ?_);show wpAny _ _ (loadIfAlive (Int.toNat (T:Int))>>=_) _ _ _;rw[Ad];refine wpAny_bind (KL f ?_);rw[if_neg (by simp)];refine wpAny_bind (wpAny_field a rfl (x:=.bool b) rfl ?_);cases b with
|false=>dsimp only;rw[if_pos (by decide)];exact wpAny_bind (wpAny_setField_rec a (by simp) λh' d c=>wpAny_pure (e h' d c))
|true=>dsimp only;rw[if_neg (by decide)];exact wpAny_pure (e s.heap a (Ag6.refl ..))
def FR{T:Nat}{M:Obj}{b:Bool}{Q:Value->Shared->Prop}(D:ZipApart z TI TO i1 i2 l1 l2)(r:T≠z)(F:T≠i1)(B:T≠i2)(L:s.heap.get? T=y0 M)(st:lD s.heap z TI TO i1 i2 l1 l2 xs ys i (rawInt T) b)(P:xs[i]?=y0 x)(N:ys[i]?=y0 y)
 (R:∀h',lD h' z TI TO i1 i2 l1 l2 xs ys (i+1) (rawInt T) k9->h'.get? T=y0 M->IsPair h' s.heap.objs.size x y->(∀c o,c≠z->c≠TO->c≠i1->c≠i2->s.heap.get? c=y0 o->h'.get? c=y0 o)->Q (.ref s.heap.objs.size) {s with heap:=h'}):
 wpAny (model prog w) A (Builtin.«zip.__next__» ⟨[.ref z],[]⟩) (λfin s'=>∃v,fin=.done (.ret v)/\Q v s') E s:=by
 obtain⟨H,p,⟨a,S,C⟩,O,U,n,q⟩:=st;show wpAny _ _ (field (.ref z) 2>>=_) _ _ _;refine wpAny_bind (wpAny_field H rfl (x:=.bool y9) rfl ?_);show wpAny _ _ (field (.ref z) 3>>=_) _ _ _;refine wpAny_bind (wpAny_field H rfl (x:=.ref TI) rfl ?_);refine wpAny_bind (wpAny_seqItems p rfl ?_);show wpAny _ _ (Builtin.SmallTypes.ownedTupleIsFree (.ref z)>>=_) _ _ _;refine wpAny_bind ?_;refine sg H L λJ k d=>?_;rw[if_neg Ab8];refine wpAny_bind ?_;simp only[←Array.forIn_toList,An,An8];refine wpAny_bind (wpAny_bind (wpAny_holding ?_));show wpAny _ _ (Builtin.SmallTypes.nextOf (.ref i1)>>=_) _ _ _;refine wpAny_bind (Xp (O.extBut d.extBut D.i1z) (n.extBut d.extBut D.l1z) P λI l f=>wpAny_pure ?_);refine wpAny_pure ?_;dsimp only;refine wpAny_bind (wpAny_bind (wpAny_holding ?_));show wpAny _ _ (Builtin.SmallTypes.nextOf (.ref i2)>>=_) _ _ _;refine wpAny_bind (Xp ((U.extBut d.extBut D.i2z).extBut f.extBut D.i12.symm) ((q.extBut d.extBut D.l2z).extBut f.extBut D.l2i1) N λh j g=>wpAny_pure ?_);refine wpAny_pure (wpAny_pure ?_);dsimp only;refine wpAny_bind (wpAny_newTuple (hsz:=by rw[sizeLine_eq];simp) ?_);have m:h.objs.size=s.heap.objs.size:=by rw[g.1,f.1,d.1]
 have up:∀c o,c≠z->c≠i1->c≠i2->s.heap.get? c=some o->(h.push {cls:=.type "tuple",data:=.seq #[x,y]}).get? c=some o:=fun c o G t u e=>Heap.get?_push_of_some _ (g.extBut _ _ u (f.extBut _ _ t (d.extBut _ _ G e)));refine wpAny_pure ⟨_,rfl,?_⟩;show Q (.ref h.objs.size) _;have K:IsPair (h.push {cls:=.type "tuple",data:=.seq #[x,y]}) h.objs.size x y:=Heap.get?_push_size _ rfl;rw[m]at K⊢;exact R _ ⟨Aa2 _ (g.extBut _ _ D.i2z.symm (f.extBut _ _ D.i1z.symm k)),up _ _ D.TIz D.TIi1 D.TIi2 p,⟨a,S,up _ _ D.TOz D.TOi1 D.TOi2 C⟩,(l.extBut g.extBut D.i12).at λo e=>Aa2 _ e,j.at λo e=>Aa2 _ e,
  (((n.extBut d.extBut D.l1z).extBut f.extBut D.l1i1).extBut g.extBut D.l1i2).push _,(((q.extBut d.extBut D.l2z).extBut f.extBut D.l2i1).extBut g.extBut D.l2i2).push _⟩ (up _ _ r F B L) K λc o G _ t u e=>up c o G t u e
def Aw{Q:Value->Shared->Prop}(D:ZipApart z TI TO i1 i2 l1 l2)(st:lD s.heap z TI TO i1 i2 l1 l2 xs ys i .none y9)(hx:xs[i]?=y0 x)(hy:ys[i]?=y0 y)
 (hQ:∀h',lD h' z TI TO i1 i2 l1 l2 xs ys (i+1) (rawInt s.heap.objs.size) y9->IsPair h' s.heap.objs.size x y->(∀c o,c≠z->c≠TO->c≠i1->c≠i2->s.heap.get? c=y0 o->h'.get? c=y0 o)->Q (.ref s.heap.objs.size) {s with heap:=h'}):
 wpAny (model prog w) A (Builtin.«zip.__next__» ⟨[.ref z],[]⟩) (λfin s'=>∃v,fin=.done (.ret v)/\Q v s') E s:=by
 obtain⟨Z,U,⟨a,b,hTO⟩,h1,h2,T,Y⟩:=st;show wpAny _ _ (field (.ref z) 2>>=_) _ _ _;refine wpAny_bind (wpAny_field Z rfl (x:=.bool y9) rfl ?_);show wpAny _ _ (field (.ref z) 3>>=_) _ _ _;refine wpAny_bind (wpAny_field Z rfl (x:=.ref TI) rfl ?_);refine wpAny_bind (wpAny_seqItems U rfl ?_);show wpAny _ _ (Builtin.SmallTypes.ownedTupleIsFree (.ref z)>>=_) _ _ _;refine wpAny_bind ?_;unfold Builtin.SmallTypes.ownedTupleIsFree;refine wpAny_bind (wpAny_field Z rfl (x:=.none) rfl (wpAny_pure ?_));simp only[if_true];refine wpAny_bind (wpAny_rule ?_);refine wpAny_bind (wpAny_field Z rfl (x:=.ref TO) rfl ?_);refine wpAny_bind (wpAny_setField_rec Z (by simp) λW t f=>?_);replace t:IsZip W z TI TO .ellipsis:=t;refine wpAny_bind ?_;simp only[List.zipIdx_cons,List.zipIdx_nil,An,An8];refine wpAny_bind (wpAny_bind (wpAny_onRaise ?_));show wpAny _ _ (Builtin.SmallTypes.nextOf (.ref i1)>>=_) _ _ _;refine wpAny_bind (Xp (h1.extBut f.extBut D.i1z) (T.extBut f.extBut D.l1z) hx λR O g=>wpAny_pure ?_);have u:IsPair R TO a b:=g.extBut _ _ D.TOi1 (f.extBut _ _ D.TOz hTO);refine wpAny_bind (wpAny_seqItems u rfl ?_);refine wpAny_bind (wpAny_updateSeq_pair u λX m h=>?_);replace m:IsPair X TO x b:=m;refine wpAny_bind (wpAny_letGo (wpAny_pure ?_));refine wpAny_bind (wpAny_bind (wpAny_onRaise ?_));show wpAny _ _ (Builtin.SmallTypes.nextOf (.ref i2)>>=_) _ _ _;refine wpAny_bind (Xp (((h2.extBut f.extBut D.i2z).extBut g.extBut D.i12.symm).extBut h.extBut D.TOi2.symm)
  (((Y.extBut f.extBut D.l2z).extBut g.extBut D.l2i1).extBut h.extBut D.l2TO) hy λV M l=>wpAny_pure ?_)
 have B:IsPair V TO x b:=l.extBut _ _ D.TOi2 m;refine wpAny_bind (wpAny_seqItems B rfl ?_);refine wpAny_bind (wpAny_updateSeq_pair B λd j k=>?_);replace j:IsPair d TO x y:=j;refine wpAny_bind (wpAny_letGo (wpAny_pure (wpAny_pure ?_)));refine wpAny_bind (wpAny_seqItems j rfl ?_);refine wpAny_bind (wpAny_newTuple ?_);have S:d.objs.size=s.heap.objs.size:=by rw[k.1,l.1,h.1,g.1,f.1]
 have F:IsZip d z TI TO .ellipsis:=k.extBut _ _ D.TOz.symm (l.extBut _ _ D.i2z.symm (h.extBut _ _ D.TOz.symm (g.extBut _ _ D.i1z.symm t)));have n:∀c o,c≠z->c≠TO->c≠i1->c≠i2->s.heap.get? c=y0 o->d.get? c=y0 o:=λc o P c2 c3 c4 e=>
  k.extBut _ _ c2 (l.extBut _ _ c4 (h.extBut _ _ c2 (g.extBut _ _ c3 (f.extBut _ _ P e))))
 have K:d.IsTupleIter i1 l1 (i+1):=((O.extBut h.extBut D.TOi1.symm).extBut l.extBut D.i12).extBut k.extBut D.TOi1.symm;have N:d.IsTupleIter i2 l2 (i+1):=M.extBut k.extBut D.TOi2.symm;have J:z<d.objs.size:=Ab5 F;show wpAny _ _ (Builtin.SmallTypes.ownedTupleHandOut (.ref z) (.ref d.objs.size)>>=_) _ _ _;refine wpAny_bind ?_;unfold Builtin.SmallTypes.ownedTupleHandOut;have L:IsZip (d.push {cls:=.type "tuple",data:=.seq #[x,y]}) z TI TO .ellipsis:=Heap.get?_push_of_some _ F;refine wpAny_bind (wpAny_setField_rec L (by simp) λh₇ q H=>?_);replace q:IsZip h₇ z TI TO (rawInt d.objs.size):=q;refine wpAny_setField_rec q (by simp) λC p I=>?_;replace p:IsZip C z TI TO (rawInt d.objs.size):=p;have up:∀c o,c≠z->d.get? c=y0 o->C.get? c=y0 o:=λc o P e=>I.extBut _ _ P (H.extBut _ _ P (Aa2 _ e));have G:IsPair C d.objs.size x y:=I.extBut _ _ (Aj1 J) (H.extBut _ _ (Aj1 J) (Ac _ rfl));rw[S]at p G;refine wpAny_pure ⟨_,rfl,?_⟩;show Q (.ref d.objs.size) _;rw[S];exact hQ C ⟨p,up _ _ D.TIz (n _ _ D.TIz D.TITO D.TIi1 D.TIi2 U),⟨_,_,up _ _ D.TOz j⟩,K.at λo e=>up _ o D.i1z e,N.at λo e=>up _ o D.i2z e,
  let⟨o,e,r⟩:=T;⟨o,up _ _ D.l1z (n _ _ D.l1z D.l1TO D.l1i1 D.l1i2 e),r⟩,let⟨o,e,r⟩:=Y;⟨o,up _ _ D.l2z (n _ _ D.l2z D.l2TO D.l2i1 D.l2i2 e),r⟩⟩ G λc o P c2 c3 c4 e=>up c o P (n c o P c2 c3 c4 e)
def HG{F:Value}{b:Bool}{Q:Fin->Shared->Prop}(K:A.handled=u0)(D:ZipApart z TI TO i1 i2 l1 l2)(st:lD s.heap z TI TO i1 i2 l1 l2 xs ys i F b)(M:(F=.none/\b=y9)\/∃(T:Nat)(o:Obj),F=rawInt T/\s.heap.get? T=y0 o)(L:xs[i]?=u0)
 (I:∀h' e,(∀c o,c≠z->c≠TO->c≠i1->c≠i2->s.heap.get? c=y0 o->h'.get? c=y0 o)->(∃o,h'.get? e=y0 o/\o.cls=.type "StopIteration")->E (.ref e) {s with heap:=h'}):
 wpAny (model prog w) A (Builtin.«zip.__next__» ⟨[.ref z],[]⟩) Q E s:=by
 obtain⟨n,y,⟨a,U,O⟩,J,V,p,P⟩:=st;show wpAny _ _ (field (.ref z) 2>>=_) _ _ _;refine wpAny_bind (wpAny_field n rfl (x:=.bool y9) rfl ?_);show wpAny _ _ (field (.ref z) 3>>=_) _ _ _;refine wpAny_bind (wpAny_field n rfl (x:=.ref TI) rfl ?_);refine wpAny_bind (wpAny_seqItems y rfl ?_);show wpAny _ _ (Builtin.SmallTypes.ownedTupleIsFree (.ref z)>>=_) _ _ _;refine wpAny_bind ?_;rcases M with⟨rfl,rfl⟩|⟨T,S,rfl,N⟩
 .unfold Builtin.SmallTypes.ownedTupleIsFree;refine wpAny_bind (wpAny_field n rfl (x:=.none) rfl (wpAny_pure ?_));simp only[if_true];refine wpAny_bind (wpAny_rule ?_);refine wpAny_bind (wpAny_field n rfl (x:=.ref TO) rfl ?_);refine wpAny_bind (wpAny_setField_rec n (by simp) λq h g=>?_);replace h:IsZip q z TI TO .ellipsis:=h;refine wpAny_bind ?_;simp only[List.zipIdx_cons,List.zipIdx_nil,An,An8];refine wpAny_bind (wpAny_bind (wpAny_onRaise ?_));show wpAny _ _ (Builtin.SmallTypes.nextOf (.ref i1)>>=_) _ _ _;refine wpAny_bind (QS K (J.extBut g.extBut D.i1z) (p.extBut g.extBut D.l1z) L λj e d B=>?_);obtain⟨R,m,r⟩:=B;have k:IsZip j z TI TO .ellipsis:=d _ _ D.i1z.symm h;have v:e≠z:=λx=>by subst x;rw[k]at m;cases m;simp at r
  refine wpAny_setField_rec k (by simp) λt _ l=>I t e (λc o u _ C _ x=>l.extBut _ _ u (d _ _ C (g.extBut _ _ u x))) ⟨R,l.extBut _ _ v m,r⟩
 .refine sg n N λH G f=>?_;rw[if_neg Ab8];refine wpAny_bind ?_;simp only[←Array.forIn_toList,An,An8];refine wpAny_bind (wpAny_bind (wpAny_holding ?_));show wpAny _ _ (Builtin.SmallTypes.nextOf (.ref i1)>>=_) _ _ _;refine wpAny_bind (QS K (J.extBut f.extBut D.i1z) (p.extBut f.extBut D.l1z) L λj e d B=>?_);exact I j e (λc o u _ C _ x=>d _ _ C (f.extBut _ _ u x)) B
def ir(d:Addr)(h:Heap)(z TI TO i1 i2 c l2:Addr)(xs ys:Array Value)(i:Nat):Prop:=∃a b,lD h z TI TO i1 i2 c l2 xs ys i a b/\((a=.none/\b=y9)\/∃(T:Nat)(o:Obj),a=rawInt T/\h.get? T=y0 o/\T≠z/\T≠TO/\T≠i1/\T≠i2/\T≠d)
def ir.keep {d:Addr}{h h':Heap}(st:ir d h z TI TO i1 i2 l1 l2 xs ys i)(k:∀c o,c≠d->h.get? c=y0 o->h'.get? c=y0 o)(E:z≠d)(y:TI≠d)(u:TO≠d)(v:i1≠d)(w:i2≠d)(D:l1≠d)(t:l2≠d):ir d h' z TI TO i1 i2 l1 l2 xs ys i:=by
 obtain⟨x,b,⟨G,f,⟨n,tb,g⟩,A,H,a,j⟩,m⟩:=st;exact⟨x,b,⟨k _ _ E G,k _ _ y f,⟨n,tb,k _ _ u g⟩,A.at λo e=>k _ o v e,H.at λo e=>k _ o w e,let⟨o,e,r⟩:=a;⟨o,k _ _ D e,r⟩,let⟨o,e,r⟩:=j;⟨o,k _ _ t e,r⟩⟩,
  m.imp id (by rintro⟨T,o,F,p,B,s,C,q,l⟩;exact⟨T,o,F,k _ _ l p,B,s,C,q,l⟩)⟩
def Iq{d:Addr}{t:Obj}{Q:Option Value->Shared->Prop}(q:s.heap.get? d=y0 t)(D:ZipApart z TI TO i1 i2 l1 l2)(st:ir d s.heap z TI TO i1 i2 l1 l2 xs ys i)(j:xs[i]?=y0 x)(g:ys[i]?=y0 y)
 (k:∀h',ir d h' z TI TO i1 i2 l1 l2 xs ys (i+1)->IsPair h' s.heap.objs.size x y->(∀c o,c≠z->c≠TO->c≠i1->c≠i2->s.heap.get? c=y0 o->h'.get? c=y0 o)->Q (y0 (.ref s.heap.objs.size)) {s with heap:=h'}):
 wpAny (model prog w) A (pyNext (.ref z)) Q E s:=by
 obtain⟨G,b,st,p⟩:=st;have h:s.TypeIs (.ref z) "zip":=⟨_,st.z,rfl⟩;have lt:∀{c o},s.heap.get? c=y0 o->s.heap.objs.size≠c:=λe=>Aj1 (Ab5 e);obtain⟨F,tb,f⟩:=st.to;unfold pyNext;refine wpAny_bind (wpAny_attempt (wpAny_callSpecial?_slot (name:=Str.ofString "__next__") h PySem.F.slot_zip_next (wpAny_call_entry PySem.F.slot_zip_next h PySem.F.entry_zip_next ?_ (PySem.F.args_zip_next_1 _))));rcases p with⟨rfl,rfl⟩|⟨T,v,rfl,u,m,r,n,l,B⟩
 .exact Aw D st j g λh' a a2 a3=>wpAny_pure (k h' ⟨_,_,a,.inr ⟨_,_,rfl,a2,lt st.z,lt f,(by obtain⟨_,e,_⟩:=st.i1;exact lt e),(by obtain⟨_,e,_⟩:=st.i2;exact lt e),lt q⟩⟩ a2 a3)
 .exact FR D m n l u st j g λh' a C a2 a3=>wpAny_pure (k h' ⟨_,_,a,.inr ⟨T,v,rfl,C,m,r,n,l,B⟩⟩ a2 a3)
def Nk{d:Addr}{Q:Option Value->Shared->Prop}(l:A.handled=u0)(D:ZipApart z TI TO i1 i2 l1 l2)(st:ir d s.heap z TI TO i1 i2 l1 l2 xs ys i)(m:xs[i]?=u0)
 (n:∀h',(∀c o,c≠z->c≠TO->c≠i1->c≠i2->s.heap.get? c=y0 o->h'.get? c=y0 o)->Q u0 {s with heap:=h'}):wpAny (model prog w) A (pyNext (.ref z)) Q E s:=by
 obtain⟨p,b,st,f⟩:=st;have a:s.TypeIs (.ref z) "zip":=⟨_,st.z,rfl⟩;unfold pyNext;refine wpAny_bind (wpAny_attempt (wpAny_callSpecial?_slot (name:=Str.ofString "__next__") a PySem.F.slot_zip_next
  (wpAny_call_entry PySem.F.slot_zip_next a PySem.F.entry_zip_next (HG l D st (f.imp id (by rintro⟨T,o,e1,e2,_⟩;exact⟨T,o,e1,e2⟩)) m λh' e h k=>?_) (PySem.F.args_zip_next_1 _))))
 obtain⟨o,j,g⟩:=k;refine wpAny_bind (wpAny_isInstance (T:="StopIteration") (b:=true) ⟨o,j,g⟩ isSubtype_stop ?_);exact wpAny_pure (n _ h)
end
def CA:typeLookup (.type "zip") "__getattr__"=pure none:=by rw[typeLookup_type,builtinLookup_eq_fast];kernel_rfl
def Mo:typeLookup (.type "zip") "keys"=pure none:=by rw[typeLookup_type,builtinLookup_eq_fast];kernel_rfl
def Hq:entryFor table "zip.__getattribute__"=some Builtin.«object.__getattribute__»:=
 entryFor_alias (id':="object.__getattribute__") (by kernel_rfl) (by decide+kernel) (by decide+kernel) (by kernel_rfl)
def Lu(a:Addr)(vs:Array Value)(u:Tok):
 Meets (Builtin.«object.__getattribute__» ⟨[.ref a,.str "keys" u],[]⟩) (fun A R s=>s.heap.get? a=some {cls:=.type "zip",dict:=none,data:=.fields vs,slots:=#[]}/\raisesAttr (.ref a) "keys" A R s):=
 Meets.of_wp λprog w A R s b=>by
  obtain⟨h,g,d,e,i⟩:=s;obtain⟨f,b⟩:=b;have j:(⟨h,g,d,e,i⟩:Shared).TypeIs (.ref a) "zip":=⟨_,f,rfl⟩;have c:=Mo;unfold Builtin.«object.__getattribute__»
  repeat (any_goals (first|assumption|wp_step))
  repeat (any_goals (first|assumption|wp_step))
  exact wpAny_raiseAttrError b.1 b.2 (attrMsg_fits (by decide+kernel) (by size_fits))
section
variable{prog:Program}{w:World}{A:Around}{E:Value->Shared->Prop}{s:Shared}{z TI TO i1 i2 l1 l2:Addr}{xs ys:Array Value}{x y:Value}{i:Nat}
def FN{vs:Array Value}{Q:Option Value->Shared->Prop}(l:s.heap.get? z=some {cls:=.type "zip",dict:=none,data:=.fields vs,slots:=#[]})(p:A.handled=none)
 (h:∀h' tk,(∀b o,s.heap.get? b=y0 o->h'.get? b=y0 o)->Q u0 {s with heap:=h',toks:=tk}):wpAny (model prog w) A (getAttr? (.ref z) "keys") Q E s:=by
 obtain⟨m,g,d,tk,n⟩:=s;have k:∀f,(⟨m,g,d,f,n⟩:Shared).TypeIs (.ref z) "zip":=fun _=>⟨_,l,rfl⟩;have x:=sub_AttributeError;have u:=PySem.F.slot_zip_getattribute.lookup;have y:=PySem.F.slot_zip_getattribute.bind (.ref z);have q:=CA;unfold getAttr? getAttrBy? getAttrBy
 repeat (any_goals (first|assumption|exact k _|((with_reducible show wpAny _ _ (call (Value.builtin "zip.__getattribute__") _ _) _ _ _);refine call_meets PySem.F.slot_zip_getattribute (k _) Hq (PySem.F.args_zip_getattribute_2 _ _) (Lu z vs _) ⟨l,p,fun h' f e i=>?_⟩)|wp_step))
 obtain⟨t,v,r⟩:=i.there;show wpAny _ _ (getattributeRaised _ _ _ _ _ _ _) _ _ _;unfold getattributeRaised
 repeat (any_goals (first|assumption|wp_step))
 exact h _ _ i.of.keeps
abbrev ng(h:Heap)(a:Addr):Heap:=h.push {cls:=.type "tuple_iterator",data:=.fields #[.ref a,.int 0 0]}
noncomputable abbrev nD(h:Heap)(a l2:Addr):Heap:=(ng h a).push {cls:=.type "tuple_iterator",data:=.fields #[.ref l2,.int 0 0]}
abbrev n5(h:Heap)(a l2:Addr):Heap:=(nD h a l2).push {cls:=.type "tuple",data:=.seq #[.ref h.objs.size,.ref (ng h a).objs.size]}
abbrev nL(h:Heap)(a l2:Addr):Heap:=(n5 h a l2).push {cls:=.type "tuple",data:=.seq #[.none,.none]}
abbrev iG(h:Heap)(a l2:Addr):Heap:=(nL h a l2).push {cls:=.type "zip",data:=.fields #[.none,.bool false,.bool false,.ref (nD h a l2).objs.size,.ref (n5 h a l2).objs.size]}
def FT(a l2:Addr)(xs ys:Array Value):
 Meets (Builtin.«zip.__new__» ⟨[.type "zip",.ref a,.ref l2],[]⟩) (fun _ R s=>s.heap.IsTuple a xs/\s.heap.IsTuple l2 ys/\R (.ok (.ret (.ref (nL s.heap a l2).objs.size))) {s with heap:=iG s.heap a l2}):=
 .of_wp λprog w A R s h=>by
  obtain⟨k,g,d,j,l⟩:=s;obtain⟨c,f,h⟩:=h;have i:=sub_zip;have b:Heap.IsTuple (Shared.heap ⟨k,g,d,j,l⟩) a xs:=c;have e:Heap.IsTuple (Shared.heap ⟨k.push {cls:=.type "tuple_iterator",data:=.fields #[.ref a,.int 0 0]},g,d,j,l⟩) l2 ys:=Heap.IsTuple.push f _
  wp_walk using wpAny_pyIter_tuple b,wpAny_pyIter_tuple e
  exact⟨_,rfl,h⟩
def MW{n a l2:Nat}(h1:a<n)(b:l2<n):ZipApart (n+4) (n+2) (n+3) n (n+1) a l2:=by constructor<;>(show(_:Nat)≠(_:Nat);omega)
def B3{Q:Value->Shared->Prop}(a:s.heap.IsTuple l1 xs)(b:s.heap.IsTuple l2 ys)
 (h:∀h',(∀d,ir d h' (s.heap.objs.size+4) (s.heap.objs.size+2) (s.heap.objs.size+3) s.heap.objs.size (s.heap.objs.size+1) l1 l2 xs ys 0)->h'.objs.size=s.heap.objs.size+5->(∀c o,s.heap.get? c=y0 o->h'.get? c=y0 o)->Q (.ref (s.heap.objs.size+4)) {s with heap:=h'}):
 wpAny (model prog w) A (call (.type "zip") [.ref l1,.ref l2]) Q E s:=by
 refine callType_new PySem.F.called_zip (by decide) (PySem.F.typeCall_zip_2 _ _) (PySem.F.newCall_zip_2 _ _) (λobj=>PySem.F.args_object_init_3 obj _ _) PySem.F.entry_zip_new (FT l1 l2 xs ys) ⟨a,b,?_⟩;have j:(ng s.heap l1).objs.size=s.heap.objs.size+1:=Af2 ..;have g:(nD s.heap l1 l2).objs.size=s.heap.objs.size+2:=by rw[Af2,j]
 have k:(n5 s.heap l1 l2).objs.size=s.heap.objs.size+3:=by rw[Af2,g]
 have i:(nL s.heap l1 l2).objs.size=s.heap.objs.size+4:=by rw[Af2,k]
 have p:(iG s.heap l1 l2).objs.size=s.heap.objs.size+5:=by rw[Af2,i]
 have f:(iG s.heap l1 l2).get? (nL s.heap l1 l2).objs.size=y0 _:=Ac _ rfl;have m:(iG s.heap l1 l2).get? (n5 s.heap l1 l2).objs.size=y0 _:=Aa2 _ (Ac _ rfl);have n:(iG s.heap l1 l2).get? (nD s.heap l1 l2).objs.size=y0 _:=Aa2 _ (Aa2 _ (Ac _ rfl));have l:(iG s.heap l1 l2).get? (ng s.heap l1).objs.size=y0 _:=Aa2 _ (Aa2 _ (Aa2 _ (Ac _ rfl)));have q:(iG s.heap l1 l2).get? s.heap.objs.size=y0 _:=Aa2 _ (Aa2 _ (Aa2 _ (Aa2 _ (Ac _ rfl))));show _/\_;rw[g,k,i]at f;rw[j,g]at n;rw[k]at m;rw[j]at l;rw[i];have up:∀c o,s.heap.get? c=y0 o->(iG s.heap l1 l2).get? c=y0 o:=λc o x=>Aa2 _ (Aa2 _ (Aa2 _ (Aa2 _ (Aa2 _ x))));exact⟨⟨_,f,rfl⟩,h _ (λ_=>⟨.none,y9,⟨f,n,⟨_,_,m⟩,⟨_,q,rfl,rfl⟩,⟨_,l,rfl,rfl⟩,let⟨o,e,r⟩:=a;⟨o,up _ _ e,r⟩,let⟨o,e,r⟩:=b;⟨o,up _ _ e,r⟩⟩,.inl ⟨rfl,rfl⟩⟩) p up⟩
def uT:entryFor table "dict.update.loop"=some Builtin.«dict.update.loop»:=entryFor_of_tree (by kernel_rfl)
def jA:plainId "dict.update.loop"=true:=by decide+kernel
abbrev Ps:=List ((Str×Tok)×Value)
def pX(ps:Ps):Array Value:=(ps.map λp=>Value.str p.1.1 p.1.2).toArray
def pY(ps:Ps):Array Value:=(ps.map (·.2)).toArray
def oX(kvs:List (cN×Value))(ps:Ps):List (cN×Value):=ps.foldl (λk p=>stored k (.inr p.1.1) p.2) kvs
def Bb{K:Type}[DecidableEq K](kvs:List (K×Value))(k:K)(v:Value):(stored kvs k v).length<=kvs.length+1:=by
 unfold stored;split
 .rw[Aa];omega
 .simp
theorem vY{d:Addr}{ps:Ps}(M:A.handled=u0)(D:ZipApart z TI TO i1 i2 l1 l2)(l:d≠z)(k:d≠TO)(n:d≠i1)(m:d≠i2)(L:d≠TI)(K:d≠l1)(O:d≠l2):∀(rest:Ps)(i:Nat)(kvs:List (cN×Value))(s:Shared)(R:Result->Shared->Prop),ps.drop i=rest->ir d s.heap z TI TO i1 i2 l1 l2 (pX ps) (pY ps) i->s.heap.DictOf (xl prog w) d kvs->kvs.length+rest.length<=sizeLine→
 (∀h' tk,h'.DictOf (xl prog w) d (oX kvs rest)->(∀c o,c≠d->c≠z->c≠TO->c≠i1->c≠i2->s.heap.get? c=y0 o->h'.get? c=y0 o)->R (.ok (.ret .none)) {s with heap:=h',toks:=tk})→
 codeAny (model prog w) A (.builtin "dict.update.loop" ⟨[.ref d,.ref z,rawInt i,.none],[]⟩) R s
|[],i,kvs,s,R,r,F,u,x,C=>by
  refine codeAny_builtin uT ?_;rw[Around.under_plainId jA _];show wpAny _ A.in1 (pyNext (.ref z)>>=_) _ _ s;have H:(pX ps)[i]?=none:=by have:ps.length<=i:=List.drop_eq_nil_iff.mp r;unfold pX;simp[this]
  refine wpAny_bind (Nk M D F H λh' a=>?_);show wpAny _ A.in1 (ret Value.none) _ _ _;exact wpAny_pure (C h' s.toks (u.at λo e=>a d o l k n m e) λc o B t g h j e=>a c o t g h j e)
|p::rest,i,kvs,s,R,r,F,u,x,C=>by
  refine codeAny_builtin uT ?_;rw[Around.under_plainId jA _];show wpAny _ A.in1 (pyNext (.ref z)>>=_) _ _ s;have N:ps[i]?=y0 p:=by have:=congrArg (·[0]?) r;simpa using this
  have I:ps.drop (i+1)=rest:=by have:=congrArg List.tail r;simpa using this
  have H:(pX ps)[i]?=y0 (.str p.1.1 p.1.2):=by unfold pX;simp[N]
  have T:(pY ps)[i]?=y0 p.2:=by unfold pY;simp[N]
  obtain⟨X,Q⟩:∃o,s.heap.get? d=y0 o:=let⟨q,_,_,V,_⟩:=u;⟨q,V⟩;refine wpAny_bind (Iq Q D F H T λh' E b a=>?_);have G:h'.DictOf (xl prog w) d kvs:=u.at λo e=>a d o l k n m e;have U:({s with heap:=h'}:Shared).TypeIs (.ref s.heap.objs.size) "tuple":=⟨_,b,rfl⟩;refine wpAny_bind (wpAny_holding (wpAny_bind (wpAny_tryCatch ?_)));unfold Builtin.Dict.pairItems;refine wpAny_bind (wpAny_typeOf U ?_);rw[if_pos (by decide)];refine wpAny_bind (wpAny_seqItems b rfl (wpAny_pure ?_));show wpAny _ A.in1 (holding [Value.str p.1.1 p.1.2,p.2] (dictSet d (Value.str p.1.1 p.1.2) p.2)) _ _ _;refine wpAny_holding (wpAny_dictSet_pairs (hsz:=by simp at x;omega) (Zn _ _ p.1.1 p.1.2) G λW v f=>?_);refine wpAny_pure ⟨plainId_quiet jA _,?_⟩;have:=vY M D l k n m L K O rest (i+1) (stored kvs (.inr p.1.1) p.2) {s with heap:=W,toks:=s.toks+1} R I (E.keep (λc o P e=>f.extBut _ _ P e) l.symm L.symm k.symm n.symm m.symm K.symm O.symm) v
   (by have:=Bb kvs (.inr p.1.1) p.2;simp at x;omega) λS tk y J=>C S tk y λc o B t g h j e=>J c o B t g h j (f.extBut _ _ B (a c o t g h j e))
  exact this
def Nv{c:Value}{b:Bool}{Q:Value->Shared->Prop}(d:nZ s.heap z TI TO c b)(h:Q (.ref z) s):wpAny (model prog w) A (pyIter (.ref z)) Q E s:=by have a:s.TypeIs (.ref z) "zip":=⟨_,d,rfl⟩;refine wpAny_pyIter_slot a PySem.F.slot_zip_iter (wpAny_call_entry PySem.F.slot_zip_iter a PySem.F.entry_zip_iter ?_ (PySem.F.args_zip_iter_1 _));show wpAny _ _ (ret (.ref z)) _ _ s;exact wpAny_pure ⟨_,rfl,"zip",_,a,PySem.F.slot_zip_next.lookup,h⟩
def LZ{ps:Ps}{Q:Value->Shared->Prop}(t:A.handled=u0)(D:ZipApart z TI TO i1 i2 l1 l2)(st:∀d,ir d s.heap z TI TO i1 i2 l1 l2 (pX ps) (pY ps) 0)(x:ps.length<=sizeLine)
 (h:∀h' tk,h'.DictOf (xl prog w) s.heap.objs.size (oX [] ps)->(∀c o,c≠z->c≠TO->c≠i1->c≠i2->s.heap.get? c=y0 o->h'.get? c=y0 o)->Q (.ref s.heap.objs.size) {s with heap:=h',toks:=tk}):
 wpAny (model prog w) A (call (.type "dict") [.ref z]) Q E s:=by
 refine callType_codes (Q₁:=λobj g=>obj=.ref s.heap.objs.size/\g={s with heap:=s.heap.push {cls:=.type "dict",data:=.dict #[]}}) PySem.F.kt_called_dict (PySem.F.kt_typeCall_dict_1 _) PySem.F.entry_dict_init (kt_code_dict_new _ ⟨rfl,rfl⟩) ?_;rintro obj g ⟨rfl,rfl⟩;have f:(s.heap.push {cls:=.type "dict",data:=.dict #[]}).DictOf (xl prog w) s.heap.objs.size []:=Heap.DictOf.new s.heap;obtain⟨J,b,a,H⟩:=id (st s.heap.objs.size);have lt:∀{c o},s.heap.get? c=y0 o->s.heap.objs.size≠c:=λe=>Aj1 (Ab5 e);have e1:=lt a.z;have e2:=lt a.ti;obtain⟨I,tb,l⟩:=a.to;have n:=lt l;have p:s.heap.objs.size≠i1:=by obtain⟨_,e,_⟩:=a.i1;exact lt e
 have q:s.heap.objs.size≠i2:=by obtain⟨_,e,_⟩:=a.i2;exact lt e
 have u:s.heap.objs.size≠l1:=by obtain⟨_,e,_⟩:=a.l1;exact lt e
 have m:s.heap.objs.size≠l2:=by obtain⟨_,e,_⟩:=a.l2;exact lt e
 have i:=Heap.get?_push_of_some {cls:=.type "dict",data:=.dict #[]} a.z;refine⟨f.typeIs,PySem.F.args_dict_init_2 _ _,?_⟩;unfold Builtin.«dict.__init__»;refine wpAny_bind ?_;unfold Builtin.Dict.selfAndRest;refine wpAny_bind (wpAny_notOrdered_dict f.typeIs ?_);show wpAny _ _ (pure (s.heap.objs.size,[Value.ref z])) _ _ _;refine wpAny_pure ?_;show wpAny _ _ (Builtin.Dict.updateFrom "dict.__init__" s.heap.objs.size (.ref z) [] .none) _ _ _;unfold Builtin.Dict.updateFrom;refine wpAny_bind (wpAny_typeOf (T:="zip") ⟨_,i,rfl⟩ ?_);rw[if_pos (by decide)];refine wpAny_bind (FN i t λr k j=>?_);rw[if_pos (show(none:Option Value).isNone=k9 from rfl)];refine wpAny_bind (wpAny_rule (wpAny_bind (Nv (j _ _ i) ?_)));refine wpAny_pure ⟨plainId_quiet jA _,?_⟩;have up:∀c o,s.heap.get? c=y0 o->r.get? c=y0 o:=λc o e=>j _ _ (Aa2 _ e);refine vY (A:=A.in1) (ps:=ps) t D e1 n p q e2 u m ps 0 [] {s with heap:=r,toks:=k} _ rfl ((st _).keep (λc o _ e=>up c o e) e1.symm e2.symm n.symm p.symm q.symm u.symm m.symm) (f.at λo e=>j _ _ e) (by simpa using x) λh' tk F y=>?_;exact⟨rfl,h h' tk F λc o G v B C e=>y c o (lt e).symm G v B C (up c o e)⟩
end
section
variable{X:Cx}
def wP(kvs:List (Str×V)):List (Str×V)->List (Str×V)
|[]=>kvs
|p::r=>wP (ia kvs p.1 p.2) r
theorem WU:∀(r kvs:List (Str×V)),(wP kvs r).length<=kvs.length+r.length
|[],kvs=>Aa9 _
|p::r,kvs=>by have a:=WU r (ia kvs p.1 p.2);have b:=Cd kvs p.1 p.2;simp only[wP,Aa7];omega
theorem zX:∀(r kvs:List (Str×V)),(kvs++r).map (·.1)|>.Nodup->wP kvs r=kvs++r
|[],kvs,_=>(Ac3 kvs).symm
|p::r,kvs,h=>by
  have e:ia kvs p.1 p.2=kvs++[p]:=by unfold ia;rw[if_neg];intro z;obtain⟨q,a,e⟩:=Ae1.mp z;rw[Ae5,Ao9]at h;exact h.2.2 q.1 (Ao0 a) p.1 (by simp) (of_decide_eq_true e)
  show wP (ia kvs p.1 p.2) r=_;rw[e,zX r (kvs++[p]) (by simpa using h)];simp
theorem vD:∀{a:List Str}{ys:List V}{us ws:List Value}{kvs:List (Str×V)}{vs:List (cN×Value)},Vals (a.map V.str) us->Vals ys ws->a.length=ys.length->KV (kvs.map λp=>((.inr p.1:cN),p.2)) vs→
 ∃ps:Ps,us.toArray=pX ps/\ws.toArray=pY ps/\ps.length=a.length/\KV ((wP kvs (a.zip ys)).map λp=>((.inr p.1:cN),p.2)) (oX vs ps)
|[],ys,us,ws,kvs,vs,d,e,b,c=>by
  cases d;cases ys with
  |cons _ _=>cases b
  |nil=>cases e;exact⟨[],rfl,rfl,rfl,c⟩
|k::a,ys,us,ws,kvs,vs,d,e,b,c=>by
  cases ys with
|nil=>cases b
|cons y ys=>
   cases d with
|cons j l=>
    cases e with
|cons i f=>
     obtain⟨t,rfl⟩:=j;obtain⟨ps,e1,e2,g,h⟩:=vD l f (Ao6.inj b) (CB (k:=k) i c);refine⟨((k,t),_)::ps,?_,?_,congrArg (·+1) g,h⟩
     .unfold pX at e1⊢;rw[Ab4];exact congrArg List.toArray (congrArg (_::·) (List.toArray_inj e1))
     .unfold pY at e2⊢;rw[Ab4];exact congrArg List.toArray (congrArg (_::·) (List.toArray_inj e2))
def HH:bootBuiltins "dict"=some (.type "dict"):=by decide+kernel
def M6(K:Aa6)(d:TA):TE:=λU H Q=>d U H λc H1=>∃a b,∃(ks:List Str)(ys:List V),c=[.ref a,.ref b]/\cz K H1 a (ks.map V.str)/\cz K H1 b ys/\ks.length=ys.length/\ks.length<1000/\∀p,H1 p=u0->Q (.ref p) (aJ H1 p (dS (wP [] (ks.zip ys))))
def Dj{a b:Expr}{E:TA}{p R pos d:Pos}(M:X.calm=true)(V:Gl X "dict")(hm:X.mg "dict"=none)(A:Gl X "zip")(C:X.mg "zip"=none)(ha:PA X [a,b] E)(hs:starEach [a,b] X.env=[(false,eval a X.env),(false,eval b X.env)])(k:starEach [b] X.env=[(false,eval b X.env)]):
 PE X (.Call (.Name "dict" p) [.Call (.Name "zip" R) [a,b] [] d] [] pos) (M6 X.K E):=by
 intro j s U H Q I h;refine Call_ (xr I V hm HH (PyProof.Rows.callWith_type1 (Calls.spliced_cons (Call_ (xr I A C Hr (PyProof.Rows.callWith_type1 (aH (ha d j s U H _ I h) λus l ⟨L,H1,i,r1,q1⟩=>?_) (by rw[hs,k]) (by rw[k];rfl))))) rfl rfl));obtain⟨l1,l2,G,B,e,u,t,Y,hn,q⟩:=q1;subst e;cases r1 with
|cons r y=>
  cases y with
|cons r' y=>
   cases y;cases r;cases r';obtain⟨K,x,D,-⟩:=i.tuple u;obtain⟨F,v,g,-⟩:=i.tuple t;obtain⟨J,T,x2,N,O⟩:=vD x v Y (kvs:=[]) (vs:=[]) .nil;rw[T]at D;rw[x2]at g;have Z:=i.ok.hd M;refine B3 (xs:=pX J) (ys:=pY J) D g λm S n P=>Calls.spliced_nil ?_;refine LZ (s:={l with heap:=m}) Z (MW D.lt g.lt) S (by rw[N,sizeLine_eq];omega) λh2 W hd w=>?_;have lt:∀{c o},l.heap.get? c=y0 o->(c:Nat)<l.heap.objs.size:=λe=>Ab5 e;have up:∀c o,l.heap.get? c=y0 o->h2.get? c=y0 o:=λc o e=>w c o (λz=>by have:=lt e;rw[z]at this;exact absurd this (by simp)) (λz=>by have:=lt e;rw[z]at this;exact absurd this (by simp)) (λz=>by have:=lt e;rw[z]at this;exact absurd this (by simp)) (λz=>by have:=lt e;rw[z]at this;exact absurd this (by simp)) (P c o e);have f:l.heap.objs.size<=m.objs.size:=by rw[n];exact Nat.le_add_right _ _
   refine⟨.ref m.objs.size,_,i.laid (a:=m.objs.size) (o:=dS (wP [] (G.zip B))) (t':=W) up f ⟨?_,?_,_,O,hd⟩,rfl,q _ (i.aL.fresh f)⟩
   .rw[Aa];have:=WU (G.zip B) [];rw[List.length_zip]at this;rw[sizeLine_eq];simp at this;omega
   .exact beq_eq_false_iff_ne.mpr λe=>absurd (Mb i) (by rw[←e];exact Ap0.mpr f)
end
end L2
set_option genSizeOfSpec false
namespace M
abbrev Tx:=List Nat
def vA:∃n:Nat,n=1000000:=⟨_,rfl⟩
noncomputable def bp:Nat:=Ai7 vA
def Gg:bp=1000000:=Ag9 vA
def sW:∃n:Int,n=1073741824:=⟨_,rfl⟩
noncomputable def ly:Int:=Ai7 sW
def GQ:ly=1073741824:=Ag9 sW
def y7:∃n:Int,n=2^62:=⟨_,rfl⟩
noncomputable def kJ:Int:=Ai7 y7
def Ka:kJ=2^62:=Ag9 y7
def yk:∃n:Int,n=2^64:=⟨_,rfl⟩
noncomputable def fA:Int:=Ai7 yk
def Kf:fA=2^64:=Ag9 yk
def tW:∃n:Int,n=1000000:=⟨_,rfl⟩
noncomputable def BP:Int:=Ai7 tW
def GY:BP=1000000:=Ag9 tW
def tu:∃n:Nat,n=2^64:=⟨_,rfl⟩
noncomputable def kK:Nat:=Ai7 tu
def GB:kK=2^64:=Ag9 tu
inductive D where
|ak
|bl (b:Bool)
|int (i:Int)
|str (s:Tx)
|tup (xs:List D)
|lst (xs:List D)
|ref (r:Nat)
|exc (c:String)(fs:List (Tx×D))
|err (c f:String)(d:D)
inductive W where
|v (d:D)
|own (xs:List D)
|bor (xs:List D)
abbrev WK:=Int×List Int×List Int
inductive Cell where
|lst (xs:List D)
|cZ (kvs:List (Tx×D))
|obj (c:String)(fs:List (String×D))
abbrev AH:=List Cell
abbrev Sl:=List (Option W)
inductive R(α:Type) where
|ok (a:α)(h:AH)
|exc (d:D)(h:AH)
|fail
def R.bind {b c:Type}:R b->(b->AH->R c)->R c
|.ok a h,f=>f a h
|.exc d h,_=>.exc d h
|.fail,_=>.fail
inductive O where
|next (τ:Sl)(h:AH)
|ret (w:W)(h:AH)
|brk (τ:Sl)(h:AH)
|cont (τ:Sl)(h:AH)
|exc (d:D)(h:AH)
|fail
def O.seq:O->(Sl->AH->O)->O
|.next τ h,f=>f τ h
|o,_=>o
def R.cM {b:Type}:R b->(b->AH->O)->O
|.ok a h,f=>f a h
|.exc d h,_=>.exc d h
|.fail,_=>.fail
section
variable{α β:Type}
@[simp]theorem R.ae (a)(h)(f:α->AH->R β):(R.ok a h).bind f=f a h:=rfl
@[simp]theorem R.aB (a)(h)(f:α->AH->O):(R.ok a h).cM f=f a h:=rfl
@[simp]theorem O.bf (τ)(h)(f):(O.next τ h).seq f=f τ h:=rfl
@[simp]theorem O.di (w)(h)(f):(O.ret w h).seq f=.ret w h:=rfl
@[simp]theorem O.eZ (d)(h)(f):(O.exc d h).seq f=.exc d h:=rfl
end
inductive Op where
|add|sub|mul|fdiv|mod|pow|shl|shr|band|bor|bxor
 deriving DecidableEq
inductive Cp where
|eq|ne|lt|le|gt|ge|mem|fB|d4|kL
 deriving DecidableEq
inductive Ty where
|ak|bool|int|str|list|tuple
 deriving DecidableEq
inductive Mt where
|index|count|cc
 deriving DecidableEq
inductive Bi where
|len|int|list|tuple|sum|all|any|sorted|divmod|str|min|max|abs
 deriving DecidableEq
set_option genInjectivity false
mutual
inductive E where
|var (i:Nat)
|con (x:String)
|int (i:Int)
|bl (b:Bool)
|ak
|str (s:Tx)
|tup (es:Es)
|lst (es:Es)
|bin (o:Op)(a b:E)
|cmp (o:Cp)(a b:E)
|chain (o p:Cp)(a b c:E)
|d7 (neg:Bool)(a:E)
|neg (a:E)
|inv (a:E)
|not (a:E)
|and (a b:E)
|or (a b:E)
|call (f:String)(es:Es)
|bi (b:Bi)(es:Es)
|dt (a:E)(t:Ty)
|bE (a:E)(one:Bool)(ts:List String)
|ix (a b:E)
|gv (a lo:E)
|eF (a hi:E)
|comp (tg:List Nat)(one:Bool)(k:Nat)(az:List Nat)(it:It)(k7:Bool)(c elt:E)
|gg (i:Nat)(a:E)
|dh (neg:Bool)(a:E)(i:Nat)
|eu (a b:E)
|share (a:E)
|b9 (a:E)
|eC (s:Tx)(ts:List Tx)
|dM (m:Mt)(a:E)(es:Es)
|xf (i:Nat)(f:String)
|make (c q:String)(es:Es)
|aA (a:E)(c f:String)
|bQ (a:E)(c m q:String)(es:Es)
|fv (a:E)
|fG (f:String)(a:E)
inductive Es where
|nil
|cons (e:E)(es:Es)
inductive It where
|seq (e:E)
|aC (a:E)
|enum (e:E)
|cx (e:E)
end
set_option genInjectivity true
inductive Tb where
|ex (f:String)(es:Es)
|sv (i:Nat)(f:String)(es:Es)
|iff (c:E)(a b:Tb)
mutual
inductive S where
|set (i:Nat)(e:E)
|ag (i:Nat)(e:E)
|iP (is:List Nat)(e:E)
|cR (o k e:E)
|app (i:Nat)(e:E)
|ext (i:Nat)(e:E)
|bX (i:Nat)(c f:String)(e:E)
|gC (a e:E)
|ex (e:E)
|ret (e:E)
|iff (c:E)(a b:Ss)
|la (n:Nat)(c:E)(b:Ss)
|for (tg:List Nat)(one:Bool)(it:It)(b:Ss)
|raise (c:String)(es:Es)
|gy (o k:E)(j:Nat)(e:E)
|d9 (b:Tb)(c:String)(nm:Nat)(hb:Ss)
|bK (i:Nat)(c f:String)(e:E)
|dr (c f:String)(e:E)
|gi
inductive Ss where
|nil
|cons (s:S)(ss:Ss)
end
noncomputable section
mutual
@[simp,reducible]noncomputable def Gc:D->Bool
|.ref _=>y9
|.tup xs=>Gf xs
|.lst xs=>Gf xs
|.exc _ _=>y9
|.err _ _ _=>y9
|_=>k9
@[simp,reducible]noncomputable def Gf:List D->Bool
|[]=>k9
|x::xs=>Gc x&&Gf xs
end
mutual
@[simp,reducible]noncomputable def dep:D->Nat
|.tup xs=>GD xs+1
|.lst xs=>GD xs+1
|_=>0
@[simp,reducible]noncomputable def GD:List D->Nat
|[]=>0
|x::xs=>max (dep x) (GD xs)
end
def Cell.pure:Cell->Bool
|.obj _ fs=>Gf (fs.map (·.2))
|_=>k9
def Gu(h:AH):Bool:=h.all Cell.pure
@[reducible]def GT(a b:D):Bool:=Gc a&&Gc b&&u9 (dep a<150)
mutual
@[simp]noncomputable def res(h:AH):D->D
|.ref r=>match h[r]? with
  |some (.lst xs)=>.lst xs
  |_=>.ref r
|.tup xs=>.tup (GR h xs)
|.lst xs=>.lst (GR h xs)
|d=>d
@[simp]noncomputable def GR(h:AH):List D->List D
|[]=>[]
|x::xs=>res h x::GR h xs
end
mutual
@[simp]noncomputable def cn:D->D->Bool
|.ak,.ak=>k9
|.bl a,.bl b=>a==b
|.int i,.int j=>i==j
|.bl a,.int j=>(a.toNat:Int)==j
|.int i,.bl b=>i==(b.toNat:Int)
|.str s,.str t=>s==t
|.tup xs,.tup ys=>GK xs ys
|.lst xs,.lst ys=>GK xs ys
|_,_=>y9
@[simp]noncomputable def GK:List D->List D->Bool
|[],[]=>k9
|x::xs,y::ys=>cn x y&&GK xs ys
|_,_=>y9
end
def W.d:W->Option D
|.v d=>y0 d
|.own xs=>y0 (.lst xs)
|.bor _=>u0
def W.arg:W->W
|.own xs=>.bor xs
|w=>w
@[simp]theorem W.bZ (d):(W.v d).arg=.v d:=rfl
@[simp]theorem W.fb (xs):(W.own xs).arg=.bor xs:=rfl
@[simp]theorem W.gZ (xs):(W.bor xs).arg=.bor xs:=rfl
def W.dd (h:AH):W->D
|.v d=>res h d
|.own xs=>.lst (GR h xs)
|.bor xs=>.lst (GR h xs)
noncomputable def W.cw (h:AH):W->Option (List D)
|.v (.lst xs)=>y0 xs
|.own xs=>y0 xs
|.bor xs=>y0 xs
|.v (.ref r)=>match h[r]? with
  |some (.lst xs)=>y0 xs
  |_=>u0
|_=>u0
noncomputable def W.seq? (h:AH):W->Option (List D)
|.v (.tup xs)=>y0 xs
|.v (.lst xs)=>y0 xs
|.own xs=>y0 xs
|.bor xs=>y0 xs
|.v (.ref r)=>match h[r]? with
  |some (.lst xs)=>y0 xs
  |_=>u0
|_=>u0
def R.of {b:Type}(h:AH):Option b->R b
|some a=>.ok a h
|none=>.fail
@[simp]abbrev ai(d:D)(h:AH):R W:=.ok (.v d) h
def G6(h:AH):W->Option Bool
|.v .ak=>y0 y9
|.v (.bl b)=>y0 b
|.v (.int i)=>y0 (i !=0)
|.v (.str s)=>if s.length<=bp then y0 (!s.isEmpty)else u0
|.v (.tup xs)=>y0 (!xs.isEmpty)
|.v (.lst xs)=>y0 (!xs.isEmpty)
|.own xs=>y0 (!xs.isEmpty)
|.bor xs=>y0 (!xs.isEmpty)
|_=>u0
@[simp]theorem R.au (h)(a:α):R.of h (y0 a)=.ok a h:=rfl
@[simp]theorem W.mr (d):(W.v d).d=y0 d:=rfl
@[simp]theorem W.gG (xs):(W.own xs).d=y0 (.lst xs):=rfl
@[simp]theorem W.g6 (h)(d):(W.v d).dd h=res h d:=rfl
@[simp]theorem W.gj (h)(xs):(W.own xs).dd h=.lst (GR h xs):=rfl
@[simp]theorem W.kG (h)(xs):(W.bor xs).dd h=.lst (GR h xs):=rfl
@[simp]theorem W.mi (h)(xs):(W.v (.lst xs)).cw h=y0 xs:=rfl
@[simp]theorem GS(h)(b):G6 h (.v (.bl b))=y0 b:=rfl
@[simp]theorem yT(h)(i):G6 h (.v (.int i))=y0 (i !=0):=rfl
noncomputable def Ke(i j:Int):Option Int:=
 if 0<=i then(if 0<=j then y0 ((i.toNat&&&j.toNat:Nat):Int)else y0 ((i.toNat-(i.toNat&&&(-j-1).toNat):Nat):Int))else u0
def kP(i j:Int):Option Int:=if 0<=i/\0<=j then y0 ((i.toNat|||j.toNat:Nat):Int)else u0
def K4(i j:Int):Option Int:=if 0<=i/\0<=j then y0 ((i.toNat^^^j.toNat:Nat):Int)else u0
def Gk(o:Op)(i j:Int):Option Int:=match o with
|.add=>y0 (i+j)
|.sub=>y0 (i-j)
|.mul=>if(-(fA)<i/\i<fA)\/(-(fA)<j/\j<fA)then y0 (i*j)else u0
|.fdiv=>if 0<j/\j<ly then y0 (i/j)else u0
|.mod=>if 0<j then y0 (i%j)else u0
|.pow=>if 0<=j/\j<=BP/\i.natAbs<kK then y0 (i^j.toNat)else u0
|.shl=>if 0<=j/\j<=BP/\i.natAbs<kK then y0 (i*2^j.toNat)else u0
|.shr=>if 0<=j then y0 (i/2^j.toNat)else u0
|.band=>Ke i j
|.bor=>kP i j
|.bxor=>K4 i j
def W.int?:W->Option Int
|.v (.int i)=>y0 i
|_=>u0
def W.dQ:W->Option Tx
|.v (.str s)=>y0 s
|_=>u0
def W.eR:W->Option (List D)
|.v (.tup s)=>y0 s
|_=>u0
def Ko(xs ys:List D)(h:AH):R W:=if xs.length+ys.length<=bp then .ok (.own (xs++ys)) h else .fail
def KH(xs:List D)(j:Int)(h:AH):R W:=if-1000<=j/\j<=1000/\xs.length*j.toNat<=bp then .ok (.own (Aa1 j.toNat xs).flatten) h else .fail
def KJ(a b:W)(h:AH):R W:=match a.dQ,b.dQ with
|some s,y0 t=>if s.length+t.length<=bp then ai (.str (s++t)) h else .fail
|_,_=>match a.eR,b.eR with
|some xs,y0 ys=>if xs.length+ys.length<=bp then ai (.tup (xs++ys)) h else .fail
|_,_=>match a.cw h,b.cw h with
|some xs,y0 ys=>Ko xs ys h
|_,_=>.fail
noncomputable def W.iL (h:AH):W->Option (List D)
|.own xs=>y0 xs
|.bor xs=>y0 xs
|.v (.ref r)=>match h[r]? with
  |some (.lst xs)=>y0 xs
  |_=>u0
|_=>u0
def KI(a b:W)(h:AH):R W:=match a.dQ,b.int? with
|some s,y0 j=>if 0<=j/\j<=1000/\s.length*j.toNat<=bp then ai (.str (Aa1 j.toNat s).flatten) h else .fail
|_,_=>match a.iL h,b.int? with
|some xs,y0 j=>KH xs j h
|_,_=>match a.eR,b.int? with
|some xs,y0 j=>if xs≠[]/\1<=j/\j<1001/\xs.length*j.toNat<=bp then ai (.tup (Aa1 j.toNat xs).flatten) h else .fail
|_,_=>.fail
def GJ(o:Op)(a b:W)(h:AH):R W:=match a.int?,b.int? with
|some i,y0 j=>(R.of h (Gk o i j)).bind λk h=>ai (.int k) h
|_,_=>match o with
|.add=>KJ a b h
|.mul=>KI a b h
|_=>.fail
def inD(x:D)(xs:List D):Bool:=xs.any λy=>cn y x
@[simp,reducible]def Kz:D->Bool
|.ak=>k9
|.bl _=>k9
|.int _=>k9
|.str _=>k9
|_=>y9
def yB:D->Option (List D)
|.lst ys=>y0 ys
|.tup ys=>y0 ys
|_=>u0
def Kb(a b:W)(h:AH):Option Bool:=match yB (b.dd h)with
|some ys=>if Gc (a.dd h)&&Gf ys&&u9 (GD ys<140)then y0 (inD (a.dd h) ys)else u0
|none=>u0
noncomputable def KB(o:Cp)(i j:Int):Option Bool:=match o with
|.lt=>y0 (u9 (i<j))
|.le=>y0 (u9 (i<=j))
|.gt=>y0 (u9 (j<i))
|.ge=>y0 (u9 (j<=i))
|_=>u0
def Ks:W->W->Option Bool
|.v .ak,.v (.bl _)=>y0 y9
|.v (.bl b),.v (.bl c)=>y0 (b==c)
|_,_=>u0
def Gw(o:Cp)(a b:W)(h:AH):Option Bool:=match o with
|.eq=>if GT (a.dd h) (b.dd h)then y0 (cn (a.dd h) (b.dd h))else u0
|.ne=>if GT (a.dd h) (b.dd h)then y0 (!cn (a.dd h) (b.dd h))else u0
|.mem=>Kb a b h
|.fB=>(Kb a b h).map (!·)
|.d4=>Ks a b
|.kL=>(Ks a b).map (!·)
|o=>match a.int?,b.int? with
|some i,y0 j=>KB o i j
|_,_=>u0
noncomputable def eB(n:Nat)(i:Int):Option Nat:=if 0<=i then(if i<n then y0 i.toNat else u0)else if-(n:Int)<=i then y0 (i+n).toNat else u0
def bw{a:Type}(xs:List a)(i:Int):Option a:=(eB xs.length i).bind λj=>xs[j]?
def dY(a b:W)(h:AH):Option D:=match b.int? with
|some i=>match a.dQ with
  |some s=>if s.length<=bp then(bw s i).map λc=>.str [c]else u0
  |none=>(a.seq? h).bind λxs=>bw xs i
|none=>u0
def aM(n d:Nat):Option Int->Nat
|none=>d
|some v=>if v<0 then(v+n).toNat else min v.toNat n
noncomputable def cut{b:Type}(xs:List b)(a c:Option Int):List b:=(xs.drop (aM xs.length 0 a)).take (aM xs.length xs.length c-aM xs.length 0 a)
def hM(a:W)(c b:Option Int)(h:AH):R W:=match a.dQ with
|some s=>if s.length<=bp then ai (.str (cut s c b)) h else .fail
|none=>match a.eR with
|some xs=>ai (.tup (cut xs c b)) h
|none=>match a.cw h with
|some xs=>.ok (.own (cut xs c b)) h
|none=>.fail
def Kp:List D->Option Int
|[]=>y0 0
|.int i::r=>(Kp r).map (i+·)
|_::_=>u0
def GL:List D->Option (List Int)
|[]=>y0 []
|.int i::r=>(GL r).map (i::·)
|_::_=>u0
def GM:List D->Option (List Tx)
|[]=>y0 []
|.str s::r=>(GM r).map (s::·)
|_::_=>u0
def II:List Int->Option Int
|[]=>u0
|i::r=>y0 (r.foldl (λa b=>if b>a then b else a) i)
def Cj:List Int->Option Int
|[]=>u0
|i::r=>y0 (r.foldl (λa b=>if b<a then b else a) i)
def Kd(x:Tx):List Tx->List Tx
|[]=>[x]
|y::ys=>if y<x then y::Kd x ys else x::y::ys
def Gn:List Tx->List Tx
|[]=>[]
|x::xs=>Kd x (Gn xs)
def GZ(x:Tx):List Tx->Option Nat
|[]=>u0
|y::ys=>if y=x then y0 0 else(GZ x ys).map (·+1)
def Kn:List D->Option (List Bool)
|[]=>y0 []
|.bl b::r=>(Kn r).map (b::·)
|_::_=>u0
def gX(b:Bi)(w:W)(h:AH):R W:=match b with
|.len=>match w.dQ with
  |some s=>if s.length<=bp then ai (.int s.length) h else .fail
  |none=>(R.of h (w.seq? h)).bind λxs h=>ai (.int xs.length) h
|.int=>match w with
  |.v (.int i)=>ai (.int i) h
  |.v (.bl b)=>ai (.int (b.toNat:Int)) h
  |_=>.fail
|.list=>(R.of h (w.seq? h)).bind λxs h=>.ok (.own xs) h
|.tuple=>(R.of h (w.seq? h)).bind λxs h=>ai (.tup xs) h
|.sum=>(R.of h ((w.cw h).bind λxs=>if xs.length<=bp then Kp xs else u0)).bind λi h=>ai (.int i) h
|.all=>(R.of h ((w.cw h).bind Kn)).bind λbs h=>ai (.bl (bs.all id)) h
|.any=>(R.of h ((w.cw h).bind Kn)).bind λbs h=>ai (.bl (bs.any id)) h
|.max=>(R.of h (((w.cw h).bind GL).bind II)).bind λi h=>ai (.int i) h
|.min=>(R.of h (((w.cw h).bind GL).bind Cj)).bind λi h=>ai (.int i) h
|.sorted=>(R.of h ((w.cw h).bind GM)).bind λa h=>if a.length<64 then .ok (.own ((Gn a).map .str)) h else .fail
|_=>.fail
noncomputable def nO(m:Mt)(x:W)(h:AH):Bool:=match m with
|.index=>x.eR.isSome
|.count=>(x.cw h).isSome
|.cc=>(x.cw h).isSome
@[simp]theorem rN(xs)(h):nO .index (.v (.tup xs)) h=true:=rfl
def Kk:Nat->List D->List D
|_,[]=>[]
|i,d::ds=>.tup [.int (i:Int),d]::Kk (i+1) ds
def Ku(d:D):List D->Option Nat
|[]=>u0
|y::ys=>if cn y d=k9 then y0 0 else(Ku d ys).map (·+1)
def KC(a b:W)(h:AH):Option Nat:=match b.dd h with
|.lst ys=>if(Gc (a.dd h)&&Gf ys&&u9 (GD ys<140))&&u9 (ys.length<=bp)then Ku (a.dd h) ys else u0
|_=>u0
def m7(m:Mt)(x:W)(ws:List W)(h:AH):R W:=match m,ws with
|.index,[w]=>(R.of h (x.eR.bind GM)).bind λa h=>(R.of h w.dQ).bind λt h=>(R.of h (GZ t a)).bind λn h=>if a.length<=bp then ai (.int (n:Int)) h else .fail
|.count,[w]=>(R.of h ((x.cw h).bind GL)).bind λis h=>(R.of h w.int?).bind λi h=>if is.length<=bp then ai (.int ((is.count i:Nat):Int)) h else .fail
|.cc,[w]=>(R.of h (KC w x h)).bind λn h=>ai (.int (n:Int)) h
|_,_=>.fail
def tT(b:Bi)(i j:Int)(h:AH):R W:=match b with
|.divmod=>if 0<j/\j<ly then ai (.tup [.int (i/j),.int (i%j)]) h else .fail
|.min=>ai (.int (if j<i then j else i)) h
|.max=>ai (.int (if j>i then j else i)) h
|_=>.fail
def dI(b:Bi)(ws:List W)(h:AH):R W:=match ws with
|[w]=>gX b w h
|[v,w]=>(R.of h v.int?).bind λi h=>(R.of h w.int?).bind λj h=>tT b i j h
|_=>.fail
@[simp]theorem GE(o)(i j)(h):GJ o (.v (.int i)) (.v (.int j)) h=(R.of h (Gk o i j)).bind λk h=>ai (.int k) h:=rfl
@[simp]theorem jg(i j):Gk .add i j=y0 (i+j):=rfl
@[simp]theorem qo(i j):Gk .sub i j=y0 (i-j):=rfl
@[simp]theorem Ny(s u)(h):GJ .add (.v (.str s)) (.v (.str u)) h=if s.length+u.length<=bp then ai (.str (s++u)) h else .fail:=rfl
@[simp]theorem Nx(s u)(h):GJ .add (.v (.tup s)) (.v (.tup u)) h=if s.length+u.length<=bp then ai (.tup (s++u)) h else .fail:=rfl
@[simp]theorem Ej(s u)(h):GJ .add (.own s) (.own u) h=if s.length+u.length<=bp then .ok (.own (s++u)) h else .fail:=rfl
@[simp]theorem uZ(i j)(h):Gw .lt (.v (.int i)) (.v (.int j)) h=y0 (u9 (i<j)):=rfl
@[simp]theorem QW(i j)(h):Gw .le (.v (.int i)) (.v (.int j)) h=y0 (u9 (i<=j)):=rfl
@[simp]theorem Et(i j)(h):Gw .gt (.v (.int i)) (.v (.int j)) h=y0 (u9 (j<i)):=rfl
@[simp]theorem Co(i j)(h):Gw .ge (.v (.int i)) (.v (.int j)) h=y0 (u9 (j<=i)):=rfl
@[simp]theorem LI(a b)(h):Gw .eq a b h=if GT (a.dd h) (b.dd h)then y0 (cn (a.dd h) (b.dd h))else none:=rfl
@[simp]theorem DP(a b)(h):Gw .ne a b h=if GT (a.dd h) (b.dd h)then y0 (!cn (a.dd h) (b.dd h))else none:=rfl
@[simp]theorem int?_int(i):(W.v (.int i)).int?=y0 i:=rfl
@[simp]theorem len_str(s)(h):dI .len [.v (.str s)] h=if s.length<=bp then ai (.int s.length) h else .fail:=rfl
@[simp]theorem Qo(s)(h):dI .len [.v (.tup s)] h=ai (.int s.length) h:=rfl
@[simp]theorem QE(s)(h):dI .len [.v (.lst s)] h=ai (.int s.length) h:=rfl
@[simp]theorem tm(s)(h):dI .len [.bor s] h=ai (.int s.length) h:=rfl
@[simp]theorem int_int(i)(h):dI .int [.v (.int i)] h=ai (.int i) h:=rfl
@[simp]theorem EU(b)(h):dI .int [.v (.bl b)] h=ai (.int (b.toNat:Int)) h:=rfl
@[simp]theorem tI(s)(h):dI .list [.v (.tup s)] h=.ok (.own s) h:=rfl
@[simp]theorem xW(s:List D)(h:AH):dI .tuple [.v (.lst s)] h=ai (.tup s) h:=rfl
@[simp]theorem wF(s)(h):dI .tuple [.own s] h=ai (.tup s) h:=rfl
@[simp]theorem N0(s)(h):dI .tuple [.bor s] h=ai (.tup s) h:=rfl
@[simp]theorem Oc(s)(h):dI .all [.own s] h=(R.of h (Kn s)).bind λbs h=>ai (.bl (bs.all id)) h:=rfl
@[simp]theorem Oj(s)(h):dI .any [.own s] h=(R.of h (Kn s)).bind λbs h=>ai (.bl (bs.any id)) h:=rfl
@[simp]theorem yi(s)(h):dI .sum [.own s] h=(R.of h (if s.length<=bp then Kp s else u0)).bind λi h=>ai (.int i) h:=rfl
@[simp]theorem XZ(i j)(h):dI .divmod [.v (.int i),.v (.int j)] h=if 0<j/\j<ly then ai (.tup [.int (i/j),.int (i%j)]) h else .fail:=rfl
@[simp]theorem Du(i j)(h):dI .min [.v (.int i),.v (.int j)] h=ai (.int (if j<i then j else i)) h:=rfl
@[simp]theorem oO(s)(i)(h):dY (.v (.str s)) (.v (.int i)) h=if s.length<=bp then(bw s i).map λc=>.str [c]else none:=rfl
@[simp]theorem af(s)(i)(h):dY (.v (.tup s)) (.v (.int i)) h=bw s i:=rfl
@[simp]theorem xz(s)(i)(h):dY (.v (.lst s)) (.v (.int i)) h=bw s i:=rfl
@[simp]theorem Bk(s)(i)(h):dY (.own s) (.v (.int i)) h=bw s i:=rfl
@[simp]theorem pe(s)(lo hi)(h):hM (.v (.lst s)) lo hi h=.ok (.own (cut s lo hi)) h:=rfl
@[simp]theorem CF(s)(lo hi)(h):hM (.bor s) lo hi h=.ok (.own (cut s lo hi)) h:=rfl
abbrev dm:=List (String×String)
noncomputable def GO(a:dm):Nat->String->List String
|0,_=>[]
|n+1,c=>c::match a.lookup c with
|some b=>GO a n b
|none=>[]
noncomputable def MV:W->Option Ty
|.v .ak=>y0 .ak
|.v (.bl _)=>y0 .bool
|.v (.int _)=>y0 .int
|.v (.str _)=>y0 .str
|.v (.tup _)=>y0 .tuple
|.v (.lst _)=>y0 .list
|.own _=>y0 .list
|.bor _=>y0 .list
|.v (.ref _)=>u0
|.v (.exc _ _)=>u0
|.v (.err _ _ _)=>u0
def Ty.le:Ty->Ty->Bool
|.bool,.int=>k9
|a,b=>u9 (a=b)
def dt(t:Ty)(w:W):Option Bool:=(MV w).map λu=>u.le t
@[simp]theorem sZ(t)(i):dt t (.v (.int i))=y0 (Ty.le .int t):=rfl
@[simp]theorem Hf(t)(s):dt t (.v (.tup s))=y0 (Ty.le .tuple t):=rfl
@[simp]theorem Ty.ij (t):Ty.le t t=true:=by cases t<;>rfl
@[simp]theorem Ty.lQ:Ty.le .int .tuple=false:=rfl
def bE(a:dm)(w:W)(b:List String):Option Bool:=match w with
|.v (.exc c [])=>y0 (b.any (GO a 8 c).contains)
|.v (.err c _ _)=>y0 (b.any (GO a 8 c).contains)
|_=>u0
@[simp]def Gm:Sl->Nat->Option W
|[],_=>u0
|x::_,0=>x
|_::r,n+1=>Gm r n
@[simp]def GC:Sl->Nat->W->Sl
|[],_,_=>[]
|_::r,0,w=>y0 w::r
|x::r,n+1,w=>x::GC r n w
def Gi(τ:Sl)(i:Nat):Option W:=match Gm τ i with
|some (.own xs)=>y0 (.bor xs)
|o=>o
@[simp]theorem Kc(e:Gm τ i=y0 (.own xs)):Gi τ i=y0 (.bor xs):=by simp[Gi,e]
@[simp]theorem Ky(e:Gm τ i=y0 (.v d)):Gi τ i=y0 (.v d):=by simp[Gi,e]
@[simp]theorem Kj(e:Gm τ i=y0 (.bor xs)):Gi τ i=y0 (.bor xs):=by simp[Gi,e]
@[simp]noncomputable def aW:List Nat->List D->Sl->Option Sl
|[],[],τ=>y0 τ
|i::is,d::ds,τ=>aW is ds (GC τ i (.v d))
|_,_,_=>u0
def Gq(a:List Nat)(one:Bool)(d:D)(τ:Sl):Option Sl:=match one with
|true=>match a with
  |[i]=>y0 (GC τ i (.v d))
  |_=>u0
|false=>match d with
|.tup ds=>aW a ds τ
|_=>u0
noncomputable def GA(step:D->AH->R (Option D)):List D->AH->R (List D)
|[],h=>.ok [] h
|d::ds,h=>match step d h with
|.ok o h1=>match GA step ds h1 with
   |.ok r h2=>.ok (match o with|some x=>x::r|none=>r) h2
   |_=>.fail
|_=>.fail
structure Fx where
 call:String->List W->AH->R W
 cl:dm
 con:List (String×D)
noncomputable def GW(h:AH):Option W->Option (Nat×List D)
|some (.v (.ref r))=>match h[r]? with
  |some (.lst xs)=>y0 (r,xs)
  |_=>u0
|_=>u0
noncomputable def GX(h:AH):Option W->Option (Nat×String×List (String×D))
|some (.v (.ref r))=>match h[r]? with
  |some (.obj c fs)=>y0 (r,c,fs)
  |_=>u0
|_=>u0
noncomputable def aS(f:String)(d:D):List (String×D)->List (String×D)
|[]=>[(f,d)]
|(g,x)::r=>if g=f then(g,d)::r else(g,x)::aS f d r
def um:W->Option (List D)
|.v (.lst xs)=>y0 xs
|.own xs=>y0 xs
|_=>u0
def m8(x y:W)(h:AH):R W:=match x,y with
|.v (.tup ks),.v (.tup ys)=>(match GM ks with
|some a=>if a.length=ys.length/\a.length<1000/\a.Nodup/\Gf ys=k9 then .ok (.v (.ref h.length)) (h++[.cZ (a.zip ys)])else .fail
|none=>.fail)
|_,_=>.fail
noncomputable def Kl(h:AH):Option W->Option (Nat×List (Tx×D))
|some (.v (.ref r))=>match h[r]? with
  |some (.cZ ks)=>y0 (r,ks)
  |_=>u0
|_=>u0
noncomputable def gg(w:W)(o:Option (Nat×List (Tx×D)))(h:AH):R W:=match w,o with
|.v (.str k),y0 (_,ks)=>match ks.lookup k with
  |some d=>ai d h
  |none=>.fail
|_,_=>.fail
noncomputable def dh(neg:Bool)(w:W)(o:Option (Nat×List (Tx×D)))(h:AH):R W:=match w,o with
|.v (.str k),y0 (_,ks)=>ai (.bl (if neg then !(ks.lookup k).isSome else(ks.lookup k).isSome)) h
|_,_=>.fail
def G9(i:Int):Nat:=if i=0 then 0 else Nat.log2 i.natAbs+1
def G7:R W->Option Int
|.ok (.v (.int y)) []=>y0 y
|_=>u0
noncomputable def GU(key:Int->R W):Int->Int->List Int->Option Int
|b,_,[]=>y0 b
|b,a,x::xs=>(G7 (key x)).bind λk=>if k<a then GU key x k xs else GU key b a xs
def G8(key:Int->R W):Option (List Int)->Option Int
|some (x::xs)=>(G7 (key x)).bind λk=>GU key x k xs
|_=>u0
mutual
@[simp]noncomputable def eval(F:Fx):E->Sl->AH->R W
|.var i,τ,h=>match Gi τ i with
  |some w=>.ok w h
  |none=>.fail
|.con x,_,h=>match F.con.lookup x with
  |some d=>ai d h
  |none=>.fail
|.int i,_,h=>ai (.int i) h
|.bl b,_,h=>ai (.bl b) h
|.ak,_,h=>ai .ak h
|.str s,_,h=>ai (.str s) h
|.tup es,τ,h=>(Gx F es τ h).bind λds h=>ai (.tup ds) h
|.lst es,τ,h=>(Gx F es τ h).bind λds h=>.ok (.own ds) h
|.bin o a b,τ,h=>(eval F a τ h).bind λx h=>(eval F b τ h).bind λy h=>GJ o x y h
|.cmp o a b,τ,h=>(eval F a τ h).bind λx h=>(eval F b τ h).bind λy h=>(R.of h (Gw o x y h)).bind λc h=>ai (.bl c) h
|.chain o p a b c,τ,h=>(eval F a τ h).bind λx h=>(eval F b τ h).bind λy h=>(R.of h (Gw o x y h)).bind λt h=>match t with
  |true=>(eval F c τ h).bind λz h=>(R.of h (Gw p y z h)).bind λc h=>ai (.bl c) h
  |false=>ai (.bl y9) h
|.d7 neg a,τ,h=>(eval F a τ h).bind λx h=>match x with
  |.v .ak=>ai (.bl (!neg)) h
  |_=>ai (.bl neg) h
|.neg a,τ,h=>(eval F a τ h).bind λx h=>(R.of h x.int?).bind λi h=>ai (.int (-i)) h
|.inv a,τ,h=>(eval F a τ h).bind λx h=>(R.of h x.int?).bind λi h=>ai (.int (-i-1)) h
|.not a,τ,h=>(eval F a τ h).bind λx h=>(R.of h (G6 h x)).bind λc h=>ai (.bl (!c)) h
|.and a b,τ,h=>(eval F a τ h).bind λx h=>(R.of h (G6 h x)).bind λc h=>match c with
  |true=>eval F b τ h
  |false=>.ok x h
|.or a b,τ,h=>(eval F a τ h).bind λx h=>(R.of h (G6 h x)).bind λc h=>match c with
  |true=>.ok x h
  |false=>eval F b τ h
|.call f es,τ,h=>(Gd F es τ h).bind λws h=>F.call f (ws.map W.arg) h
|.bi b es,τ,h=>(Gd F es τ h).bind λws h=>dI b ws h
|.dt a t,τ,h=>(eval F a τ h).bind λx h=>(R.of h (dt t x)).bind λc h=>ai (.bl c) h
|.bE a _ ts,τ,h=>(eval F a τ h).bind λx h=>(R.of h (bE F.cl x ts)).bind λc h=>ai (.bl c) h
|.ix a b,τ,h=>(eval F a τ h).bind λx h=>(eval F b τ h).bind λy h=>(R.of h (dY x y h)).bind λd h=>ai d h
|.gv a lo,τ,h=>(eval F a τ h).bind λx h=>(eval F lo τ h).bind λl h=>(R.of h l.int?).bind λl h=>hM x (y0 l) u0 h
|.eF a hi,τ,h=>(eval F a τ h).bind λx h=>(eval F hi τ h).bind λu h=>(R.of h u.int?).bind λu h=>hM x u0 (y0 u) h
|.comp tg one k az it k7 c elt,τ,h=>(Gj F it τ h).bind λds h=>
  if ds.length<=bp then
   (GA (λd h=>match Gq tg one d (Aa1 k u0++az.map λj=>Gi τ j)with
|none=>.fail
|some τ'=>(if k7 then(eval F c τ' h).bind λx h=>R.of h (G6 h x)else .ok k9 h).bind λb h=>match b with
|true=>(eval F elt τ' h).bind λy h=>(R.of h y.d).bind λy h=>.ok (y0 y) h
|false=>.ok u0 h) ds h).bind λys h=>.ok (.own ys) h
  else .fail
|.gg i a,τ,h=>match Kl h (Gm τ i)with
  |some _=>(eval F a τ h).bind λx h=>gg x (Kl h (Gm τ i)) h
  |none=>.fail
|.dh neg a i,τ,h=>(eval F a τ h).bind λx h=>dh neg x (Kl h (Gm τ i)) h
|.eu a b,τ,h=>(eval F a τ h).bind λx h=>(eval F b τ h).bind λy h=>m8 x y h
|.share a,τ,h=>(eval F a τ h).bind λx h=>match x with
  |.own xs=>if Gf xs then ai (.ref h.length) (h++[.lst xs])else .fail
  |_=>.fail
|.b9 a,τ,h=>(eval F a τ h).bind λx h=>(R.of h x.int?).bind λn h=>if 0<=n/\n<=1000 then .ok (.own ((Ab1 n.toNat).map λ(i:Nat)=>.int (i:Int))) h else .fail
|.eC _ ts,τ,h=>.ok (.own (ts.map .str)) h
|.dM m a es,τ,h=>(eval F a τ h).bind λx h=>if nO m x h then(Gd F es τ h).bind λws h=>m7 m x ws h else .fail
|.xf i f,τ,h=>match Gm τ i with
  |some (.v (.err _ g d))=>if g=f then .ok (.v d) h else .fail
  |_=>.fail
|.make c q es,τ,h=>(Gd F es τ h).bind λws h=>(F.call q (.v (.ref h.length)::ws.map W.arg) (h++[.obj c []])).bind λw h'=>match w with
  |.v .ak=>ai (.ref h.length) h'
  |_=>.fail
|.aA a c f,τ,h=>(eval F a τ h).bind λw h=>match GX h (y0 w)with
  |some (_,c',fs)=>if c'=c then(R.of h (fs.lookup f)).bind λd h=>ai d h else .fail
  |none=>.fail
|.bQ a c m q es,τ,h=>(eval F a τ h).bind λw h=>match GX h (y0 w)with
  |some (r,c',fs)=>if c'=c/\(fs.lookup m).isNone=k9 then(Gd F es τ h).bind λws h=>F.call q (.v (.ref r)::ws.map W.arg) h else .fail
  |none=>.fail
|.fv a,τ,h=>(eval F a τ h).bind λw h=>(R.of h w.int?).bind λi h=>ai (.int ((G9 i:Nat):Int)) h
|.fG f a,τ,h=>(eval F a τ h).bind λw h=>(R.of h (G8 (λx=>F.call f [.v (.int x)] []) ((w.cw h).bind GL))).bind λi h=>ai (.int i) h
@[simp]noncomputable def Gd(F:Fx):Es->Sl->AH->R (List W)
|.nil,_,h=>.ok [] h
|.cons e es,τ,h=>(eval F e τ h).bind λw h=>(Gd F es τ h).bind λws h=>.ok (w::ws) h
@[simp]noncomputable def Gx(F:Fx):Es->Sl->AH->R (List D)
|.nil,_,h=>.ok [] h
|.cons e es,τ,h=>(eval F e τ h).bind λw h=>(R.of h w.d).bind λd h=>(Gx F es τ h).bind λds h=>.ok (d::ds) h
@[simp]noncomputable def Gj(F:Fx):It->Sl->AH->R (List D)
|.seq e,τ,h=>(eval F e τ h).bind λw h=>match w with
  |.v (.tup xs)=>.ok xs h
  |.v (.lst xs)=>.ok xs h
  |.own xs=>.ok xs h
  |.bor xs=>.ok xs h
  |_=>.fail
|.aC a,τ,h=>(eval F a τ h).bind λw h=>(R.of h w.int?).bind λn h=>if-(kJ)<=n/\n<kJ then .ok ((Ab1 n.toNat).map λ(i:Nat)=>.int (i:Int)) h else .fail
|.cx e,τ,h=>(eval F e τ h).bind λw h=>(R.of h (um w)).bind λxs h=>.ok (Kk 0 xs) h
|.enum e,τ,h=>(eval F e τ h).bind λw h=>match w with
|.v (.tup xs)=>.ok (Kk 0 xs) h
|_=>.fail
end
def lZ:W->Option (List D)
|.v (.tup xs)=>y0 xs
|.v (.lst xs)=>y0 xs
|.own xs=>y0 xs
|_=>u0
def lI:W->Option (List D)
|.v (.tup xs)=>y0 xs
|.v (.lst xs)=>y0 xs
|.bor xs=>y0 xs
|_=>u0
@[simp]theorem Kt(xs):lZ (.v (.tup xs))=y0 xs:=rfl
@[simp]theorem Kq(xs):lZ (.v (.lst xs))=y0 xs:=rfl
@[simp]theorem Kg(xs):lZ (.own xs)=y0 xs:=rfl
@[simp]theorem Kw(xs):lI (.v (.tup xs))=y0 xs:=rfl
@[simp]theorem Kv(xs):lI (.v (.lst xs))=y0 xs:=rfl
@[simp]theorem Kx(xs):lI (.bor xs)=y0 xs:=rfl
@[simp]def GI:E->Option Nat
|.var i=>y0 i
|_=>u0
@[simp]def Gs(F:Fx)(it:It)(τ:Sl)(h:AH):R (List D):=match it with
|.seq e=>match GI e with
  |some i=>R.of h ((Gm τ i).bind lI)
  |none=>(eval F e τ h).bind λw h=>R.of h (lZ w)
|it=>Gj F it τ h
noncomputable def Gr(bnd:D->Sl->Option Sl)(body:Sl->AH->O):List D->Sl->AH->O
|[],τ,h=>.next τ h
|d::ds,τ,h=>match bnd d τ with
|none=>.fail
|some b=>match body b h with
|.next a h2=>Gr bnd body ds a h2
|.cont a h2=>Gr bnd body ds a h2
|.brk a h2=>.next a h2
|o=>o
noncomputable def GN(c:Sl->AH->R Bool)(body:Sl->AH->O):Nat->Sl->AH->O
|0,_,_=>.fail
|n+1,τ,h=>(c τ h).cM λb h1=>match b with
|false=>.next τ h1
|true=>match body τ h1 with
|.next a h2=>GN c body n a h2
|.cont a h2=>GN c body n a h2
|.brk a h2=>.next a h2
|o=>o
def Gp(F:Fx)(e:E)(τ:Sl)(h:AH):R Bool:=(eval F e τ h).bind λx h=>R.of h (G6 h x)
def GV:D->Bool
|.exc _ _=>k9
|.err _ _ d=>Gc d
|_=>y9
def Km(d:D)(n:Nat)(h:AH):AH:=if GV d&&Gu (h.take n)then h.take n else h
def Fh(w:W)(i:Nat)(τ:Sl)(h:AH):O:=match w with
|.v d=>.next (GC τ i (.v d)) h
|_=>.fail
noncomputable def i8(call:String->List W->AH->R W)(a:Option Nat)(f:String)(τ:Sl):R (List W)->O
|.ok b h=>match call f (b.map W.arg) h with
  |.ok w h=>match a with
   |none=>.next τ h
   |some i=>Fh w i τ h
  |.exc d h1=>.exc d (Km d h.length h1)
  |.fail=>.fail
|_=>.fail
def KG(b:dm)(c:String)(nm:Nat)(e:Sl->AH->O)(τ:Sl)(d:D)(h:AH):O:=match bE b (.v d) [c]with
|some true=>match e (GC τ nm (.v d)) h with
  |.next a h'=>.next (a.set nm u0) h'
  |_=>.fail
|_=>.fail
def KA(a:dm)(c:String)(nm:Nat)(b:Sl->AH->O)(τ:Sl):O->O
|.exc d h=>KG a c nm b τ d h
|o=>o
def gr:W->Option (D×D)
|.v (.tup [a,b])=>y0 (a,b)
|_=>u0
def Kr(w a b:W)(τ:Sl)(h:AH):O:=match w,a,b with
|.v d,.v (.ref r),.v (.int j)=>match h[r]? with
  |some (.lst xs)=>match eB xs.length j with
   |some n=>if Kz d then .next τ (h.set r (.lst (xs.set n d)))else .fail
   |none=>.fail
  |_=>.fail
|_,_,_=>.fail
@[simp]def kN(F:Fx):Tb->Sl->AH->O
|.ex f es,τ,h=>i8 F.call u0 f τ (Gd F es τ h)
|.sv i f es,τ,h=>i8 F.call (y0 i) f τ (Gd F es τ h)
|.iff c a b,τ,h=>match Gp F c τ h with
|.ok k9 h=>kN F a τ h
|.ok y9 h=>kN F b τ h
|_=>.fail
mutual
@[simp]noncomputable def exec(F:Fx):S->Sl->AH->O
|.set i e,τ,h=>(eval F e τ h).cM λw h=>match w with
  |.bor _=>.fail
  |w=>.next (GC τ i w) h
|.ag i e,τ,h=>(eval F e τ h).cM λw h=>match w.d with
  |some d=>.next (GC τ i (.v d)) h
  |none=>.fail
|.iP is e,τ,h=>(eval F e τ h).cM λw h=>match w with
  |.v (.tup ds)=>match aW is ds τ with
   |some τ'=>.next τ' h
   |none=>.fail
  |_=>.fail
|.gy o k j e,τ,h=>(eval F e τ h).cM λw h=>match gr w with
  |some (d1,d2)=>(eval F o τ h).cM λow h=>(eval F k τ h).cM λkw h=>if Kz d2 then(match Kr (.v d1) ow kw τ h with
|.next τ h=>.next (GC τ j (.v d2)) h
|_=>.fail)else .fail
  |none=>.fail
|.cR o k e,τ,h=>(eval F e τ h).cM λw h=>(eval F o τ h).cM λow h=>(eval F k τ h).cM λkw h=>Kr w ow kw τ h
|.app i e,τ,h=>match Gm τ i with
  |some (.own xs)=>(eval F e τ h).cM λw h=>match w.d with
   |some d=>if xs.length<bp then .next (GC τ i (.own (xs++[d]))) h else .fail
   |none=>.fail
  |_=>.fail
|.ext i e,τ,h=>match Gm τ i with
  |some (.own xs)=>(eval F e τ h).cM λw h=>match w with
   |.own ys=>if xs.length+ys.length<bp then .next (GC τ i (.own (xs++ys))) h else .fail
   |_=>.fail
  |_=>.fail
|.bX i c f e,τ,h=>(eval F e τ h).cM λw h=>match w.d with
  |some d=>match GX h (Gm τ i)with
   |some (r,c',fs)=>if c'=c/\Gc d=k9/\fs.length<100 then .next τ (h.set r (.obj c (aS f d fs)))else .fail
   |none=>.fail
  |none=>.fail
|.gC a e,τ,h=>(eval F a τ h).cM λo h=>match GW h (y0 o)with
  |some _=>(eval F e τ h).cM λw h=>match w.d,GW h (y0 o)with
   |some d,y0 (r,xs)=>if xs.length<bp/\Gc d=k9 then .next τ (h.set r (.lst (xs++[d])))else .fail
   |_,_=>.fail
  |none=>.fail
|.ex e,τ,h=>(eval F e τ h).cM λ_ h=>.next τ h
|.ret e,τ,h=>match GI e with
  |some i=>match Gm τ i with
   |some (.bor _)=>.fail
   |some w=>.ret w h
   |none=>.fail
  |none=>(eval F e τ h).cM λw h=>match w with
  |.bor _=>.fail
  |w=>.ret w h
|.iff c a b,τ,h=>(Gp F c τ h).cM λt h=>match t with
  |true=>execs F a τ h
  |false=>execs F b τ h
|.la n c b,τ,h=>GN (λτ h=>Gp F c τ h) (λτ h=>execs F b τ h) n τ h
|.for tg one it b,τ,h=>(Gs F it τ h).cM λds h=>Gr (Gq tg one) (λτ h=>execs F b τ h) ds τ h
|.raise c es,τ,h=>(Gd F es τ h).cM λ_ h=>.exc (.exc c []) h
|.dr c f e,τ,h=>(Gx F (.cons e .nil) τ h).cM λds h=>match ds with
  |[d]=>.exc (.err c f d) h
  |_=>.fail
|.d9 b c nm hb,τ,h=>KA F.cl c nm (λτ h=>execs F hb τ h) τ (kN F b τ h)
|.bK i c f e,τ,h=>(eval F e τ h).cM λw h=>match w with
  |.v d=>match GX h (Gm τ i)with
   |some (r,c',fs)=>if c'=c/\fs.length<100 then .next τ (h.set r (.obj c (aS f d fs)))else .fail
   |none=>.fail
  |_=>.fail
|.gi,_,_=>.fail
@[simp]noncomputable def execs(F:Fx):Ss->Sl->AH->O
|.nil,τ,h=>.next τ h
|.cons s ss,τ,h=>(exec F s τ h).seq λτ h=>execs F ss τ h
end
structure Fn where
 ps:Nat
 n:Nat
 body:Ss
structure Prog where
 fns:List (String×Fn)
 cl:dm
 con:List (String×D)
def W.keep:W->Bool
|.v d=>Gc d
|.own xs=>Gf xs
|.bor _=>k9
noncomputable def fin(n:Nat)(w:W)(h:AH):R W:=if h.length=n then .ok w h else if w.keep&&Gu (h.take n)then .ok w (h.take n)else .ok w h
def Gy(n:Nat):O->R W
|.ret w h=>match w with
  |.bor _=>.fail
  |w=>fin n w h
|.next _ h=>fin n (.v .ak) h
|.exc d h=>.exc d h
|_=>.fail
@[simp]theorem Gb(d)(h h':AH)(e:h'.length=h.length):Gy h.length (.ret (.v d) h')=.ok (.v d) h':=by simp[Gy,fin,e]
@[simp]theorem Gv(xs)(h h':AH)(e:h'.length=h.length):Gy h.length (.ret (.own xs) h')=.ok (.own xs) h':=by simp[Gy,fin,e]
@[simp]theorem GG(τ)(h h':AH)(e:h'.length=h.length):Gy h.length (.next τ h')=.ok (.v .ak) h':=by simp[Gy,fin,e]
@[simp]theorem Gz(d)(n)(h):Gy n (.exc d h)=.exc d h:=rfl
def run(F:Fx)(d:Fn)(ws:List W)(h:AH):R W:=if ws.length=d.ps then Gy h.length (execs F d.body (ws.map y0++Aa1 (d.n-d.ps) u0) h)else .fail
def call(p:Prog):Nat->String->List W->AH->R W
|0,_,_,_=>.fail
|k+1,f,a,h=>match p.fns.lookup f with
|some d=>run ⟨call p k,p.cl,p.con⟩ d a h
|none=>.fail
def Ga(e:p.fns.lookup f=y0 d)(k)(ws)(h)(a:ws.length=d.ps):
 call p (k+1) f ws h=Gy h.length (execs ⟨call p k,p.cl,p.con⟩ d.body (ws.map y0++Aa1 (d.n-d.ps) u0) h):=by
 rw[call,e];simp[run,a]
end
end M
namespace L2.MS
open PySem PySem.Spec
structure Ge where
 K:Aa6
 ca:String->Addr
 cl:M.dm
 own:List String
 ma:String->Addr
structure fc(Y:Ge)(c:String):Prop where
 k:lq Y.K (Y.ca c)
 own:∀t∈Y.own,Am9 Y.K (.ref (Y.ca c)) (.ref (Y.ca t))=y0 ((M.GO Y.cl 8 c).contains t)
 ve:PySem.W.kitOne Y.K (.ref (Y.ca c)) (.type "ValueError")=some ((M.GO Y.cl 8 c).contains "ValueError")
structure Gh where
 fz:Addr->Prop
 aP:Nat->Addr
 n:Nat
def fk(Y:Ge)(G:Gh)(H:Hp)(a:Addr)(vs:List V):Prop:=(G.fz a/\H a=y0 (.tup vs))∨
 ∃(o:Obj)(b:Array Value)(n:Nat),Y.K.lookup a=some o/\o.cls=.type "tuple"/\o.dict=none/\o.data=.seq b n/\b.size<=sizeLine/\Vals vs b.toList
def uo(Y:Ge)(a:Addr)(vs:List V):Prop:=∃(o:Obj)(b:Array Value)(n:Nat),Y.K.lookup a=some o/\o.cls=.type "list"/\o.dict=none/\o.data=.seq b n/\b.size<=sizeLine/\Vals vs b.toList
def kv(Y:Ge)(G:Gh)(H:Hp)(a:Addr)(vs:List V):Prop:=(G.fz a/\Rd H a (.lst vs))\/uo Y a vs
def fk.sq (h:fk Y G H a vs):cz Y.K H a vs:=h.elim (λz=>.inl (.inl z.2)) (by rintro⟨o,b,n,d,e,_,c⟩;exact .inr ⟨o,b,n,d,e,c⟩)
def fk.pl (h:fk Y G H a vs):yW Y.K H a:=h.elim (λz=>.inl ⟨_,z.2⟩) (by rintro⟨o,_,_,b,d,c,_⟩;exact .inr ⟨o,b,d,c⟩)
def kv.sq (h:kv Y G H a vs):br Y.K H a vs:=h.elim (λz=>.inl z.2) λz=>.inr z
def ba(s:M.Tx):Str:=⟨s.toArray⟩
def E7:M.D->PyData
|.int i=>.int i
|.str s=>.str (ba s)
|.bl b=>.bool b
|_=>.none
def K8(T:List (M.Tx×M.D)):List (Str×PyData):=T.map λp=>(ba p.1,E7 p.2)
def AR(Y:Ge)(a:Addr)(T:List (M.Tx×M.D)):Prop:=HX Y.K a (K8 T)
mutual
def aD(Y:Ge)(G:Gh)(H:Hp):M.D->V->Prop
|.ak,v=>v=.ak
|.bl b,v=>v=.bl b
|.int i,v=>v=.int i
|.str s,v=>v=.str (ba s)
|.tup ds,v=>∃a vs,v=.ref a/\fk Y G H a vs/\aa Y G H ds vs
|.lst ds,v=>∃a vs,v=.ref a/\kv Y G H a vs/\aa Y G H ds vs
|.ref r,v=>r<G.n/\v=.ref (G.aP r)
|.exc c fs,v=>(fs=[]/\∃x,v=.ref x/\G.fz x/\H x=y0 (gA x (Y.ca c) u0)/\fc Y c)\/(fs≠[]/\∃a,v=.ref a/\AR Y a fs)
|.err c f d,v=>∃x dx u,v=.ref x/\G.fz x/\G.fz dx/\H x=y0 (gA x (Y.ca c) (y0 dx))/\H dx=y0 (.xd [(Str.ofString f,u)])/\fc Y c/\mG Y.K (Y.ca c) (Str.ofString f)/\aD Y G H d u
def aa(Y:Ge)(G:Gh)(H:Hp):List M.D->List V->Prop
|[],vs=>vs=[]
|d::ds,vs=>∃v r,vs=v::r/\aD Y G H d v/\aa Y G H ds r
end
def bD(Y:Ge)(G:Gh)(H:Hp)(a:Addr):M.Cell->Prop
|.lst xs=>M.Gf xs=k9/\∃d,H a=y0 (.lst d)/\aa Y G H xs d
|.cZ ks=>M.Gf (ks.map (·.2))=k9/\∃b,H a=y0 (dS ((ks.map λp=>ba p.1).zip b))/\aa Y G H (ks.map (·.2)) b
|.obj c fs=>∃dx b,H a=y0 (.ins (Y.ca c) dx ((fs.map λp=>Str.ofString p.1).zip b))/\aa Y G H (fs.map (·.2)) b
structure ah(Y:Ge)(G:Gh)(h:M.AH)(H:Hp):Prop where
 len:h.length=G.n
 any:∀r c,h[r]?=y0 c->¬G.fz (G.aP r)/\bD Y G H (G.aP r) c
 inj:∀r s,r<G.n->s<G.n->G.aP r=G.aP s->r=s
 live:∀a,G.fz a->∃o,H a=y0 o
def et(G:Gh)(a:Addr):Prop:=∀r,r<G.n->G.aP r≠a
structure Ext(G:Gh)(H:Hp)(G':Gh)(H':Hp):Prop where
 keep:∀a o,H a=y0 o->et G a->H' a=y0 o
 le:G.n<=G'.n
 aP:∀r,r<G.n->G'.aP r=G.aP r
 new:∀r,G.n<=r->r<G'.n->H (G'.aP r)=u0
 fz:∀a,G.fz a->G'.fz a
 old:∀a,G'.fz a->G.fz a\/H a=u0
 cells:∀r,r<G.n->(∃o,H (G.aP r)=y0 o)->∃o,H' (G.aP r)=y0 o
def aj(Y:Ge)(G:Gh)(H:Hp):M.W->V->Prop
|.v d,v=>aD Y G H d v
|.own xs,v=>∃a b,v=.ref a/\¬G.fz a/\et G a/\H a=y0 (.lst b)/\aa Y G H xs b
|.bor xs,v=>∃a b,v=.ref a/\et G a/\Rd H a (.lst b)/\aa Y G H xs b
def gJ:M.W->Bool
|.own _=>k9
|.bor _=>k9
|_=>y9
structure ar(Y:Ge)(G:Gh)(τ:M.Sl)(h:M.AH)(U:St)(H:Hp):Prop where
 len:τ.length=U.length
 slot:∀i w,M.Gm τ i=y0 w->∃v,U[i]?=y0 (y0 v)/\aj Y G H w v
 apart:∀i j xs w a,i≠j->M.Gm τ i=y0 (.own xs)->M.Gm τ j=y0 w->gJ w=k9->U[i]?=y0 (y0 (.ref a))->U[j]?≠y0 (y0 (.ref a))
 heap:ah Y G h H
section
variable{Y:Ge}{G G' G1 G2:Gh}{H H' H1 H2:Hp}{h h':M.AH}{τ:M.Sl}{U:St}
def ah.cell (R:ah Y G h H)(r)(xs)(e:h[r]?=y0 (M.Cell.lst xs)):¬G.fz (G.aP r)/\∃vs,H (G.aP r)=y0 (.lst vs)/\aa Y G H xs vs:=⟨(R.any r _ e).1,(R.any r _ e).2.2⟩
def ah.pure (R:ah Y G h H)(r:Nat)(xs)(e:h[r]?=y0 (M.Cell.lst xs)):M.Gf xs=true:=(R.any r _ e).2.1
theorem ah.obj (R:ah Y G h H)(r)(c)(fs)(e:h[r]?=y0 (M.Cell.obj c fs)):¬G.fz (G.aP r)/\∃dx us,H (G.aP r)=y0 (.ins (Y.ca c) dx ((fs.map λp=>Str.ofString p.1).zip us))/\aa Y G H (fs.map (·.2)) us:=R.any r _ e
def ah.lt (R:ah Y G h H)(e:h[r]?=y0 c):r<G.n:=by rw[←R.len];exact(Aa8.mp e).1
def ah.at(R:ah Y G h H)(a:i<G.n):∃c,h[i]?=y0 c:=⟨_,Ab0 (by rw[R.len];exact a)⟩
def bD.there (z:bD Y G H a c):∃o,H a=y0 o:=by
 cases c with
|lst b=>obtain⟨_,_,z,_⟩:=z;exact⟨_,z⟩
|cZ d=>obtain⟨_,_,z,_⟩:=z;exact⟨_,z⟩
|obj c fs=>obtain⟨_,_,z,_⟩:=z;exact⟨_,z⟩
def ah.mL (r:ah Y G h H)(a:i<G.n):¬G.fz (G.aP i):=let⟨_,e⟩:=r.at a;(r.any i _ e).1
def ah.off (r:ah Y G h H)(c:G.fz a):et G a:=λi b z=>r.mL b (z▸c)
theorem ah.there (r:ah Y G h H)(a:i<G.n):∃o,H (G.aP i)=y0 o:=let⟨_,e⟩:=r.at a;(r.any i _ e).2.there
def Ext.refl:Ext G H G H:=⟨λ_ _ e _=>e,Aa9 _,λ_ _=>rfl,λr a b=>absurd a (An5.mpr b),λ_ z=>z,λ_ z=>.inl z,λ_ _ z=>z⟩
theorem Ext.none (e:Ext G H G' H')(d:ah Y G h H)(z:H' a=u0):H a=none:=by
 cases q:H a with
|none=>rfl
|some o=>
  by_cases b:et G a
  .rw[e.keep a o q b]at z;cases z
  .unfold et at b;have:∃r,r<G.n/\G.aP r=a:=Classical.byContradiction λg=>b λr d z=>g ⟨r,d,z⟩;obtain⟨r,c,rfl⟩:=this;obtain⟨i,f⟩:=e.cells r c ⟨o,q⟩;rw[z]at f;cases f
def Ext.off (e:Ext G H G' H')(f:H a=y0 o)(c:et G a):et G' a:=λr d z=>by
 by_cases b:r<G.n
 .rw[e.aP r b]at z;exact c r b z
 .have:=e.new r (Ap0.mp b) d;rw[z,f]at this;cases this
def Ext.trans (b:Ext G H G1 H1)(f:ah Y G h H)(d:Ext G1 H1 G2 H2):Ext G H G2 H2 where
 keep:=λa o z e=>d.keep a o (b.keep a o z e) (b.off z e)
 le:=Ab6 b.le d.le
 aP:=λr c=>by rw[d.aP r (Ab3 c b.le),b.aP r c]
 new:=λr g i=>by
  by_cases c:r<G1.n
  .rw[d.aP r c];exact b.new r g c
  .exact b.none f (d.new r (Ap0.mp c) i)
 fz:=λa z=>d.fz a (b.fz a z)
 old:=λa z=>(d.old a z).elim (λz=>b.old a z) λz=>.inr (b.none f z)
 cells:=λr c z=>by
  have:=d.cells r (Ab3 c b.le) (by rw[b.aP r c];exact b.cells r c z)
  rwa [b.aP r c]at this
def Ext.rd (e:Ext G H G' H')(z:Rd H a u)(b:et G a):Rd H' a u:=z.elim (λz=>.inl (e.keep a _ z b)) (by rintro⟨o,z⟩;exact .inr ⟨o,e.keep a _ z b⟩)
structure Mon(G:Gh)(H:Hp)(G':Gh)(H':Hp):Prop where
 keep:∀a o,G.fz a->H a=y0 o->H' a=y0 o
 le:G.n<=G'.n
 aP:∀r,r<G.n->G'.aP r=G.aP r
 fz:∀a,G.fz a->G'.fz a
def Ext.mon (e:Ext G H G' H')(b:ah Y G h H):Mon G H G' H':=⟨λa o z q=>e.keep a o q (b.off z),e.le,e.aP,e.fz⟩
def Mon.rd (e:Mon G H G' H')(z:Rd H a u)(b:G.fz a):Rd H' a u:=z.elim (λz=>.inl (e.keep a _ b z)) (by rintro⟨o,z⟩;exact .inr ⟨o,e.keep a _ b z⟩)
mutual
theorem aD.mon (e:Mon G H G' H'):∀{d:M.D}{v:V},aD Y G H d v->aD Y G' H' d v
|.ak,_,z=>z
|.bl _,_,z=>z
|.int _,_,z=>z
|.str _,_,z=>z
|.tup _,_,z7=>by obtain⟨a,vs,z1,z2,z3⟩:=z7;exact⟨a,vs,z1,z2.elim (λz=>.inl ⟨e.fz a z.1,e.keep a _ z.1 z.2⟩) λz=>.inr z,aa.mon e z3⟩
|.lst _,_,z7=>by obtain⟨a,vs,z1,z2,z3⟩:=z7;exact⟨a,vs,z1,z2.elim (λz=>.inl ⟨e.fz a z.1,e.rd z.2 z.1⟩) .inr,aa.mon e z3⟩
|.ref r,_,z7=>by obtain⟨z1,z2⟩:=z7;exact⟨Ab3 z1 e.le,by rw[e.aP r z1];exact z2⟩
|.exc c fs,_,z=>z.imp (by rintro⟨z0,x,z1,z2,z3,z4⟩;exact⟨z0,x,z1,e.fz x z2,e.keep x _ z2 z3,z4⟩) id
|.err c f d,_,z7=>by obtain⟨x,dx,u,z1,z2,z3,z4,z5,z6,z7,z8⟩:=z7;exact⟨x,dx,u,z1,e.fz x z2,e.fz dx z3,e.keep x _ z2 z4,e.keep dx _ z3 z5,z6,z7,aD.mon e z8⟩
 theorem aa.mon (e:Mon G H G' H'):∀{ds:List M.D}{vs:List V},aa Y G H ds vs->aa Y G' H' ds vs
|[],_,z=>z
|_::_,_,z7=>by obtain⟨v,r,z1,z2,z3⟩:=z7;exact⟨v,r,z1,aD.mon e z2,aa.mon e z3⟩
 end
theorem bD.mon (e:Mon G H G' H')(k:∀o,H a=y0 o->H' a=y0 o)(z:bD Y G H a c):bD Y G' H' a c:=by
 cases c with
|lst j=>obtain⟨f,h,b,d⟩:=z;exact⟨f,h,k _ b,d.mon e⟩
|cZ l=>obtain⟨f,g,b,d⟩:=z;exact⟨f,g,k _ b,d.mon e⟩
|obj c fs=>obtain⟨i,g,b,d⟩:=z;exact⟨i,g,k _ b,d.mon e⟩
def aD.ext (e:Ext G H G' H')(a:ah Y G h H)(z:aD Y G H d v):aD Y G' H' d v:=z.mon (e.mon a)
def aa.ext (e:Ext G H G' H')(a:ah Y G h H)(z:aa Y G H d v):aa Y G' H' d v:=z.mon (e.mon a)
theorem aj.ext (e:Ext G H G' H')(j:ah Y G h H)(z:aj Y G H w v):aj Y G' H' w v:=by
 cases w with
|v d=>exact aD.ext e j z
|own k=>
  obtain⟨a,f,g,l,c,b,i⟩:=z;refine⟨a,f,g,λq=>?_,e.off b c,e.keep a _ b c,aa.ext e j i⟩;obtain q|q:=e.old a q
  .exact l q
  .rw[b]at q;cases q
|bor k=>
  obtain⟨a,f,g,c,b,i⟩:=z;refine⟨a,f,g,?_,e.rd b c,aa.ext e j i⟩;obtain b|⟨o,b⟩:=b
  .exact e.off b c
  .exact e.off b c
theorem ar.ext (s:ar Y G τ h U H)(e:Ext G H G' H')(b:ah Y G' h' H'):ar Y G' τ h' U H' where
 len:=s.len
 slot:=λi w z=>let⟨v,a,c⟩:=s.slot i w z;⟨v,a,c.ext e s.heap⟩
 apart:=s.apart
 heap:=b
theorem aa.length:∀{ds}{vs},aa Y G H ds vs->ds.length=vs.length
|[],_,rfl=>rfl
|_::_,_,z7=>by obtain⟨_,_,rfl,_,z⟩:=z7;exact congrArg (·+1) (aa.length z)
theorem aa.get:∀{ds}{vs}{i:Nat}{d},aa Y G H ds vs->ds[i]?=y0 d->∃v,vs[i]?=y0 v/\aD Y G H d v
|[],_,_,_,_,e=>by simp at e
|_::_,_,0,_,z7,e=>by obtain⟨v,_,rfl,z,_⟩:=z7;simp at e;subst e;exact⟨v,rfl,z⟩
|_::_,_,i+1,_,z7,e=>by obtain⟨_,_,rfl,_,z⟩:=z7;obtain⟨v,a,b⟩:=aa.get z (by simpa using e);exact⟨v,by simpa using a,b⟩
theorem aa.append:∀{ds es}{vs us},aa Y G H ds vs->aa Y G H es us->aa Y G H (ds++es) (vs++us)
|[],_,_,_,rfl,z=>z
|_::_,_,_,_,z7,z=>by obtain⟨v,r,rfl,a,b⟩:=z7;exact⟨v,r++_,rfl,a,aa.append b z⟩
theorem aa.drop:∀{ds}{vs}(n),aa Y G H ds vs->aa Y G H (ds.drop n) (vs.drop n)
|_,_,0,z=>z
|[],_,_+1,rfl=>rfl
|_::_,_,n+1,z7=>by obtain⟨_,_,rfl,_,z⟩:=z7;exact aa.drop n z
theorem aa.take:∀{ds}{vs}(n),aa Y G H ds vs->aa Y G H (ds.take n) (vs.take n)
|_,_,0,_=>rfl
|[],_,_+1,rfl=>rfl
|_::_,_,n+1,z7=>by obtain⟨v,r,rfl,a,z⟩:=z7;exact⟨v,r.take n,rfl,a,aa.take n z⟩
theorem aa.set (z:aD Y G H d v):∀{ds}{vs} i,aa Y G H ds vs->aa Y G H (ds.set i d) (vs.set i v)
|[],_,_,rfl=>rfl
|_::_,_,0,z7=>by obtain⟨_,r,rfl,_,a⟩:=z7;exact⟨v,r,rfl,z,a⟩
|_::_,_,i+1,z7=>by obtain⟨u,r,rfl,b,a⟩:=z7;exact⟨u,r.set i v,rfl,b,aa.set z i a⟩
def Gh.more (G:Gh)(a:Addr):Gh:={G with fz:=λb=>G.fz b\/b=a}
def Xv(o)(b:H p=u0):Ext G H G (aJ H p o) where
 keep:=λa u z _=>by rw[ja (Xa z b)];exact z
 le:=Aa9 _
 aP:=λ_ _=>rfl
 new:=λr c d=>absurd c (An5.mpr d)
 fz:=λ_ z=>z
 old:=λ_ z=>.inl z
 cells:=(by rintro r _⟨u,z⟩;exact⟨u,by rw[ja (Xa z b)];exact z⟩)
def qh(o)(b:H p=u0):Ext G H (G.more p) (aJ H p o) where
 keep:=λa u z _=>by rw[ja (Xa z b)];exact z
 le:=Aa9 _
 aP:=λ_ _=>rfl
 new:=λr c d=>absurd c (An5.mpr d)
 fz:=λ_ z=>.inl z
 old:=λa z=>z.elim .inl λe=>.inr (e▸b)
 cells:=(by rintro r _⟨u,z⟩;exact⟨u,by rw[ja (Xa z b)];exact z⟩)
def ah.new (r:ah Y G h H)(o)(b:H p=u0):ah Y G h (aJ H p o) where
 len:=r.len
 any:=λi c z=>⟨(r.any i c z).1,(r.any i c z).2.mon ((Xv o b).mon r) λu q=>by rw[ja (Xa q b)];exact q⟩
 inj:=r.inj
 live:=λa z=>let⟨u,q⟩:=r.live a z;⟨u,by rw[ja (Xa q b)];exact q⟩
def ah.gd (r:ah Y G h H)(o)(b:H p=u0):ah Y (G.more p) h (aJ H p o) where
 len:=r.len
 any:=λi c z=>by obtain⟨f,d⟩:=r.any i c z;obtain⟨u,g⟩:=d.there;exact⟨λq=>q.elim f (Xa g b),d.mon ((qh o b).mon r) λu q=>by rw[ja (Xa q b)];exact q⟩
 inj:=r.inj
 live:=λa z=>z.elim (λz=>let⟨u,q⟩:=r.live a z;⟨u,by rw[ja (Xa q b)];exact q⟩) λe=>⟨o,by rw[e];exact zb⟩
def Qq(a):Mon G H (G.more a) H:=⟨λ_ _ _ z=>z,Aa9 _,λ_ _=>rfl,λ_ z=>.inl z⟩
theorem Ext.more (e:Ext G H G1 H1)(c:H a=Option.none):Ext G H (G1.more a) H1:=
 ⟨e.keep,e.le,e.aP,e.new,λb z=>.inl (e.fz b z),λb z=>z.elim (λz=>e.old b z) λz=>.inr (z▸c),e.cells⟩
theorem ah.more (r:ah Y G h H)(d:et G a)(f:∃o,H a=y0 o):ah Y (G.more a) h H where
 len:=r.len
 any:=λi c z=>⟨λq=>q.elim (r.any i c z).1 λe=>d i (r.lt z) e,(r.any i c z).2.mon (Qq a) λ_ q=>q⟩
 inj:=r.inj
 live:=λb z=>z.elim (λz=>r.live b z) λe=>e▸f
theorem aj.more (z:aj Y G H w v)(l:gJ w=k9->v≠.ref a):aj Y (G.more a) H w v:=by
 cases w with
|v d=>exact aD.mon (Qq a) z
|own j=>obtain⟨b,f,c,k,i,g,h⟩:=z;exact⟨b,f,c,λq=>q.elim k λe=>l rfl (e▸c),i,g,h.mon (Qq a)⟩
|bor j=>obtain⟨b,f,c,i,g,h⟩:=z;exact⟨b,f,c,i,g,h.mon (Qq a)⟩
theorem ar.more (s:ar Y G τ h U H)(b:et G a)(g:∃o,H a=y0 o)(f:∀i w,M.Gm τ i=y0 w->gJ w=k9->U[i]?≠y0 (y0 (.ref a))):ar Y (G.more a) τ h U H where
 len:=s.len
 slot:=λi w z=>by obtain⟨v,c,d⟩:=s.slot i w z;exact⟨v,c,d.more λq e=>f i w z q (e▸c)⟩
 apart:=s.apart
 heap:=s.heap.more b g
def aG(τ:M.Sl)(U:St)(H:Hp):M.W->V->Prop
|.v _,_=>True
|.own _,v=>∃a,v=.ref a/\H a=u0
|.bor _,v=>∃(i:Nat)(w:M.W),M.Gm τ i=y0 w/\gJ w=k9/\U[i]?=y0 (y0 v)
def aG.back (e:Ext G H G1 H1)(c:ah Y G h H)(z:aG τ U H1 w v):aG τ U H w v:=by
 cases w with
|v d=>trivial
|own f=>obtain⟨a,b,g⟩:=z;exact⟨a,b,e.none c g⟩
|bor f=>exact z
def ar.cS (s:ar Y G τ h U H)(e:M.Gm τ i=y0 w)(k:gJ w=k9)(q:U[i]?=y0 (y0 (.ref a))):∃o,H a=y0 o:=by
 obtain⟨v,f,g⟩:=s.slot i w e;rw[q]at f;cases f;cases w with
|v d=>cases k
|own l=>obtain⟨b,j,f,_,_,c,_⟩:=g;cases f;exact⟨_,c⟩
|bor l=>
  obtain⟨b,j,f,_,c,_⟩:=g;cases f;obtain c|⟨o,c⟩:=c
  .exact⟨_,c⟩
  .exact⟨_,c⟩
def oF(Y:Ge)(E:XK)(d:M.D)(G:Gh)(H:Hp):Prop:=(∀c,d=.exc c []->fc Y c->E (.ref (Y.ca c)) u0 H)∧
 ∀c f a,d=.err c f a->fc Y c->mG Y.K (Y.ca c) (Str.ofString f)->∀dx u,G.fz dx->H dx=y0 (.xd [(Str.ofString f,u)])->aD Y G H a u->E (.ref (Y.ca c)) (y0 dx) H
def ao{b:Type}(Y:Ge)(E:XK)(G:Gh)(H:Hp)(r:M.R b)(P:b->M.AH->Gh->Hp->Prop):Prop:=match r with
|.ok a h'=>∀G' H',Ext G H G' H'->ah Y G' h' H'->P a h' G' H'
|.exc d h'=>∀G' H',Ext G H G' H'->ah Y G' h' H'->oF Y E d G' H'
|.fail=>False
def ao.on (p:ao Y E G H r P)(e:Ext G H G1 H1)(i:ah Y G h H):ao Y E G1 H1 r P:=by
 cases r with
|ok a j=>exactλf c g b=>p f c (e.trans i g) b
|exc d j=>exactλf c g b=>p f c (e.trans i g) b
|fail=>exact p
def tD(Y:Ge)(E:XK)(m:M.Sl->M.AH->M.R M.W):TE:=λU H Q=>∃G τ h,ar Y G τ h U H/\ao Y E G H (m τ h) λw h' G' H'=>∀v,aj Y G' H' w v->aG τ U H w v->Q v H'
def cY(Y:Ge)(E:XK)(m:M.Sl->M.AH->M.R Bool):TT:=λU H Q=>∃G τ h,ar Y G τ h U H/\ao Y E G H (m τ h) λb _ _ H'=>Q b H'
def Wa(a:ah Y G0 h0 H0)(b:Ext G0 H0 G H)(s:ar Y G τ h U H)
 (p:ao Y E G0 H0 ((m τ h).bind f) P)
 (k:∀w v h1 G1 H1,Ext G0 H0 G1 H1->Ext G H G1 H1->ar Y G1 τ h1 U H1->aj Y G1 H1 w v->aG τ U H w v->ao Y E G0 H0 (f w h1) P->Q v H1):tD Y E m U H Q:=by
 refine⟨G,τ,h,s,?_⟩;cases q:m τ h with
|ok w h1=>rw[q]at p;exactλG1 H1 e g v c i=>k w v h1 G1 H1 (b.trans a e) e (s.ext e g) c i p
|exc d h1=>rw[q]at p;exact ao.on p b a
|fail=>rw[q]at p;exact p
def ZM(a:ah Y G0 h0 H0)(c:Ext G0 H0 G H)(s:ar Y G τ h U H)
 (p:ao Y E G0 H0 ((m τ h).bind f) P)
 (k:∀b h1 G1 H1,Ext G0 H0 G1 H1->Ext G H G1 H1->ar Y G1 τ h1 U H1->ao Y E G0 H0 (f b h1) P->Q b H1):cY Y E m U H Q:=by
 refine⟨G,τ,h,s,?_⟩;cases q:m τ h with
|ok w h1=>rw[q]at p;exactλG1 H1 e g=>k w h1 G1 H1 (c.trans a e) e (s.ext e g) p
|exc d h1=>rw[q]at p;exact ao.on p c a
|fail=>rw[q]at p;exact p
def kF(Y:Ge)(E:XK)(m:M.Sl->M.AH->M.R (List M.D)):TA:=λU H Q=>∃G τ h,ar Y G τ h U H/\ao Y E G H (m τ h) λds _ G' H'=>∀a,aa Y G' H' ds a->Q a H'
def bc(Y:Ge)(G:Gh)(H:Hp):List M.W->List V->Prop
|[],a=>a=[]
|w::b,a=>∃v r,a=v::r/\aj Y G H w v/\bc Y G H b r
theorem bc.ext (e:Ext G H G' H')(a:ah Y G h H):∀{ws}{vs},bc Y G H ws vs->bc Y G' H' ws vs
|[],_,z=>z
|_::_,_,z7=>by obtain⟨v,r,b,d,c⟩:=z7;exact⟨v,r,b,aj.ext e a d,bc.ext e a c⟩
theorem bc.length:∀{ws}{vs},bc Y G H ws vs->ws.length=vs.length
|[],_,rfl=>rfl
|_::_,_,z7=>by obtain⟨_,_,rfl,_,z⟩:=z7;exact congrArg (·+1) (bc.length z)
def f7(Y:Ge)(E:XK)(m:M.Sl->M.AH->M.R (List M.W)):TA:=λU H Q=>∃G τ h,ar Y G τ h U H/\ao Y E G H (m τ h) λb _ G' H'=>∀a,bc Y G' H' b a->Q a H'
def qZ(a:ah Y G0 h0 H0)(b:Ext G0 H0 G H)(s:ar Y G τ h U H)
 (p:ao Y E G0 H0 ((m τ h).bind f) P)
 (k:∀ds vs h1 G1 H1,Ext G0 H0 G1 H1->Ext G H G1 H1->ar Y G1 τ h1 U H1->aa Y G1 H1 ds vs->ao Y E G0 H0 (f ds h1) P->Q vs H1):kF Y E m U H Q:=by
 refine⟨G,τ,h,s,?_⟩;cases q:m τ h with
|ok w h1=>rw[q]at p;exactλG1 H1 e c vs z=>k w vs h1 G1 H1 (b.trans a e) e (s.ext e c) z p
|exc d h1=>rw[q]at p;exact ao.on p b a
|fail=>rw[q]at p;exact p
def Zo(a:ah Y G0 h0 H0)(b:Ext G0 H0 G H)(s:ar Y G τ h U H)
 (p:ao Y E G0 H0 ((m τ h).bind f) P)
 (k:∀ds vs h1 G1 H1,Ext G0 H0 G1 H1->Ext G H G1 H1->ar Y G1 τ h1 U H1->bc Y G1 H1 ds vs->ao Y E G0 H0 (f ds h1) P->Q vs H1):f7 Y E m U H Q:=by
 refine⟨G,τ,h,s,?_⟩;cases q:m τ h with
|ok w h1=>rw[q]at p;exactλG1 H1 e c vs z=>k w vs h1 G1 H1 (b.trans a e) e (s.ext e c) z p
|exc d h1=>rw[q]at p;exact ao.on p b a
|fail=>rw[q]at p;exact p
theorem ao.of (p:ao Y E G H ((M.R.of h o).bind f) P):∃b,o=y0 b/\ao Y E G H (f b h) P:=by
 cases o with
|none=>exact p.elim
|some b=>exact⟨b,rfl,p⟩
def ao.at(p:ao Y E G H (.ok a h) P)(e:Ext G H G1 H1)(b:ah Y G1 h H1):P a h G1 H1:=p G1 H1 e b
def oN(e:Ext G H G1 H1)(s:ar Y G1 τ h U H1)(x:ar Y G τ h' U H)(r:aj Y G1 H1 w v)(f:aG τ U H w v)(c:w.d=y0 d):
 ∃G2,Ext G H G2 H1/\ar Y G2 τ h U H1/\aD Y G2 H1 d v/\Mon G1 H1 G2 H1:=by
 cases w with
|v y=>cases c;exact⟨G1,e,s,r,⟨λ_ _ _ z=>z,Aa9 _,λ_ _=>rfl,λ_ z=>z⟩⟩
|own p=>cases c;obtain⟨a,l,rfl,A,t,j,m⟩:=r;obtain⟨b,u,g⟩:=f;cases u;refine⟨G1.more a,e.more g,s.more t ⟨_,j⟩ λi w q n z=>?_,⟨a,l,rfl,.inl ⟨.inr rfl,.inl j⟩,m.mon (Qq a)⟩,Qq a⟩;obtain⟨o,k⟩:=x.cS q n z;rw[g]at k;cases k
|bor p=>cases c
end
open PySem PySem.Spec PyProof.Rows
mutual
def RV(hp:Heap):M.D->Value->Prop
|.ak,u=>u=.none
|.bl b,u=>u=.bool b
|.int i,u=>∃t,u=.int i t
|.str s,u=>∃t,u=.str (ba s) t
|.tup ds,u=>∃(a:Addr)(its:List Value),u=.ref a/\IsTup hp a its.toArray/\cu hp ds its
|.lst ds,u=>∃(a:Addr)(its:List Value),u=.ref a/\hp.IsList a its.toArray/\cu hp ds its
|.ref _,_=>False
|.exc _ _,_=>False
|.err _ _ _,_=>False
def cu(hp:Heap):List M.D->List Value->Prop
|[],us=>us=[]
|d::ds,us=>∃u r,us=u::r/\RV hp d u/\cu hp ds r
end
theorem cu.length:∀{ds}{us},cu hp ds us->ds.length=us.length
|[],_,rfl=>rfl
|_::_,_,z7=>by obtain⟨_,_,rfl,_,z⟩:=z7;exact congrArg (·+1) (cu.length z)
theorem cu.get:∀{ds}{us}{j:Nat}{u},cu hp ds us->us[j]?=y0 u->∃d,ds[j]?=y0 d/\RV hp d u
|[],_,_,_,rfl,e=>by simp at e
|d::_,_,0,_,z7,e=>by obtain⟨v,_,rfl,z,_⟩:=z7;simp at e;subst e;exact⟨d,rfl,z⟩
|_::_,_,j+1,_,z7,e=>by obtain⟨_,_,rfl,_,z⟩:=z7;obtain⟨v,a,b⟩:=cu.get z (by simpa using e);exact⟨v,by simpa using a,b⟩
section
variable{X:Cx}{Y:Ge}{G:Gh}{H:Hp}{h:M.AH}{pins:List (Addr×Obj)}{U:St}{s:Shared}
mutual
theorem aD.lz (I:Inv X pins U H s)(hK:X.K=Y.K):∀{d:M.D}{x:V}{u:Value},aD Y G H d x->RelV x u->M.Gc d=k9->RV s.heap d u
|.ak,_,_,rfl,r,_=>r
|.bl _,_,_,rfl,r,_=>r
|.int _,_,_,rfl,r,_=>r
|.str _,_,_,rfl,r,_=>r
|.tup ds,_,_,⟨a,vs,rfl,z2,z3⟩,r,n=>by cases r;obtain⟨its,r1,p1,_⟩:=I.tuple (hK▸z2.sq);exact⟨a,its,rfl,p1,aa.lz I hK z3 r1 (by simpa[M.Gc]using n)⟩
|.lst ds,_,_,⟨a,vs,rfl,z2,z3⟩,r,n=>by cases r;obtain⟨its,r1,p1,_⟩:=I.list (hK▸z2.sq);exact⟨a,its,rfl,p1.isList,aa.lz I hK z3 r1 (by simpa[M.Gc]using n)⟩
|.ref _,_,_,_,_,n=>by simp[M.Gc]at n
|.exc _ _,_,_,_,_,n=>by simp[M.Gc]at n
|.err _ _ _,_,_,_,_,n=>by simp[M.Gc]at n
theorem aa.lz (I:Inv X pins U H s)(hK:X.K=Y.K):∀{ds:List M.D}{xs:List V}{us:List Value},aa Y G H ds xs->Vals xs us->M.Gf ds=k9->cu s.heap ds us
|[],_,_,rfl,.nil,_=>rfl
|d::ds,_,_,⟨v,r,rfl,z1,z2⟩,.cons r1 r2,n=>by
  have n':M.Gc d=k9/\M.Gf ds=true:=by simpa[M.Gf]using n
  exact⟨_,_,rfl,aD.lz I hK z1 r1 n'.1,aa.lz I hK z2 r2 n'.2⟩
end
mutual
theorem aD.rv (I:Inv X pins U H s)(hK:X.K=Y.K)(hr:ah Y G h H):∀{d:M.D}{x:V}{u:Value},aD Y G H d x->RelV x u->M.Gc (M.res h d)=k9->RV s.heap (M.res h d) u
|.ak,_,_,rfl,r,_=>r
|.bl _,_,_,rfl,r,_=>r
|.int _,_,_,rfl,r,_=>r
|.str _,_,_,rfl,r,_=>r
|.tup ds,_,_,⟨a,vs,rfl,z2,z3⟩,r,n=>by cases r;obtain⟨its,r1,p1,_⟩:=I.tuple (hK▸z2.sq);rw[M.res]at n⊢;exact⟨a,its,rfl,p1,aa.rv I hK hr z3 r1 (by simpa[M.Gc]using n)⟩
|.lst ds,_,_,⟨a,vs,rfl,z2,z3⟩,r,n=>by cases r;obtain⟨its,r1,p1,_⟩:=I.list (hK▸z2.sq);rw[M.res]at n⊢;exact⟨a,its,rfl,p1.isList,aa.rv I hK hr z3 r1 (by simpa[M.Gc]using n)⟩
|.ref i,_,_,⟨hi,e⟩,r,n=>by
  subst e;cases r;rw[M.res]at n⊢;cases q:h[i]? with
  |none=>rw[q]at n;simp[M.Gc]at n
  |some c=>
   cases c with
  |lst xs=>rw[q]at n;obtain⟨_,vs,z2,z3⟩:=hr.cell i xs q;obtain⟨its,r1,p1,_⟩:=I.list (br.of (K:=X.K) z2);exact⟨_,its,rfl,p1.isList,aa.lz I hK z3 r1 (by simpa[M.Gc]using n)⟩
  |obj c fs=>rw[q]at n;simp[M.Gc]at n
  |cZ ks=>rw[q]at n;simp[M.Gc]at n
|.exc _ _,_,_,_,_,n=>by simp[M.res,M.Gc]at n
|.err _ _ _,_,_,_,_,n=>by simp[M.res,M.Gc]at n
theorem aa.rv (I:Inv X pins U H s)(hK:X.K=Y.K)(hr:ah Y G h H):∀{ds:List M.D}{xs:List V}{us:List Value},aa Y G H ds xs->Vals xs us->M.Gf (M.GR h ds)=k9->cu s.heap (M.GR h ds) us
|[],_,_,rfl,.nil,_=>rfl
|d::ds,_,_,⟨v,r,rfl,z1,z2⟩,.cons r1 r2,n=>by
  rw[M.GR]at n⊢;have n':M.Gc (M.res h d)=k9/\M.Gf (M.GR h ds)=true:=by simpa[M.Gf]using n
  exact⟨_,_,rfl,aD.rv I hK hr z1 r1 n'.1,aa.rv I hK hr z2 r2 n'.2⟩
end
theorem aj.rv (I:Inv X pins U H s)(i:X.K=Y.K)(g:ah Y G h H)(z:aj Y G H w x)(r:RelV x u)(n:M.Gc (w.dd h)=k9):RV s.heap (w.dd h) u:=by
 cases w with
|v d=>exact aD.rv I i g z r n
|own l=>obtain⟨a,k,rfl,_,_,j,f⟩:=z;cases r;obtain⟨b,c,e,_⟩:=I.list (br.of j);exact⟨a,b,rfl,e.isList,aa.rv I i g f c (by simp_all)⟩
|bor l=>obtain⟨a,k,rfl,_,j,f⟩:=z;cases r;obtain⟨b,c,e,_⟩:=I.list (.inl j);exact⟨a,b,rfl,e.isList,aa.rv I i g f c (by simp_all)⟩
end
def WO(h:ba a=ba b):a=b:=by have:=congrArg Str.cps h;simpa[ba]using this
def XR{xs ys:List Value}(h1:IsTup hp a xs.toArray)(d:IsTup hp a ys.toArray):xs=ys:=by obtain⟨o,e1,_,n,c⟩:=h1;obtain⟨f,e2,_,e,b⟩:=d;rw[e1]at e2;cases e2;rw[c]at b;cases b;rfl
def QI{c:Heap}{xs ys:List Value}(h1:c.IsList a xs.toArray)(e:c.IsList a ys.toArray):xs=ys:=by obtain⟨o,e1,_,n,d⟩:=h1;obtain⟨g,e2,_,f,b⟩:=e;rw[e1]at e2;cases e2;rw[d]at b;cases b;rfl
def zz(h1:IsTup hp a xs)(d:hp.IsList a ys):False:=by obtain⟨o,e1,c,_⟩:=h1;obtain⟨e,e2,b,_⟩:=d;rw[e1]at e2;cases e2;rw[c]at b;exact absurd b (by decide)
mutual
theorem RV.inj {hp:Heap}:∀{d e:M.D}{u:Value},RV hp d u->RV hp e u->d=e
|.ak,e,_,rfl,q=>by cases e<;>first|rfl|(simp[RV]at q)
|.bl _,e,_,rfl,q=>by cases e<;>first|(simp[RV]at q;done)|(have q:=q;simp[RV]at q;try rw[q])
|.int _,e,_,z7,q=>by obtain⟨t,rfl⟩:=z7;cases e<;>first|(simp[RV]at q;done)|(have q:=q;simp[RV]at q;try rw[q])
|.str _,e,_,z7,q=>by
  obtain⟨t,rfl⟩:=z7;cases e with
  |str z=>
   obtain⟨t',q⟩:=q;injection q with q1 q2
   rw[WO q1]
  |_=>simp[RV]at q
|.tup ds,e,_,z7,q=>by
  obtain⟨a,its,rfl,p,r⟩:=z7;cases e with
  |tup es=>obtain⟨b,its2,e,p2,r2⟩:=q;cases e;cases XR p p2;rw[cu.inj r r2]
  |lst es=>obtain⟨b,its2,e,p2,r2⟩:=q;cases e;exact(zz p p2).elim
  |_=>simp[RV]at q
|.lst ds,e,_,z7,q=>by
  obtain⟨a,its,rfl,p,r⟩:=z7;cases e with
  |lst es=>obtain⟨b,its2,e,p2,r2⟩:=q;cases e;cases QI p p2;rw[cu.inj r r2]
  |tup es=>obtain⟨b,its2,e,p2,r2⟩:=q;cases e;exact(zz p2 p).elim
  |_=>simp[RV]at q
|.ref _,_,_,q,_=>q.elim
|.exc _ _,_,_,q,_=>q.elim
|.err _ _ _,_,_,q,_=>q.elim
theorem cu.inj {hp:Heap}:∀{d e:List M.D}{u:List Value},cu hp d u->cu hp e u->d=e
|[],e,_,rfl,q=>by
  cases e with
  |nil=>rfl
  |cons a b=>obtain⟨_,_,z,_⟩:=q;cases z
|d::ds,e,_,z7,q=>by
  obtain⟨u,r,rfl,z1,z2⟩:=z7;cases e with
|nil=>cases(show _::_=[]from q)
|cons a b=>obtain⟨_,_,z,y1,y2⟩:=q;cases z;rw[RV.inj z1 y1,cu.inj z2 y2]
end
mutual
theorem RV.refl {hp:Heap}:∀{d:M.D}{u:Value},RV hp d u->M.cn d d=k9
|.ak,_,_=>rfl
|.bl _,_,_=>by simp
|.int _,_,_=>by simp
|.str _,_,_=>by simp
|.tup ds,_,z7=>by obtain⟨_,_,_,_,r⟩:=z7;rw[M.cn];exact cu.refl r
|.lst ds,_,z7=>by obtain⟨_,_,_,_,r⟩:=z7;rw[M.cn];exact cu.refl r
|.ref _,_,q=>q.elim
|.exc _ _,_,q=>q.elim
|.err _ _ _,_,q=>q.elim
theorem cu.refl {hp:Heap}:∀{d:List M.D}{u:List Value},cu hp d u->M.GK d d=k9
|[],_,_=>rfl
|d::ds,_,z7=>by obtain⟨_,_,_,z1,z2⟩:=z7;exact by rw[M.GK,RV.refl z1,cu.refl z2];rfl
 end
def kz(xs ys:List M.D)(j:Nat):Bool:=match xs[j]?,ys[j]? with
|some a,y0 b=>M.cn a b
|_,_=>k9
def qI(n)(e):(Ab1 (n+1)).all e=(e 0&&(Ab1 n).all λj=>e (j+1)):=by rw[Ak,Al1,List.all_map];rfl
theorem J2:∀(xs ys),xs.length=ys.length->(Ab1 xs.length).all (kz xs ys)=M.GK xs ys
|[],[],_=>rfl
|[],_::_,h=>by simp at h
|_::_,[],h=>by simp at h
|x::xs,y::ys,h=>by rw[Aa7,qI,M.GK];have a:=J2 xs ys (by simpa using h);rw[←a];rfl
theorem vI:∀(xs ys),M.GK xs ys=k9->xs.length=ys.length
|[],[],_=>rfl
|[],_::_,h=>by simp at h
|_::_,[],h=>by simp at h
|x::xs,y::ys,h=>by rw[M.GK,Aa0]at h;rw[Aa7,Aa7,vI xs ys h.2]
def uf(h:xs.length≠ys.length):M.GK xs ys=false:=by
 cases e:M.GK xs ys with
|false=>rfl
|true=>exact absurd (vI xs ys e) h
open SeqAt in
structure dZ(A:Around)(s:Shared)(u v:Value)(b:Bool):Prop where
 rc:RcAt A s u v b
 ne:RcNeAt A s u v (!b)
 eq:EqAt A s u v b
section
open SeqAt
variable{A:Around}{s:Shared}
theorem QB:∀{ds}{j:Nat}{d},ds[j]?=y0 d->M.dep d<=M.GD ds
|[],_,_,e=>by simp at e
|x::a,0,d,e=>by simp at e;subst e;simp only[M.GD];omega
|x::a,j+1,d,e=>by have:=QB (by simpa using e);simp only[M.GD];omega
def uj(b:Bool):((if b then(1:Int)else 0))=((b.toNat:Nat):Int):=by cases b<;>rfl
def Ln(a b):(ba a==ba b)=(a==b):=by
 by_cases h:a=b
 .subst h;simp
 .have c:=λe=>h (WO e);rw[beq_eq_false_iff_ne.mpr h,beq_eq_false_iff_ne.mpr c]
def HU(g:s.heap.IsList l its.toArray)(h:s.heap.IsList b its2.toArray)(k:cu s.heap xs its)(m:cu s.heap ys its2)(i:A.units<cLine)
 (t:∀(j:Nat) a c u v,xs[j]?=y0 a->ys[j]?=y0 c->RV s.heap a u->RV s.heap c v->EqAt A.in1 s u v (M.cn a c)):dZ A s (.ref l) (.ref b) (M.GK xs ys):=by
 have n:∀j w (z:j<its2.toArray.size),EqAt A.in1 s its.toArray[j] its2.toArray[j] (kz xs ys j):=λj w z=>by obtain⟨a,p,x⟩:=k.get (j:=j) (u:=its.toArray[j]) (by simp);obtain⟨c,o,y⟩:=m.get (j:=j) (u:=its2.toArray[j]) (by simp);have:=t j a c _ _ p o x y;unfold kz;rw[p,o];exact this
 have r:=k.length;have l2:=m.length;have two:RcAt A s (.ref l) (.ref b) (M.GK xs ys)/\RcNeAt A s (.ref l) (.ref b) (!M.GK xs ys):=by
  by_cases q:xs.length=ys.length
  .have d:its.toArray.size=its2.toArray.size:=by simp;lia
   have e:(Ab1 its.toArray.size).all (kz xs ys)=M.GK xs ys:=by rw[Ab2,←r];exact J2 xs ys q
   have a:=RcAt.lists g h d i n;have c:=RcNeAt.lists g h d i n;rw[e]at a c;exact⟨a,c⟩
  .have d:(its.toArray.size !=its2.toArray.size)=true:=by simp;lia
   rw[uf q];exact⟨RcAt.lists_lengths g h d i,RcNeAt.lists_lengths g h d i⟩
 refine⟨two.1,two.2,?_⟩;by_cases f:l=b
 .subst f;cases QI g h;cases cu.inj k m;rw[cu.refl k];exact EqAt.same _
 .exact EqAt.of_refs f two.1
def Ll(h:IsTup s.heap l its.toArray)(k:IsTup s.heap b its2.toArray)(f:cu s.heap xs its)(i:cu s.heap ys its2)(n:A.units<cLine)
 (q:∀(j:Nat) a c u v,xs[j]?=y0 a->ys[j]?=y0 c->RV s.heap a u->RV s.heap c v->EqAt A.in1 s u v (M.cn a c)):dZ A s (.ref l) (.ref b) (M.GK xs ys):=by
 have m:∀j r (x:j<its2.toArray.size),EqAt A.in1 s its.toArray[j] its2.toArray[j] (kz xs ys j):=λj r x=>by obtain⟨a,p,t⟩:=f.get (j:=j) (u:=its.toArray[j]) (by simp);obtain⟨c,o,w⟩:=i.get (j:=j) (u:=its2.toArray[j]) (by simp);have:=q j a c _ _ p o t w;unfold kz;rw[p,o];exact this
 have e:((Ab1 (min its.toArray.size its2.toArray.size)).all (kz xs ys)&&its.toArray.size==its2.toArray.size)=M.GK xs ys:=by
  rw[Ab2,Ab2,←f.length,←i.length];by_cases g:xs.length=ys.length
  .rw[←g,Nat.min_self,J2 xs ys g];simp
  .rw[uf g];simp[g]
 have a:=RcAt.tuples h k n m;have c:=RcNeAt.tuples h k n m;rw[e]at a c;refine⟨a,c,?_⟩;by_cases d:l=b
 .subst d;cases XR h k;cases cu.inj f i;rw[cu.refl f];exact EqAt.same _
 .exact EqAt.of_refs d a
def dZ.of (h:dZ A s u v b)(e:b=b'):dZ A s u v b':=e▸h
def pR:∀(n:Nat)(d e:M.D)(A:Around)(u v:Value),M.dep d<=n->A.units+n<cLine->RV s.heap d u->RV s.heap e v->dZ A s u v (M.cn d e):=by
 intro n;induction n with
|zero=>
  intro d e A u v B K m f;have c:A.units<cLine:=by omega
  cases d with
  |ak=>
   cases(show u=.none from m);cases e with
   |ak=>cases(show v=.none from f);exact⟨RcAt.none_none,RcNeAt.none_none,EqAt.same _⟩
   |bl b=>cases(show v=.bool b from f);exact⟨RcAt.none_bool b,RcNeAt.none_bool b,EqAt.none_bool b⟩
   |int i=>obtain⟨t,rfl⟩:=f;exact⟨RcAt.none_int i t,RcNeAt.none_int i t,EqAt.none_int i t⟩
   |str z=>obtain⟨t,rfl⟩:=f;exact⟨RcAt.none_str _ t,RcNeAt.none_str _ t,EqAt.none_str _ t⟩
   |tup o=>obtain⟨a,k,rfl,p,_⟩:=f;exact⟨RcAt.none_tuple p c,RcNeAt.none_tuple p c,EqAt.none_tuple p c⟩
   |lst o=>obtain⟨a,k,rfl,p,_⟩:=f;exact⟨RcAt.none_list p c,RcNeAt.none_list p c,EqAt.none_list p c⟩
   |ref _=>exact f.elim
   |exc _ _=>exact f.elim
   |err _ _ _=>exact f.elim
  |bl x=>
   cases(show u=.bool x from m);cases e with
   |ak=>cases(show v=.none from f);exact⟨RcAt.bool_none x,RcNeAt.bool_none x,EqAt.bool_none x⟩
   |bl b=>cases(show v=.bool b from f);exact⟨RcAt.bool_bool x b,RcNeAt.bool_bool x b,EqAt.bool_bool x b⟩
   |int i=>obtain⟨t,rfl⟩:=f;exact(dZ.mk (RcAt.bool_int x i t) (RcNeAt.bool_int x i t) (EqAt.bool_int x i t)).of (by rw[uj];rfl)
   |str z=>obtain⟨t,rfl⟩:=f;exact⟨RcAt.bool_str x _ t,RcNeAt.bool_str x _ t,EqAt.bool_str x _ t⟩
   |tup o=>obtain⟨a,k,rfl,p,_⟩:=f;exact⟨RcAt.bool_tuple x p c,RcNeAt.bool_tuple x p c,EqAt.bool_tuple x p c⟩
   |lst o=>obtain⟨a,k,rfl,p,_⟩:=f;exact⟨RcAt.bool_list x p c,RcNeAt.bool_list x p c,EqAt.bool_list x p c⟩
   |ref _=>exact f.elim
   |exc _ _=>exact f.elim
   |err _ _ _=>exact f.elim
  |int x=>
   obtain⟨g,rfl⟩:=m;cases e with
   |ak=>cases(show v=.none from f);exact⟨RcAt.int_none x g,RcNeAt.int_none x g,EqAt.int_none x g⟩
   |bl b=>cases(show v=.bool b from f);exact(dZ.mk (RcAt.int_bool x g b) (RcNeAt.int_bool x g b) (EqAt.int_bool x g b)).of (by rw[uj];rfl)
   |int i=>obtain⟨t,rfl⟩:=f;exact⟨RcAt.int_int x g i t,RcNeAt.int_int x g i t,EqAt.int_int x g i t⟩
   |str z=>obtain⟨t,rfl⟩:=f;exact⟨RcAt.int_str x g _ t,RcNeAt.int_str x g _ t,EqAt.int_str x g _ t⟩
   |tup o=>obtain⟨a,k,rfl,p,_⟩:=f;exact⟨RcAt.int_tuple x g p c,RcNeAt.int_tuple x g p c,EqAt.int_tuple x g p c⟩
   |lst o=>obtain⟨a,k,rfl,p,_⟩:=f;exact⟨RcAt.int_list x g p c,RcNeAt.int_list x g p c,EqAt.int_list x g p c⟩
   |ref _=>exact f.elim
   |exc _ _=>exact f.elim
   |err _ _ _=>exact f.elim
  |str x=>
   obtain⟨g,rfl⟩:=m;cases e with
   |ak=>cases(show v=.none from f);exact⟨RcAt.str_none _ g,RcNeAt.str_none _ g,EqAt.str_none _ g⟩
   |bl b=>cases(show v=.bool b from f);exact⟨RcAt.str_bool _ g b,RcNeAt.str_bool _ g b,EqAt.str_bool _ g b⟩
   |int i=>obtain⟨t,rfl⟩:=f;exact⟨RcAt.str_int _ g i t,RcNeAt.str_int _ g i t,EqAt.str_int _ g i t⟩
   |str z=>obtain⟨t,rfl⟩:=f;exact(dZ.mk (RcAt.str_str _ g _ t) (RcNeAt.str_str _ g _ t) (EqAt.str_str _ g _ t)).of (by rw[Ln];rfl)
   |tup o=>obtain⟨a,k,rfl,p,_⟩:=f;exact⟨RcAt.str_tuple _ g p c,RcNeAt.str_tuple _ g p c,EqAt.str_tuple _ g p c⟩
   |lst o=>obtain⟨a,k,rfl,p,_⟩:=f;exact⟨RcAt.str_list _ g p c,RcNeAt.str_list _ g p c,EqAt.str_list _ g p c⟩
   |ref _=>exact f.elim
   |exc _ _=>exact f.elim
   |err _ _ _=>exact f.elim
  |tup y=>simp only[M.dep]at B;omega
  |lst y=>simp only[M.dep]at B;omega
  |ref _=>exact m.elim
  |exc _ _=>exact m.elim
  |err _ _ _=>exact m.elim
|succ n w=>
  intro d e A u v B K m f;have c:A.units<cLine:=by omega
  cases d with
|tup y=>
   obtain⟨l,C,rfl,h,I⟩:=m;have r:M.GD y<=n:=by simp only[M.dep]at B;omega
   cases e with
   |ak=>cases(show v=.none from f);exact⟨RcAt.tuple_none h c,RcNeAt.tuple_none h c,EqAt.tuple_none h c⟩
   |bl b=>cases(show v=.bool b from f);exact⟨RcAt.tuple_bool b h c,RcNeAt.tuple_bool b h c,EqAt.tuple_bool b h c⟩
   |int i=>obtain⟨t,rfl⟩:=f;exact⟨RcAt.tuple_int i t h c,RcNeAt.tuple_int i t h c,EqAt.tuple_int i t h c⟩
   |str z=>obtain⟨t,rfl⟩:=f;exact⟨RcAt.tuple_str _ t h c,RcNeAt.tuple_str _ t h c,EqAt.tuple_str _ t h c⟩
   |tup o=>obtain⟨a,k,rfl,p,q⟩:=f;rw[M.cn];exact Ll h p I q c λj F J H E e1 e2 G D=>(w F J A.in1 H E (Ab6 (QB e1) r) (by show A.units+1+n<cLine;omega) G D).eq
   |lst o=>obtain⟨a,k,rfl,p,_⟩:=f;exact⟨RcAt.tuple_list h p c,RcNeAt.tuple_list h p c,EqAt.tuple_list h p c⟩
   |ref _=>exact f.elim
   |exc _ _=>exact f.elim
   |err _ _ _=>exact f.elim
|lst y=>
   obtain⟨l,C,rfl,h,I⟩:=m;have r:M.GD y<=n:=by simp only[M.dep]at B;omega
   cases e with
   |ak=>cases(show v=.none from f);exact⟨RcAt.list_none h c,RcNeAt.list_none h c,EqAt.list_none h c⟩
   |bl b=>cases(show v=.bool b from f);exact⟨RcAt.list_bool b h c,RcNeAt.list_bool b h c,EqAt.list_bool b h c⟩
   |int i=>obtain⟨t,rfl⟩:=f;exact⟨RcAt.list_int i t h c,RcNeAt.list_int i t h c,EqAt.list_int i t h c⟩
   |str z=>obtain⟨t,rfl⟩:=f;exact⟨RcAt.list_str _ t h c,RcNeAt.list_str _ t h c,EqAt.list_str _ t h c⟩
   |lst o=>obtain⟨a,k,rfl,p,q⟩:=f;rw[M.cn];exact HU h p I q c λj F J H E e1 e2 G D=>(w F J A.in1 H E (Ab6 (QB e1) r) (by show A.units+1+n<cLine;omega) G D).eq
   |tup o=>obtain⟨a,k,rfl,p,_⟩:=f;exact⟨RcAt.list_tuple h p c,RcNeAt.list_tuple h p c,EqAt.list_tuple h p c⟩
   |ref _=>exact f.elim
   |exc _ _=>exact f.elim
   |err _ _ _=>exact f.elim
|ak=>exact w .ak e A u v (by simp) (by omega) m f
|bl x=>exact w _ e A u v (by simp) (by omega) m f
|int x=>exact w _ e A u v (by simp) (by omega) m f
|str x=>exact w _ e A u v (by simp) (by omega) m f
|ref _=>exact m.elim
|exc _ _=>exact m.elim
|err _ _ _=>exact m.elim
end
def av(Y:Ge)(E:XK)(G:Gh)(H:Hp)(r:M.R M.W)(Q:VK):Prop:=ao Y E G H r λw _ G' H'=>∀v,aj Y G' H' w v->aG [] [] H w v->Q v H'
section
variable{X:Cx}{Y:Ge}{G:Gh}{H:Hp}{h:M.AH}{pins:List (Addr×Obj)}{U:St}{s:Shared}{Q:VK}{E:XK}
theorem av.v (p:av Y E G H (.ok (.v d) h) Q)(a:ah Y G h H){v:V}(z:aD Y G H d v):Q v H:=p G H Ext.refl a v z trivial
def ah.l3 (b:ah Y G h H)(c:H a=u0):¬G.fz a:=λq=>by obtain⟨o,z⟩:=b.live a q;rw[c]at z;cases z
def ah.i7 (b:ah Y G h H)(d:H a=u0):et G a:=λr c e=>by obtain⟨o,q⟩:=b.there c;rw[e,d]at q;cases q
theorem av.own (p:av Y E G H (.ok (.own xs) h) Q)(c:ah Y G h H)(z:aa Y G H xs vs)(a)(b:H a=u0):Q (.ref a) (aJ H a (.lst vs)):=
 p G _ (Xv _ b) (c.new _ b) _ ⟨a,vs,rfl,c.l3 b,c.i7 b,zb,z.ext (Xv _ b) c⟩ ⟨a,rfl,b⟩
theorem av.tup (p:av Y E G H (.ok (.v (.tup xs)) h) Q)(c:ah Y G h H)(z:aa Y G H xs vs)(a)(b:H a=u0):Q (.ref a) (aJ H a (.tup vs)):=
 p _ _ (qh _ b) (c.gd _ b) _ ⟨a,vs,rfl,.inl ⟨.inr rfl,zb⟩,z.ext (qh _ b) c⟩ trivial
theorem av.of (p:av Y E G H ((M.R.of h o).bind f) Q):∃b,o=y0 b/\av Y E G H (f b h) Q:=ao.of p
def av.mk (p:ao Y E G0 H0 r λw _ G' H'=>∀v,aj Y G' H' w v->aG τ U H0 w v->Q v H')(e:Ext G0 H0 G H)(g:ah Y G0 h0 H0):av Y E G H r Q:=by
 cases r with
|ok w k=>
  refineλG' H' c b v l h=>p G' H' (e.trans g c) b v l ?_;cases w with
  |v d=>trivial
  |own m=>obtain⟨a,f,j⟩:=h;exact⟨a,f,e.none g j⟩
  |bor m=>obtain⟨i,w,f,_⟩:=h;simp at f
|exc d k=>exactλG' H' c b=>p G' H' (e.trans g c) b
|fail=>exact p
theorem aj.lst (j:ah Y G h H)(z:aj Y G H w v)(e:w.cw h=y0 xs):∃a vs,v=.ref a/\br Y.K H a vs/\aa Y G H xs vs:=by
 cases w with
|v d=>
  cases d with
  |lst i=>cases e;obtain⟨a,vs,b,f,g⟩:=z;exact⟨a,vs,b,f.sq,g⟩
  |ref r=>
   obtain⟨k,b⟩:=z;have e:(match h[r]? with|some (M.Cell.lst zs)=>y0 zs|_=>u0)=y0 xs:=e;cases q:h[r]? with
   |none=>rw[q]at e;cases e
   |some c=>
    cases c with
   |lst i=>rw[q]at e;cases e;obtain⟨_,vs,f,g⟩:=j.cell r _ q;exact⟨_,vs,b,br.of f,g⟩
   |obj c fs=>rw[q]at e;cases e
   |cZ l=>rw[q]at e;cases e
  |ak=>cases e
  |bl _=>cases e
  |int _=>cases e
  |str _=>cases e
  |tup _=>cases e
  |exc _ _=>cases e
  |err _ _ _=>cases e
|own i=>cases e;obtain⟨a,vs,b,_,_,f,g⟩:=z;exact⟨a,vs,b,br.of f,g⟩
|bor i=>cases e;obtain⟨a,vs,b,_,f,g⟩:=z;exact⟨a,vs,b,.inl f,g⟩
theorem aj.o5 (j:ah Y G h H)(z:aj Y G H w v)(e:w.iL h=y0 xs):∃a vs,v=.ref a/\Rd H a (.lst vs)/\aa Y G H xs vs:=by
 cases w with
|v d=>
  cases d with
  |ref r=>
   obtain⟨k,b⟩:=z;have e:(match h[r]? with|some (M.Cell.lst zs)=>y0 zs|_=>u0)=y0 xs:=e;cases q:h[r]? with
   |none=>rw[q]at e;cases e
   |some c=>
    cases c with
   |lst i=>rw[q]at e;cases e;obtain⟨_,vs,f,g⟩:=j.cell r _ q;exact⟨_,vs,b,.inl f,g⟩
   |obj c fs=>rw[q]at e;cases e
   |cZ l=>rw[q]at e;cases e
  |_=>cases e
|own i=>cases e;obtain⟨a,vs,b,_,_,f,g⟩:=z;exact⟨a,vs,b,.inl f,g⟩
|bor i=>cases e;obtain⟨a,vs,b,_,f,g⟩:=z;exact⟨a,vs,b,f,g⟩
theorem aj.seq (j:ah Y G h H)(z:aj Y G H w v)(e:w.seq? h=y0 xs):∃a vs,v=.ref a/\(br Y.K H a vs\/cz Y.K H a vs)/\aa Y G H xs vs:=by
 have b:w.cw h=y0 xs->∃a vs,v=.ref a/\(br Y.K H a vs\/cz Y.K H a vs)/\aa Y G H xs vs:=λe=>by obtain⟨a,vs,c,f,i⟩:=z.lst j e;exact⟨a,vs,c,.inl f,i⟩
 cases w with
|v d=>
  cases d with
  |tup g=>cases e;obtain⟨a,vs,c,f,i⟩:=z;exact⟨a,vs,c,.inr f.sq,i⟩
  |lst g=>exact b e
  |ref r=>exact b e
  |ak=>cases e
  |bl _=>cases e
  |int _=>cases e
  |str _=>cases e
  |exc _ _=>cases e
  |err _ _ _=>cases e
|own g=>exact b e
|bor g=>exact b e
def Bo(I:Inv X pins U H s)(r:Rd H a (.lst vs)):vs.length<=sizeLine/\∃j n,Vals vs j/\vs.length=j.length/\s.heap.get? a=y0 {cls:=.type "list",data:=.seq j.toArray n}:=by obtain⟨z,j,n,r,e⟩:=r.ok I.aL;exact⟨z,j,n,r,r.length,e⟩
def zj:M.bp<=sizeLine:=by rw[M.Gg];decide
def N1(K:Aa6):R2:=λx y H Q=>∃l b xs zs,x=.ref l/\y=.ref b/\br K H l xs/\br K H b zs/\xs.length+zs.length<=sizeLine/\∀p,H p=u0->Q (.ref p) (aJ H p (.lst (xs++zs)))
def D0:b7 X (binaryOp .Add) (N1 X.K):=by
 intro k s U H x y v u Q I E A h;obtain⟨l,b,O,N,rfl,rfl,L,F,P,q⟩:=h;cases E;cases A;obtain⟨c,r,J,_⟩:=I.list L;obtain⟨a,p,B,_⟩:=I.list F;have M:=r.length;have l2:=p.length;have G:c.toArray++a.toArray=(c++a).toArray:=by simp
 obtain⟨⟨C,dd,o,z⟩,m,w,n,K⟩:=id J.isList;obtain⟨⟨t,g,j,i⟩,d,e,D,f⟩:=id B.isList;subst w K e f;refine concat_meets ⟨_,m,rfl⟩ ⟨_,d,rfl⟩ noFill_list_add seq_list_add PySem.F.slot_list_add PySem.F.entry_list_add (PySem.F.args_list_add_2 _ _) (list_addW l b c.toArray a.toArray n D dd g z i (by simp_all)) ⟨m,d,?_⟩;rw[G];exact⟨.ref _,_,I.mh (r.append p) (by simp_all),rfl,q _ I.fresh⟩
def AK:R2:=λx y H Q=>∃l k xs,x=.ref l/\y=.int k/\Rd H l (.lst xs)/\-(2^63)<=k/\k<2^63/\xs.length*k.toNat<=sizeLine∧
 ∀p,H p=u0->Q (.ref p) (aJ H p (.lst (Aa1 k.toNat xs).flatten))
def En:b7 X (binaryOp .Mult) AK:=by
 intro j s U H x y v u Q I w p h;obtain⟨l,k,M,rfl,rfl,J,D,K,o,q⟩:=h;cases w;obtain⟨t,rfl⟩:=p;obtain⟨z,b,n,r,C,e⟩:=Bo I J;have d:b.toArray.size*k.toNat<=sizeLine:=by rw[Ab2,←C];exact o
 have f:¬b.toArray.size*k.toNat>(2^63-1)/8:=by
  have:sizeLine<=(2^63-1)/8:=by decide
  lia
 have g:¬(!Builtin.List.listFitsIndex k)=true:=by rw[fitsIndex_both D K];exact Ab8
 have c:¬Builtin.List.listTooLong (b.toArray.size*k.toNat)=true:=by rw[J8 d];exact Ab8
 have i:List.foldl (λA G=>A++G) #[] (Aa1 (if b.toArray.isEmpty=k9 then 0 else k.toNat) b.toArray)=(Aa1 k.toNat b).flatten.toArray:=by
  have B:=λm=>by have:=wV b m [];rw[Ag1]at this;exact this
  rw[B];cases b with
|nil=>simp
|cons a L=>rw[if_neg (by simp)]
 refine wpAny_binaryOp_repeat_ref rfl ⟨_,e,rfl⟩ (λE=>typeIs_int E k t) noFill_list_mul F.fills_int_mul F.slot_int_rmul repeat_list F.slot_int_index.lookup
  (call_meets F.slot_int_rmul (typeIs_int s k t) F.entry_int_rmul (F.args_int_rmul_2 _ _) (int___rmul___int_list k t l b.toArray n)
    ⟨e,rfl,⟨_,e,rfl⟩,call_meets F.slot_list_mul ⟨_,e,rfl⟩ F.entry_list_mul (F.args_list_mul_2 _ _) (AutoListH.list___mul___list_int_3 l b.toArray n k t g f c) ⟨e,?_⟩⟩)
 rw[i];exact⟨.ref _,_,I.mh (r.rep k.toNat) (by rw[DE,Am];exact o),rfl,q _ I.fresh⟩
theorem aa.rep (z:aa Y G H ds vs):∀k:Nat,aa Y G H (Aa1 k ds).flatten (Aa1 k vs).flatten
|0=>rfl
|k+1=>by exact z.append (aa.rep z k)
def zl(a b:Nat):Builtin.bitAnd (a:Int) (b:Int)=((a&&&b:Nat):Int):=by rfl
def E1(a:Nat)(j)(b:¬0<=j):Builtin.bitAnd (a:Int) j=((a-(a&&&(-j-1).toNat):Nat):Int):=by
 have e:(Builtin.bitNot j).toNat=(-j-1).toNat:=by unfold Builtin.bitNot;lia
 unfold Builtin.bitAnd;rw[decide_eq_true (Ao7 a),decide_eq_false b];show a-((a&&&(Builtin.bitNot j).toNat:Nat):Int)=_;rw[e];have:=@Nat.and_le_left a (-j-1).toNat;omega
def Wy(a b:Nat):Builtin.bitOr (a:Int) (b:Int)=((a|||b:Nat):Int):=by
 have c:¬0<=Builtin.bitNot a:=by unfold Builtin.bitNot;lia
 have d:¬0<=Builtin.bitNot b:=by unfold Builtin.bitNot;lia
 have e1:(Builtin.bitNot (Builtin.bitNot a)).toNat=a:=by unfold Builtin.bitNot;lia
 have e2:(Builtin.bitNot (Builtin.bitNot b)).toNat=b:=by unfold Builtin.bitNot;lia
 unfold Builtin.bitOr Builtin.bitAnd;rw[decide_eq_false c,decide_eq_false d];show Builtin.bitNot (Builtin.bitNot _)=_;rw[e1,e2];unfold Builtin.bitNot;lia
def CG(h:M.Ke i j=y0 k):Builtin.bitAnd i j=k:=by
 unfold M.Ke at h;split at h
 .rename_i d;obtain⟨a,rfl⟩:=Aj7 d;split at h
  .rename_i c;obtain⟨b,rfl⟩:=Aj7 c;cases h;exact zl a b
  .rename_i c;cases h;exact E1 a j c
 .cases h
def Bm(h:M.kP i j=y0 k):Builtin.bitOr i j=k:=by
 unfold M.kP at h;split at h
 .rename_i c;obtain⟨a,rfl⟩:=Aj7 c.1;obtain⟨b,rfl⟩:=Aj7 c.2;cases h;exact Wy a b
 .cases h
noncomputable def n7:M.Op->Operator
|.add=>.Add|.sub=>.Sub|.mul=>.Mult|.fdiv=>.FloorDiv|.mod=>.Mod|.pow=>.Pow|.shl=>.LShift|.shr=>.RShift|.band=>.BitAnd|.bor=>.BitOr|.bxor=>.BitXor
def H9(Y:Ge)(E:XK)(o:M.Op):R2:=λx y H Q=>∃G h b a,ah Y G h H/\aj Y G H b x/\aj Y G H a y/\av Y E G H (M.GJ o b a h) Q
def Ij(s t):ba s++ba t=ba (s++t):=by show Str.mk _=Str.mk _;simp[ba]
def Qd(s):(ba s).length=s.length:=by show s.toArray.size=s.length;simp
def mV:M.Op->Bool
|.bxor=>y9
|_=>k9
def IU(d:mV o=k9)(e:M.Gk o i j=y0 k)(I:Inv X pins U H s)(b:RelV (.int i) v)(a:RelV (.int j) u)(q:Q (.int k) H):
 wpAny (model X.prog X.w) X.A (binaryOp (n7 o) v u) (EP X pins U Q) X.xe s:=by
 cases o with
|add=>cases e;exact BU pins s U H _ _ v u Q I b a ⟨i,j,rfl,rfl,q⟩
|sub=>cases e;exact Dd pins s U H _ _ v u Q I b a ⟨i,j,rfl,rfl,q⟩
|mul=>
  simp only[M.Gk,M.Kf,M.GB]at e;split at e
  .rename_i c;cases e;exact CI pins s U H _ _ v u Q I b a ⟨i,j,rfl,rfl,c,q⟩
  .cases e
|fdiv=>
  simp only[M.Gk,M.GQ,M.GB]at e;split at e
  .rename_i c;cases e;exact Bt pins s U H _ _ v u Q I b a ⟨i,j,rfl,rfl,c,q⟩
  .cases e
|mod=>
  simp only[M.Gk,M.GB]at e;split at e
  .rename_i c;cases e;exact FA pins s U H _ _ v u Q I b a ⟨i,j,rfl,rfl,c,q⟩
  .cases e
|pow=>
  simp only[M.Gk,M.GY,M.GB]at e;split at e
  .rename_i c;cases e;exact Bg pins s U H _ _ v u Q I b a ⟨i,j,rfl,rfl,c,q⟩
  .cases e
|shl=>
  simp only[M.Gk,M.GY,M.GB]at e;split at e
  .rename_i c;cases e;exact BH pins s U H _ _ v u Q I b a ⟨i,j,rfl,rfl,c,q⟩
  .cases e
|shr=>
  simp only[M.Gk,M.GB]at e;split at e
  .rename_i c;cases e;exact AF pins s U H _ _ v u Q I b a ⟨i,j,rfl,rfl,c,q⟩
  .cases e
|band=>exact BJ pins s U H _ _ v u Q I b a ⟨i,j,rfl,rfl,by dsimp only;rw[CG e];exact q⟩
|bor=>exact Nb pins s U H _ _ v u Q I b a ⟨i,j,rfl,rfl,by dsimp only;rw[Bm e];exact q⟩
|bxor=>cases d
theorem aj.int (z:aj Y G H w v)(e:w.int?=y0 i):v=.int i:=by
 cases w with
|v d=>
  cases d with
  |int j=>cases e;exact z
  |_=>cases e
|_=>cases e
theorem aj.str (z:aj Y G H w v)(e:w.dQ=y0 i):v=.str (ba i):=by
 cases w with
|v d=>
  cases d with
  |str j=>cases e;exact z
  |_=>cases e
|_=>cases e
theorem aj.tup (z:aj Y G H w v)(e:w.eR=y0 xs):∃a vs,v=.ref a/\fk Y G H a vs/\aa Y G H xs vs:=by
 cases w with
|v d=>
  cases d with
  |tup j=>cases e;exact z
  |_=>cases e
|_=>cases e
def Ba(o)(P:mV o=k9)(w:X.K=Y.K):b7 X (binaryOp (n7 o)) (H9 Y E o):=by
 rintro d s U H x y v u Q I q n ⟨G,h,V,T,g,C,B,p⟩;have W:=zj;unfold M.GJ at p;split at p
 .rename_i i j e1 e2;obtain⟨k,e,p⟩:=p.of;cases C.int e1;cases B.int e2;exact IU P e I q n (p.v g rfl)
 .split at p
  .--add
    unfold M.KJ at p;split at p
    .rename_i a b e1 e2;cases C.str e1;cases B.str e2;split at p
     .rename_i c;exact FX d s U H _ _ v u Q I q n ⟨_,_,rfl,rfl,by rw[Qd,Qd];omega,by rw[Ij];exact p.v g rfl⟩
     .exact p.elim
    .split at p
     .rename_i K L e1 e2;obtain⟨a,l,rfl,m,f⟩:=C.tup e1;obtain⟨b,J,rfl,F,D⟩:=B.tup e2;split at p
      .rename_i c;have r:=f.length;have l2:=D.length;by_cases ex:l=[]
       .subst ex;have:K=[]:=Ag4 r;subst this;exact Dl d s U H _ _ v u Q I q n ⟨a,b,J,rfl,rfl,w▸m.sq,w▸F.sq,p.v g ⟨b,J,rfl,F,D⟩⟩
       refine CQ d s U H _ _ v u Q I q n ⟨a,b,l,J,rfl,rfl,w▸m.sq,w▸F.sq,ex,by omega,λe=>?_,λe t A=>p.tup g (f.append D) t A⟩
       .subst e;have:L=[]:=Ag4 l2;subst this;rw[Ac3]at p;exact p.v g ⟨a,l,rfl,m,f⟩
      .exact p.elim
     .split at p
      .rename_i K L e1 e2;obtain⟨a,l,rfl,m,f⟩:=C.lst g e1;obtain⟨b,J,rfl,F,D⟩:=B.lst g e2;unfold M.Ko at p;split at p
       .have r:=f.length;have l2:=D.length;exact D0 d s U H _ _ v u Q I q n ⟨a,b,l,J,rfl,rfl,w▸m,w▸F,by omega,λt A=>p.own g (f.append D) t A⟩
       .exact p.elim
      .exact p.elim
  .--mul
    unfold M.KI at p;split at p
    .rename_i z j e1 e2;cases C.str e1;cases B.int e2;split at p
     .rename_i c;rw[M.Gg]at c;refine ED d s U H _ _ v u Q I q n ⟨_,j,rfl,rfl,c.1,c.2.1,by rw[Qd];exact c.2.2,?_⟩;have e:iU (ba z) j.toNat=ba (Aa1 j.toNat z).flatten:=by apply uy;rw[WE];rfl
      rw[e];exact p.v g rfl
     .exact p.elim
    split at p
    .rename_i K j e1 e2;obtain⟨a,l,rfl,m,f⟩:=C.o5 g e1;cases B.int e2;unfold M.KH at p;split at p
     .rename_i c;have r:=f.length;exact En d s U H _ _ v u Q I q n ⟨a,j,l,rfl,rfl,m,by omega,by omega,by rw[←r];omega,λt A=>p.own g (f.rep j.toNat) t A⟩
     .exact p.elim
    split at p
    .rename_i K j e1 e2;obtain⟨a,l,rfl,m,f⟩:=C.tup e1;cases B.int e2;split at p
     .rename_i c;obtain⟨O,S,N,R⟩:=c;rw[M.Gg]at R;have r:=f.length;refine KW d s U H _ _ v u Q I q n ⟨a,j,l,rfl,rfl,w▸m.sq,λe=>O (Ag4 (by rw[r,e];rfl)),S,N,by rw[←r,sizeLine_eq];omega,λe=>?_,λe t A=>p.tup g (f.rep j.toNat) t A⟩;subst e;exact p.v g ⟨a,l,rfl,m,by simpa using f⟩
     .exact p.elim
    .exact p.elim
  .exact p.elim
noncomputable def fT:M.Cp->CmpOp
|.eq=>.Eq|.ne=>.NotEq|.lt=>.Lt|.le=>.LtE|.gt=>.Gt|.ge=>.GtE|.mem=>.In|.fB=>.NotIn|.d4=>.Is|.kL=>.IsNot
def iZ(Y:Ge)(o:M.Cp):R2:=λx y H Q=>∃G h c a b,ah Y G h H/\aj Y G H c x/\aj Y G H a y/\M.Gw o c a h=y0 b/\Q (.bl b) H
def QH:M.Cp->Bool
|.mem=>k9
|.fB=>k9
|_=>k9
def Eo(e:M.KB o i j=y0 b)(I:Inv X pins U H s)(c:RelV (.int i) v)(a:RelV (.int j) u)(q:Q (.bl b) H):
 wpAny (model X.prog X.w) X.A (compareOp (fT o) v u) (EP X pins U Q) X.xe s:=by
 cases o with
|lt=>cases e;exact DJ pins s U H _ _ v u Q I c a ⟨i,j,rfl,rfl,q⟩
|le=>cases e;exact DF pins s U H _ _ v u Q I c a ⟨i,j,rfl,rfl,q⟩
|gt=>cases e;exact Ik pins s U H _ _ v u Q I c a ⟨i,j,rfl,rfl,q⟩
|ge=>cases e;exact C8 pins s U H _ _ v u Q I c a ⟨i,j,rfl,rfl,q⟩
|_=>cases e
def B2(d:X.K=Y.K)(n:aY k X.A):b7 X (compareOp .Eq) (iZ Y .eq):=by
 rintro a s U H x y v u Q I j i ⟨G,h,p,o,b,f,m,l,e,q⟩;simp only[M.Gw]at e;split at e
 .rename_i c;cases e;have g:=by simpa[M.GT]using c
  exact(pR 150 _ _ X.A v u (by lia) (by have:=n.un;lia) (m.rv I d f j g.1.1) (l.rv I d f i g.1.2)).rc _ _ _ _ ⟨.bl _,H,I,rfl,q⟩
 .cases e
def L4(d:X.K=Y.K)(n:aY k X.A):b7 X (compareOp .NotEq) (iZ Y .ne):=by
 rintro a s U H x y v u Q I j i ⟨G,h,p,o,b,f,m,l,e,q⟩;simp only[M.Gw]at e;split at e
 .rename_i c;cases e;have g:=by simpa[M.GT]using c
  exact(pR 150 _ _ X.A v u (by lia) (by have:=n.un;lia) (m.rv I d f j g.1.1) (l.rv I d f i g.1.2)).ne _ _ _ _ ⟨.bl _,H,I,rfl,q⟩
 .cases e
end
def PE.imp (h:PE X e t)(k:∀U H Q,t' U H Q->t U H Q):PE X e t':=λa s U H Q I q=>h a s U H Q I (k _ _ _ q)
def PT.imp (h:PT X e t)(k:∀U H Q,t' U H Q->t U H Q):PT X e t':=λa s U H Q I q=>h a s U H Q I (k _ _ _ q)
def PA.imp (h:PA X e t)(k:∀U H Q,t' U H Q->t U H Q):PA X e t':=λb a s U H Q I q=>h b a s U H Q I (k _ _ _ q)
section
variable{X:Cx}{Y:Ge}{G:Gh}{H:Hp}{h:M.AH}{pins:List (Addr×Obj)}{U:St}{s:Shared}{Q:VK}{E:XK}
def bc.one (z:bc Y G H [w] vs):∃v,vs=[v]/\aj Y G H w v:=by obtain⟨v,r,rfl,a,b⟩:=z;cases(show r=[]from b);exact⟨v,rfl,a⟩
def bc.two (z:bc Y G H [w,w'] vs):∃v v',vs=[v,v']/\aj Y G H w v/\aj Y G H w' v':=by obtain⟨v,r,rfl,a,c⟩:=z;obtain⟨v',rfl,b⟩:=c.one;exact⟨v,v',rfl,a,b⟩
def pq(Y:Ge)(E:XK)(b:M.Bi):List V->Hp->VK->Prop:=λxs H Q=>∃G h a,ah Y G h H/\bc Y G H a xs/\av Y E G H (M.dI b a h) Q
def tG{K:Aa6}(h:br K H a vs\/cz K H a vs):br K H a vs\/cz K H a vs:=h
noncomputable def nK:M.Bi->Bool
|.len=>k9|.int=>k9|.list=>k9|.tuple=>k9|.divmod=>k9|.min=>k9|.sum=>k9|.all=>k9|.any=>k9|.sorted=>k9
|_=>y9
noncomputable def pV:M.Bi->Value
|.len=>.builtin "len"|.int=>.type "int"|.list=>.type "list"|.tuple=>.type "tuple"|.sum=>.builtin "sum"|.all=>.builtin "all"|.any=>.builtin "any"
|.sorted=>.builtin "sorted"|.divmod=>.builtin "divmod"|.str=>.type "str"|.min=>.builtin "min"|.max=>.builtin "max"|.abs=>.builtin "abs"
def av.of2 {f:α->β->M.AH->M.R M.W}(p:av Y E G H ((M.R.of h o).bind λa h=>(M.R.of h o').bind λb h=>f a b h) Q):∃a b,o=y0 a/\o'=y0 b/\av Y E G H (f a b h) Q:=by obtain⟨a,e,p⟩:=p.of;obtain⟨b,c,p⟩:=p.of;exact⟨a,b,e,c,p⟩
theorem Z3:∀{xs}{vs}{bs},M.Kn xs=y0 bs->aa Y G H xs vs->vs=bs.map V.bl
|[],_,_,e,z=>by cases e;exact z
|x::xs,_,bs,e,z7=>by
  obtain⟨v,r,a,d,c⟩:=z7;subst a;cases x with
|bl b=>obtain⟨f,e1,rfl⟩:=Af8.mp (e);cases(d);rw[Z3 e1 c];rfl
|_=>cases e
theorem tP:∀{xs}{vs}{n},M.Kp xs=y0 n->aa Y G H xs vs->∃ns:List Int,vs=ns.map V.int/\n=gK ns
|[],_,_,e,z=>by cases e;exact⟨[],z,rfl⟩
|x::xs,_,n,e,z7=>by
  obtain⟨v,r,b,a,d⟩:=z7;subst b;cases x with
|int i=>have e:=e;obtain⟨k,e1,rfl⟩:=Af8.mp e;obtain⟨ns,c,f⟩:=tP e1 d;cases(a);exact⟨i::ns,by rw[c];rfl,by rw[f];rfl⟩
|_=>cases e
theorem Qt:∀{xs}{vs}{ns},M.GL xs=y0 ns->aa Y G H xs vs->vs=ns.map V.int
|[],_,_,e,z=>by cases e;exact z
|x::xs,_,ns,e,z7=>by
  obtain⟨v,r,a,d,c⟩:=z7;subst a;cases x with
|int b=>obtain⟨f,e1,rfl⟩:=Af8.mp (e);cases(d);rw[Qt e1 c];rfl
|_=>cases e
theorem XB:∀{xs}{vs}{ns},M.GM xs=y0 ns->aa Y G H xs vs->vs=(ns.map ba).map V.str
|[],_,_,e,z=>by cases e;exact z
|x::xs,_,ns,e,z7=>by
  obtain⟨v,r,a,d,c⟩:=z7;subst a;cases x with
|str b=>obtain⟨f,e1,rfl⟩:=Af8.mp (e);cases(show v=.str (ba b)from d);rw[XB e1 c];rfl
|_=>cases e
theorem ZP:∀(a:List M.Tx),aa Y G H (a.map .str) ((a.map ba).map V.str)
|[]=>rfl
|t::a=>⟨_,_,rfl,rfl,ZP a⟩
theorem rG(x):∀{ys},ys.Pairwise (λa b=>¬b<a)->(M.Kd x ys).Pairwise (λa b=>¬b<a)
|[],_=>List.pairwise_singleton _ _
|y::ys,h=>by
  have e:=Aj3.mp h;unfold M.Kd;split
  .rename_i q;refine Aj3.mpr ⟨λz d=>?_,rG x e.2⟩;have:z=x\/z∈ys:=by
    have g:∀{x}{ys},z∈M.Kd x ys->z=x\/z∈ys:=by
     intro x ys;induction ys with
|nil=>intro h;simp[M.Kd]at h;exact .inl h
|cons y ys f=>
      intro h;unfold M.Kd at h;split at h
      .rcases Ab7.mp h with h|h
       .exact .inr (h▸Aa4)
       .exact(f h).imp id (Aa3 _)
      .rcases Ab7.mp h with h|h
       .exact .inl h
       .exact .inr h
    exact g d
   rcases this with rfl|d
   .exactλc=>List.lt_irrefl _ (List.lt_trans c q)
   .exact e.1 z d
  .rename_i q;refine Aj3.mpr ⟨λz d=>?_,h⟩;rcases Ab7.mp d with rfl|d
   .exact q
   .exact List.le_trans q (e.1 z d)
theorem vm:∀xs:List M.Tx,(M.Gn xs).Pairwise (λa b=>¬b<a)
|[]=>.nil
|x::xs=>rG x (vm xs)
theorem Wn(x):∀ys:List M.Tx,(M.Kd x ys).Perm (x::ys)
|[]=>.refl _
|y::ys=>by
  unfold M.Kd;by_cases q:y<x
  .rw[if_pos q];exact((Wn x ys).cons y).trans (.swap x y ys)
  .rw[if_neg q]
theorem qj:∀xs:List M.Tx,(M.Gn xs).Perm xs
|[]=>.refl _
|x::xs=>(Wn x (M.Gn xs)).trans ((qj xs).cons x)
theorem ux:∀{l}{p},risingS p l=k9->(p::l).Pairwise (λa b=>¬b.cps.toList<a.cps.toList)
|[],p,_=>List.pairwise_singleton _ _
|x::r,p,h=>by
  have h:(!ltCps x.cps.toList p.cps.toList&&risingS x r)=true:=h;rw[Aa0,ltCps_eq]at h;have d:=by simpa using h.1
  have e:=ux h.2;refine Aj3.mpr ⟨λz c=>?_,e⟩;rcases Ab7.mp c with rfl|c
  .exact d
  .exact List.le_trans d ((Aj3.mp e).1 z c)
def Nd(s):ba s.cps.toList=s:=by cases s;simp[ba]
def FI(d:ss.Perm (ts.map ba))(f:sortedS ss=k9):ss=(M.Gn ts).map ba:=by
 have c:=by
  have:=d.map (λs=>s.cps.toList);rw[Ad7]at this;have e:((λs:Str=>s.cps.toList)∘ba)=id:=by funext t;simp[ba]
  rw[e,List.map_id]at this;exact this
 have g:(ss.map λs=>s.cps.toList).Pairwise (λa b=>¬b<a):=by
  rw[List.pairwise_map];cases ss with
|nil=>exact .nil
|cons p l=>exact ux f
 rw[←(List.Perm.eq_of_pairwise (λa b _ _ x y=>List.le_antisymm x y) g (vm ts) (c.trans (qj ts).symm)),Ad7];have e:(ba∘λs:Str=>s.cps.toList)=id:=by funext t;exact Nd t
 rw[e,List.map_id]
def F5(ns):∀n:Int,jI (λa b=>u9 (a<b)) ns n=ns.foldl (λa b=>if b<a then b else a) n:=by
 induction ns with
|nil=>intro n;rfl
|cons m ns c=>intro n;show jI _ ns _=_;rw[c,Ah6];simp[decide_eq_true_eq]
def Bc(b:M.Bi)(C:nK b=k9)(A:X.K=Y.K)(D:X.calm=k9):Qn X (pV b) (pq Y E b):=by
 rintro f s U H xs u Q I r ⟨G,h,ws,g,J,p⟩;have Z:=zj;unfold M.dI at p;split at p
 .rename_i w;obtain⟨v,rfl,z⟩:=J.one;cases b with
|len=>
   simp only[M.gX]at p;split at p
   .rename_i y e;cases z.str e;split at p
    .exact zS f s U H _ u Q I r ⟨_,rfl,by rw[Qd];omega,by rw[Qd];exact p.v g rfl⟩
    .exact p.elim
   .obtain⟨B,e,p⟩:=p.of;obtain⟨a,t,rfl,m,o⟩:=z.seq g e;refine ZW f s U H _ u Q I r ⟨a,t,rfl,A▸tG m,?_⟩;rw[←o.length];exact p.v g rfl
|int=>
   simp only[M.gX]at p;split at p
   .cases(show v=.int _ from z);exact jV f s U H _ u Q I r (.inl ⟨_,rfl,p.v g rfl⟩)
   .rename_i k;cases(show v=.bl _ from z);refine jV f s U H _ u Q I r (.inr ⟨_,rfl,?_⟩);have:=p.v g (v:=.int (k.toNat:Int)) rfl;cases k<;>exact this
   .exact p.elim
|list=>simp only[M.gX]at p;obtain⟨B,e,p⟩:=p.of;obtain⟨a,t,rfl,m,o⟩:=z.seq g e;exact WX f s U H _ u Q I r ⟨a,t,rfl,A▸tG m,λl x=>p.own g o l x⟩
|tuple=>
   simp only[M.gX]at p;obtain⟨B,e,F⟩:=p.of;clear p;cases w with
   |v d=>
    cases d with
    |tup K=>cases e;obtain⟨a,t,rfl,m,o⟩:=z;exact Xf f s U H _ u Q I r ⟨a,t,rfl,.inr ⟨A▸m.sq,F.v g ⟨a,t,rfl,m,o⟩⟩⟩
    |lst K=>obtain⟨a,t,rfl,m,o⟩:=aj.lst g z e;exact Xf f s U H _ u Q I r ⟨a,t,rfl,.inl ⟨A▸m,λl x=>F.tup g o l x⟩⟩
    |ref q=>obtain⟨a,t,rfl,m,o⟩:=aj.lst g z e;exact Xf f s U H _ u Q I r ⟨a,t,rfl,.inl ⟨A▸m,λl x=>F.tup g o l x⟩⟩
    |ak=>cases e
    |bl _=>cases e
    |int _=>cases e
    |str _=>cases e
    |exc _ _=>cases e
    |err _ _ _=>cases e
   |own K=>obtain⟨a,t,rfl,m,o⟩:=aj.lst g z e;exact Xf f s U H _ u Q I r ⟨a,t,rfl,.inl ⟨A▸m,λl x=>F.tup g o l x⟩⟩
   |bor K=>obtain⟨a,t,rfl,m,o⟩:=aj.lst g z e;exact Xf f s U H _ u Q I r ⟨a,t,rfl,.inl ⟨A▸m,λl x=>F.tup g o l x⟩⟩
|divmod=>exact p.elim
|min=>
   simp only[M.gX]at p;obtain⟨n,e,p⟩:=p.of;obtain⟨is,e1,e2⟩:=Ae4.mp e;obtain⟨B,O,P⟩:=Ae4.mp e1;obtain⟨a,t,rfl,m,o⟩:=aj.lst g z O;cases Qt P o;cases is with
   |nil=>cases e2
   |cons i is=>cases e2;refine AS D f s U H _ u Q I r ⟨a,i,is,rfl,A▸m,?_⟩;rw[F5];exact p.v g rfl
|max=>cases C
|sum=>
   simp only[M.gX]at p;obtain⟨n,e,p⟩:=p.of;obtain⟨B,e1,e2⟩:=Ae4.mp e;split at e2;rotate_left
   .cases e2
   obtain⟨a,t,rfl,m,o⟩:=aj.lst g z e1;obtain⟨N,rfl,rfl⟩:=tP e2 o;exact Iw D f s U H _ u Q I r ⟨a,N,rfl,A▸m,p.v g rfl⟩
|all=>simp only[M.gX]at p;obtain⟨bs,e,p⟩:=p.of;obtain⟨B,e1,e2⟩:=Ae4.mp e;obtain⟨a,t,rfl,m,o⟩:=aj.lst g z e1;cases Z3 e2 o;exact Ct D f s U H _ u Q I r ⟨a,bs,rfl,A▸m,p.v g rfl⟩
|any=>simp only[M.gX]at p;obtain⟨bs,e,p⟩:=p.of;obtain⟨B,e1,e2⟩:=Ae4.mp e;obtain⟨a,t,rfl,m,o⟩:=aj.lst g z e1;cases Z3 e2 o;exact IC D f s U H _ u Q I r ⟨a,bs,rfl,A▸m,p.v g rfl⟩
|sorted=>
   simp only[M.gX]at p;obtain⟨W,e,p⟩:=p.of;obtain⟨B,e1,e2⟩:=Ae4.mp e;obtain⟨a,t,rfl,m,o⟩:=aj.lst g z e1;cases XB e2 o;split at p
   .rename_i x;refine XX f s U H _ u Q I r ⟨a,W.map ba,rfl,A▸m,by rw[Aa];exact x,λR S T l x=>?_⟩;rw[FI S T];exact p.own g (ZP _) l x
   .exact p.elim
|str=>cases C
|abs=>cases C
 .rename_i w w';obtain⟨v,v',rfl,z,V⟩:=J.two;obtain⟨i,j,e,L,p⟩:=p.of2;cases z.int e;cases V.int L;cases b with
|divmod=>
   simp only[M.tT,M.GQ]at p;split at p
   .rename_i c;exact Z0 f s U H _ u Q I r ⟨i,j,rfl,c,λl x=>p.tup g (vs:=[.int (i/j),.int (i%j)]) ⟨_,_,rfl,rfl,_,_,rfl,rfl,rfl⟩ l x⟩
   .exact p.elim
|min=>exact Cm D f s U H _ u Q I r ⟨i,j,rfl,p.v g rfl⟩
|max=>cases C
|len=>exact p.elim
|int=>exact p.elim
|list=>exact p.elim
|tuple=>exact p.elim
|sum=>exact p.elim
|all=>exact p.elim
|any=>exact p.elim
|sorted=>exact p.elim
|str=>cases C
|abs=>cases C
 .exact p.elim
noncomputable def fZ:M.Ty->String
|.ak=>"NoneType"|.bool=>"bool"|.int=>"int"|.str=>"str"|.list=>"list"|.tuple=>"tuple"
def Xt(K):∀u t,t≠.ak->Am9 K (.type (fZ u)) (.type (fZ t))=y0 (M.Ty.le u t):=by
 intro u t a;cases u<;>cases t<;>first|exact absurd rfl a|kernel_rfl
def MF(Y:Ge):List V->Hp->VK->Prop:=λxs H Q=>∃G h w x t b,xs=[x,.ty (fZ t)]/\t≠.ak/\ah Y G h H/\aj Y G H w x/\M.dt t w=y0 b/\Q (.bl b) H
def L9(E:X.K=Y.K):Qn X (.builtin "isinstance") (MF Y):=by
 rintro k s U H R T Q I r ⟨G,h,w,x,t,b,L,g,S,z,e,q⟩;subst L;obtain⟨u,P,rfl,j,J⟩:=lH r;cases J;have fin:∀A,EP X k U Q _ {s with toks:=A}:=λA=>⟨.bl b,H,I.tok A,rfl,q⟩;have lst:∀{a}{l},x=.ref a->Rd H a (.lst l)->M.Ty.le .list t=b->wpAny (model X.prog X.w) X.A (call (.builtin "isinstance") [u,.type (fZ t)]) (EP X k U Q) X.xe s:=by
  intro a l ex rd K;subst ex K;obtain rd|⟨o,rd⟩:=rd
  .exact jk I j (.lst rd) (Xt _ .list t g) fin
  .exact jk I j (.eA rd) (Xt _ .list t g) fin
 cases w with
|v d=>
  cases d with
  |ak=>cases e;cases(z);exact jk I j .ak (Xt _ .ak t g) fin
  |bl c=>cases e;cases(z);exact jk I j (.bl c) (Xt _ .bool t g) fin
  |int i=>cases e;cases(z);exact jk I j (.int i) (Xt _ .int t g) fin
  |str y=>cases e;cases(z);exact jk I j (.str _) (Xt _ .str t g) fin
  |tup C=>
   cases e;obtain⟨a,l,rfl,f,N⟩:=z;obtain⟨_,f⟩|⟨o,D,n,B,p,F,_⟩:=f
   .exact jk I j (.tup f) (Xt _ .tuple t g) fin
   .cases j;exact Ae0 PySem.W.kitx_tuple I.bI ⟨o,I.bI a o (E▸B),p⟩ (Xt _ .tuple t g) (λz=>nomatch z) fin
  |lst C=>
   cases e;obtain⟨a,l,m,f,N⟩:=z;obtain f|⟨o,D,n,B,p,F,_⟩:=f
   .exact lst m f.2 rfl
   .subst m;cases j;exact Ae0 Ao3 I.bI ⟨o,I.bI a o (E▸B),p⟩ (Xt _ .list t g) (λz=>nomatch z) fin
  |ref O=>cases e
  |exc c fs=>cases e
  |err _ _ _=>cases e
|own C=>cases e;obtain⟨a,l,m,_,_,f,_⟩:=z;exact lst m (.inl f) rfl
|bor C=>cases e;obtain⟨a,l,m,_,f,_⟩:=z;exact lst m f rfl
def X7(m:X.K=Y.K)(p:ah Y G h H)(z:aj Y G H w x)(e:M.G6 h w=y0 b):kl X.K x H b:=by
 have lst:∀{a}{f}{g},x=.ref a->br X.K H a f->aa Y G H g f->(!g.isEmpty)=b->kl X.K x H b:=by
  intro a f g ex rd j n;subst ex n;refine .inl ⟨f,rd,?_⟩;cases g with
|nil=>cases(show f=[]from j);rfl
|cons _ _=>obtain⟨_,_,rfl,_⟩:=j;rfl
 cases w with
|v d=>
  cases d with
  |ak=>cases e;cases(z);exact rfl
  |bl _=>cases e;cases(z);exact rfl
  |int _=>cases e;cases(z);exact rfl
  |str y=>
   cases(z);have e:(if y.length<=M.bp then y0 (!y.isEmpty)else u0)=y0 b:=e;split at e
   .rename_i c;cases e;refine⟨by rw[Qd];have:=zj;lia,?_⟩;rw[Qd];cases y with
|nil=>rfl
|cons a r=>
     have:((((a::r).length:Nat):Int) !=0)=true:=by rw[Aa7,bne_iff_ne];lia
     rw[this];rfl
   .cases e
  |tup g=>
   cases e;obtain⟨a,f,rfl,i,j⟩:=z;refine .inr (.inl ⟨f,m▸i.sq,?_⟩);cases g with
   |nil=>cases(show f=[]from j);rfl
   |cons _ _=>obtain⟨_,_,rfl,_⟩:=j;rfl
  |lst g=>cases e;obtain⟨a,f,k,i,l⟩:=z;exact lst k (m▸i.sq) l rfl
  |ref o=>cases e
  |exc c fs=>cases e
  |err _ _ _=>cases e
|own g=>cases e;obtain⟨a,f,k,_,_,i,l⟩:=z;exact lst k (br.of i) l rfl
|bor g=>cases e;obtain⟨a,f,k,_,i,l⟩:=z;exact lst k (.inl i) l rfl
end
abbrev Zc(x:String):Str:=Str.ofString x
example:("len":Str)=Zc "len":=rfl
structure oK where
 fl:List (String×String)
 mt:List (String×String×String)
 eD:List (String×String)
 ms:List String
 er:List (String×String)
structure Cg where
 fns:List String
 own:List String
 gE:List String
 fR:List String
 ob:oK
 cb:Bool
 qf:List String
structure Cf extends Cg where
 sc:Scope
 N:List Str
def Cg.q (g:Cg):Cg:=⟨g.qf,g.own,[],[],⟨g.ob.fl,[],[],[],[]⟩,y9,[]⟩
def Cg.z (g:Cg):Cg:=⟨[],g.own,[],[],⟨g.ob.fl,[],[],[],[]⟩,y9,[]⟩
noncomputable def JY(sc:Scope)(x:Str):Bool:=match sc.names.lookup x with
|some .local=>k9
|some .cell=>k9
|some .free=>k9
|_=>y9
def i6(sc:Scope)(x:Str):Bool:=match sc.names.lookup x with
|some .globalImplicit=>k9
|_=>y9
def iX(sc:Scope)(x:Str):Bool:=match sc.names.lookup x with
|some .local=>k9
|some .cell=>k9
|_=>y9
def bz(x:Str):Bool:=!(x==("__debug__":Str))&&!(x==("__classdict__":Str))
noncomputable def mU:M.Bi->String
|.len=>"len"|.int=>"int"|.list=>"list"|.tuple=>"tuple"|.sum=>"sum"|.all=>"all"|.any=>"any"|.sorted=>"sorted"|.divmod=>"divmod"|.str=>"str"|.min=>"min"|.max=>"max"|.abs=>"abs"
noncomputable def b5:List String:=["len","int","list","tuple","sum","all","any","sorted","divmod","str","min","max","abs","isinstance","bool","range","reversed","zip","enumerate","set","dict","ValueError"]
def oZ:Expr->Str->Bool
|.Name y _,x=>y==x
|_,_=>y9
def bS(sc:Scope)(x:String)(e:Expr):Bool:=oZ e (Zc x)&&i6 sc (Zc x)&&bz (Zc x)
def yF:M.Mt->String
|.index=>"index"|.count=>"count"|.cc=>"index"
def sD:M.Mt->Bool
|.index=>k9|.count=>k9|.cc=>k9
def QM:Expr->Bool
|.Call _ [] _ _=>y9
|_=>k9
noncomputable def WD(cf:Cf):List String->List Expr->Bool
|[],[]=>k9
|t::a,e::es=>bS cf.sc t e&&cf.own.contains t&&WD cf a es
|_,_=>y9
noncomputable def Wt(cf:Cf):List Nat->List Expr->Bool
|[],[]=>k9
|i::is,.Name x _::es=>u9 (cf.N[i]?=y0 x)&&iX cf.sc x&&Wt cf is es
|_,_=>y9
def iz(cf:Cf)(x:String)(e:Expr):Bool:=cf.cb&&bS cf.sc x e
def pP(cf:Cf)(is:List Nat)(es:List Expr):Bool:=cf.cb&&Wt cf is es
def Qe(cf:Cf)(a:List Nat)(one:Bool)(e:Expr):Bool:=match one,e with
|true,.Name x p=>(match a with|[_]=>k9|_=>y9)&&Wt cf a [.Name x p]
|false,.Tuple es _ _=>pP cf a es
|_,_=>y9
def Ja:Expr->Bool
|.Starred ..=>y9
|_=>k9
def Xe:Expr->Bool
|.Slice ..=>y9
|_=>k9
def wg:Expr->Bool
|.Set ..=>y9
|_=>k9
noncomputable def qD(cf:Cf):List Nat->List Str->Bool
|[],[]=>k9
|j::a,x::xs=>u9 (cf.N[j]?=y0 x)&&u9 (cf.sc.names.lookup x=y0 .cell\/cf.sc.names.lookup x=y0 .free)&&qD cf a xs
|_,_=>y9
def j3(cf:Cf)(a:Scope)(N:List Str)(k:Nat)(az:List Nat):Bool:=
 cf.cb&&u9 (a.kind=.function)&&u9 (a.names.map Prod.fst).Nodup&&a.names.all (λy=>u9 (y.2=.local->a.names.lookup y.1=y0 .local))&&
 a.names.all (λy=>u9 (y.2=.free->cf.sc.names.lookup y.1=y0 .cell\/cf.sc.names.lookup y.1=y0 .free))&&(N.drop k).all (λx=>u9 (a.names.lookup x=y0 .free))&&
 qD cf az (N.drop k)&&u9 (k<=N.length)&&decide N.Nodup&&decide az.Nodup
def Dp:Expr->List Str
|.Name x _=>[x]
|.Tuple es _ _=>es.filterMap λ|.Name x _=>y0 x|_=>u0
|_=>[]
def ju(cf:Cf)(t:Expr)(az:List Nat):List Str:=Dp t++az.filterMap λj=>cf.N[j]?
def fN:M.E->Bool
|.share _=>y9
|.not a=>fN a
|.and a b=>fN a&&fN b
|.or a b=>fN a&&fN b
|_=>k9
def m9(neg:Bool):CmpOp:=if neg then .NotIn else .In
def bx{P:Prop}(h:y9=k9):P:=nomatch h
set_option backward.match.sparseCases false
def lC{a:Type}(l:List a)(f:a->List a->Bool):Bool:=match l with
|x::r=>f x r
|_=>y9
def oS{a:Type}(l:Option a)(f:a->Bool):Bool:=match l with
|some x=>f x
|_=>y9
@[elab_as_elim]theorem kC{P:List α->Prop}(k:∀x r,f x r=k9->P (x::r)):∀l,lC l f=k9->P l:=by rintro(_|_)<;>first|exact bx|exact k _ _
@[elab_as_elim]theorem kS{P:Option α->Prop}(k:∀x,f x=k9->P (y0 x)):∀l,oS l f=k9->P l:=by rintro(_|_)<;>first|exact bx|exact k _
def zu(e:Expr)(f:Str->Bool):Bool:=match e with
|.Name x _=>f x
|_=>y9
@[elab_as_elim]theorem xu{P:Expr->Prop}(k:∀x p,f x=k9->P (.Name x p)):∀e,zu e f=k9->P e:=by rintro(_|_)<;>first|exact bx|exact k _ _
def qz(e:Expr)(f:Const->Bool):Bool:=match e with
|.Constant x _ _=>f x
|_=>y9
@[elab_as_elim]theorem JF{P:Expr->Prop}(k:∀x n p,f x=k9->P (.Constant x n p)):∀e,qz e f=k9->P e:=by rintro(_|_)<;>first|exact bx|exact k _ _ _
def lW(e:Expr)(f:List Expr->Bool):Bool:=match e with
|.Tuple x _ _=>f x
|_=>y9
@[elab_as_elim]theorem mP{P:Expr->Prop}(k:∀x n p,f x=k9->P (.Tuple x n p)):∀e,lW e f=k9->P e:=by rintro(_|_)<;>first|exact bx|exact k _ _ _
def yh(e:Expr)(f:List Expr->Bool):Bool:=match e with
|.List x _=>f x
|_=>y9
@[elab_as_elim]theorem Ho{P:Expr->Prop}(k:∀x p,f x=k9->P (.List x p)):∀e,yh e f=k9->P e:=by rintro(_|_)<;>first|exact bx|exact k _ _
def tf(e:Expr)(f:Expr->Operator->Expr->Bool):Bool:=match e with
|.BinOp x o y _=>f x o y
|_=>y9
@[elab_as_elim]theorem Fw{P:Expr->Prop}(k:∀x o y p,f x o y=k9->P (.BinOp x o y p)):∀e,tf e f=k9->P e:=by rintro(_|_)<;>first|exact bx|exact k _ _ _ _
def mJ(e:Expr)(f:Expr->List CmpOp->List Expr->Bool):Bool:=match e with
|.Compare x o y _=>f x o y
|_=>y9
@[elab_as_elim]theorem nj{P:Expr->Prop}(k:∀x o y p,f x o y=k9->P (.Compare x o y p)):∀e,mJ e f=k9->P e:=by rintro(_|_)<;>first|exact bx|exact k _ _ _ _
def ni(e:Expr)(f:UnaryOp->Expr->Bool):Bool:=match e with
|.UnaryOp o x _=>f o x
|_=>y9
@[elab_as_elim]theorem oi{P:Expr->Prop}(k:∀o x p,f o x=k9->P (.UnaryOp o x p)):∀e,ni e f=k9->P e:=by rintro(_|_)<;>first|exact bx|exact k _ _ _
def oM(e:Expr)(f:BoolOp->List Expr->Pos->Bool):Bool:=match e with
|.BoolOp o x p=>f o x p
|_=>y9
@[elab_as_elim]theorem sX{P:Expr->Prop}(k:∀o x p,f o x p=k9->P (.BoolOp o x p)):∀e,oM e f=k9->P e:=by rintro(_|_)<;>first|exact bx|exact k _ _ _
def Qh(e:Expr)(f:Expr->List Expr->List Keyword->Pos->Bool):Bool:=match e with
|.Call g x l p=>f g x l p
|_=>y9
@[elab_as_elim]theorem Jh{P:Expr->Prop}(k:∀g x l p,f g x l p=k9->P (.Call g x l p)):∀e,Qh e f=k9->P e:=by rintro(_|_)<;>first|exact bx|exact k _ _ _ _
def kb(e:Expr)(f:Expr->Expr->Bool):Bool:=match e with
|.Subscript x y _=>f x y
|_=>y9
@[elab_as_elim]theorem lG{P:Expr->Prop}(k:∀x y p,f x y=k9->P (.Subscript x y p)):∀e,kb e f=k9->P e:=by rintro(_|_)<;>first|exact bx|exact k _ _ _
def ph(e:Expr)(f:Option Expr->Option Expr->Option Expr->Bool):Bool:=match e with
|.Slice x y z _=>f x y z
|_=>y9
@[elab_as_elim]theorem vV{P:Expr->Prop}(k:∀x y z p,f x y z=k9->P (.Slice x y z p)):∀e,ph e f=k9->P e:=by rintro(_|_)<;>first|exact bx|exact k _ _ _ _
def rS(e:Expr)(f:Expr->List Comprehension->Scope->Bool):Bool:=match e with
|.ListComp y g s _=>f y g s
|_=>y9
@[elab_as_elim]theorem sQ{P:Expr->Prop}(k:∀y g s p,f y g s=k9->P (.ListComp y g s p)):∀e,rS e f=k9->P e:=by rintro(_|_)<;>first|exact bx|exact k _ _ _ _
def Wz(e:Expr)(f:Expr->Str->Pos->Bool):Bool:=match e with
|.Attribute x n p=>f x n p
|_=>y9
@[elab_as_elim]theorem wG{P:Expr->Prop}(k:∀x n p,f x n p=k9->P (.Attribute x n p)):∀e,Wz e f=k9->P e:=by rintro(_|_)<;>first|exact bx|exact k _ _ _
def gH(e:Stmt)(f:List Expr->Expr->Bool):Bool:=match e with
|.Assign t v _=>f t v
|_=>y9
@[elab_as_elim]theorem hG{P:Stmt->Prop}(k:∀t v p,f t v=k9->P (.Assign t v p)):∀e,gH e f=k9->P e:=by rintro(_|_)<;>first|exact bx|exact k _ _ _
def k6(e:Stmt)(f:Expr->Bool):Bool:=match e with
|.Expr v _=>f v
|_=>y9
@[elab_as_elim]theorem l7{P:Stmt->Prop}(k:∀v p,f v=k9->P (.Expr v p)):∀e,k6 e f=k9->P e:=by rintro(_|_)<;>first|exact bx|exact k _ _
def sx(e:Stmt)(f:Option Expr->Bool):Bool:=match e with
|.Return v _=>f v
|_=>y9
@[elab_as_elim]theorem Bd{P:Stmt->Prop}(k:∀v p,f v=k9->P (.Return v p)):∀e,sx e f=k9->P e:=by rintro(_|_)<;>first|exact bx|exact k _ _
def pO(e:Stmt)(f:Expr->List Stmt->List Stmt->Bool):Bool:=match e with
|.If x y z _=>f x y z
|_=>y9
@[elab_as_elim]theorem rK{P:Stmt->Prop}(k:∀x y z p,f x y z=k9->P (.If x y z p)):∀e,pO e f=k9->P e:=by rintro(_|_)<;>first|exact bx|exact k _ _ _ _
def yP(e:Stmt)(f:Expr->List Stmt->List Stmt->Bool):Bool:=match e with
|.While x y z _=>f x y z
|_=>y9
@[elab_as_elim]theorem Fq{P:Stmt->Prop}(k:∀x y z p,f x y z=k9->P (.While x y z p)):∀e,yP e f=k9->P e:=by rintro(_|_)<;>first|exact bx|exact k _ _ _ _
def sO(e:Stmt)(f:Expr->Expr->List Stmt->List Stmt->Bool):Bool:=match e with
|.For t i y z _=>f t i y z
|_=>y9
@[elab_as_elim]theorem Bl{P:Stmt->Prop}(k:∀t i y z p,f t i y z=k9->P (.For t i y z p)):∀e,sO e f=k9->P e:=by rintro(_|_)<;>first|exact bx|exact k _ _ _ _ _
def oQ(e:Stmt)(f:Option Expr->Option Expr->Bool):Bool:=match e with
|.Raise x y _=>f x y
|_=>y9
@[elab_as_elim]theorem rH{P:Stmt->Prop}(k:∀x y p,f x y=k9->P (.Raise x y p)):∀e,oQ e f=k9->P e:=by rintro(_|_)<;>first|exact bx|exact k _ _ _
set_option backward.match.sparseCases true
def vB(cf:Cf)(i:Nat)(x:Str):Bool:=u9 (cf.N[i]?=y0 x)&&JY cf.sc x&&bz x
def kZ{a:Type}(l:List a)(b:Bool):Bool:=l.isEmpty&&b
noncomputable def yj(e:Stmt)(f:List Stmt->List ExceptHandler->Bool):Bool:=match e with
|.Try a b c d _=>kZ c (kZ d (f a b))
|_=>y9
noncomputable def yN(e:ExceptHandler)(f:Option Expr->Option Str->List Stmt->Bool):Bool:=match e with
|.ExceptHandler a b c _=>f a b c
mutual
noncomputable def Xb(cf:Cf):M.E->Expr->Bool
|.var i,e=>zu e (vB cf i)
|.con c,e=>bS cf.sc c e
|.int i,e=>qz e λj=>u9 (j=.int i)
|.bl i,e=>qz e λj=>u9 (j=.bool i)
|.ak,e=>qz e λj=>u9 (j=.none)
|.str i,e=>qz e λj=>u9 (j=.str (ba i))
|.tup es,e=>lW e λxs=>u9 (xs.length<=1000)&&bj cf es xs
|.lst es,e=>yh e λxs=>u9 (xs.length<=1000)&&bj cf es xs
|.bin o a b,e=>tf e λx p y=>u9 (p=n7 o)&&mV o&&Xb cf a x&&Xb cf b y
|.cmp o a b,e=>mJ e λx p y=>lC y λy r=>u9 (p=[fT o]/\r=[])&&QH o&&wg y&&Xb cf a x&&Xb cf b y
|.chain o q a b c,e=>mJ e λx p y=>lC y λy r=>lC r λz r=>u9 (p=[fT o,fT q]/\r=[])&&QH o&&QH q&&wg z&&Xb cf a x&&Xb cf b y&&Xb cf c z
|.d7 neg a,e=>mJ e λx p y=>lC y λy r=>qz y λj=>u9 (p=[if neg then .IsNot else .Is]/\r=[])&&u9 (j=.none)&&Xb cf a x
|.neg a,e=>ni e λo x=>u9 (o=.USub)&&Xb cf a x
|.inv a,e=>ni e λo x=>u9 (o=.Invert)&&Xb cf a x
|.not a,e=>ni e λo x=>u9 (o=.Not)&&Xb cf a x
|.and a b,e=>oM e λo x p=>lC x λx r=>lC r λy r=>u9 (o=.And)&&Xb cf a x&&bif r.isEmpty then Xb cf b y else Xb cf b (.BoolOp .And (y::r) p)
|.or a b,e=>oM e λo x p=>lC x λx r=>lC r λy r=>u9 (o=.Or)&&Xb cf a x&&bif r.isEmpty then Xb cf b y else Xb cf b (.BoolOp .Or (y::r) p)
|.call f es,e=>Qh e λg xs l _=>kZ l (bS cf.sc f g&&cf.fns.contains f&&bj cf es xs)
|.bi b es,e=>Qh e λg xs l _=>kZ l (lC xs λx r=>iz cf (mU b) g&&nK b&&bj cf es (x::r))
|.dt a t,e=>Qh e λg xs l _=>kZ l (lC xs λx r=>lC r λy r=>kZ r (bS cf.sc "isinstance" g&&bS cf.sc (fZ t) y&&decide (t≠.ak)&&Ja x&&Xb cf a x))
|.bE a one ts,e=>Qh e fun g xs l _=>kZ l (lC xs fun x r=>lC r fun y r=>kZ r (bS cf.sc "isinstance" g&&Ja x&&Xb cf a x&&bif one then(lC ts fun t r=>kZ r (bS cf.sc t y&&(decide (t="ValueError")||cf.own.contains t)))else(lW y fun zs=>decide (zs.length<=1000)&&WD cf ts zs)))
|.ix a b,e=>kb e λx y=>Xe y&&Xb cf a x&&Xb cf b y
|.gv a lo,e=>kb e λx y=>ph y λl u z=>oS l λl=>u.isNone&&z.isNone&&Xb cf a x&&Xb cf lo l
|.eF a hi,e=>kb e λx y=>ph y λl u z=>oS u λu=>l.isNone&&z.isNone&&Xb cf a x&&Xb cf hi u
|.comp tg one k az it k7 c elt,e=>rS e λy g scope=>lC g λg r=>
  u9 (g.is_async=0/\r=[])&&j3 cf scope (ju cf g.target az) k az&&tg.all (λi=>u9 (i<k))&&Qe {cf with sc:=scope,N:=ju cf g.target az} tg one g.target&&d8 cf it g.iter&&Xb {cf with sc:=scope,N:=ju cf g.target az} elt y&&
   bif k7 then(lC g.ifs λz r=>kZ r (fN c&&Xb {cf with sc:=scope,N:=ju cf g.target az} c z))else g.ifs.isEmpty
|.gg i a,e=>kb e λg y=>zu g λx=>vB cf i x&&Xe y&&Xb cf a y
|.dh neg a i,e=>mJ e λx p y=>lC y λy r=>zu y λy=>u9 (p=[m9 neg]/\r=[])&&vB cf i y&&Xb cf a x
|.eu a b,e=>Qh e λg xs l _=>kZ l (lC xs λx r=>kZ r (Qh x λg2 xs l _=>kZ l (lC xs λx r=>lC r λy r=>kZ r (iz cf "dict" g&&bS cf.sc "zip" g2&&Ja x&&Ja y&&Xb cf a x&&Xb cf b y))))
|.share a,e=>Xb cf a e
|.b9 a,e=>Qh e λg xs l _=>kZ l (lC xs λx r=>kZ r (Qh x λg2 xs l _=>kZ l (lC xs λx r=>kZ r (iz cf "list" g&&bS cf.sc "range" g2&&Ja x&&Xb cf a x))))
|.eC s ts,e=>Qh e λg xs l q=>kZ l (lC xs λx r=>kZ r (Wz g λo n p=>qz o λc=>qz x λc2=>decide (n=Zc "split")&&decide (c=.str (ba s))&&decide (c2=.str bU)&&(p.endLine==q.line)&&m4 (ba s) (ts.map ba)))
|.dM m a es,e=>Qh e λg xs l q=>kZ l (lC xs λx r=>kZ r (Wz g λo n p=>u9 (n=Zc (yF m))&&sD m&&(p.endLine==q.line)&&QM o&&Xb cf a o&&bj cf es [x]))
|.xf i f,e=>Wz e λx n _=>zu x λx=>vB cf i x&&u9 (n=Zc f)
|.make c q es,e=>Qh e λg ys l _=>kZ l (lC ys λx r=>bS cf.sc c g&&cf.ob.eD.contains (c,q)&&bj cf es (x::r))
|.aA a c f,e=>Wz e λx n _=>u9 (n=Zc f)&&cf.ob.fl.contains (c,f)&&QM x&&Xb cf a x
|.bQ a c m q es,e=>Qh e λg ys l s=>kZ l (Wz g λx n p=>u9 (n=Zc m)&&cf.ob.mt.contains (c,m,q)&&(p.endLine==s.line)&&u9 (ys.length<=20)&&QM x&&Xb cf a x&&lC ys λy r=>bj cf es (y::r))
|.fv a,e=>Qh e λg ys l s=>kZ l (kZ ys (Wz g λx n p=>u9 (n=Zc "bit_length")&&(p.endLine==s.line)&&QM x&&Xb cf a x))
|.fG f a,e=>Qh e λg ys l _=>lC ys λx r=>kZ r (lC l λw r=>kZ r (u9 (w.arg=y0 (Zc "key"))&&bS cf.sc f w.value&&cf.fns.contains f&&iz cf "min" g&&Ja x&&Xb cf a x))
noncomputable def bj(cf:Cf):M.Es->List Expr->Bool
|.nil,xs=>xs.isEmpty
|.cons e es,xs=>lC xs λx xs=>Ja x&&Xb cf e x&&bj cf es xs
noncomputable def d8(cf:Cf):M.It->Expr->Bool
|.seq a,e=>wg e&&Xb cf a e
|.aC a,e=>Qh e λg xs l _=>kZ l (lC xs λx r=>kZ r (bS cf.sc "range" g&&Ja x&&Xb cf a x))
|.enum _,_=>y9
|.cx _,_=>y9
end
def xw:Expr->Bool
|.ListComp ..=>y9
|.SetComp ..=>y9
|.DictComp ..=>y9
|_=>k9
def Xi:Expr->Bool
|.Tuple ..=>y9
|_=>k9
def ZR(cf:Cf)(i:Nat)(x:Str):Bool:=u9 (cf.N[i]?=y0 x)&&u9 (cf.sc.names.lookup x=y0 .local)
def zA(cf:Cf)(i:Nat)(x:Str):Bool:=u9 (cf.N[i]?=y0 x)&&iX cf.sc x
def JS(cf:Cf)(i:Nat)(m:Str)(e:Expr)(a:Pos):Bool:=Wz e λx n p=>zu x λx=>vB cf i x&&u9 (n=m)&&(p.endLine==a.line)
def ou(cf:Cf):M.It->Expr->Bool
|.seq a,e=>wg e&&Xb cf a e
|.aC a,e=>d8 cf (.aC a) e
|.cx a,e=>Qh e λg xs l _=>kZ l (lC xs λx r=>kZ r (bS cf.sc "enumerate" g&&Ja x&&Xb cf a x))
|.enum _,_=>y9
def oG:M.It->Expr->Bool
|.enum _,e=>!Xi e
|.cx _,e=>!Xi e
|_,_=>k9
def N4:Expr->Bool
|.Name _ _=>k9
|.Subscript _ _ _=>k9
|_=>y9
noncomputable def yM(cf:Cf)(f:String)(s:Stmt)(q:List Expr->Bool):Bool:=k6 s λe=>Qh e λg xs l _=>kZ l (lC xs λx r=>bS cf.sc f g&&cf.fns.contains f&&q (x::r))
noncomputable def rp(cf:Cf)(i:Nat)(f:String)(ys:List Stmt)(q:List Expr->Bool):Bool:=lC ys λs r=>kZ r (gH s λb e=>lC b λt r=>kZ r (zu t λa=>Qh e λg xs l _=>kZ l (lC xs λx r=>ZR cf i a&&bS cf.sc f g&&cf.fns.contains f&&q (x::r))))
def mD(cf:Cf):M.Tb->List Stmt->Bool
|.ex f es,ys=>lC ys λs r=>kZ r (yM cf f s (λxs=>bj cf es xs))
|.sv i f es,ys=>rp cf i f ys (λxs=>bj cf es xs)
|.iff c a b,ys=>lC ys λs r=>kZ r (pO s λt y z=>fN c&&Xb cf c t&&mD cf a y&&mD cf b z)
def yz(cf:Cf)(c:String)(nm:Nat)(a:List ExceptHandler)(q:List Stmt->Bool):Bool:=lC a λx r=>kZ r (yN x λw n b=>oS w λw=>oS n λn=>bS cf.sc c w&&cf.fR.contains c&&ZR cf nm n&&!b.isEmpty&&q b)
mutual
noncomputable def vd(cf:Cf):M.S->Stmt->Bool
|.set i e,st=>gH st λts v=>lC ts λt r=>zu t λx=>kZ r (zA cf i x&&Xb cf e v)
|.ag i e,st=>gH st λts v=>lC ts λt r=>zu t λx=>kZ r (zA cf i x&&Xb cf e v)
|.iP is e,st=>gH st λts v=>lC ts λt r=>lW t λts=>kZ r (pP cf is ts&&Xi v&&Xb cf e v)
|.gy o kx j e,st=>gH st λts v=>lC ts λt r=>kZ r (lW t λts=>lC ts λt1 r=>lC r λt2 r=>kZ r (kb t1 λx y=>zu t2 λa=>Xe y&&Xi v&&(cf.cb&&zA cf j a)&&Xb cf o x&&(Xb cf kx y&&Xb cf e v)))
|.cR o kx e,st=>gH st λts v=>lC ts λt r=>kb t λx y=>kZ r (Xe y&&Xi v&&xw v&&Xb cf o x&&Xb cf kx y&&Xb cf e v)
|.app i e,st=>k6 st λc=>Qh c λf xs l p=>kZ l (lC xs λv r=>kZ r (JS cf i "append" f p&&Ja v&&Xb cf e v))
|.ext i e,st=>k6 st λc=>Qh c λf xs l p=>kZ l (lC xs λv r=>kZ r (JS cf i "extend" f p&&Ja v&&Xb cf e v))
|.bX i c f e,st=>gH st λts v=>lC ts λt r=>Wz t λx n _=>zu x λx=>kZ r (vB cf i x&&(u9 (n=Zc f)&&cf.ob.fl.contains (c,f)&&Xb cf e v))
|.gC a e,st=>k6 st λc=>Qh c λf xs l p=>kZ l (lC xs λv r=>kZ r (Wz f λx n q=>u9 (n="append")&&(q.endLine==p.line)&&Ja v&&Xb cf a x&&(Xb cf e v&&N4 x)))
|.ex e,st=>k6 st λv=>xw v&&Xb cf e v
|.ret e,st=>sx st λv=>oS v λv=>Xb cf e v
|.iff c a b,st=>pO st λx ys zs=>fN c&&Xb cf c x&&cK cf a ys&&cK cf b zs
|.la _ c b,st=>yP st λx ys zs=>kZ zs (fN c&&Xb cf c x&&cK cf b ys)
|.for tg one it b,st=>sO st λt iter ys zs=>kZ zs ((cf.cb&&oG it t)&&Qe cf tg one t&&ou cf it iter&&cK cf b ys)
|.dr c f e,st=>oQ st λa b=>oS a λa=>Qh a λg xs l _=>kZ l (lC xs λx r=>kZ r (b.isNone&&bS cf.sc c g&&(cf.cb&&cf.ob.er.contains (c,f))&&bj cf (.cons e .nil) [x]))
|.raise c es,st=>oQ st λa b=>oS a λa=>Qh a λg xs l _=>kZ l (lC xs λx r=>b.isNone&&bS cf.sc c g&&(cf.cb&&cf.gE.contains c)&&u9 ((x::r).length<=1000)&&bj cf es (x::r))
|.d9 b c nm hb,st=>yj st λy hs=>mD cf b y&&yz cf c nm hs (λz=>cK {cf with toCg:=cf.toCg.q} hb z)
|.bK i c f e,st=>gH st λts v=>lC ts λt r=>Wz t λx n _=>zu x λx=>kZ r (vB cf i x&&u9 (n=Zc f)&&cf.ob.fl.contains (c,f)&&Xb cf e v)
|.gi,_=>k9
noncomputable def cK(cf:Cf):M.Ss->List Stmt->Bool
|.nil,sts=>sts.isEmpty
|.cons s ss,sts=>lC sts λst sts=>vd cf s st&&cK cf ss sts
end
structure sN(X:Cx)(k:Nat)(x:Str)(ps:List Str)(sp:Sp):Prop where
 ex:∃f fd,bq X.prog X.w X.K X.mg X.base (zev X.prog X.w) k f fd ps sp/\Binds X.K fd ps []/\Ah X.K (.ref f)=k9/\X.mg x=y0 (.ref f)
def n9:M.W->Bool
|.own _=>y9
|_=>k9
def gT(Y:Ge)(m:List M.W->M.AH->M.R M.W):Sp:=λb H Q E=>∃G h a,ah Y G h H/\bc Y G H a b/\(∀w∈a,n9 w=k9)/\av Y E G H (m a h) Q
structure Go(Y:Ge)(F:M.Fx)(X:Cx)(E:XK)(k:Nat)(cf:Cf):Prop where
 N:X.N=cf.N
 K:X.K=Y.K
 cl:F.cl=Y.cl
 ow:cf.own=Y.own
 nd:cf.N.Nodup
 gO:∀x,JY cf.sc x=k9->kg X.env.scope x
 kH:∀x,cf.sc.names.lookup x=y0 .local->X.env.scope.names.lookup x=y0 .local
 gU:∀x,iX cf.sc x=k9->lj X.env.scope x/\(X.fn x=k9\/X.env.scope.names.lookup x=y0 .local)
 kB:∀x,(cf.sc.names.lookup x=y0 .cell\/cf.sc.names.lookup x=y0 .free)->X.env.kindOf x=y0 .cell\/X.env.kindOf x=y0 .free
 gl:∀x,i6 cf.sc x=k9->Gl X x
 calm:cf.cb=k9->X.calm=k9
 room:aY k X.A
 cg:aY (k+1) X.A
 pass:Xz (zev X.prog X.w) X E
 blt:∀x,x∈b5->X.mg (Zc x)=u0
 con:∀x d,F.con.lookup x=y0 d->∃u v,X.mg (Zc x)=y0 u/\RelV v u/\∀G H,aD Y G H d v
 fn:∀f,cf.fns.contains f=k9->∃ps,sN X k (Zc f) ps (gT Y (F.call f))
 kW:∀f,cf.qf.contains f=k9->∃ps,sN X 2 (Zc f) ps (gT Y (F.call f))
 cls:∀c,cf.own.contains c=k9->X.mg (Zc c)=y0 (.ref (Y.ca c))
 fld:∀c f,cf.ob.fl.contains (c,f)=k9->dm X.K (Y.ca c)/\cj X.K (Y.ca c) (Zc f)
 iE:∀c m q,cf.ob.mt.contains (c,m,q)=k9->dm X.K (Y.ca c)/\∃fa fd ps,nG X.K (Y.ca c) (Zc m) fa/\bq X.prog X.w X.K X.mg X.base (zev X.prog X.w) k fa fd ps (gT Y (F.call q))/\Binds X.K fd ps []
 eD:∀c q,cf.ob.eD.contains (c,q)=k9->X.mg (Zc c)=y0 (.ref (Y.ca c))/\∃fa fd ps,Mk X.K (Y.ca c) fa/\bq X.prog X.w X.K X.mg X.base (zev X.prog X.w) k fa fd ps (gT Y (F.call q))/\Binds X.K fd ps []
@[elab_as_elim]theorem kE{P:List α->Prop}(k:b=k9->P []):∀l,kZ l b=k9->P l:=by rintro(_|_)<;>first|exact bx|exact k
@[elab_as_elim]theorem C1{P:Stmt->Prop}(k:∀a b p,f a b=k9->P (.Try a b [] [] p)):∀e,yj e f=k9->P e:=by
 rintro(_|_)<;>first|exact bx|exactλh=>kE (λh=>kE (λh=>k _ _ _ h) _ h) _ h
@[elab_as_elim]theorem HA{P:ExceptHandler->Prop}(k:∀a b c p,f a b c=k9->P (.ExceptHandler a b c p)):∀e,yN e f=k9->P e
|.ExceptHandler _ _ _ _,h=>k _ _ _ _ h
def a2(h:(a&&b)=k9):a=k9/\b=true:=Bool.and_eq_true_iff.mp h
def a3(h:(a&&b&&c)=k9):a=k9/\b=k9/\c=true:=⟨(a2 (a2 h).1).1,(a2 (a2 h).1).2,(a2 h).2⟩
def a4(h:(a&&b&&c&&d)=k9):a=k9/\b=k9/\c=k9/\d=true:=⟨(a3 (a2 h).1).1,(a3 (a2 h).1).2.1,(a3 (a2 h).1).2.2,(a2 h).2⟩
def a5(h:(a&&b&&c&&d&&e)=k9):a=k9/\b=k9/\c=k9/\d=k9/\e=true:=⟨(a2 (a4 h).1).1,(a2 (a4 h).1).2,(a4 h).2⟩
def a6(h:(a&&b&&c&&d&&e&&f)=k9):a=k9/\b=k9/\c=k9/\d=k9/\e=k9/\f=true:=⟨(a2 (a5 h).1).1,(a2 (a5 h).1).2,(a5 h).2⟩
def a7(h:(a&&b&&c&&d&&e&&f&&g)=k9):a=k9/\b=k9/\c=k9/\d=k9/\e=k9/\f=k9/\g=true:=⟨(a2 (a6 h).1).1,(a2 (a6 h).1).2,(a6 h).2⟩
def nn(h:o.isNone=k9):o=none:=Ah0.mp h
def iF(h:vB cf i x=k9):cf.N[i]?=y0 x/\JY cf.sc x=k9/\bz x=true:=⟨of_decide_eq_true (a3 h).1,(a3 h).2⟩
def wb(h:bS sc x e=true):∃p,e=.Name (Zc x) p/\i6 sc (Zc x)=true/\(Zc x==("__debug__":Str))=false:=by
 unfold bS at h;rw[Aa0,Aa0]at h;obtain⟨⟨b,c⟩,a⟩:=h;unfold bz at a;rw[Aa0]at a;cases e with
|Name y p=>
  have:y=Zc x:=by simpa[oZ]using b
  subst this;exact⟨p,rfl,c,by simpa using a.1⟩
|_=>simp[oZ]at b
def Jm(h:x∈b5):Zc x≠("__name__":Str):=by
 have:(b5.all λx=>decide (Zc x≠"__name__"))=true:=by decide+kernel
 exact of_decide_eq_true (Ak9.mp this x h)
section
variable{Y:Ge}{F:M.Fx}{X:Cx}{E:XK}{k:Nat}{cf:Cf}
section
variable{G:Gh}{H:Hp}{h:M.AH}{τ:M.Sl}{U:St}{Q:VK}
def ao.val (p:ao Y E G0 H0 (.ok w h) λw _ G' H'=>∀v,aj Y G' H' w v->aG τ U H0 w v->Q v H')(e:Ext G0 H0 G H)(a:ah Y G h H)(z:aj Y G H w v)(f:aG τ U H0 w v):Q v H:=
 p G H e a v z f
end
def FU(c:Go Y F X E k cf)(u:cf.N[i]?=y0 x)(j:JY cf.sc x=k9)(b:bz x=k9):PE X (.Name x pos) (tD Y E (M.eval F (.var i))):=by
 unfold bz at b;rw[Aa0]at b;refine PE.imp (Xy (by rw[c.N];exact u) (c.gO x j) (by simpa using b.1) (by simpa using b.2)) λU H Q m=>?_;obtain⟨G,y,h,s,p⟩:=m;rw[M.eval]at p;cases q:M.Gm y i with
|none=>simp[M.Gi,q]at p;exact p.elim
|some w=>
  obtain⟨v,e,r⟩:=s.slot i w q;refine⟨v,e,?_⟩;cases w with
|v d=>rw[M.Ky q]at p;exact ao.val p Ext.refl s.heap r trivial
|own o=>rw[M.Kc q]at p;obtain⟨a,f,n,z,t,l,g⟩:=r;exact ao.val p Ext.refl s.heap ⟨a,f,n,t,.inl l,g⟩ ⟨i,_,q,rfl,e⟩
|bor o=>rw[M.Kj q]at p;exact ao.val p Ext.refl s.heap r ⟨i,_,q,rfl,e⟩
def NT(g:Go Y F X E k cf)(j:bS cf.sc c e=k9):PE X e (tD Y E (M.eval F (.con c))):=by
 obtain⟨p,rfl,o,i⟩:=wb j;cases q:F.con.lookup c with
|none=>rintro b s U H Q I ⟨G,m,h,f,a⟩;rw[M.eval,q]at a;exact a.elim
|some d=>obtain⟨u,v,n,rv,rd⟩:=g.con c d q;refine PE.imp (QN (g.gl _ o) n rv i) λU H Q l=>?_;obtain⟨G,m,h,f,a⟩:=l;rw[M.eval,q]at a;exact ao.val a Ext.refl f.heap (rd G H) trivial
def Hi:PE X (.Constant (.int i) j pos) (tD Y E (M.eval F (.int i))):=PE.imp F6 (by rintro U H Q⟨G,a,h,s,p⟩;exact ao.val p Ext.refl s.heap rfl trivial)
def HY:PE X (.Constant (.bool i) j pos) (tD Y E (M.eval F (.bl i))):=PE.imp Mh (by rintro U H Q⟨G,a,h,s,p⟩;exact ao.val p Ext.refl s.heap rfl trivial)
def HJ:PE X (.Constant .none j pos) (tD Y E (M.eval F .ak)):=PE.imp MR (by rintro U H Q⟨G,a,h,s,p⟩;exact ao.val p Ext.refl s.heap rfl trivial)
def Fy:PE X (.Constant (.str (ba i)) j pos) (tD Y E (M.eval F (.str i))):=PE.imp oy (by rintro U H Q⟨G,a,h,s,p⟩;exact ao.val p Ext.refl s.heap rfl trivial)
section
variable{a b c:M.E}{x y z:Expr}{pos:Pos}
def Dm(n:Go Y F X E k cf)(i:mV o=k9)(t:PE X x (tD Y E (M.eval F a)))(r:PE X y (tD Y E (M.eval F b))):PE X (.BinOp x (n7 o) y pos) (tD Y E (M.eval F (.bin o a b))):=by refine PE.imp (Hz (Ba (E:=E) o i n.K) t r) λU H Q l=>?_;obtain⟨G,D,h,s,p⟩:=l;exact Wa s.heap Ext.refl s p λf v1 C I A e1 w d u J v=>Wa s.heap e1 d v λe v2 z m B e2 c j q K g=>⟨m,z,f,e,j.heap,u.ext c d.heap,q,av.mk g e2 s.heap⟩
theorem oz(a:∀c y,RV hp c y->ee y=M.cn c d):∀{ys}{us},cu hp ys us->us.any ee=M.inD d ys
|[],_,rfl=>rfl
|c::ys,_,z7=>by obtain⟨u,r,rfl,e,f⟩:=z7;have b:=oz a f;unfold M.inD at b⊢;rw[Ag,Ag,b,a c u e]
def pB(f:aY k X.A)(p:M.GD ys<140)(o:RV s.heap d v)(n:cu s.heap ys its):∃L:Value->Bool,(∀c y,RV s.heap c y->L y=M.cn c d)/\∀y,y∈its.toArray->SeqAt.EqAt X.A.in1 s y v (L y):=by
 have e:∃L:Value->Bool,∀c y,RV s.heap c y->L y=M.cn c d:=⟨λy=>@u9 (∃a,RV s.heap a y/\M.cn a d=k9) (Al9 _),λc y z=>by
  cases q:M.cn c d with
|true=>exact@decide_eq_true _ (Al9 _) ⟨c,z,q⟩
|false=>exact@decide_eq_false _ (Al9 _) λ⟨d,l,g⟩=>by rw[RV.inj l z,q]at g;cases g⟩
 obtain⟨L,h⟩:=e;refine⟨L,h,λy m=>?_⟩;obtain⟨j,i⟩:=List.getElem?_of_mem (List.mem_toArray.mp m);obtain⟨a,b,rd⟩:=n.get i;rw[h a y rd];exact(pR 140 a _ X.A.in1 y v (by have:=QB b;lia) (by have:=f.un;lia) rd o).eq
def tZ(t:X.K=Y.K)(j:aY k X.A)(neg:Bool){x y:V}(I:Inv X pins U H s)(D:RelV x v)(B:RelV y u){b:Bool}(A:ah Y G h H)
 (F:aj Y G H w1 x)(E:aj Y G H w2 y)(e:M.Kb w1 w2 h=y0 b)(q:Q (.bl (if neg then !b else b)) H):wpAny (model X.prog X.w) X.A (compareOp (if neg then .NotIn else .In) v u) (EP X pins U Q) X.xe s:=by
 unfold M.Kb at e;split at e
 .rename_i w e2;split at e
  .rename_i c;cases e;have n:=by simpa using c
   have z:=F.rv I t A D n.1.1;have o:=E.rv I t A B;cases r:w2.dd h with
|lst C=>
    rw[r]at e2 o;cases e2;obtain⟨a,f,rfl,i,g⟩:=o n.1.2;obtain⟨d,p,m⟩:=pB j n.2 z g;have l:f.toArray.any d=M.inD (w1.dd h) w:=by rw[List.any_toArray];exact oz p g
    cases neg with
    |true=>exact SeqAt.notIn_listAt d i m ⟨.bl _,H,I,rfl,by rw[l];exact q⟩
    |false=>exact SeqAt.in_listAt d i m ⟨.bl _,H,I,rfl,by rw[l];exact q⟩
|tup C=>
    rw[r]at e2 o;cases e2;obtain⟨a,f,rfl,i,g⟩:=o n.1.2;obtain⟨d,p,m⟩:=pB j n.2 z g;have l:f.toArray.any d=M.inD (w1.dd h) w:=by rw[List.any_toArray];exact oz p g
    cases neg with
    |true=>exact SeqAt.notIn_tupleAt d i m ⟨.bl _,H,I,rfl,by rw[l];exact q⟩
    |false=>exact SeqAt.in_tupleAt d i m ⟨.bl _,H,I,rfl,by rw[l];exact q⟩
|_=>rw[r]at e2;cases e2
  .cases e
 .cases e
def xL(r:Go Y F X E k cf)(o)(C:QH o=k9):b7 X (compareOp (fT o)) (iZ Y o):=by
 have f:∀{o},(∀d a h b,M.Gw o d a h=y0 b->∃i j,M.W.int? d=y0 i/\M.W.int? a=y0 j/\M.KB o i j=y0 b)->b7 X (compareOp (fT o)) (iZ Y o):=by rintro o B g s U H x y v u Q I m l ⟨G,h,d,a,b,w,p,n,e,q⟩;obtain⟨i,j,e1,e2,A⟩:=B d a h b e;cases p.int e1;cases n.int e2;exact Eo A I m l q
 have mk:∀{o}{d a}{h:M.AH}{b},(match M.W.int? d,M.W.int? a with
|some i,y0 j=>M.KB o i j
|_,_=>u0)=y0 b->∃i j,M.W.int? d=y0 i/\M.W.int? a=y0 j/\M.KB o i j=y0 b:=by
  intro o d a h b e;split at e
  .rename_i i j e1 e2;exact⟨i,j,e1,e2,e⟩
  .cases e
 cases o with
|eq=>exact B2 r.K r.room
|ne=>exact L4 r.K r.room
|lt=>exact f λd a h b e=>mk (h:=h) e
|le=>exact f λd a h b e=>mk (h:=h) e
|gt=>exact f λd a h b e=>mk (h:=h) e
|ge=>exact f λd a h b e=>mk (h:=h) e
|mem=>rintro g s U H x y v u Q I m l ⟨G,h,d,a,b,w,p,n,e,q⟩;exact tZ r.K r.room y9 I m l w p n e q
|fB=>
  rintro g s U H x y v u Q I m l ⟨G,h,d,a,b,w,p,n,e,q⟩;have e:(M.Kb d a h).map (!·)=y0 b:=e;cases e2:M.Kb d a h with
  |none=>rw[e2]at e;cases e
  |some c=>rw[e2]at e;cases e;exact tZ r.K r.room k9 I m l w p n e2 q
|d4=>
  rintro g s U H x y v u Q I m l ⟨G,h,d,a,b,w,p,n,e,q⟩;have e:M.Ks d a=y0 b:=e;unfold M.Ks at e;split at e
  .cases e;cases p;cases n;cases m;obtain⟨t,rfl⟩:=l;exact wpAny_is_plain rfl (mO I q rfl)
  .cases e;cases p;cases n;obtain⟨t,rfl⟩:=m;obtain⟨z,rfl⟩:=l;exact PyProof.Rows.is_bool (mO I q rfl)
  .cases e
|kL=>
  rintro g s U H x y v u Q I m l ⟨G,h,d,a,b,w,p,n,e,q⟩;have e:(M.Ks d a).map (!·)=y0 b:=e;unfold M.Ks at e;split at e
  .cases e;cases p;cases n;cases m;obtain⟨t,rfl⟩:=l;exact wpAny_isNot_plain rfl (mO I q rfl)
  .cases e;cases p;cases n;obtain⟨t,rfl⟩:=m;obtain⟨z,rfl⟩:=l;exact PyProof.Rows.isnot_bool (mO I q rfl)
  .cases e
def jo(h:wg e=k9):behindInMarks o e=false:=by
 cases e<;>first|rfl|(simp[wg]at h)
def vK(w:Go Y F X E k cf)(s:ar Y G τ h U H)
 (p:ao Y E G H ((M.eval F a τ h).bind λx h=>(M.eval F b τ h).bind λy h=>(M.R.of h (M.Gw o x y h)).bind λc h=>.ok c h) λc _ _ H'=>R (.bl c) H'):
 mB (iZ Y o) (tD Y E (M.eval F a)) (tD Y E (M.eval F b)) U H R:=by
 refine Wa s.heap Ext.refl s p λj v1 A B v e1 t g q C r=>Wa s.heap e1 g r λi v2 u l z e2 e f m D d=>?_;obtain⟨c,n,d⟩:=d.of;exact⟨l,u,j,i,c,f.heap,q.ext e g.heap,m,n,d.at e2 f.heap⟩
def ao.map {f:α->β}(p:ao Y E G H (r.bind λa h=>.ok (f a) h) P):ao Y E G H r λa h G' H'=>P (f a) h G' H':=by
 cases r with
|ok a h=>exact p
|exc d h=>exact p
|fail=>exact p
def Xg(r:M.R α)(f)(g:β->M.AH->M.R γ):(r.bind f).bind g=r.bind λa h=>(f a h).bind g:=by cases r<;>rfl
def IX(l:Go Y F X E k cf)(n:QH o=k9)(r:wg y=k9)(A:PE X x (tD Y E (M.eval F a)))(z:PE X y (tD Y E (M.eval F b))):PE X (.Compare x [fT o] [y] pos) (tD Y E (M.eval F (.cmp o a b))):=by
 refine PE.imp (tM (xL l o n) A z (jo r)) λU H Q t=>?_;obtain⟨G,g,h,s,p⟩:=t;rw[M.eval]at p;refine vK l s ?_;have m:ao Y E G H (((M.eval F a g h).bind λx h=>(M.eval F b g h).bind λy h=>(M.R.of h (M.Gw o x y h)).bind λc h=>.ok c h).bind λc h=>.ok (M.W.v (.bl c)) h) λw _ j i=>∀v,aj Y j i w v->aG g U H w v->Q v i:=by simpa only[Xg,M.R.ae]using p
 have f:=m.map;cases q:(M.eval F a g h).bind λx h=>(M.eval F b g h).bind λy h=>(M.R.of h _).bind λc h=>.ok c h with
|ok c u=>rw[q]at f;exactλj i e B=>f j i e B _ rfl trivial
|exc d u=>rw[q]at f;exact f
|fail=>rw[q]at f;exact f
def NA(g:Go Y F X E k cf)(m:QH o=k9)(n:wg y=k9)(v:PE X x (tD Y E (M.eval F a)))(u:PE X y (tD Y E (M.eval F b))):PT X (.Compare x [fT o] [y] pos) (cY Y E (M.Gp F (.cmp o a b))):=by
 refine PT.imp (rn (xL g o m) v u (jo n)) λU H Q r=>?_;obtain⟨G,i,h,s,p⟩:=r;unfold M.Gp at p;rw[M.eval]at p;refine vK g s ?_;have f:=by simpa only[Xg,M.R.ae,M.GS,M.R.au]using p
 cases q:(M.eval F a i h).bind λx h=>(M.eval F b i h).bind λy h=>(M.R.of h _).bind λc h=>.ok c h with
|ok c t=>rw[q]at f;exactλl j e w=>⟨c,rfl,f l j e w⟩
|exc d t=>rw[q]at f;exact f
|fail=>rw[q]at f;exact f
end
end
section
variable{Y:Ge}{F:M.Fx}{X:Cx}{E:XK}{k:Nat}{cf:Cf}{a b c:M.E}{x y z:Expr}{pos:Pos}
def ZA(r:M.R α):(r.bind λw h=>.ok w h)=r:=by cases r<;>rfl
def Cv(i:Go Y F X E k cf)(m:PE X x (tD Y E (M.eval F a)))(e:∀j,isTrue x X.env j=(do let v←j;standAt x.pos;holding [v] (truthy v))):PT X x (cY Y E (M.Gp F a)):=by
 refine PT.imp (DI m e) λU H Q g=>?_;obtain⟨G,u,h,s,p⟩:=g;refine Wa s.heap Ext.refl s p λd v1 l o f e1 r c n w b=>?_;cases q:M.G6 l d with
|none=>rw[q]at b;exact b.elim
|some t=>rw[q]at b;exact⟨t,X7 i.K c.heap n q,b o f e1 c.heap⟩
def Lx(i:PE X x ta):PE X (.UnaryOp .Not x pos) (λU H Q=>ta U H λv H1=>∃t,kl X.K v H1 t/\Q (.bl (!t)) H1):=by intro a s U H Q I h;exact UnaryOp_ (aH (i a s U H _ I h) (by rintro v l⟨x,H1,f,j,t,k,d⟩;exact not_of (aH (nv a l U H1 x v (λc b=>Q (.bl (!c)) b) f j ⟨t,k,d⟩) (by rintro c m⟨g,e,q⟩;exact⟨.bl (!c),g,e,rfl,q⟩))))
def Hm(e:Go Y F X E k cf)(f:PE X x (tD Y E (M.eval F a))):PE X (.UnaryOp .Not x pos) (tD Y E (M.eval F (.not a))):=by refine PE.imp (Lx f) λU H Q d=>?_;obtain⟨G,n,h,s,p⟩:=d;refine Wa s.heap Ext.refl s p λj v1 m o l e1 i c g r b=>?_;obtain⟨t,q,b⟩:=b.of;exact⟨t,X7 e.K c.heap g q,ao.val b e1 c.heap rfl trivial⟩
def KN(g:PT X x (cY Y E (M.Gp F a))):PT X (.UnaryOp .Not x pos) (cY Y E (M.Gp F (.not a))):=by
 refine PT.imp (AE g) λU H Q d=>?_;obtain⟨G,c,h,s,p⟩:=d;unfold M.Gp at p;rw[M.eval]at p;have e:ao Y E G H ((M.Gp F a c h).bind λt h=>.ok (!t) h) λb _ _ f=>Q b f:=by unfold M.Gp;simpa only[Xg,M.R.ae,M.GS,M.R.au]using p
 exact⟨G,c,h,s,e.map⟩
def Nf{rest:List Expr}(m:PE X x ta)(l:PE X (.BoolOp .And (y::rest) pos) tb):PE X (.BoolOp .And (x::y::rest) pos) (λU H Q=>ta U H λv H1=>∃t,kl X.K v H1 t/\if t=k9 then tb U H1 Q else Q v H1):=by
 intro a s U H Q I h;refine BoolOp_and (aH (m a s U H _ I h) ?_);rintro v o⟨x,H1,k,f,t,n,g⟩;refine aH (nv a o U H1 x v (λc b=>if c=k9 then tb U b Q else Q x b) k f ⟨t,n,g⟩) λc i j=>?_;obtain⟨e,d,q⟩:=j;cases c with
|true=>exact l a i U e Q d q
|false=>exact⟨x,e,d,f,q⟩
def Lv{rest:List Expr}(m:PE X x ta)(l:PE X (.BoolOp .Or (y::rest) pos) tb):PE X (.BoolOp .Or (x::y::rest) pos) (λU H Q=>ta U H λv H1=>∃t,kl X.K v H1 t/\if t=k9 then Q v H1 else tb U H1 Q):=by
 intro a s U H Q I h;refine BoolOp_or (aH (m a s U H _ I h) ?_);rintro v o⟨x,H1,k,f,t,n,g⟩;refine aH (nv a o U H1 x v (λc b=>if c=k9 then Q x b else tb U b Q) k f ⟨t,n,g⟩) λc i j=>?_;obtain⟨e,d,q⟩:=j;cases c with
|false=>exact l a i U e Q d q
|true=>exact⟨x,e,d,f,q⟩
def sk(j:Go Y F X E k cf){rest:List Expr}(o:PE X x (tD Y E (M.eval F a)))(n:PE X (.BoolOp .And (y::rest) pos) (tD Y E (M.eval F b))):PE X (.BoolOp .And (x::y::rest) pos) (tD Y E (M.eval F (.and a b))):=by
 refine PE.imp (Nf o n) λU H Q i=>?_;obtain⟨G,I,h,s,p⟩:=i;refine Wa s.heap Ext.refl s p λz v1 D J A e1 v d e r c=>?_;obtain⟨t,q,c⟩:=c.of;refine⟨t,X7 j.K d.heap e q,?_⟩;cases t with
|true=>exact Wa s.heap e1 d (by rw[ZA];exact c) λw v2 K B C e2 l g m u f=>ao.val f e2 g.heap m (u.back e1 s.heap)
|false=>exact ao.val c e1 d.heap e r
def yr(j:Go Y F X E k cf){rest:List Expr}(o:PE X x (tD Y E (M.eval F a)))(n:PE X (.BoolOp .Or (y::rest) pos) (tD Y E (M.eval F b))):PE X (.BoolOp .Or (x::y::rest) pos) (tD Y E (M.eval F (.or a b))):=by
 refine PE.imp (Lv o n) λU H Q i=>?_;obtain⟨G,I,h,s,p⟩:=i;refine Wa s.heap Ext.refl s p λz v1 D J A e1 v d e r c=>?_;obtain⟨t,q,c⟩:=c.of;refine⟨t,X7 j.K d.heap e q,?_⟩;cases t with
|false=>exact Wa s.heap e1 d (by rw[ZA];exact c) λw v2 K B C e2 l g m u f=>ao.val f e2 g.heap m (u.back e1 s.heap)
|true=>exact ao.val c e1 d.heap e r
def LV:M.Gp F (.and a b) τ h=(M.Gp F a τ h).bind λt h=>match t with
|true=>M.Gp F b τ h
|false=>.ok y9 h:=by
 unfold M.Gp;rw[M.eval];simp only[Xg];congr 1;funext w h1;cases q:M.G6 h1 w with
|none=>rfl
|some t=>
  cases t with
|true=>rfl
|false=>simp[q]
def LW:M.Gp F (.or a b) τ h=(M.Gp F a τ h).bind λt h=>match t with
|true=>.ok k9 h
|false=>M.Gp F b τ h:=by
 unfold M.Gp;rw[M.eval];simp only[Xg];congr 1;funext w h1;cases q:M.G6 h1 w with
|none=>rfl
|some t=>
  cases t with
|false=>rfl
|true=>simp[q]
def j7{rest:List Expr}(q:PT X x (cY Y E (M.Gp F a)))(o:PW X (.BoolOp .And (y::rest) pos) (cY Y E (M.Gp F b))):PW X (.BoolOp .And (x::y::rest) pos) (cY Y E (M.Gp F (.and a b))):=by
 rintro r c i U H Q I ⟨G,B,h,s,p⟩;refine Mg q o r c i U H Q I ?_;rw[LV]at p;refine ZM s.heap Ext.refl s p λt A u k e1 v e d=>?_;cases t with
|true=>exact ZM s.heap e1 e (f:=λw h=>.ok w h) (by rw[ZA];exact d) λz C l m e2 n j g=>g l m e2 j.heap
|false=>exact d u k e1 e.heap
def uB{rest:List Expr}(q:PT X x (cY Y E (M.Gp F a)))(o:PW X (.BoolOp .Or (y::rest) pos) (cY Y E (M.Gp F b))):PW X (.BoolOp .Or (x::y::rest) pos) (cY Y E (M.Gp F (.or a b))):=by
 rintro r c i U H Q I ⟨G,B,h,s,p⟩;refine Ey q o r c i U H Q I ?_;rw[LW]at p;refine ZM s.heap Ext.refl s p λt A u k e1 v e d=>?_;cases t with
|false=>exact ZM s.heap e1 e (f:=λw h=>.ok w h) (by rw[ZA];exact d) λz C l m e2 n j g=>g l m e2 j.heap
|true=>exact d u k e1 e.heap
def IT(d:PE X x (tD Y E (M.eval F a))):PE X (.UnaryOp .USub x pos) (tD Y E (M.eval F (.neg a))):=by refine PE.imp (rB BM d) λU H Q c=>?_;obtain⟨G,l,h,s,p⟩:=c;refine Wa s.heap Ext.refl s p λi v1 k m j e1 g f e n b=>?_;obtain⟨t,q,b⟩:=b.of;exact⟨t,e.int q,ao.val b e1 f.heap rfl trivial⟩
def IG(d:PE X x (tD Y E (M.eval F a))):PE X (.UnaryOp .Invert x pos) (tD Y E (M.eval F (.inv a))):=by
 refine PE.imp (rB C7 d) λU H Q c=>?_;obtain⟨G,m,h,s,p⟩:=c;refine Wa s.heap Ext.refl s p λj v1 l n k e1 i g f o b=>?_;obtain⟨t,q,b⟩:=b.of;refine⟨t,f.int q,?_⟩;have e:Builtin.bitNot t=-t-1:=by unfold Builtin.bitNot;lia
 exact ao.val b e1 g.heap rfl trivial
def vJ(r:aj Y G H w v):(v=.ak)↔w=.v .ak:=by
 constructor
 .intro e;subst e;cases w with
|v d=>
   cases d with
   |ak=>rfl
   |bl _=>cases(r)
   |int _=>cases(r)
   |str _=>cases(r)
   |tup _=>obtain⟨_,_,e,_⟩:=r;cases e
   |lst _=>obtain⟨_,_,e,_⟩:=r;cases e
   |ref _=>obtain⟨_,e⟩:=r;cases e
   |exc _ _=>rcases r with⟨_,_,e,_⟩|⟨_,_,e,_⟩<;>cases e
   |err _ _ _=>obtain⟨_,_,_,e,_⟩:=r;cases e
|own _=>obtain⟨_,_,e,_⟩:=r;cases e
|bor _=>obtain⟨_,_,e,_⟩:=r;cases e
 .intro e;subst e;exact r
def p5(neg:Bool):M.W->Bool
|.v .ak=>!neg
|_=>neg
def sj:M.eval F (.d7 neg a) τ h=(M.eval F a τ h).bind λw h=>M.ai (.bl (p5 neg w)) h:=by
 rw[M.eval];congr 1;funext w h1;cases w with
|v d=>cases d<;>rfl
|own _=>rfl
|bor _=>rfl
def vU(r:aj Y G H w v)(neg:Bool):(if neg then !u9 (v=.ak)else u9 (v=.ak))=p5 neg w:=by
 by_cases a:v=.ak
 .have b:=(vJ r).mp a;subst b a;cases neg<;>rfl
 .have b:=λe=>a ((vJ r).mpr e);rw[(decide_eq_false a)];have e2:p5 neg w=neg:=by
   cases w with
|v d=>cases d<;>first|rfl|exact absurd rfl b
|own _=>rfl
|bor _=>rfl
  rw[e2];cases neg<;>rfl
def MX(d:PE X x (tD Y E (M.eval F a))):PE X (.Compare x [if neg then .IsNot else .Is] [.Constant .none j pos'] pos) (tD Y E (M.eval F (.d7 neg a))):=by
 have b:∀U H Q,tD Y E (M.eval F (.d7 neg a)) U H Q->tD Y E _ U H λv c=>Q (.bl (if neg then !u9 (v=.ak)else decide _)) c:=λU H Q e=>by obtain⟨G,n,h,s,p⟩:=e;rw[sj]at p;refine Wa s.heap Ext.refl s p λl v1 m o c e1 k i f q g=>?_;rw[vU f neg];exact ao.val g e1 i.heap rfl trivial
 cases neg with
|true=>exact PE.imp (uu (vn d)) b
|false=>exact PE.imp (uu (uO d)) b
def IK(k:PE X x (tD Y E (M.eval F a))):PT X (.Compare x [if neg then .IsNot else .Is] [.Constant .none j pos'] pos) (cY Y E (M.Gp F (.d7 neg a))):=by
 have g:∀U H Q,cY Y E (M.Gp F (.d7 neg a)) U H Q->tD Y E _ U H λv b=>Q (if neg then !u9 (v=.ak)else decide _) b:=λU H Q n=>by obtain⟨G,i,h,s,p⟩:=n;unfold M.Gp at p;rw[sj,Xg]at p;refine Wa s.heap Ext.refl s p λD v1 I y b e1 C B u J z=>?_;rw[vU u neg];exact z y b e1 B.heap
 have fin:∀U H Q,cY Y E _ U H Q->tD Y E (M.eval F a) U H λv b=>∃c,V.bl _=.bl c/\Q c b:=λU H Q t=>by
  obtain⟨G,i,h,s,p⟩:=g U H Q t;refine⟨G,i,h,s,?_⟩;cases q:M.eval F a i h with
|ok w o=>rw[q]at p;exactλm l e A v r f=>⟨_,rfl,p m l e A v r f⟩
|exc d o=>rw[q]at p;exact p
|fail=>rw[q]at p;exact p
 cases neg with
|true=>exact PT.imp (yQ (vn k)) fin
|false=>exact PT.imp (yQ (uO k)) fin
def W6(h:wg e'=k9):lastMarks [o,o'] [e,e']=false:=jo h
def j6(N:Go Y F X E k cf)(s:ar Y G τ h U H)
 (m:∀b h' G' H',P (.v (.bl b)) h' G' H'->R (.bl b) H')(p:ao Y E G H (M.eval F (.chain o o' a b c) τ h) P):
 ot (iZ Y o) (iZ Y o') (tD Y E (M.eval F a)) (tD Y E (M.eval F b)) (tD Y E (M.eval F c)) U H R:=by
 refine Wa s.heap Ext.refl s p λw v1 O S J e1 D r A T B=>Wa s.heap e1 r B λl v2 I z L e2 g e q V d=>?_;obtain⟨t,j,d⟩:=d.of;refine⟨z,I,w,l,t,e.heap,A.ext g r.heap,q,j,t,rfl,?_⟩;cases t with
|true=>refine Wa s.heap e2 e d λC v3 v x Q y f n u K i=>?_;obtain⟨t,j,i⟩:=i.of;exact⟨x,v,l,C,t,n.heap,q.ext f e.heap,u,j,m _ _ _ _ (i.at y n.heap)⟩
|false=>exact m _ _ _ _ (d.at e2 e.heap)
def D2(d:Go Y F X E k cf)(g:QH o=k9)(e:QH o'=k9)(l:wg z=k9)(j:PE X x (tD Y E (M.eval F a)))(i:PE X y (tD Y E (M.eval F b)))(f:PE X z (tD Y E (M.eval F c))):
 PE X (.Compare x [fT o,fT o'] [y,z] pos) (tD Y E (M.eval F (.chain o o' a b c))):=
 PE.imp (EC (xL d o g) (xL d o' e) j i f (W6 l)) (by rintro U H Q⟨G,t,h,s,p⟩;exact j6 d s (λb r n m q=>q _ rfl trivial) p)
def FO(g:Go Y F X E k cf)(n:QH o=k9)(i:QH o'=k9)(C:wg z=k9)(v:PE X x (tD Y E (M.eval F a)))(u:PE X y (tD Y E (M.eval F b)))(m:PE X z (tD Y E (M.eval F c))):
 PT X (.Compare x [fT o,fT o'] [y,z] pos) (cY Y E (M.Gp F (.chain o o' a b c))):=by
 refine PT.imp (Nh (xL g o n) (xL g o' i) v u m (W6 C)) λU H Q t=>?_;obtain⟨G,A,h,s,p⟩:=t;refine j6 g s (P:=λw _ _ f=>∀b,w=.v (.bl b)->Q b f) (λb l j f q=>⟨b,rfl,q b rfl⟩) ?_;unfold M.Gp at p;cases q:M.eval F _ A h with
|ok w l=>rw[q]at p;exactλj f e B b r=>by subst r;exact p j f e B
|exc d l=>rw[q]at p;exact p
|fail=>rw[q]at p;exact p
end
def Qa(h:Ja e=k9):starEach (e::es) env=(y9,eval e env)::starEach es env:=by
 cases e<;>first|rfl|(simp[Ja]at h)
def qk(h:∀e∈es,Ja e=k9):(backTo pos (starEach es env)).any (·.1)=false:=by
 induction es with
|nil=>rfl
|cons e r b=>rw[Qa (h e Aa4)];show(y9||(backTo pos _).any _)=y9;rw[b λc a=>h c (Aa3 _ a)];rfl
section
variable{Y:Ge}{F:M.Fx}{X:Cx}{E:XK}{k:Nat}{cf:Cf}{a b c:M.E}{x y z:Expr}{pos:Pos}{es:M.Es}{xs:List Expr}
def F0:PA X [] (kF Y E (M.Gx F .nil)):=PA.imp Jj (by rintro U H Q⟨G,a,h,s,p⟩;exact p G H Ext.refl s.heap [] rfl)
def IB(n:Ja x=k9)(r:PE X x (tD Y E (M.eval F a)))(v:PA X xs (kF Y E (M.Gx F es))):PA X (x::xs) (kF Y E (M.Gx F (.cons a es))):=by refine PA.imp (jd r v (Qa n)) λU H Q l=>?_;obtain⟨G,J,h,s,p⟩:=l;refine Wa s.heap Ext.refl s p λA v1 I K B e1 y w t u c=>?_;obtain⟨d,q,c⟩:=c.of;obtain⟨D,e2,f,rd,_⟩:=oN e1 w s t u q;exact qZ s.heap e2 f c λC e z i m j b k g o=>o i m j k.heap (v1::e) ⟨v1,e,rfl,rd.ext b f.heap,g⟩
def Ci:PA X [] (f7 Y E (M.Gd F .nil)):=PA.imp Jj (by rintro U H Q⟨G,a,h,s,p⟩;exact p G H Ext.refl s.heap [] rfl)
def NX(l:Ja x=k9)(n:PE X x (tD Y E (M.eval F a)))(r:PA X xs (f7 Y E (M.Gd F es))):PA X (x::xs) (f7 Y E (M.Gd F (.cons a es))):=by refine PA.imp (jd n r (Qa l)) λU H Q j=>?_;obtain⟨G,A,h,s,p⟩:=j;exact Wa s.heap Ext.refl s p λv v1 z B w e1 t d o C q=>Zo s.heap e1 d q λy c u f k g b i e m=>m f k g i.heap (v1::c) ⟨v1,c,rfl,o.ext b d.heap,e⟩
def MP(B:xs.length<=1000)(a:∀τ h ds h',M.Gx F es τ h=.ok ds h'->ds.length=xs.length)(r:PA X xs (kF Y E (M.Gx F es))):PE X (.Tuple xs n pos) (tD Y E (M.eval F (.tup es))):=by
 refine PE.imp (ug r) λU H Q o=>?_;obtain⟨G,τ,h,s,p⟩:=o;rw[M.eval]at p;cases q:M.Gx F es τ h with
|ok e i=>
  have u:=a _ _ _ _ q;refine qZ s.heap Ext.refl s (f:=λds h=>if ds.length=xs.length then M.ai (.tup ds) h else .fail) (P:=λw h' l g=>∀v,aj Y l g w v->aG τ U H w v->Q v g) ?_ λds y C D A e1 x t j b=>?_
  .rw[q]at p⊢;show ao Y E G H (if e.length=xs.length then M.ai _ i else .fail) _;rw[if_pos u];exact p
  .by_cases k:ds.length=xs.length
   .rw[if_pos k]at b;have z:=j.length;exact⟨Af9 (wj (by lia)),λm c=>av.tup (av.mk b e1 s.heap) t.heap j m c⟩
   .rw[if_neg k]at b;exact b.elim
|exc d i=>rw[q]at p;exact⟨G,τ,h,s,by rw[q];exact p⟩
|fail=>rw[q]at p;exact p.elim
def Lr(A:xs.length<=1000)(a:∀τ h ds h',M.Gx F es τ h=.ok ds h'->ds.length=xs.length)(o:PA X xs (kF Y E (M.Gx F es))):PE X (.List xs pos) (tD Y E (M.eval F (.lst es))):=by
 refine PE.imp (Eu o) λU H Q n=>?_;obtain⟨G,τ,h,s,p⟩:=n;rw[M.eval]at p;cases q:M.Gx F es τ h with
|ok e i=>
  have t:=a _ _ _ _ q;refine qZ s.heap Ext.refl s (f:=λds h=>if ds.length=xs.length then .ok (.own ds) h else .fail) (P:=λw h' l g=>∀v,aj Y l g w v->aG τ U H w v->Q v g) ?_ λds x B C z e1 u r j b=>?_
  .rw[q]at p⊢;show ao Y E G H (if e.length=xs.length then .ok _ i else .fail) _;rw[if_pos t];exact p
  .by_cases k:ds.length=xs.length
   .rw[if_pos k]at b;have y:=j.length;exact⟨Af9 (wj (by lia)),λm c=>av.own (av.mk b e1 s.heap) r.heap j m c⟩
   .rw[if_neg k]at b;exact b.elim
|exc d i=>rw[q]at p;exact⟨G,τ,h,s,by rw[q];exact p⟩
|fail=>rw[q]at p;exact p.elim
def Lh(r:aj Y G H w v):aj Y G H w.arg v:=by
 cases w with
|v d=>exact r
|own f=>obtain⟨a,b,c,_,g,h,e⟩:=r;exact⟨a,b,c,g,.inl h,e⟩
|bor f=>exact r
theorem xp:∀{ws}{vs},bc Y G H ws vs->bc Y G H (ws.map M.W.arg) vs
|[],_,z=>z
|_::_,_,z7=>by obtain⟨v,r,a,c,b⟩:=z7;exact⟨v,r,a,Lh c,xp b⟩
def Jo(ws:List M.W):∀w∈ws.map M.W.arg,n9 w=true:=λw a=>by obtain⟨u,_,rfl⟩:=Ac0.mp a;cases u<;>rfl
def LG(a:Go Y F X E k cf)(m:bS cf.sc f g=k9)(d:cf.fns.contains f=k9)(c:∀e∈x::xs,Ja e=k9)(r:PA X (x::xs) (f7 Y E (M.Gd F es))):PE X (.Call g (x::xs) [] pos) (tD Y E (M.eval F (.call f es))):=by obtain⟨p,rfl,C,i⟩:=wb m;obtain⟨y,L,J,b,w,j,z⟩:=(a.fn f d).imp λy h=>h.ex;refine PE.imp (Fd b a.room (a.gl _ C) z j w .nil a.pass r i (Qa (c _ Aa4)) (qk λe l=>c e (Aa3 _ l))) λU H Q n=>?_;obtain⟨G,K,h,s,p⟩:=n;refine Zo s.heap Ext.refl s p λo D q u I e1 B A t v=>?_;rw[Ac3];exact⟨u,q,_,A.heap,xp t,Jo o,av.mk v e1 s.heap⟩
def BX(a:Go Y F X E k cf)(i:bS cf.sc f g=k9)(c:cf.fns.contains f=k9):PE X (.Call g [] [] pos) (tD Y E (M.eval F (.call f .nil))):=by obtain⟨p,rfl,o,d⟩:=wb i;obtain⟨m,t,q,b,l,e,n⟩:=(a.fn f c).imp λm h=>h.ex;refine PE.imp (MU b a.room (a.gl _ o) n e l .nil a.pass d) λU H Q j=>?_;obtain⟨G,r,h,s,p⟩:=j;exact⟨G,h,_,s.heap,xp (ws:=[]) rfl,Jo [],av.mk p Ext.refl s.heap⟩
def DH(b:M.Bi)(a:nK b=k9):bootBuiltins (Zc (mU b))=y0 (pV b):=by
 cases b<;>first|(exact absurd (show y9=k9 from a) Ab8)|decide+kernel
def sF(b):mU b∈b5:=by cases b<;>decide
def Mq(c:Go Y F X E k cf){b:M.Bi}{g:Expr}(q:nK b=k9)(r:iz cf (mU b) g=k9)(t:∀e∈x::xs,Ja e=k9)(m:PA X (x::xs) (f7 Y E (M.Gd F es))):PE X (.Call g (x::xs) [] pos) (tD Y E (M.eval F (.bi b es))):=by
 obtain⟨p,rfl,o,f⟩:=wb (a2 r).2;have n:=c.blt _ (sF b);have i:=Jm (sF b);have bt:=DH b q;have j:Qn X (pV b) (pq Y E b):=Bc b q c.K (c.calm (a2 r).1);have a:∀U H Q,tD Y E (M.eval F (.bi b es)) U H Q->pI (pq Y E b) (f7 Y E (M.Gd F es)) U H Q:=λU H Q v=>by obtain⟨G,J,h,s,p⟩:=v;rw[M.eval]at p;refine Zo s.heap Ext.refl s p λw D y A I e1 C d z B=>?_;exact⟨A,y,w,d.heap,z,av.mk B e1 s.heap⟩
 have d:=Qa (env:=X.env) (es:=xs) (t _ Aa4);have l:=qk (env:=X.env) (pos:=pos) λe u=>t e (Aa3 _ u);cases b with
|len=>exact PE.imp (zh j (c.gl _ o) n bt m i f d l) a
|divmod=>exact PE.imp (zh j (c.gl _ o) n bt m i f d l) a
|min=>exact PE.imp (zh j (c.gl _ o) n bt m i f d l) a
|max=>cases q
|int=>exact PE.imp (ZD j (c.gl _ o) n bt m i f d l) a
|list=>exact PE.imp (ZD j (c.gl _ o) n bt m i f d l) a
|tuple=>exact PE.imp (ZD j (c.gl _ o) n bt m i f d l) a
|sum=>exact PE.imp (zh j (c.gl _ o) n bt m i f d l) a
|all=>exact PE.imp (zh j (c.gl _ o) n bt m i f d l) a
|any=>exact PE.imp (zh j (c.gl _ o) n bt m i f d l) a
|sorted=>exact PE.imp (zh j (c.gl _ o) n bt m i f d l) a
|str=>cases q
|abs=>cases q
def bC(h:QM o=k9)(w):attributeBase o n env w=w:=by
 cases o with
|Call f a b p=>
  cases a with
  |nil=>exact absurd (h) Ab8
  |cons x a=>cases f<;>rfl
|_=>rfl
theorem rM(t):∀{ts}{n},M.GZ t ts=y0 n->kT (ba t) (ts.map ba)=y0 n
|[],_,e=>by cases e
|y::ys,n,e=>by
  unfold M.GZ at e;rw[Ab4,kT];split at e
  .rename_i q;cases e;rw[if_pos (by rw[q])]
  .rename_i q;obtain⟨k,e1,rfl⟩:=Af8.mp e;rw[if_neg (λc=>q (by have:=congrArg (λs:Str=>s.cps.toList) c;simpa[ba]using this)),rM t e1];rfl
theorem tU{b:Value->Bool}(a:∀c y,RV hp c y->b y=M.cn c d):∀{ys}{us}{j},cu hp ys us->M.Ku d ys=y0 j->∃y,us[j]?=y0 y/\b y=k9/\∀m z,m<j->us[m]?=y0 z->b z=y9
|[],_,_,rfl,h=>by cases h
|c::ys,_,j,z7,h=>by
  obtain⟨u,r,rfl,f,n⟩:=z7;rw[M.Ku]at h;by_cases q:M.cn c d=k9
  .rw[if_pos q]at h;cases h;exact⟨u,rfl,by rw[a c u f];exact q,λm z g=>absurd g (Ag2 m)⟩
  .rw[if_neg q]at h;obtain⟨i,e,rfl⟩:=Af8.mp h;obtain⟨y,o,p,l⟩:=tU a n e;refine⟨y,o,p,λm z g k=>?_⟩;cases m with
|zero=>cases k;rw[a c u f];simpa using q
|succ m=>exact l m z (by omega) k
def MI(Y:Ge):V->List V->Hp->VK->Prop:=λx c H Q=>∃G h b a y j,c=[y]/\ah Y G h H/\aj Y G H b x/\aj Y G H a y/\M.KC a b h=y0 j/\Q (.int (j:Nat)) H
def Dy(A:X.K=Y.K)(g:aY k X.A):i5 X "list.index" (MI Y):=by
 rintro l s U H x Z v us Q I N rv ⟨G,h,w1,w2,y,j,F,B,T,S,e,q⟩;subst F;obtain⟨u,rfl,K⟩:=rv.one;unfold M.KC at e;split at e
 .rename_i ys e2;split at e
  .rename_i c;have w:=by simpa using c
   have n:=T.rv I A B N (by simp_all);rw[e2]at n;obtain⟨a,i,rfl,P,d⟩:=n;obtain⟨O,J,W⟩:=pB g w.1.2 (S.rv I A B K w.1.1.1) d;obtain⟨z,R,h2,D⟩:=tU J d e;obtain⟨⟨L,dd,t,E⟩,p,C,k,V⟩:=id P;subst C V;have r:=d.length;obtain⟨hj,h4⟩:=Aa8.mp R;have hL:=M.Gg;refine call_meets PySem.F.slot_list_index ⟨_,p,rfl⟩ PySem.F.entry_list_index (PySem.F.args_list_index_2 _ _) (PySem.SeqAt.list_indexAt a i.toArray k dd E u O j (by simp_all) (by lia) (by simp_all) (λm hm f=>?_)) ⟨p,W,?_⟩
   .exact D m _ f (by simp)
   .exact⟨.int j,H,I.kept λb o e=>e,⟨_,rfl⟩,q⟩
  .cases e
 .cases e
def Nu(j:Go Y F X E k cf)(hm:sD m=k9)(S:(apos.endLine==cpos.line)=k9)(J:QM o=k9)(r:Ja x=k9)(ha:PE X o (tD Y E (M.eval F a)))(T:PA X [x] (f7 Y E (M.Gd F es))):
 PE X (.Call (.Attribute o (Zc (yF m)) apos) [x] [] cpos) (tD Y E (M.eval F (.dM m a es))):=by
 cases m with
|index=>
  refine PE.imp (mZ PySem.F.plainAttrs_tuple PySem.F.slot_tuple_index PySem.F.type_tuple_index EI DN ha T (bC J _) (by rw[Qa r];rfl) S (Qa r) rfl) λU H Q A=>?_;obtain⟨G,τ,h,s,p⟩:=A;refine Wa s.heap Ext.refl s p λL v1 h1 G1 H1 e1 I f l f1 e=>?_;split at e
  .rename_i D;obtain⟨xs,ex⟩:=Ah4.mp (D);obtain⟨b,y,rfl,q,Z⟩:=l.tup ex;refine⟨⟨b,rfl,j.K▸q.pl⟩,Zo s.heap e1 f e λB us h2 R H2 e2 d g C c=>?_⟩;obtain⟨b',P,N,V,z3'⟩:=aj.ext (w:=.v (.tup xs)) d f.heap ⟨b,y,rfl,q,Z⟩;cases N;cases B with
|nil=>exact c.elim
|cons w wr=>
    cases wr with
|cons _ _=>exact c.elim
|nil=>
     obtain⟨u,rfl,z⟩:=C.one;have c:=c;obtain⟨ts,v,c⟩:=c.of;obtain⟨t,K,c⟩:=c.of;obtain⟨n,W,c⟩:=c.of;cases z.str K;rw[ex,Ag3]at v;cases XB v z3';split at c
     .exact⟨b,ba t,n,ts.map ba,rfl,rfl,j.K▸fk.sq V,rM t W,(av.mk c e2 s.heap).v g.heap rfl⟩
     .exact c.elim
  .exact e.elim
|cc=>
  refine PE.imp (mZ PySem.F.plainAttrs_list PySem.F.slot_list_index PySem.F.type_list_index yL (Dy j.K j.room) ha T (bC J _) (by rw[Qa r];rfl) S (Qa r) rfl) λU H Q A=>?_;obtain⟨G,τ,h,s,p⟩:=A;refine Wa s.heap Ext.refl s p λL v1 h1 G1 H1 e1 I f l f1 e=>?_;split at e
  .rename_i D;obtain⟨ys,O⟩:=Ah4.mp (D);obtain⟨b,y,rfl,q,Z⟩:=aj.lst f.heap l O;refine⟨⟨b,y,rfl,j.K▸q⟩,Zo s.heap e1 f e λB us h2 R H2 e2 d g C c=>?_⟩;cases B with
|nil=>exact c.elim
|cons w wr=>
    cases wr with
|cons _ _=>exact c.elim
|nil=>obtain⟨u,rfl,z⟩:=C.one;have c:=c;obtain⟨n,v,c⟩:=c.of;exact⟨R,h2,L,w,u,n,rfl,g.heap,l.ext d f.heap,z,v,(av.mk c e2 s.heap).v g.heap rfl⟩
  .exact e.elim
|count=>
  refine PE.imp (mZ PySem.F.plainAttrs_list PySem.F.slot_list_count PySem.F.type_list_count yL Bj ha T (bC J _) (by rw[Qa r];rfl) S (Qa r) rfl) λU H Q A=>?_;obtain⟨G,τ,h,s,p⟩:=A;refine Wa s.heap Ext.refl s p λL v1 h1 G1 H1 e1 I f l f1 e=>?_;split at e
  .rename_i D;obtain⟨ys,O⟩:=Ah4.mp (D);obtain⟨b,y,rfl,q,Z⟩:=aj.lst f.heap l O;refine⟨⟨b,y,rfl,j.K▸q⟩,Zo s.heap e1 f e λB us h2 R H2 e2 d g C c=>?_⟩;cases B with
|nil=>exact c.elim
|cons w wr=>
    cases wr with
|cons _ _=>exact c.elim
|nil=>
     obtain⟨u,rfl,z⟩:=C.one;have c:=c;obtain⟨is,v,c⟩:=c.of;obtain⟨i,K,c⟩:=c.of;obtain⟨ys2,W,q4⟩:=Ae4.mp v;obtain⟨b',P,N,y2,y3⟩:=aj.lst g.heap (l.ext d f.heap) W;cases N;cases Qt q4 y3;cases z.int K;split at c
     .exact⟨b,i,is,rfl,rfl,j.K▸y2,(av.mk c e2 s.heap).v g.heap rfl⟩
     .exact c.elim
  .exact e.elim
def K1:"range"∈b5:=by decide
def FJ:"list"∈b5:=by decide
def Az(b:Go Y F X E k cf)(j:iz cf "list" g=true)(e:bS cf.sc "range" g2=true)(m:Ja x=true)(v:PE X x (tD Y E (M.eval F a))):PE X (.Call g [.Call g2 [x] [] pos2] [] pos) (tD Y E (M.eval F (.b9 a))):=by
 obtain⟨p,rfl,D,J⟩:=wb (a2 j).2;obtain⟨I,rfl,f,o⟩:=wb e;refine PE.imp (E6 (b.calm (a2 j).1) (b.gl _ D) (b.blt _ FJ) (b.gl _ f) (b.blt _ K1) (jd v Jj (Qa m)) (Qa m)) λU H Q r=>?_;obtain⟨G,N,h,s,p⟩:=r;refine Wa s.heap Ext.refl s p λK v1 L z q e1 C B w O d=>?_;obtain⟨n,y,d⟩:=d.of;cases w.int y;split at d
 .rename_i c;refine⟨n.toNat,by rw[Ai1 c.1],by omega,λl t=>?_⟩;have u:aa Y z q ((Ab1 n.toNat).map λ(i:Nat)=>M.D.int i) ((Ab1 n.toNat).map λ(i:Nat)=>V.int i):=by
   induction Ab1 n.toNat with
|nil=>rfl
|cons i is A=>exact⟨_,_,rfl,rfl,A⟩
  exact av.own (av.mk d e1 s.heap) B.heap u l t
 .exact d.elim
def HE(n:Go Y F X E k cf){s:M.Tx}{d:List M.Tx}{k1 k2:Nat}{m f c b:Pos}(i:(c.endLine==b.line)=k9)(j:m4 (ba s) (d.map ba)=k9):
 PE X (.Call (.Attribute (.Constant (.str (ba s)) k1 m) (Zc "split") c) [.Constant (.str bU) k2 f] [] b) (tD Y E (M.eval F (.eC s d))):=by
 refine PE.imp (mZ PySem.F.plainAttrs_str PySem.F.slot_str_split PySem.F.type_str_split DL Bq oy (jd oy Jj rfl) rfl rfl i rfl rfl) λU H Q g=>?_;obtain⟨G,o,h,e,p⟩:=g;rw[M.eval]at p;exact⟨⟨_,rfl⟩,ba s,d.map ba,rfl,rfl,j,λa l=>av.own (av.mk p Ext.refl e.heap) e.heap (ZP _) a l⟩
def FL(d:Go Y F X E k cf)(i:t≠.ak)(w:bS cf.sc "isinstance" g=true)(u:bS cf.sc (fZ t) y=true)(j:Ja x=true)(B:PE X x (tD Y E (M.eval F a))):PE X (.Call g [x,y] [] pos) (tD Y E (M.eval F (.dt a t))):=by
 obtain⟨p,rfl,K,m⟩:=wb w;obtain⟨q,rfl,C,r⟩:=wb u;have eW:fZ t∈b5:=by cases t<;>first|exact absurd rfl i|decide
 have bt:bootBuiltins (Zc (fZ t))=y0 (.type (fZ t)):=by cases t<;>first|exact absurd rfl i|decide+kernel
 have bi:bootBuiltins _=y0 _:=boot_isinstance;have b:"isinstance"∈b5:=by decide
 have e:PE X (.Name (Zc (fZ t)) q) (tC (.ty (fZ t))):=tK (d.gl _ C) (d.blt _ eW) bt rfl (Jm eW) r;refine PE.imp (zh (L9 d.K) (d.gl _ K) (d.blt _ b) bi (jd B (jd e Jj) (Qa j)) (Jm b) m (Qa j) rfl) λU H Q z=>?_;obtain⟨G,N,h,s,p⟩:=z;rw[M.eval]at p;refine Wa s.heap Ext.refl s p λo v1 A I L e1 J l D O f=>?_;obtain⟨c,n,f⟩:=f.of;exact⟨I,A,o,v1,t,c,rfl,i,l.heap,D,n,ao.val f e1 l.heap (v:=.bl c) rfl trivial⟩
theorem ub(a:Go Y F X E k cf):∀{j}{zs},WD cf j zs=k9->PA X zs (λ_ H Q=>Q (j.map λt=>.ref (Y.ca t)) H)/\(∀t∈j,t∈Y.own)/\j.length=zs.length
|[],[],_=>⟨Jj,λ_ h=>absurd h (by simp),rfl⟩
|[],_::_,h=>by simp[WD]at h
|_::_,[],h=>by simp[WD]at h
|t::j,z::zs,h=>by
  unfold WD at h;rw[Aa0,Aa0]at h;obtain⟨⟨e,c⟩,d⟩:=h;obtain⟨p,rfl,f,g⟩:=wb e;obtain⟨i1,i2,i3⟩:=ub a d;refine⟨?_,λu b=>?_,congrArg (·+1) i3⟩
  .exact jd (QN (v:=.ref (Y.ca t)) (a.gl _ f) (a.cls t c) rfl g) i1
  .rcases Ab7.mp b with rfl|b
   .rw[←a.ow];exact Ak7.mp c
   .exact i2 u b
theorem QQ{c:String}(b:fc Y c):∀{a:List String},(∀t∈a,t∈Y.own)->PySem.W.kitAny Y.K (.ref (Y.ca c)) ((a.map Y.ca).map Value.ref)=y0 (a.any (M.GO Y.cl 8 c).contains)
|[],_=>rfl
|t::a,h=>by
  rw[Ab4,Ab4,PySem.W.kitAny,b.own t (h t Aa4),Ag];cases e:(M.GO Y.cl 8 c).contains t with
|true=>rfl
|false=>exact QQ b λu d=>h u (Aa3 _ d)
def vO{b:Bool}(r:aj Y G H w v)(e:M.bE cl w ts=y0 b):∃c x j,v=.ref x/\H x=y0 (gA x (Y.ca c) j)/\fc Y c/\b=ts.any (M.GO cl 8 c).contains:=by
 unfold M.bE at e;split at e
 .rename_i c;obtain⟨_,x,g,_,h,a⟩|⟨z,_⟩:=r
  .exact⟨c,x,u0,g,h,a,(Ad5.inj e).symm⟩
  .exact absurd rfl z
 .rename_i c f d;obtain⟨x,k,u,g,n,h,a,l,i,m,o⟩:=r;exact⟨c,x,y0 k,g,a,i,(Ad5.inj e).symm⟩
 .cases e
def Na(d:Go Y F X E k cf)(r:t="ValueError"\/cf.own.contains t=true)(N:bS cf.sc "isinstance" g=true)(J:bS cf.sc t y=true)(f:Ja x=true)(R:PE X x (tD Y E (M.eval F a))):
 PE X (.Call g [x,y] [] pos) (tD Y E (M.eval F (.bE a k9 [t]))):=by
 obtain⟨p,rfl,W,B⟩:=wb N;obtain⟨q,rfl,A,w⟩:=wb J;have bi:=boot_isinstance;have j:"isinstance"∈b5:=by decide
 have fin:∀v,PE X _ (tC v)->(∀c,fc Y c->∀x b,b=[t].any (M.GO Y.cl 8 c).contains->∀e H Q,H x=y0 _->Q (.bl b) H->yG X.K [.ref x,v] H Q)→
  PE X (.Call (.Name _ p) [x,.Name (Zc t) q] [] pos) (tD Y E (M.eval F (.bE a k9 [t]))):=λv K l=>by
  refine PE.imp (zh vM (d.gl _ W) (d.blt _ j) bi (jd R (jd K Jj) (Qa f)) (Jm j) B (Qa f) rfl) λU H Q O=>?_;obtain⟨G,τ,h,s,p⟩:=O;refine Wa s.heap Ext.refl s p λZ v1 h1 G1 I e1 V T S f1 o=>?_;obtain⟨b,C,o⟩:=o.of;obtain⟨c,D,e,rfl,P,L,u⟩:=vO S C;rw[d.cl]at u;exact l c L D b u e I Q P (ao.val o e1 T.heap rfl trivial)
 by_cases m:cf.own.contains t=k9
 .refine fin (.ref _) (QN (d.gl _ A) (d.cls t m) rfl w) λc i x b n e H Q f q=>?_;have l:=i.own t (by rw[←d.ow];exact Ak7.mp m);refine⟨x,Y.ca c,e,b,d.K▸i.k,f,.inl ⟨Y.ca t,rfl,?_⟩,q⟩;rw[d.K,l,n];simp
 .have r:=r.elim id λz=>absurd z m;subst r;have p6:"ValueError"∈b5:=by decide
  refine fin (.ty "ValueError") (tK (d.gl _ A) (d.blt _ p6) E3 rfl (Jm p6) w) fun c i x b n e H Q f q=>?_;refine⟨x,Y.ca c,e,b,d.K▸i.k,f,.inr (.inl ⟨"ValueError",rfl,?_⟩),q⟩;rw[d.K,i.ve,n];simp
def AO(d:Go Y F X E k cf)(A:zs.length<=1000)(y:bS cf.sc "isinstance" g=true)(w:WD cf ts zs=true)(m:Ja x=true)(B:PE X x (tD Y E (M.eval F a))):
 PE X (.Call g [x,.Tuple zs n p2] [] pos) (tD Y E (M.eval F (.bE a y9 ts))):=by
 obtain⟨p,rfl,K,q⟩:=wb y;have bi:=boot_isinstance;have e:"isinstance"∈b5:=by decide
 obtain⟨i1,i2,i3⟩:=ub d w;refine PE.imp (zh vM (d.gl _ K) (d.blt _ e) bi (jd B (jd (ug i1) Jj) (Qa m)) (Jm e) q (Qa m) rfl) λU H Q z=>?_;obtain⟨G,P,h,s,p⟩:=z;refine Wa s.heap Ext.refl s p λL v1 O R N e1 J I C S f=>?_;obtain⟨b,u,f⟩:=f.of;obtain⟨c,v,r,rfl,o,l,j⟩:=vO C u;rw[d.cl]at j;refine⟨?_,λt i=>?_⟩
 .rw[Aa,i3];exact Af9 (wj A)
 have D:=I.heap.gd (.tup (ts.map λt=>.ref (Y.ca t))) i;have e2:=e1.trans s.heap (qh (.tup (ts.map λt=>.ref (Y.ca t))) i);refine⟨v,Y.ca c,r,b,d.K▸l.k,?_,.inr (.inr ⟨t,ts.map Y.ca,rfl,?_,?_⟩),ao.val f e2 D rfl trivial⟩
 .rw[ja (Xa o i)];exact o
 .rw[zb,Ad7];rfl
 .rw[d.K,QQ l i2,j]
def Oh(xs:List α)(i):M.bw xs i=L2.bw xs i:=rfl
theorem aa.bw (z:aa Y G H ds vs)(e:M.bw ds i=y0 d):∃v,L2.bw vs i=y0 v/\aD Y G H d v:=by
 unfold M.bw at e;unfold L2.bw;rw[z.length]at e;cases q:M.eB vs.length i with
|none=>rw[q]at e;cases e
|some j=>rw[q]at e;obtain⟨v,a,c⟩:=z.get (e);refine⟨v,?_,c⟩;have b:L2.eB vs.length i=y0 j:=q;rw[b];exact a
def r9(a:Xe y=k9):sm y:=by
 intro o i;cases y<;>first|rfl|(simp[Xe]at a)
def Dx(t:Go Y F X E k cf)(C:Xe y=k9)(N:PE X x (tD Y E (M.eval F a)))(L:PE X y (tD Y E (M.eval F b))):PE X (.Subscript x y pos) (tD Y E (M.eval F (.ix a b))):=by
 refine PE.imp (rg ET N L (r9 C)) λU H Q I=>?_;obtain⟨G,τ,h,s,p⟩:=I;refine Wa s.heap Ext.refl s p λA v1 h1 G1 T e1 P w m f1 O=>Wa s.heap e1 w O λS v2 R W Z e2 o n J f2 g=>?_;obtain⟨d,q,g⟩:=g.of;have m:=m.ext o w.heap;unfold M.dY at q;split at q
 .rename_i i D;cases J.int D;split at q
  .rename_i j z;cases m.str z;split at q
   .rename_i hl;cases c:M.bw j i with
|none=>rw[c]at q;cases q
|some B=>
     rw[c]at q;cases q;refine .inr (.inr ⟨ba j,i,B,rfl,rfl,by rw[Qd];have:=zj;lia,?_,ao.val g e2 n.heap rfl trivial⟩);have:(ba j).cps.toList=j:=by simp[ba]
     exact c
   .cases q
  .cases c:A.seq? R with
|none=>rw[c]at q;cases q
|some V=>
    rw[c]at q;obtain⟨l,r,rfl,f,K⟩:=m.seq n.heap c;obtain⟨v,e,rd⟩:=K.bw (q);have u:=ao.val g e2 n.heap rd trivial;obtain f|f:=f
    .exact .inl ⟨l,r,i,v,rfl,rfl,t.K▸f,e,u⟩
    .exact .inr (.inl ⟨l,r,i,v,rfl,rfl,t.K▸f,e,u⟩)
 .cases q
end
section
variable{Y:Ge}{F:M.Fx}{X:Cx}{E:XK}{k:Nat}{cf:Cf}{a b c:M.E}{x y z:Expr}{pos p2:Pos}
def oD(xs:List α)(lo hi):M.cut xs lo hi=(xs.drop (HT.aM xs.length 0 lo)).take (HT.aM xs.length xs.length hi-HT.aM xs.length 0 lo):=by
 unfold M.cut;have e:∀d o,M.aM xs.length d o=HT.aM xs.length d o:=λd o=>by cases o<;>rfl
 rw[e,e]
theorem aa.cut (z:aa Y G H ds vs)(lo hi):aa Y G H (M.cut ds lo hi) (lR vs lo hi):=by rw[oD];rw[z.length];exact(z.drop _).take _
def rW{b d:Option Int}(n:ah Y G0 h0 H0)(e:Ext G0 H0 G H)(j:ah Y G h H)(r:aj Y G H w v)
 (p:ao Y E G0 H0 (M.hM w b d h) λw _ G' H'=>∀v,aj Y G' H' w v->aG τ U H0 w v->Q v H'):((pS Y.K v b d H Q\/pj Y.K v b d H Q)\/pF Y.K v b d H Q)\/oo v b d H Q:=by
 unfold M.hM at p;split at p
 .rename_i z q;cases r.str q;split at p
  .rename_i c;have o:=zj;refine .inr ⟨_,rfl,by rw[Qd];lia,?_⟩;have e1:kU (ba z) b d=ba (M.cut z b d):=by unfold kU;rw[Qd,oD];simp[ba]
   exact av.v (av.mk p e n) j rfl
  .exact p.elim
 .split at p
  .rename_i k q;obtain⟨l,f,rfl,i,g⟩:=r.tup q;by_cases c:HT.aM f.length 0 b=0/\HT.aM f.length f.length d=f.length
   .have e2:M.cut k b d=k:=by rw[oD,g.length,c.1,c.2,List.drop_zero,Nat.sub_zero,←g.length,Ap5]
    rw[e2]at p;exact .inl (.inr ⟨l,f,rfl,i.sq,c.1,c.2,p G H e j _ ⟨l,f,rfl,i,g⟩ trivial⟩)
   .exact .inl (.inl (.inr ⟨l,f,rfl,i.sq,c,λa m=>av.tup (av.mk p e n) j (g.cut b d) a m⟩))
  .split at p
   .rename_i k q;obtain⟨l,f,rfl,i,g⟩:=r.lst j q;exact .inl<|.inl<|.inl ⟨l,f,rfl,i,λa m=>av.own (av.mk p e n) j (g.cut b d) a m⟩
   .exact p.elim
def Hu(K:Aa6):V->Option Int->Option Int->Hp->VK->Prop:=λx lo hi H Q=>((pS K x lo hi H Q\/pj K x lo hi H Q)\/pF K x lo hi H Q)\/oo x lo hi H Q
def sL:gW X (Hu X.K):=((hB.or pz).or IM).or oH
def A4(g:Go Y F X E k cf){c:M.E}(o:PE X x (tD Y E (M.eval F a)))(j:PE X l (tD Y E (M.eval F c))):PE X (.Subscript x (.Slice (y0 l) u0 u0 p2) pos) (tD Y E (M.eval F (.gv a c))):=by refine PE.imp (J6 sL o (sU j) rJ) λU H Q f=>?_;obtain⟨G,B,h,s,p⟩:=f;refine Wa s.heap Ext.refl s p λv v1 A C w e1 t d q D r=>Wa s.heap e1 d r λu v2 J y z e2 b e m I p2=>?_;obtain⟨i,n,p2⟩:=p2.of;exact⟨i,m.int n,g.K▸rW s.heap e2 e.heap (q.ext b d.heap) p2⟩
def DB(f:Go Y F X E k cf)(m:PE X x (tD Y E (M.eval F a)))(j:PE X u (tD Y E (M.eval F hi))):PE X (.Subscript x (.Slice u0 (y0 u) u0 p2) pos) (tD Y E (M.eval F (.eF a hi))):=by refine PE.imp (J6 sL m rJ (sU j)) λU H Q e=>?_;obtain⟨G,A,h,s,p⟩:=e;refine Wa s.heap Ext.refl s p λt v1 z B v e1 q c n C o=>Wa s.heap e1 c o λr v2 I w y e2 b d g D p2=>?_;obtain⟨i,l,p2⟩:=p2.of;exact⟨i,g.int l,f.K▸rW s.heap e2 d.heap (n.ext b c.heap) p2⟩
def Gh.cell (G:Gh)(a:Addr):Gh:={G with aP:=λr=>if r=G.n then a else G.aP r,n:=G.n+1}
def ye(a):Mon G H (G.cell a) H:=⟨λ_ _ _ z=>z,Af0 _,λr b=>by show(if r=G.n then a else G.aP r)=_;rw[if_neg (by lia)],λ_ z=>z⟩
def XL{a:Addr}{c:M.Cell}(d:ah Y G h H)(n:¬G.fz a)(l:et G a)(z:bD Y G H a c):ah Y (G.cell a) (h++[c]) H where
 len:=by rw[Ab,d.len];rfl
 any:=λr j q=>by
  show¬G.fz (if r=G.n then a else G.aP r)/\bD Y (G.cell a) H (if r=G.n then a else G.aP r) j;by_cases i:r=G.n
  .rw[if_pos i];rw[i,←d.len,Ad3 (Aa9 _),An3]at q;cases q;exact⟨n,z.mon (ye a) λ_ e=>e⟩
  .rw[if_neg i];have g:r<G.n:=by have:=(Aa8.mp q).1;rw[Ab,d.len]at this;simp at this;omega
   rw[Ad4 (by rw[d.len];exact g)]at q;exact⟨(d.any r j q).1,(d.any r j q).2.mon (ye a) λ_ e=>e⟩
 inj:=λr s k m e=>by
  have k:r<G.n+1:=k;have m:s<G.n+1:=m;have e:(if r=G.n then a else G.aP r)=(if s=G.n then a else G.aP s):=e;by_cases f:r=G.n
  .by_cases b:s=G.n
   .omega
   .rw[if_pos f,if_neg b]at e;exact absurd e.symm (l s (by omega))
  .by_cases b:s=G.n
   .rw[if_neg f,if_pos b]at e;exact absurd e (l r (by omega))
   .rw[if_neg f,if_neg b]at e;exact d.inj r s (by omega) (by omega) e
 live:=d.live
def qV{a:Addr}(c:ah Y G h H)(b:¬G.fz a)(f:et G a)(e:H a=y0 (.lst vs))(z:aa Y G H xs vs)(d:M.Gf xs=k9):ah Y (G.cell a) (h++[.lst xs]) H:=XL c b f ⟨d,vs,e,z⟩
def He{a:Addr}(c:ah Y G h H)(b:¬G.fz a)(d:et G a)(e:H a=y0 (.ins (Y.ca c0) dx0 [])):ah Y (G.cell a) (h++[.obj c0 []]) H:=XL c b d ⟨dx0,[],e,rfl⟩
def JA{a:Addr}(e:Ext G0 H0 G H)(g:H0 a=u0):Ext G0 H0 (G.cell a) H where
 keep:=e.keep
 le:=Ab6 e.le (Af0 _)
 aP:=λr f=>by show(if r=G.n then a else G.aP r)=_;rw[if_neg (by have:=e.le;omega)];exact e.aP r f
 new:=λr d c=>by
  have c:r<G.n+1:=c;show H0 (if r=G.n then a else G.aP r)=u0;by_cases b:r=G.n
  .rw[if_pos b];exact g
  .rw[if_neg b];exact e.new r d (by omega)
 fz:=e.fz
 old:=e.old
 cells:=e.cells
abbrev hJ(a:List (M.Tx×M.D))(us:List V):List (Str×V):=(a.map λp=>ba p.1).zip us
def L8(e:M.Kl h o=y0 (r,ks)):o=y0 (.v (.ref r))/\h[r]?=y0 (.cZ ks):=by
 unfold M.Kl at e;split at e
 .split at e
  .rename_i q;cases e;exact⟨rfl,q⟩
  .cases e
 .cases e
def jB(s:ar Y G τ h U H)(e:M.Kl h (M.Gm τ i)=y0 (r,ks)):U[i]?=y0 (y0 (.ref (G.aP r)))/\M.Gf (ks.map (·.2))=k9/\∃us,H (G.aP r)=y0 (dS (hJ ks us))/\aa Y G H (ks.map (·.2)) us:=by obtain⟨e1,e2⟩:=L8 e;obtain⟨v,a,c⟩:=s.slot i _ e1;obtain⟨d,b⟩:=(c);subst b;exact⟨a,(s.heap.any r _ e2).2⟩
def ua(a b):(ba a==ba b)=(a==b):=by
 cases q:a==b with
|true=>rw[eq_of_beq q];exact beq_self_eq_true _
|false=>exact beq_eq_false_iff_ne.mpr λz=>(beq_eq_false_iff_ne.mp q) (WO z)
section
variable{G:Gh}{H:Hp}
theorem rf{k:M.Tx}:∀{ks}{us},aa Y G H (ks.map (·.2)) us->ks.lookup k=y0 d->∃v,(hJ ks us).lookup (ba k)=y0 v/\aD Y G H d v
|[],_,_,e=>by cases e
|(g,x)::fs,_,z7,e=>by
  obtain⟨v,r,rfl,a,b⟩:=z7;rw[Ab9]at e;show∃w,((ba g,v)::hJ fs r).lookup (ba k)=y0 w/\_;rw[Ab9,ua];cases q:k==g with
|true=>rw[q]at e;cases e;exact⟨v,rfl,a⟩
|false=>rw[q]at e;exact rf b e
theorem oa{k:M.Tx}:∀{ks}{us},aa Y G H (ks.map (·.2)) us->((hJ ks us).lookup (ba k)).isSome=(ks.lookup k).isSome
|[],_,_=>rfl
|(g,x)::fs,_,z7=>by
  obtain⟨v,r,rfl,b,a⟩:=z7;show(((ba g,v)::hJ fs r).lookup (ba k)).isSome=_;rw[Ab9,Ab9,ua];cases q:k==g with
|true=>rfl
|false=>exact oa a
end
def N6:R2:=λx y H Q=>∃k a kvs v,y=.str k/\x=.ref a/\H a=y0 (dS kvs)/\kvs.lookup k=y0 v/\Q v H
def Lb:gQ X N6:=by rintro c b f o U H x y v u Q I l g ⟨k,a,m,d,j,ex,e,h,q⟩ n;subst ex j;cases l;obtain⟨_,_,_,_,dd⟩:=nH I e;exact tail_any dd.mapOf.typeIs slot_dict_getitem.lookup (M3 I e g h λp s i r=>⟨_,H,i,r,q⟩) n
def Ih(neg:Bool):R2:=λx y H Q=>∃k a kvs,x=.str k/\y=.ref a/\H a=y0 (dS kvs)/\Q (.bl (if neg then !(kvs.lookup k).isSome else(kvs.lookup k).isSome)) H
def uI(neg):b7 X (compareOp (m9 neg)) (Ih neg):=by
 rintro d j U H x y v u Q I e f ⟨k,a,i,ex,g,c,q⟩;subst ex g;cases f;cases neg with
|false=>exact KR I c e λh b=>⟨.bl _,H,b,rfl,q⟩
|true=>exact Dc I c e λh b=>⟨.bl _,H,b,rfl,q⟩
def KQ(u:PE X x (tD Y E (M.eval F a))):PE X x (tD Y E (M.eval F (.share a))):=by
 refine PE.imp u λU H Q q=>?_;obtain⟨G,C,h,s,p⟩:=q;refine Wa s.heap Ext.refl s p λk v1 c g B e1 z i w y b=>?_;cases k with
|own e=>
  obtain⟨l,A,rfl,n,t,o,j⟩:=w;obtain⟨D,m,r⟩:=y;cases m;have b:ao Y E G H (if M.Gf e=k9 then M.ai _ (c++[.lst e])else .fail) _:=b;by_cases f:M.Gf e=k9;rotate_left
  .rw[if_neg f]at b;exact b.elim
  rw[if_pos f]at b;refine ao.val b (JA e1 r) (qV i.heap n t o j f) ?_ trivial;show c.length<g.n+1/\V.ref l=.ref (if c.length=g.n then l else g.aP c.length);rw[i.heap.len,if_pos rfl];exact⟨Ae9 _,rfl⟩
|v d=>exact b.elim
|bor e=>exact b.elim
end
structure zI(Y:Ge)(J:It)(ds:List M.D)(C:Gh->Hp->Prop):Prop where
 go:∀i G H,C G H->i<ds.length->J.go i H
 f6:∀i G H x H',C G H->i<ds.length->J.f6 i H x H'->∃G',Ext G H G' H'/\(∀h,ah Y G h H->ah Y G' h H')/\∃d,ds[i]?=y0 d/\aD Y G' H' d x
 stop:∀i G H,C G H->ds.length<=i->i<=ds.length->J.stop i H
 keep:∀G H G' H' h,C G H->Ext G H G' H'->ah Y G h H->C G' H'
noncomputable def ql(τ:M.Sl)(U:St)(H:Hp):Hp:=λa=>open Classical in if∃(i:Nat)(xs:List M.D),M.Gm τ i=y0 (.own xs)/\U[i]?=y0 (y0 (.ref a))then u0 else H a
def g7(Y:Ge)(E:XK)(a:Bool)(m:M.Sl->M.AH->M.R (List M.D)):TI:=λU H R=>∃G τ h,ar Y G τ h U H/\ao Y E G H (m τ h) λds _ G' H'=>∀J C,zI Y J ds C->C G' H'->(a=k9->C G' (ql τ U H'))->R J H'
def PI.imp (h:PI X tg e t)(k:∀U H R,t' U H R->t U H R):PI X tg e t':=λa s U H R I q=>h a s U H R I (k _ _ _ q)
section
variable{Y:Ge}{F:M.Fx}{X:Cx}{E:XK}{k:Nat}{cf:Cf}{a b c:M.E}{x y z tg:Expr}{pos p2:Pos}{lp:Bool}
def mC(Y:Ge)(G:Gh)(H:Hp)(l:Addr)(vs:List V):Prop:=(Rd H l (.lst vs)/\et G l)\/uo Y l vs
def CL(Y:Ge)(ds:List M.D)(l:Addr)(vs:List V)(G:Gh)(H:Hp):Prop:=mC Y G H l vs/\aa Y G H ds vs
def mC.sq (z:mC Y G H l vs):br Y.K H l vs:=z.elim (λz=>.inl z.1) .inr
def kv.pM (z:kv Y G H l vs)(a:ah Y G h H):mC Y G H l vs:=z.elim (λz=>.inl ⟨z.2,a.off z.1⟩) .inr
def CL.keep (z:CL Y ds l vs G H)(e:Ext G H G' H')(c:ah Y G h H):CL Y ds l vs G' H':=by
 obtain⟨a,d⟩:=z;refine⟨?_,d.ext e c⟩;obtain⟨a,b⟩|a:=a
 .refine .inl ⟨e.rd a b,?_⟩;obtain a|⟨o,a⟩:=a
  .exact e.off a b
  .exact e.off a b
 .exact .inr a
def CL.walk {K:Aa6}(d:K=Y.K):zI Y (lM K l) ds (CL Y ds l vs) where
 go:=by rintro i G H ⟨b,c⟩ a;obtain⟨v,e,_⟩:=c.get (Ab0 a);exact⟨vs,v,d▸b.sq,e⟩
 f6:=by rintro i G H x f ⟨b,c⟩ a ⟨e,y⟩;subst e;obtain⟨v,e,rd⟩:=c.get (Ab0 a);have:=y vs (d▸b.sq);rw[e]at this;cases this;exact⟨G,Ext.refl,λ_ q=>q,_,Ab0 a,rd⟩
 stop:=(by rintro i G H⟨b,c⟩a _;exact⟨vs,d▸b.sq,by rw[←c.length];exact a⟩)
 keep:=λG H j f h z e g=>z.keep e g
def CT(Y:Ge)(ds:List M.D)(l:Addr)(vs:List V)(G:Gh)(H:Hp):Prop:=fk Y G H l vs/\aa Y G H ds vs
def fk.mon (z:fk Y G H l vs)(e:Mon G H G' H'):fk Y G' H' l vs:=z.elim (λz=>.inl ⟨e.fz l z.1,e.keep l _ z.1 z.2⟩) λz=>.inr z
def CT.walk {K:Aa6}(d:K=Y.K):zI Y (lA K l) ds (CT Y ds l vs) where
 go:=by rintro i G H ⟨b,c⟩ a;obtain⟨v,e,_⟩:=c.get (Ab0 a);exact⟨vs,v,d▸b.sq,e⟩
 f6:=by rintro i G H x g ⟨b,c⟩ a ⟨e,y⟩;subst e;obtain⟨v,e,rd⟩:=c.get (Ab0 a);have:=y vs (d▸b.sq);rw[e]at this;cases this;exact⟨G,Ext.refl,λ_ q=>q,_,Ab0 a,rd⟩
 stop:=(by rintro i G H⟨b,c⟩a _;exact⟨vs,d▸b.sq,by rw[←c.length];exact a⟩)
 keep:=λG H j g h z e f=>⟨z.1.mon (e.mon f),z.2.ext e f⟩
def Bx{b:Int}:zI Y (mW b n) ((Ab1 n).map λ(i:Nat)=>M.D.int (b+(i:Int))) (λ_ _=>True) where
 go:=λi G H _ a=>show i<n by simpa using a
 f6:=λi G H x d _ a c=>by
  obtain⟨e,y⟩:=c;subst e y;have a:=by simpa using a
  exact⟨G,Ext.refl,λ_ q=>q,.int (b+i),by simp[a],rfl⟩
 stop:=λi G H _ a _=>show n<=i by simpa using a
 keep:=λ_ _ _ _ _ _ _ _=>trivial
def jj(a:¬∃i xs,M.Gm τ i=y0 (.own xs)/\U[i]?=y0 (y0 (.ref l))):ql τ U H l=H l:=by unfold ql;rw[if_neg a]
def Ws(s:ar Y G τ h U H)(e:M.Gm τ i=y0 (.own xs))(d:U[i]?=y0 (y0 (.ref l))):¬G.fz l/\et G l/\∃vs,H l=y0 (.lst vs)/\aa Y G H xs vs:=by obtain⟨v,b,a,vs,k,c,g,j,f⟩:=s.slot i _ e;rw[d]at b;cases b;cases k;exact⟨c,g,vs,j,f⟩
def wt(s:ar Y G τ h U H):Mon G H G (ql τ U H):=by refine⟨λa o z e=>?_,Aa9 _,λ_ _=>rfl,λ_ z=>z⟩;rw[jj (by rintro⟨i,d,b,c⟩;exact(Ws s b c).1 z)];exact e
section
open PySem.Calls PySem.W PyProof.Rows
def E2(K:Aa6)(b:TE):TI:=λU H R=>b U H λx H1=>(∃a,x=.ref a/\(∃xs,br K H1 a xs)/\R (lM K a) H1)\/∃a,x=.ref a/\(∃xs,cz K H1 a xs)/\R (lA K a) H1
def w5(n:PE X l tl):PI X tg l (E2 X.K tl):=by
 intro d s U H R I h;refine aH (n d s U H _ I h) ?_;rintro v f ⟨x,k,c,m,t⟩;rcases t with⟨a,e,⟨r,i⟩,q⟩|⟨a,e,⟨r,i⟩,q⟩
 .subst e;cases m;obtain⟨j,rv,p,u⟩:=c.list i;refine wpAny_pyIter_list p.isList ?_;refine⟨f.heap.objs.size,[f.heap.objs.size],_,_,k,rfl,c.kept λb o e=>Aa2 _ e,AB a _,⟨_,Ac _ rfl,rfl,rfl⟩,λb g=>?_,q⟩;have e:=by simpa using g
  subst e;exact c.dN (Aa9 _) (c.aL.fresh (Aa9 _))
 .subst e;cases m;obtain⟨j,rv,p,u⟩:=c.tuple i;refine wpAny_pyIter_tuple (p) ?_;refine⟨f.heap.objs.size,[f.heap.objs.size],_,_,k,rfl,c.kept λb o e=>Aa2 _ e,Mj a _,⟨_,Ac _ rfl,rfl,rfl⟩,λb g=>?_,q⟩;have e:=by simpa using g
  subst e;exact c.dN (Aa9 _) (c.aL.fresh (Aa9 _))
end
def IE(n:Go Y F X E k cf)(I:PE X x (tD Y E (M.eval F a))):PI X tg x (g7 Y E y9 (M.Gj F (.seq a))):=by
 refine PI.imp (w5 I) λU H R B=>?_;obtain⟨G,K,h,s,p⟩:=B;rw[M.Gj]at p;refine Wa s.heap Ext.refl s p λA v1 D q f e1 L w o N c=>?_;have lst:∀{e:List M.D},ao Y E G H (.ok e D) (λe x y r=>∀J C,zI Y J e C->C y r->(y9=k9->C y (ql K U r))->R J r)->(∃l b,v1=.ref l/\mC Y q f l b/\aa Y q f e b)→
  (∃a,v1=.ref a/\(∃u,br X.K f a u)/\R (lM X.K a) f)\/∃a,v1=.ref a/\(∃u,cz X.K f a u)/\R (lA X.K a) f:=λ{e} p ⟨l,b,i,g,m⟩=>
  .inl ⟨l,i,⟨b,n.K▸g.sq⟩,p q f e1 w.heap _ _ (CL.walk (vs:=b) n.K) ⟨g,m⟩ λz=>absurd z Ab8⟩
 cases A with
|v d=>
  cases d with
  |tup e=>obtain⟨l,b,rfl,g,j⟩:=o;exact .inr ⟨l,rfl,⟨b,n.K▸g.sq⟩,c q f e1 w.heap _ _ (CT.walk (vs:=b) n.K) ⟨g,j⟩ λz=>absurd z Ab8⟩
  |lst e=>obtain⟨l,b,i,g,j⟩:=o;exact lst c ⟨l,b,i,g.pM w.heap,j⟩
  |ak=>exact c.elim
  |bl _=>exact c.elim
  |int _=>exact c.elim
  |str _=>exact c.elim
  |ref _=>exact c.elim
  |exc _ _=>exact c.elim
  |err _ _ _=>exact c.elim
|own e=>obtain⟨l,b,i,_,j,m,t⟩:=o;exact lst c ⟨l,b,i,.inl ⟨.inl m,j⟩,t⟩
|bor e=>obtain⟨l,b,i,j,m,t⟩:=o;exact lst c ⟨l,b,i,.inl ⟨m,j⟩,t⟩
def Bf(n:Int):((Ab1 n.toNat).map λ(i:Nat)=>M.D.int (i:Int))=(Ab1 n.toNat).map λ(i:Nat)=>M.D.int (0+(i:Int)):=by congr 1;funext i;rw[Int.zero_add]
def M4:"range"∈b5:=by decide
def QD(d:Go Y F X E k cf)(i:bS cf.sc "range" g=true)(e:Ja x=true)(l:PE X x (tD Y E (M.eval F a))):PI X tg (.Call g [x] [] pos) (g7 Y E lp (M.Gj F (.aC a))):=by
 obtain⟨p,rfl,u,v⟩:=wb i;refine PI.imp (CJ (d.gl _ u) (d.blt _ M4) (jd l Jj (Qa e)) (Qa e)) λU H R j=>?_;obtain⟨G,z,h,s,p⟩:=j;refine Wa s.heap Ext.refl s p λw v1 y o f e1 t r m A b=>?_;obtain⟨n,q,b⟩:=b.of;split at b
 .rename_i c;rw[M.Ka]at c;cases m.int q;rw[Bf]at b;exact⟨n,rfl,c.1,c.2,b o f e1 r.heap _ _ Bx trivial λ_=>trivial⟩
 .exact b.elim
end
section
variable{Y:Ge}{F:M.Fx}{X:Cx}{E:XK}{k:Nat}{cf:Cf}
theorem Qj:∀(τ)(i j)(w),M.Gm (M.GC τ i w) j=if j=i/\i<τ.length then y0 w else M.Gm τ j
|[],i,j,w=>by simp
|x::r,0,0,w=>by simp
|x::r,0,j+1,w=>by simp
|x::r,i+1,0,w=>by simp
|x::r,i+1,j+1,w=>by
  have:=Qj r i j w;simp only[M.GC,M.Gm,this,Aa7];by_cases h:j=i/\i<r.length
  .rw[if_pos h,if_pos (by omega)]
  .rw[if_neg h,if_neg (by omega)]
theorem Js:∀(τ)(i)(w),(M.GC τ i w).length=τ.length
|[],_,_=>rfl
|_::_,0,_=>rfl
|_::r,i+1,w=>by simp[Js r i w]
theorem Xr:∀{τ}{i}{w},M.Gm τ i=y0 w->i<τ.length
|[],_,_,e=>by simp at e
|_::_,0,_,_=>by simp
|_::r,i+1,w,e=>by have:=Xr (by simpa using e);simp;omega
theorem ar.set (s:ar Y G τ h U H)(r:aj Y G H w v)
 (m:gJ w=k9->∀j w',j≠i->M.Gm τ j=y0 w'->gJ w'=k9->∀a,v=.ref a->U[j]?≠y0 (y0 (.ref a))):ar Y G (M.GC τ i w) h (U.set i (y0 v)) H where
 len:=by rw[Js,Ae6];exact s.len
 slot:=λj w' e=>by
  rw[Qj]at e;by_cases c:j=i/\i<τ.length
  .rw[if_pos c]at e;cases e;obtain⟨rfl,c⟩:=c;exact⟨v,Ac6 (by rw[←s.len];exact c),r⟩
  .rw[if_neg c]at e;have n:=λz=>c ⟨z,by subst z;exact Xr e⟩;obtain⟨o,u,t⟩:=s.slot j w' e;exact⟨o,by rw[Ad2 (Ne.symm n)];exact u,t⟩
 apart:=λp q x w' a b e1 e2 k g=>by
  rw[Qj]at e1 e2;by_cases d:p=i/\i<τ.length
  .rw[if_pos d]at e1;cases e1;obtain⟨rfl,d⟩:=d;rw[if_neg (λz=>b z.1.symm)]at e2;rw[Ac6 (by rw[←s.len];exact d)]at g;cases g;rw[Ad2 b];exact m rfl q w' (Ne.symm b) e2 k a rfl
  .rw[if_neg d]at e1;have l:=λz=>d ⟨z,by subst z;exact Xr e1⟩;rw[Ad2 (Ne.symm l)]at g;by_cases f:q=i/\i<τ.length
   .rw[if_pos f]at e2;cases e2;obtain⟨rfl,f⟩:=f;rw[Ac6 (by rw[←s.len];exact f)];intro z;cases z;exact m k p _ l e1 rfl a rfl g
   .rw[if_neg f]at e2;have y:=λz=>f ⟨z,by subst z;exact Xr e2⟩;rw[Ad2 (Ne.symm y)];exact s.apart p q x w' a b e1 e2 k g
 heap:=s.heap
def ar.dX (s:ar Y G τ h U H)(r:aD Y G H d v):ar Y G (M.GC τ i (.v d)) h (U.set i (y0 v)) H:=s.set r λz=>by cases z
def g8:List Nat->List V->St->St
|i::is,v::a,U=>g8 is a (U.set i (y0 v))
|_,_,U=>U
theorem WI:∀{is}{ds}{vs}{τ j}{U},M.aW is ds τ=y0 j->aa Y G H ds vs->ar Y G τ h U H->ar Y G j h (g8 is vs U) H/\is.length=vs.length
|[],[],_,_,_,_,e,rfl,s=>by cases e;exact⟨s,rfl⟩
|[],_::_,_,_,_,_,e,_,_=>by simp[M.aW]at e
|_::_,[],_,_,_,_,e,_,_=>by simp[M.aW]at e
|i::is,d::ds,_,_,_,_,e,z7,s=>by obtain⟨v,r,rfl,a,c⟩:=z7;obtain⟨b,f⟩:=WI (by simpa[M.aW]using e) c (s.dX a);exact⟨b,congrArg (·+1) f⟩
def gM(Y:Ge)(c:List Nat)(one:Bool):TG:=λv U H Q=>match one with
|true=>∃i,c=[i]/\Q (U.set i (y0 v)) H
|false=>∃G ds b a,v=.ref a/\fk Y G H a b/\aa Y G H ds b/\c.length=b.length/\Q (g8 c b U) H
theorem JT(b:Go Y F X E k cf):∀{is}{es},Wt cf is es=k9->lV X es (λvs U H Q=>vs.length=is.length/\Q (g8 is vs U) H)
|[],[],_=>λa s U H vs f Q I r h=>by have c:=Ag4 h.1;subst c;exact sy a s U H [] f Q I r ⟨rfl,h.2⟩
|[],_::_,h=>by simp[Wt]at h
|_::_,[],h=>by simp[Wt]at h
|i::is,e::es,h=>by
  cases e with
|Name x p=>
   simp only[Wt,Aa0,decide_eq_true_eq]at h;obtain⟨⟨j,m⟩,g⟩:=h;have l:=JT b g;have c:=b.gU x m;have d:=JN (j2 (pos:=p) (by rw[b.N];exact b.nd) (by rw[b.N];exact j) c.1 c.2) l;intro a s U H vs f Q I r q;refine d a s U H vs f Q I r ?_;cases vs with
   |nil=>simp at q
   |cons v vs=>refine⟨v,vs,rfl,?_⟩;exact⟨by simpa using q.1,q.2⟩
|_=>simp[Wt]at h
theorem yt:∀{is}{es},Wt cf is es=k9->(assignEach es env).length=is.length/\(assignEach es env).findIdx? (·.1)=u0
|[],[],_=>⟨rfl,rfl⟩
|[],_::_,h=>by simp[Wt]at h
|_::_,[],h=>by simp[Wt]at h
|i::is,e::es,h=>by
  cases e with
|Name x p=>simp only[Wt,Aa0]at h;obtain⟨a,b⟩:=yt h.2;have e1:assignEach (.Name x p::es) env=(y9,assign (.Name x p) env)::assignEach es env:=rfl;rw[e1];refine⟨congrArg (·+1) a,?_⟩;rw[List.findIdx?_cons];simp[b]
|_=>simp[Wt]at h
def Qu(d:Go Y F X E k cf)(h:Qe cf tg one e=k9):PG X e (gM Y tg one):=by
 cases one with
|true=>
  cases e with
  |Name x p=>
   simp only[Qe,Aa0]at h;cases tg with
   |nil=>simp at h
   |cons i r=>
    cases r with
   |cons _ _=>simp at h
   |nil=>simp only[Wt,Aa0,decide_eq_true_eq]at h;obtain⟨_,⟨w,z⟩,_⟩:=h;have g:=d.gU x z;have c:=j2 (pos:=p) (by rw[d.N];exact d.nd) (by rw[d.N];exact w) g.1 g.2;intro b s U H v u Q I r q;obtain⟨j,e,q⟩:=q;cases e;exact c b s U H v u Q I r q
  |_=>simp[Qe]at h
|false=>
  cases e with
|Tuple A n p=>obtain⟨y,h⟩:=a2 (h);obtain⟨o,f⟩:=yt h;have c:=vk (k:=n) (pos:=p) (d.calm y) (JT d h) o f;intro b s U H v u Q I r q;obtain⟨G,B,m,a,rfl,t,C,l,q⟩:=q;exact c b s U H _ u Q I r ⟨a,m,rfl,d.K▸t.sq,l.symm,l.symm,q⟩
|_=>simp[Qe]at h
def Xl(k)(l):∀i,M.Gm (Aa1 k u0++l) (k+i)=M.Gm l i:=by
 induction k with
|zero=>intro i;simp
|succ k a=>intro i;rw[Ad9,show k+1+i=(k+i)+1 by lia];exact a i
def Jq(k)(l):∀{i},i<k->M.Gm (Aa1 k u0++l) i=none:=by
 induction k with
|zero=>intro i h;lia
|succ k a=>
  intro i h;cases i with
|zero=>rfl
|succ i=>rw[Ad9];exact a (by lia)
theorem xA:∀(l)(i),M.Gm l i=(l[i]?).join
|[],_=>by simp
|_::_,0=>by simp
|_::r,i+1=>by simpa using xA r i
def xI(s:ar Y G τ h U H)(e:M.Gi τ j=y0 w):∃v,U[j]?=y0 (y0 v)/\aj Y G H w v/\(gJ w=k9->∃w',M.Gm τ j=y0 w'/\gJ w'=k9)/\n9 w=true:=by
 unfold M.Gi at e;cases q:M.Gm τ j with
|none=>rw[q]at e;cases e
|some w'=>
  obtain⟨v,b,c⟩:=s.slot j w' q;rw[q]at e;cases w' with
|v d=>cases e;exact⟨v,b,c,λz=>(by cases z),rfl⟩
|own k=>cases e;obtain⟨a,f,g,n,m,i,l⟩:=c;exact⟨v,b,⟨a,f,g,m,.inl i,l⟩,λ_=>⟨_,rfl,rfl⟩,rfl⟩
|bor k=>cases e;exact⟨v,b,c,λ_=>⟨_,rfl,rfl⟩,rfl⟩
def ku(k:Nat)(az:List Nat)(τ:M.Sl):M.Sl:=Aa1 k u0++az.map λj=>M.Gi τ j
def BW(s:ar Y G τ h U H)(kk)(az)(b:Ub.length=kk+az.length)(d:∀i,i<az.length->Ub[kk+i]?=y0 ((U[az.getD i 0]?).join)):
 ar Y G (ku kk az τ) h Ub H where
 len:=by unfold ku;rw[Ab,Ad0,Aa,b]
 slot:=λi w e=>by
  unfold ku at e;by_cases f:i<kk
  .rw[Jq kk _ f]at e;cases e
  .obtain⟨j,rfl⟩:∃j,i=kk+j:=⟨i-kk,by omega⟩;rw[Xl,xA,Ac9]at e;cases q:az[j]? with
|none=>rw[q]at e;cases e
|some c=>rw[q]at e;have e:=e;obtain⟨v,n,l,_⟩:=xI s e;have g:=(Aa8.mp q).1;refine⟨v,?_,l⟩;rw[d j g,Ac4,q];show y0 ((U[c]?).join)=_;rw[n];rfl
 apart:=λi j r w a m e1 e2 p o=>by
  exfalso;unfold ku at e1;by_cases f:i<kk
  .rw[Jq kk _ f]at e1;cases e1
  .obtain⟨k,rfl⟩:∃j,i=kk+j:=⟨i-kk,by omega⟩;rw[Xl,xA,Ac9]at e1;cases q:az[k]? with
|none=>rw[q]at e1;cases e1
|some c=>rw[q]at e1;have e1:=e1;obtain⟨_,_,_,_,z⟩:=xI s e1;cases z
 heap:=s.heap
end
theorem Ze{env:Env}{d:NameKind}(g:d≠.free):∀{a:List (Str×NameKind)}{x},a.lookup x=y0 d→
 (a.map λ(n,k)=>if(k==NameKind.free&&env.scope.kind==.function&&env.kindOf n==y0 .cell)then(n,NameKind.cell)else(n,k)).lookup x=y0 d
|[],_,h=>by simp at h
|(n,k)::r,x,h=>by
  have j:=@Ze env d g r x;rw[Ab4];rw[Ab9]at h;cases c:x==n with
|true=>
   rw[c]at h;have e:=by simpa using h
   subst e;have i:(k==NameKind.free)=false:=by simpa using g
   simp only[i,Ae2,Ai2,if_false,Ab9,c]
|false=>
   rw[c]at h;have q:=j h;by_cases b:(k==NameKind.free&&env.scope.kind==.function&&env.kindOf n==y0 .cell)=k9
   .simp only[b,if_true,Ab9,c];exact q
   .have f:=Ak3.mpr b;simp only[f,Ai2,if_false,Ab9,c];exact q
section
variable{Y:Ge}{F:M.Fx}{X:Cx}{E:XK}{k:Nat}{cf:Cf}
structure lO(cf:Cf)(scope:Scope)(N:List Str)(k:Nat)(az:List Nat):Prop where
 kind:scope.kind=.function
 Lq:(scope.names.map Prod.fst).Nodup
 names:∀y∈scope.names,y.2=.local->scope.names.lookup y.1=y0 .local
 free:∀y∈scope.names,y.2=.free->cf.sc.names.lookup y.1=y0 .cell\/cf.sc.names.lookup y.1=y0 .free
 hU:∀x∈N.drop k,scope.names.lookup x=y0 .free
 az:qD cf az (N.drop k)=k9
 le:k<=N.length
 nd:N.Nodup
 cb:cf.cb=k9
def jG(h:j3 cf scope N kk az=k9):lO cf scope N kk az:=by simp only[j3,Aa0,decide_eq_true_eq,Ak9]at h;obtain⟨⟨⟨⟨⟨⟨⟨⟨⟨k,c⟩,l⟩,d⟩,b⟩,e⟩,f⟩,g⟩,i⟩,m⟩:=h;exact⟨c,l,λy a=>d y a,λy a=>b y a,λx j=>e x j,f,g,i,k⟩
theorem wX(a:Go Y F X E k cf):∀{az}{xs},qD cf az xs=k9->cE X az xs
|[],[],_=>trivial
|[],_::_,h=>by simp[qD]at h
|_::_,[],h=>by simp[qD]at h
|j::e,x::xs,h=>by simp only[qD,Aa0,decide_eq_true_eq]at h;obtain⟨⟨b,d⟩,c⟩:=h;exact⟨by rw[a.N];exact b,a.kB x d,wX a c⟩
def ZS(a:Go Y F X E k cf)(h:lO cf scope N kk az):JQ X scope N kk az:=
 ⟨h.kind,h.Lq,h.names,λy c b=>a.kB y.1 (h.free y c b),h.hU,wX a h.az,h.le⟩
def w9(h:JY sc x=k9):sc.names.lookup x=y0 .local\/sc.names.lookup x=y0 .cell\/sc.names.lookup x=y0 .free:=by
 unfold JY at h;split at h
 .rename_i q;exact .inl q
 .rename_i q;exact .inr (.inl q)
 .rename_i q;exact .inr (.inr q)
 .cases h
def W5(h:iX sc x=k9):sc.names.lookup x=y0 .local\/sc.names.lookup x=y0 .cell:=by
 unfold iX at h;split at h
 .rename_i q;exact .inl q
 .rename_i q;exact .inr q
 .cases h
def zQ(h:i6 sc x=k9):sc.names.lookup x=y0 .globalImplicit:=by
 unfold i6 at h;split at h
 .rename_i q;exact q
 .cases h
def jv(a:Go Y F X E k cf)(h:lO cf scope N kk az)(C:Addr)(r:List Addr)(s:Shared)(H:Hp):Go Y F (Jd X N scope C r s H) E0 k {cf with sc:=scope,N:=N} where
 N:=rfl
 K:=a.K
 cl:=a.cl
 ow:=a.ow
 nd:=h.nd
 gO:=λx b=>by
  rcases w9 b with q|q|q
  .exact .inl (Ze (by decide) q)
  .exact .inr (.inl (Ze (by decide) q))
  .exact .inr (Wi q)
 kH:=λx b=>Ze (by decide) b
 gU:=λx b=>by
  rcases W5 b with q|q
  .exact⟨.inl (Ze (by decide) q),.inr (Ze (by decide) q)⟩
  .exact⟨.inr (Ze (by decide) q),.inl (decide_eq_true q)⟩
 kB:=λx b=>by
  rcases b with q|q
  .exact .inl (Ze (by decide) q)
  .exact Wi q
 gl:=λx b=>Ze (by decide) (zQ b)
 calm:=a.calm
 room:=a.room
 cg:=a.cg
 pass:=λo U w A e u _ v=>by obtain⟨x,y,t,B,z,_,_,_,_,_,_,_,_,_,_,p⟩:=v;exact p.elim
 blt:=a.blt
 con:=a.con
 fn:=λf d=>by obtain⟨c,m,j,i,n,g,l⟩:=(a.fn f d).imp λc h=>h.ex;exact⟨c,⟨m,j,i,n,g,l⟩⟩
 kW:=λf d=>by obtain⟨c,m,j,i,n,g,l⟩:=(a.kW f d).imp λc h=>h.ex;exact⟨c,⟨m,j,i,n,g,l⟩⟩
 cls:=a.cls
 fld:=a.fld
 iE:=a.iE
 eD:=a.eD
theorem X8:∀(is)(vs)(U)(j),j∉is->(g8 is vs U)[j]?=U[j]?
|[],_,_,_,_=>rfl
|_::_,[],_,_,_=>rfl
|i::is,v::vs,U,j,h=>by show(g8 is vs (U.set i (y0 v)))[j]?=U[j]?;rw[X8 is vs _ j λz=>h (Aa3 _ z),Ad2 (λz:i=j=>h (by rw[z];exact Aa4))]
theorem qE:∀(is)(vs)(U),(g8 is vs U).length=U.length
|[],_,_=>rfl
|_::_,[],_=>rfl
|i::is,v::vs,U=>by show(g8 is vs (U.set i (y0 v))).length=U.length;rw[qE is vs,Ae6]
def ae(e:M.Gq tg one d τ=y0 τ')(r:aD Y G H d x)(s:ar Y G τ h U H)
 (f:∀L,ar Y G τ' h L H->(∀j,j∉tg->L[j]?=U[j]?)->L.length=U.length->Q L H):gM Y tg one x U H Q:=by
 cases one with
|true=>
  cases tg with
  |nil=>cases e
  |cons i n=>
   cases n with
  |cons _ _=>cases e
  |nil=>cases e;exact⟨i,rfl,f _ (s.dX r) (λj b=>Ad2 λz=>b (by simp[z])) (Ae6 ..)⟩
|false=>
  cases d with
|tup k=>obtain⟨a,c,rfl,l,g⟩:=r;obtain⟨o,m⟩:=WI (e) g s;exact⟨G,k,c,a,rfl,l,g,m,f _ o (λj b=>X8 tg c U j b) (qE tg c U)⟩
|_=>cases e
def qR{step:M.D->M.AH->M.R (Option M.D)}:∀{ds}{h}{d}{h'},M.GA step ds h≠.exc d h'
|[],_,_,_=>λe=>by cases e
|x::ds,h,d,h'=>λe=>by
  rw[M.GA]at e;split at e
  .split at e<;>cases e
  .cases e
def zZ{step:M.D->M.AH->M.R (Option M.D)}(e:M.GA step (x::ds) h=.ok ys hf):∃o h1 r,step x h=.ok o h1/\M.GA step ds h1=.ok r hf/\ys=(match o with|some y=>y::r|none=>r):=by
 rw[M.GA]at e;split at e
 .rename_i o h1 e1;split at e
  .rename_i r a e2;cases e;exact⟨o,h1,r,e1,e2,rfl⟩
  .cases e
 .cases e
def mM(F:M.Fx)(g:List Nat)(one:Bool)(f:M.Sl)(a:Bool)(c elt:M.E):M.D->M.AH->M.R (Option M.D):=λd h=>match M.Gq g one d f with
|none=>.fail
|some e=>(if a then(M.eval F c e h).bind λx h=>M.R.of h (M.G6 h x)else .ok k9 h).bind λb h=>match b with
|true=>(M.eval F elt e h).bind λy h=>(M.R.of h y.d).bind λy h=>.ok (y0 y) h
|false=>.ok u0 h
def FG:M.eval F (.comp tg one kk az it k7 c elt) τ h=(M.Gj F it τ h).bind λds h=>
 if ds.length<=M.bp then(M.GA (mM F tg one (ku kk az τ) k7 c elt) ds h).bind λys h=>.ok (.own ys) h else .fail:=by
 rw[M.eval];rfl
noncomputable def lK(F:M.Fx)(a:Bool)(c:M.E):M.Sl->M.AH->M.R Bool:=λτ h=>if a then M.Gp F c τ h else .ok k9 h
def Wd{r:M.R α}(e:r.bind f=.ok b h):∃a h1,r=.ok a h1/\f a h1=.ok b h:=by
 cases r with
|ok a h1=>exact⟨a,h1,rfl,e⟩
|exc d h1=>cases e
|fail=>cases e
def J3(a:wg iter=k9):∀v,foldedSetIterable iter env v=pure v:=λv=>by cases iter<;>first|rfl|(simp[wg]at a)
def rQ(htk:∀i∈tg,i<kk)(h0:tD Y E (M.eval F (.comp tg one kk az it k7 c elt)) U H Q):
 mS kk az (g7 Y E y9 (M.Gj F it)) (λ_ _ _ _=>gM Y tg one) (λ_ _ _ _=>cY Y E0 (lK F k7 c)) (λ_ _ _ _=>tD Y E0 (M.eval F elt)) U H Q:=by
 obtain⟨G,O,h,s,p⟩:=h0;rw[FG]at p;refine⟨G,O,h,s,?_⟩;cases qi:M.Gj F it O h with
|exc d l=>rw[qi]at p;exact p
|fail=>rw[qi]at p;exact p
|ok f h1=>
  rw[qi]at p;intro G1 H1 e1 t J C N c0 _ Ca fp st;have p:ao Y E G H (if f.length<=M.bp then(M.GA _ f h1).bind λys h=>.ok _ h else .fail) λw l q k=>∀v,aj Y q k w v->aG O U H w v->Q v k:=p;by_cases hL:f.length<=M.bp;rotate_left
  .rw[if_neg hL]at p;exact p.elim
  rw[if_pos hL]at p;cases X:M.GA (mM F tg one _ k7 c elt) f h1 with
|exc d l=>exact absurd X qR
|fail=>rw[X]at p;exact p.elim
|ok ys hf=>
   rw[X]at p;have p:=p;have hLs:=zj;refine⟨λi m yv Ub k=>∃q l done rest,(m=f.length-i/\i<=f.length/\done.length<=i)/\Ext G1 H1 q k/\ah Y q l k/\C q k/\aa Y q k done yv∧
    M.GA (mM F tg one (ku kk az O) k7 c elt) (f.drop i) l=.ok rest hf/\ys=done++rest/\Ub.length=kk+az.length/\∀j,j<az.length->Ub[kk+j]?=y0 ((U[az.getD j 0]?).join),⟨f.length,?_⟩,?_⟩
   .refine⟨G1,h1,[],ys,⟨by simp,Af _,Aa9 _⟩,Ext.refl,t,c0,rfl,X,rfl,?_,λj hj=>?_⟩
    .unfold nP;rw[Ab,Ad0,Aa]
    .unfold nP;rw[Ad3 (by simp),Ad0,Am6,Ac9,Ab0 hj,Ac4,Ab0 hj];rfl
   .rintro i m yv Ub k ⟨q,l,done,rest,⟨rfl,hi',hd⟩,e2,e,B,rd,Z,y,g,A⟩;have ldone:=rd.length;by_cases u:i<f.length
    .refine .inr ⟨N.go i q k B u,by lia,_,λyv' Ub' S w=>⟨f.length-(i+1),by lia,w⟩,λx S hy=>?_⟩;obtain⟨G4,x4,hx4,d,ed,rdx⟩:=N.f6 i q k x S B u hy;have B:=N.keep _ _ _ _ l B x4 e;have rd:=rd.ext x4 e;have e2:=e2.trans t x4;have e:=hx4 _ e;have edr:f.drop i=d::f.drop (i+1):=by rw[List.drop_eq_getElem_cons u];rw[Ab0 u]at ed;cases ed;rfl
     rw[edr]at Z;obtain⟨o,h2,r,V,T,er⟩:=zZ Z;unfold mM at V;cases qb:M.Gq tg one d (ku kk az O)with
|none=>rw[qb]at V;cases V
|some K=>
      rw[qb]at V;have so:=s.ext (e1.trans s.heap e2) e;have sb:=BW so kk az g A;refine ae qb rdx sb λU2 s2 same W=>?_;have n:∀j,j<az.length->U2[kk+j]?=y0 _:=λj hj=>by rw[same _ λz=>by have:=htk _ z;lia];exact A j hj
      obtain⟨b,h3,L,a⟩:=Wd (show(lK F k7 c K l).bind _=_ from V);refine⟨G4,K,l,s2,?_⟩;rw[L];intro G3 H3 R P;have s3:=s2.ext R P;cases b with
|false=>refine nI ?_;have a:=a;cases a;exact⟨G3,_,done,r,⟨rfl,by lia,by lia⟩,e2.trans t R,P,N.keep _ _ _ _ l B R e,rd.ext R e,T,by rw[y,er],by rw[W];exact g,n⟩
|true=>
       refine nR ?_;obtain⟨w,h4,qe,a⟩:=Wd (a);refine⟨G3,K,h3,s3,?_⟩;rw[qe];intro G4 H4 e4 hr4 v rw' fw;obtain⟨dd,h5,qd,a⟩:=Wd (a);cases qw:w.d with
|none=>rw[qw]at qd;cases qd
|some d'=>rw[qw]at qd;cases qd;cases(a);have s4:=s3.ext e4 hr4;obtain⟨G5,e5,s5,rdv,m5⟩:=oN e4 s4 s3 rw' fw qw;have I:=R.trans e e5;refine⟨G5,_,done++[dd],r,⟨rfl,by lia,by rw[Ab,List.length_singleton];lia⟩,e2.trans t I,s5.heap,N.keep _ _ _ _ l B I e,(rd.ext I e).append ⟨v,[],rfl,rdv,rfl⟩,T,?_,by rw[W];exact g,n⟩;rw[y,er];simp
    .have ei:i=f.length:=by lia
     subst ei;rw[List.drop_length]at Z;cases(Z);rw[Ac3]at y;subst y;exact .inl ⟨N.stop _ q k B (Aa9 _) (Aa9 _),by lia,λD hD=>av.own (av.mk p (e1.trans s.heap e2) s.heap) e rd D hD⟩
def D8(d:Go Y F X E k cf)(a:lO cf scope N kk az)
 (h:az.length=(N.drop kk).length)(e:Qe {cf with sc:=scope,N:=N} tg one t=k9)(f:∀i∈tg,i<kk)(b:wg iter=k9)
 (j:PI X t iter (g7 Y E y9 (M.Gj F it)))
 (g:∀C fp s H,PE (Jd X N scope C fp s H) y (tD Y E0 (M.eval F elt)))
 (l:∀C fp s H,ig (Jd X N scope C fp s H) ifs (cY Y E0 (lK F k7 c))):
 PE X (.ListComp y [⟨t,iter,ifs,0⟩] scope pos) (tD Y E (M.eval F (.comp tg one kk az it k7 c elt))):=
 PE.imp (ER (ZS d a) j (λC fp s H=>Qu (jv d a C fp s H) e) l g (d.calm a.cb) (J3 b)) λU H Q m=>rQ f m
def q5(a:Go Y F X E k cf)(p:cf.N[i]?=y0 x)(n:iX cf.sc x=k9)(h:swapsWith (.ListComp y [⟨t,iter,ifs,0⟩] scope p0) (y0 (.Name x pos2)) pos.line X.env=pure k9)(b:lO cf scope N kk az)
 (r:az.length=(N.drop kk).length)(f:Qe {cf with sc:=scope,N:=N} tg one t=k9)(j:∀i∈tg,i<kk)(e:wg iter=k9)
 (o:PI X t iter (g7 Y E y9 (M.Gj F it)))
 (m:∀C fp s H,PE (Jd X N scope C fp s H) y (tD Y E0 (M.eval F elt)))
 (u:∀C fp s H,ig (Jd X N scope C fp s H) ifs (cY Y E0 (lK F k7 c))):
 PS X (.Assign [.Name x pos2] (.ListComp y [⟨t,iter,ifs,0⟩] scope p0) pos) (iu (tD Y E (M.eval F (.comp tg one kk az it k7 c elt))) (QT i)):=by
 have l:=a.gU x n;have g:=CY (by rw[a.N];exact a.nd) (by rw[a.N];exact p) l.1 (ZS a b) o (λC fp s H=>Qu (jv a b C fp s H) f) u m h (a.calm b.cb) (J3 e) l.2;exactλd s U H D I q=>g d s U H D I (rQ j q)
def wU(e:M.GW h o=y0 (r,xs)):o=y0 (.v (.ref r))/\h[r]?=y0 (.lst xs):=by
 unfold M.GW at e;split at e
 .split at e
  .rename_i q;cases e;exact⟨rfl,q⟩
  .cases e
 .cases e
def jx(b:Go Y F X E k cf)(h1:cf.N[i]?=y0 x)(c:JY cf.sc x=k9)(a:bz x=k9):PE X (.Name x p) (nB i):=by unfold bz at a;rw[Aa0]at a;exact Xy (by rw[b.N];exact h1) (b.gO x c) (by simpa using a.1) (by simpa using a.2)
def FK:"dict"∈b5:=by decide
def K5(g:Go Y F X E k cf)(h1:cf.N[i]?=y0 y)(v:JY cf.sc y=k9)(c:bz y=k9)(n:PE X x (tD Y E (M.eval F a))):PE X (.Compare x [m9 neg] [.Name y j] pos) (tD Y E (M.eval F (.dh neg a i))):=by
 refine PE.imp (tM (uI neg) n (jx g h1 v c) (jo rfl)) λU H Q f=>?_;obtain⟨G,C,h,s,p⟩:=f;refine Wa s.heap Ext.refl s p λw v1 h1 q A e1 u b o D j=>?_;unfold M.dh at j;split at j
 .rename_i t r z d;cases o;obtain⟨l,B,I,m,e⟩:=jB b d;exact⟨_,l,ba t,_,_,rfl,rfl,m,by rw[oa e];exact j q _ e1 b.heap _ rfl trivial⟩
 .exact j.elim
def K6(g:Go Y F X E k cf)(h1:cf.N[i]?=y0 y)(v:JY cf.sc y=k9)(c:bz y=k9)(n:PE X x (tD Y E (M.eval F a))):PT X (.Compare x [m9 neg] [.Name y j] pos) (cY Y E (M.Gp F (.dh neg a i))):=by
 refine PT.imp (rn (uI neg) n (jx g h1 v c) (jo rfl)) λU H Q f=>?_;obtain⟨G,C,h,s,p⟩:=f;unfold M.Gp at p;rw[M.eval,Xg]at p;refine Wa s.heap Ext.refl s p λw v1 h1 q A e1 u b o D j=>?_;unfold M.dh at j;split at j
 .rename_i t r z d;cases o;obtain⟨l,B,I,m,e⟩:=jB b d;exact⟨_,l,ba t,_,_,rfl,rfl,m,_,rfl,by rw[oa e];exact j q _ e1 b.heap⟩
 .exact j.elim
def E5(w:Go Y F X E k cf)(h1:cf.N[i]?=y0 y)(L:JY cf.sc y=k9)(l:bz y=k9)(z:Xe x=k9)(B:PE X x (tD Y E (M.eval F a))):PE X (.Subscript (.Name y j) x pos) (tD Y E (M.eval F (.gg i a))):=by
 refine PE.imp (rg Lb (jx w h1 L l) B (r9 z)) λU H Q u=>?_;obtain⟨G,I,h,s,p⟩:=u;rw[M.eval]at p;cases q:M.Kl h (M.Gm I i)with
|none=>rw[q]at p;exact p.elim
|some t=>
  obtain⟨S,m⟩:=t;rw[q]at p;have c:=(jB s q).1;refine⟨_,c,Wa s.heap Ext.refl s p λN v1 h1 T P e1 K f D V j=>?_⟩;unfold M.gg at j;split at j
  .rename_i J r O n;cases D;obtain⟨e,R,W,A,o⟩:=jB f n;have b:=by rw[c]at e;exact Ad5.inj (Ad5.inj e)
   split at j
   .rename_i d g;obtain⟨v,C,rv⟩:=rf o g;exact⟨ba J,_,_,v,rfl,b,A,C,(av.mk j e1 s.heap).v f.heap rv⟩
   .exact j.elim
  .exact j.elim
def IY:"zip"∈b5:=by decide
theorem sH:∀{a:List M.Tx}{ys:List M.D}{us:List V},a.length=ys.length->us.length=ys.length->hJ (a.zip ys) us=(a.map ba).zip us/\(a.zip ys).map (·.2)=ys
|[],[],[],_,_=>⟨rfl,rfl⟩
|t::a,y::ys,u::us,b,c=>by obtain⟨e1,e2⟩:=sH (Ao6.inj b) (Ao6.inj c);exact⟨congrArg (_::·) e1,congrArg (_::·) e2⟩
def EB(j:Go Y F X E k cf){a b:M.E}{g Z x y:Expr}{pos A:Pos}(W:iz cf "dict" g=true)(J:bS cf.sc "zip" Z=true)(N:Ja x=true)(B:Ja y=true)(l:PE X x (tD Y E (M.eval F a)))(hb:PE X y (tD Y E (M.eval F b))):
 PE X (.Call g [.Call Z [x,y] [] A] [] pos) (tD Y E (M.eval F (.eu a b))):=by
 obtain⟨p,rfl,m,h3⟩:=wb (a2 W).2;obtain⟨p',rfl,C,h3'⟩:=wb J;refine PE.imp (Dj (j.calm (a2 W).1) (j.gl _ m) (j.blt _ FK) (j.gl _ C) (j.blt _ IY) (jd l (jd hb Jj (Qa B)) (Qa N)) (by rw[Qa N,Qa B];rfl) (by rw[Qa B];rfl)) λU H Q qq=>?_;obtain⟨G,τ,h,s,p⟩:=qq;rw[M.eval]at p;refine Wa s.heap Ext.refl s p λw1 v1 h1 G1 H1 e1 e1' s1 r1 f1 p1=>?_;refine Wa s.heap e1 s1 p1 λw2 v2 m u T e2 I t r2 f2 d=>?_;unfold M.m8 at d;split at d
 .rename_i ks n;split at d
  .rename_i i q;split at d
   .rename_i c;obtain⟨K,c2,c3,c4⟩:=c;obtain⟨l1,vs,rfl,z1,z2⟩:=aj.ext I s1.heap r1;obtain⟨l2,f,rfl,z3,z4⟩:=r2;cases XB q z2;have L:f.length=n.length:=z4.length.symm;obtain⟨k1,P⟩:=sH (us:=f) K L;refine⟨l1,l2,i.map ba,f,rfl,j.K▸z1.sq,j.K▸z3.sq,by rw[Aa,K,L],by rw[Aa];exact c2,λr l=>?_⟩;have ek:((i.map ba).zip f).map (·.1)=i.map ba:=List.map_fst_zip (by rw[Aa,K,L];exact Aa9 _);have ep:wP [] ((i.map ba).zip f)=hJ (i.zip n) f:=by rw[zX _ _ (by rw[Ag1,ek];exact c3.map (R:=(·≠·)) ba λ_ _ h e=>h (WO e)),Ag1,k1]
    rw[ep];have d:ao Y E G H (M.ai (.ref m.length) (m++[.cZ (i.zip n)])) λw h' G' O=>∀v,aj Y G' O w v->aG τ U H w v->Q v O:=d;have S:Ext u T u (aJ T r (dS (hJ (i.zip n) f))):=Xv _ l;have D:=t.heap.new (dS (hJ (i.zip n) f)) l;refine ao.val d (JA (e2.trans s.heap S) (e2.none s.heap l)) (XL (c:=.cZ (i.zip n)) D (λz=>by obtain⟨o,q⟩:=t.heap.live r z;rw[l]at q;cases q) (t.heap.i7 l) ⟨by rw[P];exact c4,f,zb,by rw[P];exact z4.ext S t.heap⟩) (v:=.ref r) ?_ trivial;show m.length<u.n+1/\V.ref r=.ref (if m.length=u.n then r else u.aP m.length);rw[t.heap.len,if_pos rfl];exact⟨Ae9 _,rfl⟩
   .exact d.elim
  .exact d.elim
 .exact d.elim
def sd(h:Str.ofString a=Str.ofString b):a=b:=by
 rw[Str.ofString_eq_toList,Str.ofString_eq_toList]at h;have e:=by have:=congrArg (λs:Str=>s.cps.toList) h;simpa using this
 have inj:∀(l m:List Char),l.map Char.toNat=m.map Char.toNat->l=m:=by
  intro l;induction l with
|nil=>intro m q;cases m with|nil=>rfl|cons _ _=>cases q
|cons c l f=>
   intro m q;cases m with
|nil=>cases q
|cons d m=>simp[List.cons.injEq]at q;rw[Char.toNat_inj.mp q.1,f m q.2]
 exact String.toList_inj.mp (inj _ _ e)
def QG(e:M.GX h o=y0 (r,c,fs)):o=y0 (.v (.ref r))/\h[r]?=y0 (.obj c fs):=by
 unfold M.GX at e;split at e
 .split at e
  .rename_i q;cases e;exact⟨rfl,q⟩
  .cases e
 .cases e
def Q5(s:ar Y G τ h U H)(e:M.GX h (M.Gm τ i)=y0 (r,c,fs)):U[i]?=y0 (y0 (.ref (G.aP r))):=by obtain⟨e1,e2⟩:=QG e;obtain⟨v,a,d⟩:=s.slot i _ e1;obtain⟨_,b⟩:=(show r<G.n/\v=.ref (G.aP r)from d);rw[a,b]
abbrev g0(fs:List (String×M.D)):List Str:=fs.map λp=>Str.ofString p.1
section
variable{G:Gh}{H:Hp}
def tS(a b):(Zc a==Str.ofString b)=(a==b):=by
 cases q:a==b with
|true=>rw[eq_of_beq q];exact beq_self_eq_true _
|false=>exact beq_eq_false_iff_ne.mpr λz=>(beq_eq_false_iff_ne.mp q) (sd z)
theorem sr:∀{fs}{us},aa Y G H (fs.map (·.2)) us->fs.lookup f=y0 d->∃v,((g0 fs).zip us).lookup (Zc f)=y0 v/\aD Y G H d v
|[],_,_,e=>by cases e
|(g,x)::fs,_,z7,e=>by
  obtain⟨v,r,rfl,a,b⟩:=z7;rw[Ab9]at e;show∃w,(((Str.ofString g),v)::(g0 fs).zip r).lookup (Zc f)=y0 w/\_;rw[Ab9,tS];cases q:f==g with
|true=>rw[q]at e;cases e;exact⟨v,rfl,a⟩
|false=>rw[q]at e;exact sr b e
theorem jT:∀{fs}{us:List V},fs.lookup f=u0->((g0 fs).zip us).lookup (Zc f)=u0
|[],_,_=>rfl
|(g,x)::fs,[],_=>rfl
|(g,x)::fs,v::r,e=>by
  rw[Ab9]at e;show(((Str.ofString g),v)::(g0 fs).zip r).lookup (Zc f)=u0;rw[Ab9,tS];cases q:f==g with
|true=>rw[q]at e;cases e
|false=>rw[q]at e;exact jT e
theorem qP(rv:aD Y G H d v):∀{fs}{us},aa Y G H (fs.map (·.2)) us->∃j,aa Y G H ((M.aS f d fs).map (·.2)) j/\L2.aS (Zc f) v ((g0 fs).zip us)=(g0 (M.aS f d fs)).zip j
|[],_,z=>by cases z;exact⟨[v],⟨v,[],rfl,rv,rfl⟩,rfl⟩
|(g,x)::fs,_,z7=>by
  obtain⟨u,r,rfl,e,c⟩:=z7;show∃j,aa Y G H ((if g=f then(g,d)::fs else(g,x)::M.aS f d fs).map (·.2)) j/\(if Str.ofString g=Zc f then(Str.ofString g,v)::(g0 fs).zip r else(Str.ofString g,u)::L2.aS (Zc f) v ((g0 fs).zip r))=(g0 (if g=f then(g,d)::fs else(g,x)::M.aS f d fs)).zip j;by_cases q:g=f
  .rw[if_pos q,if_pos (congrArg Str.ofString q)];exact⟨v::r,⟨v,r,rfl,rv,c⟩,rfl⟩
  .rw[if_neg q,if_neg λz=>q (sd z)];obtain⟨j,a,b⟩:=qP rv c;exact⟨u::j,⟨u,j,rfl,e,a⟩,by rw[b];rfl⟩
end
def Lp(a:Go Y F X E k cf)(h1:cf.N[i]?=y0 x)(y:JY cf.sc x=k9)(b:bz x=k9):PE X (.Attribute (.Name x p1) (Zc f) pos) (tD Y E (M.eval F (.xf i f))):=by
 refine PE.imp (HF (jx a h1 y b) rfl) λU H Q o=>?_;obtain⟨G,C,h,s,p⟩:=o;rw[M.eval]at p;split at p
 .rename_i c g d q;split at p
  .rename_i n;subst n;obtain⟨v,t,l,w,u,rfl,z,B,m,e,A,j,r⟩:=s.slot i _ q;exact⟨_,t,l,Y.ca c,w,u,rfl,m,e,a.K▸j,ao.val p Ext.refl s.heap r trivial⟩
  .exact p.elim
 .exact p.elim
def A7(e:Ext G H G1 H1)(a:r<G.n):aj Y G1 H1 (.v (.ref r)) (.ref (G.aP r)):=⟨Ab3 a e.le,by rw[e.aP r a]⟩
def Hc(a:attributeBase o name env (eval o env)=eval o env)(c:methodCallForm args.length (backTo pos (starEach args env)) (backToKw pos (keywordEach [] env))=k9)(b:(apos.endLine==pos.line)=k9):
 eval (.Call (.Attribute o name apos) args [] pos) env=(do
  let j←eval o env
  standAt apos.atName
  let(f,first)←holding [j] (getMethod j name (do return (←importBound o env).getD k9))
  callWith pos f first (backTo pos (starEach args env)) (backToKw pos (keywordEach [] env))):=by
 have e1:methodCallForm (args.length+([]:List Keyword).length) _ _=true:=c;have e2:methodCallPos k9 o env apos pos=pure pos:=by unfold methodCallPos;simp[b]
 rw[arm_eval_Call,a];unfold methodCall;rw[e1];simp only[e2,calleeOf,if_true,pure_bind]
def IF(h:∀e∈args,Ja e=k9)(b:args.length<29):methodCallForm args.length (backTo pos (starEach args env)) (backToKw pos (keywordEach [] env))=true:=by
 unfold methodCallForm;have e1:(backTo pos (starEach args env)).all (λx=>!x.1)=true:=by have:=qk (env:=env) (pos:=pos) h;rw[Ak9];intro x a;rw[Ak2]at this;simpa using this x a
 rw[e1];have e2:(backToKw pos (keywordEach [] env))=[]:=rfl;rw[e2];simp;lia
def M9(o:Go Y F X E k cf)(hg:bS cf.sc c g=k9)(hm:cf.ob.eD.contains (c,q0)=k9)(L:∀e∈y::ys,Ja e=k9)(ha:PA X (y::ys) (f7 Y E (M.Gd F es))):
 PE X (.Call g (y::ys) [] pos) (tD Y E (M.eval F (.make c q0 es))):=by
 obtain⟨p0,rfl,S,T⟩:=wb hg;obtain⟨x,fa,fd,ps,mk,C,bd⟩:=o.eD c q0 hm;refine PE.imp (NW mk C o.cg (o.gl _ S) x bd .nil o.pass ha T (Qa (L _ Aa4)) (qk λe W=>L e (Aa3 _ W))) λU H Q qq=>?_;obtain⟨G,τ,h,s,p⟩:=qq;refine Zo s.heap Ext.refl s p λJ O j f z e1 e1' l r1 b=>?_;intro a q n N ne;rw[Ac3];have I:aJ z q (.own a) a=none:=by rw[ja (Ne.symm ne)];exact n
 have Z:Ext f z f (aJ z q (.own a)):=Xv _ N;have r2:=l.heap.new (.own a) N;have x2:Ext f _ f (aJ _ a (.ins (Y.ca c) q [])):=Xv _ I;have P:=r2.new (.ins (Y.ca c) q []) I;have mL:=l.heap.l3 n;have R:=He P mL (l.heap.i7 n) zb;have r:=JA (Z.trans l.heap x2) n;have D:=by show j.length<f.n+1/\V.ref a=.ref (if j.length=f.n then a else f.aP j.length);rw[l.heap.len,if_pos rfl];exact⟨Ae9 _,rfl⟩
 refine⟨f.cell a,j++[.obj c []],.v (.ref j.length)::J.map M.W.arg,R,⟨.ref a,O,rfl,D,bc.ext r l.heap (xp r1)⟩,λw A=>?_,?_⟩
 .obtain rfl|A:=Ab7.mp A
  .rfl
  .exact Jo J w A
 .cases B:F.call q0 _ (j++[.obj c []])with
|fail=>rw[B]at b;exact b.elim
|exc d h'=>rw[B]at b;exactλu t m i=>b u t ((e1.trans s.heap r).trans s.heap m) i
|ok w h'=>
   rw[B]at b;intro u t m i v rv _;cases w with
|own _=>exact b.elim
|bor _=>exact b.elim
|v d=>
    cases d with
|ak=>refine⟨rv,?_⟩;have b:=b;have K:=D.1;exact b u t ((e1.trans s.heap r).trans s.heap m) i _ ⟨Ab3 K m.le,by rw[m.aP _ K];exact D.2⟩ trivial
|_=>exact b.elim
def Fu(j:Go Y F X E k cf)(i:cf.ob.fl.contains (c,f)=k9)(e:QM x=k9)(C:PE X x (tD Y E (M.eval F a))):PE X (.Attribute x (Zc f) pos) (tD Y E (M.eval F (.aA a c f))):=by
 refine PE.imp (MM C (bC e _)) λU H Q z=>?_;obtain⟨G,P,h,s,p⟩:=z;refine Wa s.heap Ext.refl s p λw v A g O e1 K l J R b=>?_;cases q:M.GX A (y0 w)with
|none=>rw[q]at b;exact b.elim
|some o=>
  obtain⟨r,L,fs⟩:=o;rw[q]at b;dsimp only at b;split at b
  .rename_i e;subst e;obtain⟨d,m,b⟩:=b.of;obtain⟨n,e2⟩:=QG q;cases n;obtain⟨_,B⟩:=(show r<g.n/\v=.ref (g.aP r)from J);obtain⟨N,D,S,y,t⟩:=l.heap.obj r _ fs e2;obtain⟨u,I,rv⟩:=sr t m;exact⟨g.aP r,Y.ca L,D,_,u,B,y,(j.fld _ _ i).1,(j.fld _ _ i).2,I,ao.val b e1 l.heap rv trivial⟩
  .exact b.elim
def D4(g:Go Y F X E k cf)(hm:cf.ob.mt.contains (c,m,q0)=k9)(T:(apos.endLine==pos.line)=k9)(u:(y::ys).length<=20)(d:QM x=k9)(I:PE X x (tD Y E (M.eval F a)))(l:∀e∈y::ys,Ja e=k9)(W:PA X (y::ys) (f7 Y E (M.Gd F es))):
 PE X (.Call (.Attribute x (Zc m) apos) (y::ys) [] pos) (tD Y E (M.eval F (.bQ a c m q0 es))):=by
 obtain⟨O,fa,fd,ps,L,n,bd⟩:=g.iE c m q0 hm;refine PE.imp (D1 I O L n g.room bd .nil g.pass W (Qa (l _ Aa4)) (qk λe J=>l e (Aa3 _ J)) (Hc (bC d _) (IF l (by lia)) T)) λU H Q P=>?_;obtain⟨G,τ,h,s,p⟩:=P;refine Wa s.heap Ext.refl s p λw v S t H1 e1 e1' A r1 f1 b=>?_;cases q:M.GX S (y0 w)with
|none=>rw[q]at b;exact b.elim
|some o=>
  obtain⟨r,c',fs⟩:=o;rw[q]at b;dsimp only at b;split at b
  .rename_i d;obtain⟨rfl,u⟩:=d;obtain⟨C,e2⟩:=QG q;cases C;obtain⟨f,rfl⟩:=(show r<t.n/\v=.ref (t.aP r)from r1);obtain⟨nf,Z,us,N,ru⟩:=A.heap.obj r _ fs e2;refine⟨t.aP r,Z,_,rfl,N,jT (Ah0.mp u),Zo s.heap e1 A b λz B h2 R H2 e2 j K V D=>?_⟩;rw[Ac3];refine⟨R,h2,.v _::z.map M.W.arg,K.heap,⟨.ref _,B,rfl,A7 j f,xp V⟩,λw i=>?_,av.mk D e2 s.heap⟩;obtain rfl|i:=Ab7.mp i
   .rfl
   .exact Jo z w i
  .exact b.elim
def Nq(r:Go Y F X E k cf)(j:(apos.endLine==pos.line)=k9)(c:QM x=k9)(d:PE X x (tD Y E (M.eval F a))):
 PE X (.Call (.Attribute x (Zc "bit_length") apos) [] [] pos) (tD Y E (M.eval F (.fv a))):=by
 refine PE.imp (Br PySem.F.plainAttrs_int slot_int_bit_length type_int_bit_length NB d (bC c _) j) λU H Q g=>?_;obtain⟨G,u,h,s,p⟩:=g;refine Wa s.heap Ext.refl s p λw v t y o e1 n m l z b=>?_;obtain⟨i,f,b⟩:=b.of;cases l.int f;have e:Builtin.Int.intBits i=M.G9 i:=by
  unfold Builtin.Int.intBits M.G9;by_cases q:i=0
  .rw[if_pos q,if_pos (by rw[q];rfl)]
  .rw[if_neg q,if_neg (by simpa using q)]
 refine⟨rfl,i,rfl,rfl,?_⟩;rw[e];exact ao.val b e1 m.heap rfl trivial
def DT(b:ah Y G h H)(l:dB H H'):Ext G H G H'/\ah Y G h H':=
 ⟨⟨λa o e _=>l a o e,Aa9 _,λ_ _=>rfl,λr d g=>absurd d (An5.mpr g),λ_ h=>h,λ_ h=>.inl h,by rintro r _⟨o,e⟩;exact⟨o,l _ _ e⟩⟩,
  ⟨b.len,λr c e=>⟨(b.any r c e).1,(b.any r c e).2.mon ⟨λa o _ e=>l a o e,Aa9 _,λ_ _=>rfl,λ_ h=>h⟩ λo e=>l _ _ e⟩,b.inj,λa f=>(b.live a f).imp λo e=>l _ _ e⟩⟩
def gb(key:Int->M.R M.W)(m:Int):Int:=(M.G7 (key m)).getD 0
theorem QY:∀{is}{b i},M.GU key b (gb key b) is=y0 i->(∀m∈is,∃y,M.G7 (key m)=y0 y)/\i=fY (gb key) b is
|[],b,i,h=>⟨λm a=>absurd a Af5,(Ad5.inj h).symm⟩
|x::is,b,i,h=>by
  rw[M.GU]at h;cases q:M.G7 (key x)with
|none=>rw[q]at h;cases h
|some y=>
   have e:gb key x=y:=by rw[gb,q];rfl
   rw[q,Ag3]at h;rw[fY,e];by_cases c:y<gb key b
   .rw[if_pos c,←e]at h;rw[if_pos c];obtain⟨d,f⟩:=QY h;exact⟨λm a=>(Ab7.mp a).elim (λz=>z▸⟨y,q⟩) (d m),f⟩
   .rw[if_neg c]at h;rw[if_neg c];obtain⟨d,f⟩:=QY h;exact⟨λm a=>(Ab7.mp a).elim (λz=>z▸⟨y,q⟩) (d m),f⟩
def Hs(h:M.G8 key o=y0 i):∃n is,o=y0 (n::is)/\(∀m∈n::is,∃y,M.G7 (key m)=y0 y)/\i=fY (gb key) n is:=by
 match o,h with
|some (n::is),h=>
  rw[M.G8]at h;cases q:M.G7 (key n)with
|none=>rw[q]at h;cases h
|some y=>
   have e:gb key n=y:=by rw[gb,q];rfl
   rw[q,Ag3,←e]at h;obtain⟨a,c⟩:=QY h;exact⟨n,is,rfl,λm b=>(Ab7.mp b).elim (λz=>z▸⟨y,q⟩) (a m),c⟩
def yb:"min"∈b5:=by decide
def EM(h:M.G7 r=y0 y):r=.ok (.v (.int y)) []:=by
 unfold M.G7 at h;split at h
 .cases h;rfl
 .cases h
def NI(b:Go Y F X E k cf)(d:w.arg=some (Zc "key"))(z:bS cf.sc f w.value=true)(O:cf.fns.contains f=true)(L:iz cf "min" g=true)(T:Ja x=true)(he:PE X x (tD Y E (M.eval F a))):
 PE X (.Call g [x] [w] pos) (tD Y E (M.eval F (.fG f a))):=by
 obtain⟨p0,rfl,g2,g3⟩:=wb (a2 L).2;obtain⟨wa,wv,wq⟩:=w;obtain⟨j,e1,f2,f3⟩:=wb z;have e1:=e1;have d:=d;subst e1 d;obtain⟨Z,fa,fd,D,bd,kp,I⟩:=(b.fn f O).imp λZ h=>h.ex;refine PE.imp (K3 (E:=E0) (b.calm (a2 L).1) (b.gl _ g2) (b.blt _ yb) (by decide+kernel) D b.cg (b.gl _ f2) I bd (λA H s e s' hq=>by obtain⟨x,C',t,B,K,_,_,_,_,_,_,_,_,_,_,P⟩:=hq;exact P.elim) he (Jm yb) g3 f3 (Qa T)) λU H Q qq=>?_;obtain⟨G,τ,h,s,p⟩:=qq;rw[M.eval]at p;refine Wa s.heap Ext.refl s p λw v h1 G1 H1 e1 e1' N W f1 j=>?_;obtain⟨i,ei,j⟩:=j.of;obtain⟨n,is,R,hk,rfl⟩:=Hs ei;obtain⟨xs,ex,C⟩:=Ae4.mp R;obtain⟨l,vs,rfl,sq,rd⟩:=W.lst N.heap ex;cases Qt C rd;refine⟨l,n,is,gb λx=>F.call f [.v (.int x)] [],rfl,b.K▸sq,λm I K _=>?_,λK le=>?_⟩
 .obtain⟨y,J⟩:=hk m I;have ey:gb (λx=>F.call f [.v (.int x)] []) m=y:=by rw[gb,J];rfl
  refine⟨⟨λ_=>False,λ_=>0,0⟩,[],[.v (.int m)],⟨rfl,λr c e=>by simp at e,λr s u=>absurd u (Ag2 _),λa V=>V.elim⟩,⟨.int m,[],rfl,rfl,rfl⟩,λw d=>by rw[Ac5.mp d];rfl,?_⟩;rw[EM J];intro G' H' e u v rv _;have rv:=rv;exact⟨by rw[rv,ey],λa o q=>e.keep a o q λr u=>absurd u (Ag2 _)⟩
 .obtain⟨S,x2⟩:=DT N.heap le;exact ao.val j (e1.trans s.heap S) x2 rfl trivial
end
def PW.fj (h:PT X (.BoolOp op vs pos) t):PW X (.BoolOp op vs pos) t:=λb a s U H Q I q=>by have:=h a s U H Q I q;exact this
theorem zw:∀{es}{xs}{τ}{h}{ds}{h'},bj cf es xs=k9->M.Gx F es τ h=.ok ds h'->ds.length=xs.length
|.nil,xs,_,_,_,_,c,e=>by cases Af7.mp c;rw[M.Gx]at e;cases e;rfl
|.cons a es,xs,τ,h,ds,h',c,e=>by refine kC (λx r c=>?_) xs c;obtain⟨w,g,e1,e⟩:=Wd e;obtain⟨d,i,e2,e⟩:=Wd e;obtain⟨r,f,b,e⟩:=Wd e;cases e;rw[Aa7,Aa7,zw (a2 c).2 b]
theorem Jc:∀{es}{xs},bj cf es xs=k9->∀e∈xs,Ja e=k9
|.nil,xs,c=>by cases Af7.mp c;intro e b;cases b
|.cons a es,xs,c=>by
  refine kC (λx r c=>?_) xs c;intro e b;rcases Ab7.mp b with rfl|b
  .exact(a3 c).1
  .exact Jc (a2 c).2 e b
theorem XC:∀{az}{xs},qD cf az xs=k9->az.length=xs.length
|[],[],_=>rfl
|[],_::_,h=>by simp[qD]at h
|_::_,[],h=>by simp[qD]at h
|j::a,x::xs,h=>by simp only[qD,Aa0]at h;exact congrArg (·+1) (XC h.2)
def MT(h:Qh e f=k9):wg e=true:=by refine Jh (λg x l p h=>?_) e h;rfl
def xU(h:d8 cf it e=k9):wg e=true:=by
 cases it with
|seq a=>exact(a2 h).1
|aC a=>exact MT h
|enum a=>exact bx h
|cx a=>exact bx h
section
variable{Y:Ge}{F:M.Fx}{k:Nat}
def bo(a:Go Y F X E k cf)(r:PE X x (tD Y E (M.eval F m)))(b:∀j,isTrue x X.env j=(do let v←j;standAt x.pos;holding [v] (truthy v))):PE X x (tD Y E (M.eval F m))/\(fN m=k9->PT X x (cY Y E (M.Gp F m))):=⟨r,λ_=>Cv a r b⟩
mutual
theorem qc:∀(m:M.E){X:Cx}{E:XK}{cf:Cf}{e:Expr},Go Y F X E k cf->Xb cf m e=k9->PE X e (tD Y E (M.eval F m))/\(fN m=k9->PT X e (cY Y E (M.Gp F m)))
|.var i,X,E,cf,e,go,h=>by refine xu (λx p h=>?_) e h;obtain⟨h1,h2,h3⟩:=iF h;exact bo go (FU go h1 h2 h3) λ_=>rfl
|.con c,X,E,cf,e,go,h=>by have r:=NT go h;obtain⟨p,rfl,_,_⟩:=wb h;exact bo go r λ_=>rfl
|.int i,X,E,cf,e,go,h=>by refine JF (λx n p h=>?_) e h;cases of_decide_eq_true h;exact bo go Hi λ_=>rfl
|.bl i,X,E,cf,e,go,h=>by refine JF (λx n p h=>?_) e h;cases of_decide_eq_true h;exact bo go HY λ_=>rfl
|.ak,X,E,cf,e,go,h=>by refine JF (λx n p h=>?_) e h;cases of_decide_eq_true h;exact bo go HJ λ_=>rfl
|.str i,X,E,cf,e,go,h=>by refine JF (λx n p h=>?_) e h;cases of_decide_eq_true h;exact bo go Fy λ_=>rfl
|.tup es,X,E,cf,e,go,h=>by refine mP (λx n p h=>?_) e h;obtain⟨h1,h2⟩:=a2 h;exact bo go (MP (of_decide_eq_true h1) (λτ hh ds h' q=>zw h2 q) (hX es go h2)) λ_=>rfl
|.lst es,X,E,cf,e,go,h=>by refine Ho (λx p h=>?_) e h;obtain⟨h1,h2⟩:=a2 h;exact bo go (Lr (of_decide_eq_true h1) (λτ hh ds h' q=>zw h2 q) (hX es go h2)) λ_=>rfl
|.bin o a b,X,E,cf,e,go,h=>by refine Fw (λx o y p h=>?_) e h;obtain⟨h0,ho,h1,h2⟩:=a4 h;cases of_decide_eq_true h0;exact bo go (Dm go ho (qc a go h1).1 (qc b go h2).1) λ_=>rfl
|.cmp o a b,X,E,cf,e,go,h=>by refine nj (λx o y p h=>?_) e h;refine kC (λy r h=>?_) y h;obtain⟨h0,ho,hs,h1,h2⟩:=a5 h;obtain⟨rfl,rfl⟩:=of_decide_eq_true h0;exact⟨IX go ho hs (qc a go h1).1 (qc b go h2).1,λ_=>NA go ho hs (qc a go h1).1 (qc b go h2).1⟩
|.chain o q a b c,X,E,cf,e,go,h=>by refine nj (λx o y p h=>?_) e h;refine kC (λy r h=>?_) y h;refine kC (λz r h=>?_) r h;obtain⟨h0,ho,hq,hs,h1,h2,h3⟩:=a7 h;obtain⟨rfl,rfl⟩:=of_decide_eq_true h0;exact⟨D2 go ho hq hs (qc a go h1).1 (qc b go h2).1 (qc c go h3).1,λ_=>FO go ho hq hs (qc a go h1).1 (qc b go h2).1 (qc c go h3).1⟩
|.d7 neg a,X,E,cf,e,go,h=>by refine nj (λx o y p h=>?_) e h;refine kC (λy r h=>?_) y h;refine JF (λj n p h=>?_) y h;obtain⟨h0,h1,h2⟩:=a3 h;obtain⟨rfl,rfl⟩:=of_decide_eq_true h0;cases of_decide_eq_true h1;exact⟨MX (qc a go h2).1,λ_=>IK (qc a go h2).1⟩
|.neg a,X,E,cf,e,go,h=>by refine oi (λo x p h=>?_) e h;cases of_decide_eq_true (a2 h).1;exact bo go (IT (qc a go (a2 h).2).1) λ_=>rfl
|.inv a,X,E,cf,e,go,h=>by refine oi (λo x p h=>?_) e h;cases of_decide_eq_true (a2 h).1;exact bo go (IG (qc a go (a2 h).2).1) λ_=>rfl
|.not a,X,E,cf,e,go,h=>by refine oi (λo x p h=>?_) e h;cases of_decide_eq_true (a2 h).1;exact⟨Hm go (qc a go (a2 h).2).1,λt=>KN ((qc a go (a2 h).2).2 t)⟩
|.and a b,X,E,cf,e,go,h=>by
  refine sX (λo x p h=>?_) e h;refine kC (λx r h=>?_) x h;refine kC (λy r h=>?_) r h;obtain⟨h0,h1,h2⟩:=a3 h;cases of_decide_eq_true h0;cases r with
  |nil=>exact⟨sk go (qc a go h1).1 (uN (qc b go h2).1),λt=>(j7 ((qc a go h1).2 (a2 t).1) (C9 ((qc b go h2).2 (a2 t).2))).pt⟩
  |cons z r=>exact⟨sk go (qc a go h1).1 (qc b go h2).1,λt=>(j7 ((qc a go h1).2 (a2 t).1) (PW.fj ((qc b go h2).2 (a2 t).2))).pt⟩
|.or a b,X,E,cf,e,go,h=>by
  refine sX (λo x p h=>?_) e h;refine kC (λx r h=>?_) x h;refine kC (λy r h=>?_) r h;obtain⟨h0,h1,h2⟩:=a3 h;cases of_decide_eq_true h0;cases r with
  |nil=>exact⟨yr go (qc a go h1).1 (uN (qc b go h2).1),λt=>(uB ((qc a go h1).2 (a2 t).1) (NR ((qc b go h2).2 (a2 t).2))).pt⟩
  |cons z r=>exact⟨yr go (qc a go h1).1 (qc b go h2).1,λt=>(uB ((qc a go h1).2 (a2 t).1) (PW.fj ((qc b go h2).2 (a2 t).2))).pt⟩
|.call f es,X,E,cf,e,go,h=>by
  refine Jh (λg x l p h=>?_) e h;refine kE (λh=>?_) l h;obtain⟨h1,h2,h3⟩:=a3 h;cases x with
  |nil=>
   cases es with
   |cons _ _=>exact bx h3
   |nil=>have r:=BX (pos:=p) go h1 h2;obtain⟨p,rfl,_,_⟩:=wb h1;exact bo go r λ_=>rfl
  |cons x r=>have r:=LG (pos:=p) go h1 h2 (Jc h3) (c5 es go h3);obtain⟨p,rfl,_,_⟩:=wb h1;exact bo go r λ_=>rfl
|.bi b es,X,E,cf,e,go,h=>by refine Jh (λg x l p h=>?_) e h;refine kE (λh=>?_) l h;refine kC (λx r h=>?_) x h;obtain⟨h1,h2,h3⟩:=a3 h;have r:=Mq (pos:=p) go h2 h1 (Jc h3) (c5 es go h3);obtain⟨p,rfl,_,_⟩:=wb (a2 h1).2;exact bo go r λ_=>rfl
|.dt a t,X,E,cf,e,go,h=>by refine Jh (λg x l p h=>?_) e h;refine kE (λh=>?_) l h;refine kC (λx r h=>?_) x h;refine kC (λy r h=>?_) r h;refine kE (λh=>?_) r h;obtain⟨h1,h2,h3,h4,h5⟩:=a5 h;have r:=FL (pos:=p) go (of_decide_eq_true h3) h1 h2 h4 (qc a go h5).1;obtain⟨p,rfl,_,_⟩:=wb h1;exact bo go r λ_=>rfl
|.bE a one ts,X,E,cf,e,go,h=>by
  refine Jh (λg x l p h=>?_) e h;refine kE (λh=>?_) l h;refine kC (λx r h=>?_) x h;refine kC (λy r h=>?_) r h;refine kE (λh=>?_) r h;obtain⟨h1,h2,h3,h4⟩:=a4 h;have fin:PE X (.Call g [x,y] [] p) (tD Y E (M.eval F (.bE a one ts))):=by
   cases one with
|true=>refine kC (λt r h=>?_) ts h4;refine kE (λh=>?_) r h;obtain⟨h5,h6⟩:=a2 h;simp only[Ae7,decide_eq_true_eq]at h6;exact Na go h6 h1 h5 h2 (qc a go h3).1
|false=>refine mP (λzs n p h=>?_) y h4;exact AO go (of_decide_eq_true (a2 h).1) h1 (a2 h).2 h2 (qc a go h3).1
  obtain⟨p,rfl,_,_⟩:=wb h1;exact bo go fin λ_=>rfl
|.ix a b,X,E,cf,e,go,h=>by refine lG (λx y p h=>?_) e h;obtain⟨h1,h2,h3⟩:=a3 h;exact bo go (Dx go h1 (qc a go h2).1 (qc b go h3).1) λ_=>rfl
|.gv a lo,X,E,cf,e,go,h=>by refine lG (λx y p h=>?_) e h;refine vV (λl u z p2 h=>?_) y h;refine kS (λl h=>?_) l h;obtain⟨h0,h1,h2,h3⟩:=a4 h;cases nn h0;cases nn h1;exact bo go (A4 go (qc a go h2).1 (qc lo go h3).1) λ_=>rfl
|.eF a hi,X,E,cf,e,go,h=>by refine lG (λx y p h=>?_) e h;refine vV (λl u z p2 h=>?_) y h;refine kS (λu h=>?_) u h;obtain⟨h0,h1,h2,h3⟩:=a4 h;cases nn h0;cases nn h1;exact bo go (DB go (qc a go h2).1 (qc hi go h3).1) λ_=>rfl
|.comp tg one kk az it k7 c elt,X,E,cf,e,go,h=>by
  refine sQ (λy g s p h=>?_) e h;refine kC (λg r h=>?_) g h;obtain⟨t,iter,ifs,z⟩:=g;obtain⟨h0,h1,h2,h3,h4,h5,h6⟩:=a7 h;obtain⟨rfl,rfl⟩:=of_decide_eq_true h0;simp only[Ak9,decide_eq_true_eq]at h2;have sc:=jG h1;have ht:∀C fp w H,ig (Jd X (ju cf t az) s C fp w H) ifs (cY Y E0 (lK F k7 c)):=λC fp w H=>by
   have gc:=jv go sc C fp w H;cases k7 with
|true=>refine kC (λz r h=>?_) ifs h6;refine kE (λh=>?_) r h;exact rD ((qc c gc (a2 h).2).2 (a2 h).1)
|false=>cases Af7.mp h6;rintro pins s1 U H1 Q I ⟨G,τ,h,st,p⟩;exact vp pins s1 U H1 Q I (p G H1 Ext.refl st.heap)
  exact bo go (D8 go sc (XC sc.az) h3 h2 (xU h4) (l6 it go h4) (λC fp s H=>(qc elt (jv go sc C fp s H) h5).1) ht) λ_=>rfl
|.gg i a,X,E,cf,e,go,h=>by refine lG (λg y p h=>?_) e h;refine xu (λx p1 h=>?_) g h;obtain⟨h0,h4,h5⟩:=a3 h;obtain⟨h1,h2,h3⟩:=iF h0;exact bo go (E5 go h1 h2 h3 h4 (qc a go h5).1) λ_=>rfl
|.dh neg a i,X,E,cf,e,go,h=>by refine nj (λx o y p h=>?_) e h;refine kC (λy r h=>?_) y h;refine xu (λy p1 h=>?_) y h;obtain⟨h0,h1,h4⟩:=a3 h;obtain⟨rfl,rfl⟩:=of_decide_eq_true h0;obtain⟨h1,h2,h3⟩:=iF h1;exact⟨K5 go h1 h2 h3 (qc a go h4).1,λ_=>K6 go h1 h2 h3 (qc a go h4).1⟩
|.eu a b,X,E,cf,e,go,h=>by refine Jh (λg x l p h=>?_) e h;refine kE (λh=>?_) l h;refine kC (λx r h=>?_) x h;refine kE (λh=>?_) r h;refine Jh (λg2 x l p2 h=>?_) x h;refine kE (λh=>?_) l h;refine kC (λx r h=>?_) x h;refine kC (λy r h=>?_) r h;refine kE (λh=>?_) r h;obtain⟨h0,h6⟩:=a2 h;obtain⟨h1,h2,h3,h4,h5⟩:=a5 h0;exact bo go (EB go h1 h2 h3 h4 (qc a go h5).1 (qc b go h6).1) λ_=>rfl
|.share a,X,E,cf,e,go,h=>⟨KQ (qc a go h).1,λt=>bx t⟩
|.b9 a,X,E,cf,e,go,h=>by refine Jh (λg x l p h=>?_) e h;refine kE (λh=>?_) l h;refine kC (λx r h=>?_) x h;refine kE (λh=>?_) r h;refine Jh (λg2 x l p2 h=>?_) x h;refine kE (λh=>?_) l h;refine kC (λx r h=>?_) x h;refine kE (λh=>?_) r h;obtain⟨h1,h2,h3,h4⟩:=a4 h;exact bo go (Az go h1 h2 h3 (qc a go h4).1) λ_=>rfl
|.eC s ts,X,E,cf,e,go,h=>by refine Jh (λg x l p h=>?_) e h;refine kE (λh=>?_) l h;refine kC (λx r h=>?_) x h;refine kE (λh=>?_) r h;refine wG (λo n q h=>?_) g h;refine JF (λc k1 p1 h=>?_) o h;refine JF (λc2 k2 p2 h=>?_) x h;obtain⟨h1,h2,h3,h4,h5⟩:=a5 h;cases of_decide_eq_true h1;cases of_decide_eq_true h2;cases of_decide_eq_true h3;exact bo go (HE go h4 h5) λ_=>rfl
|.xf i f,X,E,cf,e,go,h=>by refine wG (λx n q h=>?_) e h;refine xu (λx p h=>?_) x h;obtain⟨h,h0⟩:=a2 h;obtain⟨h1,h2,h3⟩:=iF h;cases of_decide_eq_true h0;exact bo go (Lp go h1 h2 h3) λ_=>rfl
|.make c q es,X,E,cf,e,go,h=>by refine Jh (λg x l p h=>?_) e h;refine kE (λh=>?_) l h;refine kC (λx r h=>?_) x h;obtain⟨h1,h2,h3⟩:=a3 h;exact bo go (M9 go h1 h2 (Jc h3) (c5 es go h3)) λ_=>rfl
|.aA a c f,X,E,cf,e,go,h=>by refine wG (λx n q h=>?_) e h;obtain⟨h0,h1,h2,h3⟩:=a4 h;cases of_decide_eq_true h0;exact bo go (Fu go h1 h2 (qc a go h3).1) λ_=>rfl
|.bQ a c m q es,X,E,cf,e,go,h=>by refine Jh (λg ys l p h=>?_) e h;refine kE (λh=>?_) l h;refine wG (λx n p2 h=>?_) g h;obtain⟨h0,h1,h2,h3,h4,h5,h6⟩:=a7 h;cases of_decide_eq_true h0;revert h3;refine kC (λy ys h6 h3=>?_) ys h6;exact bo go (D4 go h1 h2 (of_decide_eq_true h3) h4 (qc a go h5).1 (Jc h6) (c5 es go h6)) λ_=>rfl
|.fv a,X,E,cf,e,go,h=>by refine Jh (λg ys l p h=>?_) e h;refine kE (λh=>?_) l h;refine kE (λh=>?_) ys h;refine wG (λx n p2 h=>?_) g h;obtain⟨h0,h1,h2,h3⟩:=a4 h;cases of_decide_eq_true h0;exact bo go (Nq go h1 h2 (qc a go h3).1) λ_=>rfl
|.fG f a,X,E,cf,e,go,h=>by refine Jh (λg ys l p h=>?_) e h;refine kC (λx r h=>?_) ys h;refine kE (λh=>?_) r h;refine kC (λw r h=>?_) l h;refine kE (λh=>?_) r h;obtain⟨h0,h1,h2,h3,h4,h5⟩:=a6 h;exact bo go (NI go (of_decide_eq_true h0) h1 h2 h3 h4 (qc a go h5).1) λ_=>rfl
|.dM m a es,X,E,cf,e,go,h=>by refine Jh (λg x l p h=>?_) e h;refine kE (λh=>?_) l h;refine kC (λx r h=>?_) x h;refine kE (λh=>?_) r h;refine wG (λo n q h=>?_) g h;obtain⟨h1,h2,h3,h4,h5,h6⟩:=a6 h;cases of_decide_eq_true h1;exact bo go (Nu go h2 h3 h4 (Jc h6 _ Aa4) (qc a go h5).1 (c5 es go h6)) λ_=>rfl
theorem hX:∀(es:M.Es){X:Cx}{E:XK}{cf:Cf}{xs:List Expr},Go Y F X E k cf->bj cf es xs=k9->PA X xs (kF Y E (M.Gx F es))
|.nil,X,E,cf,xs,go,h=>by cases Af7.mp h;exact F0
|.cons a es,X,E,cf,xs,go,h=>by refine kC (λx r h=>?_) xs h;obtain⟨h1,h2,h3⟩:=a3 h;exact IB h1 (qc a go h2).1 (hX es go h3)
theorem c5:∀(es:M.Es){X:Cx}{E:XK}{cf:Cf}{xs:List Expr},Go Y F X E k cf->bj cf es xs=k9->PA X xs (f7 Y E (M.Gd F es))
|.nil,X,E,cf,xs,go,h=>by cases Af7.mp h;exact Ci
|.cons a es,X,E,cf,xs,go,h=>by refine kC (λx r h=>?_) xs h;obtain⟨h1,h2,h3⟩:=a3 h;exact NX h1 (qc a go h2).1 (c5 es go h3)
theorem l6:∀(it:M.It){X:Cx}{E:XK}{cf:Cf}{tg e:Expr},Go Y F X E k cf->d8 cf it e=k9->PI X tg e (g7 Y E y9 (M.Gj F it))
|.seq a,X,E,cf,tg,e,go,h=>IE go (qc a go (a2 h).2).1
|.aC a,X,E,cf,tg,e,go,h=>by refine Jh (λg x l p h=>?_) e h;refine kE (λh=>?_) l h;refine kC (λx r h=>?_) x h;refine kE (λh=>?_) r h;obtain⟨h1,h2,h3⟩:=a3 h;exact QD go h1 h2 (qc a go h3).1
|.enum a,X,E,cf,tg,e,go,h=>bx h
|.cx a,X,E,cf,tg,e,go,h=>bx h
end
end
structure Bs where
 G:Gh
 H:Hp
 h:M.AH
structure bg(Y:Ge)(B:Bs)(G:Gh)(τ:M.Sl)(h:M.AH)(U:St)(H:Hp):Prop where
 st:ar Y G τ h U H
 ext:Ext B.G B.H G H
 hr:ah Y B.G B.h B.H
 own:∀i xs a,M.Gm τ i=y0 (.own xs)->U[i]?=y0 (y0 (.ref a))->B.H a=u0
def aX(Y:Ge)(E:XK)(B:Bs)(o:M.O)(D:fU):Prop:=match o with
|.next τ h=>∀G U H,bg Y B G τ h U H->D.nx U H
|.ret w h=>∀G v H,Ext B.G B.H G H->ah Y G h H->aj Y G H w v->aG [] [] B.H w v->D.rt v H
|.brk τ h=>∀G U H,bg Y B G τ h U H->D.bk U H
|.cont τ h=>∀G U H,bg Y B G τ h U H->D.ct U H
|.exc d h=>∀G H,Ext B.G B.H G H->ah Y G h H->oF Y E d G H
|.fail=>False
def b8(Y:Ge)(E:XK)(m:M.Sl->M.AH->M.O):TS:=λD U H=>∃B G τ h,bg Y B G τ h U H/\aX Y E B (m τ h) D
def PS.imp {st:Stmt}(h:PS X st t)(k:∀D U H,t' D U H->t D U H):PS X st t':=λa s U H D I q=>h a s U H D I (k _ _ _ q)
def c9.imp {st:List Stmt}(h:c9 X st t)(k:∀D U H,t' D U H->t D U H):c9 X st t':=λa s U H D I q=>h a s U H D I (k _ _ _ q)
section
variable{Y:Ge}{E:XK}{B:Bs}{G G1:Gh}{τ:M.Sl}{h h1:M.AH}{U:St}{H H1:Hp}{D:fU}
def bg.on (s:bg Y B G τ h U H)(e:Ext G H G1 H1)(a:ah Y G1 h1 H1):bg Y B G1 τ h1 U H1:=⟨s.st.ext e a,s.ext.trans s.hr e,s.hr,s.own⟩
theorem aX.exc (s:bg Y B G τ h U H)(p:aX Y E B (.exc d h1) D):ao Y E G H (.exc d h1) P:=λb a e c=>p b a (s.ext.trans s.hr e) c
def Xd(s:bg Y B G τ h U H)(p:aX Y E B ((m τ h).cM f) D)
 (k:∀w v h1 G1 H1,Ext G H G1 H1->bg Y B G1 τ h1 U H1->aj Y G1 H1 w v->aG τ U H w v->aX Y E B (f w h1) D->Q v H1):tD Y E m U H Q:=by
 refine⟨G,τ,h,s.st,?_⟩;cases q:m τ h with
|ok w h1=>rw[q]at p;exactλG1 H1 e b v a c=>k w v h1 G1 H1 e (s.on e b) a c p
|exc d h1=>rw[q]at p;exact aX.exc s p
|fail=>rw[q]at p;exact p
def z9(s:bg Y B G τ h U H)(p:aX Y E B ((m τ h).cM f) D)
 (k:∀b h1 G1 H1,Ext G H G1 H1->bg Y B G1 τ h1 U H1->aX Y E B (f b h1) D->Q b H1):cY Y E m U H Q:=by
 refine⟨G,τ,h,s.st,?_⟩;cases q:m τ h with
|ok w h1=>rw[q]at p;exactλG1 H1 e a=>k w h1 G1 H1 e (s.on e a) p
|exc d h1=>rw[q]at p;exact aX.exc s p
|fail=>rw[q]at p;exact p
theorem bg.set (l:bg Y B G τ h U H)(e:Ext G H G1 H1)(s:bg Y B G1 τ h1 U H1)(r:aj Y G1 H1 w v)(f:aG τ U H w v)(t:∀xs,w≠.bor xs):bg Y B G1 (M.GC τ i w) h1 (U.set i (y0 v)) H1:=by
 refine⟨s.st.set r λq j x n e1 m a u z=>?_,s.ext,s.hr,λj xs a e1 e2=>?_⟩
 .cases w with
|v d=>cases q
|bor xs=>exact t xs rfl
|own xs=>obtain⟨b,k,g⟩:=f;subst u;cases k;obtain⟨o,p⟩:=l.st.cS e1 m z;rw[g]at p;cases p
 .rw[Qj]at e1;by_cases c:j=i/\i<τ.length
  .rw[if_pos c]at e1;cases e1;obtain⟨rfl,c⟩:=c;rw[Ac6 (by rw[←s.st.len];exact c)]at e2;cases e2;obtain⟨b,k,g⟩:=f;cases k;exact l.ext.none l.hr g
  .rw[if_neg c]at e1;have n:=λz=>c ⟨z,by subst z;exact Xr e1⟩;rw[Ad2 (Ne.symm n)]at e2;exact s.own j xs a e1 e2
def bg.fz (a:bg Y B G τ h U H)(e:Ext G H G1 H1)(s:bg Y B G1 τ h1 U H1)(r:aj Y G1 H1 w v)(f:aG τ U H w v)(c:w.d=y0 d):∃G2,Ext G H G2 H1/\bg Y B G2 τ h1 U H1/\aD Y G2 H1 d v:=by obtain⟨G2,e2,b,rd,_⟩:=oN e s.st a.st r f c;exact⟨G2,e2,⟨b,a.ext.trans a.hr e2,s.hr,s.own⟩,rd⟩
def bg.dX (s:bg Y B G τ h U H)(r:aD Y G H d v):bg Y B G (M.GC τ i (.v d)) h (U.set i (y0 v)) H:=bg.set s Ext.refl s r trivial λa z=>by cases z
theorem bg.aW:∀{is}{ds}{vs}{τ j}{U},M.aW is ds τ=y0 j->aa Y G H ds vs->bg Y B G τ h U H->bg Y B G j h (g8 is vs U) H/\is.length=vs.length
|[],[],_,_,_,_,e,rfl,s=>by cases e;exact⟨s,rfl⟩
|[],_::_,_,_,_,_,e,_,_=>by simp[M.aW]at e
|_::_,[],_,_,_,_,e,_,_=>by simp[M.aW]at e
|i::is,d::ds,_,_,_,_,e,z7,s=>by obtain⟨v,r,rfl,a,c⟩:=z7;obtain⟨b,f⟩:=bg.aW (by simpa[M.aW]using e) c (s.dX a);exact⟨b,congrArg (·+1) f⟩
def ym(e:M.Gq tg one d τ=y0 τ')(r:aD Y G H d x)(s:bg Y B G τ h U H)(b:∀j,bg Y B G τ' h j H->Q j H):gM Y tg one x U H Q:=by
 cases one with
|true=>
  cases tg with
  |nil=>cases e
  |cons i l=>
   cases l with
  |cons _ _=>cases e
  |nil=>cases e;exact⟨i,rfl,b _ (s.dX r)⟩
|false=>
  cases d with
|tup m=>obtain⟨a,f,rfl,n,c⟩:=r;obtain⟨k,g⟩:=bg.aW (e) c s;exact⟨G,m,f,a,rfl,n,c,g,b _ k⟩
|_=>cases e
def bg.write (s:bg Y B G τ h U H)(l:M.Gm τ i=y0 (.own xs))(n:U[i]?=y0 (y0 (.ref a)))(r:aa Y G H ys us):bg Y B G (M.GC τ i (.own ys)) h U (aJ H a (.lst us)):=by
 obtain⟨y,of,Z,ha,_⟩:=Ws s.st l n;have Q:=s.own i xs a l n;have mon:Mon G H G (aJ H a (.lst us)):=⟨λb o z q=>by rw[ja (λe:b=a=>y (e▸z))];exact q,Aa9 _,λ_ _=>rfl,λ_ z=>z⟩;have R:=Xr l;have J:ah Y G h (aJ H a (.lst us)):=by refine⟨s.st.heap.len,λq c e=>⟨(s.st.heap.any q c e).1,(s.st.heap.any q c e).2.mon mon λo z=>by rw[ja (of q (s.st.heap.lt e))];exact z⟩,s.st.heap.inj,λb z=>?_⟩;obtain⟨o,q⟩:=s.st.heap.live b z;exact⟨o,by rw[ja (λe:b=a=>y (e▸z))];exact q⟩
 refine⟨⟨by rw[Js];exact s.st.len,λj w e=>?_,λp q D w b x m g T V=>?_,J⟩,⟨λb o q A=>?_,s.ext.le,s.ext.aP,s.ext.new,s.ext.fz,s.ext.old,λq K z=>?_⟩,s.hr,λj D b m g=>?_⟩
 .rw[Qj]at e;by_cases c:j=i/\i<τ.length
  .rw[if_pos c]at e;cases e;obtain⟨rfl,_⟩:=c;exact⟨.ref a,n,a,us,rfl,y,of,zb,r.mon mon⟩
  .rw[if_neg c]at e;have P:=λz=>c ⟨z,by subst z;exact Xr e⟩;obtain⟨v,E,C⟩:=s.st.slot j w e;refine⟨v,E,?_⟩;cases w with
|v d=>exact aD.mon mon C
|own S=>obtain⟨b,bs,rfl,X,O,f,F⟩:=C;have u:b≠a:=λz=>s.st.apart i j xs _ a (Ne.symm P) l e rfl n (z▸E);exact⟨b,bs,rfl,X,O,by rw[ja u];exact f,F.mon mon⟩
|bor S=>
    obtain⟨b,bs,rfl,O,f,F⟩:=C;have u:b≠a:=λz=>s.st.apart i j xs _ a (Ne.symm P) l e rfl n (z▸E);refine⟨b,bs,rfl,O,?_,F.mon mon⟩;obtain f|⟨o,f⟩:=f
    .exact .inl (by rw[ja u];exact f)
    .exact .inr ⟨o,by rw[ja u];exact f⟩
 .rw[Qj]at m g;have I:∃k,M.Gm τ p=y0 (.own k):=by
   by_cases c:p=i/\i<τ.length
   .exact⟨xs,by rw[c.1];exact l⟩
   .rw[if_neg c]at m;exact⟨D,m⟩
  have L:∃t,M.Gm τ q=y0 t/\gJ t=true:=by
   by_cases c:q=i/\i<τ.length
   .exact⟨.own xs,by rw[c.1];exact l,rfl⟩
   .rw[if_neg c]at g;exact⟨w,g,T⟩
  obtain⟨k,I⟩:=I;obtain⟨t,L,N⟩:=L;exact s.st.apart p q k t b x I L N V
 .rw[ja (λe:b=a=>by rw[e,Q]at q;cases q)];exact s.ext.keep b o q A
 .obtain⟨o,W⟩:=s.ext.cells q K z;have:B.G.aP q≠a:=λe=>by have:=of q (Ab3 K s.ext.le);rw[s.ext.aP q K]at this;exact this e
  exact⟨o,by rw[ja this];exact W⟩
 .rw[Qj]at m;by_cases c:j=i/\i<τ.length
  .obtain⟨rfl,_⟩:=c;rw[n]at g;cases g;exact Q
  .rw[if_neg c]at m;exact s.own j D b m g
theorem xx:∀(xs)(n){d},M.Gf xs=k9->M.Gc d=k9->M.Gf (xs.set n d)=k9
|[],_,_,_,_=>rfl
|x::xs,0,d,h,a=>by have h:=h;rw[Aa0]at h;show(M.Gc d&&M.Gf xs)=k9;rw[a,h.2];rfl
|x::xs,n+1,d,h,a=>by have h:=h;rw[Aa0]at h;show(M.Gc x&&M.Gf (xs.set n d))=k9;rw[h.1,xx xs n h.2 a];rfl
def bg.iA (s:bg Y B G τ h U H)(p:h[r]?=y0 c0)(z:bD Y G (aJ H (G.aP r) o1) (G.aP r) c1):bg Y B G τ (h.set r c1) U (aJ H (G.aP r) o1):=by
 have A:=(Aa8.mp p).1;have f:=s.st.heap.lt p;have k:=s.st.heap.mL f;have mon:Mon G H G (aJ H _ o1):=⟨λb o w q=>by rw[ja (λe:b=G.aP r=>k (e▸w))];exact q,Aa9 _,λ_ _=>rfl,λ_ w=>w⟩;have n:ah Y G (h.set r c1) (aJ H (G.aP r) o1):=by
  refine⟨by rw[Ae6];exact s.st.heap.len,λq c e=>?_,s.st.heap.inj,λb w=>?_⟩
  .by_cases c:q=r
   .subst c;rw[Ac6 A]at e;cases e;exact⟨k,z⟩
   .rw[Ad2 (Ne.symm c)]at e;exact⟨(s.st.heap.any q _ e).1,(s.st.heap.any q _ e).2.mon mon λo w=>by rw[ja λt=>c (s.st.heap.inj q r (s.st.heap.lt e) f t)];exact w⟩
  .obtain⟨o,q⟩:=s.st.heap.live b w;exact⟨o,by rw[ja (λe:b=G.aP r=>k (e▸w))];exact q⟩
 refine⟨⟨s.st.len,λj w e=>?_,s.st.apart,n⟩,⟨λb o q i=>?_,s.ext.le,s.ext.aP,s.ext.new,s.ext.fz,s.ext.old,λq D w=>?_⟩,s.hr,s.own⟩
 .obtain⟨v,x,l⟩:=s.st.slot j w e;refine⟨v,x,?_⟩;cases w with
|v d=>exact aD.mon mon l
|own y=>obtain⟨b,bs,rfl,E,g,a,m⟩:=l;exact⟨b,bs,rfl,E,g,by rw[ja (Ne.symm (g r f))];exact a,m.mon mon⟩
|bor y=>
   obtain⟨b,bs,rfl,g,a,m⟩:=l;refine⟨b,bs,rfl,g,?_,m.mon mon⟩;obtain a|⟨o,a⟩:=a
   .exact .inl (by rw[ja (Ne.symm (g r f))];exact a)
   .exact .inr ⟨o,by rw[ja (Ne.symm (g r f))];exact a⟩
 .have C:b≠G.aP r:=λe=>by
   by_cases c:r<B.G.n
   .exact i r c (by rw[←s.ext.aP r c];exact e.symm)
   .have:=s.ext.new r (Ap0.mp c) f;rw[←e,q]at this;cases this
  rw[ja C];exact s.ext.keep b o q i
 .by_cases c:B.G.aP q=G.aP r
  .exact⟨_,by rw[c];exact zb⟩
  .obtain⟨o,u⟩:=s.ext.cells q D w;exact⟨o,by rw[ja c];exact u⟩
def yw(a:ah Y G h H)(c:r<G.n)(o):Mon G H G (aJ H (G.aP r) o):=⟨λb o w q=>by rw[ja (λe:b=G.aP r=>a.mL c (e▸w))];exact q,Aa9 _,λ_ _=>rfl,λ_ w=>w⟩
def bg.cell (s:bg Y B G τ h U H)(a:h[r]?=y0 (.lst xs))(b:M.Gf ys=k9)(z:aa Y G H ys us):bg Y B G τ (h.set r (.lst ys)) U (aJ H (G.aP r) (.lst us)):=
 s.iA a ⟨b,us,zb,z.mon (yw s.st.heap (s.st.heap.lt a) _)⟩
def bg.iR (s:bg Y B G τ h U H)(a:h[r]?=y0 (.obj c0 xs))(z:aa Y G H (ys.map (·.2)) us):bg Y B G τ (h.set r (.obj c0 ys)) U (aJ H (G.aP r) (.ins (Y.ca c0) dx0 ((ys.map λp=>Str.ofString p.1).zip us))):=
 s.iA a ⟨dx0,us,zb,z.mon (yw s.st.heap (s.st.heap.lt a) _)⟩
end
structure fK(Y:Ge)(F:M.Fx)(X:Cx)(E:XK)(k:Nat)(cf:Cf):Prop extends Go Y F X E k cf where
 g9:PassesOwn (model X.prog X.w) X.A X.env X.xe
 gR:X.stack=X.env::X.outer
 nS:X.env.frame=y0 X.env.locals
 ex:X.ex=[]
 gE:∀c,cf.cb=true->cf.gE.contains c=true->i6 cf.sc (Zc c)=true->(Zc c==("__debug__":Str))=false->fc Y c/\∀(np cpos pos:Pos)(e:Expr)(es:List Expr)(t:TA),PA X (e::es) t->(∀e'∈e::es,Ja e'=true)→
  PS X (.Raise (y0 (.Call (.Name (Zc c) np) (e::es) [] cpos)) u0 pos) (ra (Y.ca c) E t)
 mm:∀c f,cf.cb=true->cf.ob.er.contains (c,f)=true->i6 cf.sc (Zc c)=true->(Zc c==("__debug__":Str))=false->fc Y c/\mG Y.K (Y.ca c) (Zc f)/\∀(np cpos pos:Pos)(e:Expr)(t:TA),PA X [e] t->Ja e=true→
  PS X (.Raise (y0 (.Call (.Name (Zc c) np) [e] [] cpos)) u0 pos) (rZ (Y.ca c) (Zc f) E t)
 fR:∀c,cf.fR.contains c=true->PySem.W.mroIn X.K (Y.ca c) (.type "BaseException")=some true/\cf.own.contains c=true/\2<=k
section
variable{Y:Ge}{F:M.Fx}{X:Cx}{E:XK}{k:Nat}{cf:Cf}
def wC(h:zA cf i x=k9):cf.N[i]?=y0 x/\iX cf.sc x=true:=by simpa[zA]using h
def jJ(h:ZR cf i x=k9):cf.N[i]?=y0 x/\cf.sc.names.lookup x=y0 .local:=by simpa[ZR]using h
def BA(t:tD Y E (M.eval F (.share a)) U H Q):tD Y E (M.eval F a) U H Q:=by
 obtain⟨G,A,h,s,p⟩:=t;refine Wa s.heap Ext.refl s p λk v1 c g z e1 x i u w b=>?_;cases k with
|own e=>
  obtain⟨l,y,rfl,n,r,o,j⟩:=u;obtain⟨B,m,q⟩:=w;cases m;have b:ao Y E G H (if M.Gf e=k9 then M.ai _ (c++[.lst e])else .fail) _:=b;by_cases f:M.Gf e=k9;rotate_left
  .rw[if_neg f]at b;exact b.elim
  rw[if_pos f]at b;refine ao.val b (JA e1 q) (qV i.heap n r o j f) ?_ trivial;show c.length<g.n+1/\V.ref l=.ref (if c.length=g.n then l else g.aP c.length);rw[i.heap.len,if_pos rfl];exact⟨Ae9 _,rfl⟩
|v d=>exact b.elim
|bor e=>exact b.elim
def zf(h:xw v=k9):swapsWith v t l env=pure false:=by
 cases v<;>first|rfl|(simp[xw]at h)
def wK:swapsWith v (y0 (.Attribute o n p)) l env=pure false:=by cases v<;>rfl
def WV(a:Go Y F X E k cf)(b:zA cf i x=k9)(e:PE X v (tD Y E (M.eval F m)))(c:swapsWith v (y0 (.Name x p)) pos.line X.env=pure y9):
 PS X (.Assign [.Name x p] v pos) (iu (tD Y E (M.eval F m)) (QT i)):=by
 obtain⟨d,f⟩:=wC b;have b:=a.gU x f;exact NO (by rw[a.N];exact a.nd) (by rw[a.N];exact d) b.1 e c b.2
def u4:M.E->Bool
|.share _=>k9
|.comp ..=>k9
|_=>y9
def Cq(h:Xb cf m v=k9)(a:u4 m=y9):xw v=true:=by
 cases v with
|ListComp _ _ _ _=>cases m<;>first|exact bx h|(exact absurd (a) Ap9)
|SetComp _ _ _ _=>cases m<;>first|exact bx h|(exact absurd (a) Ap9)
|DictComp _ _ _ _ _=>cases m<;>first|exact bx h|(exact absurd (a) Ap9)
|_=>rfl
def Ek(d:Cf)(a:Bool)(b:List Expr)(c:M.E):Bool:=bif a then(lC b λz r=>kZ r (fN c&&Xb d c z))else b.isEmpty
def L3(h:Xb cf (.comp tg one kk az it k7 c elt) v=k9):∃y t iter ifs scope p0,v=.ListComp y [⟨t,iter,ifs,0⟩] scope p0∧
 lO cf scope (ju cf t az) kk az/\(∀i∈tg,i<kk)/\Qe {cf with sc:=scope,N:=ju cf t az} tg one t=k9/\d8 cf it iter=k9/\Xb {cf with sc:=scope,N:=ju cf t az} elt y=k9∧
 Ek {cf with sc:=scope,N:=ju cf t az} k7 ifs c=true:=by
 refine sQ (λy g s p h=>kC (λg r h=>?_) g h) v h;obtain⟨t,iter,ifs,z⟩:=g;obtain⟨f,e,a,b,j,k,d⟩:=a7 h;obtain⟨rfl,rfl⟩:=of_decide_eq_true f;simp[decide_eq_true_eq]at a;exact⟨y,t,iter,ifs,s,p,rfl,jG e,a,b,j,k,d⟩
def Cy(e:Go Y F X E k cf)(o:zA cf i x=k9)(h:Xb cf (.comp tg one kk az it k7 c elt) v=k9):
 PS X (.Assign [.Name x p] v pos) (iu (tD Y E (M.eval F (.comp tg one kk az it k7 c elt))) (QT i)):=by
 obtain⟨y,t,j,d,a,w,rfl,l,O,A,u,K,m⟩:=L3 h;obtain⟨b,q⟩:∃b,swapsWith (.ListComp y [⟨t,j,d,0⟩] a w) (y0 (.Name x p)) pos.line X.env=pure b:=⟨_,rfl⟩;cases b with
|false=>exact WV e o ((qc _ e h).1) q
|true=>
  obtain⟨L,B⟩:=wC o;have J:∀C g s H,ig (Jd X _ a C g s H) d (cY Y E0 (lK F k7 c)):=λC g s H=>by
   cases k7 with
|true=>exact kC (λz r h=>kE (λh=>rD ((qc c (jv e l C g s H) (a2 h).2).2 (a2 h).1)) r h) d m
|false=>cases Af7.mp m;rintro f N U n Q I ⟨G,P,h,D,p⟩;exact vp f N U n Q I (p G n Ext.refl D.heap)
  exact q5 e L B q l (XC l.az) A O (xU u) (l6 it e u) (λC g s H=>(qc elt (jv e l C g s H) K).1) J
def Zb(a:Go Y F X E k cf)(b:zA cf i x=k9)(h:Xb cf m v=k9)(c:u4 m=y9):PS X (.Assign [.Name x p] v pos) (iu (tD Y E (M.eval F m)) (QT i)):=
 WV a b (qc m a h).1 (zf (Cq h c))
theorem oe(b:Go Y F X E k cf){v:Expr}{i:Nat}{x:Str}{p pos:Pos}(c:zA cf i x=k9):∀(m:M.E),Xb cf m v=k9->PS X (.Assign [.Name x p] v pos) (iu (tD Y E (M.eval F m)) (QT i))
|.share a,h=>PS.imp (oe b c a h) λD U H q=>BA q
|.comp ..,h=>Cy b c h
|.gg ..,h=>Zb b c h rfl
|.dh ..,h=>Zb b c h rfl
|.eu _ _,h=>Zb b c h rfl
|.var _,h=>Zb b c h rfl
|.con _,h=>Zb b c h rfl
|.int _,h=>Zb b c h rfl
|.bl _,h=>Zb b c h rfl
|.ak,h=>Zb b c h rfl
|.str _,h=>Zb b c h rfl
|.tup _,h=>Zb b c h rfl
|.lst _,h=>Zb b c h rfl
|.bin ..,h=>Zb b c h rfl
|.cmp ..,h=>Zb b c h rfl
|.chain ..,h=>Zb b c h rfl
|.d7 ..,h=>Zb b c h rfl
|.neg _,h=>Zb b c h rfl
|.inv _,h=>Zb b c h rfl
|.not _,h=>Zb b c h rfl
|.and ..,h=>Zb b c h rfl
|.or ..,h=>Zb b c h rfl
|.call ..,h=>Zb b c h rfl
|.bi ..,h=>Zb b c h rfl
|.dt ..,h=>Zb b c h rfl
|.bE ..,h=>Zb b c h rfl
|.ix ..,h=>Zb b c h rfl
|.gv ..,h=>Zb b c h rfl
|.eF ..,h=>Zb b c h rfl
|.b9 _,h=>Zb b c h rfl
|.eC ..,h=>Zb b c h rfl
|.dM ..,h=>Zb b c h rfl
|.xf ..,h=>Zb b c h rfl
|.make ..,h=>Zb b c h rfl
|.aA ..,h=>Zb b c h rfl
|.bQ ..,h=>Zb b c h rfl
|.fv ..,h=>Zb b c h rfl
|.fG ..,h=>Zb b c h rfl
def MN(n:Go Y F X E k cf)(o:zA cf i x=k9)(h:Xb cf m v=k9):PS X (.Assign [.Name x p] v pos) (b8 Y E (M.exec F (.set i m))):=by
 refine PS.imp (oe n o m h) λD U H l=>?_;obtain⟨B,G,t,h,s,p⟩:=l;refine Xd s p λw v q f b e1 j e g a=>?_;cases w with
|bor c=>exact a.elim
|v d=>exact a f _ b (bg.set s e1 j e g λc z=>by cases z)
|own r=>exact a f _ b (bg.set s e1 j e g λc z=>by cases z)
def MD(g:Go Y F X E k cf)(j:zA cf i x=k9)(h:Xb cf m v=k9):PS X (.Assign [.Name x p] v pos) (b8 Y E (M.exec F (.ag i m))):=by
 refine PS.imp (oe g j m h) λD U H e=>?_;obtain⟨B,G,t,h,s,p⟩:=e;refine Xd s p λw v r u c e1 o l n a=>?_;cases q:w.d with
|none=>rw[q]at a;exact a.elim
|some d=>rw[q]at a;obtain⟨f,e2,b,rd⟩:=bg.fz s e1 o l n q;exact a f _ c (b.dX rd)
def XS:swapsWithSole [.Tuple ts n p] v l env=pure false:=by cases v<;>rfl
def qF(h:Xi v=k9):swappedStores [.Tuple ts n p] v env=pure none:=by
 cases v<;>first|rfl|(simp[Xi]at h)
def KO(f:Go Y F X E k cf)(y:pP cf is ts=k9)(g:Xi v=k9)(h:Xb cf m v=k9):PS X (.Assign [.Tuple ts n p] v pos) (b8 Y E (M.exec F (.iP is m))):=by
 refine PS.imp (pA (qc m f h).1 (Qu f (one:=y9) y) XS (qF g) rfl) λD U H l=>?_;obtain⟨B,G,e,h,s,p⟩:=l;refine Xd s p λw v o u j e1 x r z a=>?_;cases w with
|v d=>
  cases d with
  |tup c=>
   have a:aX Y E B (match M.aW is c e with|some b=>.next b o|none=>.fail) D:=a;cases q:M.aW is c e with
   |none=>rw[q]at a;exact a.elim
   |some b=>rw[q]at a;exact ym (show M.Gq is y9 (.tup c) e=y0 b from q) r x λi t=>a u i j t
  |_=>exact a.elim
|own _=>exact a.elim
|bor _=>exact a.elim
def Ds:swapsWithSole [.Subscript x y p] v l env=pure false:=by cases v<;>rfl
def HW:swappedStores [.Subscript x y p] v env=pure none:=by cases v<;>rfl
def uW(a:Xe y=k9)(v):assign (.Subscript x y p) env v=(do
 let j←holding [v] (eval x env);let L←holding [v,j] (eval y env)
 standAt p
 holding [v,j,L] (setItem j L v)
 release [v,j,L] []):=by
 cases y<;>first|rfl|(simp[Xe]at a)
def zN(a:M.Kz d=k9)(z:aD Y G H d v):aD Y G' H' d v:=by
 cases d with
|ak=>exact z
|bl _=>exact z
|int _=>exact z
|str _=>exact z
|_=>exact absurd (a) Ab8
def wJ(a:M.Kz d=k9):M.Gc d=true:=by
 cases d<;>first|rfl|exact absurd (a) Ab8
def j4(c:Go Y F X E k cf)(J:Xe y=k9)(A:Xb cf o x=k9)(u:Xb cf kx y=k9)(h:Xb cf m v=k9):PS X (.Assign [.Subscript x y p] v pos) (b8 Y E (M.exec F (.cR o kx m))):=by
 refine PS.imp (pA (qc m c h).1 (rY (qc o c A).1 (qc kx c u).1 Q7 (uW J)) Ds HW rfl) λD U H L=>?_;obtain⟨B,G,τ,h,s,p⟩:=L;refine Xd s p λw v h1 G1 Z e1 S Q f1 R=>Xd S R λow V h2 G2 H2 e2 g O f2 z=>Xd g z λkw W T i N I b l f3 a=>?_;unfold M.Kr at a;split at a
 .rename_i d r j;split at a
  .rename_i e q;split at a
   .rename_i n P;split at a
    .rename_i f;obtain⟨h4,C⟩:=(aj.ext I g.st.heap O);subst C;cases(l);have rd:aD Y i N d v:=zN f Q;obtain⟨_,t,K,rv⟩:=b.st.heap.cell r e q;refine⟨_,t,j,n,rfl,rfl,K,by rw[←rv.length];exact P,?_⟩;exact a i U _ (b.cell q (xx e n (b.st.heap.pure r e q) (wJ f)) (aa.set rd n rv))
    .exact a.elim
   .exact a.elim
  .exact a.elim
 .exact a.elim
def Mm(h:M.gr w=y0 (a,b)):w=.v (.tup [a,b]):=by
 unfold M.gr at h;split at h
 .cases h;rfl
 .cases h
def MH(f:Go Y F X E k cf)(Q:Xe y=k9)(W:Xi v=k9)(K:(cf.cb&&zA cf j a)=k9)(Z:Xb cf o x=k9)(hk:Xb cf kx y=k9)(h:Xb cf m v=k9):PS X (.Assign [.Tuple [.Subscript x y p,.Name a pa] n pt] v pos) (b8 Y E (M.exec F (.gy o kx j m))):=by
 obtain⟨j1,R⟩:=wC (a2 K).2;have C:=f.gU a R;refine PS.imp (pA (qc m f h).1 (vk (f.calm (a2 K).1) (JN (rY (qc o f Z).1 (qc kx f hk).1 Q7 (uW Q)) (JN (j2 (by rw[f.N];exact f.nd) (by rw[f.N];exact j1) C.1 C.2) sy))) XS (qF W) rfl) λD U H qq=>?_;obtain⟨B,G,V,h,s,p⟩:=qq;refine Xd s p λw v h1 G1 H1 e1 s1 S f1 g=>?_;cases l:M.gr w with
|none=>rw[l]at g;exact g.elim
|some dd=>
  obtain⟨L,d2⟩:=dd;rw[l]at g;cases Mm l;obtain⟨b,z,rfl,P,v1,r',rfl,z3,v2,r'',rfl,z4,rfl⟩:=(S);refine⟨b,[v1,v2],rfl,f.K▸P.sq,rfl,v1,[v2],rfl,?_⟩;refine Xd s1 g λT ov h2 G2 H2 e2 I r2 f2 O=>?_;refine Xd I O λkw iv h3 J H3 e3 u N f3 e=>?_;split at e;rotate_left
  .exact e.elim
  rename_i i;cases c:M.Kr (.v L) T kw V h3 with
|next τ' h'=>
   rw[c]at e;unfold M.Kr at c;split at c
   .rename_i d r j' e1;cases e1;split at c
    .rename_i t q;split at c
     .rename_i n qn;split at c
      .rename_i A;cases c;obtain⟨h4,h5⟩:=(aj.ext e3 I.st.heap r2);subst h5;cases(N);have rd:aD Y J H3 L v1:=zN A z3;obtain⟨_,z,hv,rv⟩:=u.st.heap.cell r t q;refine⟨_,z,j',n,rfl,rfl,hv,by rw[←rv.length];exact qn,?_⟩;have s4:=u.cell q (xx t n (u.st.heap.pure r t q) (wJ A)) (aa.set rd n rv);exact⟨v2,[],rfl,rfl,e J _ _ (s4.dX (zN i z4))⟩
      .cases c
     .cases c
    .cases c
   .cases c
|ret _ _=>rw[c]at e;exact e.elim
|brk _ _=>rw[c]at e;exact e.elim
|cont _ _=>rw[c]at e;exact e.elim
|exc _ _=>rw[c]at e;exact e.elim
|fail=>rw[c]at e;exact e.elim
def vr(h:JS cf i m e cpos=k9):∃x p apos,e=.Attribute (.Name x p) m apos/\cf.N[i]?=y0 x/\JY cf.sc x=k9/\bz x=k9/\(apos.endLine==cpos.line)=true:=by refine wG (λx n q h=>xu (λx p h=>?_) x h) e h;obtain⟨h,d,f⟩:=a3 h;obtain⟨a,c,b⟩:=iF h;cases of_decide_eq_true d;exact⟨_,_,_,rfl,a,c,b,f⟩
def B4(l:Go Y F X E k cf)(A:JS cf i "append" f cpos=true)(j:Ja v=true)(h:Xb cf m v=true):PS X (.Expr (.Call f [v] [] cpos) pos) (b8 Y E (M.exec F (.app i m))):=by
 obtain⟨x,p,y,rfl,n,V,c,O⟩:=vr A;unfold bz at c;rw[Aa0]at c;have pv:=Xy (pos:=p) (by rw[l.N];exact n) (l.gO x V) (by simpa using c.1) (by simpa using c.2);refine PS.imp (jQ (oh PySem.F.plainAttrs_list PySem.F.slot_list_append PySem.F.type_list_append qU pv (jd (qc m l h).1 Jj (Qa j)) rfl (by rw[Qa j];rfl) O (Qa j) rfl) (zf rfl)) λD U H J=>?_;obtain⟨B,G,Q,h,s,p⟩:=J;rw[M.exec]at p;cases q:M.Gm Q i with
|none=>rw[q]at p;exact p.elim
|some N=>
  rw[q]at p;cases N with
|v d=>exact p.elim
|bor o=>exact p.elim
|own o=>
   obtain⟨v0,e,a,C,rfl,z2,z3,I,Z⟩:=s.st.slot i _ q;refine⟨.ref a,e,.inl ⟨rfl,C,br.of I⟩,Xd s p λw v n G1 H1 e1 S P R b=>?_⟩;cases g:w.d with
|none=>rw[g]at b;exact b.elim
|some d=>
    rw[g]at b;obtain⟨K,e2,u,rd⟩:=bg.fz s e1 S P R g;have b:aX Y E B (if o.length<M.bp then .next _ n else .fail) D:=b;by_cases r:o.length<M.bp
    .rw[if_pos r]at b;obtain⟨W,of,T,L,z⟩:=Ws u.st q e;have t:=z.length;exact⟨a,T,v,rfl,rfl,L,by have:=zj;lia,b K U _ (u.write q e (z.append ⟨v,[],rfl,rd,rfl⟩))⟩
    .rw[if_neg r]at b;exact b.elim
def MC(t:Go Y F X E k cf)(K:JS cf i "extend" f cpos=true)(o:Ja v=true)(h:Xb cf m v=true):PS X (.Expr (.Call f [v] [] cpos) pos) (b8 Y E (M.exec F (.ext i m))):=by
 obtain⟨x,p,C,rfl,u,h2,g,S⟩:=vr K;unfold bz at g;rw[Aa0]at g;have pv:=Xy (pos:=p) (by rw[t.N];exact u) (t.gO x h2) (by simpa using g.1) (by simpa using g.2);refine PS.imp (jQ (oh PySem.F.plainAttrs_list PySem.F.slot_list_extend PySem.F.type_list_extend M8 pv (jd (qc m t h).1 Jj (Qa o)) rfl (by rw[Qa o];rfl) S (Qa o) rfl) (zf rfl)) λD U H O=>?_;obtain⟨B,G,V,h,s,p⟩:=O;rw[M.exec]at p;cases q:M.Gm V i with
|none=>rw[q]at p;exact p.elim
|some R=>
  rw[q]at p;cases R with
|v d=>exact p.elim
|bor y=>exact p.elim
|own y=>
   obtain⟨v0,l,a,L,rfl,z2,z3,N,z5⟩:=s.st.slot i _ q;refine⟨.ref a,l,.inl ⟨rfl,L,br.of N⟩,Xd s p λw v u W H1 e1 J T f1 c=>?_⟩;cases w with
|v d=>exact c.elim
|bor r=>exact c.elim
|own r=>
    obtain⟨b,j,rfl,_,_,P,e⟩:=T;have c:aX Y E B (if y.length+r.length<M.bp then .next _ u else .fail) D:=c;by_cases z:y.length+r.length<M.bp
    .rw[if_pos z]at c;obtain⟨nf,of,Z,Q,I⟩:=Ws J.st q l;have A:=I.length;have n:=e.length;exact⟨a,b,Z,j,rfl,rfl,Q,P,by have:=zj;lia,c W U _ (J.write q l (I.append e))⟩
    .rw[if_neg z]at c;exact c.elim
theorem JI:∀{xs ys},M.Gf xs=k9->M.Gf ys=k9->M.Gf (xs++ys)=k9
|[],_,_,h=>h
|x::xs,ys,h,a=>by have h:=h;rw[Aa0]at h;show(M.Gc x&&M.Gf (xs++ys))=k9;rw[h.1,JI h.2 a];rfl
def EL(C:Go Y F X E k cf)(P:attributeBase x "append" X.env (eval x X.env)=eval x X.env)(V:(apos.endLine==cpos.line)=true)(j:Ja v=true)(T:Xb cf a x=true)(h:Xb cf m v=true):PS X (.Expr (.Call (.Attribute x "append" apos) [v] [] cpos) pos) (b8 Y E (M.exec F (.gC a m))):=by
 refine PS.imp (jQ (oh PySem.F.plainAttrs_list PySem.F.slot_list_append PySem.F.type_list_append qU (qc a C T).1 (jd (qc m C h).1 Jj (Qa j)) P (by rw[Qa j];rfl) V (Qa j) rfl) (zf rfl)) λD U H K=>?_;obtain⟨B,G,τ,h,s,p⟩:=K;refine Xd s p λo vo S G0 H0 e0 t N f0 c=>?_;cases q:M.GW S (y0 o)with
|none=>rw[q]at c;exact c.elim
|some A=>
  rw[q]at c;obtain⟨Z,I⟩:=wU q;cases Z;obtain⟨l,rfl⟩:=(N);obtain⟨_,e,g,_⟩:=t.st.heap.cell A.1 A.2 I;refine⟨.inl ⟨rfl,e,br.of g⟩,Xd t c λw v h1 G1 H1 e1 s1 W f1 b=>?_⟩;split at b
  .rename_i d r n J O;obtain⟨L,e2,i,rd⟩:=bg.fz t e1 s1 W f1 J;by_cases u:n.length<M.bp/\M.Gc d=k9
   .rw[if_pos u]at b;obtain⟨Q,f⟩:=wU O;cases Q;obtain⟨_,us,R,z⟩:=i.st.heap.cell _ n f;have y:=z.length;exact⟨_,us,v,by rw[e2.aP _ l],rfl,R,by have:=zj;lia,b L U _ (i.cell f (JI (i.st.heap.pure _ n f) (by simp_all)) (z.append ⟨v,[],rfl,rd,rfl⟩))⟩
   .rw[if_neg u]at b;exact b.elim
  .exact b.elim
def W2(a:Go Y F X E k cf)(h1:cf.N[i]?=y0 x)(O:JY cf.sc x=k9)(u:bz x=k9)(g:cf.ob.fl.contains (c,f)=k9)(h:Xb cf m v=k9):PS X (.Assign [.Attribute (.Name x j) (Zc f) p2] v pos) (b8 Y E (M.exec F (.bK i c f m))):=by
 refine PS.imp (tV (jx a h1 O u) (qc m a h).1 wK) λD U H I=>?_;obtain⟨B,G,L,h,s,p⟩:=I;refine Xd s p λw v h1 n Q e1 e K S j=>?_;cases w with
|own _=>exact j.elim
|bor _=>exact j.elim
|v d=>
  cases q:M.GX h1 (M.Gm L i)with
|none=>rw[q]at j;exact j.elim
|some o=>
   obtain⟨r,C,fs⟩:=o;rw[q]at j;dsimp only at j;split at j
   .rename_i t;obtain⟨rfl,R⟩:=t;obtain⟨e2,l⟩:=QG q;obtain⟨P,J,T,N,A⟩:=e.st.heap.obj r _ fs l;obtain⟨y,b,z⟩:=qP (K) A;refine⟨_,Q5 e.st q,n.aP r,Y.ca C,J,_,rfl,N,(a.fld _ _ g).1,(a.fld _ _ g).2,?_,?_⟩
    .rw[List.length_zip,Aa];lia
    .rw[z];exact j n U _ (e.iR l b)
   .exact j.elim
def ZU(a:Go Y F X E k cf)(h1:cf.N[i]?=y0 x)(R:JY cf.sc x=k9)(y:bz x=k9)(l:cf.ob.fl.contains (c,f)=k9)(h:Xb cf m v=k9):PS X (.Assign [.Attribute (.Name x j) (Zc f) p2] v pos) (b8 Y E (M.exec F (.bX i c f m))):=by
 refine PS.imp (tV (jx a h1 R y) (qc m a h).1 wK) λD U H J=>?_;obtain⟨B,G,N,h,s,p⟩:=J;refine Xd s p λw v h1 W T e1 Q L O j=>?_;cases g:w.d with
|none=>rw[g]at j;exact j.elim
|some d=>
  rw[g]at j;obtain⟨t,e2,e,rd⟩:=bg.fz s e1 Q L O g;cases q:M.GX h1 (M.Gm N i)with
|none=>rw[q]at j;exact j.elim
|some o=>
   obtain⟨r,I,fs⟩:=o;rw[q]at j;dsimp only at j;split at j
   .rename_i u;obtain⟨rfl,Z,V⟩:=u;obtain⟨e2,n⟩:=QG q;obtain⟨S,K,us,P,C⟩:=e.st.heap.obj r _ fs n;obtain⟨z,b,A⟩:=qP rd C;refine⟨_,Q5 e.st q,t.aP r,Y.ca I,K,_,rfl,P,(a.fld _ _ l).1,(a.fld _ _ l).2,?_,?_⟩
    .rw[List.length_zip,Aa];lia
    .rw[A];exact j t U _ (e.iR n b)
   .exact j.elim
end
section
variable{Y:Ge}{E:XK}{B:Bs}{G:Gh}{τ:M.Sl}{h:M.AH}{U:St}{H:Hp}{D:fU}
def Ib(c:M.Gm τ i=y0 (.own xs))(b:U[i]?=y0 (y0 (.ref a))):ql τ U H a=none:=by unfold ql;rw[if_pos ⟨i,xs,c,b⟩]
def w6(e:ql τ U H a=y0 o):H a=y0 o:=by
 unfold ql at e;split at e
 .cases e
 .exact e
def IA(s:ar Y G τ h U H):ah Y G h (ql τ U H) where
 len:=s.heap.len
 any:=λr c e=>⟨(s.heap.any r c e).1,(s.heap.any r c e).2.mon (wt s) λo z=>by rw[jj (by rintro⟨i,f,b,d⟩;exact(Ws s b d).2.1 r (s.heap.lt e) rfl)];exact z⟩
 inj:=s.heap.inj
 live:=λa z=>by obtain⟨o,q⟩:=s.heap.live a z;exact⟨o,by rw[jj (by rintro⟨i,f,b,d⟩;exact(Ws s b d).1 z)];exact q⟩
def lN(G:Gh)(τ:M.Sl)(h:M.AH)(U:St)(H:Hp):Bs:=⟨G,ql τ U H,h⟩
def JC(s:bg Y B G τ h U H):Ext B.G B.H G (ql τ U H) where
 keep:=λa o e d=>by rw[jj λ⟨i,c,b,f⟩=>by rw[s.own i c a b f]at e;cases e];exact s.ext.keep a o e d
 le:=s.ext.le
 aP:=s.ext.aP
 new:=s.ext.new
 fz:=s.ext.fz
 old:=s.ext.old
 cells:=λr j z=>by obtain⟨o,q⟩:=s.ext.cells r j z;refine⟨o,?_⟩;rw[jj λg=>by obtain⟨i,c,b,f⟩:=g;obtain⟨u,z⟩:=z;rw[s.own i c _ b f]at z;cases z];exact q
def Mp(s:bg Y B G τ h U H):bg Y (lN G τ h U H) G τ h U H where
 st:=s.st
 ext:=⟨λa o e _=>w6 e,Aa9 _,λ_ _=>rfl,λr h1 h2=>absurd h1 (An5.mpr h2),λ_ z=>z,λ_ z=>.inl z,by rintro r hr⟨o,z⟩;exact⟨o,w6 z⟩⟩
 hr:=IA s.st
 own:=λi xs a e1 e2=>Ib e1 e2
def WN(s:bg Y B G τ h U H)(b:bg Y (lN G τ h U H) G2 τ2 h2 U2 H2):bg Y B G2 τ2 h2 U2 H2:=
 ⟨b.st,(JC s).trans s.hr b.ext,s.hr,λi c a e1 e2=>(JC s).none s.hr (b.own i c a e1 e2)⟩
def Md(s:bg Y B G τ h U H)(p:aX Y E B o D):aX Y E (lN G τ h U H) o D:=by
 cases o with
|next j k=>exactλc g b i=>p c g b (WN s i)
|brk j k=>exactλc g b i=>p c g b (WN s i)
|cont j k=>exactλc g b i=>p c g b (WN s i)
|ret w k=>
  refineλc v b e l r f=>p c v b ((JC s).trans s.hr e) l r ?_;cases w with
  |v d=>trivial
  |own q=>obtain⟨a,n,m⟩:=f;exact⟨a,n,(JC s).none s.hr m⟩
  |bor q=>exact f
|exc d k=>exactλc b e l=>p c b ((JC s).trans s.hr e) l
|fail=>exact p
end
section
variable{Y:Ge}{F:M.Fx}{X:Cx}{E:XK}{k:Nat}{cf:Cf}
def CL.hide (s:ar Y G τ h U H)(c:CL Y ds l vs G H)(b:¬∃i xs,M.Gm τ i=y0 (.own xs)/\U[i]?=y0 (y0 (.ref l))):CL Y ds l vs G (ql τ U H):=by
 obtain⟨a,e⟩:=c;refine⟨?_,e.mon (wt s)⟩;obtain⟨a,d⟩|a:=a
 .refine .inl ⟨?_,d⟩;obtain a|⟨o,a⟩:=a
  .exact .inl (by rw[jj b];exact a)
  .exact .inr ⟨o,by rw[jj b];exact a⟩
 .exact .inr a
def CL.iS (s:ar Y G τ h U H)(a:kv Y G H l vs)(b:aa Y G H ds vs):CL Y ds l vs G (ql τ U H):=by
 refine⟨?_,b.mon (wt s)⟩;obtain a|a:=a
 .exact(CL.hide s ⟨.inl ⟨a.2,s.heap.off a.1⟩,b⟩ (by rintro⟨j,e,c,d⟩;exact(Ws s c d).1 a.1)).1
 .exact .inr a
def CT.hide (s:ar Y G τ h U H)(c:CT Y ds l vs G H):CT Y ds l vs G (ql τ U H):=⟨c.1.mon (wt s),c.2.mon (wt s)⟩
def JW(h:M.GI a=y0 i):a=.var i:=by
 cases a<;>first|(cases h;rfl)|cases h
def Em(h:Xb cf (.var i) e=k9):∃x p,e=.Name x p/\cf.N[i]?=y0 x/\JY cf.sc x=k9/\bz x=true:=by exact xu (λx p h=>⟨_,_,rfl,iF h⟩) e h
def u6(b:Go Y F X E k cf)(h:Xb cf (.var i) e=k9):PE X e (nB i):=by obtain⟨x,p,rfl,c,d,a⟩:=Em h;unfold bz at a;rw[Aa0]at a;exact Xy (by rw[b.N];exact c) (b.gO x d) (by simpa using a.1) (by simpa using a.2)
def Mu(s:ar Y G τ h U H)(e:M.Gm τ i=y0 w)(m:w=.v (.lst xs)\/w=.bor xs):
 ∃l vs,U[i]?=y0 (y0 (.ref l))/\CL Y xs l vs G H/\CL Y xs l vs G (ql τ U H):=by
 obtain⟨v,e2,r⟩:=s.slot i w e;obtain rfl|rfl:=m
 .obtain⟨l,vs,rfl,a,b⟩:=r;exact⟨l,vs,e2,⟨a.pM s.heap,b⟩,CL.iS s a b⟩
 .obtain⟨l,vs,rfl,a,b,k⟩:=r;have c:CL Y xs l vs G H:=⟨.inl ⟨b,a⟩,k⟩;refine⟨l,vs,e2,c,c.hide s λ⟨j,n,d,g⟩=>?_⟩;have f:j≠i:=λz=>by rw[z,e]at d;cases d
  exact s.apart j i n _ l f d e rfl g e2
def XQ(n:ar Y G0 τ h0 U H0)(s:ar Y G τ h U H)(r:aj Y G H w v)(f:aG τ U H0 w v)(m:w=.v (.lst xs)\/w=.own xs):
 ∃l vs,v=.ref l/\CL Y xs l vs G H/\CL Y xs l vs G (ql τ U H):=by
 obtain rfl|rfl:=m
 .obtain⟨l,vs,rfl,b,a⟩:=r;exact⟨l,vs,rfl,⟨b.pM s.heap,a⟩,CL.iS s b a⟩
 .obtain⟨l,vs,rfl,b,a,k,d⟩:=r;obtain⟨t,i,e⟩:=f;cases i;have c:CL Y xs l vs G H:=⟨.inl ⟨.inl k,a⟩,d⟩;refine⟨l,vs,rfl,c,c.hide s λ⟨j,q,p,g⟩=>?_⟩;obtain⟨o,z⟩:=n.cS p rfl g;rw[e]at z;cases z
def Dr(m:Go Y F X E k cf){a:M.E}{e P:Expr}(N:Xb cf a e=k9):PI X P e (g7 Y E k9 (M.Gs F (.seq a))):=by
 cases q:M.GI a with
|some i=>
  cases JW q;refine PI.imp (w5 (u6 m N)) λU H R D=>?_;obtain⟨G,o,h,s,p⟩:=D;have p:ao Y E G H (M.R.of h ((M.Gm o i).bind M.lI)) λt _ g f=>∀J C,zI Y J t C->C g f->(k9=k9->C g (ql o U f))->R J f:=p;cases y:M.Gm o i with
  |none=>rw[y]at p;exact p.elim
  |some w=>
   rw[y]at p;have lst:∀{b:List M.D},(w=.v (.lst b)\/w=.bor b)->ao Y E G H (.ok b h) (λt _ g f=>∀J C,zI Y J t C->C g f->(k9=k9->C g (ql o U f))->R J f)→
    ∃v,U[i]?=y0 (y0 v)/\((∃a,v=.ref a/\(∃b,br X.K H a b)/\R (lM X.K a) H)\/∃a,v=.ref a/\(∃b,cz X.K H a b)/\R (lA X.K a) H):=λ{b} I p=>by
    obtain⟨l,n,e2,x,A⟩:=Mu s y I;exact⟨_,e2,.inl ⟨l,rfl,⟨n,m.K▸x.1.sq⟩,p G H Ext.refl s.heap _ _ (CL.walk m.K) x λ_=>A⟩⟩
   cases w with
  |v d=>
    cases d with
    |lst b=>exact lst (.inl rfl) p
    |tup b=>obtain⟨v,e2,l,n,rfl,u,K⟩:=s.slot i _ y;have c:CT Y b l n G H:=⟨u,K⟩;exact⟨_,e2,.inr ⟨l,rfl,⟨n,m.K▸u.sq⟩,p G H Ext.refl s.heap _ _ (CT.walk m.K) c λ_=>c.hide s⟩⟩
    |ak=>exact p.elim
    |bl _=>exact p.elim
    |int _=>exact p.elim
    |str _=>exact p.elim
    |ref _=>exact p.elim
    |exc _ _=>exact p.elim
    |err _ _ _=>exact p.elim
  |bor b=>exact lst (.inr rfl) p
  |own b=>exact p.elim
|none=>
  refine PI.imp (w5 (qc a m N).1) λU H R D=>?_;obtain⟨G,o,h,s,p⟩:=D;have p:ao Y E G H ((M.eval F a o h).bind λw h=>M.R.of h (M.lZ w)) λt _ g f=>∀J C,zI Y J t C->C g f->(k9=k9->C g (ql o U f))->R J f:=by unfold M.Gs at p;dsimp only at p;rw[q]at p;exact p
  refine Wa s.heap Ext.refl s p λB v1 Q L r e1 T z O S j=>?_;have lst:∀{b:List M.D},(B=.v (.lst b)\/B=.own b)->ao Y E G H (.ok b Q) (λt _ g f=>∀J C,zI Y J t C->C g f->(k9=k9->C g (ql o U f))->R J f)→
   ((∃a,v1=.ref a/\(∃b,br X.K r a b)/\R (lM X.K a) r)\/∃a,v1=.ref a/\(∃b,cz X.K r a b)/\R (lA X.K a) r):=λ{b} I p=>by
   obtain⟨l,n,e2,x,A⟩:=XQ s z O S I;exact .inl ⟨l,e2,⟨n,m.K▸x.1.sq⟩,p L r e1 z.heap _ _ (CL.walk m.K) x λ_=>A⟩
  cases B with
|v d=>
   cases d with
   |lst b=>exact lst (.inl rfl) j
   |tup b=>obtain⟨l,n,rfl,u,K⟩:=O;have c:CT Y b l n L r:=⟨u,K⟩;exact .inr ⟨l,rfl,⟨n,m.K▸u.sq⟩,j L r e1 z.heap _ _ (CT.walk m.K) c λ_=>c.hide z⟩
   |ak=>exact j.elim
   |bl _=>exact j.elim
   |int _=>exact j.elim
   |str _=>exact j.elim
   |ref _=>exact j.elim
   |exc _ _=>exact j.elim
   |err _ _ _=>exact j.elim
|own b=>exact lst (.inr rfl) j
|bor b=>exact j.elim
theorem QA:∀(ds)(i),(M.Kk i ds).length=ds.length
|[],_=>rfl
|d::ds,i=>congrArg (·+1) (QA ds (i+1))
theorem sI:∀(ds)(j i)(h:i<ds.length),(M.Kk j ds)[i]?=y0 (.tup [.int ((j+i:Nat):Int),ds[i]])
|d::ds,j,0,_=>rfl
|d::ds,j,i+1,h=>by have:=sI ds (j+1) i (by simpa using h);rw[show j+1+i=j+(i+1)by omega]at this;simpa[M.Kk]using this
def Eh:"enumerate"∈b5:=by decide
def CL.lY {l:Addr}{vs:List V}{K:Aa6}(f:K=Y.K):zI Y (pb K l) (M.Kk 0 ds) (CL Y ds l vs) where
 go:=by rintro i G H ⟨c,d⟩ b;rw[QA]at b;obtain⟨v,e,_⟩:=d.get (Ab0 b);exact⟨vs,v,f▸c.sq,e⟩
 f6:=by rintro i G H x k ⟨c,d⟩ b ⟨p,y,g,ex,n,m⟩;rw[QA]at b;subst ex n;obtain⟨v,e,rd⟩:=d.get (Ab0 b);have:=m vs (f▸c.sq);rw[e]at this;cases this;refine⟨G.more p,qh _ g,λh j=>j.gd _ g,.tup [.int i,ds[i]],by rw[sI ds 0 i b,Ap3],⟨p,[.int i,y],rfl,.inl ⟨.inr rfl,zb⟩,⟨.int i,[y],rfl,rfl,⟨y,[],rfl,?_,rfl⟩⟩⟩⟩;have s:Mon G H (G.more p) (aJ H p (.tup [.int i,y])):=⟨λa o w q=>by rw[ja (Xa q g)];exact q,Aa9 _,λ_ _=>rfl,λ_ z=>Or.inl z⟩;exact rd.mon s
 stop:=by rintro i G H ⟨c,d⟩ r t;rw[QA]at r t;exact⟨vs,f▸c.sq,by rw[←d.length];omega⟩
 keep:=λG H u k h z e j=>z.keep e j
def Cs(b:Go Y F X E k cf)(t:bS cf.sc "enumerate" g=true)(f:Ja x=true)(n:Xb cf a x=true):PI X (.Tuple elts x1 tp) (.Call g [x] [] pos) (g7 Y E true (M.Gs F (.cx a))):=by
 obtain⟨C,rfl,B,D⟩:=wb t;refine PI.imp (CH (b.gl _ B) (b.blt _ Eh) (jd (qc a b n).1 Jj (Qa f)) (Qa f)) λU H R u=>?_;obtain⟨G,J,h,s,p⟩:=u;refine Wa s.heap Ext.refl s p λd v1 I y r e1 A j w z c=>?_;obtain⟨e,q,c⟩:=c.of;have v:d=.v (.lst e)\/d=.own e:=by
  unfold M.um at q;split at q
  .cases q;exact .inl rfl
  .cases q;exact .inr rfl
  .cases q
 obtain⟨l,m,e2,i,o⟩:=XQ s j w z v;subst e2;exact⟨l,m,rfl,b.K▸i.1.sq,c y r e1 j.heap _ _ (CL.lY b.K) i λ_=>o⟩
def M5(b:Go Y F X E k cf)(j:oG it tg=k9)(h:ou cf it e=k9):PI X tg e (g7 Y E k9 (M.Gs F it))/\wg e=true:=by
 cases it with
|seq a=>exact⟨Dr b (a2 h).2,(a2 h).1⟩
|aC a=>refine Jh (λg x l p h=>?_) e h;refine kE (λh=>?_) l h;refine kC (λx r h=>?_) x h;refine kE (λh=>?_) r h;obtain⟨c,f,d⟩:=a3 h;exact⟨QD b c f (qc a b d).1,rfl⟩
|cx a=>
  cases tg with
  |Tuple i n m=>refine Jh (λg x l p h=>?_) e h;refine kE (λh=>?_) l h;refine kC (λx r h=>?_) x h;refine kE (λh=>?_) r h;obtain⟨c,f,d⟩:=a3 h;exact⟨Cs b c f d,rfl⟩
  |_=>exact bx j
|enum _=>exact bx h
end
section
variable{Y:Ge}{G G0:Gh}{H H0:Hp}{h:M.AH}
def Gh.cut (G:Gh)(n:Nat):Gh:={G with n:=n}
mutual
theorem aD.cut (n:Nat):∀{d:M.D}{v:V},M.Gc d=k9->aD Y G H d v->aD Y (G.cut n) H d v
|.ak,_,_,z=>z
|.bl _,_,_,z=>z
|.int _,_,_,z=>z
|.str _,_,_,z=>z
|.tup _,_,q,z7=>by obtain⟨a,vs,z1,z2,z3⟩:=z7;exact⟨a,vs,z1,z2,aa.eI n (by simpa[M.Gc]using q) z3⟩
|.lst _,_,q,z7=>by obtain⟨a,vs,z1,z2,z3⟩:=z7;exact⟨a,vs,z1,z2,aa.eI n (by simpa[M.Gc]using q) z3⟩
|.ref r,_,q,_=>by simp[M.Gc]at q
|.exc c fs,_,q,z=>by simp[M.Gc]at q
|.err c f d,_,q,z=>by simp[M.Gc]at q
theorem aa.eI (n:Nat):∀{ds:List M.D}{vs:List V},M.Gf ds=k9->aa Y G H ds vs->aa Y (G.cut n) H ds vs
|[],_,_,z=>z
|d::ds,_,q,z7=>by
  obtain⟨v,r,z1,z2,z3⟩:=z7;have q':M.Gc d=k9/\M.Gf ds=true:=by simpa[M.Gf]using q
  exact⟨v,r,z1,aD.cut n q'.1 z2,aa.eI n q'.2 z3⟩
end
theorem ah.cut (r:ah Y G h H)(f:n<=G.n)(q:M.Gu (h.take n)=k9):ah Y (G.cut n) (h.take n) H where
 len:=by rw[Ad8,r.len];exact Aj5 f
 any:=λi c e=>by
  have s:i<n:=by have:=(Aa8.mp e).1;rw[Ad8]at this;omega
  have m:=Ak9.mp q c (Ac7 e);rw[Am1 s]at e;obtain⟨o,g⟩:=r.any i c e;refine⟨o,?_⟩;cases c with
|lst w=>obtain⟨b,l,d,a⟩:=g;exact⟨b,l,d,aa.eI n b a⟩
|cZ v=>obtain⟨b,k,d,a⟩:=g;exact⟨b,k,d,aa.eI n b a⟩
|obj c fs=>obtain⟨t,k,d,a⟩:=g;exact⟨t,k,d,aa.eI n m a⟩
 inj:=λi j p u e=>r.inj i j (Ab3 p f) (Ab3 u f) e
 live:=r.live
theorem Ext.cut (e:Ext G0 H0 G H):Ext G0 H0 (G.cut G0.n) H:=⟨e.keep,Aa9 _,e.aP,λr a b=>absurd a (An5.mpr b),e.fz,e.old,e.cells⟩
theorem aj.cut (n)(h:n<=G.n)(q:w.keep=k9)(k:∀xs,w≠.bor xs)(z:aj Y G H w v):aj Y (G.cut n) H w v:=by
 cases w with
|v d=>exact aD.cut n q z
|own xs=>obtain⟨a,b,c,i,j,e,f⟩:=z;exact⟨a,b,c,i,λr g=>j r (Ab3 g h),e,aa.eI n q f⟩
|bor xs=>exact absurd rfl (k xs)
end
section
variable{Y:Ge}{F:M.Fx}{X:Cx}{E:XK}{k:Nat}{cf:Cf}
def Iz(d:Go Y F X E k cf)(a:xw v=k9)(h:Xb cf m v=k9):PS X (.Expr v pos) (b8 Y E (M.exec F (.ex m))):=by refine PS.imp (jQ (qc m d h).1 (zf a)) λD U H c=>?_;obtain⟨B,G,l,h,s,p⟩:=c;exact Xd s p λw v i e b e1 g j n f=>f e U b g
def HC(s:bg Y B G τ h U H)(f:aG τ U H w v)(e:∀xs,w≠.bor xs):aG [] [] B.H w v:=by
 cases w with
|v d=>trivial
|own xs=>obtain⟨a,b,c⟩:=f;exact⟨a,b,s.ext.none s.hr c⟩
|bor xs=>exact absurd rfl (e xs)
def EJ(n:Go Y F X E k cf)(h:Xb cf m v=k9):PS X (.Return (y0 v) pos) (b8 Y E (M.exec F (.ret m))):=by
 cases q:M.GI m with
|some i=>
  cases JW q;refine PS.imp (uE (u6 n h)) λD U H f=>?_;obtain⟨B,G,g,h,s,p⟩:=f;rw[M.exec,q]at p;dsimp only at p;cases c:M.Gm g i with
  |none=>rw[c]at p;exact p.elim
  |some w=>
   rw[c]at p;obtain⟨v,e2,r⟩:=s.st.slot i w c;refine⟨v,e2,?_⟩;cases w with
  |bor b=>exact p.elim
  |v d=>exact p G v H s.ext s.st.heap r trivial
  |own b=>have u:=r;obtain⟨a,y,rfl,_⟩:=u;exact p G _ H s.ext s.st.heap r ⟨a,rfl,s.own i b a c e2⟩
|none=>
  refine PS.imp (uE (qc m n h).1) λD U H f=>?_;obtain⟨B,G,g,h,s,p⟩:=f;have p:aX Y E B ((M.eval F m g h).cM λw h=>match w with
|.bor _=>.fail
|w=>.ret w h) D:=by
   rw[M.exec,q]at p;exact p
  refine Xd s p λw v A t l e1 e o x j=>?_;cases w with
|bor b=>exact j.elim
|v d=>exact j t v l e.ext e.st.heap o trivial
|own b=>exact j t v l e.ext e.st.heap o (HC s x λb z=>by cases z)
def CD(j:PT X x (cY Y E (M.Gp F c)))(m:c9 X ys (b8 Y E (M.execs F a)))(l:c9 X zs (b8 Y E (M.execs F b))):PS X (.If x ys zs pos) (b8 Y E (M.exec F (.iff c a b))):=by
 refine PS.imp (Ea j m l) λD U H k=>?_;obtain⟨B,G,e,h,s,p⟩:=k;refine z9 s p λt d f n e1 i g=>?_;cases t with
|true=>exact nR ⟨B,f,e,d,i,g⟩
|false=>exact nI ⟨B,f,e,d,i,g⟩
def A3{st:Stmt}(h1:PS X st (b8 Y E (M.exec F s)))(j:c9 X sts (b8 Y E (M.execs F ss))):c9 X (st::sts) (b8 Y E (M.execs F (.cons s ss))):=by
 refine c9.imp (Nc h1 j) λD U H g=>?_;obtain⟨B,G,c,h,i,p⟩:=g;rw[M.execs]at p;refine⟨B,G,c,h,i,?_⟩;cases q:M.exec F s c h with
|next a b=>rw[q]at p;exactλe l k f=>⟨B,e,a,b,f,p⟩
|ret w b=>rw[q]at p;exact p
|brk a b=>rw[q]at p;exact p
|cont a b=>rw[q]at p;exact p
|exc d b=>rw[q]at p;exact p
|fail=>rw[q]at p;exact p
def Dt:c9 X [] (b8 Y E (M.execs F .nil)):=c9.imp M1 (by rintro D U H⟨B,G,a,h,s,p⟩;exact p G U H s)
def Fp(K:fK Y F X E k cf)(C:PT X x (cY Y E (M.Gp F c)))(L:c9 X ys (b8 Y E (M.execs F b))):PS X (.While x ys [] pos) (b8 Y E (M.exec F (.la n c b))):=by
 refine PS.imp (Nw K.g9 C L) λD U H J=>?_;obtain⟨B,G,a,h,s,p⟩:=J;refine⟨λm U H=>∃G a h,bg Y B G a h U H/\aX Y E B (M.GN (λa h=>M.Gp F c a h) (λa h=>M.execs F b a h) m a h) D,⟨n,G,a,h,s,p⟩,?_⟩;rintro m U H ⟨G,a,h,s,p⟩;cases m with
|zero=>exact p.elim
|succ m=>
  refine z9 s p λt u z I e1 A e=>?_;cases t with
|false=>exact nI (e z U I A)
|true=>
   refine nR ⟨_,λy v w=>⟨m,Ae9 _,w⟩,B,z,a,u,A,?_⟩;have e:aX Y E B (match M.execs F b a u with
|.next f j=>M.GN (λa h=>M.Gp F c a h) (λa h=>M.execs F b a h) m f j
|.cont f j=>M.GN (λa h=>M.Gp F c a h) (λa h=>M.execs F b a h) m f j
|.brk f j=>.next f j
|o=>o) D:=e
   cases q:M.execs F b a u with
|next g i=>rw[q]at e;exactλl y v r=>⟨l,g,i,r,e⟩
|cont g i=>rw[q]at e;exactλl y v r=>⟨l,g,i,r,e⟩
|ret w i=>rw[q]at e;exact e
|brk g i=>rw[q]at e;exact e
|exc d i=>rw[q]at e;exact e
|fail=>rw[q]at e;exact e
def Lo(K:fK Y F X E k cf)(he:(cf.cb&&oG it t)=k9)(ht:Qe cf tg one t=k9)(hi:ou cf it iter=k9)(hb:c9 X ys (b8 Y E (M.execs F b))):
 PS X (.For t iter ys [] pos) (b8 Y E (M.exec F (.for tg one it b))):=by
 obtain⟨li,ls⟩:=M5 K.toGo (a2 he).2 hi;refine PS.imp (Ft K.g9 (K.calm (a2 he).1) li (Qu K.toGo ht) hb (J3 ls)) λD U H qq=>?_;obtain⟨B,G,g,h,s,p⟩:=qq;rw[M.exec]at p;refine⟨G,g,h,s.st,?_⟩;cases q:M.Gs F it g h with
|exc d A=>rw[q]at p;exact aX.exc s p
|fail=>rw[q]at p;exact p
|ok j A=>
  rw[q]at p;intro L P e hr J C I c0 Q;have s1:=s.on e hr;have p1:=Md s1 p;have cB:=Q rfl;have s2:=Mp s1;refine⟨λi m N v=>∃y n z,(m=j.length-i/\i<=j.length)/\bg Y (lN L g A U P) y n z N v/\aX Y E (lN L g A U P) (M.Gr (M.Gq tg one) (λg h=>M.execs F b g h) (j.drop i) n z) D,
   ⟨j.length,L,g,A,⟨by simp,Af _⟩,s2,p1⟩,?_⟩
  rintro i m N v ⟨y,n,z,⟨rfl,hi'⟩,u,c⟩;have c':=I.keep _ _ _ _ _ cB u.ext u.hr;by_cases l:i<j.length
  .refine .inr ⟨I.go i y v c' l,_,λU2 H2 w=>⟨j.length-(i+1),by omega,w⟩,λx V hy=>?_⟩;obtain⟨G4,x4,T,d,ed,S⟩:=I.f6 i y v x V c' l hy;have u:=u.on x4 (T _ u.st.heap);have Z:j.drop i=d::j.drop (i+1):=by rw[List.drop_eq_getElem_cons l];rw[Ab0 l]at ed;cases ed;rfl
   rw[Z,M.Gr]at c;cases R:M.Gq tg one d n with
|none=>rw[R]at c;exact c.elim
|some r=>
    rw[R]at c;refine ym R S u λU2 s3=>⟨_,G4,r,z,s3,?_⟩;have c:aX Y E (lN L g A U P) (match M.execs F b r z with
|.next a f=>M.Gr (M.Gq tg one) (λg h=>M.execs F b g h) (j.drop (i+1)) a f
|.cont a f=>M.Gr (M.Gq tg one) (λg h=>M.execs F b g h) (j.drop (i+1)) a f
|.brk a f=>.next a f
|o=>o) D:=c
    cases q:M.execs F b r z with
|next a f=>rw[q]at c;exactλO U3 H3 W=>⟨O,a,f,⟨rfl,by omega⟩,W,c⟩
|cont a f=>rw[q]at c;exactλO U3 H3 W=>⟨O,a,f,⟨rfl,by omega⟩,W,c⟩
|ret w f=>rw[q]at c;exact c
|brk a f=>rw[q]at c;exact c
|exc d f=>rw[q]at c;exact c
|fail=>rw[q]at c;exact c
  .have ei:i=j.length:=by omega
   subst ei;rw[List.drop_length]at c;exact .inl ⟨I.stop _ y v c' (Aa9 _) (Aa9 _),c y N v u⟩
theorem jL:∀{es}{xs}{τ}{h}{ds}{h'},bj cf es xs=k9->M.Gd F es τ h=.ok ds h'->ds.length=xs.length
|.nil,xs,_,_,_,_,c,e=>by cases Af7.mp c;rw[M.Gd]at e;cases e;rfl
|.cons a es,xs,τ,h,ds,h',c,e=>by refine kC (λx r c=>?_) xs c;obtain⟨w,d,e1,e⟩:=Wd e;obtain⟨r,f,b,e⟩:=Wd e;cases e;rw[Aa7,Aa7,jL (a2 c).2 b]
theorem XJ:∀(τ)(i j),M.Gm (τ.set i u0) j=if j=i then u0 else M.Gm τ j
|[],i,j=>by simp
|x::r,0,0=>by simp
|x::r,0,j+1=>by simp
|x::r,i+1,0=>by simp
|x::r,i+1,j+1=>by simpa using XJ r i j
def bg.clear (s:bg Y B G τ h U H):bg Y B G (τ.set i u0) h (U.set i u0) H:=by
 have ne:∀{j w},M.Gm _ j=y0 w->j≠i/\M.Gm τ j=y0 w:=λ{j w} e=>by
  rw[XJ]at e;split at e
  .cases e
  .rename_i b;exact⟨b,e⟩
 have c:∀{j},j≠i->(U.set i u0)[j]?=U[j]?:=λ{j} b=>Ad2 (Ne.symm b);refine⟨⟨by rw[Ae6,Ae6];exact s.st.len,λj w e=>?_,λp q f w a d e1 e2 m g=>?_,s.st.heap⟩,s.ext,s.hr,λj f a e1 e2=>?_⟩
 .obtain⟨b,e⟩:=ne e;obtain⟨v,l,k⟩:=s.st.slot j w e;exact⟨v,by rw[c b];exact l,k⟩
 .obtain⟨n,e1⟩:=ne e1;obtain⟨o,e2⟩:=ne e2;rw[c n]at g;rw[c o];exact s.st.apart p q f w a d e1 e2 m g
 .obtain⟨b,e1⟩:=ne e1;rw[c b]at e2;exact s.own j f a e1 e2
def Hy(i:fK Y F X E k cf){c:String}{es:M.Es}{g x:Expr}{xs:List Expr}{a pos:Pos}(o:bS cf.sc c g=k9)(f:(cf.cb&&cf.gE.contains c)=k9)(u:(x::xs).length<=1000)(b:bj cf es (x::xs)=k9):
 PS X (.Raise (y0 (.Call g (x::xs) [] a)) u0 pos) (b8 Y E (M.exec F (.raise c es))):=by
 obtain⟨I,rfl,A,l⟩:=wb o;obtain⟨m,z⟩:=i.gE c (a2 f).1 (a2 f).2 A l;refine PS.imp (z _ _ _ _ _ _ (c5 es i.toGo b) (Jc b)) λD U H t=>?_;obtain⟨B,G,j,h,s,p⟩:=t;rw[M.exec]at p;refine⟨G,j,h,s.st,?_⟩;cases q:M.Gd F es j h with
|exc d v=>rw[q]at p;exact aX.exc s p
|fail=>rw[q]at p;exact p
|ok J v=>rw[q]at p;intro w n e y C r;refine⟨?_,(p w n (s.ext.trans s.hr e) y).1 c rfl m⟩;rw[←r.length,jL b q];exact Af9 (wj u)
def M0(m:fK Y F X E k cf){c f:String}{e:M.E}{g x:Expr}{b pos:Pos}(y:bS cf.sc c g=k9)(j:(cf.cb&&cf.ob.er.contains (c,f))=k9)(l:bj cf (.cons e .nil) [x]=k9):
 PS X (.Raise (y0 (.Call g [x] [] b)) u0 pos) (b8 Y E (M.exec F (.dr c f e))):=by
 obtain⟨N,rfl,K,u⟩:=wb y;obtain⟨w,A,J⟩:=m.mm c f (a2 j).1 (a2 j).2 K u;refine PS.imp (J _ _ _ _ _ (hX _ m.toGo l) (Jc l _ Aa4)) λD U H z=>?_;obtain⟨B,G,o,h,s,p⟩:=z;rw[M.exec]at p;refine⟨G,o,h,s.st,?_⟩;cases q:M.Gx F (.cons e .nil) o h with
|exc d C=>rw[q]at p;exact aX.exc s p
|fail=>rw[q]at p;exact p
|ok i C=>
  rw[q]at p;intro I O e1 t L r;cases i with
|nil=>exact p.elim
|cons d i=>
   cases i with
|cons _ _=>exact p.elim
|nil=>obtain⟨v,P,rfl,rd,rfl⟩:=r;refine⟨v,rfl,λn a=>?_⟩;exact(p (I.more n) _ ((s.ext.trans s.hr e1).trans s.hr (qh (.xd [(Zc f,v)]) a)) (t.gd _ a)).2 c f d rfl w A n v (.inr rfl) zb (rd.ext (qh _ a) t)
def MZ(a:fc Y c)(d:w∈Y.own)(b:(M.GO Y.cl 8 c).contains w=k9):PySem.W.kitCls Y.K (.ref (Y.ca c)) (.ref (Y.ca w))=y0 true:=by
 have h:=a.own w d;rw[b]at h;unfold Am9 at h;split at h
 .rename_i e;have e:=by simpa using e
  rw[←e];exact a.k.slf
 .exact h
theorem Go.d5 (a:Go Y F X E k cf):Go Y F X.d5 E0 k cf:=⟨a.N,a.K,a.cl,a.ow,a.nd,a.gO,a.kH,a.gU,a.kB,a.gl,a.calm,a.room,a.cg,λn U H s e u _ p=>by
 obtain⟨x,q,t,B,r,_,_,_,_,_,_,_,_,_,_,o⟩:=p;exact o.elim,a.blt,a.con,λf c=>by
 obtain⟨b,l,i,g,m,d,j⟩:=(a.fn f c).imp λb h=>h.ex;exact⟨b,⟨l,i,g,m,d,j⟩⟩,λf c=>by
 obtain⟨b,l,i,g,m,d,j⟩:=(a.kW f c).imp λb h=>h.ex;exact⟨b,⟨l,i,g,m,d,j⟩⟩,a.cls,a.fld,a.iE,a.eD⟩
theorem PS.d5 {st:Stmt}(h:PS X.d5 st t):PS X st t:=λa s U H D I q=>wpAny_mono (h a s U H D (I.dD _) q) (λ_ _ z=>SP.ck z) λ_ _ z=>False.elim z
def Ig(h:yM cf f s q=k9):∃g x xs L j,s=.Expr (.Call g (x::xs) [] L) j/\bS cf.sc f g=k9/\cf.fns.contains f=k9/\q (x::xs)=true:=by refine l7 (λe p h=>?_) s h;refine Jh (λg xs l p h=>?_) e h;refine kE (λh=>?_) l h;refine kC (λx r h=>?_) xs h;exact⟨_,_,_,_,_,rfl,a3 h⟩
def ML(h:rp cf i f ys q=k9):∃a g x xs j L M,ys=[.Assign [.Name a j] (.Call g (x::xs) [] L) M]/\ZR cf i a=k9/\bS cf.sc f g=k9/\cf.fns.contains f=k9/\q (x::xs)=true:=by refine kC (λs r h=>?_) ys h;refine kE (λh=>?_) r h;refine hG (λb e p h=>?_) s h;refine kC (λt r h=>?_) b h;refine kE (λh=>?_) r h;refine xu (λa p h=>?_) t h;refine Jh (λg xs l p h=>?_) e h;refine kE (λh=>?_) l h;refine kC (λx r h=>?_) xs h;exact⟨_,_,_,_,_,_,_,rfl,a4 h⟩
theorem fK.hY (a:fK Y F X E k cf)(v:2<=k)(x:Addr):fK Y F (X.d5.hY x) E0 2 {cf with toCg:=cf.toCg.q} where
 N:=a.N
 K:=a.K
 cl:=a.cl
 ow:=a.ow
 nd:=a.nd
 gO:=a.gO
 kH:=a.kH
 gU:=a.gU
 kB:=a.kB
 gl:=a.gl
 calm:=λz=>nomatch z
 room:=⟨λq=>absurd q (by decide),by have:=a.cg.dp;show X.A.depth+2+5<_;omega,by have:=a.cg.un;show X.A.units+16*2+200<_;omega⟩
 cg:=⟨λq=>absurd q (by decide),by have:=a.cg.dp;show X.A.depth+3+5<_;omega,by have:=a.cg.un;show X.A.units+16*3+200<_;omega⟩
 pass:=λd U H s e A _ p=>by obtain⟨x,w,t,B,y,_,_,_,_,_,_,_,_,_,_,j⟩:=p;exact j.elim
 blt:=a.blt
 con:=a.con
 fn:=λf b=>by obtain⟨g,r,n,l,u,i,o⟩:=(a.kW f b).imp λg h=>h.ex;exact⟨g,⟨r,n,l,u,i,o⟩⟩
 kW:=λf b=>bx b
 cls:=a.cls
 fld:=a.fld
 iE:=λc m q h=>bx h
 eD:=λc q h=>bx h
 g9:=PassesOwn.never
 gR:=a.gR
 nS:=a.nS
 ex:=a.ex
 gE:=λc z=>nomatch z
 mm:=λc f z=>nomatch z
 fR:=λc z=>bx z
def F3(G:fK Y F X E k cf){B:Bs}{x r:Gh}{τ:M.Sl}{h1 s:M.AH}{U:St}{A f:Hp}{D:fU}{d:M.D}{c:String}{nm:Nat}{I:M.Ss}(ho:cf.own.contains c=k9)(W:bg Y B x τ h1 U A)(H:Ext x A r f)(m:ah Y r s f)
 (p:aX Y E B (M.KG F.cl c nm (λτ h=>M.execs F I τ h) τ d (M.Km d h1.length s)) D):oF Y (ki X.d5.K (Y.ca c) nm (b8 Y E0 (M.execs F I)) D U) d r f:=by
 unfold M.KG at p;have o:∀(b:String)(t:Option Addr),M.bE F.cl (.v d) [c]=y0 ([c].any (M.GO F.cl 8 b).contains)->fc Y b->(∃g,Ext x A g f/\ah Y g (M.Km d h1.length s) f/\∀y,f y=u0->aD Y (g.more y) (aJ f y (gA y (Y.ca b) t)) d (.ref y))→
  ki X.d5.K (Y.ca c) nm (b8 Y E0 (M.execs F I)) D U (.ref (Y.ca b)) t f:=λb t ix j ⟨g,w,e,K⟩=>by
  rw[ix]at p;cases N:[c].any (M.GO F.cl 8 b).contains with
|false=>rw[N]at p;exact p.elim
|true=>
   rw[N]at p;have hk:(M.GO Y.cl 8 b).contains c=true:=by rw[←G.cl];simpa using N
   refine⟨_,rfl,G.K▸j.k,G.K▸MZ j (by rw[←G.ow];exact Ak7.mp ho) hk,λy l=>?_⟩;have s2:=(W.on w e).on (qh (gA y (Y.ca b) t) l) (e.gd (gA y (Y.ca b) t) l);refine⟨B,_,_,_,s2.dX (i:=nm) (K y l),?_⟩;dsimp only at p;cases q:M.execs F I (M.GC τ nm (.v d)) (M.Km d h1.length s)with
|next τ' h'=>rw[q]at p;exactλG' U' Z s'=>p G' _ Z s'.clear
|_=>rw[q]at p;exact p.elim
 have S:h1.length=x.n:=W.st.heap.len;have T:∀d,M.GV d=k9->∃g,Ext x A g f/\ah Y g (M.Km d h1.length s) f/\(∀a,r.fz a->g.fz a)/\∀{n:M.D}{v:V},M.Gc n=k9->aD Y r f n v->aD Y g f n v:=λd hd=>by
  unfold M.Km;rw[hd,Ae];cases qp:M.Gu (s.take h1.length)with
|true=>exact⟨_,S▸H.cut,m.cut (by rw[S];exact H.le) qp,λ_ h=>h,λq z=>aD.cut _ q z⟩
|false=>exact⟨r,H,m,λ_ h=>h,λ_ z=>z⟩
 refine⟨λb L j=>?_,λb O n L j Q J u P C R=>?_⟩
 .subst L;obtain⟨g,w,e,-,-⟩:=T (.exc b []) rfl;exact o b u0 rfl j ⟨_,w,e,λy l=>.inl ⟨rfl,y,rfl,.inr rfl,zb,j⟩⟩
 .subst L;cases q:M.Gc n with
|true=>obtain⟨g,w,e,fz,rc⟩:=T (.err b O n) q;exact o b (y0 J) rfl j ⟨_,w,e,λy l=>⟨y,J,u,rfl,.inr rfl,.inl (fz _ P),zb,by rw[ja (Xa C l)];exact C,j,Q,(rc q R).ext (qh _ l) e⟩⟩
|false=>exact o b (y0 J) rfl j ⟨r,H,by rw[M.Km,show M.GV (.err b O n)=y9 from q,Ae2,if_neg Ab8];exact m,λy l=>⟨y,J,u,rfl,.inr rfl,.inl P,zb,by rw[ja (Xa C l)];exact C,j,Q,R.ext (qh _ l) m⟩⟩
def tw(m:fK Y F X E k cf)(K:cf.own.contains c=k9)
 (O:∀{pins}{D}{U}{H1}{j s'}{L},Inv X.d5 pins U H1 j->zev X.prog X.w X.stack H1 j (ki X.d5.K (Y.ca c) nm (b8 Y E0 (M.execs F hb)) D U) L s'->lE X.d5 pins D hs L s')
 (P:bS cf.sc f g=k9)(I:cf.fns.contains f=k9)(n:bj cf es (x::xs)=k9):c7 X.d5 hs o (.Call g (x::xs) [] cp) (b8 Y E λτ h=>M.KA F.cl c nm (λτ h=>M.execs F hb τ h) τ (M.i8 F.call o f τ (M.Gd F es τ h))):=by
 obtain⟨p0,rfl,A,J⟩:=wb P;obtain⟨V,fa,fd,y,T,N,W⟩:=(m.fn f I).imp λV h=>h.ex;have b:=Jc n;refine c7.imp (EK (λ_ _ z=>z) O y m.room (m.gl _ A) W N T (c5 es m.toGo.d5 n) J (Qa (b _ Aa4)) (qk λe n=>b e (Aa3 _ n))) ?_;rintro D U H ⟨B,G,τ,h,s,p⟩;refine⟨G,τ,h,s.st,?_⟩;dsimp only at p;cases q:M.Gd F es τ h with
|exc d w=>rw[q]at p;exact p.elim
|fail=>rw[q]at p;exact p.elim
|ok C w=>
  rw[q]at p;intro S H1 e1 l Z R;have j:=s.on e1 l;refine⟨S,w,_,l,xp R,Jo C,?_⟩;unfold M.i8 at p;dsimp only at p;cases u:F.call f (C.map M.W.arg) w with
|fail=>rw[u]at p;exact p.elim
|ok Q A=>
   rw[u]at p;intro r t e2 a v' rv _;cases o with
   |none=>exact p r U t (j.on e2 a)
   |some i=>
    cases Q with
   |own _=>exact p.elim
   |bor _=>exact p.elim
   |v d=>exact p r _ t ((j.on e2 a).dX rv)
|exc d A=>rw[u]at p;exactλr t e2 a=>F3 m K j e2 a p
theorem p8(e:fK Y F X E k cf)(m:cf.own.contains c=k9)
 (n:∀{pins}{D}{U}{H1}{O s'}{L},Inv X.d5 pins U H1 O->zev X.prog X.w X.stack H1 O (ki X.d5.K (Y.ca c) nm (b8 Y E0 (M.execs F hb)) D U) L s'->lE X.d5 pins D hs L s'):
 ∀b {ys},mD cf b ys=k9->dA X.d5 hs ys (b8 Y E λτ h=>M.KA F.cl c nm (λτ h=>M.execs F hb τ h) τ (M.kN F b τ h))
|.ex f A,ys,h=>by refine kC (λa r h=>?_) ys h;refine kE (λh=>?_) r h;obtain⟨g,x,P,N,S,rfl,j,u,o⟩:=Ig h;exact Ht (tw e m n j u o) (zf rfl)
|.sv i f A,ys,h=>by obtain⟨a,g,x,P,V,N,T,rfl,Q,J,C,K⟩:=ML h;obtain⟨I,a2⟩:=jJ Q;exact Fe (tw e m n J C K) (by show X.N.Nodup;rw[e.N];exact e.nd) (by show X.N[i]?=_;rw[e.N];exact I) (e.kH a a2) (zf rfl)
|.iff v a b,ys,h=>by
  refine kC (λs r h=>?_) ys h;refine kE (λh=>?_) r h;refine rK (λt y z p h=>?_) s h;obtain⟨R,j,u,o⟩:=a4 h;refine dA.imp (De (λ_ _ z=>z) ((qc v e.toGo.d5 j).2 R) (p8 e m n a u) (p8 e m n b o)) ?_;rintro D U H ⟨B,G,τ,h,s,p⟩;refine⟨G,τ,h,s.st,?_⟩;dsimp only[M.kN]at p;cases q:M.Gp F v τ h with
|exc d j=>rw[q]at p;exact p.elim
|fail=>rw[q]at p;exact p.elim
|ok b j=>
   rw[q]at p;intro w H1 e1 l;cases b with
|true=>exact nR ⟨B,w,τ,j,s.on e1 l,p⟩
|false=>exact nI ⟨B,w,τ,j,s.on e1 l,p⟩
def Av(a:fK Y F X E k cf)(h1:mD cf b ys=k9)(I:yz cf c nm hs q=k9)
 (o:2<=k->∀x z,q z=k9->c9 (X.d5.hY x) z (b8 Y E0 (M.execs F hb))):PS X (.Try ys hs [] [] pos) (b8 Y E (M.exec F (.d9 b c nm hb))):=by
 refine kC (λx r h=>?_) hs I;refine kE (λh=>?_) r h;refine HA (λw n z p h=>?_) x h;refine kS (λw h=>?_) w h;refine kS (λn h=>?_) n h;obtain⟨y,g,C,f,l⟩:=a5 h;obtain⟨J,rfl,i,t⟩:=wb y;obtain⟨A,d,j⟩:=a.fR c g;obtain⟨v,m⟩:=jJ C;refine PS.d5 (PS.imp (Dq (p8 a d (Ld a.gR a.nS a.ex (a.gl _ i) (a.cls c d) A (by show X.N.Nodup;rw[a.N];exact a.nd) (by show X.N[nm]?=_;rw[a.N];exact v) (a.kH n m) t (λe=>by rw[e]at f;cases f) λx=>o j x z l) b h1)) λD U H ⟨B,G,u,h,s,p⟩=>⟨B,G,u,h,s,?_⟩);exact p
end
section
variable{Y:Ge}{F:M.Fx}{k:Nat}{X:Cx}{E:XK}{cf:Cf}
mutual
theorem Cb:∀(m:M.S)(X:Cx)(E:XK)(k:Nat)(cf:Cf)(st:Stmt),fK Y F X E k cf->vd cf m st=k9->PS X st (b8 Y E (M.exec F m))
|.set i e=>λX E κ cf st go h=>by refine hG (λts v p h=>?_) st h;refine kC (λt r h=>?_) ts h;refine xu (λx p1 h=>?_) t h;refine kE (λh=>?_) r h;exact MN go.toGo (a2 h).1 (a2 h).2
|.ag i e=>λX E κ cf st go h=>by refine hG (λts v p h=>?_) st h;refine kC (λt r h=>?_) ts h;refine xu (λx p1 h=>?_) t h;refine kE (λh=>?_) r h;exact MD go.toGo (a2 h).1 (a2 h).2
|.iP is e=>λX E κ cf st go h=>by refine hG (λts v p h=>?_) st h;refine kC (λt r h=>?_) ts h;refine mP (λx n p1 h=>?_) t h;refine kE (λh=>?_) r h;obtain⟨h1,h2,h3⟩:=a3 h;exact KO go.toGo h1 h2 h3
|.bX i c f e=>λX E κ cf st go h=>by refine hG (λts v p h=>?_) st h;refine kC (λt r h=>?_) ts h;refine wG (λx n p1 h=>?_) t h;refine xu (λx p2 h=>?_) x h;refine kE (λh=>?_) r h;obtain⟨h0,h⟩:=a2 h;obtain⟨hn,h4,h6⟩:=a3 h;obtain⟨h1,h2,h3⟩:=iF h0;cases of_decide_eq_true hn;exact ZU go.toGo h1 h2 h3 h4 h6
|.gy o kx j e=>λX E κ cf st go h=>by refine hG (λts v p h=>?_) st h;refine kC (λt r h=>?_) ts h;refine kE (λh=>?_) r h;refine mP (λts n p h=>?_) t h;refine kC (λt1 r h=>?_) ts h;refine kC (λt2 r h=>?_) r h;refine kE (λh=>?_) r h;refine lG (λx y p1 h=>?_) t1 h;refine xu (λa p2 h=>?_) t2 h;obtain⟨h1,h2,h3,h4,h5⟩:=a5 h;obtain⟨h5,h6⟩:=a2 h5;exact MH go.toGo h1 h2 h3 h4 h5 h6
|.cR o kx e=>λX E κ cf st go h=>by refine hG (λts v p h=>?_) st h;refine kC (λt r h=>?_) ts h;refine lG (λx y p1 h=>?_) t h;refine kE (λh=>?_) r h;obtain⟨h1,_,_,h4,h5,h6⟩:=a6 h;exact j4 go.toGo h1 h4 h5 h6
|.app i e=>λX E κ cf st go h=>by refine l7 (λc p h=>?_) st h;refine Jh (λf x l q h=>?_) c h;refine kE (λh=>?_) l h;refine kC (λv r h=>?_) x h;refine kE (λh=>?_) r h;obtain⟨h1,h2,h3⟩:=a3 h;exact B4 go.toGo h1 h2 h3
|.ext i e=>λX E κ cf st go h=>by refine l7 (λc p h=>?_) st h;refine Jh (λf x l q h=>?_) c h;refine kE (λh=>?_) l h;refine kC (λv r h=>?_) x h;refine kE (λh=>?_) r h;obtain⟨h1,h2,h3⟩:=a3 h;exact MC go.toGo h1 h2 h3
|.gC a e=>λX E κ cf st go h=>by
  refine l7 (λc p h=>?_) st h;refine Jh (λf x l q h=>?_) c h;refine kE (λh=>?_) l h;refine kC (λv r h=>?_) x h;refine kE (λh=>?_) r h;refine wG (λx n q h=>?_) f h;obtain⟨h0,h1,h2,h3,h4⟩:=a5 h;rw[Aa0]at h4;cases of_decide_eq_true h0;refine EL go.toGo ?_ h1 h2 h3 h4.1;cases x with
  |Name _ _=>rfl
  |Subscript _ _ _=>rfl
  |_=>cases h4.2
|.bK i c f e=>λX E κ cf st go h=>by refine hG (λts v p h=>?_) st h;refine kC (λt r h=>?_) ts h;refine wG (λx n p1 h=>?_) t h;refine xu (λx p2 h=>?_) x h;refine kE (λh=>?_) r h;obtain⟨h0,hn,h4,h6⟩:=a4 h;obtain⟨h1,h2,h3⟩:=iF h0;cases of_decide_eq_true hn;exact W2 go.toGo h1 h2 h3 h4 h6
|.gi=>λX E κ cf st go h=>(by rintro pins s U H D I⟨B,G,τ,h,s',p⟩;exact p.elim)
|.ex e=>λX E κ cf st go h=>by refine l7 (λv p h=>?_) st h;exact Iz go.toGo (a2 h).1 (a2 h).2
|.ret e=>λX E κ cf st go h=>by refine Bd (λv p h=>?_) st h;refine kS (λv h=>?_) v h;exact EJ go.toGo h
|.iff c a b=>λX E κ cf st go h=>by refine rK (λx y z p h=>?_) st h;obtain⟨h0,h1,h2,h3⟩:=a4 h;exact CD ((qc c go.toGo h1).2 h0) (dv a _ _ _ _ _ go h2) (dv b _ _ _ _ _ go h3)
|.la n c b=>λX E κ cf st go h=>by refine Fq (λx y z p h=>?_) st h;refine kE (λh=>?_) z h;obtain⟨h0,h1,h2⟩:=a3 h;exact Fp go ((qc c go.toGo h1).2 h0) (dv b _ _ _ _ _ go h2)
|.for tg one it b=>λX E κ cf st go h=>by refine Bl (λt i y z p h=>?_) st h;refine kE (λh=>?_) z h;obtain⟨h1,h2,h3,h4⟩:=a4 h;exact Lo go h1 h2 h3 (dv b _ _ _ _ _ go h4)
|.dr c f e=>λX E κ cf st go h=>by refine rH (λx y p h=>?_) st h;refine kS (λx h=>?_) x h;refine Jh (λg x l q h=>?_) x h;refine kE (λh=>?_) l h;refine kC (λx r h=>?_) x h;refine kE (λh=>?_) r h;obtain⟨h0,h1,h2,h3⟩:=a4 h;cases nn h0;exact M0 go h1 h2 h3
|.raise c es=>λX E κ cf st go h=>by refine rH (λx y p h=>?_) st h;refine kS (λx h=>?_) x h;refine Jh (λg x l q h=>?_) x h;refine kE (λh=>?_) l h;refine kC (λx r h=>?_) x h;obtain⟨h0,h1,h2,h3,h4⟩:=a5 h;cases nn h0;exact Hy go h1 h2 (of_decide_eq_true h3) h4
|.d9 b c nm hb=>λX E κ cf st go h=>by refine C1 (λy hs p h=>?_) st h;exact Av go (a2 h).1 (a2 h).2 λhk x z hz=>dv hb _ _ _ _ _ (go.hY hk x) hz
theorem dv:∀(m:M.Ss)(X:Cx)(E:XK)(k:Nat)(cf:Cf)(sts:List Stmt),fK Y F X E k cf->cK cf m sts=k9->c9 X sts (b8 Y E (M.execs F m))
|.nil=>λX E κ cf sts go h=>by cases Af7.mp h;exact Dt
|.cons s ss=>λX E κ cf sts go h=>by refine kC (λst r h=>?_) sts h;exact A3 (Cb s _ _ _ _ _ go (a2 h).1) (dv ss _ _ _ _ _ go (a2 h).2)
end
end
section
variable{P:Program}{w:World}{K:Aa6}{mg:Str->Option Value}{base:Heap}{N:List Str}{y8:Str}{scope:Scope}{f:Addr}{cd:Value}{A:Around}{outer:List Env}{s:Shared}{H:Hp}{E:XK}
def Ff:Xz (zev P w) (xQ (zev P w) P w K mg base N y8 scope f cd A outer s H E) E:=by
 intro pins U H1 s1 ev s' I hq;obtain⟨x,C,t,B,H',od,rfl,os,bare,fl,un,aL,comp,new,hd,hE⟩:=hq;have I':=W3 I os bare un aL comp fl λb o z _=>⟨o.slots,z⟩;have ff:=fl.2.2.1;refine wpAny_mono (xM (ZI _ _) (wpAny_leaves_onW (Q:=λ_ s2=>∃h2,s2={s' with heap:=h2}/\Al8 B outer x _ _ h2/\s'.heap.UpToSlots h2) (E:=λ_ _=>False) I.ok.frames rfl fl λh2 x1 x4=>⟨h2,rfl,x1,x4⟩)) (λ_ s2 z=>?_) λ_ _ z=>z.1.elim;obtain⟨⟨h2,rfl,x1,x4⟩,dk⟩:=z;have free:=I'.cH;have slotH:∀b o,b∈b4 _->s'.heap.get? b=y0 o->∃sl,h2.get? b=y0 {o with slots:=sl}:=λb o hb z=>by obtain⟨_,o',z',nf⟩:=ff.mem hb;rw[z]at z';cases z';exact x4 b o z nf
 have toH:=λb o z c n=>x1.1 b o (comp b o z c n);have cut:∀b,b∉b4 outer->b≠s.heap.objs.size->b∉b4 (envOfC y8 scope s.heap.objs.size f cd::outer):=λb n1 n2 hb=>by
  rcases Ab7.mp (hb)with z|z
  .exact n2 z
  .exact n1 z
 have old:∀b o,s.heap.get? b=y0 o->b≠s.heap.objs.size:=λb o z=>Ac2 (Ab5 z);have eg:∀b u,H' b=y0 u->b∉b4 _:=λb u z hb=>by rw[free b hb]at z;cases z
 have in1:=λb o z=>I.base.there b o z (by show b∉[];simp);refine⟨x,C,t,B,H',od,rfl,os.trans I.os,bare,x1,⟨λb o z n hb hx=>?_,λb o z n hb hx=>?_,I'.base.free,λb o z hx=>?_,I'.base.cP,I'.base.cJ,I'.base.cU⟩,λb u z=>?_,λb o z hc hb=>?_,?_,λdx z=>?_,hE⟩
 .exact toH b o (I'.base.keep b o z n hb hx) (.inr (in1 b o z)) (cut b hb (old b o z))
 .obtain⟨sl,z1⟩:=I'.base.slot b o z n hb hx;obtain⟨sl2,z2⟩:=slotH b _ (Aa3 _ hb) z1;exact⟨sl2,z2⟩
 .obtain⟨o',z1⟩:=I'.base.there b o z hx;by_cases hb:b∈b4 (envOfC y8 scope s.heap.objs.size f cd::outer)
  .obtain⟨sl,z2⟩:=slotH b o' hb z1;exact⟨_,z2⟩
  .exact⟨o',toH b o' z1 (.inr (in1 b o z)) hb⟩
 .refine(aL b u z).cD (λc v hc z1=>?_) (λ_ z1=>z1) λ_ _ z1=>z1;obtain rfl|hc:=hc
  .exact toH c v z1 (.inl ⟨u,z⟩) (eg c u z)
  .exact toH c v z1 (.inl ⟨_,hc⟩) (eg c _ hc)
 .have two:∃o2,s'.heap.get? b=y0 o2/\((∃u,H' b=y0 u)\/∃u,s1.heap.get? b=y0 u)/\b∉b4 (envOfC y8 scope s.heap.objs.size f cd::outer):=by
   obtain⟨u,hu⟩|⟨u,hu⟩:=hc
   .obtain⟨o2,z2⟩:=(aL b u hu).there;exact⟨o2,z2,.inl ⟨u,hu⟩,eg b u hu⟩
   .obtain⟨o2,z2⟩:=I'.base.there b u hu (by show b∉[];simp);exact⟨o2,z2,.inr (in1 b u hu),cut b hb (old b u hu)⟩
  obtain⟨o2,z2,c2,nb⟩:=two;have z3:=toH b o2 z2 c2 nb;rw[show h2.get? b=y0 o from z]at z3;cases z3;exact comp b _ z2 c2 nb
 .cases z:s.heap.get? x with
|none=>rfl
|some u=>obtain⟨o2,z2⟩:=in1 x u z;rw[new]at z2;cases z2
 .obtain⟨o,e1,e2⟩:=hd dx z;obtain⟨o',e3,e4⟩:=dk x o e1;exact⟨o',e3,e4.trans e2⟩
end
structure Txt(K:Aa6)(mg:Str->Option Value)(f:String) where
 st:Stmt
 fa:Addr
 fd:FuncData
 N:List Str
 ps:List Str
structure ny{K:Aa6}{mg:Str->Option Value}{f:String}(t:Txt K mg f)(d:M.Fn)(g:Cg):Prop where
 fn:∃x y8,km K x y8 t.st t.fa t.fd
 bd:Binds K t.fd t.ps []
 sc:qy t.N t.ps (Zk t.st)
 n:t.N.length=d.n
 p:t.ps.length=d.ps
 le:d.ps<=d.n
 Dk:cK ⟨g,Zk t.st,t.N⟩ d.body (ZE t.st)=k9
structure fy(Y:Ge)(p:M.Prog)(mg:Str->Option Value)(g:Cg):Prop where
 cl:p.cl=Y.cl
 ow:g.own=Y.own
 blt:∀x,x∈b5->mg (Zc x)=u0
 con:∀x d,p.con.lookup x=y0 d->∃u v,mg (Zc x)=y0 u/\RelV v u/\∀G H,aD Y G H d v
 cls:∀c,g.own.contains c=k9->mg (Zc c)=y0 (.ref (Y.ca c))
 gE:∀c,g.gE.contains c=true->fc Y c/\PySem.W.excIn Y.K (Y.ca c) zE "ValueError.__new__"=true/\mg (Zc c)=some (.ref (Y.ca c))
 mm:∀c f,g.ob.er.contains (c,f)=true->fc Y c/\mG Y.K (Y.ca c) (Zc f)/\nq Y.K (Y.ca c) (Zc f)/\mg (Zc c)=some (.ref (Y.ca c))/\∃fI fd ps,PySem.W.findIn Y.K (.ref (Y.ca c)) "__init__"=some (some (.ref fI))/\nM Y.K (Zc f) fI fd ps
 fR:∀c,g.fR.contains c=true->PySem.W.mroIn Y.K (Y.ca c) (.type "BaseException")=some true/\g.own.contains c=true
 fld:∀c f,g.ob.fl.contains (c,f)=k9->dm Y.K (Y.ca c)/\cj Y.K (Y.ca c) (Zc f)
 iE:∀c m q,g.ob.mt.contains (c,m,q)=k9->dm Y.K (Y.ca c)/\g.ob.ms.contains q=k9/\nG Y.K (Y.ca c) (Zc m) (Y.ma q)
 eD:∀c q,g.ob.eD.contains (c,q)=k9->mg (Zc c)=y0 (.ref (Y.ca c))/\g.ob.ms.contains q=k9/\Mk Y.K (Y.ca c) (Y.ma q)
section
variable{P:Program}{w:World}{Y:Ge}{mg:Str->Option Value}{base:Heap}{p:M.Prog}
theorem fy.z {g:Cg}(a:fy Y p mg g):fy Y p mg g.z:=⟨a.cl,a.ow,a.blt,a.con,a.cls,λc h=>bx h,λc f h=>bx h,λc h=>bx h,a.fld,λc m q h=>bx h,λc q h=>bx h⟩
def L7(g:ah Y G h H)(r:bc Y G H ws vs)(x:∀w∈ws,n9 w=k9)(k:N.length=n):bg Y ⟨G,H,h⟩ G (ws.map y0++Aa1 (n-ws.length) u0) h (start N vs) H:=by
 have get:∀{i}{w},M.Gm (ws.map y0++Aa1 (n-ws.length) u0) i=y0 w->ws[i]?=y0 w:=λ{i w} e=>by
  rw[xA]at e;by_cases t:i<ws.length
  .rw[Ad4 (by simp_all),Ac9]at e;cases q:ws[i]? with
|none=>rw[q]at e;cases e
|some z=>rw[q]at e;exact e
  .rw[Ad3 (by simp_all),Ah8]at e;split at e<;>cases e
 have d:∀{ws}{vs}{i:Nat}{w},bc Y G H ws vs->ws[i]?=y0 w->∃v,vs[i]?=y0 v/\aj Y G H w v:=by
  intro ws;induction ws with
|nil=>intro vs i w _ e;simp at e
|cons a r u=>
   rintro vs i w ⟨v,A,e1,p,m⟩ e;subst e1;cases i with
|zero=>simp at e;subst e;exact⟨v,rfl,p⟩
|succ i=>obtain⟨l,s,y⟩:=u m (by assumption);exact⟨l,by simpa using s,y⟩
 have b:∀{i}{c},M.Gm _ i≠y0 (.own c):=λ{i c} e=>by have:=x _ (Ac7 (get e));cases this
 refine⟨⟨?_,λi w e=>?_,λi j c w a o e1=>absurd e1 b,g⟩,Ext.refl,g,λi c a e1=>absurd e1 b⟩
 .unfold start;rw[Ab,Ab,Aa,Aa,Ad0,Ad0,k,r.length]
 .obtain⟨v,e2,f⟩:=d r (get e);refine⟨v,?_,f⟩;unfold start;have t:=(Aa8.mp e2).1;rw[Ad4 (by simp_all),Ac9,e2];rfl
def CO(m:ah Y G h H)(p:av Y E G H (M.Gy h.length o) Q):aX Y E ⟨G,H,h⟩ o {nx:=λ_ H'=>Q .ak H',rt:=Q}:=by
 have g:∀{w}{c}{b}{H'}{v},_->av Y E G H (M.fin h.length w c) Q->Ext G H b H'->ah Y b c H'->aj Y b H' w v->aG [] [] H w v->Q v H':=λ{w c b H' v} q p e a r f=>by
  unfold M.fin at p;split at p
  .exact p b H' e a v r f
  .split at p
   .rename_i j;rw[Aa0,m.len]at j;have n:=e.cut;rw[m.len]at p;exact p _ H' n (a.cut e.le j.2) v (r.cut G.n e.le j.1 q) f
   .exact p b H' e a v r f
 cases o with
|next l c=>exactλb s H' k=>g (λi z=>by cases z) p k.ext k.st.heap rfl trivial
|ret w c=>
  cases w with
  |bor i=>exact p.elim
  |v d=>exactλb v H' e a r f=>g (λi z=>by cases z) p e a r f
  |own i=>exactλb v H' e a r f=>g (λi z=>by cases z) p e a r f
|exc d c=>exact p
|brk l c=>exact p.elim
|cont l c=>exact p.elim
|fail=>exact p.elim
end
section
variable{P:Program}{w:World}{Y:Ge}{mg:Str->Option Value}{base:Heap}{p:M.Prog}{g:Cg}
def nF(P:Program)(w:World)(Y:Ge)(mg:Str->Option Value)(base:Heap)(r:Nat)(m:List M.W->M.AH->M.R M.W)(f:String):Prop:=
 ∃ps a fd,bq P w Y.K mg base (zev P w) r a fd ps (gT Y m)/\Binds Y.K fd ps []/\Ah Y.K (.ref a)=k9/\mg (Zc f)=y0 (.ref a)
def rT(P:Program)(w:World)(Y:Ge)(mg:Str->Option Value)(base:Heap)(r:Nat)(m:List M.W->M.AH->M.R M.W)(q:String):Prop:=
 ∃ps fd,bq P w Y.K mg base (zev P w) r (Y.ma q) fd ps (gT Y m)/\Binds Y.K fd ps []
def mT(j:fy Y p mg g){f:String}{d:M.Fn}{t:Txt Y.K mg f}(ok:ny t d g)(hf:p.fns.lookup f=y0 d)(k r:Nat)(I:g.cb=k9->3<=r)(hr2:∀c,g.fR.contains c=k9->2<=r)(ih:∀h,g.fns.contains h=k9->nF P w Y mg base r (M.call p k h) h)
 (iq:∀h,g.qf.contains h=k9->nF P w Y mg base 2 (M.call p k h) h)(im:∀q,g.ob.ms.contains q=k9->rT P w Y mg base r (M.call p k q) q):bq P w Y.K mg base (zev P w) (r+2) t.fa t.fd t.ps (gT Y (M.call p (k+1) f)):=by
 have a:∀{i:List M.W}{h:M.AH},i.length≠d.ps->M.call p (k+1) f i h=.fail:=λ{i h} U=>by rw[M.call,hf];simp[M.run,U]
 have o:∀{i:List M.W}{h:M.AH},i.length=d.ps->M.call p (k+1) f i h=M.Gy h.length (M.execs ⟨M.call p k,p.cl,p.con⟩ d.body (i.map y0++Aa1 (d.n-d.ps) u0) h):=λ{i h} U=>M.Ga hf k i h U;obtain⟨x,y8,F⟩:=ok.fn;refine km.yJ (k:=r+1) F ok.sc (λvs H Q E ⟨G,h,i,hr,X,no,q⟩=>?_) λcdv A V s H vs Q E b ⟨G,h,i,hr,X,no,q⟩=>?_
 .by_cases C:i.length=d.ps
  .rw[←X.length,C,ok.p]
  .rw[a C]at q;exact q.elim
 .by_cases C:i.length=d.ps;rotate_left
  .rw[a C]at q;exact q.elim
  rw[o C]at q;have calm:g.cb=k9->A.handled=none:=λz=>b.hd (Nat.succ_le_succ (I z));refine⟨b8 Y E (M.execs ⟨M.call p k,p.cl,p.con⟩ d.body),dv d.body _ _ r _ _ ?_ ok.Dk,?_⟩
  .refine{N:=rfl,K:=rfl,cl:=j.cl,ow:=j.ow,nd:=ok.sc.nd,gO:=λx l=>w9 l,kH:=λx l=>l,gU:=λx l=>⟨W5 l,.inl rfl⟩,kB:=λx l=>l,gl:=λx l=>zQ l,calm:=λz=>by rw[show Cx.calm _=A.handled.isNone from rfl,calm z];rfl,room:=b.mono (by omega),cg:=b,pass:=Ff,blt:=j.blt,con:=j.con,fn:=λh v=>?_,kW:=λh v=>?_,cls:=j.cls,fld:=j.fld,iE:=λc m q hq=>?_,eD:=λc q hq=>?_,g9:=E4,gR:=rfl,nS:=rfl,ex:=rfl,gE:=λc R u v hd=>?_,mm:=λc f R u v hd=>?_,fR:=λc u=>⟨(j.fR c u).1,(j.fR c u).2,hr2 c u⟩}
   .obtain⟨O,fa,L,y,B,S,h4⟩:=ih h v;exact⟨O,⟨fa,L,y,B,S,h4⟩⟩
   .obtain⟨O,fa,L,y,B,S,h4⟩:=iq h v;exact⟨O,⟨fa,L,y,B,S,h4⟩⟩
   .obtain⟨z1,W,z3⟩:=j.iE c m q hq;obtain⟨O,L,y,B⟩:=im q W;exact⟨z1,_,L,O,z3,y,B⟩
   .obtain⟨z1,W,z3⟩:=j.eD c q hq;obtain⟨O,L,y,B⟩:=im q W;exact⟨z1,_,L,O,z3,y,B⟩
   .obtain⟨T,ei,hm⟩:=j.gE c u;refine⟨T,λnp D pos e es t ha J=>?_⟩;exact IZ (calm R) ei hm (zQ v) ha (Qa (J _ Aa4)) (qk λe he=>J e (Aa3 _ he)) hd
   .obtain⟨T,xg,xe,hm,fI,L,O,hi,Z⟩:=j.mm c f u;exact⟨T,xg,λnp D pos e t ha J=>EX (calm R) xe hi Z hm (zQ v) (b.mono (by have:=I R;omega)) ha (Qa J) hd⟩
  .refine⟨⟨G,H,h⟩,G,i.map y0++Aa1 (d.n-d.ps) u0,h,?_,CO hr q⟩;have:=L7 (N:=t.N) (n:=d.n) hr X no ok.n;rw[C]at this;exact this
def x3(r)(f)(fa)(fd)(ps):bq P w Y.K mg base (zev P w) r fa fd ps (gT Y (M.call p 0 f)):=
 ⟨by rintro c H Q E⟨G,h,d,e,g,i,q⟩;exact q.elim,by rintro A a s H b j c Q E _ _ _ _⟨G,h,d,e,g,i,q⟩;exact q.elim⟩
def yg(Y:Ge)(mg:Str->Option Value)(p:M.Prog)(g:Cg)(f:String):Prop:=∃d,p.fns.lookup f=y0 d/\∃t:Txt Y.K mg f,ny t d g/\Ah Y.K (.ref t.fa)=k9/\mg (Zc f)=y0 (.ref t.fa)
def Ep(l:fy Y p mg g)(all:∀f,g.fns.contains f=k9->yg Y mg p g f)(a:∀f,g.qf.contains f=k9->yg Y mg p g.z f)
 (b:∀q,g.ob.ms.contains q=k9->∃d,p.fns.lookup q=y0 d/\∃t:Txt Y.K mg q,ny t d g/\t.fa=Y.ma q):∀k,(∀f,g.fns.contains f=k9->nF P w Y mg base (2*k+3) (M.call p k f) f)/\(∀f,g.qf.contains f=k9->nF P w Y mg base 2 (M.call p k f) f)/\∀q,g.ob.ms.contains q=k9->rT P w Y mg base (2*k+3) (M.call p k q) q:=by
 intro k;induction k with
|zero=>
  refine⟨λf e=>?_,λf e=>?_,λq m=>?_⟩
  .obtain⟨d,c,t,ok,h,i⟩:=all f e;exact⟨t.ps,t.fa,t.fd,x3 _ f _ _ _,ok.bd,h,i⟩
  .obtain⟨d,c,t,ok,h,i⟩:=a f e;exact⟨t.ps,t.fa,t.fd,x3 _ f _ _ _,ok.bd,h,i⟩
  .obtain⟨d,c,t,ok,n⟩:=b q m;exact⟨t.ps,t.fd,x3 _ q _ _ _,ok.bd⟩
|succ k j=>
  refine⟨λf e=>?_,λf e=>?_,λq m=>?_⟩
  .obtain⟨d,c,t,ok,h,i⟩:=all f e;exact⟨t.ps,t.fa,t.fd,mT l ok c k _ (λ_=>by omega) (λ_ _=>by omega) j.1 j.2.1 j.2.2,ok.bd,h,i⟩
  .obtain⟨d,c,t,ok,h,i⟩:=a f e;exact⟨t.ps,t.fa,t.fd,mT l.z ok c k 0 (λz=>nomatch z) (λ_ z=>bx z) (λ_ z=>bx z) (λ_ z=>bx z) λ_ z=>bx z,ok.bd,h,i⟩
  .obtain⟨d,c,t,ok,n⟩:=b q m;exact⟨t.ps,t.fd,n▸mT l ok c k _ (λ_=>by omega) (λ_ _=>by omega) j.1 j.2.1 j.2.2,ok.bd⟩
def p7(K:Aa6):Sp:=λc H Q _=>∃(a:Addr)(b:List Int),c=[.ref a]/\br K H a (b.map V.int)/\b.length<=63/\∀H',Q (.bl k9) H'
theorem W7:∀(ns:List Int),aa Y G H (ns.map M.D.int) (ns.map V.int)
|[]=>rfl
|n::ns=>⟨_,_,rfl,rfl,W7 ns⟩
def Il(F:bq P w Y.K mg base (zev P w) n fa fd ps (gT Y (M.call p k "law")))(gD:∀ns:List Int,ns.length<=63->∃h',M.call p k "law" [.v (.lst (ns.map .int))] []=.ok (.v (.bl true)) h'):
 bq P w Y.K mg base mj n fa fd ps (p7 Y.K):=by
 refine bq.calm F ?_;rintro x H Q E ⟨a,ns,m,d,j,q⟩;subst m;obtain⟨h',h⟩:=gD ns j;have fin:∀G:Gh,ah Y G [] H->kv Y G H a _->gT Y (M.call p k "law") [.ref a] H Q (fun _ _ _=>False):=fun G u l=>by
  refine⟨G,[],[.v (.lst _)],u,⟨.ref a,[],rfl,⟨a,ns.map V.int,rfl,l,W7 ns⟩,rfl⟩,λw t=>?_,?_⟩
  .cases Ac5.mp t;rfl
  .rw[h];intro y i _ _ v r _;cases(r);exact q i
 obtain d|d:=d
 .refine fin ⟨λb=>b=a,λ_=>0,0⟩ ⟨rfl,λr c e=>by simp at e,λr s f=>absurd f (Ag2 _),λb g=>?_⟩ (.inl ⟨rfl,d⟩);subst g;obtain z|⟨o,z⟩:=d
  .exact⟨_,z⟩
  .exact⟨_,z⟩
 .exact fin ⟨λ_=>False,λ_=>0,0⟩ ⟨rfl,λr c e=>by simp at e,λr s f=>absurd f (Ag2 _),λb g=>g.elim⟩ (.inr d)
def walk{l:PySem.W.OpenLaw}{K:Params->Aa6}(k)(m:aY k callerA)(e:l.most=y0 63)(b:d.params.defaults=[])
 (c:∀w h,YP w h->(K w.params).In h)
 (F:∀w mg j h,(K w.params).In h->h.Ns mainGlobals mg->mg d.name=y0 (.ref j)→
   ∃fd:FuncData,(∀s u,BindsTo s fd ⟨[u],[]⟩ [(x,u)])/\∀base:Heap,(K w.params).In base->base.Ns mainGlobals mg->bq l.prog w (K w.params) mg base mj k j fd [x] (p7 (K w.params))):
 PySem.W.WalkO q loose XP YP l.row.toRowW d [] (λf vs=>PySem.call f vs):=
 L2.h9 e (by decide) b m c F (λ_ _ a g n _ i=>⟨a,g,rfl,i,n,λ_=>rfl⟩) λ_ _ _ _ _ z=>z
end
open PySem PySem.W PyProof.Rows KTD
theorem su{f g:Str->Option (Str×Value)}:∀{l:List Str},(∀n∈l,f n=g n)->l.filterMap f=l.filterMap g
|[],_=>rfl
|a::l,h=>by rw[Aj,Aj,h a Aa4,su λn b=>h n (Aa3 _ b)]
theorem W8:∀{ps:List Str}{us:List Value},ps.Nodup->us.length=ps.length->ps.filterMap (λn=>((ps.zip us).lookup n).map (n,·))=ps.zip us
|[],us,_,_=>rfl
|p::ps,[],_,h=>by cases h
|p::ps,u::us,c,h=>by have a:=Ah5.mp c;rw[List.zip_cons_cons,List.filterMap_cons_some (by rw[List.lookup_cons_self];rfl)];congr 1;refine(su λn b=>?_).trans (W8 a.2 (Ao6.inj h));rw[Ab9,beq_eq_false_iff_ne.mpr (λe=>a.1 (e▸b):n≠p)]
def Li{ps:List Str}{us:List Value}(h:us.length=ps.length)(a:n∈ps):((ps.zip us).lookup n).isSome=true:=by
 induction ps generalizing us with
|nil=>cases a
|cons p ps b=>
  cases us with
|nil=>cases h
|cons u us=>
   rw[List.zip_cons_cons,Ab9];cases e:n==p with
|true=>rfl
|false=>exact b (Ao6.inj h) ((Ab7.mp a).resolve_left (beq_eq_false_iff_ne.mp e))
abbrev d3(a:FuncData):List Str:=a.params.args.map (·.arg)
def HR(h1:fd.params.posonlyargs=[])(h2:fd.params.vararg=u0)(h3:fd.params.kwonlyargs=[])(h4:fd.params.kwarg=u0)(h5:fd.defaults=.none)(nd:(d3 fd).Nodup)(hl:us.length=(d3 fd).length):bindArgs fd ⟨us,[]⟩=pure ((d3 fd).zip us):=by
 have e:∀k,((d3 fd).take k).filter (λn=>(((d3 fd).zip us).lookup n).isNone)=[]:=λk=>List.filter_eq_nil_iff.mpr λn hn=>by
  have:=Li hl (Al hn);cases q:((d3 fd).zip us).lookup n with
|none=>rw[q]at this;cases this
|some _=>simp
 obtain⟨n,q,⟨po,as,va,ko,kd,ka,df⟩,b,sc,g,cl,d,kV,doc,pm,an,cd,ct,bi⟩:=fd;cases h1;cases h2;cases h3;cases h4;cases h5;refine(if_neg ?_).trans ((if_neg ?_).trans ?_)
 .simpa using Ap4 hl
 .exactλz=>by have z':=(congrArg (λl:List Str=>!l.isEmpty) (e _)).symm.trans z;cases z'
 .refine Eq.trans ?_ (congrArg pure (W8 nd hl));rw[show∀k,List.drop k (none.getD #[]).toList=[]fromλk=>List.drop_nil,List.zip_nil_right];exact congrArg (λl:List Str=>(pure _:Sem _)) (Ac3 _)
noncomputable def mv(K:Frag)(a:Addr)(f:FuncData->List Stmt->Bool):Bool:=match K.lookup a with
|some ⟨_,_,.func fd,_⟩=>(match fd.body with
|.stmts b=>f fd b
|_=>y9)
|_=>y9
def o9{K:Frag}(h:mv K a f=k9):∃oc j fd L b,K.lookup a=y0 ⟨oc,j,.func fd,L⟩/\fd.body=.stmts b/\f fd b=true:=by
 unfold mv at h;split at h
 .rename_i e;split at h
  .rename_i e2;exact⟨_,_,_,_,_,e,e2,h⟩
  .cases h
 .cases h
def mK(K:Frag)(a:Addr)(b:FuncData)(N:List Str):Prop:=
 (b.globals=mainGlobals/\b.builtins=builtinsNs/\b.closure=[]/\b.defaults=.none)/\codeIn K b.code b.qualname=k9/\keepIn K (.ref a)=k9∧
 (b.params.posonlyargs.isEmpty=k9/\b.params.vararg.isNone=k9/\b.params.kwonlyargs.isEmpty=k9/\b.params.kwarg.isNone=k9)∧
 b.scope.kind=.function/\b.scope.isCoroutine=y9/\b.scope.isGenerator=y9/\N.Nodup/\N.take (d3 b).length=d3 b/\(∀x∈d3 b,b.scope.names.lookup x=y0 .local\/b.scope.names.lookup x=y0 .cell)/\∀y∈b.scope.names,y.2≠.free
instance{K:Frag}{a:Addr}{fd:FuncData}{N:List Str}:Decidable (mK K a fd N):=by unfold mK;infer_instance
def rk{K:Frag}(l:K.lookup a=y0 ⟨oc,od,.func fd,sl⟩)(s:fd.body=.stmts b)(p:mK K a fd N):
 ∃st x q,ZE st=b/\Zk st=fd.scope/\km K x q st a fd/\qy N (d3 fd) fd.scope/\∀us:List Value,us.length=(d3 fd).length->bindArgs fd ⟨us,[]⟩=pure ((d3 fd).zip us):=by
 obtain⟨⟨g,bi,n,d⟩,h,j,⟨i,a2,a3,a4⟩,t,k,m,e,c,f,o⟩:=p;refine⟨.FunctionDef fd.name fd.params b [] u0 [] fd.scope u0 fd.name ⟨0,0,0,0⟩,fd.name,fd.qualname,rfl,rfl,⟨⟨oc,od,fd.kwdefaults,fd.doc,fd.pyModule,fd.annotations,fd.code,fd.closureTuple,sl,?_,l,h⟩,j⟩,⟨t,k,m,e,c,f,o⟩,λus r=>HR (Af7.mp i) (Ah0.mp a2) (Af7.mp a3) (Ah0.mp a4) d (c▸(List.take_sublist _ _).nodup e) r⟩;cases fd;cases s;cases g;cases bi;cases n;cases d;rfl
def iH:Option (Option Value)->Addr
|some (y0 (.ref a))=>a
|_=>0
abbrev bT(K:Frag)(c:String):Addr:=iH (nsIn K mainGlobals (Zc c))
abbrev ml(K:Frag)(c:String):Prop:=nsIn K mainGlobals (Zc c)=y0 (y0 (.ref (bT K c)))
noncomputable def hV(K:Frag)(a:oK)(q:String):Addr:=match a.mt.find? (·.2.2==q)with
|some (c,m,_)=>iH (findIn K (.ref (bT K c)) (Zc m))
|none=>match a.eD.find? (·.2==q)with
|some (c,_)=>iH (findIn K (.ref (bT K c)) "__init__")
|none=>0
def uv(sc:Scope):List Str:=sc.names.filterMap λy=>if y.2=.local\/y.2=.cell then y0 y.1 else u0
def XP(K:Frag)(a:M.dm)(own:List String)(c:String):Prop:=((findIn K (.ref (bT K c)) "__getattribute__"=some (some (.builtin "BaseException.__getattribute__"))/\findIn K (.ref (bT K c)) "__getattr__"=some none/\findIn K (.ref (bT K c)) "__class__"=some (some (.builtin "object.__class__")))∧
 specialIn K (.builtin "object.__class__") "__get__"=some (some (.builtin "getset_descriptor.__get__"))/\takesIn K (.builtin "object.__class__")=some true/\mroIn K (bT K c) (.type "object")=some true/\mroIn K (bT K c) (.type "BaseException")=some true/\kitCls K (.ref (bT K c)) (.ref (bT K c))=some true/\(clsIn K (bT K c)).isSome=true)∧
 (∀t∈own,kitOne K (.ref (bT K c)) (.ref (bT K t))=some ((M.GO a 8 c).contains t))/\kitOne K (.ref (bT K c)) (.type "ValueError")=some ((M.GO a 8 c).contains "ValueError")/\ml K c
instance{K:Frag}{cl:M.dm}{own:List String}{c:String}:Decidable (XP K cl own c):=by unfold XP;infer_instance
def nt(K:Frag)(p:M.Prog)(g:Cg)(nm:List (String×List String))(a:Addr)(f:String):Bool:=mv K a λfd b=>match p.fns.lookup f with
|some d=>(λN=>u9 (mK K a fd N/\N.length=d.n/\(d3 fd).length=d.ps/\d.ps<=d.n)&&cK ⟨g,fd.scope,N⟩ d.body b) (((nm.lookup f).map λl=>l.map Zc).getD (uv fd.scope))
|none=>y9
def Q6{K:Frag}(mg)(h:nt K p g nm a f=k9):
 ∃d,p.fns.lookup f=y0 d/\∃t:Txt K mg f,ny t d g/\t.fa=a/\keepIn K (.ref a)=k9/\∃oc j L,K.lookup a=y0 ⟨oc,j,.func t.fd,L⟩/\t.ps=d3 t.fd/\∀us:List Value,us.length=t.ps.length->bindArgs t.fd ⟨us,[]⟩=pure (t.ps.zip us):=by
 obtain⟨oc,j,M,L,b,l,s,h⟩:=o9 h;cases e:p.fns.lookup f with
|none=>rw[e]at h;cases h
|some d=>rw[e]at h;generalize ((nm.lookup f).map λl=>l.map Zc).getD (uv M.scope)=N at h;obtain⟨r,i⟩:=(Aa0 _ _).mp h;obtain⟨q,n,u,w⟩:=of_decide_eq_true r;obtain⟨o,x,v,rfl,m,F,c,k⟩:=rk l s q;rw[←m]at c i;exact⟨d,rfl,⟨o,a,M,_,d3 M⟩,⟨⟨x,v,F⟩,.all k,c,n,u,w,i⟩,rfl,F.kp,oc,j,L,l,rfl,k⟩
noncomputable def uD(f n m:Str)(b:List Stmt):Bool:=lC b λst r=>kZ r (gH st λd v=>lC d λt r=>kZ r (Wz t λx g _=>zu x λa=>zu v λc=>u9 (a=n)&&u9 (g=f)&&u9 (c=m)))
def D6(h:uD f n m b=k9):∃j p2 L M,b=[.Assign [.Attribute (.Name n j) f p2] (.Name m L) M]:=by refine kC (λd r h=>?_) b h;refine kE (λh=>?_) r h;refine hG (λk v p h=>?_) d h;refine kC (λt r h=>?_) k h;refine kE (λh=>?_) r h;refine wG (λx g p h=>?_) t h;refine xu (λa p h=>?_) x h;refine xu (λc p h=>?_) v h;obtain⟨e,l,i⟩:=a3 h;cases of_decide_eq_true e;cases of_decide_eq_true l;cases of_decide_eq_true i;exact⟨_,_,_,_,rfl⟩
def ur(K:Frag)(f:Str)(a:Addr):Bool:=mv K a λfd b=>match d3 fd with
|[n,m]=>u9 (mK K a fd [n,m]/\(n==("__debug__":Str))=false/\(m==("__debug__":Str))=false/\(n==("__classdict__":Str))=false/\(m==("__classdict__":Str))=false)&&uD f n m b
|_=>y9
def LN{K:Frag}(h:ur K f a=k9)(g:isFn K (.ref a)=k9):∃fd ps,nM K f a fd ps:=by
 obtain⟨oc,y,fd,z,b,l,r,h⟩:=o9 h;split at h
 .rename_i n m e;obtain⟨o,w⟩:=(Aa0 _ _).mp h;obtain⟨q,d⟩:=of_decide_eq_true o;obtain⟨k,x,v,rfl,i,F,c,t⟩:=rk l r q;obtain⟨s,j,p,u,e2⟩:=D6 w;rw[←i]at c;exact⟨fd,d3 fd,⟨x,v,k,_,n,m,s,j,p,u,F,e,rfl,c,e2,d⟩,.all t,beq_iff_eq.mp g⟩
 .cases h
noncomputable def pU(K:Frag)(a:Addr)(f:List Value->Bool):Bool:=match K.lookup a with
|some o=>(match o.data with
|.seq b _=>u9 (o.cls=.type "tuple"/\o.dict=none/\b.size<=100)&&f b.toList
|_=>y9)
|none=>y9
def Dw(h:pU Y.K a f=k9):∃us,f us=k9/\∀vs,Vals vs us->∀G H,fk Y G H a vs:=by
 unfold pU at h;split at h
 .rename_i o e;split at h
  .rename_i b n e2;obtain⟨g,j⟩:=(Aa0 _ _).mp h;obtain⟨i,c,d⟩:=of_decide_eq_true g;exact⟨_,j,λvs r G H=>.inr ⟨o,b,n,e,i,c,e2,Ab6 d (by rw[sizeLine_eq];decide),r⟩⟩
  .cases h
 .cases h
def vF(h:nh u=y0 x):RelV x u:=by
 cases u<;>cases h<;>first|rfl|exact⟨_,rfl⟩
mutual
noncomputable def pT(K:Frag):M.D->Value->Bool
|.int i,u=>u9 (nh u=y0 (.int i))
|.str s,u=>u9 (nh u=y0 (.str (ba s)))
|.tup ds,u=>u9 (u=.ref (iH (y0 (y0 u))))&&pU K (iH (y0 (y0 u))) λus=>f9 K ds us
|_,_=>y9
noncomputable def f9(K:Frag):List M.D->List Value->Bool
|[],[]=>k9
|d::ds,u::us=>pT K d u&&f9 K ds us
|_,_=>y9
end
def rR(K:Frag)(x:String)(d:M.D):Bool:=match nsIn K mainGlobals (Zc x)with
|some (y0 u)=>pT K d u
|_=>y9
mutual
theorem rq{Y:Ge}:∀{d:M.D}{u:Value},pT Y.K d u=k9->∃v,RelV v u/\∀G H,aD Y G H d v
|.int _,_,h=>⟨.int _,vF (of_decide_eq_true h),λ_ _=>rfl⟩
|.str _,_,h=>⟨.str _,vF (of_decide_eq_true h),λ_ _=>rfl⟩
|.ak,_,h=>bx h
|.bl _,_,h=>bx h
|.lst _,_,h=>bx h
|.ref _,_,h=>bx h
|.exc ..,_,h=>bx h
|.err ..,_,h=>bx h
|.tup ds,u,h=>by obtain⟨h0,h⟩:=(Aa0 _ _).mp h;obtain⟨us,h1,h2⟩:=Dw h;obtain⟨vs,r,h3⟩:=eY h1;exact⟨.ref _,of_decide_eq_true (p:=u=_) h0,λG H=>⟨_,vs,rfl,h2 vs r G H,h3 G H⟩⟩
theorem eY{Y:Ge}:∀{ds:List M.D}{us:List Value},f9 Y.K ds us=k9->∃vs,Vals vs us/\∀G H,aa Y G H ds vs
|[],[],_=>⟨[],.nil,λ_ _=>rfl⟩
|[],_::_,h=>bx h
|_::_,[],h=>bx h
|d::ds,u::us,h=>by obtain⟨h1,h2⟩:=(Aa0 _ _).mp h;obtain⟨v,r1,h3⟩:=rq h1;obtain⟨vs,r2,h4⟩:=eY h2;exact⟨v::vs,.cons r1 r2,λG H=>⟨v,vs,rfl,h3 G H,h4 G H⟩⟩
end
theorem yA:∀{l:List (String×α)}{x}{d},l.lookup x=y0 d->(x,d)∈l
|(k,v)::l,x,d,h=>by
  rw[Ab9]at h;by_cases q:(x==k)=k9
  .rw[q]at h;cases h;rw[eq_of_beq q];exact Aa4
  .rw[eq_false_of_ne_true q]at h;exact Aa3 _ (yA h)
abbrev yV(K:Frag)(C:Addr):Prop:=plainGet K C Str.empty=true/\hasDictIn K C=true/\plainOver K C=true/\findIn K (.ref C) "__setattr__"=some (some (.builtin "object.__setattr__"))
def pC(K:Frag)(p:M.Prog)(g:Cg)(nm:List (String×List String)):Prop:=
 (∀x∈b5,nsIn K mainGlobals (Zc x)=some none)/\(∀x∈p.con,rR K x.1 x.2=true)/\(∀c∈g.own,ml K c)/\(∀c∈g.gE,XP K p.cl g.own c/\excIn K (bT K c) zE "ValueError.__new__"=true)∧
 (∀c∈g.ob.er,XP K p.cl g.own c.1/\(zJ K (bT K c.1)=true/\kY K (bT K c.1)=true/\findIn K (.ref (bT K c.1)) "__setattr__"=some (some (.builtin "object.__setattr__"))/\findIn K (.ref (bT K c.1)) (Zc c.2)=some none/\keepIn K (.ref (bT K c.1))=true)∧
   findIn K (.ref (bT K c.1)) "__init__"=some (some (.ref (iH (findIn K (.ref (bT K c.1)) "__init__"))))/\ur K (Zc c.2) (iH (findIn K (.ref (bT K c.1)) "__init__"))=true/\isFn K (.ref (iH (findIn K (.ref (bT K c.1)) "__init__")))=true)∧
 (∀c∈g.fR,mroIn K (bT K c) (.type "BaseException")=some true/\g.own.contains c=true)∧
 (∀c∈g.ob.fl,yV K (bT K c.1)/\findIn K (.ref (bT K c.1)) (Zc c.2)=y0 u0)∧
 (∀c∈g.ob.mt,yV K (bT K c.1)/\g.ob.ms.contains c.2.2=k9/\findIn K (.ref (bT K c.1)) (Zc c.2.1)=y0 (y0 (.ref (hV K g.ob c.2.2)))/\isFn K (.ref (hV K g.ob c.2.2))=k9/\keepIn K (.ref (hV K g.ob c.2.2))=k9)∧
 (∀c∈g.ob.eD,ml K c.1/\g.ob.ms.contains c.2=true/\makesIn K (bT K c.1)=true/\findIn K (.ref (bT K c.1)) "__init__"=some (some (.ref (hV K g.ob c.2)))/\isFn K (.ref (hV K g.ob c.2))=true/\keepIn K (.ref (bT K c.1))=true)∧
 (∀f∈g.fns,ml K f/\nt K p g nm (bT K f) f=true)/\(∀q∈g.ob.ms,nt K p g nm (hV K g.ob q) q=true)/\(∀f∈g.qf,ml K f/\nt K p g.z nm (bT K f) f=true)/\g.fns.contains "law"=true/\mv K (bT K "law") (fun fd _=>decide (d3 fd=[("_law_script":Str)]))=true
set_option synthInstance.maxSize 1000 in
instance{K:Frag}{p:M.Prog}{g:Cg}{nm:List (String×List String)}:Decidable (pC K p g nm):=by unfold pC;infer_instance
def Zv  [BEq α][LawfulBEq α]{l:List α}(h:l.contains x=k9):x∈l:=Ak7.mp h
def XP.ok {K:Frag}{p:M.Prog}(h:XP K p.cl own c):fc ⟨K,bT K,p.cl,own,hV K ob⟩ c:=by obtain⟨⟨⟨e,a2,a3⟩,a4,a5,a6,a7,d,a⟩,b,c,_⟩:=h;exact⟨⟨e,a2,a3,a4,a5,a6,a7,d,a⟩,b,c⟩
def i9{l:OpenLaw}{w:World}{K:Frag}{h:Heap}{mg:Str->Option Value}{R:Addr}(p:M.Prog)(g:Cg)(nm:List (String×List String))(k:Nat)(X:K.In h)(G:h.Ns mainGlobals mg)(L:mg "law"=some (.ref R))(T:decide (pC K p g nm)=true)
 (gD:∀ns:List Int,ns.length<=63->∃h',M.call p (k+1) "law" [.v (.lst (ns.map .int))] []=.ok (.v (.bl true)) h'):
 ∃fd:FuncData,(∀(s:Shared)(v:Value),BindsTo s fd ⟨[v],[]⟩ [("_law_script",v)])/\∀base:Heap,K.In base->base.Ns mainGlobals mg->bq l.prog w K mg base mj (2*k+3+2) R fd ["_law_script"] (p7 K):=by
 obtain⟨t1,t0,V,t3,t4,t5,t6,Z,t8,H,O,S,B,N⟩:=of_decide_eq_true T;have U:fy ⟨K,bT K,p.cl,g.own,hV K g.ob⟩ p mg g:=by
  refine⟨rfl,rfl,λx hx=>mg_none_of X G (t1 x hx),λx d j=>?_,λc a=>mg_of X G (V c (Zv a)),λc a=>?_,λc f a=>?_,λc a=>t5 c (Zv a),λc f a=>?_,λc m q a=>?_,λc q a=>?_⟩
  .have z:=t0 (x,d) (yA j);unfold rR at z;split at z
   .rename_i u e;obtain⟨v,r⟩:=rq (Y:=⟨K,bT K,p.cl,g.own,hV K g.ob⟩) z;exact⟨u,v,mg_of X G e,r⟩
   .cases z
  .have z:=t3 c (Zv a);exact⟨z.1.ok,z.2,mg_of X G z.1.2.2.2⟩
  .obtain⟨z,⟨e1,e2,y,n,A⟩,E,J,Q⟩:=t4 (c,f) (Zv a);obtain⟨fd,ps,i⟩:=LN J Q;exact⟨z.ok,⟨e2,n,z.1.1.1,z.1.1.2.1⟩,⟨e1,e2,y,n,A⟩,mg_of X G z.2.2.2,_,fd,ps,E,i⟩
  .obtain⟨⟨e1,e2,y,n⟩,A⟩:=t6 (c,f) (Zv a);exact⟨⟨e1,e2,y,n⟩,A⟩
  .obtain⟨⟨e1,e2,y,n⟩,A,E,J,Q⟩:=Z (c,m,q) (Zv a);exact⟨⟨e1,e2,y,n⟩,A,E,J,Q⟩
  .obtain⟨e1,e2,y,n,A,E⟩:=t8 (c,q) (Zv a);exact⟨mg_of X G e1,e2,y,n,A,E⟩
 have D:∀f,g.fns.contains f=k9->mg (Zc f)=y0 (.ref (bT K f)):=λf o=>mg_of X G (H f (Zv o)).1;have e:bT K "law"=R:=by have:=(D "law" B).symm.trans L;cases this;rfl
 obtain⟨d,j,t,ok,b,F,oc,od,sl,lk,W,bd⟩:=Q6 mg (H "law" (Zv B)).2;obtain⟨_,_,fd,_,_,C,_,z⟩:=o9 N;rw[lk]at C;cases C;have z:=W.trans (of_decide_eq_true (p:=d3 t.fd=[("_law_script":Str)]) z);refine⟨t.fd,λs v=>.of_eq ((bd [v] (by rw[z];rfl)).trans (by rw[z];rfl)),λbase _ _=>?_⟩;have I:=Ep (P:=l.prog) (w:=w) (base:=base) U (λf o=>by
  obtain⟨d,j,t,ok,b,F,_⟩:=Q6 mg (H f (Zv o)).2;exact⟨d,j,t,ok,b▸F,b▸D f o⟩) (λf o=>by
  obtain⟨d,j,t,ok,b,F,_⟩:=Q6 mg (S f (Zv o)).2;exact⟨d,j,t,ok,b▸F,b▸mg_of X G (S f (Zv o)).1⟩) (λq hq=>by
  obtain⟨d,j,t,ok,b,_⟩:=Q6 mg (O q (Zv hq));exact⟨d,j,t,ok,b⟩) k
 have:=Il (mT U ok j k _ (λ_=>by omega) (λ_ _=>by omega) I.1 I.2.1 I.2.2) gD;rw[b,e,z]at this;exact this
end L2.MS
namespace Wf
def h8(t k):t/2^k%2=(t.testBit k).toNat:=(Nat.toNat_testBit t k).symm
theorem JJ:∀(n a b:Nat),a<=n->(a|||b)+(a&&&b)=a+b
|0,a,b,h=>by
  have:a=0:=by omega
  subst this;simp
|n+1,a,b,h=>by
  by_cases c:a=0
  .subst c;simp
  have i:=JJ n (a/2) (b/2) (by omega);have e1:=Al5 (a|||b) 2;have e2:=Al5 (a&&&b) 2;rw[Nat.or_div_two]at e1;rw[Nat.and_div_two]at e2;have d:(a|||b)%2=1↔a%2=1\/b%2=1:=Nat.or_mod_two_eq_one;have f:(a&&&b)%2=1↔a%2=1/\b%2=1:=Nat.and_mod_two_eq_one;have j:=Al5 a 2;have k:=Al5 b 2;have g:(a|||b)%2<2:=Al3 _ (by decide);have l:(a&&&b)%2<2:=Al3 _ (by decide);generalize (a|||b)%2=p at*;generalize (a&&&b)%2=q at*;by_cases c:a%2=1<;>by_cases e:b%2=1
  .have:p=1:=d.mpr (.inl c);have:q=1:=f.mpr ⟨c,e⟩;omega
  .have:p=1:=d.mpr (.inl c);have:¬q=1:=λh=>e (f.mp h).2;omega
  .have:p=1:=d.mpr (.inr e);have:¬q=1:=λh=>c (f.mp h).1;omega
  .have:¬p=1:=λh=>(d.mp h).elim c e;have:¬q=1:=λh=>c (f.mp h).1;omega
def BY(a b:Nat):a-(a&&&b)=a^^^(a&&&b):=by
 have h:=JJ _ (a^^^(a&&&b)) (a&&&b) (Aa9 _);have e1:(a^^^(a&&&b))|||(a&&&b)=a:=Ai8 λk=>by simp[Ai4];cases a.testBit k<;>cases b.testBit k<;>rfl
 have e2:(a^^^(a&&&b))&&&(a&&&b)=0:=Ai8 λk=>by simp only[Nat.testBit_xor,Ai4,Ag5];cases a.testBit k<;>cases b.testBit k<;>rfl
 lia
def a0(a b k:Nat):(a-(a&&&b)).testBit k=(a.testBit k&&!b.testBit k):=by rw[BY];simp[Ai4];cases a.testBit k<;>cases b.testBit k<;>rfl
def ax(n t:Nat):List (Nat×Nat):=((Ab1 (n*n)).filter t.testBit).map λk=>(k/n,k%n)
def dF(n:Nat)(ps:List (Nat×Nat)):Nat:=ps.foldl (λt p=>t|||2^(p.1*n+p.2)) 0
def fq(n:Nat)(ps:List (Nat×Nat)):Prop:=∀p∈ps,p.1<n/\p.2<n
def place_lt{n a b:Nat}(c:a<n)(d:b<n):a*n+b<n*n:=by
 have:a*n+n<=n*n:=by
  have:=An7 n (Nat.succ_le_of_lt c)
  rwa [Nat.succ_mul]at this
 omega
def aQ{n a b:Nat}(c:b<n):(a*n+b)/n=a:=by rw[Am,Nat.mul_add_div (by lia),Nat.div_eq_of_lt c,Nat.add_zero]
def aV{n a b:Nat}(c:b<n):(a*n+b)%n=b:=by rw[Am,Nat.mul_add_mod,Nat.mod_eq_of_lt c]
def aZ{n k:Nat}(h:k<n*n):k/n<n:=Nat.div_lt_of_lt_mul h
def aU{n k:Nat}(h:k<n*n):k%n<n:=Al3 _ (by
 cases n with
|zero=>simp at h
|succ m=>lia)
def bu(n k:Nat):k/n*n+k%n=k:=by rw[Am];exact Al5 k n
theorem ya(n):∀(ps:List (Nat×Nat))(t k:Nat),(ps.foldl (λt p=>t|||2^(p.1*n+p.2)) t).testBit k=(t.testBit k||ps.any λp=>u9 (p.1*n+p.2=k))
|[],t,k=>by simp
|p::r,t,k=>by rw[Ah6,ya n r,Ag0,Ag8,Ag,Bool.or_assoc]
def cF(n)(ps)(k):(dF n ps).testBit k=ps.any λp=>u9 (p.1*n+p.2=k):=by unfold dF;rw[ya];simp
def dO(h:fq n ps):dF n ps<2^(n*n):=by refine Nat.lt_pow_two_of_testBit _ λi b=>?_;rw[cF,Ak2];intro p a;have:=h p a;have:=place_lt this.1 this.2;simp;omega
def bG:p∈ax n t↔∃k,k<n*n/\t.testBit k=k9/\p=(k/n,k%n):=by
 unfold ax;simp[Ac1];constructor
 .rintro⟨k,⟨a,b⟩,rfl⟩;exact⟨k,a,b,rfl⟩
 .rintro⟨k,a,b,rfl⟩;exact⟨k,⟨a,b⟩,rfl⟩
def bV(n t):fq n (ax n t):=λp b=>by obtain⟨k,a,c,rfl⟩:=bG.mp b;exact⟨aZ a,aU a⟩
def nQ(ps:List (Nat×Nat)):List (Nat×Nat):=ps.map λp=>(p.2,p.1)
def fh(h:fq n ps):fq n (nQ ps):=λp b=>by obtain⟨q,a,rfl⟩:=Ac0.mp b;exact⟨(h q a).2,(h q a).1⟩
def dH(n t:Nat):Nat:=dF n (nQ (ax n t))
def fW(n t):dH n t<2^(n*n):=dO (fh (bV n t))
def ft(g:k<n*n):(dH n t).testBit k=t.testBit (k%n*n+k/n):=by
 unfold dH;rw[cF];have d:=aZ g;by_cases h:t.testBit (k%n*n+k/n)=k9
 .rw[h,Ae1];refine⟨(k/n,k%n),?_,?_⟩
  .refine Ac0.mpr ⟨(k%n,k/n),bG.mpr ⟨k%n*n+k/n,place_lt (aU g) d,h,?_⟩,rfl⟩;rw[aQ d,aV d]
  .simp[decide_eq_true_eq];exact bu n k
 .have c:=by simpa using h
  rw[c,Ak2];intro p i;obtain⟨q,l,rfl⟩:=Ac0.mp i;obtain⟨j,b,a,rfl⟩:=bG.mp l;simp[decide_eq_true_eq];intro e;subst e;have f:=aZ b;have a2:=aU b;rw[aQ f,aV f,bu]at c;rw[c]at a;cases a
def dq(n:Nat):Nat:=dF n ((Ab1 n).map λa=>(a,a))
def eh(n):fq n ((Ab1 n).map λa=>(a,a)):=λp c=>by obtain⟨a,b,rfl⟩:=Ac0.mp c;exact⟨Ac1.mp b,Ac1.mp b⟩
def DU(c:k<n*n):(dq n).testBit k=u9 (k/n=k%n):=by
 unfold dq;rw[cF];have f:=aU c;by_cases h:k/n=k%n
 .rw[decide_eq_true h,Ae1];refine⟨_,Ac0.mpr ⟨k/n,Ac1.mpr (aZ c),rfl⟩,?_⟩;simp[decide_eq_true_eq];have:=bu n k;rw[←h]at this;exact this
 .rw[decide_eq_false h,Ak2];intro p d;obtain⟨a,b,rfl⟩:=Ac0.mp d;simp[decide_eq_true_eq];intro e;subst e;have b:=Ac1.mp b;exact h (by rw[aQ b,aV b])
def cV(n p b:Nat):Nat:=p/2^(b*n)%2^n
def joinM(n o p:Nat):Nat:=(ax n o).foldl (λt q=>t|||cV n p q.2*2^(q.1*n)) 0
def dP(n p b):cV n p b<2^n:=Al3 _ (Nat.pow_pos (by decide))
def yq(a:c<n):(cV n p b).testBit c=p.testBit (b*n+c):=by unfold cV;rw[Ah9,decide_eq_true a,Ae,Ai,Nat.add_comm]
def Fv(f:x<2^n)(d:0<n):(x*2^(a*n)).testBit k=(u9 (k/n=a)&&x.testBit (k%n)):=by
 rw[Nat.testBit_mul_two_pow];have e:=bu n k;by_cases h:k/n=a
 .subst h;rw[decide_eq_true rfl,Ae];have:k/n*n<=k:=by lia
  rw[decide_eq_true (this),Ae];rw[show k-k/n*n=k%n by lia]
 .rw[decide_eq_false h,Ae2];by_cases b:k>=a*n
  .rw[decide_eq_true b,Ae];refine Ak1 (Ab3 f (Ad6 (by decide) ?_));have c:a<k/n:=by have:a<=k/n:=(Nat.le_div_iff_mul_le d).mpr b;lia
   have g:=An7 n c;lia
  .rw[decide_eq_false b,Ae2]
theorem uG(n p)(a:0<n):∀(ps:List (Nat×Nat)) t k,(ps.foldl (λt q=>t|||cV n p q.2*2^(q.1*n)) t).testBit k=(t.testBit k||ps.any λq=>u9 (k/n=q.1)&&(cV n p q.2).testBit (k%n))
|[],t,k=>by simp
|q::r,t,k=>by rw[Ah6,uG n p a r,Ag0,Fv (dP n p q.2) a,Ag,Bool.or_assoc]
def AD(h:k<n*n):0<n:=by
 cases n with
|zero=>simp at h
|succ m=>omega
def JB(n o p k:Nat):Bool:=(Ab1 n).any λb=>o.testBit (k/n*n+b)&&p.testBit (b*n+k%n)
def cQ(g:k<n*n):(joinM n o p).testBit k=JB n o p k:=by
 have h:=aU g;unfold joinM JB;rw[uG n p (AD g)];simp[Bool.false_or];rw[An0,Ae1,Ae1];constructor
 .rintro⟨q,i,a⟩;obtain⟨j,f,c,rfl⟩:=bG.mp i;rw[Aa0,decide_eq_true_eq]at a;obtain⟨e,a⟩:=a;refine⟨j%n,Ac1.mpr (aU f),?_⟩;rw[yq h]at a;rw[e,bu,c,a];rfl
 .rintro⟨b,a,d⟩;have a:=Ac1.mp a;rw[Aa0]at d;refine⟨_,bG.mpr ⟨k/n*n+b,place_lt (aZ g) a,d.1,by rw[aQ a,aV a]⟩,?_⟩;rw[yq h,d.2];simp
def ej(n o p):joinM n o p<2^(n*n):=by
 have b:∀(a:List (Nat×Nat)) t,(∀q∈a,q.1<n)->t<2^(n*n)->a.foldl (λt q=>t|||cV n p q.2*2^(q.1*n)) t<2^(n*n):=by
  intro a;induction a with
|nil=>intro t _ h;exact h
|cons q r f=>
   intro t d i;refine f _ (λz g=>d z (Aa3 _ g)) (Am5 i ?_);have c:=d q Aa4;have:=dP n p q.2;have e:2^n*2^(q.1*n)<=2^(n*n):=by rw[←Nat.pow_add];refine Ad6 (by decide) ?_;have:=An7 n (Nat.succ_le_of_lt c);lia
   exact Ab3 (Nat.mul_lt_mul_of_pos_right this (Nat.pow_pos (by decide))) e
 exact b _ _ (λq c=>(bV n o q c).1) (Nat.pow_pos (by decide))
def eP(b:s<2^n)(c:t<2^n)(h:∀k,k<n->s.testBit k=t.testBit k):s=t:=
 Ai8 λk=>by
  by_cases a:k<n
  .exact h k a
  .rw[Ak1 (Ab3 b (Ad6 (by decide) (by lia))),Ak1 (Ab3 c (Ad6 (by decide) (by lia)))]
def eQ(d:a<n)(c:b<n):(dq n).testBit (a*n+b)=u9 (a=b):=by rw[DU (place_lt d c),aQ c,aV c]
def gf(n):dq n<2^(n*n):=dO (eh n)
inductive TC(n t a:Nat):Nat->Prop
|step {b:Nat}:a<n->b<n->t.testBit (a*n+b)=k9->TC n t a b
|more {b c:Nat}:TC n t a b->b<n->c<n->t.testBit (b*n+c)=k9->TC n t a c
def TC.trans (h1:TC n t a b)(e:TC n t b c):TC n t a c:=by
 induction e with
|step x y z=>exact .more h1 x y z
|more _ x y z d=>exact .more d x y z
structure gu(n t r:Nat):Prop where
 lt:r<2^(n*n)
 bit:∀a b,a<n->b<n->(r.testBit (a*n+b)=k9↔TC n t a b)
structure gs(n t r:Nat):Prop where
 lt:r<2^(n*n)
 sub:∀a b,a<n->b<n->r.testBit (a*n+b)=k9->TC n t a b
 sup:∀k,t.testBit k=k9->r.testBit k=k9
def gs.start (h:t<2^(n*n)):gs n t t:=⟨h,λ_ _ b a h=>.step b a h,λ_ h=>h⟩
def dy(d:c<n):JB n o p (a*n+c)=(Ab1 n).any λb=>o.testBit (a*n+b)&&p.testBit (b*n+c):=by unfold JB;rw[aQ d,aV d]
def gs.next (h:gs n t r):gs n t (r|||joinM n r r):=by
 refine⟨Am5 h.lt (ej _ _ _),λa b g f d=>?_,λk i=>?_⟩
 .rw[Ag0,Ae7]at d;obtain d|d:=d
  .exact h.sub a b g f d
  .rw[cQ (place_lt g f),dy f,Ae1]at d;obtain⟨c,e,d⟩:=d;have e:=Ac1.mp e;rw[Aa0]at d;exact(h.sub a c g e d.1).trans (h.sub c b e f d.2)
 .rw[Ag0,h.sup k i,Bool.true_or]
def CU{a b:Nat}(h:a|||b=a)(k)(c:b.testBit k=k9):a.testBit k=true:=by rw[←h,Ag0,c,Ap2]
def gs.done (h:gs n t r)(e:r|||joinM n r r=r):gu n t r:=by
 refine⟨h.lt,λa b i k=>⟨h.sub a b i k,λg=>?_⟩⟩;induction g with
|step c f d=>exact h.sup _ d
|more g c f d j=>refine CU e _ ?_;rw[cQ (place_lt i f),dy f,Ae1];exact⟨_,Ac1.mpr c,by rw[(j c),h.sup _ d];rfl⟩
def gs.grow (h:gs n t r)(ne:r|||joinM n r r≠r):r<r|||joinM n r r:=by have:=@Nat.left_le_or r (joinM n r r);lia
structure Od(n t a:Nat)(re wa:List Nat):Prop where
 an:a<n
 nd:re.Nodup
 tc:∀x∈re,TC n t a x
 wl:∀x∈wa,x<n/\(x=a\/x∈re)
 cl:∀x,(x=a\/x∈re)->x∉wa->∀b,b<n->t.testBit (x*n+b)=k9->b∈re
structure Lk(n t a:Nat)(re wa:List Nat)(h b:Nat):Prop where
 an:a<n
 nd:re.Nodup
 tc:∀x∈re,TC n t a x
 wl:∀x∈wa,x<n/\(x=a\/x∈re)
 cl:∀x,(x=a\/x∈re)->x∉wa->x≠h->∀b,b<n->t.testBit (x*n+b)=k9->b∈re
 hn:h<n
 hr:h=a\/h∈re
 hb:∀b',b'<b->t.testBit (h*n+b')=k9->b'∈re
end Wf
namespace M
noncomputable abbrev vZ:Tx:=[115,111,109,101,32,110,111,32,108,101,97,115,116,32,109,111,115,116,32,101,97,99,104,32,105,110,32,97,110,100,32,111,114,32,110,111,116,32,115,97,109,101,32,97,108,108,32,110,111,110,101,32,107,105,110,100,32,116,105,101,32,115,97,121]
abbrev fO:Tx:=[119,111,114,108,100]
abbrev fg:Tx:=[115,111,109,101]
abbrev iC:Tx:=[98,114,111,107,101,110]
abbrev vP:Tx:=[97,98,99,100,101,102,103,104,105,106,107,108,109,110,111,112,113,114,115,116,117,118,119,120,121,122]
abbrev fF:Tx:=[97,108,108]
abbrev lB:Tx:=[108,101,97,115,116]
abbrev lh:Tx:=[112,97,112,101,114]
abbrev mH:Tx:=[109,111,115,116]
abbrev nz:Tx:=[110,111,110,101]
abbrev oU:Tx:=[115,112,108,105,116]
abbrev m2:Tx:=[115,97,109,101]
abbrev nc:Tx:=[110,97,109,101]
abbrev kD:Tx:=[110,111]
abbrev Fi:Tx:=[101,97,99,104,108,101,97,115,116]
abbrev nT:Tx:=[110,111,116]
abbrev nV:Tx:=[97,110,100]
abbrev S.r (c x:E):S:=.iff c (.cons (.ret x) .nil) .nil
noncomputable abbrev E.v0:E:=.var 0
noncomputable abbrev E.v1:E:=.var 1
abbrev E.v2:E:=.var 2
abbrev E.v3:E:=.var 3
abbrev E.v4:E:=.var 4
abbrev E.v5:E:=.var 5
abbrev E.v6:E:=.var 6
abbrev E.v7:E:=.var 7
abbrev E.v8:E:=.var 8
abbrev E.v9:E:=.var 9
noncomputable abbrev E.i0:E:=.int 0
noncomputable abbrev E.i1:E:=.int 1
abbrev E.i2:E:=.int 2
abbrev E.i3:E:=.int 3
abbrev E.i4:E:=.int 4
noncomputable abbrev Es.a (x:E):Es:=.cons x .nil
noncomputable abbrev Es.b (x y:E):Es:=.cons x (.cons y .nil)
noncomputable abbrev Es.c (x y z:E):Es:=.cons x (.cons y (.cons z .nil))
abbrev Es.d (x y z u:E):Es:=.cons x (.cons y (.cons z (.cons u .nil)))
abbrev Es.g (x y z u v w:E):Es:=.cons x (.cons y (.cons z (.cons u (.cons v (.cons w .nil)))))
noncomputable abbrev Ss.a (x:S):Ss:=.cons x .nil
noncomputable abbrev Ss.b (x y:S):Ss:=.cons x (.cons y .nil)
noncomputable abbrev Ss.c (x y z:S):Ss:=.cons x (.cons y (.cons z .nil))
abbrev Ss.d (x y z u:S):Ss:=.cons x (.cons y (.cons z (.cons u .nil)))
abbrev Ss.f (x y z u v:S):Ss:=.cons x (.cons y (.cons z (.cons u (.cons v .nil))))
abbrev Ss.k (x y z u v w a b:S):Ss:=.cons x (.cons y (.cons z (.cons u (.cons v (.cons w (.cons a (.cons b .nil)))))))
noncomputable abbrev Ss.m (x y z u v w a b c:S):Ss:=.cons x (.cons y (.cons z (.cons u (.cons v (.cons w (.cons a (.cons b (.cons c .nil))))))))
def Nz:Fn:=⟨1,1,.a (.ret (.and (.dt .v0 .int) (.not (.dt .v0 .bool))))⟩
def Wx:Fn:=⟨2,2,.a (.ret (.and (.call "is_whole" (.a .v0)) (.chain .le .lt .i0 .v0 .v1)))⟩
noncomputable def Jy:E:=.comp [0] k9 1 [1,0] (.aC (.bin .mul .v0 .v0)) k9 (.bin .band (.bin .shr .v1 .v0) .i1) (.bi .divmod (.b .v0 .v2))
def WJ:Fn:=⟨2,2,.a (.ret Jy)⟩
def xh:Ss:=.a (.ag 2 (.bin .bor .v2 (.bin .shl .i1 (.bin .add (.bin .mul .v3 .v0) .v4))))
def ZL:Fn:=⟨2,5,.c (.ag 2 .i0) (.for [3,4] y9 (.seq .v1) xh) (.ret .v2)⟩
def vq:Fn:=⟨2,2,.a (.ret (.bin .band .v0 .v1))⟩
def y4:Fn:=⟨2,2,.a (.ret (.bin .bor .v0 .v1))⟩
def WR:Fn:=⟨2,2,.a (.ret (.bin .band .v0 (.inv .v1)))⟩
def xy:E:=.comp [0,1] false 2 [] (.seq (.call "pairs_of" (.b .v0 .v1))) false (.bl true) (.tup (.b .v1 .v0))
def J9:Fn:=⟨2,2,.a (.ret (.call "gathered" (.b .v0 xy)))⟩
noncomputable def Jp:Ss:=.b (.ag 7 (.bin .band (.bin .shr .v2 (.bin .mul .v6 .v0)) .v3)) (.ag 4 (.bin .bor .v4 (.bin .shl .v7 (.bin .mul .v5 .v0))))
def j9:Fn:=⟨3,8,.d (.ag 3 (.bin .sub (.bin .shl .i1 .v0) .i1)) (.ag 4 .i0) (.for [5,6] y9 (.seq (.call "pairs_of" (.b .v0 .v1))) Jp) (.ret .v4)⟩
def jq:E:=.cmp .ne .v3 .v2
def Zp:Ss:=.b (.ag 2 .v3) (.ag 3 (.call "either" (.b .v2 (.call "joined" (.c .v0 .v2 .v2)))))
def yE:Fn:=⟨2,4,.d (.ag 2 .v1) (.ag 3 (.call "either" (.b .v2 (.call "joined" (.c .v0 .v2 .v2))))) (.la 100000 jq Zp) (.ret .v2)⟩
def XN:E:=.comp [0] k9 1 [] (.aC .v0) y9 (.bl k9) (.tup (.b .v0 .v0))
def t7:Fn:=⟨1,1,.a (.ret (.call "gathered" (.b .v0 XN)))⟩
def vv:Fn:=⟨1,1,.a (.ret (.bin .sub (.bin .shl .i1 (.bin .mul .v0 .v0)) .i1))⟩
def Qg:E:=.comp [0] k9 1 [4] (.aC .v3) k9 (.bin .band (.bin .shr .v1 .v0) .i1) (.tup (.b .v0 .v0))
def zo:Fn:=⟨3,5,.d (.r (.cmp .mem .v2 (.ix .v0 .i1)) (.ix (.ix .v1 .i2) (.dM .index (.ix .v0 .i1) (.a .v2)))) (.ag 3 (.ix .v1 .i0)) (.ag 4 (.ix (.ix .v1 .i1) (.dM .index (.ix .v0 .i0) (.a .v2)))) (.ret (.call "gathered" (.b .v3 Qg)))⟩
def Zt:Fn:=⟨3,3,.m (.r (.cmp .eq .v1 (.str m2)) (.call "same" (.a .v0))) (.r (.cmp .eq .v1 (.str fF)) (.call "every" (.a .v0))) (.r (.cmp .eq .v1 (.str nz)) .i0) (.r (.cmp .eq .v1 (.str [112,108,117,115])) (.call "either" (.b (.ix .v2 .i0) (.ix .v2 .i1)))) (.r (.cmp .eq .v1 (.str [108,101,115,115])) (.call "without" (.b (.ix .v2 .i0) (.ix .v2 .i1)))) (.r (.cmp .eq .v1 (.str [98,111,116,104])) (.call "common" (.b (.ix .v2 .i0) (.ix .v2 .i1)))) (.r (.cmp .eq .v1 (.str [106,111,105,110,101,100])) (.call "joined" (.c .v0 (.ix .v2 .i0) (.ix .v2 .i1)))) (.r (.cmp .eq .v1 (.str [116,117,114,110,101,100])) (.call "turned" (.b .v0 (.ix .v2 .i0)))) (.ret (.call "closed" (.b .v0 (.ix .v2 .i0))))⟩
def Zx:E:=.comp [0] k9 1 [4] (.aC .v0) y9 (.bl k9) (.dM .count .v1 (.a .v0))
def Qx:E:=.comp [0,1] y9 2 [] (.seq .v3) y9 (.bl k9) .v0
def J7:Fn:=⟨3,5,.d (.ag 3 (.call "pairs_of" (.b .v0 .v2))) (.r (.cmp .mem .v1 (.tup (.b (.str lB) (.str mH)))) (.lst (.a (.bi .len (.a .v3))))) (.ag 4 Qx) (.ret Zx)⟩
def Xx:E:=.comp [0,1] y9 2 [] (.seq .v5) y9 (.bl k9) .v1
def Jw:E:=.comp [0,1] y9 2 [] (.seq .v5) y9 (.bl k9) .v0
def Zq:E:=.comp [0] k9 1 [0,1] (.seq (.gv .v2 .i1)) y9 (.bl k9) (.call "bounds" (.c .v1 .v2 .v0))
def bF:Fn:=⟨3,9,.k (.ag 3 (.ix .v2 .i0)) (.iff (.cmp .eq .v3 (.str nc)) (.b (.ag 4 (.ix .v2 .i1)) (.ret (.tup (.b (.call "value_of_name" (.c .v0 (.ix .v1 .i0) .v4)) (.call "value_of_name" (.c .v0 (.ix .v1 .i1) .v4)))))) .nil) (.ag 5 Zq) (.ag 6 Jw) (.ag 7 Xx) (.r (.cmp .eq .v3 (.str [108,101,115,115])) (.tup (.b (.call "without" (.b (.ix .v6 .i0) (.ix .v7 .i1))) (.call "without" (.b (.ix .v7 .i0) (.ix .v6 .i1)))))) (.ag 8 (.ix (.ix .v1 .i0) .i0)) (.ret (.tup (.b (.call "made" (.c .v8 .v3 .v6)) (.call "made" (.c .v8 .v3 .v7)))))⟩
def xS:Fn:=⟨2,2,.c (.r .v0 (.bl k9)) (.r .v1 (.bl y9)) (.ret .ak)⟩
def xK:Fn:=⟨1,1,.a (.ret (.call "settled" (.b (.cmp .d4 .v0 (.bl false)) (.cmp .d4 .v0 (.bl true)))))⟩
def zL:Fn:=⟨2,2,.a (.ret (.call "settled" (.b (.and (.cmp .d4 .v0 (.bl true)) (.cmp .d4 .v1 (.bl true))) (.or (.cmp .d4 .v0 (.bl false)) (.cmp .d4 .v1 (.bl false))))))⟩
def jW:Fn:=⟨2,2,.a (.ret (.call "settled" (.b (.or (.cmp .d4 .v0 (.bl true)) (.cmp .d4 .v1 (.bl true))) (.and (.cmp .d4 .v0 (.bl false)) (.cmp .d4 .v1 (.bl false))))))⟩
def zY:Fn:=⟨2,2,.a (.ret (.call "settled" (.b (.cmp .eq (.call "without" (.b (.ix .v0 .i1) (.ix .v1 .i0))) .i0) (.cmp .ne (.call "without" (.b (.ix .v0 .i0) (.ix .v1 .i1))) .i0))))⟩
def Zr:E:=.comp [0] k9 1 [2] (.seq .v5) y9 (.bl k9) (.cmp .le .v0 .v1)
def jr:E:=.comp [0] k9 1 [2] (.seq .v4) y9 (.bl k9) (.cmp .gt .v0 .v1)
def zr:E:=.comp [0] k9 1 [2] (.seq .v4) y9 (.bl k9) (.cmp .ge .v0 .v1)
def qr:E:=.comp [0] k9 1 [2] (.seq .v5) y9 (.bl k9) (.cmp .lt .v0 .v1)
def Jz:Fn:=⟨4,6,.d (.ag 4 (.call "counts" (.c .v0 .v1 (.ix .v3 .i0)))) (.ag 5 (.call "counts" (.c .v0 .v1 (.ix .v3 .i1)))) (.r (.cmp .mem .v1 (.tup (.b (.str lB) (.str Fi)))) (.call "settled" (.b (.bi .all (.a zr)) (.bi .any (.a qr))))) (.ret (.call "settled" (.b (.bi .all (.a Zr)) (.bi .any (.a jr)))))⟩
def cA:Fn:=⟨3,4,.f (.ag 3 (.ix .v2 .i0)) (.r (.cmp .eq .v3 (.str nT)) (.call "not_told" (.a (.call "told" (.c .v0 .v1 (.ix .v2 .i1)))))) (.r (.cmp .eq .v3 (.str nV)) (.call "and_told" (.b (.call "told" (.c .v0 .v1 (.ix .v2 .i1))) (.call "told" (.c .v0 .v1 (.ix .v2 .i2)))))) (.r (.cmp .eq .v3 (.str [111,114])) (.call "or_told" (.b (.call "told" (.c .v0 .v1 (.ix .v2 .i1))) (.call "told" (.c .v0 .v1 (.ix .v2 .i2)))))) (.ret (.call "fact_told" (.c .v0 .v1 .v2)))⟩
def aR:Fn:=⟨3,7,.k (.ag 3 (.ix .v2 .i0)) (.ag 4 (.ix (.ix .v1 .i0) .i0)) (.ag 5 (.call "bounds" (.c .v0 .v1 (.ix .v2 (.neg .i1))))) (.r (.cmp .eq .v3 (.str fg)) (.call "count_told" (.d .v4 (.str lB) .i1 .v5))) (.r (.cmp .eq .v3 (.str kD)) (.call "count_told" (.d .v4 (.str mH) .i0 .v5))) (.r (.cmp .eq .v3 (.str [105,110])) (.call "in_told" (.b (.call "bounds" (.c .v0 .v1 (.ix .v2 .i1))) .v5))) (.iff (.cmp .eq .v3 (.str [101,113,117,97,108])) (.b (.ag 6 (.call "bounds" (.c .v0 .v1 (.ix .v2 .i1)))) (.ret (.call "and_told" (.b (.call "in_told" (.b .v6 .v5)) (.call "in_told" (.b .v5 .v6)))))) .nil) (.ret (.call "count_told" (.d .v4 .v3 (.ix .v2 .i1) .v5)))⟩
def ZQ:Fn:=⟨1,1,.a (.ret (.call "is_below" (.b .v0 (.bin .add (.con "GREATEST_SIZE") .i1))))⟩
noncomputable def u1:Fn:=⟨2,2,.a (.ret (.bin .add (.bin .mul (.lst (.a .v1)) (.bi .len (.a (.ix .v0 .i0)))) (.bin .mul (.lst (.a (.bin .mul .v1 .v1))) (.bi .len (.a (.ix .v0 .i1))))))⟩
def As:Fn:=⟨2,2,.a (.ret (.bi .sum (.a (.call "widths" (.b .v0 .v1)))))⟩
def Qk:Fn:=⟨1,1,.a (.iff (.not (.call "is_size" (.a .v0))) (.a (.raise "NoSize" (.a (.str [97,32,115,105,122,101,32,105,115,32,97,32,119,104,111,108,101,32,110,117,109,98,101,114,32,102,114,111,109,32,48,32,116,111,32,52])))) .nil)⟩
def a8:Fn:=⟨3,4,.c (.ex (.call "check_size" (.a .v1))) (.ag 3 (.call "bits" (.b .v0 .v1))) (.iff (.cmp .gt .v3 .v2) (.a (.dr "TooBig" "bits" .v3)) .nil)⟩
def Xn:Ss:=.b (.app 3 (.bin .band .v4 (.bin .sub (.bin .shl .i1 .v5) .i1))) (.ag 4 (.bin .shr .v4 .v5))
def JK:Fn:=⟨3,7,.cons (.ex (.call "check_size" (.a .v1))) (.cons (.iff (.not (.call "is_below" (.b .v2 (.bin .shl .i1 (.call "bits" (.b .v0 .v1)))))) (.a (.raise "NoCode" (.a (.str [97,32,99,111,100,101,32,105,115,32,97,32,119,104,111,108,101,32,110,117,109,98,101,114,32,102,114,111,109,32,48,32,116,111,32,50,32,116,111,32,116,104,101,32,98,105,116,115,32,108,101,115,115,32,49])))) .nil) (.f (.set 3 (.lst .nil)) (.ag 4 .v2) (.for [5] true (.seq (.call "widths" (.b .v0 .v1))) Xn) (.ag 6 (.bi .len (.a (.ix .v0 .i0)))) (.ret (.tup (.c .v1 (.bi .tuple (.a (.eF .v3 .v6))) (.bi .tuple (.a (.gv .v3 .v6))))))))⟩
noncomputable def jf:Fn:=⟨2,2,.b (.iff (.cmp .gt (.bi .len (.a .v1)) (.con "MOST_SAYINGS")) (.a (.raise "Crowded" (.a (.str [97,32,116,104,101,111,114,121,32,104,97,115,32,97,116,32,109,111,115,116,32,116,119,101,108,118,101,32,115,97,121,105,110,103,115])))) .nil) (.ret (.tup (.b .v0 (.bi .tuple (.a .v1)))))⟩
def wn:E:=.comp [0,1] false 2 [3] (.seq (.call "pairs_of" (.b .v1 (.call "every" (.a .v1))))) false (.bl true) (.tup (.c .v2 .v0 .v1))
def zv:Ss:=.a (.ext 2 wn)
def Xm:E:=.comp [0] k9 1 [3] (.aC .v1) y9 (.bl k9) (.tup (.c .v1 .v0 .v0))
def Wu:Ss:=.a (.ext 2 Xm)
noncomputable def Zs:Fn:=⟨2,4,.d (.set 2 (.lst .nil)) (.for [3] k9 (.seq (.ix .v0 .i0)) Wu) (.for [3] k9 (.seq (.ix .v0 .i1)) zv) (.ret .v2)⟩
noncomputable def Jt:Fn:=⟨3,3,.b (.r (.or (.not (.dt .v0 .tuple)) (.cmp .ne (.bi .len (.a .v0)) .v2)) (.bl y9)) (.ret (.and (.dt (.ix .v0 .i0) .str) (.cmp .eq (.ix .v0 .i0) .v1)))⟩
def ji:Fn:=⟨3,3,.f (.bK 0 "Cases" "words" (.ix .v1 .i0)) (.bK 0 "Cases" "sayings" (.ix .v1 .i1)) (.bK 0 "Cases" "size" .v2) (.bX 0 "Cases" "places" (.call "places_of" (.b (.ix .v1 .i0) .v2))) (.bK 0 "Cases" "whole" (.bin .sub (.bin .shl .i1 (.bi .len (.cons (.aA .v0 "Cases" "places") .nil))) .i1))⟩
def wh:Fn:=⟨2,2,.a (.ret (.call "world_of" (.cons (.aA .v0 "Cases" "words") (.cons (.aA .v0 "Cases" "size") (.a .v1)))))⟩
def Xu:Fn:=⟨4,5,.b (.ag 4 (.tup (.cons (.bQ .v0 "Cases" "world_of_code" "Cases.world_of_code" (.a .v2)) (.cons (.bQ .v0 "Cases" "world_of_code" "Cases.world_of_code" (.a .v3)) .nil)))) (.ret (.call "told" (.cons (.aA .v0 "Cases" "words") (.b .v4 (.ix (.aA .v0 "Cases" "sayings") .v1)))))⟩
def Wq:Fn:=⟨4,4,.c (.r (.or (.not (.dt .v1 .str)) (.or (.not (.call "is_whole" (.a .v2))) (.not (.call "is_whole" (.a .v3))))) .i0) (.r (.cmp .fB (.tup (.c .v1 .v2 .v3)) (.aA .v0 "Cases" "places")) .i0) (.ret (.bin .shl .i1 (.dM .cc (.aA .v0 "Cases" "places") (.a (.tup (.c .v1 .v2 .v3))))))⟩
def zc:Fn:=⟨4,6,.f (.iff (.call "is_tuple_of" (.c .v1 (.str iC) .i2)) (.b (.ag 4 (.ix .v1 .i1)) (.ret (.and (.call "is_below" (.b .v4 (.bi .len (.cons (.aA .v0 "Cases" "sayings") .nil)))) (.cmp .d4 (.bQ .v0 "Cases" "truth" "Cases.truth" (.c .v4 .v2 .v3)) (.bl false))))) .nil) (.r (.not (.call "is_tuple_of" (.c .v1 (.str oU) (.int 6)))) (.bl false)) (.ag 5 (.bQ .v0 "Cases" "bit_of" "Cases.bit_of" (.c (.ix .v1 .i1) (.ix .v1 .i2) (.ix .v1 .i3)))) (.r (.cmp .eq (.bin .band (.bin .band .v5 .v3) (.inv .v2)) .i0) (.bl false)) (.ret (.and (.bQ .v0 "Cases" "is_shown" "Cases.is_shown" (.c (.ix .v1 .i4) (.bin .bor .v2 .v5) .v3)) (.bQ .v0 "Cases" "is_shown" "Cases.is_shown" (.c (.ix .v1 (.int 5)) .v2 (.bin .band .v3 (.inv .v5))))))⟩
def js:Fn:=⟨3,4,.c (.ex (.call "check_bits" (.c (.ix .v0 .i0) .v1 (.con "MOST_BITS")))) (.ag 3 (.make "Cases" "Cases.__init__" (.b .v0 .v1))) (.ret (.bQ .v3 "Cases" "is_shown" "Cases.is_shown" (.cons .v2 (.cons .i0 (.cons (.aA .v3 "Cases" "whole") .nil)))))⟩
def Xk:Ss:=.a (.iff (.dt .v2 .tuple) (.a (.ext 1 (.call "names_in" (.a .v2)))) .nil)
noncomputable def jw:Fn:=⟨1,3,.d (.r (.cmp .eq (.ix .v0 .i0) (.str nc)) (.lst (.a (.ix .v0 .i1)))) (.set 1 (.lst .nil)) (.for [2] k9 (.seq (.gv .v0 .i1)) Xk) (.ret .v1)⟩
def Xj:Ss:=.a (.iff (.cmp .mem (.ix .v5 .i0) .v2) (.a (.ag 3 (.bin .bor .v3 (.bin .shl .i1 .v4)))) .nil)
def WP:Fn:=⟨2,6,.d (.ag 2 (.call "names_in" (.a .v1))) (.ag 3 .i0) (.for [4,5] false (.cx (.aA .v0 "Cases" "places")) Xj) (.ret .v3)⟩
def Zd:E:=.cmp .gt .v0 .i0
def xi:Ss:=.b (.ag 0 (.bin .band .v0 (.bin .sub .v0 .i1))) (.ag 1 (.bin .add .v1 .i1))
def WH:Fn:=⟨1,2,.c (.ag 1 .i0) (.la 100000 Zd xi) (.ret .v1)⟩
def Zf:E:=.comp [0] k9 1 [0] (.seq (.ix .v1 .i1)) y9 (.bl k9) (.call "needed_bits" (.cons (.aA .v1 "Search" "cases") (.a .v0)))
def Jg:Fn:=⟨3,3,.b (.bK 0 "Search" "cases" (.make "Cases" "Cases.__init__" (.b .v1 .v2))) (.bX 0 "Search" "needs" Zf)⟩
noncomputable def jc:Fn:=⟨2,2,.a (.ret (.bQ .v0 "Search" "told_of_case" "Search.told_of_case" (.cons .v1 (.cons .i0 (.cons (.aA (.aA .v0 "Search" "cases") "Cases" "whole") .nil)))))⟩
noncomputable def zg:E:=.comp [0] k9 1 [0,3,2] (.seq .v1) y9 (.bl k9) (.bin .band (.bin .band (.ix (.aA .v1 "Search" "needs") .v0) .v2) (.inv .v3))
def je:Fn:=⟨4,6,.c (.ag 4 zg) (.ag 5 (.fG "how_many_set" .v4)) (.ret (.bin .sub (.fv (.bin .band .v5 (.neg .v5))) .i1))⟩
noncomputable def qa:Ss:=.c (.ag 6 (.bQ (.aA .v0 "Search" "cases") "Cases" "truth" "Cases.truth" (.c .v5 .v2 .v3))) (.r (.cmp .d4 .v6 (.bl false)) (.tup (.b (.str lh) (.tup (.b (.str iC) .v5))))) (.iff (.d7 false .v6) (.a (.app 4 .v5)) .nil)
def aI:Fn:=⟨4,7,.d (.set 4 (.lst .nil)) (.for [5] k9 (.seq .v1) qa) (.r (.cmp .eq .v4 (.lst .nil)) (.tup (.cons (.str fO) (.cons (.bQ (.aA .v0 "Search" "cases") "Cases" "world_of_code" "Cases.world_of_code" (.a .v2)) .nil)))) (.ret (.bQ .v0 "Search" "told_of_halves" "Search.told_of_halves" (.c .v4 .v2 .v3)))⟩
noncomputable def aE:Fn:=⟨4,11,.k (.ag 4 (.bQ .v0 "Search" "chosen_place" "Search.chosen_place" (.c .v1 .v2 .v3))) (.ag 5 (.bin .shl .i1 .v4)) (.ag 6 (.bQ .v0 "Search" "told_of_case" "Search.told_of_case" (.c .v1 (.bin .bor .v2 .v5) .v3))) (.r (.or (.cmp .eq (.ix .v6 .i0) (.str fO)) (.bQ (.aA .v0 "Search" "cases") "Cases" "is_shown" "Cases.is_shown" (.c (.ix .v6 .i1) .v2 .v3))) .v6) (.ag 7 (.bQ .v0 "Search" "told_of_case" "Search.told_of_case" (.c .v1 .v2 (.bin .band .v3 (.inv .v5))))) (.r (.cmp .eq (.ix .v7 .i0) (.str fO)) .v7) (.iP [8,9,10] (.ix (.aA (.aA .v0 "Search" "cases") "Cases" "places") .v4)) (.ret (.tup (.b (.str lh) (.tup (.g (.str oU) .v8 .v9 (.var 10) (.ix .v6 .i1) (.ix .v7 .i1))))))⟩
def zG:Fn:=⟨2,2,.b (.ex (.call "check_bits" (.c (.ix .v0 .i0) .v1 (.con "MOST_BITS")))) (.ret (.bQ (.make "Search" "Search.__init__" (.b .v0 .v1)) "Search" "told_of_sayings" "Search.told_of_sayings" (.a (.b9 (.bi .len (.a (.ix .v0 .i1)))))))⟩
def ze:Ss:=.c (.iP [4,5] (.call "found" (.b .v0 .v3))) (.r (.cmp .eq .v4 (.str fO)) (.tup (.b .v5 .v2))) (.gC .v2 .v5)
def zm:Fn:=⟨2,6,.cons (.ex (.call "check_bits" (.c (.ix .v0 .i0) .v1 (.con "MOST_BITS")))) (.cons (.set 2 (.share (.lst .nil))) (.cons (.for [3] true (.aC (.bin .add .v1 .i1)) ze) (.a (.dr "NoWorld" "papers" .v2))))⟩
def WG:Fn:=⟨1,1,.a (.ret (.lst (.c .v0 .i0 (.bi .sum (.a (.eF .v0 .i1))))))⟩
noncomputable def Qy:Fn:=⟨2,3,.c (.iff (.not (.chain .le .lt .i0 (.ix .v0 .i2) (.bin .pow (.int 10) (.int 18)))) (.b (.gy .v0 .i2 2 (.bi .divmod (.b (.ix .v0 .i2) .v1))) (.ret .v2)) .nil) (.cR .v0 .i2 (.bin .mod (.bin .add (.bin .add (.bin .mul (.ix .v0 .i2) (.int 742939)) (.bin .mul (.ix .v0 .i1) (.int 65063))) (.int 40503)) (.int 16777213))) (.ret (.bin .mod (.bin .fdiv (.bin .mul (.ix .v0 .i2) (.bin .add (.bin .mod (.ix .v0 .i2) (.int 4093)) (.int 7))) (.int 64)) .v1))⟩
def Ji:Ss:=.c (.ag 8 (.bin .add (.bin .add (.eF .v4 .v6) (.ix .v2 (.bin .mod (.bin .add .v3 (.bin .mul (.int 5) .v5)) (.int 26)))) (.gv .v4 .v6))) (.iff (.cmp .mem .v8 (.eC vZ [fg,kD,lB,mH,[101,97,99,104],[105,110],nV,[111,114],nT,m2,fF,nz,[107,105,110,100],[116,105,101],[115,97,121]])) (.a (.ag 8 (.bin .add .v8 (.str [113])))) .nil) (.app 7 .v8)
def zn:Ss:=.a (.ag 4 (.bin .add .v4 (.ix .v2 (.call "_law_draw" (.b .v0 (.int 26))))))
def Zu:E:=.comp [0] k9 1 [2,3] (.aC .v1) y9 (.bl k9) (.bin .mul (.ix .v1 .v2) (.bin .add .v0 .i1))
def zt:Fn:=⟨2,9,.m (.ag 2 (.str vP)) (.ag 3 (.call "_law_draw" (.b .v0 (.int 26)))) (.r (.cmp .eq (.call "_law_draw" (.b .v0 .i3)) .i0) Zu) (.ag 4 (.str [])) (.for [5] true (.aC (.call "_law_draw" (.b .v0 (.int 6)))) zn) (.ag 6 (.call "_law_draw" (.b .v0 (.bin .add (.bi .len (.a .v4)) .i1)))) (.set 7 (.lst .nil)) (.for [5] true (.aC .v1) Ji) (.ret .v7)⟩
def wu:Fn:=⟨1,2,.f (.ag 1 (.lst (.d (.bE .v0 true ["NoSize"]) (.bE .v0 true ["NoPair"]) (.bE .v0 true ["NoName"]) (.bE .v0 true ["NoCode"])))) (.ag 1 (.bin .add .v1 (.lst (.d (.bE .v0 true ["NoText"]) (.bE .v0 true ["Crowded"]) (.bE .v0 true ["TooBig"]) (.bE .v0 true ["NoWorld"]))))) (.ag 1 (.bin .add .v1 (.lst (.d (.bE .v0 true ["NoRenaming"]) (.bE .v0 true ["NoNumber"]) (.bE .v0 true ["Broken"]) (.bE .v0 true ["Kept"]))))) (.ag 1 (.bin .add .v1 (.lst (.d (.bE .v0 true ["Unlike"]) (.bE .v0 true ["NoRow"]) (.bE .v0 true ["NoStand"]) (.bE .v0 true ["ValueError"]))))) (.ret .v1)⟩
def WM:E:=.comp [0] k9 1 [0] (.aC (.int 16)) y9 (.bl k9) (.or (.cmp .eq .v0 .v1) (.cmp .eq .v0 (.int 15)))
def jD:Fn:=⟨1,1,.a (.ret WM)⟩
def jy:Fn:=⟨1,2,.c (.ag 1 (.lst (.cons .i0 (.cons .i1 (.cons .i2 (.cons .i3 (.cons .i4 (.cons .i0 (.cons .i1 (.g .i2 .i3 .i4 (.bin .sub (.bin .sub .i0 .i1) (.call "_law_draw" (.b .v0 .i3))) (.bin .add (.int 5) (.call "_law_draw" (.b .v0 (.int 5)))) (.bin .pow (.int 10) (.int 30)))))))))))) (.ag 1 (.bin .add .v1 (.lst (.d (.bl true) (.bl false) .ak (.str [50]))))) (.ret (.ix .v1 (.call "_law_draw" (.b .v0 (.bi .len (.a .v1))))))⟩
noncomputable def zx:Fn:=⟨2,2,.a (.ret (.bin .add (.bin .mul (.bi .len (.a (.ix .v0 .i0))) .v1) (.bin .mul (.bin .mul (.bi .len (.a (.ix .v0 .i1))) .v1) .v1)))⟩
def aT:Fn:=⟨3,5,.cons (.ag 3 .ak) (.cons (.d9 (.iff (.cmp .eq .v0 .i0) (.ex "holds" (.c .v1 .v2 (.tup (.b (.str iC) .i0)))) (.iff (.cmp .eq .v0 .i1) (.ex "found" (.b .v1 .v2)) (.ex "smallest" (.b .v1 .v2)))) "WorldError" 4 (.b (.ag 3 (.tup (.b (.call "_law_classes" (.a .v4)) .i0))) (.iff (.bE .v4 true ["TooBig"]) (.a (.ag 3 (.tup (.b (.call "_law_classes" (.a .v4)) (.xf 4 "bits"))))) .nil))) (.a (.ret .v3)))⟩
def xF:Fn:=⟨2,2,.c (.r (.or (.not (.dt .v1 .int)) (.or (.dt .v1 .bool) (.not (.chain .le .le .i0 .v1 .i4)))) (.tup (.b (.call "_law_class" (.a .i0)) .i0))) (.r (.cmp .gt (.call "_law_bits" (.b .v0 .v1)) (.int 16)) (.tup (.b (.call "_law_class" (.a (.int 6))) (.call "_law_bits" (.b .v0 .v1))))) (.ret .ak)⟩
def wm:Fn:=⟨2,4,.cons (.ag 2 .ak) (.cons (.d9 (.ex "theory_of" (.b .v0 .v1)) "WorldError" 3 (.a (.ag 2 (.call "_law_classes" (.a .v3))))) (.a (.ret .v2)))⟩
def Je:Ss:=.b (.ag 5 (.eu (.bin .add (.ix (.ix .v0 .i0) .i0) (.ix (.ix .v0 .i0) .i1)) (.bin .add (.ix .v3 .i1) (.ix .v3 .i2)))) (.r (.and (.dh y9 (.ix (.ix .v4 .i1) .i1) 5) (.cmp .eq (.gg 5 (.ix (.ix .v4 .i1) .i1)) .i0)) (.bl y9))
def Ql:Fn:=⟨2,6,.f (.iP [2,3] (.call "found" (.b .v0 .v1))) (.r (.and (.cmp .eq .v1 .i0) (.cmp .ne (.ix .v0 .i1) (.tup .nil))) (.and (.cmp .eq .v2 (.str lh)) (.and (.call "holds" (.c .v0 .v1 .v3)) (.not (.call "holds" (.c .v0 .v1 (.tup (.b (.str iC) (.int 13))))))))) (.r (.or (.cmp .ne .v2 (.str fO)) (.cmp .ne (.ix .v3 .i0) .v1)) (.bl false)) (.for [4] true (.seq (.ix .v0 .i1)) Je) (.ret (.bl true))⟩
def Wc:Ss:=.c (.ag 5 (.tup (.b .v2 (.bin .add (.ix .v0 .i1) (.tup (.b (.tup (.b (.str fg) .v4)) (.tup (.b (.str kD) .v4)))))))) (.iP [6,7] (.call "found" (.b .v5 .v1))) (.r (.or (.cmp .ne .v6 (.str lh)) (.not (.call "holds" (.c .v5 .v1 .v7)))) (.bl false))
noncomputable def Qf:E:=.comp [0] k9 1 [] (.seq (.bin .add (.eF (.ix .v2 .i1) .i1) (.eF (.ix .v2 .i0) .i1))) y9 (.bl k9) (.tup (.b (.str nc) .v0))
def Wg:Fn:=⟨2,8,.d (.ag 2 (.ix .v0 .i0)) (.ag 3 Qf) (.for [4] k9 (.seq (.bin .add (.lst (.a (.tup (.a (.str fF))))) .v3)) Wc) (.ret (.bl k9))⟩
def zM:Ss:=.a (.r (.cmp .ne (.call "_law_caught" (.c (.var 12) .v7 (.cmp .eq .v8 .i1))) (.tup (.b (.call "_law_class" (.a .i0)) .i0))) (.bl false))
def ZN:Ss:=.c (.ag 12 (.bin .mod (.bin .add (.var 10) (.var 11)) .i3)) (.ag 13 (.call "_law_caught" (.c (.var 12) .v7 .v8))) (.iff (.and (.d7 false .v9) (.and (.cmp .eq (.var 12) .i2) (.and (.cmp .eq .v8 .i0) (.cmp .ne (.ix .v7 .i1) (.tup .nil))))) (.a (.r (.cmp .ne (.var 13) (.tup (.b (.call "_law_class" (.a (.int 7))) .i0))) (.bl false))) (.a (.r (.cmp .ne (.var 13) .v9) (.bl false))))
def W4:E:=.comp [0] k9 1 [] (.seq .v3) y9 (.bl k9) (.tup (.b (.str fg) (.tup (.b (.str nc) .v0))))
def bM:Fn:=⟨1,17,.cons (.set 1 (.share (.call "_law_start" (.a .v0)))) (.cons (.ag 2 (.call "_law_draw" (.b .v1 (.int 5)))) (.cons (.ag 3 (.call "_law_names" (.b .v1 (.bin .add .v2 (.call "_law_draw" (.b .v1 (.int 5))))))) (.cons (.ag 4 (.tup (.b (.bi .tuple (.a (.bi .sorted (.a (.eF .v3 .v2))))) (.bi .tuple (.a (.bi .sorted (.a (.gv .v3 .v2)))))))) (.cons (.ag 5 W4) (.cons (.ag 6 (.bi .min (.b (.bi .len (.a .v5)) (.call "_law_draw" (.b .v1 .i3))))) (.cons (.ag 7 (.tup (.b .v4 (.bi .tuple (.a (.eF .v5 .v6)))))) (.cons (.ag 8 (.call "_law_size" (.a .v1))) (.cons (.ag 9 (.call "_law_due" (.b .v4 .v8))) (.cons (.ag 10 (.call "_law_draw" (.b .v1 .i3))) (.cons (.for [11] true (.aC .i3) ZN) (.m (.r (.and (.d7 false .v9) (.not (.call "_law_answered" (.b .v7 .v8)))) (.bl false)) (.iff (.and (.d7 false .v9) (.cmp .lt .v8 .i2)) (.a (.for [12] true (.seq (.lst (.b .i1 .i2))) zM)) .nil) (.r (.and (.d7 false .v9) (.and (.cmp .gt .v8 .i0) (.not (.call "_law_papers_told" (.b .v7 .v8))))) (.bl false)) (.ag 14 (.bin .add (.int 12) (.call "_law_draw" (.b .v1 .i3)))) (.ag 15 (.call "_law_crowded" (.b .v4 (.bin .mul (.lst (.a (.tup (.b (.str fg) (.tup (.a (.str fF))))))) (.var 14))))) (.r (.or (.cmp .ne (.var 15) (.ix (.lst (.b .ak (.call "_law_class" (.a (.int 5))))) (.bi .int (.a (.cmp .gt (.var 14) (.int 12)))))) (.cmp .ne (.call "theory_of" (.b .v4 (.lst (.b .ak (.int 7))))) (.tup (.b .v4 (.tup (.b .ak (.int 7))))))) (.bl false)) (.ag 16 (.bin .add (.bi .list (.a (.ix .v7 .i1))) (.bin .mul (.lst (.a (.tup (.b (.str fg) (.tup (.a (.str fF))))))) (.bin .sub (.int 12) (.bi .len (.a (.ix .v7 .i1))))))) (.ag 9 (.tup (.b .v4 (.bi .tuple (.a (.var 16)))))) (.ret (.and (.cmp .eq (.call "theory_of" (.b .v4 (.var 16))) .v9) (.cmp .eq (.var 16) (.bi .list (.a (.ix .v9 .i1)))))))))))))))))⟩
def prog:Prog:=⟨[("is_whole",Nz),("is_below",Wx),("pairs_of",WJ),("gathered",ZL),("common",vq),("either",y4),("without",WR),("turned",J9),("joined",j9),("closed",yE),("same",t7),("every",vv),("value_of_name",zo),("made",Zt),("counts",J7),("bounds",bF),("settled",xS),("not_told",xK),("and_told",zL),("or_told",jW),("in_told",zY),("count_told",Jz),("told",cA),("fact_told",aR),("is_size",ZQ),("widths",u1),("bits",As),("check_size",Qk),("check_bits",a8),("world_of",JK),("theory_of",jf),("places_of",Zs),("is_tuple_of",Jt),("Cases.__init__",ji),("Cases.world_of_code",wh),("Cases.truth",Xu),("Cases.bit_of",Wq),("Cases.is_shown",zc),("holds",js),("names_in",jw),("needed_bits",WP),("how_many_set",WH),("Search.__init__",Jg),("Search.told_of_sayings",jc),("Search.chosen_place",je),("Search.told_of_case",aI),("Search.told_of_halves",aE),("found",zG),("smallest",zm),("_law_start",WG),("_law_draw",Qy),("_law_names",zt),("_law_classes",wu),("_law_class",jD),("_law_size",jy),("_law_bits",zx),("_law_caught",aT),("_law_due",xF),("_law_crowded",wm),("_law_answered",Ql),("_law_papers_told",Wg),("law",bM)],[("WorldError","ValueError"),("NoSize","WorldError"),("NoPair","WorldError"),("NoName","WorldError"),("NoCode","WorldError"),("NoText","WorldError"),("Crowded","WorldError"),("TooBig","WorldError"),("NoWorld","WorldError"),("NoRenaming","WorldError"),("NoNumber","WorldError"),("Broken","WorldError"),("Kept","WorldError"),("Unlike","WorldError"),("NoRow","WorldError"),("NoStand","WorldError")],[("GREATEST_SIZE",.int 4),("MOST_SAYINGS",.int 12),("MOST_BITS",.int 16)]⟩
abbrev k8(m:Nat):Fx:=⟨call prog m,prog.cl,prog.con⟩
noncomputable abbrev W.i (n:Nat):W:=.v (.int (n:Int))
noncomputable abbrev W.r (n:Nat):W:=.v (.ref n)
noncomputable abbrev W.s (t:Tx):W:=.v (.str t)
noncomputable abbrev W.b (b:Bool):W:=.v (.bl b)
noncomputable abbrev W.t (t:List D):W:=.v (.tup t)
noncomputable abbrev W.l (t:List D):W:=.v (.lst t)
abbrev sv(d:D):Option W:=y0 (.v d)
abbrev si(n:Nat):Option W:=y0 (.i n)
def nk(m j:Nat)(h:j<=m):∃k,m=k+j:=⟨m-j,by omega⟩
noncomputable abbrev D.n (n:Nat):D:=.int (n:Int)
theorem Qw(f):∀ds,(∀d∈ds,step d h=.ok (f d) h)->GA step ds h=.ok (ds.filterMap f) h
|[],_=>rfl
|d::ds,a=>by have b:=Qw f ds λd c=>a d (Aa3 _ c);rw[GA,a d Aa4];simp only[b];cases q:f d<;>simp[q]
def vX(f)(m:Gj F it τ h=.ok ds h)(e:ds.length<=bp)
 (n:∀d∈ds,∃L b,Gq tg one d (Aa1 k u0++az.map λj=>Gi τ j)=y0 L/\Gp F c L h=.ok b h/\(if b=k9 then∃w y,eval F elt L h=.ok w h/\w.d=y0 y/\f d=y0 y else f d=u0)):
 eval F (.comp tg one k az it k9 c elt) τ h=.ok (.own (ds.filterMap f)) h:=by
 rw[eval,m,R.ae,if_pos e,Qw f]
 .rfl
 intro d i;obtain⟨L,b,g,o,a⟩:=n d i;rw[g];show((Gp F c L h).bind _)=_;rw[o];cases b with
|true=>obtain⟨w,y,e1,e2,l⟩:=a;simp[e1,e2,l]
|false=>rw[if_neg (by simp)]at a;simp[a]
def zk(f)(g:Gj F it τ h=.ok ds h)(a:ds.length<=bp)
 (i:∀d∈ds,∃L,Gq tg one d (Aa1 k u0++az.map λj=>Gi τ j)=y0 L/\∃w,eval F elt L h=.ok w h/\w.d=y0 (f d)):
 eval F (.comp tg one k az it y9 c elt) τ h=.ok (.own (ds.map f)) h:=by
 rw[eval,g,R.ae,if_pos a,Qw (λd=>y0 (f d))]
 .simp[List.filterMap_eq_map']
 intro d e;obtain⟨L,b,w,e1,e2⟩:=i d e;rw[b];simp[e1,e2]
def ZK(bnd)(body)(d)(ds)(τ)(h):Gr bnd body (d::ds) τ h=match bnd d τ with
|none=>.fail
|some c=>match body c h with
|.next a b=>Gr bnd body ds a b
|.cont a b=>Gr bnd body ds a b
|.brk a b=>.next a b
|o=>o:=rfl
@[simp]theorem FH(bnd)(body)(τ)(h):Gr bnd body [] τ h=.next τ h:=rfl
def wc(b:bnd d τ=y0 τ1)(a:body τ1 h=.next τ2 h2):Gr bnd body (d::ds) τ h=Gr bnd body ds τ2 h2:=by rw[ZK,b];simp[a]
@[simp]theorem Ki(i)(d)(τ):Gq [i] k9 d τ=y0 (GC τ i (.v d)):=rfl
@[simp]theorem Kh(tg)(ds)(τ):Gq tg y9 (.tup ds) τ=aW tg ds τ:=rfl
def zl(a b:Nat):Ke (a:Int) (b:Int)=y0 ((a&&&b:Nat):Int):=by simp[Ke]
def Wy(a b:Nat):kP (a:Int) (b:Int)=y0 ((a|||b:Nat):Int):=by simp[kP]
@[simp]theorem Ax(i j):Gk .mod i j=if 0<j then y0 (i%j)else none:=rfl
@[simp]theorem LP(i j):Gk .fdiv i j=if 0<j/\j<ly then y0 (i/j)else none:=rfl
@[simp]theorem We(i j):Gk .band i j=Ke i j:=rfl
@[simp]theorem ww(i j):Gk .bor i j=kP i j:=rfl
def Jl(a b:Nat)(h:a<2^64):Gk .mul (a:Int) (b:Int)=y0 ((a*b:Nat):Int):=by
 have c:(-fA<a/\a<fA)\/(-fA<b/\b<fA):=by rw[Kf];omega
 show(if _ then _ else _)=_;rw[if_pos c,Al6]
def iQ(k:Nat)(h:k<=1000000):Gk .shl 1 (k:Int)=y0 ((2^k:Nat):Int):=by
 have a:0<=(k:Int)/\k<=BP/\(1:Int).natAbs<kK:=by rw[GY,GB];exact⟨by lia,by lia,by decide⟩
 show(if _ then _ else _)=_;rw[if_pos a,Int.one_mul,Ad];simp
def xO(t k:Nat):Gk .shr (t:Int) (k:Int)=y0 ((t/2^k:Nat):Int):=by simp[Gk,Int.natCast_pow]
def Q9(t k):(t/2^k&&&1)=(t.testBit k).toNat:=by have:=Ak8 (t/2^k) 1;rw[this];exact Wf.h8 t k
def pD(p:Nat×Nat):D:=.tup [.int (p.1:Nat),.int (p.2:Nat)]
def CK(n t:Nat)(m):(((Ab1 m).map λi=>D.n i).filterMap λd=>match d with
|.int i=>if t.testBit i.toNat then y0 (.tup [.int (i/(n:Int)),.int (i%(n:Int))])else u0
|_=>u0)=(((Ab1 m).filter t.testBit).map λk=>(k/n,k%n)).map pD:=by
 induction Ab1 m with
|nil=>rfl
|cons x c a=>
  by_cases b:t.testBit x=k9
  .simp[b,pD,a]
  .simp[b,a]
def iB(m)(b:d∈(Ab1 m).map λi=>D.n i):∃i:Nat,i<m/\d=.n i:=by obtain⟨i,a,rfl⟩:=Ac0.mp b;exact⟨i,Ac1.mp a,rfl⟩
def jt(a:n<=20):n*n<=400:=Ab6 (Ah3 a a) (by decide)
def yR(a:n<=20):n*n<=bp:=Ab6 (jt a) (by rw[Gg];decide)
def xn(e:eval F a τ h=.ok (.i m) h)(c:m<=1000000):Gj F (.aC a) τ h=.ok ((Ab1 m).map λi=>.n i) h:=by
 have b:-kJ<=m/\m<kJ:=by rw[Ka];lia
 rw[Gj,e,R.ae,int?_int,R.au,R.ae,if_pos b,Ad]
def M7(a:n<=20)(e:Gi τ i=si n/\Gi τ j=si n):Gj F (.aC (.bin .mul (.var i) (.var j))) τ h=.ok ((Ab1 (n*n)).map λi=>.n i) h:=by have b:=jt a;refine xn ?_ (by lia);simp[e.1,e.2,(Jl n n (by lia))]
def zq(k n t)(h)(c:n<=20):call prog (k+1) "pairs_of" [.i n,.i t] h=.ok (.own ((Wf.ax n t).map pD)) h:=by
 rw[Ga rfl _ _ _ rfl];simp only[WJ,execs,exec,Jy,GI];rw[vX (λd=>match d with
|.int i=>if t.testBit i.toNat then y0 (.tup [.int _,.int (i%n)])else u0
|_=>u0) (M7 c (by simp[Gi])) (by simpa using yR c)]
 .rw[CK];simp[Wf.ax]
 .intro d f;obtain⟨i,g,rfl⟩:=iB _ f;have a:0<n:=by cases n with
|zero=>simp at g
|succ m=>lia
  have b:0<n/\n<ly:=by rw[GQ];lia
  have j:Ke ((t/2^i:Nat)) 1=y0 (((t.testBit i).toNat:Nat):Int):=by rw[show 1=((1:Nat):Int)from rfl,zl,Q9]
  refine⟨_,t.testBit i,rfl,?_,?_⟩
  .unfold Gp;simp only[eval,Gi,Ad9,List.replicate_zero,Ab4,Ap7,Ag1,GC,Gm,R.ae,GE,xO,We,j,R.au,yT];cases t.testBit i<;>rfl
  .by_cases e:t.testBit i=k9
   .simp[e,Gi,b,a]
   .simp[e]
end M
local macro_rules|`(tactic|simp![$xs,*])=>do
 let y:=("M.exec M.execs M.Gp M.eval M.Gd M.Gx M.Gj M.Gs M.GI M.Gi M.Gm M.GC M.aW M.R.ae M.R.aB M.R.au M.O.bf M.O.di M.O.eZ M.W.mr M.W.gG M.W.bZ M.W.fb M.W.gZ List.map_cons List.map_nil List.cons_append List.nil_append Nat.reduceSub List.replicate_succ List.replicate_zero M.GS Bool.not_true Bool.not_false M.GE Option.bind_some M.Kv M.Kx M.Kw M.Kg M.Kq M.Kt M.int?_int M.Gb M.Gv M.Gz M.GG M.Ki M.Kh".splitOn " ").toArray.map λx=>Lean.mkNode ``Lean.Parser.Tactic.simpLemma #[Lean.mkNullNode,Lean.mkNullNode,Lean.mkIdent (`_root_++x.toName)]
 `(tactic|simp only[$y,*,$xs,*])
namespace M
def Ls(f:n<=20)(e:a<n)(d:b<n)(h):
 execs F xh [si n,y0 l,si t,si a,si b] h=
  .next [si n,y0 l,si (t|||2^(a*n+b)),si a,si b] h:=by
 have c:Gk .shl 1 _=y0 ((2^(a*n+b):Nat):Int):=iQ _ (by have:=Wf.place_lt e d;have:=jt f;lia);rw[Int.natCast_add]at c;simp only[xh,execs,exec,eval,Gi,Gm,R.ae,R.au,R.aB,O.bf,GE,(Jl a n (by lia)),jg,c,ww,(Wy t (2^(a*n+b))),W.mr,GC]
theorem vS(b:n<=20)(h):∀ps t r x y,Wf.fq n ps->∃j L,
 Gr (Gq [3,4] y9) (λτ h=>execs F xh τ h) (ps.map pD++r) [si n,y0 l,si t,x,y] h=
  Gr (Gq [3,4] y9) (λτ h=>execs F xh τ h) r [si n,y0 l,sv (.int ((ps.foldl (λt p=>t|||2^(p.1*n+p.2)) t:Nat):Int)),j,L] h
|[],t,r,x,y,_=>⟨x,y,rfl⟩
|p::ps,t,r,x,y,c=>by have a:=c p Aa4;obtain⟨j,L,e⟩:=vS b h ps (t|||2^(p.1*n+p.2)) r (sv (.int p.1)) (sv (.int p.2)) λq d=>c q (Aa3 _ d);refine⟨j,L,?_⟩;rw[Ab4,Ap7,wc rfl (Ls b a.1 a.2 h),e];rfl
def Bv(k n)(ps)(l)(a:lI l=y0 (ps.map pD))(h)(b:n<=20)(c:Wf.fq n ps):call prog (k+1) "gathered" [.i n,l] h=.ok (.i (Wf.dF n ps)) h:=by rw[Ga rfl _ _ _ rfl];obtain⟨d,f,e⟩:=vS b h ps 0 [] u0 u0 c;rw[Ac3,FH]at e;simp[ZL,a,R.au];rw[show(0)=((0:Nat):Int)from rfl,e];simp[Wf.dF]
def qG(k n)(ps)(h)(b:n<=20)(a:Wf.fq n ps):call prog (k+3) "gathered" [.i n,.bor (ps.map pD)] h=.ok (.i (Wf.dF n ps)) h:=Bv _ n ps _ rfl h b a
def QL(k s t)(h):call prog (k+1) "either" [.i s,.i t] h=.ok (.i (s|||t)) h:=by rw[Ga rfl _ _ _ rfl];simp![y4,ww,Wy]
def BS(k s t)(h):call prog (k+1) "common" [.i s,.i t] h=.ok (.i (s&&&t)) h:=by rw[Ga rfl _ _ _ rfl];simp![vq,We,zl]
def ZF(s t:Nat):Ke (s:Int) (-(t:Int)-1)=y0 ((s-(s&&&t):Nat):Int):=by
 have a:¬(0<=-(t:Int)-1):=by lia
 have c:0<=(s:Int):=by lia
 have b:(-(-(t:Int)-1)-1).toNat=t:=by lia
 rw[Ke,if_pos c,if_neg a,b,Ad]
def xt(k s t)(h):call prog (k+1) "without" [.i s,.i t] h=.ok (.i (s-(s&&&t))) h:=by rw[Ga rfl _ _ _ rfl];simp![WR,We,ZF]
def Cu(q:eval F e τ h=.ok (.own xs) h):Gj F (.seq e) τ h=.ok xs h:=by rw[Gj,q];rfl
def BK(q:eval F e τ h=.ok (.t xs) h):Gj F (.seq e) τ h=.ok xs h:=by rw[Gj,q];rfl
def zF(n t)(a:n<=20):((Wf.ax n t).map pD).length<=bp:=by refine Ab6 ?_ (yR a);simp only[Wf.ax,Aa];exact Ab6 (Ak6 _ _) (by simp)
def HI(k n t)(h)(a:n<=20):call prog (k+4) "turned" [.i n,.i t] h=.ok (.i (Wf.dH n t)) h:=by
 rw[Ga rfl _ _ _ rfl];have b:∀h,eval (k8 (k+3)) xy [si n,si t] h=.ok (.own ((Wf.nQ (Wf.ax n t)).map pD)) h:=by
  intro h;rw[xy,zk (λd=>match d with|.tup [x,y]=>.tup [y,x]|d=>d) (Cu ?_) (zF n t a)]
  .simp[Wf.nQ,pD,Function.comp_def]
  .intro d c;obtain⟨p,e,rfl⟩:=Ac0.mp c;exact⟨_,rfl,_,rfl,rfl⟩
  .simp![zq _ n t h a]
 simp![J9,b,qG k n _ h a (Wf.fh (Wf.bV n t))];rfl
def FZ(k n)(h)(c:n<=20):call prog (k+4) "same" [.i n] h=.ok (.i (Wf.dq n)) h:=by
 rw[Ga rfl _ _ _ rfl];have b:∀h,eval (k8 (k+3)) XN [si n] h=.ok (.own (((Ab1 n).map λa=>(a,a)).map pD)) h:=by
  intro h;rw[XN,zk (λd=>.tup [d,d]) (xn (m:=n) (by simp![]) (by lia)) (by simp;rw[Gg];lia)]
  .simp[pD,Function.comp_def]
  .intro d e;exact⟨_,rfl,_,rfl,rfl⟩
 simp![t7,b,qG k n _ h c (Wf.eh n)];rfl
def rE(k n)(h)(c:n<=20):call prog (k+1) "every" [.i n] h=.ok (.i (2^(n*n)-1)) h:=by
 rw[Ga rfl _ _ _ rfl];have a:=iQ (n*n) (by have:=jt c;lia);have b:((2^(n*n):Nat))-1=((2^(n*n)-1:Nat):Int):=by have:=Af4 (n*n);omega
 simp![vv,(Jl n n (by lia)),a,qo,b]
def vx(x k:Nat)(b:x<2^64)(h:k<=1000000):Gk .shl (x:Int) (k:Int)=y0 ((x*2^k:Nat):Int):=by
 have a:0<=(k:Int)/\k<=BP/\(x:Int).natAbs<kK:=by rw[GY,GB];exact⟨by lia,by lia,by simpa using b⟩
 show(if _ then _ else _)=_;rw[if_pos a,Ad,Al6,Int.natCast_pow];rfl
def BV(c:n<=20)(f:a<n)(g:b<n)(h):
 execs F Jp [si n,si o,si p,si (2^n-1),si t,si a,si b,x7] h=
  .next [si n,si o,si p,si (2^n-1),si (t|||Wf.cV n p b*2^(a*n)),si a,si b,si (Wf.cV n p b)] h:=by
 have d:(p/2^(b*n)&&&(2^n-1))=Wf.cV n p b:=by rw[Ak8];rfl
 have e:=Ab6 (Ah3 (Af9 f) (Aa9 n)) (jt c);simp![Jp,(Jl a n (by lia)),(Jl b n (by lia)),xO,We,zl,d,(vx _ (a*n) (Ab3 (Wf.dP n p b) (Ab6 (Ad6 (by decide) c) (by decide))) (by lia)),ww,Wy]
theorem sE(b:n<=20)(h):∀ps t x y z,Wf.fq n ps->∃j L M,
 Gr (Gq [5,6] y9) (λτ h=>execs F Jp τ h) (ps.map pD) [si n,si o,si p,si (2^n-1),si t,x,y,z] h=
  .next [si n,si o,si p,si (2^n-1),sv (.int ((ps.foldl (λt q=>t|||Wf.cV n p q.2*2^(q.1*n)) t:Nat):Int)),j,L,M] h
|[],t,x,y,z,_=>⟨x,y,z,rfl⟩
|q::ps,t,x,y,z,c=>by have a:=c q Aa4;obtain⟨j,L,M,e⟩:=sE b h ps (t|||Wf.cV n p q.2*2^(q.1*n)) (sv (.int q.1)) (sv (.int q.2)) (si (Wf.cV n p q.2)) λq d=>c q (Aa3 _ d);refine⟨j,L,M,?_⟩;rw[Ab4,wc rfl (BV b a.1 a.2 h),e];rfl
def xN(k n o p)(h)(a:n<=20):call prog (k+2) "joined" [.i n,.i o,.i p] h=.ok (.i (Wf.joinM n o p)) h:=by
 rw[Ga rfl _ _ _ rfl];have b:((2^n:Nat))-1=((2^n-1:Nat):Int):=by have:=Af4 n;lia
 obtain⟨c,d,f,e⟩:=sE a h _ 0 u0 u0 u0 (Wf.bV n o);simp![j9,(iQ n (by lia)),qo,b,zq k n o h a];rw[show(0)=((0:Nat):Int)from rfl,e];simp![];rfl
theorem qX(g:n<=20)(h):∀f r,2^(n*n)-r<f->Wf.gs n t r->∃j,Wf.gu n t j∧
 GN (λτ h=>Gp (k8 (k+2)) jq τ h) (λτ h=>execs (k8 (k+2)) Zp τ h) f [si n,si t,si r,si (r|||Wf.joinM n r r)] h=
  .next [si n,si t,si j,si j] h
|0,r,d,_=>absurd d (Ag2 _)
|f+1,r,d,c=>by
  have o:∀a b,Gp (k8 (k+2)) jq [si n,si t,si a,si b] h=.ok (!u9 (b=a)) h:=by
   intro a b;simp[Gp,jq,Gi,GT];by_cases q:b=a
   .simp[q]
   .have:¬(b=(a:Int)):=by omega
    simp[q,this]
  rw[GN,o,R.aB];by_cases e:r|||Wf.joinM n r r=r
  .refine⟨r,c.done e,?_⟩;simp only[e,decide_true,Al2]
  .have s:=c.grow e;have i:=c.next.lt;obtain⟨j,l,p⟩:=qX g h f (r|||Wf.joinM n r r) (by omega) c.next;refine⟨j,l,?_⟩;simp only[e,decide_false,An9];have m:execs (k8 (k+2)) Zp [si n,si t,si r,si (r|||Wf.joinM n r r)] h=
    .next [si n,si t,si (r|||Wf.joinM n r r),si ((r|||Wf.joinM n r r)|||Wf.joinM n (r|||Wf.joinM n r r) (r|||Wf.joinM n r r))] h:=by
    simp![Zp,xN k n _ _ h g,QL (k+1) _ _ h]
   simp only[m];exact p
def Iy(k n t)(h)(a:n<=4)(c:t<2^(n*n)):∃r,Wf.gu n t r/\call prog (k+3) "closed" [.i n,.i t] h=.ok (.i r) h:=by
 rw[Ga rfl _ _ _ rfl];have d:2^(n*n)-t<100000:=by have:n*n<=16:=Ah3 a a;have:2^_<=2^16:=Ad6 (by decide) this;lia
 obtain⟨r,e,b⟩:=qX (by lia) h 100000 t d (Wf.gs.start c);refine⟨r,e,?_⟩;simp[Gp]at b;simp![yE,xN k n _ _ h (by lia),QL _ _ _ h];rw[b];simp![]
def za(e:exec F s τ h=.next τ1 h1):execs F (.cons s ss) τ h=execs F ss τ1 h1:=by rw[execs,e,O.bf]
def fx(e:exec F s τ h=.next τ1 h1)(g:Gy n (execs F ss τ1 h1)=r):Gy n (execs F (.cons s ss) τ h)=r:=by rw[za e];exact g
def xa(e:exec F s τ h=.ret w h1):execs F (.cons s ss) τ h=.ret w h1:=by rw[execs,e,O.di]
def XH(e:Gp F c τ h=.ok k9 h1):exec F (.iff c a b) τ h=execs F a τ h1:=by rw[exec,e,R.aB]
def nA(e:Gp F c τ h=.ok y9 h1):exec F (.iff c a b) τ h=execs F b τ h1:=by rw[exec,e,R.aB]
def Ww(a:GI e=u0)(q:eval F e τ h=.ok (.own xs) h1):exec F (.ret e) τ h=.ret (.own xs) h1:=by rw[exec,a];simp[q,R.aB]
def Qb(a:GI e=u0)(q:eval F e τ h=.ok (.v d) h1):exec F (.ret e) τ h=.ret (.v d) h1:=by rw[exec,a];simp[q,R.aB]
def wW(e:h[r]?=y0 (.lst xs))(i):dY (.r r) (.v (.int i)) h=bw xs i:=by simp[dY,W.dQ,W.seq?,e]
def oj(x y z:D):bw [x,y,z] 1=y0 y:=rfl
def lT(x y z:D):bw [x,y,z] 2=y0 z:=rfl
def Nl:eB 3 2=y0 2:=rfl
def A8(b:eval F e τ h=.ok (.v d) h)(c:Gi τ i=y0 (.r r))(f:h[r]?=y0 (.lst xs))(g:eB xs.length j=y0 n)(k:Kz d=k9)(a:h2=h.set r (.lst (xs.set n d))):
 exec F (.cR (.var i) (.int j) e) τ h=.next τ h2:=by
 subst a;simp only[exec,b,R.aB,eval,c,Kr,f,g,k,if_true]
def wZ(a b)(h:-(2:Int)^64<b/\b<2^64):Gk .mul a b=y0 (a*b):=by
 have c:(-fA<a/\a<fA)\/(-fA<b/\b<fA):=by rw[Kf];exact .inr h
 show(if _ then _ else _)=_;rw[if_pos c]
def JO(a b)(h:0<b):Gk .mod a b=y0 (a%b):=by rw[Ax,if_pos h]
def AI(a b)(h:0<b)(c:b<1073741824):Gk .fdiv a b=y0 (a/b):=by rw[LP,if_pos ⟨h,by rw[GQ];exact c⟩]
def Iv(i j)(h):Gw .eq (.v (.int i)) (.v (.int j)) h=y0 (u9 (i=j)):=by rfl
theorem xV:∀xs:List Int,Kp (xs.map .int)=y0 xs.sum
|[]=>rfl
|x::xs=>by simp[Kp,xV xs]
def MY(f:α->β)(xs)(lo hi):cut (xs.map f) lo hi=(cut xs lo hi).map f:=by simp[cut,Al0]
def B8(xs:List α)(lo hi):(cut xs lo hi).length<=xs.length:=by simp[cut,Ae8];lia
abbrev mI:Tx:=vP
noncomputable def AJ:List Tx:=[fg,kD,lB,mH,[101,97,99,104],[105,110],nV,[111,114],nT,m2,fF,nz,[107,105,110,100],[116,105,101],[115,97,121]]
structure Ip(t:Tx):Prop where
 lo:1<=t.length
 hi:t.length<=8
 Fg:∀c∈t,97<=c/\c<=122
 free:t∉AJ
def AU(i:Nat)(h:i<26):bw mI (i:Int)=y0 (97+i):=by
 have:∀i:Nat,i<26->bw mI i=y0 (97+i):=by decide
 exact this i h
def zK(xs:List α)(n:Nat):cut xs u0 (y0 (n:Int))=xs.take n:=by
 have a:¬((n:Int)<0):=by lia
 simp only[cut,aM,a,if_false,Ad,List.drop_zero,Nat.sub_zero];by_cases q:n<=xs.length
 .rw[Aj5 q]
 .rw[Nat.min_eq_right (by lia),Aj9 (Aa9 _),Aj9 (by lia)]
def jX(xs:List α)(n:Nat):cut xs (y0 (n:Int)) u0=xs.drop n:=by
 have a:¬((n:Int)<0):=by lia
 simp[cut,aM,a,Ad];by_cases q:n<=xs.length
 .rw[Aj5 q,Aj9 (by simp)]
 .rw[Nat.min_eq_right (by lia),List.drop_of_length_le (Aa9 _),List.drop_of_length_le (by lia),List.take_nil]
def oH(s)(lo hi)(h)(a:s.length<=bp):hM (.s s) lo hi h=.ok (.s (cut s lo hi)) h:=by show(if s.length<=bp then _ else _)=_;rw[if_pos a]
def mul_str(s)(n)(h)(b:n<=1000)(a:s.length*n<=1000000):GJ .mul (.s s) (.i n) h=.ok (.v (.str (Aa1 n s).flatten)) h:=by show(if 0<=(n:Int)/\(n:Int)<=1000/\s.length*(n:Int).toNat<=bp then _ else _)=_;rw[if_pos ⟨by lia,by lia,by rw[Gg,Ad];exact a⟩,Ad]
def add_str(s u)(h)(a:s.length+u.length<=1000000):GJ .add (.s s) (.s u) h=.ok (.s (s++u)) h:=by rw[Ny,if_pos (by rw[Gg];exact a)]
def Jx(i)(a:i<26)(h):dY (.s mI) (.i i) h=y0 (.str [97+i]):=by rw[oO,if_pos (by rw[Gg];decide),AU i a];rfl
def uX(f:Nat->α)(m)(h:m<=8)(d:∀i,i<8->∀j,j<8->i≠j->f i≠f j):((Ab1 m).map f).Nodup:=by rw[List.Nodup,List.pairwise_map];refine List.Pairwise.imp_of_mem ?_ (List.nodup_range);intro a b g e c;exact d a (by have:=Ac1.mp g;lia) b (by have:=Ac1.mp e;lia) c
def yn(a b:Nat)(c:0<b):Gk .mod (a:Int) (b:Int)=y0 ((a%b:Nat):Int):=by rw[JO _ _ (by lia)];rfl
def Jr(xs:List α)(i)(h:i<xs.length):bw xs (i:Int)=xs[i]?:=by
 have:(i)<xs.length:=by omega
 simp[bw,eB,this]
def Wh(i j)(h):Gw .eq (.i i) (.i j) h=y0 (u9 (i=j)):=by rw[Iv];congr 1;exact decide_eq_decide.mpr (by lia)
theorem Qs:∀j:List Tx,GM (j.map .str)=y0 j
|[]=>rfl
|t::j=>by simp[GM,Qs j]
theorem tH(s):∀j:List Tx,inD (.str s) (j.map .str)=u9 (s∈j)
|[]=>rfl
|t::j=>by
  have a:=tH s j;simp only[inD]at a;by_cases q:t=s
  .subst q;simp[inD]
  .have b:¬s=t:=λe=>q e.symm;simp only[inD,Ab4,Ag,a,Ab7,b,false_or];simp[q]
theorem tL:∀(a:List Tx)(h),(GR h (a.map .str)=a.map .str/\Gf (a.map .str)=k9)/\GD (a.map .str)=0
|[],_=>⟨⟨rfl,rfl⟩,rfl⟩
|t::a,h=>by have b:=tL a h;simp[b]
def Ju(s)(a:List Tx)(w)(h)(b:yB (w.dd h)=y0 (GR h (a.map .str))):Kb (.s s) w h=y0 (u9 (s∈a)):=by unfold Kb;simp[b,(tL a h),tH]
structure Nm(ts:List Tx):Prop where
 nd:ts.Nodup
 good:∀t∈ts,Ip t
def Zl(x)(r:List α):bw (x::r) 0=y0 x:=by
 have:0<(x::r).length:=by simp
 simp[bw,eB,this]
def vW(b:Gc d=k9)(c:n<=h.length)(a:Gu (h.take n)=k9):∃h',Gy n (.ret (.v d) h)=.ok (.v d) h'/\h'=h.take n:=by
 by_cases q:h.length=n
 .exact⟨h,by simp[Gy,fin,q],by rw[←q,Ap5]⟩
 .exact⟨h.take n,by simp[Gy,fin,q,W.keep,b,a],rfl⟩
theorem Wr:∀j:List Tx,Gf (j.map .str)=k9
|[]=>rfl
|t::j=>by simp[Wr j]
def Nr(c:Gd F es τ h=.ok ws h)(a:F.call f (ws.map W.arg) h=.ok (.own xs) h)(b:Gf xs=k9):eval F (.share (.call f es)) τ h=.ok (.r h.length) (h++[.lst xs]):=by simp only[eval,c,R.ae,a,b,if_true]
theorem Wn(x):∀ys:List Tx,(Kd x ys).Perm (x::ys)
|[]=>.refl _
|y::ys=>by
  unfold Kd;by_cases q:y<x
  .rw[if_pos q];exact((Wn x ys).cons y).trans (.swap x y ys)
  .rw[if_neg q]
theorem qj:∀xs:List Tx,(Gn xs).Perm xs
|[]=>.refl _
|x::xs=>(Wn x (Gn xs)).trans ((qj xs).cons x)
abbrev l9(a:List Tx):D:=.tup (a.map .str)
abbrev wD(K T:List Tx):D:=.tup [l9 K,l9 T]
def qK(ts)(h)(a:ts.length<64):dI .sorted [.own (ts.map .str)] h=.ok (.own ((Gn ts).map .str)) h:=by show(R.of h ((y0 _).bind GM)).bind _=_;rw[Ag3,Qs,R.au,R.ae,if_pos a]
abbrev aw(l:List Nat):List D:=l.map λ(x:Nat)=>.n x
abbrev lg(n:Nat)(b a:List Nat):D:=.tup [.n n,.tup (aw b),.tup (aw a)]
structure Hk(n K T:Nat)(ks ts:List Nat):Prop where
 n4:n<=4
 lk:ks.length=K
 lt:ts.length=T
 bk:∀x∈ks,x<2^n
 bt:∀x∈ts,x<2^(n*n)
inductive Ex where
|name (t:Tx)
|same
|all
|none
|turned (a:Ex)
|closed (a:Ex)
|plus (a b:Ex)
|less (a b:Ex)
|both (a b:Ex)
|joined (a b:Ex)
abbrev xk:Tx:=[110,97,109,101]
abbrev JD:Tx:=[115,97,109,101]
abbrev WZ:Tx:=[97,108,108]
abbrev JV:Tx:=[110,111,110,101]
abbrev nN:Tx:=[112,108,117,115]
abbrev jH:Tx:=[108,101,115,115]
abbrev n3:Tx:=[98,111,116,104]
abbrev xB:Tx:=[106,111,105,110,101,100]
abbrev ZB:Tx:=[116,117,114,110,101,100]
abbrev qO:Tx:=[99,108,111,115,101,100]
noncomputable def a9:Ex->D
|.name t=>.tup [.str xk,.str t]
|.same=>.tup [.str JD]
|.all=>.tup [.str WZ]
|.none=>.tup [.str JV]
|.turned a=>.tup [.str ZB,a9 a]
|.closed a=>.tup [.str qO,a9 a]
|.plus a b=>.tup [.str nN,a9 a,a9 b]
|.less a b=>.tup [.str jH,a9 a,a9 b]
|.both a b=>.tup [.str n3,a9 a,a9 b]
|.joined a b=>.tup [.str xB,a9 a,a9 b]
def Ex.wf (N:List Tx):Ex->Prop
|.name t=>t∈N
|.turned a=>a.wf N
|.closed a=>a.wf N
|.plus a b=>a.wf N/\b.wf N
|.less a b=>a.wf N/\b.wf N
|.both a b=>a.wf N/\b.wf N
|.joined a b=>a.wf N/\b.wf N
|_=>True
noncomputable def Ex.dp:Ex->Nat
|.turned a=>a.dp+1
|.closed a=>a.dp+1
|.plus a b=>max a.dp b.dp+1
|.less a b=>max a.dp b.dp+1
|.both a b=>max a.dp b.dp+1
|.joined a b=>max a.dp b.dp+1
|_=>0
end M
namespace Wf
def wr(g:Nat->Nat->Bool):Nat->Nat->Nat->Bool
|0,a,b=>g a b
|k+1,a,b=>wr g k a b||(wr g k a k&&wr g k k b)
theorem J1:∀k,g a b=k9->wr g k a b=k9
|0,h=>h
|k+1,h=>by rw[wr,J1 k h,Bool.true_or]
theorem W9:∀k m,m<k->∀a b,wr g k a m=k9->wr g k m b=k9->wr g k a b=k9
|0,m,f=>absurd f (Ag2 _)
|k+1,m,f=>λa b c d=>by
  rw[wr,Ae7,Aa0]at c d;rw[wr,Ae7,Aa0];by_cases q:m=k
  .subst q;have c:=c.elim id And.left;have d:=d.elim id And.right;exact .inr ⟨c,d⟩
  .have h:m<k:=by omega
   have e:=W9 (g:=g) k m h;rcases c with c|c<;>rcases d with d|d
   .exact .inl (e a b c d)
   .exact .inr ⟨e a k c d.1,d.2⟩
   .exact .inr ⟨c.1,e k b c.2 d⟩
   .exact .inr ⟨c.1,d.2⟩
theorem WA(e:∀a b,a<n->b<n->(g a b=k9↔t.testBit (a*n+b)=k9)):∀k,k<=n->∀a b,a<n->b<n->wr g k a b=k9->TC n t a b
|0,_,a,b,d,c,h=>.step d c ((e a b d c).mp h)
|k+1,f,a,b,d,c,h=>by
  rw[wr,Ae7,Aa0]at h;rcases h with h|h
  .exact WA e k (by omega) a b d c h
  .exact(WA e k (by omega) a k d (by omega) h.1).trans (WA e k (by omega) k b (by omega) c h.2)
def DA(f:∀a b,a<n->b<n->(g a b=k9↔t.testBit (a*n+b)=k9))(h:TC n t a b):wr g n a b=true:=by
 induction h with
|step c e d=>exact J1 n ((f _ _ c e).mpr d)
|more j c e d i=>exact W9 n _ c _ _ i (J1 n ((f _ _ c e).mpr d))
def kj(c:∀a b,a<n->b<n->(g a b=k9↔t.testBit (a*n+b)=k9))(e:a<n)(d:b<n):wr g n a b=k9↔TC n t a b:=⟨WA c n (Aa9 n) a b e d,DA c⟩
end Wf
namespace M
def de(t:Tx)(a:List Tx):Nat:=(GZ t a).getD 0
theorem Qm:∀{j},t∈j->GZ t j=y0 (de t j)/\de t j<j.length
|y::a,h=>by
  unfold de;by_cases q:y=t
  .simp[GZ,q]
  .have b:t∈a:=by
    rcases Ab7.mp h with e|e
    .exact absurd e.symm q
    .exact e
   obtain⟨e,l⟩:=Qm b;simp only[GZ,q,if_false,e,Option.map_some,Ak4,Aa7]at l⊢;exact⟨trivial,by omega⟩
structure Wo where
 n:Nat
 K:List Tx
 T:List Tx
 ks:List Nat
 ts:List Nat
structure Wo.Ok (w:Wo):Prop where
 hK:w.K.length<=4
 hT:w.T.length<=4
 nd:(w.K++w.T).Nodup
 wl:Hk w.n w.K.length w.T.length w.ks w.ts
def Wo.at(w:Wo)(t:Tx)(a b:Nat):Prop:=if t∈w.T then(w.ts.getD (de t w.T) 0).testBit (a*w.n+b)=k9 else a=b/\(w.ks.getD (de t w.K) 0).testBit a=k9
def fQ(w:Wo):Ex->Nat->Nat->Prop
|.name t,a,b=>w.at t a b
|.same,a,b=>a=b
|.all,_,_=>True
|.none,_,_=>False
|.turned e,a,b=>fQ w e b a
|.closed e,a,b=>∃t,t<2^(w.n*w.n)/\(∀x y,x<w.n->y<w.n->(t.testBit (x*w.n+y)=k9↔fQ w e x y))/\Wf.TC w.n t a b
|.plus e f,a,b=>fQ w e a b\/fQ w f a b
|.less e f,a,b=>fQ w e a b/\¬fQ w f a b
|.both e f,a,b=>fQ w e a b/\fQ w f a b
|.joined e f,a,b=>∃c,c<w.n/\fQ w e a c/\fQ w f c b
def Is(w:Wo)(e:Ex)(v:Nat):Prop:=v<2^(w.n*w.n)/\∀a b,a<w.n->b<w.n->(v.testBit (a*w.n+b)=k9↔fQ w e a b)
def tq(a:s<2^n)(b:t<2^n):s|||t<2^n:=Am5 a b
def Wo.words (w:Wo):D:=wD w.K w.T
def Wo.ay (w:Wo):D:=lg w.n w.ks w.ts
def vG(l)(i:Nat)(h:i<l.length):bw (aw l) (i:Int)=y0 (.n (l.getD i 0)):=by rw[Jr _ _ (by simp_all),Ac9,Ab0 h,Ac4,Ab0 h];rfl
def wR(ts)(t)(h)(a:t∈ts)(b:ts.length<=1000):m7 .index (.v (l9 ts)) [.s t] h=.ok (.i (de t ts)) h:=by show(R.of h ((y0 _).bind GM)).bind _=_;rw[Ag3,Qs,R.au,R.ae];show(R.of h (y0 t)).bind _=_;rw[R.au,R.ae,(Qm a).1,R.au,R.ae,if_pos (by rw[Gg];lia)]
def xj(x y:D):bw [x,y] 0=y0 x:=rfl
def Zh(x y:D):bw [x,y] 1=y0 y:=rfl
def Fl(x:D):bw [x] 0=y0 x:=rfl
def mz(n x:Nat):List (Nat×Nat):=((Ab1 n).filter x.testBit).map λa=>(a,a)
def vR(n x):Wf.fq n (mz n x):=λp b=>by obtain⟨a,c,rfl⟩:=Ac0.mp b;have:=Ac1.mp (Aj4.mp c).1;exact⟨this,this⟩
def BL(j:a<n)(f:b<n):(Wf.dF n (mz n x)).testBit (a*n+b)=k9↔a=b/\x.testBit a=true:=by
 rw[Wf.cF,Ae1];refine⟨λ⟨p,i,e⟩=>?_,λ⟨e,h⟩=>?_⟩
 .obtain⟨c,d,rfl⟩:=Ac0.mp i;have g:=Aj4.mp d;have d:=Ac1.mp g.1;have e:=of_decide_eq_true e;have e1:=congrArg (·/n) e;have e2:=congrArg (·%n) e;simp[Wf.aQ d,Wf.aQ f,Wf.aV d,Wf.aV f]at e1 e2;subst e1;exact⟨e2,g.2⟩
 .subst e;exact⟨_,Ac0.mpr ⟨a,Aj4.mpr ⟨Ac1.mpr j,h⟩,rfl⟩,decide_eq_true rfl⟩
def DY(n x)(k:n<=4)(h):eval F Qg [a,b,c,si n,si x] h=.ok (.own ((mz n x).map pD)) h:=by
 rw[Qg,vX (λd=>match d with
|.int i=>if x.testBit i.toNat then y0 (.tup [.int i,.int i])else u0
|_=>u0) (xn (m:=n) (by simp![]) (by lia)) (by simp;rw[Gg];lia)]
 .congr 2;rw[List.filterMap_map,mz,Ad7];induction Ab1 n with
|nil=>rfl
|cons y o f=>
   by_cases e:x.testBit y=k9
   .simp[e,pD,f]
   .simp[e,f]
 .intro d g;obtain⟨i,l,rfl⟩:=iB _ g;have j:Ke ((x/2^i:Nat)) 1=y0 (((x.testBit i).toNat:Nat):Int):=by rw[show 1=((1:Nat):Int)from rfl,zl,Q9]
  refine⟨[si i,si x],x.testBit i,rfl,?_,?_⟩
  .unfold Gp;simp only[eval,Gi,Gm,R.ae,GE,xO,We,j,R.au,yT];cases x.testBit i<;>rfl
  .by_cases e:x.testBit i=k9
   .simp[e,Gi]
   .simp[e]
def yD(t)(ts)(h):Gw .mem (.s t) (.v (l9 ts)) h=y0 (u9 (t∈ts)):=Ju t ts (.v (l9 ts)) h rfl
def xo(k)(ok:w.Ok)(t)(g:t∈w.K++w.T)(h):∃v,Is w (.name t) v/\call prog (k+4) "value_of_name" [.v w.words,.v w.ay,.s t] h=.ok (.i v) h:=by
 rw[Ga rfl _ _ _ rfl];simp only[zo];show∃v,_/\Gy _ (execs _ _ [sv (wD w.K w.T),sv (lg w.n w.ks w.ts),y0 _,u0,u0] h)=_;have j:=ok.hK;have i:=ok.hT;by_cases q:t∈w.T
 .have d:=(Qm q).2;refine⟨w.ts.getD (de t w.T) 0,⟨?_,λa b f e=>?_⟩,?_⟩
  .rw[Ac4,Ab0 (by rw[ok.wl.lt];exact d)];exact ok.wl.bt _ (List.getElem_mem _)
  .show _↔w.at t a b;rw[Wo.at,if_pos q]
  .rw[xa,Gb _ _ _ rfl];rw[XH (h1:=h) (by simp![af,Zh,yD,decide_eq_true q])];exact xa (Qb rfl (by simp only[eval,Gd,Gi,Gm,R.ae,af,Zh,lT,R.au,rN,if_true,wR w.T t h q (by omega)];rw[vG _ _ (by rw[ok.wl.lt];exact d)];rfl))
 .have c:=(Ad1.mp g).resolve_right q;have n4:=ok.wl.n4;refine⟨Wf.dF w.n (mz w.n (w.ks.getD (de t w.K) 0)),⟨Wf.dO (vR _ _),λa b f e=>?_⟩,?_⟩
  .show _↔w.at t a b;rw[Wo.at,if_neg q];exact BL f e
  .rw[za (τ1:=[sv (wD w.K w.T),sv (lg w.n w.ks w.ts),y0 (.s t),u0,u0]) (h1:=h) (by simp![af,Zh,yD,decide_eq_false q])];rw[za (τ1:=[sv _,sv _,y0 _,si w.n,u0]) rfl];rw[za (τ1:=[sv _,sv _,y0 _,si w.n,si _]) (by simp only[exec,eval,Gd,Gi,Gm,R.ae,af,xj,oj,R.au,rN,if_true,wR w.K t h c (by omega)];rw[vG _ _ (by rw[ok.wl.lk];exact((Qm c).2))];rfl)];rw[xa (Qb rfl ?_),Gb _ _ _ rfl];simp only[eval,Gd,Gi,Gm,R.ae,DY w.n _ n4 h,Ab4,Af6,W.bZ,W.fb,qG k w.n _ h (by omega) (vR _ _)]
def zd(s t)(h):Gw .eq (.s s) (.s t) h=y0 (s==t):=by simp[GT]
def Za(e:Gp F c τ h=.ok y9 h):execs F (.cons (.iff c a .nil) ss) τ h=execs F ss τ h:=za (nA e)
def zi(e:Gp F c τ h=.ok k9 h)(r:exec F s τ h=.ret w h):execs F (.cons (.iff c (.cons s .nil) .nil) ss) τ h=.ret w h:=xa ((XH e).trans (xa r))
def xb(s X)(h):Gp F (.cmp .eq .v1 (.str X)) [a,y0 (.s s),c] h=.ok (s==X) h:=by simp only[Gp,eval,Gi,Gm,R.ae,zd,R.au,GS]
abbrev kO(n:Nat)(s:Tx)(l:List D):Sl:=[si n,y0 (.s s),y0 (.l l)]
def LA(k n)(l)(h)(a:n<=4):call prog (k+5) "made" [.i n,.s JD,.l l] h=.ok (.i (Wf.dq n)) h:=by rw[Ga rfl _ _ _ rfl];simp only[Zt];show Gy _ (execs _ _ (kO n JD l) h)=_;rw[zi (xb _ _ _) (Qb rfl (by simp only[eval,Gd,Gi,Gm,R.ae,Ab4,Af6,W.bZ,FZ k n h (by lia)];rfl)),Gb _ _ _ rfl]
def Ni(k n)(l)(h)(a:n<=4):call prog (k+5) "made" [.i n,.s WZ,.l l] h=.ok (.i (2^(n*n)-1)) h:=by rw[Ga rfl _ _ _ rfl];simp only[Zt];show Gy _ (execs _ _ (kO n WZ l) h)=_;rw[Za (xb _ _ _),zi (xb _ _ _) (Qb rfl (by simp only[eval,Gd,Gi,Gm,R.ae,Ab4,Af6,W.bZ,rE _ n h (by lia)];rfl)),Gb _ _ _ rfl]
def C4(k n)(l)(h):call prog (k+5) "made" [.i n,.s JV,.l l] h=.ok (.i (0)) h:=by rw[Ga rfl _ _ _ rfl];simp only[Zt];rw[Za (xb _ _ _),Za (xb _ _ _),zi (xb _ _ _) _,Gb _ _ _ rfl];rfl
abbrev l2(s t:Nat):List D:=[.n s,.n t]
def XU(k n s t)(h):call prog (k+5) "made" [.i n,.s nN,.l (l2 s t)] h=.ok (.i (s|||t)) h:=by rw[Ga rfl _ _ _ rfl];simp only[Zt];show Gy _ (execs _ _ (kO n nN _) h)=_;rw[Za (xb _ _ _),Za (xb _ _ _),Za (xb _ _ _),zi (xb _ _ _) (Qb rfl (by simp only[eval,Gd,Gi,Gm,R.ae,xz,xj,Zh,R.au,Ab4,Af6,W.bZ,QL _ s t h];rfl)),Gb _ _ _ rfl]
def qS(k n s t)(h):call prog (k+5) "made" [.i n,.s n3,.l (l2 s t)] h=.ok (.i (s&&&t)) h:=by rw[Ga rfl _ _ _ rfl];simp only[Zt];show Gy _ (execs _ _ (kO n n3 _) h)=_;rw[Za (xb _ _ _),Za (xb _ _ _),Za (xb _ _ _),Za (xb _ _ _),Za (xb _ _ _),zi (xb _ _ _) (Qb rfl (by simp only[eval,Gd,Gi,Gm,R.ae,xz,xj,Zh,R.au,Ab4,Af6,W.bZ,BS _ s t h];rfl)),Gb _ _ _ rfl]
def zH(k n s t)(h)(a:n<=4):call prog (k+5) "made" [.i n,.s xB,.l (l2 s t)] h=.ok (.i (Wf.joinM n s t)) h:=by rw[Ga rfl _ _ _ rfl];simp only[Zt];show Gy _ (execs _ _ (kO n xB _) h)=_;rw[Za (xb _ _ _),Za (xb _ _ _),Za (xb _ _ _),Za (xb _ _ _),Za (xb _ _ _),Za (xb _ _ _),zi (xb _ _ _) (Qb rfl (by simp only[eval,Gd,Gi,Gm,R.ae,xz,xj,Zh,R.au,Ab4,Af6,W.bZ,xN _ n s t h (by lia)];rfl)),Gb _ _ _ rfl]
def qH(k n s)(h)(a:n<=4):call prog (k+5) "made" [.i n,.s ZB,.l [.n s]] h=.ok (.i (Wf.dH n s)) h:=by rw[Ga rfl _ _ _ rfl];simp only[Zt];show Gy _ (execs _ _ (kO n ZB [.n s]) h)=_;rw[Za (xb _ _ _),Za (xb _ _ _),Za (xb _ _ _),Za (xb _ _ _),Za (xb _ _ _),Za (xb _ _ _),Za (xb _ _ _),zi (xb _ _ _) (Qb rfl (by simp only[eval,Gd,Gi,Gm,R.ae,xz,Fl,R.au,Ab4,Af6,W.bZ,HI k n s h (by lia)];rfl)),Gb _ _ _ rfl]
def xE(k n s)(h)(b:n<=4)(c:s<2^(n*n)):∃r,Wf.gu n s r/\call prog (k+5) "made" [.i n,.s qO,.l [.n s]] h=.ok (.i r) h:=by obtain⟨r,a,e⟩:=Iy _ n s h b c;refine⟨r,a,?_⟩;rw[Ga rfl _ _ _ rfl];simp only[Zt];rw[Za (xb _ _ _),Za (xb _ _ _),Za (xb _ _ _),Za (xb _ _ _),Za (xb _ _ _),Za (xb _ _ _),Za (xb _ _ _),Za (xb _ _ _),xa (Qb rfl (by assumption)),Gb _ _ _ rfl]
def AZ(a:Gj F it τ h=.ok [] h):eval F (.comp tg one k az it y9 c elt) τ h=.ok (.own []) h:=by rw[eval,a,R.ae,if_pos (show[].length<=bp from Af _)];rfl
def yd(b:Gj F it τ h=.ok [d] h)(e:eval F elt (GC (Aa1 k u0++az.map λj=>Gi τ j) 0 (.v d)) h=.ok (.v y) h):eval F (.comp [0] k9 k az it y9 c elt) τ h=.ok (.own [y]) h:=by
 have a:[d].length<=bp:=by rw[Gg];simp
 rw[eval,b,R.ae,if_pos a];simp[GA,e,R.au]
def m6(e:Gj F it τ h=.ok [d1,d2] h)(b:eval F elt (GC (Aa1 k u0++az.map λj=>Gi τ j) 0 (.v d1)) h=.ok (.v y1) h)(d:eval F elt (GC (Aa1 k u0++az.map λj=>Gi τ j) 0 (.v d2)) h=.ok (.v y2) h):eval F (.comp [0] k9 k az it y9 c elt) τ h=.ok (.own [y1,y2]) h:=by
 have a:[d1,d2].length<=bp:=by rw[Gg];simp
 rw[eval,e,R.ae,if_pos a];simp[GA,b,d,R.au]
def zB(f)(a:eval F e τ h=.ok (.i n) h)(m:n<=1000)
 (k:∀i,i<n->∃w,eval F elt (si i::az.map λj=>Gi τ j) h=.ok w h/\w.d=y0 (f i)):eval F (.comp [0] k9 1 az (.aC e) y9 (.bl k9) elt) τ h=.ok (.own ((Ab1 n).map f)) h:=by
 rw[zk (λd=>match d with|.int i=>f i.toNat|d=>d) (xn a (by lia)) (by simp;rw[Gg];lia)]
 .simp[Function.comp_def]
 .intro d c;obtain⟨i,g,rfl⟩:=iB _ c;obtain⟨w,b,l⟩:=k i g;exact⟨_,rfl,w,b,by simpa using l⟩
def ZX(x y)(r:List D):bw (x::y::r) 1=y0 y:=by have:=Jr (x::y::r) 1 (by simp);exact this
abbrev tb(n v:Nat)(a b:Nat):Bool:=v.testBit (a*n+b)
def iJ(n:Nat)(g:Nat->Nat->Bool)(a:Nat):Nat:=((Ab1 n).map λb=>(g a b).toNat).sum
theorem Zy(g):∀l:List Nat,(l.filter g).length=(l.map λb=>(g b).toNat).sum
|[]=>rfl
|x::l=>by
  have a:=Zy g l;by_cases q:g x=k9
  .rw[List.filter_cons_of_pos q,Aa7,Ab4,Aj2,a,q];simp;omega
  .have c:=by simpa using q
   rw[List.filter_cons_of_neg q,Ab4,Aj2,a,c];simp
def wL(m n):Ab1 ((m+1)*n)=Ab1 (m*n)++(Ab1 n).map (m*n+·):=by rw[Nat.succ_mul,List.range_add]
def Mi{b:Nat}(a:b<n):(m*n+b)/n=m:=Wf.aQ a
theorem sM(n v)(a):∀m,((((Ab1 (m*n)).filter v.testBit).map (·/n)).count a)=if a<m then iJ n (tb n v) a else 0
|0=>by simp
|m+1=>by
  have d:=sM n v a m;rw[wL,List.filter_append,Ae5,List.count_append,d,List.filter_map,Ad7];have e:((Ab1 n).filter (v.testBit∘(m*n+·))).map ((·/n)∘(m*n+·))=Aa1 ((Ab1 n).filter (v.testBit∘(m*n+·))).length m:=by rw[List.eq_replicate_iff];refine⟨by simp,λx g=>?_⟩;obtain⟨b,f,rfl⟩:=Ac0.mp g;exact Mi (Ac1.mp (Aj4.mp f).1)
  rw[e,List.count_replicate,Zy];by_cases q:a=m
  .subst q;simp[iJ,tb]
  .have h:¬(m==a)=true:=by simp;exactλe=>q e.symm
   rw[if_neg h];by_cases c:a<m
   .rw[if_pos c,if_pos (by omega)];omega
   .rw[if_neg c,if_neg (by omega)]
def Eb(b:a<n):((Wf.ax n v).map (·.1)).count a=iJ n (tb n v) a:=by have:=sM n v a n;rw[if_pos b]at this;rw[←this,Wf.ax,Ad7];rfl
theorem j8(n v):∀m,((Ab1 (m*n)).filter v.testBit).length=((Ab1 m).map (iJ n (tb n v))).sum
|0=>by simp
|m+1=>by have a:=j8 n v m;rw[wL,List.filter_append,Ab,a,List.filter_map,Aa,Zy,List.range_succ,Ae5,List.sum_append];simp[iJ,tb]
def Fm(n v):(Wf.ax n v).length=((Ab1 n).map (iJ n (tb n v))).sum:=by rw[Wf.ax,Aa,j8]
abbrev Jb:Tx:=[108,101,97,115,116]
abbrev Zj:Tx:=[109,111,115,116]
abbrev Qi:Tx:=[101,97,99,104,108,101,97,115,116]
abbrev ZG:Tx:=[101,97,99,104,109,111,115,116]
abbrev lF:Tx:=[105,110]
abbrev qt:Tx:=[101,113,117,97,108]
abbrev QK:Tx:=[115,111,109,101]
abbrev mE:Tx:=[110,111]
def WL(s a b)(h):Gw .mem (.s s) (.t [.str a,.str b]) h=y0 (u9 (s∈[a,b])):=Ju s [a,b] (.t [.str a,.str b]) h rfl
def fL(n v:Nat):List Nat:=(Ab1 n).map (iJ n (tb n v))
def Zm(n v:Nat)(s:Tx):List Nat:=if s∈[Jb,Zj]then[(fL n v).sum]else fL n v
theorem X0:∀l:List Nat,GL (aw l)=y0 (l.map λ(x:Nat)=>(x:Int))
|[]=>rfl
|x::l=>by have:=X0 l;simp only[Ab4,GL]at this⊢;rw[this];rfl
def MK(l:List Nat)(a:Nat):(l.map λ(x:Nat)=>(x:Int)).count (a:Int)=l.count a:=by
 induction l with
|nil=>rfl
|cons x l b=>
  rw[Ab4,List.count_cons,List.count_cons,b];by_cases q:x=a
  .simp[q]
  .have:¬(x=(a:Int)):=by lia
   simp[q,this]
def X6(k n v)(s)(i:n<=4)(h):call prog (k+2) "counts" [.i n,.s s,.i v] h=.ok (.own (aw (Zm n v s))) h:=by
 rw[Ga rfl _ _ _ rfl];simp only[J7];refine fx (by simp![zq k n v h (by omega)];rfl) ?_;by_cases q:s∈[Jb,Zj]
 .rw[xa,Gv _ _ _ rfl];rw[XH (h1:=h) (by simp![WL,decide_eq_true q])];refine xa (Ww rfl ?_);simp only[eval,Gx,Gd,Gi,Gm,R.ae,QE,W.mr,R.au,Aa,Fm];rw[Zm,if_pos q];rfl
 .refine fx (by simp![WL,decide_eq_false q];rfl) ?_;have e2:eval (k8 (k+1)) Qx [si n,y0 (.s s),si v,y0 (.l ((Wf.ax n v).map pD)),u0] h=.ok (.own (aw ((Wf.ax n v).map (·.1)))) h:=by
   rw[Qx,zk (λd=>match d with|.tup [x,_]=>x|d=>d) (by simp![]) (zF n v (by omega))]
   .simp[pD,aw,Function.comp_def]
   .intro d c;obtain⟨p,_,rfl⟩:=Ac0.mp c;exact⟨_,rfl,_,rfl,rfl⟩
  have e1:eval (k8 (k+1)) Zx [si n,y0 (.s s),si v,y0 (.l ((Wf.ax n v).map pD)),y0 (.l (aw ((Wf.ax n v).map (·.1))))] h=.ok (.own (aw (fL n v))) h:=by
   rw[Zx,zB (λa=>.n _) rfl (by omega) λa f=>⟨.i _,?_,rfl⟩]
   .rw[aw,fL,Ad7];rfl
   .have b:((((Wf.ax n v).map (·.1)).map λ(x:Nat)=>(x:Int))).length<=bp:=by have:=zF n v (show n<=20 by omega);simpa using this
    have e:m7 .count (.l (aw ((Wf.ax n v).map (·.1)))) [.i a] h=.ok (.i (iJ n (tb n v) a)) h:=by show(R.of h ((y0 (aw ((Wf.ax n v).map (·.1)))).bind GL)).bind _=_;rw[Ag3,X0,R.au,R.ae];show(R.of h (y0 (a:Int))).bind _=_;rw[R.au,R.ae,if_pos b,MK,Eb f]
    have g:nO .count (.l (aw ((Wf.ax n v).map (·.1)))) h=true:=rfl;simp only[eval,Gd,Gi,Gm,Ab4,Af6,R.ae,g,if_true,e]
  rw[za (τ1:=[si n,y0 (.s s),si v,y0 (.l ((Wf.ax n v).map pD)),y0 (.l (aw ((Wf.ax n v).map (·.1))))]) (by rw[exec,e2];rfl)];rw[xa (Ww rfl e1),Gv _ _ _ rfl,Zm,if_neg q]
inductive Fc where
|eO (a b:Ex)
|eN (a b:Ex)
|bL (a:Ex)
|ak (a:Ex)
|cnt (s:Tx)(k:Nat)(a:Ex)
def dc:Fc->D
|.eO a b=>.tup [.str lF,a9 a,a9 b]
|.eN a b=>.tup [.str qt,a9 a,a9 b]
|.bL a=>.tup [.str QK,a9 a]
|.ak a=>.tup [.str mE,a9 a]
|.cnt s k a=>.tup [.str s,.n k,a9 a]
def Fc.wf (N:List Tx):Fc->Prop
|.eO a b=>a.wf N/\b.wf N
|.eN a b=>a.wf N/\b.wf N
|.bL a=>a.wf N
|.ak a=>a.wf N
|.cnt s _ a=>s∈[Jb,Zj,Qi,ZG]/\a.wf N
def Fc.dp:Fc->Nat
|.eO a b=>max a.dp b.dp
|.eN a b=>max a.dp b.dp
|.bL a=>a.dp
|.ak a=>a.dp
|.cnt _ _ a=>a.dp
theorem pd:∀bs:List Bool,Kn (bs.map .bl)=y0 bs
|[]=>rfl
|b::bs=>by simp[Kn,pd bs]
def Z8{bs:List Bool}(q:eval F e τ h=.ok (.own (bs.map .bl)) h):eval F (.bi .all (.cons e .nil)) τ h=.ok (.b (bs.all id)) h:=by rw[eval,Gd,q];simp[pd,R.au]
def vg(p)(l:List α):(l.map p).all id=l.all p:=by rw[List.all_map];rfl
theorem uY:∀l:List Nat,Kp (aw l)=y0 ((l.sum:Nat):Int)
|[]=>rfl
|x::l=>by have:=uY l;simp only[Ab4,Kp]at this⊢;rw[this,Aj2];simp
def Oe:eval F (.neg (.int 1)) τ h=.ok (.v (.int (-1))) h:=rfl
def ri(x y:D):bw [x,y] (-1)=y0 y:=rfl
def jN(x y z:D):bw [x,y,z] (-1)=y0 z:=rfl
def vT(s:Tx)(k:Nat)(l:List Nat):Bool:=if s∈[Jb,Qi]then l.all λx=>u9 (k<=x)else l.all λx=>u9 (x<=k)
def tY(x y z:D):bw [x,y,z] 2=y0 z:=rfl
def wA(X)(e:Gm τ i=y0 (.s s)):Gp F (.cmp .eq (.var i) (.str X)) τ h=.ok (s==X) h:=by simp only[Gp,eval,Gi,e,R.ae,zd,R.au,GS]
structure V(n v:Nat)(g:Nat->Nat->Bool):Prop where
 lt:v<2^(n*n)
 bit:∀a b,a<n->b<n->(v.testBit (a*n+b)=k9↔g a b=k9)
section
variable{n s t:Nat}{g f:Nat->Nat->Bool}
def V.plus (h:V n s g)(q:V n t f):V n (s|||t) λa b=>g a b||f a b:=⟨tq h.1 q.1,λa b d c=>by rw[Ag0,Ae7,h.2 a b d c,q.2 a b d c,Ae7]⟩
def V.both (h:V n s g)(q:V n t f):V n (s&&&t) λa b=>g a b&&f a b:=⟨Nat.and_lt_two_pow s q.1,λa b d c=>by rw[Ai4,Aa0,h.2 a b d c,q.2 a b d c,Aa0]⟩
def V.less (h:V n s g)(q:V n t f):V n (s-(s&&&t)) λa b=>g a b&&!f a b:=⟨Aj6 (Nat.sub_le _ _) h.1,λa b d c=>by rw[Wf.a0,Aa0,h.2 a b d c,(An0.mpr (q.2 a b d c)),Aa0]⟩
def V.turned (h:V n s g):V n (Wf.dH n s) λa b=>g b a:=⟨Wf.fW _ _,λa b d c=>by rw[Wf.ft (Wf.place_lt d c),Wf.aQ c,Wf.aV c,h.2 b a c d]⟩
def V.joined (h:V n s g)(q:V n t f):V n (Wf.joinM n s t) λa b=>(Ab1 n).any λc=>g a c&&f c b:=⟨Wf.ej _ _ _,λa b j i=>by
 rw[Wf.cQ (Wf.place_lt j i),Wf.dy i,Ae1,Ae1];constructor
 .rintro⟨c,e,z⟩;have d:=Ac1.mp e;rw[Aa0]at z;exact⟨c,e,by rw[Aa0];exact⟨(h.2 a c j d).mp z.1,(q.2 c b d i).mp z.2⟩⟩
 .rintro⟨c,e,z⟩;have d:=Ac1.mp e;rw[Aa0]at z;exact⟨c,e,by rw[Aa0];exact⟨(h.2 a c j d).mpr z.1,(q.2 c b d i).mpr z.2⟩⟩⟩
def V.closed (h:V n s g)(q:Wf.gu n s r):V n r (Wf.wr g n):=⟨q.lt,λa b d c=>(q.bit a b d c).trans (Wf.kj (λx y e f=>(h.2 x y e f).symm) d c).symm⟩
end
abbrev lJ(s:Tx):Nat->Nat->Bool:=λa b=>(s==WZ)||((s==JD)&&u9 (a=b))
abbrev b3(a b:Wo):D:=.tup [a.ay,b.ay]
structure Pt(a b:Wo):Prop where
 oA:a.Ok
 BC:b.Ok
 en:b.n=a.n
 eK:b.K=a.K
 eT:b.T=a.T
def Pt.ew (p:Pt a b):b.words=a.words:=by rw[Wo.words,Wo.words,p.eK,p.eT]
abbrev gw(a b:Wo)(d:D)(s:Tx)(x4 x5 e c f:Option W):Sl:=[sv a.words,sv (b3 a b),sv d,y0 (.s s),x4,x5,e,c,f]
abbrev fE(v u:Nat):D:=.tup [.n v,.n u]
section
variable{m:Nat}{a b:Wo}{h:AH}
def QZ:Gj F (.seq (.gv .v2 (.int 1))) (gw a b (.tup (s::ds)) z x4 x5 x6 x7 x8) h=.ok ds h:=by have e:cut (s::ds) (y0 1) u0=ds:=jX (s::ds) 1;refine BK ?_;show(if aM (s::ds).length 0 (y0 1)=0/\aM (s::ds).length (s::ds).length u0=(s::ds).length then R.fail else R.ok _ h)=_;rw[if_neg (λc=>by have:=c.1;simp[aM]at this),e]
def Qr(q:call prog m "bounds" [.v a.words,.v (b3 a b),.v d] h=.ok (.v y) h):eval (k8 m) (.call "bounds" (.c .v1 .v2 .v0)) (GC (List.replicate 1 none++[0,1].map fun j=>Gi (gw a b v z x4 x5 x6 x7 x8) j) 0 (.v d)) h=.ok (.v y) h:=by simp_all
def tX{s:Tx}{ds:List D}{x:W}(g:(s==xk)=y9){ps:List (Nat×Nat)}(i:ps.length<=2)
 (h1:eval (k8 m) Zq (gw a b (.tup (.str s::ds)) s u0 u0 u0 u0 u0) h=.ok (.own (ps.map pD)) h){d:D}
 (q:execs (k8 m) (match bF.body with|.cons _ (.cons _ (.cons _ (.cons _ (.cons _ r))))=>r|r=>r) (gw a b (.tup (.str s::ds)) s u0 (y0 (.l (ps.map pD))) (y0 (.l (aw (ps.map (·.1))))) (y0 (.l (aw (ps.map (·.2))))) u0) h=.ret (.v d) h):
 call prog (m+1) "bounds" [.v a.words,.v (b3 a b),.t (.str s::ds)] h=.ok (.v d) h:=by
 rw[Ga (d:=bF) rfl _ _ _ rfl];simp only[bF]at q⊢;refine fx (by simp![af,Zl];rfl) ?_;rw[Za (by simp![zd,g])];have e:(ps.map pD).length<=bp:=by rw[Gg];simp;omega
 rw[za (τ1:=gw a b _ s u0 _ u0 u0 u0) (h1:=h) (by rw[exec,h1];rfl)];have e2:eval (k8 m) Jw (gw a b (.tup (.str s::ds)) s u0 (y0 (.l (ps.map pD))) u0 u0 u0) h=.ok (.own (aw (ps.map (·.1)))) h:=by
  rw[Jw,zk (h:=h) (ds:=ps.map pD) (λd=>match d with|.tup [x,_]=>x|d=>d) (by simp![]) e]
  .simp[pD,aw,Function.comp_def]
  .intro d c;obtain⟨p,_,rfl⟩:=Ac0.mp c;exact⟨_,rfl,_,rfl,rfl⟩
 rw[za (τ1:=gw a b _ s u0 _ _ u0 u0) (h1:=h) (by rw[exec,e2];rfl)];have f:eval (k8 m) Xx (gw a b (.tup (.str s::ds)) s u0 (y0 (.l (ps.map pD))) (y0 (.l (aw (ps.map (·.1))))) u0 u0) h=.ok (.own (aw (ps.map (·.2)))) h:=by
  rw[Xx,zk (h:=h) (ds:=ps.map pD) (λd=>match d with|.tup [_,x]=>x|d=>d) (by simp![]) e]
  .simp[pD,aw,Function.comp_def]
  .intro d c;obtain⟨p,_,rfl⟩:=Ac0.mp c;exact⟨_,rfl,_,rfl,rfl⟩
 rw[za (τ1:=gw a b _ s u0 _ _ _ u0) (h1:=h) (by rw[exec,f];rfl)];rw[q,Gb _ _ _ rfl]
def wy{s:Tx}{ds:List D}(f:(s==xk)=y9)(c:(s==jH)=y9){ps:List (Nat×Nat)}(d:ps.length<=2){v u:Nat}
 (h1:eval (k8 m) Zq (gw a b (.tup (.str s::ds)) s u0 u0 u0 u0 u0) h=.ok (.own (ps.map pD)) h)
 (g:call prog m "made" [.i a.n,.s s,.l (aw (ps.map (·.1)))] h=.ok (.i v) h)(e:call prog m "made" [.i a.n,.s s,.l (aw (ps.map (·.2)))] h=.ok (.i u) h):
 call prog (m+1) "bounds" [.v a.words,.v (b3 a b),.t (.str s::ds)] h=.ok (.v (fE v u)) h:=by
 refine tX (x:=.v .ak) f d h1 ?_;simp only[bF];rw[Za (by simp![zd,c])];have i:dY (.v (b3 a b)) (.v (.int 0)) h=y0 a.ay:=rfl;have e1:dY (.v a.ay) (.v (.int 0)) h=y0 _:=rfl;refine(za (by simp![e1];rfl)).trans ?_;rw[xa (Qb rfl (by simp![g,e];rfl))]
def Lj
 (h1:eval (k8 (k+1)) Zq (gw a b (.tup (.str jH::ds)) jH u0 u0 u0 u0 u0) h=.ok (.own ([(s,s'),(t,t')].map pD)) h):
 call prog (k+2) "bounds" [.v a.words,.v (b3 a b),.t (.str jH::ds)] h=.ok (.v (fE (s-(s&&&t')) (s'-(s'&&&t)))) h:=by
 refine tX (x:=.v .ak) rfl (by simp) h1 ?_;refine xa ((XH (h1:=h) ?_).trans (xa (Qb rfl ?_)))
 .simp![zd];rfl
 .simp![xz,xj,Zh,xt k s t' h,xt k s' t h]
end
abbrev l4:Tx:=[110,111,116]
abbrev kR:Tx:=[97,110,100]
abbrev kh:Tx:=[111,114]
inductive Sy where
|fact (f:Fc)
|neg (a:Sy)
|cT (a b:Sy)
|cW (a b:Sy)
def aF:Sy->D
|.fact f=>dc f
|.neg a=>.tup [.str l4,aF a]
|.cT a b=>.tup [.str kR,aF a,aF b]
|.cW a b=>.tup [.str kh,aF a,aF b]
def Sy.wf (N:List Tx):Sy->Prop
|.fact f=>f.wf N
|.neg a=>a.wf N
|.cT a b=>a.wf N/\b.wf N
|.cW a b=>a.wf N/\b.wf N
def Sy.dp:Sy->Nat
|.fact f=>f.dp
|.neg a=>a.dp+1
|.cT a b=>max a.dp b.dp+1
|.cW a b=>max a.dp b.dp+1
def HZ(f)(wf:f.wf N):∃s ds,dc f=.tup (.str s::ds)/\(s==l4)=y9/\(s==kR)=y9/\(s==kh)=false:=by
 cases f with
|eO a b=>exact⟨lF,_,rfl,rfl,rfl,rfl⟩
|eN a b=>exact⟨qt,_,rfl,rfl,rfl,rfl⟩
|bL a=>exact⟨QK,_,rfl,rfl,rfl,rfl⟩
|ak a=>exact⟨mE,_,rfl,rfl,rfl,rfl⟩
|cnt s j a=>
  have:∀s∈[Jb,Zj,Qi,ZG],(s==l4)=y9/\(s==kR)=y9/\(s==kh)=false:=by decide
  exact⟨s,_,rfl,this s wf.1⟩
def bh:Option Bool->D
|none=>.ak
|some b=>.bl b
def QU(a b:Bool):Option Bool:=if a then y0 k9 else if b then y0 y9 else u0
def ik(r q:Option Bool):Option Bool:=QU (r==y0 k9&&q==y0 k9) (r==y0 y9||q==y0 y9)
def kM(r q:Option Bool):Option Bool:=QU (r==y0 k9||q==y0 k9) (r==y0 y9&&q==y0 y9)
def qm(k)(a b)(h):call prog (k+1) "settled" [.b a,.b b] h=.ok (.v (bh (QU a b))) h:=by
 rw[Ga rfl _ _ _ rfl];simp[xS];cases a
 .cases b
  .simp![];rfl
  .simp![];rfl
 .simp![];rfl
def KS(r)(b):Ks (.v (bh r)) (.b b)=y0 (r==y0 b):=by
 cases r with
|none=>rfl
|some c=>cases c<;>cases b<;>rfl
def nW(r)(b)(h):Gw .d4 (.v (bh r)) (.b b) h=y0 (r==y0 b):=KS r b
section
variable{k:Nat}{r q:Option Bool}{h:AH}
def NG:call prog (k+2) "not_told" [.v (bh r)] h=.ok (.v (bh (r.map (!·)))) h:=by
 rw[Ga rfl _ _ _ rfl];simp only[xK];rw[xa (Qb (d:=bh (QU (r==y0 y9) (r==y0 k9))) (h1:=h) rfl (by simp![nW,qm])),Gb _ _ _ rfl];cases r with
|none=>rfl
|some c=>cases c<;>rfl
def nJ(h1:eval F e τ h=.ok (.b a) h)(c:eval F f τ h=.ok (.b b) h):eval F (.or e f) τ h=.ok (.b (a||b)) h:=by
 rw[eval,h1];cases a
 .simp[c,Bool.false_or]
 .simp[Bool.true_or]
def Wj(h1:eval F e τ h=.ok (.b a) h)(c:eval F f τ h=.ok (.b b) h):eval F (.and e f) τ h=.ok (.b (a&&b)) h:=by
 rw[eval,h1];cases a
 .simp[Ae2]
 .simp[c,Ae]
def Qz(b)(e:Gi τ i=sv (bh r)):eval F (.cmp .d4 (.var i) (.bl b)) τ h=.ok (.b (r==y0 b)) h:=by simp[e,nW,R.au]
def xm{F:Fx}{e:E}{τ:Sl}{a:Bool}(h1:eval F e τ h=.ok (.b a) h)(q:∀(F:Fx),Gp F e τ h=(eval F e τ h).bind λx h=>R.of h (G6 h x)):Gp F e τ h=.ok a h:=by rw[q,h1];rfl
def ZJ:call prog (k+2) "and_told" [.v (bh r),.v (bh q)] h=.ok (.v (bh (ik r q))) h:=by rw[Ga rfl _ _ _ rfl];simp only[zL];show Gy _ (execs _ _ [sv _,sv _] h)=_;rw[xa (Qb (d:=bh (ik r q)) rfl (by rw[eval,Gd,(Wj (F:=(k8 (k+1))) (Qz (h:=h) (τ:=[sv (bh r),sv (bh q)]) (i:=0) k9 rfl) (Qz (i:=1) k9 rfl)),R.ae,Gd,(nJ (F:=(k8 (k+1))) (Qz (h:=h) (τ:=[sv (bh r),sv (bh q)]) (i:=0) y9 rfl) (Qz (i:=1) y9 rfl))];simp only[R.ae,Gd,Ab4,Af6,W.bZ,qm];rfl)),Gb _ _ _ rfl]
def IL:call prog (k+2) "or_told" [.v (bh r),.v (bh q)] h=.ok (.v (bh (kM r q))) h:=by rw[Ga rfl _ _ _ rfl];simp only[jW];show Gy _ (execs _ _ [sv _,sv _] h)=_;rw[xa (Qb (d:=bh (kM r q)) rfl (by rw[eval,Gd,(nJ (F:=(k8 (k+1))) (Qz (h:=h) (τ:=[sv (bh r),sv (bh q)]) (i:=0) k9 rfl) (Qz (i:=1) k9 rfl)),R.ae,Gd,(Wj (F:=(k8 (k+1))) (Qz (h:=h) (τ:=[sv (bh r),sv (bh q)]) (i:=0) y9 rfl) (Qz (i:=1) y9 rfl))];simp only[R.ae,Gd,Ab4,Af6,W.bZ,qm];rfl)),Gb _ _ _ rfl]
end
def uP{bs:List Bool}(q:eval F e τ h=.ok (.own (bs.map .bl)) h):eval F (.bi .any (.cons e .nil)) τ h=.ok (.b (bs.any id)) h:=by rw[eval,Gd,q];simp[pd,R.au]
def vy(p)(l:List α):(l.map p).any id=l.any p:=by rw[List.any_map];rfl
def HM(n)(h):Gw .ne (.i n) (.v (.int 0)) h=y0 (!u9 (n=0)):=by
 have this:Gw .eq _ (.v (.int 0)) h=y0 _:=Wh n 0 h;rw[LI]at this;rw[DP];split at this
 .rename_i c;rw[if_pos c];have:=Ad5.inj this;rw[←this]
 .cases this
def sR(n)(h):Gw .eq (.i n) (.v (.int 0)) h=y0 (u9 (n=0)):=Wh n 0 h
def eW(v u a b:Nat):Option Bool:=QU (u9 (u-(u&&&a)=0)) (!u9 (v-(v&&&b)=0))
def zV(k v u v' u')(h):call prog (k+2) "in_told" [.v (fE v u),.v (fE v' u')] h=.ok (.v (bh (eW v u v' u'))) h:=by rw[Ga rfl _ _ _ rfl];simp only[zY];rw[xa (Qb (d:=bh (eW v u v' u')) rfl (by simp![af,xj,Zh,xt k u v' h,xt k v u' h,sR,HM,qm];rfl)),Gb _ _ _ rfl]
noncomputable def JL(s:Tx)(j:Nat)(l u:List Nat):Option Bool:=if s∈[Jb,Qi]then QU (l.all λx=>u9 (j<=x)) (u.any λx=>u9 (x<j))else QU (u.all λx=>u9 (x<=j)) (l.any λx=>u9 (j<x))
def mX(p)(m:l.length<=4)(b:Gi τ i=y0 (.l (aw l)))(a:Gi τ c=si j)(f:∀x:Nat,Gw o (.i x) (.i j) h=y0 (p x)):
 eval F (.comp [0] k9 1 [c] (.seq (.var i)) y9 (.bl k9) (.cmp o .v0 .v1)) τ h=.ok (.own ((l.map p).map .bl)) h:=by
 have g:Gj F (.seq (.var i)) τ h=.ok (aw l) h:=by simp[b,R.ae]
 rw[zk (λd=>match d with|.int x=>.bl (p x.toNat)|d=>d) g (by rw[Gg,aw,Aa];lia)]
 .simp[Function.comp_def]
 .intro k e;obtain⟨x,_,rfl⟩:=Ac0.mp e;refine⟨[si x,si j],by simp only[Ab4,a];rfl,.b (p x),?_,by simp⟩;simp![f]
def Ck(j x)(h):Gw .le (.i x) (.i j) h=y0 (u9 (x<=j)):=by rw[QW];congr 1;exact decide_eq_decide.mpr (by lia)
def Hj(j x)(h):Gw .ge (.i x) (.i j) h=y0 (u9 (j<=x)):=by rw[Co];congr 1;exact decide_eq_decide.mpr (by lia)
def vH(j x)(h):Gw .lt (.i x) (.i j) h=y0 (u9 (x<j)):=by rw[uZ];congr 1;exact decide_eq_decide.mpr (by omega)
def ky(j x)(h):Gw .gt (.i x) (.i j) h=y0 (u9 (j<x)):=by rw[Et];congr 1;exact decide_eq_decide.mpr (by omega)
def uV(n v)(s)(a:n<=4):(Zm n v s).length<=4:=by
 rw[Zm];split
 .simp
 .simp[fL];omega
abbrev n6(n:Nat)(s:Tx)(j v u:Nat)(x4 x5:Option W):Sl:=[si n,y0 (.s s),si j,sv (fE v u),x4,x5]
def Xo(k n)(s)(j v u)(a:n<=4)(h):call prog (k+3) "count_told" [.i n,.s s,.i j,.v (fE v u)] h=.ok (.v (bh (JL s j (Zm n v s) (Zm n u s)))) h:=by
 rw[Ga rfl _ _ _ rfl];simp only[Jz];refine fx (by simp![af,xj,X6 k n v s a h];rfl) ?_;refine fx (by simp![af,Zh,X6 k n u s a h];rfl) ?_;have b:=uV n v s a;have e:=uV n u s a;rw[JL];by_cases q:s∈[Jb,Qi]
 .have e1:=mX (F:=(k8 (k+2))) (τ:=n6 n s j v u (y0 (.l _)) (y0 (.l (aw (Zm n u s))))) (i:=4) (c:=2) _ b rfl rfl λx=>Hj j x h;have e2:=mX (F:=(k8 (k+2))) (τ:=n6 n s j v u (y0 (.l (aw (Zm n v s)))) (y0 (.l _))) (i:=5) (c:=2) (h:=h) _ e rfl rfl λx=>vH j x h;rw[if_pos q,zi (by simp![WL,decide_eq_true q]) (Qb (d:=bh (QU ((Zm n v s).all λx=>u9 (j<=x)) ((Zm n u s).any λx=>u9 (x<j)))) rfl (by rw[eval,Gd,zr,Z8 e1,R.ae,Gd,qr,uP e2,vg,vy];simp only[R.ae,Gd,Ab4,Af6,W.bZ,qm])),Gb _ _ _ rfl]
 .have e1:=mX (F:=(k8 (k+2))) (τ:=n6 n s j v u (y0 (.l (aw (Zm n v s)))) (y0 (.l (aw (Zm n u s))))) (i:=5) (c:=2) (o:=.le) (h:=h) _ e rfl rfl λx=>Ck j x h;have e2:=mX (F:=(k8 (k+2))) (τ:=n6 n s j v u (y0 (.l (aw (Zm n v s)))) (y0 (.l (aw (Zm n u s))))) (i:=4) (c:=2) (o:=.gt) (h:=h) _ b rfl rfl λx=>ky j x h;rw[if_neg q,Za (by simp![WL,decide_eq_false q]),xa (Qb (d:=bh (QU ((Zm n u s).all λx=>u9 (x<=j)) ((Zm n v s).any λx=>u9 (j<x)))) (h1:=h) rfl (by rw[eval,Gd,Zr,Z8 e1,R.ae,Gd,jr,uP e2,vg,vy];simp only[R.ae,Gd,Ab4,Af6,W.bZ,qm])),Gb _ _ _ rfl]
noncomputable abbrev vh(a b:Wo)(d:D)(s:Tx)(v u:Nat)(c:Option W):Sl:=[sv a.words,sv (b3 a b),sv d,y0 (.s s),si a.n,sv (fE v u),c]
section
variable{k m:Nat}{a b:Wo}{h:AH}{v u v' u':Nat}{e e':Ex}
def qu(f:bw (.str s::ds) (-1)=y0 (a9 e))(c:call prog m "bounds" [.v a.words,.v (b3 a b),.v (a9 e)] h=.ok (.v (fE v u)) h)
 (q:execs (k8 m) (match aR.body with|.cons _ (.cons _ (.cons _ r))=>r|r=>r) (vh a b (.tup (.str s::ds)) s v u u0) h=.ret (.v d) h):call prog (m+1) "fact_told" [.v a.words,.v (b3 a b),.t (.str s::ds)] h=.ok (.v d) h:=by
 rw[Ga rfl _ _ _ rfl];simp only[aR]at q⊢;have i0:dY (.v (b3 a b)) (.v (.int 0)) h=y0 a.ay:=rfl;have i1:dY (.v a.ay) (.v (.int 0)) h=y0 _:=rfl;refine fx (by simp![af,Zl];rfl) ?_;refine fx (by simp![i1];rfl) ?_;rw[za (τ1:=vh a b (.tup (.str s::ds)) s v u u0) (h1:=h) (by simp![af,f,c]),q,Gb _ _ _ rfl]
variable(n4:a.n<=4)(e1:call prog (k+3) "bounds" [.v a.words,.v (b3 a b),.v (a9 e)] h=.ok (.v (fE v u)) h)(e2:call prog (k+3) "bounds" [.v a.words,.v (b3 a b),.v (a9 e')] h=.ok (.v (fE v' u')) h)
include n4 e1
def Ie:call prog (k+4) "fact_told" [.v a.words,.v (b3 a b),.v (dc (.bL e))] h=.ok (.v (bh (JL Jb 1 (Zm a.n v Jb) (Zm a.n u Jb)))) h:=by refine qu (ri _ _) e1 ?_;have c:=Xo k a.n Jb 1 v u n4 h;have c:=c;simp only[aR];rw[zi (wA (s:=QK) _ rfl) (Qb rfl (by assumption))]
def Nt:call prog (k+4) "fact_told" [.v a.words,.v (b3 a b),.v (dc (.ak e))] h=.ok (.v (bh (JL Zj 0 (Zm a.n v Zj) (Zm a.n u Zj)))) h:=by refine qu (ri _ _) e1 ?_;have c:=Xo k a.n Zj 0 v u n4 h;have c:=c;simp only[aR];rw[Za (wA (s:=mE) _ rfl),zi (wA (s:=mE) _ rfl) (Qb rfl (by assumption))]
def Dv(d:s∈[Jb,Zj,Qi,ZG]):call prog (k+4) "fact_told" [.v a.words,.v (b3 a b),.v (dc (.cnt s j e))] h=.ok (.v (bh (JL s j (Zm a.n v s) (Zm a.n u s)))) h:=by
 refine qu (jN _ _ _) e1 ?_;have c:=Xo k a.n s j v u n4 h;have ne:=by
  have:∀s∈[Jb,Zj,Qi,ZG],(s==QK)=y9/\(s==mE)=y9/\(s==lF)=y9/\(s==qt)=false:=by decide
  exact this s d
 simp only[aR];rw[Za ((wA _ rfl).trans (by rw[ne.1])),Za ((wA _ rfl).trans (by rw[ne.2.1])),Za ((wA _ rfl).trans (by rw[ne.2.2.1])),Za ((wA _ rfl).trans (by rw[ne.2.2.2])),xa (Qb rfl (by assumption))]
include e2
theorem DZ:call prog (k+4) "fact_told" [.v a.words,.v (b3 a b),.v (dc (.eO e' e))] h=.ok (.v (bh (eW v' u' v u))) h:=by refine qu (jN _ _ _) e1 ?_;simp only[aR];rw[Za (wA (s:=lF) _ rfl),Za (wA (s:=lF) _ rfl),zi (wA (s:=lF) _ rfl) (Qb rfl (by simp![af,ZX,e2,zV];rfl))]
theorem LQ:call prog (k+4) "fact_told" [.v a.words,.v (b3 a b),.v (dc (.eN e' e))] h=.ok (.v (bh (ik (eW v' u' v u) (eW v u v' u')))) h:=by refine qu (jN _ _ _) e1 ?_;simp only[aR];rw[Za (wA (s:=qt) _ rfl),Za (wA (s:=qt) _ rfl),Za (wA (s:=qt) _ rfl)];refine xa ((XH (wA (s:=qt) _ rfl)).trans ?_);refine(za (by simp![af,ZX,e2];rfl)).trans ?_;exact xa (Qb rfl (by simp![zV,ZJ]))
end
def V.leaf:V n (Wf.dq n) (lJ JD)/\V n (2^(n*n)-1) (lJ WZ)/\V n 0 (lJ JV):=by
 refine⟨⟨Wf.gf _,λa b d c=>?_⟩,⟨Nat.sub_lt (Af4 _) (by decide),λa b d c=>?_⟩,⟨Af4 _,λa b d c=>?_⟩⟩
 .rw[Wf.eQ d c,decide_eq_true_eq];show _↔(y9||(k9&&decide _))=k9;simp
 .rw[Al4,decide_eq_true (Wf.place_lt d c)];show _↔(k9||(y9&&decide _))=k9;simp
 .rw[Ag5];show _↔(y9||(y9&&decide _))=k9;simp
noncomputable def bz(w:Wo)(t:Tx)(x y:Nat):Bool:=if t∈w.T then(w.ts.getD (de t w.T) 0).testBit (x*w.n+y)else u9 (x=y)&&(w.ks.getD (de t w.K) 0).testBit x
def r3(w)(t)(x y):bz w t x y=k9↔fQ w (.name t) x y:=by
 show _↔w.at t x y;unfold bz Wo.at;split
 .exact Iff.rfl
 .rw[Aa0,decide_eq_true_eq]
def bt(a b:Wo):Bool->Ex->Nat->Nat->Bool
|false,.name t=>bz a t
|true,.name t=>bz b t
|_,.same=>lJ JD
|_,.all=>lJ WZ
|_,.none=>lJ JV
|p,.turned e=>λx y=>bt a b p e y x
|p,.closed e=>Wf.wr (bt a b p e) a.n
|p,.plus e f=>λx y=>bt a b p e x y||bt a b p f x y
|p,.less e f=>λx y=>bt a b p e x y&&!bt a b (!p) f x y
|p,.both e f=>λx y=>bt a b p e x y&&bt a b p f x y
|p,.joined e f=>λx y=>(Ab1 a.n).any λc=>bt a b p e x c&&bt a b p f c y
def sP(w):∀e p,bt w w p e=bt w w k9 e:=by
 intro e;induction e with
|name t=>intro p;cases p<;>rfl
|turned e b=>intro p;simp[bt,b p]
|closed e b=>intro p;simp[bt,b p]
|plus e f b a=>intro p;simp[bt,b p,a p]
|less e f b a=>intro p;simp[bt,b p,a _]
|both e f b a=>intro p;simp[bt,b p,a p]
|joined e f b a=>intro p;simp[bt,b p,a p]
|_=>intro p;cases p<;>rfl
structure Le(a c:Wo):Prop where
 en:c.n=a.n
 nm:∀t x y,bz a t x y=k9->bz c t x y=k9
def Le.refl (a):Le a a:=⟨rfl,λ_ _ _ h=>h⟩
theorem mn(h:∀x y,g x y=k9->g' x y=k9):∀k x y,Wf.wr g k x y=k9->Wf.wr g' k x y=k9
|0,x,y,z=>h x y z
|k+1,x,y,z=>by rw[Wf.wr,Ae7,Aa0]at z⊢;exact z.elim (λz=>.inl (mn h k x y z)) λz=>.inr ⟨mn h k _ _ z.1,mn h k _ _ z.2⟩
def yo(h:∀c,f c=k9->g c=k9)(l:List Nat)(z:l.any f=k9):l.any g=true:=by rw[Ae1]at z⊢;exact let⟨c,a,b⟩:=z;⟨c,a,h c b⟩
def qN(L:Le a a')(h:Le b' b):∀e x y,(bt a b y9 e x y=k9->bt a' b' y9 e x y=k9)/\(bt a' b' k9 e x y=k9->bt a b k9 e x y=k9):=by
 intro e;induction e with
|name t=>exactλx y=>⟨L.nm t x y,h.nm t x y⟩
|same=>exactλx y=>⟨id,id⟩
|all=>exactλx y=>⟨id,id⟩
|none=>exactλx y=>⟨id,id⟩
|turned e g=>exactλx y=>g y x
|closed e g=>intro x y;simp[bt,L.en];exact⟨mn (λx y=>(g x y).1) _ x y,mn (λx y=>(g x y).2) _ x y⟩
|plus e f g d=>intro x y;simp[bt,Ae7];exact⟨λz=>z.elim (λz=>.inl ((g x y).1 z)) λz=>.inr ((d x y).1 z),λz=>z.elim (λz=>.inl ((g x y).2 z)) λz=>.inr ((d x y).2 z)⟩
|less e f g d=>intro x y;simp only[bt,Aa0,Af1,←Ap8];exact⟨λz=>⟨(g x y).1 z.1,λq=>z.2 ((d x y).2 q)⟩,λz=>⟨(g x y).2 z.1,λq=>z.2 ((d x y).1 q)⟩⟩
|both e f g d=>intro x y;simp only[bt,Aa0];exact⟨λz=>⟨(g x y).1 z.1,(d x y).1 z.2⟩,λz=>⟨(g x y).2 z.1,(d x y).2 z.2⟩⟩
|joined e f g d=>intro x y;simp only[bt,L.en];exact⟨yo (λc z=>by rw[Aa0]at z⊢;exact⟨(g x c).1 z.1,(d c y).1 z.2⟩) _,yo (λc z=>by rw[Aa0]at z⊢;exact⟨(g x c).2 z.1,(d c y).2 z.2⟩) _⟩
def Sub(v w:Nat):Prop:=∀k,v.testBit k=k9->w.testBit k=k9
def V.sub (h:V n v g)(q:V n w f)(d:∀x y,g x y=k9->f x y=k9):Sub v w:=λk z=>by
 by_cases a:k<n*n
 .have b:=h.2 _ _ (Wf.aZ a) (Wf.aU a);have c:=q.2 _ _ (Wf.aZ a) (Wf.aU a);rw[Wf.bu]at b c;exact c.mpr (d _ _ (b.mp z))
 .rw[Ak1 (Ab3 h.1 (Ad6 (by decide) (Ap0.mp a)))]at z;cases z
def Sub.and (h:Sub v w):v&&&w=v:=Ai8 λk=>by
 rw[Ai4];cases q:v.testBit k with
|false=>rfl
|true=>rw[h k q];rfl
def Sub.oP {v w:Nat}(h:Sub v w)(q:Sub w v):v=w:=Ai8 λk=>An0.mpr ⟨h k,q k⟩
def sub_zero:v-(v&&&w)=0↔Sub v w:=by refine⟨λh k z=>?_,λh=>by rw[h.and,An3]⟩;have e:=congrArg (·.testBit k) h;simp[Wf.a0,z,Ae]at e;simpa using e
structure B(a b:Wo)(e:Ex)(v u:Nat):Prop where
 lo:V a.n v (bt a b y9 e)
 hi:V a.n u (bt a b k9 e)
section
variable{a b a' b':Wo}{e:Ex}{v u w z:Nat}
def B.mono (h:B a b e v u)(q:B a' b' e w z)(L:Le a a')(c:Le b' b):Sub v w/\Sub z u:=
 ⟨V.sub h.lo (L.en▸q.lo) λx y=>(qN L c e x y).1,V.sub (L.en▸q.hi) h.hi λx y=>(qN L c e x y).2⟩
def B.in(h:B a b e v u)(L:Le a b):Sub v u:=V.sub h.lo h.hi λx y q=>(qN (Le.refl a) L e x y).2 (sP a e y9▸(qN (Le.refl a) L e x y).1 q)
def B.eq (h:B a a e v u):v=u:=(h.in (Le.refl a)).oP (V.sub h.hi h.lo λx y q=>(sP a e y9).symm▸q)
end
def XG(h:a=k9->a'=k9)(q:b=k9->b'=k9)(n:a'=k9->b'=k9->False)(e:QU a b=y0 x):QU a' b'=y0 x:=by
 cases a with
|true=>rw[h rfl];exact e
|false=>
  cases b with
|false=>cases e
|true=>
   rw[q rfl];cases a' with
|true=>exact(n rfl (q rfl)).elim
|false=>exact e
def J5(a):QU a (!a)=y0 a:=by cases a<;>rfl
def zP(h:Sub v w/\Sub z u)(q:Sub v' w'/\Sub z' u')(h1:Sub w z)(c:Sub w' z')(e:eW v u v' u'=y0 x):eW w z w' z'=y0 x:=by
 refine XG (λk=>?_) (λk=>?_) (λk b=>?_) e
 .rw[decide_eq_true_eq,sub_zero]at k⊢;exactλi a=>q.1 i (k i (h.2 i a))
 .rw[Af1,decide_eq_false_iff_not,sub_zero]at k⊢;exactλl=>k λi a=>q.2 i (l i (h.1 i a))
 .rw[decide_eq_true_eq,sub_zero]at k;rw[Af1,decide_eq_false_iff_not,sub_zero]at b;exact b λi a=>c i (k i (h1 i a))
def dC:List Nat->List Nat->Prop
|[],[]=>True
|x::xs,y::ys=>x<=y/\dC xs ys
|_,_=>False
theorem dC.map (h:∀x,f x<=g x):∀l:List Nat,dC (l.map f) (l.map g)
|[]=>trivial
|x::l=>⟨h x,dC.map h l⟩
theorem dC.sum:∀{l m},dC l m->l.sum<=m.sum
|[],[],_=>Aa9 _
|x::a,y::b,h=>by exact Nat.add_le_add h.1 (dC.sum h.2)
|[],_::_,h=>h.elim
|_::_,[],h=>h.elim
theorem dC.all (a:∀x y,x<=y->p x=k9->q y=k9):∀{l m},dC l m->l.all p=k9->m.all q=k9
|[],[],_,_=>rfl
|x::b,y::c,h,z=>by rw[Al1,Aa0]at z⊢;exact⟨a x y h.1 z.1,dC.all a h.2 z.2⟩
|[],_::_,h,_=>h.elim
|_::_,[],h,_=>h.elim
theorem dC.dn (a:∀x y,x<=y->p y=k9->q x=k9):∀{l m},dC l m->m.all p=k9->l.all q=k9
|[],[],_,_=>rfl
|x::b,y::c,h,z=>by rw[Al1,Aa0]at z⊢;exact⟨a x y h.1 z.1,dC.dn a h.2 z.2⟩
|[],_::_,h,_=>h.elim
|_::_,[],h,_=>h.elim
def yI(p q)(h:∀x,p x=!q x)(l:List Nat):l.any p=!l.all q:=by
 induction l with
|nil=>rfl
|cons x l a=>rw[Ag,Al1,a,h x,Bool.not_and]
def yH(j x:Nat):u9 (x<j)=!u9 (j<=x):=by grind
def yZ(s)(j)(l u):JL s j l u=if s∈[Jb,Qi]then QU (l.all λx=>u9 (j<=x)) (!u.all λx=>u9 (j<=x))else QU (u.all λx=>u9 (x<=j)) (!l.all λx=>u9 (x<=j)):=by rw[JL,yI _ (λx=>decide _) (λx=>yH j x),yI (λx=>decide _) (λx=>decide _) (λx=>yH x j)]
def NQ(h:dC l l')(q:dC u' u)(n:dC l' u')(e:JL s j l u=y0 x):JL s j l' u'=y0 x:=by
 have up:∀x y:Nat,x<=y->u9 (j<=x)=k9->u9 (j<=y)=true:=λx y h k=>by rw[decide_eq_true_eq]at k⊢;lia
 have dn:∀x y:Nat,x<=y->u9 (y<=j)=k9->u9 (x<=j)=true:=λx y h k=>by rw[decide_eq_true_eq]at k⊢;lia
 rw[yZ]at e⊢;split at e
 .rename_i c;rw[if_pos c];refine XG (λk=>h.all up k) (λk=>?_) (λk a=>?_) e
  .rw[Af1,←Ap8]at k⊢;exactλl=>k (q.all up l)
  .rw[n.all up k]at a;cases a
 .rename_i c;rw[if_neg c];refine XG (λk=>q.dn dn k) (λk=>?_) (λk a=>?_) e
  .rw[Af1,←Ap8]at k⊢;exactλl=>k (h.dn dn l)
  .rw[n.dn dn k]at a;cases a
def wY(s)(h:Sub v w):dC (Zm n v s) (Zm n w s):=by
 have r:dC (fL n v) (fL n w):=dC.map (λa=>dC.sum (dC.map (λb=>by
  unfold tb;cases q:v.testBit (a*n+b)with
|false=>exact Af _
|true=>rw[h _ q];exact Aa9 _) _)) _
 unfold Zm;split
 .exact⟨r.sum,trivial⟩
 .exact r
def XE(s)(j)(l):JL s j l l=y0 (vT s j l):=by rw[yZ,vT];split<;>exact J5 _
def zO(v u):eW v v u u=y0 (u9 (v-(v&&&u)=0)):=J5 _
def gP(a b:Wo):Fc->Option Bool->Prop
|.eO x y,r=>∃v u v' u',B a b x v u/\B a b y v' u'/\r=eW v u v' u'
|.eN x y,r=>∃v u v' u',B a b x v u/\B a b y v' u'/\r=ik (eW v u v' u') (eW v' u' v u)
|.bL x,r=>∃v u,B a b x v u/\r=JL Jb 1 (Zm a.n v Jb) (Zm a.n u Jb)
|.ak x,r=>∃v u,B a b x v u/\r=JL Zj 0 (Zm a.n v Zj) (Zm a.n u Zj)
|.cnt s j x,r=>∃v u,B a b x v u/\r=JL s j (Zm a.n v s) (Zm a.n u s)
def Td(a b:Wo):Sy->Option Bool->Prop
|.fact f,r=>gP a b f r
|.neg s,r=>∃q,Td a b s q/\r=q.map (!·)
|.cT s t,r=>∃p q,Td a b s p/\Td a b t q/\r=ik p q
|.cW s t,r=>∃p q,Td a b s p/\Td a b t q/\r=kM p q
def QV(h:∀x,p=y0 x->p'=y0 x)(k:∀x,q=y0 x->q'=y0 x)(e:ik p q=y0 x):ik p' q'=y0 x:=by
 rcases p with _|_|_<;>rcases q with _|_|_<;>cases e<;>(first|rw[h _ rfl]|skip)<;>(first|rw[k _ rfl]|skip)<;>first|rfl|(rcases p' with _|_|_<;>rfl)|(rcases q' with _|_|_)
def DG(h:∀x,p=y0 x->p'=y0 x)(k:∀x,q=y0 x->q'=y0 x)(e:kM p q=y0 x):kM p' q'=y0 x:=by
 rcases p with _|_|_<;>rcases q with _|_|_<;>cases e<;>(first|rw[h _ rfl]|skip)<;>(first|rw[k _ rfl]|skip)<;>first|rfl|(rcases p' with _|_|_<;>rfl)|(rcases q' with _|_|_)
theorem gP.mono (L:Le a a')(k:Le b' b)(i:Le a' b')(h:gP a b f r)(q:gP a' b' f r')(e:r=y0 x):r'=y0 x:=by
 have cnt:∀{y}{v u l n}{s}{j},B a b y v u->B a' b' y l n->JL s j _ _=y0 x->JL s j (Zm a'.n l s) (Zm a'.n n s)=y0 x:=λd c e=>by have m:=d.mono c L k;rw[L.en];exact NQ (wY _ m.1) (wY _ m.2) (wY _ (c.in i)) e
 cases f with
|eO y z=>obtain⟨v,u,l,n,d,o,rfl⟩:=h;obtain⟨w,t,A,p,c,g,rfl⟩:=q;exact zP (d.mono c L k) (o.mono g L k) (c.in i) (g.in i) e
|eN y z=>obtain⟨v,u,l,n,d,o,rfl⟩:=h;obtain⟨w,t,A,p,c,g,rfl⟩:=q;exact QV (λx=>zP (d.mono c L k) (o.mono g L k) (c.in i) (g.in i)) (λx=>zP (o.mono g L k) (d.mono c L k) (g.in i) (c.in i)) e
|bL y=>obtain⟨v,u,d,rfl⟩:=h;obtain⟨w,t,c,rfl⟩:=q;exact cnt d c e
|ak y=>obtain⟨v,u,d,rfl⟩:=h;obtain⟨w,t,c,rfl⟩:=q;exact cnt d c e
|cnt s j y=>obtain⟨v,u,d,rfl⟩:=h;obtain⟨w,t,c,rfl⟩:=q;exact cnt d c e
theorem Td.mono (L:Le a a')(g:Le b' b)(d:Le a' b'):∀s r j x,Td a b s r->Td a' b' s j->r=y0 x->j=y0 x
|.fact f,r,j,x,h,q,e=>gP.mono L g d h q e
|.neg s,r,j,x,z7,z8,e=>by
  obtain⟨p,h,i⟩:=z7;obtain⟨A,q,c⟩:=z8;rw[c];rw[i]at e;cases p with
  |none=>cases e
  |some y=>rw[Td.mono L g d s _ _ y h q rfl];exact e
|.cT s t,r,j,x,z7,z8,e=>by obtain⟨w,u,l,n,i⟩:=z7;obtain⟨v,o,m,k,c⟩:=z8;rw[c];rw[i]at e;exact QV (λy z=>Td.mono L g d s _ _ y l m z) (λy z=>Td.mono L g d t _ _ y n k z) e
|.cW s t,r,j,x,z7,z8,e=>by obtain⟨w,u,l,n,i⟩:=z7;obtain⟨v,o,m,k,c⟩:=z8;rw[c];rw[i]at e;exact DG (λy z=>Td.mono L g d s _ _ y l m z) (λy z=>Td.mono L g d t _ _ y n k z) e
def jn(P:Pt a b)(h):∀e m,e.dp+7<=m->e.wf (a.K++a.T)->∃v u,B a b e v u/\call prog m "bounds" [.v a.words,.v (b3 a b),.v (a9 e)] h=.ok (.v (fE v u)) h:=by
 have n4:=P.oA.wl.n4;have leaf:∀e s k v,a9 e=.tup [.str s]->(s==xk)=y9->(s==jH)=y9->V a.n v (bt a b y9 e)->V a.n v (bt a b k9 e)->(∀l,call prog (k+5) "made" [.i a.n,.s s,.l l] h=.ok (.i v) h)->∃v u,B a b e v u/\call prog (k+6) "bounds" [.v a.words,.v (b3 a b),.v (a9 e)] h=.ok (.v (fE v u)) h:=by intro e s k v M D O z A f;rw[M];exact⟨v,v,⟨z,A⟩,wy (ps:=[]) D O (by simp) (AZ QZ) (f _) (f _)⟩
 intro e;induction e with
|name t=>
  intro m f wf;obtain⟨k,rfl⟩:∃k,m=k+6:=⟨m-6,by simp[Ex.dp]at f;omega⟩;have G:t∈b.K++b.T:=by rw[P.eK,P.eT];exact wf
  obtain⟨v,z,e1⟩:=xo (k+1) P.oA t wf h;obtain⟨u,A,e2⟩:=xo (k+1) P.BC t G h;have L:V a.n v _:=⟨z.1,λx y F C=>(z.2 x y F C).trans (r3 a t x y).symm⟩;have J:V b.n u _:=⟨A.1,λx y F C=>(A.2 x y F C).trans (r3 b t x y).symm⟩;rw[P.en]at J;rw[P.ew]at e2;refine⟨v,u,⟨L,J⟩,?_⟩;rw[Ga (d:=bF) rfl _ _ _ rfl];simp only[bF,a9];have i0:dY (.v (b3 a b)) (.v (.int 0)) h=y0 a.ay:=rfl;have i1:dY (.v (b3 a b)) (.v (.int 1)) h=y0 b.ay:=rfl;refine fx (by simp![af,Zl];rfl) ?_;rw[xa (w:=.v (fE v u)) (h1:=h) ((XH (h1:=h) (wA (s:=xk) _ rfl)).trans ?_),Gb _ _ _ rfl];refine(za (by simp![af,Zh];rfl)).trans ?_;exact xa (Qb rfl (by simp![i0,i1,e1,e2]))
|same=>intro m f wf;obtain⟨k,rfl⟩:∃k,m=k+6:=⟨m-6,by simp[Ex.dp]at f;omega⟩;exact leaf .same JD k _ rfl rfl rfl V.leaf.1 V.leaf.1 λl=>LA k a.n l h n4
|all=>intro m f wf;obtain⟨k,rfl⟩:∃k,m=k+6:=⟨m-6,by simp[Ex.dp]at f;omega⟩;exact leaf .all WZ k _ rfl rfl rfl V.leaf.2.1 V.leaf.2.1 λl=>Ni k a.n l h n4
|none=>intro m f wf;obtain⟨k,rfl⟩:∃k,m=k+6:=⟨m-6,by simp[Ex.dp]at f;omega⟩;exact leaf .none JV k _ rfl rfl rfl V.leaf.2.2 V.leaf.2.2 λl=>C4 k a.n l h
|turned c H=>intro m f wf;simp only[Ex.dp]at f;obtain⟨k,rfl⟩:=nk m 6 (by omega);obtain⟨v,u,q,e1⟩:=H (k+5) (by omega) wf;exact⟨_,_,⟨q.lo.turned,q.hi.turned⟩,wy (ps:=[(v,u)]) rfl rfl (by simp) (yd QZ (Qr e1)) (qH k a.n v h n4) (qH k a.n u h n4)⟩
|closed c H=>intro m f wf;simp only[Ex.dp]at f;obtain⟨k,rfl⟩:=nk m 6 (by omega);obtain⟨v,u,q,e1⟩:=H (k+5) (by omega) wf;obtain⟨r,N,K⟩:=xE k a.n v h n4 q.lo.1;obtain⟨Q,I,E⟩:=xE k a.n u h n4 q.hi.1;exact⟨_,_,⟨q.lo.closed N,q.hi.closed I⟩,wy (ps:=[(v,u)]) rfl rfl (by simp) (yd QZ (Qr e1)) K E⟩
|plus c d i g=>intro m f wf;simp only[Ex.dp]at f;obtain⟨k,rfl⟩:=nk m 6 (by omega);obtain⟨v,u,q,e1⟩:=i (k+5) (by omega) wf.1;obtain⟨o,p,n,j⟩:=g (k+5) (by omega) wf.2;exact⟨_,_,⟨q.lo.plus n.lo,q.hi.plus n.hi⟩,wy (ps:=[(v,u),(o,p)]) rfl rfl (by simp) (m6 QZ (Qr e1) (Qr j)) (XU k a.n v o h) (XU k a.n u p h)⟩
|less c d i g=>intro m f wf;simp only[Ex.dp]at f;obtain⟨k,rfl⟩:=nk m 6 (by omega);obtain⟨v,u,q,e1⟩:=i (k+5) (by omega) wf.1;obtain⟨o,p,n,j⟩:=g (k+5) (by omega) wf.2;exact⟨_,_,⟨q.lo.less n.hi,q.hi.less n.lo⟩,Lj (m6 QZ (Qr e1) (Qr j))⟩
|both c d i g=>intro m f wf;simp only[Ex.dp]at f;obtain⟨k,rfl⟩:=nk m 6 (by omega);obtain⟨v,u,q,e1⟩:=i (k+5) (by omega) wf.1;obtain⟨o,p,n,j⟩:=g (k+5) (by omega) wf.2;exact⟨_,_,⟨q.lo.both n.lo,q.hi.both n.hi⟩,wy (ps:=[(v,u),(o,p)]) rfl rfl (by simp) (m6 QZ (Qr e1) (Qr j)) (qS k a.n v o h) (qS k a.n u p h)⟩
|joined c d i g=>intro m f wf;simp only[Ex.dp]at f;obtain⟨k,rfl⟩:=nk m 6 (by omega);obtain⟨v,u,q,e1⟩:=i (k+5) (by omega) wf.1;obtain⟨o,p,n,j⟩:=g (k+5) (by omega) wf.2;exact⟨_,_,⟨q.lo.joined n.lo,q.hi.joined n.hi⟩,wy (ps:=[(v,u),(o,p)]) rfl rfl (by simp) (m6 QZ (Qr e1) (Qr j)) (zH k a.n v o h n4) (zH k a.n u p h n4)⟩
def w4(P:Pt a b)(h)(f)(m)(c:f.dp+7<=m)(wf:f.wf (a.K++a.T)):∃r,gP a b f r/\call prog (m+1) "fact_told" [.v a.words,.v (b3 a b),.v (dc f)] h=.ok (.v (bh r)) h:=by
 have n4:=P.oA.wl.n4;obtain⟨k,rfl⟩:=nk m 3 (by lia);cases f with
|eO x y=>simp[Fc.dp]at c;obtain⟨i,l,g,d⟩:=jn P h x (k+3) (by lia) wf.1;obtain⟨v,u,q,e⟩:=jn P h y (k+3) (by lia) wf.2;exact⟨_,⟨i,l,v,u,g,q,rfl⟩,DZ n4 e d⟩
|eN x y=>simp[Fc.dp]at c;obtain⟨i,l,g,d⟩:=jn P h x (k+3) (by lia) wf.1;obtain⟨v,u,q,e⟩:=jn P h y (k+3) (by lia) wf.2;exact⟨_,⟨i,l,v,u,g,q,rfl⟩,LQ n4 e d⟩
|bL x=>obtain⟨v,u,q,e⟩:=jn P h x _ c wf;exact⟨_,⟨v,u,q,rfl⟩,Ie n4 e⟩
|ak x=>obtain⟨v,u,q,e⟩:=jn P h x _ c wf;exact⟨_,⟨v,u,q,rfl⟩,Nt n4 e⟩
|cnt s j x=>obtain⟨v,u,q,e⟩:=jn P h x _ c wf.2;exact⟨_,⟨v,u,q,rfl⟩,Dv n4 e wf.1⟩
abbrev uR(a b:Wo)(d:D)(s:Tx):Sl:=[sv a.words,sv (b3 a b),sv d,y0 (.s s)]
section
variable{m k:Nat}{a b:Wo}{h:AH}{x y:D}{r q:Option Bool}
def wB(z:execs (k8 m) (match cA.body with|.cons _ r=>r|r=>r) (uR a b (.tup (.str s::ds)) s) h=.ret (.v d) h):call prog (m+1) "told" [.v a.words,.v (b3 a b),.t (.str s::ds)] h=.ok (.v d) h:=by rw[Ga rfl _ _ _ rfl];simp only[cA]at z⊢;rw[za (τ1:=uR a b (.tup (.str s::ds)) s) (h1:=h) (by simp![af,Zl]),z,Gb _ _ _ rfl]
def AV(c:call prog (k+2) "told" [.v a.words,.v (b3 a b),.v x] h=.ok (.v (bh r)) h):call prog (k+3) "told" [.v a.words,.v (b3 a b),.t [.str l4,x]] h=.ok (.v (bh (r.map (!·)))) h:=by refine wB ?_;simp only[cA];rw[zi (wA (s:=l4) _ rfl) (Qb rfl (by simp![af,ZX,c,NG];rfl))]
def Fz(d:call prog (k+2) "told" [.v a.words,.v (b3 a b),.v x] h=.ok (.v (bh r)) h)(c:call prog (k+2) "told" [.v a.words,.v (b3 a b),.v y] h=.ok (.v (bh q)) h):call prog (k+3) "told" [.v a.words,.v (b3 a b),.t [.str kR,x,y]] h=.ok (.v (bh (ik r q))) h:=by refine wB ?_;simp only[cA];rw[Za (wA (s:=kR) _ rfl),zi (wA (s:=kR) _ rfl) (Qb rfl (by simp![af,ZX,tY,d,c,ZJ];rfl))]
def LK(d:call prog (k+2) "told" [.v a.words,.v (b3 a b),.v x] h=.ok (.v (bh r)) h)(c:call prog (k+2) "told" [.v a.words,.v (b3 a b),.v y] h=.ok (.v (bh q)) h):call prog (k+3) "told" [.v a.words,.v (b3 a b),.t [.str kh,x,y]] h=.ok (.v (bh (kM r q))) h:=by refine wB ?_;simp only[cA];rw[Za (wA (s:=kh) _ rfl),Za (wA (s:=kh) _ rfl),zi (wA (s:=kh) _ rfl) (Qb rfl (by simp![af,ZX,tY,d,c,IL];rfl))]
def Lg(wf:f.wf N)(e:call prog m "fact_told" [.v a.words,.v (b3 a b),.v (dc f)] h=.ok (.v (bh r)) h):call prog (m+1) "told" [.v a.words,.v (b3 a b),.v (dc f)] h=.ok (.v (bh r)) h:=by obtain⟨s,j,g,c,i,d⟩:=HZ f wf;rw[g]at e⊢;refine wB ?_;simp only[cA];rw[Za ((wA _ rfl).trans (by rw[c])),Za ((wA _ rfl).trans (by rw[i])),Za ((wA _ rfl).trans (by rw[d])),xa (Qb rfl (by assumption))]
end
def CS(P:Pt a b)(h):∀s m,s.dp+9<=m->s.wf (a.K++a.T)->∃r,Td a b s r/\call prog m "told" [.v a.words,.v (b3 a b),.v (aF s)] h=.ok (.v (bh r)) h:=by
 intro s;induction s with
|fact f=>intro m g wf;simp[Sy.dp]at g;obtain⟨k,rfl⟩:=nk m 2 (by lia);obtain⟨r,t,e⟩:=w4 P h f k (by lia) wf;exact⟨r,t,Lg wf e⟩
|neg x l=>intro m g wf;simp[Sy.dp]at g;obtain⟨k,rfl⟩:=nk m 3 (by lia);obtain⟨r,t,e⟩:=l (k+2) (by lia) wf;exact⟨_,⟨r,t,rfl⟩,AV e⟩
|cT x y c d=>intro m g wf;simp[Sy.dp]at g;obtain⟨k,rfl⟩:=nk m 3 (by lia);obtain⟨r,t,e⟩:=c (k+2) (by lia) wf.1;obtain⟨q,j,i⟩:=d (k+2) (by lia) wf.2;exact⟨_,⟨r,q,t,j,rfl⟩,Fz e i⟩
|cW x y c d=>intro m g wf;simp[Sy.dp]at g;obtain⟨k,rfl⟩:=nk m 3 (by lia);obtain⟨r,t,e⟩:=c (k+2) (by lia) wf.1;obtain⟨q,j,i⟩:=d (k+2) (by lia) wf.2;exact⟨_,⟨r,q,t,j,rfl⟩,LK e i⟩
mutual
theorem qB:∀{d:D},Gc d=k9->cn d d=k9
|.ak,_=>rfl
|.bl b,_=>by simp
|.int i,_=>by simp
|.str s,_=>by simp
|.tup xs,h=>by rw[cn];exact GF (by simpa[Gc]using h)
|.lst xs,h=>by rw[cn];exact GF (by simpa[Gc]using h)
|.ref _,h=>by simp at h
|.exc _ _,h=>by simp at h
theorem GF:∀{xs:List D},Gf xs=k9->GK xs xs=k9
|[],_=>rfl
|x::xs,h=>by
  have h':Gc x=k9/\Gf xs=true:=by simpa[Gf]using h
  rw[GK,qB h'.1,GF h'.2];rfl
end
mutual
theorem Zz{h:AH}:∀{d:D},Gc d=k9->res h d=d
|.ak,_=>rfl
|.bl b,_=>rfl
|.int i,_=>rfl
|.str s,_=>rfl
|.tup xs,q=>by rw[res,GH (by simpa[Gc]using q)]
|.lst xs,q=>by rw[res,GH (by simpa[Gc]using q)]
|.ref _,q=>by simp at q
|.exc _ _,q=>by simp at q
theorem GH{h:AH}:∀{xs:List D},Gf xs=k9->GR h xs=xs
|[],_=>rfl
|x::xs,q=>by
  have h':Gc x=k9/\Gf xs=true:=by simpa[Gf]using q
  rw[GR,Zz h'.1,GH h'.2]
end
theorem xc(f)(a:∀x,Gc (f x)=k9):∀l:List α,Gf (l.map f)=k9
|[]=>rfl
|x::l=>by simp[a x,xc f a l]
theorem jO(f)(k)(a:∀x,dep (f x)<=k):∀l:List α,GD (l.map f)<=k
|[]=>Af _
|x::l=>by have b:=a x;have c:=jO f k a l;exact Nat.max_le.mpr ⟨b,c⟩
def ZC(d)(a:Gc d=k9)(b:dep d<150)(h):Gw .ne (.v d) (.v d) h=y0 false:=by show(if GT (res h d) (res h d)then y0 (!cn (res h d) (res h d))else u0)=_;rw[Zz a,if_pos (by simp_all),qB a];rfl
def sC(d)(a:Gc d=k9)(b:dep d<150)(h):Gw .eq (.v d) (.v d) h=y0 true:=by show(if GT (res h d) (res h d)then y0 (cn (res h d) (res h d))else u0)=_;rw[Zz a,if_pos (by simp_all),qB a]
def Z5:D->Bool
|.int _=>k9
|_=>y9
def Zi(d:D)(e:Int):Bool:=match d with
|.int i=>u9 (0<=i)&&u9 (i<e)
|_=>y9
def zy(k)(d)(h)(a:Gc d=k9):call prog (k+1) "is_whole" [.v d] h=.ok (.b (Z5 d)) h:=by
 cases d<;>first|exact Gb _ _ _ rfl|cases a
def Qp(k)(d)(e)(h)(b:Gc d=k9):call prog (k+2) "is_below" [.v d,.v (.int e)] h=.ok (.b (Zi d e)) h:=by
 rw[Ga rfl _ _ _ rfl];have a:=zy k d h b;cases d with
|int i=>simp[a,Wx,Z5,Zi,Gi];by_cases c:0<=i<;>simp[c]
|_=>first|(simp[a,Wx,Z5,Zi,Gi])|(simp at b)
def X5(l):Gf (aw l)=true:=xc _ (λ_=>rfl) l
def C3(l):GD (aw l)<=0:=jO _ 0 (λ_=>Aa9 _) l
def sJ(k)(d)(h)(c:Gc d=k9):call prog (k+3) "is_size" [.v d] h=.ok (.b (Zi d 5)) h:=by rw[Ga rfl _ _ _ rfl];have a:prog.con.lookup "GREATEST_SIZE"=some _:=rfl;have b:(4:Int)+1=5:=rfl;simp only[ZQ];simp![a,jg,b,(Qp k d 5 h c)]
def Z4(k)(d)(h)(c:Gc d=k9)(b:Zi d 5=k9):call prog (k+4) "check_size" [.v d] h=.ok (.v .ak) h:=by rw[Ga rfl _ _ _ rfl];have a:=sJ k d h c;rw[b]at a;simp only[Qk];rw[Za (by simp![a])];simp![]
def cd:List (Nat×Nat)->Nat
|[]=>0
|q::r=>q.2+2^q.1*cd r
def dg:List Nat->Nat->List Nat
|[],_=>[]
|w::a,c=>c%2^w::dg a (c/2^w)
def cX(n K T:Nat):List Nat:=Aa1 K n++Aa1 T (n*n)
structure Wl(n:Nat)(ks ts:List Nat):Prop where
 n4:n<=4
 k4:ks.length<=4
 t4:ts.length<=4
 bk:∀x∈ks,x<2^n
 bt:∀x∈ts,x<2^(n*n)
def x9(n K T):(cX n K T).length=K+T:=by simp[cX]
abbrev nu(A B:List D):D:=.tup [.tup A,.tup B]
def Dh(n K T):aw (cX n K T)=Aa1 K (.n n)++Aa1 T (.n (n*n)):=by simp[cX]
theorem qx(x):∀m,(Aa1 m x).sum=m*x
|0=>by simp
|m+1=>by rw[Ad9,Aj2,qx x m,Nat.succ_mul,Nat.add_comm]
def q9(n K T):(cX n K T).sum=K*n+T*(n*n):=by rw[cX,List.sum_append,qx,qx]
theorem yc(h):∀ws c j x5,(∀w∈ws,w<=16)->j.length+ws.length<=1000->∃L M,
 Gr (Gq [5] k9) (λτ h=>execs F Xn τ h) (aw ws) [x0,x1,x2,y0 (.own (aw j)),si c,x5,x6] h=.next [x0,x1,x2,y0 (.own (aw (j++dg ws c))),L,M,x6] h
|[],c,j,x5,_,_=>⟨si c,x5,by simp[dg]⟩
|w::ws,c,j,x5,b,k=>by
  rw[Aa7]at k;have d:=b w Aa4;obtain⟨L,M,e⟩:=yc h ws (c/2^w) (j++[c%2^w]) (si w) (λx l=>b x (Aa3 _ l)) (by simp;omega);refine⟨L,M,?_⟩;have f:=iQ w (by omega);have o:0<2^w:=Nat.pow_pos (by decide);have n:((2^w:Nat))-1=((2^w-1:Nat):Int):=by omega
  have a:=zl c (2^w-1);rw[Ak8]at a;have i:=xO c w;have g:(aw j).length<bp:=by rw[Gg,Aa];omega
  have m:aw (j++[c%2^w])=aw j++[.n (c%2^w)]:=by simp
  rw[show aw (w::ws)=.n w::aw ws from rfl,wc rfl ?_,e,Ag7]
  .rfl
  .rw[m];simp![Xn,f,qo,n,We,a,g,if_true,i]
def QO(x)(m)(a:m<=1000)(h):GJ .mul (.own [x]) (.i m) h=.ok (.own (Aa1 m x)) h:=by
 show KH [x] m h=_;have c:-1000<=(m:Int)/\(m:Int)<=1000/\[x].length*(m:Int).toNat<=bp:=by rw[Gg,Ad];simp;lia
 rw[KH,if_pos c,Ad,show(Aa1 m [x]).flatten=Aa1 m x by simp]
def uz(k n)(A B)(h)(d:n<=4)(c:A.length<=4)(b:B.length<=4):call prog (k+1) "widths" [.v (nu A B),.i n] h=.ok (.own (aw (cX n A.length B.length))) h:=by
 rw[Ga rfl _ _ _ rfl];have a:(Aa1 A.length (D.n n)).length+(Aa1 B.length (D.n (n*n))).length<=bp:=by rw[Gg];simp;lia
 rw[Dh];simp only[u1];simp![af,xj,Zh,Qo,(QO (.n n) A.length (by lia) h),(Jl n n (by lia)),(QO (.n (n*n)) B.length (by lia) h),Ej,a,if_true]
def oV(k n)(A B)(h)(d:n<=4)(b:A.length<=4)(a:B.length<=4):call prog (k+2) "bits" [.v (nu A B),.i n] h=.ok (.i ((cX n A.length B.length).sum)) h:=by
 rw[Ga rfl _ _ _ rfl];have c:(aw (cX n A.length B.length)).length<=bp:=by rw[Gg,Aa,x9];lia
 simp only[As];simp![(uz k n A B h d b a),yi,c,if_true,uY]
def B5(s)(a:List Tx)(h):Gw .mem (.s s) (.own (a.map .str)) h=y0 (u9 (s∈a)):=Ju s a (.own _) h rfl
def NH(e:Gi τ i=si n)(a:n<=1000000):Gs F (.aC (.var i)) τ h=.ok ((Ab1 n).map λi=>.n i) h:=xn (by rw[eval,e]) a
def yY(i j)(h):Gw .ne (.i i) (.i j) h=y0 (!u9 (i=j)):=by have this:=Wh i j h;exact congrArg (Option.map (!·)) this
def jP(h)(a:Cell):(h++[a])[h.length]?=y0 a:=by simp
def rP(h)(a b:Cell):(h++[a]).set h.length b=h++[b]:=by simp
def uC{F:Fx}{k:Nat}{az:List Nat}{it:It}{c elt:E}{τ:Sl}{h:AH}{ds:List D}(Q:D->D->Prop)(i:Gj F it τ h=.ok ds h)(l:ds.length<=1000)(e:∀d∈ds,∃y,eval F elt (GC (Aa1 k u0++az.map λj=>Gi τ j) 0 (.v d)) h=.ok (.v y) h/\Q d y):∃f:D->D,eval F (.comp [0] k9 k az it y9 c elt) τ h=.ok (.own (ds.map f)) h/\∀d∈ds,Q d (f d):=by
 have:∀d,∃y,d∈ds->eval F elt _ h=.ok _ h/\Q d y:=λd=>by
  by_cases m:d∈ds
  .obtain⟨y,g⟩:=e d m;exact⟨y,λ_=>g⟩
  .exact⟨.ak,λz=>absurd z m⟩
 obtain⟨f,b⟩:=Classical.skolem.mp this;refine⟨f,?_,λd a=>(b d a).2⟩;exact zk f i (by rw[Gg];lia) λd a=>⟨_,rfl,_,(b d a).1,rfl⟩
theorem pK:∀{l:List Nat},(∀x∈l,p x=k9->q x=k9)->(∃x∈l,q x=k9/\p x=y9)->(l.filter p).length<(l.filter q).length
|[],_,h=>by obtain⟨x,a,_⟩:=h;cases a
|y::l,h,i=>by
  have le:∀l:List Nat,(∀x∈l,p x=k9->q x=k9)->(l.filter p).length<=(l.filter q).length:=by
   intro l;induction l with
|nil=>exactλ_=>Aa9 _
|cons z l b=>
    intro e;have l0:=b λx a=>e x (Aa3 _ a);have g:=e z Aa4;rw[Am7,Am7];cases e1:p z with
|true=>rw[g e1,if_pos rfl,if_pos rfl,Aa7,Aa7];omega
|false=>
     rw[if_neg Ab8];cases q z with
|true=>rw[if_pos rfl,Aa7];omega
|false=>rw[if_neg Ab8];exact l0
  have j:=le l λx a=>h x (Aa3 _ a);have f:=h y Aa4;obtain⟨x,a,d,c⟩:=i;rw[Am7,Am7];rcases Ab7.mp a with rfl|a
  .rw[d,c,if_pos rfl,if_neg Ab8,Aa7];omega
  .have b:=pK (λx a=>h x (Aa3 _ a)) ⟨x,a,d,c⟩;cases e1:p y with
|true=>rw[f e1,if_pos rfl,if_pos rfl,Aa7,Aa7];omega
|false=>
    rw[if_neg Ab8];cases q y with
|true=>rw[if_pos rfl,Aa7];omega
|false=>rw[if_neg Ab8];exact b
def LJ(l)(x):aw (l++[x])=aw l++[.n x]:=by simp
theorem XF{st:Sl->AH->Prop}:∀(L:List α),(∀a∈L,∀τ h,st τ h->∃τ1 j h2,bnd (e a) τ=y0 τ1/\body τ1 h=.next j h2/\st j h2)->∀τ h,st τ h->∃M h',Gr bnd body (L.map e) τ h=.next M h'/\st M h'
|[],_,τ,h,z=>⟨τ,h,rfl,z⟩
|a::L,step,τ,h,z=>by obtain⟨τ1,j,h2,e1,e2,c⟩:=step a Aa4 τ h z;obtain⟨M,h',d,f⟩:=XF L (λb g=>step b (Aa3 _ g)) j h2 c;exact⟨M,h',by rw[Ab4,wc e1 e2,d],f⟩
def Mr(e:h[r]?=y0 (.cZ ks)):Kl h (y0 (.r r))=y0 (r,ks):=by unfold Kl;simp[e]
abbrev aK(ns:List Int)(i:Nat)(v:Int):Cell:=.lst [.lst (ns.map .int),.n i,.int v]
def NJ:Gk .pow 10 18=y0 1000000000000000000:=by
 have:(0:Int)<=18/\18<=BP/\(10:Int).natAbs<kK:=by rw[GY,GB];decide
 show(if _ then _ else _)=_;rw[if_pos this];rfl
def AQ(v)(e:eval F (.ix .v0 (.int 2)) τ h=.ok (.v (.int v)) h):Gp F (.not (.chain .le .lt (.int 0) (.ix .v0 (.int 2)) (.bin .pow (.int 10) (.int 18)))) τ h=.ok (!(u9 (0<=v)&&u9 (v<1000000000000000000))) h:=by
 rw[Gp,eval];rw[show eval F _ τ h=.ok (.b (u9 (0<=v)&&u9 (v<1000000000000000000))) h by
  rw[eval,eval,R.ae,e,R.ae];by_cases q:0<=v
  .simp![QW,uZ,NJ,q,decide_true,Ae]
  .simp![QW,q,decide_false,Ae2]]
 simp![]
def jm(k:Nat){ns:List Int}{i:Nat}{v:Int}{h:AH}{r m:Nat}(e:h[r]?=y0 (aK ns i v))(G:0<m)(E:m<1073741824):
 ∃(d:Nat)(g:Int),d<m/\call prog (k+1) "_law_draw" [.r r,.i m] h=.ok (.i d) (h.set r (aK ns i g)):=by
 rw[Ga (d:=Qy) rfl _ _ _ rfl];have a:(0:Int)<(m:Int):=by omega
 have A:r<h.length:=(Aa8.mp e).1;have i2:eval (k8 k) (.ix .v0 (.int 2)) [y0 (.r r),si m,u0] h=.ok (.v (.int v)) h:=by simp![wW e,lT]
 have l:=AQ v i2;show∃d g,_/\Gy _ (execs _ _ [y0 (.r r),si m,u0] h)=_;simp only[Qy];have o:∀x:Int,∃d:Nat,d<m/\x%(m:Int)=(d:Int):=λx=>⟨(x%(m:Int)).toNat,by have:=Ao8 x a;have:=An4 x (Int.ne_of_gt a);omega,by have:=An4 x (Int.ne_of_gt a);omega⟩;cases c:(u9 (0<=v)&&u9 (v<1000000000000000000))with
|false=>
  obtain⟨d,f,b⟩:=o v;refine⟨d,v/(m:Int),f,?_⟩;have s:dI .divmod [.v (.int v),.i m] h=ai (.tup [.int (v/(m:Int)),.n d]) h:=by rw[XZ,if_pos ⟨a,by rw[GQ];omega⟩,b]
  rw[xa (w:=.i d) (h1:=h.set r (aK ns i (v/(m:Int))))]
  .exact Gb _ h _ (by rw[Ae6])
  refine(XH (h1:=h) (by rw[l,c];rfl)).trans ?_;refine(za (by rw[exec,show eval (k8 k) (.bi .divmod (.b (.ix .v0 (.int 2)) .v1)) [y0 (.r r),si m,u0] h=ai (.tup [.int (v/(m:Int)),.n d]) h by simp![wW e,lT,s]];simp![ai,gr,Kr,e,Nl,Kz,if_true];rfl)).trans ?_;exact xa rfl
|true=>
  rw[Aa0,decide_eq_true_eq,decide_eq_true_eq]at c;have y:Gk .mul v 742939=y0 (v*742939):=wZ _ _ (by decide);have q:Gk .mul (i:Int) 65063=y0 ((i:Int)*65063):=wZ _ _ (by decide);have j:Gk .mod (v*742939+(i:Int)*65063+40503) 16777213=y0 ((v*742939+(i:Int)*65063+40503)%16777213):=JO _ _ (by decide);have p:=An4 (v*742939+(i:Int)*65063+40503) (show(16777213:Int)≠0 by decide);have t:=Ao8 (v*742939+(i:Int)*65063+40503) (show(0:Int)<16777213 by decide);generalize D:(v*742939+(i:Int)*65063+40503)%16777213=w at j p t;have i1:eval (k8 k) (.ix .v0 (.int 1)) [y0 (.r r),si m,u0] h=.ok (.i i) h:=by simp![wW e,oj]
  have e2:(h.set r (aK ns i w))[r]?=y0 (aK ns i w):=Ac6 A;obtain⟨d,f,b⟩:=o (w*(w%4093+7)/64);refine⟨d,w,f,?_⟩;rw[Za (by rw[l,decide_eq_true c.1,decide_eq_true c.2];rfl)];rw[za (τ1:=[y0 (.r r),si m,u0]) (h1:=h.set r (aK ns i w)) (A8 (d:=.int w) (xs:=[.lst (ns.map .int),.n i,.int v]) (n:=2) (by simp![wW e,oj,lT,y,q,jg,j]) rfl e rfl rfl rfl)];have C:=An4 w (show(4093:Int)≠0 by decide);have F:=Ao8 w (show(0:Int)<4093 by decide);have z:Gk .mod w 4093=y0 (w%4093):=JO _ _ (by decide);have u:Gk .mul w (w%4093+7)=y0 (w*(w%4093+7)):=wZ _ _ (by omega);have B:Gk .fdiv (w*(w%4093+7)) 64=y0 (w*(w%4093+7)/64):=AI _ _ (by decide) (by decide);have n4:Gk .mod (w*(w%4093+7)/64) (m:Int)=y0 ((d:Nat):Int):=by rw[JO _ _ a,b]
  rw[xa (w:=.i d) (h1:=h.set r (aK ns i w)) (Qb rfl (by simp![wW e2,lT,z,jg,u,B,n4]))];exact Gb _ h _ (by rw[Ae6])
def ES{ns:List Int}(b:ns.length<=63)(q:eval F e τ h=.ok (.l (ns.map .int)) h):∃s,eval F (.bi .sum (.a (.eF e (.int j)))) τ h=.ok (.v (.int s)) h:=by
 have a:(cut ns u0 (y0 j)).length<=bp:=by have:=B8 ns u0 (y0 j);rw[Gg];lia
 refine⟨(cut ns u0 (y0 j)).sum,?_⟩;simp![q,pe,MY,yi,xV,Aa,a,if_true]
def Ay(k)(ns:List Int)(a:ns.length<=63)(h):∃v,call prog (k+1) "_law_start" [.l (ns.map .int)] h=.ok (.own [.lst (ns.map .int),.n (0),.int v]) h:=by show∃v,Gy _ (execs _ _ [y0 _] h)=_;obtain⟨s,e⟩:=ES (F:=(k8 k)) (e:=.var 0) (τ:=[y0 (.l (ns.map .int))]) (h:=h) (j:=1) a (by simp![]);refine⟨s,?_⟩;simp only[WG];rw[xa (w:=.own [.lst (ns.map .int),.n (0),.int s]) (h1:=h) (Ww rfl (by generalize E.bi _ _=X at e⊢;simp![e];rfl)),Gv _ _ _ rfl]
noncomputable abbrev mf:List Tx:=[fg,kD,lB,mH,[101,97,99,104],[105,110],nV,[111,114],nT,m2,fF,nz,[107,105,110,100],[116,105,101],[115,97,121]]
def wQ(st:Tx)(at' f k:Nat):Tx:=st.take at'++[97+(f+5*k)%26]++st.drop at'
def cO(st:Tx)(at' f k:Nat):Tx:=if wQ st at' f k∈mf then wQ st at' f k++[113]else wQ st at' f k
def vt(h:at'<=st.length):(cO st at' f k)[at']?=y0 (97+(f+5*k)%26):=by
 have b:(wQ st at' f k)[at']?=y0 (97+(f+5*k)%26):=by unfold wQ;rw[Ag7,Ad3 (by simp_all),Ad8,Aj5 h,An3];rfl
 unfold cO;split
 .rw[Ad4 (Aa8.mp b).1];exact b
 .exact b
def A5(a:st.length<=6):(cO st at' f k).length<=8:=by
 have b:(wQ st at' f k).length<=7:=by unfold wQ;rw[Ab,Ab,Ad8,Ae8];simp only[Aa7,Af3];lia
 unfold cO;split
 .rw[Ab];simp[Af3];lia
 .lia
def Nj(st)(at' f m)(h:at'<=st.length)(a:m<=8):((Ab1 m).map (cO st at' f)).Nodup:=uX _ m a λi c j b ne z=>by have e1:=vt (f:=f) (k:=i) h;rw[z,(vt (f:=f) (k:=j) h)]at e1;have:=Ad5.inj e1;lia
abbrev du(r m:Nat)(f:Nat)(x4 x5 b a c:Option W):Sl:=[y0 (.r r),si m,y0 (.s mI),si f,x4,x5,b,a,c]
theorem r6(k):∀(l:List Nat) h v st x,h[r]?=y0 (aK ns i v)->st.length+l.length<=6->∃L v' M,L.length<=6∧
 Gr (Gq [5] k9) (λτ h=>execs (k8 (k+1)) zn τ h) (l.map λj=>D.n j) (du r m f (y0 (.s st)) x u0 u0 u0) h=.next (du r m f (y0 (.s L)) M u0 u0 u0) (h.set r (aK ns i v'))
|[],h,v,st,x,e,a=>⟨st,v,x,by simpa using a,by
  rw[show h.set r (aK ns i v)=h by
   refine List.ext_getElem? λj=>?_;by_cases q:r=j
   .subst q;rw[Ac6 (Aa8.mp e).1,e]
   .rw[Ad2 q]]
  rfl⟩
|j::l,h,v,st,x,e,a=>by rw[Aa7]at a;obtain⟨d,v1,g,e1⟩:=jm k e (m:=26) (by decide) (by decide);have c:=(Aa8.mp e).1;obtain⟨L,v',M,b,e2⟩:=r6 k l (h.set r (aK ns i v1)) v1 (st++[97+d]) (si j) (Ac6 c) (by rw[Ab];simp;omega);rw[Ak5]at e2;refine⟨L,v',M,b,?_⟩;have e1:call prog (k+1) "_law_draw" [.r r,.v (.int 26)] h=.ok (.i d) (h.set r (aK ns i v1)):=e1;rw[Ab4,wc (τ1:=du r m f (y0 (.s st)) (si j) u0 u0 u0) rfl (by unfold zn;rw[za (τ1:=du r m f (y0 (.s (st++[97+d]))) (si j) u0 u0 u0) (h1:=h.set r (aK ns i v1)) (by simp![e1,Jx d g,add_str st [97+d] _ (by simp;omega)]),execs]),e2]
theorem Q8(u:st.length<=6)(h):∀c j x5 L,j+c<=100->∃O M,Gr (Gq [5] k9) (λτ h=>execs F Ji τ h) ((Ab1 c).map λi=>D.n (j+i)) (du r m f (y0 (.s st)) x5 (si at') (y0 (.own (((Ab1 j).map (cO st at' f)).map .str))) L) h=.next (du r m f (y0 (.s st)) O (si at') (y0 (.own (((Ab1 (j+c)).map (cO st at' f)).map .str))) M) h
|0,j,x5,L,_=>⟨x5,L,rfl⟩
|c+1,j,x5,L,C=>by
  obtain⟨p,g,e⟩:=Q8 u h c (j+1) (si (j)) (y0 (.s (cO st at' f j))) (by omega);refine⟨p,g,?_⟩;have v:execs F Ji (du r m f (y0 (.s st)) (si (j)) (si at') (y0 (.own (((Ab1 j).map (cO st at' f)).map .str))) L) h=.next (du r m f (y0 (.s st)) (si (j)) (si at') (y0 (.own (((Ab1 (j+1)).map (cO st at' f)).map .str))) (y0 (.s (cO st at' f j)))) h:=by
   have A:Gk .mul 5 (j:Int)=y0 ((5*j:Nat):Int):=Jl 5 j (by decide);have n:((f:Int)+((5*j:Nat):Int))=((f+5*j:Nat):Int):=rfl;have y:Gk .mod ((f+5*j:Nat):Int) 26=y0 (((f+5*j)%26:Nat):Int):=yn _ 26 (by decide);have k:=Jx ((f+5*j)%26) (Al3 _ (by decide)) h;have o:st.length<=bp:=by rw[Gg];omega
   have z:cut st u0 (y0 (at':Int))=st.take at':=zK st at';have d:cut st (y0 (at':Int)) u0=st.drop at':=jX st at';have E:(st.take at').length<=6:=by rw[Ad8];omega
   have l2:(st.drop at').length<=6:=by rw[Ae8];omega
   have l:=add_str (st.take at') [97+(f+5*j)%26] h (by simp only[Aa7,Af3];omega);have a2:=add_str (st.take at'++[97+(f+5*j)%26]) (st.drop at') h (by rw[Ab];simp only[Aa7,Af3];omega);have G:(wQ st at' f j).length<=13:=by unfold wQ;rw[Ab,Ab];simp only[Aa7,Af3];omega
   have a3:=add_str (wQ st at' f j) [113] h (by simp only[Aa7,Af3];omega);have x:=B5 (wQ st at' f j) mf h;have w:(((Ab1 j).map (cO st at' f)).map D.str).length<bp:=by rw[Gg,Aa,Aa,Ai5];omega
   have s:((Ab1 (j+1)).map (cO st at' f)).map D.str=((Ab1 j).map (cO st at' f)).map D.str++[.str (cO st at' f j)]:=by rw[List.range_succ];simp
   unfold Ji;rw[za (τ1:=du r m f (y0 (.s st)) (si (j)) (si at') (y0 (.own (((Ab1 j).map (cO st at' f)).map .str))) (y0 (.s (wQ st at' f j)))) (by simp![oH,o,z,d,A,jg,n,y,k,l,a2];rfl)];have b:Gp F (.cmp .mem .v8 (.eC vZ mf)) (du r m f (y0 (.s st)) (si (j)) (si at') (y0 (.own (((Ab1 j).map (cO st at' f)).map .str))) (y0 (.s (wQ st at' f j)))) h=.ok (u9 (wQ st at' f j∈mf)) h:=by rw[Gp,eval,eval];rw[show Gi (du r m f (y0 (.s st)) (si (j)) (si at') (y0 (.own (((Ab1 j).map (cO st at' f)).map .str))) (y0 (.s (wQ st at' f j)))) 8=y0 (.s (wQ st at' f j))from rfl,R.ae,eval,R.ae,x];rfl
   have a:∀t:Tx,t=cO st at' f j->execs F (.a (.app 7 .v8)) (du r m f (y0 (.s st)) (si (j)) (si at') (y0 (.own (((Ab1 j).map (cO st at' f)).map .str))) (y0 (.s t))) h=.next (du r m f (y0 (.s st)) (si (j)) (si at') (y0 (.own (((Ab1 (j+1)).map (cO st at' f)).map .str))) (y0 (.s (cO st at' f j)))) h:=λt B=>by subst B;rw[s];simp![w,if_true]
   by_cases q:wQ st at' f j∈mf
   .rw[za (τ1:=du r m f (y0 (.s st)) (si (j)) (si at') (y0 (.own (((Ab1 j).map (cO st at' f)).map .str))) (y0 (.s (wQ st at' f j++[113])))) (h1:=h) ((XH (by rw[b,decide_eq_true q])).trans (by simp![a3]))];exact a _ (by rw[cO,if_pos q])
   .rw[Za (by rw[b,decide_eq_false q])];exact a _ (by rw[cO,if_neg q])
  rw[Ak,Ab4,Ad7,wc rfl v];have:((λi=>D.n (j+i))∘Ao6)=λi=>D.n (j+1+i):=by funext i;show D.n (j+(i+1))=_;rw[show j+(i+1)=j+1+i by omega]
  rw[this,e,show j+1+c=j+(c+1)by omega]
def Cc(c k:Nat):(Aa1 k [c]).flatten=Aa1 k c:=by simp
def Di(k)(e:h[r]?=y0 (aK ns i v))(J:m<=8):∃(N:List Tx)(B:Int),N.length=m/\N.Nodup/\(∀t∈N,t.length<=8)/\call prog (k+2) "_law_names" [.r r,.i m] h=.ok (.own (N.map .str)) (h.set r (aK ns i B)):=by
 have T:r<h.length:=(Aa8.mp e).1;have s:∀w,_[r]?=y0 (aK ns i w):=λw=>Ac6 T;have G:∀w,(h.set r (aK ns i w)).length=h.length:=λw=>Ae6 ..;rw[Ga (d:=zt) rfl _ _ _ rfl];show∃N B,_/\_/\_/\Gy _ _=_;simp only[zt];obtain⟨f,v1,K,e1⟩:=jm k e (m:=26) (by decide) (by decide);have e1:call prog _ "_law_draw" [.r r,.v (.int 26)] h=.ok _ _:=e1;obtain⟨d,v2,V,e2⟩:=jm k (s v1) (m:=3) (by decide) (by decide);rw[Ak5]at e2;have e2:call prog _ "_law_draw" [.r r,.v (.int 3)] _=.ok _ _:=e2;rw[za (τ1:=[y0 (.r r),si m,y0 (.s mI),u0,u0,u0,u0,u0,u0]) (h1:=h) rfl];rw[za (τ1:=du r m f u0 u0 u0 u0 u0) (h1:=h.set r (aK ns i v1)) (by simp![e1])];have P:∀h,Gw .eq _ (.v (.int 0)) h=y0 _:=λh=>Wh d 0 h;have I:Gp (k8 (k+1)) (.cmp .eq (.call "_law_draw" (.b .v0 (.int 3))) (.int 0)) (du r m f none none none none none) (h.set r (aK ns i v1))=.ok (decide (d=0)) (h.set r (aK ns i v2)):=by simp![e2,P]
 by_cases q:d=0
 .refine⟨(Ab1 m).map λj=>Aa1 (j+1) (97+f),v2,by simp,uX _ m J (λa S b E ne z=>by have:=congrArg Ao1 z;simp at this;omega),λt y=>?_,?_⟩
  .obtain⟨j,u,rfl⟩:=Ac0.mp y;rw[Ad0];have:=Ac1.mp u;omega
  .rw[xa (w:=.own (((Ab1 m).map λj=>Aa1 (j+1) (97+f)).map .str)) (h1:=h.set r (aK ns i v2)) ((XH (h1:=h.set r (aK ns i v2)) (by rw[I,decide_eq_true q])).trans (xa (Ww rfl ?_)))]
   .exact Gv _ h _ (G v2)
   .unfold Zu;rw[zB (n:=m) (λj=>.str (Aa1 (j+1) (97+f))) rfl (by omega) λj u=>⟨.s (Aa1 (j+1) (97+f)),?_,rfl⟩]
    .rw[Ad7];rfl
    .have x:((j:Int)+1)=((j+1:Nat):Int):=rfl;have A:=mul_str [97+f] (j+1) (h.set r (aK ns i v2)) (by omega) (by simp;omega);rw[Cc]at A;simp![Jx f K,jg,x,A]
 .rw[za (τ1:=du r m f u0 u0 u0 u0 u0) (h1:=h.set r (aK ns i v2)) ((nA (h1:=h.set r (aK ns i v2)) (by rw[I,decide_eq_false q])).trans rfl)];rw[za (τ1:=du r m f (y0 (.s [])) u0 u0 u0 u0) (h1:=h.set r (aK ns i v2)) rfl];obtain⟨c,v3,U,p⟩:=jm k (s v2) (m:=6) (by decide) (by decide);rw[Ak5]at p;have p:call prog (k+1) "_law_draw" [.r r,.v (.int 6)] (h.set r (aK ns i v2))=.ok (.i c) (h.set r (aK ns i v3)):=p;obtain⟨g,v4,o,l,C⟩:=r6 k (ns:=ns) (i:=i) (r:=r) (m:=m) (f:=f) (Ab1 c) (h.set r (aK ns i v3)) v3 [] u0 (s v3) (by simp;omega);rw[Ak5]at C;have M:Gs (k8 (k+1)) (.aC (.call "_law_draw" (.b .v0 (.int 6)))) (du r m f (some (.s [])) none none none none) (h.set r (aK ns i v2))=.ok ((List.range c).map fun i=>.n i) (h.set r (aK ns i v3)):=by
   have E:-kJ<=(c:Int)/\(c:Int)<kJ:=by rw[Ka];omega
   simp![p];rw[if_pos E,Ad]
  rw[za (τ1:=du r m f (y0 (.s g)) o u0 u0 u0) (h1:=h.set r (aK ns i v4)) (by rw[exec,M,R.aB];exact C)];obtain⟨a,v5,S,D⟩:=jm k (s v4) (m:=g.length+1) (by omega) (by omega);rw[Ak5]at D;have O:g.length<=bp:=by rw[Gg];omega
  have x:((g.length:Int)+1)=((g.length+1:Nat):Int):=rfl;rw[za (τ1:=du r m f (y0 (.s g)) o (si a) u0 u0) (h1:=h.set r (aK ns i v5)) (by simp![len_str,O,if_true,ai,jg,x,D])];rw[za (τ1:=du r m f (y0 (.s g)) o (si a) (y0 (.own [])) u0) (h1:=h.set r (aK ns i v5)) rfl];obtain⟨Q,L,H⟩:=Q8 (F:=(k8 (k+1))) (r:=r) (m:=m) (f:=f) (at':=a) l (h.set r (aK ns i v5)) m 0 o u0 (by omega);simp only[Ap3]at H;rw[za (τ1:=du r m f (y0 (.s g)) Q (si a) (y0 (.own (((Ab1 m).map (cO g a f)).map .str))) L) (h1:=h.set r (aK ns i v5)) (by rw[exec,NH (n:=m) rfl (by omega),R.aB];exact H)];refine⟨(Ab1 m).map (cO g a f),v5,by simp,Nj g a f m (by omega) J,λt y=>?_,?_⟩
  .obtain⟨j,u,rfl⟩:=Ac0.mp y;exact A5 l
  .rw[xa (w:=.own (((Ab1 m).map (cO g a f)).map .str)) (h1:=h.set r (aK ns i v5)) rfl];exact Gv _ h _ (G v5)
structure bJ(n:Nat)(K T:List Tx):Prop where
 n4:n<=4
 k4:K.length<=4
 t4:T.length<=4
 b6:K.length*n+T.length*(n*n)<=16
 nd:(K++T).Nodup
 l8:∀t∈K++T,t.length<=8
structure WQ(K T:List Tx):Prop where
 k4:K.length<=4
 t4:T.length<=4
 nd:(K++T).Nodup
 l8:∀t∈K++T,t.length<=8
def fV(d:D):Prop:=(∃i:Int,d=.int i)\/(∃b,d=.bl b)\/d=.ak\/d=.str [50]
def Bw:Gk .pow 10 30=y0 1000000000000000000000000000000:=by
 have:(0:Int)<=30/\(30:Int)<=BP/\(10:Int).natAbs<kK:=by rw[GY,GB];decide
 show(if _ then _ else _)=_;rw[if_pos this];rfl
def ue(xs ys)(h)(a:xs.length+ys.length<=100):GJ .add (.l xs) (.own ys) h=.ok (.own (xs++ys)) h:=by show Ko xs ys h=_;rw[Ko,if_pos (by rw[Gg];omega)]
def Ez(k:Nat){ns:List Int}{i r:Nat}{v:Int}{h:AH}(e:h[r]?=y0 (aK ns i v)):∃(d:D)(o:Int),fV d/\call prog (k+2) "_law_size" [.r r] h=.ok (.v d) (h.set r (aK ns i o)):=by
 have u:r<h.length:=(Aa8.mp e).1;have p:∀w,(h.set r (aK ns i w))[r]?=y0 (aK ns i w):=λw=>Ac6 u;have t:∀w,(h.set r (aK ns i w)).length=h.length:=λw=>Ae6 ..;rw[Ga (d:=jy) rfl _ _ _ rfl];show∃d o,_/\Gy _ (execs _ _ [y0 (.r r),u0] h)=_;simp only[jy];obtain⟨a,v1,z,e1⟩:=jm k e (m:=3) (by decide) (by decide);have e1:call prog (k+1) "_law_draw" [.r r,.v (.int 3)] h=.ok (.i a) (h.set r (aK ns i v1)):=e1;obtain⟨b,v2,y,e2⟩:=jm k (p v1) (m:=5) (by decide) (by decide);rw[Ak5]at e2;have e2:call prog (k+1) "_law_draw" [.r r,.v (.int 5)] (h.set r (aK ns i v1))=.ok (.i b) (h.set r (aK ns i v2)):=e2;obtain⟨c,v3,x,j⟩:=jm k (p v2) (m:=17) (by decide) (by decide);rw[Ak5]at j;have j:call prog (k+1) "_law_draw" [.r r,.v (.int 17)] (h.set r (aK ns i v2))=.ok (.i c) (h.set r (aK ns i v3)):=j;obtain⟨L,f⟩:∃L:List D,L=[.int 0,.int 1,.int 2,.int 3,.int 4,.int 0,.int 1,.int 2,.int 3,.int 4,.int (0-1-(a:Int)),.int (5+(b:Int)),.int 1000000000000000000000000000000,.bl k9,.bl y9,.ak,.str [50]]:=⟨_,rfl⟩;have s:L.length=17:=by rw[f];rfl
 have sz:∀d∈L,fV d:=by
  rw[f];intro d q;simp only[Ab7,Af5,or_false]at q;rcases q with rfl|rfl|rfl|rfl|rfl|rfl|rfl|rfl|rfl|rfl|rfl|rfl|rfl|rfl|rfl|rfl|rfl
  all_goals first|exact .inl ⟨_,rfl⟩|exact .inr (.inl ⟨_,rfl⟩)|exact .inr (.inr (.inl rfl))|exact .inr (.inr (.inr rfl))
 have g:=Ab0 (show c<L.length by omega);refine⟨L[c],v3,sz _ (List.getElem_mem _),?_⟩;have n:bw L (c:Int)=y0 L[c]:=by rw[Jr _ _ (by omega),g]
 rw[za (τ1:=[y0 (.r r),y0 (.l (L.take 13))]) (h1:=h.set r (aK ns i v2)) (by subst f;simp![qo,e1,jg,e2,Bw];rfl)];rw[za (τ1:=[y0 (.r r),y0 (.l L)]) (h1:=h.set r (aK ns i v2)) (by subst f;simp![List.take,ue _ _ _ (show[D.int 0,.int 1,.int 2,.int 3,.int 4,.int 0,.int 1,.int 2,.int 3,.int 4,.int (0-1-(a:Int)),.int (5+(b:Int)),.int 1000000000000000000000000000000].length+[D.bl k9,.bl y9,.ak,.str [50]].length<=100 by simp)])];have l:call prog (k+1) "_law_draw" [.r r,.i L.length] (h.set r (aK ns i v2))=.ok (.i c) (h.set r (aK ns i v3)):=by rw[s];exact j
 rw[xa (w:=.v L[c]) (h1:=h.set r (aK ns i v3)) (Qb rfl (by simp![QE,ai,l,xz,n]))];exact Gb _ h _ (t v3)
abbrev Pl:=Tx×Nat×Nat
def bR(p:Pl):D:=.tup [.str p.1,.n (p.2.1),.n (p.2.2)]
def eX(n:Nat)(t:Tx):List Pl:=(Ab1 n).map λa=>(t,a,a)
def gq(n:Nat)(t:Tx):List Pl:=(Wf.ax n (2^(n*n)-1)).map λq=>(t,q.1,q.2)
abbrev eU(K T:List Tx)(n:Nat)(l:List Pl)(x:Option W):Sl:=[sv (wD K T),si n,y0 (.own (l.map bR)),x]
theorem oW(g)(c:∀t,(g t).length<=16)(d:∀t l,l.length<=200->execs F b (eU K T n l (y0 (.s t))) h=.next (eU K T n (l++g t) (y0 (.s t))) h):
 ∀(a:List Tx) l x,l.length+16*a.length<=200->∃j,Gr (Gq [3] k9) (λτ h=>execs F b τ h) (a.map .str) (eU K T n l x) h=.next (eU K T n (l++a.flatMap g) j) h
|[],l,x,_=>⟨x,by simp[Gr]⟩
|t::a,l,x,f=>by rw[Aa7]at f;have:=c t;obtain⟨j,e⟩:=oW g c d a (l++g t) (y0 (.s t)) (by rw[Ab];omega);refine⟨j,?_⟩;rw[Ab4,wc rfl (d t l (by omega)),e,Ai6,Ag7]
def Df(k n)(K T)(h)(p:n<=4)(D:K.length<=4)(E:T.length<=4):call prog (k+3) "places_of" [.v (wD K T),.i n] h=.ok (.own ((K.flatMap (eX n)++T.flatMap (gq n)).map bR)) h:=by
 rw[Ga (d:=Zs) rfl _ _ _ rfl];have o:n*n<=16:=Ah3 p p;simp only[Zs];have i:∀t,(eX n t).length<=16:=λt=>by simp[eX];omega
 have lt:∀t,(gq n t).length<=16:=λt=>by rw[gq,Aa,Wf.ax,Aa];exact Ab6 (Ak6 _ _) (by rw[Ai5];exact o)
 have f:∀(c:List Tx)(g:Tx->List Pl),(∀t,(g t).length<=16)->(c.flatMap g).length<=16*c.length:=λc g m=>by
  induction c with
|nil=>simp
|cons t c H=>rw[Ai6,Ab,Aa7];have:=m t;omega
 have ext:∀e b (g:Tx->List Pl),(∀t,(g t).length<=16)->b=.a (.ext 2 e)->(∀(t:Tx)(l:List Pl),eval (k8 (k+2)) e (eU K T n l (y0 (.s t))) h=.ok (.own ((g t).map bR)) h)->∀(t:Tx)(l:List Pl),l.length<=200->execs (k8 (k+2)) b (eU K T n l (y0 (.s t))) h=.next (eU K T n (l++g t) (y0 (.s t))) h:=λe b g m z r t l F=>by
  have A:(l.map bR).length+((g t).map bR).length<bp:=by rw[Gg,Aa,Aa];have:=m t;omega
  rw[z,za (τ1:=eU K T n (l++g t) (y0 (.s t))) (h1:=h) (by rw[exec];simp![r,A,if_true];rw[←Ae5]),execs]
 have u:=ext Xm Wu _ i rfl λt l=>by unfold Xm;rw[zB (n:=n) (λa=>bR (t,a,a)) rfl (by omega) λa G=>⟨.v _,by simp![];rfl,rfl⟩];rw[eX,Ad7];rfl
 have v:=ext wn zv _ lt rfl λt l=>by
  unfold wn;have s:Gj (k8 (k+2)) (.seq (.call "pairs_of" (.b .v1 (.call "every" (.a .v1))))) (eU K T n l (some (.s t))) h=.ok ((Wf.ax n (2^(n*n)-1)).map pD) h:=by simp![rE _ n h (by omega),zq _ n _ h (by omega)]
  rw[zk (h:=h) (ds:=(Wf.ax n (2^(n*n)-1)).map pD) (λd=>match d with|.tup [x,y]=>.tup [.str t,x,y]|d=>d) s (by rw[Gg,Aa,Wf.ax,Aa];have:=Ak6 (2^(n*n)-1).testBit (Ab1 (n*n));rw[Ai5]at this;omega)]
  .rw[gq,Ad7,Ad7];rfl
  .intro d C;obtain⟨q,_,rfl⟩:=Ac0.mp C;exact⟨[si _,si _,y0 _],rfl,.t [.str t,.n _,.n _],by simp![],rfl⟩
 obtain⟨j,e1⟩:=oW _ i u K [] u0 (by simp;omega);obtain⟨B,e2⟩:=oW _ lt v T (K.flatMap (eX n)) j (by have:=f K (eX n) i;omega);rw[Ag1]at e1;rw[za (τ1:=eU K T n [] u0) (h1:=h) rfl];rw[za (τ1:=eU K T n (K.flatMap (eX n)) j) (h1:=h) (by rw[exec,show Gs (k8 (k+2)) (.seq (.ix .v0 (.int 0))) (eU K T n [] u0) h=.ok (K.map .str) h by simp![af,xj],R.aB];exact e1)];rw[za (τ1:=eU K T n (K.flatMap (eX n)++T.flatMap (gq n)) B) (h1:=h) (by rw[exec,show Gs (k8 (k+2)) (.seq (.ix .v0 (.int 1))) (eU K T n (K.flatMap (eX n)) j) h=.ok (T.map .str) h by simp![af,Zh],R.aB];exact e2)];rw[xa (w:=.own ((K.flatMap (eX n)++T.flatMap (gq n)).map bR)) (h1:=h) rfl,Gv _ _ _ rfl]
theorem px:∀(ws)(c j w),ws[j]?=y0 w->(dg ws c)[j]?=y0 (c/2^(ws.take j).sum%2^w)
|[],_,_,_,h=>by simp at h
|u::ws,c,0,w,h=>by
  have:u=w:=by simpa using h
  subst this;simp[dg]
|u::ws,c,j+1,w,h=>by
  have h:=by simpa using h
  show(dg ws (c/2^u))[j]?=_;rw[px ws _ j w h,List.take_succ_cons,Aj2,Nat.div_div_eq_div_mul,←Nat.pow_add]
theorem o7:∀(ws)(c),(dg ws c).length=ws.length
|[],_=>rfl
|w::ws,c=>by rw[dg,Aa7,o7 ws,Aa7]
def eV(n a b c:Nat):List Nat:=(dg (cX n a b) c).take a
def eJ(n a b c:Nat):List Nat:=(dg (cX n a b) c).drop a
def Mw(n a b j)(h:j<=a):((cX n a b).take j).sum=j*n:=by rw[cX,List.take_append_of_le_length (by simp_all),List.take_replicate,qx,Aj5 h]
def E9(n a b j:Nat)(h:j<=b):((cX n a b).take (a+j)).sum=a*n+j*(n*n):=by rw[cX,List.take_append,Ad0,Aj9 (by simp),List.sum_append,List.take_replicate,qx,qx,Am6,Aj5 h]
def pQ(h:j<a):(eV n a b c)[j]?=y0 (c/2^(j*n)%2^n):=by rw[eV,Am1 h,px _ _ _ n (by rw[cX,Ad4 (by simp_all),Ah8,if_pos h]),Mw _ _ _ _ (Af9 h)]
def pL(h:j<b):(eJ n a b c)[j]?=y0 (c/2^(a*n+j*(n*n))%2^(n*n)):=by rw[eJ,List.getElem?_drop,px _ _ _ _ (by rw[cX,Ad3 (by simp),Ad0,Am6,Ah8,if_pos h]),E9 _ _ _ _ (Af9 h)]
def wo(n:Nat)(K T:List Tx)(c:Nat):Wo:=⟨n,K,T,eV n K.length T.length c,eJ n K.length T.length c⟩
def jF(n a b c):(eV n a b c).length=a:=by rw[eV,Ad8,o7,x9];lia
def wH(n a b c):(eJ n a b c).length=b:=by rw[eJ,Ae8,o7,x9];lia
theorem bJ.wo (g:bJ n K T)(c):(wo n K T c).Ok:=by
 refine⟨g.k4,g.t4,g.nd,g.n4,jF ..,wH ..,λx b=>?_,λx b=>?_⟩
 .obtain⟨j,a,e⟩:=Ai9 b;have:(eV n K.length T.length c)[j]?=y0 x:=by rw[←e];exact Ab0 a
  rw[pQ (by rw[←jF n K.length T.length c];exact a)]at this;rw[←Ad5.inj this];exact Al3 _ (Af4 _)
 .obtain⟨j,a,e⟩:=Ai9 b;have:(eJ n K.length T.length c)[j]?=y0 x:=by rw[←e];exact Ab0 a
  rw[pL (by rw[←wH n K.length T.length c];exact a)]at this;rw[←Ad5.inj this];exact Al3 _ (Af4 _)
def bJ.pt (g:bJ n K T)(c d):Pt (M.wo n K T c) (M.wo n K T d):=⟨g.wo c,g.wo d,rfl,rfl,rfl⟩
theorem pH:∀{L}{j},L.Nodup->L[j]?=y0 t->de t L=j
|[],_,_,h=>by simp at h
|y::c,0,_,h=>by
  have:y=t:=by simpa using h
  simp[de,GZ,this]
|y::c,j+1,a,h=>by
  have h:=by simpa using h
  have m:=Ac7 h;have a:=Ah5.mp a;have ne:y≠t:=λe=>a.1 (e▸m);have b:=pH a.2 h;rw[de]at b⊢;rw[GZ,if_neg ne,(Qm m).1];rw[(Qm m).1]at b;simpa using b
theorem pN{d e:Type}(g)(m)(a:∀t,(g t).length=m):∀(l:List d) i (y:e),(l.flatMap g)[i]?=y0 y->∃j t p,l[j]?=y0 t/\(g t)[p]?=y0 y/\p<m/\i=j*m+p
|[],i,y,h=>by simp at h
|t::l,i,y,h=>by
  rw[Ai6]at h;by_cases q:i<m
  .rw[Ad4 (by rw[a];exact q)]at h;exact⟨0,t,i,rfl,h,q,by omega⟩
  .rw[Ad3 (by rw[a];omega),a]at h;obtain⟨j,u,p,b,f,c,k⟩:=pN g m a l _ y h;exact⟨j+1,u,p,b,f,c,by rw[Nat.add_mul];omega⟩
theorem wI{a c:Type}(g:a->List c)(m)(b:∀t,(g t).length=m):∀l:List a,(l.flatMap g).length=l.length*m
|[]=>by simp
|t::l=>by rw[Ai6,Ab,b,wI g m b l,Aa7,Nat.add_mul];omega
def cC(n:Nat)(K T:List Tx):List Pl:=K.flatMap (eX n)++T.flatMap (gq n)
def qv(n):Wf.ax n (2^(n*n)-1)=(Ab1 (n*n)).map λk=>(k/n,k%n):=by rw[Wf.ax,List.filter_eq_self.mpr λk a=>by rw[Al4,decide_eq_true (Ac1.mp a)]]
def xC(n)(t):(eX n t).length=n:=by simp[eX]
def uL(n)(t):(gq n t).length=n*n:=by simp[gq,qv]
def jz(n)(K T):(cC n K T).length=K.length*n+T.length*(n*n):=by rw[cC,Ab,wI _ _ (xC n),wI _ _ (uL n)]
def WS(g:bJ n K T)(h:(cC n K T)[i]?=y0 (t,x,y))(c):bz (wo n K T c) t x y=c.testBit i/\t∈K++T/\x<n/\y<n:=by
 obtain⟨e,f,m⟩:=Ao9.mp g.nd;rw[cC]at h;by_cases q:i<K.length*n
 .rw[Ad4 (by rw[wI _ _ (xC n)];exact q)]at h;obtain⟨j,u,p,d,b,a,k⟩:=pN _ n (xC n) _ _ _ h;rw[eX,Ac9,List.getElem?_range a]at b;have b:=Ad5.inj b;obtain⟨rfl,rfl,rfl⟩:u=t/\p=x/\p=y:=by simpa using b
  have mk:=Ac7 d;refine⟨?_,Ac8 _ mk,a,a⟩;rw[bz,if_neg (show u∉(wo n K T c).T from(λz=>m u mk u z rfl))];show(decide _&&((eV n K.length T.length c).getD (de u K) 0).testBit p)=_;rw[pH e d,Ac4,pQ ((Aa8.mp d).1),Ak4,Ah9,Ai,decide_eq_true a,decide_eq_true rfl,k,Nat.add_comm];rfl
 .rw[Ad3 (by rw[wI _ _ (xC n)];omega),wI _ _ (xC n)]at h;obtain⟨j,u,p,d,b,a,k⟩:=pN _ _ (uL n) _ _ _ h;rw[gq,qv,Ad7,Ac9,List.getElem?_range a]at b;have b:=Ad5.inj b;obtain⟨rfl,rfl,rfl⟩:u=t/\p/n=x/\p%n=y:=by simpa using b
  have l:=Ac7 d;refine⟨?_,Aa5 _ l,Wf.aZ a,Wf.aU a⟩;rw[bz,if_pos (show u∈(wo n K T c).T from l)];show(((eJ n K.length T.length c).getD (de u T) 0).testBit (p/n*n+p%n))=_;rw[pH f d,Ac4,pL ((Aa8.mp d).1),Ak4,Ah9,Ai,Wf.bu,decide_eq_true a,Ae];congr 1;omega
def vf(b:x<n)(a:y<n)(h:t∈T\/(t∈K/\x=y)):∃i:Nat,(cC n K T)[i]?=y0 (t,x,y):=by
 have:(t,x,y)∈cC n K T:=by
  rw[cC,Ad1,List.mem_flatMap,List.mem_flatMap];obtain h|⟨h,rfl⟩:=h
  .refine .inr ⟨t,h,?_⟩;rw[gq,qv,Ad7];refine Ac0.mpr ⟨x*n+y,Ac1.mpr (Wf.place_lt b a),?_⟩;show(t,_/n,_%n)=_;rw[Wf.aQ a,Wf.aV a]
  .exact .inl ⟨t,h,Ac0.mpr ⟨x,Ac1.mpr b,rfl⟩⟩
 obtain⟨i,c,e⟩:=Ai9 this;exact⟨i,by rw[←e];exact Ab0 c⟩
def Ir(d:t∈K++T)(a:x<n)(b:y<n)(h:bz (wo n K T c) t x y=k9):∃i:Nat,(cC n K T)[i]?=y0 (t,x,y):=by
 refine vf a b ?_;by_cases q:t∈T
 .exact .inl q
 .rw[bz,if_neg (show t∉(wo n K T c).T from q),Aa0,decide_eq_true_eq]at h;exact .inr ⟨(Ad1.mp d).resolve_right q,h.1⟩
def DR(g:bJ n K T){i j:Nat}(h:(cC n K T)[i]?=y0 p)(q:(cC n K T)[j]?=y0 p):i=j:=by have a:=(WS g q (2^i)).1;rw[((WS g h _).1),Am4,Ag8]at a;simpa using a.symm
def Fo(k n)(A B)(c)(h)(b:n<=4)(h1:A.length<=4)(f:B.length<=4)(lt:c<2^(cX n A.length B.length).sum):call prog (k+5) "world_of" [.v (nu A B),.i n,.i c] h=.ok (.v (lg n (eV n A.length B.length c) (eJ n A.length B.length c))) h:=by
 rw[Ga rfl _ _ _ rfl];have d:=Ah3 b b;have i:=Z4 k (.n n) h rfl (by simp[Zi];omega);have a:=uz (k+3) n A B h b h1 f;have q:(cX n A.length B.length).sum<=100:=by rw[q9];have o:A.length*n<=4*4:=Ah3 h1 b;have a2:B.length*(n*n)<=4*16:=Ah3 f d;omega
 have g:=Qp (k+2) (.n c) ((2^(cX n A.length B.length).sum:Nat):Int) h rfl;have bt:Zi (.n c) ((2^(cX n A.length B.length).sum:Nat):Int)=true:=by simp only[Zi,Aa0,decide_eq_true_eq];omega
 rw[bt]at g;obtain⟨m,p,e⟩:=yc h (cX n A.length B.length) c [] u0 (λw a=>by
  rcases Ad1.mp a with a|a
  .rw[(Ao4.mp a).2];omega
  .rw[(Ao4.mp a).2];exact d) (by rw[x9];simp;omega)
 rw[Ag1]at e;simp only[JK];refine fx (by simp![i];rfl) ?_;rw[Za (by simp![(oV (k+2) n A B h b h1 f),(iQ (cX n A.length B.length).sum (by omega)),g])];refine fx (by simp![];rfl) ?_;refine fx (by simp![];rfl) ?_;have ew:eval (k8 (k+4)) (.call "widths" (.b .v0 .v1)) [sv (nu A B),si n,si c,some (.own []),si c,none,none] h=.ok (.own (aw (cX n A.length B.length))) h:=by simp![a]
 rw[za (by simp only[exec,Gs,GI,ew,R.ae,Kg,R.au,R.aB];exact e)];have l:cut (aw (dg (cX n A.length B.length) c)) u0 (y0 (A.length:Int))=aw (eV n A.length B.length c):=by rw[zK,aw,←Al0];rfl
 have j:cut (aw (dg (cX n A.length B.length) c)) (y0 (A.length:Int)) u0=aw (eJ n A.length B.length c):=by rw[jX,aw,←List.map_drop];rfl
 refine fx (by simp![af,xj,Qo];rfl) ?_;rw[xa (w:=.v (lg n (eV n A.length B.length c) (eJ n A.length B.length c))) (h1:=h) (Qb rfl (by simp![CF,l,j,wF]))];exact Gb _ _ _ rfl
abbrev bN(n:Nat)(K T:List Tx):Nat:=K.length*n+T.length*(n*n)
def bH(n:Nat)(K T:List Tx)(S:List Sy):List (String×D):=[("words",wD K T),("sayings",.tup (S.map aF)),("size",.n n),("places",.lst ((cC n K T).map bR)),("whole",.n (2^bN n K T-1))]
def Wm(e:h[r]?=y0 (.obj c fs)):GX h (y0 (.r r))=y0 (r,c,fs):=by unfold GX;simp[e]
def Zg(a:h[r]?=y0 (.obj c fs))(e:Gm τ i=y0 (.r r))(b:fs.lookup f=y0 d):eval F (.aA (.var i) c f) τ h=.ok (.v d) h:=by rw[eval,eval,Gi,e];simp[Wm a,b,ai]
def xv(a:h[r]?=y0 (.obj c fs))(e:Gm τ i=y0 (.r r))(b:(fs.lookup m).isNone=k9)(d:Gd F es τ h=.ok ws h):eval F (.bQ (.var i) c m q es) τ h=F.call q (.r r::ws.map W.arg) h:=by rw[eval,eval,Gi,e];simp[Wm a,b,d]
section
variable{n:Nat}{K T:List Tx}{S:List Sy}{ro:Nat}{h:AH}
def q3(k c)(g:bJ n K T)(C:h[ro]?=y0 (.obj "Cases" (bH n K T S)))(d:c<2^bN n K T):call prog (k+6) "Cases.world_of_code" [.r ro,.i c] h=.ok (.v (wo n K T c).ay) h:=by rw[Ga rfl _ _ _ rfl];have e:=Fo k n (K.map .str) (T.map .str) c h g.n4 (by rw[Aa];exact g.k4) (by rw[Aa];exact g.t4) (by rw[q9,Aa,Aa];exact d);rw[Aa,Aa]at e;simp only[wh];have a:=Zg (F:=(k8 (k+5))) (τ:=[y0 _,si c]) (i:=0) (f:="words") C rfl rfl;have b:=Zg (F:=(k8 (k+5))) (τ:=[y0 _,si c]) (i:=0) (f:="size") C rfl rfl;rw[xa (w:=.v (wo n K T c).ay) (h1:=h) (Qb rfl (by generalize E.aA _ _ _=X at a⊢;generalize E.aA _ _ _=Y at b⊢;simp![a,b,e];rfl)),Gb _ _ _ rfl]
def Qv(m j c d)(g:bJ n K T)(C:h[ro]?=some (.obj "Cases" (bH n K T S)))(u:c<2^bN n K T)(y:d<2^bN n K T)(p:S[j]?=some s)(z:s.dp+9<=m)(wf:s.wf (K++T)):∃r,Td (wo n K T c) (wo n K T d) s r/\call prog (m+1) "Cases.truth" [.r ro,.i j,.i c,.i d] h=.ok (.v (bh r)) h:=by
 obtain⟨k,rfl⟩:=nk m 6 (by omega);obtain⟨r,x,e⟩:=CS (g.pt c d) h s _ z wf;refine⟨r,x,?_⟩;rw[Ga rfl _ _ _ rfl];simp only[Xu];have a:=xv (F:=(k8 (k+6))) (τ:=[y0 _,si j,si c,si d,u0]) (i:=0) (m:="world_of_code") (q:="Cases.world_of_code") (es:=.cons .v2 .nil) (ws:=[.i c]) C rfl rfl (by simp![]);have b:=xv (F:=(k8 (k+6))) (τ:=[y0 _,si j,si c,si d,u0]) (i:=0) (m:="world_of_code") (q:="Cases.world_of_code") (es:=.cons .v3 .nil) (ws:=[.i d]) C rfl rfl (by simp![]);have a:=a.trans (q3 k c g C u);have b:=b.trans (q3 k d g C y);have v:j<S.length:=(Aa8.mp p).1;have l:bw (S.map aF) (j:Int)=y0 (aF s):=by rw[Jr _ _ (by rw[Aa];exact v),Ac9,p];rfl
 rw[za (τ1:=[y0 (.r ro),si j,si c,si d,sv (b3 (wo n K T c) (wo n K T d))]) (h1:=h) (by generalize E.bQ _ _ _ _ _=X at a⊢;generalize E.bQ _ _ _ _ _=Y at b⊢;simp![a,b])];have o:=Zg (F:=(k8 (k+6))) (τ:=[y0 _,si j,si c,si d,sv (b3 (wo n K T c) (wo n K T d))]) (i:=0) (f:="words") C rfl rfl;have t:=Zg (F:=(k8 (k+6))) (τ:=[y0 _,si j,si c,si d,sv (b3 (wo n K T c) (wo n K T d))]) (i:=0) (f:="sayings") C rfl rfl;have e:call prog _ "told" [.v (wD K T),.v _,.v _] h=.ok _ h:=e;rw[xa (w:=.v (bh r)) (h1:=h) (Qb rfl (by generalize E.aA _ _ _=X at o⊢;generalize E.aA _ _ _=Y at t⊢;simp![o,t,af,l,e])),Gb _ _ _ rfl]
end
def rX(p)(t)(a b):cn (bR p) (.tup [.str t,.int a,.int b])=k9↔p.1=t/\(p.2.1:Int)=a/\(p.2.2:Int)=b:=by simp[bR,GK]
theorem r4(t)(a b):∀L:List Pl,inD (.tup [.str t,.int a,.int b]) (L.map bR)=k9->∃i x y,Ku (.tup [.str t,.int a,.int b]) (L.map bR)=y0 i/\L[i]?=y0 (t,x,y)/\a=(x:Int)/\b=(y:Int)
|[],h=>by simp[inD]at h
|p::L,h=>by
  rw[Ab4,Ku];by_cases q:cn (bR p) (.tup [.str t,.int a,.int b])=k9
  .obtain⟨c,e,d⟩:=(rX p t a b).mp q;refine⟨0,p.2.1,p.2.2,by rw[if_pos q],?_,e.symm,d.symm⟩;rw[←c];rfl
  .rw[if_neg q];have h:=by rw[inD,Ab4,Ag,Ae7]at h;exact h.resolve_left q
   obtain⟨i,x,y,c,e,d,f⟩:=r4 t a b L h;exact⟨i+1,x,y,by rw[c];rfl,e,d,f⟩
def vC{x y i:Nat}{L:List Pl}(h:L[i]?=y0 (t,x,y)):inD (.tup [.str t,.n x,.n y]) (L.map bR)=true:=by rw[inD,Ae1];exact⟨bR _,Ac0.mpr ⟨_,Ac7 h,rfl⟩,(rX _ _ _ _).mpr ⟨rfl,rfl,rfl⟩⟩
def jC(L:List Pl):Gf (L.map bR)=true:=xc _ (λ_=>rfl) L
def rb(L:List Pl):GD (L.map bR)<140:=Aj6 (jO bR 1 (λ_=>by simp[bR]) L) (by decide)
def Ce(t)(a b)(L:List Pl)(h):Gw .fB (.t [.str t,.int a,.int b]) (.l (L.map bR)) h=y0 (!inD (.tup [.str t,.int a,.int b]) (L.map bR)):=by
 have g:Kb (.t [.str t,.int a,.int b]) (.l (L.map bR)) h=y0 (inD (.tup [.str t,.int a,.int b]) (L.map bR)):=by unfold Kb;rw[W.g6,W.g6,Zz (by exact jC L)];show(if _=k9 then _ else _)=_;rw[jC,decide_eq_true (rb L)];rfl
 show(Kb _ _ h).map (!·)=_;rw[g];rfl
def HB{L:List Pl}(h)(c:L.length<=1000)(e:Ku (.tup [.str t,.int a,.int b]) (L.map bR)=y0 i):m7 .cc (.l (L.map bR)) [.t [.str t,.int a,.int b]] h=.ok (.i i) h:=by
 have g:KC (.t [.str t,.int a,.int b]) (.l (L.map bR)) h=y0 i:=by unfold KC;rw[W.g6,W.g6,Zz (by exact jC L)];show(if _=k9 then _ else _)=_;rw[jC,decide_eq_true (rb L),decide_eq_true (by rw[Gg,Aa];lia)];exact e
 show(R.of h _).bind _=_;rw[g];rfl
section
variable{n:Nat}{K T:List Tx}{S:List Sy}{ro:Nat}{h:AH}
def uU(k)(g:bJ n K T)(C:h[ro]?=some (.obj "Cases" (bH n K T S)))(c:(cC n K T)[i]?=some (t,x,y)):call prog (k+2) "Cases.bit_of" [.r ro,.s t,.i x,.i y] h=.ok (.i (2^i)) h:=by
 rw[Ga rfl _ _ _ rfl];simp only[Wq];have b:dt .str (.s t)=y0 true:=rfl;rw[Za (by simp![b,(zy k (.n x) h rfl),(zy k (.n y) h rfl),Z5])];have a:=Zg (F:=(k8 (k+1))) (τ:=[y0 _,y0 (.s t),si x,si y]) (i:=0) (f:="places") C rfl rfl;have d:=Ce t x y (cC n K T) h;rw[vC c]at d;obtain⟨j,o,q,e,m,e1,e2⟩:=r4 t x y _ (vC c);obtain rfl:=Int.ofNat.inj e1;obtain rfl:=Int.ofNat.inj e2;obtain rfl:=DR g c m;have p:(cC n K T).length<=100:=by rw[jz];have:=g.b6;lia
 have l:nO .cc (.l ((cC n K T).map bR)) h=true:=rfl;generalize E.aA _ _ _=X at a⊢;rw[Za (by simp![a,d])];rw[xa (w:=.i (2^i)) (h1:=h) (Qb rfl (by simp![a,l,if_true,(HB h (by lia) e),(iQ i (by grind))])),Gb _ _ _ rfl]
end
def yS(n a b c j p):((eJ n a b c).getD j 0).testBit p=(u9 (j<b)&&(u9 (p<n*n)&&c.testBit (p+(a*n+j*(n*n))))):=by
 rw[Ac4];by_cases q:j<b
 .rw[pL q,Ak4,Ah9,Ai,decide_eq_true q,Ae]
 .rw[List.getElem?_eq_none (by rw[wH];omega),Am3,Ag5,decide_eq_false q,Ae2]
def vL(n a b c j p):((eV n a b c).getD j 0).testBit p=(u9 (j<a)&&(u9 (p<n)&&c.testBit (p+j*n))):=by
 rw[Ac4];by_cases q:j<a
 .rw[pQ q,Ak4,Ah9,Ai,decide_eq_true q,Ae]
 .rw[List.getElem?_eq_none (by rw[jF];omega),Am3,Ag5,decide_eq_false q,Ae2]
def mq(h:Sub c d):Le (wo n K T c) (wo n K T d):=⟨rfl,λt x y z=>by
 unfold bz at z⊢;by_cases q:t∈T
 .rw[if_pos (show t∈(wo n K T _).T from q)]at z⊢;have z:((eJ n K.length T.length c).getD _ 0).testBit _=true:=z;show((eJ n K.length T.length d).getD _ 0).testBit _=k9;rw[yS,Aa0,Aa0]at z⊢;exact⟨z.1,z.2.1,h _ z.2.2⟩
 .rw[if_neg (show t∉(wo n K T _).T from q)]at z⊢;have z:(decide _&&((eV n K.length T.length c).getD (de t K) 0).testBit x)=true:=z;show(decide _&&((eV n K.length T.length d).getD (de t K) 0).testBit x)=k9;rw[vL,Aa0,Aa0,Aa0]at z⊢;exact⟨z.1,z.2.1,z.2.2.1,h _ z.2.2.2⟩⟩
section
variable{n:Nat}{K T:List Tx}
def Au(c d:Nat)(a:t∈K++T)(b:x<n)(f:y<n)(q:¬∃i:Nat,(cC n K T)[i]?=y0 (t,x,y)):bz (wo n K T c) t x y=false:=by
 cases e:bz _ t x y with
|false=>rfl
|true=>exact absurd (Ir a b f e) q
variable{f:Tx->Nat×Nat}{r low high:Nat}{h:AH}
end
abbrev Xh:Tx:=[98,114,111,107,101,110]
abbrev Jn:Tx:=[115,112,108,105,116]
abbrev aO(K T:List Tx)(S:List Sy):D:=.tup [wD K T,.tup (S.map aF)]
def xq(k)(w)(l)(h):call prog (k+1) "is_tuple_of" [.t (.str s::r),.s w,.i l] h=.ok (.b (decide (r.length+1=l)&&s==w)) h:=by
 rw[Ga rfl _ _ _ rfl];simp only[Jt];have a:dt .tuple (.t (.str s::r))=y0 true:=rfl;have c:dt .str (.s s)=y0 true:=rfl;have b:=yY (r.length+1) l h;by_cases e:r.length+1=l
 .rw[decide_eq_true e]at b⊢;rw[Za (by simp![a,Qo,ai,Aa7,b])];rw[xa (w:=.b (s==w)) (h1:=h) (Qb rfl (by simp![af,Zl,c,zd])),Gb _ _ _ rfl];rfl
 .rw[decide_eq_false e]at b⊢;rw[zi (by simp![a,Qo,ai,Aa7,b]) rfl,Gb _ _ _ rfl];rfl
def V.uniq (h:V n v g)(q:V n w g):v=w:=Wf.eP h.lt q.lt λk a=>by have b:=h.2 _ _ (Wf.aZ a) (Wf.aU a);have c:=q.2 _ _ (Wf.aZ a) (Wf.aU a);rw[Wf.bu]at b c;rw[An0,b,c]
theorem B.uniq (h:B a b e v u)(q:B a b e v' u'):v=v'/\u=u':=⟨h.lo.uniq q.lo,h.hi.uniq q.hi⟩
theorem gP.uniq (h:gP a b f p)(k:gP a b f q):p=q:=by
 cases f with
|eO x y=>obtain⟨v,u,l,n,c,g,rfl⟩:=h;obtain⟨w,t,m,i,d,e,rfl⟩:=k;obtain⟨rfl,rfl⟩:=c.uniq d;obtain⟨rfl,rfl⟩:=g.uniq e;rfl
|eN x y=>obtain⟨v,u,l,n,c,g,rfl⟩:=h;obtain⟨w,t,m,i,d,e,rfl⟩:=k;obtain⟨rfl,rfl⟩:=c.uniq d;obtain⟨rfl,rfl⟩:=g.uniq e;rfl
|bL x=>obtain⟨v,u,c,rfl⟩:=h;obtain⟨w,t,d,rfl⟩:=k;obtain⟨rfl,rfl⟩:=c.uniq d;rfl
|ak x=>obtain⟨v,u,c,rfl⟩:=h;obtain⟨w,t,d,rfl⟩:=k;obtain⟨rfl,rfl⟩:=c.uniq d;rfl
|cnt s j x=>obtain⟨v,u,c,rfl⟩:=h;obtain⟨w,t,d,rfl⟩:=k;obtain⟨rfl,rfl⟩:=c.uniq d;rfl
theorem Td.uniq:∀{s}{p q},Td a b s p->Td a b s q->p=q
|.fact _,_,_,h,k=>gP.uniq h k
|.neg _,_,_,z7,z8=>by obtain⟨p,h,e⟩:=z7;obtain⟨q,k,c⟩:=z8;rw[e,c,Td.uniq h k]
|.cT _ _,_,_,z7,z8=>by obtain⟨p,q,h,d,e⟩:=z7;obtain⟨g,i,k,f,c⟩:=z8;rw[e,c,Td.uniq h k,Td.uniq d f]
|.cW _ _,_,_,z7,z8=>by obtain⟨p,q,h,d,e⟩:=z7;obtain⟨g,i,k,f,c⟩:=z8;rw[e,c,Td.uniq h k,Td.uniq d f]
section
variable{n:Nat}{K T:List Tx}{S:List Sy}{h:AH}{ro low high:Nat}
abbrev iT(ro:Nat)(p:D)(b a:Nat)(x y:Option W):Sl:=[y0 (.r ro),sv p,si b,si a,x,y]
def rF(m)(C:h[ro]?=some (.obj "Cases" (bH n K T S)))(g:j<S.length)(e:call prog (m+2) "Cases.truth" [.r ro,.i j,.i low,.i high] h=.ok (.v (bh o)) h):call prog (m+3) "Cases.is_shown" [.r ro,.t [.str Xh,.n j],.i low,.i high] h=.ok (.b (o==some false)) h:=by rw[Ga rfl _ _ _ rfl];simp only[zc];have b:call prog _ "is_tuple_of" [.t [.str Xh,.n j],.s iC,.v (.int 2)] h=.ok (.b true) h:=xq (m+1) Xh 2 h;rw[xa ((XH (h1:=h) (by simp![b])).trans ?_),Gb _ _ _ rfl];refine(za (by simp![af,Zh];rfl)).trans ?_;have d:=Qp m (.n j) S.length h rfl;rw[show Zi _ S.length=k9 by rw[Zi,Aa0,decide_eq_true_eq,decide_eq_true_eq];omega]at d;have c:=Zg (F:=(k8 (m+2))) (τ:=iT ro (.tup [.str Xh,.n j]) low high (si j) u0) (i:=0) (f:="sayings") C rfl rfl;have a:=xv (F:=(k8 (m+2))) (τ:=iT ro (.tup [.str Xh,.n j]) low high (si j) u0) (i:=0) (m:="truth") (q:="Cases.truth") (es:=.cons .v4 (.b .v2 .v3)) (ws:=[.i j,.i low,.i high]) C rfl rfl (by simp![]);have a:=a.trans e;have d4:=nW o y9 h;generalize E.aA _ _ _=X at c⊢;generalize E.bQ _ _ _ _ _=Y at a⊢;exact xa (Qb rfl (by simp_all))
def LX(i):((2^i&&&high)-((2^i&&&high)&&&low)=0)↔¬(high.testBit i=k9/\low.testBit i=y9):=by
 rw[sub_zero];constructor
 .rintro z ⟨c,b⟩;have:=z i (by simp_all);rw[b]at this;cases this
 .intro z k a;rw[Ai4,Ag8,Aa0,decide_eq_true_eq]at a;obtain⟨rfl,a⟩:=a;cases q:low.testBit i with
|true=>rfl
|false=>exact absurd ⟨a,q⟩ z
def uQ(m)(C:h[ro]?=y0 (.obj "Cases" (bH n K T S)))(e:call prog (m+1) "Cases.bit_of" [.r ro,.v dn,.v da,.v db] h=.ok (.i v) h)(f:call prog (m+1) "Cases.is_shown" [.r ro,.v p1,.i (low|||v),.i high] h=.ok (.b b1) h)(g:call prog (m+1) "Cases.is_shown" [.r ro,.v p2,.i low,.i (high-(high&&&v))] h=.ok (.b b2) h):
 call prog (m+2) "Cases.is_shown" [.r ro,.t [.str Jn,dn,da,db,p1,p2],.i low,.i high] h=.ok (.b (!decide ((v&&&high)-((v&&&high)&&&low)=0)&&(b1&&b2))) h:=by
 rw[Ga (d:=zc) rfl _ _ _ rfl];simp only[zc];have c:call prog _ "is_tuple_of" [.t [.str Jn,dn,da,db,p1,p2],.s iC,.v (.int 2)] h=.ok (.b false) h:=xq m Xh 2 h;have k:call prog _ "is_tuple_of" [.t [.str Jn,dn,da,db,p1,p2],.s oU,.v (.int 6)] h=.ok (.b true) h:=xq m Jn 6 h;rw[Za (by simp![c]),Za (by simp![k,ai])];have j:bw [D.str Jn,dn,da,db,p1,p2] 1=y0 dn:=rfl;have a2:bw [D.str Jn,dn,da,db,p1,p2] 2=y0 da:=rfl;have a3:bw [D.str Jn,dn,da,db,p1,p2] 3=y0 db:=rfl;have a4:bw [D.str Jn,dn,da,db,p1,p2] 4=y0 p1:=rfl;have a5:bw [D.str Jn,dn,da,db,p1,p2] 5=y0 p2:=rfl;have b:=xv (F:=(k8 (m+1))) (τ:=iT ro (.tup [.str Jn,dn,da,db,p1,p2]) low high u0 u0) (i:=0) (m:="bit_of") (q:="Cases.bit_of") (es:=.cons (.ix .v1 (.int 1)) (.b (.ix .v1 (.int 2)) (.ix .v1 (.int 3)))) (ws:=[.v dn,.v da,.v db]) C rfl rfl (by simp![af,j,a2,a3]);have b:=b.trans e;rw[za (τ1:=iT ro (.tup [.str Jn,dn,da,db,p1,p2]) low high u0 (si v)) (h1:=h) (by generalize E.bQ _ _ _ _ _=X at b⊢;simp![b])];have a:Gp (k8 (m+1)) (.cmp .eq (.bin .band (.bin .band .v5 .v3) (.inv .v2)) (.int 0)) (iT ro (.tup [.str Jn,dn,da,db,p1,p2]) low high u0 (si v)) h=.ok (u9 ((v&&&high)-((v&&&high)&&&low)=0)) h:=by simp![We,zl,ZF,sR]
 cases q:u9 ((v&&&high)-((v&&&high)&&&low)=0)
 .rw[q]at a;rw[Za a];rw[xa (w:=.b (b1&&b2)) (h1:=h) (Qb rfl (Wj ((xv (F:=(k8 (m+1))) (τ:=iT ro (.tup [.str Jn,dn,da,db,p1,p2]) low high none (si v)) (i:=0) (m:="is_shown") (q:="Cases.is_shown") (es:=.cons (.ix .v1 (.int 4)) (.b (.bin .bor .v2 .v5) .v3)) (ws:=[.v p1,.i (low|||v),.i high]) C rfl rfl (by simp![af,a4,ww,Wy])).trans f) ((xv (F:=(k8 (m+1))) (τ:=iT ro (.tup [.str Jn,dn,da,db,p1,p2]) low high none (si v)) (i:=0) (m:="is_shown") (q:="Cases.is_shown") (es:=.cons (.ix .v1 (.int 5)) (.b .v2 (.bin .band .v3 (.inv .v5)))) (ws:=[.v p2,.i low,.i (high-(high&&&v))]) C rfl rfl (by simp![af,a5,We,ZF])).trans g))),Gb _ _ _ rfl];rfl
 .rw[q]at a;rw[zi (w:=.b y9) a rfl,Gb _ _ _ rfl];rfl
end
def ui(h:Sub a w)(q:Sub b w):Sub (a|||b) w:=λk z=>by rw[Ag0,Ae7]at z;exact z.elim (h k) (q k)
def vi(h:Sub w c)(q:w.testBit i=y9):Sub w (c-(c&&&2^i)):=λk z=>by rw[Wf.a0,h k z,Ag8,Ae,Af1];refine decide_eq_false λe=>?_;rw[←e,q]at z;cases z
inductive Pp(n:Nat)(K T:List Tx)(S:List Sy):D->Prop where
|brk {j:Nat}(h:j<S.length):Pp n K T S (.tup [.str Xh,.n j])
|eC {i x y:Nat}{t:Tx}{p1 p2:D}(h:(cC n K T)[i]?=y0 (t,x,y))(h1:Pp n K T S p1)(h2:Pp n K T S p2):Pp n K T S (.tup [.str Jn,.str t,.n x,.n y,p1,p2])
def Pp.nr {S:List Sy}(h:Pp n K T S p):Gc p=true:=by
 induction h with
|brk _=>rfl
|eC _ _ _ a b=>simp[a,b]
def Lw(n:Nat)(K T:List Tx)(S:List Sy)(b a:Nat):Prop:=∀w,Sub b w->Sub w a->∃s∈S,∀o,Td (wo n K T w) (wo n K T w) s o->o=y0 y9
section
variable{n q low high:Nat}{K T:List Tx}{S:List Sy}
def Lw.brk {j:Nat}{s:Sy}(e:S[j]?=y0 s)(b:Td (wo n K T low) (wo n K T high) s (y0 y9)):Lw n K T S low high:=λw c d=>
 ⟨s,Ac7 e,λf a=>Td.mono (mq c) (mq d) (Le.refl _) s _ f y9 b a rfl⟩
def Lw.eC {i:Nat}(f:Lw n K T S (low|||2^i) high)(e:Lw n K T S low (high-(high&&&2^i))):Lw n K T S low high:=λw a b=>by
 cases c:w.testBit i with
|true=>exact f w (ui a λk d=>by rw[Ag8,decide_eq_true_eq]at d;rw[←d];exact c) b
|false=>exact e w a (vi b c)
def walk(g:bJ n K T)(E:∀s∈S,s.wf (K++T)/\s.dp<=q){p:D}(J:Pp n K T S p):∀d,dep p<=d->∀low high:Nat,low<2^bN n K T->high<2^bN n K T->∃b:Bool,(∀m ro (h':AH),d+q+12<=m->h'[ro]?=some (.obj "Cases" (bH n K T S))->call prog m "Cases.is_shown" [.r ro,.v p,.i low,.i high] h'=.ok (.b b) h')/\(b=true->Lw n K T S low high):=by
 induction J with
|@brk j v=>intro d B low high a c;obtain⟨s,f⟩:∃s,S[j]?=y0 s:=⟨S[j],Ab0 v⟩;obtain⟨wf,dp⟩:=E s (Ac7 f);obtain⟨o,w,-⟩:=Qv (q+9) j low high (ro:=0) (h:=[Cell.obj "Cases" (bH n K T S)]) g rfl a c f (by omega) wf;refine⟨o==y0 y9,λm ro h' N C=>?_,λz=>Lw.brk f (eq_of_beq z▸w)⟩;obtain⟨k,rfl⟩:=nk m 3 (by omega);obtain⟨P,u,e⟩:=Qv (k+1) j low high g C a c f (by omega) wf;rw[u.uniq w]at e;exact rF k C v e
|@eC i x y t R Q A _ _ l r=>
  intro d B low high a c;simp only[dep,GD]at B;obtain⟨d,rfl⟩:∃e,d=e+1:=⟨d-1,by omega⟩;have I:i<bN n K T:=by have:=(Aa8.mp A).1;rw[jz]at this;exact this
  obtain⟨F,M,L⟩:=l d (by omega) (low|||2^i) high (tq a (Nat.pow_lt_pow_right (by decide) I)) c;obtain⟨H,O,G⟩:=r d (by omega) low (high-(high&&&2^i)) a (Aj6 (Nat.sub_le _ _) c);refine⟨!u9 ((2^i&&&high)-((2^i&&&high)&&&low)=0)&&(F&&H),λm ro h' N C=>?_,λz=>?_⟩
  .obtain⟨k,rfl⟩:=nk m 3 (by omega);exact uQ (k+1) C (uU k g C A) (M _ ro h' (by omega) C) (O _ ro h' (by omega) C)
  .rw[Aa0,Aa0,Af1,decide_eq_false_iff_not]at z;exact Lw.eC (L z.2.1) (G z.2.2)
end
def JZ(e:Ex):Gc (a9 e)=k9/\dep (a9 e)<=e.dp+1:=by
 induction e with
|turned a c=>obtain⟨d,g⟩:=c;exact⟨by simp[a9,d],by simp[a9,Ex.dp];lia⟩
|closed a c=>obtain⟨d,g⟩:=c;exact⟨by simp[a9,d],by simp[a9,Ex.dp];lia⟩
|plus a b c k=>obtain⟨d,g⟩:=c;obtain⟨f,h⟩:=k;exact⟨by simp[a9,d,f],by simp[a9,Ex.dp];lia⟩
|less a b c k=>obtain⟨d,g⟩:=c;obtain⟨f,h⟩:=k;exact⟨by simp[a9,d,f],by simp[a9,Ex.dp];lia⟩
|both a b c k=>obtain⟨d,g⟩:=c;obtain⟨f,h⟩:=k;exact⟨by simp[a9,d,f],by simp[a9,Ex.dp];lia⟩
|joined a b c k=>obtain⟨d,g⟩:=c;obtain⟨f,h⟩:=k;exact⟨by simp[a9,d,f],by simp[a9,Ex.dp];lia⟩
|_=>exact⟨rfl,by simp[a9]⟩
def DC(s:Sy):Gc (aF s)=k9/\dep (aF s)<=s.dp+2:=by
 induction s with
|fact f=>
  cases f with
  |eO a b=>obtain⟨c,e⟩:=JZ a;obtain⟨d,h⟩:=JZ b;exact⟨by simp[aF,dc,c,d],by simp[aF,dc,Sy.dp,Fc.dp];lia⟩
  |eN a b=>obtain⟨c,e⟩:=JZ a;obtain⟨d,h⟩:=JZ b;exact⟨by simp[aF,dc,c,d],by simp[aF,dc,Sy.dp,Fc.dp];lia⟩
  |bL a=>obtain⟨c,e⟩:=JZ a;exact⟨by simp[aF,dc,c],by simp[aF,dc,Sy.dp,Fc.dp];lia⟩
  |ak a=>obtain⟨c,e⟩:=JZ a;exact⟨by simp[aF,dc,c],by simp[aF,dc,Sy.dp,Fc.dp];lia⟩
  |cnt t j a=>obtain⟨c,e⟩:=JZ a;exact⟨by simp[aF,dc,c],by simp[aF,dc,dep,GD,Sy.dp,Fc.dp];lia⟩
|neg a g=>obtain⟨c,e⟩:=g;exact⟨by simp[aF,c],by simp[aF,dep,GD,Sy.dp];lia⟩
|cT a b g k=>obtain⟨c,e⟩:=g;obtain⟨d,h⟩:=k;exact⟨by simp[aF,c,d],by simp[aF,dep,GD,Sy.dp];lia⟩
|cW a b g k=>obtain⟨c,e⟩:=g;obtain⟨d,h⟩:=k;exact⟨by simp[aF,c,d],by simp[aF,dep,GD,Sy.dp];lia⟩
def Jk(k)(g:bJ n K T)(h):call prog (k+5) "check_bits" [.v (wD K T),.i n,.v (.int 16)] h=.ok (.v .ak) h:=by have n4:=g.n4;have c:=g.b6;have b:=Z4 k (.n n) h rfl (by simp[Zi];lia);have a:=oV (k+2) n (K.map .str) (T.map .str) h n4 (by rw[Aa];exact g.k4) (by rw[Aa];exact g.t4);rw[Aa,Aa,q9]at a;rw[Ga rfl _ _ _ rfl];simp only[a8];refine fx (by simp![b];rfl) ?_;refine fx (by simp![a];rfl) ?_;have z:Gw .gt _ (.v (.int 16)) h=y0 _:=ky 16 (bN n K T) h;rw[decide_eq_false (by lia)]at z;rw[Za (by simp![z]),execs];exact GG _ h _ rfl
def qQ(j:eval F e τ (g++[.obj c fs])=.ok (.v d) (g++[.obj c fs]))(a:Gm τ i=y0 (.r g.length))(b:Gc d=k9)(h:fs.length<100):exec F (.bK i c f e) τ (g++[.obj c fs])=.next τ (g++[.obj c (aS f d fs)]):=by rw[exec,j,R.aB];simp only[a,Wm (jP g _),b,h,and_self,if_true,rP]
def LM(h:eval F e τ (g++[.obj c fs])=.ok (.own xs) (g++[.obj c fs]))(a:Gm τ i=y0 (.r g.length))(b:Gf xs=k9)(d:fs.length<100):exec F (.bX i c f e) τ (g++[.obj c fs])=.next τ (g++[.obj c (aS f (.lst xs) fs)]):=by rw[exec,h,R.aB];simp only[W.gG,a,Wm (jP g _),show Gc (.lst xs)=k9 from b,d,and_self,if_true,rP]
def oB(k){S:List Sy}(g:bJ n K T)(h:AH):call prog (k+4) "Cases.__init__" [.r h.length,.v (aO K T S),.i n] (h++[.obj "Cases" []])=.ok (.v .ak) (h++[Cell.obj "Cases" (bH n K T S)]):=by
 rw[Ga (d:=ji) rfl _ _ _ rfl];show Gy _ (execs _ _ [y0 (.r h.length),sv (aO K T S),si n] (h++[.obj "Cases" []]))=_;simp only[ji];have c:Gc (wD K T)=true:=by show(Gf (K.map .str)&&(Gf (T.map .str)&&k9))=k9;rw[Wr,Wr];rfl
 have l:Gc (.tup (S.map aF))=true:=xc _ (λs=>(DC s).1) S;have o:∀a,eval (k8 (k+3)) (.ix .v1 (.int 0)) [y0 (.r h.length),sv (aO K T S),si n] a=.ok (.v (wD K T)) a:=λa=>by simp![af,xj]
 have j:∀a,eval (k8 (k+3)) (.ix .v1 (.int 1)) [y0 (.r h.length),sv (aO K T S),si n] a=.ok (.t (S.map aF)) a:=λa=>by simp![af,Zh]
 rw[za (qQ (fs:=[]) (o _) rfl c (show 0<100 by decide))];rw[za (qQ (fs:=aS "words" (wD K T) []) (j _) rfl l (show 1<100 by decide))];rw[za (qQ (fs:=aS "sayings" (.tup (S.map aF)) (aS "words" (wD K T) [])) (d:=.n n) (by simp![]) rfl rfl (show 2<100 by decide))];have pl:∀a,eval (k8 (k+3)) (.call "places_of" (.b (.ix .v1 (.int 0)) .v2)) [some (.r h.length),sv (aO K T S),si n] a=.ok (.own ((cC n K T).map bR)) a:=fun a=>by simp![af,xj,(Df k n K T a g.n4 g.k4 g.t4)];rfl
 rw[za (LM (fs:=aS "size" (.n n) (aS "sayings" (.tup (S.map aF)) (aS "words" (wD K T) []))) (pl _) rfl (jC _) (show 3<100 by decide))];have p:aS "places" (.lst ((cC n K T).map bR)) (aS "size" (.n n) (aS "sayings" (.tup (S.map aF)) (aS "words" (wD K T) [])))=[("words",wD K T),("sayings",.tup (S.map aF)),("size",.n n),("places",.lst ((cC n K T).map bR))]:=rfl;rw[p];have q:=g.b6;have m:=iQ (bN n K T) (by show K.length*n+T.length*(n*n)<=_;omega);have e:((2^bN n K T:Nat):Int)-1=((2^bN n K T-1:Nat):Int):=by have:=Af4 (bN n K T);omega
 rw[za (qQ (d:=.n (2^bN n K T-1)) (by have b:=Zg (F:=(k8 (k+3))) (τ:=[y0 (.r h.length),sv (aO K T S),si n]) (i:=0) (f:="places") (jP h (.obj "Cases" [("words",wD K T),("sayings",.tup (S.map aF)),("size",.n n),("places",.lst ((cC n K T).map bR))])) rfl rfl;generalize E.aA _ _ _=X at b⊢;simp![b,QE,ai,Aa,jz,m,qo,e]) rfl rfl (by simp))];rw[execs];exact GG _ _ _ (by simp)
noncomputable def cq:Ex->List Tx
|.name t=>[t]
|.turned a=>cq a
|.closed a=>cq a
|.plus a b=>cq a++cq b
|.less a b=>cq a++cq b
|.both a b=>cq a++cq b
|.joined a b=>cq a++cq b
|_=>[]
def AW:Fc->List Tx
|.eO a b=>cq a++cq b
|.eN a b=>cq a++cq b
|.bL a=>cq a
|.ak a=>cq a
|.cnt _ _ a=>cq a
def WY:Sy->List Tx
|.fact f=>AW f
|.neg a=>WY a
|.cT a b=>WY a++WY b
|.cW a b=>WY a++WY b
def wz(h:a<=2^x)(g:b<=2^y):a+b<=2^(max x y+1):=by have c:2^x<=2^max x y:=Ad6 (by decide) (Nat.le_max_left _ _);have d:2^y<=2^max x y:=Ad6 (by decide) (Nat.le_max_right _ _);lia
def lu(h:a<=2^x):a<=2^(x+1):=Ab6 h (Ad6 (by decide) (Af0 _))
theorem Qc:∀e:Ex,(cq e).length<=2^e.dp
|.name _=>Aa9 _
|.same=>Af _
|.all=>Af _
|.none=>Af _
|.turned a=>lu (Qc a)
|.closed a=>lu (Qc a)
|.plus a b=>by rw[cq,Ab];exact wz (Qc a) (Qc b)
|.less a b=>by rw[cq,Ab];exact wz (Qc a) (Qc b)
|.both a b=>by rw[cq,Ab];exact wz (Qc a) (Qc b)
|.joined a b=>by rw[cq,Ab];exact wz (Qc a) (Qc b)
theorem Wk:∀s:Sy,(WY s).length<=2^(s.dp+1)
|.fact f=>by
  cases f with
  |eO a b=>show(cq a++cq b).length<=_;rw[Ab];exact wz (Qc a) (Qc b)
  |eN a b=>show(cq a++cq b).length<=_;rw[Ab];exact wz (Qc a) (Qc b)
  |bL a=>exact lu (Qc a)
  |ak a=>exact lu (Qc a)
  |cnt _ _ a=>exact lu (Qc a)
|.neg a=>lu (Wk a)
|.cT a b=>by rw[WY,Ab,Sy.dp];have:=wz (Wk a) (Wk b);rw[show max (a.dp+1) (b.dp+1)+1=max a.dp b.dp+1+1 by omega]at this;exact this
|.cW a b=>by rw[WY,Ab,Sy.dp];have:=wz (Wk a) (Wk b);rw[show max (a.dp+1) (b.dp+1)+1=max a.dp b.dp+1+1 by omega]at this;exact this
def iV(m:Nat)(h:AH)(p:D×List Tx):Prop:=(∃i,p.1=.int i/\p.2=[])\/∃xs,p.1=.tup xs/\call prog m "names_in" [.v p.1] h=.ok (.own (p.2.map .str)) h
theorem rl:∀(ps:List (D×List Tx)) j x,(∀p∈ps,iV m h p)->j.length+(ps.flatMap (·.2)).length<=900000->∃L,Gr (Gq [2] k9) (λτ h=>execs (k8 m) Xk τ h) (ps.map (·.1)) [sv th,y0 (.own (j.map .str)),x] h=.next [sv th,y0 (.own ((j++ps.flatMap (·.2)).map .str)),L] h
|[],j,x,_,_=>⟨x,by simp[Gr]⟩
|(d,l)::ps,j,x,c,b=>by
  rw[Ai6,Ab]at b;have b:j.length+(l.length+(ps.flatMap (·.2)).length)<=900000:=b;obtain⟨L,e⟩:=rl ps (j++l) (sv d) (λp a=>c p (Aa3 _ a)) (by rw[Ab];omega);refine⟨L,?_⟩;rw[Ab4,wc (τ1:=[sv th,y0 (.own (j.map .str)),sv d]) rfl,e,Ai6,Ag7];show execs _ Xk _ h=_;unfold Xk;rcases c (d,l) Aa4 with⟨i,e1,e2⟩|⟨f,e1,e2⟩
  .cases e1;cases e2;rw[Za (by simp![sZ,Ty.lQ]),execs,Ac3]
  .cases e1;have e2:=e2;have g:(j.map D.str).length+(l.map D.str).length<bp:=by rw[Gg,Aa,Aa];omega
   rw[za ((XH (h1:=h) (by simp![Hf,Ty.ij])).trans ?_),execs];rw[za (τ1:=[sv th,y0 (.own ((j++l).map .str)),y0 (.t f)]) (by simp![e2,g,if_true];rw[Ae5]),execs]
def o3(c:(s==xk)=y9)(ps:List (D×List Tx))(b:∀p∈ps,iV m h p)(d:(ps.flatMap (·.2)).length<=900000):call prog (m+1) "names_in" [.t (.str s::ps.map (·.1))] h=.ok (.own ((ps.flatMap (·.2)).map .str)) h:=by
 obtain⟨f,e⟩:=rl ps [] u0 b (by simp_all);rw[Ag1]at e;rw[Ga rfl _ _ _ rfl];simp only[jw];rw[Za (by rw[←c];simp![af,Zl,zd])];refine fx (by simp![];rfl) ?_;have a:hM (.t (.str s::ps.map (·.1))) (y0 1) u0 h=.ok (.t (ps.map (·.1))) h:=by show ai _ h=_;rw[show cut _ (y0 1) u0=_ from jX _ 1];rfl
 rw[za (by rw[exec,show Gs (k8 m) _ [y0 _,y0 _,u0] h=.ok (ps.map (·.1)) h by simp![a],R.aB];exact e)];rw[xa rfl,Gv _ _ _ rfl]
def Q1(a:(s==xk)=y9):call prog (m+1) "names_in" [.t [.str s]] h=.ok (.own (([]:List Tx).map .str)) h:=o3 a [] (fun _ h=>absurd h List.not_mem_nil) (Nat.zero_le _)
def Z9(c:(s==xk)=y9)(a:iV m h (d,l))(e:l.length<=400000):call prog (m+1) "names_in" [.t [.str s,d]] h=.ok (.own (l.map .str)) h:=by have:=o3 c [_] (λp b=>by rw[Ac5.mp b];exact a) (by simp;lia);simpa using this
def QJ(f:(s==xk)=y9)(c:iV m h (d,l))(a:iV m h (d',l'))(g:l.length<=400000)(e:l'.length<=400000):call prog (m+1) "names_in" [.t [.str s,d,d']] h=.ok (.own ((l++l').map .str)) h:=by
 have:=o3 f [_,_] (λp b=>by
  obtain rfl|b:=Ab7.mp b
  .exact c
  .rw[Ac5.mp b];exact a) (by simp;lia)
 simpa using this
def rA(e):∃xs,a9 e=.tup xs:=by cases e<;>exact⟨_,rfl⟩
def zT(s):∃xs,aF s=.tup xs:=by
 cases s with
|fact f=>cases f<;>exact⟨_,rfl⟩
|_=>exact⟨_,rfl⟩
def xG(d)(h:d<=17):2^d<=400000:=Ab6 (Ad6 (by decide) h) (by decide)
def C0(h):∀e m,e.dp+1<=m->e.dp<=16->call prog m "names_in" [.v (a9 e)] h=.ok (.own ((cq e).map .str)) h:=by
 intro e;have ok:∀e m,(∀m,e.dp+1<=m->e.dp<=16->call prog m "names_in" [.v _] h=.ok _ h)->e.dp+1<=m->e.dp<=16->iV m h (a9 e,cq e)/\(cq e).length<=400000:=fun e m d f l=>by obtain⟨p,ex⟩:=rA e;exact⟨.inr ⟨p,ex,d m f l⟩,Ab6 (Qc e) (xG _ (by lia))⟩
 have one:∀s a,_=y9->(∀m,a.dp+1<=m->a.dp<=16->call prog m "names_in" [.v _] h=.ok _ h)->∀m,a.dp+1+1<=m->a.dp+1<=16->call prog m "names_in" [.t [.str s,a9 a]] h=.ok _ h:=fun s a j d m f l=>by obtain⟨k,rfl⟩:=nk m 1 (by lia);obtain⟨i,g⟩:=ok a k d (by lia) (by lia);exact Z9 j i g
 have two:∀s a b,_=y9->(∀m,a.dp+1<=m->a.dp<=16->call prog m "names_in" [.v _] h=.ok _ h)->(∀m,b.dp+1<=m->b.dp<=16->call prog m "names_in" [.v _] h=.ok _ h)->∀m,max a.dp b.dp+1+1<=m->max a.dp b.dp+1<=16->call prog m "names_in" [.t [.str s,a9 a,a9 b]] h=.ok _ h:=fun s a b j d c m f l=>by obtain⟨k,rfl⟩:=nk m 1 (by lia);obtain⟨i,g⟩:=ok a k d (by lia) (by lia);obtain⟨n,o⟩:=ok b k c (by lia) (by lia);exact QJ j i n g o
 induction e with
|name t=>intro m f _;obtain⟨k,rfl⟩:∃k,m=k+1:=⟨m-1,by simp[Ex.dp]at f;lia⟩;rw[Ga rfl _ _ _ rfl];show Gy _ (execs _ _ [y0 (.t [.str xk,.str t]),u0,u0] h)=_;simp only[jw];rw[xa (w:=.own [.str t]) (h1:=h) ((XH (by simp![zd];rfl)).trans (xa (Ww rfl (by simp![af,Zh])))),Gv _ _ _ rfl];rfl
|same=>intro m f _;obtain⟨k,rfl⟩:=nk m 1 (by lia);exact Q1 rfl
|all=>intro m f _;obtain⟨k,rfl⟩:=nk m 1 (by lia);exact Q1 rfl
|none=>intro m f _;obtain⟨k,rfl⟩:=nk m 1 (by lia);exact Q1 rfl
|turned a d=>exact one ZB a rfl d
|closed a d=>exact one qO a rfl d
|plus a b d c=>exact two nN a b rfl d c
|less a b d c=>exact two jH a b rfl d c
|both a b d c=>exact two n3 a b rfl d c
|joined a b d c=>exact two xB a b rfl d c
def NP(h):∀s m,s.wf N->s.dp+2<=m->s.dp<=14->call prog m "names_in" [.v (aF s)] h=.ok (.own ((WY s).map .str)) h:=by
 intro s;have c:∀e m,e.dp+1<=m->e.dp<=14->iV m h (a9 e,cq e)/\(cq e).length<=400000:=λe m d g=>by obtain⟨n,ex⟩:=rA e;exact⟨.inr ⟨n,ex,C0 h e m d (by omega)⟩,Ab6 (Qc e) (xG _ (by omega))⟩
 induction s with
|fact f=>
  intro m wf d g;obtain⟨k,rfl⟩:=nk m 1 (by omega);cases f with
  |eO a b=>simp only[Sy.dp,Fc.dp]at d g;obtain⟨l,i⟩:=c a k (by omega) (by omega);obtain⟨q,r⟩:=c b k (by omega) (by omega);exact QJ rfl l q i r
  |eN a b=>simp only[Sy.dp,Fc.dp]at d g;obtain⟨l,i⟩:=c a k (by omega) (by omega);obtain⟨q,r⟩:=c b k (by omega) (by omega);exact QJ rfl l q i r
  |bL a=>simp only[Sy.dp,Fc.dp]at d g;obtain⟨l,i⟩:=c a k (by omega) (by omega);exact Z9 rfl l i
  |ak a=>simp only[Sy.dp,Fc.dp]at d g;obtain⟨l,i⟩:=c a k (by omega) (by omega);exact Z9 rfl l i
  |cnt t j a=>
   simp only[Sy.dp,Fc.dp]at d g;obtain⟨l,i⟩:=c a k (by omega) (by omega);have w:(t==xk)=false:=by
    have:t=Jb\/t=Zj\/t=Qi\/t=ZG:=by simpa using wf.1
    rcases this with rfl|rfl|rfl|rfl<;>rfl
   have:=QJ w (.inl ⟨_,rfl,rfl⟩:iV k h (.n j,[])) l (Af _) i;exact this
|neg a p=>intro m wf d g;obtain⟨k,rfl⟩:=nk m 1 (by omega);simp only[Sy.dp]at d g;obtain⟨n,ex⟩:=zT a;exact Z9 rfl (.inr ⟨n,ex,p k wf (by omega) (by omega)⟩) (Ab6 (Wk a) (xG _ (by omega)))
|cT a b p o=>intro m wf d g;obtain⟨k,rfl⟩:=nk m 1 (by omega);simp only[Sy.dp]at d g;obtain⟨n,ex⟩:=zT a;obtain⟨v,u⟩:=zT b;exact QJ rfl (.inr ⟨n,ex,p k wf.1 (by omega) (by omega)⟩) (.inr ⟨v,u,o k wf.2 (by omega) (by omega)⟩) (Ab6 (Wk a) (xG _ (by omega))) (Ab6 (Wk b) (xG _ (by omega)))
|cW a b p o=>intro m wf d g;obtain⟨k,rfl⟩:=nk m 1 (by omega);simp only[Sy.dp]at d g;obtain⟨n,ex⟩:=zT a;obtain⟨v,u⟩:=zT b;exact QJ rfl (.inr ⟨n,ex,p k wf.1 (by omega) (by omega)⟩) (.inr ⟨v,u,o k wf.2 (by omega) (by omega)⟩) (Ab6 (Wk a) (xG _ (by omega))) (Ab6 (Wk b) (xG _ (by omega)))
def kX(L:List Tx):Nat->List Pl->Nat->Nat
|_,[],v=>v
|i,p::ps,v=>kX L (i+1) ps (if p.1∈L then v|||2^i else v)
theorem vj:∀ps i v j,(kX L i ps v).testBit j=k9↔v.testBit j=k9\/∃k p,ps[k]?=y0 p/\j=i+k/\p.1∈L
|[],i,v,j=>by exact⟨.inl,λh=>h.elim id (by rintro⟨k,p,e,_⟩;exact by simp at e)⟩
|p::ps,i,v,j=>by
  rw[kX,vj ps];have b:(if p.1∈L then v|||2^i else v).testBit j=k9↔v.testBit j=k9\/(j=i/\p.1∈L):=by
   by_cases q:p.1∈L
   .rw[if_pos q,Ag0,Ag8,Ae7,decide_eq_true_eq];exact or_congr Iff.rfl ⟨λz=>⟨z.symm,q⟩,λz=>z.1.symm⟩
   .rw[if_neg q];exact⟨.inl,λz=>z.elim id λz=>absurd z.2 q⟩
  rw[b];constructor
  .rintro((h|⟨rfl,h⟩)|⟨k,a,e,rfl,h⟩)
   .exact .inl h
   .exact .inr ⟨0,p,rfl,rfl,h⟩
   .exact .inr ⟨k+1,a,e,by omega,h⟩
  .rintro(h|⟨k,a,e,rfl,h⟩)
   .exact .inl (.inl h)
   .cases k with
|zero=>
     have:p=a:=by simpa using e
     exact .inl (.inr ⟨rfl,this▸h⟩)
|succ k=>exact .inr ⟨k,a,by simpa using e,by omega,h⟩
abbrev iy(ro:Nat)(s:D)(L:List Tx)(v:Nat)(x y:Option W):Sl:=[y0 (.r ro),sv s,y0 (.l (L.map .str)),si v,x,y]
def My(s)(a:List Tx)(h):Gw .mem (.s s) (.l (a.map .str)) h=y0 (u9 (s∈a)):=Ju s a (.l _) h rfl
theorem vE:∀ps i v x y,i+ps.length<=1000->∃j M,Gr (Gq [4,5] y9) (λτ h=>execs F Xj τ h) (Kk i (ps.map bR)) (iy ro s L v x y) h=.next (iy ro s L (kX L i ps v) j M) h
|[],i,v,x,y,_=>⟨x,y,rfl⟩
|p::ps,i,v,x,y,b=>by
  rw[Aa7]at b;obtain⟨j,M,e⟩:=vE ps (i+1) (if p.1∈L then v|||2^i else v) (si i) (sv (bR p)) (by omega);refine⟨j,M,?_⟩;rw[Ab4,Kk,wc (τ1:=iy ro s L v (si i) (sv (bR p))) rfl,e,kX];unfold Xj;have i0:dY (.v (bR p)) (.v (.int 0)) h=y0 (.str p.1):=rfl;have a:Gp F (.cmp .mem (.ix .v5 (.int 0)) .v2) (iy ro s L v (si i) (sv (bR p))) h=.ok (u9 (p.1∈L)) h:=by simp![i0,My]
  by_cases q:p.1∈L
  .rw[if_pos q,za ((XH (by rw[a,decide_eq_true q])).trans ?_),execs];have c:=iQ i (by omega);rw[za (τ1:=iy ro s L (v|||2^i) (si i) (sv (bR p))) (h1:=h) (by simp![c,ww,Wy]),execs]
  .rw[if_neg q,Za (by rw[a,decide_eq_false q]),execs]
def eG(n:Nat)(K T:List Tx)(s:Sy):Nat:=kX (WY s) 0 (cC n K T) 0
section
variable{n:Nat}{K T:List Tx}{S:List Sy}{ro:Nat}{h:AH}
def tQ(s)(j):(eG n K T s).testBit j=k9↔∃p:Pl,(cC n K T)[j]?=y0 p/\p.1∈WY s:=by
 rw[eG,vj,Ag5];constructor
 .rintro(h|⟨k,p,e,rfl,h⟩)
  .cases h
  .exact⟨p,by rw[Ap3];exact e,h⟩
 .rintro⟨p,e,h⟩;exact .inr ⟨j,p,e,(Ap3 j).symm,h⟩
def La(m)(g:bJ n K T)(C:h[ro]?=y0 (.obj "Cases" (bH n K T S)))(wf:s.wf (K++T))(b:s.dp+2<=m)(a:s.dp<=14):call prog (m+1) "needed_bits" [.r ro,.v (aF s)] h=.ok (.i (eG n K T s)) h:=by
 have c:0+(cC n K T).length<=1000:=by rw[jz];have:=g.b6;lia
 obtain⟨e,j,e2⟩:=vE _ 0 0 u0 u0 c;refine fx (by simp![(NP h s m wf b a)];rfl) ?_;rw[za (τ1:=iy ro _ _ 0 u0 u0) (by simp![];rfl)];rw[za (by
  have d:Gs (k8 m) (.cx (.aA .v0 "Cases" "places")) (iy ro (aF s) (WY s) 0 none none) h=.ok (Kk 0 ((cC n K T).map bR)) h:=by show(eval _ _ _ h).bind _=_;rw[(Zg (F:=(k8 m)) (τ:=iy ro (aF s) (WY s) 0 u0 u0) (i:=0) (f:="places") C rfl rfl)];rfl
  rw[exec,d,R.aB];exact e2)]
 rw[xa (w:=.i (eG n K T s)) (h1:=h) rfl,Gb _ _ _ rfl]
end
theorem tx:∀f x a,x<f->∃y:Nat,GN (λτ h=>Gp F Zd τ h) (λτ h=>execs F xi τ h) f [si x,si a] h=.next [si (0),si y] h
|0,x,a,c=>absurd c (Ag2 _)
|f+1,x,a,c=>by
  have d:Gp F Zd [si x,si a] h=.ok (u9 (0<x)) h:=by have z:Gw .gt (.i x) (.v (.int 0)) h=y0 (u9 (0<x)):=ky 0 x h;unfold Zd;simp![z]
  show∃y:Nat,((Gp F Zd _ h).cM _)=_;rw[d,R.aB];by_cases q:0<x
  .obtain⟨y,e⟩:=tx f (x&&&(x-1)) (a+1) (by have:x&&&(x-1)<=x-1:=Nat.and_le_right;omega);refine⟨y,?_⟩;rw[decide_eq_true q];have b:execs F xi [si x,si a] h=.next [si (x&&&(x-1)),si (a+1)] h:=by
    have i:x-1=((x-1:Nat):Int):=by omega
    have g:a+1=((a+1:Nat):Int):=rfl;refine(za (by simp![qo,i,We,zl];rfl)).trans ?_;rw[za (τ1:=[si (x&&&(x-1)),si (a+1)]) (h1:=h) (by simp![jg,g]),execs]
   simp only[b];exact e
  .refine⟨a,?_⟩;have:x=0:=by omega
   subst this;rfl
def A0(k x)(h)(a:x<100000):∃y:Nat,call prog (k+1) "how_many_set" [.i x] h=.ok (.i y) h:=by obtain⟨y,e⟩:=tx 100000 x 0 a;refine⟨y,?_⟩;refine fx (by simp![];rfl) ?_;rw[za (by assumption)];rw[xa rfl,Gb _ _ _ rfl]
theorem wN:∀xs b j,(∀m∈xs,∃y,G7 (key m)=y0 y)->∃i∈b::xs,GU key b j xs=y0 i
|[],b,j,_=>⟨b,Aa4,rfl⟩
|x::xs,b,j,h=>by
  obtain⟨y,e⟩:=h x Aa4;rw[GU,e,Ag3];by_cases q:y<j
  .obtain⟨i,a,d⟩:=wN xs x y λm c=>h m (Aa3 _ c);exact⟨i,Aa3 _ a,by rw[if_pos q];exact d⟩
  .obtain⟨i,a,d⟩:=wN xs b j λm c=>h m (Aa3 _ c);refine⟨i,?_,by rw[if_neg q];exact d⟩;rcases Ab7.mp a with rfl|a
   .exact Aa4
   .exact Aa3 _ (Aa3 _ a)
def Io(a:xs≠[])(h:∀m∈xs,∃y,G7 (key m)=y0 y):∃i∈xs,G8 key (y0 xs)=y0 i:=by
 cases xs with
|nil=>exact absurd rfl a
|cons x xs=>obtain⟨y,e⟩:=h x Aa4;obtain⟨i,c,d⟩:=wN xs x y λm b=>h m (Aa3 _ b);exact⟨i,c,by rw[G8,e];exact d⟩
def CZ{f:Nat}(b:0<f):∃i:Nat,f.testBit i=k9/\f-(f&&&(f-1))=2^i:=by
 induction f using Nat.strongRecOn with
|ind f a=>
  have d:(f&&&(f-1))/2=f/2&&&(f-1)/2:=Nat.and_div_two;have m:(f&&&(f-1))%2=0:=by
   have:¬((f&&&(f-1))%2=1):=λz=>by have:=Nat.and_mod_two_eq_one.mp z;omega
   omega
  by_cases h:f%2=1
  .refine⟨0,by simp[h],?_⟩;rw[show(f-1)/2=f/2 by omega,Nat.and_self]at d;show _=1;omega
  .obtain⟨i,t,e⟩:=a (f/2) (by omega) (by omega);refine⟨i+1,by rw[Nat.testBit_succ];exact t,?_⟩;rw[show(f-1)/2=f/2-1 by omega]at d;rw[Nat.pow_succ];have:f/2&&&(f/2-1)<=f/2:=Nat.and_le_left;omega
def LR{f:Nat}(a:0<f):Gk .band (f:Int) (-(f:Int))=y0 ((f-(f&&&(f-1)):Nat):Int):=by rw[We,Ke,if_pos (Ao7 f),if_neg (by lia),Ad,show(-(-(f:Int))-1).toNat=f-1 by lia]
def L0(i):G9 ((2^i:Nat):Int)=i+1:=by have:(2^i)≠0:=Aj1 (Af4 i);rw[G9,if_neg (by lia),Int.natAbs_natCast,Nat.log2_two_pow]
noncomputable def eL(n:Nat)(K T:List Tx)(S:List Sy)(a:Nat):List (String×D):=[("cases",.ref a),("needs",.lst (aw (S.map (eG n K T))))]
structure Se(n:Nat)(K T:List Tx)(S:List Sy)(rs rc:Nat)(h:AH):Prop where
 se:h[rs]?=y0 (.obj "Search" (eL n K T S rc))
 cs:h[rc]?=y0 (.obj "Cases" (bH n K T S))
theorem yl(f)(P:Nat->Prop):∀ds:List D,(∀d∈ds,∃x:Nat,f d=.n x/\P x)->∃xs:List Nat,ds.map f=aw xs/\(∀x∈xs,P x)/\xs.length=ds.length
|[],_=>⟨[],rfl,λ_ h=>absurd h Af5,rfl⟩
|d::ds,h=>by
  obtain⟨x,e,p⟩:=h d Aa4;obtain⟨xs,e2,b,l2⟩:=yl f P ds λd c=>h d (Aa3 _ c);refine⟨x::xs,by rw[Ab4,e,e2];rfl,λy a=>?_,by rw[Aa7,l2,Aa7]⟩;rcases Ab7.mp a with rfl|a
  .exact p
  .exact b y a
section
variable{n q:Nat}{K T:List Tx}{S:List Sy}
def N8(m:Nat)(g:bJ n K T)(o:∀s∈S,s.wf (K++T)/\s.dp<=q)(L:S.length<=100)(M:q+7<=m)(N:q<=14)(h:AH):call prog (m+1) "Search.__init__" [.r h.length,.v (aO K T S),.i n] (h++[.obj "Search" []])=.ok (.v .ak) (h++[.obj "Search" (eL n K T S (h.length+1)),.obj "Cases" (bH n K T S)]):=by
 obtain⟨k,rfl⟩:=nk m 4 (by omega);have e1:=oB k (S:=S) g (h++[Cell.obj "Search" []]);have p:(h++[Cell.obj "Search" []]).length=h.length+1:=by simp
 rw[p]at e1;rw[Ga (d:=Jg) rfl _ _ _ rfl];show Gy _ (execs _ _ [y0 (.r h.length),sv (aO K T S),si n] (h++[.obj "Search" []]))=_;simp only[Jg];have t:∀fs x,GX (h++[Cell.obj "Search" fs]++x) _=some (h.length,"Search",fs):=fun fs x=>Wm (by simp);have u:∀fs b x,(h++[Cell.obj "Search" fs]++x).set h.length (.obj "Search" b)=h++[Cell.obj "Search" b]++x:=fun fs b x=>by simp
 have mk:eval (k8 (k+4)) (.make "Cases" "Cases.__init__" (.b .v1 .v2)) [some (.r h.length),sv (aO K T S),si n] (h++[.obj "Search" []])=.ok (.r (h.length+1)) (h++[.obj "Search" []]++[.obj "Cases" (bH n K T S)]):=by simp![p,e1,ai]
 rw[za (τ1:=[y0 (.r h.length),sv (aO K T S),si n]) (h1:=h++[.obj "Search" [("cases",.ref (h.length+1))]]++[.obj "Cases" (bH n K T S)]) (by rw[exec,mk,R.aB];simp only[Gm,t,Af3,show(0:Nat)<100 by decide,and_self,if_true,u];rfl)];have z:(h++[Cell.obj "Search" [("cases",.ref (h.length+1))]]++[Cell.obj "Cases" (bH n K T S)])[h.length+1]?=some (.obj "Cases" (bH n K T S)):=by simp
 have j:(h++[Cell.obj "Search" [("cases",.ref (h.length+1))]]++[Cell.obj "Cases" (bH n K T S)])[h.length]?=some (.obj "Search" [("cases",.ref (h.length+1))]):=by simp
 have v:=t [("cases",.ref (h.length+1))] [Cell.obj "Cases" (bH n K T S)];have w:=u [("cases",.ref (h.length+1))] (eL n K T S (h.length+1)) [Cell.obj "Cases" (bH n K T S)];have C:h++[Cell.obj "Search" (eL n K T S (h.length+1))]++[Cell.obj "Cases" (bH n K T S)]=h++[.obj "Search" (eL n K T S (h.length+1)),.obj "Cases" (bH n K T S)]:=by simp
 generalize h++[Cell.obj "Search" [("cases",.ref (h.length+1))]]++[Cell.obj "Cases" (bH n K T S)]=H at z j v w⊢;have comp:eval (k8 (k+4)) Zf [y0 (.r h.length),sv (aO K T S),si n] H=.ok (.own (aw (S.map (eG n K T)))) H:=by
  unfold Zf
  obtain⟨f,J,B⟩:=uC (F:=(k8 (k+4))) (k:=1) (az:=[0]) (it:=.seq (.ix .v1 (.int 1))) (c:=.bl true) (elt:=.call "needed_bits" (.cons (.aA .v1 "Search" "cases") (.a .v0))) (τ:=[some (.r h.length),sv (aO K T S),si n]) (h:=H) (ds:=S.map aF) (fun d y=>∀s∈S,d=aF s->y=.n (eG n K T s)) (by simp![af,Zh]) (by rw[List.length_map];omega) (fun d I=>by
   have r:∀s∈S,eval (k8 (k+4)) (.call "needed_bits" (.cons (.aA .v1 "Search" "cases") (.a .v0))) [sv (aF s),some (.r h.length)] H=.ok (.i (eG n K T s)) H:=fun s a=>by have e:=La (k+3) g z (o s a).1 (by have:=(o s a).2;omega) (by have:=(o s a).2;omega);have A:=Zg (F:=(k8 (k+4))) (τ:=[sv (aF s),y0 (.r h.length)]) (i:=1) (f:="cases") j rfl rfl;generalize E.aA _ _ _=X at A⊢;simp![A,e]
   obtain⟨s,a,rfl⟩:=Ac0.mp I;refine⟨_,r s a,λG l e=>?_⟩;have e1:=r s a;rw[e,r G l]at e1;injection e1 with e1
   injection e1 with e1
   exact e1.symm)
  rw[J];congr 2;rw[Ad7,aw,Ad7];exact List.map_congr_left λs a=>B (aF s) (Ac0.mpr ⟨s,a,rfl⟩) s a rfl
 rw[za (τ1:=[y0 (.r h.length),sv (aO K T S),si n]) (h1:=h++[.obj "Search" (eL n K T S (h.length+1)),.obj "Cases" (bH n K T S)]) (by rw[exec,comp,R.aB];simp only[W.gG,Gm,v,show Gc (.lst (aw (S.map (eG n K T))))=k9 from X5 _,Aa7,Af3,show(0+1:Nat)<100 by decide,and_self,if_true];rw[show(aS "needs" (.lst (aw (S.map (eG n K T)))) [("cases",.ref (h.length+1))])=eL n K T S (h.length+1)from rfl,w,C]),execs];show fin _ (.v .ak) _=_;unfold fin;have D:Gu ((h++[Cell.obj "Search" (eL n K T S (h.length+1)),.obj "Cases" (bH n K T S)]).take (h++[Cell.obj "Search" []]).length)=false:=by rw[p,show h++[Cell.obj "Search" (eL n K T S (h.length+1)),.obj "Cases" (bH n K T S)]=h++[Cell.obj "Search" (eL n K T S (h.length+1))]++[.obj "Cases" (bH n K T S)]by simp,List.take_left' (by simp),Gu,List.all_append];show(h.all Cell.pure&&y9)=y9;rw[Ae3]
 rw[if_neg (by simp),D,Ae3,if_neg Ab8]
def gI(n:Nat)(K T:List Tx)(b a:Nat)(s:Sy):Nat:=(eG n K T s&&&a)-((eG n K T s&&&a)&&&b)
def u3(low high)(s)(i):(gI n K T low high s).testBit i=((eG n K T s).testBit i&&high.testBit i&&!low.testBit i):=by rw[gI,Wf.a0,Ai4]
def BF(m:Nat){o rc b a:Nat}{H:AH}{l:List Nat}(g:bJ n K T)(R:Se n K T S o rc H)(hh:a<2^bN n K T)(u:l≠[])(Z:l.length<=1000)(hs:∀j∈l,∃s,S[j]?=y0 s/\gI n K T b a s≠0):
 ∃i:Nat,i<bN n K T/\a.testBit i=k9/\b.testBit i=y9/\call prog (m+2) "Search.chosen_place" [.r o,.bor (aw l),.i b,.i a] H=.ok (.i i) H:=by
 have b6:bN n K T<=16:=g.b6
 obtain⟨f,t,N⟩:=uC (F:=(k8 (m+1))) (k:=1) (az:=[0,3,2]) (it:=.seq .v1) (c:=.bl true) (elt:=.bin .band (.bin .band (.ix (.aA .v1 "Search" "needs") .v0) .v2) (.inv .v3)) (τ:=[some (.r o),some (.bor (aw l)),si b,si a,none,none]) (h:=H) (ds:=aw l) (fun d y=>∃x:Nat,y=.n x/\(∃s,x=gI n K T b a s)/\x≠0) (by simp![]) (by rw[List.length_map];exact Z) (fun d B=>by
  obtain⟨j,u,rfl⟩:=Ac0.mp B;obtain⟨s,e1,e2⟩:=hs j u;have P:j<S.length:=(Aa8.mp e1).1;have M:=Zg (F:=(k8 (m+1))) (τ:=[si j,y0 (.r o),si a,si b]) (i:=1) (f:="needs") R.se rfl rfl;have A:bw (aw (S.map (eG n K T))) (j:Int)=y0 (.n (eG n K T s)):=by rw[Jr _ _ (by rw[Aa,Aa];exact P),Ac9,Ac9,e1];rfl
  refine⟨.n (gI n K T b a s),?_,_,rfl,⟨s,rfl⟩,e2⟩;show eval _ _ [si j,y0 (.r o),si a,si b] H=_;generalize E.aA _ _ _=X at M⊢;simp![M,xz,A,We,zl,ZF];rfl)
 obtain⟨q,ex,J,D⟩:=yl f (λx=>(∃s,x=gI n K T b a s)/\x≠0) (aw l) λd B=>by obtain⟨x,e,p⟩:=N d B;exact⟨x,e,p⟩
 rw[ex]at t;have lt:∀x∈q,0<x/\x<65536:=λx r=>by obtain⟨⟨s,e⟩,ne⟩:=J x r;refine⟨Nat.pos_of_ne_zero ne,?_⟩;have v:gI n K T b a s<=a:=Ab6 (Nat.sub_le _ _) Nat.and_le_right;have h2:2^bN n K T<=2^16:=Ad6 (by decide) b6;omega
 obtain⟨i0,C,z⟩:=Io (key:=fun x=>call prog (m+1) "how_many_set" [.v (.int x)] []) (xs:=q.map fun(x:Nat)=>(x:Int)) (by
  cases q with
|nil=>rw[Aa]at D;exact absurd (List.length_eq_zero_iff.mp D.symm) u
|cons _ _=>simp) (λy Y=>by
  obtain⟨x,r,rfl⟩:=Ac0.mp Y;obtain⟨y,e⟩:=A0 m x [] (by have:=(lt x r).2;omega);exact⟨_,by show G7 (call prog (m+1) "how_many_set" [.i x] [])=_;rw[e];rfl⟩)
 obtain⟨x,r,rfl⟩:=Ac0.mp C;obtain⟨L,Q⟩:=lt x r;obtain⟨i,I,U⟩:=CZ L;obtain⟨⟨s,rfl⟩,_⟩:=J x r;rw[u3,Aa0,Aa0,Af1]at I;obtain⟨⟨c1,O⟩,V⟩:=I;obtain⟨p,hp,_⟩:=(tQ s i).mp c1;refine⟨i,?_,O,V,?_⟩
 .have:=(Aa8.mp hp).1;rw[jz]at this;exact this
 rw[Ga (d:=je) rfl _ _ _ rfl];show Gy _ (execs _ _ [y0 (.r o),y0 (.bor (aw l)),si b,si a,u0,u0] H)=_;simp only[je];have t:eval (k8 (m+1)) zg [y0 (.r o),y0 (.bor (aw l)),si b,si a,u0,u0] H=.ok (.own (aw q)) H:=t;rw[za (τ1:=[y0 (.r o),y0 (.bor (aw l)),si b,si a,y0 (.l (aw q)),u0]) (h1:=H) (by simp![t])];rw[za (τ1:=[y0 (.r o),y0 (.bor (aw l)),si b,si a,y0 (.l (aw q)),si (gI n K T b a s)]) (h1:=H) (by simp![W.mi,X0,z,ai])];have G:=LR L;rw[U]at G;have e1:((i+1:Nat):Int)-1=(i:Int):=by omega
 rw[xa (w:=.i i) (h1:=H) (Qb rfl (by simp![G,L0,ai,qo,e1])),Gb _ _ _ rfl]
end
def MJ:∀e p,(∀t∈cq e,bz a t=bz b t)->bt a b p e=bt a b k9 e:=by
 intro e;induction e with
|name t=>intro p h;cases p with
  |true=>rfl
  |false=>exact h t Aa4
|turned e g=>intro p h;simp[bt,g p h]
|closed e g=>intro p h;simp[bt,g p h]
|plus e f g c=>intro p h;simp[bt,g p λt d=>h t (Ac8 _ d),c p λt d=>h t (Aa5 _ d)]
|less e f g c=>intro p h;simp[bt,g p (λt d=>h t (Ac8 _ d)),c _ (λt d=>h t (Aa5 _ d))]
|both e f g c=>intro p h;simp[bt,g p λt d=>h t (Ac8 _ d),c p λt d=>h t (Aa5 _ d)]
|joined e f g c=>intro p h;simp[bt,g p λt d=>h t (Ac8 _ d),c p λt d=>h t (Aa5 _ d)]
|_=>intro p h;cases p<;>rfl
def B.nm (h:B a b e v u)(k:∀t∈cq e,bz a t=bz b t):v=u:=by have l:=h.lo;rw[MJ e y9 k]at l;exact l.uniq h.hi
def XT(h:p≠u0)(g:q≠u0):ik p q≠none:=by
 rcases p with _|_|_<;>rcases q with _|_|_<;>first|exact absurd rfl h|exact absurd rfl g|(intro z;cases z)
def Mx(h:p≠u0)(g:q≠u0):kM p q≠none:=by
 rcases p with _|_|_<;>rcases q with _|_|_<;>first|exact absurd rfl h|exact absurd rfl g|(intro z;cases z)
theorem Td.nm:∀s r,Td a b s r->(∀t∈WY s,bz a t=bz b t)->r≠u0
|.fact f,r,h,k=>by
  cases f with
  |eO x y=>obtain⟨v,u,l,m,c,i,rfl⟩:=h;cases c.nm λt d=>k t (Ac8 _ d);cases i.nm λt d=>k t (Aa5 _ d);rw[zO];intro z;cases z
  |eN x y=>obtain⟨v,u,l,m,c,i,rfl⟩:=h;cases c.nm λt d=>k t (Ac8 _ d);cases i.nm λt d=>k t (Aa5 _ d);rw[zO,zO];exact XT (λz=>by cases z) λz=>by cases z
  |bL x=>obtain⟨v,u,c,rfl⟩:=h;cases c.nm k;rw[XE];intro z;cases z
  |ak x=>obtain⟨v,u,c,rfl⟩:=h;cases c.nm k;rw[XE];intro z;cases z
  |cnt s j x=>obtain⟨v,u,c,rfl⟩:=h;cases c.nm k;rw[XE];intro z;cases z
|.neg s,r,z7,k=>by
  obtain⟨q,h,e⟩:=z7;have:=Td.nm s q h k;cases q with
  |none=>exact absurd rfl this
  |some x=>rw[e];intro z;cases z
|.cT s t,r,z7,k=>by obtain⟨p,q,c,i,e⟩:=z7;rw[e];exact XT (Td.nm s p c λx g=>k x (Ac8 _ g)) (Td.nm t q i λx g=>k x (Aa5 _ g))
|.cW s t,r,z7,k=>by obtain⟨p,q,c,i,e⟩:=z7;rw[e];exact Mx (Td.nm s p c λx g=>k x (Ac8 _ g)) (Td.nm t q i λx g=>k x (Aa5 _ g))
theorem jh:∀e:Ex,e.wf N->∀t∈cq e,t∈N
|.name x,w,t,h=>by rw[Ac5.mp h];exact w
|.turned a,w,t,h=>jh a w t h
|.closed a,w,t,h=>jh a w t h
|.plus a b,w,t,h=>(Ad1.mp h).elim (jh a w.1 t) (jh b w.2 t)
|.less a b,w,t,h=>(Ad1.mp h).elim (jh a w.1 t) (jh b w.2 t)
|.both a b,w,t,h=>(Ad1.mp h).elim (jh a w.1 t) (jh b w.2 t)
|.joined a b,w,t,h=>(Ad1.mp h).elim (jh a w.1 t) (jh b w.2 t)
theorem qJ:∀s:Sy,s.wf N->∀t∈WY s,t∈N
|.fact f,w,t,h=>by
  cases f with
  |eO a b=>exact(Ad1.mp h).elim (jh a w.1 t) (jh b w.2 t)
  |eN a b=>exact(Ad1.mp h).elim (jh a w.1 t) (jh b w.2 t)
  |bL a=>exact jh a w t h
  |ak a=>exact jh a w t h
  |cnt _ _ a=>exact jh a w.2 t h
|.neg a,w,t,h=>qJ a w t h
|.cT a b,w,t,h=>(Ad1.mp h).elim (qJ a w.1 t) (qJ b w.2 t)
|.cW a b,w,t,h=>(Ad1.mp h).elim (qJ a w.1 t) (qJ b w.2 t)
section
variable{n:Nat}{K T:List Tx}{low high:Nat}
def Im(g:bJ n K T)(k:t∈K++T)(h:∀i x y,(cC n K T)[i]?=y0 (t,x,y)->low.testBit i=high.testBit i):bz (wo n K T low) t=bz (wo n K T high) t:=by
 have a:∀x y,x<n->y<n->bz _ t x y=bz (wo n K T high) t x y:=λx y f j=>by
  by_cases q:∃i:Nat,(cC n K T)[i]?=y0 (t,x,y)
  .obtain⟨i,d⟩:=q;rw[(WS g d low).1,(WS g d high).1,h i x y d]
  .rw[Au low 0 k f j q,Au high 0 k f j q]
 funext x y;by_cases q:t∈T
 .have b:∀c,bz _ t x y=if x*n+y<n*n then bz _ t _ (_%n)else false:=λc=>by
   unfold bz;rw[if_pos (show t∈(wo n K T c).T from q),if_pos (show t∈(wo n K T c).T from q)];show((eJ n K.length T.length c).getD (de t T) 0).testBit (x*n+y)=if _ then((eJ n K.length T.length c).getD (de t T) 0).testBit ((x*n+y)/n*n+(x*n+y)%n)else y9;rw[Wf.bu];by_cases z:x*n+y<n*n
   .rw[if_pos z]
   .rw[if_neg z,yS,decide_eq_false z,Ae2,Ae3]
  rw[b,b];by_cases z:x*n+y<n*n
  .rw[if_pos z,if_pos z];exact a _ _ (Wf.aZ z) (Wf.aU z)
  .rw[if_neg z,if_neg z]
 .by_cases z:x=y/\x<n
  .obtain⟨rfl,z⟩:=z;exact a x x z z
  .have b:∀c,bz _ t x y=false:=λc=>by
    unfold bz;rw[if_neg (show t∉(wo n K T c).T from q)];show(decide _&&((eV n K.length T.length c).getD _ 0).testBit x)=y9;by_cases e:x=y
    .rw[vL,decide_eq_false (λl=>z ⟨e,l⟩),Ae2,Ae3,Ae3]
    .rw[decide_eq_false e,Ae2]
   rw[b,b]
def CM(g:bJ n K T)(sub:Sub low high)(wf:s.wf (K++T))(h:Td (wo n K T low) (wo n K T high) s u0):gI n K T low high s≠0:=λz=>by
 refine Td.nm s u0 h (λt b=>Im g (qJ s wf t b) λi x y d=>?_) rfl;have c:=(tQ s i).mpr ⟨_,d,b⟩;have e:=u3 (n:=n) (K:=K) (T:=T) low high s i;rw[z,Ag5,c,Ae]at e;cases q:high.testBit i with
|true=>
  rw[q,Ae]at e;cases a:low.testBit i with
  |true=>rfl
  |false=>rw[a]at e;cases e
|false=>
  cases a:low.testBit i with
|false=>rfl
|true=>rw[sub i a]at q;cases q
def oc(n:Nat)(K T:List Tx)(b a:Nat):Nat:=((Ab1 (bN n K T)).filter λi=>a.testBit i&&!b.testBit i).length
def BE(a:i<bN n K T)(h:high.testBit i=k9)(l:low.testBit i=y9):oc n K T (low|||2^i) high<oc n K T low high:=by refine pK (λj _ z=>?_) ⟨i,Ac1.mpr a,by rw[h,l];rfl,by rw[Ag0,Am4,Ap2,Al2,Ae3]⟩;rw[Ag0,Bool.not_or,Aa0,Aa0]at z;rw[z.1,z.2.1];rfl
def Cz(a:i<bN n K T)(h:high.testBit i=k9)(l:low.testBit i=y9):oc n K T low (high-(high&&&2^i))<oc n K T low high:=by refine pK (λj _ z=>?_) ⟨i,Ac1.mpr a,by rw[h,l];rfl,by rw[Wf.a0,Am4,Al2,Ae3,Ae2]⟩;rw[Wf.a0,Aa0,Aa0]at z;rw[z.1.1,z.2];rfl
def N7:oc n K T low high<=bN n K T:=by have:=Ak6 (λi=>high.testBit i&&!low.testBit i) (Ab1 (bN n K T));rw[Ai5]at this;exact this
end
abbrev qg:Tx:=[119,111,114,108,100]
abbrev jb:Tx:=[112,97,112,101,114]
structure GP(n:Nat)(K T:List Tx)(S:List Sy)(q d:Nat)(p:D)(low high:Nat):Prop where
 pp:Pp n K T S p
 dp:dep p<=d
 wk:Lw n K T S low high
 sh:∀m ro (h':AH),d+q+12<=m->h'[ro]?=some (.obj "Cases" (bH n K T S))->call prog m "Cases.is_shown" [.r ro,.v p,.i low,.i high] h'=.ok (.b true) h'
section
variable{n q:Nat}{K T:List Tx}{S:List Sy}{d low high:Nat}{p:D}
def GP.up {a:Nat}(h:GP n K T S q d p low high)(l:d<=a):GP n K T S q a p low high:=⟨h.pp,Ab6 h.dp l,h.wk,λm c b e C=>h.sh m c b (by omega) C⟩
theorem GP.brk (g:bJ n K T)(h:low<2^bN n K T)(i:high<2^bN n K T)(f:∀s∈S,s.wf (K++T)/\s.dp<=q){j:Nat}{s:Sy}(a:S[j]?=y0 s)(c:Td (wo n K T low) (wo n K T high) s (y0 y9))(p:1<=d):GP n K T S q d (.tup [.str Xh,.n j]) low high:=⟨.brk (Aa8.mp a).1,by simp;omega,Lw.brk a c,λm r o t C=>by obtain⟨wf,dp⟩:=f s (Ac7 a);obtain⟨k,rfl⟩:=nk m 3 (by omega);obtain⟨l,b,e⟩:=Qv (k+1) j low high g C h i a (by omega) wf;rw[b.uniq c]at e;exact rF k C (Aa8.mp a).1 e⟩
theorem GP.eC (g:bJ n K T){i x y:Nat}{t:Tx}{j c:D}(f:(cC n K T)[i]?=y0 (t,x,y))(o:high.testBit i=k9)(l:low.testBit i=y9)(b:GP n K T S q d j (low|||2^i) high)(a:GP n K T S q d c low (high-(high&&&2^i))):GP n K T S q (d+1) (.tup [.str Jn,.str t,.n x,.n y,j,c]) low high:=⟨.eC f b.pp a.pp,by
 have:=b.dp;have:=a.dp;simp only[dep,GD];omega,Lw.eC b.wk a.wk,λm h e p C=>by
 obtain⟨k,rfl⟩:=nk m 3 (by omega);have:=uQ (k+1) C (uU k g C f) (b.sh _ h e (by omega) C) (a.sh _ h e (by omega) C)
 rwa [decide_eq_false λz=>(LX i).mp z ⟨o,l⟩]at this⟩
def ic(n:Nat)(K T:List Tx)(S:List Sy)(q d e b:Nat)(a:D):Prop:=(∃c,Sub e c/\Sub c b/\c<2^bN n K T/\a=.tup [.str qg,(wo n K T c).ay]/\∀s∈S,Td (wo n K T c) (wo n K T c) s (y0 k9))\/∃p,a=.tup [.str jb,p]/\GP n K T S q d p e b
noncomputable abbrev cL(d:Nat)(c:List Nat)(b a:Nat)(l:List Nat)(x y:Option W):Sl:=[y0 (.r d),y0 (.bor (aw c)),si b,si a,y0 (.own (aw l)),x,y]
theorem oR(g:bJ n K T)(A:∀s∈S,s.wf (K++T)/\s.dp<=q)(D:low<2^bN n K T)(G:high<2^bN n K T)(r:Se n K T S rs rc H)(U:q+10<=m):∀O L x y,(∀j∈O,j<S.length)->L.length+O.length<=1000→
 (∃j s,S[j]?=y0 s/\Td (wo n K T low) (wo n K T high) s (y0 y9)/\Gr (Gq [5] k9) (λτ h=>execs (k8 m) qa τ h) (aw O) (cL rs j0 low high L x y) H=.ret (.t [.str jb,.tup [.str Xh,.n (j)]]) H)∨
 ∃M V W,(∀j∈M,∃s,S[j]?=y0 s/\Td (wo n K T low) (wo n K T high) s u0)/\(∀j∈O,j∉M->∃s,S[j]?=y0 s/\Td (wo n K T low) (wo n K T high) s (y0 k9))/\M.length<=O.length/\Gr (Gq [5] k9) (λτ h=>execs (k8 m) qa τ h) (aw O) (cL rs j0 low high L x y) H=.next (cL rs j0 low high (L++M) V W) H
|[],L,x,y,_,_=>.inr ⟨[],x,y,λ_ h=>absurd h Af5,λ_ h=>absurd h Af5,Aa9 _,by rw[Ac3];rfl⟩
|j::O,L,x,y,w,Y=>by
  rw[Aa7]at Y;have jl:=w j Aa4;obtain⟨s,t⟩:∃s,S[j]?=y0 s:=⟨S[j],Ab0 jl⟩;obtain⟨wf,dp⟩:=A s (Ac7 t);obtain⟨k,rfl⟩:=nk m 1 (by omega);obtain⟨o,B,e1⟩:=Qv k j low high g r.cs D G t (by omega) wf;have Q:=Zg (F:=(k8 (k+1))) (τ:=cL rs j0 low high L (si j) y) (i:=0) (f:="cases") r.se rfl rfl;have tr:eval (k8 (k+1)) (.bQ (.aA .v0 "Search" "cases") "Cases" "truth" "Cases.truth" (.c .v5 .v2 .v3)) (cL rs j0 low high L (si j) y) H=.ok (.v (bh o)) H:=by generalize E.aA _ _ _=X at Q⊢;rw[eval,Q,R.ae];simp only[Wm r.cs];rw[if_pos ⟨trivial,rfl⟩];simp![e1]
  have C:∀X,execs (k8 (k+1)) (.cons (.ag 6 (.bQ (.aA .v0 "Search" "cases") "Cases" "truth" "Cases.truth" (.c .v5 .v2 .v3))) X) (cL rs j0 low high L (si j) y) H=execs (k8 (k+1)) X (cL rs j0 low high L (si j) (sv (bh o))) H:=fun X=>by generalize E.bQ _ _ _ _ _=Z at tr⊢;rw[za (τ1:=cL rs j0 low high L (si j) (sv (bh o))) (h1:=H) (by simp![tr])]
  have i1:=nW o y9 H;have P:Gp (k8 (k+1)) (.cmp .d4 .v6 (.bl y9)) (cL rs j0 low high L (si j) (sv (bh o))) H=.ok (o==y0 y9) H:=by simp![i1]
  have u:∀c,c.length+O.length<=1000->execs (k8 (k+1)) qa (cL rs j0 low high L (si j) y) H=.next (cL rs j0 low high c (si j) (sv (bh o))) H->Gr (Gq [5] k9) (λτ h=>execs (k8 (k+1)) qa τ h) (aw (j::O)) (cL rs j0 low high L x y) H=Gr (Gq [5] k9) (λτ h=>execs (k8 (k+1)) qa τ h) (aw O) (cL rs j0 low high c (si j) (sv (bh o))) H:=λc _ e=>by rw[aw,Ab4,wc (τ1:=cL rs j0 low high L (si j) y) rfl e]
  rcases o with _|_|_
  .have b:execs (k8 (k+1)) qa (cL rs j0 low high L (si j) y) H=.next (cL rs j0 low high (L++[j]) (si j) (sv (bh u0))) H:=by
    unfold qa;rw[C,Za P];rw[za (τ1:=cL rs j0 low high (L++[j]) (si j) (sv (bh u0))) (h1:=H) ((XH (h1:=H) (by simp![bh,ai,An9])).trans ?_),execs];have lL:(aw L).length<bp:=by rw[Gg,Aa];omega
    rw[za (τ1:=cL rs j0 low high (L++[j]) (si j) (sv (bh u0))) (h1:=H) (by simp![lL,if_true];simp only[cL,LJ]),execs]
   rcases oR (j0:=j0) g A D G r U O (L++[j]) (si j) (sv (bh u0)) (λi a=>w i (Aa3 _ a)) (by rw[Ab];simp;omega)with⟨I,N,d,l,p⟩|⟨M,V,W,d,l,p,J⟩
   .exact .inl ⟨I,N,d,l,(u _ (by rw[Ab];simp;omega) b).trans p⟩
   .refine .inr ⟨j::M,V,W,λi a=>?_,λi a v=>?_,by rw[Aa7,Aa7];omega,?_⟩
    .rcases Ab7.mp a with rfl|a
     .exact⟨s,t,B⟩
     .exact d i a
    .rcases Ab7.mp a with rfl|a
     .exact absurd Aa4 v
     .exact l i a λz=>v (Aa3 _ z)
    .rw[u _ (by rw[Ab];simp;omega) b,J,Ag7];rfl
  .refine .inl ⟨j,s,t,B,?_⟩;rw[aw,Ab4,Gr,show Gq [5] k9 (.n j) (cL rs j0 low high L x y)=y0 (cL rs j0 low high L (si j) y)from rfl];have b:execs (k8 (k+1)) qa (cL rs j0 low high L (si j) y) H=.ret (.t [.str jb,.tup [.str Xh,.n j]]) H:=by unfold qa;rw[C];exact zi P (Qb rfl (by simp![]))
   simp only[b]
  .have b:execs (k8 (k+1)) qa (cL rs j0 low high L (si j) y) H=.next (cL rs j0 low high L (si j) (sv (bh (y0 k9)))) H:=by unfold qa;rw[C,Za P,Za (by simp![bh,ai]),execs]
   rcases oR (j0:=j0) g A D G r U O L (si j) (sv (bh (y0 k9))) (λi a=>w i (Aa3 _ a)) (by omega)with⟨I,N,d,l,p⟩|⟨M,V,W,d,l,p,J⟩
   .exact .inl ⟨I,N,d,l,(u _ (by omega) b).trans p⟩
   .refine .inr ⟨M,V,W,d,λi a v=>?_,by rw[Aa7];omega,(u _ (by omega) b).trans J⟩;rcases Ab7.mp a with rfl|a
    .exact⟨s,t,B⟩
    .exact l i a v
end
def uM(f:eval F a τ h=.ok (.r r) h)(b:h[r]?=y0 (.obj c fs))(d:(fs.lookup m).isNone=k9)(e:Gd F es τ h=.ok ws h):eval F (.bQ a c m q es) τ h=F.call q (.r r::ws.map W.arg) h:=by rw[eval,f,R.ae];simp only[Wm b];rw[if_pos ⟨trivial,d⟩,e,R.ae]
def vz(g:eval F a τ h=.ok (.r r) h)(b:h[r]?=y0 (.obj c fs))(e:fs.lookup f=y0 d):eval F (.aA a c f) τ h=.ok (.v d) h:=by rw[eval,g,R.ae];simp only[Wm b];rw[if_pos trivial,e];rfl
def vb(l)(h):Gw .eq (.bor (aw l)) (.own []) h=y0 (l==[]):=by
 cases l with
|nil=>rfl
|cons x a=>
  show(if GT _ ((W.own []).dd h)then y0 (cn _ _)else u0)=_;rw[W.kG,W.gj,GH (X5 (x::a))];have e:GT (.lst (aw (x::a))) (.lst (GR h []))=true:=by have:=C3 (x::a);have:=X5 (x::a);simp only[GR,decide_eq_true_eq];lia
  rw[if_pos e];rfl
section
variable{n q:Nat}{K T:List Tx}{S:List Sy}{low high:Nat}
def Tr(n:Nat)(K T:List Tx)(S:List Sy)(b a j:Nat):Prop:=∃s,S[j]?=y0 s/\Td (wo n K T b) (wo n K T a) s (y0 k9)
theorem Tr.mono (g:bJ n K T)(i:∀s∈S,s.wf (K++T)/\s.dp<=q)(h:Tr n K T S low high j)(f:Sub low low')(c:Sub high' high)(k:Sub low' high')(b:low'<2^bN n K T)(d:high'<2^bN n K T):Tr n K T S low' high' j:=by obtain⟨s,e,t⟩:=h;obtain⟨wf,dp⟩:=i s (Ac7 e);obtain⟨r,a,_⟩:=Qv _ j low' high' (ro:=0) (h:=[Cell.obj "Cases" _]) g rfl b d e (Nat.le_refl _) wf;have:=Td.mono (mq f) (mq c) (mq k) s _ _ k9 t a rfl;exact⟨s,e,this▸a⟩
def Sub.eE (a):Sub a a:=λ_ h=>h
def Sub.tr (h:Sub a b)(k:Sub b c):Sub a c:=λi z=>k i (h i z)
def ic.of (g:Sub low low')(b:Sub high' high)(h:∃c,Sub low' c/\Sub c high'/\c<2^bN n K T/\a=.tup [.str qg,(wo n K T c).ay]/\∀s∈S,Td (wo n K T c) (wo n K T c) s (y0 k9)):ic n K T S q d low high a:=by obtain⟨c,e,i,f⟩:=h;exact .inl ⟨c,g.tr e,i.tr b,f⟩
def Nn(w:Wo):Gc w.ay=true:=by simp[Wo.ay,X5,Bool.and_self]
def rO(a b):Sub a (a|||b):=λk z=>by rw[Ag0,z];rfl
def uh(a b):Sub (a-(a&&&b)) a:=λk z=>by rw[Wf.a0,Aa0]at z;exact z.1
def KY(h:a.testBit i=k9):Sub (2^i) a:=λk z=>by rw[Ag8]at z;rw[←of_decide_eq_true z];exact h
def Hv(i:Nat)(h:i<=1000):Gk .shl (1:Int) (i:Int)=y0 ((2^i:Nat):Int):=by
 have:=vx 1 i (by decide) (by lia)
 rwa [Nat.one_mul]at this
noncomputable abbrev gB(d:Nat)(c:List Nat)(b a i:Nat)(y z u v w:Option W):Sl:=[y0 (.r d),y0 (.bor (aw c)),si b,si a,si i,si (2^i),y,z,u,v,w]
def yp(g:bJ n K T)(M:∀s∈S,s.wf (K++T)/\s.dp<=q){o rc:Nat}{H:AH}(z:Se n K T S o rc H){k m:Nat}{w:List Nat}(IH:∀(v u:Nat)(l:List Nat),oc n K T v u<oc n K T low high->Sub v u->v<2^bN n K T->u<2^bN n K T->(∀j∈l,j<S.length)->l.length<=500->(∀j,j<S.length->j∉l->Tr n K T S v u j)->∃a,Gc a=true/\ic n K T S q k v u a/\call prog (m+2) "Search.told_of_case" [.r o,.bor (aw l),.i v,.i u] H=.ok (.v a) H)(hk:k<90)(sub:Sub low high)(C:low<2^bN n K T)(N:high<2^bN n K T)(A:∀j∈w,j<S.length)(l5:w.length<=500)(tr:∀j,j<S.length->j∉w->Tr n K T S low high j)(hm:k+q+18<=m):∃a,Gc a=true/\ic n K T S q (k+1) low high a/\call prog (m+4) "Search.told_of_case" [.r o,.bor (aw w),.i low,.i high] H=.ok (.v a) H:=by
 have run:=λ(a:D)(e:execs (k8 (m+3)) aI.body [y0 (.r o),y0 (.bor (aw w)),si low,si high,u0,u0,u0] H=.ret (.v a) H)=>(show call prog (m+4) "Search.told_of_case" [.r o,.bor (aw w),.i low,.i high] H=.ok (.v a) H from by rw[Ga (d:=aI) rfl _ _ _ rfl];show Gy _ (execs _ _ [y0 (.r o),y0 (.bor (aw w)),si low,si high,u0,u0,u0] H)=_;rw[e,Gb _ _ _ rfl]);simp only[aI]at run;have st:∀X,execs (k8 (m+3)) (.cons (.set 4 (.lst .nil)) (.cons (.for [5] k9 (.seq .v1) qa) X)) [y0 (.r o),y0 (.bor (aw w)),si low,si high,u0,u0,u0] H=(Gr (Gq [5] k9) (λW h=>execs (k8 (m+3)) qa W h) (aw w) (cL o w low high [] u0 u0) H).seq λW h=>execs (k8 (m+3)) X W h:=λX=>by rw[za (τ1:=cL o w low high [] u0 u0) (h1:=H) (by simp![];rfl),execs,exec,show Gs (k8 (m+3)) (.seq .v1) (cL o w low high [] u0 u0) H=.ok (aw w) H by simp![],R.aB]
 rcases oR (j0:=w) g M C N z (m:=m+3) (by omega) w [] u0 u0 A (by simp;omega)with⟨j,s,h1,h2,h3⟩|⟨l,x',y',h1,h2,h3,h4⟩
 .refine⟨_,by simp,.inr ⟨_,rfl,GP.brk g C N M h1 h2 (by omega)⟩,run _ ?_⟩;rw[st,h3,O.di]
 rw[Ag1]at h4;have P:∀j,j<S.length->j∉l->Tr n K T S low high j:=λj A hn=>by
  by_cases L:j∈w
  .exact h2 j L hn
  .exact tr j A L
 by_cases nil:l=[]
 .subst nil;refine⟨_,by simp[Nn],.inl ⟨low,Sub.eE low,sub,C,rfl,λs hs=>?_⟩,run _ ?_⟩
  .obtain⟨j,A,rfl⟩:=Ai9 hs;obtain⟨s,e,t⟩:=(P j A Af5).mono g M (Sub.eE low) sub (Sub.eE low) C C;rw[Ab0 A]at e;injection e with e
   rw[e];exact t
  .rw[st,h4,O.bf];have f1:=Zg (F:=(k8 (m+3))) (τ:=cL o w low high [] x' y') (i:=0) (f:="cases") z.se rfl rfl;have f2:=uM (m:="world_of_code") (q:="Cases.world_of_code") (es:=.cons .v2 .nil) (ws:=[.i low]) f1 z.cs rfl (by simp![]);have f3:=q3 (m-3) low g z.cs C;rw[show m-3+6=m+3 by omega]at f3;have f3:=f2.trans f3;generalize E.bQ _ _ _ _ _=X at f3⊢;exact zi (by simp![show Gw .eq (.bor []) (.own []) H=y0 k9 from vb [] H,ai]) (Qb rfl (by simp![f3]))
 have ns':∀j∈l,j<S.length:=λj A=>by obtain⟨s,e,_⟩:=h1 j A;exact(Aa8.mp e).1
 have op:∀j∈l,∃s,S[j]?=y0 s/\gI n K T low high s≠0:=λj A=>by obtain⟨s,e,t⟩:=h1 j A;exact⟨s,e,CM g sub (M s (Ac7 e)).1 t⟩
 have l5':l.length<=500:=by omega
 obtain⟨i,L,hb,lb,ec⟩:=BF m g z N nil (by omega) op;have b6:bN n K T<=16:=g.b6;have I:2^i<2^bN n K T:=Nat.pow_lt_pow_right (by decide) L;have V:low|||2^i<2^bN n K T:=Am5 C I
 have hh1:high-(high&&&2^i)<2^bN n K T:=Aj6 (Nat.sub_le _ _) N;have su1:Sub (low|||2^i) high:=ui sub (KY hb);have su2:Sub low (high-(high&&&2^i)):=vi sub lb;obtain⟨U,n1,A1,c1⟩:=IH (low|||2^i) high l (BE L hb lb) su1 V N ns' l5' λj A hn=>(P j A hn).mono g M (rO _ _) (Sub.eE _) su1 V N;obtain⟨a2,n2,A2,c2⟩:=IH low (high-(high&&&2^i)) l (Cz L hb lb) su2 C hh1 ns' l5' λj A hn=>(P j A hn).mono g M (Sub.eE _) (uh _ _) su2 C hh1;have J:∀a,call prog (m+3) "Search.told_of_halves" [.r o,.bor (aw l),.i low,.i high] H=.ok (.v a) H->call prog (m+4) "Search.told_of_case" [.r o,.bor (aw w),.i low,.i high] H=.ok (.v a) H:=fun a e=>run a (by rw[st,h4,O.bf];rw[Za (by simp![vb,beq_eq_false_iff_ne.mpr nil,ai])];have f1:=xv (F:=(k8 (m+3))) (τ:=cL o w low high l x' y') (i:=0) (m:="told_of_halves") (q:="Search.told_of_halves") (es:=.cons .v4 (.b .v2 .v3)) (ws:=[.bor (aw l),.i low,.i high]) z.se rfl rfl (by simp![]);have f2:=f1.trans e;exact xa (Qb rfl f2));have r:=λ(a:D)(e:execs (k8 (m+2)) aE.body [y0 (.r o),y0 (.bor (aw l)),si low,si high,u0,u0,u0,u0,u0,u0,u0] H=.ret (.v a) H)=>J a (show call prog (m+3) "Search.told_of_halves" [.r o,.bor (aw l),.i low,.i high] H=.ok (.v a) H from by rw[Ga (d:=aE) rfl _ _ _ rfl];show Gy _ (execs _ _ [y0 (.r o),y0 (.bor (aw l)),si low,si high,u0,u0,u0,u0,u0,u0,u0] H)=_;rw[e,Gb _ _ _ rfl]);clear run J st h4;simp only[aE]at r;have g1:eval (k8 (m+2)) (.bQ .v0 "Search" "chosen_place" "Search.chosen_place" (.c .v1 .v2 .v3)) [some (.r o),some (.bor (aw l)),si low,si high,none,none,none,none,none,none,none] H=.ok (.i i) H:=(xv (ws:=[.bor (aw l),.i low,.i high]) z.se rfl rfl (by simp![])).trans ec;have g2:eval (k8 (m+2)) (.bQ .v0 "Search" "told_of_case" "Search.told_of_case" (.c .v1 (.bin .bor .v2 .v5) .v3)) (gB o l low high i none none none none none) H=.ok (.v U) H:=(xv (ws:=[.bor (aw l),.i (low|||2^i),.i high]) z.se rfl rfl (by simp![ww,Wy,ai])).trans c1;have g3:eval (k8 (m+2)) (.bQ .v0 "Search" "told_of_case" "Search.told_of_case" (.c .v1 .v2 (.bin .band .v3 (.inv .v5)))) (gB o l low high i (sv U) none none none none) H=.ok (.v a2) H:=(xv (ws:=[.bor (aw l),.i low,.i (high-(high&&&2^i))]) z.se rfl rfl (by simp![We,ZF,ai])).trans c2;generalize E.bQ _ _ _ _ _=X1 at g1 r;generalize E.bQ _ _ _ _ _=X2 at g2 r;generalize E.bQ _ _ _ _ _=X3 at g3 r;have G:∀X,execs (k8 (m+2)) (.cons (.ag 4 X1) (.cons (.ag 5 (.bin .shl (.int 1) .v4)) (.cons (.ag 6 X2) X))) [y0 (.r o),y0 (.bor (aw l)),si low,si high,u0,u0,u0,u0,u0,u0,u0] H=execs (k8 (m+2)) X (gB o l low high i (sv U) u0 u0 u0 u0) H:=λX=>by
  have e1:=Hv i (by omega)
  rw[za (τ1:=[y0 (.r o),y0 (.bor (aw l)),si low,si high,si i,u0,u0,u0,u0,u0,u0]) (h1:=H) (by simp![g1]),
   za (τ1:=gB o l low high i u0 u0 u0 u0 u0) (h1:=H) (by simp![e1,ai]),za (τ1:=gB o l low high i (sv U) u0 u0 u0 u0) (h1:=H) (by simp![g2])]
 rcases A1 with wd|⟨B,rfl,Q⟩
 .refine⟨U,n1,ic.of (rO _ _) (Sub.eE _) wd,r _ ?_⟩;obtain⟨c,_,_,_,rfl,_⟩:=wd;rw[G];generalize E.bQ _ _ _ _ _=Y;exact zi (by simp![af,Zl,zd,ai];rfl) rfl
 obtain⟨b,Wb,Wl⟩:=walk g M Q.pp k Q.dp low high C N;have e1:=Wb (m+2) rc H (by omega) z.cs;have g4:eval (k8 (m+2)) (.bQ (.aA .v0 "Search" "cases") "Cases" "is_shown" "Cases.is_shown" (.c (.ix .v6 (.int 1)) .v2 .v3)) (gB o l low high i (some (.t [.str jb,B])) none none none none) H=.ok (.b b) H:=(uM (ws:=[.v B,.i low,.i high]) (Zg z.se rfl rfl) z.cs rfl (by simp![af,show bw [D.str jb,B] 1=some B from rfl,ai])).trans e1;generalize E.bQ _ _ _ _ _=Y at g4 r;have tt:Gp (k8 (m+2)) (.or (.cmp .eq (.ix .v6 (.int 0)) (.str fO)) Y) (gB o l low high i (y0 (.t [.str jb,B])) u0 u0 u0 u0) H=.ok b H:=by simp![af,Zl,zd,ai,show(jb==fO)=y9 from rfl,g4]
 cases b with
|true=>refine⟨_,n1,.inr ⟨B,rfl,GP.up ⟨Q.pp,Q.dp,Wl rfl,Wb⟩ (Af0 k)⟩,r _ ?_⟩;rw[G];exact zi tt rfl
|false=>
  rcases A2 with wd|⟨I,rfl,P2⟩
  .refine⟨a2,n2,ic.of (Sub.eE _) (uh _ _) wd,r _ ?_⟩;obtain⟨c,_,_,_,rfl,_⟩:=wd;rw[G,Za tt,za (τ1:=gB o l low high i (y0 (.t [.str jb,B])) (y0 (.t [.str qg,(wo n K T c).ay])) u0 u0 u0) (h1:=H) (by simp![g3])];exact zi (by simp![af,Zl,zd,ai];rfl) rfl
  .obtain⟨⟨t,x,y⟩,hp⟩:∃p,(cC n K T)[i]?=y0 p:=⟨_,Ab0 (by rw[jz];exact L)⟩;refine⟨.tup [.str jb,.tup [.str Jn,.str t,.n x,.n y,B,I]],by simp[Q.pp.nr,P2.pp.nr],.inr ⟨_,rfl,GP.eC g hp hb lb Q P2⟩,r _ ?_⟩;have at1:bw ((cC n K T).map bR) (i:Int)=y0 (.tup [.str t,.n x,.n y]):=by rw[Jr _ _ (by rw[Aa,jz];exact L),Ac9,hp];rfl
   have g5:eval (k8 (m+2)) (.aA (.aA .v0 "Search" "cases") "Cases" "places") (gB o l low high i (some (.t [.str jb,B])) (some (.t [.str jb,I])) none none none) H=.ok (.l ((cC n K T).map bR)) H:=vz (Zg z.se rfl rfl) z.cs rfl;generalize E.aA _ _ _=Z at g5⊢;rw[G,Za tt,za (τ1:=gB o l low high i (y0 (.t [.str jb,B])) (y0 (.t [.str jb,I])) u0 u0 u0) (h1:=H) (by simp![g3]),Za (by simp![af,Zl,zd,ai,show(jb==fO)=y9 from rfl])];rw[za (τ1:=gB o l low high i (y0 (.t [.str jb,B])) (y0 (.t [.str jb,I])) (y0 (.s t)) (si x) (si y)) (h1:=H) (by simp![g5,xz,at1,ai])];exact xa (Qb rfl (by simp![af,show bw [D.str jb,B] 1=y0 B from rfl,show bw [D.str jb,I] 1=y0 I from rfl,ai]))
theorem uS(g:bJ n K T)(i:∀s∈S,s.wf (K++T)/\s.dp<=q)(h:Se n K T S rs rc H):∀k low high m L,oc n K T low high<=k->k<80->Sub low high->low<2^bN n K T->high<2^bN n K T->(∀j∈L,j<S.length)->L.length<=500->(∀j,j<S.length->j∉L->Tr n K T S low high j)->2*k+q+22<=m->∃a,Gc a=k9/\ic n K T S q (k+1) low high a/\call prog m "Search.told_of_case" [.r rs,.bor (aw L),.i low,.i high] H=.ok (.v a) H
|0,low,high,m,L,v,t,sub,p,r,f,o,tr,y=>by obtain⟨m,rfl⟩:∃x,m=x+4:=⟨m-4,by omega⟩;exact yp g i h (λ_ _ _ z=>absurd z (by omega)) (by omega) sub p r f o tr (by omega)
|k+1,low,high,m,L,v,t,sub,p,r,f,o,tr,y=>by obtain⟨m,rfl⟩:∃x,m=x+4:=⟨m-4,by omega⟩;exact yp g i h (λA u l z w a b c d e=>uS g i h k A u (m+2) l (by omega) (by omega) w a b c d e (by omega)) (by omega) sub p r f o tr (by omega)
end
section
variable{n q:Nat}{K T:List Tx}{S:List Sy}
def Wp(w):Sub 0 w:=λk z=>by rw[Ag5]at z;cases z
def HK(g:bJ n K T)(l:∀s∈S,s.wf (K++T)/\s.dp<=q)(v:S.length<=100){b u m:Nat}{H:AH}(c:Se n K T S b u H)(w:q+54<=m):∃a,Gc a=k9/\ic n K T S q 17 0 (2^bN n K T-1) a/\call prog (m+1) "Search.told_of_sayings" [.r b,.bor (aw (List.range S.length))] H=.ok (.v a) H:=by have t:bN n K T<=16:=g.b6;have p:=Af4 (bN n K T);obtain⟨a,o,A,e⟩:=uS g l c 16 0 (2^bN n K T-1) m (Ab1 S.length) (Ab6 N7 t) (by decide) (Wp _) p (by omega) (λj f=>Ac1.mp f) (by rw[Ai5];omega) (λj f k=>absurd (Ac1.mpr f) k) (by omega);refine⟨a,o,A,?_⟩;rw[Ga (d:=jc) rfl _ _ _ rfl];show Gy _ (execs _ _ [y0 (.r b),y0 (.bor (aw (Ab1 S.length)))] H)=_;simp only[jc];have h:eval (k8 m) (.aA (.aA .v0 "Search" "cases") "Cases" "whole") [some (.r b),some (.bor (aw (List.range S.length)))] H=.ok (.i (2^bN n K T-1)) H:=vz (Zg c.se rfl rfl) c.cs rfl;generalize E.aA _ _ _=Z at h⊢;have r:=xv (F:=(k8 m)) (τ:=[y0 (.r b),y0 (.bor (aw (List.range S.length)))]) (i:=0) (m:="told_of_case") (q:="Search.told_of_case") (es:=.cons .v1 (.cons (.int 0) (.cons Z .nil))) (ws:=[.bor (aw (List.range S.length)),.i (0),.i (2^bN n K T-1)]) c.se rfl rfl (by simp![h];rfl);rw[xa (Qb rfl (r.trans e)),Gb _ _ _ rfl]
def ZO(xs ys)(h)(a:xs.length+ys.length<=100):GJ .add (.t xs) (.t ys) h=.ok (.t (xs++ys)) h:=by rw[Nx,if_pos (by rw[Gg];lia)]
def Mf(p:Gu h=k9)(a:Gu h'=k9):Gu (h++h')=true:=by rw[Gu,List.all_append,show h.all Cell.pure=k9 from p,show h'.all Cell.pure=k9 from a];rfl
def Zw(b:Gc d=k9)(a:Gu h=k9):Gy h.length (.ret (.v d) (h++h'))=.ok (.v d) h:=by have e:(h++h').take h.length=h:=List.take_left' rfl;obtain⟨x,e1,e2⟩:=vW (n:=h.length) (h:=h++h') b (by simp) (by rw[e];exact a);rw[e1,e2,e]
def XO(g:bJ n K T)(c:∀s∈S,s.wf (K++T)/\s.dp<=q)(e:S.length<=100)(r:q<=14){m:Nat}{h:AH}(l:Gu h=k9)(t:q+55<=m):∃a,Gc a=k9/\ic n K T S q 17 0 (2^bN n K T-1) a/\call prog (m+1) "found" [.v (aO K T S),.i n] h=.ok (.v a) h:=by
 obtain⟨k,rfl⟩:=nk m 5 (by omega);have e1:=Jk k g h;have e2:=N8 (k+4) g c e (by omega) r h;have b:Se n K T S h.length (h.length+1) (h++[.obj "Search" (eL n K T S (h.length+1)),.obj "Cases" (bH n K T S)]):=⟨by simp,by simp⟩;obtain⟨a,f,A,i⟩:=HK g c e (m:=k+4) b (by omega);refine⟨a,f,A,?_⟩;rw[Ga (d:=zG) rfl _ _ _ rfl];show Gy _ (execs _ _ [sv (aO K T S),si n] h)=_;simp only[zG];rw[za (τ1:=[sv (aO K T S),si n]) (h1:=h) (by simp![af,xj,ai,show List.lookup "MOST_BITS" prog.con=some (.int 16)from rfl,e1])];have mk:eval (k8 (k+5)) (.make "Search" "Search.__init__" (.b .v0 .v1)) [sv (aO K T S),si n] h=.ok (.r h.length) (h++[.obj "Search" (eL n K T S (h.length+1)),.obj "Cases" (bH n K T S)]):=by simp![e2,ai]
 have o:(0:Int)<=(S.length:Int)/\(S.length:Int)<=1000:=by omega
 have j:Gd (k8 (k+5)) (.a (.b9 (.bi .len (.a (.ix .v0 (.int 1)))))) [sv (aO K T S),si n] (h++[.obj "Search" (eL n K T S (h.length+1)),.obj "Cases" (bH n K T S)])=.ok [.own (aw (List.range S.length))] (h++[.obj "Search" (eL n K T S (h.length+1)),.obj "Cases" (bH n K T S)]):=by simp![af,Zh,ai,Qo,Aa,o,and_self,if_true,Ad]
 generalize E.make _ _ _=Z at mk⊢;have p:eval (k8 (k+5)) (.bQ Z "Search" "told_of_sayings" "Search.told_of_sayings" (.a (.b9 (.bi .len (.a (.ix .v0 (.int 1))))))) [sv (aO K T S),si n] h=.ok (.v a) (h++[.obj "Search" (eL n K T S (h.length+1)),.obj "Cases" (bH n K T S)]):=by rw[eval,mk,R.ae];simp only[Wm b.se];rw[if_pos ⟨trivial,rfl⟩,j,R.ae];exact i
 rw[xa (Qb rfl p),Zw f l]
end
section
variable{n q:Nat}{K T:List Tx}{S:List Sy}
def tO(m:Nat){p:D}(g:bJ n K T)(P:GP n K T S q 17 p 0 (2^bN n K T-1))(l:q+29<=m){h:AH}(b:Gu h=true):call prog (m+1) "holds" [.v (aO K T S),.i n,.v p] h=.ok (.b true) h:=by
 obtain⟨k,rfl⟩:=nk m 5 (by omega);have e1:=Jk k g h;have e2:=oB (k+1) (S:=S) g h;have C:(h++[Cell.obj "Cases" (bH n K T S)])[h.length]?=some (.obj "Cases" (bH n K T S)):=by simp
 have c:=P.sh (k+5) h.length (h++[Cell.obj "Cases" (bH n K T S)]) (by omega) C;rw[Ga (d:=js) rfl _ _ _ rfl];show Gy _ (execs _ _ [sv (aO K T S),si n,sv p,u0] h)=_;simp only[js];have j:prog.con.lookup "MOST_BITS"=some (.int 16):=rfl;rw[za (τ1:=[sv (aO K T S),si n,sv p,u0]) (h1:=h) (by simp![af,xj,j,ai,e1])];rw[za (τ1:=[sv (aO K T S),si n,sv p,y0 (.r h.length)]) (h1:=h++[Cell.obj "Cases" (bH n K T S)]) (by simp![e2,ai])];have a:=Zg (F:=(k8 (k+5))) (τ:=[sv (aO K T S),si n,sv p,y0 (.r h.length)]) (i:=3) (f:="whole") C rfl rfl;have e:=xv (F:=(k8 (k+5))) (τ:=[sv (aO K T S),si n,sv p,y0 (.r h.length)]) (i:=3) (m:="is_shown") (q:="Cases.is_shown") (es:=.cons .v2 (.cons (.int 0) (.cons (.aA .v3 "Cases" "whole") .nil))) (ws:=[.v p,.i (0),.i (2^bN n K T-1)]) C rfl rfl (by generalize E.aA _ _ _=X at a⊢;simp![a];rfl);rw[xa (w:=.b k9) (h1:=h++[Cell.obj "Cases" (bH n K T S)]) (Qb rfl (e.trans c)),Zw rfl b]
end
def bJ.le (g:bJ n K T)(h:m<=n):bJ m K T:=⟨Ab6 h g.n4,g.k4,g.t4,Ab6 (Nat.add_le_add (Nat.mul_le_mul_left _ h) (Nat.mul_le_mul_left _ (Ah3 h h))) g.b6,g.nd,g.l8⟩
def EE(h:Gc (.tup [.str s,d])=k9):Gc d=true:=by simpa using h
def F1(b:bnd d τ=y0 τ1)(a:body τ1 h=.ret w h2):Gr bnd body (d::ds) τ h=.ret w h2:=by rw[ZK,b];simp only[a]
section
variable{K T:List Tx}{S:List Sy}{m q:Nat}{H:AH}
def iO(K T:List Tx)(S:List Sy)(q n:Nat)(ds:List D):Prop:=ds.length=n/\∀s,s<n->∃p,ds[s]?=y0 p/\GP s K T S q 17 p 0 (2^bN s K T-1)
def iO.snoc {n:Nat}{ds:List D}{p:D}(h:iO K T S q n ds)(P:GP n K T S q 17 p 0 (2^bN n K T-1)):iO K T S q (n+1) (ds++[p]):=⟨by rw[Ab,h.1];rfl,λs d=>by
 by_cases e:s<n
 .obtain⟨a,b,c⟩:=h.2 s e;exact⟨a,by rw[Ad4 (by rw[h.1];exact e),b],c⟩
 .obtain rfl:s=n:=by omega
  exact⟨p,by rw[Ad3 (by rw[h.1];exact Aa9 _),h.1,An3];rfl,P⟩⟩
def oY(K T:List Tx)(S:List Sy)(m s c:Nat):Prop:=s<=m/\c<2^bN s K T/\∀z∈S,Td (wo s K T c) (wo s K T c) z (y0 k9)
abbrev gz(K T:List Tx)(S:List Sy)(m r:Nat)(a x4 x5:Option W):Sl:=[sv (aO K T S),si m,y0 (.r r),a,x4,x5]
def Bz(g:bJ m K T){s:Nat}(b:s<=m)(e:∀z∈S,z.wf (K++T)/\z.dp<=q)(l:S.length<=100)(u:q<=14)(n:Gu H=k9){f:Nat}(v:q+56<=f){ds:List D}(w:ds.length<=1000){x4 x5:Option W}:
 (∃c,oY K T S m s c/\execs (k8 f) ze (gz K T S m H.length (si s) x4 x5) (H++[.lst ds])=.ret (.t [(wo s K T c).ay,.ref H.length]) (H++[.lst ds]))\/∃p j M,GP s K T S q 17 p 0 (2^bN s K T-1)/\execs (k8 f) ze (gz K T S m H.length (si s) x4 x5) (H++[.lst ds])=.next (gz K T S m H.length (si s) j M) (H++[.lst (ds++[p])]):=by
 obtain⟨f,rfl⟩:=nk f 1 (by omega);obtain⟨a,o,t,e1⟩:=XO (h:=H++[.lst ds]) (m:=f) (g.le b) e l u (Mf n rfl) (by omega);unfold ze;rcases t with⟨c,_,_,d,rfl,r⟩|⟨p,rfl,P⟩
 .refine .inl ⟨c,⟨b,d,r⟩,?_⟩;refine(za (by simp![ai,e1];rfl)).trans ?_;exact zi (by simp![zd,ai,show(qg==fO)=k9 from rfl]) (Qb rfl (by simp![ai]))
 .refine .inr ⟨p,y0 (.s jb),sv p,P,?_⟩;refine(za (by simp![ai,e1];rfl)).trans ?_;rw[Za (by simp![zd,ai,show(jb==fO)=y9 from rfl])];have L:GW (H++[.lst ds]) (y0 (.r H.length))=y0 (H.length,ds):=by simp[GW]
  have k:ds.length<bp/\Gc p=true:=⟨by rw[Gg];omega,EE o⟩;have i:(H++[Cell.lst ds]).set H.length (.lst (ds++[p]))=H++[.lst (ds++[p])]:=by rw[List.set_append_right _ _ (Aa9 _),An3];rfl
  rw[za (τ1:=gz K T S m H.length (si s) (y0 (.s jb)) (sv p)) (h1:=H++[.lst (ds++[p])]) (by simp![L,ai,W.mr,k,and_self,if_true,i]),execs]
theorem Ar(g:bJ m K T)(d:∀z∈S,z.wf (K++T)/\z.dp<=q)(l:S.length<=100)(o:q<=14)(n:Gu H=k9){f:Nat}(b:q+56<=f):∀(k j:Nat)(ds:List D)(a x4 x5:Option W),j+k=m+1->iO K T S q j ds→
 (∃s c es,oY K T S m s c/\iO K T S q s es/\Gr (Gq [3] k9) (λτ h=>execs (k8 f) ze τ h) ((Ao j k).map λi=>D.n i) (gz K T S m H.length a x4 x5) (H++[.lst ds])=.ret (.t [(wo s K T c).ay,.ref H.length]) (H++[.lst es]))\/∃es O L M,iO K T S q (m+1) es/\Gr (Gq [3] k9) (λτ h=>execs (k8 f) ze τ h) ((Ao j k).map λi=>D.n i) (gz K T S m H.length a x4 x5) (H++[.lst ds])=.next (gz K T S m H.length O L M) (H++[.lst es])
|0,j,ds,a,x4,x5,e,P=>.inr ⟨ds,a,x4,x5,by rw[show m+1=j by omega];exact P,rfl⟩
|k+1,j,ds,a,x4,x5,e,P=>by
  have n4:=g.n4;rw[Ap6,Ab4];rcases Bz g (s:=j) (by omega) d l o n b (ds:=ds) (by rw[P.1];omega) (x4:=x4) (x5:=x5)with⟨c,w,e1⟩|⟨p,L,M,G,e1⟩
  .exact .inl ⟨j,c,ds,w,P,F1 (τ1:=gz K T S m H.length (si j) x4 x5) rfl e1⟩
  .rw[wc (τ1:=gz K T S m H.length (si j) x4 x5) rfl e1];exact Ar g d l o n b k (j+1) (ds++[p]) (si j) L M (by omega) (P.snoc G)
def CP(g:bJ m K T)(n:∀z∈S,z.wf (K++T)/\z.dp<=q)(p:S.length<=100)(v:q<=14)(r:Gu H=k9){f:Nat}(l:q+56<=f):(∃s c es,oY K T S m s c/\iO K T S q s es/\call prog (f+1) "smallest" [.v (aO K T S),.i m] H=.ok (.t [(wo s K T c).ay,.ref H.length]) (H++[.lst es]))\/∃es,iO K T S q (m+1) es/\call prog (f+1) "smallest" [.v (aO K T S),.i m] H=.exc (.err "NoWorld" "papers" (.ref H.length)) (H++[.lst es]):=by
 have n4:=g.n4;obtain⟨k,rfl⟩:=nk f 5 (by omega);have e1:=Jk k g H;have u:Gs (k8 (k+5)) (.aC (.bin .add .v1 (.int 1))) (gz K T S m H.length u0 u0 u0) (H++[.lst []])=.ok ((Ao 0 (m+1)).map λi=>D.n i) (H++[.lst []]):=by show Gj _ _ _ _=_;rw[←List.range_eq_range'];exact xn (m:=m+1) (by simp![jg,ai];rfl) (by omega)
 have j:∀{X},(∀o,Gr (Gq [3] k9) (fun b h=>execs (k8 (k+5)) ze b h) ((List.range' 0 (m+1)).map fun i=>D.n i) (gz K T S m H.length u0 u0 u0) (H++[.lst []])=o->Gy H.length (o.seq fun b h=>execs (k8 (k+5)) (.a (.dr "NoWorld" "papers" .v2)) b h)=X)->call prog (k+5+1) "smallest" [.v (aO K T S),.i m] H=X:=fun{X} h=>by rw[Ga (d:=zm) rfl _ _ _ rfl];simp only[zm];refine fx (by simp![af,xj,ai,show List.lookup "MOST_BITS" prog.con=some (.int 16)from rfl,e1];rfl) ?_;refine fx (by simp![ai,Gf,if_true];rfl) ?_;rw[execs,exec];refine(congrArg (λx=>Gy _ (O.seq (R.cM x _) _)) u).trans ?_;exact h _ rfl
 rcases Ar g n p v r l (m+1) 0 [] u0 u0 u0 (by omega) ⟨rfl,λs t=>absurd t (Ag2 _)⟩with⟨s,c,es,w,P,e⟩|⟨es,B,y,A,P,e⟩
 .refine .inl ⟨s,c,es,w,P,j λo a=>?_⟩;rw[←a,e,O.di];simp[Gy,fin,W.keep]
 .refine .inr ⟨es,P,j λo a=>?_⟩;rw[←a,e,O.bf];simp only[execs,exec,Gx,eval,Gi,Gm,R.ae,R.au,W.mr,R.aB,O.eZ,Gz]
end
def Xq{F:Fx}{s:S}{a:Ss}{τ:Sl}{h h1:AH}{d:D}(e:exec F s τ h=.exc d h1):execs F (.cons s a) τ h=.exc d h1:=by rw[execs,e];rfl
def nX{F:Fx}{a:E}{τ:Sl}{h h1:AH}{d:D}(e:eval F a τ h=.exc d h1):exec F (.ex a) τ h=.exc d h1:=by rw[exec,e];rfl
def K0(k:Nat)(d:D)(h:AH)(b:Gc d=k9)(c:Zi d 5=y9):call prog (k+4) "check_size" [.v d] h=.exc (.exc "NoSize" []) h:=by rw[Ga (d:=Qk) rfl _ _ _ rfl];have a:=sJ k d h b;rw[c]at a;simp only[Qk];rw[Xq ((XH (h1:=h) (by simp![a,An9])).trans (Xq (by simp![];rfl))),Gz]
inductive Er:D->Nat->Nat->Prop
|size:Er (.exc "NoSize" []) 0 0
|gm:Er (.exc "Crowded" []) 5 0
|big (b:Nat):Er (.err "TooBig" "bits" (.n b)) 6 b
|none {r:Nat}:Er (.err "NoWorld" "papers" (.ref r)) 7 0
def Rz(h:AH)(r:R W):Option (Nat×Nat)->Prop
|none=>∃w h',r=.ok w (h++h')
|some x=>∃e h',Er e x.1 x.2/\r=.exc e (h++h')
noncomputable def cy(K T:List Tx)(d:D):Option (Nat×Nat):=match d with
|.int i=>if 0<=i/\i<5 then(if 16<bN i.toNat K T then y0 (6,bN i.toNat K T)else u0)else y0 (0,0)
|_=>y0 (0,0)
section
variable{K T:List Tx}
def md{d:D}(w:WQ K T)(h:cy K T d=u0):∃n,d=.n n/\bJ n K T:=by
 unfold cy at h;split at h
 .split at h
  .rename_i i c;split at h
   .cases h
   .rename_i a;refine⟨i.toNat,by rw[D.n,Ai1 c.1],by omega,w.k4,w.t4,?_,w.nd,w.l8⟩;show bN i.toNat K T<=16;omega
  .cases h
 .cases h
def Fb{d:D}(h:fV d):Gc d=true:=by
 rcases h with⟨_,rfl⟩|⟨_,rfl⟩|rfl|rfl<;>rfl
def JG(k:Nat){d:D}(g:fV d)(m:K.length<=4)(o:T.length<=4){x:Nat×Nat}(a:cy K T d=y0 x)(h:AH):∃e,Er e x.1 x.2/\call prog (k+5) "check_bits" [.v (wD K T),.v d,.v (.int 16)] h=.exc e h:=by
 rw[Ga (d:=a8) rfl _ _ _ rfl];simp only[a8];have j:Zi d 5=y9->x=(0,0)->∃e,Er e x.1 x.2/\Gy h.length (execs (k8 (k+4)) a8.body [sv (wD K T),sv d,sv (.int 16),u0] h)=.exc e h:=λb a=>by subst a;refine⟨_,.size,?_⟩;simp only[a8];have e:=K0 k d h (Fb g) b;rw[Xq (nX (by simp![e];rfl)),Gz]
 unfold cy at a;split at a
 .rename_i i;split at a
  .rename_i c;split at a
   .rename_i f;cases a;obtain⟨n,rfl⟩:∃n:Nat,i=n:=⟨i.toNat,by omega⟩;rw[Ad]at f⊢;have l:=Z4 k (.n n) h rfl (by simp[Zi];omega);have b:=oV (k+2) n (K.map .str) (T.map .str) h (by omega) (by rw[Aa];exact m) (by rw[Aa];exact o);rw[Aa,Aa,q9]at b;refine⟨_,.big _,?_⟩;refine fx (by simp![l];rfl) ?_;refine fx (by simp![b];rfl) ?_;have z:Gw .gt (.i (bN n K T)) (.v (.int 16)) h=y0 (u9 (16<bN n K T)):=ky 16 (bN n K T) h;rw[decide_eq_true f]at z;rw[Xq ((XH (h1:=h) (by simp![z])).trans (Xq (by simp![];rfl))),Gz]
   .cases a
  .rename_i c;refine j ?_ (Ad5.inj a).symm;show(u9 (0<=i)&&u9 (i<5))=y9;rw[An1,decide_eq_false_iff_not,decide_eq_false_iff_not];omega
 .rename_i p;refine j ?_ (Ad5.inj a).symm;rcases g with⟨i,rfl⟩|⟨_,rfl⟩|rfl|rfl
  .exact absurd rfl (p i)
  all_goals rfl
def DQ(k:Nat){S:D}{d:D}(b:fV d)(f:K.length<=4)(a:T.length<=4){x:Nat×Nat}(c:cy K T d=y0 x)(h:AH):∃e,Er e x.1 x.2/\call prog (k+6) "found" [.t [wD K T,S],.v d] h=.exc e h:=by obtain⟨e,E,e1⟩:=JG k b f a c h;refine⟨e,E,?_⟩;rw[Ga (d:=zG) rfl _ _ _ rfl];simp only[zG];rw[Xq (nX (by simp![af,xj,ai,show List.lookup "MOST_BITS" prog.con=some (.int 16)from rfl,e1];rfl)),Gz]
def Bu(k:Nat){S:D}{d p:D}(b:fV d)(f:K.length<=4)(a:T.length<=4){x:Nat×Nat}(c:cy K T d=y0 x)(h:AH):∃e,Er e x.1 x.2/\call prog (k+6) "holds" [.t [wD K T,S],.v d,.v p] h=.exc e h:=by obtain⟨e,E,e1⟩:=JG k b f a c h;refine⟨e,E,?_⟩;rw[Ga (d:=js) rfl _ _ _ rfl];simp only[js];rw[Xq (nX (by simp![af,xj,ai,show List.lookup "MOST_BITS" prog.con=some (.int 16)from rfl,e1];rfl)),Gz]
def Bp(k:Nat){S:D}{d:D}(b:fV d)(f:K.length<=4)(a:T.length<=4){x:Nat×Nat}(c:cy K T d=y0 x)(h:AH):∃e,Er e x.1 x.2/\call prog (k+6) "smallest" [.t [wD K T,S],.v d] h=.exc e h:=by obtain⟨e,E,e1⟩:=JG k b f a c h;refine⟨e,E,?_⟩;rw[Ga (d:=zm) rfl _ _ _ rfl];simp only[zm];rw[Xq (nX (by simp![af,xj,ai,show List.lookup "MOST_BITS" prog.con=some (.int 16)from rfl,e1];rfl)),Gz]
def NC(k:Nat){w:D}{l:List D}(e:l.length<=12)(a:Gc w=k9)(b:Gf l=k9)(h:AH):call prog (k+1) "theory_of" [.v w,.l l] h=.ok (.t [w,.tup l]) h:=by
 rw[Ga (d:=jf) rfl _ _ _ rfl];show Gy _ (execs _ _ [sv w,y0 (.l l)] h)=_;simp only[jf];have c:Gw .gt (.i l.length) (.v (.int 12)) h=y0 false:=by show y0 (u9 ((12:Int)<(l.length:Int)))=_;rw[decide_eq_false (by omega)]
 rw[Za (by simp![QE,ai,show List.lookup "MOST_SAYINGS" prog.con=some (.int 12)from rfl,c])];rw[xa (w:=.t [w,.tup l]) (h1:=h) (Qb rfl (by simp![xW,ai])),Gb _ _ _ (by simp[a,b])]
end
section
variable{n:Nat}{K T:List Tx}
def tN{l:List Nat}{x:Nat}(h:x∈l)(p:0<x):0<l.sum:=by
 induction l with
|nil=>exact absurd h Af5
|cons y l a=>
  rw[Aj2];rcases Ab7.mp h with rfl|h
  .omega
  .have:=a h;omega
def NS{v a b:Nat}(d:a<n)(c:b<n)(h:v.testBit (a*n+b)=k9):0<(fL n v).sum:=by refine tN (Ao0 (Ac1.mpr d)) ?_;refine tN (Ao0 (Ac1.mpr c)) ?_;unfold tb;rw[h];decide
def NL{w w':Wo}{e:Ex}{o:Option Bool}(h:Td w w' (.fact (.bL e)) o){a b:Nat}(d:a<w.n)(c:b<w.n)(q:bt w w' y9 e a b=k9):o=y0 true:=by obtain⟨v,u,B,rfl⟩:=h;have p:=NS d c ((B.lo.bit a b d c).mpr q);have f:Zm w.n v Jb=[(fL w.n v).sum]:=if_pos (by decide);rw[JL,if_pos (by decide),f];simp[QU,p];omega
def Q3{w w':Wo}{e:Ex}{v u:Nat}(h:JL Jb 1 (Zm w.n v Jb) (Zm w'.n u Jb)=y0 k9):0<(fL w.n v).sum:=by
 have a:Zm w.n v Jb=[(fL w.n v).sum]:=if_pos (by decide);rw[JL,if_pos (by decide),a]at h;unfold QU at h;split at h
 .rename_i c;simp at c;exact c
 .split at h<;>cases h
def CV{w:Wo}{e:Ex}(h1:Td w w (.fact (.bL e)) (y0 k9))(h:Td w w (.fact (.ak e)) (y0 k9)):False:=by
 obtain⟨v,u,B,d⟩:=h1;obtain⟨i,j,f,a⟩:=h;have p:=Q3 (w':=w) (e:=e) d.symm;obtain⟨rfl,rfl⟩:=B.uniq f;have b:=B.eq;subst b;have g:Zm w.n v Zj=[(fL w.n v).sum]:=if_pos (by decide);rw[JL,if_neg (by decide),g]at a;unfold QU at a;split at a
 .rename_i c;simp at c;omega
 .split at a<;>cases a
def uK{w:Wo}{e:Ex}(a:w.n=0)(h:Td w w (.fact (.bL e)) (y0 k9)):False:=by obtain⟨v,u,B,q⟩:=h;have p:=Q3 (w':=w) (e:=e) q.symm;rw[a]at p;simp[fL]at p
def sf{l:List Nat}(p:0<l.sum):∃x∈l,0<x:=by
 induction l with
|nil=>simp at p
|cons y l a=>
  rw[Aj2]at p;by_cases h:0<y
  .exact⟨y,Aa4,h⟩
  .obtain⟨x,b,q⟩:=a (by omega);exact⟨x,Aa3 _ b,q⟩
def Ed{w:Wo}{t:Tx}(h:Td w w (.fact (.bL (.name t))) (y0 k9)):(if t∈w.T then w.ts.getD (de t w.T) 0 else w.ks.getD (de t w.K) 0)≠0:=by
 obtain⟨v,u,B,q⟩:=h;obtain⟨x,k,i⟩:=sf (Q3 (w':=w) (e:=.name t) q.symm);obtain⟨a,m,rfl⟩:=Ac0.mp k;obtain⟨y,j,f⟩:=sf i;obtain⟨b,l,rfl⟩:=Ac0.mp j;have g:v.testBit (a*w.n+b)=true:=by
  unfold tb at f;cases q:v.testBit (a*w.n+b)with
|true=>rfl
|false=>rw[q]at f;simp at f
 have d:bz w t a b=true:=(B.lo.bit a b (Ac1.mp m) (Ac1.mp l)).mp g;unfold bz at d;split at d
 .rename_i c;rw[if_pos c];intro z;rw[z,Ag5]at d;cases d
 .rename_i c;rw[if_neg c];intro z;rw[z,Ag5,Ae3]at d;cases d
def FV(g:bJ n K T)(a:0<n){t:Tx}(c:t∈K++T):bz (wo n K T (2^bN n K T-1)) t 0 0=true:=by obtain⟨i,b⟩:=vf (K:=K) (T:=T) (t:=t) a a ((Ad1.mp c).symm.imp id λh=>⟨h,rfl⟩);rw[(WS g b _).1,Al4,decide_eq_true_eq];have:=(Aa8.mp b).1;rw[jz]at this;exact this
def Sm(K T:List Tx)(S:List Sy):Prop:=∀s∈S,∃t∈K++T,s=.fact (.bL (.name t))
def uF(g:bJ n K T)(c:0<n){S:List Sy}(m:Sm K T S){q d:Nat}{p:D}(P:GP n K T S q d p 0 (2^bN n K T-1)):False:=by
 obtain⟨s,i,h⟩:=P.wk (2^bN n K T-1) (Wp _) λ_ z=>z;obtain⟨t,k,rfl⟩:=m s i;obtain⟨j,l,r⟩:=Ai9 i;have u:=Af4 (bN n K T);have e:S[j]?=y0 (Sy.fact (.bL (.name t))):=by rw[Ab0 l,r]
 obtain⟨o,f,-⟩:=Qv 20 j (2^bN n K T-1) (2^bN n K T-1) (ro:=0) (h:=[Cell.obj "Cases" (bH n K T S)]) g rfl (by omega) (by omega) e (by simp[Sy.dp,Fc.dp,Ex.dp]) (show Ex.wf (K++T) (.name t)from k);have e1:=NL f (a:=0) (b:=0) c c (FV g c k);have e2:=h o f;rw[e1]at e2;cases e2
end
def dW(j:Nat):List D:=(Ab1 16).map λi=>.bl (u9 (i=j)||u9 (i=15))
noncomputable def mu:List String:=["NoSize","NoPair","NoName","NoCode","NoText","Crowded","TooBig","NoWorld","NoRenaming","NoNumber","Broken","Kept","Unlike","NoRow","NoStand","ValueError"]
def BG(k)(f:String->Bool)(H:∀c,bE prog.cl (.v e) [c]=y0 (f c))(h):call prog (k+1) "_law_classes" [.v e] h=.ok (.l (mu.map fun c=>.bl (f c))) h:=by
 rw[Ga rfl _ _ _ rfl];simp only[wu];have g:∀a b c d x,eval (k8 k) (.lst (.d (.bE .v0 k9 [a]) (.bE .v0 k9 [b]) (.bE .v0 k9 [c]) (.bE .v0 k9 [d]))) [sv e,x] h=.ok (.own [.bl (f a),.bl (f b),.bl (f c),.bl (f d)]) h:=λa b c d x=>by simp![H,ai]
 have add:∀l a b c d,l.length<=90->exec (k8 k) (.ag 1 (.bin .add .v1 (.lst (.d (.bE .v0 k9 [a]) (.bE .v0 k9 [b]) (.bE .v0 k9 [c]) (.bE .v0 k9 [d]))))) [sv e,y0 (.l l)] h=.next [sv e,y0 (.l (l++[.bl (f a),.bl (f b),.bl (f c),.bl (f d)]))] h:=λl a b c d i=>by have r:=g a b c d (y0 (.l l));generalize E.lst _=X at r⊢;simp![r,ue l [.bl (f a),.bl (f b),.bl (f c),.bl (f d)] h (by simp;omega)]
 refine fx (by rw[exec];exact(congrArg (λr=>R.cM r _) (g _ _ _ _ _)).trans rfl) ?_;refine fx (add _ _ _ _ _ (by simp)) ?_;refine fx (add _ _ _ _ _ (by simp)) ?_;refine fx (add _ _ _ _ _ (by simp)) ?_;rw[xa rfl];exact Gb _ _ _ rfl
def zR(k:Nat){e:D}{j b:Nat}(E:Er e j b)(h:AH):call prog (k+1) "_law_classes" [.v e] h=.ok (.l (dW j)) h:=by
 have a:∀c:String,mu.map (fun x=>D.bl ([x].any (GO prog.cl 8 c).contains))=dW j->(∀x,bE prog.cl (.v e) [x]=y0 ([x].any (GO prog.cl 8 c).contains))->call prog (k+1) "_law_classes" [.v e] h=.ok (.l (dW j)) h:=fun c d f=>by rw[←d];exact BG k _ f h
 cases E with
|size=>exact a "NoSize" (by rfl) fun x=>rfl
|gm=>exact a "Crowded" (by rfl) fun x=>rfl
|big=>exact a "TooBig" (by rfl) fun x=>rfl
|none=>exact a "NoWorld" (by rfl) fun x=>rfl
def j5(k j)(h):call prog (k+1) "_law_class" [.i j] h=.ok (.own (dW j)) h:=by rw[Ga rfl _ _ _ rfl];simp only[jD];rw[xa (Ww rfl ?_),Gv _ _ _ rfl];refine zB (λi=>.bl (u9 (i=j)||u9 (i=15))) rfl (by decide) λi c=>⟨.b (u9 (i=j)||u9 (i=15)),?_,rfl⟩;have a:=Wh i j h;have b:=Wh i 15 h;have b:Gw .eq (.i i) (.v (.int 15)) h=y0 (u9 (i=15)):=b;exact nJ (by simp![a,ai]) (by simp![b,ai])
def cv:Option (Nat×Nat)->D
|none=>.ak
|some x=>.tup [.lst (dW x.1),.n x.2]
abbrev dG(a b c:W)(x y:Option W):Sl:=[y0 a,y0 b,y0 c,x,y]
def uk:Ss:=match aT.body with
|.cons _ (.cons (.d9 _ _ _ a) _)=>a
|_=>.nil
def LS(k:Nat){a b c:W}{x:Option W}{e:D}{j w:Nat}(E:Er e j w)(h:AH):execs (k8 (k+1)) uk (dG a b c x (sv e)) h=.next (dG a b c (sv (cv (y0 (j,w)))) (sv e)) h:=by
 have e1:=zR k E h;have f:∀(x:Option W)(y:D)(q:M.E),eval (k8 (k+1)) q (dG a b c x (sv e)) h=.ok (.v y) h->exec (k8 (k+1)) (.ag 3 (.tup (.cons (.call "_law_classes" (.a .v4)) (.cons q .nil)))) (dG a b c x (sv e)) h=.next (dG a b c (sv (.tup [.lst (dW j),y])) (sv e)) h:=fun x y q m=>by simp![e1,m]
 have g:∀(x:Option W)(t:Bool),bE prog.cl (.v e) ["TooBig"]=some t->Gp (k8 (k+1)) (.bE .v4 true ["TooBig"]) (dG a b c x (sv e)) h=.ok t h:=fun x t n=>by simp![n,ai]
 show execs _ (.b (.ag 3 (.tup (.b (.call "_law_classes" (.a .v4)) (.int 0)))) (.iff (.bE .v4 true ["TooBig"]) (.a (.ag 3 (.tup (.b (.call "_law_classes" (.a .v4)) (.xf 4 "bits"))))) .nil)) _ h=_;rw[za (f _ (.int 0) (.int 0) rfl)];have d:bE prog.cl (.v e) ["TooBig"]=some false->w=0->execs (k8 (k+1)) (.a (.iff (.bE .v4 true ["TooBig"]) (.a (.ag 3 (.tup (.b (.call "_law_classes" (.a .v4)) (.xf 4 "bits"))))) .nil)) (dG a b c (sv (.tup [.lst (dW j),.int 0])) (sv e)) h=.next (dG a b c (sv (cv (some (j,w)))) (sv e)) h:=fun l i=>by rw[Za (g _ _ l),execs,i];rfl
 cases E with
|size=>exact d rfl rfl
|gm=>exact d rfl rfl
|big w=>rw[za ((XH (h1:=h) (g _ k9 rfl)).trans ((za (f _ (.n w) (.xf 4 "bits") rfl)).trans rfl)),execs];rfl
|none=>exact d rfl rfl
def Dg{e:D}{j w:Nat}(E:Er e j w):bE prog.cl (.v e) ["WorldError"]=some true:=by cases E<;>rfl
def rj(e:D){h h':AH}(b:Gu h=k9):∃h2,Km e h.length (h++h')=h++h2:=by
 have a:(h++h').take h.length=h:=List.take_left' rfl;unfold Km;rw[a];split
 .exact⟨[],(Ac3 h).symm⟩
 .exact⟨h',rfl⟩
def o4(k:Nat){a b c:W}{f:String}{es:Es}{ws:List W}{h:AH}{x:Option (Nat×Nat)}{r:R W}(j:Gu h=k9)(l:Gd (k8 (k+1)) es (dG a b c (sv .ak) u0) h=.ok ws h)(i:call prog (k+1) f (ws.map W.arg) h=r)(z:Rz h r x):
 ∃h',KA prog.cl "WorldError" 4 (fun τ h=>execs (k8 (k+1)) uk τ h) (dG a b c (sv .ak) none) (i8 (call prog (k+1)) none f (dG a b c (sv .ak) none) (Gd (k8 (k+1)) es (dG a b c (sv .ak) none) h))=.next (dG a b c (sv (cv x)) none) (h++h'):=by
 rw[l];unfold i8;dsimp only;rw[i];cases x with
|none=>obtain⟨w,h',rfl⟩:=z;exact⟨h',rfl⟩
|some x=>obtain⟨e,h',E,rfl⟩:=z;obtain⟨d,g⟩:=rj e (h':=h') j;refine⟨d,?_⟩;dsimp only;rw[g,KA,KG,Dg E];dsimp only;rw[show GC (dG a b c (sv .ak) u0) 4 (.v e)=dG a b c (sv .ak) (sv e)from rfl,LS k E (h++d)];rfl
section
variable{n:Nat}{K T:List Tx}{S:List Sy}
def Hl(m:Nat){ro j b a:Nat}{h:AH}(C:h[ro]?=some (.obj "Cases" (bH n K T S)))(k:S.length<=j):call prog (m+3) "Cases.is_shown" [.r ro,.t [.str Xh,.n j],.i b,.i a] h=.ok (.b false) h:=by rw[Ga (d:=zc) rfl _ _ _ rfl];simp only[zc];have c:call prog (m+2) "is_tuple_of" [.t [.str Xh,.n j],.s iC,.v (.int 2)] h=.ok (.b true) h:=xq (m+1) Xh 2 h;rw[xa (w:=.b y9) (h1:=h) ((XH (h1:=h) (by simp![c])).trans ?_),Gb _ _ _ rfl];refine(za (by simp![af,Zh];rfl)).trans ?_;have g:=Qp m (.n j) S.length h rfl;rw[show Zi (.n j) S.length=y9 by rw[Zi,An1,decide_eq_false_iff_not,decide_eq_false_iff_not];omega]at g;have e:=Zg (F:=(k8 (m+2))) (τ:=iT ro (.tup [.str Xh,.n j]) b a (si j) u0) (i:=0) (f:="sayings") C rfl rfl;generalize E.aA _ _ _=X at e⊢;exact xa (Qb rfl (by simp![e,Qo,ai,Aa,g]))
def Z6(m j:Nat){q:Nat}(g:bJ n K T)(e:∀s∈S,s.wf (K++T)/\s.dp<=q)(v:q+29<=m){h:AH}(o:Gu h=k9):∃b:Bool,(S.length<=j->b=y9)/\call prog (m+1) "holds" [.v (aO K T S),.i n,.t [.str Xh,.n j]] h=.ok (.b b) h:=by
 obtain⟨k,rfl⟩:=nk m 5 (by omega);have e1:=Jk k g h;have e2:=oB (k+1) (S:=S) g h;have C:(h++[Cell.obj "Cases" (bH n K T S)])[h.length]?=some (.obj "Cases" (bH n K T S)):=by simp
 obtain⟨b,p,l⟩:∃b:Bool,(S.length<=j->b=y9)/\call prog (k+5) "Cases.is_shown" [.r h.length,.t [.str Xh,.n j],.i (0),.i (2^bN n K T-1)] (h++[Cell.obj "Cases" (bH n K T S)])=.ok (.b b) (h++[Cell.obj "Cases" (bH n K T S)]):=by
  by_cases a:S.length<=j
  .exact⟨y9,λ_=>rfl,Hl (k+2) C a⟩
  .have t:=Af4 (bN n K T);obtain⟨b,f,-⟩:=walk g e (Pp.brk (n:=n) (K:=K) (T:=T) (S:=S) (j:=j) (by omega)) 2 (by simp) 0 (2^bN n K T-1) t (by omega);exact⟨b,λz=>absurd z a,f (k+5) h.length _ (by omega) C⟩
 refine⟨b,p,?_⟩;rw[Ga (d:=js) rfl _ _ _ rfl];show Gy _ (execs _ _ [sv (aO K T S),si n,sv (.tup [.str Xh,.n j]),u0] h)=_;simp only[js];have r:prog.con.lookup "MOST_BITS"=some (.int 16):=rfl;rw[za (τ1:=[sv (aO K T S),si n,sv (.tup [.str Xh,.n j]),u0]) (h1:=h) (by simp![af,xj,r,ai,e1])];rw[za (τ1:=[sv (aO K T S),si n,sv (.tup [.str Xh,.n j]),y0 (.r h.length)]) (h1:=h++[Cell.obj "Cases" (bH n K T S)]) (by simp![e2,ai])];have c:=Zg (F:=(k8 (k+5))) (τ:=[sv (aO K T S),si n,sv (.tup [.str Xh,.n j]),y0 (.r h.length)]) (i:=3) (f:="whole") C rfl rfl;have u:=xv (F:=(k8 (k+5))) (τ:=[sv (aO K T S),si n,sv (.tup [.str Xh,.n j]),y0 (.r h.length)]) (i:=3) (m:="is_shown") (q:="Cases.is_shown") (es:=.cons .v2 (.cons (.int 0) (.cons (.aA .v3 "Cases" "whole") .nil))) (ws:=[.t [.str Xh,.n j],.i (0),.i (2^bN n K T-1)]) C rfl rfl (by generalize E.aA _ _ _=X at c⊢;simp![c];rfl);rw[xa (w:=.b b) (h1:=h++[Cell.obj "Cases" (bH n K T S)]) (Qb rfl (u.trans l)),Zw rfl o]
end
abbrev kr(b d:D):Sl:=[sv b,sv d]
def lr:D->Bool
|.int i=>!(u9 (0<=i)&&u9 (i<=4))
|_=>k9
def rr{F:Fx}{b d:D}(c:fV d)(h:AH):Gp F (.or (.not (.dt .v1 .int)) (.or (.dt .v1 .bool) (.not (.chain .le .le (.int 0) .v1 (.int 4))))) (kr b d) h=.ok (lr d) h:=by
 rcases c with⟨i,rfl⟩|⟨_,rfl⟩|rfl|rfl
 .have a:eval F (.chain .le .le (.int 0) .v1 (.int 4)) (kr b (.int i)) h=.ok (.b (u9 (0<=i)&&u9 (i<=4))) h:=by
   by_cases q:(0:Int)<=i
   .simp![QW,ai,q,decide_true,Ae]
   .simp![QW,ai,q,decide_false,Ae2]
  generalize E.chain _ _ _ _ _=X at a⊢;simp![a,ai,sZ];rfl
 .rfl
 .rfl
 .rfl
def AN{K T:List Tx}{d:D}(h:lr d=k9):cy K T d=y0 (0,0):=by
 cases d with
|int i=>
  have h:¬(0<=i/\i<=4):=by intro z;simp[lr,z.1,z.2]at h
  show(if _ then _ else _)=_;rw[if_neg (by omega)]
|_=>rfl
def Lc{d:D}(h:lr d=y9):∃n:Nat,n<=4/\d=.n n:=by
 cases d with
|int i=>
  have h:0<=i/\i<=4:=by simpa[lr]using h
  exact⟨i.toNat,by omega,by rw[D.n,Ai1 h.1]⟩
|_=>cases h
section
variable{n:Nat}{K T:List Tx}{S:List Sy}
def Hw(k:Nat)(i:n<=4)(l:K.length<=4)(e:T.length<=4)(h:AH):call prog (k+1) "_law_bits" [.v (wD K T),.i n] h=.ok (.i (bN n K T)) h:=by
 rw[Ga (d:=zx) rfl _ _ _ rfl];simp only[zx];have a:Gk .mul (K.length:Int) (n:Int)=y0 ((K.length*n:Nat):Int):=Jl _ _ (by omega);have b:Gk .mul (T.length:Int) (n:Int)=y0 ((T.length*n:Nat):Int):=Jl _ _ (by omega);have c:Gk .mul ((T.length*n:Nat):Int) (n:Int)=y0 ((T.length*n*n:Nat):Int):=Jl _ _ (by have:=Ah3 e i;omega);have j:((K.map D.str).length:Int)=(K.length:Int):=by rw[Aa]
 have f:((T.map D.str).length:Int)=(T.length:Int):=by rw[Aa]
 have g:((K.length*n:Nat):Int)+((T.length*n*n:Nat):Int)=((bN n K T:Nat):Int):=by rw[bN,Nat.mul_assoc];rfl
 rw[xa (w:=.i (bN n K T)) (h1:=h) (Qb rfl (by simp![af,xj,Zh,Qo,ai,j,f,a,b,c,jg,g])),Gb _ _ _ rfl]
def LH(k:Nat){d:D}(i:fV d)(p:K.length<=4)(s:T.length<=4)(h:AH):call prog (k+2) "_law_due" [.v (wD K T),.v d] h=.ok (.v (cv (cy K T d))) h:=by
 rw[Ga (d:=xF) rfl _ _ _ rfl];have r:∀(j:Nat)(J:Int),(j:Int)=J->call prog (k+1) "_law_class" [.v (.int J)] h=.ok (.own (dW j)) h:=fun j J e=>by subst e;exact j5 k j h
 have f:∀(q:E)(y j:Nat)(J:Int),(j:Int)=J->eval (k8 (k+1)) q (kr (wD K T) d) h=.ok (.i y) h->exec (k8 (k+1)) (.ret (.tup (.cons (.call "_law_class" (.a (.int J))) (.cons q .nil)))) (kr (wD K T) d) h=.ret (.v (cv (some (j,y)))) h:=fun q y j J l u=>Qb rfl (by simp![r j J l,u];rfl);show Gy h.length (execs (k8 (k+1)) _ (kr (wD K T) d) h)=_;have fin:∀{o:O}{y:D},o=.ret (.v y) h->Gy h.length o=.ok (.v y) h:=λe=>by rw[e,Gb _ _ _ rfl]
 simp only[xF];cases b:lr d with
|true=>rw[AN b];exact fin (zi (by rw[rr i h,b]) (f (.int 0) 0 0 0 rfl rfl))
|false=>
  rw[Za (by rw[rr i h,b])];obtain⟨n,m,rfl⟩:=Lc b;have g:=Hw (K:=K) (T:=T) (n:=n) k m p s h;have t:eval (k8 (k+1)) (.call "_law_bits" (.b .v0 .v1)) (kr (wD K T) (.n n)) h=.ok (.i (bN n K T)) h:=by simp![g]
  have z:Gp (k8 (k+1)) (.cmp .gt (.call "_law_bits" (.b .v0 .v1)) (.int 16)) (kr (wD K T) (.n n)) h=.ok (decide (16<bN n K T)) h:=by have z:Gw .gt (.i (bN n K T)) (.v (.int 16)) h=y0 (u9 (16<bN n K T)):=ky 16 (bN n K T) h;simp![g,z,ai]
  have c:cy K T (.n n)=if 16<bN n K T then y0 (6,bN n K T)else none:=by show(if 0<=(n:Int)/\(n:Int)<5 then(if 16<bN (n:Int).toNat K T then y0 (6,bN (n:Int).toNat K T)else u0)else y0 (0,0))=_;rw[if_pos (by omega),Ad]
  by_cases a:16<bN n K T
  .rw[decide_eq_true a]at z;rw[c,if_pos a];exact fin (zi z (f _ (bN n K T) 6 6 rfl t))
  .rw[decide_eq_false a]at z;rw[c,if_neg a];refine fin ?_;rw[Za z];exact xa rfl
def zD:D->Bool
|.int i=>u9 (i=0)
|_=>y9
def dJ(deed:Nat)(K T:List Tx)(S:List Sy)(d:D):Option (Nat×Nat):=match cy K T d with
|some x=>y0 x
|none=>if deed=2/\zD d=k9/\S.isEmpty=y9 then y0 (7,0)else u0
def oI(n:Nat):zD (.n n)=u9 (n=0):=by show u9 ((n:Int)=0)=_;rw[decide_eq_decide];omega
def Q2(a:Sm K T S):∀s∈S,s.wf (K++T)/\s.dp<=2:=λs b=>by obtain⟨t,c,rfl⟩:=a s b;exact⟨c,by simp[Sy.dp,Fc.dp,Ex.dp]⟩
def LB(k:Nat)(g:bJ n K T)(b:Sm K T S)(l:S.length<=100){h:AH}(m:Gu h=true):Rz h (call prog (k+60) "smallest" [.v (aO K T S),.i n] h) (if n=0/\S≠[]then some (7,0)else none):=by
 rcases CP (q:=2) g (Q2 b) l (by decide) m (f:=k+59) (by omega)with⟨s,c,i,w,P,e⟩|⟨i,P,e⟩
 .rw[if_neg]
  .exact⟨_,_,e⟩
  .rintro⟨rfl,a⟩;obtain⟨x,d⟩:=List.exists_mem_of_ne_nil _ a;obtain⟨t,o,rfl⟩:=b x d;exact uK (by show s=0;have:=w.1;omega) (w.2.2 _ d)
 .obtain⟨p,_,G⟩:=P.2 n (Ae9 n);by_cases c:n=0/\S≠[]
  .rw[if_pos c];exact⟨_,_,.none,e⟩
  .refine absurd c λc=>?_;by_cases j:n=0
   .have a:S=[]:=Classical.not_not.mp λz=>c ⟨j,z⟩;subst a;obtain⟨s,a,_⟩:=G.wk 0 (Wp _) (Wp _);exact absurd a Af5
   .exact uF g (by omega) b G
def rm(k:Nat){deed:Nat}{d:D}(r:fV d)(w:WQ K T)(l:Sm K T S)(v:S.length<=100){h:AH}(i:Gu h=k9)(G:deed<3):call prog (k+61) "_law_caught" [.i deed,.v (aO K T S),.v d] h=.ok (.v (cv (dJ deed K T S d))) h:=by
 rw[Ga (d:=aT) rfl _ _ _ rfl];obtain⟨o,e⟩:∃o,exec (k8 (k+60)) (match aT.body with|.cons _ (.cons s _)=>s|_=>.gi) (dG (.i deed) (.v (aO K T S)) (.v d) (sv .ak) u0) h=.next (dG (.i deed) (.v (aO K T S)) (.v d) (sv (cv (dJ deed K T S d))) u0) (h++o):=by
  have t:∀(j:Nat)(J:Int),(j:Int)=J->Gp (k8 (k+60)) (.cmp .eq .v0 (.int J)) (dG (.i deed) (.v (aO K T S)) (.v d) (sv .ak) u0) h=.ok (u9 (deed=j)) h:=λj J B=>by subst B;simp![Wh deed j h,ai]
  have C:=t 0 0 rfl;have F:=t 1 1 rfl;dsimp only[aT];rw[exec];dsimp only[kN];rw[C];unfold dJ;by_cases u:deed=0
  .rw[decide_eq_true u];refine o4 (k+59) (ws:=[.v (aO K T S),.v d,.t [.str Xh,.n (0)]]) i (by simp![];rfl) rfl ?_;cases f:cy K T d with
|some x=>obtain⟨e,E,e1⟩:=Bu (k+54) (S:=.tup (S.map aF)) (p:=.tup [.str Xh,.n (0)]) r w.k4 w.t4 f h;exact⟨e,[],E,by rw[Ac3];exact e1⟩
|none=>obtain⟨n,rfl,g⟩:=md w f;obtain⟨b,_,e1⟩:=Z6 (q:=2) (S:=S) (k+59) 0 g (Q2 l) (by omega) i;dsimp only;rw[if_neg λz=>by have:=z.1;omega];exact⟨_,[],by rw[Ac3];exact e1⟩
  rw[decide_eq_false u];dsimp only;rw[F];by_cases A:deed=1
  .rw[decide_eq_true A];refine o4 (k+59) (ws:=[.v (aO K T S),.v d]) i (by simp![]) rfl ?_;cases f:cy K T d with
|some x=>obtain⟨e,E,e1⟩:=DQ (k+54) (S:=.tup (S.map aF)) r w.k4 w.t4 f h;exact⟨e,[],E,by rw[Ac3];exact e1⟩
|none=>obtain⟨n,rfl,g⟩:=md w f;obtain⟨a,_,_,e1⟩:=XO (q:=2) (S:=S) g (Q2 l) v (by decide) i (m:=k+59) (by omega);dsimp only;rw[if_neg λz=>by have:=z.1;omega];exact⟨_,[],by rw[Ac3];exact e1⟩
  rw[decide_eq_false A];dsimp only;obtain rfl:deed=2:=by omega
  refine o4 (k+59) (ws:=[.v (aO K T S),.v d]) i (by simp![]) rfl ?_;cases f:cy K T d with
|some x=>obtain⟨e,E,e1⟩:=Bp (k+54) (S:=.tup (S.map aF)) r w.k4 w.t4 f h;exact⟨e,[],E,by rw[Ac3];exact e1⟩
|none=>
   obtain⟨n,rfl,g⟩:=md w f;have z:=LB k g l v i;dsimp only;by_cases c:n=0/\S≠[]
   .rw[if_pos c]at z;rw[if_pos ⟨rfl,by rw[oI,decide_eq_true c.1],by cases S with|nil=>exact absurd rfl c.2|cons _ _=>rfl⟩];exact z
   .rw[if_neg c]at z;rw[if_neg λy=>c ⟨by have:=y.2.1;rw[oI,decide_eq_true_eq]at this;exact this,λe=>by rw[e]at y;exact absurd y.2.2 (by simp)⟩];exact z
 show Gy h.length (execs _ _ (dG (.i deed) (.v (aO K T S)) (.v d) u0 u0) h)=_;rw[show aT.body=.cons (.ag 3 .ak) (.cons (match aT.body with|.cons _ (.cons s _)=>s|_=>.gi) (.a (.ret .v3)))from rfl];rw[za (τ1:=dG (.i deed) (.v (aO K T S)) (.v d) (sv .ak) u0) (h1:=h) rfl,za e];have nr:Gc (cv (dJ deed K T S d))=true:=by
  cases dJ deed K T S d with
|none=>rfl
|some x=>simp[cv,dW,xc]
 rw[xa (w:=.v (cv (dJ deed K T S d))) (h1:=h++o) rfl,Zw nr i]
end
section
variable{n:Nat}{K T:List Tx}{S:List Sy}
def NY(k:Nat){w:D}{l:List D}(a:12<l.length)(h:AH):call prog (k+1) "theory_of" [.v w,.bor l] h=.exc (.exc "Crowded" []) h:=by
 rw[Ga (d:=jf) rfl _ _ _ rfl];simp only[jf];have c:Gw .gt (.i l.length) (.v (.int 12)) h=y0 true:=by show y0 (u9 ((12:Int)<(l.length:Int)))=_;rw[decide_eq_true (by omega)]
 rw[Xq ((XH (h1:=h) (by simp![tm,ai,show List.lookup "MOST_SAYINGS" prog.con=some (.int 12)from rfl,c])).trans (Xq (by simp![];rfl))),Gz]
def vN(k:Nat){w:D}{l:List D}(a:l.length<=12)(h:AH):call prog (k+1) "theory_of" [.v w,.bor l] h=.ok (.t [w,.tup l]) h:=by
 rw[Ga (d:=jf) rfl _ _ _ rfl];show Gy _ (execs _ _ [sv w,y0 (.bor l)] h)=_;simp only[jf];have c:Gw .gt (.i l.length) (.v (.int 12)) h=y0 false:=by show y0 (u9 ((12:Int)<(l.length:Int)))=_;rw[decide_eq_false (by omega)]
 rw[Za (by simp![tm,ai,show List.lookup "MOST_SAYINGS" prog.con=some (.int 12)from rfl,c])];rw[xa (w:=.t [w,.tup l]) (h1:=h) (Qb rfl (by simp![N0,ai])),Gb _ _ _ rfl]
def fi(m:Nat):D:=if 12<m then .lst (dW 5)else .ak
abbrev ib(w:D)(l:List D)(x y:Option W):Sl:=[sv w,y0 (.bor l),x,y]
def MQ(k:Nat){w:D}{l:List D}(h:AH)(f:Gu h=k9):call prog (k+3) "_law_crowded" [.v w,.bor l] h=.ok (.v (fi l.length)) h:=by
 rw[Ga (d:=wm) rfl _ _ _ rfl];show Gy _ (execs _ _ (ib w l u0 u0) h)=_;simp only[wm];have nr:Gc (fi l.length)=true:=by
  unfold fi;split
  .simp[dW,xc]
  .rfl
 refine fx (τ1:=ib w l (sv .ak) u0) (h1:=h) (by simp![]) ?_;have e:∃b,exec (k8 (k+2)) (.d9 (.ex "theory_of" (.b .v0 .v1)) "WorldError" 3 (.a (.ag 2 (.call "_law_classes" (.a .v3))))) (ib w l (sv .ak) none) h=.next (ib w l (sv (fi l.length)) none) (h++b):=by
  rw[exec];dsimp only[kN];have i:Gd (k8 (k+2)) (.b .v0 .v1) (ib w l (sv .ak) u0) h=.ok [.v w,.bor l] h:=by simp![]
  rw[i];unfold i8;dsimp only;by_cases c:12<l.length
  .rw[show call prog (k+2) "theory_of" ([W.v w,W.bor l].map W.arg) h=.exc (.exc "Crowded" []) h from NY (k+1) c h];obtain⟨a,g⟩:=rj (.exc "Crowded" []) (h':=[]) f;rw[Ac3]at g;refine⟨a,?_⟩;dsimp only;rw[g,KA,KG,show bE prog.cl (.v (.exc "Crowded" [])) ["WorldError"]=some true from rfl];dsimp only;have e1:=zR (k+1) Er.gm (h++a);rw[show execs (k8 (k+2)) (.a (.ag 2 (.call "_law_classes" (.a .v3)))) (GC (ib w l (sv .ak) none) 3 (.v (.exc "Crowded" []))) (h++a)=.next (ib w l (sv (.lst (dW 5))) (sv (.exc "Crowded" []))) (h++a)by show execs _ _ (ib w l (sv .ak) (sv (.exc "Crowded" []))) _=_;rw[za (τ1:=ib w l (sv (.lst (dW 5))) (sv (.exc "Crowded" []))) (h1:=h++a) (by simp![e1]),execs]];dsimp only;rw[fi,if_pos c];rfl
  .rw[show call prog (k+2) "theory_of" ([W.v w,W.bor l].map W.arg) h=.ok (.t [w,.tup l]) h from vN (k+1) (by omega) h];refine⟨[],?_⟩;rw[Ac3,fi,if_neg c];rfl
 obtain⟨b,e⟩:=e;rw[za e,xa (w:=.v (fi l.length)) (h1:=h++b) rfl,Zw nr f]
theorem oq{t:Tx}:∀{N:List Tx}{vs:List Nat},N.length=vs.length->t∈N->(N.zip (aw vs)).lookup t=y0 (.n (vs.getD (de t N) 0))
|[],_,_,h=>absurd h Af5
|y::a,[],e,_=>by cases e
|y::a,v::vs,e,h=>by
  show Ah1 t ((y,D.n v)::a.zip (aw vs))=_;rw[Ab9];by_cases q:t=y
  .subst q;rw[beq_self_eq_true];simp[de,GZ]
  .rw[beq_eq_false_iff_ne.mpr q];have b:t∈a:=(Ab7.mp h).resolve_left q;have c:=oq (vs:=vs) (Ao6.inj e) b;dsimp only;rw[c];have e2:=(Qm b).1;have:de t (y::a)=de t a+1:=by show(GZ t (y::a)).getD 0=_;rw[GZ,if_neg (λz=>q z.symm),e2];rfl
   rw[this];rfl
theorem yy{t:Tx}:∀{N:List Tx}{ds:List D},t∉N->(N.zip ds).lookup t=u0
|[],_,_=>rfl
|y::a,[],_=>rfl
|y::a,d::ds,h=>by show Ah1 t ((y,d)::a.zip ds)=_;have q:(t==y)=false:=beq_eq_false_iff_ne.mpr λz=>h (by rw[z];exact Aa4);rw[Ab9,q];exact yy λz=>h (Aa3 _ z)
def EW(g:bJ n K T)(c:Nat){t:Tx}(b:t∈K++T)(d:Td (wo n K T c) (wo n K T c) (.fact (.bL (.name t))) (y0 k9)):∃r:Nat,r≠0/\((K++T).zip (aw (wo n K T c).ks++aw (wo n K T c).ts)).lookup t=y0 (.n r):=by
 have a:K.length=(wo n K T c).ks.length:=(jF ..).symm;have lt:T.length=(wo n K T c).ts.length:=(wH ..).symm;refine⟨_,Ed d,?_⟩;rw[List.zip_append (by rw[Aa];exact a),List.lookup_append];by_cases q:t∈T
 .have nk:t∉K:=λz=>(Ao9.mp g.nd).2.2 t z t q rfl;rw[yy nk,oq lt q,if_pos (show t∈(wo n K T c).T from q)];rfl
 .rw[oq a ((Ad1.mp b).resolve_right q),if_neg (show t∉(wo n K T c).T from q)];rfl
abbrev dR(K T:List Tx)(S:List Sy)(n:Nat)(x y z u:Option W):Sl:=[sv (aO K T S),si n,x,y,z,u]
def Cr(f:Nat)(g:bJ n K T)(c:Nat){t:Tx}(l:t∈K++T)(p:Td (wo n K T c) (wo n K T c) (.fact (.bL (.name t))) (y0 k9)){x u:Option W}(h:AH):
 execs (k8 f) Je (dR K T S n x (sv (wo n K T c).ay) (sv (aF (.fact (.bL (.name t))))) u) h=.next (dR K T S n x (sv (wo n K T c).ay) (sv (aF (.fact (.bL (.name t))))) (y0 (.r h.length))) (h++[.cZ ((K++T).zip (aw (wo n K T c).ks++aw (wo n K T c).ts))]):=by
 obtain⟨r,o,d⟩:=EW g c l p;have q:=g.k4;have v:=g.t4;have M:(wo n K T c).ks.length=K.length:=jF ..;have O:(wo n K T c).ts.length=T.length:=wH ..;unfold Je;have k:GJ .add (.t (K.map .str)) (.t (T.map .str)) h=.ok (.t ((K++T).map .str)) h:=by rw[Ae5];exact ZO _ _ h (by rw[Aa,Aa];omega)
 have a2:GJ .add (.t (aw (wo n K T c).ks)) (.t (aw (wo n K T c).ts)) h=.ok (.t (aw (wo n K T c).ks++aw (wo n K T c).ts)) h:=ZO _ _ h (by rw[Aa,Aa];omega);have i:m8 (.t ((K++T).map .str)) (.t (aw (wo n K T c).ks++aw (wo n K T c).ts)) h=.ok (.r h.length) (h++[.cZ ((K++T).zip (aw (wo n K T c).ks++aw (wo n K T c).ts))]):=by unfold m8;dsimp only;rw[Qs];dsimp only;rw[if_pos ⟨by simp[M,O],by simp;omega,g.nd,by rw[←Ae5];exact xc _ (λ_=>rfl) _⟩]
 generalize s:(K++T).zip (aw (wo n K T c).ks++aw (wo n K T c).ts)=L at d i⊢;have j:eval (k8 f) (.eu (.bin .add (.ix (.ix .v0 (.int 0)) (.int 0)) (.ix (.ix .v0 (.int 0)) (.int 1))) (.bin .add (.ix .v3 (.int 1)) (.ix .v3 (.int 2)))) (dR K T S n x (sv (wo n K T c).ay) (sv (aF (.fact (.bL (.name t))))) u) h=.ok (.r h.length) (h++[.cZ L]):=by rw[eval];rw[show eval (k8 f) (.bin .add (.ix (.ix .v0 (.int 0)) (.int 0)) (.ix (.ix .v0 (.int 0)) (.int 1))) (dR K T S n x (sv (wo n K T c).ay) (sv (aF (.fact (.bL (.name t))))) u) h=.ok (.t ((K++T).map .str)) h by simp![af,xj,Zh,ai,k],R.ae];rw[show eval (k8 f) (.bin .add (.ix .v3 (.int 1)) (.ix .v3 (.int 2))) (dR K T S n x (sv (wo n K T c).ay) (sv (aF (.fact (.bL (.name t))))) u) h=.ok (.t (aw (wo n K T c).ks++aw (wo n K T c).ts)) h by simp![af,ai,Wo.ay,lg,show∀a b c:D,bw [a,b,c] 1=y0 b fromλ_ _ _=>rfl,show∀a b c:D,bw [a,b,c] 2=y0 c fromλ_ _ _=>rfl,a2],R.ae];exact i
 generalize E.eu _ _=Z at j⊢;rw[za (τ1:=dR K T S n x (sv (wo n K T c).ay) (sv (aF (.fact (.bL (.name t))))) (y0 (.r h.length))) (h1:=h++[.cZ L]) (by simp![j])];have m:Kl (h++[.cZ L]) (y0 (.r h.length))=y0 (h.length,L):=Mr (by simp);have nm:eval (k8 f) (.ix (.ix .v4 (.int 1)) (.int 1)) (dR K T S n x (sv (wo n K T c).ay) (sv (aF (.fact (.bL (.name t))))) (y0 (.r h.length))) (h++[.cZ L])=.ok (.s t) (h++[.cZ L]):=by simp![aF,dc,a9,af,Zh,ai]
 have i1:dh y9 (.s t) (y0 (h.length,L)) (h++[.cZ L])=.ok (.b k9) (h++[.cZ L]):=by show ai (.bl (L.lookup t).isSome) _=_;rw[d]<;>rfl
 have i2:gg (.s t) (y0 (h.length,L)) (h++[.cZ L])=.ok (.i r) (h++[.cZ L]):=by unfold gg;dsimp only;rw[d]<;>rfl
 have e:Gw .eq (.i r) (.v (.int 0)) (h++[.cZ L])=y0 false:=by have:=Wh r 0 (h++[.cZ L]);rw[decide_eq_false o]at this;exact this
 generalize E.ix _ _=Y at nm⊢;rw[Za (by simp![nm,m,i1,i2,e,ai]),execs]
end
section
variable{n:Nat}{K T:List Tx}{S:List Sy}
def Ic(k:Nat)(g:bJ n K T)(d:Sm K T S)(i:S.length<=100)(c:¬(n=0/\S≠[])){h:AH}(j:Gu h=k9):∃x,(∀s∈S,Td (wo n K T x) (wo n K T x) s (y0 k9))/\call prog (k+60) "found" [.v (aO K T S),.i n] h=.ok (.t [.str qg,(wo n K T x).ay]) h:=by
 obtain⟨a,_,o,e⟩:=XO (q:=2) g (Q2 d) i (by decide) j (m:=k+59) (by omega);rcases o with⟨x,_,_,_,rfl,l⟩|⟨p,rfl,G⟩
 .exact⟨x,l,e⟩
 .refine absurd c λc=>?_;by_cases f:n=0
  .have b:S=[]:=Classical.not_not.mp λz=>c ⟨f,z⟩;subst b;obtain⟨s,b,_⟩:=G.wk 0 (Wp _) (Wp _);exact absurd b Af5
  .exact uF g (by omega) d G
def uw(k:Nat)(g:bJ n K T)(j:∀s∈S,s.wf (K++T)/\s.dp<=2)(b:S.length<=100)(f:∀x,(∀s∈S,Td (wo n K T x) (wo n K T x) s (y0 k9))->False){h:AH}(i:Gu h=k9):∃p,GP n K T S 2 17 p 0 (2^bN n K T-1)/\call prog (k+60) "found" [.v (aO K T S),.i n] h=.ok (.t [.str jb,p]) h:=by
 obtain⟨a,_,d,e⟩:=XO (q:=2) g j b (by decide) i (m:=k+59) (by omega);rcases d with⟨x,_,_,_,rfl,c⟩|⟨p,rfl,G⟩
 .exact(f x c).elim
 .exact⟨p,G,e⟩
def uc{d e:D}(b:Gc d=k9)(a:Gc e=k9)(f:dep d<150)(c:dep e<150)(h:AH):Gw .ne (.v d) (.v e) h=y0 (!cn d e):=by show(if GT (res h d) (res h e)then y0 (!cn (res h d) (res h e))else u0)=_;rw[Zz b,Zz a,if_pos (by simp[GT,b,a,f,c])]
def yU(c:Sm K T S)(d:S.length<=2)(h:AH):Gw .ne (.t (S.map aF)) (.v (.tup [])) h=y0 (u9 (S≠[])):=by
 match S,c,d with
|[],_,_=>rfl
|[a],c,_=>obtain⟨t,_,rfl⟩:=c a (by simp);rw[uc rfl rfl (by simp[aF,dc,a9]) (by simp)];simp
|[a,b],c,_=>obtain⟨t,_,rfl⟩:=c a (by simp);obtain⟨u,_,rfl⟩:=c b (by simp);rw[uc rfl rfl (by simp[aF,dc,a9]) (by simp)];simp
|_::_::_::_,_,d=>simp at d
def Ii(k:Nat)(g:bJ n K T)(f:Sm K T S)(N:S.length<=2){h:AH}(i:Gu h=true):call prog (k+61) "_law_answered" [.v (aO K T S),.i n] h=.ok (.b true) h:=by
 rw[Ga (d:=Ql) rfl _ _ _ rfl];show Gy _ (execs _ _ (dR K T S n u0 u0 u0 u0) h)=_;simp only[Ql];have C:∀(x y z u:Option W)(h:AH),eval (k8 (k+60)) (.cmp .eq .v1 (.int 0)) (dR K T S n x y z u) h=.ok (.b (u9 (n=0))) h:=λx y z u h=>by have:=Wh n 0 h;have:Gw .eq (.i n) (.v (.int 0)) h=y0 (u9 (n=0)):=this;simp![this,ai]
 have r:∀(x y z u:Option W)(h:AH),eval (k8 (k+60)) (.cmp .ne (.ix .v0 (.int 1)) (.tup .nil)) (dR K T S n x y z u) h=.ok (.b (u9 (S≠[]))) h:=λx y z u h=>by have:=yU f N h;simp![af,Zh,ai,this]
 by_cases c:n=0/\S≠[]
 .obtain⟨p,G,e⟩:=uw k g (Q2 f) (by omega) (λx o=>by obtain⟨s,j⟩:=List.exists_mem_of_ne_nil _ c.2;obtain⟨t,D,rfl⟩:=f s j;exact uK c.1 (o _ j)) i;refine fx (τ1:=dR K T S n (y0 (.s jb)) (sv p) u0 u0) (h1:=h) (by simp![e]) ?_;have a:=Wj (C (y0 (.s jb)) (sv p) u0 u0 h) (r (y0 (.s jb)) (sv p) u0 u0 h);rw[decide_eq_true c.1,decide_eq_true c.2]at a;have e1:=tO (k+59) g G (by omega) i;obtain⟨b,P,e2⟩:=Z6 (q:=2) (S:=S) (k+59) 13 g (Q2 f) (by omega) i;rw[P (by omega)]at e2;have e2:call prog (k+60) "holds" [.v (aO K T S),.i n,.t [.str Xh,.int 13]] h=.ok (.b false) h:=e2;have E:eval (k8 (k+60)) (.cmp .eq .v2 (.str lh)) (dR K T S n (y0 (.s jb)) (sv p) u0 u0) h=.ok (.b k9) h:=by simp![zd,ai];rfl
  have F:eval (k8 (k+60)) (.call "holds" (.c .v0 .v1 .v3)) (dR K T S n (some (.s jb)) (sv p) none none) h=.ok (.b true) h:=by simp![e1]
  have L:eval (k8 (k+60)) (.not (.call "holds" (.c .v0 .v1 (.tup (.b (.str iC) (.int 13)))))) (dR K T S n (some (.s jb)) (sv p) none none) h=.ok (.b true) h:=by simp![e2,ai]
  rw[zi (xm a λ_=>rfl) (Qb rfl (Wj E (Wj F L)))];exact Gb _ _ _ rfl
 .obtain⟨x,o,e⟩:=Ic k g f (by omega) c i;refine fx (τ1:=dR K T S n (y0 (.s qg)) (sv (wo n K T x).ay) u0 u0) (h1:=h) (by simp![e]) ?_;have a:=Wj (C (y0 (.s qg)) (sv (wo n K T x).ay) u0 u0 h) (r (y0 (.s qg)) (sv (wo n K T x).ay) u0 u0 h);rw[show(u9 (n=0)&&u9 (S≠[]))=y9 by rw[An1,decide_eq_false_iff_not,decide_eq_false_iff_not];exact Classical.not_and_iff_not_or_not.mp c]at a;rw[Za (xm a λ_=>rfl)];have Q:Gw .ne (.i n) (.i n) h=y0 false:=by have:=yY n n h;simpa using this
  have J:Gw .ne (.s qg) (.v (.str fO)) h=y0 false:=ZC (.str qg) rfl (by simp) h;have A:dY (.v (wo n K T x).ay) (.v (.int 0)) h=y0 (.n n):=rfl;have H:Gp (k8 (k+60)) (.or (.cmp .ne .v2 (.str fO)) (.cmp .ne (.ix .v3 (.int 0)) .v1)) (dR K T S n (y0 (.s qg)) (sv (wo n K T x).ay) u0 u0) h=.ok y9 h:=by generalize (wo n K T x).ay=V at A⊢;simp![J,ai,A,Q]
  rw[Za H];obtain⟨U,X,I,⟨u,v,l,rfl,rfl⟩⟩:=XF (e:=aF) (st:=λm B=>∃u v l,m=dR K T S n (y0 (.s qg)) (sv (wo n K T x).ay) u v/\B=h++l) (bnd:=Gq [4] k9) (body:=λm h=>execs (k8 (k+60)) Je m h) S (λs j m B z=>by obtain⟨u,v,l,rfl,rfl⟩:=z;obtain⟨t,D,rfl⟩:=f s j;exact⟨_,_,_,rfl,Cr (k+60) g x D (o _ j) (h++l),_,_,_,rfl,by rw[Ag7]⟩) (dR K T S n (y0 (.s qg)) (sv (wo n K T x).ay) u0 u0) h ⟨_,_,[],rfl,(Ac3 h).symm⟩;have M:Gs (k8 (k+60)) (.seq (.ix .v0 (.int 1))) (dR K T S n (y0 (.s qg)) (sv (wo n K T x).ay) u0 u0) h=.ok (S.map aF) h:=by simp only[Gs];simp![af,Zh,ai]
  rw[execs,exec,M,R.aB,I,O.bf];rw[xa (w:=.b k9) (h1:=h++l) rfl,Zw rfl i]
end
section
variable{n:Nat}{K T:List Tx}{S:List Sy}
def pz(xs:List D)(a b:Option Int)(h:AH):hM (.t xs) a b h=ai (.tup (cut xs a b)) h:=rfl
abbrev fD(K T:List Tx)(S:List Sy)(n:Nat)(a b c d e f:Option W):Sl:=[sv (aO K T S),si n,a,b,c,d,e,f]
abbrev two(e:Ex):List Sy:=[.fact (.bL e),.fact (.ak e)]
def FY(e:Ex)(a:S.length<=2)(h:AH):GJ .add (.t (S.map aF)) (.t [.tup [.str fg,a9 e],.tup [.str kD,a9 e]]) h=.ok (.t ((S++two e).map aF)) h:=by rw[Ae5];exact ZO (S.map aF) ((two e).map aF) h (by rw[Aa,Aa];show S.length+2<=100;omega)
def HV(k:Nat)(g:bJ n K T)(m:Sm K T S)(r:S.length<=2){e:Ex}(c:e.wf (K++T))(j:e.dp<=2){b d x y:Option W}{h:AH}(f:Gu h=k9):∃L M O,execs (k8 (k+60)) Wc (fD K T S n (sv (wD K T)) b (sv (a9 e)) d x y) h=.next (fD K T S n (sv (wD K T)) b (sv (a9 e)) L M O) h:=by
 have wf:∀s∈S++two e,s.wf (K++T)/\s.dp<=2:=λs a=>by
  rcases Ad1.mp a with a|a
  .exact Q2 m s a
  .rcases Ab7.mp a with rfl|a
   .exact⟨c,j⟩
   .rw[Ac5.mp a];exact⟨c,j⟩
 obtain⟨p,G,e1⟩:=uw k (S:=S++two e) g wf (by rw[Ab];show S.length+2<=100;omega) (λx i=>CV (i _ (Aa5 _ Aa4)) (i _ (Aa5 _ (Aa3 _ Aa4)))) f;have e2:=tO (k+59) g G (by omega) f;have o:=FY (S:=S) e r h;unfold Wc;refine⟨sv (aO K T (S++two e)),y0 (.s jb),sv p,?_⟩;have l:eval (k8 (k+60)) (.tup (.b .v2 (.bin .add (.ix .v0 (.int 1)) (.tup (.b (.tup (.b (.str fg) .v4)) (.tup (.b (.str kD) .v4))))))) (fD K T S n (sv (wD K T)) b (sv (a9 e)) d x y) h=.ok (.v (aO K T (S++two e))) h:=by simp![af,Zh,ai,o]
 generalize E.tup _=Z at l⊢;rw[za (τ1:=fD K T S n (sv (wD K T)) b (sv (a9 e)) (sv (aO K T (S++two e))) x y) (h1:=h) (by simp![l])];rw[za (τ1:=fD K T S n (sv (wD K T)) b (sv (a9 e)) (sv (aO K T (S++two e))) (y0 (.s jb)) (sv p)) (h1:=h) (by simp![e1])];have q:Gw .ne (.s jb) (.v (.str lh)) h=y0 false:=ZC (.str jb) rfl (by simp) h;rw[Za (by simp![q,ai,e2]),execs]
def Hx(k:Nat)(g:bJ n K T)(q:Sm K T S)(C:S.length<=2){h:AH}(E:Gu h=true):call prog (k+61) "_law_papers_told" [.v (aO K T S),.i n] h=.ok (.b true) h:=by
 have M:=g.k4;have U:=g.t4;rw[Ga (d:=Wg) rfl _ _ _ rfl];show Gy _ (execs _ _ (fD K T S n u0 u0 u0 u0 u0 u0) h)=_;simp only[Wg];refine fx (τ1:=fD K T S n (sv (wD K T)) u0 u0 u0 u0 u0) (h1:=h) (by simp![af,xj,ai]) ?_;have N:((T.take 1++K.take 1)).length<=2:=by rw[Ab,Ad8,Ad8];omega
 have F:cut (T.map D.str) u0 (y0 1)=(T.take 1).map D.str:=by rw[show(y0 1:Option Int)=y0 ((1:Nat):Int)from rfl,zK,Al0]
 have s:cut (K.map D.str) u0 (y0 1)=(K.take 1).map D.str:=by rw[show(y0 1:Option Int)=y0 ((1:Nat):Int)from rfl,zK,Al0]
 have r:GJ .add (.t ((T.take 1).map D.str)) (.t ((K.take 1).map D.str)) h=.ok (.t ((T.take 1++K.take 1).map D.str)) h:=by rw[Ae5];exact ZO _ _ h (by rw[Aa,Aa,←Ab];omega)
 have u:Gj (k8 (k+60)) (.seq (.bin .add (.eF (.ix .v2 (.int 1)) (.int 1)) (.eF (.ix .v2 (.int 0)) (.int 1)))) (fD K T S n (sv (wD K T)) u0 u0 u0 u0 u0) h=.ok ((T.take 1++K.take 1).map D.str) h:=by simp only[Gj];simp![af,xj,Zh,ai,pz,F,s,r]
 have o:eval (k8 (k+60)) Qf (fD K T S n (sv (wD K T)) u0 u0 u0 u0 u0) h=.ok (.own ((T.take 1++K.take 1).map λt=>a9 (.name t))) h:=by
  unfold Qf;rw[zk (h:=h) (λd=>.tup [.str xk,d]) u (by rw[Gg,Aa];omega),Ad7]
  .rfl
  .intro d H;obtain⟨t,_,rfl⟩:=Ac0.mp H;exact⟨[y0 (.s t)],rfl,.t [.str xk,.str t],by simp![ai],rfl⟩
 generalize v:(T.take 1++K.take 1)=L at o N;refine fx (τ1:=fD K T S n (sv (wD K T)) (y0 (.l (L.map λt=>a9 (.name t)))) u0 u0 u0 u0) (h1:=h) (by simp![o]) ?_;have mem:∀t∈L,t∈K++T:=λt a=>by
  rw[←v]at a;rcases Ad1.mp a with a|a
  .exact Aa5 _ (Al a)
  .exact Ac8 _ (Al a)
 obtain⟨G,Q,m,⟨c,d,x,y,rfl,j⟩⟩:=XF (e:=a9) (st:=λf p=>∃c d x y,f=fD K T S n (sv (wD K T)) (y0 (.l (L.map λt=>a9 (.name t)))) c d x y/\p=h) (bnd:=Gq [4] k9) (body:=λf h=>execs (k8 (k+60)) Wc f h) (.all::L.map .name) (λe i f p z=>by
  obtain⟨c,d,x,y,rfl,j⟩:=z;rw[j];have l:e.wf (K++T)/\e.dp<=2:=by
   rcases Ab7.mp i with rfl|i
   .exact⟨trivial,by simp[Ex.dp]⟩
   .obtain⟨t,a,rfl⟩:=Ac0.mp i;exact⟨mem t a,by simp[Ex.dp]⟩
  obtain⟨J,P,V,A⟩:=HV k g q C l.1 l.2 (b:=y0 (.l (L.map λt=>a9 (.name t)))) (d:=d) (x:=x) (y:=y) E;exact⟨_,_,_,rfl,A,_,_,_,_,rfl,rfl⟩) (fD K T S n (sv (wD K T)) (y0 (.l (L.map λt=>a9 (.name t)))) u0 u0 u0 u0) h ⟨_,_,_,_,rfl,rfl⟩
 rw[j]at m;have I:GJ .add (.own [.tup [.str fF]]) (.l (L.map λt=>a9 (.name t))) h=.ok (.own ((Ex.all::L.map .name).map a9)) h:=by show Ko _ _ h=_;rw[Ko,if_pos (by rw[Gg,Aa];simp;omega),Ab4,Ad7];rfl
 have B:Gs (k8 (k+60)) (.seq (.bin .add (.lst (.a (.tup (.a (.str fF))))) .v3)) (fD K T S n (sv (wD K T)) (y0 (.l (L.map λt=>a9 (.name t)))) u0 u0 u0 u0) h=.ok ((Ex.all::L.map .name).map a9) h:=by simp only[Gs];simp![ai,I]
 rw[execs,exec,B,R.aB,m,O.bf,xa (w:=.b k9) (h1:=h) rfl];exact Gb _ _ _ rfl
end
section
variable{n:Nat}{K T:List Tx}{S:List Sy}
abbrev lS(sc:D)(a:Nat)(N:List D)(w:D)(L:List D)(m:Nat)(h d due:D)(f:Nat)(e x12 x13 c g b:Option W):Sl:=[sv sc,y0 (.r 0),si a,y0 (.l N),sv w,y0 (.l L),si m,sv h,sv d,sv due,si f,e,x12,x13,c,g,b]
abbrev F9:Fx:=(k8 69)
def AL(x:Option (Nat×Nat)):Gc (cv x)=true:=by
 cases x with
|none=>rfl
|some x=>simp[cv,dW,xc]
def uA(x:Option (Nat×Nat)):dep (cv x)<150:=by
 cases x with
|none=>simp[cv]
|some x=>
  have:∀l:List Nat,GD (l.map λi=>D.bl (u9 (i=x.1)||u9 (i=15)))=0:=λl=>by
   induction l with
|nil=>rfl
|cons y l a=>simp[a]
  simp[cv,dW,this]
def nE(x:Option (Nat×Nat))(h:AH):Gw .ne (.v (cv x)) (.v (cv x)) h=y0 false:=ZC _ (AL x) (uA x) h
def Aq{F:Fx}{x:Option (Nat×Nat)}{τ:Sl}{h:AH}(e:Gi τ 9=sv (cv x)):eval F (.d7 y9 .v9) τ h=.ok (.b (x.isNone)) h:=by simp only[eval,e,R.ae];cases x<;>rfl
def m3{F:Fx}{e f:E}{τ:Sl}{h:AH}(h1:eval F e τ h=.ok (.b y9) h):eval F (.and e f) τ h=.ok (.b y9) h:=by rw[eval,h1];rfl
def yf{τ:Sl}{h:AH}(j:Nat)(J:Int)(e:(j:Int)=J):eval F9 (.tup (.b (.call "_law_class" (.a (.int J))) (.int 0))) τ h=.ok (.v (cv (some (j,0)))) h:=by subst e;have:=j5 68 j h;simp![this];rfl
def IJ(w:WQ K T)(r:Sm K T S)(v:S.length<=2){d:D}(H:fV d){sc:D}{a m f i:Nat}{N L:List D}{x12 x13:Option W}(I:f<3)(M:i<3){h:AH}(B:Gu h=k9):
 ∃y12 y13,execs F9 ZN (lS sc a N (wD K T) L m (aO K T S) d (cv (cy K T d)) f (si i) x12 x13 u0 u0 u0) h=.next (lS sc a N (wD K T) L m (aO K T S) d (cv (cy K T d)) f (si i) y12 y13 u0 u0 u0) h:=by
 have k:(f+i)%3<3:=Al3 _ (by decide);have e1:=rm 8 (deed:=(f+i)%3) H w r (by omega) B k;have G:((f:Int)+(i:Int))=((f+i:Nat):Int):=rfl;have s:Gk .mod ((f+i:Nat):Int) 3=y0 (((f+i)%3:Nat):Int):=yn (f+i) 3 (by decide);have l:=yU r v h;generalize J:(f+i)%3=g at e1 s k;refine⟨si g,sv (cv (dJ g K T S d)),?_⟩;unfold ZN;generalize o:aO K T S=e at e1⊢;have p:dY (.v e) (.v (.int 1)) h=y0 (.tup (S.map aF)):=by rw[←o];rfl
 rw[za (τ1:=lS sc a N (wD K T) L m e d (cv (cy K T d)) f (si i) (si g) x13 u0 u0 u0) (h1:=h) (by simp![jg,G,s])];rw[za (τ1:=lS sc a N (wD K T) L m e d (cv (cy K T d)) f (si i) (si g) (sv (cv (dJ g K T S d))) u0 u0 u0) (h1:=h) (by simp![e1])];have b:eval F9 (.d7 y9 .v9) (lS sc a N (wD K T) L m e d (cv (cy K T d)) f (si i) (si g) (sv (cv (dJ g K T S d))) u0 u0 u0) h=.ok (.b (cy K T d).isNone) h:=Aq rfl;cases j:cy K T d with
|some x=>
  have A:dJ g K T S d=y0 x:=by unfold dJ;rw[j]
  rw[j]at b;rw[A]at b⊢;have nn:=nE (y0 x) h;generalize cv (y0 x)=C at b nn⊢;have z:=m3 (f:=.and (.cmp .eq (.var 12) (.int 2)) (.and (.cmp .eq .v8 (.int 0)) (.cmp .ne (.ix .v7 (.int 1)) (.tup .nil)))) b;rw[za ((nA (h1:=h) (xm z λ_=>rfl)).trans ((Za (by simp![nn,ai])).trans (by rw[execs]))),execs]
|none=>
  obtain⟨n,rfl,wo⟩:=md w j;rw[j]at b;have F:eval F9 (.cmp .eq (.var 12) (.int 2)) (lS sc a N (wD K T) L m e (.n n) (cv u0) f (si i) (si g) (sv (cv (dJ g K T S (.n n)))) u0 u0 u0) h=.ok (.b (u9 (g=2))) h:=by have:=Wh g 2 h;have:Gw .eq (.i g) (.v (.int 2)) h=y0 (u9 (g=2)):=this;generalize cv (dJ g K T S (.n n))=C;simp![this,ai]
  have u:eval F9 (.cmp .eq .v8 (.int 0)) (lS sc a N (wD K T) L m e (.n n) (cv u0) f (si i) (si g) (sv (cv (dJ g K T S (.n n)))) u0 u0 u0) h=.ok (.b (u9 (n=0))) h:=by have:=Wh n 0 h;have:Gw .eq (.i n) (.v (.int 0)) h=y0 (u9 (n=0)):=this;generalize cv (dJ g K T S (.n n))=C;simp![this,ai]
  have l:eval F9 (.cmp .ne (.ix .v7 (.int 1)) (.tup .nil)) (lS sc a N (wD K T) L m e (.n n) (cv u0) f (si i) (si g) (sv (cv (dJ g K T S (.n n)))) u0 u0 u0) h=.ok (.b (u9 (S≠[]))) h:=by generalize cv (dJ g K T S (.n n))=C;simp![p,ai,l]
  have z:=Wj b (Wj F (Wj u l));have t:dJ g K T S (.n n)=if g=2/\n=0/\S≠[]then y0 (7,0)else none:=by
   unfold dJ;rw[j];dsimp only;have:(g=2/\zD (.n n)=k9/\S.isEmpty=y9)↔(g=2/\n=0/\S≠[]):=by rw[oI,decide_eq_true_eq];cases S<;>simp
   by_cases c:g=2/\n=0/\S≠[]
   .rw[if_pos c,if_pos (this.mpr c)]
   .rw[if_neg c,if_neg λy=>c (this.mp y)]
  by_cases c:g=2/\n=0/\S≠[]
  .rw[t,if_pos c]at z⊢;rw[decide_eq_true c.1,decide_eq_true c.2.1,decide_eq_true c.2.2]at z;have nn:=nE (y0 (7,0)) h;have q:=yf (τ:=lS sc a N (wD K T) L m e (.n n) (cv u0) f (si i) (si g) (sv (cv (y0 (7,0)))) u0 u0 u0) (h:=h) 7 7 rfl;generalize cv (y0 (7,0))=C at z nn q⊢;generalize E.tup (.cons (.call "_law_class" _) _)=Z at q⊢;rw[za ((XH (h1:=h) (xm z λ_=>rfl)).trans ((Za (by simp![q,nn,ai])).trans (by rw[execs]))),execs]
  .rw[t,if_neg c]at z⊢;rw[show(((none:Option (Nat×Nat)).isNone)&&(u9 (g=2)&&(u9 (n=0)&&u9 (S≠[]))))=y9 by rw[Option.isNone_none,Ae,←Bool.decide_and,←Bool.decide_and];exact decide_eq_false c]at z;have nn:=nE u0 h;generalize cv u0=C at z nn⊢;rw[za ((nA (h1:=h) (xm z λ_=>rfl)).trans ((Za (by simp![nn,ai])).trans (by rw[execs]))),execs]
end
def qM:Nat->Ss->Ss
|0,s=>s
|n+1,.cons _ s=>qM n s
|_,s=>s
section
variable{n:Nat}{K T:List Tx}{S:List Sy}
abbrev sA:Sy:=.fact (.bL .all)
def FE{l:List D}{k:Nat}(h:∀x∈l,dep x<=k):GD l<=k:=by
 induction l with
|nil=>exact Af _
|cons x l a=>exact Nat.max_le.mpr ⟨h x Aa4,a λy b=>h y (Aa3 _ b)⟩
def tR{F:Fx}{e:E}{τ:Sl}{h:AH}{b:Bool}(q:eval F e τ h=.ok (.b b) h):eval F (.not e) τ h=.ok (.b (!b)) h:=by rw[eval,q];rfl
def LU{sc:D}{a m f j:Nat}{N L:List D}{b x13:Option W}(w:WQ K T)(g:Sm K T S)(l:S.length<=2){n:Nat}{due:D}(e:j<3){h:AH}(i:Gu h=k9):
 execs F9 zM (lS sc a N (wD K T) L m (aO K T S) (.n n) due f b (si j) x13 u0 u0 u0) h=.next (lS sc a N (wD K T) L m (aO K T S) (.n n) due f b (si j) x13 u0 u0 u0) h:=by
 have e1:=rm 8 (deed:=j) (d:=.bl (u9 (n=1))) (.inr (.inl ⟨_,rfl⟩)) w g (by omega) i e;rw[show dJ j K T S (.bl (u9 (n=1)))=y0 (0,0)from rfl]at e1;have q:Gw .eq (.i n) (.v (.int 1)) h=y0 (u9 (n=1)):=Wh n 1 h;have nn:=nE (y0 (0,0)) h;unfold zM;generalize aO K T S=k at e1⊢;have c:=yf (τ:=lS sc a N (wD K T) L m k (.n n) due f b (si j) x13 u0 u0 u0) (h:=h) 0 0 rfl;generalize cv (y0 (0,0))=C at e1 nn c⊢;generalize E.tup (.cons (.call "_law_class" _) _)=Z at c⊢;rw[Za (by simp![q,ai,e1,c,nn]),execs]
def EY(w:WQ K T)(t:Sm K T S)(v:S.length<=2){d:D}(U:fV d){sc:D}{a m f:Nat}{N L:List D}(I:f<3){h:AH}(y:Gu h=k9):∃y11 y12 y13,execs F9 (qM 10 bM.body) (lS sc a N (wD K T) L m (aO K T S) d (cv (cy K T d)) f u0 u0 u0 u0 u0 u0) h=execs F9 (qM 14 bM.body) (lS sc a N (wD K T) L m (aO K T S) d (cv (cy K T d)) f y11 y12 y13 u0 u0 u0) h:=by
 obtain⟨C,Q,F,⟨y11,y12,y13,rfl,p⟩⟩:=XF (e:=λ(i:Nat)=>D.n i) (st:=λo s=>∃r b l,o=lS sc a N (wD K T) L m (aO K T S) d (cv (cy K T d)) f r b l u0 u0 u0/\s=h) (bnd:=Gq [11] k9) (body:=λo h=>execs F9 ZN o h) (Ab1 3) (λi B o s z=>by obtain⟨r,b,l,rfl,p⟩:=z;rw[p];obtain⟨y12,y13,e⟩:=IJ w t v U I (Ac1.mp B) (sc:=sc) (a:=a) (m:=m) (N:=N) (L:=L) (x12:=b) (x13:=l) y;exact⟨_,_,_,rfl,e,_,_,_,rfl,rfl⟩) (lS sc a N (wD K T) L m (aO K T S) d (cv (cy K T d)) f u0 u0 u0 u0 u0 u0) h ⟨_,_,_,rfl,rfl⟩;rw[p]at F;have P:Gs F9 (.aC (.int 3)) (lS sc a N (wD K T) L m (aO K T S) d (cv (cy K T d)) f u0 u0 u0 u0 u0 u0) h=.ok ((Ab1 3).map λ(i:Nat)=>D.n i) h:=by show Gj _ _ _ _=_;exact xn (m:=3) rfl (by decide)
 simp only[bM,qM];rw[execs,exec,P,R.aB,F,O.bf];have k:∀b,eval F9 (.d7 y9 .v9) (lS sc a N (wD K T) L m (aO K T S) d (cv (cy K T d)) f y11 b y13 u0 u0 u0) h=.ok (.b (cy K T d).isNone) h:=λb=>Aq rfl;cases A:cy K T d with
|some x=>rw[A]at k;refine⟨y11,y12,y13,?_⟩;have z:=k y12;rw[Za (xm (m3 z) λ_=>rfl),Za (xm (m3 z) λ_=>rfl),Za (xm (m3 z) λ_=>rfl)]
|none=>
  obtain⟨n,rfl,g⟩:=md w A;rw[A]at k;have H:=Ii 8 g t v y;have E:=Hx 8 g t v y;have J:∀b,eval F9 (.call "_law_answered" (.b .v7 .v8)) (lS sc a N (wD K T) L m (aO K T S) (.n n) (cv none) f y11 b y13 none none none) h=.ok (.b true) h:=fun b=>by generalize aO K T S=V at H⊢;simp![H]
  have a2:∀b,eval F9 (.call "_law_papers_told" (.b .v7 .v8)) (lS sc a N (wD K T) L m (aO K T S) (.n n) (cv none) f y11 b y13 none none none) h=.ok (.b true) h:=fun b=>by generalize aO K T S=V at E⊢;simp![E]
  have a3:∀b,eval F9 (.cmp .lt .v8 (.int 2)) (lS sc a N (wD K T) L m (aO K T S) (.n n) (cv u0) f y11 b y13 u0 u0 u0) h=.ok (.b (u9 (n<2))) h:=λb=>by have:Gw .lt (.i n) (.v (.int 2)) h=y0 (u9 (n<2)):=vH 2 n h;simp![this,ai]
  have a4:∀b,eval F9 (.cmp .gt .v8 (.int 0)) (lS sc a N (wD K T) L m (aO K T S) (.n n) (cv u0) f y11 b y13 u0 u0 u0) h=.ok (.b (u9 (0<n))) h:=λb=>by have:Gw .gt (.i n) (.v (.int 0)) h=y0 (u9 (0<n)):=ky 0 n h;simp![this,ai]
  have q:∀b X,execs F9 (.cons (.r (.and (.d7 false .v9) (.and (.cmp .gt .v8 (.int 0)) (.not (.call "_law_papers_told" (.b .v7 .v8))))) (.bl false)) X) (lS sc a N (wD K T) L m (aO K T S) (.n n) (cv none) f y11 b y13 none none none) h=execs F9 X (lS sc a N (wD K T) L m (aO K T S) (.n n) (cv none) f y11 b y13 none none none) h:=fun b X=>by have z:=Wj (k b) (Wj (a4 b) (tR (a2 b)));rw[Al2,Ae3,Ae3]at z;exact Za (xm z λ_=>rfl)
  have z:=Wj (k y12) (tR (J y12));rw[Al2,Ae3]at z;rw[Za (xm z λ_=>rfl)];have u:=Wj (k y12) (a3 y12);by_cases c:n<2
  .obtain⟨C,Q,G,⟨b,rfl,p⟩⟩:=XF (e:=λ(i:Nat)=>D.n i) (st:=λo s=>∃b,o=lS sc a N (wD K T) L m (aO K T S) (.n n) (cv u0) f y11 b y13 u0 u0 u0/\s=h) (bnd:=Gq [12] k9) (body:=λo h=>execs F9 zM o h) [1,2] (λi B o s z=>by obtain⟨b,rfl,p⟩:=z;rw[p];exact⟨_,_,_,rfl,LU (j:=i) w t v (by simp at B;omega) y,_,rfl,rfl⟩) (lS sc a N (wD K T) L m (aO K T S) (.n n) (cv u0) f y11 y12 y13 u0 u0 u0) h ⟨_,rfl,rfl⟩;rw[p]at G;refine⟨y11,b,y13,?_⟩;rw[decide_eq_true c]at u;have M:Gs F9 (.seq (.lst (.b (.int 1) (.int 2)))) (lS sc a N (wD K T) L m (aO K T S) (.n n) (cv u0) f y11 y12 y13 u0 u0 u0) h=.ok ([1,2].map λ(i:Nat)=>D.n i) h:=rfl;rw[za ((XH (h1:=h) (xm u λ_=>rfl)).trans (show _=O.next (lS sc a N (wD K T) L m (aO K T S) (.n n) (cv u0) f y11 b y13 u0 u0 u0) h by rw[execs,exec,M,R.aB,G,O.bf,execs]))];exact q b _
  .rw[decide_eq_false c,Ae3]at u;rw[Za (xm u λ_=>rfl)];exact⟨y11,y12,y13,q y12 _⟩
end
section
variable{n:Nat}{K T:List Tx}{S:List Sy}
def NK(K T:List Tx):Gc (wD K T)=k9/\dep (wD K T)<=2:=by
 have a:∀l:List Tx,GD (l.map D.str)=0:=λl=>by
  induction l with
|nil=>rfl
|cons x l b=>simp[b]
 exact⟨by simp[xc],by simp[a]⟩
def BO(e:Sm K T S)(m:Nat):Gf ((S++Aa1 m sA).map aF)=k9/\GD ((S++Aa1 m sA).map aF)<=2:=by
 have f:∀s∈S++Aa1 m sA,Gc (aF s)=k9/\dep (aF s)<=2:=λs a=>by
  rcases Ad1.mp a with a|a
  .obtain⟨t,_,rfl⟩:=e s a;exact⟨rfl,by simp[aF,dc,a9]⟩
  .rw[(Ao4.mp a).2];exact⟨rfl,by simp[aF,dc,a9]⟩
 generalize S++Aa1 m sA=B at f;constructor
 .induction B with
|nil=>rfl
|cons b B c=>simp[(f b Aa4).1,c λs a=>f s (Aa3 _ a)]
 .exact FE λx d=>by obtain⟨s,a,rfl⟩:=Ac0.mp d;exact(f s a).2
def B0(w:WQ K T)(Q:Sm K T S)(hl:S.length<=2){d due:D}{sc:D}{a m f:Nat}{N L:List D}{y11 y12 y13:Option W}{ns:List Int}{v:Int}:∃H,execs F9 (qM 14 bM.body) (lS sc a N (wD K T) L m (aO K T S) d due f y11 y12 y13 u0 u0 u0) [aK ns 0 v]=.ret (.b k9) H:=by
 obtain⟨u,F,hu,e1⟩:=jm 68 (h:=[aK ns 0 v]) (r:=0) (i:=0) rfl (m:=3) (by decide) (by decide);have e1:call prog 69 "_law_draw" [.r 0,.v (.int 3)] [aK ns 0 v]=.ok (.i u) [aK ns 0 F]:=e1;obtain⟨h,I⟩:∃h,h=[aK ns 0 F]:=⟨_,rfl⟩;rw[←I]at e1;have Y:Gu h=true:=by rw[I];rfl
 refine⟨h,?_⟩;obtain⟨n,dw⟩:=NK K T;have O:((12:Int)+(u:Int))=((12+u:Nat):Int):=rfl;have V:(Aa1 (12+u) (aF sA)).length=12+u:=Ad0;have q:=QO (aF sA) (12+u) (by omega) h;have e2:=MQ 66 (w:=wD K T) (l:=Aa1 (12+u) (aF sA)) h Y;rw[V]at e2;have G:=vN 68 (w:=wD K T) (l:=[.ak,.int 7]) (by decide) h;obtain⟨g,U⟩:=BO Q (12-S.length);have X:((S++Aa1 (12-S.length) sA).map aF).length=12:=by rw[Aa,Ab,Ad0];omega
 have o:=QO (aF sA) (12-S.length) (by omega) h;have s:=NC 68 (w:=wD K T) (l:=(S++Aa1 (12-S.length) sA).map aF) (by omega) n g h;have k:GJ .add (.own (S.map aF)) (.own (Aa1 (12-S.length) (aF sA))) h=.ok (.own ((S++Aa1 (12-S.length) sA).map aF)) h:=by show Ko _ _ h=_;rw[Ko,if_pos (by rw[Gg,Aa,Ad0];omega),Ae5,List.map_replicate]
 have x:((12:Int)-((S.map aF).length:Int))=((12-S.length:Nat):Int):=by rw[Aa];omega
 have M:Gw .gt (.i (12+u)) (.v (.int 12)) h=y0 (u9 (12<12+u)):=ky 12 (12+u) h;have p:=j5 68 5 h;have p:call prog 69 "_law_class" [.v (.int 5)] h=.ok (.own (dW 5)) h:=p;have y:Gw .ne (.v (fi (12+u))) (.v (fi (12+u))) h=y0 false:=ZC _ (by
  unfold fi;split
  .simp[dW,xc]
  .rfl) (by
  unfold fi;split
  .have:=uA (y0 (5,0));simp only[cv,dep,GD]at this⊢;omega
  .simp) h
 have ix:bw [D.ak,.lst (dW 5)] ((u9 (12<12+u)).toNat:Int)=y0 (fi (12+u)):=by
  unfold fi;by_cases c:12<12+u
  .rw[decide_eq_true c,if_pos c];rfl
  .rw[decide_eq_false c,if_neg c];rfl
 have J:Gw .eq (.l ((S++Aa1 (12-S.length) sA).map aF)) (.own ((S++Aa1 (12-S.length) sA).map aF)) h=y0 true:=by have:=sC (.lst ((S++Aa1 (12-S.length) sA).map aF)) (by simp only[Gc];exact g) (by simp only[dep];omega) h;show(if GT _ ((W.own _).dd h)then y0 (cn _ ((W.own _).dd h))else u0)=_;rw[W.gj,GH g];rw[show(W.l ((S++Aa1 (12-S.length) sA).map aF)).dd h=.lst ((S++Aa1 (12-S.length) sA).map aF)from Zz (by simp only[Gc];exact g)];rw[if_pos (by simp only[GT,Gc,g,Bool.and_self,Ae,decide_eq_true_eq,dep];omega),qB (by simp only[Gc];exact g)]
 have j:dY (.v (aO K T S)) (.v (.int 1)) h=y0 (.tup (S.map aF)):=rfl;generalize (S++Aa1 (12-S.length) sA).map aF=B at s k J X g U;generalize aO K T S=e at j⊢;generalize wD K T=b at e2 G s n dw⊢;have Z:Gw .ne (.t [b,.tup [.ak,.int 7]]) (.t [b,.tup [.ak,.int 7]]) h=y0 false:=ZC _ (by simp[n]) (by simp;omega) h;have R:Gw .eq (.t [b,.tup B]) (.t [b,.tup B]) h=y0 true:=sC _ (by simp[n,g]) (by simp;omega) h;simp only[bM,qM];rw[za (τ1:=lS sc a N b L m e d due f y11 y12 y13 (si (12+u)) u0 u0) (h1:=h) (by simp![e1,jg,O])];have t:eval F9 (.bin .mul (.lst (.a (.tup (.b (.str fg) (.tup (.a (.str fF))))))) (.var 14)) (lS sc a N b L m e d due f y11 y12 y13 (si (12+u)) u0 u0) h=.ok (.own (Aa1 (12+u) (aF sA))) h:=by have q:GJ .mul (.own [.tup [.str fg,.tup [.str fF]]]) (.i (12+u)) h=.ok (.own (Aa1 (12+u) (aF sA))) h:=q;generalize Aa1 (12+u) (aF sA)=z at q⊢;simp![ai,q]
 generalize Aa1 (12+u) (aF sA)=z at t e2;generalize E.bin .mul _ (.var 14)=Z1 at t⊢;generalize hC:fi (12+u)=C at e2 y ix;rw[za (τ1:=lS sc a N b L m e d due f y11 y12 y13 (si (12+u)) (sv C) u0) (h1:=h) (by simp![t,e2])];have t1:eval F9 (.cmp .ne (.var 15) (.ix (.lst (.b .ak (.call "_law_class" (.a (.int 5))))) (.bi .int (.a (.cmp .gt (.var 14) (.int 12)))))) (lS sc a N b L m e d due f y11 y12 y13 (si (12+u)) (sv C) none) h=.ok (.b false) h:=by generalize dW 5=C5 at p ix;generalize u9 (12<12+u)=bb at M ix;simp![ai,p,M,EU,Bk,ix,y]
 have P:eval F9 (.cmp .ne (.call "theory_of" (.b .v4 (.lst (.b .ak (.int 7))))) (.tup (.b .v4 (.tup (.b .ak (.int 7)))))) (lS sc a N b L m e d due f y11 y12 y13 (si (12+u)) (sv C) none) h=.ok (.b false) h:=by simp![ai,G,Z]
 rw[Za (xm (nJ t1 P) λ_=>rfl)];have A:eval F9 (.bin .add (.bi .list (.a (.ix .v7 (.int 1)))) (.bin .mul (.lst (.a (.tup (.b (.str fg) (.tup (.a (.str fF))))))) (.bin .sub (.int 12) (.bi .len (.a (.ix .v7 (.int 1))))))) (lS sc a N b L m e d due f y11 y12 y13 (si (12+u)) (sv C) u0) h=.ok (.own B) h:=by have o:GJ .mul (.own [.tup [.str fg,.tup [.str fF]]]) (.i (12-S.length)) h=.ok (.own (Aa1 (12-S.length) (aF sA))) h:=o;generalize Aa1 (12-S.length) (aF sA)=z at o k;generalize S.map aF=SM at j x k;simp![ai,j,tI,Qo,qo,x,o,k]
 generalize E.bin .add _ _=Z2 at A⊢;rw[za (τ1:=lS sc a N b L m e d due f y11 y12 y13 (si (12+u)) (sv C) (y0 (.l B))) (h1:=h) (by simp![A])];rw[za (τ1:=lS sc a N b L m e d (.tup [b,.tup B]) f y11 y12 y13 (si (12+u)) (sv C) (y0 (.l B))) (h1:=h) (by simp![xW,ai])];have t3:eval F9 (.cmp .eq (.call "theory_of" (.b .v4 (.var 16))) .v9) (lS sc a N b L m e d (.tup [b,.tup B]) f y11 y12 y13 (si (12+u)) (sv C) (some (.l B))) h=.ok (.b true) h:=by simp![ai,s,R]
 have t4:eval F9 (.cmp .eq (.var 16) (.bi .list (.a (.ix .v9 (.int 1))))) (lS sc a N b L m e d (.tup [b,.tup B]) f y11 y12 y13 (si (12+u)) (sv C) (y0 (.l B))) h=.ok (.b k9) h:=by simp![ai,af,Zh,tI,J]
 exact xa (Qb rfl (Wj t3 t4))
end
abbrev l0(sc:D)(h f e x4 x5 d c g b a:Option W):Sl:=[sv sc,h,f,e,x4,x5,d,c,g,b,a,u0,u0,u0,u0,u0,u0]
def gD(ns:List Int)(hl:ns.length<=63):∃h',call prog 70 "law" [.l (ns.map .int)] []=.ok (.b true) h':=by
 suffices key:∃H,execs F9 bM.body (l0 (.lst (ns.map .int)) u0 u0 u0 u0 u0 u0 u0 u0 u0 u0) []=.ret (.b k9) H by obtain⟨H,e⟩:=key;rw[Ga (d:=bM) rfl _ _ _ rfl];show∃h',Gy 0 (execs _ bM.body (l0 (.lst (ns.map .int)) u0 u0 u0 u0 u0 u0 u0 u0 u0 u0) [])=_;rw[e];obtain⟨h',f1,f2⟩:=vW (d:=.bl k9) (h:=H) (n:=0) rfl (Af _) rfl;exact⟨h',f1⟩
 obtain⟨v0,e0⟩:=Ay 68 ns hl [];obtain⟨a,v1,ha,e1⟩:=jm 68 (h:=[aK ns 0 v0]) (r:=0) (i:=0) rfl (m:=5) (by decide) (by decide);have e1:call prog 69 "_law_draw" [.r 0,.v (.int 5)] [aK ns 0 v0]=.ok (.i a) [aK ns 0 v1]:=e1;obtain⟨b,v2,hb,e2⟩:=jm 68 (h:=[aK ns 0 v1]) (r:=0) (i:=0) rfl (m:=5) (by decide) (by decide);have e2:call prog 69 "_law_draw" [.r 0,.v (.int 5)] [aK ns 0 v1]=.ok (.i b) [aK ns 0 v2]:=e2;obtain⟨N,v3,nl,nn,n8,e3⟩:=Di 67 (h:=[aK ns 0 v2]) (r:=0) (i:=0) (m:=a+b) rfl (by omega);have e3:call prog 69 "_law_names" [.r 0,.i (a+b)] [aK ns 0 v2]=.ok (.own (N.map .str)) [aK ns 0 v3]:=e3;have eab:((a:Int)+(b:Int))=((a+b:Nat):Int):=rfl;obtain⟨c,v4,hc,e4⟩:=jm 68 (h:=[aK ns 0 v3]) (r:=0) (i:=0) rfl (m:=3) (by decide) (by decide);have e4:call prog 69 "_law_draw" [.r 0,.v (.int 3)] [aK ns 0 v3]=.ok (.i c) [aK ns 0 v4]:=e4;obtain⟨d,v5,hd,e5⟩:=Ez 67 (h:=[aK ns 0 v4]) (r:=0) (i:=0) rfl;have e5:call prog 69 "_law_size" [.r 0] [aK ns 0 v4]=.ok (.v d) [aK ns 0 v5]:=e5;have pk:=qj (N.take a);have pt:=qj (N.drop a);have lk:(Gn (N.take a)).length=a:=by rw[pk.length_eq,Ad8];omega
 have lt:(Gn (N.drop a)).length=b:=by rw[pt.length_eq,Ae8];omega
 have pp:(Gn (N.take a)++Gn (N.drop a)).Perm N:=(pk.append pt).trans (by rw[List.take_append_drop]);have w:WQ (Gn (N.take a)) (Gn (N.drop a)):=⟨by omega,by omega,pp.nodup_iff.mpr nn,λt ht=>n8 t (pp.mem_iff.mp ht)⟩;have s1:=qK (N.take a) [aK ns 0 v3] (by rw[Ad8];omega);have s2:=qK (N.drop a) [aK ns 0 v3] (by rw[Ae8];omega);have k1:cut (N.map D.str) u0 (y0 (a:Int))=(N.take a).map D.str:=by rw[zK,Al0]
 have k2:cut (N.map D.str) (y0 (a:Int)) u0=(N.drop a).map D.str:=by rw[jX,List.map_drop]
 obtain⟨m,hm⟩:∃m,m=min (a+b) c:=⟨_,rfl⟩;have hS:Sm (Gn (N.take a)) (Gn (N.drop a)) ((N.take m).map λt=>.fact (.bL (.name t))):=λs hs=>by obtain⟨t,ht,rfl⟩:=Ac0.mp hs;exact⟨t,pp.mem_iff.mpr (Al ht),rfl⟩
 have hl2:((N.take m).map λt=>Sy.fact (.bL (.name t))).length<=2:=by rw[Aa,Ad8];omega
 have e6:=LH 67 (K:=Gn (N.take a)) (T:=Gn (N.drop a)) hd w.k4 w.t4 [aK ns 0 v5];obtain⟨f,v6,hf,e7⟩:=jm 68 (h:=[aK ns 0 v5]) (r:=0) (i:=0) rfl (m:=3) (by decide) (by decide);have e7:call prog 69 "_law_draw" [.r 0,.v (.int 3)] [aK ns 0 v5]=.ok (.i f) [aK ns 0 v6]:=e7;have sh:eval F9 (.share (.call "_law_start" (.a .v0))) (l0 (.lst (ns.map .int)) none none none none none none none none none none) []=.ok (.r 0) [aK ns 0 v0]:=Nr (ws:=[.l (ns.map .int)]) (by simp![]) e0 (by show(Gf (ns.map .int)&&k9)=k9;rw[xc _ (λ_=>rfl)];rfl);have L5:eval F9 W4 (l0 (.lst (ns.map .int)) (y0 (.r 0)) (si a) (y0 (.l (N.map .str))) (sv (wD (Gn (N.take a)) (Gn (N.drop a)))) u0 u0 u0 u0 u0 u0) [aK ns 0 v3]=.ok (.own (N.map λt=>aF (.fact (.bL (.name t))))) [aK ns 0 v3]:=by
  unfold W4;rw[zk (h:=[aK ns 0 v3]) (ds:=N.map .str) (λd=>.tup [.str QK,.tup [.str xk,d]]) rfl (by rw[Gg,Aa];omega),Ad7]
  .rfl
  .intro d hd;obtain⟨t,_,rfl⟩:=Ac0.mp hd;exact⟨[y0 (.s t)],rfl,.t [.str QK,.tup [.str xk,.str t]],by simp![ai],rfl⟩
 have ll:((N.map λt=>aF (.fact (.bL (.name t)))).length:Int)=((a+b:Nat):Int):=by rw[Aa,nl]
 have em:(if(c:Int)<((a+b:Nat):Int)then(c:Int)else((a+b:Nat):Int))=((m:Nat):Int):=by rw[hm];split<;>omega
 have k3:cut (N.map λt=>aF (.fact (.bL (.name t)))) u0 (y0 (m:Int))=((N.take m).map λt=>Sy.fact (.bL (.name t))).map aF:=by rw[zK,←Al0,Ad7];rfl
 obtain⟨y11,y12,y13,e8⟩:=EY (h:=[aK ns 0 v6]) w hS hl2 hd (sc:=.lst (ns.map .int)) (a:=a) (m:=m) (N:=N.map .str) (L:=N.map λt=>aF (.fact (.bL (.name t)))) hf rfl;obtain⟨H,e9⟩:=B0 w hS hl2 (d:=d) (due:=cv (cy (Gn (N.take a)) (Gn (N.drop a)) d)) (sc:=.lst (ns.map .int)) (a:=a) (m:=m) (f:=f) (N:=N.map .str) (L:=N.map λt=>aF (.fact (.bL (.name t)))) (y11:=y11) (y12:=y12) (y13:=y13) (ns:=ns) (v:=v6);refine⟨H,?_⟩;have e89:=e8.trans e9;rw[show bM.body=.cons (.set 1 (.share (.call "_law_start" (.a .v0)))) (qM 1 bM.body)from rfl];rw[za (τ1:=l0 (.lst (ns.map .int)) (y0 (.r 0)) u0 u0 u0 u0 u0 u0 u0 u0 u0) (h1:=[aK ns 0 v0]) (by generalize E.share _=X at sh⊢;simp![sh])];generalize D.lst (ns.map .int)=sc at e89 L5⊢;generalize hbd:qM 10 bM.body=R10 at e89;simp only[bM,qM]at hbd⊢;rw[hbd];rw[za (τ1:=l0 sc (y0 (.r 0)) (si a) u0 u0 u0 u0 u0 u0 u0 u0) (h1:=[aK ns 0 v1]) (by simp![e1])];rw[za (τ1:=l0 sc (y0 (.r 0)) (si a) (y0 (.l (N.map .str))) u0 u0 u0 u0 u0 u0 u0) (h1:=[aK ns 0 v3]) (by simp![e2,jg,eab,e3])];rw[za (τ1:=l0 sc (y0 (.r 0)) (si a) (y0 (.l (N.map .str))) (sv (wD (Gn (N.take a)) (Gn (N.drop a)))) u0 u0 u0 u0 u0 u0) (h1:=[aK ns 0 v3]) (by simp![pe,k1,k2,s1,s2,wF,ai])];generalize hNm:N.map D.str=NN at e89 L5⊢;generalize hLL:(N.map λt=>aF (.fact (.bL (.name t))))=LL at e89 L5 ll k3⊢;rw[za (τ1:=l0 sc (y0 (.r 0)) (si a) (y0 (.l NN)) (sv (wD (Gn (N.take a)) (Gn (N.drop a)))) (y0 (.l LL)) u0 u0 u0 u0 u0) (h1:=[aK ns 0 v3]) (by simp![L5])];rw[za (τ1:=l0 sc (y0 (.r 0)) (si a) (y0 (.l NN)) (sv (wD (Gn (N.take a)) (Gn (N.drop a)))) (y0 (.l LL)) (si m) u0 u0 u0 u0) (h1:=[aK ns 0 v4]) (by simp![QE,ai,ll,e4,Du,em])];generalize ((N.take m).map λt=>Sy.fact (.bL (.name t)))=S at e89 k3 hS hl2;rw[za (τ1:=l0 sc (y0 (.r 0)) (si a) (y0 (.l NN)) (sv (wD (Gn (N.take a)) (Gn (N.drop a)))) (y0 (.l LL)) (si m) (sv (aO (Gn (N.take a)) (Gn (N.drop a)) S)) u0 u0 u0) (h1:=[aK ns 0 v4]) (by simp![pe,k3,wF,ai])];generalize aO (Gn (N.take a)) (Gn (N.drop a)) S=th at e89⊢;generalize cv (cy (Gn (N.take a)) (Gn (N.drop a)) d)=due at e6 e89;generalize wD (Gn (N.take a)) (Gn (N.drop a))=W0 at e6 e89⊢;rw[za (τ1:=l0 sc (y0 (.r 0)) (si a) (y0 (.l NN)) (sv W0) (y0 (.l LL)) (si m) (sv th) (sv d) u0 u0) (h1:=[aK ns 0 v5]) (by simp![e5])];rw[za (τ1:=l0 sc (y0 (.r 0)) (si a) (y0 (.l NN)) (sv W0) (y0 (.l LL)) (si m) (sv th) (sv d) (sv due) u0) (h1:=[aK ns 0 v5]) (by simp![e6])];rw[za (τ1:=l0 sc (y0 (.r 0)) (si a) (y0 (.l NN)) (sv W0) (y0 (.l LL)) (si m) (sv th) (sv d) (sv due) (si f)) (h1:=[aK ns 0 v6]) (by simp![e7])];exact e89
end M
namespace L2.MS
open PySem PyProof.Rows
noncomputable def LD:List String:=["is_whole","is_below","pairs_of","gathered","common","either","without","turned","joined","closed","same","every","value_of_name","made","counts","bounds","settled","not_told","and_told","or_told","in_told","count_told","told","fact_told","is_size","widths","bits","check_size","check_bits","world_of","theory_of","places_of","is_tuple_of","holds","names_in","needed_bits","how_many_set","found","smallest","_law_start","_law_draw","_law_names","_law_classes","_law_class","_law_size","_law_bits","_law_caught","_law_due","_law_crowded","_law_answered","_law_papers_told","law"]
noncomputable def Mv:List String:=["WorldError","NoSize","NoPair","NoName","NoCode","NoText","Crowded","TooBig","NoWorld","NoRenaming","NoNumber","Broken","Kept","Unlike","NoRow","NoStand"]
def DS:List String:=["NoSize","NoCode","Crowded"]
def D5:List String:=["WorldError"]
def NF:List String:=["_law_classes"]
noncomputable def Lf:oK:=⟨[("Cases","words"),("Cases","sayings"),("Cases","size"),("Cases","places"),("Cases","whole"),("Search","cases"),("Search","needs")],[("Cases","world_of_code","Cases.world_of_code"),("Cases","truth","Cases.truth"),("Cases","bit_of","Cases.bit_of"),("Cases","is_shown","Cases.is_shown"),("Search","told_of_sayings","Search.told_of_sayings"),("Search","chosen_place","Search.chosen_place"),("Search","told_of_case","Search.told_of_case"),("Search","told_of_halves","Search.told_of_halves")],[("Cases","Cases.__init__"),("Search","Search.__init__")],["Cases.__init__","Cases.world_of_code","Cases.truth","Cases.bit_of","Cases.is_shown","Search.__init__","Search.told_of_sayings","Search.chosen_place","Search.told_of_case","Search.told_of_halves"],[("TooBig","bits"),("NoWorld","papers")]⟩
noncomputable def NM:List (String×List String):=[("_law_names",["_law_pack","_law_many","_law_letters","_law_first","_law_stem","_law_k","_law_at","_law_names_here","_law_name"])]
def BB:Cg:=⟨LD,Mv,DS,D5,Lf,k9,NF⟩
end L2.MS
namespace PySem.W.Fast
def tw9252965251964845123:=Nat
def tw7018185638093572732:=Nat
def tw5052053698583758364:=Nat
def tw7027301871483575519:=Nat
def tw876084442299189940:=Nat
def tw14556808102557471123:=Nat
def tw10004801815193534711:=Nat
def tw9743527431053108419:=Nat
def tw13593506321989131971:=Nat
def tw6712963494250185046:=Nat
def tw11110863308440828236:=Nat
def tw8573670768010315614:=Nat
def tw10367580107476074936:=Nat
def tw2828031080703417680:=Nat
def tw1866065750159160796:=Nat
def tw1558527460997846831:=Nat
def tw10964160425032499250:=Nat
def tw15855373023908270510:=Nat
def tw9461053840708937546:=Nat
def tw10459389561542701288:=Nat
def tw1530118686809198347:=Nat
def tw10639747789821984316:=Nat
def tw3545159350922848710:=Nat
def tw3712520177448552598:=Nat
def tw13828605326216079177:=Nat
def tw14982446985572899553:=Nat
def tw13638559130746896151:=Nat
def tw7831188792427879963:=Nat
def tw4027130518438169575:=Nat
def tw9684537670787329055:=Nat
def tw9520471661389240423:=Nat
def tw12655154007266020330:=Nat
def tw17849656651311761801:=Nat
def tw9758439478641874426:=Nat
def tw8395825740514528248:=Nat
def tw12057672688374696262:=Nat
def tw11119240660618172949:=Nat
def tw13393746248550972916:=Nat
def tw4012112307139928097:=Nat
def tw12278930806254458111:=Nat
def tw11059914562958898356:=Nat
def tw7956304320208309611:=Nat
def tw5146816689709323148:=Nat
def tw8677767589495294859:=Nat
def tw8094000229240123315:=Nat
def tw7968561166893160765:=Nat
def tw6881040340188560113:=Nat
def tw3857261917383386534:=Nat
def tw14972297479404140773:=Nat
def tw13854858814530220314:=Nat
def tw10448834141076724155:=Nat
def tw16727888587203230483:=Nat
def tw16682351502613713260:=Nat
def tw14249552797294454698:=Nat
def tw15326915758335185821:=Nat
def tw9437271051020840171:=Nat
def tw8021090277060659752:=Nat
def tw6028804686683742778:=Nat
def tw17692468876083763627:=Nat
def tw16944279390022943275:=Nat
def tw5682650331281071231:=Nat
def tw3853443027725931299:=Nat
def tw8526531166284466521:=Nat
def tw17273935317350135489:=Nat
def tw8483758809975687744:=Nat
def tw7751946503333708939:=Nat
def tw12297982823713814468:=Nat
def tw16680159893144625035:=Nat
def tw10073845016119317618:=Nat
def tw6668125991719688504:=Nat
def tw4895500012583635613:=Nat
def tw3988490008118734896:=Nat
def tw14280093610533479554:=Nat
def tw14077409757495422580:=Nat
def tw10343425834533338366:=Nat
def tw11197058811863240013:=Nat
def tw17704109000133836572:=Nat
def tw9642257967031048567:=Nat
def tw668034973588096462:=Nat
def tw5716783493723841111:=Nat
def tw10290651373476505598:=Nat
def tw9506690118478062500:=Nat
def tw927598292999046491:=Nat
def tw2733121185536896930:=Nat
def tw17037677582429442958:=Nat
def tw14249091046603288326:=Nat
def tw5537635608845267785:=Nat
def tw17407373404927794216:=Nat
def tw2906285838525369995:=Nat
def tw1924404678290059941:=Nat
def tw12581003570815842978:=Nat
def tw18130919978451270869:=Nat
def tw8220737817741212568:=Nat
def tw11739545925357804535:=Nat
def tw5883072515316767802:=Nat
def tw16927674864586297218:=Nat
def tw2400169125603839335:=Nat
def tw7415220464689453680:=Nat
def tw3328979073070094269:=Nat
def tw6977465817697554719:=Nat
def tw3509449793000298255:=Nat
def tw9276430315230218383:=Nat
def tw4380569807138270154:=Nat
def tw15507332738104374203:=Nat
def tw14574111915737557282:=Nat
def tw5306930182493116696:=Nat
def tw4130875524871056408:=Nat
def tw3695129452225377149:=Nat
def tw10878962308885107661:=Nat
def tw3526840613050442272:=Nat
def tw13289724974323392637:=Nat
def tw9391223714070556560:=Nat
def tw4468611506791338435:=Nat
def tw16077725488010785346:=Nat
def tw15241355781624320298:=Nat
def tw12991756261300705128:=Nat
def tw4690991229758027576:=Nat
def tw15262117212337843724:=Nat
def tw1282307936640508154:=Nat
def tw11824969186886069940:=Nat
def tw10126533585308550132:=Nat
def tw14023169613201503380:=Nat
def tw3038789589577025205:=Nat
def tw16660963664866104865:=Nat
def tw16442715568536532334:=Nat
def tw17635146714107999342:=Nat
def tw17435911088072639496:=Nat
def tw5633639679301127523:=Nat
def tw8819609450167833885:=Nat
def tw16940739126273675406:=Nat
def tw15666255995919566324:=Nat
def tw16679665636330235992:=Nat
def tw2839923220588035619:=Nat
def tw11977704220704413796:=Nat
def tw4315496456434948843:=Nat
def tw4421022121936140427:=Nat
def tw18234995298566310786:=Nat
def tw3285839004300188457:=Nat
def tw18365079012713103287:=Nat
def tw15066882748318578775:=Nat
def tw5849326227354077119:=Nat
def tw3065422337668999563:=Nat
def tw7600197533035688423:=Nat
def tw4719646489364979849:=Nat
def tw14881907587175205182:=Nat
def tw11075383880894632126:=Nat
def tw8069022297092725461:=Nat
def tw8918456940964461499:=Nat
def tw17949626695033353160:=Nat
def tw11723491124117428280:=Nat
def tw8150461041420144999:=Nat
def tw6031041281266717436:=Nat
def tw2968084151403288949:=Nat
def tw15647044468028134123:=Nat
def tw11224958319190055465:=Nat
def tw3560482567735870549:=Nat
def tw13545264592324841969:=Nat
def tw12045979509821173781:=Nat
def tw164378751085203759:=Nat
def tw9972348635105776716:=Nat
def tw16154732759745483606:=Nat
def tw839231379550407556:=Nat
def tw8354283361628558354:=Nat
def tw8175256588670448147:=Nat
def tw16472236561179839563:=Nat
def tw13190015831134692514:=Nat
def tw14967830779465957053:=Nat
def tw13275064098576357505:=Nat
def tw8548042523010684257:=Nat
def tw6991122183706847655:=Nat
def tw18016485879705706901:=Nat
def tw15037379642806321561:=Nat
def tw8548044249988724898:=Nat
def tw2791832804922768979:=Nat
def tw15834072452624029761:=Nat
def tw7063884889448001830:=Nat
def tw17470363029136790364:=Nat
def tw3926104345010120090:=Nat
def tw15623405319686435645:=Nat
def tw12244157228181858400:=Nat
def tw7017719021587355534:=Nat
def tw4778770837227324166:=Nat
def tw15875263642796350874:=Nat
def tw12723627564084127269:=Nat
def tw9230594201670014693:=Nat
def tw16645684007750587657:=Nat
def tw15163149627115106827:=Nat
def tw8034041743166829751:=Nat
def tw18283318916174307555:=Nat
def tw10437420283734709543:=Nat
def tw9455854610310569566:=Nat
def tw9269539717614407055:=Nat
def tw12411034535294856152:=Nat
def tw6066695093781888391:=Nat
def tw11657688923125803233:=Nat
def tw16191079123303442284:=Nat
def tw15344306948780877309:=Nat
def tw5184037403925492712:=Nat
def tw11357333098669808545:=Nat
def tw7563205288635627204:=Nat
def tw6284055965353789839:=Nat
def tw15290597597591625163:=Nat
def tw9386579061024372134:=Nat
def tw7925165085202878234:=Nat
def tw16434188186948391791:=Nat
def tw12111523944926790054:=Nat
def tw13478292331442965375:=Nat
def tw13054348316750877324:=Nat
def tw12427811526918449163:=Nat
def tw11894093158472446681:=Nat
def tw17914899890794167210:=Nat
def tw6272863536504528571:=Nat
def tw6435365221429838953:=Nat
def tw4836043537333308648:=Nat
def tw470113223468634454:=Nat
def tw4376407289429535920:=Nat
def tw2737574750896670105:=Nat
def tw18185517860553798628:=Nat
def tw17051143102330837811:=Nat
def tw16744934229559288915:=Nat
def tw15230162978996617481:=Nat
def tw14838821076693402546:=Nat
def tw12687022933096050255:=Nat
def tw11970955845329742053:=Nat
def tw11917607057105257376:=Nat
def tw11495094841535611018:=Nat
def tw10529035421002981104:=Nat
def tw492220164808586460:=Nat
def tw14111922124960729234:=Nat
def tw7084656368441043704:=Nat
def tw13673864478698485413:=Nat
def tw3336721350809239021:=Nat
def tw1857941329382063788:=Nat
def tw16429790350032991306:=Nat
def tw13799329899185098875:=Nat
def tw12574391017146511440:=Nat
def tw1171949590381491737:=Nat
def tw10088410100939092373:=Nat
def tw6205594027284666712:=Nat
def tw11001027305129735741:=Nat
def tw8252406058231745515:=Nat
def tw4528014730777570212:=Nat
def tw3962179154417062766:=Nat
def tw17696863148745164123:=Nat
def tw15924515380298362756:=Nat
def tw14947185843842351793:=Nat
def tw14746319059056769205:=Nat
def tw12699739817501248252:=Nat
def tw9059923675552737664:=Nat
def tw9927330738510764788:=Nat
def tw9810875278009264192:=Nat
def tw9763395332347234615:=Nat
def tw6352715968296383938:=Nat
def tw1930865242876769764:=Nat
def tw17539057818233347092:=Nat
def tw11979621522722349822:=Nat
def tw11092746286812161362:=Nat
def tw12236182032796771519:=Nat
def tw8076044333527830503:=Nat
def tw18437720639969043846:=Nat
def tw12006982153626848989:=Nat
def tw11944645131195126838:=Nat
def tw11513473310468864965:=Nat
def tw11387227837755912566:=Nat
def tw4491703886005249559:=Nat
def tw17796898854214435054:=Nat
def tw13529394773983415762:=Nat
def tw12821422456285024422:=Nat
def tw8657844332742629304:=Nat
def tw1773514149825085654:=Nat
def tw729488859013076694:=Nat
def tw6861209337840648557:=Nat
def tw17052607876021251903:=Nat
def tw10045926261236288151:=Nat
def tw16281312212295131866:=Nat
def tw7667604785418912615:=Nat
def tw7311996233081898756:=Nat
def tw56196384160356159:=Nat
def tw5286456911728097922:=Nat
def tw232776565310000017:=Nat
def tw10923238818299353842:=Nat
def tw4953135294893290350:=Nat
def tw3305378204733495286:=Nat
def tw16119837927445631814:=Nat
def tw9267417861552753244:=Nat
def tw8630968270619612930:=Nat
def tw8210426135014111852:=Nat
def tw7177404246739309972:=Nat
def tw491196955253549550:=Nat
def tw4801777734568656060:=Nat
def tw4007845544562574379:=Nat
def tw3619021239276786957:=Nat
def tw17244880917260858681:=Nat
def tw17189655316290501661:=Nat
def tw16721388824811803750:=Nat
def tw14319388040648683783:=Nat
def tw13896653609397193802:=Nat
def tw13148330830375054367:=Nat
def tw13026590712874172013:=Nat
def tw9162132106593259896:=Nat
def tw7931129225992568531:=Nat
def tw7671529671966583540:=Nat
def tw4133677434968604006:=Nat
def tw2344774307587283723:=Nat
def tw2077757507864537162:=Nat
def tw1964329314084204875:=Nat
def tw17883029577540378977:=Nat
def tw17378028285861468942:=Nat
def tw16733261793290361345:=Nat
def tw14877452624974632853:=Nat
def tw10174468735414613476:=Nat
def tw11598335225811579410:=Nat
def tw8030126945500615283:=Nat
def tw10991977808182666987:=Nat
def tw1167026642212432209:=Nat
def tw6877337862767275744:=Nat
def tw9224537876913471050:=Nat
def tw8884992419098147521:=Nat
def tw819643147623653909:=Nat
def tw691672635585076096:=Nat
def tw6560251756630236424:=Nat
def tw3968578481293151108:=Nat
def tw3967863535262858791:=Nat
def tw18118750460340756251:=Nat
def tw18046307987529645968:=Nat
def tw1653267973501222345:=Nat
def tw15476425846729726808:=Nat
def tw13340447228008405492:=Nat
def tw13304188560794489459:=Nat
def tw11395956823914780741:=Nat
def tw8926307430102872387:=Nat
def tw8847690369806202606:=Nat
def tw8629761655351384223:=Nat
def tw8459081991010360386:=Nat
def tw7847399165931994748:=Nat
def tw7198648686300996084:=Nat
def tw6313753688074657855:=Nat
def tw6278085709420837201:=Nat
def tw5936797235691097231:=Nat
def tw5712722429602095720:=Nat
def tw5590531009527733931:=Nat
def tw5145915722523353840:=Nat
def tw4854895982480429197:=Nat
def tw3976073661207264544:=Nat
def tw348701340229992333:=Nat
def tw2528421964941430869:=Nat
def tw200770814229912872:=Nat
def tw18253212394618677019:=Nat
def tw17411695902442984907:=Nat
def tw17403344408070514995:=Nat
def tw17235457514826084738:=Nat
def tw1620001062426469111:=Nat
def tw16052347465410456613:=Nat
def tw15787867155884823188:=Nat
def tw15224710802712388911:=Nat
def tw14534011875260302922:=Nat
def tw14200232182821761473:=Nat
def tw1376539647683833065:=Nat
def tw13171413143875442897:=Nat
def tw12702390092720008691:=Nat
def tw12345393503215842454:=Nat
def tw11176630547272303440:=Nat
def tw11135897318949423166:=Nat
def tw10659702775111008991:=Nat
def tw9919542162342544637:=Nat
def tw989917713857514722:=Nat
def tw9891439774923888299:=Nat
def tw9862246508804734842:=Nat
def tw9526229158641326052:=Nat
def tw9368093636682045931:=Nat
def tw9359100186774076361:=Nat
def tw9254377225885995557:=Nat
def tw9200968005350567333:=Nat
def tw9134472030314369803:=Nat
def tw8985284791492866934:=Nat
def tw8972861211872314541:=Nat
def tw8958250050022151763:=Nat
def tw8547346458557422377:=Nat
def tw8327340227540448067:=Nat
def tw8086055944942276306:=Nat
def tw8070498054936415803:=Nat
def tw8023333761944773535:=Nat
def tw7979033556475929450:=Nat
def tw7942965435389773338:=Nat
def tw7918301318202381745:=Nat
def tw7836928551751804172:=Nat
def tw7797102791000032595:=Nat
def tw758340987900023112:=Nat
def tw7127324575535423842:=Nat
def tw6979740107852003755:=Nat
def tw6933377343041778711:=Nat
def tw6836630800560502915:=Nat
def tw6799134240065588786:=Nat
def tw6763666600247382164:=Nat
def tw6760461807069400962:=Nat
def tw6525289010619789832:=Nat
def tw6413013769729633412:=Nat
def tw6374382728684963320:=Nat
def tw6239802904931717280:=Nat
def tw6233443629282241539:=Nat
def tw6190527470290391159:=Nat
def tw6123816730114969491:=Nat
def tw6111895195078764614:=Nat
def tw608355558427631290:=Nat
def tw6000244796047175331:=Nat
def tw5873094865408366543:=Nat
def tw5862414155668428920:=Nat
def tw5826155426666298607:=Nat
def tw5737929999803083863:=Nat
def tw5736425656530540043:=Nat
def tw5686552101869260099:=Nat
def tw5670571970125468107:=Nat
def tw5643701194035175757:=Nat
def tw5137215798486740328:=Nat
def tw5016661643408103699:=Nat
def tw5002346670203784449:=Nat
def tw4928480127332377802:=Nat
def tw4919272463742548839:=Nat
def tw4893438399075779959:=Nat
def tw4823181924632241234:=Nat
def tw4603987770087664892:=Nat
def tw4276904769964529381:=Nat
def tw4253515416889480694:=Nat
def tw4242439862453731195:=Nat
def tw4162351383642227872:=Nat
def tw4159674718378528434:=Nat
def tw4038946920443036006:=Nat
def tw3685842481141801485:=Nat
def tw3664746128965452891:=Nat
def tw3564989729323939497:=Nat
def tw3532413533599969469:=Nat
def tw3074737480039290918:=Nat
def tw3042827425461833462:=Nat
def tw277875609073611739:=Nat
def tw1871344677336563892:=Nat
def tw1831548625609538512:=Nat
def tw1830297491144030196:=Nat
def tw18158877692341237058:=Nat
def tw18155518792195447531:=Nat
def tw18044078416794849058:=Nat
def tw18041276978890621448:=Nat
def tw17978590080156740810:=Nat
def tw17793558930506789064:=Nat
def tw17771137462078485856:=Nat
def tw17770993187736545110:=Nat
def tw1772510827212378547:=Nat
def tw17285132681235780738:=Nat
def tw17279151763167021106:=Nat
def tw17228937058276304796:=Nat
def tw17174777611004784719:=Nat
def tw17034346561391776619:=Nat
def tw16848618856837483821:=Nat
def tw16639237254291974946:=Nat
def tw16637541417876881982:=Nat
def tw1660358850604266420:=Nat
def tw16581539430979705724:=Nat
def tw16465028451095957490:=Nat
def tw16418635137721193626:=Nat
def tw16195479801980719565:=Nat
def tw16147043141304909826:=Nat
def tw15996552397250195206:=Nat
def tw1573953154755375429:=Nat
def tw15731819859734412912:=Nat
def tw15546961672733735898:=Nat
def tw15411337487176040982:=Nat
def tw15392679285934346621:=Nat
def tw15253920976300655430:=Nat
def tw15223887046837260545:=Nat
def tw15169790384507546862:=Nat
def tw15069833933518672513:=Nat
def tw14965145658494012372:=Nat
def tw14924808418545054410:=Nat
def tw17109070624041575308:=Nat
def tw4313727814878259005:=Nat
def tw2930715821254366404:=Nat
def tw14270565965234329801:=Nat
def tw13855524636894159195:=Nat
def tw748263688307099998:=Nat
def tw9919439287007193392:=Nat
def tw2929600059002530214:=Nat
def tw17314240077495638889:=Nat
def tw683654424931834069:=Nat
def tw9819897907827217873:=Nat
def tw13935301516028992588:=Nat
def tw7175750968349079290:=Nat
def tw16124440116399099368:=Nat
def tw1253181305664187081:=Nat
def tw11864859751903471416:=Nat
def tw3633053532133355346:=Nat
def tw17295049951458733781:=Nat
def tw2548823574159446047:=Nat
def tw10930434487490931241:=Nat
def tw13631796920835585553:=Nat
def tw9668062548447185677:=Nat
def tw1298991756229914498:=Nat
def tw16316132371175288638:=Nat
def tw12463577439151826386:=Nat
def tw12068976655146895262:=Nat
def tw14065294003857757275:=Nat
def tw4017397139742813560:=Nat
def tw1283761620610190304:=Nat
def tw130220417752257753:=Nat
def tw16536114493362494696:=Nat
def tw4078413222188529015:=Nat
def tw12875832412183829636:=Nat
def tw2900034026161397536:=Nat
def tw14772142193895566144:=Nat
def tw16399769657811412043:=Nat
def tw18327382900481654925:=Nat
def tw17769004726011366415:=Nat
def tw17737487264484096302:=Nat
def tw8919252401161780284:=Nat
def tw13901902755223132020:=Nat
def tw18234761502171797567:=Nat
def tw2602761996312732029:=Nat
def tw695019785941716652:=Nat
def tw7400756696920768804:=Nat
def tw2318539975069793790:=Nat
def tw4794516626034444050:=Nat
def tw10416056210507289318:=Nat
def tw5938872627940741389:=Nat
def tw13480969767832856281:=Nat
def tw2370807641090218472:=Nat
def tw545237082189712630:=Nat
def tw12195483095870856621:=Nat
def tw12239998957968926254:=Nat
def tw10079038108147526966:=Nat
def tw14620904838683575655:=Nat
def tw11568180275614867451:=Nat
def tw7016392250961780654:=Nat
def tw7242047299450584171:=Nat
def tw382746729288391570:=Nat
def tw1384430232722627948:=Nat
def tw324658288110534906:=Nat
def tw5901572382937970541:=Nat
def tw13015267049938636521:=Nat
def tw6815192903553885701:=Nat
def tw8201551104335302073:=Nat
def tw7260356570366599041:=Nat
def tw9620277227083908970:=Nat
def tw12684563246457912997:=Nat
def tw17267887915945247056:=Nat
def tw4753180593641231222:=Nat
def tw6207097867650687971:=Nat
def tw16950953972635909676:=Nat
def tw6843503521261384452:=Nat
def tw4147381378558240966:=Nat
def tw9487877048054525745:=Nat
def tw5777952747110998997:=Nat
def tw17912553564847312835:=Nat
def tw4772227011442327365:=Nat
def tw11318684162311410762:=Nat
def tw10623370814201988525:=Nat
def tw12945969873603105054:=Nat
def tw16203463899256984508:=Nat
def tw15879601875035393543:=Nat
def tw1804911126303635987:=Nat
def tw8861703352527988667:=Nat
def tw6262874419795836692:=Nat
def tw3933049091583644073:=Nat
def tw312545627227253298:=Nat
def tw4218077846510823179:=Nat
def tw6549040695478305340:=Nat
def tw5263980979556589720:=Nat
def tw12763769761765942841:=Nat
def tw8566795756632144644:=Nat
def tw3282780620515529061:=Nat
def tw11970571368976516397:=Nat
def tw11294023887236312776:=Nat
def tw9919320403296273841:=Nat
def tw1478476557457873210:=Nat
def tw12783838471237083909:=Nat
def tw12964185164411597259:=Nat
def tw15724953978681542413:=Nat
def tw4423398782839702297:=Nat
def tw14897729466594729361:=Nat
def tw14326586885453225053:=Nat
def tw9878060314725286773:=Nat
def tw8357308060973146747:=Nat
def tw1576813075184997453:=Nat
def tw8496391542327528463:=Nat
def tw11733102839721312398:=Nat
def tw7949903212562516404:=Nat
def tw3081030684142343145:=Nat
def tw8851728434292387753:=Nat
def tw16586055039934648301:=Nat
def tw17738329433722471553:=Nat
def tw16045106362396227737:=Nat
def tw3059239844958685205:=Nat
def tw17739427812637527256:=Nat
def tw1325547502405836060:=Nat
def tw17925685611756251777:=Nat
def tw15294761445247228051:=Nat
def tw15328699710696697198:=Nat
def tw4801531099881053828:=Nat
def tw15732414961150082047:=Nat
def tw10444113280072449843:=Nat
def tw1173091733170244087:=Nat
def tw18307601790137520516:=Nat
def tw16775335758346074498:=Nat
def tw15407049953859304000:=Nat
def tw138332920589807579:=Nat
def tw4220532003646119025:=Nat
def tw3319230247135019124:=Nat
def tw15640255136602872217:=Nat
def tw829929210751685667:=Nat
def tw1388969277323900050:=Nat
def tw16714080126120888415:=Nat
def tw13449738269091633093:=Nat
def tw10666705755052767493:=Nat
def tw162476175380811611:=Nat
def tw6406717545577932541:=Nat
def tw3691342739503475518:=Nat
def tw8948908670097889638:=Nat
def tw4748999150708955122:=Nat
def tw4008229618831243078:=Nat
def tw4680206109026615553:=Nat
def tw2151619526304810627:=Nat
def tw13437671157654166271:=Nat
def tw7224738666136350993:=Nat
def tw14845559122118669881:=Nat
def tw10458552328863087241:=Nat
def tw12844622866032419968:=Nat
def tw17440283888443886826:=Nat
def tw7361822532009488730:=Nat
def tw12887136406863681953:=Nat
def tw12125462953591562487:=Nat
def tw12020820856742304888:=Nat
def tw1106579045903665427:=Nat
def tw574354163086392898:=Nat
def tw16078044812923543823:=Nat
def tw6254852514083576669:=Nat
def tw2122922969012853578:=Nat
def tw14755012326602396017:=Nat
def tw9752194885202518164:=Nat
def tw12643839384173939476:=Nat
def tw15236122033941060595:=Nat
def tw8287505982011763938:=Nat
def tw10433214327126176254:=Nat
def tw4267135412670012727:=Nat
end PySem.W.Fast
open PySem PySem.W PyProof.Rows
set_option maxRecDepth 100000 in
set_option maxHeartbeats 0 in
theorem PySem.Challenge.cw_worldfind_k34_sizes_refused_holds : PySem.Challenge.rw_worldfind_k34_sizes_refused.Holds := by
 w_on;o_law;k_head;(case hw=>w_witness2)
 k_fill
 refine L2.MS.walk (l:=PySem.Challenge.rw_worldfind_k34_sizes_refused) (x:= "_law_script") (2*70+3) ⟨fun _=>rfl,by decide,by decide⟩ rfl rfl (fun w h Y=>PySem.W.kIn_of Y) ?F
 case F=>
  intro w mg fa h KX G hmg;exact L2.MS.i9 M.prog L2.MS.BB L2.MS.NM 69 KX G hmg (by kernel_rfl) M.gD
