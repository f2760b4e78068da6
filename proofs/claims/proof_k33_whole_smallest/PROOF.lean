import PyProof.Rows.All
import Wide.All
import OpenK.AllK
import Wide.FinOn
import Lean
import PyProof.EqAt
import PyProof.EqKinds
import PyProof.TupleCall
import PyProof.NeKinds
import PyProof.NsDelKeeps
import KE.KRevSl
import PyProof.StrWalks
import PyProof.ConsumeWalk
import PyProof.SumWalk
import PyProof.Rows.SortStr
import PyProof.SumWalkG
import PyProof.StrCalls2
import PyProof.StrLawsIdx
import PyProof.WalkInts
import PyProof.StrOps2
import PyProof.SliceStr2
import PyProof.Draws
import PyProof.EnumMake
import PyProof.Rows.SetFrom
import PyProof.SetRoads
import PyProof.WalksMore
import PyProof.ListRange
import PyProof.TupleOfSeq
import PyProof.TupleOfGen
import PyProof.Rows.SortShell
import PyProof.ZipIter
import PyProof.DictStraight
import PyProof.TupleKey
import PyProof.DictRoadsH
import PyProof.DictTruth
import PyProof.Rows.TupTab
import KE.KTabLook
import PyProof.FString
import PyProof.CallStr
import KE.KIntText
import PyProof.Rows.Range3
import PyProof.DictRoads
import PyProof.Rows.StrNews2
import KE.KDictOf
import KE.KMinKey
import PySem.Challenge.RW_worldfind_k33_whole_smallest
set_option Elab.async false
set_option linter.all false
set_option maxRecDepth 100000
set_option compiler.extract_closed false
abbrev Y0:=List
abbrev Y1:=Option
abbrev Y2:=PySem.Value
abbrev Y3:=PySem.Shared
abbrev Y4:=PySem.Expr
abbrev Y5:=PySem.Addr
abbrev Y6:=PySem.Heap
abbrev Y7:=PySem.Stmt
abbrev Y8:=PySem.World
abbrev Y9:=PySem.Program
abbrev YQ:=PySem.Around
abbrev YZ:=PySem.FuncData
abbrev YX:=PySem.Scope
abbrev YJ:=PySem.Env
local macro_rules | `(tactic| omega) => `(tactic| lia)
set_option bootstrap.genMatcherCode false
noncomputable section
open List renaming length_map → Aa, getElem?_eq_some_iff → Aa1, mem_cons_of_mem → Aa2, mem_cons_self → Aa3, getElem?_eq_getElem → Aa4, length_append → Aa5, length_cons → Aa6, range → Aa7, replicate → Aa9, mem_append_right → Ab0, map_cons → Ab2, size_toArray → Ab4, getElem?_set_self → Ab6, mem_cons → Ab7, lookup_cons → Ab8, mem_range → Ab9, mem_map → Ac, getElem?_map → Ac1, mem_of_getElem? → Ac4, getElem?_append_left → Ac5, mem_singleton → Ac6, getD_eq_getElem?_getD → Ac7, mem_append → Ac9, mem_append_left → Ad0, getElem?_set_ne → Ad1, any_eq_true → Ad2, length_set → Ad3, getElem?_append_right → Ad6, length_nil → Ad7, append_nil → Ad8, map_map → Ae, set_set → Ae1, length_replicate → Ae2, append_assoc → Ae3, nil_append → Ae6, map_nil → Ae9, replicate_succ → Af0, map_append → Af1, length_take → Af6, length_drop → Af7, isEmpty_iff → Af8, any_cons → Ag7, lookup → Ah1, range_succ_eq_map → Ah3, nodup_cons → Ah9, length_range → Ai, map_congr_left → Ai1, getElem?_replicate → Ai2, not_mem_nil → Ai4, eq_nil_of_length_eq_zero → Ai5, all_eq_true → Ai6, take_of_length_le → Ai7, mem_filter → Ai9, length_filter_le → Aj, nodup_append → Aj1, flatMap_cons → Aj2, filterMap_cons → Aj8, pairwise_cons → Ak0, foldl_cons → Ak1, range' → Ak6, any_eq_false → Ak7, range'_succ → Al4, getElem_mem → Al5, filter_cons → Al6, range_eq_range' → Al7, all_cons → Al8, length_zip → Al9, getElem_of_mem → Am, drop_eq_getElem_cons → Am5, getElem?_take_of_lt → Am7, sum_cons → An, set_append_right → An4, filter_map → An5, all_map → An6, mem_filterMap → Ao9, Pairwise → Ap, any_map → Ap4, take_length → Ap7, cons_append → Ap8
open Bool renaming and_eq_true → Aa0, false_ne_true → Ac2, false_and → Ae4, true_and → Ae5, or_eq_true → Ae7, not_eq_true' → Ag1, and_false → Ah0, false_eq_true → Ak2, eq_false_iff → Ak8, true_or → Am3, not_true → An0, or_true → An8, not_false → Ao5, or_eq_true_iff → Ao7, not_eq_true → Ap9, noConfusion → Aq
open Nat renaming le_refl → Aa8, lt_of_lt_of_le → Ab3, le_trans → Ab5, ne_of_lt → Ac3, pow_le_pow_right → Ad, two_pow_pos → Ad4, testBit_two_pow → Ae0, testBit_or → Ae8, zero_le → Af2, and_two_pow_sub_one_eq_mod → Af3, mul_le_mul → Af5, zero_testBit → Af9, lt_succ_self → Ag, le_succ → Ag0, testBit_two_pow_sub_one → Ag2, not_lt_zero → Ag3, le_of_lt → Ag5, testBit_mod_two_pow → Ag8, testBit_div_two_pow → Ag9, testBit_and → Ah2, lt_of_le_of_lt → Ah6, lt_irrefl → Ai3, testBit_lt_two_pow → Ai8, mod_lt → Aj4, eq_of_testBit_eq → Aj6, testBit_two_pow_self → Ak, min_eq_left → Ak3, or_lt_two_pow → Ak9, sub_self → Al2, le_of_eq → Al3, div_add_mod → Am0, zero_add → Am4, add_sub_cancel_left → An1, mul_comm → Ao, not_le → Ao1, pow_lt_pow_right → Ao3, mul_le_mul_right → Ao4, sub_le → Ap2, le_succ_of_le → Ap3, ne_of_gt → Ap5, add_comm → Ap6
open PySem.W renaming Frag → Ab, kia_one → Af, keepIn → Ah5, emptyDict → Ah7, instObj → Aj9, findIn → Ak4, plainGet → Am6, cellsFrom_some → Am8, lookIn → An2, kitOne → An3, plainGet_of → An9, callWith_K → Ao2, kitx_list → Ao8
open PySem.Heap renaming get?_push_of_some → Ab1, lt_size → Ac0, get?_push_size → Ac8, size_push → Aj7, get?_update_other → Ak5, get?_update_self → Al0, SameBut → Al1, FlyingW → An7, get?_update_ne → Ao6
open Int renaming toNat_natCast → Ad5, eq_ofNat_of_zero_le → Ah, fdiv_eq_ediv_of_nonneg → Am1, emod_nonneg → Ao0, natCast_nonneg → Ap0, emod_lt_of_pos → Ap1
open Option renaming some → Ad9, bind_some → Af4, map_eq_some_iff → Ag4, bind_eq_some_iff → Ag6, isSome_iff_exists → Ah8, isNone_iff_eq_none → Aj5, getD_some → Al, getD_none → Am9
open Classical renaming choose_spec → Ah4, byContradiction → Aj0, choose → Aj3, propDecidable → Am2
open Array renaming length_toList → Ai0
open Decidable renaming decide → y9
open Option renaming some → k0, none → y0
open Bool renaming true → u0, false → k9
open Array renaming size→Array.j,toList→Array.p
open Bool renaming toNat→Bool.j
open Eq renaming trans→Eq.j,symm→Eq.p
open False renaming elim→False.j
open Iff renaming trans→Iff.j,mp→Iff.p,mpr→Iff.q
open Int renaming toNat→Int.j,natAbs→Int.p
open List renaming length→List.e,map→List.j,lookup→List.p,toArray→List.q,contains→List.u,set→List.w,isEmpty→List.y,any→List.z,take→List.A,Nodup→List.B,getD→List.C,drop→List.J,all→List.K,flatten→List.L,flatMap→List.N,filter→List.Q,filterMap→List.T,foldl→List.U,sum→List.X,zip→List.Z
open Nat renaming testBit→Nat.j
open Option renaming map→Option.j,bind→Option.p,isSome→Option.q,isNone→Option.u,join→Option.w
open Or renaming elim→Or.j,inl→Or.p,inr→Or.q,resolve_right→Or.u,resolve_left→Or.w
open PyProof.Rows.IsTup renaming typeIs→PyProof.Rows.IsTup.Y
open PySem.Around renaming in1→PySem.Around.j,handled→PySem.Around.p,units→PySem.Around.q
open PySem.Code renaming builtin→PySem.Code.q
open PySem.Const renaming str→PySem.Const.j
open PySem.Data renaming cell→PySem.Data.p,seq→PySem.Data.j,fields→PySem.Data.q,dict→PySem.Data.u
open PySem.Env renaming scope→PySem.Env.j,locals→PySem.Env.p,cells→PySem.Env.q,kindOf→PySem.Env.u
open PySem.ExceptHandler renaming ExceptHandler→PySem.ExceptHandler.j
open PySem.Expr renaming Name→PySem.Expr.j,Attribute→PySem.Expr.p,Subscript→PySem.Expr.q,Constant→PySem.Expr.u,Call→PySem.Expr.w,BoolOp→PySem.Expr.y,ListComp→PySem.Expr.z,Compare→PySem.Expr.A,Tuple→PySem.Expr.B,UnaryOp→PySem.Expr.C
open PySem.FuncData renaming scope→PySem.FuncData.j,params→PySem.FuncData.p
open PySem.Heap renaming objs→PySem.Heap.j,get?→PySem.Heap.p,push→PySem.Heap.q,update→PySem.Heap.u,IsCell→PySem.Heap.w,FunFrames→PySem.Heap.y,IsList→PySem.Heap.z
open PySem.NameKind renaming cell→PySem.NameKind.p,free→PySem.NameKind.u
open PySem.Obj renaming dict→PySem.Obj.u,data→PySem.Obj.j
open PySem.Paired renaming cons→PySem.Paired.j,nil→PySem.Paired.p
open PySem.PlainL renaming isList→PySem.PlainL.G
open PySem.Pos renaming endLine→PySem.Pos.j,line→PySem.Pos.p
open PySem.Scope renaming names→PySem.Scope.j,kind→PySem.Scope.p
open PySem.ScopeKind renaming function→PySem.ScopeKind.j
open PySem.Shared renaming heap→PySem.Shared.j,toks→PySem.Shared.p
open PySem.Slot renaming lookup→PySem.Slot.p
open PySem.Stmt renaming Assign→PySem.Stmt.j
open PySem.Str renaming length→PySem.Str.e,cps→PySem.Str.j
open PySem.Value renaming int→PySem.Value.o,ref→PySem.Value.p,type→PySem.Value.j,builtin→PySem.Value.q,none→PySem.Value.u,bool→PySem.Value.w
open PySem.World renaming params→PySem.World.p
open Sum renaming inr→Sum.q
namespace L2
open PySem PySem.Spec PyProof.Rows
abbrev dz:=Sum Int Str
noncomputable def nq:dz->Y2->Bool
 | .inl k,v=>Value.isInt k v
 | .q x,v=>Value.isStrOf x v
noncomputable def Hl (w:Y8):dz->Int
 | .inl k=>hashInt k
 | .q x=>hashStr w x
def qd: ∀ {k}{v},nq k v=u0->(∃ i t,k=Sum.inl i/\v=Value.int i t)\/(∃ x t,k=Sum.inr x/\v=Value.str x t)
 | .inl i,v,h=>by
  obtain⟨t,e⟩:=Value.isInt_shape h
  exact .p ⟨i,t,rfl,e⟩
 | .q x,v,h=>by
  obtain⟨t,e⟩:=Value.isStrOf_shape h
  exact .q ⟨x,t,rfl,e⟩
def D7 (x) (t):nq (.q x) (.str x t)=true:=by simp [nq,Value.isStrOf]
def MQ (a b):y9 ((Sum.inl a:dz)=Sum.inl b)=(a==b):=by grind
def DB (a b):y9 ((Sum.inr a:dz)=Sum.inr b)=y9 (a=b):=by simp
def BQ (a) (b):y9 ((Sum.inl a:dz)=Sum.inr b)=false:=decide_eq_false (λq=>nomatch q)
def CN (a) (b):y9 ((Sum.inr a:dz)=Sum.inl b)=false:=decide_eq_false (λq=>nomatch q)
noncomputable def Jx (prog:Y9) (w:Y8):PySem.KeyKind prog w dz where
 is:=nq
 hash:=Hl w
 inj:=λv a b g d=>by
  rcases qd g with⟨i,t,rfl,rfl⟩ | ⟨x,t,rfl,rfl⟩
  .rcases qd d with⟨j,u,rfl,e⟩ | ⟨y,u,rfl,e⟩
   .injection e with e1 _;rw [e1]
   .exact nomatch e
  .rcases qd d with⟨j,u,rfl,e⟩ | ⟨y,u,rfl,e⟩
   .exact nomatch e
   .injection e with e1 _;rw [e1]
 byValue:=λk v h=>by
  rcases qd h with⟨i,t,rfl,rfl⟩ | ⟨x,t,rfl,rfl⟩<;>rfl
 pyHash:=λc h=>by
  rcases qd c with⟨i,t,rfl,rfl⟩ | ⟨x,t,rfl,rfl⟩
  .exact wpAny_pyHash_int h
  .exact wpAny_pyHash_str h
 eqBool:=λf c h=>by
  rcases qd f with⟨i,t,rfl,rfl⟩ | ⟨x,t,rfl,rfl⟩
  .rcases qd c with⟨j,u,rfl,rfl⟩ | ⟨y,u,rfl,rfl⟩
   .rw [MQ]at h;exact wpAny_eqBool_int h
   .rw [BQ]at h;exact SeqAt.EqAt.int_str i t y u _ _ _ _ h
  .rcases qd c with⟨j,u,rfl,rfl⟩ | ⟨y,u,rfl,rfl⟩
   .rw [CN]at h;exact SeqAt.EqAt.str_int x t j u _ _ _ _ h
   .rw [DB]at h;exact wpAny_eqBool_str h
 «strs» :=λk x t v h=>by
  rcases qd h with⟨i,u,rfl,e⟩ | ⟨y,u,rfl,e⟩
  .exact nomatch e
  .injection e with e1 _
   subst e1
   cases v<;>rfl
def zl (prog) (w) (x) (t):(Jx prog w).is (.q x) (.str x t)=true:=D7 x t
inductive V where
 | ak | bl (b:Bool) | int (i:Int) | str (x:Str) | kP (b:Array UInt8) | iS (b:UInt64) | ref (a:Addr) | ty (n:String)
 deriving DecidableEq
open L2 renaming V.int→L2.V.o,V.str→L2.V.j,V.ref→L2.V.p,V.bl→L2.V.C
def RelV:V->Y2->Prop
 | .ak,u=>u=Value.none
 | .C b,u=>u=Value.bool b
 | .o i,u=> ∃t,u=Value.int i t
 | .j x,u=> ∃t,u=Value.str x t
 | .kP b,u=> ∃t,u=Value.bytes b t
 | .iS b,u=> ∃t,u=Value.float b t
 | .p a,u=>u=Value.ref a
 | .ty n,u=>u=Value.type n
abbrev Vals:Y0 V->Y0 Y2->Prop:=Paired RelV
theorem Vals.length (r:Vals xs us):xs.e=us.e:=Paired.length r
open L2 renaming Vals.length→L2.Vals.e
theorem Vals.get: ∀ {xs}{us}{i:Nat}{x},Vals xs us->xs[i]? =k0 x-> ∃u,us[i]? =k0 u/\RelV x u
 | _,_,_,_,.p,e=>by simp at e
 | _,_,0,_,.j r _,e=>by simp at e;subst e;exact⟨_,rfl,r⟩
 | _,_,i+1,x,.j _ t,e=>by
  obtain⟨u,b,a⟩:=Vals.get t (by simpa using e)
  exact⟨u,by simpa using b,a⟩
theorem Vals.set (r:RelV x u): ∀ {xs}{j} i,Vals xs j->Vals (xs.w i x) (j.w i u)
 | _,_,_,.p=> .p
 | _,_,0,.j _ t=> .j r t
 | _,_,i+1,.j q t=> .j q (Vals.set r i t)
theorem Vals.append: ∀ {xs ys}{i ws},Vals xs i->Vals ys ws->Vals (xs++ys) (i++ws)
 | _,_,_,_,.p,s=>s
 | _,_,_,_,.j r t,s=> .j r (Vals.append t s)
theorem Vals.take: ∀ {xs}{i}(n),Vals xs i->Vals (xs.A n) (i.A n)
 | _,_,0,_=> .p
 | _,_,_+1,.p=> .p
 | _,_,n+1,.j r t=> .j r (Vals.take n t)
theorem Vals.drop: ∀ {xs}{i}(n),Vals xs i->Vals (xs.J n) (i.J n)
 | _,_,0,r=>r
 | _,_,_+1,.p=> .p
 | _,_,n+1,.j _ t=>Vals.drop n t
def b0:Y1 V->Y1 Y2->Prop
 | some v,k0 u=>RelV v u
 | none,none=>True
 | _,_=>False
def KV {a:Type}:Y0 (a×V)->Y0 (a×Y2)->Prop:=Paired λ(p:a×V) (q:a×Y2)=>p.1=q.1/\RelV p.2 q.2
noncomputable def kV:dz->V
 | .inl i=> .o i
 | .q x=> .j x
inductive HO where
 | lst (xs:List V)
 | tup (xs:List V)
 | dK (kvs:List (dz×V)) | dT (kvs:List (List dz×V))
 | set (S:Int->Bool) (n:Nat)
 | ins (C dx:Addr) (fs:List (Str×V))
 | own (x:Addr)
 | xd (fs:List (Str×V))
 | met (f x:Addr)
 | iE (lo hi:Int)
 | eE (o:Obj) (u:HO)
 | iK (ps:Array Value)
 | ext (φ:Heap->Prop)
open L2 renaming HO.tup→L2.HO.q,HO.lst→L2.HO.u,HO.own→L2.HO.j,HO.ins→L2.HO.p
abbrev Hp:=Y5->Y1 HO
noncomputable def aF (H:Hp) (a:Y5) (o:HO):Hp:=λb=>if b=a then k0 o else H b
def zb :aF H a o a=k0 o:=by unfold aF;rw [if_pos rfl]
def Za (h:b≠a):aF H a o b=H b:=by unfold aF;rw [if_neg h]
def Zb {H:Hp}(h:H a=k0 o) (h':H b=y0):a≠b:=by
 intro e;subst e;rw [h]at h';cases h'
def dD (h:Y6) (a:Y5) (b:Array Y2):Prop:= ∃o,h.p a=some o/\o.cls= .j "tuple" /\o.u=none/\ ∃n,o.j= .j b n
def dD.is (p:dD h a k8):IsTup h a k8:=let ⟨o,e,c,_,n,d⟩:=p; ⟨o,e,c,n,d⟩
theorem dD.lt (p:dD h a k8):a<h.j.j:=p.is.lt
def dD.new (h:Y6) (k8):dD (h.q { cls:= .j "tuple",data:= .j k8 }) h.j.j k8:=⟨_,Heap.get?_push_size _ rfl,rfl,rfl,_,rfl⟩
section
variable (P:Y9) (w:Y8)
def aW (H:Hp) (h:Y6) (a:Y5):HO->Prop
 | .u xs=>xs.e<=sizeLine/\ ∃(b:Y0 Y2) (n:Nat),Vals xs b/\h.p a=k0 { cls:= .j "list",data:= .j b.q n }
 | .q xs=>xs.e<=sizeLine/\ ∃b:Y0 Y2,Vals xs b/\dD h a b.q
 | .dK kvs=>kvs.e<=sizeLine/\(a==sysModules)=k9/\ ∃d,KV kvs d/\h.DictOf (Jx P w) a d
 | .dT kvs=>kvs.e<=sizeLine/\(a==sysModules)=k9/\ ∃xs:Y0 (Y0 dz×Y5×Y2),
  Paired (λ(p:Y0 dz×V) (q:Y0 dz×Y5×Y2)=>p.1=q.1/\H q.2.1=k0 (.q (p.1.j kV))/\RelV p.2 q.2.2) kvs xs ∧
  ∃o es e,h.p a=k0 o/\o.ExactDict/\o.j= .u es e/\es.p=xs.j (entryOfKey (tupleKind (Jx P w)))/\(xs.j (·.1)).B
 | .set S n=>h.SetOf (intKind P w) a S n
 | .p C dx fs=>H dx=k0 (.j a)/\fs.e<=1000/\dx≠a/\h.p a=k0 (Aj9 C dx) ∧
  ∃mA,h.Ns1 dx mA/\(∀ f,b0 (fs.p f) (mA f))/\PySem.Within mA (fs.j (·.1))
 | .j _=> ∃o,h.p a=k0 o
 | .xd fs=> ∃mA,h.Ns1 a mA/\ ∀f,b0 (fs.p f) (mA f)
 | .iE lo hi=> ∃t u v,h.p a=k0 { cls:= .j "range",data:= .q #[.o lo t,.o hi u,.o 1 v] }
 | .eE o u=>h.p a=k0 o/\aW H h a u
 | .iK ps=>h.p a=k0 { cls:= .u,data:= .q ps }
 | .met f x=>h.p a=k0 (PySem.W.methodObj (.p f) (.p x))
 | .ext c=>c h/\(∃ o,h.p a=k0 o)/\ ∀h1 h2:Y6,c h1->(∀ o,h1.p a=k0 o->h2.p a=k0 o)->c h2
def cZ (H:Hp) (h:Y6):Prop:= ∀a o,H a=k0 o->aW P w H h a o
end
section
variable {P:Y9}{w:Y8}{H H':Hp}{h h':Y6}{a:Y5}{o:HO}
theorem aW.lt (x:aW P w H h a o):a<h.j.j:=by
 cases o with
 | lst c=>obtain⟨_,_,_,_,e⟩:=x;exact Ac0 e
 | tup c=>obtain⟨_,_,_,p⟩:=x;exact p.lt
 | dK b=>obtain⟨_,_,_,_,o,_,_,e,_⟩:=x;exact Ac0 e
 | dT b=>obtain⟨_,_,_,_,o,_,_,e,_⟩:=x;exact Ac0 e
 | set S n=>obtain⟨o,_,_,_,e,_⟩:=x;exact Ac0 e
 | ins C i fs=>obtain⟨_,_,_,e,_⟩:=x;exact Ac0 e
 | own y=>obtain⟨_,e⟩:=x;exact Ac0 e
 | xd fs=>obtain⟨_,⟨_,_,_,e,_⟩,_⟩:=x;exact Ac0 e
 | iE l k=>obtain⟨_,_,_,e⟩:=x;exact Ac0 e
 | eE d u=>obtain⟨e,_⟩:=x;exact Ac0 e
 | iK j=>exact Ac0 (x)
 | met f y=>exact Ac0 (x)
 | ext g=>obtain⟨_,⟨_,e⟩,_⟩:=x;exact Ac0 e
theorem Paired.l4 : ∀ {j}{i},Paired F j i->(∀ a b,F a b->G a b)->Paired G j i
 | _,_,.p,_=> .p
 | _,_,.j r t,f=> .j (f _ _ r) (Paired.l4 t f)
def aW.cY (x:aW P w H h a o) (k: ∀b u,(b=a\/H b=k0 (.j a))->h.p b=k0 u->h'.p b=k0 u)
 (F: ∀b,H b=k0 (.j a)->H' b=k0 (.j a)) (D: ∀b xs,H b=k0 (.q xs)->H' b=k0 (.q xs)):aW P w H' h' a o:=by
 induction o with
 | lst xs=>obtain⟨z,l,n,r,e⟩:=x;exact⟨z,l,n,r,k _ _ (.p rfl) e⟩
 | tup xs=>obtain⟨z,l,r,g,e,c⟩:=x;exact⟨z,l,r,g,k _ _ (.p rfl) e,c⟩
 | dK A=>obtain⟨z,y,E,r,g,i,j,e,c⟩:=x;exact⟨z,y,E,r,g,i,j,k _ _ (.p rfl) e,c⟩
 | dT A=>
  obtain⟨z,y,xs,r,g,i,j,e,c⟩:=x
  exact⟨z,y,xs,Paired.l4 r λp q z=>⟨z.1,D _ _ z.2.1,z.2.2⟩,g,i,j,k _ _ (.p rfl) e,c⟩
 | set S n=>obtain⟨g,i,j,t,e,c⟩:=x;exact⟨g,i,j,t,k _ _ (.p rfl) e,c⟩
 | ins C J fs=>
  obtain⟨d,z,ne,e,s,⟨m,i,j,e2,c⟩,r⟩:=x
  exact⟨F _ d,z,ne,k _ _ (.p rfl) e,s,⟨m,i,j,k _ _ (.q d) e2,c⟩,r⟩
 | own y=>obtain⟨g,e⟩:=x;exact⟨g,k _ _ (.p rfl) e⟩
 | xd fs=>obtain⟨s,⟨m,i,j,e,c⟩,r⟩:=x;exact⟨s,⟨m,i,j,k _ _ (.p rfl) e,c⟩,r⟩
 | iE M L=>obtain⟨t,u,v,e⟩:=x;exact⟨t,u,v,k _ _ (.p rfl) e⟩
 | eE g u G=>obtain⟨e,q⟩:=x;exact⟨k _ _ (.p rfl) e,G q⟩
 | iK K=>
  have e:=x
  exact k a _ (.p rfl) e
 | met f y=>
  have e:=x
  exact k a _ (.p rfl) e
 | ext I=>obtain⟨p,⟨o,e⟩,B⟩:=x;exact⟨B _ _ p λo q=>k _ _ (.p rfl) q,⟨o,k _ _ (.p rfl) e⟩,B⟩
theorem cZ.lt (x:cZ P w H h) (e:H a=k0 o):a<h.j.j:=(x a o e).lt
def cZ.fresh (x:cZ P w H h) (e:h.j.j<=a):H a=none:=by
 cases q:H a with
 | none=>rfl
 | some u=>exact absurd (Ab3 (x.lt q) e) (Ai3 _)
def cZ.kept (x:cZ P w H h) (k: ∀b u,h.p b=k0 u->h'.p b=k0 u):cZ P w H h':=λa o e=>
 (x a o e).cY (λb u _ q=>k b u q) (λ_ q=>q) λ_ _ q=>q
def cZ.laid (x:cZ P w H h) (k: ∀b u,h.p b=k0 u->h'.p b=k0 u) (g:h.j.j<=a) (new:aW P w (aF H a o) h' a o):cZ P w (aF H a o) h':=λb u e=>by
 have d:=x.fresh g
 by_cases f:b=a
 .subst f;rw [zb]at e;cases e;exact new
 .rw [Za f]at e
  exact(x b u e).cY (λc v _ q=>k c v q) (λc q=>by rw [Za (Zb q d)];exact q) λc i q=>by rw [Za (Zb q d)];exact q
end
def Rd (H:Hp) (a:Y5) (u:HO):Prop:=H a=k0 u\/ ∃o,H a=k0 (.eE o u)
def Rd.ok (r:Rd H a u) (x:cZ P w H h):aW P w H h a u:=by
 rcases r with r | ⟨o,r⟩
 .exact x a u r
 .obtain⟨_,q⟩:=x a _ r
  exact q
def ny:Y1 HO->Prop
 | some (.u _)=>True
 | some (.dK _)=>True
 | some (.dT _)=>True
 | some (.set _ _)=>True
 | some (.p _ _ _)=>True
 | some (.ext _)=>True
 | _=>False
section
variable {P:Y9}{w:Y8}{H:Hp}{h h':Y6}{x e:Y5}{o':HO}
def cZ.write (ok:cZ P w H h) (j:ny (H x)) (n:e=x\/H e=k0 (.j x)) (k: ∀b u,b≠e->h.p b=k0 u->h'.p b=k0 u) (m: ∃u,h'.p e=k0 u)
 (new:aW P w (aF H x o') h' x o'):cZ P w (aF H x o') h':=λb u q=>by
 have d: ∀c y,H c=k0 (.j y)->c≠x:=λc y r z=>by subst z;rw [r]at j;exact j
 have f: ∀c i,H c=k0 (.q i)->c≠x:=λc i r z=>by subst z;rw [r]at j;exact j
 by_cases l:b=x
 .subst l;rw [zb]at q;cases q;exact new
 .rw [Za l]at q
  by_cases a:b=e
  .have o:H b=k0 (.j x):=by
    rcases n with z | z
    .exact absurd (a.j z) l
    .rw [a];exact z
   rw [q]at o;cases o
   obtain⟨v,p⟩:=m
   exact⟨v,by rw [a];exact p⟩
  .refine(ok b u q).cY (λc v g r=>k c v ?_ r) (λc r=>by rw [Za (d c b r)];exact r) λc i r=>by rw [Za (f c i r)];exact r
   rcases g with rfl | g
   .exact a
   .rintro rfl
    rcases n with z | z
    .exact d c b g z
    .rw [g]at z;cases z;exact l rfl
end
structure Un (fs ex:List Addr) (H H':Hp) (h h':Heap):Prop where
 keep: ∀b o,h.p b=k0 o->H b=y0->b∉fs->b∉ex->h'.p b=k0 o
 slot: ∀b o,h.p b=k0 o->H b=y0->b∈fs->b∉ex-> ∃sl,h'.p b=k0 { o with slots:=sl }
 free: ∀b o,h.p b=k0 o->H b=y0->b∉ex->H' b=y0
 there: ∀b o,h.p b=k0 o->b∉ex-> ∃o',h'.p b=k0 o'
 de: ∀b xs,H b=k0 (.q xs)->H' b=k0 (.q xs)
 cU: ∀b o u,H b=k0 (.eE o u)->H' b=k0 (.eE o u)
 dc: ∀b ps,H b=k0 (.iK ps)-> ∃more,H' b=k0 (.iK (ps++more))
open L2 renaming Un.free→L2.Un.u,Un.keep→L2.Un.p,Un.slot→L2.Un.q,Un.there→L2.Un.j
section
variable {fs fs' ex ex':Y0 Y5}{H H1 H2:Hp}{h h1 h2 h':Y6}{a x e:Y5}{o:HO}
def Un.any (u:Un fs ex H H1 h h1)(q:h.p b=k0 ob) (n:H b=y0) (a:b∉ex): ∃sl,h1.p b=k0 { ob with slots:=sl }:=by
 by_cases c:b∈fs
 .exact u.q b ob q n c a
 .exact⟨ob.slots,u.p b ob q n c a⟩
def Un.kept (k: ∀b u,h.p b=k0 u->h'.p b=k0 u):Un fs ex H H h h':=
 ⟨λb a q _ _ _=>k b a q,λb a q _ _ _=>⟨a.slots,k b a q⟩,λ_ _ _ n _=>n,λb a q _=>⟨a,k b a q⟩,λ_ _ q=>q,λ_ _ _ q=>q,λ_ c q=>⟨#[],by rw [q];simp⟩⟩
def Un.refl:Un fs ex H H h h:=Un.kept λ_ _ q=>q
def Un.laid (k: ∀b u,h.p b=k0 u->h'.p b=k0 u) (d:h.j.j<=a) (c:H a=y0):Un fs ex H (aF H a o) h h' where
 keep:=λb u q _ _ _=>k b u q
 slot:=λb u q _ _ _=>⟨u.slots,k b u q⟩
 free:=λb u q n _=>by rw [Za (Ac3 (Ab3 (Ac0 q) d))];exact n
 there:=λb u q _=>⟨u,k b u q⟩
 de:=λb e q=>by rw [Za (Zb q c)];exact q
 cU:=λb u e q=>by rw [Za (Zb q c)];exact q
 dc:=λb f q=>⟨#[],by rw [Za (Zb q c),q];simp⟩
def Un.write (c:ny (H x)) (l:e=x\/H e=k0 (.j x)) (k: ∀b u,b≠e->h.p b=k0 u->h'.p b=k0 u) (d: ∃u,h'.p e=k0 u):Un fs ex H (aF H x o) h h':=by
 have g: ∀b,H b=y0->b≠x:=λb n z=>by subst z;rw [n]at c;exact c
 have i: ∀b,H b=y0->b≠e:=λb n z=>by
  subst z
  rcases l with r | r
  .exact g b n r
  .rw [n]at r;cases r
 have f: ∀b u,H b=k0 u-> ¬ny (k0 u)->b≠x:=λb u q nm z=>by subst z;rw [q]at c;exact nm c
 refine⟨λb u q n _ _=>k b u (i b n) q,λb u q n _ _=>⟨u.slots,k b u (i b n) q⟩,λb u q n _=>by rw [Za (g b n)];exact n,λb u q _=> ?_,
  λb j q=>by rw [Za (f b _ q λz=>z)];exact q,λb u j q=>by rw [Za (f b _ q λz=>z)];exact q,λb m q=>⟨#[],by rw [Za (f b _ q λz=>z),q];simp⟩⟩
 by_cases a:b=e
 .subst a;exact d
 .exact⟨u,k b u a q⟩
end
noncomputable def fE (h:Y6) (H:Hp):Y0 Y5:=(Aa7 h.j.j).Q λa=>(H a).q
def iC (h:Y6) (H:Hp):Y6:=PySem.W.hideAll h (fE h H)
def FA (h) (H):(iC h H).j.j=h.j.j:=PySem.W.hideAll_size _ _
def L9 (e:h.p b=k0 o) (n:H b=y0):(iC h H).p b=k0 o:=
 PySem.W.hideAll_get _ e λa=>by
  have q:=(Ai9.p a).2
  rw [n]at q;simp at q
def Oa (e:(iC h H).p b=k0 o):h.p b=k0 o/\H b=none:=by
 have a:=PySem.W.of_hideAll (fE h H) e
 refine⟨a,?_⟩
 cases q:H b with
 | none=>rfl
 | some x=>
  have c:b∈fE h H:=Ai9.q ⟨Ab9.q (Ac0 a),by simp [q]⟩
  have z:(iC h H).p b=none:=PySem.W.hideAll_none (fE h H) c
  rw [z]at e;cases e
noncomputable def DR (g h:Y6) (L:Y5):Y0 (Y5×Obj):=(Aa7 h.j.j).T λa=>if a=L\/(g.p a).q=u0 then y0 else(h.p a).j λo=>(a,o)
def rest (g h:Y6) (L d:Y5):Y0 (Y5×Obj):=(DR g h L).Q λp=>y9 (p.1≠d)
structure Mod (K:Ab) (mg:Str->Option Value) (base:Heap):Prop where
 kK:K.In base
 glob:base.Ns mainGlobals mg
 blt: ∃mb,base.Ns builtinsNs mb/\ ∀x:Str,x≠ "__name__" ->mb x=bootBuiltins x
 nolimit:base.NoLimit
structure Cx where
 prog:Program
 w:World
 K:Ab
 mg:Str->Option Value
 base:Heap
 A:Around
 N:List Str
 s₀:Shared
 H₀:Hp
 env:Env
 outer:List Env
 stack:List Env
 ex:List Addr
 fn:Str->Bool
 calm:Bool
 pn:List (Addr×Obj)
 xe:Value->Shared->Prop
open L2 renaming Cx.env→L2.Cx.j,Cx.prog→L2.Cx.p,Cx.base→L2.Cx.q,Cx.stack→L2.Cx.z,Cx.xe→L2.Cx.y,Cx.outer→L2.Cx.B,Cx.mg→L2.Cx.C
noncomputable def cC (l:Y0 YJ):Y0 Y5:=l.T (·.frame)
abbrev Cx.fs (X:Cx):Y0 Y5:=cC X.B
def i6 (sc:YX) (x:Str):Prop:=sc.j.p x=k0 .local\/sc.j.p x=k0 .p\/sc.j.p x=k0 .u
def lP (sc:YX) (x:Str):Prop:=sc.j.p x=k0 .local\/sc.j.p x=k0 .p
def AS (env:YJ) (h:Y6) (m:Str->Y1 Y2) (x:Str) (u:Y2):Prop:=
 (env.u x=k0 .local/\m x=k0 u)\/((env.u x=k0 .p\/env.u x=k0 .u)/\ ∃c,env.q.p x=k0 c/\h.w c (k0 u))
structure Cx.Ok (X:Cx):Prop where
 mod:Mod X.K X.C X.q
 kind:X.j.j.p= .j
 glob:X.j.globals=mainGlobals
 blt:X.j.builtins=builtinsNs
 above:X.s₀.j.j.j<=X.j.p
 inj: ∀x y c,X.j.q.p x=k0 c->X.j.q.p y=k0 c->x=y
 has: ∀x,(X.j.u x=k0 .p\/X.j.u x=k0 .u)-> ∃c,X.j.q.p x=k0 c
 l3: ∀x c,X.fn x=u0->X.j.q.p x=k0 c->X.s₀.j.j.j<=c
 hd:X.calm=u0->X.A.p=y0
 frames:X.A.frames=k0 X.z
 kU:X.z=X.B\/(X.z=X.j::X.B/\X.j.frame=k0 X.j.p)
 mV: ∀b∈X.ex,b≠X.j.p/\ ∀x c,X.j.q.p x=k0 c->c≠b
 bs: ∀b o,X.q.p b=k0 o->X.s₀.j.p b=k0 o/\X.H₀ b=y0
 gG:X.q.j.j<=X.s₀.j.j.j
 f9: ∀b o,X.q.p b=k0 o->b∉X.ex
 gs: ∀b∈X.ex,b∉X.fs
 cW:X.s₀.j.y X.q X.B
 iR: ∀b∈X.fs,X.H₀ b=y0
open L2 renaming Cx.Ok.kind→L2.Cx.Ok.p,Cx.Ok.above→L2.Cx.Ok.j
structure Inv (X:Cx) (pins:List (Addr×Obj)) (U:List (Option V)) (H:Hp) (s:Shared):Prop where
 ok:X.Ok
 os:s.os=X.s₀.os
 bare:AllBare s.gens
 base:Un X.fs X.ex X.H₀ H X.s₀.j s.j
 loc: ∃m,s.j.Ns X.j.p m/\ ∀(i:Nat) (x:Str) (v:V),X.N[i]? =k0 x->U[i]? =k0 (k0 v)->i6 X.j.j x-> ∃u,RelV v u/\AS X.j s.j m x u
 cell: ∀x c,X.j.q.p x=k0 c-> ∃v,s.j.w c v
 free:H X.j.p=y0
 bM: ∀x c,X.j.q.p x=k0 c->H c=y0
 pin: ∀p∈X.pn++pins,s.j.p p.1=k0 p.2/\H p.1=y0/\p.1≠X.j.p/\p.1∉X.fs/\ ∀v,p.2.j≠ .p v
 aX:cZ X.p X.w H s.j
 len:U.e=X.N.e
open L2 renaming Inv.ok→L2.Inv.j,Inv.base→L2.Inv.q,Inv.cell→L2.Inv.p,Inv.free→L2.Inv.u,Inv.aX→L2.Inv.C,Inv.bare→L2.Inv.L,Inv.pin→L2.Inv.N,Inv.loc→L2.Inv.U
section
variable {X:Cx}{pins:Y0 (Y5×Obj)}{U:Y0 (Y1 V)}{H H':Hp}{s:Y3}{h':Y6}
def Cx.Ok.pP (ok:X.Ok)(e:X.q.p b=k0 o):b∉X.fs:=λa=>by
 have:=(ok.cW.mem a).1
 rw [e]at this;cases this
theorem Inv.bs (I:Inv X pins U H s): ∀b o,X.q.p b=k0 o->s.j.p b=k0 o/\H b=none:=λb o e=>
 ⟨I.q.p b o (I.j.bs b o e).1 (I.j.bs b o e).2 (I.j.pP e) (I.j.f9 b o e),I.q.u b o (I.j.bs b o e).1 (I.j.bs b o e).2 (I.j.f9 b o e)⟩
def Inv.bk (I:Inv X pins U H s): ∀b o,X.q.p b=k0 o->s.j.p b=k0 o:=λb o e=>(I.bs b o e).1
theorem Inv.mod (I:Inv X pins U H s):Mod X.K X.C X.q:=I.j.mod
def Inv.bR (I:Inv X pins U H s):X.K.In s.j:=I.j.mod.kK.keeps I.bk
theorem Inv.lt (I:Inv X pins U H s):X.j.p<s.j.j.j:=let ⟨_,a,_⟩:=I.U;a.lt
def Inv.sz (I:Inv X pins U H s):X.s₀.j.j.j<=s.j.j.j:=Ab5 I.j.j (Ag5 I.lt)
def Inv.rK (I:Inv X pins U H s)(h:s.j.j.j<=a):a∉X.fs:=λc=>by
 obtain⟨_,o,b,_⟩:=I.j.cW.mem c
 exact absurd (Ab3 (Ac0 b) (Ab5 I.sz h)) (Ai3 _)
def Inv.ia (I:Inv X pins U H s): ∀x c,X.j.q.p x=k0 c->c≠X.j.p:=λx c e z=>by
 obtain⟨v,o,d,f⟩:=I.p x c e
 obtain⟨m,⟨g,h,i,b,a,_⟩,_⟩:=I.U
 rw [z,b]at d;cases d;rw [a]at f;cases f
theorem Inv.cW (I:Inv X pins U H s):s.j.y X.q X.B:=by
 have all: ∀ l,(∀ b∈cC l,b∈X.fs)->X.s₀.j.y X.q l->s.j.y X.q l:=by
  intro l
  induction l with
  | nil=>intro _ _;trivial
  | cons g r p=>
   intro f n
   obtain⟨h,⟨L,o,c,k,m,j⟩,i⟩:=n
   have d:=f L (by unfold cC;rw [Aj8,c];exact Aa3)
   obtain⟨sl,e⟩:=I.q.q L o m (I.j.iR L d) d λz=>I.j.gs L z d
   exact⟨h,⟨L,_,c,k,e,j⟩,p (λb a=>f b (by unfold cC;rw [Aj8,c];exact Aa2 _ a)) i⟩
 exact all X.B (λ_ a=>a) I.j.cW
theorem Inv.stack (I:Inv X pins U H s):s.j.y X.q X.z:=by
 rcases I.j.kU with e | ⟨e,a⟩
 .rw [e];exact I.cW
 .rw [e]
  obtain⟨m,b,_⟩:=I.U
  refine .cons (by rw [I.j.p];decide) a b ?_ I.cW
  exact Heap.get?_none_of_le (Ab5 I.j.gG I.j.j)
def Inv.d7 (I:Inv X pins U H s): ∀b∈cC X.z,b∈X.j.p::X.fs:=λb a=>by
 rcases I.j.kU with e | ⟨e,c⟩
 .rw [e]at a;exact Aa2 _ a
 .rw [e]at a
  unfold cC at a
  rw [Aj8,c]at a
  exact a
def Inv.dj (I:Inv X pins U H s): ∀b∈cC X.z,H b=none:=λb a=>by
 rcases Ab7.p (I.d7 b a)with e | a
 .rw [e];exact I.u
 .obtain⟨_,o,c,_⟩:=I.j.cW.mem a
  exact I.q.u b o c (I.j.iR b a) λz=>I.j.gs b z a
def Inv.step {ch:Y0 Y5}(I:Inv X pins U H s)
 (g: ∀b∈ch,(b∈X.ex\/X.s₀.j.j.j<=b)/\b≠X.j.p/\(∀ x c,X.j.q.p x=k0 c->c≠b)/\ ∀p∈X.pn++pins,p.1≠b)
 (keep: ∀b o,b≠X.j.p->b∉X.fs->b∉ch->s.j.p b=k0 o->H b=y0->h'.p b=k0 o)
 (w: ∀b o,b≠X.j.p->b∈X.fs->b∉ch->s.j.p b=k0 o->H b=y0-> ∃sl,h'.p b=k0 { o with slots:=sl }) (f: ∀b o,b∉ch->s.j.p b=k0 o->H b=y0->H' b=y0)
 (there: ∀b o,b∉ch->s.j.p b=k0 o-> ∃o',h'.p b=k0 o')
 (B: ∀b xs,H b=k0 (.q xs)->H' b=k0 (.q xs)) (D: ∀b o u,H b=k0 (.eE o u)->H' b=k0 (.eE o u)) (E: ∀b ps,H b=k0 (.iK ps)-> ∃more,H' b=k0 (.iK (ps++more)))
 (ns: ∀m,s.j.Ns X.j.p m->h'.Ns X.j.p m) (F:cZ X.p X.w H' h') (O:AllBare g'):
 Inv X pins U H' { s with heap:=h',gens:=g',drawn:=d',toks:=t' }:=by
 have C: ∀b o,X.s₀.j.p b=k0 o->b≠X.j.p:=λb o e=>Ac3 (Ab3 (Ac0 e) I.j.j)
 have t: ∀b o,X.s₀.j.p b=k0 o->b∉X.ex->b∉ch:=λb o e a y=>by
  rcases (g b y).1 with z | z
  .exact a z
  .exact absurd (Ab3 (Ac0 e) z) (Ai3 _)
 have h: ∀x c,X.j.q.p x=k0 c-> ∀v,s.j.w c v->h'.w c v:=by
  rintro x c e v ⟨o,A,J⟩
  have j:c∉ch:=λz=>(g c z).2.2.1 x c e rfl
  by_cases K:c∈X.fs
  .obtain⟨sl,q⟩:=w c o (I.ia x c e) K j A (I.bM x c e)
   exact⟨_,q,J⟩
  .exact⟨o,keep c o (I.ia x c e) K j A (I.bM x c e),J⟩
 refine⟨I.j,I.os,O,⟨λb o e n y a=> ?_,λb o e n y a=> ?_,λb o e n a=> ?_,λb o e a=> ?_,λb xs e=>B b xs (I.q.de b xs e),λb o xs e=>D b o xs (I.q.cU b o xs e),λb ps e=> ?_⟩,?_,λx c e=> ?_,?_,λx c e=> ?_,λp L=> ?_,F,I.len⟩
 .exact keep b o (C b o e) y (t b o e a) (I.q.p b o e n y a) (I.q.u b o e n a)
 .obtain⟨sl,e1⟩:=I.q.q b o e n y a
  obtain⟨G,e2⟩:=w b _ (C b o e) y (t b o e a) e1 (I.q.u b o e n a)
  exact⟨G,e2⟩
 .obtain⟨o',e1⟩:=I.q.j b o e a
  exact f b o' (t b o e a) e1 (I.q.u b o e n a)
 .obtain⟨o',e1⟩:=I.q.j b o e a
  exact there b o' (t b o e a) e1
 .obtain⟨P,e1⟩:=I.q.dc b ps e
  obtain⟨N,e2⟩:=E b _ e1
  exact⟨P++N,by rw [e2,Array.append_assoc]⟩
 .obtain⟨m,Q,S⟩:=I.U
  refine⟨m,ns m Q,λi x v e1 e2 R=> ?_⟩
  obtain⟨u,r,l⟩:=S i x v e1 e2 R
  refine⟨u,r,?_⟩
  rcases l with l | ⟨k,c,e,z⟩
  .exact .p l
  .exact .q ⟨k,c,e,h x c e _ z⟩
 .obtain⟨v,z⟩:=I.p x c e
  exact⟨v,h x c e v z⟩
 .obtain⟨m,⟨o,_,_,A,_⟩,_⟩:=I.U
  exact f _ o (λz=>(g _ z).2.1 rfl) A I.u
 .obtain⟨v,o,A,J⟩:=I.p x c e
  exact f c o (λz=>(g c z).2.2.1 x c e rfl) A (I.bM x c e)
 .obtain⟨e,n,ne,M,d⟩:=I.N p L
  have j:p.1∉ch:=λz=>(g p.1 z).2.2.2 p L rfl
  exact⟨keep p.1 p.2 ne M j e n,f p.1 p.2 j e n,ne,M,d⟩
def Inv.un (I:Inv X pins U H s) (u:Un X.fs [] H H' s.j h') (c:cZ X.p X.w H' h'):Inv X pins U H' { s with heap:=h',toks:=t' }:=by
 obtain⟨m,⟨o,q,t,h,r⟩,_⟩:=id I.U
 obtain⟨sl,k⟩:=u.any h I.u (by simp)
 exact I.step (ch:= []) (λ_ z=>nomatch z) (λb o _ d _ e n=>u.p b o e n d (by simp)) (λb o _ d _ e n=>u.q b o e n d (by simp)) (λb o _ e n=>u.u b o e n (by simp)) (λb o _ e=>u.j b o e (by simp)) u.de u.cU u.dc (λp i=>by
  obtain⟨l,g,f,a,j⟩:=i
  rw [h]at a;cases a
  exact⟨_,g,f,k,j⟩) c I.L
def Inv.call (I:Inv X pins U H s) (u:Un (cC X.z) ch H H' s.j h') (g:cZ X.p X.w H' h') (q:AllBare g')
 (d: ∀b∈ch,(b∈X.ex\/X.s₀.j.j.j<=b)/\b≠X.j.p/\(∀ x c,X.j.q.p x=k0 c->c≠b)/\ ∀p∈X.pn++pins,p.1≠b):
 Inv X pins U H' { s with heap:=h',gens:=g',drawn:=d',toks:=t' }:=by
 obtain⟨m,⟨o,A,B,k,r⟩,_⟩:=id I.U
 obtain⟨sl,j⟩:=u.any k I.u λz=>(d _ z).2.1 rfl
 exact I.step d (λb o j t a e n=>u.p b o e n (λz=>(Ab7.p (I.d7 b z)).j j t) a) (λb o _ _ a e n=>u.any e n a) (λb o a e n=>u.u b o e n a) (λb o a e=>u.j b o e a) u.de u.cU u.dc (λy l=>by
  obtain⟨w,i,h,f,v⟩:=l
  rw [k]at f;cases f
  exact⟨_,i,h,j,v⟩) g q
def Inv.turned (I:Inv X pins U H s) (k: ∀b o,b≠it->s.j.p b=k0 o->h'.p b=k0 o) (t:H it=y0) (f:it≠X.j.p)
 (h1:it∈X.ex\/X.s₀.j.j.j<=it) (j: ∀x c,X.j.q.p x=k0 c->c≠it) (y: ∀p∈X.pn++pins,p.1≠it):Inv X pins U H { s with heap:=h',toks:=t' }:=by
 have d: ∀b u,H b=k0 u->b≠it:=λb u e z=>by rw [z,t]at e;cases e
 refine I.step (ch:= [it]) (λb l=> ?_) (λb o _ _ a e _=>k b o (λz=>a (by simp [z])) e) (λb o _ _ a e _=>⟨o.slots,k b o (λz=>a (by simp [z])) e⟩) (λ_ _ _ _ n=>n)
  (λb o a e=>⟨o,k b o (λz=>a (by simp [z])) e⟩) (λ_ _ e=>e) (λ_ _ _ e=>e) (λb A e=>⟨#[],by rw [e];simp⟩) (λm g=> ?_) (λb u e=> ?_) I.L
 .have e:=by simpa using l
  subst e
  exact⟨h1,f,j,y⟩
 .obtain⟨o,h,i,w,r⟩:=g
  exact⟨o,h,i,k _ o (Ne.symm f) w,r⟩
 .refine(I.C b u e).cY (λc v a q=>k c v ?_ q) (λ_ q=>q) λ_ _ q=>q
  rcases a with z | z
  .rw [z];exact d b u e
  .exact d c _ z
def Inv.tok (I:Inv X pins U H s) (t):Inv X pins U H { s with toks:=t }:=I.un Un.refl I.C
theorem Inv.kept (I:Inv X pins U H s) (k: ∀b u,s.j.p b=k0 u->h'.p b=k0 u):Inv X pins U H { s with heap:=h',toks:=t' }:=I.un (Un.kept k) (I.C.kept k)
theorem Inv.laid (I:Inv X pins U H s) (k: ∀b u,s.j.p b=k0 u->h'.p b=k0 u) (c:s.j.j.j<=a) (new:aW X.p X.w (aF H a o) h' a o):
 Inv X pins U (aF H a o) { s with heap:=h',toks:=t' }:=I.un (Un.laid k c (I.C.fresh c)) (I.C.laid k c new)
theorem Inv.write (I:Inv X pins U H s) (c:ny (H x)) (d:e=x\/H e=k0 (.j x)) (k: ∀b u,b≠e->s.j.p b=k0 u->h'.p b=k0 u) (a: ∃u,h'.p e=k0 u)
 (new:aW X.p X.w (aF H x o) h' x o):Inv X pins U (aF H x o) { s with heap:=h',toks:=t' }:=I.un (Un.write c d k a) (I.C.write c d k a new)
def Inv.bX (I:Inv X pins U H s) (h: ∀p∈pins',s.j.p p.1=k0 p.2/\H p.1=y0/\p.1≠X.j.p/\p.1∉X.fs/\ ∀v,p.2.j≠ .p v):Inv X pins' U H s:=
 ⟨I.j,I.os,I.L,I.q,I.U,I.p,I.u,I.bM,λp a=>(Ac9.p a).j (λz=>I.N p (Ad0 _ z)) (h p),I.C,I.len⟩
def zT {N:Y0 Str}(c:N.B){i j:Nat}(a:N[i]? =k0 x) (b:N[j]? =k0 x):i=j:=by
 obtain⟨e,e1⟩:=Aa1.p a
 obtain⟨d,e2⟩:=Aa1.p b
 exact(List.getElem_inj c).p (e1.j e2.p)
def Ia (I:Inv X pins U H s) (hN:X.N.B) (O:X.N[i]? =k0 x) (t:lP X.j.j x) (r:RelV v u)
 (h: ∀s',Inv X pins (U.w i (k0 v)) H s'->(∃ a,Al1 a s.j s'.j/\(a=X.j.p\/X.j.q.p x=k0 a))->Q () s') (hf:X.fn x=u0\/X.j.j.j.p x=k0 .local:=by first | exact .inl rfl | exact .inr rfl | assumption):wpAny M A (storeName X.j x u) Q E s:=by
 obtain⟨m,hn,hl⟩:=id I.U
 have N:(X.j.j.p== .class||(X.j.j.p== .module&&X.j.p != X.j.globals))=false:=by rw [I.j.p];rfl
 have R:i<U.e:=by rw [I.len];exact(Aa1.p O).1
 have ia:=I.ia
 have g: ∀ {a}{G},(∃ o,s.j.p a=k0 o/\H a=y0)->Al1 a s.j G->cZ X.p X.w H G:=λ{a G} ha f b ob e=>by
  obtain⟨_,_,w⟩:=ha
  refine(I.C b ob e).cY (λc T l q=>(f.2 c ?_).j q) (λ_ q=>q) λ_ _ q=>q
  rintro rfl
  rcases l with rfl | l
  .rw [w]at e;cases e
  .rw [w]at l;cases l
 rcases t with B | B
 .refine wpAny_storeName_local B hn (λG hn' f=> ?_) N
  obtain⟨oL,_,_,W,_⟩:=id hn
  refine h _ ⟨I.j,I.os,I.L,⟨λb o e n F t=> ?_,λb o e n F t=> ?_,I.q.u,λb o e t=> ?_,I.q.de,I.q.cU,I.q.dc⟩,⟨_,hn',λj y V e1 e2 e3=> ?_⟩,λy c e=> ?_,I.u,I.bM,λp Z=> ?_,g ⟨oL,W,I.u⟩ f,by simpa using I.len⟩ ⟨_,f,.p rfl⟩
  .exact(f.2 b (Ac3 (Ab3 (Ac0 e) I.j.j))).j (I.q.p b o e n F t)
  .obtain⟨sl,e1⟩:=I.q.q b o e n F t
   exact⟨sl,(f.2 b (Ac3 (Ab3 (Ac0 e) I.j.j))).j e1⟩
  .obtain⟨Y,e1⟩:=I.q.j b o e t
   exact⟨Y,(f.2 b (Ac3 (Ab3 (Ac0 e) I.j.j))).j e1⟩
  .by_cases C:j=i
   .subst C
    rw [O]at e1;cases e1
    rw [Ab6 R]at e2
    cases e2
    exact⟨u,r,.p ⟨B,by simp⟩⟩
   .rw [Ad1 (Ne.symm C)]at e2
    obtain⟨u',r',q⟩:=hl j y V e1 e2 e3
    refine⟨u',r',?_⟩
    rcases q with⟨k,e⟩ | ⟨k,c,e,z⟩
    .refine .p ⟨k,?_⟩
     have:y≠x:=λe=>C (zT hN e1 (e▸O))
     simp [this,e]
    .exact .q ⟨k,c,e,z.sameBut f (ia y c e)⟩
  .obtain⟨T,z⟩:=I.p y c e
   exact⟨T,z.sameBut f (ia y c e)⟩
  .obtain⟨e,n,ne,nf,d⟩:=I.N p Z
   exact⟨(f.2 p.1 ne).j e,n,ne,nf,d⟩
 .have D:X.fn x=true:=by
   rcases hf with z | z
   .exact z
   .rw [z]at B;cases B
  obtain⟨c,l⟩:=I.j.has x (.p B)
  obtain⟨T,z⟩:=I.p x c l
  refine wpAny_storeName_cell I.j.p B l z (λG K f=> ?_)
  obtain⟨oc,L,J⟩:=id z
  refine h { s with heap:=G } ⟨I.j,I.os,I.L,⟨λb o e n F t=> ?_,λb o e n F t=> ?_,I.q.u,λb o e t=> ?_,I.q.de,I.q.cU,I.q.dc⟩,⟨m,hn.sameBut f (Ne.symm (ia x c l)),λj y V e1 e2 e3=> ?_⟩,λy S e=> ?_,I.u,I.bM,λp Z=> ?_,g ⟨oc,L,I.bM x c l⟩ f,by simpa using I.len⟩ ⟨c,f,.q l⟩
  .exact(f.2 b (Ac3 (Ab3 (Ac0 e) (I.j.l3 x c D l)))).j (I.q.p b o e n F t)
  .obtain⟨sl,e1⟩:=I.q.q b o e n F t
   exact⟨sl,(f.2 b (Ac3 (Ab3 (Ac0 e) (I.j.l3 x c D l)))).j e1⟩
  .obtain⟨Y,e1⟩:=I.q.j b o e t
   exact⟨Y,(f.2 b (Ac3 (Ab3 (Ac0 e) (I.j.l3 x c D l)))).j e1⟩
  .by_cases C:j=i
   .subst C
    rw [O]at e1;cases e1
    rw [Ab6 R]at e2
    cases e2
    exact⟨u,r,.q ⟨.p B,c,l,K⟩⟩
   .rw [Ad1 (Ne.symm C)]at e2
    obtain⟨u',r',q⟩:=hl j y V e1 e2 e3
    refine⟨u',r',?_⟩
    rcases q with q | ⟨k,S,e,z'⟩
    .exact .p q
    .refine .q ⟨k,S,e,z'.sameBut f ?_⟩
     rintro rfl
     exact C (zT hN e1 (I.j.inj _ _ _ e l▸O))
  .by_cases P:S=c
   .subst P;exact⟨_,K⟩
   .obtain⟨w2,z2⟩:=I.p y S e
    exact⟨w2,z2.sameBut f P⟩
  .obtain⟨e,n,ne,nf,d⟩:=I.N p Z
   refine⟨(f.2 p.1 ?_).j e,n,ne,nf,d⟩
   intro q
   rw [q,L]at e
   have q':=Ad9.inj e
   exact d T (by rw [← q'];exact J)
def Wp (I:Inv X pins U H s) (d:X.N.B) (e:X.N[i]? =k0 x) (a:lP X.j.j x) (r:RelV v u)
 (h: ∀s',Inv X pins (U.w i (k0 v)) H s'->Q () s') (b:X.fn x=u0\/X.j.j.j.p x=k0 .local:=by first | exact .inl rfl | exact .inr rfl | assumption):wpAny M A (storeName X.j x u) Q E s:=
 Ia I d e a r (λs' c _=>h s' c) b
def Inv.iN (I:Inv X pins U H s) (g:s'.os=s.os) (u:Un (cC X.z) ch H H' s.j s'.j) (d:cZ X.p X.w H' s'.j) (f:AllBare s'.gens)
 (a: ∀b∈ch,(b∈X.ex\/X.s₀.j.j.j<=b)/\b≠X.j.p/\(∀ x c,X.j.q.p x=k0 c->c≠b)/\ ∀p∈X.pn++pins,p.1≠b):Inv X pins U H' s':=by
 obtain⟨i,j,k,l,h⟩:=s'
 have e:=g
 subst e
 exact I.call u d f a
end
open L2 renaming Inv.turned→L2.Inv.B
abbrev XK:=Y2->Y1 Y5->Hp->Prop
abbrev St:=Y0 (Y1 V)
abbrev VK:=V->Hp->Prop
abbrev TE:=St->Hp->VK->Prop
abbrev TT:=St->Hp->(Bool->Hp->Prop)->Prop
abbrev TA:=St->Hp->(Y0 V->Hp->Prop)->Prop
structure kN where
 nx:St->Hp->Prop
 rt:VK
 bk:St->Hp->Prop:=λ_ _=>False
 ct:St->Hp->Prop:=λ_ _=>False
abbrev TS:=kN->St->Hp->Prop
def EP (X:Cx) (a:Y0 (Y5×Obj)) (U:St) (Q:VK) (u:Y2) (s':Y3):Prop:= ∃v H',Inv X a U H' s'/\RelV v u/\Q v H'
def TP (X:Cx) (a:Y0 (Y5×Obj)) (U:St) (Q:Bool->Hp->Prop) (b:Bool) (s':Y3):Prop:= ∃H',Inv X a U H' s'/\Q b H'
def AP (X:Cx) (a:Y0 (Y5×Obj)) (U:St) (Q:Y0 V->Hp->Prop) (c:Y0 Y2) (s':Y3):Prop:= ∃b H',Inv X a U H' s'/\Vals b c/\Q b H'
def SP (X:Cx) (a:Y0 (Y5×Obj)) (D:kN) (f:Flow) (s':Y3):Prop:=
 match f with
 | .next=> ∃b H',Inv X a b H' s'/\D.nx b H'
 | .brk=> ∃b H',Inv X a b H' s'/\D.bk b H'
 | .cont=> ∃b H',Inv X a b H' s'/\D.ct b H'
 | .ret u=> ∃v b H',Inv X a b H' s'/\RelV v u/\D.rt v H'
def PE (X:Cx) (e:Y4) (t:TE):Prop:=
 ∀(pins:Y0 (Y5×Obj)) (s:Y3) (U:St) (H:Hp) (Q:VK),Inv X pins U H s->t U H Q->wpAny (model X.p X.w) X.A (eval e X.j) (EP X pins U Q) X.y s
def PT (X:Cx) (e:Y4) (t:TT):Prop:=
 ∀(pins:Y0 (Y5×Obj)) (s:Y3) (U:St) (H:Hp) (Q:Bool->Hp->Prop),Inv X pins U H s->t U H Q->wpAny (model X.p X.w) X.A (isTrue e X.j (eval e X.j)) (TP X pins U Q) X.y s
def PW (X:Cx) (e:Y4) (t:TT):Prop:=
 ∀(a:Sem Y2) (pins:Y0 (Y5×Obj)) (s:Y3) (U:St) (H:Hp) (Q:Bool->Hp->Prop),Inv X pins U H s->t U H Q->wpAny (model X.p X.w) X.A (isTrue e X.j a) (TP X pins U Q) X.y s
def PW.pt (h:PW X e t):PT X e t:=h _
def PA (X:Cx) (es:Y0 Y4) (t:TA):Prop:=
 ∀(pos:Pos) (pins:Y0 (Y5×Obj)) (s:Y3) (U:St) (H:Hp) (Q:Y0 V->Hp->Prop),Inv X pins U H s->t U H Q->wpAny (model X.p X.w) X.A (spliced (backTo pos (starEach es X.j))) (AP X pins U Q) X.y s
def PS (X:Cx) (st:Y7) (t:TS):Prop:=
 ∀(pins:Y0 (Y5×Obj)) (s:Y3) (U:St) (H:Hp) (D:kN),Inv X pins U H s->t D U H->wpAny (model X.p X.w) X.A (exec st X.j) (SP X pins D) X.y s
def dr (X:Cx) (st:Y0 Y7) (t:TS):Prop:=
 ∀(pins:Y0 (Y5×Obj)) (s:Y3) (U:St) (H:Hp) (D:kN),Inv X pins U H s->t D U H->wpAny (model X.p X.w) X.A (execs st X.j) (SP X pins D) X.y s
def aS (h:wpAny M A t Q E s) (b: ∀a s,Q a s->Q' a s):wpAny M A t Q' E s:=wpAny_mono h b λ_ _ x=>x
section
variable {X:Cx}
def bin (k:PE X a ta) (n:PE X b tb){R:V->V->Hp->Prop}(I:Inv X pins U H s) (h:ta U H λx H1=>tb U H1 λy H2=>R x y H2)
 {f:Y2->Y2->Sem α}
 (p: ∀v u L x y H2,Inv X pins U H2 L->RelV x v->RelV y u->R x y H2->wpAny (model X.p X.w) X.A (f v u) Q X.y L):
 wpAny (model X.p X.w) X.A (eval a X.j) (λv i=>wpAny (model X.p X.w) X.A (eval b X.j) (λu j=>wpAny (model X.p X.w) X.A (f v u) Q X.y j) X.y i) X.y s:=by
 refine aS (k pins s U H _ I h) ?_
 rintro v g ⟨x,H1,m,l,d⟩
 refine aS (n pins g U H1 _ m d) ?_
 rintro u L ⟨y,H2,e,o,c⟩
 exact p v u L x y H2 e l o c
def nt (i:Nat):TE:=λU H Q=> ∃v,U[i]? =k0 (k0 v)/\Q v H
def tC (v:V):TE:=λ_ H Q=>Q v H
def qy (n:X.N[i]? =some x) (o:i6 X.j.j x) (g:(x==("__debug__" :Str))=false:=by decide) (f:(x==("__classdict__" :Str))=false:=by decide):PE X (.j x pos) (nt i):=by
 intro d s U H Q I h
 obtain⟨v,e,h⟩:=h
 obtain⟨m,p,q⟩:=I.U
 obtain⟨u,r,l⟩:=q i x v n e o
 have fin:EP X d U Q u s:=⟨v,H,I,r,h⟩
 rcases l with⟨b,k⟩ | ⟨b,c,j,a⟩
 .exact wpAny_Name (wpAny_loadName_local I.j.p b p k fin) g
 .rcases b with b | b
  .exact wpAny_Name (wpAny_loadName_cell I.j.p b j a fin) g
  .exact wpAny_Name (wpAny_loadName_free I.j.p b j a fin f) g
def LB {i j pos}:PE X (.u (.int i) j pos) (tC (.o i)):=λ_ _ _ H _ I h=>wpAny_Constant_int ⟨.o i,H,I.tok _,⟨_,rfl⟩,h⟩
def DY {b j pos}:PE X (.u (.bool b) j pos) (tC (.C b)):=λ_ _ _ H _ I h=>Constant_bool ⟨.C b,H,I,rfl,h⟩
def FF {j pos}:PE X (.u .none j pos) (tC .ak):=λ_ _ _ H _ I h=>Constant_none ⟨.ak,H,I,rfl,h⟩
def rC {x j pos}:PE X (.u (.j x) j pos) (tC (.j x)):=λ_ _ _ H _ I h=>Calls.Constant_str ⟨.j x,H,I.tok _,⟨_,rfl⟩,h⟩
def Gl (X:Cx) (x:Str):Prop:=X.j.u x=k0 .globalImplicit
def JC (I:Inv X pins U H s) (a:Gl X x) (b:X.C x=k0 u) (h:Q u s)
 (c:(x==("__debug__" :Str))=false:=by decide):wpAny (model X.p X.w) X.A (eval (.j x pos) X.j) Q E s:=
 Calls.Name_function_global I.j.p a (Calls.loadGlobal_global (by rw [I.j.glob];exact I.mod.glob.keeps I.bk) b h) c
def jG (I:Inv X pins U H s) (a:Gl X x) (c:X.C x=y0) (f:bootBuiltins x=k0 u) (h:Q u s)
 (e:x≠ "__name__" :=by decide) (g:(x==("__debug__" :Str))=false:=by decide):wpAny (model X.p X.w) X.A (eval (.j x pos) X.j) Q E s:=by
 obtain⟨i,d,b⟩:=I.mod.blt
 exact Calls.Name_function_global I.j.p a (Calls.loadGlobal_builtin (by rw [I.j.glob];exact I.mod.glob.keeps I.bk) c (by rw [I.j.blt];exact d.keeps I.bk) ((b x e).j f) h) g
def Ax (a:Gl X x) (b:X.C x=some u) (r:RelV v u) (c:(x==("__debug__" :Str))=false:=by decide):PE X (.j x pos) (tC v):=
 λ_ _ _ H _ I h=>JC I a b ⟨v,H,I,r,h⟩ c
def yV (a:Gl X x) (b:X.C x=none) (d:bootBuiltins x=some u) (r:RelV v u) (c:x≠ "__name__" :=by decide) (e:(x==("__debug__" :Str))=false:=by decide):PE X (.j x pos) (tC v):=
 λ_ _ _ H _ I h=>jG I a b d ⟨v,H,I,r,h⟩ c e
variable {a b:Y4}{ta tb:TE}{pos:Pos}
def PC (X:Cx) (e:CmpOp) (a b:Y4) (t:TE):Prop:=
 ∀(pins:Y0 (Y5×Obj)) (s:Y3) (U:St) (H:Hp) (Q:VK),Inv X pins U H s->t U H Q →
  wpAny (model X.p X.w) X.A (eval a X.j) (λv c=>wpAny (model X.p X.w) X.A (eval b X.j) (λu d=>wpAny (model X.p X.w) X.A (compareOp e v u) (EP X pins U Q) X.y d) X.y c) X.y s
def yE (b)(h:op≠ .In) (a:op≠ .NotIn):behindInMarks op b=false:=by
 have e1:(op==CmpOp.In)=false:=by cases op<;>first | rfl | exact absurd rfl h
 have e2:(op==CmpOp.NotIn)=false:=by cases op<;>first | rfl | exact absurd rfl a
 cases b<;>simp [behindInMarks,e1,e2]
def FL (a:TE):TE:=λU H Q=>a U H λx H1=>Q (.C (y9 (x= .ak))) H1
def HE (a:TE):TE:=λU H Q=>a U H λx H1=>Q (.C (!y9 (x= .ak))) H1
def RelV.eB (r:RelV x v):(v==Value.none)=y9 (x= .ak):=by
 cases x with
 | ak=>cases r;rfl
 | bl _=>cases r;rfl
 | int _=>obtain⟨t,rfl⟩:=r;rfl
 | str _=>obtain⟨t,rfl⟩:=r;rfl
 | kP _=>obtain⟨t,rfl⟩:=r;rfl
 | iS _=>obtain⟨t,rfl⟩:=r;rfl
 | ref _=>cases r;rfl
 | ty _=>cases r;rfl
def rY {j pos'}(f:PE X a ta):PC X .Is a (.u .none j pos') (FL ta):=by
 intro b s U H Q I h
 refine aS (f b s U H _ I h) ?_
 rintro v i ⟨x,d,c,g,e⟩
 exact Constant_none (is_none_gen ⟨.C _,d,c,by rw [g.eB];rfl,e⟩)
def sR {j pos'}(f:PE X a ta):PC X .IsNot a (.u .none j pos') (HE ta):=by
 intro b s U H Q I h
 refine aS (f b s U H _ I h) ?_
 rintro v i ⟨x,d,c,g,e⟩
 exact Constant_none (isnot_none_gen ⟨.C _,d,c,by rw [g.eB];rfl,e⟩)
def tB (t:TE):TT:=λU H Q=>t U H λx H1=> ∃c,x= .C c/\Q c H1
def tw (h:PC X op a b t) (h1:behindInMarks op b=false:=by first | exact yE _ (by decide) (by decide) | rfl):PE X (.A a [op] [b] pos) t:=λc s U H Q I d=>wpAny_Compare1 (h c s U H Q I d) h1
def u1 (h:PC X op a b t) (h1:behindInMarks op b=false:=by first | exact yE _ (by decide) (by decide) | rfl):PT X (.A a [op] [b] pos) (tB t):=by
 intro e s U H Q I j
 refine wpAny_isTrue_Compare1 (aS (h e s U H _ I j) λv n h1=>aS h1 λu m l=>aS l ?_) h1
 rintro c o⟨x,f,k,i,g⟩
 obtain⟨d,rfl,q⟩:=g
 cases i
 exact wpAny_truthy_bool ⟨f,k,q⟩
variable {tA tB':TT}{rest:Y0 Y4}
def Lg (t u:TT):TT:=λU H Q=>t U H λc H1=>if c=u0 then u U H1 Q else Q k9 H1
def Ep (t u:TT):TT:=λU H Q=>t U H λc H1=>if c=u0 then Q u0 H1 else u U H1 Q
def NW (t:TT):TT:=λU H Q=>t U H λc H1=>Q (!c) H1
def K4 (d:PT X a tA):PW X (.y .And [a] pos) tA:=by
 intro g b s U H Q I h
 refine isTrue_and (aS (d b s U H Q I h) λc f e=> ?_)
 cases c with
 | true=>exact isTrue_and_nil e
 | false=>exact e
def IW (d:PT X a tA):PW X (.y .Or [a] pos) tA:=by
 intro g b s U H Q I h
 refine isTrue_or (aS (d b s U H Q I h) λc f e=> ?_)
 cases c with
 | false=>exact isTrue_or_nil e
 | true=>exact e
def D8 (j:PT X a tA) (k:PW X (.y .And (b::rest) pos) tB'):PW X (.y .And (a::b::rest) pos) (Lg tA tB'):=by
 intro l d s U H Q I h
 refine isTrue_and (aS (j d s U H _ I h) ?_)
 rintro c i ⟨f,e,g⟩
 cases c with
 | true=>exact k l d i U f Q e g
 | false=>exact⟨f,e,g⟩
def DV (j:PT X a tA) (k:PW X (.y .Or (b::rest) pos) tB'):PW X (.y .Or (a::b::rest) pos) (Ep tA tB'):=by
 intro l d s U H Q I h
 refine isTrue_or (aS (j d s U H _ I h) ?_)
 rintro c i ⟨f,e,g⟩
 cases c with
 | true=>exact⟨f,e,g⟩
 | false=>exact k l d i U f Q e g
def DP (e:PT X a tA):PT X (.C .Not a pos) (NW tA):=by
 intro b s U H Q I h
 exact isTrue_not (e b s U H (λc d=>Q (!c) d) I h)
def yg {op}(h:PE X a t):PE X (.y op [a] pos) t:=λb s U H Q I c=>BoolOp_one (h b s U H Q I c)
end
def bA (K:Ab) (H:Hp) (a:Y5) (xs:Y0 V):Prop:=
 Rd H a (.u xs) ∨
  ∃(o:Obj) (b:Array Y2) (n:Nat),K.p a=some o/\o.cls= .j "list" /\o.u=none/\o.j= .j b n/\b.j<=sizeLine/\Vals xs b.p
def cQ (K:Ab) (H:Hp) (a:Y5) (xs:Y0 V):Prop:=
 Rd H a (.q xs) ∨
  ∃(o:Obj) (b:Array Y2) (n:Nat),K.p a=k0 o/\o.cls= .j "tuple" /\o.j= .j b n/\b.j<=sizeLine/\Vals xs b.p
noncomputable def Ie:Y2->Y1 V
 | .u=>k0 .ak
 | .w b=>k0 (.C b)
 | .o i _=>k0 (.o i)
 | .str x _=>k0 (.j x)
 | .bytes b _=>k0 (.kP b)
 | .float b _=>k0 (.iS b)
 | .p a=>k0 (.p a)
 | .j n=>k0 (.ty n)
 | _=>y0
def RelV.abs (r:RelV x u):Ie u=k0 x:=by
 cases x with
 | ak=>cases r;rfl
 | bl _=>cases r;rfl
 | int _=>obtain⟨t,rfl⟩:=r;rfl
 | str _=>obtain⟨t,rfl⟩:=r;rfl
 | kP _=>obtain⟨t,rfl⟩:=r;rfl
 | iS _=>obtain⟨t,rfl⟩:=r;rfl
 | ref _=>cases r;rfl
 | ty _=>cases r;rfl
theorem RelV.inj (r:RelV x u) (q:RelV y u):x=y:=Ad9.inj (r.abs.p.j q.abs)
theorem Vals.inj: ∀ {xs ys}{i},Vals xs i->Vals ys i->xs=ys
 | _,_,_,.p,.p=>rfl
 | _,_,_,.j r t,.j a b=>by rw [r.inj a,Vals.inj t b]
section
variable {X:Cx}{pins:Y0 (Y5×Obj)}{U:St}{H:Hp}{s:Y3}{a:Y5}{xs ys:Y0 V}
def bA.of {K:Ab}(h:H a=k0 (.u xs)):bA K H a xs:= .p (.p h)
def Inv.list (I:Inv X pins U H s) (h:bA X.K H a xs): ∃i:Y0 Y2,Vals xs i/\PlainL s.j a i.q/\xs.e<=sizeLine:=by
 rcases h with h | ⟨o,i,n,b,c,d,f,g,r⟩
 .obtain⟨z,i,n,r,e⟩:=h.ok I.C
  exact⟨i,r,⟨_,n,e,rfl,rfl,rfl⟩,z⟩
 .refine⟨i.p,r,⟨o,n,I.bR a o b,c,d,by simpa using f⟩,?_⟩
  have e:=r.e
  simp only [Ai0]at e
  omega
def Inv.tuple (I:Inv X pins U H s) (h:cQ X.K H a xs): ∃i:Y0 Y2,Vals xs i/\IsTup s.j a i.q/\xs.e<=sizeLine:=by
 rcases h with h | ⟨o,i,n,b,c,d,f,r⟩
 .obtain⟨z,i,r,p⟩:=h.ok I.C
  exact⟨i,r,p.is,z⟩
 .refine⟨i.p,r,⟨o,I.bR a o b,c,n,by simpa using d⟩,?_⟩
  have e:=r.e
  simp only [Ai0]at e
  omega
def Inv.ej (I:Inv X pins U H s) (h:bA X.K H a xs) (h':bA X.K H a ys):xs=ys:=by
 obtain⟨c,r,⟨o,n,e,_,_,d⟩,_⟩:=I.list h
 obtain⟨b,i,⟨l,k,f,_,_,g⟩,_⟩:=I.list h'
 rw [e]at f;cases f
 rw [d]at g
 injection g with j _
 have:c=b:=by simpa using congrArg Array.toList j
 subst this
 exact r.inj i
def Inv.fB (I:Inv X pins U H s) (h:cQ X.K H a xs) (h':cQ X.K H a ys):xs=ys:=by
 obtain⟨c,r,⟨o,e,_,n,d⟩,_⟩:=I.tuple h
 obtain⟨b,i,⟨l,f,_,k,g⟩,_⟩:=I.tuple h'
 rw [e]at f;cases f
 rw [d]at g
 injection g with j _
 have:c=b:=by simpa using congrArg Array.toList j
 subst this
 exact r.inj i
end
noncomputable abbrev Cx.dE (X:Cx) (E:Y2->Y3->Prop):Cx:= { X with xe:=E }
abbrev Cx.lM (X:Cx):Cx:=X.dE λ_ _=>False
theorem Cx.Ok.dE {X:Cx}(ok:X.Ok) (E:Y2->Y3->Prop):(X.dE E).Ok:=
 ⟨ok.mod,ok.p,ok.glob,ok.blt,ok.j,ok.inj,ok.has,ok.l3,ok.hd,ok.frames,ok.kU,ok.mV,ok.bs,ok.gG,ok.f9,ok.gs,ok.cW,ok.iR⟩
def Cx.Ok.cb {X:Cx}(ok:(X.dE E).Ok):X.Ok:=
 ⟨ok.mod,ok.p,ok.glob,ok.blt,ok.j,ok.inj,ok.has,ok.l3,ok.hd,ok.frames,ok.kU,ok.mV,ok.bs,ok.gG,ok.f9,ok.gs,ok.cW,ok.iR⟩
section
variable {X:Cx}{pins:Y0 (Y5×Obj)}{U:St}{H:Hp}{s:Y3}{E:Y2->Y3->Prop}
theorem Inv.dE (I:Inv X pins U H s) (E):Inv (X.dE E) pins U H s:=⟨I.j.dE E,I.os,I.L,I.q,I.U,I.p,I.u,I.bM,I.N,I.C,I.len⟩
theorem Inv.cb (I:Inv (X.dE E) pins U H s):Inv X pins U H s:=⟨I.j.cb,I.os,I.L,I.q,I.U,I.p,I.u,I.bM,I.N,I.C,I.len⟩
theorem SP.cb (h:SP (X.dE E) pins D f s'):SP X pins D f s':=by
 cases f with
 | next=>obtain⟨b,a,I,q⟩:=h;exact⟨b,a,I.cb,q⟩
 | brk=>obtain⟨b,a,I,q⟩:=h;exact⟨b,a,I.cb,q⟩
 | cont=>obtain⟨b,a,I,q⟩:=h;exact⟨b,a,I.cb,q⟩
 | ret u=>obtain⟨v,b,a,I,r,q⟩:=h;exact⟨v,b,a,I.cb,r,q⟩
end
section
variable {X:Cx}{st:Y7}{rest:Y0 Y7}{t u:TS}{e:Y4}{te:TE}{pos:Pos}
def Hf:TS:=λD U H=>D.nx U H
def D1 (t u:TS):TS:=λD U H=>t { D with nx:=u D } U H
def LC:dr X [] Hf:=λ_ _ U H _ I h=>wpAny_execs_nil ⟨U,H,I,h⟩
def Ln (h1:PS X st t) (b:dr X rest u):dr X (st::rest) (D1 t u):=by
 intro a s U H D I h
 refine wpAny_execs_cons (aS (h1 a s U H { D with nx:=u D } I h) λf g q=> ?_)
 cases f with
 | next=>
  obtain⟨c,e,d,q⟩:=q
  exact b a g c e D d q
 | ret v=>exact q
 | brk=>exact q
 | cont=>exact q
def LD (h1:PS X st t):dr X [st] t:=by
 intro a s U H D I h
 refine wpAny_execs_cons (aS (h1 a s U H D I h) λf b q=> ?_)
 cases f with
 | next=>exact wpAny_execs_nil q
 | ret v=>exact q
 | brk=>exact q
 | cont=>exact q
def Inv.quiet (I:Inv X pins U H s):interactive X.j=false:=by simp [interactive,I.j.p]
def DT (a:TE):TS:=λD U H=>a U H λ_ H1=>D.nx U H1
def WS (g:PE X e te) (f:swapsWith e y0 pos.p X.j=pure false:=by rfl):PS X (.Expr e pos) (DT te):=by
 intro a s U H D I h
 exact wpAny_Expr_any (aS (g a s U H _ I h) (by rintro v i⟨x,c,b,j,d⟩;exact ⟨U,c,b,d⟩)) I.quiet f
def IS (a:TE):TS:=λD U H=>a U H D.rt
def sg (f:PE X e te):PS X (.Return (k0 e) pos) (IS te):=by
 intro a s U H D I h
 exact wpAny_Return_some (aS (f a s U H _ I h) (by rintro v i⟨x,c,b,g,d⟩;exact ⟨x,U,c,b,g,d⟩))
def Fi (c:TT) (t u:TS):TS:=λD U H=>c U H λb H1=>if b=u0 then t D U H1 else u D U H1
def Dw (k:PT X c tc) (l:dr X a t) (m:dr X b u):PS X (.If c a b pos) (Fi tc t u):=by
 intro e s U H D I h
 refine wpAny_If (aS (k e s U H _ I h) ?_)
 rintro d j ⟨g,f,i⟩
 cases d with
 | true=>exact l e j U g D f i
 | false=>exact m e j U g D f i
end
abbrev TG:=V->St->Hp->(St->Hp->Prop)->Prop
abbrev ml:=Y0 V->St->Hp->(St->Hp->Prop)->Prop
def PG (X:Cx) (a:Y4) (t:TG):Prop:=
 ∀(pins:Y0 (Y5×Obj)) (s:Y3) (U:St) (H:Hp) (v:V) (u:Y2) (Q:St->Hp->Prop),Inv X pins U H s->RelV v u->t v U H Q →
  wpAny (model X.p X.w) X.A (assign a X.j u) (λ_ s'=> ∃b H',Inv X pins b H' s'/\Q b H') X.y s
def mf (X:Cx) (d:Y0 Y4) (t:ml):Prop:=
 ∀(pins:Y0 (Y5×Obj)) (s:Y3) (U:St) (H:Hp) (a:Y0 V) (c:Y0 Y2) (Q:St->Hp->Prop),Inv X pins U H s->Vals a c->t a U H Q →
  wpAny (model X.p X.w) X.A (assignInOrder ((assignEach d X.j).j (·.2)) c) (λ_ s'=> ∃b H',Inv X pins b H' s'/\Q b H') X.y s
abbrev ux:=V->V->V->Hp->(Hp->Prop)->Prop
def oZ (X:Cx) (t:ux):Prop:=
 ∀(pins:Y0 (Y5×Obj)) (s:Y3) (U:St) (H:Hp) (o i v:V) (a b u:Y2) (Q:Hp->Prop),Inv X pins U H s->RelV o a->RelV i b->RelV v u->t o i v H Q →
  wpAny (model X.p X.w) X.A (setItem a b u) (λ_ s'=> ∃H',Inv X pins U H' s'/\Q H') X.y s
section
variable {X:Cx}{pos:Pos}
def wY (i:Nat):TG:=λv U H Q=>Q (U.w i (k0 v)) H
def X6 (d:X.N.B) (f:X.N[i]? =k0 x) (b:lP X.j.j x) (c:X.fn x=u0\/X.j.j.j.p x=k0 .local:=by first | exact .inl rfl | exact .inr rfl | assumption):PG X (.j x pos) (wY i):=by
 intro a s U H v u Q I r h
 exact wpAny_assign_Name (Wp I d f b r (λg e=>⟨_,H,e,h⟩) c)
def Hk:ml:=λa U H Q=>a= []/\Q U H
def M0 (t:TG) (u:ml):ml:=λa U H Q=> ∃v r,a=v::r/\t v U H λb H'=>u r b H' Q
def AA:mf X [] Hk:=by
 intro a s U H b c Q I r h
 obtain⟨e,h⟩:=h
 subst e
 cases r
 exact assignInOrder_nil ⟨U,H,I,h⟩
def qV (h1:PG X e t) (i:mf X es u)
 (k:(assignEach (e::es) X.j).j (·.2)=assign e X.j::(assignEach es X.j).j (·.2):=by rfl):mf X (e::es) (M0 t u):=by
 intro a s U H l n Q I r h
 obtain⟨v,m,e1,h⟩:=h
 subst e1
 cases r with
 | cons r b=>
  rw [k]
  refine assignInOrder_cons (aS (h1 a s U H _ _ _ I r h) ?_)
  rintro _ f ⟨j,c,g,d⟩
  exact i a f j c _ _ Q g b d
def FI (K:Ab) (n:Nat) (t:ml):TG:=λv U H Q=> ∃a xs,v= .p a/\cQ K H a xs/\xs.e=n/\t xs U H Q
def tG (g:X.calm=u0) (h:mf X es t)
 (x:(assignEach es X.j).e=n:=by rfl) (d:(assignEach es X.j).findIdx? (·.1)=none:=by rfl):PG X (.B es k pos) (FI X.K n t):=by
 intro c s U H v u Q I r f
 obtain⟨a,p,e1,j,y,f⟩:=f
 subst e1
 cases r
 obtain⟨l,rv,i,z⟩:=I.tuple j
 refine assign_Tuple_tuple (I.j.hd g) i (by simp [x,←y,rv.e]) d λm w=> ?_
 have q:Inv X c U H { s with heap:=m }:=I.kept λb o e=>w b o (Ac3 (Ac0 e)) e
 exact h c _ U H p _ Q q (by simpa using rv) f
def IG (a c:TE) (t:ux):TG:=λv U H Q=>a U H λo H1=>c U H1 λi H2=>t o i v H2 λb=>Q U b
def mZ (B:PE X o to) (w:PE X i ti) (C:oZ X t)
 (k: ∀v,assign (.q o i pos) X.j v=(do
   let j ←holding [v] (eval o X.j)
   let L ←holding [v,j] (eval i X.j)
   standAt pos
   holding [v,j,L] (setItem j L v)
   release [v,j,L] []):=by intro _;rfl):PG X (.q o i pos) (IG to ti t):=by
 intro a s U H v u Q I r h
 rw [k]
 refine wpAny_bind (wpAny_holding (aS (B a s U H _ I h) ?_))
 rintro j g ⟨x,d,n,l,e⟩
 refine wpAny_bind (wpAny_holding (aS (w a g U d _ n e) ?_))
 rintro L b ⟨y,p,f,z,c⟩
 refine wpAny_bind (wpAny_standAt (wpAny_bind (wpAny_holding (aS (C a b U p x y v j L u _ f l z r c) ?_))))
 rintro _ D ⟨A,m,q⟩
 exact wpAny_release ⟨U,A,m,q⟩
def iI (a:TE) (g:TG):TS:=λD U H=>a U H λx H1=>g x U H1 D.nx
def J0 (f:PE X e te) (l:PG X tg g) (m:swapsWithSole [tg] e pos.p X.j=pure false:=by rfl) (j:swappedStores [tg] e X.j=pure none:=by rfl)
 (h1:(assignEach [tg] X.j).j (·.2)= [assign tg X.j]:=by rfl):PS X (.j [tg] e pos) (iI te g):=by
 intro a s U H D I h
 refine wpAny_Assign_stores (aS (f a s U H _ I h) ?_) m j
 rintro v d⟨x,b,k,i,c⟩
 rw [h1]
 exact aS (l a d U b x v _ k i c) λ_ n q=>q
def Mz (b:X.N.B) (l:X.N[i]? =k0 x) (m:lP X.j.j x) (g:PE X e te) (o:swapsWith e (k0 (.j x pos')) pos.p X.j=pure false:=by rfl) (n:X.fn x=u0\/X.j.j.j.p x=k0 .local:=by first | exact .inl rfl | exact .inr rfl | assumption):
 PS X (.j [.j x pos'] e pos) (iI te (wY i)):=by
 intro a s U H D I h
 refine wpAny_Assign_Name (aS (g a s U H _ I h) ?_) o
 rintro v q⟨y,c,k,j,d⟩
 exact Wp k b l m j (λp f=>⟨_,c,f,d⟩) n
end
section
variable {X:Cx}{pos:Pos}
def Di (c:TT) (tb:TS):TS:=λD U H=> ∃W:Nat->St->Hp->Prop,(∃ m,W m U H)/\ ∀m U H,W m U H →
 c U H λb H1=>if b=u0 then ∃N:St->Hp->Prop,(∀ d H',N d H'-> ∃a,a<m/\W a d H')/\tb { D with nx:=N,ct:=N,bk:=D.nx } U H1 else D.nx U H1
def M6 (w:PassesOwn (model X.p X.w) X.A X.j X.y) (E:PT X c tc) (J:dr X body tb):PS X (.While c body [] pos) (Di tc tb):=by
 intro a s U H D I h
 obtain⟨W,⟨C,K⟩,d⟩:=h
 refine wpAny_While (codeAny_whileLoop (λn L=> ∃x z,Inv X a x z L/\W n x z) ?_ C ⟨U,H,I,K⟩)
 rintro n F ⟨k,r,G,B⟩
 refine wpAny_passesOwn w (aS (E a F k r _ G (d n k r B)) ?_)
 rintro b A ⟨y,u,i⟩
 cases b with
 | true=>
  obtain⟨N,t,i⟩:=i
  refine wpAny_passesOwn w (aS (J a A k y _ u i) λf M j=> ?_)
  cases f with
  | next=>
   obtain⟨g,e,p,o⟩:=j
   obtain⟨m,l,q⟩:=t g e o
   exact⟨m,l,g,e,p,q⟩
  | cont=>
   obtain⟨g,e,p,o⟩:=j
   obtain⟨m,l,q⟩:=t g e o
   exact⟨m,l,g,e,p,q⟩
  | brk=>exact j
  | ret v=>exact j
 | false=>
  exact wpAny_execs_nil ⟨k,y,u,i⟩
end
structure It where
 go:Nat->Hp->Prop
 gd:Nat->Hp->V->Hp->Prop
 stop:Nat->Hp->Prop
def bC (X:Cx) (a:Y0 (Y5×Obj)) (H:Hp) (b:Y5):Prop:=
 H b=y0/\b≠X.j.p/\b∉X.fs/\(b∈X.ex\/X.s₀.j.j.j<=b)/\(∀ x c,X.j.q.p x=k0 c->c≠b)/\ ∀p∈X.pn++a,p.1≠b
def Inv.dR (I:Inv X pins U H s) (a:s.j.j.j<=b) (f:H' b=y0):bC X pins H' b:=by
 refine⟨f,Ap5 (Ab3 I.lt a),I.rK a,.q (Ab5 I.sz a),λx c e z=> ?_,λp d z=> ?_⟩
 .obtain⟨v,q⟩:=I.p x c e
  exact absurd (Ab3 q.lt (by rw [z];exact a)) (Ai3 _)
 .exact absurd (Ab3 (Ac0 (I.N p d).1) (by rw [z];exact a)) (Ai3 _)
structure mz (P:Program) (w:World) (K:Ab) (tg:Expr) (J:It) (fp:List Addr) (it:Addr) (tn:Nat->Heap->Prop):Prop where
 mem:it∈fp
 obj: ∀i h,tn i h-> ∀b∈fp,∃o,h.p b=k0 o/\ ∀v,o.j≠ .p v
 keep: ∀i h h',tn i h->(∀ b∈fp,∀o,h.p b=k0 o->h'.p b=k0 o)->tn i h'
 item: ∀(X:Cx),X.p=P->X.w=w->X.K=K->X.calm=u0-> ∀(i:Nat) (pins:List (Addr×Obj)) (s:Shared) (U:St) (H:Hp) (E:Value->Shared->Prop),Inv X pins U H s->(∀ b∈fp,bC X pins H b)->tn i s.j->J.go i H →
  wpAny (model P w) X.A (pyNext (.p it)) (λr s1=> ∃u,r=k0 u ∧
   wpAny (model P w) X.A (letOwnedTupleGo tg (.p it) u) (λ_ s2=> ∃x H',Inv X pins U H' s2/\RelV x u/\J.gd i H x H'/\tn (i+1) s2.j/\ ∀b∈fp,H' b=y0) E s1) E s
 done: ∀(X:Cx),X.p=P->X.w=w->X.K=K->X.calm=u0-> ∀(i:Nat) (pins:List (Addr×Obj)) (s:Shared) (U:St) (H:Hp) (E:Value->Shared->Prop),Inv X pins U H s->(∀ b∈fp,bC X pins H b)->tn i s.j->J.stop i H →
  wpAny (model P w) X.A (pyNext (.p it)) (λr s1=>r=y0/\Inv X pins U H s1) E s
 self: ∀(A:Around) (i:Nat) (s:Shared) (Q:Value->Shared->Prop) (E:Value->Shared->Prop),tn i s.j->Q (.p it) s->wpAny (model P w) A (pyIter (.p it)) Q E s
abbrev TI:=St->Hp->(It->Hp->Prop)->Prop
def sm (X:Cx) (a:Y0 (Y5×Obj)) (U:St) (g:Y4) (R:It->Hp->Prop) (c:Y2) (d:Y3):Prop:=
 ∃(e:Y5) (fp:Y0 Y5) (f:Nat->Y6->Prop) (J:It) (H':Hp),c= .p e/\Inv X a U H' d/\mz X.p X.w X.K g J fp e f/\f 0 d.j/\(∀ b∈fp,bC X a H' b)/\R J H'
def PI (X:Cx) (b a:Y4) (d:TI):Prop:=
 ∀(pins:Y0 (Y5×Obj)) (s:Y3) (U:St) (H:Hp) (R:It->Hp->Prop),Inv X pins U H s->d U H R →
  wpAny (model X.p X.w) X.A (eval a X.j) (λv c=>wpAny (model X.p X.w) X.A (pyIter v) (sm X pins U b R) X.y c) X.y s
def pE (c:s.j.p it=k0 o) (d:o.cls= .j n) (e:o.j= .q vs)
 (b: ["enumerate", "zip", "dict_itemiterator", "dict_reverseitemiterator", "odict_iterator", "itertools.zip_longest", "itertools.pairwise"].u n=false) (a:Q () s):wpAny M A (letOwnedTupleGo tg (.p it) u) Q E s:=by
 unfold letOwnedTupleGo
 cases tg<;>first
  | exact wpAny_pure a
  | (cases u<;>first
      | exact wpAny_pure a
      | (refine wpAny_bind (wpAny_load c ?_)
         rw [d,e]
         show wpAny M A (if (["enumerate", "zip", "dict_itemiterator", "dict_reverseitemiterator", "odict_iterator", "itertools.zip_longest", "itertools.pairwise"].u n&&vs[0]? ==some (rawInt _))=true then _ else _) Q E s
         rw [if_neg (by intro h;rw [b,Ae4]at h;cases h)]
         exact wpAny_pure a))
noncomputable def lx (K:Ab) (a:Y5):It:=
 ⟨λi H=> ∃xs x,bA K H a xs/\xs[i]? =k0 x,λi H x H'=>H'=H/\ ∀xs,bA K H a xs->xs[i]? =k0 x,λi H=> ∃xs,bA K H a xs/\xs.e<=i⟩
noncomputable def lD (K:Ab) (a:Y5):It:=
 ⟨λi H=> ∃xs x,cQ K H a xs/\xs[i]? =k0 x,λi H x H'=>H'=H/\ ∀xs,cQ K H a xs->xs[i]? =k0 x,λi H=> ∃xs,cQ K H a xs/\xs.e<=i⟩
def nz (a:Int) (n:Nat):It:=⟨λi _=>i<n,λi H x H'=>H'=H/\x= .o (a+i),λi _=>n<=i⟩
def Dd {K:Ab}(a it):mz P w K tg (lx K a) [it] it (λi h=>h.IsListIter it a i) where
 mem:=by simp
 obj:=λi h f b j=>by
  have e:=by simpa using j
  subst e
  obtain⟨o,e,c,d⟩:=f
  exact⟨o,e,λv z=>by rw [d]at z;cases z⟩
 keep:=λi h r f k=>f.at λo e=>k it (by simp) o e
 item:=by
  intro X J t F M i g s U H E I n f y
  subst J t F
  obtain⟨S,x,m,A⟩:=y
  obtain⟨q,rv,p,Q⟩:=I.list m
  obtain⟨u,R,V⟩:=rv.get A
  obtain⟨B,C,W,D,L,G⟩:=n it (by simp)
  refine wpAny_pyNext_list_item f p.G (by simpa using R) λr l O=> ?_
  have T:Inv X g U H { s with heap:=r }:=I.B (λb o j e=>(O.2 b j).j e) B C D L G
  obtain⟨o,e,c,d⟩:=id l
  exact⟨u,rfl,pE e c d (by decide) ⟨x,H,T,V,⟨rfl,λZ N=>by rw [I.ej N m];exact A⟩,l,λb j=>(n b j).1⟩⟩
 done:=by
  intro X J t F M i g s U H E I n f y
  subst J t F
  obtain⟨S,m,A⟩:=y
  obtain⟨q,rv,p,Q⟩:=I.list m
  obtain⟨B,C,W,D,L,G⟩:=n it (by simp)
  have hl:=rv.e
  exact wpAny_pyNext_list_end (I.j.hd M) f p.G (by simp;omega) λr Y=>⟨rfl,I.B (λb o j e=>Y b o j e) B C D L G⟩
 self:=λ_ _ _ _ _ f h=>wpAny_pyIter_listiter f h
def MZ {K:Ab}(a it):mz P w K tg (lD K a) [it] it (λi h=>h.IsTupleIter it a i) where
 mem:=by simp
 obj:=λi h f b j=>by
  have e:=by simpa using j
  subst e
  obtain⟨o,e,c,d⟩:=f
  exact⟨o,e,λv z=>by rw [d]at z;cases z⟩
 keep:=λi h r f k=>f.at λo e=>k it (by simp) o e
 item:=by
  intro X J t F M i g s U H E I n f y
  subst J t F
  obtain⟨S,x,m,A⟩:=y
  obtain⟨q,rv,p,Q⟩:=I.tuple m
  obtain⟨u,R,V⟩:=rv.get A
  obtain⟨B,C,W,D,L,G⟩:=n it (by simp)
  refine wpAny_pyNext_tuple_item f (p) (by simpa using R) λr l O=> ?_
  have T:Inv X g U H { s with heap:=r }:=I.B (λb o j e=>(O.2 b j).j e) B C D L G
  obtain⟨o,e,c,d⟩:=id l
  exact⟨u,rfl,pE e c d (by decide) ⟨x,H,T,V,⟨rfl,λZ N=>by rw [I.fB N m];exact A⟩,l,λb j=>(n b j).1⟩⟩
 done:=by
  intro X J t F M i g s U H E I n f y
  subst J t F
  obtain⟨S,m,A⟩:=y
  obtain⟨q,rv,p,Q⟩:=I.tuple m
  obtain⟨B,C,W,D,L,G⟩:=n it (by simp)
  have hl:=rv.e
  exact wpAny_pyNext_tuple_end (I.j.hd M) f (p) (by simp;omega) λr Y=>⟨rfl,I.B (λb o j e=>Y b o j e) B C D L G⟩
 self:=λ_ _ _ _ _ f h=>wpAny_pyIter_tupleiter f h
def KL {K:Ab}(it) (lo) (n):mz P w K tg (nz lo n) [it] it (λi h=>IsRangeIter h it (lo+(i:Nat)*1) ((n:Int)-(i:Nat)) 1) where
 mem:=by simp
 obj:=λi h a b d=>by
  have e:=by simpa using d
  subst e
  exact⟨_,a,λv z=>by
   have J:=z
   cases J⟩
 keep:=λi h l a k=>k it (by simp) _ a
 item:=by
  intro X B y A j i c s U H E I g a m
  subst B y A
  obtain⟨u,p,L,q,x,r⟩:=g it (by simp)
  have W:=Walks.range (prog:=X.p) (w:=X.w) (I.j.hd j) it lo 1 n
  refine W.item i s _ _ m a λv l D G f C=> ?_
  obtain⟨t,rfl⟩:=G
  have F:Inv X c U H { s with heap:=l,toks:=D }:=I.B (λb o d e=>C b o (by simpa using d) e) u p q x r
  refine⟨_,rfl,pE f rfl rfl (by decide) ⟨.o (lo+i),H,F,⟨t,?_⟩,⟨rfl,rfl⟩,f,λb d=>(g b d).1⟩⟩
  rw [Int.mul_one]
 done:=by
  intro X B y A j i c s U H E I g a m
  obtain⟨u,p,L,q,x,r⟩:=g it (by simp)
  exact wpAny_pyNext_range_end (I.j.hd j) a (by have:n<=i:=m;omega) λl M=>⟨rfl,I.B (λb o d e=>M b o d e) u p q x r⟩
 self:=λ_ _ _ _ _ a h=>wpAny_pyIter_rangeiter a h
section
variable {X:Cx}{tg:Y4}
def Mx {a c:Int}(I:Inv X pins U H s) (h1: -(2 ^ 62)<=a) (g:a<2 ^ 62) (h: -(2 ^ 62)<=c) (f:c<2 ^ 62)
 (q:R (nz a (c-a).j) H):wpAny (model X.p X.w) X.A (pyIter (.p s.j.j.j)) (sm X pins U tg R) E { s with heap:=s.j.q { cls:= .j "range",data:= .q #[.o a t,.o c u,.o 1 v] },toks:=tk }:=by
 refine wpAny_pyIter_range (IsRange.new ..) (small_one h1 g h f) ?_
 have d:Inv X pins U H { s with heap:=s.j.q { cls:= .j "range",data:= .q #[.o a t,.o c u,.o 1 v] },toks:=tk }:=I.kept fun b o e=>Heap.get?_push_of_some _ e
 refine⟨(s.j.q { cls:= .j "range",data:= .q #[.o a t,.o c u,.o 1 v] }).j.j,[(s.j.q { cls:= .j "range",data:= .q #[.o a t,.o c u,.o 1 v] }).j.j],_,_,H,rfl,
  d.kept λb o e=>Ab1 _ e,KL _ a (c-a).j,?_,λb i=> ?_,q⟩
 .have e1:a+ (0:Nat)*1=a:=by simp
  have e2: ((c-a).j:Nat)- (0:Nat)=Builtin.Range.rangeSize a c 1:=by rw [rangeSize_one];split<;>omega
  rw [e1,e2]
  exact Ac8 _ rfl
 .have e:b=(s.j.q { cls:= .j "range",data:= .q #[.o a t,.o c u,.o 1 v] }).j.j:=by simpa using i
  subst e
  exact d.dR (Aa8 _) (d.C.fresh (Aa8 _))
def Lv (b:TA):TI:=λU H R=>b U H λa H1=> ∃j:Int,a= [.o j]/\ -(2 ^ 62)<=j/\j<2 ^ 62/\R (nz 0 j.j) H1
def B6 (m:Gl X "range") (d:X.C "range" =none) (i:PA X [a] ta) (n:starEach [a] X.j= [(false,eval a X.j)]:=by rfl):PI X tg (.w (.j "range" p) [a] [] pos) (Lv ta):=by
 intro b s U H R I h
 refine Call_ (jG I m d boot_range (PyProof.Rows.callWith_type1 (aS (i pos b s U H _ I h) ?_) n rfl))
 rintro w v⟨u,o,l,k,c⟩
 obtain⟨j,e,c,g,q⟩:=c
 subst e
 cases k with
 | cons r f=>
  cases f
  obtain⟨t,rfl⟩:=r
  exact call_range_1 (Mx l (by omega) (by omega) c g (by simpa using q))
def Bu (d:TI) (g:TG) (tb:TS):TS:=λD U H=>d U H λJ H1=> ∃W:Nat->Nat->St->Hp->Prop,(∃ m,W 0 m U H1)/\ ∀i m U H,W i m U H →
 (J.stop i H/\D.nx U H)\/(J.go i H/\ ∃N:St->Hp->Prop,(∀ b H',N b H'-> ∃a,a<m/\W (i+1) a b H')/\ ∀x H',J.gd i H x H'->g x U H' λc H2=>tb { D with nx:=N,ct:=N,bk:=D.nx } c H2)
noncomputable def zL (a:Y0 Y5) (h:Y6):Y0 (Y5×Obj):=a.T λb=>(h.p b).j λo=>(b,o)
def Qg (a:b∈fp) (e:h.p b=k0 o):(b,o)∈zL fp h:=Ao9.q ⟨b,a,by rw [e];rfl⟩
def J1 (a:p∈zL fp h):p.1∈fp/\h.p p.1=k0 p.2:=by
 obtain⟨b,d,e⟩:=Ao9.p a
 cases q:h.p b with
 | none=>rw [q]at e;cases e
 | some o=>
  rw [q]at e
  have c:=Ad9.inj e
  subst c
  exact⟨d,q⟩
def Inv.pinned (I:Inv X pins U H s) (h: ∀b∈fp,bC X pins H b) (k: ∀b∈fp,∃o,s.j.p b=k0 o/\ ∀v,o.j≠ .p v):Inv X (pins++zL fp s.j) U H s:=
 I.bX λp f=>(Ac9.p f).j (λz=>I.N p (Ab0 _ z)) λz=>by
  obtain⟨c,e⟩:=J1 z
  obtain⟨j,g,i,_⟩:=h p.1 c
  obtain⟨o,a,d⟩:=k p.1 c
  rw [e]at a;cases a
  exact⟨e,j,g,i,d⟩
def Inv.bP (I:Inv X (pins++pl) U H s):Inv X pins U H s:=I.bX λp a=>I.N p (Ab0 _ (Ad0 _ a))
def Dk (F:PassesOwn (model X.p X.w) X.A X.j X.y) (hc:X.calm=u0) (hi:PI X tg iter wi) (hg:PG X tg g) (c:dr X body tb)
 (hs: ∀x,foldedSetIterable iter X.j x=pure x:=by intro _;rfl):PS X (.For tg iter body [] pos) (Bu wi g tb):=by
 intro a s U H D I h
 refine wpAny_For (aS (hi a s U H _ I h) λv s1 h1=>aS h1 λitv s2 h2=> ?_) hs
 obtain⟨it,E,tn,J,H2,e,I2,T,O,Z,W,⟨m0,w0⟩,A⟩:=h2
 subst e
 have l: ∀ {t},(∀ b∈E,t b=y0)-> ∀b∈E,bC X a t b:=λhn b c=>⟨hn b c,(Z b c).2⟩
 refine codeAny_forLoop_any (λn s'=> ∃i B t,Inv X a B t s'/\tn i s'.j/\(∀ b∈E,t b=y0)/\W i n B t) ?_ m0 ⟨0,U,H2,I2,O,λb c=>(Z b c).1,w0⟩
 rintro n s3 ⟨i,K,L,V,G,z,w3⟩
 rcases A i n K L w3 with⟨stop,qn⟩ | ⟨go,N,hN,step⟩
 .refine wpAny_passesOwn F (aS (T.done X rfl rfl rfl hc i a s3 K L X.y V (l z) G stop) ?_)
  rintro r s4 ⟨R,I4⟩
  subst R
  exact wpAny_execs_nil ⟨K,L,I4,qn⟩
 .refine wpAny_passesOwn F (aS (T.item X rfl rfl rfl hc i a s3 K L X.y V (l z) G go) ?_)
  rintro r s4 ⟨u,R,h4⟩
  subst R
  refine wpAny_passesOwn F (aS h4 ?_)
  rintro _ S ⟨x,Y,I5,r5,y5,y,M⟩
  have Q:=I5.pinned (l M) (T.obj _ _ y)
  refine wpAny_passesOwn F (aS (hg _ S K Y x u _ Q r5 (step x Y y5)) ?_)
  rintro _ s6 ⟨U6,H6,I6,q6⟩
  refine wpAny_passesOwn F (aS (c _ s6 U6 H6 _ I6 q6) λf P w=> ?_)
  have k: ∀ {p}{q},Inv X (a++zL E S.j) p q P->N p q-> ∃m,m<n/\ ∃i B t,Inv X a B t P/\tn i P.j/\(∀ b∈E,t b=y0)/\W i m B t:=λ{p q} j C=>by
   obtain⟨m',hm,w7⟩:=hN p q C
   refine⟨m',hm,i+1,p,q,j.bP,T.keep _ _ _ y λb c o e=>(j.N (b,o) (Ab0 _ (Ab0 _ (Qg c e)))).1,λb c=> ?_,w7⟩
   obtain⟨o,e,d⟩:=T.obj _ _ y b c
   exact(j.N (b,o) (Ab0 _ (Ab0 _ (Qg c e)))).2.1
  cases f with
  | next=>obtain⟨p,q,j,C⟩:=w;exact k j C
  | cont=>obtain⟨p,q,j,C⟩:=w;exact k j C
  | brk=>obtain⟨p,q,j,w⟩:=w;exact⟨p,q,j.bP,w⟩
  | ret v=>obtain⟨x7,p,q,j,r7,w⟩:=w;exact⟨x7,p,q,j.bP,r7,w⟩
end
abbrev R2:=V->V->Hp->VK->Prop
def b8 (X:Cx) (f:Y2->Y2->Sem Y2) (r:R2):Prop:=
 ∀(pins:Y0 (Y5×Obj)) (s:Y3) (U:St) (H:Hp) (x y:V) (v u:Y2) (Q:VK),Inv X pins U H s->RelV x v->RelV y u->r x y H Q →
  wpAny (model X.p X.w) X.A (f v u) (EP X pins U Q) X.y s
def m4 (X:Cx) (f:Y2->Sem Y2) (r:V->Hp->VK->Prop):Prop:=
 ∀(pins:Y0 (Y5×Obj)) (s:Y3) (U:St) (H:Hp) (x:V) (v:Y2) (Q:VK),Inv X pins U H s->RelV x v->r x H Q →
  wpAny (model X.p X.w) X.A (f v) (EP X pins U Q) X.y s
def qv (X:Cx) (f:Y2) (r:Y0 V->Hp->VK->Prop):Prop:=
 ∀(pins:Y0 (Y5×Obj)) (s:Y3) (U:St) (H:Hp) (xs:Y0 V) (a:Y0 Y2) (Q:VK),Inv X pins U H s->Vals xs a->r xs H Q →
  wpAny (model X.p X.w) X.A (call f a) (EP X pins U Q) X.y s
def EA (X:Cx) (r:V->Hp->(Bool->Hp->Prop)->Prop):Prop:=
 ∀(pins:Y0 (Y5×Obj)) (s:Y3) (U:St) (H:Hp) (x:V) (v:Y2) (Q:Bool->Hp->Prop),Inv X pins U H s->RelV x v->r x H Q →
  wpAny (model X.p X.w) X.A (truthy v) (TP X pins U Q) X.y s
def md (r:R2) (a tb:TE):TE:=λU H Q=>a U H λx H1=>tb U H1 λy H2=>r x y H2 Q
def Ny (r:V->Hp->VK->Prop) (a:TE):TE:=λU H Q=>a U H λx H1=>r x H1 Q
def rI (C:Int->Int->Prop) (g:Int->Int->V):R2:=λx y H Q=> ∃i j,x= .o i/\y= .o j/\C i j/\Q (g i j) H
def gw (g:Int->Int->V):R2:=λx y H Q=> ∃i j,x= .o i/\y= .o j/\Q (g i j) H
def rU (g:Int->V):V->Hp->VK->Prop:=λx H Q=> ∃i,x= .o i/\Q (g i) H
section
variable {X:Cx}{a b c:Y4}{ta tb tc:TE}{pos:Pos}
def pw (k:PE X a ta) (n:PE X b tb){R:V->V->Hp->Prop}(I:Inv X pins U H s)
 (h:ta U H λx H1=>tb U H1 λy H2=>R x y H2){f:Y2->Y2->Sem Y2}
 (p: ∀v u L x y H2,Inv X pins U H2 L->RelV x v->RelV y u->R x y H2->wpAny (model X.p X.w) X.A (f v u) Q X.y L):
 wpAny (model X.p X.w) X.A (eval a X.j) (λv i=>wpAny (model X.p X.w) X.A (eval b X.j) (λu j=>wpAny (model X.p X.w) X.A (f v u) Q X.y j) X.y i) X.y s:=by
 refine aS (k pins s U H _ I h) ?_
 rintro v g ⟨x,H1,m,l,d⟩
 refine aS (n pins g U H1 _ m d) ?_
 rintro u L ⟨y,H2,e,o,c⟩
 exact p v u L x y H2 e l o c
def FQ (l:b8 X (binaryOp op) r) (f:PE X a ta) (k:PE X b tb):PE X (.BinOp a op b pos) (md r ta tb):=by
 intro c s U H Q I h
 exact wpAny_BinOp (pw f k I h λv u d x y i e g j q=>l c d U i x y v u Q e g j q)
def rX (d:m4 X (unaryOp op) r) (i:PE X a ta):PE X (.C op a pos) (Ny r ta):=by
 intro b s U H Q I h
 exact UnaryOp_ (aS (i b s U H _ I h) (by rintro v g⟨x,e,c,j,f⟩;exact d b g U e x v Q c j f))
def lr {g:Int->Int->Int}
 (a: ∀ i j t u s Q E,C i j->Q (.o (g i j) s.p) { s with toks:=s.p+1 }->wpAny (model X.p X.w) X.A (f (.o i t) (.o j u)) Q E s):
 b8 X f (rI C λi j=> .o (g i j)):=by
 intro b s U H x y v u Q I e k h
 obtain⟨i,j,rfl,rfl,c,q⟩:=h
 obtain⟨t,rfl⟩:=e
 obtain⟨d,rfl⟩:=k
 exact a i j t d s _ _ c ⟨.o (g i j),H,I.tok _,⟨_,rfl⟩,q⟩
def l7 {g:Int->Int->Int}
 (a: ∀ i j t u s Q E,Q (.o (g i j) s.p) { s with toks:=s.p+1 }->wpAny (model X.p X.w) X.A (f (.o i t) (.o j u)) Q E s):
 b8 X f (gw λi j=> .o (g i j)):=by
 intro b s U H x y v u Q I d e h
 obtain⟨i,j,rfl,rfl,q⟩:=h
 obtain⟨t,rfl⟩:=d
 obtain⟨c,rfl⟩:=e
 exact a i j t c s _ _ ⟨.o (g i j),H,I.tok _,⟨_,rfl⟩,q⟩
def nu {g:Int->Int->Bool}
 (a: ∀ i j t u s Q E,Q (.w (g i j)) s->wpAny (model X.p X.w) X.A (f (.o i t) (.o j u)) Q E s):
 b8 X f (gw λi j=> .C (g i j)):=by
 intro b s U H x y v u Q I d e h
 obtain⟨i,j,rfl,rfl,q⟩:=h
 obtain⟨t,rfl⟩:=d
 obtain⟨c,rfl⟩:=e
 exact a i j t c s _ _ ⟨.C (g i j),H,I,rfl,q⟩
def yG (i j:Int):Prop:=0<j/\j<1073741824
def Bc (i j:Int):Prop:=0<=j/\j<=1000000/\i.p<2 ^ 64
def iV (i j:Int):Prop:=(-(2 ^ 64)<i/\i<2 ^ 64)\/(-(2 ^ 64)<j/\j<2 ^ 64)
def iV.ok (h:iV i j):IntMulOk i j:=by
 rcases h with⟨a,b⟩ | ⟨a,b⟩
 .exact .of_left (intBits_le_64 a b)
 .exact .of_right (intBits_le_64 a b)
def KW (k):(0:Int)<=2 ^ k:=by
 exact Ap0 _
def NP:b8 X (binaryOp .Add) (gw λi j=> .o (i+j)):=l7 λ_ _ _ _ _ _ _ q=>add_int q
def HR:b8 X (binaryOp .Sub) (gw λi j=> .o (i-j)):=l7 λ_ _ _ _ _ _ _ q=>sub_int q
def KZ:b8 X (binaryOp .Mult) (rI iV λi j=> .o (i*j)):=lr λ_ _ _ _ _ _ _ a q=>mul_int q a.ok
def Cm:b8 X (binaryOp .FloorDiv) (rI yG λi j=> .o (i / j)):=lr λi j _ _ _ _ _ a q=>by
 have c:=a.1
 have b:=a.2
 exact floordiv_int (by omega) (by rw [Am1 i (by omega)];exact q) (.p (PyProof.noPylong_small (by omega)))
def EV:b8 X (binaryOp .Mod) (rI (λ_ j=>0<j) λi j=> .o (i % j)):=lr λi j _ _ _ _ _ a q=>by
 have b:=a
 exact mod_int' (by omega) (by rw [Int.fmod_eq_emod_of_nonneg i (by omega)];exact q)
def KQ:b8 X (binaryOp .Pow) (rI Bc λi j=> .o (i ^ j.j)):=lr λ_ _ _ _ _ _ _ a q=>pow_int_small a.1 a.2.1 a.2.2 q
def Om:b8 X (binaryOp .LShift) (rI Bc λi j=> .o (i*2 ^ j.j)):=lr λ_ _ _ _ _ _ _ a q=>lshift_int_small a.1 a.2.1 a.2.2 q
def En:b8 X (binaryOp .RShift) (rI (λ_ j=>0<=j) λi j=> .o (i / 2 ^ j.j)):=lr λi j _ _ _ _ _ a q=>
 rshift_int a (by rw [Am1 i (KW _)];exact q)
def E3:b8 X (binaryOp .BitAnd) (gw λi j=> .o (Builtin.bitAnd i j)):=l7 λ_ _ _ _ _ _ _ q=>and_int q
def N3:b8 X (binaryOp .BitOr) (gw λi j=> .o (Builtin.bitOr i j)):=l7 λ_ _ _ _ _ _ _ q=>or_int q
def Fw:b8 X (binaryOp .BitXor) (gw λi j=> .o (Builtin.bitXor i j)):=l7 λ_ _ _ _ _ _ _ q=>xor_int q
def yP {g:Int->Int}
 (a: ∀ i t s Q E,Q (.o (g i) s.p) { s with toks:=s.p+1 }->wpAny (model X.p X.w) X.A (f (.o i t)) Q E s):
 m4 X f (rU λi=> .o (g i)):=by
 intro b s U H x v Q I c h
 obtain⟨i,rfl,q⟩:=h
 obtain⟨t,rfl⟩:=c
 exact a i t s _ _ ⟨.o (g i),H,I.tok _,⟨_,rfl⟩,q⟩
def EB:m4 X (unaryOp .USub) (rU λi=> .o (-i)):=yP λ_ _ _ _ _ q=>neg_int q
def HF:m4 X (unaryOp .Invert) (rU λi=> .o (Builtin.bitNot i)):=yP λ_ _ _ _ _ q=>invert_int q
end
section
variable {X:Cx}{a b c:Y4}{ta tb tc:TE}{pos:Pos}
def mS (I:Inv X pins U H s) (q:Q (.C k) H) (e:k=k'):EP X pins U Q (.w k') s:=by
 subst e
 exact⟨.C k,H,I,rfl,q⟩
def B8:b8 X (compareOp .Lt) (gw λi j=> .C (y9 (i<j))):=nu λ_ _ _ _ _ _ _ q=>lt_int q
def HC:b8 X (compareOp .LtE) (gw λi j=> .C (y9 (i<=j))):=nu λ_ _ _ _ _ _ _ q=>le_int q
def CY:b8 X (compareOp .Gt) (gw λi j=> .C (y9 (j<i))):=nu λ_ _ _ _ _ _ _ q=>gt_int q
def Ir:b8 X (compareOp .GtE) (gw λi j=> .C (y9 (j<=i))):=nu λ_ _ _ _ _ _ _ q=>ge_int q
def AJ (m:b8 X (compareOp op) r) (g:PE X a ta) (l:PE X b tb) (e:behindInMarks op b=k9):PE X (.A a [op] [b] pos) (md r ta tb):=by
 intro c s U H Q I h
 exact wpAny_Compare1 (pw g l I h λv u d x y j f i k q=>m c d U j x y v u Q f i k q) e
def vT (t:TE):TT:=λU H Q=>t U H λx H'=> ∃k,x= .C k/\Q k H'
def vC (F:b8 X (compareOp op) r) (o:PE X a ta) (B:PE X b tb) (g:behindInMarks op b=k9):PT X (.A a [op] [b] pos) (vT (md r ta tb)):=by
 intro d s U H Q I h
 refine wpAny_isTrue_Compare1 (aS (o d s U H _ I h) ?_) g
 rintro v n⟨x,j,t,p,l⟩
 refine aS (B d n U j _ t l) ?_
 rintro u f⟨y,w,m,C,i⟩
 refine aS (F d f U w x y v u _ m p C i) ?_
 rintro c G⟨z,E,q,D,k,e,A⟩
 subst e
 cases D
 exact wpAny_truthy_bool ⟨E,q,A⟩
def oh (r r':R2) (e tb d:TE):TE:=λU H Q=>e U H λx H1=>tb U H1 λy H2=>r x y H2 λz a=> ∃k,z= .C k ∧
 (if k=u0 then d U a λc b=>r' y c b Q else Q (.C k9) a)
def E8 (T:b8 X (compareOp op) r) (g:b8 X (compareOp op') r') (D:PE X a ta) (O:PE X b tb) (A:PE X c tc)
 (o:lastMarks [op,op'] [b,c]=false:=by with_unfolding_all rfl):PE X (.A a [op,op'] [b,c] pos) (oh r r' ta tb tc):=by
 intro f s U H Q I h
 refine Compare_chain (aS (D f s U H _ I h) ?_) o
 rintro v C⟨x,t,G,F,w⟩
 refine chain_link (aS (O f C U t _ G w) ?_)
 rintro u n⟨y,L,B,l,q⟩
 refine aS (T f n U L x y v u _ B F l q) ?_
 rintro d E⟨z,m,i,P,k,e,j⟩
 subst e
 cases P
 refine wpAny_truthy_bool ?_
 cases k with
 | false=>exact ite_ff ⟨.C k9,m,i,rfl,j⟩
 | true=>exact ite_tt (chain_last (aS (A f E U m _ i j) (by rintro S M⟨N,J,K,p,R⟩;exact g f M U J y N u S Q K l p R)))
def Bv (ho:b8 X (compareOp op) r) (g:b8 X (compareOp op') r') (G:PE X a ta) (V:PE X b tb) (B:PE X c tc)
 (o:lastMarks [op,op'] [b,c]=false:=by with_unfolding_all rfl):PT X (.A a [op,op'] [b,c] pos) (vT (oh r r' ta tb tc)):=by
 intro f s U H Q I h
 refine isTrue_chain (aS (G f s U H _ I h) ?_) o
 rintro v F⟨x,w,M,L,A⟩
 refine test_link (aS (V f F U w _ M A) ?_)
 rintro u n⟨y,P,D,l,t⟩
 refine aS (ho f n U P x y v u _ D L l t) ?_
 rintro d J⟨z,m,i,W,k,e,j⟩
 subst e
 cases W
 refine wpAny_truthy_bool ?_
 cases k with
 | false=>
  obtain⟨k',q,Z⟩:=j
  cases q
  exact ite_ff ⟨m,i,Z⟩
 | true=>
  refine ite_tt (test_last (aS (B f J U m _ i j) ?_))
  rintro w' R⟨T,N,O,p,Y⟩
  refine aS (g f R U N y T u w' _ O l p Y) ?_
  rintro d' s5 ⟨z2,S,E,K,k2,e2,C⟩
  subst e2
  cases K
  exact wpAny_truthy_bool ⟨S,E,C⟩
def kn (K:Ab) (x:V) (H:Hp) (k:Bool):Prop:=
 match x with
 | .ak=>k=k9
 | .C b=>k=b
 | .o i=>k=(i != 0)
 | .j y=>y.e<=sizeLine/\k=((y.e:Int) != 0)
 | .kP y=>y.j<=sizeLine/\k=((y.j:Int) != 0)
 | .p p=>(∃ xs,bA K H p xs/\k= !xs.y)\/(∃ xs,cQ K H p xs/\k= !xs.y)\/ ∃kvs,H p=k0 (.dK kvs)/\k= !kvs.y
 | _=>False
def MD (r:KV kvs vs):(!vs.y)= !kvs.y:=by
 cases r<;>rfl
def wN (r:Vals xs its):(!its.q.isEmpty)= !xs.y:=by
 cases r<;>simp
def xM:(sizeLine:Nat)<2 ^ 63:=by rw [sizeLine_eq];decide
def n0:EA X (λx H Q=> ∃k,kn X.K x H k/\Q k H):=by
 intro o s U H x v Q I d h
 obtain⟨k,e,q⟩:=h
 have A:=xM
 have B:=sizeLine_eq
 cases x with
 | ak=>
  cases d
  have a:=e
  subst a
  exact truthy_none ⟨H,I,q⟩
 | bl b=>
  cases d
  have a:=e
  subst a
  exact wpAny_truthy_bool ⟨H,I,q⟩
 | int i=>
  obtain⟨t,rfl⟩:=d
  have a:=e
  subst a
  exact PySem.P.truthy_int ⟨H,I,q⟩
 | str y=>
  obtain⟨t,rfl⟩:=d
  obtain⟨u,a⟩:y.e<=sizeLine/\k=((y.e:Int) != 0):=e
  subst a
  exact PySem.P.truthy_str (by omega) ⟨H,I.tok _,q⟩
 | kP y=>
  obtain⟨t,rfl⟩:=d
  obtain⟨u,a⟩:y.j<=sizeLine/\k=((y.j:Int) != 0):=e
  subst a
  exact PySem.W.truthy_bytes (by omega) ⟨H,I.tok _,q⟩
 | ref p=>
  cases d
  have a:=e
  rcases a with⟨z,f,a⟩ | ⟨z,f,a⟩ | ⟨g,f,a⟩
  .subst a
   obtain⟨l,r,pl,n⟩:=I.list f
   have c:=r.e
   exact wpAny_truthy_list pl.G (by simp only [Ab4];omega) ⟨H,I.tok _,by rw [wN r];exact q⟩
  .subst a
   obtain⟨l,r,pl,n⟩:=I.tuple f
   have c:=r.e
   exact truthy_tuple pl (by simp only [Ab4];omega) ⟨H,I.tok _,by rw [wN r];exact q⟩
  .subst a
   obtain⟨n,w,j,r,m⟩:g.e<=sizeLine/\(p==sysModules)=k9/\ ∃j,KV g j/\s.j.DictOf (Jx X.p X.w) p j:=I.C p _ f
   have c:=Paired.length r
   exact wpAny_truthy_dict w m (by omega) ⟨H,I.tok _,by rw [MD r];exact q⟩
 | _=>exact(e).j
def BV (f:PE X a ta) (g: ∀i,isTrue a X.j i=(do let v ←i;standAt a.pos;holding [v] (truthy v))):
 PT X a (λU H Q=>ta U H λx H'=> ∃k,kn X.K x H' k/\Q k H'):=by
 intro b s U H Q I h
 exact isTrue_plain (aS (f b s U H _ I h) (by rintro v e⟨x,c,l,j,d⟩;exact n0 b e U c x v Q l j d)) (g _)
def Eh:b8 X (binaryOp .Add) (λx y H Q=> ∃i j,x= .j i/\y= .j j/\i.e+j.e<=sizeLine/\Q (.j (i++j)) H):=by
 intro a s U H x y v u Q I d e h
 obtain⟨i,j,rfl,rfl,c,q⟩:=h
 obtain⟨t,rfl⟩:=d
 obtain⟨b,rfl⟩:=e
 exact add_str (λb f=>⟨.j (i++j),H,I.tok _,⟨_,rfl⟩,q⟩) c
def xN (r:Vals [x] us): ∃u,us= [u]/\RelV x u:=by
 cases r with
 | cons b a=>cases a;exact⟨_,rfl,b⟩
def oG (r:Vals [x,y] us): ∃u i,us= [u,i]/\RelV x u/\RelV y i:=by
 cases r with
 | cons d a=>
  cases a with
  | cons b c=>cases c;exact⟨_,_,rfl,d,b⟩
def zY:qv X (.j "int") (fun xs H Q=>(∃ i,xs= [.o i]/\Q (.o i) H)\/ ∃k,xs= [.C k]/\Q (.o (if k then 1 else 0)) H):=by
 intro a s U H xs c Q I r h
 rcases h with⟨i,rfl,q⟩ | ⟨k,rfl,q⟩
 .obtain⟨u,rfl,t,rfl⟩:=xN r
  exact call_int_int ⟨.o i,H,I,⟨_,rfl⟩,q⟩
 .obtain⟨u,rfl,b⟩:=xN r
  cases b
  exact call_int_bool ⟨.o (if k then 1 else 0),H,I.tok _,⟨_,rfl⟩,q⟩
def Q9:qv X (.q "divmod") (fun xs H Q=> ∃i j,xs= [.o i,.o j]/\yG i j/\ ∀p,H p=none->Q (.p p) (aF H p (.q [.o (i / j),.o (i % j)]))):=by
 intro a s U H xs k Q I r h
 obtain⟨i,j,rfl,⟨d,g⟩,q⟩:=h
 obtain⟨u,l,rfl,⟨t,rfl⟩,⟨f,rfl⟩⟩:=oG r
 refine divmod_int (by omega) ?_ (.p (PyProof.noPylong_small (by omega)))
 rw [Am1 i (by omega),Int.fmod_eq_emod_of_nonneg i (by omega)]
 have c:=I.C.fresh (Aa8 _)
 refine⟨.p s.j.j.j,_,?_,rfl,q _ c⟩
 refine I.laid (λb o e=>Ab1 _ e) (Aa8 _) ⟨by simp only [Aa6,Ad7];rw [sizeLine_eq];decide,[.o (i / j) s.p,.o (i % j) (s.p+1)],.j ⟨_,rfl⟩ (.j ⟨_,rfl⟩ .p),?_⟩
 exact⟨_,Ac8 s.j rfl,rfl,rfl,0,rfl⟩
end
structure eM (h:Heap) (x dx C:Addr) (mA:Str->Option Value):Prop where
 obj:h.p x=k0 (Aj9 C dx)
 ns:h.Ns1 dx mA
 ne:dx≠x
def Q5 {h:Y6}(n:h.Ns1 dx mA): ∃i,h.p dx=k0 i/\ ∀name,An2 name i=k0 (mA name):=by
 obtain⟨o,c,m,l,k,g,_,f⟩:=n
 refine⟨o,l,λname=> ?_⟩
 have e:=f name
 unfold nsFind findBy at e
 rw [← Array.find?_toList]at e
 unfold An2
 rw [k]
 dsimp only
 split
 .rename_i y q
  rw [q]at e
  exact congrArg k0 e
 .rename_i q
  rw [q]at e
  have a:c.p.z (·.refKey)=false:=by
   rw [Ak7]
   intro y d
   obtain⟨z,t,b⟩:=g y (Array.mem_toList_iff.p d)
   simp [DictEntry.refKey,b]
  have j: ¬c.p.z (·.refKey)=true:=by rw [a];exact Ac2
  rw [if_neg j]
  exact congrArg k0 e
def eM.look (I:eM h x dx C mA): ∃i,PySem.W.InstAt h x (Aj9 C dx) C (k0 i)/\ ∀name,An2 name i=k0 (mA name):=
 let ⟨i,a,b⟩:=Q5 I.ns
 ⟨i,⟨I.obj,rfl,rfl,a⟩,b⟩
section
variable {prog:Y9}{w:Y8}{A:YQ}{E:Y2->Y3->Prop}{s:Y3}{K:Ab}{x dx C f:Y5}{mA:Str->Y1 Y2}{name:Str}{v:Y2}
def Fe (X:K.In s.j) (I:eM s.j x dx C mA) (b:Am6 K C name=u0) (c:PySem.W.hasDictIn K C=u0)
 (f:Ak4 K (.p C) name=k0 y0) (e:mA name=k0 v) (a:PySem.W.handedIn v=u0) (h:Q v { s with toks:=s.p+1 }):
 wpAny (model prog w) A (getAttr (.p x) name expr) Q E s:=by
 obtain⟨g,J,d⟩:=I.look
 exact PySem.W.get_value X J (An9 b).1 (PySem.W.findObj_own c f rfl (by rw [d,e])) a h
def Dr (X:K.In s.j) (I:eM s.j x dx C mA) (a:Am6 K C name=u0)
 (c:Ak4 K (.p C) name=k0 (k0 (.p f))) (g:PySem.W.isFn K (.p f)=u0) (e:mA name=y0) (h:Q (.p f,[.p x]) s):
 wpAny (model prog w) A (getMethod (.p x) name pl) Q E s:=by
 obtain⟨b,J,d⟩:=I.look
 exact PySem.W.method_fn X J (An9 a).1 (An9 a).2 c (beq_iff_eq.p g) (by show(An2 name b).j (·.q)=k0 k9;rw [d,e];rfl) h
def Bz (X:K.In s.j) (I:eM s.j x dx C mA)
 (r:PySem.W.findIn K (.p C) "__setattr__" =some (some (.q "object.__setattr__"))) (l:PySem.W.plainOver K C=true) (k:PySem.W.takerIn K C name=some none) (i:PySem.W.hasDictIn K C=true)
 (m:PySem.Within mA ns) (q:ns.e<=sizeLine)
 (h: ∀h',eM h' x dx C (λy=>if y=name then k0 v else mA y)->Al1 dx s.j h'->Q () { s with heap:=h',toks:=s.p+2 }):
 wpAny (model prog w) A (setAttr (.p x) name v) Q E s:=by
 obtain⟨t,J,z⟩:=I.look
 refine PySem.W.set_plain X J r (PySem.W.osa_open X J l k λb=> ?_)
 obtain⟨cd,j,d⟩:=PySem.W.any_some i
 have p:=I.obj
 refine wpAny_bind (wpAny_pure (wpAny_bind (wpAny_bind (wpAny_loadPart p (wpAny_bind (PySem.W.Looks.here (PySem.W.looks_clsIn X j) ?_))))))
 rw [d]
 refine wpAny_pure (wpAny_bind (wpAny_pure (wpAny_bind ?_)))
 refine wpAny_nsSet1 I.ns λh' c a=> ?_
 obtain⟨u,n,o,e,g,f⟩:=c.count (PySem.Within.cons name v m)
 refine wpAny_bind (wpAny_lookBehind e (by rw [g];exact pastItsLine_dict (Ab5 f (by rw [Aa6];omega))) ?_)
 exact wpAny_pure (h _ ⟨(a.2 _ (Ne.symm I.ne)).j I.obj,c,I.ne⟩ a)
def Lp (X:K.In s.j) (b:PySem.W.makesIn K C=u0)
 (e:PySem.W.findIn K (.p C) "__init__" =some (some (.p f))) (c:PySem.W.typeIn K (.p f)=some (.j "function"))
 (h:codeAny (model prog w) (A.under (.q "type.__call__" ⟨.p C::vs,kw⟩)) (.call (.p f) ⟨.p (s.j.j.j+1)::vs,kw⟩) (PySem.W.InitBack (s.j.j.j+1) R)
   { s with heap:=(s.j.q Ah7).q (Aj9 C s.j.j.j) }):
 codeAny (model prog w) A (.call (.p C) ⟨vs,kw⟩) R s:=by
 obtain⟨j,g,d,t,i⟩:=s
 exact PySem.W.make_core (PySem.W.makes_of X b) (PySem.W.looks_findIn X e) (λa=>PySem.W.bind_fn X a c) (.p rfl) h
end
noncomputable def a0 (f:Str) (v:V):Y0 (Str×V)->Y0 (Str×V)
 | []=> [(f,v)]
 | (g,x)::r=>if g=f then(g,v)::r else(g,x)::a0 f v r
theorem XI (f g) (v): ∀fs:Y0 (Str×V),(a0 f v fs).p g=if g=f then k0 v else fs.p g
 | []=>by
  show Ah1 g [(f,v)]=_
  by_cases h:g=f
  .have a:=beq_iff_eq.q h
   simp only [Ah1,a,if_pos h]
  .have a:=beq_eq_false_iff_ne.q h
   simp only [Ah1,a,if_neg h]
 | (k,x)::r=>by
  have c:=XI f g v r
  rw [show a0 f v ((k,x)::r)=(if k=f then(k,v)::r else(k,x)::a0 f v r)from rfl]
  by_cases b:k=f
  .rw [if_pos b]
   by_cases h:g=k
   .have a:=beq_iff_eq.q h
    simp only [Ah1,a,if_pos (h.j b)]
   .have a:=beq_eq_false_iff_ne.q h
    simp only [Ah1,a,if_neg (λe:g=f=>h (e.j b.p))]
  .rw [if_neg b]
   by_cases h:g=k
   .have a:=beq_iff_eq.q h
    simp only [Ah1,a,if_neg (λe:g=f=>b (h.p.j e))]
   .have a:=beq_eq_false_iff_ne.q h
    simp only [Ah1,a]
    exact c
theorem wM (f) (v): ∀fs:Y0 (Str×V),f∈(a0 f v fs).j (·.1)/\ ∀g,g∈fs.j (·.1)->g∈(a0 f v fs).j (·.1)
 | []=>⟨by simp [a0],λg h=>by simp at h⟩
 | (k,x)::r=>by
  obtain⟨i1,i2⟩:=wM f v r
  rw [show a0 f v ((k,x)::r)=(if k=f then(k,v)::r else(k,x)::a0 f v r)from rfl]
  by_cases a:k=f
  .rw [if_pos a]
   subst a
   exact⟨by simp,λg h=>by simpa using h⟩
  .rw [if_neg a]
   refine⟨?_,λg h=> ?_⟩
   .rw [Ab2]
    exact Aa2 _ i1
   .rw [Ab2]at h ⊢
    rcases Ab7.p h with e | e
    .exact Ab7.q (.p e)
    .exact Aa2 _ (i2 g e)
theorem qJ (f) (v): ∀fs:Y0 (Str×V),(a0 f v fs).e<=fs.e+1
 | []=>by simp [a0]
 | (k,x)::r=>by
  have b:=qJ f v r
  rw [show a0 f v ((k,x)::r)=(if k=f then(k,v)::r else(k,x)::a0 f v r)from rfl]
  by_cases a:k=f
  .rw [if_pos a,Aa6,Aa6];omega
  .rw [if_neg a,Aa6,Aa6];omega
def b0.some_of (r:b0 (k0 v) o): ∃u,o=k0 u/\RelV v u:=by
 cases o with
 | none=>exact(r).j
 | some u=>exact⟨u,rfl,r⟩
def b0.none_of (r:b0 y0 o):o=none:=by
 cases o with
 | none=>rfl
 | some u=>exact(r).j
def ZZ (r:RelV v u):PySem.W.handedIn u=true:=by
 cases v with
 | ak=>cases (r);rfl
 | bl b=>cases (r);rfl
 | int i=>obtain⟨t,e⟩:=(r);cases e;rfl
 | str x=>obtain⟨t,e⟩:=(r);cases e;rfl
 | kP b=>obtain⟨t,e⟩:=(r);cases e;rfl
 | iS b=>obtain⟨t,e⟩:=(r);cases e;rfl
 | ref a=>cases (r);rfl
 | ty n=>cases (r);rfl
section
variable {P:Y9}{w:Y8}{H H':Hp}{h h':Y6}{a C dx:Y5}{fs fs':Y0 (Str×V)}
def zS (b:cZ P w H h) (e:H a=k0 (.p C dx fs)): ∃mA,eM h a dx C mA/\(∀ f,b0 (fs.p f) (mA f))/\PySem.Within mA (fs.j (·.1))/\fs.e<=1000/\H dx=k0 (.j a):=by
 obtain⟨d,z,ne,c,mA,n,r,q⟩:=(show aW P w H h a (.p C dx fs)from b a _ e)
 exact⟨mA,⟨c,n,ne⟩,r,q,z,d⟩
end
structure dA (K:Ab) (C:Addr):Prop where
 pg:Am6 K C Str.empty=u0
 hd:PySem.W.hasDictIn K C=u0
 po:PySem.W.plainOver K C=u0
 sa:PySem.W.findIn K (.p C) "__setattr__" =some (some (.q "object.__setattr__"))
def dA.get {K:Ab}(c:dA K C) (f):Am6 K C f=true:=c.pg
def cj (K:Ab) (C:Y5) (f:Str):Prop:=Ak4 K (.p C) f=k0 y0
def cj.lY {K:Ab}(n:cj K C f):PySem.W.takerIn K C f=k0 none:=by
 unfold PySem.W.takerIn
 rw [show Ak4 K (.p C) f=k0 y0 from n]
 rfl
structure OE (K:Ab) (C:Addr) (f:Str) (v:V) (u:Value):Prop where
 at_:Ak4 K (.p C) f=k0 (k0 u)
 rel:RelV v u
 get:PySem.W.specialIn K u "__get__" =some none
 cp:PySem.W.copiedNames.u f=k9
structure nW (K:Ab) (C:Addr) (m:Str) (f:Addr):Prop where
 at_:Ak4 K (.p C) m=k0 (k0 (.p f))
 fn:PySem.W.isFn K (.p f)=u0
 kp:Ah5 K (.p f)=u0
section
variable {X:Cx}{pins:Y0 (Y5×Obj)}{U:St}{H:Hp}{s:Y3}{a C dx:Y5}{fs:Y0 (Str×V)}{f:Str}{v:V}{A:YQ}{E:Y2->Y3->Prop}
def Co (I:Inv X pins U H s) (e:H a=k0 (.p C dx fs)) (c:dA X.K C) (n:cj X.K C f) (l:fs.p f=k0 v)
 (h: ∀u s',Inv X pins U H s'->RelV v u->Q u s'):wpAny (model X.p X.w) A (getAttr (.p a) f b) Q E s:=by
 obtain⟨i,O,r,_,_,_⟩:=zS I.C e
 obtain⟨u,g,d⟩:=b0.some_of (by rw [← l];exact r f)
 exact Fe I.bR O (c.get f) c.hd n g (ZZ d) (h u _ (I.tok _) d)
def NS (I:Inv X pins U H s) (e:H a=k0 (.p C dx fs)) (c:dA X.K C) (k:nW X.K C m g) (l:fs.p m=y0)
 (h:Q (.p g,[.p a]) s):wpAny (model X.p X.w) A (getMethod (.p a) m pl) Q E s:=by
 obtain⟨d,O,r,_,_,_⟩:=zS I.C e
 have b:=b0.none_of (by rw [← l];exact r m)
 exact Dr I.bR O (c.get m) k.at_ k.fn b h
def IF (I:Inv X pins U H s) (e:H a=k0 (.p C dx fs)) (c:dA X.K C) (n:cj X.K C f) (D:fs.e<1000) (w:RelV y u)
 (h: ∀s',Inv X pins U (aF H a (.p C dx (a0 f y fs))) s'->Q () s'):wpAny (model X.p X.w) A (setAttr (.p a) f u) Q E s:=by
 obtain⟨i,O,r,j,_,k⟩:=zS I.C e
 have p:(fs.j (·.1)).e<=sizeLine:=by rw [Aa,sizeLine_eq];omega
 refine Bz I.bR O c.sa c.po n.lY c.hd j p λt d m=>h _ ?_
 have B: ∃o,t.p dx=k0 o:=let ⟨o,_,_,l,_⟩:=d.ns; ⟨o,l⟩
 refine I.write (by rw [e];exact True.intro) (.q k) (λb q x z=>(m.2 b x).j z) B ?_
 refine⟨by rw [Za O.ne];exact k,?_,O.ne,d.obj,_,d.ns,λg=> ?_,λg v=> ?_⟩
 .have:=qJ f y fs;omega
 .show b0 ((a0 f y fs).p g) (if g=f then k0 u else i g)
  rw [XI]
  by_cases q:g=f
  .rw [if_pos q,if_pos q];exact w
  .rw [if_neg q,if_neg q];exact r g
 .by_cases q:g=f
  .rw [q];exact(wM f y fs).1
  .refine(wM f y fs).2 g (j g λz=>v ?_)
   show(if g=f then k0 u else i g)=y0
   rw [if_neg q];exact z
def Inv.made (I:Inv X pins U H s):Inv X pins U (aF (aF H s.j.j.j (.j (s.j.j.j+1))) (s.j.j.j+1) (.p C s.j.j.j []))
 { s with heap:=(s.j.q Ah7).q (Aj9 C s.j.j.j) }:=by
 have e1:(s.j.q Ah7).p s.j.j.j=k0 Ah7:=Ac8 s.j rfl
 have e2:=by
  have:=Ac8 (s.j.q Ah7) (o:=Aj9 C s.j.j.j) rfl
  rwa [Aj7]at this
 have d:(s.j.q Ah7).Ns s.j.j.j (λ_=>y0):=⟨Ah7, #[],_,e1,rfl,(λe f=>absurd f (by simp)),λ_=>rfl⟩
 have a:=I.laid (o:= .j (s.j.j.j+1)) (t':=s.p) (λb u q=>Ab1 _ q) (Aa8 _) ⟨_,e1⟩
 refine a.laid (λb u q=>Ab1 _ q) (Al3 (Aj7 _ _)) ?_
 have ne:s.j.j.j≠s.j.j.j+1:=Ac3 (Ag _)
 refine⟨by rw [Za ne,zb],Af2 _,ne,e2,λ_=>y0,(Heap.Ns1.of_empty d).at λo q=>Ab1 _ q,λ_=>True.intro,λy c=>absurd rfl c⟩
def t9 (a:attributeBase e f env (eval e env)=eval e env)
 (h:wpAny (model prog w) A (eval e env) (λo i=>wpAny (model prog w) A (getAttr o f u0) Q E i) E s):wpAny (model prog w) A (eval (.p e f pos) env) Q E s:=
 Attribute_any_ h (by rw [arm_eval_Attribute,a])
end
def D3 (K:Ab) (b:TE) (f:Str):TE:=λU H Q=>b U H λx H1=> ∃a C dx fs v,x= .p a/\H1 a=k0 (.p C dx fs)/\dA K C/\cj K C f/\fs.p f=k0 v/\Q v H1
def MX (K:Ab) (c b:TE) (f:Str):TS:=λD U H=>b U H λy H1=>c U H1 λx H2=> ∃a C dx fs,x= .p a/\H2 a=k0 (.p C dx fs)/\dA K C/\cj K C f/\fs.e<1000 ∧
 D.nx U (aF H2 a (.p C dx (a0 f y fs)))
section
variable {X:Cx}{o e value:Y4}{f:Str}{pos pos' tpos:Pos}{ta tv:TE}
def F5 (j:PE X e ta) (p:attributeBase e f X.j (eval e X.j)=eval e X.j):PE X (.p e f pos) (D3 X.K ta f):=by
 intro b s U H Q I h
 refine t9 p (aS (j b s U H _ I h) ?_)
 rintro u t ⟨x,d,k,i,a,C,w,fs,v,ex,m,c,n,l,q⟩
 subst ex
 obtain rfl:u=Value.ref a:=i
 exact Co k m c n l λy r g o=>⟨v,d,g,o,q⟩
def sC (j:PE X o ta) (v:PE X value tv) (z:swapsWith value (k0 (.p o f pos')) pos.p X.j=pure k9):PS X (.j [.p o f pos'] value pos) (MX X.K ta tv f):=by
 intro b s U H D I h
 refine plainObj_wpAny_Assign_Attribute (aS (v b s U H _ I h) ?_) z
 rintro u i⟨y,e,p,w,q⟩
 refine aS (j b i U e _ p q) ?_
 rintro t A⟨x,F,g,k,a,C,E,fs,ex,r,c,n,l,d⟩
 subst ex
 obtain rfl:t=Value.ref a:=k
 exact IF g r c n l w λB m=>⟨U,_,m,d⟩
end
section
variable {X:Cx}{pins:Y0 (Y5×Obj)}{U:St}{H:Hp}{s:Y3}{A:YQ}{E:Y2->Y3->Prop}{Q:Y2->Y3->Prop}{c:Y2}{b:Bool}
inductive fR (K:Ab) (H:Hp):V->Value->Prop where
 | ak:fR K H .ak (.j "NoneType")
 | bl (x:Bool):fR K H (.C x) (.j "bool")
 | int (i:Int):fR K H (.o i) (.j "int")
 | str (x:Str):fR K H (.j x) (.j "str")
 | iS (x:UInt64):fR K H (.iS x) (.j "float")
 | lst {a:Addr}{xs:List V}(e:H a=k0 (.u xs)):fR K H (.p a) (.j "list")
 | eE {a:Addr}{o:Obj}{xs:List V}(e:H a=k0 (.eE o (.u xs))):fR K H (.p a) (.j "list")
 | tup {a:Addr}{xs:List V}(e:H a=k0 (.q xs)):fR K H (.p a) (.j "tuple")
 | dK {a:Addr}{kvs:List (dz×V)}(e:H a=k0 (.dK kvs)):fR K H (.p a) (.j "dict")
 | dT {a:Addr}{kvs:List (List dz×V)}(e:H a=k0 (.dT kvs)):fR K H (.p a) (.j "dict")
 | ins {a C dx:Addr}{fs:List (Str×V)}(e:H a=some (.p C dx fs)) (cl:dA K C) (ha:PySem.W.findIn K (.p C) "__class__" =some (some (.q "object.__class__")))
  (hn:PySem.W.specialIn K (.q "object.__class__") "__get__" =some (some (.q "getset_descriptor.__get__"))) (htk:PySem.W.takesIn K (.q "object.__class__")=some true)
  (hm:PySem.W.mroIn K C (.j "object")=some true):fR K H (.p a) (.p C)
def qj (I:Inv X pins U H s) (d:RelV x u) (ty:fR X.K H x t) (e:An3 X.K t c=k0 b) (h: ∀tk,Q (.w b) { s with toks:=tk }):
 wpAny (model X.p X.w) A (call (.q "isinstance") [u,c]) Q E s:=by
 cases ty with
 | ak=>cases (d);exact Af PySem.W.kitx_none I.bR True.intro e (λz=>nomatch z) h
 | bl y=>cases (d);exact Af PySem.W.kitx_bool I.bR True.intro e (λz=>nomatch z) h
 | int i=>obtain⟨t,q⟩:=(d);cases q;exact Af PySem.W.kitx_int I.bR True.intro e (λz=>nomatch z) h
 | str y=>obtain⟨t,q⟩:=(d);cases q;exact Af PySem.W.kitx_str I.bR True.intro e (λz=>nomatch z) h
 | iS y=>obtain⟨t,q⟩:=(d);cases q;exact Af PySem.W.kitx_float I.bR True.intro e (λz=>nomatch z) h
 | @lst a k f=>
  cases (d)
  obtain⟨_,_,n,_,g⟩:=(show aW X.p X.w H s.j a (.u k)from I.C a _ f)
  exact Af Ao8 I.bR ⟨_,g,rfl⟩ e (λz=>nomatch z) h
 | @eE a w k f=>
  cases (d)
  obtain⟨_,_,_,n,_,g⟩:=(show aW X.p X.w H s.j a (.eE w (.u k))from I.C a _ f)
  exact Af Ao8 I.bR ⟨_,g,rfl⟩ e (λz=>nomatch z) h
 | @tup a k f=>
  cases (d)
  obtain⟨_,_,_,p⟩:=(show aW X.p X.w H s.j a (.q k)from I.C a _ f)
  obtain⟨o,g,l,_⟩:=p
  exact Af PySem.W.kitx_tuple I.bR ⟨o,g,l⟩ e (λz=>nomatch z) h
 | @dK a j f=>
  cases (d)
  obtain⟨_,_,L,_,p⟩:=(show aW X.p X.w H s.j a (.dK j)from I.C a _ f)
  obtain⟨o,B,F,g,l,_⟩:=p
  exact Af PySem.W.kitx_dict I.bR ⟨o,g,l.1⟩ e (λz=>nomatch z) h
 | @dT a j f=>
  cases (d)
  obtain⟨_,_,k,_,o,B,F,g,l,_⟩:=(show aW X.p X.w H s.j a (.dT j)from I.C a _ f)
  exact Af PySem.W.kitx_dict I.bR ⟨o,g,l.1⟩ e (λz=>nomatch z) h
 | @ins a C M fs f r D G m v=>
  cases (d)
  obtain⟨N,O,_⟩:=zS I.C f
  obtain⟨K,J,_⟩:=O.look
  exact Af (PySem.W.kitx_own (r.get _) r.hd D G m v) I.bR J e (λz=>nomatch z) h
end
structure bb (k:Nat) (A:Around):Prop where
 hd:A.p=y0
 dp:A.depth+k+5<recursionLimit
 un:A.q+16*k+200<cLine
def bb.mono (r:bb k A) (h:j<=k):bb j A:=⟨r.hd,by have:=r.dp;omega,by have:=r.un;omega⟩
theorem bb.deeper (r:bb (k+1) A) (env):bb k (A.deeper env):=
 ⟨r.hd,by have:=r.dp;show A.depth+1+k+5<_;omega,by have:=r.un;show A.q+3+16*k+200<_;omega⟩
theorem bb.in1 (r:bb (k+1) A):bb k A.j:=
 ⟨r.hd,by have:=r.dp;show A.depth+k+5<_;omega,by have:=r.un;show A.q+1+16*k+200<_;omega⟩
def Ew {A:YQ}:(A.under (.q "type.__call__" ⟨.p C::us,kw⟩)).depth=A.depth+1:=by
 first | rfl | simp [guardIds]
def NM {A:YQ}:(A.under (.q "type.__call__" ⟨.p C::us,kw⟩)).q=A.q+1:=by
 first | rfl | simp [Code.isFrame]
def bb.make (r:bb (k+1) A) (C) (us) (kw):bb k (A.under (.q "type.__call__" ⟨.p C::us,kw⟩)):=
 ⟨r.hd,by have:=r.dp;rw [Ew];omega,by have:=r.un;rw [NM];omega⟩
theorem bb.depth (r:bb k A):A.depth<recursionLimit:=by have:=r.dp;omega
def nP:TA:=λ_ H Q=>Q [] H
def px (a:TE) (tr:TA):TA:=λU H Q=>a U H λx H1=>tr U H1 λxs H2=>Q (x::xs) H2
section
variable {X:Cx}{e:Y4}{es:Y0 Y4}{te:TE}{t:TA}{pos:Pos}
def zo:PA X [] nP:=λ_ _ _ _ H Q I h=>Calls.spliced_nil ⟨[],H,I,.p,h⟩
def zg (j:PE X e te) (m:PA X es t) (q:starEach (e::es) X.j=(k9,eval e X.j)::starEach es X.j:=by rfl):PA X (e::es) (px te t):=by
 intro b a s U H Q I h
 rw [q]
 refine Calls.spliced_cons (aS (j a s U H _ I h) ?_)
 rintro u i ⟨x,d,n,l,f⟩
 exact aS (m b a i U d _ n f) (by rintro v r⟨k,o,g,p,c⟩;exact ⟨x::k,o,g,.j l p,c⟩)
def ED (t:TA):TE:=λU H Q=>t U H λxs H1=>xs.e<=sizeLine/\ ∀p,H1 p=y0->Q (.p p) (aF H1 p (.q xs))
def BU (t:TA):TE:=λU H Q=>t U H λxs H1=>xs.e<=sizeLine/\ ∀p,H1 p=y0->Q (.p p) (aF H1 p (.u xs))
def B2 {x1}(h:PA X es t):PE X (.B es x1 pos) (ED t):=by
 intro a s U H Q I g
 refine wpAny_Tuple_spliced (aS (h pos a s U H _ I g) λj c ⟨i,f,d,r,z,q⟩=>⟨by rw [← r.e];exact z,?_⟩)
 have k:=d.C.fresh (Aa8 _)
 refine⟨.p c.j.j.j,aF f c.j.j.j (.q i),d.laid (λb u e=>Ab1 _ e) (Aa8 _) ?_,rfl,q _ k⟩
 exact⟨z,j,r,⟨_,Ac8 _ rfl,rfl,rfl,_,rfl⟩⟩
def Ih (h:PA X es t):PE X (.List es pos) (BU t):=by
 intro a s U H Q I g
 refine wpAny_List_spliced (aS (h pos a s U H _ I g) λj c ⟨i,f,d,r,z,q⟩=>⟨by rw [← r.e];exact z,?_⟩)
 have k:=d.C.fresh (Aa8 _)
 refine⟨.p c.j.j.j,aF f c.j.j.j (.u i),d.laid (λb u e=>Ab1 _ e) (Aa8 _) ?_,rfl,q _ k⟩
 exact⟨z,j,0,r,Ac8 _ rfl⟩
end
abbrev Sp:=Y0 V->Hp->VK->XK->Prop
abbrev gR:=Y0 YJ->Hp->Y3->XK->Y2->Y3->Prop
structure dG (P:Program) (w:World) (K:Ab) (mg:Str->Option Value) (base:Heap) (A:Around) (outer:List Env) (s:Shared) (H:Hp):Prop where
 frames:A.frames=k0 outer
 mod:Mod K mg base
 bs: ∀b o,base.p b=k0 o->s.j.p b=k0 o/\H b=y0
 gG:base.j.j<=s.j.j.j
 cW:s.j.y base outer
 iR: ∀b∈cC outer,H b=y0
 aX:cZ P w H s.j
 bare:AllBare s.gens
def CE (a:Y0 YJ) (P:Y9) (w:Y8) (H:Hp) (s:Y3) (Q:VK) (u:Y2) (s':Y3):Prop:=
 ∃v H',s'.os=s.os/\AllBare s'.gens/\Un (cC a) [] H H' s.j s'.j/\cZ P w H' s'.j/\RelV v u/\Q v H'
def CR (b:gR) (a:Y0 YJ) (P:Y9) (w:Y8) (H:Hp) (s:Y3) (Q:VK) (E:XK) (r:Result) (s':Y3):Prop:=
 match r with
 | .ok (.ret u)=>CE a P w H s Q u s'
 | .ok _=>False
 | .error e=>b a H s E e s'
structure bz (P:Program) (w:World) (K:Ab) (mg:Str->Option Value) (base:Heap) (CX:gR) (k:Nat) (f:Addr) (fd:FuncData) (ps:List Str) (sp:Sp):Prop where
 len: ∀vs H Q E,sp vs H Q E->vs.e=ps.e
 run: ∀(A:Around) (outer:List Env) (s:Shared) (H:Hp) (args:Args) (us:List Value) (vs:List V) (Q:VK) (E:XK),bb k A->dG P w K mg base A outer s H->BindsTo s fd args (ps.Z us)->Vals vs us->sp vs H Q E →
  codeAny (model P w) A (.call (.p f) args) (CR CX outer P w H s Q E) s
def dG.make {K:Ab}(e:dG P w K mg base A outer s H) (C:Y5) (b:Y0 Y2) (a:Y0 (Str×Y2)):
 dG P w K mg base (A.under (.q "type.__call__" ⟨.p C::b,a⟩)) outer s H:=⟨by first | exact e.frames | (simpa [Around.under,Code.envs,Code.isFrame,pushEnvs]using e.frames),e.mod,e.bs,e.gG,e.cW,e.iR,e.aX,e.bare⟩
theorem dG.in1 {K:Ab}(e:dG P w K mg base A outer s H):
 dG P w K mg base A.j outer s H:=⟨e.frames,e.mod,e.bs,e.gG,e.cW,e.iR,e.aX,e.bare⟩
section
variable {X:Cx}{pins:Y0 (Y5×Obj)}{U:St}{H:Hp}{s s':Y3}
def Inv.gr (I:Inv X pins U H s):dG X.p X.w X.K X.C X.q X.A X.z s H:=
 ⟨I.j.frames,I.j.mod,I.bs,Ab5 I.j.gG I.sz,I.stack,I.dj,I.C,I.L⟩
def Inv.after (I:Inv X pins U H s) (h:CE X.z X.p X.w H s Q u s'):EP X pins U Q u s':=by
 obtain⟨v,i,f,a,un,e,r,q⟩:=h
 obtain⟨j,g,d,t,c⟩:=s'
 obtain rfl:c=s.os:=f
 exact⟨v,i,I.call un e a (λb z=>absurd z (by simp)),r,q⟩
end
def uP (c:Sp) (a:Y0 V) (E:XK) (t:TA):TE:=λU H Q=>t U H λb H1=>c (b++a) H1 Q E
def HI (C:Y5) (m:Str) (e:Sp) (b:Y0 V) (E:XK) (d:TE) (t:TA):TE:=λU H Q=>d U H λx H1=> ∃a dx fs,x= .p a/\H1 a=k0 (.p C dx fs)/\fs.p m=y0 ∧
 t U H1 λc H2=>e (x::(c++b)) H2 Q E
def Dg (C:Y5) (c:Sp) (a:Y0 V) (E:XK) (t:TA):TE:=λU H Q=>t U H λb H1=> ∀x dx,H1 x=y0->H1 dx=y0->dx≠x →
 c (.p x::(b++a)) (aF (aF H1 dx (.j x)) x (.p C dx [])) (λv H2=>v= .ak/\Q (.p x) H2) E
def Binds (K:Ab) (b:YZ) (ps:Y0 Str) (ds:Y0 Y2):Prop:=
 ∀(s:Y3) (a:Y0 Y2),K.In s.j->(a++ds).e=ps.e->BindsTo s b ⟨a,[]⟩ (ps.Z (a++ds))
def Binds.all {K:Ab}(h: ∀i:Y0 Y2,i.e=ps.e->bindArgs fd ⟨i,[]⟩=pure (ps.Z i)):Binds K fd ps []:=λs i _ a=>by
 rw [Ad8]at a ⊢
 exact .of_eq (h i a)
def zG (a:gR) (X:Cx) (E:XK):Prop:= ∀(pins:Y0 (Y5×Obj)) (U:St) (H:Hp) (s:Y3) (e:Y2) (s':Y3),Inv X pins U H s->a X.z H s E e s'->X.y e s'
section
variable {X:Cx}{CX:gR}{k:Nat}{f C:Y5}{fd:YZ}{ps:Y0 Str}{sp:Sp}{dvs:Y0 V}{ds:Y0 Y2}{E:XK}{x m:Str}{p pos apos:Pos}{e o:Y4}{es:Y0 Y4}{ta:TE}{t:TA}
def oK (F:bz X.p X.w X.K X.C X.q CX k f fd ps sp) (c:bb k X.A) (m:Binds X.K fd ps ds) (l:Vals dvs ds) (d:zG CX X E)
 (I:Inv X pins U H s) (r:Vals vs us) (h:sp (vs++dvs) H Q E):wpAny (model X.p X.w) X.A (call (.p f) us) (EP X pins U Q) X.y s:=by
 have b:=r.append l
 have i:(us++ds).e=ps.e:=by rw [← b.e];exact F.len _ _ _ _ h
 refine wpAny_call (codeAny_mono (F.run X.A X.z s H ⟨us,[]⟩ (us++ds) (vs++dvs) Q E c I.gr (m s us I.bR i) b h) λr j a=> ?_)
 cases r with
 | error e=>exact d pins U H s e j I a
 | ok g=>
  cases g with
  | ret u=>exact I.after a
  | next=>exact False.elim a
  | brk=>exact False.elim a
  | cont=>exact False.elim a
def NX (F:bz X.p X.w X.K X.C X.q CX k f fd ps sp) (m:bb k X.A) (n:Gl X x) (g:X.C x=k0 (.p f)) (i:Ah5 X.K (.p f)=u0) (u:Binds X.K fd ps ds) (o:Vals dvs ds) (v:zG CX X E)
 (j:PA X (e::es) t) (b:(x==("__debug__" :Str))=false:=by decide) (l:starEach (e::es) X.j=(false,eval e X.j)::starEach es X.j:=by rfl) (c:(backTo pos (starEach es X.j)).z (·.1)=false:=by rfl):
 PE X (.w (.j x p) (e::es) [] pos) (uP sp dvs E t):=by
 intro a s U H Q I h
 refine wpAny_Call_Name_kw (JC I n g ?_ b)
 refine Ao2 I.j.mod.kK i (aS (j pos a s U H _ I h) ?_) l c
 rintro A z⟨y,w,d,r,q⟩
 refine ⟨d.bR,?_⟩
 exact oK F m u o v d r q
def BK (F:bz X.p X.w X.K X.C X.q CX k f fd ps sp) (c:bb k X.A) (d:Gl X x) (e:X.C x=k0 (.p f)) (i:Ah5 X.K (.p f)=u0) (l:Binds X.K fd ps ds) (j:Vals dvs ds) (g:zG CX X E)
 (a:(x==("__debug__" :Str))=false:=by decide):PE X (.w (.j x p) [] [] pos) (uP sp dvs E nP):=by
 intro b s U H Q I h
 refine wpAny_Call_Name_kw (JC I d e ?_ a)
 exact PySem.W.callWith_K0 I.bR i (oK F c l j g I .p h)
def Fh (D:PE X o ta) (c:dA X.K C) (i:nW X.K C m f) (F:bz X.p X.w X.K X.C X.q CX k f fd ps sp) (G:bb k X.A) (M:Binds X.K fd ps ds) (K:Vals dvs ds) (N:zG CX X E) (A:PA X (e::es) t)
 (d:starEach (e::es) X.j=(k9,eval e X.j)::starEach es X.j:=by rfl) (g:(backTo pos (starEach es X.j)).z (·.1)=false:=by rfl)
 (y:eval (.w (.p o m apos) (e::es) [] pos) X.j=(do
   let L ←eval o X.j
   standAt apos.atName
   let (f,first) ←holding [L] (getMethod L m pl)
   callWith pos f first (backTo pos (starEach (e::es) X.j)) (backToKw pos (keywordEach [] X.j))):=by rfl):
 PE X (.w (.p o m apos) (e::es) [] pos) (HI C m sp dvs E ta t):=by
 intro b s U H Q I h
 refine PySem.W.methodCall_KW (aS (D b s U H _ I h) ?_) y
 rintro u z⟨x,w,p,B,a,P,fs,ex,J,l,q⟩
 subst ex
 obtain rfl:u=Value.ref a:=B
 refine NS p J c i l ?_
 refine Ao2 I.j.mod.kK i.kp (aS (A pos b z U w _ p q) ?_) d g
 rintro S O⟨n,R,j,r,v⟩
 refine ⟨j.bR,?_⟩
 exact oK (vs:= .p a::n) F G M K N j (.j rfl r) v
structure Mk (K:Ab) (C f:Addr):Prop where
 makes:PySem.W.makesIn K C=u0
 init:PySem.W.findIn K (.p C) "__init__" =some (some (.p f))
 fn:PySem.W.isFn K (.p f)=u0
 kp:Ah5 K (.p C)=u0
def ME (M:Mk X.K C f) (F:bz X.p X.w X.K X.C X.q CX k f fd ps sp) (g:bb (k+1) X.A) (l:Binds X.K fd ps ds) (j:Vals dvs ds)
 (n:zG CX X E) (I:Inv X pins U H s) (r:Vals vs us)
 (h: ∀x dx,H x=y0->H dx=y0->dx≠x->sp (.p x::(vs++dvs)) (aF (aF H dx (.j x)) x (.p C dx [])) (λv H2=>v= .ak/\Q (.p x) H2) E):
 wpAny (model X.p X.w) X.A (call (.p C) us) (EP X pins U Q) X.y s:=by
 have c:=h (s.j.j.j+1) s.j.j.j (I.C.fresh (Ag0 _)) (I.C.fresh (Aa8 _)) (Ac3 (Ag _))
 have b:=Inv.made (C:=C) I
 have d:Vals (V.ref (s.j.j.j+1)::(vs++dvs)) (Value.ref (s.j.j.j+1)::(us++ds)):= .j rfl (r.append j)
 have t:=by
  have e:=d.e
  rw [F.len _ _ _ _ c]at e
  exact e.p
 refine wpAny_call (Lp I.bR M.makes M.init (beq_iff_eq.p M.fn) (codeAny_mono (F.run _ X.z _ _ ⟨Value.ref (s.j.j.j+1)::us,[]⟩ (Value.ref (s.j.j.j+1)::(us++ds)) _ _ E (g.make C us [])
  (b.gr.make C us []) (l _ (Value.ref (s.j.j.j+1)::us) b.bR t) d c) λr w a=> ?_))
 cases r with
 | error e=>exact n pins U _ _ e w b a
 | ok o=>
  cases o with
  | ret u=>
   obtain⟨v,p,i,rv,q,m⟩:=b.after a
   subst q
   exact⟨rv,⟨V.ref (s.j.j.j+1),p,i,rfl,m⟩⟩
  | next=>exact False.elim a
  | brk=>exact False.elim a
  | cont=>exact False.elim a
def CI (M:Mk X.K C f) (F:bz X.p X.w X.K X.C X.q CX k f fd ps sp) (l:bb (k+1) X.A) (m:Gl X x) (g:X.C x=k0 (.p C)) (o:Binds X.K fd ps ds) (n:Vals dvs ds) (u:zG CX X E)
 (i:PA X (e::es) t) (b:(x==("__debug__" :Str))=false:=by decide) (j:starEach (e::es) X.j=(false,eval e X.j)::starEach es X.j:=by rfl) (c:(backTo pos (starEach es X.j)).z (·.1)=false:=by rfl):
 PE X (.w (.j x p) (e::es) [] pos) (Dg C sp dvs E t):=by
 intro a s U H Q I h
 refine wpAny_Call_Name_kw (JC I m g ?_ b)
 refine Ao2 I.j.mod.kK M.kp (aS (i pos a s U H _ I h) ?_) j c
 rintro z y⟨w,v,d,r,q⟩
 refine ⟨d.bR,?_⟩
 exact ME M F l o n u d r q
end
def PK (X:Cx) (a:Y0 Keyword) (t:TA):Prop:=
 ∀(pos:Pos) (pins:Y0 (Y5×Obj)) (s:Y3) (U:St) (H:Hp) (Q:Y0 V->Hp->Prop),Inv X pins U H s->t U H Q->wpAny (model X.p X.w) X.A (evalAll ((backToKw pos (keywordEach a X.j)).j (·.2))) (AP X pins U Q) X.y s
section
variable {X:Cx}{CX:gR}{k:Nat}{f C:Y5}{fd:YZ}{ps ks:Y0 Str}{sp:Sp}{E:XK}{x m:Str}{p pos apos kpos:Pos}{e o:Y4}{es:Y0 Y4}{kws:Y0 Keyword}{te ta:TE}{t tk:TA}{nm:Y1 Str}
def K1:PK X [] nP:=λ_ _ _ _ H Q I h=>wpAny_evalAll_nil ⟨[],H,I,.p,h⟩
def N5 (j:PE X e te) (m:PK X kws t):PK X (⟨nm,e,kpos⟩::kws) (px te t):=by
 intro b a s U H Q I h
 refine wpAny_evalAll_cons (wpAny_bind (aS (j a s U H _ I h) ?_))
 rintro u i⟨x,d,n,l,f⟩
 refine wpAny_bind (wpAny_standAt (wpAny_pure ?_))
 exact aS (m b a i U d _ n f) (by rintro r q⟨k,o,g,p,c⟩;exact ⟨x::k,o,g,.j l p,c⟩)
structure OA (K:Ab) (fd:FuncData) (ps ks:List Str) (g:List Value->List Value->List Value) (gV:List V->List V->List V):Prop where
 to: ∀(s:Shared) (us ws:List Value),K.In s.j->(g us ws).e=ps.e->BindsTo s fd ⟨us,ks.Z ws⟩ (ps.Z (g us ws))
 rel: ∀ {vs:List V}{us:List Value}{zs:List V}{ws:List Value},Vals vs us->Vals zs ws->Vals (gV vs zs) (g us ws)
variable {g:Y0 Y2->Y0 Y2->Y0 Y2}{gV:Y0 V->Y0 V->Y0 V}
end
structure jB (N P:List Str) (sc:Scope):Prop where
 kind:sc.p= .j
 co:sc.isCoroutine=k9
 gen:sc.isGenerator=k9
 nd:N.B
 pre:N.A P.e=P
 par: ∀x∈P,sc.j.p x=k0 .local\/sc.j.p x=k0 .p
 ku: ∀y∈sc.j,y.2≠ .u
theorem WW {a:Str->Y1 NameKind}: ∀ {i}{m},(∀ v,(x,v)∉i)->bindL a i m x=m x
 | [],_,_=>rfl
 | (n,v)::r,m,h=>by
  unfold bindL
  rw [WW λw b=>h w (Aa2 _ b)]
  split
  .have:x≠n:=by rintro rfl;exact h v Aa3
   simp [this]
  .rfl
theorem Z6 {a:Str->Y1 NameKind}: ∀ {i}{m},(∀ v,(x,v)∉i)->bindC a i m x=m x
 | [],_,_=>rfl
 | (n,v)::r,m,h=>by
  unfold bindC
  rw [Z6 λw b=>h w (Aa2 _ b)]
  split
  .rfl
  .have:x≠n:=by rintro rfl;exact h v Aa3
   simp [this]
theorem qY {a:Str->Y1 NameKind}: ∀ {P:Y0 Str}{vs}{i:Nat}{m},P.B->P[i]? =k0 x->vs[i]? =k0 v->a x=k0 .local →
 bindL a (P.Z vs) m x=k0 v
 | [],_,_,_,_,h,_,_=>by simp at h
 | _::_,[],_,_,_,_,h,_=>by simp at h
 | p::P,w::vs,0,m,e,c,b,d=>by
  simp at c b;subst c;subst b
  show bindL a ((p,w)::P.Z vs) m p=_
  unfold bindL
  rw [WW λv f=>(Ah9.p e).1 (List.of_mem_zip f).1,if_pos d]
  simp
 | p::P,w::vs,i+1,m,e,c,b,d=>by
  unfold bindL
  exact qY (Ah9.p e).2 (by simpa using c) (by simpa using b) d
theorem w4 {a:Str->Y1 NameKind}: ∀ {P:Y0 Str}{vs}{i:Nat}{m},P.B->P[i]? =k0 x->vs[i]? =k0 v->a x≠k0 .local →
 bindC a (P.Z vs) m x=k0 v
 | [],_,_,_,_,h,_,_=>by simp at h
 | _::_,[],_,_,_,_,h,_=>by simp at h
 | p::P,w::vs,0,m,e,c,b,d=>by
  simp at c b;subst c;subst b
  show bindC a ((p,w)::P.Z vs) m p=_
  unfold bindC
  rw [Z6 λv f=>(Ah9.p e).1 (List.of_mem_zip f).1,if_neg d]
  simp
 | p::P,w::vs,i+1,m,e,c,b,d=>by
  unfold bindC
  exact w4 (Ah9.p e).2 (by simpa using c) (by simpa using b) d
noncomputable def start (N:Y0 Str) (vs:Y0 V):St:=vs.j k0++Aa9 (N.e-vs.e) y0
noncomputable def fN (CX:gR) (P:Y9) (w:Y8) (K:Ab) (mg:Str->Y1 Y2) (base:Y6) (N:Y0 Str) (y8:Str) (scope:YX) (f:Y5) (cd:Y2) (A:YQ) (outer:Y0 YJ) (s:Y3) (H:Hp) (E:XK):Cx where
 prog:=P
 w:=w
 K:=K
 mg:=mg
 base:=base
 A:=A.deeper (envOfC y8 scope s.j.j.j f cd)
 N:=N
 s₀:=s
 H₀:=H
 env:=envOfC y8 scope s.j.j.j f cd
 outer:=outer
 stack:=envOfC y8 scope s.j.j.j f cd::outer
 ex:= []
 calm:=u0
 fn:=λ_=>u0
 pn:= []
 xe:=λe s'=>wpAny (model P w) (A.deeper (envOfC y8 scope s.j.j.j f cd)) (leaving (envOfC y8 scope s.j.j.j f cd) e) (λ_ s''=>CX outer H s E e s'') (λe' s''=>CX outer H s E e' s'') s'
def tq {sc:YX}(h:sc.j.p x=k0 .p): ∃c,(cellsFrom n sc.j []).p x=k0 c:=by
 have q:=Am8 sc.j n [] (.p h)
 exact Ah8.p q
def Hj {K:Ab}
 (S:jB N ps scope) (hd:A.p=y0) (e0:dG P w K mg base A outer s H) (hl:vs.e=ps.e) (r:Vals vs us)
 (x:InCallC s s.j.j.j (bindL (envOfC y8 scope s.j.j.j f cd).u (ps.Z us) λ_=>y0) (cellsFrom (s.j.j.j+1) scope.j []) (bindC (envOfC y8 scope s.j.j.j f cd).u (ps.Z us) λ_=>y0) s1):
 Inv (fN CX P w K mg base N y8 scope f cd A outer s H E) [] (start N vs) H s1:=by
 have hpl:ps.e<=N.e:=by have:=congrArg List.length S.pre;rw [Af6]at this;omega
 obtain⟨h1,tk,rfl,hk⟩:=x.done
 have noA: ∀b:Y5,b∉(fN CX P w K mg base N y8 scope f cd A outer s H E).ex:=λb z=>absurd (show b∈([]:Y0 Y5)from z) (by simp)
 refine⟨⟨e0.mod,S.kind,rfl,rfl,Aa8 _,λy z c h1 h2=> ?_,λy hy=> ?_,λy c _ h=> ?_,λ_=>hd,Around.frames_deeper e0.frames,.q ⟨rfl,rfl⟩,λb z=>absurd z (noA b),e0.bs,e0.gG,λb _ _=>noA b,λb z=>absurd z (noA b),e0.cW,e0.iR⟩,
  rfl,e0.bare,Un.kept hk,⟨_,x.toInCall.ns,λi y v h1 h2 h3=> ?_⟩,λy c h=>⟨_,x.cell y c h⟩,e0.aX.fresh (Aa8 _),λy c h=> ?_,λp hp=>absurd (show p∈([]:Y0 (Y5×Obj))from hp) (by simp),e0.aX.kept hk,?_⟩
 .exact name_of_addr x.apart (PySem.mem_of_lookup h1) (PySem.mem_of_lookup h2)
 .have hy:=hy
  rcases hy with hy | hy
  .exact tq hy
  .exact absurd rfl (S.ku _ (PySem.mem_of_lookup hy))
 .exact Ag5 (x.above y c (PySem.mem_of_lookup h))
 .have hi:i<vs.e:=by
   unfold start at h2
   by_cases hi:i<vs.e
   .exact hi
   .rw [Ad6 (by simpa using hi)]at h2
    rw [Ai2]at h2
    split at h2<;>cases h2
  have ha:vs[i]? =k0 v:=by
   unfold start at h2
   rw [Ac5 (by simpa using hi),Ac1]at h2
   cases e:vs[i]? with
   | none=>rw [e]at h2;cases h2
   | some a=>rw [e]at h2;cases h2;rfl
  obtain⟨u,hu,rv⟩:=r.get ha
  have hp:ps[i]? =k0 y:=by
   rw [← S.pre,Am7 (by omega)];exact h1
  have ndP:ps.B:=by rw [← S.pre];exact S.nd.sublist (List.take_sublist _ _)
  refine⟨u,rv,?_⟩
  rcases S.par y (Ac4 hp)with k | k
  .exact .p ⟨k,qY ndP hp hu k⟩
  .obtain⟨c,e⟩:=tq k
   refine .q ⟨.p k,c,e,?_⟩
   have q:=x.cell y c e
   rw [w4 ndP hp hu (by show scope.j.p y≠_;rw [k];decide)]at q
   exact q
 .exact e0.aX.fresh (Ag5 (x.above y c (PySem.mem_of_lookup h)))
 .unfold start
  show _=N.e
  rw [Aa5,Aa,Ae2]
  omega
def FO {K:Ab}{dV kV doc pm cdv ct oc:Y2}
 (lk:K.p f=k0 ⟨oc,od,.func (PySem.W.fnOf name y8 params body scope dV kV doc pm an cdv ct),osl⟩) (hcd:PySem.W.codeIn K cdv y8=u0) (S:jB N ps scope)
 (len: ∀vs H Q E,sp vs H Q E->vs.e=ps.e)
 (hbody: ∀ A outer s H vs Q E,bb k (A.deeper (envOfC y8 scope s.j.j.j f cdv))->sp vs H Q E →
   ∃t,dr (fN CX P w K mg base N y8 scope f cdv A outer s H E) body t/\t { nx:=λ_ H'=>Q .ak H',rt:=Q } (start N vs) H):
 bz P w K mg base CX (k+1) f (PySem.W.fnOf name y8 params body scope dV kV doc pm an cdv ct) ps sp:=by
 refine⟨len,λA outer s H args us vs Q E hr e0 hb r hsp=> ?_⟩
 have hl:=len _ _ _ _ hsp
 have KX:=e0.mod.kK.keeps λb o e=>(e0.bs b o e).1
 have lim:=e0.mod.nolimit.keeps λb o e=>(e0.bs b o e).1
 have hkind: ∀y∈ps.Z us,scope.j.p y.1=k0 .local\/(scope.j.p y.1=k0 .p/\((cellsFrom (s.j.j.j+1) scope.j []).p y.1).q=u0):=by
  rintro ⟨n,v⟩ hy
  rcases S.par n (List.of_mem_zip hy).1 with q | q
  .exact .p q
  .exact .q ⟨q,Am8 _ _ _ (.p q)⟩
 refine codeAny_call_function hr.depth (KX _ _ lk) rfl S.co S.gen rfl (PySem.W.codeRec_of KX hcd) (hb _ _ _ _ ?_)
 refine wpAny_newFunctionEnv_cells S.kind hkind λenv he s1 x=> ?_
 subst he
 refine⟨lim.keeps x.toInCall.keep,codeAny_func ?_⟩
 obtain⟨t,ht,hq⟩:=hbody A outer s H vs Q E (hr.deeper _) hsp
 have I:Inv (fN CX P w K mg base N y8 scope f cdv A outer s H E) [] (start N vs) H s1:=Hj S hr.hd e0 hl r x
 refine wpAny_mono (ht [] s1 (start N vs) H _ I hq) (λfl s' hs=> ?_) λe s' hs=>hs
 have fin: ∀ {U'}{H'}{v}{u},Inv (fN CX P w K mg base N y8 scope f cdv A outer s H E) [] U' H' s'->RelV v u->Q v H'->CE outer P w H s Q u s':=
  λ{U' H' v u} J rv q=>⟨v,H',J.os,J.L,J.q,J.C,rv,q⟩
 cases fl with
 | ret u=>
  obtain⟨v,U',H',J,rv,q⟩:=hs
  exact fin J rv q
 | next=>
  obtain⟨U',H',J,q⟩:=hs
  exact fin (v:=V.ak) J rfl q
 | brk=>
  obtain⟨_,_,_,q⟩:=hs
  exact False.elim q
 | cont=>
  obtain⟨_,_,_,q⟩:=hs
  exact False.elim q
section
variable {X:Cx}{x:Str}{p pos:Pos}{e:Y4}{es:Y0 Y4}{t:TA}{id T:String}{r:Y0 V->Hp->VK->Prop}
def rR (r:Y0 V->Hp->VK->Prop) (t:TA):TE:=λU H Q=>t U H λa H1=>r a H1 Q
def Qm (i:qv X (.q id) r) (q:Gl X x) (d:X.C x=none) (v:bootBuiltins x=some (.q id)) (l:PA X (e::es) t) (w:x≠ "__name__" :=by decide) (b:(x==("__debug__" :Str))=false:=by decide)
 (m:starEach (e::es) X.j=(k9,eval e X.j)::starEach es X.j:=by rfl) (c:(backTo pos (starEach es X.j)).z (·.1)=false:=by rfl):PE X (.w (.j x p) (e::es) [] pos) (rR r t):=by
 intro a s U H Q I h
 refine wpAny_Call_Name_kw (jG I q d v ?_ w b)
 exact PyProof.Rows.callWith_builtin1 (aS (l pos a s U H _ I h) (by rintro u k⟨j,f,o,n,g⟩;exact i a k U f j u Q o n g)) m c
def jy (i:qv X (.j T) r) (q:Gl X x) (d:X.C x=none) (v:bootBuiltins x=some (.j T)) (l:PA X (e::es) t) (w:x≠ "__name__" :=by decide) (b:(x==("__debug__" :Str))=false:=by decide)
 (m:starEach (e::es) X.j=(k9,eval e X.j)::starEach es X.j:=by rfl) (c:(backTo pos (starEach es X.j)).z (·.1)=false:=by rfl):PE X (.w (.j x p) (e::es) [] pos) (rR r t):=by
 intro a s U H Q I h
 refine wpAny_Call_Name_kw (jG I q d v ?_ w b)
 exact PyProof.Rows.callWith_type1 (aS (l pos a s U H _ I h) (by rintro u k⟨j,f,o,n,g⟩;exact i a k U f j u Q o n g)) m c
end
end L2
namespace HT
open PySem PyProof.Rows
section
variable {prog:Y9}{w:Y8}{A:YQ}{E:Y2->Y3->Prop}{s:Y3}
def g6 (u:IsTup s.j t vs.q) (y:IsTup s.j b ws.q) (p:vs≠ [])
 (h1:ws= []->Q (.p t) s) (v:ws≠ []->Q (.p s.j.j.j) { s with heap:=s.j.q { cls:= .j "tuple",data:= .j (vs++ws).q } })
 (m:vs.e+ws.e<=sizeLine):wpAny (model prog w) A (binaryOp .Add (.p t) (.p b)) Q E s:=by
 obtain⟨⟨j,dd,i,sl⟩,g,r,n,x⟩:=id u
 obtain⟨⟨q,c,l,d⟩,a,k,o,h⟩:=id y
 subst r x k h
 have e:vs.q++ws.q=(vs++ws).q:=by simp
 by_cases f:ws= []
 .exact concat_meets ⟨_,g,rfl⟩ ⟨_,a,rfl⟩ noFill_tuple_add seq_tuple_add PySem.F.slot_tuple_add PySem.F.entry_tuple_add (PySem.F.args_tuple_add_2 _ _)
   (tuple_addW1 t b vs.q ws.q n o dd c sl d (by simpa using p) (by simp [f])) ⟨g,a,h1 f⟩
 .refine concat_meets ⟨_,g,rfl⟩ ⟨_,a,rfl⟩ noFill_tuple_add seq_tuple_add PySem.F.slot_tuple_add PySem.F.entry_tuple_add (PySem.F.args_tuple_add_2 _ _)
   (tuple_addW2 t b vs.q ws.q n o dd c sl d (by simpa using p) (by simpa using f) (by rw [Ab4,Ab4];exact m)) ⟨g,a,?_⟩
  rw [e]
  exact v f
def aV (n d:Nat):Y1 Int->Nat
 | none=>d
 | some v=>if v<0 then(v+(n:Int)).j else min v.j n
def Fp (n d) (b:d<=n) (o):aV n d o<=n:=by
 cases o with
 | none=>exact b
 | some v=>
  show(if v<0 then(v+ n).j else min v.j n)<=n
  by_cases a:v<0
  .rw [if_pos a];omega
  .rw [if_neg a];exact Nat.min_le_right _ _
def vz (v) (n d:Nat):(if v<0 then max (v+(n:Int)) 0 else min v (n:Int))=((aV n d (k0 v):Nat):Int):=by
 show(if v<0 then max (v+ n) 0 else min v n)=(((if v<0 then(v+(n:Int)).j else min v.j n):Nat))
 by_cases a:v<0
 .simp only [if_pos a];omega
 .simp only [if_neg a];omega
def NO (a b) (n:Nat):Builtin.Slice.sliceAdjust a b 1 (n:Int)=(((aV n 0 a:Nat):Int),((aV n n b:Nat):Int)):=by
 have c: ¬(1<0):=by omega
 refine Prod.ext ?_ ?_
 .cases a with
  | none=>rfl
  | some v=>exact vz v n 0
 .cases b with
  | none=>rfl
  | some v=>exact vz v n n
def FV (i j:Nat):Builtin.Slice.slicePlaces (i:Int) (j:Int) 1=j-i:=by
 unfold Builtin.Slice.slicePlaces
 have a:(1:Int)>0:=by omega
 simp only [Int.ediv_one]
 split<;>omega
def WN (p:IsPart v o) (h:Q o s):wpAny (model prog w) A (Builtin.Slice.slicePartIndex v) Q E s:=by
 cases p with
 | none=>exact slicePart_none h
 | int i t=>exact slicePart_int h
def bQ {a c:Y1 Int}{Q:Int×Int×Nat->Y3->Prop}(g:s.j.IsSliceOf sl vl vu .u) (pl:IsPart vl a) (f:IsPart vu c)
 (h:Q (((aV n 0 a:Nat):Int),1,aV n n c-aV n 0 a) s):wpAny (model prog w) A (Builtin.Slice.sliceApplied (.p sl) (pure (n:Int))) Q E s:=by
 obtain⟨i,b,e,d⟩:=id g
 refine wpAny_bind (wpAny_bind (wpAny_field b d (x:=vl) rfl (wpAny_bind (wpAny_field b d (x:=vu) rfl (wpAny_bind (wpAny_field b d rfl (wpAny_pure ?_)))))))
 refine wpAny_bind (slicePart_none ?_)
 refine wpAny_bind (WN pl (wpAny_bind (WN f (wpAny_bind (wpAny_pure ?_)))))
 show wpAny _ _ (match Builtin.Slice.sliceAdjust a c 1 (n:Int)with | (a,c)=>pure (a,(1:Int),Builtin.Slice.slicePlaces a c 1)) _ _ s
 rw [NO a c n]
 show wpAny _ _ (pure (((aV n 0 a:Nat):Int),1,Builtin.Slice.slicePlaces ((aV n 0 a:Nat)) ((aV n n c:Nat)) 1)) _ _ s
 rw [FV]
 exact wpAny_pure h
def LL (xs:Array Y2) (i k:Nat):((Aa7 k).T λ(m:Nat)=>xs[((i:Int)+(m:Int)*1).j]?).q=((xs.p.J i).A k).q:=by
 have e:(λ(m:Nat)=>xs[(i+(m:Int)*1).j]?)=λm=>xs[i+m]? :=by
  funext m
  have:(i+(m:Int)*1).j=i+m:=by omega
  rw [this]
 rw [e]
 have:=pick_run xs i k
 rw [List.filterMap_map]at this
 have e2:((λx=>xs[x]?)∘λx=>i+x)=λm=>xs[i+m]? :=rfl
 rw [e2]at this
 rw [this]
def cM {b c:Y1 Int}(d:IsTup s.j t k8) (j:s.j.IsSliceOf sl vl vu .u) (pl:IsPart vl b) (k:IsPart vu c)
 (l: ¬(aV k8.j 0 b=0/\aV k8.j k8.j c=k8.j))
 (h:Q (.p s.j.j.j) { s with heap:=s.j.q { cls:= .j "tuple",data:= .j ((k8.p.J (aV k8.j 0 b)).A (aV k8.j k8.j c-aV k8.j 0 b)).q } })
 (o:k8.j<=sizeLine):wpAny (model prog w) A (getItem (.p t) (.p sl)) Q E s:=by
 have a:=by
  show((k8.p.J (aV k8.j 0 b)).A (aV k8.j k8.j c-aV k8.j 0 b)).q.j<=sizeLine
  rw [Ab4,Af6,Af7,Ai0]
  omega
 have u:aV k8.j k8.j c<=k8.j:=Fp _ _ (Aa8 _) c
 obtain⟨m,i,f,n⟩:=id j
 have e:s.TypeIs (.p sl) "slice" :=⟨m,i,f⟩
 unfold getItem
 try with_reducible refine wpAny_holding ?_
 first | refine wpAny_bind (wpAny_pure ?_) | skip
 refine wpAny_bind (wpAny_sequenceKey d.Y (by decide) ?_)
 refine wpAny_bind (wpAny_callSpecial?_slot d.Y PyProof.Rows.slot_tuple_getitem
  (wpAny_call_entry PyProof.Rows.slot_tuple_getitem d.Y entry_tuple_getitem ?_ (args_tuple_getitem _ _)))
 show wpAny _ _ (Builtin.Tuple.tupleItemsOf (.p t) >>= _) _ _ s
 refine wpAny_bind (tupleItemsOf_ d ?_)
 refine wpAny_bind (wpAny_typeOf e ?_)
 rw [if_pos (by decide)]
 refine wpAny_bind (bQ j pl k ?_)
 have g: ¬((((aV k8.j 0 b:Nat):Int)==0&&(1:Int)==1&&(aV k8.j k8.j c-aV k8.j 0 b)==k8.j)=u0):=by
  intro q
  rw [Aa0,Aa0]at q
  have r:=eq_of_beq q.1.1
  have p:=eq_of_beq q.2
  exact l ⟨by omega,by omega⟩
 show wpAny _ _ (if (((aV k8.j 0 b:Nat):Int)==0&& 1==1&&(aV k8.j k8.j c-aV k8.j 0 b)==k8.j)=u0 then _ else _) _ _ s
 rw [if_neg g,LL]
 first
  | exact wpAny_bind (wpAny_newObj_type (wpAny_pure ⟨_,rfl,wpAny_pure h⟩) a)
  | exact wpAny_bind (wpAny_newObj_type (wpAny_bind (wpAny_pure (wpAny_pure ⟨_,rfl,wpAny_pure h⟩))) a)
  | exact wpAny_bind (wpAny_bind (wpAny_newObj_type (wpAny_pure (wpAny_pure ⟨_,rfl,wpAny_pure h⟩)) a))
  | exact wpAny_bind (wpAny_bind (wpAny_newObj_type (wpAny_pure ⟨_,rfl,wpAny_pure h⟩) a))
end
end HT
namespace L2
open L2 renaming Vals.length→L2.Vals.e,V.int→L2.V.o,V.ref→L2.V.p,Cx.env→L2.Cx.j,Cx.prog→L2.Cx.p,HO.lst→L2.HO.u,Inv.tuple→L2.Inv.w,Inv.list→L2.Inv.A,Inv.laid→L2.Inv.J,cZ.fresh→L2.cZ.M
open PySem PySem.Spec PyProof.Rows
abbrev TO:=St->Hp->(Y1 Int->Hp->Prop)->Prop
def PO (X:Cx) (e:Y1 Y4) (t:TO):Prop:=
 ∀(pins:Y0 (Y5×Obj)) (s:Y3) (U:St) (H:Hp) (Q:Y1 Int->Hp->Prop),Inv X pins U H s->t U H Q →
  wpAny (model X.p X.w) X.A (evalPart e X.j) (λu s'=> ∃o H',Inv X pins U H' s'/\IsPart u o/\Q o H') X.xe s
def M4:TO:=λ_ H Q=>Q y0 H
def LU (t:TE):TO:=λU H Q=>t U H λx H1=> ∃i,x= .o i/\Q (k0 i) H1
section
variable {X:Cx}{e:Y4}{te:TE}{lo hi:Y1 Y4}{tl th:TO}{pos p2:Pos}
def yx:PO X y0 M4:=by
 intro a s U H Q I h
 exact wpAny_pure ⟨y0,H,I,.none,h⟩
def XQ (h:PE X e te):PO X (k0 e) (LU te):=by
 intro a s U H Q I f
 refine aS (h a s U H _ I f) ?_
 rintro u j ⟨x,b,g,d,c⟩
 obtain⟨i,rfl,q⟩:=c
 obtain⟨t,rfl⟩:=d
 exact⟨k0 i,b,g,.int i t,q⟩
def gJ (X:Cx) (r:V->Y1 Int->Y1 Int->Hp->VK->Prop):Prop:=
 ∀(pins:Y0 (Y5×Obj)) (s:Y3) (U:St) (H:Hp) (x:V) (v b a:Y2) (lo hi:Y1 Int) (sl:Y5) (Q:VK),Inv X pins U H s->RelV x v->s.j.IsSliceOf sl b a .u->IsPart b lo->IsPart a hi->r x lo hi H Q →
  ∃T id,typeLookup (.j T) "__getitem__" =pure (some (.q id))/\s.TypeIs v T/\wpAny (model X.p X.w) X.A (getItem v (.p sl)) (EP X pins U Q) X.xe s
def gJ.or (h:gJ X r) (h':gJ X r'):gJ X (λx lo hi H Q=>r x lo hi H Q\/r' x lo hi H Q):=by
 intro a s U H x v b e lo hi sl Q I d f pl c q
 rcases q with q | q
 .exact h a s U H x v b e lo hi sl Q I d f pl c q
 .exact h' a s U H x v b e lo hi sl Q I d f pl c q
def N1 (r:V->Y1 Int->Y1 Int->Hp->VK->Prop) (c:TE) (d b:TO):TE:=λU H Q=>c U H λx H1=>d U H1 λl H2=>b U H2 λu a=>r x l u a Q
def ZU (C:gJ X r) (y:PE X e te) (K:PO X lo tl) (p:PO X hi th):PE X (.q e (.Slice lo hi y0 p2) pos) (N1 r te tl th):=by
 intro a s U H Q I h
 refine Subscript_ (aS (y a s U H _ I h) ?_)
 rintro v w ⟨x,k,B,z,m⟩
 refine wpAny_Slice (aS (K a w U k _ B m) ?_)
 rintro d i⟨l,F,n,pl,j⟩
 refine aS (p a i U F _ n j) ?_
 rintro f c ⟨u,g,A,t,J⟩
 refine wpAny_pure ?_
 have E:Inv X a U g { c with heap:=c.j.q { cls:= .j "slice",data:= .q #[d,f,.u] } }:=A.kept fun b L q=>Heap.get?_push_of_some _ q
 obtain⟨T,id,G,o,D⟩:=C a { c with heap:=c.j.q { cls:= .j "slice",data:= .q #[d,f,.u] } } U g x v d f l u c.j.j.j Q E z (Heap.IsSliceOf.new ..) pl t J
 exact tail_any o G D (by with_unfolding_all rfl)
noncomputable def mH (xs:Y0 V) (a b:Y1 Int):Y0 V:=(xs.J (HT.aV xs.e 0 a)).A (HT.aV xs.e xs.e b-HT.aV xs.e 0 a)
def jL (xs) (lo hi):(mH xs lo hi).e<=xs.e:=by
 unfold mH
 rw [Af6,Af7]
 omega
def rb (K:Ab):V->Y1 Int->Y1 Int->Hp->VK->Prop:=λx lo hi H Q=> ∃a xs,x= .p a/\cQ K H a xs ∧
 ¬(HT.aV xs.e 0 lo=0/\HT.aV xs.e xs.e hi=xs.e)/\ ∀p,H p=y0->Q (.p p) (aF H p (.tup (mH xs lo hi)))
def HQ:gJ X (rb X.K):=by
 intro k s U H x v u w f j sl Q I m p pl l h
 obtain⟨a,d,rfl,o,n,q⟩:=h
 cases m
 obtain⟨e,r,g,i⟩:=I.w o
 have c:e.q.j=d.e:=by rw [Ab4];exact r.e.p
 refine⟨"tuple",_,PyProof.Rows.slot_tuple_getitem.p,g.Y,?_⟩
 refine HT.cM g p pl l (by rw [c];exact n) ?_ (by rw [c];exact i)
 rw [c]
 refine⟨.p s.j.j.j,_,I.J (λb t q=>Ab1 _ q) (Aa8 _) ?_,rfl,q _ (I.aX.M (Aa8 _))⟩
 exact⟨Ab5 (jL d f j) i,_,(r.drop (HT.aV d.e 0 f)).take (HT.aV d.e d.e j-HT.aV d.e 0 f),dD.new _ _⟩
def Mc (K:Ab):R2:=λx y H Q=> ∃a b xs ys,x= .p a/\y= .p b/\cQ K H a xs/\cQ K H b ys/\xs≠ []/\xs.e+ys.e<=sizeLine ∧
 (ys= []->Q (.p a) H)/\(ys≠ []-> ∀p,H p=y0->Q (.p p) (aF H p (.tup (xs++ys))))
def Vals.dX (r:Vals xs us):us= []↔xs= []:=by
 cases r with
 | nil=>simp
 | cons _ _=>simp
def Im:b8 X (binaryOp .Add) (Mc X.K):=by
 intro g s U H x y v u Q I m o h
 obtain⟨a,b,B,C,rfl,rfl,l,p,t,e,j,i⟩:=h
 cases m
 cases o
 obtain⟨k,d,n,_⟩:=I.w l
 obtain⟨f,c,r,_⟩:=I.w p
 refine HT.g6 n r (λz=>t (d.dX.p z)) (λz=>⟨.p a,H,I,rfl,j (c.dX.p z)⟩) (λz=> ?_) (by rw [← d.e,←c.e];exact e)
 refine⟨.p s.j.j.j,_,I.J (λb A q=>Ab1 _ q) (Aa8 _) ?_,rfl,i (λw=>z (c.dX.q w)) _ (I.aX.M (Aa8 _))⟩
 exact⟨by rw [Aa5];exact e,_,d.append c,dD.new _ _⟩
end
noncomputable def d4 (n:Nat) (i:Int):Y1 Nat:=if 0<=i then(if i<n then k0 i.j else y0)else if -(n:Int)<=i then k0 (i+n).j else y0
def a8 {a:Type}(xs:Y0 a) (i:Int):Y1 a:=(d4 xs.e i).p λj=>xs[j]?
def uI (h:d4 n i=k0 j):seqIndex? i n=k0 j/\j<n/\ -(n:Int)<=i/\i<n:=by
 unfold d4 at h
 by_cases b:0<=i
 .rw [if_pos b]at h
  by_cases a:i<n
  .rw [if_pos a]at h
   have e:=Ad9.inj h
   exact⟨by rw [seqIndex_of b a,e],by omega,by omega,a⟩
  .rw [if_neg a]at h;cases h
 .rw [if_neg b]at h
  by_cases a: - n<=i
  .rw [if_pos a]at h
   have e:=Ad9.inj h
   exact⟨by rw [seqIndex_neg (by omega) a,e],by omega,a,by omega⟩
  .rw [if_neg a]at h;cases h
def W6 (h:a8 xs i=k0 v): ∃j,seqIndex? i xs.e=k0 j/\xs[j]? =k0 v/\j<xs.e/\ -(xs.e:Int)<=i/\i<xs.e:=by
 unfold a8 at h
 cases e:d4 xs.e i with
 | none=>rw [e]at h;cases h
 | some j=>
  rw [e]at h
  obtain⟨c,b,d,a⟩:=uI e
  exact⟨j,c,h,b,d,a⟩
def Wd {j:Nat}(h:xs[j]? =k0 v):a8 xs (j:Int)=k0 v:=by
 have a:=(Aa1.p h).1
 have e:d4 xs.e j=k0 j:=by
  unfold d4
  rw [if_pos (by omega),if_pos (by omega)];simp
 unfold a8;rw [e];exact h
def yO (b:Y4):Prop:= ∀o i,subscripted b k9 o i=operate [o,i] (getItem o i)
def gH (X:Cx) (r:R2):Prop:=
 ∀(value a:Y4) (pins:Y0 (Y5×Obj)) (s:Y3) (U:St) (H:Hp) (x y:V) (v u:Y2) (Q:VK),Inv X pins U H s->RelV x v->RelV y u->r x y H Q →
  subscripted a k9 v u=operate [v,u] (getItem v u)->wpAny (model X.p X.w) X.A (subscriptTail value a v u) (EP X pins U Q) X.xe s
def rL (X:Cx) (id:String) (r:V->Y0 V->Hp->VK->Prop):Prop:=
 ∀(pins:Y0 (Y5×Obj)) (s:Y3) (U:St) (H:Hp) (x:V) (xs:Y0 V) (v:Y2) (a:Y0 Y2) (Q:VK),Inv X pins U H s->RelV x v->Vals xs a->r x xs H Q →
  wpAny (model X.p X.w) X.A (call (.q id) (v::a)) (EP X pins U Q) X.xe s
section
variable {X:Cx}{a b:Y4}{ta tb:TE}{pos:Pos}
def gH.or (h:gH X r) (h':gH X r'):gH X (λx y H Q=>r x y H Q\/r' x y H Q):=by
 intro b a c s U H x y v u Q I d e q f
 rcases q with q | q
 .exact h b a c s U H x y v u Q I d e q f
 .exact h' b a c s U H x y v u Q I d e q f
def ri (i:gH X r) (f:PE X a ta) (l:PE X b tb) (m:yO b):PE X (.q a b pos) (md r ta tb):=by
 intro c s U H Q I h
 exact Subscript_ (pw f l I h λv u d x y j e g k q=>i a b c d U j x y v u Q e g k q (m _ _))
def Au (K:Ab):R2:=λx y H Q=> ∃p xs i v,x= .p p/\y= .o i/\bA K H p xs/\a8 xs i=k0 v/\Q v H
def tm (K:Ab):R2:=λx y H Q=> ∃p xs i v,x= .p p/\y= .o i/\cQ K H p xs/\a8 xs i=k0 v/\Q v H
def sH:R2:=λx y H Q=> ∃z i c,x= .str z/\y= .o i/\z.e<=sizeLine/\a8 z.j.p i=k0 c/\Q (.str ⟨#[c]⟩) H
def hM:gH X (Au X.K):=by
 intro e g a s U H x y v u Q I A D h l
 obtain⟨p,G,i,z,rfl,rfl,o,B,q⟩:=h
 cases A
 obtain⟨t,rfl⟩:=D
 obtain⟨c,r,pl,F⟩:=I.A o
 obtain⟨j,b,C,K,n,m⟩:=W6 B
 obtain⟨w,ew,f⟩:=r.get C
 have E:=r.e
 have J:=xM
 have fin:EP X a U Q w s:=⟨z,H,I,f,q⟩
 by_cases k:0<=i
 .have d:=by
   rw [seqIndex_of k m]at b
   exact Ad9.inj b
  exact item_listR pl.G k (by omega) (by rw [d];simpa using ew) fin l
 .have d:(i+ c.q.j).j=j:=by
   rw [seqIndex_neg (by omega) n]at b
   rw [Ab4,←E]
   exact Ad9.inj b
  exact subscriptTail_builtinR pl.G.typeIs slot_list_getitem.p
   (wpAny_getItem_list_neg pl.G (by omega) (by rw [Ab4]<;>omega) (by omega) (by rw [d];simpa using ew) ⟨rfl,fin⟩) l
def ae:gH X (tm X.K):=by
 intro b d a s U H x y v u Q I k n h A
 obtain⟨p,E,i,z,rfl,rfl,f,l,q⟩:=h
 cases k
 obtain⟨t,rfl⟩:=n
 obtain⟨g,r,pl,D⟩:=I.w f
 obtain⟨j,e,m,G,C,B⟩:=W6 l
 obtain⟨w,ew,c⟩:=r.get m
 have o:=r.e
 have F:=xM
 have fin:EP X a U Q w s:=⟨z,H,I,c,q⟩
 exact subscriptTail_builtinR pl.Y slot_tuple_getitem.p
  (getItem_tuple pl (by omega) (by omega) (by rw [Ab4,←o];exact e) (by simpa using ew) ⟨rfl,fin⟩) A
def pR:gH X sH:=by
 intro a b e s U H x y v u Q I k n h p
 obtain⟨z,i,c,rfl,rfl,w,l,q⟩:=h
 obtain⟨t,rfl⟩:=k
 obtain⟨r,rfl⟩:=n
 obtain⟨j,d,m,B,g,f⟩:=W6 l
 have o:z.j.p.e=z.e:=by simp [Str.length]
 rw [o]at d g f
 have A:=xM
 exact tail_any (typeIs_str s z t) slot_str_getitem.p (getItem_str (by
  have e1:y9 (i< -(2 ^ 63:Int))=false:=decide_eq_false (by omega)
  have e2:y9 (i>=2 ^ 63)=false:=decide_eq_false (by omega)
  rw [e1,e2,Bool.or_false]) (by rw [d];simpa using m) ⟨.str ⟨#[c]⟩,H,I.tok _,⟨_,rfl⟩,q⟩) p
def CJ (K:Ab):R2:=λx y H Q=>Au K x y H Q\/tm K x y H Q\/sH x y H Q
def LZ:gH X (CJ X.K):=hM.or (ae.or pR)
def MM (a:Y0 Y2) (n j) (u):Obj.mapSeq (·.setIfInBounds j u) { cls:= .j "list",data:= .j a.q n }= { cls:= .j "list",data:= .j (a.w j u).q n }:=by
 simp [Obj.mapSeq]
theorem Inv.lst (I:Inv X pins U H s) (h:H p=k0 (.u xs)):
 ∃ i n,Vals xs i/\s.j.p p=k0 { cls:= .j "list",data:= .j i.q n }/\xs.e<=sizeLine:=by
 obtain⟨z,i,n,r,e⟩:=I.aX p _ h
 exact⟨i,n,r,e,z⟩
def Inv.kF {c a:Y0 Y2}(I:Inv X pins U H s) (h:H p=k0 (.u xs))
 (i:s.j.p p=k0 { cls:= .j "list",data:= .j c.q n }) (d:f { cls:= .j "list",data:= .j c.q n }= { cls:= .j "list",data:= .j a.q n' }) (r:Vals ys a) (g:ys.e<=sizeLine) (t):
 Inv X pins U (aF H p (.u ys)) { s with heap:=s.j.u p f,toks:=t }:=by
 have e:(s.j.u p f).p p=k0 { cls:= .j "list",data:= .j a.q n' }:=by
  rw [Al0 f i (by rw [d]<;>rfl),d]
 refine I.write (by rw [h];trivial) (.p rfl) (λb u j q=>(Ak5 _ _ (Ne.symm j)).j q) ⟨_,e⟩ ?_
 exact⟨g,a,n',r,e⟩
def Nl:V->V->V->Hp->(Hp->Prop)->Prop:=λo i v H Q=> ∃p xs k j,o= .p p/\i= .o k/\H p=k0 (.u xs)/\d4 xs.e k=k0 j/\Q (aF H p (.u (xs.w j v)))
def QR:oZ X Nl:=by
 intro w s U H o i v E F u Q I y A rv h
 obtain⟨p,C,k,j,rfl,rfl,m,B,q⟩:=h
 cases y
 obtain⟨t,rfl⟩:=A
 obtain⟨a,n,r,d,z⟩:=I.lst m
 obtain⟨b,D,x,l⟩:=uI B
 have e:=r.e
 have G:=xM
 have f:=
  I.kF m d (MM a n j u) (r.set rv j) (by rw [Ad3];exact z) s.p
 by_cases g:0<=k
 .have c:=by
   rw [seqIndex_of g l]at b
   exact Ad9.inj b
  exact PySem.W.ki_setAt d g (by omega) (by rw [Ab4,←e];exact l) (by rw [c];exact⟨_,f,q⟩)
 .have c:(k+ a.q.j).j=j:=by
   rw [seqIndex_neg (by omega) x]at b
   rw [Ab4,←e]
   exact Ad9.inj b
  exact PySem.W.ki_setBack d (by omega) (by rw [Ab4,←e];exact x) (by omega) (by rw [c];exact⟨_,f,q⟩)
def x3 (lo hi) (n):(sliceBounds lo hi y0 n).1=((HT.aV n 0 lo:Nat):Int)/\(sliceBounds lo hi y0 n).2.1=((HT.aV n n hi:Nat):Int)/\(sliceBounds lo hi y0 n).2.2=1:=by
 refine⟨?_,?_,rfl⟩
 .cases lo with
  | none=>simp [sliceBounds,HT.aV]
  | some i=>
   simp only [sliceBounds,HT.aV,Am9,show(1:Int)>0 by decide,if_true]
   by_cases h:i<0
   .simp only [h,if_true]<;>omega
   .simp only [h,if_false]<;>omega
 .cases hi with
  | none=>simp [sliceBounds,HT.aV]
  | some i=>
   simp only [sliceBounds,HT.aV,Am9,show(1:Int)>0 by decide,if_true]
   by_cases h:i<0
   .simp only [h,if_true]<;>omega
   .simp only [h,if_false]<;>omega
def jV (a:Y0 Y2) (lo hi):slicePick a.q lo hi y0=((a.J (HT.aV a.e 0 lo)).A (HT.aV a.e a.e hi-HT.aV a.e 0 lo)).q:=by
 obtain⟨d,b,c⟩:=x3 lo hi a.q.j
 unfold slicePick
 rw [d,b,c]
 simp only [sliceRange_one,pick_run,Ab4]<;>rfl
def rM (K:Ab):V->Y1 Int->Y1 Int->Hp->VK->Prop:=λx lo hi H Q=> ∃a xs,x= .p a/\bA K H a xs/\ ∀p,H p=y0->Q (.p p) (aF H p (.u (mH xs lo hi)))
def gX:gJ X (rM X.K):=by
 intro i s U H x v t u e g sl Q I m o pl k h
 obtain⟨a,d,rfl,n,q⟩:=h
 cases m
 obtain⟨l,r,f,j⟩:=I.A n
 have c:=r.e
 refine⟨"list",_,slot_list_getitem.p,f.G.typeIs,?_⟩
 refine wpAny_getItem_list_slice f.G o pl k .none (by simp) ?_ (by rw [Ab4]<;>omega)
 rw [jV,←c]
 refine⟨.p s.j.j.j,_,I.J (λb p q=>Ab1 _ q) (Aa8 _) ?_,rfl,q _ (I.aX.M (Aa8 _))⟩
 exact⟨Ab5 (jL d e g) j,_,0,(r.drop (HT.aV d.e 0 e)).take (HT.aV d.e d.e g-HT.aV d.e 0 e),Ac8 _ rfl⟩
def ZY:qv X (.q "len") (fun xs H Q=> ∃p ys,xs= [.p p]/\(bA X.K H p ys\/cQ X.K H p ys)/\Q (.o ys.e) H):=by
 intro e s U H xs i Q I r h
 obtain⟨p,ys,rfl,b,q⟩:=h
 obtain⟨u,rfl,g⟩:=xN r
 cases g
 have j:=xM
 rcases b with b | b
 .obtain⟨c,d,pl,f⟩:=I.A b
  have a:=d.e
  exact Calls.call_len_list pl.G (by simp only [Ab4]<;>omega) ⟨.o ys.e,H,I.tok _,⟨s.p+1,by rw [Ab4,a]⟩,q⟩
 .obtain⟨c,d,pl,f⟩:=I.w b
  have a:=d.e
  exact len_tuple pl (by simp only [Ab4]<;>omega) ⟨.o ys.e,H,I.tok _,⟨s.p+1,by rw [Ab4,a]⟩,q⟩
def Z0:qv X (.q "len") (fun xs H Q=> ∃z,xs= [.str z]/\z.e<=sizeLine/\Q (.o z.e) H):=by
 intro a s U H xs d Q I r h
 obtain⟨z,rfl,b,q⟩:=h
 obtain⟨u,rfl,t,rfl⟩:=xN r
 have c:=xM
 exact len_str (by omega) ⟨.o z.e,H,I.tok _,⟨_,rfl⟩,q⟩
def W2:qv X (.j "list") (fun xs H Q=> ∃p ys,xs= [.p p]/\(bA X.K H p ys\/cQ X.K H p ys)/\ ∀l,H l=none->Q (.p l) (aF H l (.u ys))):=by
 intro k s U H xs z Q I r h
 obtain⟨p,ys,rfl,g,q⟩:=h
 obtain⟨u,rfl,y⟩:=xN r
 cases y
 have fin: ∀ a,Vals ys a->ys.e<=sizeLine-> ∀ c d,(∀ b x,s.j.p b=k0 x->c.p b=k0 x) →
  c.p s.j.j.j=some { cls:= .j "list",dict:=none,data:= .j a.q d,slots:= #[] }->EP X k U Q (.p s.j.j.j) { s with heap:=c }:=fun a f i c d m e=>
  ⟨.p s.j.j.j,_,I.J m (Aa8 _) (show aW X.p X.w _ c _ (.u ys)from⟨i,a,d,f,e⟩),rfl,q _ (I.aX.M (Aa8 _))⟩
 rcases g with g | g
 .obtain⟨a,f,pl,i⟩:=I.A g
  have j:=f.e
  obtain⟨o,w,t,n,v⟩:=pl.G
  exact call_list_seq p (.p rfl) w t v (λc d m e=>fin a f i c d m e) (by simp only [Ab4]<;>omega)
 .obtain⟨a,f,pl,i⟩:=I.w g
  have j:=f.e
  obtain⟨o,w,t,n,v⟩:=pl
  exact call_list_seq p (.q rfl) w t v (λc d m e=>fin a f i c d m e) (by simp only [Ab4]<;>omega)
def jh:qv X (.j "tuple") (fun xs H Q=> ∃p ys,xs= [.p p]/\((bA X.K H p ys/\ ∀l,H l=none->Q (.p l) (aF H l (.tup ys)))\/(cQ X.K H p ys/\Q (.p p) H))):=by
 intro a s U H xs v Q I r h
 obtain⟨p,ys,rfl,h⟩:=h
 obtain⟨u,rfl,n⟩:=xN r
 cases n
 rcases h with⟨f,q⟩ | ⟨f,q⟩
 .obtain⟨c,g,pl,i⟩:=I.A f
  have j:=g.e
  refine call_tuple_list pl.G (λd t=> ?_) (by simp only [Ab4]<;>omega)
  have k:Inv X a U H { s with heap:=d }:=I.kept t
  have m:Inv X a U (aF H d.j.j (.tup ys)) { s with heap:=d.q { cls:= .j "tuple",data:= .j c.q } }:=
   k.J (λb o e=>Ab1 _ e) (Aa8 _) (show aW X.p X.w _ _ _ (.tup ys)from⟨i,c,g,dD.new _ _⟩)
  exact⟨.p d.j.j,_,m,rfl,q _ (k.aX.M (Aa8 _))⟩
 .obtain⟨c,g,pl,i⟩:=I.w f
  exact call_tuple_same pl ⟨.p p,H,I,rfl,q⟩
def p7 (K:Ab) (T:String) (x:V) (H:Hp):Prop:=match x with
 | .str _=>T= "str"
 | .o _=>T= "int"
 | .p p=>(T= "list" /\ ∃xs,bA K H p xs)\/(T= "tuple" /\ ∃o,K.p p=some o/\o.cls= .j "tuple" /\o.u=none) ∨
  (T= "dict" /\((∃ kvs,H p=some (.dK kvs))\/ ∃kvs,H p=some (.dT kvs)))\/(T= "set" /\ ∃S n,H p=some (.set S n))
 | _=>False
def tT (I:Inv X pins U H s) (r:RelV x v) (ty:p7 X.K T x H):
 s.TypeIs v T/\ ∀a,v= .p a-> ∃ob,s.j.p a=k0 ob/\ob.u=none:=by
 cases x with
 | str z=>
  obtain⟨t,rfl⟩:=r
  cases (ty)
  exact⟨typeIs_str s z t,λ_ e=>nomatch e⟩
 | int i=>
  obtain⟨t,rfl⟩:=r
  cases (ty)
  exact⟨typeIs_int s i t,λ_ e=>nomatch e⟩
 | ref p=>
  cases r
  rcases ty with⟨rfl,k,h⟩ | ⟨rfl,o,b,g,d⟩ | ⟨rfl,b⟩ | ⟨rfl,S,n,b⟩
  .obtain⟨j,_,pl,_⟩:=I.A h
   refine⟨pl.G.typeIs,λa e=> ?_⟩
   cases e
   obtain⟨o,n,e,c,d,_⟩:=pl
   exact⟨o,e,d⟩
  .refine⟨⟨o,I.bR p o b,g⟩,λa e=> ?_⟩
   cases e
   exact⟨o,I.bR _ o b,d⟩
  .have z: ∃o,s.j.p p=k0 o/\o.ExactDict:=by
    rcases b with⟨f,b⟩ | ⟨f,b⟩
    .obtain⟨_,_,_,_,o,_,_,e,ex,_⟩:=I.aX p _ b
     exact⟨o,e,ex⟩
    .obtain⟨_,_,_,_,o,_,_,e,ex,_⟩:=I.aX p _ b
     exact⟨o,e,ex⟩
   obtain⟨o,e,ex⟩:=z
   refine⟨⟨o,e,ex.1⟩,λa e2=> ?_⟩
   cases e2
   exact⟨o,e,ex.2.1⟩
  .obtain⟨o,_,_,_,e,ex,_⟩:=I.aX p _ b
   refine⟨⟨o,e,ex.1⟩,λa e2=> ?_⟩
   cases e2
   exact⟨o,e,ex.2.1⟩
 | _=>exact False.elim ty
def Lq (K:Ab) (T:String) (r:V->Y0 V->Hp->VK->Prop) (a:TE):TE:=λU H Q=>a U H λx H1=>p7 K T x H1/\r x [] H1 Q
def Iv (K:Ab) (T:String) (r:V->Y0 V->Hp->VK->Prop) (a:TE) (t:TA):TE:=λU H Q=>a U H λx H1=>p7 K T x H1/\t U H1 λxs H2=>r x xs H2 Q
variable {o e:Y4}{es:Y0 Y4}{to:TE}{t:TA}{name:Str}{apos cpos:Pos}{T id:String}{r:V->Y0 V->Hp->VK->Prop}
def Ow (p:PlainAttrs T) (d:Slot T name id) (e:typeOf (.q id)=pure (.j "method_descriptor")) (i:rL X id r) (q:PE X o to)
 (b:attributeBase o name X.j (eval o X.j)=eval o X.j:=by rfl) (c:(apos.j==cpos.p)=true:=by rfl):PE X (.w (.p o name apos) [] [] cpos) (Lq X.K T r to):=by
 intro a s U H Q I h
 refine wpAny_Call_method0_late b c (aS (q a s U H _ I h) ?_)
 rintro v m ⟨x,k,g,f,ty,l⟩
 obtain⟨j,n⟩:=tT g f ty
 exact⟨T,id,p,d,e,j,n,Calls.callWith_builtin rfl (PySem.evalArgs_none (i a m U k x [] v [] Q g f .p l))⟩
def oP (D:PlainAttrs T) (f:Slot T name id) (i:typeOf (.q id)=pure (.j "method_descriptor")) (n:rL X id r) (J:PE X o to) (B:PA X (e::es) t)
 (c:attributeBase o name X.j (eval o X.j)=eval o X.j:=by rfl)
 (g:((backTo cpos (starEach (e::es) X.j)).K (λx=> !x.1)&&(backToKw cpos (keywordEach [] X.j)).K (λx=>x.1.q)
   &&y9 ((e::es).e+([]:Y0 Keyword).e+(if ([]:Y0 Keyword).y then 0 else 1)<30))=true:=by rfl)
 (d:(apos.j==cpos.p)=true:=by rfl) (K:starEach (e::es) X.j=(k9,eval e X.j)::starEach es X.j:=by rfl) (b:(backTo cpos (starEach es X.j)).z (·.1)=false:=by rfl):
 PE X (.w (.p o name apos) (e::es) [] cpos) (Iv X.K T r to t):=by
 intro a s U H Q I h
 refine wpAny_Call_method_late c g d rfl (aS (J a s U H _ I h) ?_)
 rintro v A ⟨x,u,l,k,ty,w⟩
 obtain⟨p,C⟩:=tT l k ty
 refine⟨T,id,D,f,i,p,C,?_⟩
 have j:=B cpos a A U u _ l w
 rw [K]at j ⊢
 refine Calls.callWith_builtin (by show(k9||(backTo cpos (starEach es X.j)).z (·.1))=k9;rw [b]<;>rfl) (Calls.evalArgs_plain ?_)
 exact aS j (by rintro F m⟨z,E,y,G,q⟩;exact n a m U E x z v F Q y k G q)
end
def kj (X:Cx) (id:String) (r:V->Y0 V->Hp->VK->Prop):Prop:=
 ∀(pins:Y0 (Y5×Obj)) (s:Y3) (U:St) (H:Hp) (x:V) (xs:Y0 V) (v:Y2) (a:Y0 Y2) (Q:VK),Inv X pins U H s->RelV x v->Vals xs a->r x xs H Q →
  wpAny (model X.p X.w) X.A (call (.q id) (v::a)) (EP X pins U Q) X.xe s
def Vals.one: ∀ {x}{i},Vals [x] i-> ∃u,i= [u]/\RelV x u
 | _,_,.j r .p=>⟨_,rfl,r⟩
theorem Vals.rep (h:Vals xs us): ∀k:Nat,Vals (Aa9 k xs).L (Aa9 k us).L
 | 0=> .p
 | k+1=>by
  exact Vals.append h (Vals.rep h k)
theorem XZ (its): ∀ k (a:Y0 Y2),
 List.foldl (λi j=>i++j) a.q (Aa9 k its.q)=(a++(Aa9 k its).L).q
 | 0,a=>by simp
 | k+1,a=>by
  have e:a.q++its.q=(a++its).q:=by simp
  have e2:(a++its)++(Aa9 k its).L=a++(Aa9 (k+1) its).L:=by
   rw [Af0,List.flatten_cons,Ae3]
  rw [← e2,←XZ its k (a++its),←e,Af0,Ak1]
section
variable {X:Cx}{pins:Y0 (Y5×Obj)}{U:St}{H:Hp}{s:Y3}{l b:Y5}{xs ys zs:Y0 V}
def Inv.mm {b a:Y0 Y2}(I:Inv X pins U H s) (c:H l=k0 (.u xs))
 (e:s.j.p l=k0 { cls:= .j "list",data:= .j b.q n }) (g:f b.q=a.q) (i:Vals ys a) (d:ys.e<=sizeLine):
 Inv X pins U (aF H l (.u ys)) { s with heap:=s.j.u l (Obj.mapSeq f),toks:=t' }:=by
 have q:=PySem.IsL.update e f
 rw [g]at q
 refine I.write (by rw [c];exact trivial) (.p rfl) (λk u j h=>(Ak5 s.j (Obj.mapSeq f) (Ne.symm j)).j h) ⟨_,q⟩ ?_
 exact⟨d,a,_,i,q⟩
def Inv.mL (I:Inv X pins U H s) (b:Vals ys its) (a:ys.e<=sizeLine):
 Inv X pins U (aF H s.j.j.j (.u ys)) { s with heap:=s.j.q { cls:= .j "list",data:= .j its.q },toks:=t' }:=
 I.J (λ_ _ q=>Ab1 _ q) (Aa8 _) ⟨a,its,0,b,Ac8 _ rfl⟩
theorem Inv.fresh (I:Inv X pins U H s):H s.j.j.j=none:=I.aX.M (Aa8 _)
def Inv.iT (I:Inv X pins U H s) (a:H l=k0 (.u xs)):xs.e<=sizeLine/\ ∃ i n,Vals xs i/\xs.e=i.e/\s.j.p l=k0 { cls:= .j "list",data:= .j i.q n }:=by
 obtain⟨z,i,n,r,e⟩:=I.aX l _ a
 exact⟨z,i,n,r,r.e,e⟩
def y4 (h:n<=sizeLine):Builtin.List.listTooLong n=false:=by
 exact decide_eq_false (by omega)
end
section
variable {X:Cx}
def E9:V->Y0 V->Hp->VK->Prop:=λx a H Q=> ∃l xs y,x= .p l/\a= [y]/\H l=k0 (.u xs)/\xs.e<sizeLine/\Q .ak (aF H l (.u (xs++ [y])))
def WY:kj X "list.append" E9:=by
 intro c s U H x g v k Q I d rv h
 obtain⟨l,j,y,rfl,rfl,b,i,q⟩:=h
 cases d
 obtain⟨u,rfl,f⟩:=rv.one
 obtain⟨z,a,n,r,m,e⟩:=I.iT b
 refine call_meets F.slot_list_append ⟨_,e,rfl⟩ F.entry_list_append (F.args_list_append_2 _ _) (PySem.list_append l a.q n u (by rw [Ab4];omega)) ⟨e,?_⟩
 refine⟨.ak,_,I.mm b e (by simp) (r.append (.j f .p)) ?_,rfl,q⟩
 rw [Aa5,List.length_singleton]
 omega
def CD:V->Y0 V->Hp->VK->Prop:=λx a H Q=> ∃l b xs zs,x= .p l/\a= [.p b]/\H l=k0 (.u xs)/\H b=k0 (.u zs)/\xs.e+zs.e<=sizeLine/\Q .ak (aF H l (.u (xs++zs)))
def FZ:kj X "list.extend" CD:=by
 intro i s U H x w v D Q I o rv h
 obtain⟨l,b,C,B,rfl,rfl,g,j,y,q⟩:=h
 cases o
 obtain⟨u,rfl,p⟩:=rv.one
 cases p
 obtain⟨z,c,n,r,E,e⟩:=I.iT g
 obtain⟨A,a,k,t,m,e2⟩:=I.iT j
 have f:c.q.j+a.q.j<=sizeLine:=by rw [Ab4,Ab4];omega
 have d: ¬(!c.q.isEmpty&&Builtin.List.listTooLong (c.q.j+a.q.j))=true:=by
  rw [y4 f,Ah0]
  exact Ac2
 refine call_meets F.slot_list_extend ⟨_,e,rfl⟩ F.entry_list_extend (F.args_list_extend_2 _ _)
  (AutoSeq1.list_extend_list_list_0 l c.q n b a.q k d (by rw [Ab4];omega) (by omega)) ⟨e,e2,?_⟩
 refine⟨.ak,_,I.mm g e (by simp) (r.append t) ?_,rfl,q⟩
 rw [Aa5]
 omega
def N2 (xs:Y0 α) (k):(Aa9 k xs).L.e=k*xs.e:=by simp
end
end L2
namespace Att
open PySem PySem.W PySem.Calls PyProof.Rows
def QL : ∀ ns vs,WellAll P h vs (ns.j WData.int)->IntsAre vs ns:=by
 intro ns
 induction ns with
 | nil=>
  intro vs w
  cases w
  exact .nil
 | cons n ns c=>
  intro vs w
  cases w with
  | cons a b=>
   cases a
   exact .cons _ _ (c _ b)
def N0 {l:OpenLaw}(u:l.most=k0 n)
 (b:l.row.toRowW.claim.pre args=u0) (j:WellAll P h vals args):
 ∃a vs ns,vals= [Value.ref a]/\args= [WData.list (ns.j WData.int)]/\h.p a=k0 { cls:= .j "list",data:= .j vs.q }/\IntsAre vs ns/\ns.e<=n:=by
 have i:WShape.hasAll [] args [.list .int]=true:=(pre_splitW b).1
 have o:l.pre.holds [] { args:=args }=true:=(pre_splitW b).2
 obtain⟨d,r,rfl,m,p⟩:=hasAllW_cons i
 obtain rfl:=hasAllW_nil p
 obtain⟨x,rfl,w⟩:=hasW_list m
 obtain⟨ns,rfl⟩:=items_int w
 have c:ns.e<=n:=by
  have f:=by
   have f:=(holds_andW o).1
   rw [u]at f
   exact f
  have g:=condW_of f (w_not (w_lt w_lit (w_len_list (w_arg rfl))))
  refine Nat.le_of_not_lt λq=> ?_
  have t:=by omega
  first
   | (rw [decide_eq_true t]at g;exact absurd g (by decide))
   | (simp at g;omega)
 cases j with
 | cons k s=>
  cases s
  cases k with
  | list v e=>exact⟨_,_,ns,rfl,rfl,v,QL ns _ e,c⟩
def Cn (l:OpenLaw) (args):l.row.toRowW.claim.post args (.bool u0) args=true:=
 postW_of
  (show WShape.has [] (.bool u0) .bool=u0 by first | rfl | decide | simp [WShape.armsAll])
  (show (WTm.eq .res (.lit (.bool u0))).value [] { args:=args,res:=k0 (.bool u0),after:=args }=k0 (.bool (u0==u0))from w_eq_bool (w_res rfl) w_lit) rfl
def eh {l:OpenLaw}
 (H:l.most=k0 n) (h:d.params.defaults= [])
 (call: ∀ w j i mg O M o V cd L a vs ns,
   Ground q loose [] XP w j mg O i.j->YP w i.j →
   i.j.p M=k0 o->o.j= .func (docDef d.name d.params d.body d.scope V cd L)->i.j.CodeRec cd d.name->mg d.name=k0 (.p M) →
   i.j.p a=k0 { cls:= .j "list",data:= .j vs.q }->IntsAre vs ns->ns.e<=n->i.gens= #[] →
   codeAny (model l.prog w) callerA (.call (.p M) ⟨[.p a],[]⟩) (λr s'=>r= .ok (.ret (.w u0))/\OldK i.j s'.j/\s'.os=i.os/\AllBare s'.gens) i):
 WalkO q loose XP YP l.row.toRowW d [] (λf vs=>PySem.call f vs):=by
 intro w j i mg O G Y M o V cd L C kV I F k v m D s u K g t y p A
 obtain rfl:C= .u:=Dflts.none v h
 obtain rfl:kV= .u:=Dflts.noKw v
 obtain⟨a,vs,ns,rfl,rfl,c,b,e⟩:=N0 H g p
 refine enter_call (codeAny_mono (call w j i mg O M o V cd L a vs ns G Y I (fd_plain F) k m c b e D) λr s' z=> ?_)
 obtain⟨rfl,E,J,B⟩:=z
 exact⟨.p ⟨.w u0,.bool u0,[],rfl,λ_=>rfl,.bool u0,Cn l _,λ_=>⟨Ap.nil,λ_ x=>(nomatch x)⟩⟩,E,J,B⟩
end Att
namespace L2
open PySem PySem.Spec PyProof.Rows
theorem jW: ∀ {vs}{ns},IntsAre vs ns->Vals (ns.j V.int) vs
 | _,_,.nil=> .p
 | _,_,.cons n t h=> .j ⟨t,rfl⟩ (jW h)
def oV (H:Hp):Prop:= ∀b,H b=y0\/ ∃o xs,H b=k0 (.eE o (.lst xs))
def D5 {K:Ab}
 (T:K.In s₁.j) (j:s₁.j.Ns mainGlobals mg) (c:s₁.j.Ns builtinsNs mb) (O: ∀x:Str,x≠ "__name__" ->mb x=bootBuiltins x) (t:s₁.j.NoLimit) (hg:s₁.gens= #[])
 (E:s₁.j.p a=k0 { cls:= .j "list",data:= .j vs.q }) (R:IntsAre vs ns) (S:ns.e<=sizeLine) (hr:bb k callerA)
 (F: ∀base:Y6,K.In base->base.Ns mainGlobals mg->bz P w K mg base CX k fa fd [x] sp) (i: ∀ s u,BindsTo s fd ⟨[u],[]⟩ [(x,u)])
 (N: ∀H:Hp,oV H->bA K H a (ns.j V.int)->sp [.ref a] H (λv _=>v= .bl u0) λ_ _ _=>False)
 (J: ∀H e s',CX [] H s₁ (λ_ _ _=>False) e s'->False):
 codeAny (model P w) callerA (.call (.p fa) ⟨[.p a],[]⟩) (λr s'=>r= .ok (.ret (.w u0))/\OldK s₁.j s'.j/\s'.os=s₁.os/\AllBare s'.gens) s₁:=by
 have rv:=jW R
 have C:=R.length
 have g: ∀H:Hp,oV H->bA K H a (ns.j V.int)->cZ P w H s₁.j->(∀ b,H b≠y0->b=a)->(H a≠y0->K.p a=y0) →
  codeAny (model P w) callerA (.call (.p fa) ⟨[.p a],[]⟩) (λr s'=>r= .ok (.ret (.w u0))/\OldK s₁.j s'.j/\s'.os=s₁.os/\AllBare s'.gens) s₁:=by
  intro H U X l Q hK
  have bG: ∀ {b}{o},s₁.j.p b=k0 o->H b=y0->(iC s₁.j H).p b=k0 o:=λe n=>L9 e n
  have L: ∀ {b}{o}{D}{G},s₁.j.p b=k0 o->o.j= .u D G->H b=none:=λ{b o D G} e d=>by
   cases q:H b with
   | none=>rfl
   | some u=>
    have I:=Q b (by rw [q];simp)
    subst I
    rw [E]at e;cases e
    have d':=d
    cases d'
  have f: ∀ {b}{m},s₁.j.Ns b m->(iC s₁.j H).Ns b m:=λ{b m} ⟨o,D,G,e,d,r⟩=>⟨o,D,G,bG e (L e d),d,r⟩
  have B:=λb o e=>bG (T b o e) (by
   cases q:H b with
   | none=>rfl
   | some u=>
    have I:=Q b (by rw [q];simp)
    subst I
    rw [hK (by rw [q];simp)]at e;cases e)
  have Z:Mod K mg (iC s₁.j H):=⟨B,f j,⟨mb,f c,O⟩,let ⟨mc,W,h2⟩:=t; ⟨mc,f W,h2⟩⟩
  have e0:dG P w K mg (iC s₁.j H) callerA [] s₁ H:=⟨rfl,Z,λb o e=>Oa e,Al3 (FA _ _),trivial,λb c=>absurd (show b∈([]:Y0 Y5)from c) (by simp),l,.of_eq hg⟩
  refine codeAny_mono ((F _ B (f j)).run callerA [] s₁ H ⟨[.p a],[]⟩ [.p a] [.ref a] _ _ hr e0 (i s₁ (.p a)) (.j rfl .p) (N H U X)) λr s' h=> ?_
  cases r with
  | error e=>exact(J H e s' h).j
  | ok fl=>
   cases fl with
   | next=>exact False.elim h
   | brk=>exact False.elim h
   | cont=>exact False.elim h
   | ret u=>
    obtain⟨v,H',os,y,un,p,r',q⟩:=h
    have q':v= .bl true:=q
    subst q'
    obtain rfl:u=Value.bool true:=r'
    refine⟨rfl,OldK.of_keep λb o e=> ?_,os,y⟩
    cases q:H b with
    | none=>exact un.keep b o e q (by intro z;exact absurd (show b∈([]:Y0 Y5)from z) (by simp)) (by simp)
    | some u=>
     rcases U b with z | ⟨Y,xs,z⟩
     .rw [q]at z;cases z
     .have z2:=un.cU b Y _ z
      obtain⟨e1,_⟩:=l b _ z
      obtain⟨e2,_⟩:=p b _ z2
      rw [e]at e1;cases e1
      exact e2
 cases M:K.p a with
 | some o=>
  have e:=T a o M
  rw [E]at e
  cases e
  refine g (λ_=>y0) (λ_=> .p rfl) (.q ⟨_,vs.q,_,M,rfl,rfl,rfl,by rw [Ab4,C];exact S,by simpa using rv⟩) (λb u z=>by have A:(none:Y1 HO)=k0 u:=z;cases A) (λb z=>absurd rfl z) λz=>absurd rfl z
 | none=>
  refine g (fun b=>if b=a then some (.eE { cls:= .j "list",data:= .j vs.q } (.lst (ns.j V.int)))else none) (fun b=> ?_) (.p (.q ⟨{ cls:= .j "list",data:= .j vs.q },if_pos rfl⟩)) (fun b u z=> ?_) (fun b z=> ?_) fun _=>M
  .by_cases c:b=a
   .exact .q ⟨_,_,if_pos c⟩
   .exact .p (if_neg c)
  .by_cases c:b=a
   .have A:=(if_pos c).p.j z
    cases A
    subst c
    exact⟨E,by rw [Aa];exact S,vs,_,rv,E⟩
   .have A:=(if_neg c).p.j z
    cases A
  .by_cases c:b=a
   .exact c
   .exact absurd (if_neg c) z
noncomputable abbrev Oy {K:Ab}{h:Y6}(_:K.In h):Ab:=K
def ij {l:PySem.W.OpenLaw}{K:Params->Ab}{A:Y8->gR}{z:Y8->Sp}
 (O:l.most=k0 n) (t:n<=sizeLine) (m:d.params.defaults= []) (J:bb k callerA)
 (P: ∀ w h,YP w h->(K w.p).In h)
 (F: ∀ w mg j h,(K w.p).In h->h.Ns mainGlobals mg->mg d.name=k0 (.p j) →
   ∃fd:YZ,(∀ s u,BindsTo s fd ⟨[u],[]⟩ [(x,u)]) ∧
    ∀base:Y6,(K w.p).In base->base.Ns mainGlobals mg->bz l.prog w (K w.p) mg base (A w) k j fd [x] (z w))
 (r: ∀ w H a (ns:Y0 Int),ns.e<=n->oV H->bA (K w.p) H a (ns.j V.int)->z w [.ref a] H (λv _=>v= .bl u0) λ_ _ _=>False)
 (p: ∀ w H s e s',A w [] H s (λ_ _ _=>False) e s'->False):
 PySem.W.WalkO q loose XP YP l.row.toRowW d [] (λf vs=>PySem.call f vs):=by
 refine Att.eh O m λw B i mg R j o U cd Q a vs ns G Y T S M y g c b L=> ?_
 have C:=P w _ Y
 obtain⟨fd,N,D⟩:=F w mg j _ C G.T.g y
 exact D5 C G.T.g G.T.b G.T.builtins G.T.nolimit L g c (Ab5 b t) J D N (λH E I=>r w H a ns b E I) λH e s'=>p w H i e s'
noncomputable def Fb (s:Y7):Arguments:=match s with
 | .FunctionDef _ a _ _ _ _ _ _ _ _=>a
 | _=> { posonlyargs:= [],args:= [],vararg:=y0,kwonlyargs:= [],kw_defaults:= [],kwarg:=y0,defaults:= [] }
noncomputable def ZJ (s:Y7):Y0 Y7:=match s with
 | .FunctionDef _ _ b _ _ _ _ _ _ _=>b
 | _=> []
noncomputable def Xm (s:Y7):YX:=match s with
 | .FunctionDef _ _ _ _ _ _ a _ _ _=>a
 | _=> { kind:= .j,names:= [],isGenerator:=k9,isCoroutine:=k9 }
abbrev lQ:gR:=λ_ _ _ _ _ _=>False
abbrev E0:XK:=λ_ _ _=>False
def l9 :zG lQ X E0:=λ_ _ _ _ _ _ _ h=>h.j
structure kD (K:Ab) (x y8:Str) (st:Stmt) (f:Addr) (fd:FuncData):Prop where
 ex: ∃(oc:Value) (od:Option Addr) (kV doc pm:Value) (an:Option Addr) (cdv ct:Value) (osl:Array (Option Value)),
  fd=PySem.W.fnOf x y8 (Fb st) (ZJ st) (Xm st) .u kV doc pm an cdv ct/\K.p f=k0 ⟨oc,od,.func fd,osl⟩/\PySem.W.codeIn K cdv y8=u0
 kp:Ah5 K (.p f)=u0
def Qt (h:n<=1000):n<sizeLine:=Ah6 h (by decide)
section
variable {X:Cx}
def pv (i)(d:X.N[i]? =some x:=by rfl) (c:i6 X.env.j x:=by first | exact Or.inl rfl | exact Or.inr (Or.inl rfl) | exact Or.inr (Or.inr rfl)) (b:(x==("__debug__" :Str))=false:=by decide)
 (a:(x==("__classdict__" :Str))=false:=by decide):PE X (.j x pos) (nt i):=qy d c b a
end
def pz {A B:Prop}(h:B):if k9=u0 then A else B:=by
 exact h
def oA {A B:Prop}(h:A):if u0=u0 then A else B:=by
 exact h
end L2
set_option maxHeartbeats 4000000
namespace L2
open L2 renaming Vals.length→L2.Vals.e,V.int→L2.V.o,V.str→L2.V.j,V.ref→L2.V.p,Inv.ok→L2.Inv.j,Inv.base→L2.Inv.q,Inv.free→L2.Inv.u,Inv.list→L2.Inv.A,Inv.aX→L2.Inv.C,Inv.kept→L2.Inv.K,Inv.bare→L2.Inv.L,Inv.pin→L2.Inv.N,Cx.env→L2.Cx.j,Cx.prog→L2.Cx.p,Cx.stack→L2.Cx.z,Cx.calm→L2.Cx.u,HO.lst→L2.HO.u,Un.free→L2.Un.u,Un.there→L2.Un.j,cZ.fresh→L2.cZ.M
open PySem PySem.Spec PyProof.Rows
noncomputable def qf (env:YJ) (a:Y0 (Str×Y5)) (y:Str×NameKind):Y0 (Str×Y5):=
 if y.2== .u then(match env.q.p y.1 with | some c=>(y.1,c)::a | none=>a)else a
def qU (a:YX) (env:YJ):Y0 (Str×Y5):=a.j.U (qf env) []
theorem vi : ∀(a:Y0 (Str×NameKind)) i,(∀ y∈a,y.2= .u-> ∃c,env.q.p y.1=k0 c) →
 (do
   let mut j:=i
   for (name,kind) in a do
    if kind== .u then j:=(name,←cellOf env name)::j
   return j:Sem (Y0 (Str×Y5)))=pure (a.U (qf env) i)
 | [],i,_=>by simp
 | (n,k)::r,i,h=>by
  have f:=λj=>vi r j λy g=>h y (Aa2 _ g)
  by_cases d:k= .u
  .subst d
   obtain⟨c,b⟩:=h (n,.u) Aa3 rfl
   have b:=b
   have e:qf env i (n,.u)=(n,c)::i:=by
    show(if (NameKind.free==NameKind.free)=u0 then(match env.q.p n with | some c=>(n,c)::i | none=>i)else i)=_
    rw [if_pos (show (NameKind.free==NameKind.free)=u0 from rfl),b]
   rw [Ak1,e,←f]
   simp [cellOf,b]
  .have l:(k==NameKind.free)=false:=by simpa using d
   have e:qf env i (n,k)=i:=by
    show(if (k==NameKind.free)=u0 then _ else i)=_
    rw [l,if_neg Ac2]
   rw [Ak1,e,←f]
   simp [d]
def JS (h: ∀y∈scope.j,y.2= .u-> ∃c,env.q.p y.1=k0 c):closureFor scope env=pure (qU scope env):=
 vi scope.j [] h
theorem WL : ∀(a:Y0 (Str×NameKind)) i,(∀ x c,i.p x=k0 c->env.q.p x=k0 c)-> ∀x c,(a.U (qf env) i).p x=k0 c->env.q.p x=k0 c
 | [],_,h=>h
 | (n,k)::r,i,h=>by
  refine WL r (qf env i (n,k)) λx c e=> ?_
  unfold qf at e
  split at e
  .split at e
   .rename_i f d
    rw [Ab8]at e
    cases b:x==n with
    | true=>
     rw [b]at e
     have:x=n:=by simpa using b
     subst this
     cases e
     exact d
    | false=>rw [b]at e;exact h x c e
   .exact h x c e
  .exact h x c e
theorem xX (b:env.q.p x=k0 c): ∀(a:Y0 (Str×NameKind)) j,((x,.u)∈a\/ ∃i,j.p x=k0 i)-> ∃i,(a.U (qf env) j).p x=k0 i
 | [],j,h=>h.j (λz=>absurd z (by simp)) id
 | (n,k)::r,j,h=>by
  refine xX b r (qf env j (n,k)) ?_
  have grow:(∃ i,j.p x=k0 i)-> ∃i,(qf env j (n,k)).p x=k0 i:=by
   rintro ⟨i,e⟩
   unfold qf
   split
   .split
    .rw [Ab8]
     cases x==n with
     | true=>exact⟨_,rfl⟩
     | false=>exact⟨i,e⟩
    .exact⟨i,e⟩
   .exact⟨i,e⟩
  rcases h with h | h
  .rcases Ab7.p h with h | h
   .cases h
    refine .q ⟨c,?_⟩
    show Ah1 x (if (NameKind.free==NameKind.free)=u0 then(match env.q.p x with | some c=>(x,c)::j | none=>j)else j)=_
    rw [if_pos (show (NameKind.free==NameKind.free)=u0 from rfl),b]
    simp
   .exact .p h
  .exact .q (grow h)
def z0 (I:Nat->Y3->Prop)
 (g: ∀n s,I n s->wpAny (model prog w) A (pyNext it) (λr i=>match r with
   | none=>R (.ok .next) i
   | some v=>wpAny (model prog w) A (letOwnedTupleGo tg it v) (λ_ L=>wpAny (model prog w) A (assign tg env v) (λ_ V=>
    wpAny (model prog w) A (forIn ifs u0 λc r=>if r=u0 then do let ok ←isTrue c env (eval c env);pure (ForInStep.yield ok)else pure (ForInStep.yield r)) (λok j=>
     if ok=u0 then wpAny (model prog w) A (eval elt env) (λx O=>
      wpAny (model prog w) A (call (.q "list.append") [acc,x]) (fun _ M=> ∃m,m<n/\I m M) (notedBy (model prog w) A env fun e s'=>R (.error e) s') O) (notedBy (model prog w) A env fun e s'=>R (.error e) s') j
     else ∃m,m<n/\I m j) (notedBy (model prog w) A env λe s'=>R (.error e) s') V) (notedBy (model prog w) A env λe s'=>R (.error e) s') L) (notedBy (model prog w) A env λe s'=>R (.error e) s') i) (notedBy (model prog w) A env λe s'=>R (.error e) s') s)
 (n) (h:I n s):codeAny (model prog w) A (.compLoop (.z elt [⟨tg,iter,ifs,0⟩] scope pos) 0 it acc env) R s:=by
 refine codeAny_loop rfl I (λn s p=> wpAny_noted ?_) n h
 rw [compTurn_list]
 refine wpAny_bind (wpAny_standAt (wpAny_bind (wpAny_mono (g n s p) (λr i b=> ?_) λ_ _ a=>a)))
 cases r with
 | none=>exact wpAny_pure b
 | some v=>
  refine wpAny_bind (wpAny_mono b (λ_ L f=> wpAny_bind (wpAny_mono f (λ_ V k=>wpAny_bind (wpAny_mono k (λok j d=> ?_) λ_ _ a=>a)) λ_ _ a=>a)) λ_ _ a=>a)
  cases ok with
  | false=>exact wpAny_pure ⟨rfl,d⟩
  | true=>
   exact wpAny_bind (wpAny_bind (wpAny_mono d (λx O l=>wpAny_bind (wpAny_mono l (λ_ M o=>wpAny_pure (wpAny_pure ⟨rfl,o⟩)) λ_ _ a=>a)) λ_ _ a=>a))
theorem pf : ∀ i n j,(x,NameKind.cell)∉i->(cellsFrom n i j).p x=j.p x
 | [],_,_,_=>rfl
 | (y,k)::r,n,j,h=>by
  unfold cellsFrom
  split
  .rename_i a
   have a:=by simpa using a
   subst a
   rw [pf r (n+1) _ λz=>h (Aa2 _ z),Ab8]
   cases b:x==y with
   | true=>
    have:x=y:=by simpa using b
    subst this
    exact absurd Aa3 h
   | false=>rfl
  .exact pf r n j λz=>h (Aa2 _ z)
theorem pK : ∀ i (h:Y6) j L,(j.p x=k0 c->L\/(h.w c y0/\(x,NameKind.cell)∈i\/h.w c y0/\L))-> ∀lo,lo<=h.j.j →
 (cellsFrom h.j.j i j).p x=k0 c->j.p x=k0 c\/(lo<=c/\(x,NameKind.cell)∈i/\(pushCells h i).w c y0)
 | [],_,_,_,_,_,_,e=> .p e
 | (y,k)::r,h,j,L,n,lo,d,e=>by
  unfold cellsFrom at e
  unfold pushCells
  split at e
  .rename_i a
   rw [if_pos a]
   have a:=by simpa using a
   subst a
   have e:(cellsFrom (h.q { cls:= .j "cell",data:= .p none }).j.j r ((y,h.j.j)::j)).p x=some c:=by rw [Heap.size_push];exact e
   rcases pK r (h.q { cls:= .j "cell",data:= .p none }) _ True (fun _=> .p trivial) lo (by rw [Heap.size_push];omega) e with q | ⟨g,f,l⟩
   .rw [Ab8]at q
    cases m:x==y with
    | true=>
     rw [m]at q
     have:x=y:=by simpa using m
     subst this
     cases q
     exact .q ⟨d,List.mem_cons_self,(show (h.q { cls:= .j "cell",data:= .p none }).w h.j.j none from⟨_,Heap.get?_push_size _ rfl,rfl⟩).keeps fun b o e=>pushCells_keeps r _ b o e⟩
    | false=>
     rw [m]at q
     exact .p q
   .exact .q ⟨g,Aa2 _ f,l⟩
  .rename_i a
   rw [if_neg a]
   rcases pK r h j True (λ_=> .p trivial) lo d e with q | ⟨g,f,l⟩
   .exact .p q
   .exact .q ⟨g,Aa2 _ f,l⟩
theorem o9: ∀(j) (n) (i),(∀ x c,i.p x=k0 c->c<n)->(∀ x y c,i.p x=k0 c->i.p y=k0 c->x=y) →
 ∀x y c,(cellsFrom n j i).p x=k0 c->(cellsFrom n j i).p y=k0 c->x=y
 | [],_,_,_,a=>a
 | (z,k)::r,n,i,b,a=>by
  unfold cellsFrom
  split
  .have look: ∀x c,((z,n)::i).p x=k0 c->(x=z/\c=n)\/(i.p x=k0 c):=λx c e=>by
    rw [Ab8]at e
    cases d:x==z with
    | true=>
     rw [d]at e
     cases e
     exact .p ⟨by simpa using d,rfl⟩
    | false=>
     rw [d]at e
     exact .q e
   refine o9 r (n+1) _ (λx c e=> ?_) λx y c e1 e2=> ?_
   .rcases look x c e with⟨_,q⟩ | q
    .exact q▸Ag n
    .exact Nat.lt_succ_of_lt (b x c q)
   .rcases look x c e1 with⟨h,l⟩ | p<;>rcases look y c e2 with⟨g,f⟩ | q
    .rw [h,g]
    .exact absurd (l▸b y c q) (Ai3 _)
    .exact absurd (f▸b x c p) (Ai3 _)
    .exact a x y c p q
  .exact o9 r n i b a
theorem QN : ∀(a:Y0 (Str×NameKind)) i,(a.U (qf env) i).p x=k0 c->i.p x=k0 c\/(x,NameKind.free)∈a
 | [],_,h=> .p h
 | (y,k)::r,i,h=>by
  rcases QN r _ h with q | q
  .unfold qf at q
   split at q
   .rename_i b
    have b:=by simpa using b
    subst b
    split at q
    .rw [Ab8]at q
     cases d:x==y with
     | true=>
      have:x=y:=by simpa using d
      subst this
      exact .q Aa3
     | false=>
      rw [d]at q
      exact .p q
    .exact .p q
   .exact .p q
  .exact .q (Aa2 _ q)
theorem X4 {env:YJ}: ∀ {a:Y0 (Str×NameKind)}{x},
 ((a.j λ(n,k)=>if(k==NameKind.free&&env.j.p== .j&&env.u n==k0 .p)then(n,NameKind.cell)else(n,k)).p x=k0 .p ∨
   (a.j λ(n,k)=>if(k==NameKind.free&&env.j.p== .j&&env.u n==k0 .p)then(n,NameKind.cell)else(n,k)).p x=k0 .u)->(x,.u)∈a\/(x,.p)∈a
 | [],_,h=>by simp at h
 | (n,k)::r,x,h=>by
  have e:= @X4 env r x
  rw [Ab2]at h
  by_cases b:(k==NameKind.free&&env.j.p== .j&&env.u n==k0 .p)=u0
  .have f:=by
    rw [Aa0,Aa0]at b
    simpa using b.1.1
   subst f
   simp only [b,if_true,Ab8]at h
   cases c:x==n with
   | true=>
    have:x=n:=by simpa using c
    subst this
    exact .p Aa3
   | false=>
    rw [c]at h
    exact(e h).imp (Aa2 _) (Aa2 _)
  .have d:=Ak8.q b
   simp only [d,Ak2,if_false,Ab8]at h
   cases c:x==n with
   | true=>
    have:x=n:=by simpa using c
    subst this
    rw [c]at h
    rcases h with h | h
    .have:k= .p:=by simpa using h
     subst this
     exact .q Aa3
    .have:k= .u:=by simpa using h
     subst this
     exact .p Aa3
   | false=>
    rw [c]at h
    exact(e (by simpa using h)).imp (Aa2 _) (Aa2 _)
theorem sM: ∀ {a:Y0 (Str×NameKind)}{x}{k i},(a.j Prod.fst).B->(x,k)∈a->(x,i)∈a->k=i
 | (y,j)::r,x,k,i,b,d,c=>by
  rw [Ab2,Ah9]at b
  rcases Ab7.p d with e1 | e1<;>rcases Ab7.p c with e2 | e2
  .cases e1;cases e2;rfl
  .cases e1;exact absurd (Ac.q ⟨_,e2,rfl⟩) b.1
  .cases e2;exact absurd (Ac.q ⟨_,e1,rfl⟩) b.1
  .exact sM b.2 e1 e2
theorem rQ: ∀ {a:Y0 (Str×NameKind)}{x}{k},(a.j Prod.fst).B->(x,k)∈a->a.p x=k0 k
 | (y,j)::r,x,k,b,h=>by
  rw [Ab2,Ah9]at b
  rw [Ab8]
  rcases Ab7.p h with e | e
  .cases e;simp
  .have:(x==y)=false:=by
    cases c:x==y with
    | false=>rfl
    | true=>
     have:x=y:=by simpa using c
     subst this
     exact absurd (Ac.q ⟨_,e,rfl⟩) b.1
   rw [this]
   exact rQ b.2 e
def iO (a:YX) (C:Y5) (env:YJ):Y0 (Str×Y5):=cellsFrom (C+1) a.j (qU a env)
def ZC 
 (d:Q (newEnv scope s.j.j.j globals (cellsFrom (s.j.j.j+1) scope.j cl) y8 y0 .u (k0 env) builtinsNs) { s with heap:=pushCells (s.j.q { cls:= .j "dict",data:= .u #[] }) scope.j }):
 wpAny M A (newFunctionEnv scope globals cl [] y8 y0 .u (k0 env)) Q E s:=by
 simp only [newFunctionEnv,Option.isSome_some,if_true]
 refine wpAny_bind (wpAny_alloc ?_)
 refine wpAny_bind (wpAny_layCells _ (λname a c=>by cases b:a==NameKind.cell<;>simp [b]) _ _ _ _ ?_)
 rw [show ({ s with heap:=s.j.q { cls:= .j "dict",data:= .u #[] } }:Y3).j.j.j=s.j.j.j+1 from Heap.size_push ..]
 exact wpAny_bind (wpAny_pure (wpAny_pure d))
noncomputable def ze (X:Cx) (N:Y0 Str) (a:YX) (C:Y5) (b:Y0 Y5) (s:Y3) (H:Hp):Cx where
 prog:=X.p
 w:=X.w
 K:=X.K
 mg:=X.mg
 base:=X.base
 A:=X.A
 N:=N
 s₀:=s
 H₀:=H
 env:=compEnvC a (iO a C X.j) C X.j
 outer:=X.z
 stack:=X.z
 ex:=b
 fn:=λx=>y9 (a.j.p x=k0 .p)
 calm:=X.u
 pn:= []
 xe:=λ_ _=>False
def cL (X:Cx):Y0 Nat->Y0 Str->Prop
 | [],[]=>True
 | j::a,x::xs=>X.N[j]? =k0 x/\(X.j.u x=k0 .p\/X.j.u x=k0 .u)/\cL X a xs
 | _,_=>False
theorem cL.get {U:St}: ∀ {aD}{xs}{i:Nat}{x}{v},cL X aD xs->xs[i]? =k0 x->(aD.j λj=>(U[j]?).w)[i]? =k0 (k0 v) →
 ∃j:Nat,X.N[j]? =k0 x/\U[j]? =k0 (k0 v)/\(X.j.u x=k0 .p\/X.j.u x=k0 .u)
 | [],[],_,_,_,_,e,_=>by simp at e
 | [],_::_,_,_,_,h,_,_=>h.j
 | _::_,[],_,_,_,h,_,_=>h.j
 | j::c,d::xs,0,x,v,h,e1,e2=>by
  obtain⟨b,a,_⟩:=h
  simp at e1
  subst e1
  refine⟨j,b,?_,a⟩
  have e2:k0 ((U[j]?).w)=k0 (k0 v):=by simpa using e2
  have e2:=Ad9.inj e2
  cases q:U[j]? with
  | none=>rw [q]at e2;cases e2
  | some z=>rw [q]at e2;have:z=k0 v:=e2;rw [this]
 | j::c,d::xs,i+1,x,v,h,e1,e2=>cL.get h.2.2 (by simpa using e1) (by simpa using e2)
theorem cL.length : ∀ {aD}{xs},cL X aD xs->aD.e=xs.e
 | [],[],_=>rfl
 | [],_::_,h=>h.j
 | _::_,[],h=>h.j
 | _::_,_::_,h=>congrArg (· +1) (cL.length h.2.2)
noncomputable def mR (k:Nat) (aD:Y0 Nat) (U:St):St:=Aa9 k y0++aD.j λ(j:Nat)=>(U[j]?).w
def iu (X:Cx) (a:Y0 Y4) (t:TT):Prop:=
 ∀(pins:Y0 (Y5×Obj)) (s:Y3) (U:St) (H:Hp) (Q:Bool->Hp->Prop),Inv X pins U H s->t U H Q →
  wpAny (model X.p X.w) X.A (forIn a u0 λc r=>if r=u0 then do let ok ←isTrue c X.j (eval c X.j);pure (ForInStep.yield ok)else pure (ForInStep.yield r)) (TP X pins U Q) X.xe s
def Lb:TT:=λ_ H Q=>Q u0 H
def r9 :iu X [] Lb:=λ_ _ _ H _ I h=>wpAny_tests_nil ⟨H,I,h⟩
def uB (h:PT X c t):iu X [c] t:=λa s U H Q I b=>wpAny_tests_one (h a s U H Q I b)
def D4 (J:It) (g:TG) (k:TT) (n:TE) (e:St) (j:Hp) (Q:VK):Prop:= ∃W:Nat->Nat->Y0 V->St->Hp->Prop,(∃ m,W 0 m [] e j)/\ ∀i m ys τ H,W i m ys τ H →
 (J.stop i H/\ys.e<=sizeLine/\ ∀D,H D=y0->Q (.p D) (aF H D (.u ys))) ∨
 (J.go i H/\ys.e<sizeLine/\ ∃N:Y0 V->St->Hp->Prop,(∀ d c H',N d c H'-> ∃f,f<m/\W (i+1) f d c H') ∧
   ∀x H',J.gd i H x H'->g x τ H' λa H2=>k a H2 λb h=>if b=u0 then n a h λy l=>N (ys++ [y]) a l else N ys a h)
abbrev lN (a:Type):=Y5->Y0 Y5->Y3->Hp->a
def nY (k:Nat) (aD:Y0 Nat) (c:TI) (g:lN TG) (a:lN TT) (b:lN TE):TE:=λU H Q=>c U H λJ H1=> ∀C fp s,D4 J (g C fp s H1) (a C fp s H1) (b C fp s H1) (mR k aD U) H1 Q
def Inv.adopt (I:Inv X pins U H s) (w:bC X pins H D) (C:X.s₀.j.j.j<=D)
 (e:s.j.p D=k0 { cls:= .j "list",data:= .j its.q n }) (r:Vals ys its) (m:ys.e<=sizeLine):Inv X pins U (aF H D (.u ys)) s:=by
 obtain⟨k,i,E,F,l,j⟩:=w
 have up: ∀b o,H b=k0 o->aF H D (.u ys) b=k0 o:=λb o q=>by rw [Za (Zb q k)];exact q
 have a: ∀b o,X.s₀.j.p b=k0 o->b≠D:=λb o q z=>by rw [z]at q;exact absurd (Ab3 (Ac0 q) C) (Ai3 _)
 refine⟨I.j,I.os,I.L,⟨I.q.keep,I.q.slot,λb o d A v=> ?_,I.q.j,λb g q=>up b _ (I.q.de b g q),λb o u q=>up b _ (I.q.cU b o u q),λb t q=> ?_⟩,I.loc,I.cell,?_,λx c q=> ?_,λp f=> ?_,λb u q=> ?_,I.len⟩
 .rw [Za (a b o d)];exact I.q.u b o d A v
 .obtain⟨more,y⟩:=I.q.dc b t q
  exact⟨more,up b _ y⟩
 .rw [Za (Ne.symm i)];exact I.u
 .rw [Za (l x c q)];exact I.bM x c q
 .obtain⟨B,a2,a3⟩:=I.N p f
  exact⟨B,by rw [Za (j p f)];exact a2,a3⟩
 .by_cases h:b=D
  .subst h
   rw [zb]at q
   cases q
   exact⟨m,its,n,r,e⟩
  .rw [Za h]at q
   exact(I.C b u q).cY (λ_ _ _ z=>z) (λc z=>up c _ z) λc g z=>up c _ z
theorem zk {env:YJ}: ∀ {b:Y0 (Str×NameKind)}{x},b.p x=k0 .u →
 ((b.j λ(n,k)=>if(k==NameKind.free&&env.j.p== .j&&env.u n==k0 .p)then(n,NameKind.cell)else(n,k)).p x=k0 .p ∨
   (b.j λ(n,k)=>if(k==NameKind.free&&env.j.p== .j&&env.u n==k0 .p)then(n,NameKind.cell)else(n,k)).p x=k0 .u)
 | [],_,h=>by simp at h
 | (n,k)::r,x,h=>by
  have f:= @zk env r x
  rw [Ab2]
  rw [Ab8]at h
  cases d:x==n with
  | true=>
   rw [d]at h
   have e:=by simpa using h
   subst e
   by_cases a:(NameKind.free==NameKind.free&&env.j.p== .j&&env.u n==k0 .p)=u0
   .simp only [a,if_true,Ab8,d]
    first | exact .p rfl | exact .p trivial | simp
   .have c:=Ak8.q a
    simp only [c,Ak2,if_false,Ab8,d]
    first | exact .q rfl | exact .q trivial | simp
  | false=>
   rw [d]at h
   have q:=f h
   by_cases a:(k==NameKind.free&&env.j.p== .j&&env.u n==k0 .p)=u0
   .simp only [a,if_true,Ab8,d]
    exact q
   .have c:=Ak8.q a
    simp only [c,Ak2,if_false,Ab8,d]
    exact q
structure qZ (X:Cx) (scope:Scope) (N:List Str) (k:Nat) (aD:List Nat):Prop where
 kind:scope.p= .j
 nd:(scope.j.j Prod.fst).B
 names: ∀y∈scope.j,y.2= .local->scope.j.p y.1=k0 .local
 free: ∀y∈scope.j,y.2= .u->X.j.u y.1=k0 .p\/X.j.u y.1=k0 .u
 gW: ∀x∈N.J k,scope.j.p x=k0 .u
 aD:cL X aD (N.J k)
 le:k<=N.e
structure OB (sc scope:Scope) (N:List Str) (k:Nat):Prop where
 kind:scope.p= .j
 nd:(scope.j.j Prod.fst).B
 names: ∀y∈scope.j,y.2= .local->scope.j.p y.1=k0 .local
 free: ∀y∈scope.j,y.2= .u->sc.j.p y.1=k0 .p\/sc.j.p y.1=k0 .u
 gW: ∀x∈N.J k,scope.j.p x=k0 .u
 le:k<=N.e
section
variable {X:Cx}{elt tg iter:Y4}{ifs:Y0 Y4}{scope:YX}{pos p0:Pos}{N:Y0 Str}{k:Nat}{aD:Y0 Nat}{wi:TI}{g:lN TG}{tc:lN TT}{te:lN TE}
def MU (ok:qZ X scope N k aD) (a:Inv X pins U H2 s2) (H: ∀b∈fp,bC X pins H2 b) (O: ∀b∈fp,b<s2.j.j.j)
 (s:s2.j.j.j<=C) (K:h₁.Ns C m) (f: ∀b o,s2.j.p b=k0 o->h₁.p b=k0 o)
 (d: ∀x c,(iO scope C X.j).p x=k0 c->(qU scope X.j).p x=k0 c\/(C+1<=c/\(x,NameKind.cell)∈scope.j/\h₁.w c y0)):
 Inv (ze X N scope C fp s2 H2) [] (mR k aD U) H2 { s2 with heap:=h₁,toks:=tk }:=by
 have sub: ∀x c,(qU scope X.j).p x=k0 c->X.j.q.p x=k0 c:=WL scope.j [] λx c e=>by simp at e
 have A: ∀x,(x,NameKind.free)∈scope.j-> ∃c,(qU scope X.j).p x=k0 c:=λx F=>by
  obtain⟨c,w⟩:=a.j.has x (ok.free _ F rfl)
  exact xX w scope.j [] (.p F)
 have lt: ∀x c,(qU scope X.j).p x=k0 c->c<C+1:=λx c e=>by
  obtain⟨v,o,E,_⟩:=a.cell x c (sub x c e)
  exact Nat.lt_succ_of_le (Ab5 (Ag5 (Ac0 E)) s)
 have keep: ∀x c,(x,NameKind.free)∈scope.j->(qU scope X.j).p x=k0 c->(iO scope C X.j).p x=k0 c:=λx c F e=>by
  unfold iO
  rw [pf scope.j _ _ λz=>by cases sM ok.nd F z]
  exact e
 have D: ∀x,_∈scope.j\/(x,NameKind.cell)∈scope.j-> ∃c,(iO scope C X.j).p x=k0 c:=λx n=>by
  rcases n with n | n
  .obtain⟨c,w⟩:=A x n
   exact⟨c,keep x c n w⟩
  .exact Ah8.p (Am8 scope.j _ _ (.p (rQ ok.nd n)))
 refine⟨⟨a.j.mod,ok.kind,a.j.glob,a.j.blt,s,(o9 scope.j _ _ lt λx y c I G=>a.j.inj x y c (sub x c I) (sub y c G)),λx n=>D x (X4 n),λx c t e=> ?_,a.j.hd,a.j.frames,.p rfl,λb h=>⟨?_,λx c e=> ?_⟩,
  λb o e=>a.bs b o e,Ab5 a.j.gG a.sz,λb o e h=> ?_,λb h z=>(Ab7.p (a.d7 b z)).j (H b h).2.1 (H b h).2.2.1,a.stack,a.dj⟩,
  rfl,a.L,Un.kept f,⟨m,K,λi x v e1 e2 e3=> ?_⟩,λx c e=> ?_,a.C.M s,λx c e=> ?_,λp Q=>absurd (show p∈([]:Y0 _)from Q) (by simp),a.C.kept f,?_⟩
 .have t:=of_decide_eq_true t
  rcases d x c e with q | q
  .rcases QN scope.j [] q with z | z
   .simp at z
   .have:=rQ ok.nd z
    rw [t]at this
    cases this
  .exact Ab5 s (Ab5 (Ag0 C) q.1)
 .show b≠C
  exact Ac3 (Ab3 (O b h) s)
 .rcases d x c e with q | q
  .exact(H b h).2.2.2.2.1 x c (sub x c q)
  .exact Ne.symm (Ac3 (Ab3 (O b h) (Ab5 s (Ab5 (Ag0 C) q.1))))
 .rcases (H b h).2.2.2.1 with z | z
  .exact a.j.f9 b o e z
  .have I:=Ac0 e
   have G:=a.j.gG
   exact absurd (Ab3 I (Ab5 G z)) (Ai3 _)
 .have g:k<=i:=by
   by_cases g:i<k
   .have e2:(Aa9 k y0++aD.j λ(j:Nat)=>(U[j]?).w)[i]? =k0 _:=e2
    rw [Ac5 (by simpa using g),Ai2,if_pos g]at e2
    cases e2
   .omega
  have B:(N.J k)[i-k]? =k0 x:=by
   rw [List.getElem?_drop,show k+(i-k)=i by omega];exact e1
  have L:(aD.j λ(j:Nat)=>(U[j]?).w)[i-k]? =k0 (k0 v):=by
   have e2:(Aa9 k y0++aD.j λ(j:Nat)=>(U[j]?).w)[i]? =k0 _:=e2
   rw [Ad6 (by simpa using g),Ae2]at e2
   exact e2
  obtain⟨j,R,S,P⟩:=ok.aD.get (U:=U) B L
  obtain⟨Y,Z,V⟩:=a.loc
  obtain⟨u,r,l⟩:=V j x v R S (.q (P.j (λz=> .p z) λz=> .q z))
  refine⟨u,r,.q ?_⟩
  have t:=ok.gW x (Ac4 B)
  refine⟨zk t,?_⟩
  obtain⟨c,w⟩:=A x (PySem.mem_of_lookup t)
  refine⟨c,keep x c (PySem.mem_of_lookup t) w,?_⟩
  rcases l with⟨T,_⟩ | ⟨_,W,J,o,E,M⟩
  .rcases P with z | z<;>(rw [T]at z;cases z)
  .have d:=sub x c w
   rw [J]at d
   cases d
   exact⟨o,f _ o E,M⟩
 .rcases d x c e with q | q
  .obtain⟨v,o,E,M⟩:=a.cell x c (sub x c q)
   exact⟨v,o,f c o E,M⟩
  .exact⟨y0,q.2.2⟩
 .rcases d x c e with q | q
  .exact a.bM x c (sub x c q)
  .exact a.C.M (Ab5 s (Ab5 (Ag0 C) q.1))
 .show(Aa9 k y0++aD.j λ(j:Nat)=>(U[j]?).w).e=N.e
  have G:=ok.le
  rw [Aa5,Ae2,Aa,ok.aD.length,Af7]
  omega
def q5 (use) (hc:X.u=u0) (ok:qZ X scope N k aD) (hi:PI X tg iter wi)
 (hg: ∀C fp s H,PG (ze X N scope C fp s H) tg (g C fp s H)) (ht: ∀C fp s H,iu (ze X N scope C fp s H) ifs (tc C fp s H)) (he: ∀C fp s H,PE (ze X N scope C fp s H) elt (te C fp s H))
 (hs: ∀x,foldedSetIterable iter X.j x=pure x)
 (I:Inv X pins U H s) (h:nY k aD wi g tc te U H Q)
 (fin: ∀(D C:Y5) (oC:Obj) (m:Str->Y1 Y2) (H4:Hp) (s4:Y3),Inv X (pins++ [(C,oC)]) U H4 s4->bC X pins H4 C->Q (.p D) H4->(∀ h:Y6,h.p C=k0 oC->h.Ns C m) →
   compPost (model X.p X.w) X.A X.xe use Q' (.p D) C (.ok .next) s4):
 wpAny (model X.p X.w) X.A (comprehension (.z elt [⟨tg,iter,ifs,0⟩] scope pos) scope X.j p0 (newList []) k9 (eval iter X.j) use) Q' X.xe s:=by
 have hcl:closureFor scope X.j=pure _:=JS λy hy hf=>I.j.has y.1 (ok.free y hy hf)
 refine wpAny_comprehension_free (use:=use) rfl hs hcl ok.kind ok.names (aS (hi pins s U H _ I h) λv s1 h1=>aS h1 λitv s2 h2=> ?_)
 obtain⟨it,fp,tn,J,H2,e,I2,T,st2,f2,hW⟩:=h2
 subst e
 refine wpAny_newObj_type (ZC ?_)
 dsimp only
 generalize hHp:s2.j.q { cls:= .j "list",dict:=none,data:= .j ([]:Y0 Y2).q }=HP
 have hCs:HP.j.j=s2.j.j.j+1:=by rw [← hHp,Aj7]
 generalize hDD:s2.j.j.j=D at hCs ⊢
 have hns0:(HP.q { cls:= .j "dict",data:= .u #[] }).Ns HP.j.j fun _=>none:=Heap.Ns.new HP _
 have hlk: ∀x c,(iO scope HP.j.j X.j).p x=some c->(qU scope X.j).p x=some c\/(HP.j.j+1<=c/\(x,NameKind.cell)∈scope.j/\(pushCells (HP.q { cls:= .j "dict",data:= .u #[] }) scope.j).w c none):=fun x c e=>by
  refine pK scope.j _ _ True (λ_=> .p trivial) _ (by rw [Aj7];exact Aa8 _) ?_
  rw [Aj7]
  exact e
 generalize hh1:pushCells _ scope.j=h₁ at hlk ⊢
 have hns₁:h₁.Ns HP.j.j λ_=>none:=by rw [← hh1];exact hns0.keeps (pushCells_keeps _ _)
 have hk1: ∀b o,HP.p b=k0 o->h₁.p b=k0 o:=λb o e=>by
  rw [← hh1]
  exact pushCells_keeps _ _ b o (Ab1 _ e)
 generalize hCC:HP.j.j=C at hCs hns₁ hlk ⊢
 have hDC:D≠C:=by rw [hCs];exact Ac3 (Ag _)
 have hle:s2.j.j.j<=C:=by rw [hDD,hCs];exact Ag0 _
 have hleD:s2.j.j.j<=D:=Al3 hDD
 have fo: ∀b∈fp,b<D:=λb hb=>by
  obtain⟨o,eo,_⟩:=T.obj _ _ st2 b hb
  rw [← hDD]
  exact Ac0 eo
 have old: ∀b o,s2.j.p b=k0 o->h₁.p b=k0 o:=λb o e=>by
  exact hk1 b o (hHp▸Ab1 _ e)
 have hacc:h₁.p D=k0 { cls:= .j "list",data:= .j ([]:Y0 Y2).q }:=by
  refine hk1 _ _ ?_
  rw [← hHp,←hDD]
  exact Ac8 _ rfl
 obtain⟨W,⟨m0,w0⟩,turn⟩:=hW C fp s2
 have I3:Inv _ [] _ H2 { s2 with heap:=h₁,toks:=s2.p }:=
  MU ok I2 f2 (λb hb=>by rw [hDD];exact fo b hb) hle hns₁ old hlk
 have st3:tn 0 h₁:=T.keep _ _ _ st2 λb _ o e=>old b o e
 have hch: ∀b∈fp,_/\b≠X.j.p/\(∀ x c,X.j.q.p x=k0 c->c≠b)/\ ∀p∈X.pn++pins,p.1≠b:=λb hb=>⟨(f2 b hb).2.2.2.1,(f2 b hb).2.1,(f2 b hb).2.2.2.2.1,(f2 b hb).2.2.2.2.2⟩
 have FD: ∀ {H':Hp},H' D=y0->bC X pins H' D:=λhn=>I2.dR hleD hn
 have FC: ∀ {H':Hp},H' C=y0->bC X pins H' C:=λhn=>I2.dR hle hn
 have sub: ∀x c,(qU scope X.j).p x=k0 c->X.j.q.p x=k0 c:=WL scope.j [] λx c e=>by simp at e
 have hDst:D∉cC X.z:=λz=>(Ab7.p (I2.d7 D z)).j (FD (H':=λ_=>y0) rfl).2.1 (FD (H':=λ_=>y0) rfl).2.2.1
 have hDc: ∀x c,(iO scope C X.j).p x=k0 c->c≠D:=λx c e=>by
  rcases hlk x c e with q | q
  .exact(FD (H':=λ_=>y0) rfl).2.2.2.2.1 x c (sub x c q)
  .exact Ne.symm (Ac3 (Ab3 (by rw [hCs];exact Nat.lt_succ_of_lt (Ag _)) q.1))
 have loop: ∀s₃:Y3,s₃= { s2 with heap:=h₁,toks:=s2.p } →
  codeAny (model X.p X.w) X.A (.compLoop (.z elt [⟨tg,iter,ifs,0⟩] scope pos) 0 (.p it) (.p D) (compEnvC scope (iO scope C X.j) C X.j))
   (compPost (model X.p X.w) X.A X.xe use Q' (.p D) C) s₃:=by
  rintro s₃ rfl
  refine z0 (λn s'=> ∃i ys its kk τ H',Inv (ze X N scope C fp s2 H2) [] τ H' s'/\tn i s'.j/\(∀ b∈fp,H' b=y0)/\H' D=y0/\s'.j.p D=k0 { cls:= .j "list",data:= .j (its:Y0 Y2).q kk }/\Vals ys its/\W i n ys τ H') ?_ m0 ⟨0,[],[],0,_,H2,I3,st3,λb hb=>(f2 b hb).1,I2.C.M hleD,hacc,.p,w0⟩
  rintro n s3 ⟨i,ys,its,kk,τ,H3,I3,st3,fr3,hD3,eD3,rv3,w3⟩
  have IP:Inv (ze X N scope C fp s2 H2) [(D,{ cls:= .j "list",data:= .j its.q kk })] τ H3 s3:=I3.bX fun p hp=>by
   have e:p=(D,{ cls:= .j "list",data:= .j its.q kk }):=by simpa using hp
   subst e
   exact⟨eD3,hD3,hDC,hDst,λv z=>by cases z⟩
  have fpok: ∀ {H':Hp},(∀ b∈fp,H' b=y0)-> ∀b∈fp,bC (ze X N scope C fp s2 H2) [(D,{ cls:= .j "list",data:= .j its.q kk })] H' b:=fun {H'} hn b hb=>by
   refine⟨hn b hb,I3.j.mV b hb |>.1,I3.j.gs b hb,.p hb,I3.j.mV b hb |>.2,λp hp=> ?_⟩
   have e:p=(D,{ cls:= .j "list",data:= .j its.q kk }):=by
    have hp:p∈([]:Y0 (Y5×Obj))++ [(D,{ cls:= .j "list",data:= .j its.q kk })]:=hp
    simpa using hp
   rw [e]
   exact Ne.symm (Ac3 (fo b hb))
  rcases turn i n ys τ H3 w3 with⟨stop,hz,q⟩ | ⟨go,hz,NN,hN,step⟩
  .refine aS (T.done (ze X N scope C fp s2 H2) rfl rfl rfl hc i _ s3 τ H3 _ IP (fpok fr3) st3 stop) ?_
   rintro r s4 ⟨hr,I4⟩
   subst hr
   have I5:Inv X pins U H3 s4:=I2.iN (ch:=fp) I4.os I4.q I4.C I4.L hch
   have I6:=I5.adopt (FD hD3) (Ab5 I2.sz hleD) ((I4.N _ (Ab0 _ Aa3)).1) rv3 hz
   obtain⟨m,⟨oC,es,ep,hoC,hdC,hr⟩,_⟩:=I4.loc
   have fC:bC X pins (aF H3 D (.u ys)) C:=FC (by rw [Za (Ne.symm hDC)];exact I4.u)
   have I7:Inv X (pins++ [(C,oC)]) U (aF H3 D (.u ys)) s4:=I6.bX λp hp=>(Ac9.p hp).j (λz=>I6.N p (Ab0 _ z)) λz=>by
    have e:p=(C,oC):=by simpa using z
    subst e
    exact⟨hoC,fC.1,fC.2.1,fC.2.2.1,λv z=>by rw [hdC]at z;cases z⟩
   exact fin D C oC m _ s4 I7 fC (q D hD3) λh e=>⟨oC,es,ep,e,hdC,hr⟩
  .refine aS (T.item (ze X N scope C fp s2 H2) rfl rfl rfl hc i _ s3 τ H3 _ IP (fpok fr3) st3 go) ?_
   rintro r s4 ⟨u,hr,h4⟩
   subst hr
   refine aS h4 ?_
   rintro _ s5 ⟨x,H5,I5,r5,y5,st5,fr5⟩
   have I5':=I5.pinned (fpok fr5) (T.obj _ _ st5)
   refine wpAny_mono (hg C fp s2 H2 _ s5 τ H5 x u _ I5' r5 (step x H5 y5)) ?_ λ_ _ z=>False.elim z
   rintro _ s6⟨U6,H6,I6,q6⟩
   refine wpAny_mono (ht C fp s2 H2 _ s6 U6 H6 _ I6 q6) ?_ λ_ _ z=>False.elim z
   rintro b s7⟨H7,I7,q7⟩
   have hp5: ∀b∈fp,∃o,s5.j.p b=k0 o:=λb hb=>let ⟨o,e,_⟩:=T.obj _ _ st5 b hb; ⟨o,e⟩
   cases b with
   | false=>
    rw [if_neg Ac2]at q7 ⊢
    obtain⟨m',hm,w7⟩:=hN _ _ _ q7
    refine⟨m',hm,i+1,ys,its,kk,U6,H7,I7.bX λp hp=>absurd hp (by simp),T.keep _ _ _ st5 λb hb o e=>(I7.N (b,o) (Ab0 _ (Ab0 _ (Qg hb e)))).1,λb hb=> ?_,?_,?_,rv3,w7⟩
    .obtain⟨o,e⟩:=hp5 b hb
     exact(I7.N (b,o) (Ab0 _ (Ab0 _ (Qg hb e)))).2.1
    .exact(I7.N _ (Ab0 _ (Ad0 _ Aa3))).2.1
    .exact(I7.N _ (Ab0 _ (Ad0 _ Aa3))).1
   | true=>
    rw [if_pos rfl]at q7 ⊢
    refine wpAny_mono (he C fp s2 H2 _ s7 U6 H7 _ I7 q7) ?_ λ_ _ z=>False.elim z
    rintro y s8⟨yv,H8,I8,r8,q8⟩
    have pD:=I8.N _ (Ab0 _ (Ad0 _ Aa3))
    have eD8:s8.j.p D=k0 { cls:= .j "list",data:= .j its.q kk }:=pD.1
    have hD8:H8 D=none:=pD.2.1
    have k7:=rv3.e
    refine call_meets F.slot_list_append ⟨_,eD8,rfl⟩ F.entry_list_append (F.args_list_append_2 _ _) (PySem.list_append D its.q kk y (by rw [Ab4];omega)) ⟨eD8,?_⟩
    obtain⟨m',hm,w8⟩:=hN _ _ _ q8
    have IQ:Inv (ze X N scope C fp s2 H2) (zL fp s5.j) U6 H8 s8:=I8.bX λp hp=>I8.N p (Ab0 _ (Ab0 _ hp))
    have e9:=PySem.IsL.update eD8 (·.push y)
    rw [show its.q.push y=(its++ [y]).q by simp]at e9
    have I9:Inv (ze X N scope C fp s2 H2) (zL fp s5.j) U6 H8 { s8 with heap:=s8.j.u D (Obj.mapSeq (·.push y)),toks:=s8.p }:=
     IQ.turned (it:=D) (λb o hb e=>(Ak5 s8.j (Obj.mapSeq (·.push y)) (Ne.symm hb)).j e) hD8 hDC (.q hleD) hDc λp hp=>by
      have hp:p∈([]:Y0 (Y5×Obj))++zL fp s5.j:=hp
      have:=fo p.1 (J1 (by simpa using hp)).1
      exact Ac3 this
    refine⟨m',hm,i+1,ys++ [yv],its++ [y],_,U6,H8,I9.bX λp hp=>absurd hp (by simp),T.keep _ _ _ st5 λb hb o e=>(I9.N (b,o) (Ab0 _ (Qg hb e))).1,λb hb=> ?_,hD8,e9,rv3.append (.j r8 .p),w8⟩
    obtain⟨o,e⟩:=hp5 b hb
    exact(I9.N (b,o) (Ab0 _ (Qg hb e))).2.1
 exact codeAny_compStart_list (loop _ rfl) (T.self _ 0 _ _ _ st3 (loop _ rfl))
def Cw (ok:qZ X scope N k aD) (u:PI X tg iter wi)
 (r: ∀C fp s H,PG (ze X N scope C fp s H) tg (g C fp s H)) (l: ∀C fp s H,iu (ze X N scope C fp s H) ifs (tc C fp s H)) (n: ∀C fp s H,PE (ze X N scope C fp s H) elt (te C fp s H))
 (j:X.u=true:=by rfl) (v: ∀x,foldedSetIterable iter X.j x=pure x:=by intro _;rfl):PE X (.z elt [⟨tg,iter,ifs,0⟩] scope pos) (nY k aD wi g tc te):=by
 intro i s U H Q I h
 exact q5 y0 j ok u r l n v I h λD C z m p y f a q c=> ⟨m,c _ (f.N _ (Ab0 _ (Ab0 _ Aa3))).1,λw d=>⟨.p D,p,(f.bP).turned (λb o t e=>d.extBut b o t e) a.1 a.2.1 a.2.2.2.1 a.2.2.2.2.1 a.2.2.2.2.2,rfl,q⟩⟩
def FP (p:X.N.B) (d:X.N[i]? =k0 x) (G:lP X.j.j x) (ok:qZ X scope N k aD) (F:PI X tg iter wi)
 (B: ∀C fp s H,PG (ze X N scope C fp s H) tg (g C fp s H)) (t: ∀C fp s H,iu (ze X N scope C fp s H) ifs (tc C fp s H)) (y: ∀C fp s H,PE (ze X N scope C fp s H) elt (te C fp s H))
 (f:swapsWith (.z elt [⟨tg,iter,ifs,0⟩] scope p0) (k0 (.j x pos')) pos.p X.j=pure true:=by rfl)
 (r:X.u=true:=by rfl) (K: ∀x,foldedSetIterable iter X.j x=pure x:=by intro _;rfl) (J:X.fn x=u0\/X.j.j.j.p x=k0 .local:=by first | exact .inl rfl | exact .inr rfl | assumption):
 PS X (.j [.j x pos'] (.z elt [⟨tg,iter,ifs,0⟩] scope p0) pos) (iI (nY k aD wi g tc te) (wY i)):=by
 intro n s U H D I h
 rw [exec_Assign_Name_used _ _ _ _ f]
 exact wpAny_bind (wpAny_standAt (wpAny_bind (wpAny_bind (wpAny_mono (q5 _ r ok F B t y K I h λw C P m z O A a q c=> wpAny_assign_Name (Wp A p d G (v:= .p w) rfl (λL l=> ⟨m,c _ (l.N _ (Ab0 _ (Ab0 _ Aa3))).1,λM j=>⟨_,z,(l.bP).turned (λb o E e=>j.extBut b o E e) a.1 a.2.1 a.2.2.2.1 a.2.2.2.2.1 a.2.2.2.2.2,q⟩⟩) J)) (λ_ Q u=>wpAny_pure (wpAny_pure u)) λ_ _ e=>e))))
end
structure OC (P:Program) (w:World) (K:Ab) (mg:Str->Option Value) (base:Heap) (k:Nat) (x:Str) (ps:List Str) (sp:Sp):Prop where
 ex: ∃f fd,bz P w K mg base lQ k f fd ps sp/\Binds K fd ps []/\Ah5 K (.p f)=u0/\mg x=k0 (.p f)
open PySem PySem.Spec PySem.Calls PySem.W PyProof.Rows
structure vx (K:Frag) (C:Addr):Prop where
 ga:findIn K (.p C) "__getattribute__" =some (some (.q "BaseException.__getattribute__"))
 gn:findIn K (.p C) "__getattr__" =some none
 cl:findIn K (.p C) "__class__" =some (some (.q "object.__class__"))
 get:specialIn K (.q "object.__class__") "__get__" =some (some (.q "getset_descriptor.__get__"))
 set:takesIn K (.q "object.__class__")=some true
 obj:mroIn K C (.j "object")=some true
 bas:mroIn K C (.j "BaseException")=some true
 slf:kitCls K (.p C) (.p C)=k0 u0
 cls:(clsIn K C).q=u0
def ExcAt (h:Y6) (x C:Y5):Prop:= ∃o,h.p x=k0 o/\o.cls= .p C
def ExcAt.type (e:ExcAt h x C):Looks M h (typeOf (.p x)) (.p C):=by
 obtain⟨o,a,b⟩:=e
 rw [← b]
 exact(Looks.ld a).andThen Looks.now
noncomputable def gP (x C:Y5) (a:Y1 Y5):HO:= .ext λh=> ∃o,h.p x=k0 o/\o.cls= .p C/\notCls o=u0/\ ∀dx,a=k0 dx->o.u=k0 dx
def NF (e:h.p x=k0 o) (d:o.cls= .p C) (c:notCls o=u0) (f: ∀dx,od=k0 dx->o.u=k0 dx):aW P w H h x (gP x C od):=
 ⟨⟨o,e,d,c,f⟩,⟨o,e⟩,by rintro i g⟨o,a,b⟩k;exact ⟨o,k o a,b⟩⟩
def DK (h h':Y6):Prop:= ∀b o,h.p b=k0 o-> ∃o',h'.p b=k0 o'/\o'.u=o.u
def DK.refl (h):DK h h:=λ_ o e=>⟨o,e,rfl⟩
theorem DK.trans (x:DK a b) (y:DK b c):DK a c:=λi o e=>
 let ⟨d,e1,f⟩:=x i o e
 let ⟨g,e2,h⟩:=y i d e1
 ⟨g,e2,h.j f⟩
def KD {b:Type}:Sem b->Prop
 | .pure _=>True
 | .raise _=>True
 | .unsupported _=>True
 | .finish _=>True
 | .register _ _=>True
 | .rule _ k=>KD (k ())
 | .at _ k=>KD (k ())
 | .load _ _ k=> ∀o,KD (k o)
 | .update _ _ f k=>(∀ o,(f o).u=o.u/\(o.isFreed=k9->(f o).isFreed=k9))/\KD (k ())
 | .alloc _ k=> ∀a,KD (k a)
 | .loadIfAlive _ k=> ∀o,KD (k o)
 | .point _ k=>KD (k ())
 | .fresh k=> ∀t,KD (k t)
 | .ask k=> ∀t,KD (k t)
 | .handled _ k=> ∀t,KD (k t)
 | .stack k=> ∀t,KD (k t)
 | .thread k=> ∀t,KD (k t)
 | _=>False
theorem KD.bind (c: ∀a,KD (f a))(h:KD m):KD (m.bind f):=by
 induction m with
 | pure a=>exact c a
 | raise _=>exact trivial
 | unsupported _=>exact trivial
 | finish _=>exact trivial
 | register _ _=>exact trivial
 | rule _ k b=>exact b () h
 | «at» _ k b=>exact b () h
 | load _ _ k b=>exact λo=>b o (h o)
 | update _ _ _ k b=>exact⟨h.1,b () h.2⟩
 | alloc _ k b=>exact λo=>b o (h o)
 | loadIfAlive _ k b=>exact λo=>b o (h o)
 | point _ k b=>exact b () h
 | fresh k b=>exact λo=>b o (h o)
 | ask k b=>exact λo=>b o (h o)
 | handled _ k b=>exact λo=>b o (h o)
 | stack k b=>exact λo=>b o (h o)
 | thread k b=>exact λo=>b o (h o)
 | _=>exact False.elim h
theorem DK.push (h) (o):DK h (h.q o):=λb u e=>⟨u,Ab1 _ e,rfl⟩
theorem DK.update (h) (a)(c: ∀o,(f o).u=o.u/\(o.isFreed=k9->(f o).isFreed=k9)):DK h (h.u a f):=λb u e=>by
 by_cases q:a=b
 .subst q
  exact⟨f u,Al0 f e ((c u).2 (Heap.get?_some_iff.p e).2),(c u).1⟩
 .exact⟨u,by rw [Ak5 _ _ q];exact e,rfl⟩
def HG : ∀ {p}{s},KD t->DK h0 s.j->Sem.wp M Y t Q E p s →
 Sem.wp M Y t (λa p s'=>Q a p s'/\DK h0 s'.j) (λe p s'=>E e p s'/\DK h0 s'.j) p s:=by
 induction t with
 | pure a=>exact λk d h=>⟨h,d⟩
 | raise _=>exact λk d h=>⟨h,d⟩
 | unsupported _=>exact λk d h=>h
 | finish _=>exact λk d h=>h
 | register _ _=>exact λk d h=>h
 | rule _ t b=>exact λk d h=>b () k d h
 | «at» _ t b=>exact λk d h=>b () k d h
 | load _ _ t b=>exact λk d ⟨o,e,h⟩=>⟨o,e,b o (k o) d h⟩
 | update a _ f t b=>exact λk d ⟨e,h⟩=>⟨e,b () k.2 (d.trans (DK.update _ _ k.1)) h⟩
 | alloc o t b=>exact λk d h=>b _ (k _) (d.trans (DK.push _ _)) h
 | loadIfAlive _ t b=>exact λk d h=>b _ (k _) d h
 | point _ t b=>exact λk d h=>b () k d h
 | fresh t b=>exact λk d h=>b _ (k _) d h
 | ask t b=>exact λk d h=>b _ (k _) d h
 | handled _ t b=>exact λk d h=>b _ (k _) d h
 | stack t b=>exact λk d h=>b _ (k _) d h
 | thread t b=>exact λk d h=>b _ (k _) d h
 | _=>exact λk=>False.elim k
def yq (k:KD t) (h:wpAny M A t Q E s):
 wpAny M A t (λa s'=>Q a s'/\DK s.j s'.j) (λe s'=>E e s'/\DK s.j s'.j) s:=λY p b=>HG k (DK.refl _) (h Y p b)
def Q8 (v):KD (fieldsOf v):=by
 cases v<;>first | exact trivial | skip
 refine KD.bind (λo=> ?_) λ_=>trivial
 split<;>exact trivial
def QH (v) (i):KD (field v i):=by
 refine KD.bind (λo=> ?_) (Q8 v)
 split<;>exact trivial
def i5 {c:Bool}(e:KD a) (d:KD b):KD (if c then a else b):=by cases c<;>assumption
def Ww (v) (i) (x):KD (setField v i x):=by
 cases v<;>first | exact trivial | skip
 refine KD.bind (λo=> ?_) λ_=>trivial
 split
 .split
  .refine⟨λo=> ?_,trivial⟩
   obtain⟨c,d,a,sl⟩:=o
   cases a<;>exact⟨rfl,λz=>z⟩
  .exact trivial
 .exact trivial
def ZS (f) (b):KD (entryPlaceOf f b):=by
 refine KD.bind (λo=> ?_) λ_=>trivial
 split<;>exact trivial
def q9 (a b c d e) (p):KD (EntryCells.newEntry a b c d e p):=by
 have g: ∀f:Array Y2,KD (if f.j>sizeLine+2 then do
  unsupported "record:memory"
  else newObjAsIs (Value.type "traceback") (Data.fields f)):=fun f=>by
  split
  .exact trivial
  .unfold newObjAsIs
   exact λ_=>trivial
 exact g _
theorem tW: ∀l:Y0 YJ,KD (readyFrames l)
 | []=>trivial
 | env::outer=>by
  unfold readyFrames
  split
  .refine KD.bind (λo=> ?_) λ_=>trivial
   refine i5 trivial ?_
   refine KD.bind (λi=> ?_) ?_
   .refine KD.bind (λb=> ?_) ?_
    .refine KD.bind (λ_=>tW outer) ⟨λo=>⟨rfl,λz=> ?_⟩,trivial⟩
     obtain⟨c,d,a,sl⟩:=o
     cases a<;>exact z
    .unfold keptBack
     split
     .refine i5 trivial ?_
      refine KD.bind (λ_=> trivial) ?_
      exact λ_=>trivial
     .exact trivial
   .unfold behindIsImport
    refine i5 trivial (i5 trivial ?_)
    exact KD.bind (λ_=> trivial) (QH _ _)
  .exact trivial
def E4 (env):KD (PySem.frameOf env):=by
 refine KD.bind (λl=> ?_) λ_=>trivial
 refine KD.bind (λo=> ?_) ?_
 .split<;>exact trivial
 .unfold frameObject
  split
  .exact trivial
  .exact KD.bind (λ_=> trivial) (tW _)
def uV (e) (env):KD (noteFrame e env):=by
 unfold noteFrame
 split
 .refine KD.bind (λf=> ?_) (QH _ _)
  have d:KD (do setField e 1 (← EntryCells.newEntry f (← PySem.frameOf env) .u (rawInt ‹Y5›) .u (← entryPlaceOf ‹Y5› (f != .u)))):=
   KD.bind (λa=>KD.bind (λb=>KD.bind (λc=>Ww _ _ _) (q9 _ _ _ _ _ _)) (ZS _ _)) (E4 env)
  refine i5 ?_ d
  refine KD.bind (λx=> ?_) (QH _ _)
  refine i5 trivial ?_
  exact KD.bind (λ_=>d) (Ww _ _ _)
 .exact trivial
def JI (e) (f):KD (setFlight e f):=by
 refine KD.bind (λx=> ?_) (QH _ _)
 exact i5 (Ww _ _ _) trivial
def LA (env) (e):KD (leaving env e):=KD.bind (λ_=>JI e y0) (uV e env)
def aW.there (x:aW P w H h a o): ∃u,h.p a=k0 u:=by
 cases o with
 | lst c=>exact⟨_,x.2.choose_spec.choose_spec.2⟩
 | tup c=>obtain⟨_,_,_,u,e,_⟩:=x;exact⟨u,e⟩
 | dK b=>obtain⟨_,_,_,_,u,_,_,e,_⟩:=x;exact⟨u,e⟩
 | dT b=>obtain⟨_,_,_,_,u,_,_,e,_⟩:=x;exact⟨u,e⟩
 | set S n=>obtain⟨u,_,_,_,e,_⟩:=x;exact⟨u,e⟩
 | ins C l fs=>obtain⟨_,_,_,e,_⟩:=x;exact⟨_,e⟩
 | own y=>exact x
 | xd fs=>obtain⟨_,⟨u,_,_,e,_⟩,_⟩:=x;exact⟨u,e⟩
 | iE k g=>obtain⟨_,_,_,e⟩:=x;exact⟨_,e⟩
 | eE d u=>exact⟨_,x.1⟩
 | iK i=>exact⟨_,show h.p a=k0 _ from x⟩
 | met f y=>exact⟨_,show h.p a=k0 _ from x⟩
 | ext j=>exact x.2.1
def dP (P:Y9) (w:Y8):gR:=λouter H s E e s'=> ∃(x C t:Y5) (B:Y6) (H':Hp) (a:Y1 Y5),e= .p x/\s'.os=s.os/\AllBare s'.gens ∧
 An7 B outer x (.p C) (.p t) s'.j/\Un (cC outer) [] H H' s.j s'.j/\cZ P w H' s'.j ∧
 (∀ b o,s'.j.p b=k0 o->((∃ u,H' b=k0 u)\/ ∃u,s.j.p b=k0 u)->b∉cC outer->B.p b=k0 o)/\s.j.p x=y0/\(∀ dx,a=k0 dx-> ∃o,s'.j.p x=k0 o/\o.u=k0 dx)/\E (.p C) a H'
noncomputable def fH (C t:Y5) (a:Y1 Y5):Obj:= { cls:= .p C,dict:=a,data:= .q #[.p t,.u,.u,.u,.w k9,.u] }
section
variable {P:Y9}{w:Y8}{K:Frag}{mg:Str->Y1 Y2}{base:Y6}{N:Y0 Str}{y8:Str}{scope:YX}{f:Y5}{cd:Y2}{A:YQ}{outer:Y0 YJ}{s:Y3}{H:Hp}{E:XK}
def IA (I:Inv (fN (dP P w) P w K mg base N y8 scope f cd A outer s H E) pins U H1 s2)
 (he:s2.j.p e=k0 (fH C t od)) (new:s.j.p e=y0) (h0:H1 e=y0) (q:E (.p C) od H1):(fN (dP P w) P w K mg base N y8 scope f cd A outer s H E).xe (.p e) s2:=by
 have ff:=I.stack
 have fb0:=funFrames_hide (as:=e::cC _) ff λenv he a ha=>Aa2 _ (Ao9.q ⟨env,he,ha⟩)
 have free:=I.dj
 have fe:e∉cC _:=λhm=>by
  obtain⟨_,o,ho,nf⟩:=ff.mem hm
  rw [he]at ho
  cases ho
  exact nf _ rfl
 refine wpAny_mono (yq (LA _ _) (wpAny_leaving_firstW (E:=λ_ _=>False) (Q:=λ_ s'=>Heap.LeftW (hideAll s2.j (e::cC (envOfC y8 scope s.j.j.j f cd::outer))) _ e (.p C) (.p t) s2.j s'.j/\s'= { s2 with heap:=s'.j }) I.j.frames fb0 rfl he (λb o z=>of_hideAll _ z) (hideAll_none _ (Aa3 ..)) rfl rfl rfl λh' hL=>⟨hL,rfl⟩)) ?_ (λ_ _ z=>z.1.j)
 rintro _ s'⟨⟨hL,hs⟩,dk⟩
 obtain⟨k1,k2,k3,x4⟩:=hL
 obtain⟨h2,g2,d2,t2,o2⟩:=s'
 simp only [Shared.mk.injEq]at hs
 obtain⟨-,rfl,rfl,rfl,rfl⟩:=hs
 have fu: ∀b o,s2.j.p b=k0 o->b≠e->b∉cC _->(hideAll s2.j (e::cC (envOfC y8 scope s.j.j.j f cd::outer))).p b=k0 o:=λb o z ne n=>hideAll_get _ z (by rw [Ab7];exact λq=>q.j ne n)
 have toH: ∀b o,s2.j.p b=k0 o->b≠e->b∉cC _->h2.p b=k0 o:=λb o z ne n=>k1 b o (fu b o z ne n)
 have slotH: ∀b o,b∈cC _->s2.j.p b=k0 o-> ∃sl,h2.p b=k0 { o with slots:=sl }:=λb o hb z=>by
  obtain⟨_,o',z',nf⟩:=ff.mem hb
  rw [z]at z'
  cases z'
  exact x4 b o z nf
 have cut: ∀b,b∉cC outer->b≠s.j.j.j->b∉cC (envOfC y8 scope s.j.j.j f cd::outer):=λb n1 n2 hb=>by
  rcases Ab7.p (show b∈s.j.j.j::cC outer from hb)with z | z
  .exact n2 z
  .exact n1 z
 have old: ∀b o,s.j.p b=k0 o->b≠s.j.j.j:=λb o z=>Ac3 (Ac0 z)
 have olde: ∀b o,s.j.p b=k0 o->b≠e:=λb o z q=>by rw [q,new]at z;cases z
 have fE: ∀b u,H1 b=k0 u->b≠e/\b∉cC _:=λb u z=>⟨λq=>(by simp_all),λhb=>(by rw [free b hb]at z;cases z)⟩
 refine⟨e,C,t,_,H1,od,rfl,I.os,I.L,⟨k1,hideAll_none _ (Aa3 ..),k2.2.2,k3⟩,⟨λb o z n hb hx=> ?_,λb o z n hb hx=> ?_,I.q.u,λb o z hx=> ?_,I.q.de,I.q.cU,I.q.dc⟩,λb u z=> ?_,λb o z hc hb=> ?_,new,λdx z=> ?_,q⟩
 .exact toH b o (I.q.keep b o z n hb hx) (olde b o z) (cut b hb (old b o z))
 .obtain⟨sl,z1⟩:=I.q.slot b o z n hb hx
  obtain⟨sl2,z2⟩:=slotH b _ (Aa2 _ hb) z1
  exact⟨sl2,z2⟩
 .obtain⟨o',z1⟩:=I.q.j b o z hx
  by_cases hb:b∈cC (envOfC y8 scope s.j.j.j f cd::outer)
  .obtain⟨sl,z2⟩:=slotH b o' hb z1
   exact⟨_,z2⟩
  .exact⟨o',toH b o' z1 (olde b o z) hb⟩
 .refine(I.C b u z).cY (λc v hc z1=> ?_) (λ_ z1=>z1) λ_ _ z1=>z1
  obtain rfl | hc:=hc
  .exact toH c v z1 (fE c u z).1 (fE c u z).2
  .exact toH c v z1 (fE c _ hc).1 (fE c _ hc).2
 .have two: ∃o2,s2.j.p b=k0 o2/\b≠e/\b∉cC (envOfC y8 scope s.j.j.j f cd::outer):=by
   obtain⟨u,hu⟩ | ⟨u,hu⟩:=hc
   .obtain⟨o2,z2⟩:=(I.C b u hu).there
    exact⟨o2,z2,fE b u hu⟩
   .obtain⟨o2,z2⟩:=I.q.j b u hu (by show b∉([]:Y0 Y5);simp)
    exact⟨o2,z2,olde b u hu,cut b hb (old b u hu)⟩
  obtain⟨o2,z2,nb⟩:=two
  have z3:=toH b o2 z2 nb.1 nb.2
  rw [show h2.p b=k0 o from z]at z3
  cases z3
  exact fu b _ z2 nb.1 nb.2
 .obtain⟨o',e1,e2⟩:=dk e _ he
  exact⟨o',e1,e2.j z⟩
end
section
variable {P:Y9}{w:Y8}{K:Frag}{mg:Str->Y1 Y2}{base:Y6}{N:Y0 Str}{y8:Str}{scope:YX}{f:Y5}{cd:Y2}{A:YQ}{outer:Y0 YJ}{s:Y3}{H:Hp}{E:XK}
noncomputable abbrev nU:Y0 Y2:= [.j "ValueError",.j "Exception",.j "BaseException",.j "object"]
def kD.sI {st:Y7}(F:kD K x y8 st f fd) (S:jB N ps (Xm st)) (len: ∀vs H Q E,sp vs H Q E->vs.e=ps.e)
 (a: ∀ i A outer s H vs Q E,bb k (A.deeper (envOfC y8 (Xm st) s.j.j.j f i))->sp vs H Q E →
   ∃t,dr (fN (dP P w) P w K mg base N y8 (Xm st) f i A outer s H E) (ZJ st) t/\t { nx:=λ_ H'=>Q .ak H',rt:=Q } (start N vs) H):bz P w K mg base (dP P w) (k+1) f fd ps sp:=by
 obtain⟨oc,j,kV,h,n,l,i,m,d,rfl,g,c⟩:=F.ex
 exact FO g c S len λA outer s H vs Q E e b=>a i A outer s H vs Q E e b
def Cc:PassesOwn (model P w) (A.deeper (envOfC y8 scope s.j.j.j f cd)) (envOfC y8 scope s.j.j.j f cd) (fN (dP P w) P w K mg base N y8 scope f cd A outer s H E).xe:=
 PassesOwn.leaving
end
section
variable {X:Cx}{pins:Y0 (Y5×Obj)}{U:St}{H:Hp}{s:Y3}
def Inv.hG (I:Inv X pins U H s) (f:Al1 X.j.p s.j h') (m:h'.Ns X.j.p m')
 (q: ∀(i:Nat) (x:Str) (v:V),X.N[i]? =k0 x->U'[i]? =k0 (k0 v)->i6 X.j.j x-> ∃u,RelV v u/\AS X.j h' m' x u) (len:U'.e=X.N.e):Inv X pins U' H { s with heap:=h',toks:=t' }:=by
 have a: ∀b o,X.s₀.j.p b=k0 o->b≠X.j.p:=λb o e=>Ac3 (Ab3 (Ac0 e) I.j.above)
 refine⟨I.j,I.os,I.L,⟨λb o e n j h=>(f.2 b (a b o e)).j (I.q.keep b o e n j h),λb o e n j h=> ?_,I.q.u,λb o e h=> ?_,I.q.de,I.q.cU,I.q.dc⟩,⟨m',m,q⟩,λy c e=> ?_,I.u,I.bM,λp l=> ?_,λb u e=> ?_,len⟩
 .obtain⟨sl,e1⟩:=I.q.slot b o e n j h
  exact⟨sl,(f.2 b (a b o e)).j e1⟩
 .obtain⟨k,e1⟩:=I.q.j b o e h
  exact⟨k,(f.2 b (a b o e)).j e1⟩
 .obtain⟨v,z⟩:=I.cell y c e
  exact⟨v,z.sameBut f (I.ia y c e)⟩
 .obtain⟨e,n,ne,r⟩:=I.N p l
  exact⟨(f.2 p.1 ne).j e,n,ne,r⟩
 .refine(I.C b u e).cY (λc v d z=>(f.2 c ?_).j z) (λ_ z=>z) λ_ _ z=>z
  intro g
  obtain d | d:=d
  .rw [← d,g,I.u]at e;cases e
  .rw [g,I.u]at d;cases d
def Inv.kB (I:Inv X pins U H s) (i:H D=y0) (h1:D≠X.j.p) (j: ∀x c,X.j.q.p x=k0 c->c≠D) (h: ∀p∈X.pn++pins,p.1≠D) (a: ∀b u,X.s₀.j.p b=k0 u->b≠D)
 (new:aW X.p X.w (aF H D o) s.j D o):Inv X pins U (aF H D o) s:=by
 have up: ∀b u,H b=k0 u->aF H D o b=k0 u:=λb u q=>by rw [Za (Zb q i)];exact q
 refine⟨I.j,I.os,I.L,⟨I.q.keep,I.q.slot,λb u e n l=> ?_,I.q.j,λb f q=>up b _ (I.q.de b f q),λb u v q=>up b _ (I.q.cU b u v q),λb k q=> ?_⟩,I.loc,I.cell,?_,λx c q=> ?_,λp d=> ?_,λb u q=> ?_,I.len⟩
 .rw [Za (a b u e)];exact I.q.u b u e n l
 .obtain⟨more,m⟩:=I.q.dc b k q
  exact⟨more,up b _ m⟩
 .rw [Za (Ne.symm h1)];exact I.u
 .rw [Za (j x c q)];exact I.bM x c q
 .obtain⟨r,a2,a3⟩:=I.N p d
  exact⟨r,by rw [Za (h p d)];exact a2,a3⟩
 .by_cases g:b=D
  .subst g
   rw [zb]at q
   cases q
   exact new
  .rw [Za g]at q
   exact(I.C b u q).cY (λ_ _ _ z=>z) (λc z=>up c _ z) λc f z=>up c _ z
def M1 (I:Inv X pins U H s) (x:X.N.B) (p:X.N[i]? =k0 n) (q:X.j.j.j.p n=k0 .local)
 (h: ∀s',Inv X pins (U.w i y0) H s'->Q () s'):wpAny M A (do bindName X.j n .u;unbindBehindTheSuite X.j n hp) Q E s:=by
 have g:(X.j.j.p== .class||(X.j.j.p== .module&&X.j.p != X.j.globals))=false:=by rw [I.j.kind];rfl
 have B:X.j.u n=k0 .local:=q
 have o:i<U.e:=by rw [I.len];exact(Aa1.p p).1
 refine wpAny_bind (wpAny_bindName (Wp I x p (.p q) (v:= .ak) rfl (λG t=> ?_) (.q q)))
 obtain⟨m,D,a⟩:=t.loc
 have b:(m n).q=true:=by
  obtain⟨u,_,l⟩:=a i n .ak p (Ab6 o) (.p q)
  obtain⟨_,e⟩ | ⟨z,_⟩:=l
  .rw [e];rfl
  .rcases z with z | z<;>(rw [B]at z;cases z)
 refine wpAny_onRaise ?_
 refine wpAny_bind (wpAny_point (wpAny_bind ?_))
 unfold deleteName
 simp only [B,g]
 refine wpAny_bind (wpAny_nsDel_keeps D λJ v w f=> ?_)
 rw [b]
 refine wpAny_pure (wpAny_point (h _ ?_))
 refine t.hG f w (λj y C e1 e2 F=> ?_) (by rw [Ad3];exact I.len)
 have d:j≠i:=λz=>by
  subst z
  rw [Ab6 o]at e2
  cases e2
 rw [Ad1 (Ne.symm d)]at e2
 obtain⟨u,r,l⟩:=a j y C e1 (by rw [Ad1 (Ne.symm d)];exact e2) F
 refine⟨u,r,?_⟩
 obtain⟨k,e⟩ | ⟨k,c,e,z⟩:=l
 .refine .p ⟨k,?_⟩
  have:y≠n:=λe=>d (zT x e1 (e▸p))
  simp [this,e]
 .exact .q ⟨k,c,e,z.sameBut f (t.ia y c e)⟩
end
def ua {j s':Y3}(k:Inv X pins U H1 j) (r:s'.os=j.os) (f:AllBare s'.gens) (un:Un (cC X.z) [] H1 H' j.j s'.j) (l:cZ X.p X.w H' s'.j)
 (comp: ∀b o,s'.j.p b=k0 o->((∃ u,H' b=k0 u)\/ ∃u,j.j.p b=k0 u)->b∉cC X.z->B.p b=k0 o) (h:An7 B X.z x (.p C) (.p t) h6) (p:s'.j.UpToSlots h6):Inv X pins U H' { s' with heap:=h6 }:=by
 have fE: ∀c u,H' c=k0 u->c∉cC X.z:=λc u z d=>by
  obtain⟨_,o,e,_⟩:=k.stack.mem d
  have:=un.u c o e (k.dj c d) (by simp)
  rw [this]at z
  cases z
 refine k.iN (s':= { s' with heap:=h6 }) (ch:= []) r ⟨λb o e n a g=> ?_,λb o e n a g=> ?_,un.u,λb o e g=> ?_,un.de,un.cU,un.dc⟩ (λb u e=> ?_) f λb a=>absurd a (by simp)
 .exact h.1 b o (comp b o (un.keep b o e n a g) (.q ⟨o,e⟩) a)
 .obtain⟨sl,e1⟩:=un.slot b o e n a g
  obtain⟨_,i,e2,s⟩:=k.stack.mem a
  rw [e]at e2
  cases e2
  obtain⟨m,w⟩:=p b _ e1 s
  exact⟨m,w⟩
 .obtain⟨i,e1⟩:=un.j b o e g
  by_cases a:b∈cC X.z
  .obtain⟨_,q,e2,_⟩:=h.2.2.1.mem a
   exact⟨q,e2⟩
  .exact⟨i,h.1 b i (comp b i e1 (.q ⟨o,e⟩) a)⟩
 .refine(l b u e).cY (λc v d z=> ?_) (λ_ z=>z) λ_ _ z=>z
  obtain rfl | d:=d
  .exact h.1 c v (comp c v z (.p ⟨u,e⟩) (fE c u e))
  .exact h.1 c v (comp c v z (.p ⟨_,d⟩) (fE c _ d))
def X9 {R:Y6->Prop}(k:KD t) (h: ∀i:Unit->Y3->Prop,(∀ h',R h'->i () { s with heap:=h' })->wpAny M A t i E s) (g: ∀h',R h'->DK s.j h'->Q () { s with heap:=h' }):wpAny M A t Q E s:=
 wpAny_mono (yq k (h (λ_ a=> ∃h',a= { s with heap:=h' }/\R h') λh' r=>⟨h',rfl,r⟩)) (λ_ a ⟨⟨h',e,r⟩,b⟩=>by subst e;exact g h' r b) (λ_ _ z=>z.1)
def WU (K):PySem.W.kitOne K (.j "list") (.j "list")=some true:=by kernel_rfl
def bz.calm {K:Frag}(F:bz P w K mg base (dP P w) k f fd ps sp)
 (h: ∀vs H Q E,sp0 vs H Q E->sp vs H Q (λ_ _ _=>False)):bz P w K mg base lQ k f fd ps sp0:=by
 refine⟨λvs H Q E q=>F.len vs H Q _ (h _ _ _ _ q),λA a s H b g vs Q E e d j i n=>codeAny_mono (F.run A a s H b g vs Q _ e d j i (h _ _ _ _ n)) λres r c=> ?_⟩
 cases res with
 | ok l=>
  cases l with
  | ret u=>exact c
  | next=>exact c
  | brk=>exact c
  | cont=>exact c
 | error p=>
  obtain⟨x,C,t,B,o,_,_,_,_,_,_,_,_,_,_,m⟩:=c
  exact m
section
variable {X:Cx}
def Vals.iU (r:Vals xs us){i:Nat}(h:us[i]? =k0 u): ∃x,xs[i]? =k0 x/\RelV x u:=by
 have e:=r.e
 have d:=(Aa1.p h).1
 have a:i<xs.e:=by lia
 obtain⟨f,b,c⟩:=r.get (Aa4 a)
 rw [h]at b
 cases b
 exact⟨_,Aa4 a,c⟩
def Ef (bs:Y0 Bool):(Aa7 bs.e).K (λi=>bs.C i k9)=bs.K id:=by
 induction bs with
 | nil=>rfl
 | cons b bs a=>
  rw [Aa6,Ah3,Al8,An6,Al8,←a]
  rfl
def C2 (bs:Y0 Bool):(Aa7 bs.e).z (λi=>bs.C i k9)=bs.z id:=by
 induction bs with
 | nil=>rfl
 | cons b bs a=>
  rw [Aa6,Ah3,Ag7,Ap4,Ag7,←a]
  rfl
def j4 {bs:Y0 Bool}(r:Vals (bs.j V.bl) its):TruthOf P w A (λi v=>its.q[i]? =k0 v) (λi=>bs.C i k9):=by
 intro i v s Q E g f
 obtain⟨x,a,d⟩:=r.iU (by simpa using g)
 rw [Ac1]at a
 cases c:bs[i]? with
 | none=>rw [c]at a;cases a
 | some b=>
  rw [c]at a
  cases a
  cases d
  refine wpAny_truthy_bool ?_
  have e:bs.C i k9=b:=by rw [Ac7,c];rfl
  rw [← e]
  exact f
def LP (g:X.u=u0):qv X (.q "all") (fun xs H Q=> ∃p,∃bs:Y0 Bool,xs= [.p p]/\bA X.K H p (bs.j V.bl)/\Q (.bl (bs.K id)) H):=by
 intro c s U H xs x Q I r h
 obtain⟨p,bs,rfl,j,q⟩:=h
 obtain⟨u,rfl,n⟩:=xN r
 cases n
 obtain⟨d,rv,pl,w⟩:=I.A j
 have a:=rv.e
 rw [Aa]at a
 refine call_all_walk (wpAny_pyIter_list pl.G ?_)
 have f:p≠s.j.j.j:=by
  obtain⟨o,v,_⟩:=pl.G
  exact Ac3 (Ac0 v)
 refine⟨s.j.j.j,_,_,_,_,_,λi=>bs.C i k9,rfl,Walks.list (A:=X.A.j) (I.j.hd g) _ p f d.q,⟨⟨_,Ac8 _ rfl,rfl,rfl⟩,pl.G.at λo e=>Ab1 _ e⟩,j4 rv,λl m k=> ?_⟩
 have t:Inv X c U H { s with heap:=l,toks:=m }:=I.K λb o e=>k b o (by simp;exact Ac3 (Ac0 e)) (Ab1 _ e)
 refine⟨.bl _,H,t,?_,q⟩
 show _=_
 rw [Ab4,←a,Ef]
def NJ (g:X.u=u0):qv X (.q "any") (fun xs H Q=> ∃p,∃bs:Y0 Bool,xs= [.p p]/\bA X.K H p (bs.j V.bl)/\Q (.bl (bs.z id)) H):=by
 intro c s U H xs x Q I r h
 obtain⟨p,bs,rfl,j,q⟩:=h
 obtain⟨u,rfl,n⟩:=xN r
 cases n
 obtain⟨d,rv,pl,w⟩:=I.A j
 have a:=rv.e
 rw [Aa]at a
 refine call_any_walk (wpAny_pyIter_list pl.G ?_)
 have f:p≠s.j.j.j:=by
  obtain⟨o,v,_⟩:=pl.G
  exact Ac3 (Ac0 v)
 refine⟨s.j.j.j,_,_,_,_,_,λi=>bs.C i k9,rfl,Walks.list (A:=X.A.j) (I.j.hd g) _ p f d.q,⟨⟨_,Ac8 _ rfl,rfl,rfl⟩,pl.G.at λo e=>Ab1 _ e⟩,j4 rv,λl m k=> ?_⟩
 have t:Inv X c U H { s with heap:=l,toks:=m }:=I.K λb o e=>k b o (by simp;exact Ac3 (Ac0 e)) (Ab1 _ e)
 refine⟨.bl _,H,t,?_,q⟩
 show _=_
 rw [Ab4,←a,C2]
noncomputable def gI:Y0 Int->Int
 | []=>0
 | i::r=>i+gI r
theorem JW: ∀(xs) (x),gI (xs++ [x])=gI xs+x
 | [],x=>by simp [gI]
 | y::a,x=>by
  show y+gI (a++ [x])=y+gI a+x
  rw [JW a x];omega
theorem zM (ns:Y0 Int): ∀j,j<=ns.e->preSum (λi=>ns.C i 0) j=gI (ns.A j)
 | 0,_=>rfl
 | j+1,h=>by
  rw [preSum,zM ns j (by omega),List.take_succ,Aa4 (by omega)]
  show _=gI (ns.A j++ [ns[j]])
  rw [JW,Ac7,Aa4 (by omega)]
  rfl
end
section
variable {X:Cx}
theorem wE: ∀ {j}{i},Vals (j.j V.str) i->StrsAre i j
 | [],i,r=>by cases r;exact .nil
 | z::j,i,r=>by
  cases r with
  | cons h t=>
   obtain⟨k,rfl⟩:=h
   exact .cons _ _ (wE t)
theorem uO: ∀ {i}{j},StrsAre i j->Vals (j.j V.str) i
 | _,_,.nil=> .p
 | _,_,.cons _ _ h=> .j ⟨_,rfl⟩ (uO h)
def Z5:qv X (.q "sorted") (fun xs H Q=> ∃p,∃j:Y0 Str,xs= [.p p]/\bA X.K H p (j.j V.str)/\j.e<64/\ ∀i,i.Perm j->sortedS i=true-> ∀l,H l=none->Q (.p l) (aF H l (.u (i.j V.str)))):=by
 intro g s U H xs x Q I r h
 obtain⟨p,j,rfl,k,t,q⟩:=h
 obtain⟨u,rfl,m⟩:=xN r
 cases m
 obtain⟨d,rv,pl,f⟩:=I.A k
 have a:=rv.e
 rw [Aa]at a
 refine sorted_strs pl.G (wE rv) (by lia) λc i v a2 a3=> ?_
 obtain⟨e,n⟩:=sortedAll_at s.j d c
 have w:i.e<=sizeLine:=by rw [a2.length_eq];rw [Aa]at f;exact f
 refine⟨.p _,_,I.laid (λb o e=>sortedAll_old e) (Ag0 _) (show aW X.p X.w _ _ _ (.u _)from⟨by rw [Aa];exact w,c.p,e,uO v,by simpa [seqObj]using n⟩),rfl,q i a2 a3 _ (I.C.M (Ag0 _))⟩
end
section
variable {X:Cx}
noncomputable def iG (x:Str) (n:Nat):Str:=⟨(Aa9 n x.j).U (· ++ ·) #[]⟩
theorem XX : ∀ n (a b:Array α),((Aa9 n a).U (· ++ ·) b).p=b.p++(Aa9 n a.p).L
 | 0,a,b=>by simp
 | n+1,a,b=>by
  rw [Af0,Ak1,XX n,Af0,List.flatten_cons]
  simp
def QI (x) (n):(iG x n).j.p=(Aa9 n x.j.p).L:=by
 unfold iG
 rw [XX]
 simp
def Oj (x) (n):(iG x n).e=x.e*n:=by
 show(iG x n).j.j=x.j.j*n
 rw [← Ai0,QI]
 simp [Ao]
def uM {a b:Str}(h:a.j.p=b.j.p):a=b:=by
 cases a;cases b
 simp [Str.mk.injEq]
 exact Array.toList_inj.p h
def Ec:b8 X (binaryOp .Mult) (λx y H Q=> ∃z k,x= .j z/\y= .o k/\0<=k/\k<=1000/\z.e*k.j<=1000000/\Q (.j (iG z k.j)) H):=by
 intro pins s U H x y v u Q I rx ry h
 obtain⟨z,k,rfl,rfl,h0,h1,hl,q⟩:=h
 obtain⟨t,rfl⟩:=rx
 obtain⟨t',rfl⟩:=ry
 have hsz:(iG z k.j).e<=sizeLine:=by rw [Oj];exact Ab5 hl (by decide)
 refine P.mul_str (by
  have a: ¬k< -(2 ^ 63:Int):=by lia
  have b: ¬k>=2 ^ 63:=by lia
  rw [decide_eq_false a,decide_eq_false b];rfl) (λc1 c2=> ?_) (λc1 c2=> ?_) ?_
 .have hk:=by omega
  have:(2:Int) ^ 63-1>=(z.e:Int)*k:=by
   have e:((z.e*k.j:Nat):Int)=(z.e:Int)*k:=by rw [Int.natCast_mul,Int.toNat_of_nonneg h0]
   have:=hl
   lia
  have:=Int.le_ediv_of_mul_le (c:=k) (by omega) (by omega)
  lia
 .unfold Builtin.Str.tooLong
  exact decide_eq_false (by have:sizeLine>=1000000:=by decide
                            lia)
 .by_cases c1:k<1
  .have hk:k=0:=by lia
   subst hk
   rw [if_pos c1]
   exact⟨by decide,.j _,H,I.K λb o e=>e,⟨_,rfl⟩,q⟩
  .rw [if_neg c1]
   by_cases c2:(k==1||z.e==0)=u0
   .rw [if_pos c2]
    have e:iG z k.j=z:=by
     apply uM
     rw [QI]
     obtain c | c:=Ao7.p c2
     .have:k=1:=by simpa using c
      subst this
      simp
     .have:z.j.p= []:=by
       have c:z.e=0:=by simpa using c
       have c:z.j.j=0:=c
       rw [← Ai0]at c
       exact Ai5 c
      rw [this]
      simp
    rw [e]at q
    exact⟨.j z,H,I,⟨t,rfl⟩,q⟩
   .rw [if_neg c2]
    exact⟨hsz,.j _,H,I.K λb o e=>e,⟨_,rfl⟩,q⟩
def BI:b8 X (binaryOp .Add) (λx y H Q=> ∃a b ys,x= .p a/\y= .p b/\cQ X.K H a []/\cQ X.K H b ys/\Q (.p b) H):=by
 intro l s U H x y v u Q I A D h
 obtain⟨a,b,ys,rfl,rfl,z,E,q⟩:=h
 cases A
 cases D
 obtain⟨w,B,C,_⟩:=I.tuple z
 obtain⟨c,J,G,_⟩:=I.tuple E
 cases B
 obtain⟨⟨p,dd,k,sl⟩,m,t,n,F⟩:=id C
 obtain⟨⟨o,e,i,j⟩,d,g,r,f⟩:=id G
 subst t F g f
 exact concat_meets ⟨_,m,rfl⟩ ⟨_,d,rfl⟩ noFill_tuple_add seq_tuple_add PySem.F.slot_tuple_add PySem.F.entry_tuple_add (PySem.F.args_tuple_add_2 _ _)
  (tuple_addW0 a b _ c.q n r dd e sl j rfl) ⟨m,d,.p b,H,I,rfl,q⟩
def EF (l:X.u=u0):qv X (.q "sum") (fun xs H Q=> ∃p,∃ns:Y0 Int,xs= [.p p]/\bA X.K H p (ns.j V.int)/\Q (.o (gI ns)) H):=by
 intro g s U H xs J Q I r h
 obtain⟨p,ns,rfl,n,q⟩:=h
 obtain⟨u,rfl,B⟩:=xN r
 cases B
 obtain⟨k,rv,pl,G⟩:=I.A n
 have a:=rv.e
 rw [Aa]at a
 refine call_sum_walkG (wpAny_pyIter_list pl.G ?_)
 have f:p<s.j.j.j:=by
  obtain⟨o,F,_⟩:=pl.G
  exact Ac0 F
 have j:s.j.j.j<(s.j.q { cls:= .j "list_iterator",data:= .q #[.p p,.o 0 0] }).j.j:=Heap.lt_size (Heap.get?_push_size _ rfl)
 refine⟨s.j.j.j,_,_,_,_,_,λi=>ns.C i 0,rfl,Walks.list (A:=X.A.j) (I.j.hd l) _ p (Ac3 f) k.q,⟨⟨_,Ac8 _ rfl,rfl,rfl⟩,pl.G.at λo e=>Ab1 _ e⟩,λb c=> ?_,λi v E=> ?_,λy z m w=> ?_⟩
 .simp [or_false]at c
  obtain rfl | rfl:=c
  .exact j
  .exact Nat.lt_trans f j
 .obtain⟨x,d,D⟩:=rv.iU (by simpa using E)
  rw [Ac1]at d
  cases c:ns[i]? with
  | none=>rw [c]at d;cases d
  | some b=>
   rw [c]at d
   cases d
   obtain⟨t,rfl⟩:=D
   exact⟨t,by show Value.int b t=Value.int (ns.C i 0) t;rw [Ac7,c];rfl⟩
 .have C:Inv X g U H { s with heap:=y,toks:=z }:=I.K λb o e=>w b o (by simp;exact Ac3 (Ac0 e)) (Ab1 _ e)
  refine⟨.o _,H,C,⟨m,?_⟩,q⟩
  rw [Ab4,←a,zM ns _ (Aa8 _),Ap7]
theorem wO: ∀ {ns}{i},Vals (ns.j V.int) i-> ∃ps:Y0 (Int×Tok),i=ps.j (λp=> .o p.1 p.2)/\ps.j (·.1)=ns
 | [],i,r=>by cases r;exact⟨[],rfl,rfl⟩
 | n::ns,i,r=>by
  cases r with
  | cons h t=>
   obtain⟨k,rfl⟩:=h
   obtain⟨ps,e1,e2⟩:=wO t
   exact⟨(n,k)::ps,by rw [e1];rfl,by rw [← e2];rfl⟩
def JH (lo) (d n) (a:d<=n):(match lo with | none=>(d:Int) | some i=>max 0 (min (if i<0 then i+n else i) n))=((HT.aV n d lo:Nat):Int)/\HT.aV n d lo<=n:=by
 cases lo with
 | none=>exact⟨rfl,a⟩
 | some i=>
  by_cases q:i<0
  .simp [HT.aV,q,if_true];lia
  .simp [HT.aV,q,if_false];lia
def Q3 (x:Str) (a b:Y1 Int):Builtin.Str.strSliceIndices a b 1 x.e=(Aa7 (HT.aV x.e x.e b-HT.aV x.e 0 a)).j λk=>HT.aV x.e 0 a+k:=by
 have e:Builtin.Str.strSliceIndices a b 1 x.e=sliceRange ((HT.aV x.e 0 a)) ((HT.aV x.e x.e b)) 1:=by
  rw [← (JH a 0 x.e (Af2 _)).1,←(JH b x.e x.e (Aa8 _)).1]
  cases a<;>cases b<;>rfl
 rw [e]
 unfold sliceRange
 simp only [show (1:Int)>0 by decide,if_true,Int.ediv_one,Int.one_mul]
 have e2:(if ((HT.aV x.e 0 a))<((HT.aV x.e x.e b:Nat):Int)then((HT.aV x.e x.e b))-((HT.aV x.e 0 a:Nat):Int)+1-1 else 0).j=HT.aV x.e x.e b-HT.aV x.e 0 a:=by
  split<;>lia
 rw [e2]
 refine Ai1 λk _=> ?_
 lia
noncomputable def lg (x:Str) (a b:Y1 Int):Str:=⟨((x.j.p.J (HT.aV x.e 0 a)).A (HT.aV x.e x.e b-HT.aV x.e 0 a)).q⟩
def BE (x) (lo hi):Txt.slice x lo hi=lg x lo hi:=by
 have c:=(JH lo 0 x.e (Af2 _)).2
 have a:=(JH hi x.e x.e (Aa8 _)).2
 by_cases q:HT.aV x.e 0 lo<=HT.aV x.e x.e hi
 .have e:=StrLaws.sliceText_nat x q a
  rw [show lg x lo hi=⟨((x.j.p.J _).A _).q⟩from rfl,←e]
  unfold Txt.slice StrLaws.sliceText
  rw [Q3 x lo hi,StrLaws.strSliceIndices_plain q a]
 .have b:HT.aV x.e x.e hi-HT.aV x.e 0 lo=0:=by lia
  unfold Txt.slice lg
  rw [Q3 x lo hi,b]
  rw [if_neg (by simp;lia)]
  simp
def rl:V->Y1 Int->Y1 Int->Hp->VK->Prop:=λx lo hi H Q=> ∃z,x= .j z/\z.e<=sizeLine/\Q (.j (lg z lo hi)) H
def oB:gJ X rl:=by
 intro a s U H x v p r i g sl Q I n d pl m h
 obtain⟨z,rfl,j,q⟩:=h
 obtain⟨t,rfl⟩:=n
 refine⟨"str",_,F.slot_str_getitem.p,typeIs_str _ _ _,?_⟩
 have fin: ∀f k,EP X a U Q (.str (Txt.slice z i g) f) { s with toks:=k }:=λf k=>by
  rw [BE]
  exact⟨.j _,H,I.K (t':=k) λb o e=>e,⟨_,rfl⟩,q⟩
 have c:(Txt.slice z i g).e<=sizeLine:=Ab5 (Txt.slice_le z _ _) j
 cases pl<;>cases m
 .exact wpAny_getItem_str_slice (l:=y0) (u:=y0) (st:=y0) d rfl (post_val_or_str ⟨c,fin⟩)
 .exact wpAny_getItem_str_slice (l:=y0) (u:=k0 (_,_)) (st:=y0) d rfl (post_val_or_str ⟨c,fin⟩)
 .exact wpAny_getItem_str_slice (l:=k0 (_,_)) (u:=y0) (st:=y0) d rfl (post_val_or_str ⟨c,fin⟩)
 .exact wpAny_getItem_str_slice (l:=k0 (_,_)) (u:=k0 (_,_)) (st:=y0) d rfl (post_val_or_str ⟨c,fin⟩)
end
open PySem PySem.Spec PyProof.Rows PySem.MeetsSeq
section
variable {X:Cx}
def F3 {e:Nat->Bool}(k:IsTup s.j a k8)
 (n: ∀i y,k8[i]? =k0 y->PySem.SeqAt.EqAt A.j s y x (e i)) (r:j<k8.j) (d:e j=u0) (f: ∀i,i<j->e i=k9) (h: ∀t',Q (.o (j:Int) t') { s with toks:=s.p+1 }):
 wpAny (model prog w) A (call (.q "tuple.index") [.p a,x]) Q E s:=by
 refine wpAny_call_entry F.slot_tuple_index k.Y F.entry_tuple_index (wpAny_bind (wpAny_of_eq (show PySem.selfAndSome "tuple.index" "index" 1 3 ⟨[.p a,x],[]⟩=pure (Value.ref a,[x])from rfl) (wpAny_bind (tupleItemsOf_ k (wpAny_bind (wpAny_pure (wpAny_bind (wpAny_pure (wpAny_bind ?_))))))))) (F.args_tuple_index_2 _ _)
 rw [Nat.min_self,Std.Legacy.Range.forIn_eq_forIn_range']
 refine wpAny_forIn_list _ (λrest b g=>g=s/\b=(y0,())/\ ∃i,i<=j/\rest=Ak6 i (k8.j-i)) _ ?_ ?_ _ _ ⟨rfl,rfl,0,Af2 _,by simp⟩
 .rintro i rest b g ⟨rfl,rfl,i0,p,c⟩
  have e1:k8.j-i0=(k8.j-(i0+1))+1:=by lia
  rw [e1,Al4]at c
  injection c with m o
  subst m
  have l:i<k8.j:=by lia
  rw [Array.getElem?_eq_getElem l]
  refine wpAny_bind (n i k8[i] (Array.getElem?_eq_getElem l) prog w _ _ ?_)
  by_cases q:i=j
  .subst q
   rw [d,if_pos rfl]
   exact wpAny_bind (wpAny_bind (wpAny_mkInt (wpAny_pure (wpAny_pure (wpAny_pure ⟨_,rfl,h _⟩)))))
  .rw [f i (by lia),if_neg Ac2]
   exact wpAny_pure ⟨rfl,rfl,i+1,by lia,o⟩
 .rintro b g ⟨rfl,rfl,i0,p,c⟩
  have e1:k8.j-i0=(k8.j-(i0+1))+1:=by lia
  rw [e1,Al4]at c
  cases c
abbrev uU:=V->Hp->Prop
def nA (X:Cx) (T:String) (ty:uU):Prop:= ∀(pins:Y0 (Y5×Obj)) (s:Y3) (U:St) (H:Hp) (x:V) (v:Y2),Inv X pins U H s->RelV x v->ty x H->s.TypeIs v T/\ ∀a,v= .p a-> ∃ob,s.j.p a=k0 ob/\ob.u=y0
def L0 (ty:uU) (r:V->Y0 V->Hp->VK->Prop) (a:TE) (t:TA):TE:=λU H Q=>a U H λx H1=>ty x H1/\t U H1 λxs H2=>r x xs H2 Q
def nE {T id:String}(E:PlainAttrs T) (d:Slot T name id) (i:typeOf (.q id)=pure (.j "method_descriptor")) (A:nA X T ty) (q:kj X id r) (L:PE X o to) (C:PA X (e::es) t)
 (b:attributeBase o name X.j (eval o X.j)=eval o X.j)
 (f:((backTo cpos (starEach (e::es) X.j)).K (λx=> !x.1)&&(backToKw cpos (keywordEach [] X.j)).K (λx=>x.1.q)
   &&y9 ((e::es).e+([]:Y0 Keyword).e+(if ([]:Y0 Keyword).y then 0 else 1)<30))=u0)
 (c:(apos.j==cpos.p)=u0) (M:starEach (e::es) X.j=(k9,eval e X.j)::starEach es X.j) (g:(backTo cpos (starEach es X.j)).z (·.1)=k9):
 PE X (.w (.p o name apos) (e::es) [] cpos) (L0 ty r to t):=by
 intro a s U H Q I h
 refine wpAny_Call_method_late b f c rfl (aS (L a s U H _ I h) ?_)
 rintro v l ⟨x,j,n,m,J,y⟩
 obtain⟨u,D⟩:=A a l U j x v n m J
 refine⟨T,id,E,d,i,u,D,?_⟩
 have k:=C cpos a l U j _ n y
 rw [M]at k ⊢
 exact Calls.callWith_builtin (by assumption) (Calls.evalArgs_plain (aS k (by rintro G p⟨B,F,z,K,w⟩;exact q a p U F x B v G Q z m K w)))
def vh (K:PySem.W.Frag) (H:Hp) (a:Y5):Prop:=(∃ xs,H a=some (.tup xs))\/ ∃o,K.p a=some o/\o.cls= .j "tuple" /\o.u=none
def MK:nA X "tuple" (fun x H=> ∃a,x= .p a/\vh X.K H a):=by
 intro g s U H x v I r h
 obtain⟨a,rfl,h⟩:=h
 cases r
 obtain⟨m,h⟩ | ⟨o,f,i,k⟩:=h
 .obtain⟨_,j,_,o,e,c,d,n,l⟩:=I.C a _ h
  refine⟨⟨o,e,c⟩,λb z=> ?_⟩
  cases z
  exact⟨o,e,d⟩
 .refine⟨⟨o,I.bR a o f,i⟩,λb z=> ?_⟩
  cases z
  exact⟨o,I.bR _ o f,k⟩
def Nd:nA X "str" (fun x _=> ∃z,x= .j z):=by
 intro a s U H x v I r h
 obtain⟨z,rfl⟩:=h
 obtain⟨t,rfl⟩:=r
 exact⟨typeIs_str s z t,λ_ e=>nomatch e⟩
def AF:nA X "list" (fun x H=> ∃a xs,x= .p a/\bA X.K H a xs):=by
 intro d s U H x v I r h
 obtain⟨a,xs,rfl,h⟩:=h
 cases r
 obtain⟨f,_,pl,_⟩:=I.A h
 refine⟨pl.G.typeIs,λb e=> ?_⟩
 cases e
 obtain⟨o,n,e,c,g,_⟩:=pl
 exact⟨o,e,g⟩
noncomputable def lu (x:Str):Y0 Str->Y1 Nat
 | []=>y0
 | y::ys=>if y=x then k0 0 else(lu x ys).j (· +1)
theorem vA : ∀ {L}{j},lu x L=k0 j->j<L.e/\L[j]? =k0 x/\ ∀i,i<j-> ∀y,L[i]? =k0 y->y≠x
 | [],_,h=>by cases h
 | y::g,j,h=>by
  unfold lu at h
  split at h
  .rename_i q
   cases h
   exact⟨Nat.zero_lt_succ _,by simp [q],λi b=>absurd b (Ag3 _)⟩
  .rename_i q
   obtain⟨k,e,rfl⟩:=Ag4.p h
   obtain⟨d,c,f⟩:=vA e
   refine⟨Nat.succ_lt_succ d,by simpa using c,λi b z a=> ?_⟩
   cases i with
   | zero=>simp at a;rw [← a];exact q
   | succ i=>exact f i (by omega) z (by simpa using a)
def CW (K:Ab):V->Y0 V->Hp->VK->Prop:=λx c H Q=> ∃a z j,∃b:Y0 Str,x= .p a/\c= [.j z]/\cQ K H a (b.j V.str)/\lu z b=k0 j/\Q (.o (j:Nat)) H
def Ck:kj X "tuple.index" (CW X.K):=by
 intro n s U H x N v P Q I D rv h
 obtain⟨a,z,j,f,rfl,rfl,B,E,q⟩:=h
 cases D
 obtain⟨u,rfl,F⟩:=rv.one
 obtain⟨t,rfl⟩:=F
 obtain⟨k,r,p,O⟩:=I.tuple B
 obtain⟨L,G,K⟩:=vA E
 have l:=r.e
 have look: ∀(i:Nat) y,k.q[i]? =k0 y-> ∃w d,f[i]? =k0 w/\y=Value.str w d:=λi y g=>by
  obtain⟨M,e1,e2⟩:=r.iU (by simpa using g)
  rw [Ac1]at e1
  cases m:f[i]? with
  | none=>rw [m]at e1;cases e1
  | some b=>
   rw [m]at e1
   cases e1
   obtain⟨d,rfl⟩:=e2
   exact⟨b,d,rfl,rfl⟩
 refine F3 (e:=λi=>y9 (f[i]? =k0 z)) p (λi y g=> ?_) (by simp_all) (decide_eq_true G) (λi J=> ?_) λd=>⟨.o j,H,I.K λb o e=>e,⟨d,rfl⟩,q⟩
 .obtain⟨w,d,e,rfl⟩:=look i y g
  have:=PySem.SeqAt.EqAt.str_str (A:=X.A.j) (s:=s) w d z t
  have e2:y9 (f[i]? =k0 z)=(w==z):=by
   rw [e]
   by_cases q:w=z
   .subst q;simp
   .simp [q]
  rw [e2]
  exact this
 .have C:=by omega
  exact decide_eq_false λc=>K i J z c rfl
def Nu (K:Ab):V->Y0 V->Hp->VK->Prop:=λx c H Q=> ∃a n,∃b:Y0 Int,x= .p a/\c= [.o n]/\bA K H a (b.j V.int)/\Q (.o ((b.count n:Nat):Int)) H
def Of:kj X "list.count" (Nu X.K):=by
 intro f s U H x C v J Q I z rv h
 obtain⟨a,n,E,rfl,rfl,m,q⟩:=h
 cases z
 obtain⟨u,rfl,A⟩:=rv.one
 obtain⟨t,rfl⟩:=A
 obtain⟨w,r,pl,D⟩:=I.A m
 obtain⟨G,rfl,e2⟩:=wO r
 obtain⟨⟨j,dd,d,sl⟩,g,l,k,B⟩:=id pl.G
 subst l B
 refine call_meets F.slot_list_count ⟨_,g,rfl⟩ F.entry_list_count (F.args_list_count_2 _ _) (PySem.SeqAt.list_countAt a _ k dd sl _ (λy=>match y with | .o i _=>i==n | _=>k9)) ⟨g,λy c=> ?_,?_⟩
 .simp only [List.mem_toArray,Ac]at c
  obtain⟨p,_,rfl⟩:=c
  exact PySem.SeqAt.EqAt.int_int p.1 p.2 n t
 .refine⟨.o _,H,I.K λb o e=>e,⟨s.p,?_⟩,q⟩
  rw [← e2,List.count_eq_countP,List.countP_map]
  simp only [List.countP_map]
  rfl
end
section
variable {X:Cx}{pins:Y0 (Y5×Obj)}{U:St}{H:Hp}{s:Y3}{h':Y6}
def Inv.g9 (I:Inv X pins U H s) (k: ∀b o,b≠e->b≠it->s.j.p b=k0 o->h'.p b=k0 o) (J:H it=y0) (F:H e=y0) (l:it≠X.j.p) (f:e≠X.j.p)
 (h1:it∈X.ex\/X.s₀.j.j.j<=it) (g:e∈X.ex\/X.s₀.j.j.j<=e) (A: ∀x c,X.j.q.p x=k0 c->c≠it) (i: ∀x c,X.j.q.p x=k0 c->c≠e) (E: ∀p∈X.pn++pins,p.1≠it) (j: ∀p∈X.pn++pins,p.1≠e):Inv X pins U H { s with heap:=h',toks:=t' }:=by
 have d: ∀b u,H b=k0 u->b≠e/\b≠it:=λb u q=>⟨λz=>(by simp_all),λz=>(by simp_all)⟩
 have h: ∀b o,b∉ [e,it]->s.j.p b=k0 o->h'.p b=k0 o:=λb o a q=>k b o (λz=>a (by simp [z])) (λz=>a (by simp [z])) q
 refine I.step (λb B=> ?_) (λb o _ _ a e _=>h b o a e) (λb o _ _ a e _=>⟨o.slots,h b o a e⟩) (λ_ _ _ _ n=>n)
  (λb o a e=>⟨o,h b o a e⟩) (λ_ _ e=>e) (λ_ _ _ e=>e) (λb G e=>⟨#[],by rw [e];simp⟩) (λm t=> ?_) (λb u q=> ?_) I.L
 .obtain z | z:=Ab7.p B
  .rw [z];exact⟨g,f,i,j⟩
  .rw [Ac6.p z];exact⟨h1,l,A,E⟩
 .obtain⟨o,w,y,D,r⟩:=t
  exact⟨o,w,y,k _ o (Ne.symm f) (Ne.symm l) D,r⟩
 .refine(I.C b u q).cY (λc v a C=>k c v ?_ ?_ C) (λ_ q=>q) λ_ _ q=>q
  .obtain z | z:=a
   .rw [z];exact(d b u q).1
   .exact(d c _ z).1
  .obtain z | z:=a
   .rw [z];exact(d b u q).2
   .exact(d c _ z).2
end
def jN:bootBuiltins "enumerate" =some (.j "enumerate"):=by decide +kernel
def BD (h:ItemsOf (λi v=> ∃t,v=Value.int (0+(i:Int)*1) t) acc n):Vals ((Aa7 n).j λ(i:Nat)=>V.int (i:Int)) acc.p:=by
 have f: ∀ a k m,a.e=m->(∀ j v,a[j]? =k0 v-> ∃t,v=Value.int (k+j:Nat) t)->Vals ((Ak6 k m).j λ(i:Nat)=>V.int i) a:=by
  intro a
  induction a with
  | nil=>intro k m b _;cases b;exact .p
  | cons x a g=>
   intro k m b c
   cases b
   refine .j (c 0 x rfl) (g _ _ rfl λj v d=> ?_)
   obtain⟨t,e⟩:=c (j+1) v (by simp_all)
   exact⟨t,by rw [e];congr 1;lia⟩
 rw [Al7]
 refine f acc.p 0 n (by rw [Ai0];exact h.1) λj v d=> ?_
 obtain⟨t,e⟩:=h.2 j v (by simp_all)
 exact⟨t,by rw [e];congr 1;lia⟩
section
variable {X:Cx}
def Ez:bootBuiltins "range" =some (.j "range"):=by decide +kernel
end
def WI {f e:Y1 Int}(a:IsTup s.j t vs) (g:s.j.IsSliceOf sl vl vu .u) (pl:IsPart vl f) (k:IsPart vu e)
 (l:HT.aV vs.j 0 f=0) (h1:HT.aV vs.j vs.j e=vs.j) (h:Q (.p t) s):wpAny (model prog w) A (getItem (.p t) (.p sl)) Q E s:=by
 obtain⟨i,b,d,j⟩:=id g
 have c:s.TypeIs (.p sl) "slice" :=⟨i,b,d⟩
 unfold getItem
 try with_reducible refine wpAny_holding ?_
 refine wpAny_bind (wpAny_sequenceKey a.Y rfl (wpAny_bind (wpAny_callSpecial?_slot a.Y PyProof.Rows.slot_tuple_getitem
  (wpAny_call_entry PyProof.Rows.slot_tuple_getitem a.Y PyProof.Rows.entry_tuple_getitem ?_ (PyProof.Rows.args_tuple_getitem _ _)))))
 show wpAny _ _ (Builtin.Tuple.tupleItemsOf _ >>= _) _ _ s
 refine wpAny_bind (tupleItemsOf_ a (wpAny_bind (wpAny_typeOf c (wpAny_bind (HT.bQ g pl k ?_)))))
 show wpAny _ _ (if _=u0 then _ else _) _ _ s
 rw [if_pos (by simp_all)]
 exact wpAny_bind (wpAny_bind (wpAny_typeOf a.Y (wpAny_pure (wpAny_bind (wpAny_rule (wpAny_pure ⟨_,rfl,wpAny_pure h⟩))))))
section
variable {X:Cx}
def pM (K:Ab):V->Y1 Int->Y1 Int->Hp->VK->Prop:=λx lo hi H Q=> ∃a xs,x= .p a/\cQ K H a xs/\HT.aV xs.e 0 lo=0/\HT.aV xs.e xs.e hi=xs.e/\Q (.p a) H
def NH:gJ X (pM X.K):=by
 intro e s U H x v n t u p sl Q I j m pl i h
 obtain⟨a,k,rfl,l,g,f,q⟩:=h
 cases j
 obtain⟨c,r,d,o⟩:=I.tuple l
 have b:c.q.j=k.e:=by rw [Ab4];exact r.e.p
 refine⟨"tuple",_,PyProof.Rows.slot_tuple_getitem.p,d.Y,?_⟩
 exact WI d m pl i (by rw [b];exact g) (by rw [b];exact f) ⟨.p a,H,I,rfl,q⟩
end
section
variable {X:Cx}
def Hw:bootBuiltins "list" =some (.j "list"):=by decide +kernel
def Hh (b:TA):TE:=λU H Q=>b U H λa H1=> ∃n:Nat,a= [.o (n:Int)]/\n<=1000/\ ∀l,H1 l=y0->Q (.p l) (aF H1 l (.u ((Aa7 n).j λ(i:Nat)=>V.int (i:Int))))
def Oe (A:X.u=true) (E:Gl X "list") (u:X.mg "list" =none) (g:Gl X "range") (i:X.mg "range" =none) (C:PA X [a] ta) (F:starEach [a] X.j= [(false,eval a X.j)]):
 PE X (.w (.j "list" p) [.w (.j "range" p2) [a] [] pos2] [] pos) (Hh ta):=by
 intro c s U H Q I h
 refine Call_ (jG I E u Hw (PyProof.Rows.callWith_type1 (Calls.spliced_cons (Call_ (jG I g i Ez (PyProof.Rows.callWith_type1 (aS (C pos2 c s U H _ I h) ?_) F rfl)))) rfl rfl))
 rintro M m⟨J,G,k,D,w⟩
 obtain⟨n,e,N,q⟩:=w
 subst e
 cases D with
 | cons r v=>
  cases v
  obtain⟨t,rfl⟩:=r
  refine call_range_1 (Calls.spliced_nil ?_)
  have l:Builtin.Range.rangeSize 0 n 1= n:=by
   unfold Builtin.Range.rangeSize
   simp
   lia
  refine call_list_range (k.j.hd A) (IsRange.new ..) (small_one (by decide) (by decide) (by lia) (by lia)) l (by lia) λK L j x B y f=> ?_
  have d: ∀o:Obj,m.j.j.j<=(m.j.q o).j.j:=λo=>by rw [Aj7];exact Ag0 _
  refine⟨.p _,_,k.laid (o:= .u _) (λb o z=>B b o (Ab1 _ z)) (d _) ⟨by rw [Aa,Ai,sizeLine_eq];lia,j.p,x,(BD f),by simpa using y⟩,rfl,q _ (k.C.M (d _))⟩
end
section
variable {X:Cx}{pins:Y0 (Y5×Obj)}{U:St}{H:Hp}{s:Y3}{h':Y6}
def Inv.cm {ch:Y0 Y5}(I:Inv X pins U H s) (k: ∀b o,b∉ch->s.j.p b=k0 o->h'.p b=k0 o) (f: ∀b∈ch,bC X pins H b):Inv X pins U H { s with heap:=h',toks:=t' }:=by
 have d: ∀b u,H b=k0 u->b∉ch:=λb u q z=>by rw [(f b z).1]at q;cases q
 refine I.step (λb j=> ?_) (λb o _ _ a e _=>k b o a e) (λb o _ _ a e _=>⟨o.slots,k b o a e⟩) (λ_ _ _ _ n=>n)
  (λb o a e=>⟨o,k b o a e⟩) (λ_ _ e=>e) (λ_ _ _ e=>e) (λb A e=>⟨#[],by rw [e];simp⟩) (λm g=> ?_) (λb u q=> ?_) I.L
 .obtain⟨C,l,B,p,y,t⟩:=f b j
  exact⟨p,l,y,t⟩
 .obtain⟨o,h,i,x,r⟩:=g
  exact⟨o,h,i,k _ o (λz=>(f _ z).2.1 rfl) x,r⟩
 .refine(I.C b u q).cY (λc v a w=>k c v ?_ w) (λ_ q=>q) λ_ _ q=>q
  obtain z | z:=a
  .rw [z];exact d b u q
  .exact d c _ z
end
end L2
set_option maxHeartbeats 8000000
namespace L2
open L2 renaming V.ref→L2.V.p,Inv.base→L2.Inv.q,cZ.fresh→L2.cZ.M
open PySem PySem.Spec PyProof.Rows
open Sem (wp)
abbrev K2:=Y0 (Int ⊕ Y0 Int)
section
variable (prog:Y9) (w:Y8)
inductive Q1 (h:Heap):K2->List Value->Prop
 | nil:Q1 h [] []
 | int {i:Int}{t:Tok}{ks:K2}{vs:List Value}:Q1 h ks vs->Q1 h (.inl i::ks) (.o i t::vs)
 | tup {l:List Int}{a:Addr}{ks:K2}{vs:List Value}:IsTupleKey (intKind prog w) h l a->Q1 h ks vs->Q1 h (.q l::ks) (.p a::vs)
end
abbrev WK:=Int×Y0 Int×Y0 Int
section
variable {X:Cx}{pins:Y0 (Y5×Obj)}{U:St}{H:Hp}{s:Y3}{a b:Y5}{k:WK}{xs:Y0 (WK×Y5×Y2)}{r:Y2}{A:YQ}{E:Y2->Y3->Prop}
def pQ (I:Inv X pins U H s):sysModules<s.j.j.j:=by
 exact Nat.lt_trans (by decide) ((I.mod.glob.keeps I.bk).lt)
end
open PySem.AutoSeq1 (wpAny_loadPart')
open MeetsSeq MeetsSeq2 MeetsSeq3 SeqRoads2 PySem.SeqAt
open PySem PySem.Spec PyProof.Rows PyProof.Rows.KTD PyProof.V
section
variable {X:Cx}{pins:Y0 (Y5×Obj)}{U:St}{H:Hp}{s:Y3}
theorem JP {K:Type} [DecidableEq K]: ∀(more a:Y0 (K×Y2)),((a++more).j (·.1)).B->merged a more=a++more
 | [],a,_=>by simp [merged]
 | p::more,a,h=>by
  have e:stored a p.1 p.2=a++ [p]:=by
   unfold stored
   rw [if_neg]
   intro z
   obtain⟨b,c,e⟩:=Ad2.p z
   rw [Af1,Aj1]at h
   exact h.2.2 b.1 (List.mem_map_of_mem c) p.1 (by simp) (of_decide_eq_true e)
  show merged (stored a p.1 p.2) more=_
  rw [e,JP more (a++ [p]) (by simpa using h)]
  simp
end
noncomputable def pZ (K:Ab) (a:Y5):It:=
 ⟨λi H=> ∃xs x,bA K H a xs/\xs[i]? =k0 x,λi H x H'=> ∃p y,H p=y0/\x= .p p/\H'=aF H p (.tup [.int (i:Int),y])/\ ∀xs,bA K H a xs->xs[i]? =k0 y,λi H=> ∃xs,bA K H a xs/\xs.e=i⟩
def NK {K:Ab}(a it e) (A:e≠it):mz P w K (.B elts x1 tp) (pZ K a) [e,it] e (λi h=>(∃ j,IsEnum h e it (i:Int) j)/\h.IsListIter it a i) where
 mem:=by simp
 obj:=λi h l b G=>by
  obtain⟨⟨j,q⟩,⟨o,q2,c,d⟩⟩:=l
  rcases Ab7.p G with z | z
  .subst z
   exact⟨_,q,λv z=>by cases z⟩
  .rw [Ac6.p z]
   exact⟨o,q2,λv z=>by rw [d]at z;cases z⟩
 keep:=λi h h' l k=>⟨let ⟨j,q⟩:=l.1; ⟨j,k e (by simp) _ q⟩,let ⟨o,q,r⟩:=l.2; ⟨o,k it (by simp) o q,r⟩⟩
 item:=by
  intro X hP hw Z T i m s U H E I M l S
  subst hP hw Z
  obtain⟨⟨j,C⟩,f⟩:=l
  obtain⟨xs,x,O,V⟩:=S
  obtain⟨g,rv,p,hz⟩:=I.list O
  obtain⟨u,hu,ru⟩:=rv.get V
  have B:=p.G
  have n:a≠it:=λz=>by
   obtain⟨o,q,c,_⟩:=B
   obtain⟨o',Y,F,_⟩:=f
   rw [z,Y]at q;cases q
   rw [c]at F;exact absurd F (by decide)
  have hae:a≠e:=λz=>by
   obtain⟨o,q,c,_⟩:=B
   rw [z,C]at q;cases q
   exact absurd (show Value.type "enumerate" =Value.type "list" from c) (by decide)
  obtain⟨f0,f1,f2,f3,f4,f5⟩:=M e (by simp)
  obtain⟨Q,g1,g2,R,g4,g5⟩:=M it (by simp)
  have hlt:=by
   have:=Aa1.p hu
   simpa using this.1
  have t:X.A.j.p=none:=I.ok.hd T
  refine wpAny_pyNext_enum_itemD (Draws.list t it a n g.q) C ⟨f,B⟩ hlt A (by simp [A,Ne.symm hae]) λy h1 L D ho hs' hT hsz hk=> ?_
  have ey:y=u:=by
   rw [List.getElem?_toArray]at D
   rw [hu]at D;cases D;rfl
  subst ey
  refine⟨_,rfl,wpAny_letOwnedTupleGo_enum ho λh2 W N=> ?_⟩
  have N:=N
  have hep:=Ap5 (Ac0 C)
  have hn:=I.aX.M (Aa8 _)
  have I1:Inv X m U (aF H s.j.j.j (.tup [.int (i:Int),x])) { s with heap:=s.j.q { cls:= .j "tuple",data:= .j #[.o i L,y] },toks:=L+1 }:=by
   refine I.laid (λb o q=>Ab1 _ q) (Aa8 _) ⟨by simp only [Aa6,Ad7];rw [sizeLine_eq];decide,[.o i L,y],.j ⟨_,rfl⟩ (.j ru .p),?_⟩
   exact⟨_,Ac8 s.j rfl,rfl,rfl,_,rfl⟩
  have J:it<s.j.j.j:=by obtain⟨o,q,_⟩:=f;exact Ac0 q
  have ee:=Ac0 C
  have I2:=I1.g9 (t':=L+1) (λb o b1 b2 q=>by
   refine(N.2 b b1).j ?_
   rcases Heap.get?_push_cases (show (s.j.q { cls:= .j "tuple",data:= .j #[.o i L,y] }).p b=some o from q)with⟨z,z2⟩ | z
   .rw [z,z2];exact hT
   .exact hk b o b1 b2 z) (by rw [Za (Ac3 J)];exact Q) (by rw [Za (Ac3 ee)];exact f0) g1 f1 R f3 g4 f4 g5 f5
  refine⟨.p s.j.j.j,_,I2,rfl,⟨s.j.j.j,x,hn,rfl,rfl,λys D=>by rw [I.ej D O];exact V⟩,⟨⟨y,by simpa using W⟩,?_⟩,λb G=> ?_⟩
  .obtain⟨o,q,r⟩:=hs'.1
   exact⟨o,(N.2 it (Ne.symm A)).j q,r⟩
  .rcases Ab7.p G with z | z
   .rw [z,Za (Ac3 ee)];exact f0
   .rw [Ac6.p z,Za (Ac3 J)];exact Q
 done:=by
  intro X hP hw Z T i m s U H E I M l S
  subst hP hw Z
  obtain⟨⟨j,C⟩,f⟩:=l
  obtain⟨xs,O,V⟩:=S
  obtain⟨g,rv,p,hz⟩:=I.list O
  have B:s.j.z a g.q:=p.G
  have n:a≠it:=λz=>by
   obtain⟨o,q,c,_⟩:=B
   obtain⟨o',Y,F,_⟩:=f
   rw [z,Y]at q;cases q
   rw [c]at F;exact absurd F (by decide)
  obtain⟨Q,g1,g2,R,g4,g5⟩:=M it (by simp)
  have hl:=rv.length
  have t:X.A.j.p=none:=I.ok.hd T
  have hi:i=g.q.j:=by simp;omega
  subst hi
  exact wpAny_pyNext_enum_endD (Draws.list t it a n g.q) C ⟨f,B⟩ λh' eb=>⟨rfl,I.turned (λb o G q=>eb b o G q) Q g1 R g4 g5⟩
 self:=λ_ _ _ _ _ l h=>wpAny_pyIter_enum l.1.choose_spec h
def Hg (K:Ab) (c:TA):TI:=λU H R=>c U H λb H1=> ∃a xs,b= [.p a]/\bA K H1 a xs/\R (pZ K a) H1
def LY (x:Gl X "enumerate") (k:X.mg "enumerate" =none) (v:PA X [a] ta) (B:starEach [a] X.env= [(false,eval a X.env)]:=by rfl):PI X (.B elts x1 tp) (.w (.j "enumerate" p) [a] [] pos) (Hg X.K ta):=by
 intro f s U H R I h
 refine Call_ (jG I x k jN (PyProof.Rows.callWith_type1 (aS (v pos f s U H _ I h) ?_) B rfl))
 rintro G g⟨C,m,d,w,n⟩
 obtain⟨b,F,e,o,q⟩:=n
 subst e
 cases w with
 | cons r l=>
  cases l
  cases r
  obtain⟨u,rv,pl,D⟩:=d.list o
  refine call_enumerate_list pl.G λE j i A t=> wpAny_pyIter_enum j ?_
  refine⟨g.j.j.j+1,[g.j.j.j+1,g.j.j.j],_,_,m,rfl,d.kept t,NK b g.j.j.j _ (Nat.succ_ne_self _),⟨⟨_,by simpa using j⟩,i⟩,λc y=> ?_,q⟩
  obtain z | z:=Ab7.p y
  .rw [z];exact d.dR (Ag0 _) (d.aX.M (Ag0 _))
  .rw [Ac6.p z];exact d.dR (Aa8 _) (d.aX.M (Aa8 _))
open PySem PySem.Spec PySem.Calls PySem.W PyProof.Rows
def wR:Y0 Y2->Bool
 | []=>k9
 | x::r=>match x with
  | .p _=>wR r
  | _=>x::r==nU
theorem Zs {P:Y0 Y2->Prop}(a:P nU) (h1: ∀c r,P r->P (.p c::r)): ∀ {l},wR l=u0->P l
 | [],e=>by cases e
 | x::r,e=>by
  unfold wR at e
  split at e
  .exact h1 _ _ (Zs a h1 e)
  .rw [beq_iff_eq.p e];exact a
def QY (self)(e:wR l=u0):refuseLoop self "__setattr__" l=pure ():=
 Zs (P:=fun l=>refuseLoop self "__setattr__" l=pure ()) (PySem.F.store_ValueError.passes self) (fun c r h=>by rw [refuseLoop_ref];exact h) e
def JX (e:wR l=true):l.u (.j "object")=true:=
 Zs (P:=λl=>l.u _=u0) (by decide +kernel) (λc r h=>by rw [List.contains_cons,h,An8]) e
def MH (e:wR l=true):l.u (.j "BaseException")=true:=
 Zs (P:=λl=>l.u _=u0) (by decide +kernel) (λc r h=>by rw [List.contains_cons,h,An8]) e
def vP (e:wR l=u0):l.y=false:=
 Zs (P:=λl=>l.y=k9) rfl (λc r h=>rfl) e
def kY (K:Frag) (C:Y5):Bool:=(clsIn K C).any λcd=>wR cd.mro&&cd.hasDict
def AK {K:Frag}(h:kY K C=u0): ∃cd,clsIn K C=k0 cd/\wR cd.mro=u0/\cd.hasDict=true:=by
 obtain⟨cd,b,a⟩:=PySem.W.any_some h
 rw [Aa0]at a
 exact⟨cd,b,a.1,a.2⟩
section
variable {prog:Y9}{w:Y8}{A:YQ}{E:Y2->Y3->Prop}{s:Y3}{K:Frag}{x C t:Y5}{f:Str}{u:Y2}
def Nq (X:K.In s.j) (j:s.j.p x=some (fH C t none)) (L:kY K C=true) (N:findIn K (.p C) "__setattr__" =some (some (.q "object.__setattr__"))) (J:findIn K (.p C) f=some none)
 (h: ∀h',(∀ b o,b≠x->s.j.p b=k0 o->h'.p b=k0 o)->h'.p x=k0 (fH C t (k0 s.j.j.j))->h'.Ns1 s.j.j.j (λy=>if y=f then k0 u else y0)->Q () { s with heap:=h',toks:=s.p+2 }):
 wpAny (model prog w) A (setAttr (.p x) f u) Q E s:=by
 obtain⟨cd,n,k,D⟩:=AK L
 have I:PySem.W.InstAt s.j x _ C none:=⟨j,rfl,rfl,trivial⟩
 refine PySem.W.set_plain X I N ?_
 have c:=PySem.F.store_object
 have sub:Looks (model prog w) s.j (isInstance _ _) true:=I.type.andThen (looks_mroIn X (by unfold mroIn;rw [n,Af4,if_neg (by rw [vP k];decide),JX k]))
 have B:Looks (model prog w) s.j (mroOf (.p C)) cd.mro:=(looks_clsIn X n).andThen .now
 have v:=looks_findIn (M:=model prog w) X J
 refine codeAny_call_builtin c.slot.plain c.entry (@check_slot _ _ _ { s with toks:=s.p+1 } "object.__setattr__" "object" "__setattr__" _ [.str f s.p,u] [] _ c.kind c.split sub (c.args _ _ u) ?_)
 rw [osa_eq,refuse_eq]
 refine wpAny_bind (wpAny_bind (I.type.here (s:= { s with toks:=s.p+1 }) (wpAny_bind (B.here (s:= { s with toks:=s.p+1 }) ?_))))
 rw [QY _ k]
 refine wpAny_pure (wpAny_bind (I.type.here (s:= { s with toks:=s.p+1 }) (wpAny_bind (v.here (s:= { s with toks:=s.p+1 }) (wpAny_bind (wpAny_pure ?_))))))
 have d:(s.j.q { cls:= .j "dict",data:= .u #[] }).p x=some _:=Heap.get?_push_of_some _ j
 have a:=Ac3 (Ac0 j)
 refine wpAny_bind (wpAny_pure (wpAny_bind (wpAny_bind (wpAny_loadPart j (wpAny_bind (PySem.W.Looks.here (PySem.W.looks_clsIn X n) ?_))))))
 rw [D]
 have l:((s.j.q { cls:= .j "dict",data:= .u #[] }).u x fun o=> { o with dict:=some s.j.j.j }).p s.j.j.j=some { cls:= .j "dict",data:= .u #[] }:=
  (Ao6 _ _ _ _ a.symm).j (Ac8 _ rfl)
 have m:((s.j.q { cls:= .j "dict",data:= .u #[] }).u x fun o=> { o with dict:=some s.j.j.j }).Ns s.j.j.j (fun _=>none):=
  ⟨_, #[],_,l,rfl,λe z=>absurd z (by simp),λ_=>rfl⟩
 refine wpAny_bind (wpAny_alloc (wpAny_bind (wpAny_update d (wpAny_pure ?_))))
 refine wpAny_bind (wpAny_pure (wpAny_bind (wpAny_nsSet1 (Heap.Ns1.of_empty m) λh' i g=> ?_)))
 obtain⟨O,G,H,p,r,q⟩:=i.count (PySem.Within.cons f u PySem.Within.nil)
 refine wpAny_bind (wpAny_lookBehind p (by rw [r];exact pastItsLine_dict (Ab5 q (by rw [Aa6,Ad7,sizeLine_eq];omega))) ?_)
 refine wpAny_pure (h h' (λb o F e=> ?_) ?_ i)
 .exact(g.2 b (Ac3 (Ac0 e))).j ((Ao6 _ _ _ _ F).j (Ab1 _ e))
 .exact(g.2 x a).j (Al0 _ d rfl)
end
noncomputable def QP (K:Frag) (C:Y5):Bool:=match K.p C with
 | some ⟨.j "type",_,.cls cd,sl⟩=>(match cd.mro,sl.p with
  | .p c::a,[_,_,_,_,k0 (.q n),_]=>c==C&&(n== "ValueError.__new__" &&(!cd.hasDel&&(tailIn K nU a&&nsOkIn K cd.ns)))
  | _,_=>k9)
 | _=>k9
def qM {K:Frag}(X:K.In h) (q:QP K C=u0):
 ∃bm Na nm qn bs Z W sub ab i dd O M V j L mN,h.p C=k0 (excClassObj nm qn C Na bs bm Z W sub ab i dd O M V j L "ValueError.__new__")/\h.Ns Na mN/\OwnTail h nU bm:=by
 unfold QP at q
 split at q
 next dd cd sl m=>
  split at q
  next n g O M V j nn L c e=>
   simp only [Aa0,beq_iff_eq,Ag1]at q
   obtain⟨rfl,rfl,e1,e2,d⟩:=q
   obtain⟨nm,bs,k,b,qn,Z,W,sub,ab,i,f⟩:=cd
   dsimp only at c e1 d
   subst c e1
   have a:sl= #[O,M,V,j,k0 (.q "ValueError.__new__"),L]:=by
    cases sl with
    | mk l=>exact congrArg Array.mk e
   subst a
   exact⟨g,b,nm,qn,bs,Z,W,sub,ab,i,dd,O,M,V,j,L,_,X _ _ m,.of_isNs (isNs_of_in X d),tail_of_in X e2⟩
  next=>cases q
 next=>cases q
section
variable {prog:Y9}{w:Y8}{A:YQ}{E:Y2->Y3->Prop}{h:Y6}{g:Array GenState}{d:Drawn}{t:Nat}{os:OsState}{K:Frag}{C fI:Y5}
def W4 (h:Y6) (C:Y5) (rest:Y0 Y2):Y6:=(h.q { cls:= .j "tuple",data:= .j rest.q }).q (fH C h.j.j none)
def ZB {rest:Y0 Y2}(e:h.p b=k0 o):(W4 h C rest).p b=k0 o:=Ab1 _ (Ab1 _ e)
def tR {rest:Y0 Y2}:(W4 h C rest).p (h.j.j+1)=k0 (fH C h.j.j y0):=by
 have:=Heap.get?_push_size (h.q { cls:= .j "tuple",data:= .j rest.q }) (o:=fH C h.j.j none) rfl
 rwa [Aj7]at this
def CQ {rest:Y0 Y2}{Q:Y2->Y3->Prop}(X:K.In h) (l:QP K C=true) (u:findIn K (.p C) "__init__" =some (some (.p fI))) (v:typeIn K (.p fI)=some (.j "function")) (c:rest.e<=sizeLine)
 (n:wpAny (model prog w) (A.under (.q "type.__call__" ⟨.p C::rest,[]⟩)) (call (.p fI) (.p (h.j.j+1)::rest)) (fun r s'=>r= .u/\Q (.p (h.j.j+1)) s') E ⟨W4 h C rest,g,d,t,os⟩):
 wpAny (model prog w) A (call (.p C) rest) Q E ⟨h,g,d,t,os⟩:=by
 obtain⟨p,z,nm,N,bs,y,I,sub,H,m,dd,S,R,U,B,G,L,a,D,T⟩:=qM X l
 have F:=PySem.F.excBase_ValueError
 have P:=tc_lookup
 have O:=tc_bind (.p C)
 have J:(⟨h,g,d,t,os⟩:Y3).TypeIs (.p C) "type" :=⟨_,a,rfl⟩
 refine wpAny_call (codeAny_of_tree ?_)
 show wpAny _ _ _ _ _ _
 repeat (any_goals (first | assumption | with_reducible refine wpAny_loadPart_at a ?_ | wp_step))
 refine⟨rfl,codeAny_call_builtin_at (Code.quiet_builtin _ (by decide +kernel)) entry_typeCall (wpAny_check_type_call_sub a ?_)⟩
 repeat (first | with_reducible refine wpAny_loadPart_at a ?_ | with_reducible refine wpAny_madeBy_exc a ?_ | wp_step)
 refine codeAny_call_builtin_code (Code.quiet_builtin _ F.quiet) (wpAny_check_new_subT F T a (codeAny_exc_new_subT F T a ?_ c))
 show wpAny _ _ _ _ _ ⟨W4 h C rest,g,d,t,os⟩
 have k:K.In (W4 h C rest):=λb o e=>ZB (X b o e)
 have f:=ZB (C:=C) (rest:=rest) a
 have i:(W4 h C rest).p (h.j.j+1)=k0 { cls:= .p C,data:= .q #[.p h.j.j,.u,.u,.u,.w k9,.u] }:=tR
 have j:(Value.ref C::p).u (.p C)=true:=by simp
 unfold isInstance
 repeat (first | with_reducible refine wpAny_loadPart_at i ?_ | (with_reducible refine wpAny_isSubtype_exc f ?_;rw [j]) | wp_step)
 show wpAny _ _ (typeLookup (.p C) _) _ _ _
 refine(looks_findIn (M:=model prog w) k u).at ?_
 refine wpAny_holding (wpAny_bind ((bind_fn (M:=model prog w) k (.p (h.j.j+1)) v).at ?_))
 refine wpAny_bind (wpAny_mono n (λr s' q=> ?_) λ_ _ x=>x)
 obtain⟨rfl,s⟩:=q
 wp_walk
 exact s
end
noncomputable def gB (x C t:Y5) (a:Y1 Y5):HO:= .ext λh=>h.p x=k0 (fH C t a)
def AV (e:h.p x=k0 (fH C t od)):aW P w H h x (gB x C t od):=⟨e,⟨_,e⟩,λ_ _ z k=>k _ z⟩
noncomputable def kM (H:Hp) (x:Y5):Hp:=λb=>if b=x then y0 else H b
def rj (h:b≠x):kM H x b=H b:=if_neg h
def ui :kM H x x=none:=if_pos rfl
section
variable {X:Cx}{pins:Y0 (Y5×Obj)}{U:St}{H:Hp}{s:Y3}
def Inv.forget (I:Inv X pins U H s) (a:H x=k0 (.ext i)):Inv X pins U (kM H x) s:=by
 have ne: ∀b o,H b=k0 o->(∀ i,o≠ .ext i)->kM H x b=k0 o:=λb o q n=>by
  rw [rj (λe=>by rw [e,a]at q;cases q;exact n _ rfl)];exact q
 have nn: ∀b,H b=y0->kM H x b=none:=λb q=>by
  unfold kM
  split
  .rfl
  .exact q
 refine⟨I.ok,I.os,I.bare,⟨I.q.keep,I.q.slot,λb u e n a=>nn b (I.q.free b u e n a),I.q.there,λb d q=>ne b _ (I.q.de b d q) (λ_ z=>by cases z),λb u v q=>ne b _ (I.q.cU b u v q) (λ_ z=>by cases z),λb h q=> ?_⟩,
  I.loc,I.cell,nn _ I.free,λy c q=>nn _ (I.bM y c q),λp g=> ?_,λb u q=> ?_,I.len⟩
 .obtain⟨more,j⟩:=I.q.dc b h q
  exact⟨more,ne b _ j (λ_ z=>by cases z)⟩
 .obtain⟨k,a2,a3⟩:=I.pin p g
  exact⟨k,nn _ a2,a3⟩
 .by_cases f:b=x
  .rw [f,ui]at q;cases q
  .rw [rj f]at q
   exact(I.aX b u q).cY (λ_ _ _ z=>z) (λc z=>ne c _ z (λ_ z=>by cases z)) λc d z=>ne c _ z (λ_ z=>by cases z)
def Inv.stored (I:Inv X pins U H s) (j:H x=k0 (gB x C t y0)) (m:RelV y u) (k: ∀b o,b≠x->s.j.p b=k0 o->h'.p b=k0 o)
 (e:h'.p x=k0 (fH C t (k0 s.j.j.j))) (p:h'.Ns1 s.j.j.j (λz=>if z=f then k0 u else y0)):
 Inv X pins U (aF (aF H s.j.j.j (.xd [(f,y)])) x (gB x C t (k0 s.j.j.j))) { s with heap:=h',toks:=t' }:=by
 have d:=(I.aX x _ j).1
 have c:=Ac3 (Ac0 d)
 have n:(h'.u x λ_=>fH C t y0).p x=k0 _:=Al0 _ e rfl
 have i: ∀b,b≠x->(h'.u x λ_=>fH C t y0).p b=h'.p b:=λb a=>Ao6 _ _ _ _ a
 have l:=I.laid (o:= .xd [(f,y)]) (t':=t') (λb o q=>by
  by_cases a:b=x
  .subst a;rw [d]at q;cases q;exact n
  .rw [i b a];exact k b o a q) (Aa8 _) ⟨_,p.at λo q=>(by rw [i _ c.symm];exact q),λg=>by
   by_cases h:g=f
   .rw [if_pos h]
    subst h
    show b0 (match g==g with | true=>k0 y | false=>y0) _
    rw [beq_self_eq_true]
    exact m
   .rw [if_neg h]
    show b0 (match g==f with | true=>k0 y | false=>y0) _
    rw [beq_eq_false_iff_ne.q h]
    exact trivial⟩
 refine l.write (by rw [Za c,j];exact True.intro) (.p rfl) (λb o a q=> ?_) ⟨_,e⟩ (AV e)
 exact(i b a).p.j q
end
structure nZ (K:Frag) (C:Addr) (f:Str):Prop where
 cls:QP K C=u0
 ov:kY K C=u0
 sa:findIn K (.p C) "__setattr__" =some (some (.q "object.__setattr__"))
 no:findIn K (.p C) f=k0 y0
 kp:keepIn K (.p C)=u0
def EG (K:Frag) (c b:TE) (f:Str):TS:=λD U H=>b U H λy H1=>c U H1 λx H2=> ∃a C t,x= .p a/\H2 a=k0 (gB a C t y0)/\nZ K C f/\ ∀dx,H2 dx=y0->dx≠a->D.nx U (aF (aF H2 dx (.xd [(f,y)])) a (gB a C t (k0 dx)))
def BW (n:PE X o ta) (w:PE X value tv) (B:swapsWith value (k0 (.p o f pos')) pos.p X.env=pure k9):PS X (.j [.p o f pos'] value pos) (EG X.K ta tv f):=by
 intro b s U H D I h
 refine plainObj_wpAny_Assign_Attribute (aS (w b s U H _ I h) ?_) B
 rintro u m⟨y,l,r,z,q⟩
 refine aS (n b m U l _ r q) ?_
 rintro v E⟨x,G,g,p,a,C,t,ex,i,c,j⟩
 subst ex
 obtain rfl:v=Value.ref a:=p
 have d:=(g.aX a _ i).1
 exact Nq g.bR d c.ov c.sa c.no λF k e A=>⟨U,_,g.stored i z k e A,j _ (g.aX.M (Aa8 _)) (Ap5 (Ac0 d))⟩
def Fd (K:Frag) (f:Str):Sp:=λb H Q _=> ∃a v C t,b= [.p a,v]/\H a=k0 (gB a C t y0)/\nZ K C f/\ ∀dx,H dx=y0->dx≠a->Q .ak (aF (aF H dx (.xd [(f,v)])) a (gB a C t (k0 dx)))
structure nQ (K:Frag) (f:Str) (fI:Addr) (fd:FuncData) (ps:List Str):Prop where
 ex: ∃x y8 st N n1 n2 p1 p2 p3 p4,kD K x y8 st fI fd/\ps= [n1,n2]/\N= [n1,n2]/\jB N ps (Xm st)/\ZJ st= [.j [.p (.j n1 p1) f p2] (.j n2 p3) p4]/\(n1==("__debug__" :Str))=false/\(n2==("__debug__" :Str))=false ∧
  (n1==("__classdict__" :Str))=false/\(n2==("__classdict__" :Str))=false
 bd:Binds K fd ps []
 fn:typeIn K (.p fI)=k0 (.j "function")
def NL {K:Frag}(Z:nQ K f fI fd ps):bz P w K mg base (dP P w) 1 fI fd ps (Fd K f):=by
 obtain⟨x,g,B,N,j,d,G,I,y,D,F,rfl,rfl,S,o,k,l,r,u⟩:=Z.ex
 refine kD.sI F S (λm H Q E ⟨a,v,C,t,e,_⟩=>by subst e;rfl) ?_
 rintro p A b s H m Q E h ⟨a,v,C,t,e,n,c,q⟩
 subst e
 rw [o]
 have v1:i6 _ j:=(S.par j (by simp)).j .p λz=> .q (.p z)
 have v2:i6 _ d:=(S.par d (by simp)).j .p λz=> .q (.p z)
 refine⟨_,LD (BW (qy (i:=0) rfl v1 k r) (qy (i:=1) rfl v2 l u) rfl),?_⟩
 exact⟨v,rfl,.p a,rfl,a,C,t,rfl,n,c,q⟩
def M7 {M:Model}{A:YQ}{E:Y2->Y3->Prop}{s:Y3}{env:YJ}{v:Sem Y2}{K:Frag}{C:Y5}{Q:Flow->Y3->Prop}(l:QP K C=u0) (k:A.p=y0)
 (h:wpAny M A v (λv i=> ∃e t j,v= .p e/\K.In i.j/\i.j.p e=k0 (fH C t j)/\E (.p e) i) E s):wpAny M A (raiseStmt env (k0 v) y0) Q E s:=by
 refine wpAny_bind (wpAny_mono h (λv i f=> ?_) λ_ _ x=>x)
 obtain⟨e,t,j,rfl,X,o,p⟩:=f
 obtain⟨n,r,nm,I,bs,q,D,sub,z,m,dd,L,J,N,u,y,H,c,w,T⟩:=qM X l
 have b:(Value.ref C::n).u (.j "BaseException")=true:=by rw [List.contains_cons,T.hasType PySem.F.excBase_ValueError.hasBase,Bool.or_true]
 have a:i.j.p e=k0 { cls:= .p C,dict:=j,data:= .q #[.p t,.u,.u,.u,.w k9,.u] }:=o
 obtain⟨B,g,d,F,G⟩:=i
 repeat (first | with_reducible refine wpAny_loadPart_at a ?_ | with_reducible refine wpAny_loadPart_at c ?_ | (with_reducible refine wpAny_isSubtype_exc c ?_;rw [b]) | wp_step)
 exact wpAny_raiseNew_none k p
section
variable {P:Y9}{w:Y8}{K:Frag}{mg:Str->Y1 Y2}{base:Y6}{N:Y0 Str}{y8:Str}{scope:YX}{f:Y5}{cd:Y2}{A:YQ}{outer:Y0 YJ}{s:Y3}{H:Hp}{E:XK}
def yt (C:Y5) (b:Str) (E:XK) (t:TA):TS:=λ_ U H=>t U H λa H1=> ∃v,a= [v]/\ ∀dx,H1 dx=y0->E (.p C) (k0 dx) (aF H1 dx (.xd [(b,v)]))
def CM (p:nZ K C fl) (hi:findIn K (.p C) "__init__" =some (some (.p fI))) (Z:nQ K fl fI fd ps) (R:mg x=some (.p C)) (hg:Gl (fN (dP P w) P w K mg base N y8 scope f cd A outer s H E) x)
 (Y:bb 2 (A.deeper (envOfC y8 scope s.j.j.j f cd))) (W:PA (fN (dP P w) P w K mg base N y8 scope f cd A outer s H E) [e] t)
 (X:starEach [e] (envOfC y8 scope s.j.j.j f cd)=(false,eval e (envOfC y8 scope s.j.j.j f cd))::starEach [] (envOfC y8 scope s.j.j.j f cd):=by rfl) (hd:(x==("__debug__" :Str))=false:=by decide):
 PS (fN (dP P w) P w K mg base N y8 scope f cd A outer s H E) (.Raise (k0 (.w (.j x np) [e] [] cpos)) y0 pos) (yt C fl E t):=by
 intro l V U S D I h
 rw [arm_exec_Raise]
 refine wpAny_bind (wpAny_standAt (M7 p.cls (I.ok.hd rfl) ?_))
 refine wpAny_bind (wpAny_mono (wpAny_Call_Name_kw (JC I hg R ?_ hd)) (λv s3 h3=>wpAny_bind (wpAny_standAt (wpAny_pure h3))) λ_ _ x=>x)
 refine callWith_K I.ok.mod.kK p.kp (aS (W cpos l V U S _ I h) ?_) X rfl
 rintro us a⟨vs,k,i,r,v,Q,q⟩
 refine ⟨i.bR,?_⟩
 subst Q
 obtain⟨u,rfl,y⟩: ∃u,us= [u]/\RelV v u:=by
  cases r with
  | cons y r2=>cases r2;exact⟨_,rfl,y⟩
 have G:=i.laid (h':=W4 a.j C [u]) (t':=a.p) (λb o z=>ZB z) (Ag0 _) (AV tR)
 have d:k _=none:=i.aX.M (Ag0 _)
 refine CQ i.bR p.cls hi Z.fn (show 1<=sizeLine by rw [sizeLine_eq];decide) ?_
 have F:=NL (P:=P) (w:=w) (mg:=mg) (base:=base) Z
 have hl:ps.e=2:=by obtain⟨_,_,_,_,_,_,_,_,_,_,_,rfl,_⟩:=Z.ex;rfl
 refine wpAny_call (codeAny_mono (F.run _ _ _ _ ⟨[.p _,u],[]⟩ [.p _,u] [.p _,v]
  (λJ O=>J= .ak/\ ∃c,k c=y0/\c≠a.j.j.j+1/\O=aF (aF (aF k (a.j.j.j+1) (gB (a.j.j.j+1) C a.j.j.j y0)) c (.xd [(fl,v)])) (a.j.j.j+1) (gB (a.j.j.j+1) C a.j.j.j (k0 c)))
  (λ_ _ _=>False) (Y.make C [u] []) (G.gr.make C [u] []) (by
    have:=Z.bd ⟨W4 a.j C [u],a.gens,a.drawn,a.p,a.os⟩ [.p (a.j.j.j+1),u] G.bR (by rw [Ad8,hl];rfl)
    rwa [Ad8]at this) (.j rfl (.j y .p)) ⟨_,v,C,a.j.j.j,rfl,zb,p,λc z ne=>⟨rfl,c,by rw [Za ne]at z;exact z,ne,rfl⟩⟩) λres s' j=> ?_)
 cases res with
 | error Q=>
  obtain⟨_,_,_,_,_,_,_,_,_,_,_,_,_,_,_,z⟩:=j
  exact z.j
 | ok B=>
  cases B with
  | ret u'=>
   obtain⟨J,O,m,rv,rfl,c,T,M,rfl⟩:=G.after j
   refine⟨rv,_,a.j.j.j,k0 c,rfl,m.bR,(m.aX _ _ zb).1,?_⟩
   have L:=m.forget zb
   have eH:kM (aF (aF (aF k (a.j.j.j+1) (gB (a.j.j.j+1) C a.j.j.j y0)) c (.xd [(fl,v)])) (a.j.j.j+1) (gB (a.j.j.j+1) C a.j.j.j (k0 c))) (a.j.j.j+1)=aF k c (.xd [(fl,v)]):=by
    funext b
    by_cases n:b=a.j.j.j+1
    .rw [n,ui,Za (Ne.symm M),d]
    .rw [rj n,Za n]
     by_cases g:b=c
     .rw [g,zb,zb]
     .rw [Za g,Za g,Za n]
   rw [eH]at L
   refine IA L (m.aX _ _ zb).1 (Heap.get?_none_of_le (Ab5 i.sz (Ag0 _))) ?_ (q c T)
   rw [Za (Ne.symm M),d]
  | next=>exact False.elim j
  | brk=>exact False.elim j
  | cont=>exact False.elim j
end
section
variable {prog:Y9}{w:Y8}{A:YQ}{E:Y2->Y3->Prop}{s:Y3}{K:Frag}{x C dx:Y5}{fl:Str}{u:Y2}{ox:Obj}{mA:Str->Y1 Y2}
def F9 (X:K.In s.j) (r:s.j.p x=k0 ox) (B:ox.cls= .p C) (O:notCls ox=u0) (J:ox.u=k0 dx) (o:s.j.Ns1 dx mA) (D:mA fl=k0 u) (z:handedIn u=u0) (P:kY K C=u0) (N:findIn K (.p C) fl=k0 y0)
 (e:findIn K (.p C) "__getattribute__" =some (some (.q "BaseException.__getattribute__"))) (F:findIn K (.p C) "__getattr__" =some none)
 (h:Q u { s with toks:=s.p+1 }):wpAny (model prog w) A (getAttr (.p x) fl b) Q E s:=by
 obtain⟨cd,c,a,m⟩:=AK P
 obtain⟨f,g,d,t,H⟩:=s
 dsimp only at X r o h
 obtain⟨y,i,j⟩:=Q5 o
 have I:PySem.W.InstAt f x ox C (k0 y):=⟨r,B,O,by rw [J];exact i⟩
 have k:findObj K C _ fl=k0 _:=PySem.W.findObj_own (by unfold hasDictIn;rw [c];exact m) N rfl (by rw [j,D])
 have q:=I.type (M:=model prog w)
 have G:=looks_findIn (M:=model prog w) X e
 have v:=looks_findIn (M:=model prog w) X F
 have L:=looks_find (M:=model prog w) X I k
 have sub:Looks (model prog w) f (isInstance (.p x) (.j "BaseException")) true:=I.type.andThen (looks_mroIn X (by unfold mroIn;rw [c,Option.bind_some,if_neg (by rw [vP a];decide),MH a]))
 have p:=PySem.F.attrBase_ValueError
 have R:=p.ga.bind (.p x)
 have l:(b&&onTheHeap (Value.builtin "BaseException.__getattribute__"))=false:=by cases b<;>rfl
 unfold getAttr getAttrBy
 refine wpAny_bind (wpAny_mkText (wpAny_holding (wpAny_bind (q.at (wpAny_bind (G.at ?_))))))
 have n:(Value.builtin "BaseException.__getattribute__" ==Value.builtin "object.__getattribute__")=false:=by decide +kernel
 dsimp only
 rw [n,Ah0,if_neg (by decide)]
 unfold getAttrByItsOwn hookBefore
 refine wpAny_bind (v.at (wpAny_bind (wpAny_attempt (wpAny_holding ?_))))
 unfold callGetattribute
 rw [l,if_neg (by decide)]
 repeat (any_goals (first | assumption | wp_step))
 refine codeAny_call_builtin p.ga.plain PySem.F.entry_bexc_ga (@check_slot (model prog w) _ _ ⟨f,g,d,t+1,H⟩ "BaseException.__getattribute__" "BaseException" "__getattribute__" (.p x) [.str fl t] [] _ (by decide +kernel) (by decide +kernel) sub (PySem.F.args_bexc_ga (.p x) (.str fl t)) ?_)
 refine wpAny_bind (wpAny_pure (wpAny_bind (wpAny_pure (wpAny_bind (q.at (wpAny_bind (L.at ?_)))))))
 refine wpAny_pure ?_
 show wpAny _ _ (handedOut u) _ _ _
 rw [handedOut_of z]
 exact wpAny_pure h
end
structure mO (K:Frag) (C:Addr) (f:Str):Prop where
 ov:kY K C=u0
 no:findIn K (.p C) f=k0 y0
 ga:findIn K (.p C) "__getattribute__" =some (some (.q "BaseException.__getattribute__"))
 gh:findIn K (.p C) "__getattr__" =some none
def J3 {K:Frag}(X:K.In s.j) (I:ExcAt s.j x C) (z:kitCls K (.p C) (.p W)=some b) (g:mroIn K W (.j "BaseException")=some true) (a:Q b s):
 wpAny (model prog w) A (excMatches (.p x) (.p W)) Q E s:=by
 obtain⟨c,i,dd,j,k⟩:=s
 obtain⟨f,d,h⟩:=kit_cls X z
 have e:=looks_mroIn (M:=model prog w) X g
 have Le:=I.type (M:=model prog w)
 have l:Looks (model prog w) c (isInstance (.p W) (.j "tuple")) false:=f.andThen (Looks.of_pure tc_notTuple)
 have m:Looks (model prog w) c (isExcClass (.p W)) true:=d.andThen e
 cases b with
 | true=>repeat lk
         exact a
 | false=>repeat lk
          exact a
end L2
namespace L2
open L2 renaming Vals.length→L2.Vals.e,V.int→L2.V.o,V.ref→L2.V.p,Cx.env→L2.Cx.j,Cx.prog→L2.Cx.p,Cx.outer→L2.Cx.B,cZ.fresh→L2.cZ.M
open PySem PySem.Spec PyProof.Rows PySem.Builtin.Str
noncomputable def bY:Str:=⟨#[32]⟩
noncomputable def nV (z:Str) (a:Y0 Str):Bool:= !(y9 (z.e<bY.e)||y9 (strKind z<strKind bY))&& !(occurrences z bY 0 z.e (z.e+1)).y&&y9 (z.e<=1000)&&y9 (partsBetween z (occurrences z bY 0 z.e (z.e+1)) bY.e=a)&&y9 (a.e<=1000)
section
variable {X:Cx}
theorem Q2: ∀(ps) (t),Vals (ps.j V.str) (strsFrom t ps)
 | [],_=> .p
 | p::ps,t=> .j ⟨_,rfl⟩ (Q2 ps (t+1))
def Ib:kj X "str.split" (fun x vs H Q=> ∃ z i,x= .str z/\vs= [.str bY]/\nV z i=true/\ ∀p,H p=none->Q (.p p) (aF H p (.lst (i.j V.str)))):=by
 intro f s U H x vs v r Q I k rv h
 obtain⟨z,i,rfl,rfl,a,q⟩:=h
 obtain⟨t,rfl⟩:=k
 obtain⟨u,rfl,l⟩:=rv.one
 obtain⟨j,rfl⟩:=l
 unfold nV at a
 simp only [Aa0,Ag1,decide_eq_true_eq]at a
 obtain⟨⟨⟨⟨g,m⟩,n⟩,d⟩,c⟩:=a
 refine call_meets PySem.F.slot_str_split (typeIs_str _ _ _) PySem.F.entry_str_split (PySem.F.args_str_split_2 _ _) (meets_str_split_sep z bY t j g rfl m (Ag5 (Qt n)) (by rw [d];exact(Ag5 (Qt c)))) ?_
 rw [d]
 refine⟨.p s.j.j.j,_,?_,rfl,q _ (I.aX.M (Aa8 _))⟩
 exact I.laid (λb o e=>Ab1 _ e) (Aa8 _) (show aW X.p X.w _ _ _ (.lst _)from⟨by rw [Aa];exact(Ag5 (Qt c)),strsFrom s.p i,0,Q2 i s.p,Ac8 s.j rfl⟩)
end
open PySem PySem.Spec PyProof.Rows
noncomputable def dS (a:Y0 (Str×V)):HO:= .dK (a.j λp=>(.q p.1,p.2))
noncomputable def iF (a:Y0 (Str×V)) (k:Str) (v:V):Y0 (Str×V):=if a.z (λp=>y9 (p.1=k))then a.j (λp=>if p.1=k then(p.1,v)else p)else a++ [(k,v)]
theorem um : ∀ {c:Y0 (Str×V)}{vs},KV (c.j λp=>((.q p.1:dz),p.2)) vs->(vs.z λi=>i.1= .q k)=c.z λp=>y9 (p.1=k)
 | [],_,.p=>rfl
 | p::c,(a,b)::vs,.j r t=>by
  obtain⟨e1,e2⟩:=r
  rw [Ag7,Ag7,um t,←e1]
  by_cases q:p.1=k<;>simp [q]
theorem n9 : ∀ {c:Y0 (Str×V)}{vs},KV (c.j λp=>((.q p.1:dz),p.2)) vs->b0 (c.p k) (valueAt vs (.q k))
 | [],_,.p=>trivial
 | p::c,(a,b)::vs,.j r t=>by
  obtain⟨e1,e2⟩:=r
  have d:=n9 (k:=k) t
  unfold valueAt at d ⊢
  rw [List.find?_cons,Ab8,←e1]
  by_cases q:p.1=k
  .rw [beq_iff_eq.q q.p]
   simp only [q,decide_true]
   exact e2
  .rw [beq_eq_false_iff_ne.q λz=>q z.p]
   have: ¬(Sum.inr p.1:dz)= .q k:=λz=>q (by injection z)
   simp only [this,decide_false]
   exact d
def NI (d:RelV v u)(h:KV (kvs.j λp=>((.q p.1:dz),p.2)) vs):KV ((iF kvs k v).j λp=>((.q p.1:dz),p.2)) (stored vs (.q k) u):=by
 unfold iF stored
 rw [um h]
 by_cases c:(kvs.z λp=>y9 (p.1=k))=u0
 .rw [if_pos c,if_pos c]
  clear c
  induction kvs generalizing vs with
  | nil=>cases h;exact .p
  | cons p kvs e=>
   cases h with
   | @cons _ q _ vs r t=>
    obtain⟨a,b⟩:=q
    obtain⟨e1,e2⟩:=r
    subst e1
    refine .j ?_ (e t)
    by_cases q:p.1=k
    .subst q
     simp only [if_true]
     exact⟨trivial,d⟩
    .have: ¬(Sum.inr p.1:dz)= .q k:=λz=>q (by injection z)
     simp only [q,this,if_false]
     exact⟨trivial,e2⟩
 .rw [if_neg c,if_neg c,Af1]
  exact Paired.snoc h ⟨rfl,d⟩
section
variable {X:Cx}{pins:Y0 (Y5×Obj)}{U:St}{H:Hp}{s:Y3}{a:Y5}{k:Str}{kvs:Y0 (Str×V)}{u r:Y2}{A:YQ}{E:Y2->Y3->Prop}
def ky (I:Inv X pins U H s) (e:H a=k0 (dS kvs)):kvs.e<=sizeLine/\(a==sysModules)=k9/\ ∃vs,KV (kvs.j λp=>((.q p.1:dz),p.2)) vs/\s.j.DictOf (Jx X.p X.w) a vs:=by
 obtain⟨z,c,vs,b,dd⟩:=(show aW X.p X.w H s.j a (dS kvs)from I.aX a _ e)
 rw [Aa]at z
 exact⟨z,c,vs,b,dd⟩
def CV (I:Inv X pins U H s) (e:H a=k0 (dS kvs)) (f:RelV (.str k) u) (l:kvs.p k=k0 v) (h: ∀i s',Inv X pins U H s'->RelV v i->Q i s'):wpAny (model X.p X.w) A (getItem (.p a) u) Q E s:=by
 obtain⟨z,j,g,b,dd⟩:=ky I e
 obtain⟨t,rfl⟩:=f
 obtain⟨i,d,c⟩:=b0.some_of (by rw [← l];exact n9 b)
 exact wpAny_getItem_of (zl _ _ k t) dd.mapOf d (h i _ (I.tok _) c)
def AD (r:b0 o q):q.q=o.q:=by
 cases o with
 | none=>rw [b0.none_of r];rfl
 | some v=>obtain⟨u,rfl,_⟩:=b0.some_of r;rfl
def LH (I:Inv X pins U H s) (e:H a=k0 (dS kvs)) (c:RelV (.str k) u) (h: ∀s',Inv X pins U H s'->Q (.w (kvs.p k).q) s'):wpAny (model X.p X.w) A (compareOp .In u (.p a)) Q E s:=by
 obtain⟨z,d,f,b,dd⟩:=ky I e
 obtain⟨t,rfl⟩:=c
 refine wpAny_in_of (zl _ _ k t) d dd.mapOf ?_
 rw [AD (n9 b)]
 exact h _ (I.tok _)
def DO (I:Inv X pins U H s) (e:H a=k0 (dS kvs)) (c:RelV (.str k) u) (h: ∀s',Inv X pins U H s'->Q (.w (!(kvs.p k).q)) s'):wpAny (model X.p X.w) A (compareOp .NotIn u (.p a)) Q E s:=by
 obtain⟨z,d,f,b,dd⟩:=ky I e
 obtain⟨t,rfl⟩:=c
 refine wpAny_notIn_of (zl _ _ k t) d dd.mapOf ?_
 rw [AD (n9 b)]
 exact h _ (I.tok _)
def Oi (kvs) (k) (v):(iF kvs k v).e<=kvs.e+1:=by
 unfold iF
 split
 .rw [Aa];lia
 .simp
def N6 (I:Inv X pins U H s) (e:H a=k0 (dS kvs)) (m:RelV (.str k) u) (rv:RelV v r) (w:kvs.e<sizeLine) (h: ∀s',Inv X pins U (aF H a (dS (iF kvs k v))) s'->Q () s'):wpAny (model X.p X.w) A (setItem (.p a) u r) Q E s:=by
 obtain⟨z,l,f,b,dd⟩:=ky I e
 obtain⟨t,rfl⟩:=m
 have p:f.e<=sizeLine:=by rw [← Paired.length b,Aa];exact z
 refine wpAny_setItem_pairs (zl _ _ k t) dd λi c o=>h _ ?_
 have j: ∃q,i.p a=k0 q:=let ⟨q,_,_,g,_⟩:=c; ⟨q,g⟩
 refine I.write (by rw [e];exact True.intro) (.p rfl) (λn q d z=>(o.2 n d).j z) j ⟨?_,l,_,NI rv b,c⟩
 rw [Aa]
 have:=Oi kvs k v
 lia
def IC (I:Inv X pins U H s) (e:H a=k0 (dS kvs)) (h: ∀p s',H p=y0->Inv X pins U (aF H p (dS kvs)) s'->Q (.p p) s'):wpAny (model X.p X.w) A (call (.j "dict") [.p a]) Q E s:=by
 obtain⟨z,i,g,c,dd⟩:=ky I e
 refine kt_call_dict i dd (by rw [← Paired.length c,Aa];exact z) λk d j=> ?_
 refine h _ _ (I.aX.M (Aa8 _)) (I.laid (λb q f=> ?_) (Aa8 _) ⟨by rw [Aa];exact z,beq_eq_false_iff_ne.q (Ne.symm (Ac3 (pQ I))),g,c,d⟩)
 exact(j.2 b (Ac3 (Ac0 f))).j (Ab1 _ f)
def Fs:TE:=λ_ H Q=> ∀p,H p=y0->Q (.p p) (aF H p (dS []))
def HX :PE X (.Dict [] [] pos) Fs:=λa s U H Q I h=>
 wpAny_Dict_empty ⟨.p s.j.j.j,_,I.laid (o:=dS []) (λ_ _ q=>Ab1 _ q) (Aa8 _) ⟨Af2 _,beq_eq_false_iff_ne.q (Ne.symm (Ac3 (pQ I))),[],.p,Heap.DictOf.new _⟩,rfl,h _ (I.aX.M (Aa8 _))⟩
end
open PySem PySem.Spec PySem.Calls PySem.W PyProof.Rows
def oM:Y0 TE->St->Hp->(Y0 V->Hp->Prop)->Prop
 | [],_,H,Q=>Q [] H
 | t::b,U,H,Q=>t U H λv H1=>oM b U H1 λa H2=>Q (v::a) H2
section
variable {X:Cx}
def mv (X:Cx):Y0 Str->Y0 TE->Y0 (Y1 Y4)->Y0 Y4->Prop
 | [],f,ks,d=>f= []/\ks= []/\d= []
 | x::r,f,ks,d=> ∃j p e t c a b,f=t::b/\ks=k0 (.u (.j x) j p)::c/\d=e::a/\PE X e t/\mv X r b c a
theorem Ar: ∀ {T}{i}{ks}{vs},mv X T i ks vs->ks.K (·.q)=u0/\ks.e=T.e/\vs.e=T.e
 | [],_,_,_,z7=>by obtain⟨rfl,rfl,rfl⟩:=z7;exact ⟨rfl,rfl,rfl⟩
 | x::r,_,_,_,z7=>by
  obtain⟨j,p,e,t,g,d,b,rfl,rfl,rfl,_,ok⟩:=z7
  obtain⟨a,c,f⟩:=Ar ok
  exact⟨by simpa using a,by simp [c],by simp [f]⟩
theorem JN : ∀ {T}{O}{ks}{vs}{s}{H}{Q}{i},mv X T O ks vs->Inv X pins U H s->oM O U H Q →
 (∀ ws H1 kvs M L,Inv X pins U H1 L->Carries (Jx X.p X.w) M kvs->KV ((T.Z ws).j λp=>((.q p.1:dz),p.2)) kvs->kvs.j (·.1)=T.j .q->Q ws H1->i M L) →
 wpAny (model X.p X.w) X.A (evalPairs (pairTrees ks vs X.j pos)) i X.xe s
 | [],_,_,_,s,H,Q,i,z7,I,h,q=>by obtain⟨rfl,rfl,rfl⟩:=z7;exact pairTrees_nil_walk (q [] H [] [] s I trivial .p rfl h)
 | x::r,_,_,_,s,H,Q,i,z7,I,h,q=>by
  obtain⟨j,p,e,t,z,w,k,rfl,rfl,rfl,y,ok⟩:=z7
  exact pairTrees_cons_walk (Calls.Constant_str (aS (y pins _ U H _ (I.tok _) h) λu L ⟨v,H1,n,l,b⟩=>
   JN ok n b λws o kvs M a g c f m d=>q (v::ws) o ((.q x,u)::kvs) _ a g ⟨zl _ _ x _,rfl,c⟩ (.j ⟨rfl,l⟩ f) (by simp [m]) d))
def Du (ok:mv X T ts ks vs) (r:T≠ []) (n:T.e<=15) (x:T.B):
 PE X (.Dict ks vs pos) (λU H Q=> ∀p,H p=y0->oM ts U (aF H p (dS [])) λws H1=>H1 p=k0 (dS [])/\Q (.p p) (aF H1 p (dS (T.Z ws)))):=by
 intro l s U H Q I h
 obtain⟨A,a2,a3⟩:=Ar ok
 have k:=beq_eq_false_iff_ne.q (Ne.symm (Ac3 (pQ I)))
 refine wpAny_Dict_walk (knd:=Jx X.p X.w) A (a2.j a3.p) (λz=>r (List.length_eq_zero_iff.p (by simp_all))) (by lia) ?_
 refine JN ok (I.laid (o:=dS []) (t':=s.p) (fun _ _ q=>Heap.get?_push_of_some { cls:= .j "dict",data:= .u #[] } q) (Nat.le_refl _) ⟨Nat.zero_le _,k,[],.p,Heap.DictOf.new _⟩) (h _ (I.aX.M (Nat.le_refl _))) fun ws H1 d D C j c f m q=>⟨d,c,?_,fun u dd B=> ?_⟩
 .obtain⟨_,_,y,g,dd⟩:=ky j q.1
  cases g
  exact dd
 .rw [JP d [] (by rw [Ae6,m];exact Ap.map _ (λa b z e=>z (by injection e)) x),Ae6]at dd
  have v: ∃q,u.p s.j.j.j=k0 q:=let ⟨q,_,_,t,_⟩:=dd; ⟨q,t⟩
  refine⟨.p s.j.j.j,_,j.write (o:=dS _) (by rw [q.1];exact True.intro) (.p rfl) (λw q i z=>(B.2 w i).j z) v ⟨?_,k,_,f,dd⟩,rfl,q.2⟩
  rw [Aa,Al9]
  have:=n
  exact Ab5 (Nat.min_le_left _ _) (Ab5 n (by decide))
end
open PySem PySem.Spec PySem.Calls PyProof.Rows
section
variable {X:Cx}
def IB:rL X "int.bit_length" (fun x xs H Q=> ∃i:Int,x= .o i/\xs= []/\Q (.o ((Builtin.Int.intBits i:Nat):Int)) H):=by
 intro a s U H x xs v c Q I b rv h
 obtain⟨i,rfl,rfl,q⟩:=h
 obtain⟨t,rfl⟩:=b
 cases rv
 exact call_int_bit_length ⟨.o _,H,I.tok _,⟨_,rfl⟩,q⟩
end
def dB (H H':Hp):Prop:= ∀a o,H a=k0 o->H' a=k0 o
def dB.refl :dB H H:=λ_ _ h=>h
def dB.trans (a:dB H H1) (b:dB H1 H2):dB H H2:=λx o h=>b x o (a x o h)
def bA.le {K:Ab}(h:bA K H a xs) (l:dB H H'):bA K H' a xs:=by
 obtain h | h:=h
 .refine .p ?_
  obtain h | ⟨u,h⟩:=h
  .exact .p (l _ _ h)
  .exact .q ⟨u,l _ _ h⟩
 .exact .q h
noncomputable def gy (g:Int->Int):Int->Y0 Int->Int
 | b,[]=>b
 | b,x::xs=>if g x<g b then gy g x xs else gy g b xs
def ZW {id:String}(b:(args.z (·.1)||kws.z (·.1.u))=k9)
 (h:wpAny M A (evalArgs (.q id) u0 args kws) (λa i=>wpAny M A (call (.q id) (first++a.pos) a.kw) Q E i) E s):
 wpAny M A (callWith pos (.q id) first args kws) Q E s:=by
 refine wpAny_bind (wpAny_holding (wpAny_mono h (λa i c=>wpAny_bind (wpAny_standAt ?_)) λ_ _ x=>x))
 simp only [b]
 exact wpAny_bind (wpAny_pure (wpAny_bind (wpAny_mono c (λr d e=>wpAny_bind (wpAny_holding (wpAny_point (wpAny_pure e)))) λ_ _ x=>x)))
section
variable {X:Cx}{pins:Y0 (Y5×Obj)}{U:St}{H0:Hp}{q l S J:Y5}{is:Y0 Int}{g:Int->Int}{R:Result->Y3->Prop}
def o4 (X:Cx) (U:St) (a:Hp) (q:Y5) (is:Y0 Int) (g:Int->Int):Prop:= ∀(pins:Y0 (Y5×Obj)) (s:Y3) (H:Hp) (n:Int) (t:Tok),n∈is->Inv X pins U H s->dB a H →
 wpAny (model X.p X.w) X.A.j (call (.p q) [.o n t]) (EP X pins U λv H'=>v= .o (g n)/\dB H H') (λ_ _=>False) s
def bC.keep (h:bC X pins H b) (n:H' b=y0):bC X pins H' b:=⟨n,h.2⟩
def ud (T:o4 X U H0 q is g) (r:n∈is) (I:Inv X pins U H s) (e:dB H0 H) (fS:bC X pins H S) (j:bC X pins H J) (d:s.j.p S=k0 oS) (h:s.j.p J=k0 oJ) (dS: ∀v,oS.j≠ .p v) (p: ∀v,oJ.j≠ .p v)
 (k: ∀t' s' H',Inv X pins U H' s'->dB H0 H'->bC X pins H' S->bC X pins H' J->s'.j.p S=k0 oS->s'.j.p J=k0 oJ->Q (.o (g n) t') s'):
 wpAny (model X.p X.w) X.A.j (call (.p q) [.o n t]) Q E s:=by
 have m:=I.pinned (λb a=>by
  obtain rfl | a:=Ab7.p a
  .exact fS
  .rw [Ac6.p a];exact j) (λb a=>by
  obtain rfl | a:=Ab7.p a
  .exact⟨_,d,dS⟩
  .rw [Ac6.p a];exact⟨_,h,p⟩)
 refine wpAny_mono (T _ s H n t r m e) (λu s' l=> ?_) λ_ _ z=>z.j
 obtain⟨v,H',c,o,rfl,le⟩:=l
 obtain⟨t',rfl⟩:=o
 have f:=c.pin _ (Ab0 _ (Ab0 _ (Qg (by simp) d)))
 have i:=c.pin _ (Ab0 _ (Ab0 _ (Qg (by simp) h)))
 exact k t' s' H' c.bP (e.trans le) (fS.keep f.2.1) (j.keep i.2.1) f.1 i.1
def ID (hh:X.A.p=y0) (T:o4 X U H0 q is g) (hl:bA X.K H0 l (is.j .o)) (hlJ:l≠J) (E:S≠J): ∀(rest:Y0 Int) (j:Nat) (m:Int) (tv tb:Tok) (c:Nat) (s:Y3) (H:Hp),is.J (j+1)=rest->j+1<=is.e->Inv X pins U H s->dB H0 H->bC X pins H S->bC X pins H J →
 s.j.p S=k0 (seqObj "list" #[.o m tv,.o (g m) tb] c)->s.j.IsListIter J l (j+1)->(∀ t s' H',Inv X pins U H' s'->dB H0 H'->R (.ok (.ret (.o (gy g m rest) t))) s')->codeAny (model X.p X.w) X.A (.q "min.loop" ⟨[.p J,.p q,.p S],[]⟩) R s:=by
 have f:(toString "min" ++toString ".loop" :String)= "min.loop" :=by decide
 intro rest
 induction rest with
 | nil=>
  intro j m tv tb c s H N hj I hH fS fJ eS F hR
  obtain⟨d,rv,pl, -⟩:=I.list (hl.le hH)
  have il:d.e=is.e:=by rw [← rv.e,Aa]
  have hin:j+1=is.e:=by
   have:=congrArg List.length N
   rw [Af7]at this
   simp at this
   omega
  have W:=Walks.list (prog:=X.p) (w:=X.w) (A:=X.A.j) hh J l hlJ d.q
  refine codeAny_builtin PySem.F.entry_min_loop ?_
  rw [Around.under_plainId PySem.F.plain_min_loop _]
  show wpAny _ X.A.j _ _ _ _
  refine wpAny_bind (wpAny_seqItems eS rfl ?_)
  show wpAny _ X.A.j (tryCatch (pyNext (.p J)) _ >>= _) _ _ _
  refine wpAny_bind (wpAny_tryCatch (W.done _ _ _ ⟨by rw [Ab4,il,←hin];exact F,pl.G⟩ λY D k=> ?_))
  have G:=k S _ (by simpa using E) eS
  have s1:=Al1.update Y S (Obj.mapSeq λ_=>(#[]:Array Y2))
  show wpAny _ X.A.j (updateSeq S (λ_=> #[]) >>= _) _ _ _
  refine wpAny_bind (wpAny_updateSeq G rfl (wpAny_bind (wpAny_letGo (wpAny_pure ?_))))
  have I1:Inv X pins U H { s with heap:=Y,toks:=D }:=I.cm (ch:= [J]) (λb o a e=>k b o a e) λb a=>by rw [Ac6.p a];exact fJ
  exact hR _ _ _ (I1.cm (ch:= [S]) (λb o a e=>(s1.2 b (by simpa using a)).j e) λb a=>by rw [Ac6.p a];exact fS) hH
 | cons n rest ih=>
  intro j m tv tb c s H N hj I hH fS fJ eS F hR
  obtain⟨d,rv,pl, -⟩:=I.list (hl.le hH)
  have il:d.e=is.e:=by rw [← rv.e,Aa]
  have K:j+1<is.e:=by
   have:=congrArg List.length N
   rw [Af7]at this
   simp at this
   omega
  have en:is[j+1]? =k0 n:=by
   have:=congrArg (·[0]?) N
   simpa using this
  refine codeAny_builtin PySem.F.entry_min_loop ?_
  rw [Around.under_plainId PySem.F.plain_min_loop _]
  show wpAny _ X.A.j (seqItems? (.p S) >>= _) _ _ _
  refine wpAny_bind (wpAny_seqItems eS rfl ?_)
  show wpAny _ X.A.j (tryCatch (pyNext (.p J)) _ >>= _) _ _ _
  refine wpAny_bind (wpAny_tryCatch ((Walks.list (prog:=X.p) (w:=X.w) (A:=X.A.j) hh J l hlJ d.q).item (j+1) _ _ _ (by rw [Ab4,il];exact K) ⟨F,pl.G⟩ λv Y D hP O k=> ?_))
  obtain⟨u,hu,ru⟩:=rv.get (i:=j+1) (x:= .o n) (by rw [Ac1,en];rfl)
  obtain⟨r,rfl⟩:=ru
  obtain rfl:v= .o n r:=by
   have:d[j+1]? =k0 v:=by simpa using hP
   rw [hu]at this
   exact(Ad9.inj this).p
  obtain⟨oJ,hoJ,Q,L⟩:=id O.1
  have I1:Inv X pins U H { s with heap:=Y,toks:=D }:=I.cm (ch:= [J]) (λb o a e=>k b o a e) λb a=>by rw [Ac6.p a];exact fJ
  have G:Y.p S=k0 _:=k S _ (by simpa using E) eS
  show wpAny _ X.A.j (tryCatch (holding [.o n r] (call (.p q) [.o n r])) _ >>= _) _ _ _
  refine wpAny_bind (wpAny_tryCatch (wpAny_holding (ud T (Ac4 en) I1 hH fS fJ G hoJ (λv z=>by cases z) (λv z=>by rw [L]at z;cases z) λy s2 H2 I2 hH2 C fJ2 B V=> ?_)))
  have Z:s2.j.IsListIter J l (j+1+1):=⟨oJ,V,Q,L⟩
  have M:is.J (j+1+1)=rest:=by
   have:=congrArg List.tail N
   simpa [List.tail_drop]using this
  show wpAny _ X.A.j (tryCatch (holding [.o n r,.o (g n) y] (richCompare .Lt (.o (g n) y) (.o (g m) tb) >>= _)) _ >>= _) _ _ _
  refine wpAny_bind (wpAny_tryCatch (wpAny_holding (wpAny_bind (CmpOf.ints_lt (prog:=X.p) (w:=X.w) (A:=X.A.j) (P:=λ(i:Nat) v=> ∃t,v= .o (if i=0 then g n else g m) t) (λi=>if i=0 then g n else g m) (λi v h=>h) 0 1 _ _ _ _ _ ⟨y,rfl⟩ ⟨tb,rfl⟩ (wpAny_bind (wpAny_holding (wpAny_truthy_bool (wpAny_bind (wpAny_letGo (wpAny_pure ?_))))))))))
  show wpAny _ X.A.j (if y9 (g n<g m)=u0 then _ else _) _ _ _
  by_cases p:g n<g m
  .have s1:=Al1.update s2.j S (Obj.mapSeq λ_=> #[.o n r,.o (g n) y])
   obtain⟨c2,hc2⟩: ∃c2,(s2.j.u S (Obj.mapSeq fun _=> #[.o n r,.o (g n) y])).p S=k0 (seqObj "list" #[.o n r,.o (g n) y] c2):=⟨_,get?_update_seq B fun _=> #[.o n r,.o (g n) y]⟩
   rw [if_pos (decide_eq_true p)]
   refine wpAny_bind (wpAny_updateSeq B rfl (wpAny_bind (wpAny_letGo ?_)))
   rw [f]
   refine wpAny_pure ⟨plainId_quiet PySem.F.plain_min_loop _,ih (j+1) n r y c2 _ H2 M K ?_ hH2 C fJ2 hc2 ⟨oJ,(s1.2 J E.symm).j V,Q,L⟩ λt s' H' I' l'=> ?_⟩
   .exact I2.cm (ch:= [S]) (λb o a e=>(s1.2 b (by simpa using a)).j e) λb a=>by rw [Ac6.p a];exact C
   .have:=hR t s' H' I' l'
    rw [gy,if_pos p]at this
    exact this
  .rw [if_neg (by rw [decide_eq_false p];exact Ac2)]
   refine wpAny_bind (wpAny_letGo ?_)
   rw [f]
   refine wpAny_pure ⟨plainId_quiet PySem.F.plain_min_loop _,ih (j+1) m tv tb c _ H2 M K I2 hH2 C fJ2 B Z λt s' H' I' l'=> ?_⟩
   have:=hR t s' H' I' l'
   rw [gy,if_neg p]at this
   exact this
def IJ (hh:X.A.p=y0)(T:o4 X U H q (n::is) g) (I:Inv X pins U H s) (hl:bA X.K H l ((n::is).j .o)) (hQ: ∀t s' H',Inv X pins U H' s'->dB H H'->Q (.o (gy g n is) t) s'):
 wpAny (model X.p X.w) X.A (call (.q "min") [.p l] [(Str.ofString "key",.p q)]) Q E s:=by
 have a:(toString "min" ++toString ".loop" :String)= "min.loop" :=by decide
 obtain⟨d,rv,pl, -⟩:=I.list hl
 have f:=pl.G
 obtain⟨ol,hol,_⟩:=id f
 have hll:l<s.j.j.j:=Ac0 hol
 have il:d.e=(n::is).e:=by rw [← rv.e,Aa]
 refine kmk_tree PySem.F.kind_min PySem.F.plain_min PySem.F.entry_min (kmk_min_key _ _) ?_
 show wpAny _ X.A.j _ _ _ s
 refine wpAny_bind (wpAny_of_eq (show Builtin.Builtins.bindParams "min" ["key", "default"] 0 ⟨[],[(Str.ofString "key",.p q)]⟩=pure [some (.p q),none]from rfl) ?_)
 refine wpAny_bind (wpAny_pure ?_)
 refine wpAny_bind (wpAny_pyIter_list f ?_)
 refine wpAny_bind (wpAny_newList ?_ (Af2 _))
 rw [a]
 have M:(s.j.q { cls:= .j "list_iterator",data:= .q #[.p l,.o 0 0] }).j.j=s.j.j.j+1:=size_push' ..
 have k:l≠s.j.j.j:=Ac3 hll
 have c:(s.j.q { cls:= .j "list_iterator",data:= .q #[.p l,.o 0 0] }).j.j≠s.j.j.j:=by rw [M];exact Nat.ne_of_gt (Nat.lt_succ_self _)
 have L:bC X pins H s.j.j.j:=I.dR (Aa8 _) (I.aX.M (Aa8 _))
 have fS:bC X pins H (s.j.q { cls:= .j "list_iterator",data:= .q #[.p l,.o 0 0] }).j.j:=I.dR (by rw [M];exact Nat.le_succ _) (I.aX.M (by rw [M];exact Nat.le_succ _))
 refine wpAny_pure ⟨plainId_quiet PySem.F.plain_min_loop _,?_⟩
 have K:((s.j.q { cls:= .j "list_iterator",data:= .q #[.p l,.o 0 0] }).q (seqObj "list" #[] 0)).p s.j.j.j=some { cls:= .j "list_iterator",data:= .q #[.p l,.o 0 0] }:=
  Ab1 _ (Ac8 _ rfl)
 have gS:((s.j.q { cls:= .j "list_iterator",data:= .q #[.p l,.o 0 0] }).q (seqObj "list" #[] 0)).p (s.j.q { cls:= .j "list_iterator",data:= .q #[.p l,.o 0 0] }).j.j=some _:=Heap.get?_push_size _ rfl
 have I0:Inv X pins U H { s with heap:=(s.j.q { cls:= .j "list_iterator",data:= .q #[.p l,.o 0 0] }).q (seqObj "list" #[] 0),toks:=s.p }:=I.kept fun b u e=>Heap.get?_push_of_some _ (Heap.get?_push_of_some _ e)
 have r:((s.j.q { cls:= .j "list_iterator",data:= .q #[.p l,.o 0 0] }).q (seqObj "list" #[] 0)).z l d.q:=f.at fun o e=>Heap.get?_push_of_some _ (Heap.get?_push_of_some _ e)
 generalize (s.j.q { cls:= .j "list_iterator",data:= .q #[.p l,.o 0 0] }).j.j=S at c fS gS I0 r K ⊢
 generalize s.j.j.j=J at k c L K ⊢
 have W:=Walks.list (prog:=X.p) (w:=X.w) (A:=X.A.j) hh J l k d.q
 refine codeAny_builtin PySem.F.entry_min_loop ?_
 rw [Around.under_plainId PySem.F.plain_min_loop _]
 show wpAny _ X.A.j _ _ _ _
 refine wpAny_bind (wpAny_seqItems gS rfl ?_)
 show wpAny _ X.A.j (tryCatch (pyNext (.p J)) _ >>= _) _ _ _
 refine wpAny_bind (wpAny_tryCatch (W.item 0 _ _ _ (by rw [Ab4,il];exact Nat.succ_pos _) ⟨⟨_,K,rfl,rfl⟩,r⟩ λv F D hP p C=> ?_))
 obtain⟨u,hu,ru⟩:=rv.get (i:=0) (x:= .o n) rfl
 obtain⟨j,rfl⟩:=ru
 obtain rfl:v= .o n j:=by
  have:d[0]? =k0 v:=by simpa using hP
  rw [hu]at this
  exact(Ad9.inj this).p
 obtain⟨oJ,V,N,B⟩:=id p.1
 have I1:=I0.cm (h':=F) (t':=D) (ch:= [J]) (λb o h e=>C b o h e) λb h=>by rw [Ac6.p h];exact L
 have I1:Inv X pins U H { s with heap:=F,toks:=D }:=I1
 have O:F.p S=k0 _:=C S _ (by simpa using c) gS
 show wpAny _ X.A.j (tryCatch (holding [.o n j] (call (.p q) [.o n j])) _ >>= _) _ _ _
 refine wpAny_bind (wpAny_tryCatch (wpAny_holding (ud T Aa3 I1 dB.refl fS L O V (λv z=>by cases z) (λv z=>by rw [B]at z;cases z) λG s2 H2 I2 R y Z m Y=> ?_)))
 have s1:=Al1.update s2.j S (Obj.mapSeq λ_=> #[.o n j,.o (g n) G])
 obtain⟨c2,P⟩: ∃c2,(s2.j.u S (Obj.mapSeq λ_=> #[.o n j,.o (g n) G])).p S=k0 _:=⟨_,get?_update_seq m λ_=> #[.o n j,.o _ G]⟩
 show wpAny _ X.A.j _ _ _ _
 refine wpAny_bind ?_
 refine wpAny_updateSeq m rfl ?_
 rw [a]
 refine wpAny_pure ⟨plainId_quiet PySem.F.plain_min_loop _,ID hh T hl k c is 0 n j G c2 _ H2 rfl (Nat.succ_le_succ (Af2 _)) ?_ R y Z P ⟨oJ,(s1.2 J c.symm).j Y,N,B⟩ λt s' H' I' l'=>hQ t s' H' I' l'⟩
 exact I2.cm (ch:= [S]) (λb o h e=>(s1.2 b (by simpa using h)).j e) λb h=>by rw [Ac6.p h];exact y
end
def Hn (K:Ab) (b:Sp) (E:XK) (c:TE):TE:=λU H Q=>c U H λx H1=> ∃(l:Y5) (n:Int) (is:Y0 Int) (g:Int->Int),x= .p l/\bA K H1 l ((n::is).j .o)/\(∀ m∈n::is,∀H2,dB H1 H2->b [.o m] H2 (λv a=>v= .o (g m)/\dB H2 a) E)/\ ∀H2,dB H1 H2->Q (.o (gy g n is)) H2
section
variable {X:Cx}{CX:gR}{k:Nat}{f:Y5}{fd:YZ}{ps:Y0 Str}{sp:Sp}{E:XK}{x fn:Str}{p p2 kp pos:Pos}{e:Y4}{te:TE}
def Ea (hc:X.calm=true) (P:X.A.p=none) (hg:Gl X x) (O:X.mg x=none) (hv:bootBuiltins x=some (.q "min")) (F:bz X.p X.w X.K X.mg X.base CX k f fd ps sp) (hr:bb (k+1) X.A) (B:Gl X fn) (z:X.mg fn=some (.p f)) (hb:Binds X.K fd ps [])
 (hE: ∀outer H s e s', ¬CX outer H s E e s') (he:PE X e te) (hn:x≠ "__name__" :=by decide) (q:(x==("__debug__" :Str))=false:=by decide) (y:(fn==("__debug__" :Str))=false:=by decide)
 (G:starEach [e] X.j=(k9,eval e X.j)::starEach [] X.j:=by rfl):PE X (.w (.j x p) [e] [⟨k0 (Str.ofString "key"),.j fn p2,kp⟩] pos) (Hn X.K sp E te):=by
 intro a s U H Q I h
 refine wpAny_Call_Name_kw (jG I hg O hv ?_ hn q)
 have Z:PK X [⟨k0 (Str.ofString "key"),.j fn p2,kp⟩] (px (tC (.p f)) nP):=N5 (Ax B z rfl y) K1
 have K:=(zg he zo G) pos a s U H (λo i=>match o with
  | [v]=> ∃ l n is g,v= .p l/\bA X.K i l ((n::is).j .o)/\(∀ m∈n::is,∀b,dB i b->sp [.o m] b (λv H3=>v= .o (g m)/\dB b H3) E)/\ ∀b,dB i b->Q (.o (gy g n is)) b
  | _=>False) I h
 .refine ZW (by rw [G];rfl) ?_
  rw [G]at K ⊢
  refine evalArgs_kw rfl (aS K ?_)
  rintro us s1 ⟨o,i,I1,r1,J⟩
  obtain⟨v,rfl⟩: ∃v,o= [v]:=by
   match o,J with
   | [v],_=>exact⟨v,rfl⟩
  obtain⟨l,n,is,g,rfl,hl,A,hQ⟩:=J
  refine aS (Z pos a s1 U i (λL b=>L= [.p f]/\b=i) I1 ?_) λws s2 ⟨L,b,T,rz,R,eH⟩=> ?_
  .exact⟨rfl,rfl⟩
  subst R eH
  obtain⟨u,rfl,ru⟩:=r1.one
  obtain⟨w,rfl,C⟩:=rz.one
  obtain rfl:u= .p l:=ru
  obtain rfl:w= .p f:=C
  refine IJ P (λa s H d t D I Y=> ?_) T hl λt s' N W S=>⟨.o _,N,W,⟨_,rfl⟩,hQ N S⟩
  have c:=A d D H Y
  have M:Vals [V.int d] [Value.int d t]:= .j ⟨_,rfl⟩ .p
  refine wpAny_call (codeAny_mono (F.run X.A.j X.stack s H ⟨[.o d t],[]⟩ [.o d t] [.o d] _ E hr.in1 I.gr.in1 (hb s [.o d t] I.bR (by rw [Ad8,←M.e];exact F.len _ _ _ _ c)) M c) λr s' j=> ?_)
  cases r with
  | error e=>exact hE _ _ _ _ _ j
  | ok fl=>
   cases fl with
   | ret u=>exact I.after j
   | next=>exact False.elim j
   | brk=>exact False.elim j
   | cont=>exact False.elim j
end
def NB (K:Frag) (W:Y5) (f:Sp) (t:TA) (i c g:Nat) (d:Str):TS:=λD U H=>t U H λe H1=>f e H1 (λy H2=>D.nx (U.w i (k0 y)) H2) λa b H2=> ∃C,a= .p C/\vx K C ∧
 kitCls K (.p C) (.p W)=k0 u0/\ ∃dx y,b=k0 dx/\H2 dx=k0 (.xd [(d,y)])/\mO K C d/\ ∀x,H2 x=y0->D.nx (((U.w c (k0 (.p x))).w g (k0 y)).w c y0) (aF H2 x (gP x C b))
def K9 
 (hX: ∀a b, ¬X.xe a b) (w:X.stack=X.j::X.B) (hf:X.j.frame=k0 X.j.p) (hex:X.ex= []) (F:bz X.p X.w X.K X.mg X.base (dP X.p X.w) k f fd ps sp) (hr:bb k X.A) (hg:Gl X fx) (hm:X.mg fx=k0 (.p f))
 (hk:keepIn X.K (.p f)=true) (hb:Binds X.K fd ps []) (ha:PA X (e::es) t) (hW:Gl X wx) (hmW:X.mg wx=some (.p W)) (hbW:mroIn X.K W (.j "BaseException")=some true)
 (hN:X.N.B) (hi:X.N[i]? =k0 gx) (hgl:X.j.j.j.p gx=k0 .local) (A:X.N[ie]? =k0 n) (l:X.j.j.j.p n=k0 .local) (hiv:X.N[iv]? =k0 v) (T:X.j.j.j.p v=k0 .local)
 (hs:swapsWith (.w (.j fx p) (e::es) [] cp) (k0 (.j gx gp)) aq.p X.j=pure false:=by rfl) (hs2:swapsWith (.p (.j n np) fl fp) (k0 (.j v vp)) ap.p X.j=pure false:=by rfl)
 (hdb:(fx==("__debug__" :Str))=false:=by decide) (hdW:(wx==("__debug__" :Str))=false:=by decide) (hdn:(n==("__debug__" :Str))=false:=by decide) (he:starEach (e::es) X.j=(false,eval e X.j)::starEach es X.j:=by rfl) (hpl:(backTo cp (starEach es X.j)).z (·.1)=false:=by rfl)
 (hab:attributeBase (.j n np) fl X.j (eval (.j n np) X.j)=eval (.j n np) X.j:=by rfl):
 PS X (.Try [.j [.j gx gp] (.w (.j fx p) (e::es) [] cp) aq] [.j (k0 (.j wx wq)) (k0 n) [.j [.j v vp] (.p (.j n np) fl fp) ap] hp] [] [] pos) (NB X.K W sp t i ie iv fl):=by
 intro J s U H D I h
 refine wpAny_Try_except ?_
 refine wpAny_execs_cons (wpAny_Assign_Name ?_ hs)
 refine wpAny_Call_Name_kw (JC I hg hm ?_ hdb)
 refine callWith_K (h₀:=X.base) I.ok.mod.kK hk (wpAny_mono (ha cp J s U H _ I h) ?_ λ_ _ z=>(hX _ _ z).j) he hpl
 rintro us s1⟨vs,H1,j,r,q⟩
 refine ⟨j.bR,?_⟩
 have hl:(us++ []).e=ps.e:=by rw [Ad8,←r.e];exact F.len _ _ _ _ q
 refine wpAny_call (codeAny_mono (F.run X.A X.stack s1 H1 ⟨us,[]⟩ (us++ []) vs _ _ hr j.gr (hb s1 us j.bR hl) (by rw [Ad8];exact r) q) λres s' hq=> ?_)
 cases res with
 | ok fl=>
  cases fl with
  | ret u=>
   obtain⟨y,H2,I2,ry,q2⟩:=j.after hq
   exact Wp I2 hN hi (.p hgl) ry (λs9 I9=>wpAny_execs_nil (wpAny_execs_nil ⟨_,_,I9,q2⟩)) (.q hgl)
  | next=>exact False.elim hq
  | brk=>exact False.elim hq
  | cont=>exact False.elim hq
 | error ev=>
  obtain⟨x,E,tt,B,H',od,rfl,os,K,fly,un,M,comp,new,dic,C,hC,Z,q2⟩:=hq
  cases hC
  have hfr:X.A.frames=k0 (X.j::X.B):=by rw [← w];exact j.ok.frames
  have fl0:An7 B (X.j::X.B) x (.p E) (.p tt) s'.j:=by rw [← w];exact fly
  refine X9 (R:=λQ=>Heap.HeldW B (X.j::X.B) x (.p E) (.p tt) X.j.p Q/\s'.j.UpToSlots Q) (uV _ _) (λQ' k=>wpAny_looks_onW hfr hf fl0 λQ a b=>k Q ⟨a,b⟩) ?_
  rintro Q ⟨held,sm4⟩ dk4
  refine X9 (R:=λO=>An7 B (X.j::X.B) x (.p E) (.p tt) O/\Q.UpToSlots O) (JI _ _) (λQ' k=>wpAny_landsW held λO a b=>k O ⟨a,b⟩) ?_
  rintro O ⟨N,sm5⟩ dk5
  have I5:=ua j os K un M comp (by rw [w];exact N) (sm4.trans sm5)
  have ex5:ExcAt O x E:=N.there
  refine wpAny_handleBy_cons (codeAny_handlers_test (Calls.Name_function_global I5.ok.kind hW (Calls.loadGlobal_global (by rw [I5.ok.glob];exact I5.mod.glob.keeps I5.bk) hmW ?_) hdW)) (λz=>nomatch z)
  obtain⟨kc,G,y,rfl,hdx,xg,q2⟩:=q2
  refine J3 I5.bR ex5 kc hbW ?_
  refine codeAny_handlers_suite_as ?_
  refine X9 (R:=λS=>An7 B (X.j::X.B) x (.p E) (.p tt) S/\O.UpToSlots S) (JI _ _) (λQ' k=>lands_againW N λS a b=>k S ⟨a,b⟩) ?_
  rintro S ⟨fl6,sm6⟩ dk6
  have I6:=ua j os K un M comp (by rw [w];exact fl6) ((sm4.trans sm5).trans sm6)
  have L:H' x=none:=by
   cases z:H' x with
   | none=>rfl
   | some u=>
    obtain⟨o,e1⟩:=(M x u z).there
    have nf:x∉cC X.stack:=λhx=>by
     obtain⟨_,o2,e2,_⟩:=j.stack.mem hx
     rw [new]at e2
     cases e2
    have e3:=comp x o e1 (.p ⟨u,z⟩) nf
    rw [fly.2.1]at e3
    cases e3
  have d: ∀b o,s1.j.p b=k0 o->b≠x:=λb o z e=>by rw [e,new]at z;cases z
  obtain⟨o6,vs6,e6,c6,d6,_⟩:=fl6.first
  have I7:Inv X J U (aF H' x (gP x E (k0 G))) { s' with heap:=S }:=by
   refine I6.kB L (λz=> ?_) (λy c z=> ?_) (λp hp=> ?_) (λb u z=> ?_) (NF e6 c6 (by unfold notCls;rw [d6]) λdx' z=> ?_)
   .obtain⟨m,⟨o,_,_,Y,_⟩,_⟩:=j.loc
    exact d _ o Y z.p
   .obtain⟨_,o,Y,_⟩:=j.cell y c z
    exact d c o Y
   .exact d p.1 _ (j.pin p hp).1
   .obtain⟨o,Y⟩:=j.base.there b u z (by rw [hex];simp)
    exact d b o Y
   .obtain⟨o,e0,d0⟩:=dic dx' z
    obtain⟨o',e1,d1⟩:=((dk4.trans dk5).trans dk6) x o e0
    have:=e6.p.j e1
    cases this
    exact d1.j d0
  refine Wp I7 hN A (.p l) (v:= .p x) rfl (λs8 P=> ?_) (.q l)
  have hiU:ie<U.e:=by rw [I.len];exact(Aa1.p A).1
  obtain⟨m8,hn8,hl8⟩:=P.loc
  obtain⟨u8,r8,l8⟩:=hl8 ie n (.p x) A (Ab6 hiU) (.p l)
  cases r8
  have hk8:X.j.u n=k0 .local:=l
  have em:m8 n=k0 (.p x):=by
   rcases l8 with⟨_,z⟩ | ⟨z,_⟩
   .exact z
   .rcases z with z | z<;>(rw [hk8]at z;cases z)
  have ea:aF H' x (gP x E (k0 G)) x=k0 (gP x E (k0 G)):=zb
  have edx:aF H' x (gP x E (k0 G)) G=k0 (.xd [(fl,y)]):=by rw [Za (Zb hdx L)];exact hdx
  obtain⟨o8,ho8,hc8,V,hd8⟩:=(P.aX x _ ea).1
  obtain⟨mA,hmA,rA⟩: ∃mA,s8.j.Ns1 G mA/\ ∀g,b0 (Ah1 g [(fl,y)]) (mA g):=P.aX G _ edx
  have rf:=rA fl
  rw [show Ah1 fl [(fl,y)]=k0 y by simp [Ah1]]at rf
  obtain⟨u',hu,ru⟩:=b0.some_of rf
  refine wpAny_execs_cons (wpAny_Assign_Name (t9 hab (wpAny_Name (wpAny_loadName_local P.ok.kind hk8 hn8 em ?_) hdn)) hs2)
  refine F9 P.bR ho8 hc8 V (hd8 G rfl) hmA hu (ZZ ru) xg.ov xg.no xg.ga xg.gh ?_
  refine Wp (P.tok _) hN hiv (.p T) (v:=y) ru (λs9 I9=> ?_) (.q T)
  refine wpAny_execs_nil ?_
  exact M1 I9 hN A l λs10 I10=>⟨_,_,I10,q2 x L⟩
end L2
set_option genSizeOfSpec false
namespace M
abbrev Tx:=Y0 Nat
def uR: ∃n:Nat,n=1000000:=⟨_,rfl⟩
noncomputable def bp:Nat:=Aj3 uR
def Gg:bp=1000000:=Ah4 uR
def u4: ∃n:Int,n=1073741824:=⟨_,rfl⟩
noncomputable def lz:Int:=Aj3 u4
def GS:lz=1073741824:=Ah4 u4
def AE: ∃n:Int,n=2 ^ 62:=⟨_,rfl⟩
noncomputable def f7:Int:=Aj3 AE
def GT:f7=2 ^ 62:=Ah4 AE
def yh: ∃n:Int,n=2 ^ 64:=⟨_,rfl⟩
noncomputable def eD:Int:=Aj3 yh
def GY:eD=2 ^ 64:=Ah4 yh
def u5: ∃n:Int,n=1000000:=⟨_,rfl⟩
noncomputable def BP:Int:=Aj3 u5
def Kd:BP=1000000:=Ah4 u5
def sd: ∃n:Nat,n=2 ^ 64:=⟨_,rfl⟩
noncomputable def lG:Nat:=Aj3 sd
def GC:lG=2 ^ 64:=Ah4 sd
inductive D where
 | ak
 | bl (b:Bool)
 | int (i:Int)
 | str (s:Tx)
 | tup (xs:List D)
 | lst (xs:List D)
 | ref (r:Nat)
 | err (c f:String) (d:D)
open M renaming D.int→M.D.o,D.str→M.D.j,D.ref→M.D.p,D.tup→M.D.q,D.lst→M.D.u,D.bl→M.D.C
inductive W where
 | v (d:D)
 | own (xs:List D)
 | bor (xs:List D)
open M renaming W.own→M.W.j,W.bor→M.W.p
abbrev WK:=Int×Y0 Int×Y0 Int
inductive Cell where
 | lst (xs:List D)
 | aP (kvs:List (Tx×D))
 | obj (c:String) (fs:List (String×D))
open M renaming Cell.lst→M.Cell.u
abbrev AH:=Y0 Cell
abbrev Sl:=Y0 (Y1 W)
inductive R (α:Type) where
 | ok (a:α) (h:AH)
 | exc (d:D) (h:AH)
 | fail
open M renaming R.ok→M.R.j,R.fail→M.R.q
noncomputable def R.bind {b c:Type}:R b->(b->AH->R c)->R c
 | .j a h,f=>f a h
 | .exc d h,_=> .exc d h
 | .q,_=> .q
open M renaming R.bind→M.R.p
inductive O where
 | next (τ:Sl) (h:AH)
 | ret (w:W) (h:AH)
 | brk (τ:Sl) (h:AH)
 | cont (τ:Sl) (h:AH)
 | exc (d:D) (h:AH)
 | fail
open M renaming O.fail→M.O.q,O.next→M.O.p
noncomputable def O.seq:O->(Sl->AH->O)->O
 | .p τ h,f=>f τ h
 | o,_=>o
noncomputable def R.cH {b:Type}:R b->(b->AH->O)->O
 | .j a h,f=>f a h
 | _,_=> .q
open M renaming R.cH→M.R.u
section
variable {α β:Type}
@[simp] theorem R.af (a) (h) (f:α->AH->R β):(R.ok a h).p f=f a h:=rfl
@[simp] theorem R.aw (a) (h) (f:α->AH->O):(R.ok a h).u f=f a h:=rfl
@[simp] theorem O.bx (τ) (h) (f):(O.next τ h).seq f=f τ h:=rfl
@[simp] theorem O.ck (w) (h) (f):(O.ret w h).seq f= .ret w h:=rfl
@[simp] theorem O.eU (d) (h) (f):(O.exc d h).seq f= .exc d h:=rfl
end
inductive Op where
 | add | sub | mul | fdiv | mod | pow | shl | shr | band | bor | bxor
 deriving DecidableEq
inductive Cp where
 | eq | ne | lt | le | gt | ge | mem | ft | dt | kT
 deriving DecidableEq
inductive Ty where
 | ak | bool | int | str | list | tuple
 deriving DecidableEq
inductive Mt where
 | index | count | cc
 deriving DecidableEq
inductive Bi where
 | len | int | list | tuple | sum | all | any | sorted | divmod | str | min | max | abs
 deriving DecidableEq
set_option genInjectivity false
mutual
inductive E where
 | var (i:Nat)
 | con (x:String)
 | int (i:Int)
 | bl (b:Bool)
 | ak
 | str (s:Tx)
 | tup (es:Es)
 | lst (es:Es)
 | bin (o:Op) (a b:E)
 | cmp (o:Cp) (a b:E)
 | chain (o p:Cp) (a b c:E)
 | fi (neg:Bool) (a:E)
 | neg (a:E)
 | inv (a:E)
 | not (a:E)
 | and (a b:E)
 | or (a b:E)
 | call (f:String) (es:Es)
 | bi (b:Bi) (es:Es)
 | cu (a:E) (t:Ty)
 | ix (a b:E)
 | sl (a lo hi:E)
 | fX (a lo:E)
 | gA (a hi:E)
 | eg (a:E)
 | comp (tg:List Nat) (one:Bool) (k:Nat) (aD:List Nat) (it:It) (y7:Bool) (c elt:E)
 | du
 | fc (i:Nat) (a:E)
 | cT (neg:Bool) (a:E) (i:Nat)
 | eF (i:Nat)
 | gi (k1:Tx) (a:E) (k2:Tx) (b:E) (k3:Tx) (c:E) (i:Nat)
 | share (a:E)
 | cg (a:E)
 | ef (s:Tx) (ts:List Tx)
 | d5 (m:Mt) (a:E) (es:Es)
 | make (c q:String) (es:Es)
 | aL (a:E) (c f:String)
 | bS (a:E) (c m q:String) (es:Es)
 | fy (a:E)
 | fm (f:String) (a:E)
inductive Es where
 | nil
 | cons (e:E) (es:Es)
inductive It where
 | seq (e:E)
 | au (a:E)
 | enum (e:E)
 | cA (e:E)
end
set_option genInjectivity true
mutual
inductive S where
 | set (i:Nat) (e:E)
 | ag (i:Nat) (e:E)
 | e8 (is:List Nat) (e:E)
 | bZ (o k e:E)
 | app (i:Nat) (e:E)
 | ext (i:Nat) (e:E)
 | cD (i:Nat) (k e:E)
 | ek (i:Nat) (k e:E)
 | bW (i:Nat) (c f:String) (e:E)
 | fF (a e:E)
 | ex (e:E)
 | ret (e:E)
 | iff (c:E) (a b:Ss)
 | kq (n:Nat) (c:E) (b:Ss)
 | for (tg:List Nat) (one:Bool) (it:It) (b:Ss)
 | fW (o k:E) (j:Nat) (e:E)
 | eR (i:Nat) (f:String) (es:Es) (c:String) (nm iv:Nat) (fl:String)
 | bO (i:Nat) (c f:String) (e:E)
 | dN (c f:String) (e:E)
 | eL
inductive Ss where
 | nil
 | cons (s:S) (ss:Ss)
end
noncomputable section
mutual
@[simp,reducible] noncomputable def Gd:D->Bool
 | .p _=>k9
 | .q xs=>Gc xs
 | .u xs=>Gc xs
 | .err _ _ _=>k9
 | _=>u0
@[simp,reducible] noncomputable def Gc:List D->Bool
 | []=>u0
 | x::xs=>Gd x&&Gc xs
end
mutual
@[simp,reducible] noncomputable def dep:D->Nat
 | .q xs=>GG xs+1
 | .u xs=>GG xs+1
 | _=>0
@[simp,reducible] noncomputable def GG:List D->Nat
 | []=>0
 | x::xs=>max (dep x) (GG xs)
end
def Cell.pure:Cell->Bool
 | .obj _ fs=>Gc (fs.j (·.2))
 | _=>u0
def Gx (h:AH):Bool:=h.K Cell.pure
@[reducible] def GU (a b:D):Bool:=Gd a&&Gd b&&y9 (dep a<150)
mutual
@[simp] noncomputable def res (h:AH):D->D
 | .p r=>match h[r]? with
  | some (.u xs)=> .u xs
  | _=> .p r
 | .q xs=> .q (GO h xs)
 | .u xs=> .u (GO h xs)
 | d=>d
@[simp] noncomputable def GO (h:AH):List D->List D
 | []=> []
 | x::xs=>res h x::GO h xs
end
mutual
@[simp] noncomputable def cw:D->D->Bool
 | .ak,.ak=>u0
 | .C a,.C b=>a==b
 | .o i,.o j=>i==j
 | .C a,.o j=>(a.j:Int)==j
 | .o i,.C b=>i==(b.j:Int)
 | .j s,.j t=>s==t
 | .q xs,.q ys=>GL xs ys
 | .u xs,.u ys=>GL xs ys
 | _,_=>k9
@[simp] noncomputable def GL:List D->List D->Bool
 | [],[]=>u0
 | x::xs,y::ys=>cw x y&&GL xs ys
 | _,_=>k9
end
noncomputable def W.d:W->Y1 D
 | .v d=>k0 d
 | .j xs=>k0 (.u xs)
 | .p _=>y0
noncomputable def W.arg:W->W
 | .j xs=> .p xs
 | w=>w
@[simp] theorem W.b4 (d):(W.v d).arg= .v d:=rfl
@[simp] theorem W.eW (xs):(W.own xs).arg= .p xs:=rfl
@[simp] theorem W.hY (xs):(W.bor xs).arg= .p xs:=rfl
def W.dd (h:AH):W->D
 | .v d=>res h d
 | .j xs=> .u (GO h xs)
 | .p xs=> .u (GO h xs)
open M renaming W.dd→M.W.u
noncomputable def W.cx (h:AH):W->Y1 (Y0 D)
 | .v (.u xs)=>k0 xs
 | .j xs=>k0 xs
 | .p xs=>k0 xs
 | .v (.p r)=>match h[r]? with
  | some (.u xs)=>k0 xs
  | _=>y0
 | _=>y0
noncomputable def W.seq? (h:AH):W->Y1 (Y0 D)
 | .v (.q xs)=>k0 xs
 | .v (.u xs)=>k0 xs
 | .j xs=>k0 xs
 | .p xs=>k0 xs
 | .v (.p r)=>match h[r]? with
  | some (.u xs)=>k0 xs
  | _=>y0
 | _=>y0
noncomputable def R.of {b:Type}(h:AH):Y1 b->R b
 | some a=> .j a h
 | none=> .q
@[simp] noncomputable abbrev ao (d:D) (h:AH):R W:= .j (.v d) h
def G7 (h:AH):W->Y1 Bool
 | .v .ak=>k0 k9
 | .v (.C b)=>k0 b
 | .v (.o i)=>k0 (i != 0)
 | .v (.j s)=>if s.e<=bp then k0 (!s.y)else y0
 | .v (.q xs)=>k0 (!xs.y)
 | .v (.u xs)=>k0 (!xs.y)
 | .j xs=>k0 (!xs.y)
 | .p xs=>k0 (!xs.y)
 | _=>y0
@[simp] theorem R.ar (h) (a:α):R.of h (k0 a)= .j a h:=rfl
@[simp] theorem W.lI (d):(W.v d).d=k0 d:=rfl
@[simp] theorem W.fZ (xs):(W.own xs).d=k0 (.u xs):=rfl
@[simp] theorem W.hB (h) (d):(W.v d).u h=res h d:=rfl
@[simp] theorem W.i8 (h) (xs):(W.own xs).u h= .u (GO h xs):=rfl
@[simp] theorem W.kv (h) (xs):(W.bor xs).u h= .u (GO h xs):=rfl
@[simp] theorem W.mE (h) (xs):(W.v (.u xs)).cx h=k0 xs:=rfl
@[simp] theorem GR (h) (b):G7 h (.v (.C b))=k0 b:=rfl
@[simp] theorem A9 (h) (i):G7 h (.v (.o i))=k0 (i != 0):=rfl
noncomputable def Kf (i j:Int):Y1 Int:=
 if 0<=i then(if 0<=j then k0 ((i.j &&& j.j:Nat):Int)else k0 ((i.j-(i.j &&& (-j-1).j):Nat):Int))else y0
noncomputable def la (i j:Int):Y1 Int:=if 0<=i/\0<=j then k0 ((i.j ||| j.j:Nat):Int)else y0
noncomputable def KB (i j:Int):Y1 Int:=if 0<=i/\0<=j then k0 ((i.j ^^^ j.j:Nat):Int)else y0
def Gj (o:Op) (i j:Int):Y1 Int:=match o with
 | .add=>k0 (i+j)
 | .sub=>k0 (i-j)
 | .mul=>if(-(eD)<i/\i<eD)\/(-(eD)<j/\j<eD)then k0 (i*j)else y0
 | .fdiv=>if 0<j/\j<lz then k0 (i / j)else y0
 | .mod=>if 0<j then k0 (i % j)else y0
 | .pow=>if 0<=j/\j<=BP/\i.p<lG then k0 (i ^ j.j)else y0
 | .shl=>if 0<=j/\j<=BP/\i.p<lG then k0 (i*2 ^ j.j)else y0
 | .shr=>if 0<=j then k0 (i / 2 ^ j.j)else y0
 | .band=>Kf i j
 | .bor=>la i j
 | .bxor=>KB i j
noncomputable def W.int? :W->Y1 Int
 | .v (.o i)=>k0 i
 | _=>y0
open M renaming W.int?→M.W.q
noncomputable def W.dY :W->Y1 Tx
 | .v (.j s)=>k0 s
 | _=>y0
noncomputable def W.fA :W->Y1 (Y0 D)
 | .v (.q s)=>k0 s
 | _=>y0
def KJ (xs a:Y0 D) (h:AH):R W:=if xs.e+a.e<=bp then .j (.j (xs++a)) h else .q
def Kz (xs:Y0 D) (j:Int) (h:AH):R W:=if -1000<=j/\j<=1000/\xs.e*j.j<=bp then .j (.j (Aa9 j.j xs).L) h else .q
def KI (a b:W) (h:AH):R W:=match a.dY,b.dY with
 | some s,k0 t=>if s.e+t.e<=bp then ao (.j (s++t)) h else .q
 | _,_=>match a.fA,b.fA with
  | some xs,k0 ys=>if xs.e+ys.e<=bp then ao (.q (xs++ys)) h else .q
  | _,_=>match a.cx h,b.cx h with
   | some xs,k0 ys=>KJ xs ys h
   | _,_=> .q
noncomputable def W.iH (h:AH):W->Y1 (Y0 D)
 | .j xs=>k0 xs
 | .p xs=>k0 xs
 | .v (.p r)=>match h[r]? with
  | some (.u xs)=>k0 xs
  | _=>y0
 | _=>y0
def KH (a b:W) (h:AH):R W:=match a.dY,b.q with
 | some s,k0 j=>if 0<=j/\j<=1000/\s.e*j.j<=bp then ao (.j (Aa9 j.j s).L) h else .q
 | _,_=>match a.iH h,b.q with
  | some xs,k0 j=>Kz xs j h
  | _,_=> .q
def GX (o:Op) (a b:W) (h:AH):R W:=match a.q,b.q with
 | some i,k0 j=>(R.of h (Gj o i j)).p λk h=>ao (.o k) h
 | _,_=>match o with
  | .add=>KI a b h
  | .mul=>KH a b h
  | _=> .q
def inD (x:D) (xs:Y0 D):Bool:=xs.z λy=>cw y x
@[simp,reducible] noncomputable def Ko:D->Bool
 | .ak=>u0
 | .C _=>u0
 | .o _=>u0
 | .j _=>u0
 | _=>k9
noncomputable def A0:D->Y1 (Y0 D)
 | .u ys=>k0 ys
 | .q ys=>k0 ys
 | _=>y0
def G9 (a b:W) (h:AH):Y1 Bool:=match A0 (b.u h)with
 | some ys=>if Gd (a.u h)&&Gc ys&&y9 (GG ys<140)then k0 (inD (a.u h) ys)else y0
 | none=>y0
noncomputable def KC (o:Cp) (i j:Int):Y1 Bool:=match o with
 | .lt=>k0 (y9 (i<j))
 | .le=>k0 (y9 (i<=j))
 | .gt=>k0 (y9 (j<i))
 | .ge=>k0 (y9 (j<=i))
 | _=>y0
noncomputable def Kv:W->W->Y1 Bool
 | .v .ak,.v (.C _)=>k0 k9
 | .v (.C b),.v (.C c)=>k0 (b==c)
 | _,_=>y0
def Gr (o:Cp) (a b:W) (h:AH):Y1 Bool:=match o with
 | .eq=>if GU (a.u h) (b.u h)then k0 (cw (a.u h) (b.u h))else y0
 | .ne=>if GU (a.u h) (b.u h)then k0 (!cw (a.u h) (b.u h))else y0
 | .mem=>G9 a b h
 | .ft=>(G9 a b h).j (!·)
 | .dt=>Kv a b
 | .kT=>(Kv a b).j (!·)
 | o=>match a.q,b.q with
  | some i,k0 j=>KC o i j
  | _,_=>y0
noncomputable def d4 (n:Nat) (i:Int):Y1 Nat:=if 0<=i then(if i<n then k0 i.j else y0)else if -(n:Int)<=i then k0 (i+n).j else y0
def a8 {a:Type}(xs:Y0 a) (i:Int):Y1 a:=(d4 xs.e i).p λj=>xs[j]?
def dJ (a b:W) (h:AH):Y1 D:=match b.q with
 | some i=>match a.dY with
  | some s=>if s.e<=bp then(a8 s i).j λc=> .j [c]else y0
  | none=>(a.seq? h).p λxs=>a8 xs i
 | none=>y0
def aV (n d:Nat):Y1 Int->Nat
 | none=>d
 | some v=>if v<0 then(v+n).j else min v.j n
noncomputable def cut {a:Type}(xs:Y0 a) (b c:Y1 Int):Y0 a:=(xs.J (aV xs.e 0 b)).A (aV xs.e xs.e c-aV xs.e 0 b)
def gN (a:W) (b c:Y1 Int) (h:AH):R W:=match a.dY with
 | some s=>if s.e<=bp then ao (.j (cut s b c)) h else .q
 | none=>match a.fA with
  | some xs=>ao (.q (cut xs b c)) h
  | none=>match a.cx h with
   | some xs=> .j (.j (cut xs b c)) h
   | none=> .q
noncomputable def Km:Y0 D->Y1 Int
 | []=>k0 0
 | .o i::r=>(Km r).j (i+ ·)
 | _::_=>y0
noncomputable def GN:Y0 D->Y1 (Y0 Int)
 | []=>k0 []
 | .o i::r=>(GN r).j (i:: ·)
 | _::_=>y0
noncomputable def GQ:Y0 D->Y1 (Y0 Tx)
 | []=>k0 []
 | .j s::r=>(GQ r).j (s:: ·)
 | _::_=>y0
noncomputable def Np:Y0 Int->Y1 Int
 | []=>y0
 | i::r=>k0 (r.U (λa b=>if b>a then b else a) i)
noncomputable def C7:Y0 Int->Y1 Int
 | []=>y0
 | i::r=>k0 (r.U (λa b=>if b<a then b else a) i)
noncomputable def Ki (x:Tx):Y0 Tx->Y0 Tx
 | []=> [x]
 | y::ys=>if y<x then y::Ki x ys else x::y::ys
def GB:Y0 Tx->Y0 Tx
 | []=> []
 | x::xs=>Ki x (GB xs)
noncomputable def Kk (x:Tx):Y0 Tx->Y1 Nat
 | []=>y0
 | y::ys=>if y=x then k0 0 else(Kk x ys).j (· +1)
noncomputable def Kn:Y0 D->Y1 (Y0 Bool)
 | []=>k0 []
 | .C b::r=>(Kn r).j (b:: ·)
 | _::_=>y0
def kO (b:Bi) (w:W) (h:AH):R W:=match b with
 | .len=>match w.dY with
  | some s=>if s.e<=bp then ao (.o s.e) h else .q
  | none=>(R.of h (w.seq? h)).p λxs h=>ao (.o xs.e) h
 | .int=>match w with
  | .v (.o i)=>ao (.o i) h
  | .v (.C b)=>ao (.o (b.j:Int)) h
  | _=> .q
 | .list=>(R.of h (w.seq? h)).p λxs h=> .j (.j xs) h
 | .tuple=>(R.of h (w.seq? h)).p λxs h=>ao (.q xs) h
 | .sum=>(R.of h ((w.cx h).p λxs=>if xs.e<=bp then Km xs else y0)).p λi h=>ao (.o i) h
 | .all=>(R.of h ((w.cx h).p Kn)).p λbs h=>ao (.C (bs.K id)) h
 | .any=>(R.of h ((w.cx h).p Kn)).p λbs h=>ao (.C (bs.z id)) h
 | .max=>(R.of h (((w.cx h).p GN).p Np)).p λi h=>ao (.o i) h
 | .min=>(R.of h (((w.cx h).p GN).p C7)).p λi h=>ao (.o i) h
 | .sorted=>(R.of h ((w.cx h).p GQ)).p λa h=>if a.e<64 then .j (.j ((GB a).j .j)) h else .q
 | _=> .q
noncomputable def nL (m:Mt) (x:W) (h:AH):Bool:=match m with
 | .index=>x.fA.q
 | .count=>(x.cx h).q
 | .cc=>(x.cx h).q
@[simp] theorem vQ (xs) (h):nL .index (.v (.q xs)) h=true:=rfl
noncomputable def Kl:Nat->Y0 D->Y0 D
 | _,[]=> []
 | i,d::ds=> .q [.o (i:Int),d]::Kl (i+1) ds
def Kp (d:D):Y0 D->Y1 Nat
 | []=>y0
 | y::ys=>if cw y d=u0 then k0 0 else(Kp d ys).j (· +1)
def KA (a b:W) (h:AH):Y1 Nat:=match b.u h with
 | .u ys=>if(Gd (a.u h)&&Gc ys&&y9 (GG ys<140))&&y9 (ys.e<=bp)then Kp (a.u h) ys else y0
 | _=>y0
def nJ (m:Mt) (x:W) (ws:Y0 W) (h:AH):R W:=match m,ws with
 | .index,[w]=>(R.of h (x.fA.p GQ)).p λa h=>(R.of h w.dY).p λt h=>(R.of h (Kk t a)).p λn h=>if a.e<=bp then ao (.o (n:Int)) h else .q
 | .count,[w]=>(R.of h ((x.cx h).p GN)).p λis h=>(R.of h w.q).p λi h=>if is.e<=bp then ao (.o ((is.count i:Nat):Int)) h else .q
 | .cc,[w]=>(R.of h (KA w x h)).p λn h=>ao (.o (n:Int)) h
 | _,_=> .q
def ya (b:Bi) (i j:Int) (h:AH):R W:=match b with
 | .divmod=>if 0<j/\j<lz then ao (.q [.o (i / j),.o (i % j)]) h else .q
 | .min=>ao (.o (if j<i then j else i)) h
 | .max=>ao (.o (if j>i then j else i)) h
 | _=> .q
def dZ (b:Bi) (ws:Y0 W) (h:AH):R W:=match ws with
 | [w]=>kO b w h
 | [v,w]=>(R.of h v.q).p λi h=>(R.of h w.q).p λj h=>ya b i j h
 | _=> .q
@[simp] theorem GH (o) (i j) (h):GX o (.v (.o i)) (.v (.o j)) h=(R.of h (Gj o i j)).p λk h=>ao (.o k) h:=rfl
@[simp] theorem Zc (i j):Gj .add i j=k0 (i+j):=rfl
@[simp] theorem Qe (i j):Gj .sub i j=k0 (i-j):=rfl
@[simp] theorem MW (s u) (h):GX .add (.v (.j s)) (.v (.j u)) h=if s.e+u.e<=bp then ao (.j (s++u)) h else .q:=rfl
@[simp] theorem jS (s u) (h):GX .add (.v (.q s)) (.v (.q u)) h=if s.e+u.e<=bp then ao (.q (s++u)) h else .q:=rfl
@[simp] theorem EY (s u) (h):GX .add (.j s) (.j u) h=if s.e+u.e<=bp then .j (.j (s++u)) h else .q:=rfl
@[simp] theorem Z1 (i j) (h):Gr .lt (.v (.o i)) (.v (.o j)) h=k0 (y9 (i<j)):=rfl
@[simp] theorem j6 (i j) (h):Gr .le (.v (.o i)) (.v (.o j)) h=k0 (y9 (i<=j)):=rfl
@[simp] theorem N4 (i j) (h):Gr .gt (.v (.o i)) (.v (.o j)) h=k0 (y9 (j<i)):=rfl
@[simp] theorem Ov (i j) (h):Gr .ge (.v (.o i)) (.v (.o j)) h=k0 (y9 (j<=i)):=rfl
@[simp] theorem Nh (a b) (h):Gr .eq a b h=if GU (a.u h) (b.u h)then k0 (cw (a.u h) (b.u h))else none:=rfl
@[simp] theorem EE (a b) (h):Gr .ne a b h=if GU (a.u h) (b.u h)then k0 (!cw (a.u h) (b.u h))else none:=rfl
@[simp] theorem int?_int (i):(W.v (.o i)).q =k0 i:=rfl
@[simp] theorem len_str (s) (h):dZ .len [.v (.j s)] h=if s.e<=bp then ao (.o s.e) h else .q:=rfl
@[simp] theorem wg (s) (h):dZ .len [.v (.q s)] h=ao (.o s.e) h:=rfl
@[simp] theorem QC (s) (h):dZ .len [.v (.u s)] h=ao (.o s.e) h:=rfl
@[simp] theorem int_int (i) (h):dZ .int [.v (.o i)] h=ao (.o i) h:=rfl
@[simp] theorem ub (s) (h):dZ .list [.v (.q s)] h= .j (.j s) h:=rfl
@[simp] theorem wW (s) (h):dZ .tuple [.j s] h=ao (.q s) h:=rfl
@[simp] theorem F7 (s) (h):dZ .tuple [.p s] h=ao (.q s) h:=rfl
@[simp] theorem Oz (s) (h):dZ .all [.j s] h=(R.of h (Kn s)).p λbs h=>ao (.C (bs.K id)) h:=rfl
@[simp] theorem OF (s) (h):dZ .any [.j s] h=(R.of h (Kn s)).p λbs h=>ao (.C (bs.z id)) h:=rfl
@[simp] theorem A7 (s) (h):dZ .sum [.j s] h=(R.of h (if s.e<=bp then Km s else y0)).p λi h=>ao (.o i) h:=rfl
@[simp] theorem Z8 (i j) (h):dZ .divmod [.v (.o i),.v (.o j)] h=if 0<j/\j<lz then ao (.q [.o (i / j),.o (i % j)]) h else .q:=rfl
@[simp] theorem pR (s) (i) (h):dJ (.v (.j s)) (.v (.o i)) h=if s.e<=bp then(a8 s i).j λc=> .j [c]else none:=rfl
@[simp] theorem ae (s) (i) (h):dJ (.v (.q s)) (.v (.o i)) h=a8 s i:=rfl
@[simp] theorem Zq (s) (i) (h):dJ (.v (.u s)) (.v (.o i)) h=a8 s i:=rfl
@[simp] theorem JJ (s) (i) (h):dJ (.j s) (.v (.o i)) h=a8 s i:=rfl
@[simp] theorem DG (s) (i) (h):dJ (.p s) (.v (.o i)) h=a8 s i:=rfl
@[simp] theorem sQ (s) (lo hi) (h):gN (.v (.u s)) lo hi h= .j (.j (cut s lo hi)) h:=rfl
@[simp] theorem Og (s) (lo hi) (h):gN (.p s) lo hi h= .j (.j (cut s lo hi)) h:=rfl
abbrev dA:=Y0 (String×String)
noncomputable def Kj (a:dA):Nat->String->Y0 String
 | 0,_=> []
 | n+1,c=>c::match a.p c with
  | some b=>Kj a n b
  | none=> []
noncomputable def K8:W->Y1 Ty
 | .v .ak=>k0 .ak
 | .v (.C _)=>k0 .bool
 | .v (.o _)=>k0 .int
 | .v (.j _)=>k0 .str
 | .v (.q _)=>k0 .tuple
 | .v (.u _)=>k0 .list
 | .j _=>k0 .list
 | .p _=>k0 .list
 | .v (.p _)=>y0
 | .v (.err _ _ _)=>y0
noncomputable def Ty.le:Ty->Ty->Bool
 | .bool,.int=>u0
 | a,b=>y9 (a=b)
def cu (t:Ty) (w:W):Y1 Bool:=(K8 w).j λu=>u.le t
@[simp] theorem EX (t) (i):cu t (.v (.o i))=k0 (Ty.le .int t):=rfl
@[simp] theorem M9 (t) (s):cu t (.v (.q s))=k0 (Ty.le .tuple t):=rfl
@[simp] theorem Ty.hU (t):Ty.le t t=true:=by cases t<;>rfl
@[simp] theorem Ty.mB:Ty.le .int .tuple=false:=rfl
def Av (a:dA) (w:W) (b:Y0 String):Y1 Bool:=match w with
 | .v (.err c _ _)=>k0 (b.z (Kj a 8 c).u)
 | _=>y0
@[simp] theorem Kt (cl) (c f) (d) (ts):Av cl (.v (.err c f d)) ts=k0 (ts.z (Kj cl 8 c).u):=rfl
@[simp] noncomputable def Gm:Sl->Nat->Y1 W
 | [],_=>y0
 | x::_,0=>x
 | _::r,n+1=>Gm r n
@[simp] noncomputable def Gz:Sl->Nat->W->Sl
 | [],_,_=> []
 | _::r,0,w=>k0 w::r
 | x::r,n+1,w=>x::Gz r n w
def Gi (τ:Sl) (i:Nat):Y1 W:=match Gm τ i with
 | some (.j xs)=>k0 (.p xs)
 | o=>o
@[simp] theorem Ka (e:Gm τ i=k0 (.j xs)):Gi τ i=k0 (.p xs):=by simp [Gi,e]
@[simp] theorem Kr (e:Gm τ i=k0 (.v d)):Gi τ i=k0 (.v d):=by simp [Gi,e]
@[simp] theorem Ke (e:Gm τ i=k0 (.p xs)):Gi τ i=k0 (.p xs):=by simp [Gi,e]
@[simp] noncomputable def ba:Y0 Nat->Y0 D->Sl->Y1 Sl
 | [],[],τ=>k0 τ
 | i::is,d::ds,τ=>ba is ds (Gz τ i (.v d))
 | _,_,_=>y0
def Gq (a:Y0 Nat) (one:Bool) (d:D) (τ:Sl):Y1 Sl:=match one with
 | true=>match a with
  | [i]=>k0 (Gz τ i (.v d))
  | _=>y0
 | false=>match d with
  | .q ds=>ba a ds τ
  | _=>y0
noncomputable def Gy (step:D->AH->R (Y1 D)):Y0 D->AH->R (Y0 D)
 | [],h=> .j [] h
 | d::ds,h=>match step d h with
  | .j o h1=>match Gy step ds h1 with
   | .j r h2=> .j (match o with | some x=>x::r | none=>r) h2
   | _=> .q
  | _=> .q
structure Fx where
 call:String->List W->AH->R W
 cl:dA
 con:List (String×D)
open M renaming Fx.call→M.Fx.p
noncomputable def GF (h:AH):Y1 W->Y1 (Nat×Y0 D)
 | some (.v (.p r))=>match h[r]? with
  | some (.u xs)=>k0 (r,xs)
  | _=>y0
 | _=>y0
noncomputable def G6 (h:AH):Y1 W->Y1 (Nat×String×Y0 (String×D))
 | some (.v (.p r))=>match h[r]? with
  | some (.obj c fs)=>k0 (r,c,fs)
  | _=>y0
 | _=>y0
noncomputable def a0 (f:String) (d:D):Y0 (String×D)->Y0 (String×D)
 | []=> [(f,d)]
 | (g,x)::r=>if g=f then(g,d)::r else(g,x)::a0 f d r
noncomputable def Be:W->Y1 (Y0 D)
 | .v (.u xs)=>k0 xs
 | .j xs=>k0 xs
 | _=>y0
noncomputable def GV (h:AH):Y1 W->Y1 (Nat×Y0 (Tx×D))
 | some (.v (.p r))=>match h[r]? with
  | some (.aP ks)=>k0 (r,ks)
  | _=>y0
 | _=>y0
noncomputable def GE (a:Y0 (Tx×D)) (k:Tx) (d:D):Y0 (Tx×D):=if a.z (λp=>y9 (p.1=k))then a.j (λp=>if p.1=k then(p.1,d)else p)else a++ [(k,d)]
noncomputable def fc (w:W) (o:Y1 (Nat×Y0 (Tx×D))) (h:AH):R W:=match w,o with
 | .v (.j k),k0 (_,ks)=>match ks.p k with
  | some d=>ao d h
  | none=> .q
 | _,_=> .q
noncomputable def cT (neg:Bool) (w:W) (o:Y1 (Nat×Y0 (Tx×D))) (h:AH):R W:=match w,o with
 | .v (.j k),k0 (_,ks)=>ao (.C (if neg then !(ks.p k).q else(ks.p k).q)) h
 | _,_=> .q
noncomputable def gi (T:Y0 (Tx×W)) (o:Y1 W) (h:AH):R W:=match o with
 | some (.v (.j k))=>match T.p k with
  | some (.v d)=>if Ko d then ao d h else .q
  | _=> .q
 | _=> .q
noncomputable def Kb (i:Int):Nat:=if i=0 then 0 else Nat.log2 i.p+1
noncomputable def G8:R W->Y1 Int
 | .j (.v (.o y)) []=>k0 y
 | _=>y0
noncomputable def GW (key:Int->R W):Int->Int->Y0 Int->Y1 Int
 | b,_,[]=>k0 b
 | b,a,x::xs=>(G8 (key x)).p λk=>if k<a then GW key x k xs else GW key b a xs
def Kh (key:Int->R W):Y1 (Y0 Int)->Y1 Int
 | some (x::xs)=>(G8 (key x)).p λk=>GW key x k xs
 | _=>y0
mutual
@[simp] noncomputable def eval (F:Fx):E->Sl->AH->R W
 | .var i,τ,h=>match Gi τ i with
  | some w=> .j w h
  | none=> .q
 | .con x,_,h=>match F.con.p x with
  | some d=>ao d h
  | none=> .q
 | .int i,_,h=>ao (.o i) h
 | .bl b,_,h=>ao (.C b) h
 | .ak,_,h=>ao .ak h
 | .str s,_,h=>ao (.j s) h
 | .tup es,τ,h=>(Gu F es τ h).p λds h=>ao (.q ds) h
 | .lst es,τ,h=>(Gu F es τ h).p λds h=> .j (.j ds) h
 | .bin o a b,τ,h=>(eval F a τ h).p λx h=>(eval F b τ h).p λy h=>GX o x y h
 | .cmp o a b,τ,h=>(eval F a τ h).p λx h=>(eval F b τ h).p λy h=>(R.of h (Gr o x y h)).p λc h=>ao (.C c) h
 | .chain o p a b c,τ,h=>(eval F a τ h).p λx h=>(eval F b τ h).p λy h=>(R.of h (Gr o x y h)).p λt h=>match t with
  | true=>(eval F c τ h).p λz h=>(R.of h (Gr p y z h)).p λc h=>ao (.C c) h
  | false=>ao (.C k9) h
 | .fi neg a,τ,h=>(eval F a τ h).p λx h=>match x with
  | .v .ak=>ao (.C (!neg)) h
  | _=>ao (.C neg) h
 | .neg a,τ,h=>(eval F a τ h).p λx h=>(R.of h x.q).p λi h=>ao (.o (-i)) h
 | .inv a,τ,h=>(eval F a τ h).p λx h=>(R.of h x.q).p λi h=>ao (.o (-i-1)) h
 | .not a,τ,h=>(eval F a τ h).p λx h=>(R.of h (G7 h x)).p λc h=>ao (.C (!c)) h
 | .and a b,τ,h=>(eval F a τ h).p λx h=>(R.of h (G7 h x)).p λc h=>match c with
  | true=>eval F b τ h
  | false=> .j x h
 | .or a b,τ,h=>(eval F a τ h).p λx h=>(R.of h (G7 h x)).p λc h=>match c with
  | true=> .j x h
  | false=>eval F b τ h
 | .call f es,τ,h=>(Gf F es τ h).p λws h=>F.p f (ws.j W.arg) h
 | .bi b es,τ,h=>(Gf F es τ h).p λws h=>dZ b ws h
 | .cu a t,τ,h=>(eval F a τ h).p λx h=>(R.of h (cu t x)).p λc h=>ao (.C c) h
 | .ix a b,τ,h=>(eval F a τ h).p λx h=>(eval F b τ h).p λy h=>(R.of h (dJ x y h)).p λd h=>ao d h
 | .sl a lo hi,τ,h=>(eval F a τ h).p λx h=>(eval F lo τ h).p λl h=>(R.of h l.q).p λl h=>(eval F hi τ h).p λu h=>(R.of h u.q).p λu h=>gN x (k0 l) (k0 u) h
 | .fX a lo,τ,h=>(eval F a τ h).p λx h=>(eval F lo τ h).p λl h=>(R.of h l.q).p λl h=>gN x (k0 l) y0 h
 | .gA a hi,τ,h=>(eval F a τ h).p λx h=>(eval F hi τ h).p λu h=>(R.of h u.q).p λu h=>gN x y0 (k0 u) h
 | .eg a,τ,h=>(eval F a τ h).p λx h=>match GF h (k0 x)with
  | some _=>ao (.C u0) h
  | none=> .q
 | .comp tg one k aD it y7 c elt,τ,h=>(Gk F it τ h).p λds h=>
  if ds.e<=bp then
   (Gy (λd h=>match Gq tg one d (Aa9 k y0++aD.j λj=>Gi τ j)with
     | none=> .q
     | some τ'=>(if y7 then(eval F c τ' h).p λx h=>R.of h (G7 h x)else .j u0 h).p λb h=>match b with
      | true=>(eval F elt τ' h).p λy h=>(R.of h y.d).p λy h=> .j (k0 y) h
      | false=> .j y0 h) ds h).p λys h=> .j (.j ys) h
  else .q
 | .du,_,h=>ao (.p h.e) (h++ [.aP []])
 | .fc i a,τ,h=>match GV h (Gm τ i)with
  | some _=>(eval F a τ h).p λx h=>fc x (GV h (Gm τ i)) h
  | none=> .q
 | .cT neg a i,τ,h=>(eval F a τ h).p λx h=>cT neg x (GV h (Gm τ i)) h
 | .gi k1 a k2 b k3 c i,τ,h=>(eval F a τ h).p λx h=>(eval F b τ h).p λy h=>(eval F c τ h).p λz h=>gi [(k1,x),(k2,y),(k3,z)] (Gm τ i) h
 | .eF i,τ,h=>match GV h (Gm τ i)with
  | some (_,ks)=>ao (.p h.e) (h++ [.aP ks])
  | none=> .q
 | .share a,τ,h=>(eval F a τ h).p λx h=>match x with
  | .j xs=>if Gc xs then ao (.p h.e) (h++ [.u xs])else .q
  | _=> .q
 | .cg a,τ,h=>(eval F a τ h).p λx h=>(R.of h x.q).p λn h=>if 0<=n/\n<=1000 then .j (.j ((Aa7 n.j).j λ(i:Nat)=> .o (i:Int))) h else .q
 | .ef _ ts,τ,h=> .j (.j (ts.j .j)) h
 | .d5 m a es,τ,h=>(eval F a τ h).p λx h=>if nL m x h then(Gf F es τ h).p λws h=>nJ m x ws h else .q
 | .make c q es,τ,h=>(Gf F es τ h).p λws h=>(F.p q (.v (.p h.e)::ws.j W.arg) (h++ [.obj c []])).p λw h'=>match w with
  | .v .ak=>ao (.p h.e) h'
  | _=> .q
 | .aL a c f,τ,h=>(eval F a τ h).p λw h=>match G6 h (k0 w)with
  | some (_,c',fs)=>if c'=c then(R.of h (fs.p f)).p λd h=>ao d h else .q
  | none=> .q
 | .bS a c m q es,τ,h=>(eval F a τ h).p λw h=>match G6 h (k0 w)with
  | some (r,c',fs)=>if c'=c/\(fs.p m).u=u0 then(Gf F es τ h).p λws h=>F.p q (.v (.p r)::ws.j W.arg) h else .q
  | none=> .q
 | .fy a,τ,h=>(eval F a τ h).p λw h=>(R.of h w.q).p λi h=>ao (.o ((Kb i:Nat):Int)) h
 | .fm f a,τ,h=>(eval F a τ h).p λw h=>(R.of h (Kh (λx=>F.p f [.v (.o x)] []) ((w.cx h).p GN))).p λi h=>ao (.o i) h
@[simp] noncomputable def Gf (F:Fx):Es->Sl->AH->R (List W)
 | .nil,_,h=> .j [] h
 | .cons e es,τ,h=>(eval F e τ h).p λw h=>(Gf F es τ h).p λws h=> .j (w::ws) h
@[simp] noncomputable def Gu (F:Fx):Es->Sl->AH->R (List D)
 | .nil,_,h=> .j [] h
 | .cons e es,τ,h=>(eval F e τ h).p λw h=>(R.of h w.d).p λd h=>(Gu F es τ h).p λds h=> .j (d::ds) h
@[simp] noncomputable def Gk (F:Fx):It->Sl->AH->R (List D)
 | .seq e,τ,h=>(eval F e τ h).p λw h=>match w with
  | .v (.q xs)=> .j xs h
  | .v (.u xs)=> .j xs h
  | .j xs=> .j xs h
  | .p xs=> .j xs h
  | _=> .q
 | .au a,τ,h=>(eval F a τ h).p λw h=>(R.of h w.q).p λn h=>if -(f7)<=n/\n<f7 then .j ((Aa7 n.j).j λ(i:Nat)=> .o (i:Int)) h else .q
 | .cA e,τ,h=>(eval F e τ h).p λw h=>(R.of h (Be w)).p λxs h=> .j (Kl 0 xs) h
 | .enum e,τ,h=>(eval F e τ h).p λw h=>match w with
  | .v (.q xs)=> .j (Kl 0 xs) h
  | _=> .q
end
noncomputable def nB:W->Y1 (Y0 D)
 | .v (.q xs)=>k0 xs
 | .v (.u xs)=>k0 xs
 | .j xs=>k0 xs
 | _=>y0
noncomputable def lH:W->Y1 (Y0 D)
 | .v (.q xs)=>k0 xs
 | .v (.u xs)=>k0 xs
 | .p xs=>k0 xs
 | _=>y0
@[simp] theorem Ky (xs):nB (.v (.q xs))=k0 xs:=rfl
@[simp] theorem Ku (xs):nB (.v (.u xs))=k0 xs:=rfl
@[simp] theorem Kc (xs):nB (.j xs)=k0 xs:=rfl
@[simp] theorem Kw (xs):lH (.v (.q xs))=k0 xs:=rfl
@[simp] theorem Kq (xs):lH (.v (.u xs))=k0 xs:=rfl
@[simp] theorem Kx (xs):lH (.p xs)=k0 xs:=rfl
@[simp] noncomputable def GK:E->Y1 Nat
 | .var i=>k0 i
 | _=>y0
@[simp] def Gs (F:Fx) (it:It) (τ:Sl) (h:AH):R (Y0 D):=match it with
 | .seq e=>match GK e with
  | some i=>R.of h ((Gm τ i).p lH)
  | none=>(eval F e τ h).p λw h=>R.of h (nB w)
 | it=>Gk F it τ h
noncomputable def Gp (bnd:D->Sl->Y1 Sl) (body:Sl->AH->O):Y0 D->Sl->AH->O
 | [],τ,h=> .p τ h
 | d::ds,τ,h=>match bnd d τ with
  | none=> .q
  | some b=>match body b h with
   | .p a h2=>Gp bnd body ds a h2
   | .cont a h2=>Gp bnd body ds a h2
   | .brk a h2=> .p a h2
   | o=>o
noncomputable def GI (c:Sl->AH->R Bool) (body:Sl->AH->O):Nat->Sl->AH->O
 | 0,_,_=> .q
 | n+1,τ,h=>(c τ h).u λb h1=>match b with
  | false=> .p τ h1
  | true=>match body τ h1 with
   | .p a h2=>GI c body n a h2
   | .cont a h2=>GI c body n a h2
   | .brk a h2=> .p a h2
   | o=>o
def Gn (F:Fx) (e:E) (τ:Sl) (h:AH):R Bool:=(eval F e τ h).p λx h=>R.of h (G7 h x)
def KG (w:W) (i:Nat) (τ:Sl) (h:AH):O:=match w with
 | .v d=> .p (Gz τ i (.v d)) h
 | _=> .q
def KF (b:dA) (c:String) (nm e:Nat) (a:String) (d:D) (τ:Sl) (h:AH):O:=match Av b (.v d) [c]with
 | some true=>match d with
  | .err _ g y=>if g=a then .p ((Gz (Gz τ nm (.v d)) e (.v y)).w nm y0) h else .q
  | _=> .q
 | _=> .q
noncomputable def fY :W->Y1 (D×D)
 | .v (.q [a,b])=>k0 (a,b)
 | _=>y0
def Ks (w b a:W) (τ:Sl) (h:AH):O:=match w,b,a with
 | .v d,.v (.p r),.v (.o j)=>match h[r]? with
  | some (.u xs)=>match d4 xs.e j with
   | some n=>if Ko d then .p τ (h.w r (.u (xs.w n d)))else .q
   | none=> .q
  | _=> .q
 | _,_,_=> .q
mutual
@[simp] noncomputable def exec (F:Fx):S->Sl->AH->O
 | .set i e,τ,h=>(eval F e τ h).u λw h=>match w with
  | .p _=> .q
  | w=> .p (Gz τ i w) h
 | .ag i e,τ,h=>(eval F e τ h).u λw h=>match w.d with
  | some d=> .p (Gz τ i (.v d)) h
  | none=> .q
 | .e8 is e,τ,h=>(eval F e τ h).u λw h=>match w with
  | .v (.q ds)=>match ba is ds τ with
   | some τ'=> .p τ' h
   | none=> .q
  | _=> .q
 | .fW o k j e,τ,h=>(eval F e τ h).u λw h=>match fY w with
  | some (d1,d2)=>(eval F o τ h).u λow h=>(eval F k τ h).u λkw h=>if Ko d2 then(match Ks (.v d1) ow kw τ h with
   | .p τ h=> .p (Gz τ j (.v d2)) h
   | _=> .q)else .q
  | none=> .q
 | .bZ o k e,τ,h=>(eval F e τ h).u λw h=>(eval F o τ h).u λow h=>(eval F k τ h).u λkw h=>Ks w ow kw τ h
 | .app i e,τ,h=>match Gm τ i with
  | some (.j xs)=>(eval F e τ h).u λw h=>match w.d with
   | some d=>if xs.e<bp then .p (Gz τ i (.j (xs++ [d]))) h else .q
   | none=> .q
  | _=> .q
 | .ext i e,τ,h=>match Gm τ i with
  | some (.j xs)=>(eval F e τ h).u λw h=>match w with
   | .j ys=>if xs.e+ys.e<bp then .p (Gz τ i (.j (xs++ys))) h else .q
   | _=> .q
  | _=> .q
 | .bW i c f e,τ,h=>(eval F e τ h).u λw h=>match w.d with
  | some d=>match G6 h (Gm τ i)with
   | some (r,c',fs)=>if c'=c/\Gd d=u0/\fs.e<100 then .p τ (h.w r (.obj c (a0 f d fs)))else .q
   | none=> .q
  | none=> .q
 | .ek i k e,τ,h=>(eval F e τ h).u λw h=>match Gm τ i with
  | some (.j xs)=>(eval F k τ h).u λkw h=>match w,kw with
   | .v d,.v (.o j)=>(match d4 xs.e j with
    | some n=> .p (Gz τ i (.j (xs.w n d))) h
    | none=> .q)
   | _,_=> .q
  | _=> .q
 | .cD i k e,τ,h=>(eval F e τ h).u λw h=>match GV h (Gm τ i)with
  | some _=>(eval F k τ h).u λkw h=>match w,kw,GV h (Gm τ i)with
   | .v d,.v (.j t),k0 (r,ks)=>if ks.e<bp/\Gd d=u0 then .p τ (h.w r (.aP (GE ks t d)))else .q
   | _,_,_=> .q
  | none=> .q
 | .fF a e,τ,h=>(eval F a τ h).u λo h=>match GF h (k0 o)with
  | some _=>(eval F e τ h).u λw h=>match w.d,GF h (k0 o)with
   | some d,k0 (r,xs)=>if xs.e<bp/\Gd d=u0 then .p τ (h.w r (.u (xs++ [d])))else .q
   | _,_=> .q
  | none=> .q
 | .ex e,τ,h=>(eval F e τ h).u λ_ h=> .p τ h
 | .ret e,τ,h=>match GK e with
  | some i=>match Gm τ i with
   | some (.p _)=> .q
   | some w=> .ret w h
   | none=> .q
  | none=>(eval F e τ h).u λw h=>match w with
   | .p _=> .q
   | w=> .ret w h
 | .iff c a b,τ,h=>(Gn F c τ h).u λt h=>match t with
  | true=>execs F a τ h
  | false=>execs F b τ h
 | .kq n c b,τ,h=>GI (λτ h=>Gn F c τ h) (λτ h=>execs F b τ h) n τ h
 | .for tg one it b,τ,h=>(Gs F it τ h).u λds h=>Gp (Gq tg one) (λτ h=>execs F b τ h) ds τ h
 | .dN c f e,τ,h=>(Gu F (.cons e .nil) τ h).u λds h=>match ds with
  | [d]=> .exc (.err c f d) h
  | _=> .q
 | .eR i f es c nm iv fl,τ,h=>match Gf F es τ h with
  | .j ws h=>match F.p f (ws.j W.arg) h with
   | .j w h=>KG w i τ h
   | .exc d h=>KF F.cl c nm iv fl d τ h
   | .q=> .q
  | _=> .q
 | .bO i c f e,τ,h=>(eval F e τ h).u λw h=>match w with
  | .v d=>match G6 h (Gm τ i)with
   | some (r,c',fs)=>if c'=c/\fs.e<100 then .p τ (h.w r (.obj c (a0 f d fs)))else .q
   | none=> .q
  | _=> .q
 | .eL,_,_=> .q
@[simp] noncomputable def execs (F:Fx):Ss->Sl->AH->O
 | .nil,τ,h=> .p τ h
 | .cons s ss,τ,h=>(exec F s τ h).seq λτ h=>execs F ss τ h
end
structure Fn where
 ps:Nat
 n:Nat
 body:Ss
structure Prog where
 fns:List (String×Fn)
 cl:dA
 con:List (String×D)
def W.keep:W->Bool
 | .v d=>Gd d
 | .j xs=>Gc xs
 | .p _=>u0
noncomputable def fin (n:Nat) (w:W) (h:AH):R W:=if h.e=n then .j w h else if w.keep&&Gx (h.A n)then .j w (h.A n)else .j w h
def Gw (n:Nat):O->R W
 | .ret w h=>match w with
  | .p _=> .q
  | w=>fin n w h
 | .p _ h=>fin n (.v .ak) h
 | .exc d h=> .exc d h
 | _=> .q
@[simp] theorem Ga (d) (h h':AH) (e:h'.e=h.e):Gw h.e (.ret (.v d) h')= .j (.v d) h':=by simp [Gw,fin,e]
@[simp] theorem Gv (xs) (h h':AH) (e:h'.e=h.e):Gw h.e (.ret (.j xs) h')= .j (.j xs) h':=by simp [Gw,fin,e]
@[simp] theorem GA (τ) (h h':AH) (e:h'.e=h.e):Gw h.e (.p τ h')= .j (.v .ak) h':=by simp [Gw,fin,e]
@[simp] theorem GZ (d) (n) (h):Gw n (.exc d h)= .exc d h:=rfl
def run (F:Fx) (d:Fn) (ws:Y0 W) (h:AH):R W:=if ws.e=d.ps then Gw h.e (execs F d.body (ws.j k0++Aa9 (d.n-d.ps) y0) h)else .q
def call (p:Prog):Nat->String->Y0 W->AH->R W
 | 0,_,_,_=> .q
 | k+1,f,a,h=>match p.fns.p f with
  | some d=>run ⟨call p k,p.cl,p.con⟩ d a h
  | none=> .q
def Gb (e:p.fns.p f=k0 d) (k) (ws) (h) (a:ws.e=d.ps):
 call p (k+1) f ws h=Gw h.e (execs ⟨call p k,p.cl,p.con⟩ d.body (ws.j k0++Aa9 (d.n-d.ps) y0) h):=by
 rw [call,e]
 simp [run,a]
end
end M
namespace L2.MS
open M renaming D.int→M.D.o,D.str→M.D.j,D.ref→M.D.p,D.tup→M.D.q,D.lst→M.D.u,D.bl→M.D.C,D.err→M.D.w,Es.cons→M.Es.j,Es.nil→M.Es.p,Fx.call→M.Fx.p,E.call→M.E.p,E.comp→M.E.L,E.chain→M.E.a2,E.share→M.E.a4,R.ok→M.R.j,R.bind→M.R.p,R.fail→M.R.q,W.own→M.W.j,W.bor→M.W.p,O.fail→M.O.q,O.next→M.O.p,Ty.list→M.Ty.A
open L2 renaming V.int→L2.V.o,V.str→L2.V.j,V.ref→L2.V.p,V.bl→L2.V.C,Cx.env→L2.Cx.j,Cx.prog→L2.Cx.p,HO.lst→L2.HO.u,Inv.list→L2.Inv.A
open PySem PySem.Spec
structure Ge where
 K:Ab
 ca:String->Addr
 cl:M.dA
 own:List String
 ma:String->Addr
open L2 renaming MS.Ge.ca→L2.MS.Ge.j
structure lE (Y:Ge) (c:String):Prop where
 k:vx Y.K (Y.j c)
 own: ∀t∈Y.own,An3 Y.K (.p (Y.j c)) (.p (Y.j t))=k0 ((M.Kj Y.cl 8 c).u t)
 ve:PySem.W.kitOne Y.K (.p (Y.j c)) (.j "ValueError")=some ((M.Kj Y.cl 8 c).u "ValueError")
structure Gh where
 fz:Addr->Prop
 aU:Nat->Addr
 n:Nat
open L2 renaming MS.Gh.aU→L2.MS.Gh.j
def fq (Y:Ge) (G:Gh) (H:Hp) (a:Y5) (vs:Y0 V):Prop:=(G.fz a/\H a=k0 (.tup vs)) ∨
 ∃(o:Obj) (b:Array Y2) (n:Nat),Y.K.p a=some o/\o.cls= .j "tuple" /\o.u=none/\o.j= .j b n/\b.j<=sizeLine/\Vals vs b.p
def vk (Y:Ge) (a:Y5) (vs:Y0 V):Prop:= ∃(o:Obj) (b:Array Y2) (n:Nat),Y.K.p a=some o/\o.cls= .j "list" /\o.u=none/\o.j= .j b n/\b.j<=sizeLine/\Vals vs b.p
def iW (Y:Ge) (G:Gh) (H:Hp) (a:Y5) (vs:Y0 V):Prop:=(G.fz a/\Rd H a (.u vs))\/vk Y a vs
def fq.sq (h:fq Y G H a vs):cQ Y.K H a vs:=h.j (λz=> .p (.p z.2)) (by rintro ⟨o,b,n,e,d,_,c⟩;exact .q ⟨o,b,n,e,d,c⟩)
def fq.pl (h:fq Y G H a vs):vh Y.K H a:=h.j (λz=> .p ⟨_,z.2⟩) (by rintro ⟨o,_,_,c,b,d,_⟩;exact .q ⟨o,c,b,d⟩)
def iW.sq (h:iW Y G H a vs):bA Y.K H a vs:=h.j (λz=> .p z.2) λz=> .q z
noncomputable def aN (s:M.Tx):Str:=⟨s.q⟩
mutual
def aE (Y:Ge) (G:Gh) (H:Hp):M.D->V->Prop
 | .ak,v=>v= .ak
 | .C b,v=>v= .C b
 | .o i,v=>v= .o i
 | .j s,v=>v= .j (aN s)
 | .q ds,v=> ∃a vs,v= .p a/\fq Y G H a vs/\aa Y G H ds vs
 | .u ds,v=> ∃a vs,v= .p a/\iW Y G H a vs/\aa Y G H ds vs
 | .p r,v=>r<G.n/\v= .p (G.j r)
 | .w c f d,v=> ∃x dx u,v= .p x/\G.fz x/\G.fz dx/\H x=k0 (gP x (Y.j c) (k0 dx))/\H dx=k0 (.xd [(Str.ofString f,u)])/\lE Y c/\mO Y.K (Y.j c) (Str.ofString f)/\aE Y G H d u
def aa (Y:Ge) (G:Gh) (H:Hp):List M.D->List V->Prop
 | [],vs=>vs= []
 | d::ds,vs=> ∃v r,vs=v::r/\aE Y G H d v/\aa Y G H ds r
end
def bH (Y:Ge) (G:Gh) (H:Hp) (a:Y5):M.Cell->Prop
 | .lst xs=>M.Gc xs=u0/\ ∃d,H a=k0 (.u d)/\aa Y G H xs d
 | .aP ks=>M.Gc (ks.j (·.2))=u0/\ ∃b,H a=k0 (dS ((ks.j λp=>aN p.1).Z b))/\aa Y G H (ks.j (·.2)) b
 | .obj c fs=> ∃dx b,H a=k0 (.ins (Y.j c) dx ((fs.j λp=>Str.ofString p.1).Z b))/\aa Y G H (fs.j (·.2)) b
structure ah (Y:Ge) (G:Gh) (h:M.AH) (H:Hp):Prop where
 len:h.e=G.n
 any: ∀r c,h[r]? =k0 c-> ¬G.fz (G.j r)/\bH Y G H (G.j r) c
 inj: ∀r s,r<G.n->s<G.n->G.j r=G.j s->r=s
 live: ∀a,G.fz a-> ∃o,H a=k0 o
open L2 renaming MS.ah.any→L2.MS.ah.z,MS.ah.len→L2.MS.ah.y,MS.ah.live→L2.MS.ah.j
def dU (G:Gh) (a:Y5):Prop:= ∀r,r<G.n->G.j r≠a
structure Ext (G:Gh) (H:Hp) (G':Gh) (H':Hp):Prop where
 keep: ∀a o,H a=k0 o->dU G a->H' a=k0 o
 le:G.n<=G'.n
 aU: ∀r,r<G.n->G'.j r=G.j r
 new: ∀r,G.n<=r->r<G'.n->H (G'.j r)=y0
 fz: ∀a,G.fz a->G'.fz a
 old: ∀a,G'.fz a->G.fz a\/H a=y0
 cells: ∀r,r<G.n->(∃ o,H (G.j r)=k0 o)-> ∃o,H' (G.j r)=k0 o
open L2 renaming MS.Ext.cells→L2.MS.Ext.q,MS.Ext.keep→L2.MS.Ext.p
def aj (Y:Ge) (G:Gh) (H:Hp):M.W->V->Prop
 | .v d,v=>aE Y G H d v
 | .j xs,v=> ∃a b,v= .p a/\ ¬G.fz a/\dU G a/\H a=k0 (.u b)/\aa Y G H xs b
 | .p xs,v=> ∃a b,v= .p a/\dU G a/\Rd H a (.u b)/\aa Y G H xs b
def eg:M.W->Bool
 | .j _=>u0
 | .p _=>u0
 | _=>k9
structure av (Y:Ge) (G:Gh) (τ:M.Sl) (h:M.AH) (U:St) (H:Hp):Prop where
 len:τ.e=U.e
 slot: ∀i w,M.Gm τ i=k0 w-> ∃v,U[i]? =k0 (k0 v)/\aj Y G H w v
 apart: ∀i j xs w a,i≠j->M.Gm τ i=k0 (.j xs)->M.Gm τ j=k0 w->eg w=u0->U[i]? =k0 (k0 (.p a))->U[j]? ≠k0 (k0 (.p a))
 heap:ah Y G h H
open L2 renaming MS.av.heap→L2.MS.av.j,MS.av.slot→L2.MS.av.q,MS.av.apart→L2.MS.av.p
section
variable {Y:Ge}{G G' G1 G2:Gh}{H H' H1 H2:Hp}{h h':M.AH}{τ:M.Sl}{U:St}
def ah.cell (R:ah Y G h H) (r) (xs) (e:h[r]? =k0 (M.Cell.lst xs)): ¬G.fz (G.j r)/\ ∃vs,H (G.j r)=k0 (.u vs)/\aa Y G H xs vs:=⟨(R.z r _ e).1,(R.z r _ e).2.2⟩
def ah.pure (R:ah Y G h H) (r:Nat) (xs) (e:h[r]? =k0 (M.Cell.lst xs)):M.Gc xs=true:=(R.z r _ e).2.1
theorem ah.obj (R:ah Y G h H) (r) (c) (fs) (e:h[r]? =k0 (M.Cell.obj c fs)): ¬G.fz (G.j r)/\ ∃dx i,H (G.j r)=k0 (.ins (Y.j c) dx ((fs.j λp=>Str.ofString p.1).Z i))/\aa Y G H (fs.j (·.2)) i:=R.z r _ e
def ah.lt (R:ah Y G h H)(e:h[r]? =k0 c):r<G.n:=by rw [← R.y];exact(Aa1.p e).1
def ah.at (R:ah Y G h H)(a:i<G.n): ∃c,h[i]? =k0 c:=⟨_,Aa4 (by rw [R.y];exact a)⟩
def bH.there (z:bH Y G H a c): ∃o,H a=k0 o:=by
 cases c with
 | lst d=>obtain⟨_,_,z,_⟩:=z;exact⟨_,z⟩
 | aP b=>obtain⟨_,_,z,_⟩:=z;exact⟨_,z⟩
 | obj c fs=>obtain⟨_,_,z,_⟩:=z;exact⟨_,z⟩
def ah.mG (r:ah Y G h H)(a:i<G.n): ¬G.fz (G.j i):=let ⟨_,e⟩:=r.at a;(r.z i _ e).1
def ah.off (r:ah Y G h H)(b:G.fz a):dU G a:=λi c z=>r.mG c (z▸b)
theorem ah.there (r:ah Y G h H)(a:i<G.n): ∃o,H (G.j i)=k0 o:=let ⟨_,e⟩:=r.at a;(r.z i _ e).2.there
def Ext.refl:Ext G H G H:=⟨λ_ _ e _=>e,Aa8 _,λ_ _=>rfl,λr b a=>absurd b (Ao1.q a),λ_ z=>z,λ_ z=> .p z,λ_ _ z=>z⟩
theorem Ext.none (e:Ext G H G' H') (d:ah Y G h H)(z:H' a=y0):H a=none:=by
 cases q:H a with
 | none=>rfl
 | some o=>
  by_cases b:dU G a
  .rw [e.p a o q b]at z;cases z
  .unfold dU at b
   have: ∃r,r<G.n/\G.j r=a:=Aj0 λg=>b λr d z=>g ⟨r,d,z⟩
   obtain⟨r,c,rfl⟩:=this
   obtain⟨i,f⟩:=e.q r c ⟨o,q⟩
   rw [z]at f;cases f
def Ext.off (e:Ext G H G' H')(f:H a=k0 o) (c:dU G a):dU G' a:=λr d z=>by
 by_cases b:r<G.n
 .rw [e.aU r b]at z;exact c r b z
 .have:=e.new r (Nat.not_lt.p b) d
  rw [z,f]at this;cases this
def Ext.trans (b:Ext G H G1 H1) (f:ah Y G h H) (d:Ext G1 H1 G2 H2):Ext G H G2 H2 where
 keep:=λa o z e=>d.p a o (b.p a o z e) (b.off z e)
 le:=Ab5 b.le d.le
 aU:=λr c=>by rw [d.aU r (Ab3 c b.le),b.aU r c]
 new:=λr i g=>by
  by_cases c:r<G1.n
  .rw [d.aU r c];exact b.new r i c
  .exact b.none f (d.new r (Nat.not_lt.p c) g)
 fz:=λa z=>d.fz a (b.fz a z)
 old:=λa z=>(d.old a z).j (λz=>b.old a z) λz=> .q (b.none f z)
 cells:=λr c z=>by
  have:=d.q r (Ab3 c b.le) (by rw [b.aU r c];exact b.q r c z)
  rwa [b.aU r c]at this
def Ext.rd (e:Ext G H G' H')(z:Rd H a u) (b:dU G a):Rd H' a u:=z.j (λz=> .p (e.p a _ z b)) (by rintro ⟨o,z⟩;exact .q ⟨o,e.p a _ z b⟩)
structure Mon (G:Gh) (H:Hp) (G':Gh) (H':Hp):Prop where
 keep: ∀a o,G.fz a->H a=k0 o->H' a=k0 o
 le:G.n<=G'.n
 aU: ∀r,r<G.n->G'.j r=G.j r
 fz: ∀a,G.fz a->G'.fz a
def Ext.mon (e:Ext G H G' H') (b:ah Y G h H):Mon G H G' H':=⟨λa o z q=>e.p a o q (b.off z),e.le,e.aU,e.fz⟩
def Mon.rd (e:Mon G H G' H')(z:Rd H a u) (b:G.fz a):Rd H' a u:=z.j (λz=> .p (e.keep a _ b z)) (by rintro ⟨o,z⟩;exact .q ⟨o,e.keep a _ b z⟩)
mutual
theorem aE.mon (e:Mon G H G' H'): ∀ {d:M.D}{v:V},aE Y G H d v->aE Y G' H' d v
 | .ak,_,z=>z
 | .C _,_,z=>z
 | .o _,_,z=>z
 | .j _,_,z=>z
 | .q _,_,⟨a,vs,z1,z2,z3⟩=>⟨a,vs,z1,z2.j (λz=> .p ⟨e.fz a z.1,e.keep a _ z.1 z.2⟩) λz=> .q z,aa.mon e z3⟩
 | .u _,_,⟨a,vs,z1,z2,z3⟩=>⟨a,vs,z1,z2.j (λz=> .p ⟨e.fz a z.1,e.rd z.2 z.1⟩) .q,aa.mon e z3⟩
 | .p r,_,⟨z1,z2⟩=>⟨Ab3 z1 e.le,by rw [e.aU r z1];exact z2⟩
 | .w c f d,_,⟨x,dx,u,z1,z2,z3,z4,z5,z6,z7,z8⟩=>⟨x,dx,u,z1,e.fz x z2,e.fz dx z3,e.keep x _ z2 z4,e.keep dx _ z3 z5,z6,z7,aE.mon e z8⟩
theorem aa.mon (e:Mon G H G' H'): ∀ {ds:List M.D}{vs:List V},aa Y G H ds vs->aa Y G' H' ds vs
 | [],_,z=>z
 | _::_,_,⟨v,r,z1,z2,z3⟩=>⟨v,r,z1,aE.mon e z2,aa.mon e z3⟩
end
theorem bH.mon (e:Mon G H G' H')(k: ∀o,H a=k0 o->H' a=k0 o) (z:bH Y G H a c):bH Y G' H' a c:=by
 cases c with
 | lst l=>obtain⟨f,h,d,b⟩:=z;exact⟨f,h,k _ d,b.mon e⟩
 | aP j=>obtain⟨f,g,d,b⟩:=z;exact⟨f,g,k _ d,b.mon e⟩
 | obj c fs=>obtain⟨i,g,d,b⟩:=z;exact⟨i,g,k _ d,b.mon e⟩
def aE.ext (e:Ext G H G' H') (a:ah Y G h H)(z:aE Y G H d v):aE Y G' H' d v:=z.mon (e.mon a)
def aa.ext (e:Ext G H G' H') (a:ah Y G h H)(z:aa Y G H d v):aa Y G' H' d v:=z.mon (e.mon a)
theorem aj.ext (e:Ext G H G' H') (f:ah Y G h H)(z:aj Y G H w v):aj Y G' H' w v:=by
 cases w with
 | v d=>exact aE.ext e f z
 | own l=>
  obtain⟨a,g,j,k,c,b,i⟩:=z
  refine⟨a,g,j,λq=> ?_,e.off b c,e.p a _ b c,aa.ext e f i⟩
  obtain q | q:=e.old a q
  .exact k q
  .rw [b]at q;cases q
 | bor l=>
  obtain⟨a,g,j,c,b,i⟩:=z
  refine⟨a,g,j,?_,e.rd b c,aa.ext e f i⟩
  obtain b | ⟨o,b⟩:=b
  .exact e.off b c
  .exact e.off b c
theorem av.ext (s:av Y G τ h U H) (e:Ext G H G' H') (a:ah Y G' h' H'):av Y G' τ h' U H' where
 len:=s.len
 slot:=λi w z=>let ⟨v,c,b⟩:=s.q i w z; ⟨v,c,b.ext e s.j⟩
 apart:=s.p
 heap:=a
theorem aa.length: ∀ {ds}{vs},aa Y G H ds vs->ds.e=vs.e
 | [],_,rfl=>rfl
 | _::_,_,z7=>by obtain⟨_,_,rfl,_,z⟩:=z7;exact congrArg (· +1) (aa.length z)
theorem aa.get: ∀ {ds}{vs}{i:Nat}{d},aa Y G H ds vs->ds[i]? =k0 d-> ∃v,vs[i]? =k0 v/\aE Y G H d v
 | [],_,_,_,_,e=>by simp at e
 | _::_,_,0,_,z7,e=>by obtain⟨v,_,rfl,z,_⟩:=z7;simp at e;subst e;exact⟨v,rfl,z⟩
 | _::_,_,i+1,_,z7,e=>by
  obtain⟨_,_,rfl,_,z⟩:=z7
  obtain⟨v,b,a⟩:=aa.get z (by simpa using e)
  exact⟨v,by simpa using b,a⟩
theorem aa.append: ∀ {ds es}{vs i},aa Y G H ds vs->aa Y G H es i->aa Y G H (ds++es) (vs++i)
 | [],_,_,_,rfl,z=>z
 | _::_,_,_,_,z7,z=>by obtain⟨v,r,rfl,b,a⟩:=z7;exact ⟨v,r++_,rfl,b,aa.append a z⟩
theorem aa.drop: ∀ {ds}{vs}(n),aa Y G H ds vs->aa Y G H (ds.J n) (vs.J n)
 | _,_,0,z=>z
 | [],_,_+1,rfl=>rfl
 | _::_,_,n+1,z7=>by obtain⟨_,_,rfl,_,z⟩:=z7;exact aa.drop n z
theorem aa.take: ∀ {ds}{vs}(n),aa Y G H ds vs->aa Y G H (ds.A n) (vs.A n)
 | _,_,0,_=>rfl
 | [],_,_+1,rfl=>rfl
 | _::_,_,n+1,z7=>by obtain⟨v,r,rfl,a,z⟩:=z7;exact ⟨v,r.A n,rfl,a,aa.take n z⟩
theorem aa.set (z:aE Y G H d v): ∀ {ds}{vs} i,aa Y G H ds vs->aa Y G H (ds.w i d) (vs.w i v)
 | [],_,_,rfl=>rfl
 | _::_,_,0,z7=>by obtain⟨_,r,rfl,_,a⟩:=z7;exact ⟨v,r,rfl,z,a⟩
 | _::_,_,i+1,z7=>by obtain⟨u,r,rfl,b,a⟩:=z7;exact ⟨u,r.w i v,rfl,b,aa.set z i a⟩
noncomputable def Gh.more (G:Gh) (a:Y5):Gh:= { G with fz:=λb=>G.fz b\/b=a }
open L2 renaming MS.Gh.more→L2.MS.Gh.p
def Qr (o) (b:H p=y0):Ext G H G (aF H p o) where
 keep:=λa u z _=>by rw [Za (Zb z b)];exact z
 le:=Aa8 _
 aU:=λ_ _=>rfl
 new:=λr d c=>absurd d (Ao1.q c)
 fz:=λ_ z=>z
 old:=λ_ z=> .p z
 cells:=(by rintro r _⟨u,z⟩;exact ⟨u,by rw [Za (Zb z b)];exact z⟩)
def jk (o) (b:H p=y0):Ext G H (G.p p) (aF H p o) where
 keep:=λa u z _=>by rw [Za (Zb z b)];exact z
 le:=Aa8 _
 aU:=λ_ _=>rfl
 new:=λr d c=>absurd d (Ao1.q c)
 fz:=λ_ z=> .p z
 old:=λa z=>z.j .p λe=> .q (e▸b)
 cells:=(by rintro r _⟨u,z⟩;exact ⟨u,by rw [Za (Zb z b)];exact z⟩)
def ah.new (r:ah Y G h H)(o) (b:H p=y0):ah Y G h (aF H p o) where
 len:=r.y
 any:=λi c z=>⟨(r.z i c z).1,(r.z i c z).2.mon ((Qr o b).mon r) λu q=>by rw [Za (Zb q b)];exact q⟩
 inj:=r.inj
 live:=λa z=>let ⟨u,q⟩:=r.j a z; ⟨u,by rw [Za (Zb q b)];exact q⟩
def ah.gY (r:ah Y G h H)(o) (b:H p=y0):ah Y (G.p p) h (aF H p o) where
 len:=r.y
 any:=λi c z=>by
  obtain⟨g,d⟩:=r.z i c z
  obtain⟨u,f⟩:=d.there
  exact⟨λq=>q.j g (Zb f b),d.mon ((jk o b).mon r) λu q=>by rw [Za (Zb q b)];exact q⟩
 inj:=r.inj
 live:=λa z=>z.j (λz=>let ⟨u,q⟩:=r.j a z; ⟨u,by rw [Za (Zb q b)];exact q⟩) λe=>⟨o,by rw [e];exact zb⟩
def zv (a):Mon G H (G.p a) H:=⟨λ_ _ _ z=>z,Aa8 _,λ_ _=>rfl,λ_ z=> .p z⟩
theorem Ext.more (e:Ext G H G1 H1)(c:H a=Option.none):Ext G H (G1.p a) H1:=
 ⟨e.p,e.le,e.aU,e.new,λb z=> .p (e.fz b z),λb z=>z.j (λz=>e.old b z) λz=> .q (z▸c),e.q⟩
theorem ah.more (r:ah Y G h H)(d:dU G a) (f: ∃o,H a=k0 o):ah Y (G.p a) h H where
 len:=r.y
 any:=λi c z=>⟨λq=>q.j (r.z i c z).1 λe=>d i (r.lt z) e,(r.z i c z).2.mon (zv a) λ_ q=>q⟩
 inj:=r.inj
 live:=λb z=>z.j (λz=>r.j b z) λe=>e▸f
theorem aj.more (z:aj Y G H w v) (k:eg w=u0->v≠ .p a):aj Y (G.p a) H w v:=by
 cases w with
 | v d=>exact aE.mon (zv a) z
 | own l=>
  obtain⟨b,f,c,j,h,g,i⟩:=z
  exact⟨b,f,c,λq=>q.j j λe=>k rfl (e▸c),h,g,i.mon (zv a)⟩
 | bor l=>
  obtain⟨b,f,c,h,g,i⟩:=z
  exact⟨b,f,c,h,g,i.mon (zv a)⟩
theorem av.more (s:av Y G τ h U H)(b:dU G a) (f: ∃o,H a=k0 o) (g: ∀ i w,M.Gm τ i=k0 w->eg w=u0->U[i]? ≠k0 (k0 (.p a))):av Y (G.p a) τ h U H where
 len:=s.len
 slot:=λi w z=>by
  obtain⟨v,c,d⟩:=s.q i w z
  exact⟨v,c,d.more λq e=>g i w z q (e▸c)⟩
 apart:=s.p
 heap:=s.j.more b f
def aM (τ:M.Sl) (U:St) (H:Hp):M.W->V->Prop
 | .v _,_=>True
 | .j _,v=> ∃a,v= .p a/\H a=y0
 | .p _,v=> ∃(i:Nat) (w:M.W),M.Gm τ i=k0 w/\eg w=u0/\U[i]? =k0 (k0 v)
def aM.back (e:Ext G H G1 H1) (b:ah Y G h H)(z:aM τ U H1 w v):aM τ U H w v:=by
 cases w with
 | v d=>trivial
 | own g=>obtain⟨a,f,c⟩:=z;exact⟨a,f,e.none b c⟩
 | bor g=>exact z
def av.cV (s:av Y G τ h U H)(e:M.Gm τ i=k0 w) (k:eg w=u0) (q:U[i]? =k0 (k0 (.p a))): ∃o,H a=k0 o:=by
 obtain⟨v,f,g⟩:=s.q i w e
 rw [q]at f
 cases f
 cases w with
 | v d=>cases k
 | own l=>obtain⟨b,j,f,_,_,c,_⟩:=g;cases f;exact⟨_,c⟩
 | bor l=>
  obtain⟨b,j,f,_,c,_⟩:=g
  cases f
  obtain c | ⟨o,c⟩:=c
  .exact⟨_,c⟩
  .exact⟨_,c⟩
def u7 (Y:Ge) (E:XK) (d:M.D) (G:Gh) (H:Hp):Prop:=
 ∀c f a,d= .w c f a->lE Y c->mO Y.K (Y.j c) (Str.ofString f)-> ∀dx u,G.fz dx->H dx=k0 (.xd [(Str.ofString f,u)])->aE Y G H a u->E (.p (Y.j c)) (k0 dx) H
def aA {b:Type}(Y:Ge) (G:Gh) (H:Hp) (r:M.R b) (P:b->M.AH->Gh->Hp->Prop):Prop:=match r with
 | .j a h'=> ∀G' H',Ext G H G' H'->ah Y G' h' H'->P a h' G' H'
 | _=>False
def tD (Y:Ge) (m:M.Sl->M.AH->M.R M.W):TE:=λU H Q=> ∃G τ h,av Y G τ h U H/\aA Y G H (m τ h) λw h' G' H'=> ∀v,aj Y G' H' w v->aM τ U H w v->Q v H'
def c5 (Y:Ge) (m:M.Sl->M.AH->M.R Bool):TT:=λU H Q=> ∃G τ h,av Y G τ h U H/\aA Y G H (m τ h) λb _ _ H'=>Q b H'
def Xa (i:ah Y G0 h0 H0) (b:Ext G0 H0 G H) (s:av Y G τ h U H)
 (p:aA Y G0 H0 ((m τ h).p f) P)
 (k: ∀w v h1 G1 H1,Ext G0 H0 G1 H1->Ext G H G1 H1->av Y G1 τ h1 U H1->aj Y G1 H1 w v->aM τ U H w v->aA Y G0 H0 (f w h1) P->Q v H1):tD Y m U H Q:=by
 refine⟨G,τ,h,s,?_⟩
 cases q:m τ h with
 | ok w h1=>
  rw [q]at p
  exact λG1 H1 e a v g c=>k w v h1 G1 H1 (b.trans i e) e (s.ext e a) g c p
 | exc d h1=>rw [q]at p;exact p.j
 | fail=>rw [q]at p;exact p
def xU (c:ah Y G0 h0 H0) (g:Ext G0 H0 G H) (s:av Y G τ h U H)
 (p:aA Y G0 H0 ((m τ h).p f) P)
 (k: ∀b h1 G1 H1,Ext G0 H0 G1 H1->Ext G H G1 H1->av Y G1 τ h1 U H1->aA Y G0 H0 (f b h1) P->Q b H1):c5 Y m U H Q:=by
 refine⟨G,τ,h,s,?_⟩
 cases q:m τ h with
 | ok w h1=>
  rw [q]at p
  exact λG1 H1 e a=>k w h1 G1 H1 (g.trans c e) e (s.ext e a) p
 | exc d h1=>rw [q]at p;exact p.j
 | fail=>rw [q]at p;exact p
def kf (Y:Ge) (m:M.Sl->M.AH->M.R (Y0 M.D)):TA:=λU H Q=> ∃G τ h,av Y G τ h U H/\aA Y G H (m τ h) λds _ G' H'=> ∀a,aa Y G' H' ds a->Q a H'
def bq (Y:Ge) (G:Gh) (H:Hp):Y0 M.W->Y0 V->Prop
 | [],a=>a= []
 | w::b,a=> ∃v r,a=v::r/\aj Y G H w v/\bq Y G H b r
theorem bq.ext (e:Ext G H G' H') (a:ah Y G h H): ∀ {ws}{vs},bq Y G H ws vs->bq Y G' H' ws vs
 | [],_,z=>z
 | _::_,_,z7=>by obtain⟨v,r,d,c,b⟩:=z7;exact ⟨v,r,d,aj.ext e a c,bq.ext e a b⟩
theorem bq.length: ∀ {ws}{vs},bq Y G H ws vs->ws.e=vs.e
 | [],_,rfl=>rfl
 | _::_,_,z7=>by obtain⟨_,_,rfl,_,z⟩:=z7;exact congrArg (· +1) (bq.length z)
def gf (Y:Ge) (m:M.Sl->M.AH->M.R (Y0 M.W)):TA:=λU H Q=> ∃G τ h,av Y G τ h U H/\aA Y G H (m τ h) λb _ G' H'=> ∀a,bq Y G' H' b a->Q a H'
def oY (b:ah Y G0 h0 H0) (c:Ext G0 H0 G H) (s:av Y G τ h U H)
 (p:aA Y G0 H0 ((m τ h).p f) P)
 (k: ∀ds vs h1 G1 H1,Ext G0 H0 G1 H1->Ext G H G1 H1->av Y G1 τ h1 U H1->aa Y G1 H1 ds vs->aA Y G0 H0 (f ds h1) P->Q vs H1):kf Y m U H Q:=by
 refine⟨G,τ,h,s,?_⟩
 cases q:m τ h with
 | ok w h1=>
  rw [q]at p
  exact λG1 H1 e a vs z=>k w vs h1 G1 H1 (c.trans b e) e (s.ext e a) z p
 | exc d h1=>rw [q]at p;exact p.j
 | fail=>rw [q]at p;exact p
def jr (b:ah Y G0 h0 H0) (c:Ext G0 H0 G H) (s:av Y G τ h U H)
 (p:aA Y G0 H0 ((m τ h).p f) P)
 (k: ∀ds vs h1 G1 H1,Ext G0 H0 G1 H1->Ext G H G1 H1->av Y G1 τ h1 U H1->bq Y G1 H1 ds vs->aA Y G0 H0 (f ds h1) P->Q vs H1):gf Y m U H Q:=by
 refine⟨G,τ,h,s,?_⟩
 cases q:m τ h with
 | ok w h1=>
  rw [q]at p
  exact λG1 H1 e a vs z=>k w vs h1 G1 H1 (c.trans b e) e (s.ext e a) z p
 | exc d h1=>rw [q]at p;exact p.j
 | fail=>rw [q]at p;exact p
theorem aA.of (p:aA Y G H ((M.R.of h o).p f) P): ∃b,o=k0 b/\aA Y G H (f b h) P:=by
 cases o with
 | none=>exact p.j
 | some b=>exact⟨b,rfl,p⟩
def aA.at (p:aA Y G H (.j a h) P) (e:Ext G H G1 H1) (b:ah Y G1 h H1):P a h G1 H1:=p G1 H1 e b
def oq (e:Ext G H G1 H1) (s:av Y G1 τ h U H1) (p:av Y G τ h' U H)(r:aj Y G1 H1 w v) (f:aM τ U H w v) (c:w.d=k0 d):
 ∃G2,Ext G H G2 H1/\av Y G2 τ h U H1/\aE Y G2 H1 d v/\Mon G1 H1 G2 H1:=by
 cases w with
 | v A=>cases c;exact⟨G1,e,s,r,⟨λ_ _ _ z=>z,Aa8 _,λ_ _=>rfl,λ_ z=>z⟩⟩
 | own m=>
  cases c
  obtain⟨a,l,rfl,y,u,g,n⟩:=r
  obtain⟨b,t,k⟩:=f
  cases t
  refine⟨G1.p a,e.more k,s.more u ⟨_,g⟩ λi w q x z=> ?_,⟨a,l,rfl,.p ⟨.q rfl,.p g⟩,n.mon (zv a)⟩,zv a⟩
  obtain⟨o,j⟩:=p.cV q x z
  rw [k]at j;cases j
 | bor m=>cases c
end
open PySem PySem.Spec PyProof.Rows
mutual
def RV (hp:Heap):M.D->Value->Prop
 | .ak,u=>u= .u
 | .C b,u=>u= .w b
 | .o i,u=> ∃t,u= .o i t
 | .j s,u=> ∃t,u= .str (aN s) t
 | .q ds,u=> ∃(a:Addr) (its:List Value),u= .p a/\IsTup hp a its.q/\cz hp ds its
 | .u ds,u=> ∃(a:Addr) (its:List Value),u= .p a/\hp.z a its.q/\cz hp ds its
 | .p _,_=>False
 | .w _ _ _,_=>False
def cz (hp:Heap):List M.D->List Value->Prop
 | [],us=>us= []
 | d::ds,us=> ∃u r,us=u::r/\RV hp d u/\cz hp ds r
end
theorem cz.length : ∀ {ds}{i},cz hp ds i->ds.e=i.e
 | [],_,rfl=>rfl
 | _::_,_,z7=>by obtain⟨_,_,rfl,_,z⟩:=z7;exact congrArg (· +1) (cz.length z)
open L2 renaming MS.cz.length→L2.MS.cz.e
theorem cz.get : ∀ {ds}{us}{j:Nat}{u},cz hp ds us->us[j]? =k0 u-> ∃d,ds[j]? =k0 d/\RV hp d u
 | [],_,_,_,rfl,e=>by simp at e
 | d::_,_,0,_,z7,e=>by obtain⟨v,_,rfl,z,_⟩:=z7;simp at e;subst e;exact⟨d,rfl,z⟩
 | _::_,_,j+1,_,z7,e=>by
  obtain⟨_,_,rfl,_,z⟩:=z7
  obtain⟨v,b,a⟩:=cz.get z (by simpa using e)
  exact⟨v,by simpa using b,a⟩
section
variable {X:Cx}{Y:Ge}{G:Gh}{H:Hp}{h:M.AH}{pins:Y0 (Y5×Obj)}{U:St}{s:Y3}
mutual
theorem aE.lB (I:Inv X pins U H s) (hK:X.K=Y.K): ∀ {d:M.D}{x:V}{u:Value},aE Y G H d x->RelV x u->M.Gd d=u0->RV s.j d u
 | .ak,_,_,rfl,r,_=>r
 | .C _,_,_,rfl,r,_=>r
 | .o _,_,_,rfl,r,_=>r
 | .j _,_,_,rfl,r,_=>r
 | .q ds,_,_,⟨a,vs,rfl,z2,z3⟩,r,n=>by
  cases r
  obtain⟨its,r1,p1,_⟩:=I.tuple (hK▸z2.sq)
  exact⟨a,its,rfl,p1,aa.lB I hK z3 r1 (by simpa [M.Gd]using n)⟩
 | .u ds,_,_,⟨a,vs,rfl,z2,z3⟩,r,n=>by
  cases r
  obtain⟨its,r1,p1,_⟩:=I.A (hK▸z2.sq)
  exact⟨a,its,rfl,p1.G,aa.lB I hK z3 r1 (by simpa [M.Gd]using n)⟩
 | .p _,_,_,_,_,n=>by simp [M.Gd]at n
 | .w _ _ _,_,_,_,_,n=>by simp [M.Gd]at n
theorem aa.lB (I:Inv X pins U H s) (hK:X.K=Y.K): ∀ {ds:List M.D}{xs:List V}{us:List Value},aa Y G H ds xs->Vals xs us->M.Gc ds=u0->cz s.j ds us
 | [],_,_,rfl,.p,_=>rfl
 | d::ds,_,_,⟨v,r,rfl,z1,z2⟩,.j r1 r2,n=>by
  have n':M.Gd d=u0/\M.Gc ds=true:=by simpa [M.Gc]using n
  exact⟨_,_,rfl,aE.lB I hK z1 r1 n'.1,aa.lB I hK z2 r2 n'.2⟩
end
mutual
theorem aE.rv (I:Inv X pins U H s) (hK:X.K=Y.K) (hr:ah Y G h H): ∀ {d:M.D}{x:V}{u:Value},aE Y G H d x->RelV x u->M.Gd (M.res h d)=u0->RV s.j (M.res h d) u
 | .ak,_,_,rfl,r,_=>r
 | .C _,_,_,rfl,r,_=>r
 | .o _,_,_,rfl,r,_=>r
 | .j _,_,_,rfl,r,_=>r
 | .q ds,_,_,⟨a,vs,rfl,z2,z3⟩,r,n=>by
  cases r
  obtain⟨its,r1,p1,_⟩:=I.tuple (hK▸z2.sq)
  rw [M.res]at n ⊢
  exact⟨a,its,rfl,p1,aa.rv I hK hr z3 r1 (by simpa [M.Gd]using n)⟩
 | .u ds,_,_,⟨a,vs,rfl,z2,z3⟩,r,n=>by
  cases r
  obtain⟨its,r1,p1,_⟩:=I.A (hK▸z2.sq)
  rw [M.res]at n ⊢
  exact⟨a,its,rfl,p1.G,aa.rv I hK hr z3 r1 (by simpa [M.Gd]using n)⟩
 | .p i,_,_,⟨hi,e⟩,r,n=>by
  subst e
  cases r
  rw [M.res]at n ⊢
  cases q:h[i]? with
  | none=>rw [q]at n;simp [M.Gd]at n
  | some c=>
   cases c with
   | lst xs=>
    rw [q]at n
    obtain⟨_,vs,z2,z3⟩:=hr.cell i xs q
    obtain⟨its,r1,p1,_⟩:=I.A (bA.of (K:=X.K) z2)
    exact⟨_,its,rfl,p1.G,aa.lB I hK z3 r1 (by simpa [M.Gd]using n)⟩
   | obj c fs=>rw [q]at n;simp [M.Gd]at n
   | aP ks=>rw [q]at n;simp [M.Gd]at n
 | .w _ _ _,_,_,_,_,n=>by simp [M.res,M.Gd]at n
theorem aa.rv (I:Inv X pins U H s) (hK:X.K=Y.K) (hr:ah Y G h H): ∀ {ds:List M.D}{xs:List V}{us:List Value},aa Y G H ds xs->Vals xs us->M.Gc (M.GO h ds)=u0->cz s.j (M.GO h ds) us
 | [],_,_,rfl,.p,_=>rfl
 | d::ds,_,_,⟨v,r,rfl,z1,z2⟩,.j r1 r2,n=>by
  rw [M.GO]at n ⊢
  have n':M.Gd (M.res h d)=u0/\M.Gc (M.GO h ds)=true:=by simpa [M.Gc]using n
  exact⟨_,_,rfl,aE.rv I hK hr z1 r1 n'.1,aa.rv I hK hr z2 r2 n'.2⟩
end
theorem aj.rv (I:Inv X pins U H s) (f:X.K=Y.K) (c:ah Y G h H)(z:aj Y G H w x) (r:RelV x u) (n:M.Gd (w.dd h)=u0):RV s.j (w.dd h) u:=by
 cases w with
 | v d=>exact aE.rv I f c z r n
 | own l=>
  obtain⟨a,k,rfl,_,_,i,e⟩:=z
  cases r
  obtain⟨b,j,g,_⟩:=I.A (bA.of i)
  exact⟨a,b,rfl,g.G,aa.rv I f c e j (by simp_all)⟩
 | bor l=>
  obtain⟨a,k,rfl,_,i,e⟩:=z
  cases r
  obtain⟨b,j,g,_⟩:=I.A (.p i)
  exact⟨a,b,rfl,g.G,aa.rv I f c e j (by simp_all)⟩
end
def qC (h:aN a=aN b):a=b:=by
 have:=congrArg Str.cps h
 simpa [aN]using this
def J5 {xs b:Y0 Y2}(h1:IsTup hp a xs.q) (d:IsTup hp a b.q):xs=b:=by
 obtain⟨o,e1,_,n,e⟩:=h1
 obtain⟨g,e2,_,f,c⟩:=d
 rw [e1]at e2;cases e2
 rw [e]at c;cases c
 rfl
def zQ {b:Y6}{xs c:Y0 Y2}(h1:b.z a xs.q) (e:b.z a c.q):xs=c:=by
 obtain⟨o,e1,_,n,f⟩:=h1
 obtain⟨h,e2,_,g,d⟩:=e
 rw [e1]at e2;cases e2
 rw [f]at d;cases d
 rfl
def jF (h1:IsTup hp a xs) (c:hp.z a ys):False:=by
 obtain⟨o,e1,d,_⟩:=h1
 obtain⟨e,e2,b,_⟩:=c
 rw [e1]at e2;cases e2
 rw [d]at b
 exact absurd b (by decide)
mutual
theorem RV.inj {hp:Heap}: ∀ {d e:M.D}{u:Value},RV hp d u->RV hp e u->d=e
 | .ak,e,_,rfl,q=>by cases e<;>first | rfl | (simp [RV]at q)
 | .C _,e,_,rfl,q=>by cases e<;>first | (simp [RV]at q;done) | (have q:=q;simp [RV]at q;try rw [q])
 | .o _,e,_,⟨t,rfl⟩,q=>by cases e<;>first | (simp [RV]at q;done) | (have q:=q;simp [RV]at q;try rw [q])
 | .j _,e,_,⟨t,rfl⟩,q=>by
  cases e with
  | str z=>
   obtain⟨t',q⟩:=q
   injection q with q1 q2
   rw [qC q1]
  | _=>simp [RV]at q
 | .q ds,e,_,⟨a,its,rfl,p,r⟩,q=>by
  cases e with
  | tup es=>
   obtain⟨b,its2,e,p2,r2⟩:=q
   cases e
   cases J5 p p2
   rw [cz.inj r r2]
  | lst es=>
   obtain⟨b,its2,e,p2,r2⟩:=q
   cases e
   exact(jF p p2).j
  | _=>simp [RV]at q
 | .u ds,e,_,⟨a,its,rfl,p,r⟩,q=>by
  cases e with
  | lst es=>
   obtain⟨b,its2,e,p2,r2⟩:=q
   cases e
   cases zQ p p2
   rw [cz.inj r r2]
  | tup es=>
   obtain⟨b,its2,e,p2,r2⟩:=q
   cases e
   exact(jF p2 p).j
  | _=>simp [RV]at q
 | .p _,_,_,q,_=>q.j
 | .w _ _ _,_,_,q,_=>q.j
theorem cz.inj {hp:Heap}: ∀ {d e:List M.D}{u:List Value},cz hp d u->cz hp e u->d=e
 | [],e,_,rfl,q=>by
  cases e with
  | nil=>rfl
  | cons a b=>obtain⟨_,_,z,_⟩:=q;cases z
 | d::ds,e,_,⟨u,r,rfl,z1,z2⟩,q=>by
  cases e with
  | nil=>cases (show _::_= []from q)
  | cons a b=>
   obtain⟨_,_,z,y1,y2⟩:=q
   cases z
   rw [RV.inj z1 y1,cz.inj z2 y2]
end
mutual
theorem RV.refl {hp:Heap}: ∀ {d:M.D}{u:Value},RV hp d u->M.cw d d=u0
 | .ak,_,_=>rfl
 | .C _,_,_=>by simp
 | .o _,_,_=>by simp
 | .j _,_,_=>by simp
 | .q ds,_,⟨_,_,_,_,r⟩=>by rw [M.cw];exact cz.refl r
 | .u ds,_,⟨_,_,_,_,r⟩=>by rw [M.cw];exact cz.refl r
 | .p _,_,q=>q.j
 | .w _ _ _,_,q=>q.j
theorem cz.refl {hp:Heap}: ∀ {d:List M.D}{u:List Value},cz hp d u->M.GL d d=u0
 | [],_,_=>rfl
 | d::ds,_,⟨_,_,_,z1,z2⟩=>by rw [M.GL,RV.refl z1,cz.refl z2];rfl
end
def kG (xs c:Y0 M.D) (j:Nat):Bool:=match xs[j]?,c[j]? with
 | some a,k0 b=>M.cw a b
 | _,_=>u0
def qN (n) (e):(Aa7 (n+1)).K e=(e 0&&(Aa7 n).K λj=>e (j+1)):=by
 rw [Ah3,Al8,An6];rfl
theorem J8: ∀(xs ys),xs.e=ys.e->(Aa7 xs.e).K (kG xs ys)=M.GL xs ys
 | [],[],_=>rfl
 | [],_::_,h=>by simp at h
 | _::_,[],h=>by simp at h
 | x::xs,y::ys,h=>by
  rw [Aa6,qN,M.GL]
  have a:=J8 xs ys (by simpa using h)
  rw [← a]
  rfl
theorem uu: ∀(xs ys),M.GL xs ys=u0->xs.e=ys.e
 | [],[],_=>rfl
 | [],_::_,h=>by simp at h
 | _::_,[],h=>by simp at h
 | x::xs,y::ys,h=>by
  rw [M.GL,Aa0]at h
  rw [Aa6,Aa6,uu xs ys h.2]
def ym (h:xs.e≠ys.e):M.GL xs ys=false:=by
 cases e:M.GL xs ys with
 | false=>rfl
 | true=>exact absurd (uu xs ys e) h
open SeqAt in
structure d3 (A:Around) (s:Shared) (u v:Value) (b:Bool):Prop where
 rc:RcAt A s u v b
 ne:RcNeAt A s u v (!b)
 eq:EqAt A s u v b
section
open SeqAt
variable {A:YQ}{s:Y3}
theorem qH: ∀ {ds}{j:Nat}{d},ds[j]? =k0 d->M.dep d<=M.GG ds
 | [],_,_,e=>by simp at e
 | x::a,0,d,e=>by simp at e;subst e;simp only [M.GG];omega
 | x::a,j+1,d,e=>by
  have:=qH (by simpa using e)
  simp only [M.GG]
  omega
def AI (b:Bool):((if b then(1:Int)else 0))=((b.j:Nat):Int):=by cases b<;>rfl
def CG (a b):(aN a==aN b)=(a==b):=by
 by_cases h:a=b
 .subst h;simp
 .have c:=λe=>h (qC e)
  rw [beq_eq_false_iff_ne.q h,beq_eq_false_iff_ne.q c]
def Fq (h:s.j.z l its.q) (g:s.j.z b its2.q) (k:cz s.j xs its) (m:cz s.j ys its2) (i:A.q<cLine)
 (w: ∀(j:Nat) a c u v,xs[j]? =k0 a->ys[j]? =k0 c->RV s.j a u->RV s.j c v->EqAt A.j s u v (M.cw a c)):d3 A s (.p l) (.p b) (M.GL xs ys):=by
 have q: ∀ j r (y:j<its2.q.j),EqAt A.j s its.q[j] its2.q[j] (kG xs ys j):=λj r y=>by
  obtain⟨a,o,t⟩:=k.get (j:=j) (u:=its.q[j]) (by simp)
  obtain⟨c,p,z⟩:=m.get (j:=j) (u:=its2.q[j]) (by simp)
  have:=w j a c _ _ o p t z
  unfold kG
  rw [o,p]
  exact this
 have x:=k.e
 have l2:=m.e
 have two:RcAt A s (.p l) (.p b) (M.GL xs ys)/\RcNeAt A s (.p l) (.p b) (!M.GL xs ys):=by
  by_cases n:xs.e=ys.e
  .have d:its.q.j=its2.q.j:=by simp;lia
   have e:(Aa7 its.q.j).K (kG xs ys)=M.GL xs ys:=by
    rw [Ab4,←x];exact J8 xs ys n
   have a:=RcAt.lists h g d i q
   have c:=RcNeAt.lists h g d i q
   rw [e]at a c
   exact⟨a,c⟩
  .have d:(its.q.j != its2.q.j)=true:=by simp;lia
   rw [ym n]
   exact⟨RcAt.lists_lengths h g d i,RcNeAt.lists_lengths h g d i⟩
 refine⟨two.1,two.2,?_⟩
 by_cases f:l=b
 .subst f
  cases zQ h g
  cases cz.inj k m
  rw [cz.refl k]
  exact EqAt.same _
 .exact EqAt.of_refs f two.1
def Mo (k:IsTup s.j l its.q) (h:IsTup s.j b its2.q) (g:cz s.j xs its) (i:cz s.j ys its2) (m:A.q<cLine)
 (t: ∀(j:Nat) a c u v,xs[j]? =k0 a->ys[j]? =k0 c->RV s.j a u->RV s.j c v->EqAt A.j s u v (M.cw a c)):d3 A s (.p l) (.p b) (M.GL xs ys):=by
 have p: ∀ j q (w:j<its2.q.j),EqAt A.j s its.q[j] its2.q[j] (kG xs ys j):=λj q w=>by
  obtain⟨a,n,r⟩:=g.get (j:=j) (u:=its.q[j]) (by simp)
  obtain⟨c,o,x⟩:=i.get (j:=j) (u:=its2.q[j]) (by simp)
  have:=t j a c _ _ n o r x
  unfold kG
  rw [n,o]
  exact this
 have e:((Aa7 (min its.q.j its2.q.j)).K (kG xs ys)&&its.q.j==its2.q.j)=M.GL xs ys:=by
  rw [Ab4,Ab4,←g.e,←i.e]
  by_cases f:xs.e=ys.e
  .rw [← f,Nat.min_self,J8 xs ys f];simp
  .rw [ym f];simp [f]
 have a:=RcAt.tuples k h m p
 have c:=RcNeAt.tuples k h m p
 rw [e]at a c
 refine⟨a,c,?_⟩
 by_cases d:l=b
 .subst d
  cases J5 k h
  cases cz.inj g i
  rw [cz.refl g]
  exact EqAt.same _
 .exact EqAt.of_refs d a
def d3.of (h:d3 A s u v b) (e:b=b'):d3 A s u v b':=e▸h
def pC: ∀(n:Nat) (d e:M.D) (A:YQ) (u v:Y2),M.dep d<=n->A.q+n<cLine->RV s.j d u->RV s.j e v->d3 A s u v (M.cw d e):=by
 intro n
 induction n with
 | zero=>
  intro d e A u v C K m f
  have c:A.q<cLine:=by omega
  cases d with
  | ak=>
   cases (show u= .u from m)
   cases e with
   | ak=>cases (show v= .u from f);exact⟨RcAt.none_none,RcNeAt.none_none,EqAt.same _⟩
   | bl b=>cases (show v= .w b from f);exact⟨RcAt.none_bool b,RcNeAt.none_bool b,EqAt.none_bool b⟩
   | int i=>obtain⟨t,rfl⟩:=f;exact⟨RcAt.none_int i t,RcNeAt.none_int i t,EqAt.none_int i t⟩
   | str z=>obtain⟨t,rfl⟩:=f;exact⟨RcAt.none_str _ t,RcNeAt.none_str _ t,EqAt.none_str _ t⟩
   | tup o=>obtain⟨a,k,rfl,p,_⟩:=f;exact⟨RcAt.none_tuple p c,RcNeAt.none_tuple p c,EqAt.none_tuple p c⟩
   | lst o=>obtain⟨a,k,rfl,p,_⟩:=f;exact⟨RcAt.none_list p c,RcNeAt.none_list p c,EqAt.none_list p c⟩
   | ref _=>exact f.j
   | err _ _ _=>exact f.j
  | bl x=>
   cases (show u= .w x from m)
   cases e with
   | ak=>cases (show v= .u from f);exact⟨RcAt.bool_none x,RcNeAt.bool_none x,EqAt.bool_none x⟩
   | bl b=>cases (show v= .w b from f);exact⟨RcAt.bool_bool x b,RcNeAt.bool_bool x b,EqAt.bool_bool x b⟩
   | int i=>obtain⟨t,rfl⟩:=f;exact(d3.mk (RcAt.bool_int x i t) (RcNeAt.bool_int x i t) (EqAt.bool_int x i t)).of (by rw [AI];rfl)
   | str z=>obtain⟨t,rfl⟩:=f;exact⟨RcAt.bool_str x _ t,RcNeAt.bool_str x _ t,EqAt.bool_str x _ t⟩
   | tup o=>obtain⟨a,k,rfl,p,_⟩:=f;exact⟨RcAt.bool_tuple x p c,RcNeAt.bool_tuple x p c,EqAt.bool_tuple x p c⟩
   | lst o=>obtain⟨a,k,rfl,p,_⟩:=f;exact⟨RcAt.bool_list x p c,RcNeAt.bool_list x p c,EqAt.bool_list x p c⟩
   | ref _=>exact f.j
   | err _ _ _=>exact f.j
  | int x=>
   obtain⟨g,rfl⟩:=m
   cases e with
   | ak=>cases (show v= .u from f);exact⟨RcAt.int_none x g,RcNeAt.int_none x g,EqAt.int_none x g⟩
   | bl b=>cases (show v= .w b from f);exact(d3.mk (RcAt.int_bool x g b) (RcNeAt.int_bool x g b) (EqAt.int_bool x g b)).of (by rw [AI];rfl)
   | int i=>obtain⟨t,rfl⟩:=f;exact⟨RcAt.int_int x g i t,RcNeAt.int_int x g i t,EqAt.int_int x g i t⟩
   | str z=>obtain⟨t,rfl⟩:=f;exact⟨RcAt.int_str x g _ t,RcNeAt.int_str x g _ t,EqAt.int_str x g _ t⟩
   | tup o=>obtain⟨a,k,rfl,p,_⟩:=f;exact⟨RcAt.int_tuple x g p c,RcNeAt.int_tuple x g p c,EqAt.int_tuple x g p c⟩
   | lst o=>obtain⟨a,k,rfl,p,_⟩:=f;exact⟨RcAt.int_list x g p c,RcNeAt.int_list x g p c,EqAt.int_list x g p c⟩
   | ref _=>exact f.j
   | err _ _ _=>exact f.j
  | str x=>
   obtain⟨g,rfl⟩:=m
   cases e with
   | ak=>cases (show v= .u from f);exact⟨RcAt.str_none _ g,RcNeAt.str_none _ g,EqAt.str_none _ g⟩
   | bl b=>cases (show v= .w b from f);exact⟨RcAt.str_bool _ g b,RcNeAt.str_bool _ g b,EqAt.str_bool _ g b⟩
   | int i=>obtain⟨t,rfl⟩:=f;exact⟨RcAt.str_int _ g i t,RcNeAt.str_int _ g i t,EqAt.str_int _ g i t⟩
   | str z=>obtain⟨t,rfl⟩:=f;exact(d3.mk (RcAt.str_str _ g _ t) (RcNeAt.str_str _ g _ t) (EqAt.str_str _ g _ t)).of (by rw [CG];rfl)
   | tup o=>obtain⟨a,k,rfl,p,_⟩:=f;exact⟨RcAt.str_tuple _ g p c,RcNeAt.str_tuple _ g p c,EqAt.str_tuple _ g p c⟩
   | lst o=>obtain⟨a,k,rfl,p,_⟩:=f;exact⟨RcAt.str_list _ g p c,RcNeAt.str_list _ g p c,EqAt.str_list _ g p c⟩
   | ref _=>exact f.j
   | err _ _ _=>exact f.j
  | tup y=>simp only [M.dep]at C;omega
  | lst y=>simp only [M.dep]at C;omega
  | ref _=>exact m.j
  | err _ _ _=>exact m.j
 | succ n w=>
  intro d e A u v C K m f
  have c:A.q<cLine:=by omega
  cases d with
  | tup y=>
   obtain⟨l,B,rfl,h,E⟩:=m
   have r:M.GG y<=n:=by simp only [M.dep]at C;omega
   cases e with
   | ak=>cases (show v= .u from f);exact⟨RcAt.tuple_none h c,RcNeAt.tuple_none h c,EqAt.tuple_none h c⟩
   | bl b=>cases (show v= .w b from f);exact⟨RcAt.tuple_bool b h c,RcNeAt.tuple_bool b h c,EqAt.tuple_bool b h c⟩
   | int i=>obtain⟨t,rfl⟩:=f;exact⟨RcAt.tuple_int i t h c,RcNeAt.tuple_int i t h c,EqAt.tuple_int i t h c⟩
   | str z=>obtain⟨t,rfl⟩:=f;exact⟨RcAt.tuple_str _ t h c,RcNeAt.tuple_str _ t h c,EqAt.tuple_str _ t h c⟩
   | tup o=>
    obtain⟨a,k,rfl,p,q⟩:=f
    rw [M.cw]
    exact Mo h p E q c λj G F I D e1 e2 H J=>(w G F A.j I D (Ab5 (qH e1) r) (by show A.q+1+n<cLine;omega) H J).eq
   | lst o=>obtain⟨a,k,rfl,p,_⟩:=f;exact⟨RcAt.tuple_list h p c,RcNeAt.tuple_list h p c,EqAt.tuple_list h p c⟩
   | ref _=>exact f.j
   | err _ _ _=>exact f.j
  | lst y=>
   obtain⟨l,B,rfl,h,E⟩:=m
   have r:M.GG y<=n:=by simp only [M.dep]at C;omega
   cases e with
   | ak=>cases (show v= .u from f);exact⟨RcAt.list_none h c,RcNeAt.list_none h c,EqAt.list_none h c⟩
   | bl b=>cases (show v= .w b from f);exact⟨RcAt.list_bool b h c,RcNeAt.list_bool b h c,EqAt.list_bool b h c⟩
   | int i=>obtain⟨t,rfl⟩:=f;exact⟨RcAt.list_int i t h c,RcNeAt.list_int i t h c,EqAt.list_int i t h c⟩
   | str z=>obtain⟨t,rfl⟩:=f;exact⟨RcAt.list_str _ t h c,RcNeAt.list_str _ t h c,EqAt.list_str _ t h c⟩
   | lst o=>
    obtain⟨a,k,rfl,p,q⟩:=f
    rw [M.cw]
    exact Fq h p E q c λj G F I D e1 e2 H J=>(w G F A.j I D (Ab5 (qH e1) r) (by show A.q+1+n<cLine;omega) H J).eq
   | tup o=>obtain⟨a,k,rfl,p,_⟩:=f;exact⟨RcAt.list_tuple h p c,RcNeAt.list_tuple h p c,EqAt.list_tuple h p c⟩
   | ref _=>exact f.j
   | err _ _ _=>exact f.j
  | ak=>exact w .ak e A u v (by simp) (by omega) m f
  | bl x=>exact w (.C x) e A u v (by simp) (by omega) m f
  | int x=>exact w (.o x) e A u v (by simp) (by omega) m f
  | str x=>exact w (.j x) e A u v (by simp) (by omega) m f
  | ref _=>exact m.j
  | err _ _ _=>exact m.j
end
def aB (Y:Ge) (G:Gh) (H:Hp) (r:M.R M.W) (Q:VK):Prop:=aA Y G H r λw _ G' H'=> ∀v,aj Y G' H' w v->aM [] [] H w v->Q v H'
section
open L2 renaming MS.aa.length→L2.MS.aa.e
variable {X:Cx}{Y:Ge}{G:Gh}{H:Hp}{h:M.AH}{pins:Y0 (Y5×Obj)}{U:St}{s:Y3}{Q:VK}{E:XK}
def mX (Y:Ge) (E:XK) (G:Gh) (H:Hp) (r:M.R M.W) (Q:VK):Prop:=match r with
 | .exc d h'=> ∀G' H',Ext G H G' H'->ah Y G' h' H'->u7 Y E d G' H'
 | r=>aB Y G H r Q
theorem aB.v (p:aB Y G H (.j (.v d) h) Q) (a:ah Y G h H){v:V}(z:aE Y G H d v):Q v H:=p G H Ext.refl a v z trivial
def ah.i7 (b:ah Y G h H)(c:H a=y0): ¬G.fz a:=λq=>by
 obtain⟨o,z⟩:=b.j a q
 rw [c]at z;cases z
def ah.gE (b:ah Y G h H)(d:H a=y0):dU G a:=λr c e=>by
 obtain⟨o,q⟩:=b.there c
 rw [e,d]at q;cases q
theorem aB.own (p:aB Y G H (.j (.j xs) h) Q) (c:ah Y G h H) (z:aa Y G H xs vs) (a) (b:H a=y0):Q (.p a) (aF H a (.u vs)):=
 p G (aF H a (.u vs)) (Qr _ b) (c.new _ b) (.p a) ⟨a,vs,rfl,c.i7 b,c.gE b,zb,z.ext (Qr _ b) c⟩ ⟨a,rfl,b⟩
theorem aB.tup (p:aB Y G H (.j (.v (.q xs)) h) Q) (c:ah Y G h H) (z:aa Y G H xs vs) (a) (b:H a=y0):Q (.p a) (aF H a (.tup vs)):=
 p (G.more a) (aF H a (.tup vs)) (jk _ b) (c.gY _ b) (.p a) ⟨a,vs,rfl,.p ⟨.q rfl,zb⟩,z.ext (jk _ b) c⟩ trivial
theorem aB.of (p:aB Y G H ((M.R.of h o).p f) Q): ∃b,o=k0 b/\aB Y G H (f b h) Q:=aA.of p
def aB.mk (p:aA Y G0 H0 r λw _ G' H'=> ∀v,aj Y G' H' w v->aM τ U H0 w v->Q v H') (e:Ext G0 H0 G H) (g:ah Y G0 h0 H0):aB Y G H r Q:=by
 cases r with
 | ok w l=>
  refine λG' H' h b v j f=>p G' H' (e.trans g h) b v j ?_
  cases w with
  | v d=>trivial
  | own m=>obtain⟨a,c,k⟩:=f;exact⟨a,c,e.none g k⟩
  | bor m=>obtain⟨i,w,c,_⟩:=f;simp at c
 | exc d l=>exact p.j
 | fail=>exact p
def aB.x (p:aB Y G H r Q):mX Y E G H r Q:=by
 cases r with
 | ok w a=>exact p
 | exc d a=>exact p.j
 | fail=>exact p
theorem aj.lst (j:ah Y G h H)(z:aj Y G H w v) (e:w.cx h=k0 xs): ∃a vs,v= .p a/\bA Y.K H a vs/\aa Y G H xs vs:=by
 cases w with
 | v d=>
  cases d with
  | lst i=>cases e;obtain⟨a,vs,g,f,b⟩:=z;exact⟨a,vs,g,f.sq,b⟩
  | ref r=>
   obtain⟨k,g⟩:=z
   have e:(match h[r]? with | some (M.Cell.lst zs)=>k0 zs | _=>y0)=k0 xs:=e
   cases q:h[r]? with
   | none=>rw [q]at e;cases e
   | some c=>
    cases c with
    | lst i=>
     rw [q]at e
     cases e
     obtain⟨_,vs,f,b⟩:=j.cell r _ q
     exact⟨_,vs,g,bA.of f,b⟩
    | obj c fs=>rw [q]at e;cases e
    | aP l=>rw [q]at e;cases e
  | ak=>cases e
  | bl _=>cases e
  | int _=>cases e
  | str _=>cases e
  | tup _=>cases e
  | err _ _ _=>cases e
 | own i=>cases e;obtain⟨a,vs,g,_,_,f,b⟩:=z;exact⟨a,vs,g,bA.of f,b⟩
 | bor i=>cases e;obtain⟨a,vs,g,_,f,b⟩:=z;exact⟨a,vs,g,.p f,b⟩
theorem aj.o5 (j:ah Y G h H)(z:aj Y G H w v) (e:w.iH h=k0 xs): ∃a vs,v= .p a/\Rd H a (.u vs)/\aa Y G H xs vs:=by
 cases w with
 | v d=>
  cases d with
  | ref r=>
   obtain⟨k,g⟩:=z
   have e:(match h[r]? with | some (M.Cell.lst zs)=>k0 zs | _=>y0)=k0 xs:=e
   cases q:h[r]? with
   | none=>rw [q]at e;cases e
   | some c=>
    cases c with
    | lst i=>
     rw [q]at e
     cases e
     obtain⟨_,vs,f,b⟩:=j.cell r _ q
     exact⟨_,vs,g,.p f,b⟩
    | obj c fs=>rw [q]at e;cases e
    | aP l=>rw [q]at e;cases e
  | _=>cases e
 | own i=>cases e;obtain⟨a,vs,g,_,_,f,b⟩:=z;exact⟨a,vs,g,.p f,b⟩
 | bor i=>cases e;obtain⟨a,vs,g,_,f,b⟩:=z;exact⟨a,vs,g,f,b⟩
theorem aj.seq (j:ah Y G h H)(z:aj Y G H w v) (e:w.seq? h=k0 xs): ∃a vs,v= .p a/\(bA Y.K H a vs\/cQ Y.K H a vs)/\aa Y G H xs vs:=by
 have b:w.cx h=k0 xs-> ∃a vs,v= .p a/\(bA Y.K H a vs\/cQ Y.K H a vs)/\aa Y G H xs vs:=λe=>by
  obtain⟨a,vs,i,f,c⟩:=z.lst j e
  exact⟨a,vs,i,.p f,c⟩
 cases w with
 | v d=>
  cases d with
  | tup g=>cases e;obtain⟨a,vs,i,f,c⟩:=z;exact⟨a,vs,i,.q f.sq,c⟩
  | lst g=>exact b e
  | ref r=>exact b e
  | ak=>cases e
  | bl _=>cases e
  | int _=>cases e
  | str _=>cases e
  | err _ _ _=>cases e
 | own g=>exact b e
 | bor g=>exact b e
def Mn (I:Inv X pins U H s)(r:Rd H a (.u vs)):vs.e<=sizeLine/\ ∃ i n,Vals vs i/\vs.e=i.e/\s.j.p a=k0 { cls:= .j "list",data:= .j i.q n }:=by
 obtain⟨z,i,n,r,e⟩:=r.ok I.aX
 exact⟨z,i,n,r,r.length,e⟩
def Qi:M.bp<=sizeLine:=by rw [M.Gg];decide
def NV (K:Ab):R2:=λx y H Q=> ∃l b xs zs,x= .p l/\y= .p b/\bA K H l xs/\bA K H b zs/\xs.e+zs.e<=sizeLine/\ ∀p,H p=y0->Q (.p p) (aF H p (.u (xs++zs)))
def De:b8 X (binaryOp .Add) (NV X.K):=by
 intro m s U H x y v u Q I D G h
 obtain⟨l,b,N,M,rfl,rfl,C,w,L,q⟩:=h
 cases D
 cases G
 obtain⟨c,r,F,_⟩:=I.A C
 obtain⟨a,o,K,_⟩:=I.A w
 have O:=r.length
 have l2:=o.length
 have E:c.q++a.q=(c++a).q:=by simp
 obtain⟨⟨z,dd,k,sl⟩,p,B,n,J⟩:=id F.G
 obtain⟨⟨t,e,i,j⟩,d,g,A,f⟩:=id K.G
 subst B J g f
 refine concat_meets ⟨_,p,rfl⟩ ⟨_,d,rfl⟩ noFill_list_add seq_list_add PySem.F.slot_list_add PySem.F.entry_list_add (PySem.F.args_list_add_2 _ _) (list_addW l b c.q a.q n A dd e sl j (by simp_all)) ⟨p,d,?_⟩
 rw [E]
 exact⟨.p _,_,I.mL (r.append o) (by simp_all),rfl,q _ I.fresh⟩
def Mr:R2:=λx y H Q=> ∃l k xs,x= .p l/\y= .o k/\Rd H l (.u xs)/\ -(2 ^ 63)<=k/\k<2 ^ 63/\xs.e*k.j<=sizeLine ∧
 ∀p,H p=y0->Q (.p p) (aF H p (.u (Aa9 k.j xs).L))
def Er:b8 X (binaryOp .Mult) Mr:=by
 intro o s U H x y v u Q I A C h
 obtain⟨l,k,L,rfl,rfl,w,p,B,j,q⟩:=h
 cases A
 obtain⟨t,rfl⟩:=C
 obtain⟨z,b,n,r,G,e⟩:=Mn I w
 have d:b.q.j*k.j<=sizeLine:=by rw [Ab4,←G];exact j
 have i: ¬b.q.j*k.j>(2 ^ 63-1) / 8:=by
  have: sizeLine<=(2 ^ 63-1) / 8:=by decide
  lia
 have f: ¬(!Builtin.List.listFitsIndex k)=true:=by
  rw [fitsIndex_both p B]
  exact Ac2
 have c: ¬Builtin.List.listTooLong (b.q.j*k.j)=true:=by
  rw [y4 d]
  exact Ac2
 have g:List.foldl (λD J=>D++J) #[] (Aa9 (if b.q.isEmpty=u0 then 0 else k.j) b.q)=(Aa9 k.j b).L.q:=by
  have E:=λm=>by
   have:=XZ b m []
   rw [Ae6]at this
   exact this
  rw [E]
  cases b with
  | nil=>simp
  | cons a M=>rw [if_neg (by simp)]
 refine wpAny_binaryOp_repeat_ref rfl ⟨_,e,rfl⟩ (λK=>typeIs_int K k t) noFill_list_mul F.fills_int_mul F.slot_int_rmul repeat_list F.slot_int_index.p
  (call_meets F.slot_int_rmul (typeIs_int s k t) F.entry_int_rmul (F.args_int_rmul_2 _ _) (int___rmul___int_list k t l b.q n)
    ⟨e,rfl,⟨_,e,rfl⟩,call_meets F.slot_list_mul ⟨_,e,rfl⟩ F.entry_list_mul (F.args_list_mul_2 _ _) (AutoListH.list___mul___list_int_3 l b.q n k t f i c) ⟨e,?_⟩⟩)
 rw [g]
 exact⟨.p _,_,I.mL (r.rep k.j) (by rw [N2,Ao];exact j),rfl,q _ I.fresh⟩
theorem aa.rep (z:aa Y G H ds vs): ∀k:Nat,aa Y G H (Aa9 k ds).L (Aa9 k vs).L
 | 0=>rfl
 | k+1=>by
  exact z.append (aa.rep z k)
def Wc (a b:Nat):Builtin.bitAnd (a:Int) (b:Int)=((a &&& b:Nat):Int):=by
 rfl
def DF (a:Nat) (j) (b: ¬0<=j):Builtin.bitAnd (a:Int) j=((a-(a &&& (-j-1).j):Nat):Int):=by
 have e:(Builtin.bitNot j).j=(-j-1).j:=by unfold Builtin.bitNot;lia
 unfold Builtin.bitAnd
 rw [decide_eq_true (Ap0 a),decide_eq_false b]
 show a-((a &&& (Builtin.bitNot j).j:Nat):Int)=_
 rw [e]
 have:= @Nat.and_le_left a (-j-1).j
 omega
def xm (a b:Nat):Builtin.bitOr (a:Int) (b:Int)=((a ||| b:Nat):Int):=by
 have d: ¬ 0<=Builtin.bitNot a:=by unfold Builtin.bitNot;lia
 have c: ¬ 0<=Builtin.bitNot b:=by unfold Builtin.bitNot;lia
 have e1:(Builtin.bitNot (Builtin.bitNot a)).j=a:=by unfold Builtin.bitNot;lia
 have e2:(Builtin.bitNot (Builtin.bitNot b)).j=b:=by unfold Builtin.bitNot;lia
 unfold Builtin.bitOr Builtin.bitAnd
 rw [decide_eq_false d,decide_eq_false c]
 show Builtin.bitNot (Builtin.bitNot _)=_
 rw [e1,e2]
 unfold Builtin.bitNot
 lia
def Mf (h:M.Kf i j=k0 k):Builtin.bitAnd i j=k:=by
 unfold M.Kf at h
 split at h
 .rename_i d
  obtain⟨a,rfl⟩:=Ah d
  split at h
  .rename_i c
   obtain⟨b,rfl⟩:=Ah c
   cases h
   exact Wc a b
  .rename_i c
   cases h
   exact DF a j c
 .cases h
def Ls (h:M.la i j=k0 k):Builtin.bitOr i j=k:=by
 unfold M.la at h
 split at h
 .rename_i c
  obtain⟨a,rfl⟩:=Ah c.1
  obtain⟨b,rfl⟩:=Ah c.2
  cases h
  exact xm a b
 .cases h
def M3: ∀a b:Nat,(a ||| b)=(a ^^^ b)+(a &&& b):=by
 intro a
 induction a using Nat.strongRecOn with
 | ind a c=>
  intro b
  by_cases h:a=0
  .subst h;simp
  .have i:=c (a / 2) (by lia) (b / 2)
   rw [← (@Nat.or_div_two_pow a b 1),←(@Nat.xor_div_two_pow a b 1),←(@Nat.and_div_two_pow a b 1)]at i
   have e:(a ||| b) % 2=(a ^^^ b) % 2+(a &&& b) % 2:=by
    rw [(@Nat.or_mod_two_pow a b 1),(@Nat.xor_mod_two_pow a b 1),(@Nat.and_mod_two_pow a b 1)]
    rcases Nat.mod_two_eq_zero_or_one a with u | u<;>rcases Nat.mod_two_eq_zero_or_one b with v | v<;>rw [u,v]<;>rfl
   lia
def D2 (h:M.KB i j=k0 k):Builtin.bitXor i j=k:=by
 unfold M.KB at h
 split at h
 .rename_i c
  obtain⟨a,rfl⟩:=Ah c.1
  obtain⟨b,rfl⟩:=Ah c.2
  cases h
  show Builtin.bitOr a b-Builtin.bitAnd a b=((a ^^^ b))
  rw [xm,Wc,M3]
  lia
 .cases h
noncomputable def n8:M.Op->Operator
 | .add=> .Add | .sub=> .Sub | .mul=> .Mult | .fdiv=> .FloorDiv | .mod=> .Mod | .pow=> .Pow | .shl=> .LShift | .shr=> .RShift | .band=> .BitAnd | .bor=> .BitOr | .bxor=> .BitXor
def HH (Y:Ge) (o:M.Op):R2:=λx y H Q=> ∃G h b a,ah Y G h H/\aj Y G H b x/\aj Y G H a y/\aB Y G H (M.GX o b a h) Q
def Nv (s t):aN s++aN t=aN (s++t):=by
 show Str.mk _=Str.mk _
 simp [aN]
def Jd (s):(aN s).e=s.e:=by
 show s.q.j=s.e
 simp
def m1:M.Op->Bool
 | _=>u0
def BB (d:m1 o=u0)(e:M.Gj o i j=k0 k)(I:Inv X pins U H s) (b:RelV (.o i) v) (a:RelV (.o j) u) (q:Q (.o k) H):
 wpAny (model X.p X.w) X.A (binaryOp (n8 o) v u) (EP X pins U Q) X.xe s:=by
 cases o with
 | add=>cases e;exact NP pins s U H _ _ v u Q I b a ⟨i,j,rfl,rfl,q⟩
 | sub=>cases e;exact HR pins s U H _ _ v u Q I b a ⟨i,j,rfl,rfl,q⟩
 | mul=>
  simp only [M.Gj,M.GY,M.GC]at e
  split at e
  .rename_i c;cases e;exact KZ pins s U H _ _ v u Q I b a ⟨i,j,rfl,rfl,c,q⟩
  .cases e
 | fdiv=>
  simp only [M.Gj,M.GS,M.GC]at e
  split at e
  .rename_i c;cases e;exact Cm pins s U H _ _ v u Q I b a ⟨i,j,rfl,rfl,c,q⟩
  .cases e
 | mod=>
  simp only [M.Gj,M.GC]at e
  split at e
  .rename_i c;cases e;exact EV pins s U H _ _ v u Q I b a ⟨i,j,rfl,rfl,c,q⟩
  .cases e
 | pow=>
  simp only [M.Gj,M.Kd,M.GC]at e
  split at e
  .rename_i c;cases e;exact KQ pins s U H _ _ v u Q I b a ⟨i,j,rfl,rfl,c,q⟩
  .cases e
 | shl=>
  simp only [M.Gj,M.Kd,M.GC]at e
  split at e
  .rename_i c;cases e;exact Om pins s U H _ _ v u Q I b a ⟨i,j,rfl,rfl,c,q⟩
  .cases e
 | shr=>
  simp only [M.Gj,M.GC]at e
  split at e
  .rename_i c;cases e;exact En pins s U H _ _ v u Q I b a ⟨i,j,rfl,rfl,c,q⟩
  .cases e
 | band=>exact E3 pins s U H _ _ v u Q I b a ⟨i,j,rfl,rfl,by dsimp only;rw [Mf e];exact q⟩
 | bor=>exact N3 pins s U H _ _ v u Q I b a ⟨i,j,rfl,rfl,by dsimp only;rw [Ls e];exact q⟩
 | bxor=>exact Fw pins s U H _ _ v u Q I b a ⟨i,j,rfl,rfl,by dsimp only;rw [D2 e];exact q⟩
theorem aj.int (z:aj Y G H w v) (e:w.int? =k0 i):v= .o i:=by
 cases w with
 | v d=>
  cases d with
  | int j=>cases e;exact z
  | _=>cases e
 | _=>cases e
theorem aj.str (z:aj Y G H w v) (e:w.dY =k0 i):v= .j (aN i):=by
 cases w with
 | v d=>
  cases d with
  | str j=>cases e;exact z
  | _=>cases e
 | _=>cases e
theorem aj.tup (z:aj Y G H w v) (e:w.fA =k0 xs): ∃a vs,v= .p a/\fq Y G H a vs/\aa Y G H xs vs:=by
 cases w with
 | v d=>
  cases d with
  | tup j=>cases e;exact z
  | _=>cases e
 | _=>cases e
def Ly (o) (L:m1 o=u0) (A:X.K=Y.K):b8 X (binaryOp (n8 o)) (HH Y o):=by
 rintro d s U H x y v u Q I n q ⟨G,h,O,N,f,r,w,p⟩
 have P:=Qi
 unfold M.GX at p
 split at p
 .rename_i i j e1 e2
  obtain⟨k,e,p⟩:=p.of
  cases r.int e1
  cases w.int e2
  exact BB L e I n q (p.v f rfl)
 .split at p
  . -- add
    unfold M.KI at p
    split at p
    .rename_i a b e1 e2
     cases r.str e1
     cases w.str e2
     split at p
     .rename_i c
      exact Eh d s U H _ _ v u Q I n q ⟨_,_,rfl,rfl,by rw [Jd,Jd];omega,by rw [Nv];exact p.v f rfl⟩
     .exact p.j
    .split at p
     .rename_i J K e1 e2
      obtain⟨a,l,rfl,m,g⟩:=r.tup e1
      obtain⟨b,D,rfl,C,t⟩:=w.tup e2
      split at p
      .rename_i c
       have F:=g.e
       have l2:=t.e
       by_cases ex:l= []
       .subst ex
        have:J= []:=Ai5 F
        subst this
        exact BI d s U H _ _ v u Q I n q ⟨a,b,D,rfl,rfl,A▸m.sq,A▸C.sq,p.v f ⟨b,D,rfl,C,t⟩⟩
       refine Im d s U H _ _ v u Q I n q ⟨a,b,l,D,rfl,rfl,A▸m.sq,A▸C.sq,ex,by omega,λe=> ?_,λe E B=>p.tup f (g.append t) E B⟩
       .subst e
        have:K= []:=Ai5 l2
        subst this
        rw [Ad8]at p
        exact p.v f ⟨a,l,rfl,m,g⟩
      .exact p.j
     .split at p
      .rename_i J K e1 e2
       obtain⟨a,l,rfl,m,g⟩:=r.lst f e1
       obtain⟨b,D,rfl,C,t⟩:=w.lst f e2
       unfold M.KJ at p
       split at p
       .have F:=g.e
        have l2:=t.e
        exact De d s U H _ _ v u Q I n q ⟨a,b,l,D,rfl,rfl,A▸m,A▸C,by omega,λE B=>p.own f (g.append t) E B⟩
       .exact p.j
      .exact p.j
  . -- mul
    unfold M.KH at p
    split at p
    .rename_i z j e1 e2
     cases r.str e1
     cases w.int e2
     split at p
     .rename_i c
      rw [M.Gg]at c
      refine Ec d s U H _ _ v u Q I n q ⟨_,j,rfl,rfl,c.1,c.2.1,by rw [Jd];exact c.2.2,?_⟩
      have e:iG (aN z) j.j=aN (Aa9 j.j z).L:=by
       apply uM
       rw [QI]
       rfl
      rw [e]
      exact p.v f rfl
     .exact p.j
    split at p
    .rename_i J j e1 e2
     obtain⟨a,l,rfl,m,g⟩:=r.o5 f e1
     cases w.int e2
     unfold M.Kz at p
     split at p
     .rename_i c
      have F:=g.e
      exact Er d s U H _ _ v u Q I n q ⟨a,j,l,rfl,rfl,m,by omega,by omega,by rw [← F];omega,λE B=>p.own f (g.rep j.j) E B⟩
     .exact p.j
    .exact p.j
  .exact p.j
noncomputable def fK:M.Cp->CmpOp
 | .eq=> .Eq | .ne=> .NotEq | .lt=> .Lt | .le=> .LtE | .gt=> .Gt | .ge=> .GtE | .mem=> .In | .ft=> .NotIn | .dt=> .Is | .kT=> .IsNot
def kR (Y:Ge) (o:M.Cp):R2:=λx y H Q=> ∃G h c a b,ah Y G h H/\aj Y G H c x/\aj Y G H a y/\M.Gr o c a h=k0 b/\Q (.C b) H
def zN:M.Cp->Bool
 | .mem=>u0
 | .ft=>u0
 | _=>u0
def Ds (e:M.KC o i j=k0 b)(I:Inv X pins U H s) (c:RelV (.o i) v) (a:RelV (.o j) u) (q:Q (.C b) H):
 wpAny (model X.p X.w) X.A (compareOp (fK o) v u) (EP X pins U Q) X.xe s:=by
 cases o with
 | lt=>cases e;exact B8 pins s U H _ _ v u Q I c a ⟨i,j,rfl,rfl,q⟩
 | le=>cases e;exact HC pins s U H _ _ v u Q I c a ⟨i,j,rfl,rfl,q⟩
 | gt=>cases e;exact CY pins s U H _ _ v u Q I c a ⟨i,j,rfl,rfl,q⟩
 | ge=>cases e;exact Ir pins s U H _ _ v u Q I c a ⟨i,j,rfl,rfl,q⟩
 | _=>cases e
def BF (g:X.K=Y.K)(l:bb k X.A):b8 X (compareOp .Eq) (kR Y .eq):=by
 rintro f s U H x y v u Q I i m ⟨G,h,p,o,b,a,j,n,e,q⟩
 simp only [M.Gr]at e
 split at e
 .rename_i c
  cases e
  have d:=by simpa [M.GU]using c
  exact(pC 150 _ _ X.A v u (by lia) (by have:=l.un;lia) (j.rv I g a i d.1.1) (n.rv I g a m d.1.2)).rc _ _ _ _ ⟨.C _,H,I,rfl,q⟩
 .cases e
def DJ (g:X.K=Y.K)(l:bb k X.A):b8 X (compareOp .NotEq) (kR Y .ne):=by
 rintro f s U H x y v u Q I i m ⟨G,h,p,o,b,a,j,n,e,q⟩
 simp only [M.Gr]at e
 split at e
 .rename_i c
  cases e
  have d:=by simpa [M.GU]using c
  exact(pC 150 _ _ X.A v u (by lia) (by have:=l.un;lia) (j.rv I g a i d.1.1) (n.rv I g a m d.1.2)).ne _ _ _ _ ⟨.C _,H,I,rfl,q⟩
 .cases e
end
def PE.imp (h:PE X e t) (k: ∀U H Q,t' U H Q->t U H Q):PE X e t':=λa s U H Q I q=>h a s U H Q I (k _ _ _ q)
def PT.imp (h:PT X e t) (k: ∀U H Q,t' U H Q->t U H Q):PT X e t':=λa s U H Q I q=>h a s U H Q I (k _ _ _ q)
def PA.imp (h:PA X e t) (k: ∀U H Q,t' U H Q->t U H Q):PA X e t':=λb a s U H Q I q=>h b a s U H Q I (k _ _ _ q)
section
variable {X:Cx}{Y:Ge}{G:Gh}{H:Hp}{h:M.AH}{pins:Y0 (Y5×Obj)}{U:St}{s:Y3}{Q:VK}{E:XK}
def bq.one (z:bq Y G H [w] vs): ∃v,vs= [v]/\aj Y G H w v:=by
 obtain⟨v,r,rfl,b,a⟩:=z
 cases (show r= []from a)
 exact⟨v,rfl,b⟩
def bq.two (z:bq Y G H [w,w'] vs): ∃v v',vs= [v,v']/\aj Y G H w v/\aj Y G H w' v':=by
 obtain⟨v,r,rfl,c,b⟩:=z
 obtain⟨v',rfl,a⟩:=b.one
 exact⟨v,v',rfl,c,a⟩
def tE (Y:Ge) (b:M.Bi):Y0 V->Hp->VK->Prop:=λxs H Q=> ∃G h a,ah Y G h H/\bq Y G H a xs/\aB Y G H (M.dZ b a h) Q
def AN {K:Ab}(h:bA K H a vs\/cQ K H a vs):bA K H a vs\/cQ K H a vs:=h
noncomputable def ng:M.Bi->Bool
 | .len=>u0 | .int=>u0 | .list=>u0 | .tuple=>u0 | .divmod=>u0 | .sum=>u0 | .all=>u0 | .any=>u0 | .sorted=>u0
 | _=>k9
noncomputable def yB:M.Bi->Y2
 | .len=> .q "len" | .int=> .j "int" | .list=> .j "list" | .tuple=> .j "tuple" | .sum=> .q "sum" | .all=> .q "all" | .any=> .q "any"
 | .sorted=> .q "sorted" | .divmod=> .q "divmod" | .str=> .j "str" | .min=> .q "min" | .max=> .q "max" | .abs=> .q "abs"
def aB.of2 {f:α->β->M.AH->M.R M.W}(p:aB Y G H ((M.R.of h o).p λa h=>(M.R.of h o').p λb h=>f a b h) Q): ∃a b,o=k0 a/\o'=k0 b/\aB Y G H (f a b h) Q:=by
 obtain⟨a,e,p⟩:=p.of
 obtain⟨b,c,p⟩:=p.of
 exact⟨a,b,e,c,p⟩
theorem rJ : ∀ {xs}{vs}{bs},M.Kn xs=k0 bs->aa Y G H xs vs->vs=bs.j V.bl
 | [],_,_,e,z=>by cases e;exact z
 | x::xs,_,bs,e,z7=>by
  obtain⟨v,r,d,c,a⟩:=z7
  subst d
  cases x with
  | bl b=>
   obtain⟨f,e1,rfl⟩:=Ag4.p (e)
   cases (c)
   rw [rJ e1 a];rfl
  | _=>cases e
theorem tj : ∀ {xs}{vs}{n},M.Km xs=k0 n->aa Y G H xs vs-> ∃ns:Y0 Int,vs=ns.j V.int/\n=gI ns
 | [],_,_,e,z=>by cases e;exact⟨[],z,rfl⟩
 | x::xs,_,n,e,z7=>by
  obtain⟨v,r,b,c,f⟩:=z7
  subst b
  cases x with
  | int i=>
   have e:=e
   obtain⟨k,e1,rfl⟩:=Ag4.p e
   obtain⟨ns,a,d⟩:=tj e1 f
   cases (c)
   exact⟨i::ns,by rw [a];rfl,by rw [d];rfl⟩
  | _=>cases e
theorem wJ : ∀ {xs}{vs}{ns},M.GN xs=k0 ns->aa Y G H xs vs->vs=ns.j V.int
 | [],_,_,e,z=>by cases e;exact z
 | x::xs,_,ns,e,z7=>by
  obtain⟨v,r,d,c,a⟩:=z7
  subst d
  cases x with
  | int b=>
   obtain⟨f,e1,rfl⟩:=Ag4.p (e)
   cases (c)
   rw [wJ e1 a];rfl
  | _=>cases e
theorem jT : ∀ {xs}{vs}{ns},M.GQ xs=k0 ns->aa Y G H xs vs->vs=(ns.j aN).j V.str
 | [],_,_,e,z=>by cases e;exact z
 | x::xs,_,ns,e,z7=>by
  obtain⟨v,r,d,c,a⟩:=z7
  subst d
  cases x with
  | str b=>
   obtain⟨f,e1,rfl⟩:=Ag4.p (e)
   cases (show v= .j (aN b)from c)
   rw [jT e1 a];rfl
  | _=>cases e
theorem jR : ∀(a:Y0 M.Tx),aa Y G H (a.j .j) ((a.j aN).j V.str)
 | []=>rfl
 | t::a=>⟨_,_,rfl,rfl,jR a⟩
theorem tF (x): ∀ {ys},ys.Pairwise (λa b=> ¬b<a)->(M.Ki x ys).Pairwise (λa b=> ¬b<a)
 | [],_=>List.pairwise_singleton _ _
 | y::ys,h=>by
  have e:=Ak0.p h
  unfold M.Ki
  split
  .rename_i q
   refine Ak0.q ⟨λz d=> ?_,tF x e.2⟩
   have:z=x\/z∈ys:=by
    have f: ∀ {x}{ys},z∈M.Ki x ys->z=x\/z∈ys:=by
     intro x ys
     induction ys with
     | nil=>intro h;simp [M.Ki]at h;exact .p h
     | cons y ys g=>
      intro h
      unfold M.Ki at h
      split at h
      .rcases Ab7.p h with h | h
       .exact .q (h▸Aa3)
       .exact(g h).imp id (Aa2 _)
      .rcases Ab7.p h with h | h
       .exact .p h
       .exact .q h
    exact f d
   rcases this with rfl | d
   .exact λc=>List.lt_irrefl _ (List.lt_trans c q)
   .exact e.1 z d
  .rename_i q
   refine Ak0.q ⟨λz d=> ?_,h⟩
   rcases Ab7.p d with rfl | d
   .exact q
   .exact List.le_trans q (e.1 z d)
theorem vc: ∀xs:Y0 M.Tx,(M.GB xs).Pairwise (λa b=> ¬b<a)
 | []=> .nil
 | x::xs=>tF x (vc xs)
theorem wt (x): ∀ys:Y0 M.Tx,(M.Ki x ys).Perm (x::ys)
 | []=> .refl _
 | y::ys=>by
  unfold M.Ki
  by_cases q:y<x
  .rw [if_pos q]
   exact((wt x ys).cons y).trans (.swap x y ys)
  .rw [if_neg q]
theorem Qk: ∀xs:Y0 M.Tx,(M.GB xs).Perm xs
 | []=> .refl _
 | x::xs=>(wt x (M.GB xs)).trans ((Qk xs).cons x)
theorem t7: ∀ {l}{p},risingS p l=u0->(p::l).Pairwise (λa b=> ¬b.j.p<a.j.p)
 | [],p,_=>List.pairwise_singleton _ _
 | x::r,p,h=>by
  have h:(!ltCps x.j.p p.j.p&&risingS x r)=true:=h
  rw [Aa0,ltCps_eq]at h
  have e:=by simpa using h.1
  have d:=t7 h.2
  refine Ak0.q ⟨λz c=> ?_,d⟩
  rcases Ab7.p c with rfl | c
  .exact e
  .exact List.le_trans e ((Ak0.p d).1 z c)
def L6 (s):aN s.j.p=s:=by cases s;simp [aN]
def Nw (c:ss.Perm (ts.j aN)) (g:sortedS ss=u0):ss=(M.GB ts).j aN:=by
 have f:=by
  have:=c.map (λs=>s.j.p)
  rw [Ae]at this
  have e:((λs:Str=>s.j.p)∘aN)=id:=by funext t;simp [aN]
  rw [e,List.map_id]at this
  exact this
 have d:(ss.j λs=>s.j.p).Pairwise (λa b=> ¬b<a):=by
  rw [List.pairwise_map]
  cases ss with
  | nil=>exact .nil
  | cons p l=>exact t7 g
 rw [← (List.Perm.eq_of_pairwise (λa b _ _ x y=>List.le_antisymm x y) d (vc ts) (f.trans (Qk ts).symm)),Ae]
 have e:(aN∘λs:Str=>s.j.p)=id:=by funext t;exact L6 t
 rw [e,List.map_id]
def My (b) (B:ng b=u0) (A:X.K=Y.K) (F:X.calm=u0):qv X (yB b) (tE Y b):=by
 rintro f s U H V u Q I r ⟨G,h,W,g,E,p⟩
 have hL:=Qi
 unfold M.dZ at p
 split at p
 .rename_i w
  obtain⟨v,rfl,z⟩:=E.one
  cases b with
  | len=>
   simp only [M.kO]at p
   split at p
   .rename_i y e
    cases z.str e
    split at p
    .exact Z0 f s U H _ u Q I r ⟨_,rfl,by rw [Jd];omega,by rw [Jd];exact p.v g rfl⟩
    .exact p.j
   .obtain⟨C,e,p⟩:=p.of
    obtain⟨a,t,rfl,m,o⟩:=z.seq g e
    refine ZY f s U H _ u Q I r ⟨a,t,rfl,A▸AN m,?_⟩
    rw [← o.length]
    exact p.v g rfl
  | int=>
   simp only [M.kO]at p
   split at p
   .cases (z)
    exact zY f s U H _ u Q I r (.p ⟨_,rfl,p.v g rfl⟩)
   .rename_i k
    cases (z)
    refine zY f s U H _ u Q I r (.q ⟨_,rfl,?_⟩)
    have:=p.v g rfl
    cases k<;>exact this
   .exact p.j
  | list=>
   obtain⟨C,e,p⟩:=p.of
   obtain⟨a,t,rfl,m,o⟩:=z.seq g e
   exact W2 f s U H _ u Q I r ⟨a,t,rfl,A▸AN m,λl x=>p.own g o l x⟩
  | tuple=>
   obtain⟨C,e,D⟩:=p.of
   clear p
   cases w with
   | v d=>
    cases d with
    | tup J=>
     cases e
     obtain⟨a,t,rfl,m,o⟩:=z
     exact jh f s U H _ u Q I r ⟨a,t,rfl,.q ⟨A▸m.sq,D.v g ⟨a,t,rfl,m,o⟩⟩⟩
    | lst J=>
     obtain⟨a,t,rfl,m,o⟩:=aj.lst g z e
     exact jh f s U H _ u Q I r ⟨a,t,rfl,.p ⟨A▸m,λl x=>D.tup g o l x⟩⟩
    | ref q=>
     obtain⟨a,t,rfl,m,o⟩:=aj.lst g z e
     exact jh f s U H _ u Q I r ⟨a,t,rfl,.p ⟨A▸m,λl x=>D.tup g o l x⟩⟩
    | ak=>cases e
    | bl _=>cases e
    | int _=>cases e
    | str _=>cases e
    | err _ _ _=>cases e
   | own J=>
    obtain⟨a,t,rfl,m,o⟩:=aj.lst g z e
    exact jh f s U H _ u Q I r ⟨a,t,rfl,.p ⟨A▸m,λl x=>D.tup g o l x⟩⟩
   | bor J=>
    obtain⟨a,t,rfl,m,o⟩:=aj.lst g z e
    exact jh f s U H _ u Q I r ⟨a,t,rfl,.p ⟨A▸m,λl x=>D.tup g o l x⟩⟩
  | divmod=>exact p.j
  | min=>cases B
  | max=>cases B
  | sum=>
   simp only [M.kO]at p
   obtain⟨n,e,p⟩:=p.of
   obtain⟨C,e1,e2⟩:=Ag6.p e
   split at e2
   rotate_left
   .cases e2
   obtain⟨a,t,rfl,m,o⟩:=aj.lst g z e1
   obtain⟨O,rfl,rfl⟩:=tj e2 o
   exact EF F f s U H _ u Q I r ⟨a,O,rfl,A▸m,p.v g rfl⟩
  | all=>
   simp only [M.kO]at p
   obtain⟨bs,e,p⟩:=p.of
   obtain⟨C,e1,e2⟩:=Ag6.p e
   obtain⟨a,t,rfl,m,o⟩:=aj.lst g z e1
   cases rJ e2 o
   exact LP F f s U H _ u Q I r ⟨a,bs,rfl,A▸m,p.v g rfl⟩
  | any=>
   simp only [M.kO]at p
   obtain⟨bs,e,p⟩:=p.of
   obtain⟨C,e1,e2⟩:=Ag6.p e
   obtain⟨a,t,rfl,m,o⟩:=aj.lst g z e1
   cases rJ e2 o
   exact NJ F f s U H _ u Q I r ⟨a,bs,rfl,A▸m,p.v g rfl⟩
  | sorted=>
   simp only [M.kO]at p
   obtain⟨L,e,p⟩:=p.of
   obtain⟨C,e1,e2⟩:=Ag6.p e
   obtain⟨a,t,rfl,m,o⟩:=aj.lst g z e1
   cases jT e2 o
   split at p
   .rename_i x
    refine Z5 f s U H _ u Q I r ⟨a,L.j aN,rfl,A▸m,by rw [Aa];exact x,λP N S l x=> ?_⟩
    rw [Nw N S]
    exact p.own g (jR _) l x
   .exact p.j
  | str=>cases B
  | abs=>cases B
 .rename_i w Z
  obtain⟨v,T,rfl,z,R⟩:=E.two
  obtain⟨i,j,e,K,p⟩:=p.of2
  cases z.int e
  cases R.int K
  cases b with
  | divmod=>
   simp only [M.ya,M.GS]at p
   split at p
   .rename_i c
    exact Q9 f s U H _ u Q I r ⟨i,j,rfl,c,λl x=>p.tup g ⟨_,_,rfl,rfl,_,_,rfl,rfl,rfl⟩ l x⟩
   .exact p.j
  | min=>cases B
  | max=>cases B
  | len=>exact p.j
  | int=>exact p.j
  | list=>exact p.j
  | tuple=>exact p.j
  | sum=>exact p.j
  | all=>exact p.j
  | any=>exact p.j
  | sorted=>exact p.j
  | str=>cases B
  | abs=>cases B
 .exact p.j
noncomputable def c9:M.Ty->String
 | .ak=> "NoneType" | .bool=> "bool" | .int=> "int" | .str=> "str" | .A=> "list" | .tuple=> "tuple"
def ZA (K): ∀ u t,t≠ .ak->An3 K (.j (c9 u)) (.j (c9 t))=k0 (M.Ty.le u t):=by
 intro u t a
 cases u<;>cases t<;>first | exact absurd rfl a | kernel_rfl
def Oc (Y:Ge):Y0 V->Hp->VK->Prop:=λxs H Q=> ∃G h w x t b,xs= [x,.ty (c9 t)]/\t≠ .ak/\ah Y G h H/\aj Y G H w x/\M.cu t w=k0 b/\Q (.C b) H
def Nb (E:X.K=Y.K):qv X (.q "isinstance") (Oc Y):=by
 rintro k s U H O R Q I r ⟨G,h,w,x,t,b,K,g,P,z,e,q⟩
 subst K
 obtain⟨u,S,rfl,j,J⟩:=oG r
 cases J
 have fin: ∀A,EP X k U Q (.w b) { s with toks:=A }:=λA=>⟨.C b,H,I.tok A,rfl,q⟩
 have lst: ∀ {a}{m},x= .p a->Rd H a (.u m)->M.Ty.le .A t=b->wpAny (model X.p X.w) X.A (call (.q "isinstance") [u,.j (c9 t)]) (EP X k U Q) X.xe s:=by
  intro a m ex rd N
  subst ex N
  rcases rd with rd | ⟨o,rd⟩
  .exact qj I j (.lst rd) (ZA _ .A t g) fin
  .exact qj I j (.eE rd) (ZA _ .A t g) fin
 cases w with
 | v d=>
  cases d with
  | ak=>cases e;cases (z);exact qj I j .ak (ZA _ .ak t g) fin
  | bl c=>cases e;cases (z);exact qj I j (.bl c) (ZA _ .bool t g) fin
  | int i=>cases e;cases (z);exact qj I j (.int i) (ZA _ .int t g) fin
  | str y=>cases e;cases (z);exact qj I j (.str _) (ZA _ .str t g) fin
  | tup C=>
   cases e
   obtain⟨a,m,rfl,f,L⟩:=z
   rcases f with⟨_,f⟩ | ⟨o,p,n,B,D,F,_⟩
   .exact qj I j (.tup f) (ZA _ .tuple t g) fin
   .cases j
    exact Af PySem.W.kitx_tuple I.bR ⟨o,I.bR a o (E▸B),D⟩ (ZA _ .tuple t g) (λz=>nomatch z) fin
  | lst C=>
   cases e
   obtain⟨a,m,l,f,L⟩:=z
   rcases f with f | ⟨o,p,n,B,D,F,_⟩
   .exact lst l f.2 rfl
   .subst l
    cases j
    exact Af Ao8 I.bR ⟨o,I.bR a o (E▸B),D⟩ (ZA _ .A t g) (λz=>nomatch z) fin
  | ref T=>cases e
  | err _ _ _=>cases e
 | own C=>cases e;obtain⟨a,m,l,_,_,f,_⟩:=z;exact lst l (.p f) rfl
 | bor C=>cases e;obtain⟨a,m,l,_,f,_⟩:=z;exact lst l f rfl
def nN (m:X.K=Y.K) (o:ah Y G h H)(z:aj Y G H w x) (e:M.G7 h w=k0 b):kn X.K x H b:=by
 have lst: ∀ {a}{f}{g},x= .p a->bA X.K H a f->aa Y G H g f->(!g.y)=b->kn X.K x H b:=by
  intro a f g ex rd k n
  subst ex n
  refine .p ⟨f,rd,?_⟩
  cases g with
  | nil=>cases (show f= []from k);rfl
  | cons _ _=>obtain⟨_,_,rfl,_⟩:=k;rfl
 cases w with
 | v d=>
  cases d with
  | ak=>cases e;cases (z);exact rfl
  | bl _=>cases e;cases (z);exact rfl
  | int _=>cases e;cases (z);exact rfl
  | str y=>
   cases (z)
   have e:(if y.e<=M.bp then k0 (!y.y)else y0)=k0 b:=e
   split at e
   .rename_i c
    cases e
    refine⟨by rw [Jd];have:=Qi;omega,?_⟩
    rw [Jd]
    cases y with
    | nil=>rfl
    | cons a r=>
     have:((((a::r).e:Nat):Int) != 0)=true:=by
      rw [Aa6,bne_iff_ne];omega
     rw [this];rfl
   .cases e
  | tup g=>
   cases e
   obtain⟨a,f,rfl,i,k⟩:=z
   refine .q (.p ⟨f,m▸i.sq,?_⟩)
   cases g with
   | nil=>cases (show f= []from k);rfl
   | cons _ _=>obtain⟨_,_,rfl,_⟩:=k;rfl
  | lst g=>cases e;obtain⟨a,f,j,i,l⟩:=z;exact lst j (m▸i.sq) l rfl
  | ref p=>cases e
  | err _ _ _=>cases e
 | own g=>cases e;obtain⟨a,f,j,_,_,i,l⟩:=z;exact lst j (bA.of i) l rfl
 | bor g=>cases e;obtain⟨a,f,j,_,i,l⟩:=z;exact lst j (.p i) l rfl
end
abbrev Zd (x:String):Str:=Str.ofString x
example:("len" :Str)=Zd "len" :=rfl
structure gL where
 fl:List (String×String)
 mt:List (String×String×String)
 eZ:List (String×String)
 ms:List String
 er:List (String×String)
structure Cf where
 sc:Scope
 N:List Str
 fns:List String
 own:List String
 ez:List String
 c3:List String
 ob:gL
open L2 renaming MS.Cf.sc→L2.MS.Cf.j
noncomputable def qW (sc:YX) (x:Str):Bool:=match sc.j.p x with
 | some .local=>u0
 | some .p=>u0
 | some .u=>u0
 | _=>k9
noncomputable def ly (sc:YX) (x:Str):Bool:=match sc.j.p x with
 | some .globalImplicit=>u0
 | _=>k9
noncomputable def iX (sc:YX) (x:Str):Bool:=match sc.j.p x with
 | some .local=>u0
 | some .p=>u0
 | _=>k9
noncomputable def bg (x:Str):Bool:= !(x==("__debug__" :Str))&& !(x==("__classdict__" :Str))
noncomputable def nj:M.Bi->String
 | .len=> "len" | .int=> "int" | .list=> "list" | .tuple=> "tuple" | .sum=> "sum" | .all=> "all" | .any=> "any" | .sorted=> "sorted" | .divmod=> "divmod" | .str=> "str" | .min=> "min" | .max=> "max" | .abs=> "abs"
noncomputable def cv:Y0 String:= ["len", "int", "list", "tuple", "sum", "all", "any", "sorted", "divmod", "str", "min", "max", "abs", "isinstance", "bool", "range", "reversed", "zip", "enumerate", "set", "dict", "ValueError"]
noncomputable def rO:Y4->Str->Bool
 | .j y _,x=>y==x
 | _,_=>k9
def bV (sc:YX) (x:String) (e:Y4):Bool:=rO e (Zd x)&&ly sc (Zd x)&&bg (Zd x)
noncomputable def yc:M.Mt->String
 | .index=> "index" | .count=> "count" | .cc=> "index"
def yz:M.Mt->Bool
 | .index=>u0 | .count=>u0 | .cc=>u0
noncomputable def ZT:Y4->Bool
 | .w _ [] _ _=>k9
 | _=>u0
noncomputable def jv (a:Cf):Y0 Nat->Y0 Y4->Bool
 | [],[]=>u0
 | i::is,.j x _::es=>y9 (a.N[i]? =k0 x)&&iX a.j x&&jv a is es
 | _,_=>k9
def xf (b:Cf) (a:Y0 Nat) (one:Bool) (e:Y4):Bool:=match one,e with
 | true,.j x p=>(match a with | [_]=>u0 | _=>k9)&&jv b a [.j x p]
 | false,.B es _ _=>jv b a es
 | _,_=>k9
def Qb:Y4->Bool
 | .Starred .. =>k9
 | _=>u0
noncomputable def Xc:Y4->Bool
 | .Slice .. =>k9
 | _=>u0
def xh:Y4->Bool
 | .Set .. =>k9
 | _=>u0
noncomputable def xI (a:Cf):Y0 Nat->Y0 Str->Bool
 | [],[]=>u0
 | j::b,x::xs=>y9 (a.N[j]? =k0 x)&&y9 (a.j.j.p x=k0 .p\/a.j.j.p x=k0 .u)&&xI a b xs
 | _,_=>k9
def Z7 (b:Cf) (a:YX) (N:Y0 Str) (k:Nat) (aD:Y0 Nat):Bool:=
 y9 (a.p= .j)&&y9 (a.j.j Prod.fst).B&&a.j.K (λy=>y9 (y.2= .local->a.j.p y.1=k0 .local))&&
 a.j.K (λy=>y9 (y.2= .u->b.j.j.p y.1=k0 .p\/b.j.j.p y.1=k0 .u))&&(N.J k).K (λx=>y9 (a.j.p x=k0 .u))&&
 xI b aD (N.J k)&&y9 (k<=N.e)&&decide N.B&&decide aD.B
noncomputable def E6:Y4->Y0 Str
 | .j x _=> [x]
 | .B es _ _=>es.T λ| .j x _=>k0 x | _=>y0
 | _=> []
def Qw (a:Cf) (t:Y4) (aD:Y0 Nat):Y0 Str:=E6 t++aD.T λj=>a.N[j]?
noncomputable def gu:M.E->Bool
 | .a4 _=>k9
 | .not a=>gu a
 | .and a b=>gu a&&gu b
 | .or a b=>gu a&&gu b
 | _=>u0
noncomputable def m2 (neg:Bool):CmpOp:=if neg then .NotIn else .In
def b9 {P:Prop}(h:k9=u0):P:=nomatch h
set_option backward.match.sparseCases false
noncomputable def lC {a:Type}(l:Y0 a) (f:a->Y0 a->Bool):Bool:=match l with
 | x::r=>f x r
 | _=>k9
noncomputable def oS {a:Type}(l:Y1 a) (f:a->Bool):Bool:=match l with
 | some x=>f x
 | _=>k9
@[elab_as_elim] theorem kC {P:Y0 α->Prop}(k: ∀x r,f x r=u0->P (x::r)): ∀l,lC l f=u0->P l:=by rintro (_|_)<;>first | exact b9 | exact k _ _
@[elab_as_elim] theorem kS {P:Y1 α->Prop}(k: ∀x,f x=u0->P (k0 x)): ∀l,oS l f=u0->P l:=by rintro (_|_)<;>first | exact b9 | exact k _
noncomputable def Xp (e:Y4) (f:Str->Bool):Bool:=match e with
 | .j x _=>f x
 | _=>k9
@[elab_as_elim] theorem Xo {P:Y4->Prop}(k: ∀x p,f x=u0->P (.j x p)): ∀e,Xp e f=u0->P e:=by rintro (_|_)<;>first | exact b9 | exact k _ _
noncomputable def Zy (e:Y4) (f:Const->Bool):Bool:=match e with
 | .u x _ _=>f x
 | _=>k9
@[elab_as_elim] theorem wF {P:Y4->Prop}(k: ∀x n p,f x=u0->P (.u x n p)): ∀e,Zy e f=u0->P e:=by rintro (_|_)<;>first | exact b9 | exact k _ _ _
def nR (e:Y4) (f:Y0 Y4->Bool):Bool:=match e with
 | .B x _ _=>f x
 | _=>k9
@[elab_as_elim] theorem pd {P:Y4->Prop}(k: ∀x n p,f x=u0->P (.B x n p)): ∀e,nR e f=u0->P e:=by rintro (_|_)<;>first | exact b9 | exact k _ _ _
noncomputable def tO (e:Y4) (f:Y0 Y4->Bool):Bool:=match e with
 | .List x _=>f x
 | _=>k9
@[elab_as_elim] theorem Dh {P:Y4->Prop}(k: ∀x p,f x=u0->P (.List x p)): ∀e,tO e f=u0->P e:=by rintro (_|_)<;>first | exact b9 | exact k _ _
noncomputable def vd (e:Y4) (f:Y4->Operator->Y4->Bool):Bool:=match e with
 | .BinOp x o y _=>f x o y
 | _=>k9
@[elab_as_elim] theorem KR {P:Y4->Prop}(k: ∀x o y p,f x o y=u0->P (.BinOp x o y p)): ∀e,vd e f=u0->P e:=by rintro (_|_)<;>first | exact b9 | exact k _ _ _ _
noncomputable def mn (e:Y4) (f:Y4->Y0 CmpOp->Y0 Y4->Bool):Bool:=match e with
 | .A x o y _=>f x o y
 | _=>k9
@[elab_as_elim] theorem nT {P:Y4->Prop}(k: ∀x o y p,f x o y=u0->P (.A x o y p)): ∀e,mn e f=u0->P e:=by rintro (_|_)<;>first | exact b9 | exact k _ _ _ _
noncomputable def mQ (e:Y4) (f:UnaryOp->Y4->Bool):Bool:=match e with
 | .C o x _=>f o x
 | _=>k9
@[elab_as_elim] theorem ou {P:Y4->Prop}(k: ∀o x p,f o x=u0->P (.C o x p)): ∀e,mQ e f=u0->P e:=by rintro (_|_)<;>first | exact b9 | exact k _ _ _
noncomputable def rF (e:Y4) (f:BoolOp->Y0 Y4->Pos->Bool):Bool:=match e with
 | .y o x p=>f o x p
 | _=>k9
@[elab_as_elim] theorem A6 {P:Y4->Prop}(k: ∀o x p,f o x p=u0->P (.y o x p)): ∀e,rF e f=u0->P e:=by rintro (_|_)<;>first | exact b9 | exact k _ _ _
noncomputable def jm (e:Y4) (f:Y4->Y0 Y4->Y0 Keyword->Pos->Bool):Bool:=match e with
 | .w g x l p=>f g x l p
 | _=>k9
@[elab_as_elim] theorem qm {P:Y4->Prop}(k: ∀g x l p,f g x l p=u0->P (.w g x l p)): ∀e,jm e f=u0->P e:=by rintro (_|_)<;>first | exact b9 | exact k _ _ _ _
noncomputable def gg (e:Y4) (f:Y4->Y4->Bool):Bool:=match e with
 | .q x y _=>f x y
 | _=>k9
@[elab_as_elim] theorem gT {P:Y4->Prop}(k: ∀x y p,f x y=u0->P (.q x y p)): ∀e,gg e f=u0->P e:=by rintro (_|_)<;>first | exact b9 | exact k _ _ _
noncomputable def mU (e:Y4) (f:Y1 Y4->Y1 Y4->Y1 Y4->Bool):Bool:=match e with
 | .Slice x y z _=>f x y z
 | _=>k9
@[elab_as_elim] theorem rp {P:Y4->Prop}(k: ∀x y z p,f x y z=u0->P (.Slice x y z p)): ∀e,mU e f=u0->P e:=by rintro (_|_)<;>first | exact b9 | exact k _ _ _ _
noncomputable def vt (e:Y4) (f:Y4->Y0 Comprehension->YX->Bool):Bool:=match e with
 | .z y g s _=>f y g s
 | _=>k9
@[elab_as_elim] theorem Bo {P:Y4->Prop}(k: ∀y g s p,f y g s=u0->P (.z y g s p)): ∀e,vt e f=u0->P e:=by rintro (_|_)<;>first | exact b9 | exact k _ _ _ _
noncomputable def ZG (e:Y4) (f:Y4->Str->Pos->Bool):Bool:=match e with
 | .p x n p=>f x n p
 | _=>k9
@[elab_as_elim] theorem XL {P:Y4->Prop}(k: ∀x n p,f x n p=u0->P (.p x n p)): ∀e,ZG e f=u0->P e:=by rintro (_|_)<;>first | exact b9 | exact k _ _ _
noncomputable def pI (e:Y4) (f:Y0 (Y1 Y4)->Y0 Y4->Bool):Bool:=match e with
 | .Dict x y _=>f x y
 | _=>k9
@[elab_as_elim] theorem vb {P:Y4->Prop}(k: ∀x y p,f x y=u0->P (.Dict x y p)): ∀e,pI e f=u0->P e:=by rintro (_|_)<;>first | exact b9 | exact k _ _ _
noncomputable def fv (e:Y7) (f:Y0 Y4->Y4->Bool):Bool:=match e with
 | .j t v _=>f t v
 | _=>k9
@[elab_as_elim] theorem fM {P:Y7->Prop}(k: ∀t v p,f t v=u0->P (.j t v p)): ∀e,fv e f=u0->P e:=by rintro (_|_)<;>first | exact b9 | exact k _ _ _
def mJ (e:Y7) (f:Y4->Bool):Bool:=match e with
 | .Expr v _=>f v
 | _=>k9
@[elab_as_elim] theorem nh {P:Y7->Prop}(k: ∀v p,f v=u0->P (.Expr v p)): ∀e,mJ e f=u0->P e:=by rintro (_|_)<;>first | exact b9 | exact k _ _
noncomputable def vy (e:Y7) (f:Y1 Y4->Bool):Bool:=match e with
 | .Return v _=>f v
 | _=>k9
@[elab_as_elim] theorem Lo {P:Y7->Prop}(k: ∀v p,f v=u0->P (.Return v p)): ∀e,vy e f=u0->P e:=by rintro (_|_)<;>first | exact b9 | exact k _ _
def uZ (e:Y7) (f:Y4->Y0 Y7->Y0 Y7->Bool):Bool:=match e with
 | .If x y z _=>f x y z
 | _=>k9
@[elab_as_elim] theorem Eo {P:Y7->Prop}(k: ∀x y z p,f x y z=u0->P (.If x y z p)): ∀e,uZ e f=u0->P e:=by rintro (_|_)<;>first | exact b9 | exact k _ _ _ _
noncomputable def uq (e:Y7) (f:Y4->Y0 Y7->Y0 Y7->Bool):Bool:=match e with
 | .While x y z _=>f x y z
 | _=>k9
@[elab_as_elim] theorem LN {P:Y7->Prop}(k: ∀x y z p,f x y z=u0->P (.While x y z p)): ∀e,uq e f=u0->P e:=by rintro (_|_)<;>first | exact b9 | exact k _ _ _ _
noncomputable def yA (e:Y7) (f:Y4->Y4->Y0 Y7->Y0 Y7->Bool):Bool:=match e with
 | .For t i y z _=>f t i y z
 | _=>k9
@[elab_as_elim] theorem FX {P:Y7->Prop}(k: ∀t i y z p,f t i y z=u0->P (.For t i y z p)): ∀e,yA e f=u0->P e:=by rintro (_|_)<;>first | exact b9 | exact k _ _ _ _ _
noncomputable def sX (e:Y7) (f:Y1 Y4->Y1 Y4->Bool):Bool:=match e with
 | .Raise x y _=>f x y
 | _=>k9
@[elab_as_elim] theorem Hi {P:Y7->Prop}(k: ∀x y p,f x y=u0->P (.Raise x y p)): ∀e,sX e f=u0->P e:=by rintro (_|_)<;>first | exact b9 | exact k _ _ _
set_option backward.match.sparseCases true
def vB (a:Cf) (i:Nat) (x:Str):Bool:=y9 (a.N[i]? =k0 x)&&qW a.j x&&bg x
noncomputable def kZ {a:Type}(l:Y0 a) (b:Bool):Bool:=l.y&&b
noncomputable def u6 (e:Y7) (f:Y0 Y7->Y0 ExceptHandler->Bool):Bool:=match e with
 | .Try a b c d _=>kZ c (kZ d (f a b))
 | _=>k9
noncomputable def yD (e:ExceptHandler) (f:Y1 Y4->Y1 Str->Y0 Y7->Bool):Bool:=match e with
 | .j a b c _=>f a b c
def kz (t:M.Tx) (e:Y1 Y4):Bool:=oS e λe=>Zy e λc=>y9 (c= .j (aN t))
def pX (h:kz t e=u0): ∃j p,e=k0 (.u (.j (aN t)) j p):=by
 refine kS (λe h=> wF (λc n p h=> ?_) e h) e h
 cases of_decide_eq_true h
 exact⟨_,_,rfl⟩
mutual
noncomputable def wc (cf:Cf):M.E->Expr->Bool
 | .var i,e=>Xp e (vB cf i)
 | .con c,e=>bV cf.j c e
 | .int i,e=>Zy e λj=>y9 (j= .int i)
 | .bl i,e=>Zy e λj=>y9 (j= .bool i)
 | .ak,e=>Zy e λj=>y9 (j= .none)
 | .str i,e=>Zy e λj=>y9 (j= .j (aN i))
 | .tup es,e=>nR e λxs=>y9 (xs.e<=1000)&&bF cf es xs
 | .lst es,e=>tO e λxs=>y9 (xs.e<=1000)&&bF cf es xs
 | .bin o a b,e=>vd e λx p y=>y9 (p=n8 o)&&m1 o&&wc cf a x&&wc cf b y
 | .cmp o a b,e=>mn e λx p y=>lC y λy r=>y9 (p= [fK o]/\r= [])&&zN o&&xh y&&wc cf a x&&wc cf b y
 | .a2 o q a b c,e=>mn e λx p y=>lC y λy r=>lC r λz r=>y9 (p= [fK o,fK q]/\r= [])&&zN o&&zN q&&xh z&&wc cf a x&&wc cf b y&&wc cf c z
 | .fi neg a,e=>mn e λx p y=>lC y λy r=>Zy y λj=>y9 (p= [if neg then .IsNot else .Is]/\r= [])&&y9 (j= .none)&&wc cf a x
 | .neg a,e=>mQ e λo x=>y9 (o= .USub)&&wc cf a x
 | .inv a,e=>mQ e λo x=>y9 (o= .Invert)&&wc cf a x
 | .not a,e=>mQ e λo x=>y9 (o= .Not)&&wc cf a x
 | .and a b,e=>rF e λo x p=>lC x λx r=>lC r λy r=>y9 (o= .And)&&wc cf a x&&bif r.y then wc cf b y else wc cf b (.y .And (y::r) p)
 | .or a b,e=>rF e λo x p=>lC x λx r=>lC r λy r=>y9 (o= .Or)&&wc cf a x&&bif r.y then wc cf b y else wc cf b (.y .Or (y::r) p)
 | .p f es,e=>jm e λg xs l _=>kZ l (bV cf.j f g&&cf.fns.u f&&bF cf es xs)
 | .bi b es,e=>jm e λg xs l _=>kZ l (lC xs λx r=>bV cf.j (nj b) g&&ng b&&bF cf es (x::r))
 | .cu a t,e=>jm e λg xs l _=>kZ l (lC xs λx r=>lC r λy r=>kZ r (bV cf.j "isinstance" g&&bV cf.j (c9 t) y&&decide (t≠ .ak)&&Qb x&&wc cf a x))
 | .ix a b,e=>gg e λx y=>Xc y&&wc cf a x&&wc cf b y
 | .sl a lo hi,e=>gg e λx y=>mU y λl u z=>oS l λl=>oS u λu=>z.u&&wc cf a x&&wc cf lo l&&wc cf hi u
 | .fX a lo,e=>gg e λx y=>mU y λl u z=>oS l λl=>u.u&&z.u&&wc cf a x&&wc cf lo l
 | .gA a hi,e=>gg e λx y=>mU y λl u z=>oS u λu=>l.u&&z.u&&wc cf a x&&wc cf hi u
 | .eg a,e=>jm e λg xs l _=>kZ l (lC xs λx r=>lC r λy r=>kZ r (bV cf.j "isinstance" g&&bV cf.j "list" y&&Qb x&&wc cf a x))
 | .L tg one k aD it y7 c elt,e=>vt e λy g scope=>lC g λg r=>
  y9 (g.is_async=0/\r= [])&&Z7 cf scope (Qw cf g.target aD) k aD&&tg.K (λi=>y9 (i<k))&&xf { cf with sc:=scope,N:=Qw cf g.target aD } tg one g.target&&et cf it g.iter&&wc { cf with sc:=scope,N:=Qw cf g.target aD } elt y&&
   bif y7 then(lC g.ifs λz r=>kZ r (gu c&&wc { cf with sc:=scope,N:=Qw cf g.target aD } c z))else g.ifs.y
 | .du,e=>pI e λx y=>x.y&&y.y
 | .fc i a,e=>gg e λg y=>Xp g λx=>vB cf i x&&Xc y&&wc cf a y
 | .cT neg a i,e=>mn e λx p y=>lC y λy r=>Xp y λy=>y9 (p= [m2 neg]/\r= [])&&vB cf i y&&wc cf a x
 | .gi k1 a k2 b k3 c i,e=>gg e λd y=>pI d λks vs=>Xp y λx=>lC ks λq1 ks=>lC ks λq2 ks=>lC ks λq3 ks=>kZ ks (lC vs λv1 vs=>lC vs λv2 vs=>lC vs λv3 vs=>kZ vs ((vB cf i x&&kz k1 q1&&kz k2 q2&&kz k3 q3)&&(decide [k1,k2,k3].B&&wc cf a v1&&wc cf b v2&&wc cf c v3)))
 | .eF i,e=>jm e λg xs l _=>kZ l (lC xs λx r=>kZ r (bV cf.j "dict" g&&Xp x (vB cf i)))
 | .a4 a,e=>wc cf a e
 | .cg a,e=>jm e λg xs l _=>kZ l (lC xs λx r=>kZ r (jm x λg2 xs l _=>kZ l (lC xs λx r=>kZ r (bV cf.j "list" g&&bV cf.j "range" g2&&Qb x&&wc cf a x))))
 | .ef s ts,e=>jm e λg xs l q=>kZ l (lC xs λx r=>kZ r (ZG g λo n p=>Zy o λc=>Zy x λc2=>decide (n=Zd "split")&&decide (c= .j (aN s))&&decide (c2= .j bY)&&(p.j==q.p)&&nV (aN s) (ts.j aN)))
 | .d5 m a es,e=>jm e λg xs l q=>kZ l (lC xs λx r=>kZ r (ZG g λo n p=>y9 (n=Zd (yc m))&&yz m&&(p.j==q.p)&&ZT o&&wc cf a o&&bF cf es [x]))
 | .make c q es,e=>jm e λg ys l _=>kZ l (lC ys λx r=>bV cf.j c g&&cf.ob.eZ.u (c,q)&&bF cf es (x::r))
 | .aL a c f,e=>ZG e λx n _=>y9 (n=Zd f)&&cf.ob.fl.u (c,f)&&ZT x&&wc cf a x
 | .bS a c m q es,e=>jm e λg ys l s=>kZ l (ZG g λx n p=>y9 (n=Zd m)&&cf.ob.mt.u (c,m,q)&&(p.j==s.p)&&y9 (ys.e<=20)&&ZT x&&wc cf a x&&lC ys λy r=>bF cf es (y::r))
 | .fy a,e=>jm e λg ys l s=>kZ l (kZ ys (ZG g λx n p=>y9 (n=Zd "bit_length")&&(p.j==s.p)&&ZT x&&wc cf a x))
 | .fm f a,e=>jm e λg ys l _=>lC ys λx r=>kZ r (lC l λw r=>kZ r (y9 (w.arg=k0 (Zd "key"))&&bV cf.j f w.value&&cf.fns.u f&&bV cf.j "min" g&&Qb x&&wc cf a x))
noncomputable def bF (cf:Cf):M.Es->List Expr->Bool
 | .p,xs=>xs.y
 | .j e es,xs=>lC xs λx xs=>Qb x&&wc cf e x&&bF cf es xs
noncomputable def et (cf:Cf):M.It->Expr->Bool
 | .seq a,e=>xh e&&wc cf a e
 | .au a,e=>jm e λg xs l _=>kZ l (lC xs λx r=>kZ r (bV cf.j "range" g&&Qb x&&wc cf a x))
 | .enum _,_=>k9
 | .cA _,_=>k9
end
noncomputable def wC:Y4->Bool
 | .z .. =>k9
 | .SetComp .. =>k9
 | .DictComp .. =>k9
 | _=>u0
noncomputable def qk:Y4->Bool
 | .B .. =>k9
 | _=>u0
noncomputable def xG (a:Cf) (i:Nat) (x:Str):Bool:=y9 (a.N[i]? =k0 x)&&y9 (a.j.j.p x=k0 .local)
def wG (a:Cf) (i:Nat) (x:Str):Bool:=y9 (a.N[i]? =k0 x)&&iX a.j x
def W3 (b:Cf) (i:Nat) (m:Str) (e:Y4) (a:Pos):Bool:=ZG e λx n p=>Xp x λx=>vB b i x&&y9 (n=m)&&(p.j==a.p)
def oN (b:Cf):M.It->Y4->Bool
 | .seq a,e=>xh e&&wc b a e
 | .au a,e=>et b (.au a) e
 | .cA a,e=>jm e λg xs l _=>kZ l (lC xs λx r=>kZ r (bV b.j "enumerate" g&&Qb x&&wc b a x))
 | .enum _,_=>k9
def pJ:M.It->Y4->Bool
 | .enum _,e=> !qk e
 | .cA _,e=> !qk e
 | _,_=>u0
noncomputable def Ej:Y4->Bool
 | .j _ _=>u0
 | .q _ _ _=>u0
 | _=>k9
def rh (d:Cf) (c:String) (nm g:Nat) (h:String) (j:Y0 ExceptHandler):Bool:=lC j λx r=>kZ r (yD x λw n b=>oS w λw=>oS n λn=>lC b λa r=>kZ r (fv a λf y=>lC f λt r=>kZ r (Xp t λv=>ZG y λz e _=>Xp z λi=>
 bV d.j c w&&d.c3.u c&&y9 (i=n)&&xG d nm n&&(bg n&&xG d g v&&y9 (e=Zd h)))))
noncomputable def pT (b:Cf) (i:Nat) (f:String) (c:Y0 Y7) (q:Y0 Y4->Bool):Bool:=lC c λs r=>kZ r (fv s λd e=>lC d λt r=>kZ r (Xp t λa=>jm e λg xs l _=>kZ l (lC xs λx r=>xG b i a&&bV b.j f g&&b.fns.u f&&q (x::r))))
mutual
noncomputable def tu (cf:Cf):M.S->Stmt->Bool
 | .set i e,st=>fv st λts v=>lC ts λt r=>Xp t λx=>kZ r (wG cf i x&&wc cf e v)
 | .ag i e,st=>fv st λts v=>lC ts λt r=>Xp t λx=>kZ r (wG cf i x&&wc cf e v)
 | .e8 is e,st=>fv st λts v=>lC ts λt r=>nR t λts=>kZ r (jv cf is ts&&qk v&&wc cf e v)
 | .fW o kx j e,st=>fv st λts v=>lC ts λt r=>kZ r (nR t λts=>lC ts λt1 r=>lC r λt2 r=>kZ r (gg t1 λx y=>Xp t2 λa=>Xc y&&qk v&&wG cf j a&&wc cf o x&&(wc cf kx y&&wc cf e v)))
 | .bZ o kx e,st=>fv st λts v=>lC ts λt r=>gg t λx y=>kZ r (Xc y&&qk v&&wC v&&wc cf o x&&wc cf kx y&&wc cf e v)
 | .app i e,st=>mJ st λc=>jm c λf xs l p=>kZ l (lC xs λv r=>kZ r (W3 cf i "append" f p&&Qb v&&wc cf e v))
 | .ext i e,st=>mJ st λc=>jm c λf xs l p=>kZ l (lC xs λv r=>kZ r (W3 cf i "extend" f p&&Qb v&&wc cf e v))
 | .bW i c f e,st=>fv st λts v=>lC ts λt r=>ZG t λx n _=>Xp x λx=>kZ r (vB cf i x&&(y9 (n=Zd f)&&cf.ob.fl.u (c,f)&&wc cf e v))
 | .ek i kx e,st=>fv st λts v=>lC ts λt r=>gg t λx y=>Xp x λx=>kZ r (vB cf i x&&Xc y&&wc cf kx y&&wc cf e v)
 | .cD i kx e,st=>fv st λts v=>lC ts λt r=>gg t λx y=>Xp x λx=>kZ r (vB cf i x&&Xc y&&wc cf kx y&&wc cf e v)
 | .fF a e,st=>mJ st λc=>jm c λf xs l p=>kZ l (lC xs λv r=>kZ r (ZG f λx n q=>y9 (n= "append")&&(q.j==p.p)&&Qb v&&wc cf a x&&(wc cf e v&&Ej x)))
 | .ex e,st=>mJ st λv=>wC v&&wc cf e v
 | .ret e,st=>vy st λv=>oS v λv=>wc cf e v
 | .iff c a b,st=>uZ st λx ys zs=>gu c&&wc cf c x&&c7 cf a ys&&c7 cf b zs
 | .kq _ c b,st=>uq st λx ys zs=>kZ zs (gu c&&wc cf c x&&c7 cf b ys)
 | .for tg one it b,st=>yA st λt iter ys zs=>kZ zs (pJ it t&&xf cf tg one t&&oN cf it iter&&c7 cf b ys)
 | .dN c f e,st=>sX st λa b=>oS a λa=>jm a λg xs l _=>kZ l (lC xs λx r=>kZ r (b.u&&bV cf.j c g&&cf.ob.er.u (c,f)&&bF cf (.j e .p) [x]))
 | .eR i f es c nm iv fl,st=>u6 st λb hs=>rh cf c nm iv fl hs&&pT cf i f b (λxs=>bF cf es xs)
 | .bO i c f e,st=>fv st λts v=>lC ts λt r=>ZG t λx n _=>Xp x λx=>kZ r (vB cf i x&&y9 (n=Zd f)&&cf.ob.fl.u (c,f)&&wc cf e v)
 | .eL,_=>u0
noncomputable def c7 (cf:Cf):M.Ss->List Stmt->Bool
 | .nil,sts=>sts.y
 | .cons s ss,sts=>lC sts λst sts=>tu cf s st&&c7 cf ss sts
end
structure Ei (X:Cx) (k:Nat) (x:Str) (ps:List Str) (sp:Sp):Prop where
 ex: ∃f fd,bz X.p X.w X.K X.mg X.base (dP X.p X.w) k f fd ps sp/\Binds X.K fd ps []/\Ah5 X.K (.p f)=u0/\X.mg x=k0 (.p f)
def nO:M.W->Bool
 | .j _=>k9
 | _=>u0
def hJ (Y:Ge) (m:Y0 M.W->M.AH->M.R M.W):Sp:=λb H Q E=> ∃G h a,ah Y G h H/\bq Y G H a b/\(∀ w∈a,nO w=u0)/\mX Y E G H (m a h) Q
structure Go (Y:Ge) (F:M.Fx) (X:Cx) (k:Nat) (cf:Cf):Prop where
 N:X.N=cf.N
 K:X.K=Y.K
 cl:F.cl=Y.cl
 ow:cf.own=Y.own
 nd:cf.N.B
 g8: ∀x,qW cf.j x=u0->i6 X.j.j x
 lR: ∀x,cf.j.j.p x=k0 .local->X.j.j.j.p x=k0 .local
 iJ: ∀x,iX cf.j x=u0->lP X.j.j x/\(X.fn x=u0\/X.j.j.j.p x=k0 .local)
 lZ: ∀x,(cf.j.j.p x=k0 .p\/cf.j.j.p x=k0 .u)->X.j.u x=k0 .p\/X.j.u x=k0 .u
 gl: ∀x,ly cf.j x=u0->Gl X x
 calm:X.calm=u0
 room:bb k X.A
 dM:bb (k+1) X.A
 blt: ∀x,x∈cv->X.mg (Zd x)=y0
 con: ∀x d,F.con.p x=k0 d-> ∃u v,X.mg (Zd x)=k0 u/\RelV v u/\ ∀G H,aE Y G H d v
 fn: ∀f,cf.fns.u f=u0-> ∃ps,Ei X k (Zd f) ps (hJ Y (F.p f))
 cls: ∀c,cf.own.u c=u0->X.mg (Zd c)=k0 (.p (Y.j c))
 fld: ∀c f,cf.ob.fl.u (c,f)=u0->dA X.K (Y.j c)/\cj X.K (Y.j c) (Zd f)
 kb: ∀c m q,cf.ob.mt.u (c,m,q)=u0->dA X.K (Y.j c)/\ ∃fa fd ps,nW X.K (Y.j c) (Zd m) fa/\bz X.p X.w X.K X.mg X.base (dP X.p X.w) k fa fd ps (hJ Y (F.p q))/\Binds X.K fd ps []
 eZ: ∀c q,cf.ob.eZ.u (c,q)=u0->X.mg (Zd c)=k0 (.p (Y.j c))/\ ∃fa fd ps,Mk X.K (Y.j c) fa/\bz X.p X.w X.K X.mg X.base (dP X.p X.w) k fa fd ps (hJ Y (F.p q))/\Binds X.K fd ps []
open L2 renaming MS.Go.calm→L2.MS.Go.u,MS.Go.room→L2.MS.Go.p
def l9 :zG (dP X.p X.w) X λ_ _ _=>False:=λa U H s e f _ b=>by
 obtain⟨x,g,t,B,d,_,_,_,_,_,_,_,_,_,_,c⟩:=b
 exact c.j
@[elab_as_elim] theorem kE {P:Y0 α->Prop}(k:b=u0->P []): ∀l,kZ l b=u0->P l:=by rintro (_|_)<;>first | exact b9 | exact k
@[elab_as_elim] theorem F4 {P:Y7->Prop}(k: ∀a b p,f a b=u0->P (.Try a b [] [] p)): ∀e,u6 e f=u0->P e:=by
 rintro (_|_)<;>first | exact b9 | exact λh=>kE (λh=>kE (λh=>k _ _ _ h) _ h) _ h
@[elab_as_elim] theorem Bw {P:ExceptHandler->Prop}(k: ∀a b c p,f a b c=u0->P (.j a b c p)): ∀e,yD e f=u0->P e
 | .j _ _ _ _,h=>k _ _ _ _ h
def a2 (h:(a&&b)=u0):a=u0/\b=true:=Bool.and_eq_true_iff.p h
def a3 (h:(a&&b&&c)=u0):a=u0/\b=u0/\c=true:=⟨(a2 (a2 h).1).1,(a2 (a2 h).1).2,(a2 h).2⟩
def a4 (h:(a&&b&&c&&d)=u0):a=u0/\b=u0/\c=u0/\d=true:=⟨(a3 (a2 h).1).1,(a3 (a2 h).1).2.1,(a3 (a2 h).1).2.2,(a2 h).2⟩
def a5 (h:(a&&b&&c&&d&&e)=u0):a=u0/\b=u0/\c=u0/\d=u0/\e=true:=⟨(a2 (a4 h).1).1,(a2 (a4 h).1).2,(a4 h).2⟩
def a6 (h:(a&&b&&c&&d&&e&&f)=u0):a=u0/\b=u0/\c=u0/\d=u0/\e=u0/\f=true:=⟨(a2 (a5 h).1).1,(a2 (a5 h).1).2,(a5 h).2⟩
def a7 (h:(a&&b&&c&&d&&e&&f&&g)=u0):a=u0/\b=u0/\c=u0/\d=u0/\e=u0/\f=u0/\g=true:=⟨(a2 (a6 h).1).1,(a2 (a6 h).1).2,(a6 h).2⟩
def nn (h:o.u=u0):o=none:=Aj5.p h
def fT (h:vB cf i x=u0):cf.N[i]? =k0 x/\qW cf.j x=u0/\bg x=true:=⟨of_decide_eq_true (a3 h).1,(a3 h).2⟩
def xc (h:bV sc x e=true): ∃p,e= .j (Zd x) p/\ly sc (Zd x)=true/\(Zd x==("__debug__" :Str))=false:=by
 unfold bV at h
 rw [Aa0,Aa0]at h
 obtain⟨⟨b,c⟩,a⟩:=h
 unfold bg at a
 rw [Aa0]at a
 cases e with
 | Name y p=>
  have:y=Zd x:=by simpa [rO]using b
  subst this
  exact⟨p,rfl,c,by simpa using a.1⟩
 | _=>simp [rO]at b
def Jp (h:x∈cv):Zd x≠("__name__" :Str):=by
 have:(cv.K λx=>decide (Zd x≠ "__name__"))=true:=by decide +kernel
 exact of_decide_eq_true (Ai6.p this x h)
section
variable {Y:Ge}{F:M.Fx}{X:Cx}{E:XK}{k:Nat}{cf:Cf}
section
variable {G:Gh}{H:Hp}{h:M.AH}{τ:M.Sl}{U:St}{Q:VK}
def aA.val (p:aA Y G0 H0 (.j w h) λw _ G' H'=> ∀v,aj Y G' H' w v->aM τ U H0 w v->Q v H') (e:Ext G0 H0 G H) (a:ah Y G h H) (z:aj Y G H w v) (f:aM τ U H0 w v):Q v H:=
 p G H e a v z f
end
def KS (c:Go Y F X k cf)(f:cf.N[i]? =k0 x) (t:qW cf.j x=u0) (b:bg x=u0):PE X (.j x pos) (tD Y (M.eval F (.var i))):=by
 unfold bg at b
 rw [Aa0]at b
 refine PE.imp (qy (by rw [c.N];exact f) (c.g8 x t) (by simpa using b.1) (by simpa using b.2)) λU H Q l=> ?_
 obtain⟨G,y,h,s,p⟩:=l
 rw [M.eval]at p
 cases q:M.Gm y i with
 | none=>simp [M.Gi,q]at p;exact p.j
 | some w=>
  obtain⟨v,e,r⟩:=s.q i w q
  refine⟨v,e,?_⟩
  cases w with
  | v d=>
   rw [M.Kr q]at p
   exact aA.val p Ext.refl s.j r trivial
  | own n=>
   rw [M.Ka q]at p
   obtain⟨a,m,g,z,u,j,o⟩:=r
   exact aA.val p Ext.refl s.j ⟨a,m,g,u,.p j,o⟩ ⟨i,_,q,rfl,e⟩
  | bor n=>
   rw [M.Ke q]at p
   exact aA.val p Ext.refl s.j r ⟨i,_,q,rfl,e⟩
def Ha (g:Go Y F X k cf)(l:bV cf.j c e=u0):PE X e (tD Y (M.eval F (.con c))):=by
 obtain⟨p,rfl,m,n⟩:=xc l
 cases q:F.con.p c with
 | none=>
  rintro f s U H Q I ⟨G,o,h,b,a⟩
  rw [M.eval,q]at a
  exact a.j
 | some d=>
  obtain⟨u,v,i,rv,rd⟩:=g.con c d q
  refine PE.imp (Ax (g.gl _ m) i rv n) λU H Q j=> ?_
  obtain⟨G,o,h,b,a⟩:=j
  rw [M.eval,q]at a
  exact aA.val a Ext.refl b.j (rd G H) trivial
def EH :PE X (.u (.int i) j pos) (tD Y (M.eval F (.int i))):=PE.imp LB (by rintro U H Q⟨G,a,h,s,p⟩;exact aA.val p Ext.refl s.j rfl trivial)
def IM :PE X (.u (.bool i) j pos) (tD Y (M.eval F (.bl i))):=PE.imp DY (by rintro U H Q⟨G,a,h,s,p⟩;exact aA.val p Ext.refl s.j rfl trivial)
def CK :PE X (.u .none j pos) (tD Y (M.eval F .ak)):=PE.imp FF (by rintro U H Q⟨G,a,h,s,p⟩;exact aA.val p Ext.refl s.j rfl trivial)
def MO :PE X (.u (.j (aN i)) j pos) (tD Y (M.eval F (.str i))):=PE.imp rC (by rintro U H Q⟨G,a,h,s,p⟩;exact aA.val p Ext.refl s.j rfl trivial)
section
variable {a b c:M.E}{x y z:Y4}{pos:Pos}
def MB (z:Go Y F X k cf)(v:m1 o=u0) (g:PE X x (tD Y (M.eval F a))) (q:PE X y (tD Y (M.eval F b))):PE X (.BinOp x (n8 o) y pos) (tD Y (M.eval F (.bin o a b))):=by
 refine PE.imp (FQ (Ly o v z.K) g q) λU H Q f=> ?_
 obtain⟨G,J,h,s,p⟩:=f
 refine Xa s.j Ext.refl s p λw v1 A D B e1 m d i I l=> ?_
 refine Xa s.j e1 d l λt v2 j n C e2 c e u E r=> ?_
 exact⟨n,j,w,t,e.j,i.ext c d.j,u,aB.mk r e2 s.j⟩
theorem rB (a: ∀c y,RV hp c y->ee y=M.cw c d): ∀ {ys}{i},cz hp ys i->i.z ee=M.inD d ys
 | [],_,rfl=>rfl
 | c::ys,_,z7=>by
  obtain⟨u,r,rfl,f,e⟩:=z7
  have b:=rB a e
  unfold M.inD at b ⊢
  rw [Ag7,Ag7,b,a c u f]
def rg (b:bb k X.A)(r:M.GG ys<140) (p:RV s.j d v) (m:cz s.j ys its): ∃i:Y2->Bool,(∀ c y,RV s.j c y->i y=M.cw c d)/\ ∀y,y∈its.q->SeqAt.EqAt X.A.j s y v (i y):=by
 have f: ∃i:Y2->Bool,∀c y,RV s.j c y->i y=M.cw c d:=⟨λy=> @y9 (∃ a,RV s.j a y/\M.cw a d=u0) (Am2 _),λc y z=>by
  cases q:M.cw c d with
  | true=>exact @decide_eq_true _ (Am2 _) ⟨c,z,q⟩
  | false=>exact @decide_eq_false _ (Am2 _) λ⟨d,n,g⟩=>by rw [RV.inj n z,q]at g;cases g⟩
 obtain⟨i,h⟩:=f
 refine⟨i,h,λy l=> ?_⟩
 obtain⟨j,o⟩:=List.getElem?_of_mem (List.mem_toArray.p l)
 obtain⟨a,e,rd⟩:=m.get o
 rw [h a y rd]
 exact(pC 140 a _ X.A.j y v (by have:=qH e;lia) (by have:=b.un;lia) rd p).eq
def tQ (A:X.K=Y.K)(g:bb k X.A) (neg:Bool){x y:V}(I:Inv X pins U H s) (C:RelV x v) (E:RelV y u){b:Bool}(t:ah Y G h H)
 (D:aj Y G H w1 x) (F:aj Y G H w2 y) (e:M.G9 w1 w2 h=k0 b) (q:Q (.C (if neg then !b else b)) H):wpAny (model X.p X.w) X.A (compareOp (if neg then .NotIn else .In) v u) (EP X pins U Q) X.xe s:=by
 unfold M.G9 at e
 split at e
 .rename_i z e2
  split at e
  .rename_i c
   cases e
   have i:=by simpa using c
   have w:=D.rv I A t C i.1.1
   have o:=F.rv I A t E
   cases r:w2.dd h with
   | lst B=>
    rw [r]at e2 o
    cases e2
    obtain⟨a,d,rfl,n,l⟩:=o i.1.2
    obtain⟨f,p,j⟩:=rg g i.2 w l
    have m:d.q.any f=M.inD (w1.dd h) z:=by rw [List.any_toArray];exact rB p l
    cases neg with
    | true=>exact SeqAt.notIn_listAt f n j ⟨.C _,H,I,rfl,by rw [m];exact q⟩
    | false=>exact SeqAt.in_listAt f n j ⟨.C _,H,I,rfl,by rw [m];exact q⟩
   | tup B=>
    rw [r]at e2 o
    cases e2
    obtain⟨a,d,rfl,n,l⟩:=o i.1.2
    obtain⟨f,p,j⟩:=rg g i.2 w l
    have m:d.q.any f=M.inD (w1.dd h) z:=by rw [List.any_toArray];exact rB p l
    cases neg with
    | true=>exact SeqAt.notIn_tupleAt f n j ⟨.C _,H,I,rfl,by rw [m];exact q⟩
    | false=>exact SeqAt.in_tupleAt f n j ⟨.C _,H,I,rfl,by rw [m];exact q⟩
   | _=>rw [r]at e2;cases e2
  .cases e
 .cases e
def XO (r:Go Y F X k cf) (o:M.Cp) (C:zN o=u0):b8 X (compareOp (fK o)) (kR Y o):=by
 have f: ∀ {o:M.Cp},(∀ d a h b,M.Gr o d a h=k0 b-> ∃i j,M.W.int? d=k0 i/\M.W.int? a=k0 j/\M.KC o i j=k0 b)->b8 X (compareOp (fK o)) (kR Y o):=by
  rintro o A g s U H x y v u Q I l n ⟨G,h,d,a,b,w,m,p,e,q⟩
  obtain⟨i,j,e1,e2,B⟩:=A d a h b e
  cases m.int e1
  cases p.int e2
  exact Ds B I l n q
 have mk: ∀ {o:M.Cp}{d a:M.W}{h:M.AH}{b:Bool},(match M.W.int? d,M.W.int? a with
  | some i,k0 j=>M.KC o i j
  | _,_=>y0)=k0 b-> ∃i j,M.W.int? d=k0 i/\M.W.int? a=k0 j/\M.KC o i j=k0 b:=by
  intro o d a h b e
  split at e
  .rename_i i j e1 e2;exact⟨i,j,e1,e2,e⟩
  .cases e
 cases o with
 | eq=>exact BF r.K r.p
 | ne=>exact DJ r.K r.p
 | lt=>exact f λd a h b e=>mk (h:=h) e
 | le=>exact f λd a h b e=>mk (h:=h) e
 | gt=>exact f λd a h b e=>mk (h:=h) e
 | ge=>exact f λd a h b e=>mk (h:=h) e
 | mem=>
  rintro g s U H x y v u Q I l n ⟨G,h,d,a,b,w,m,p,e,q⟩
  exact tQ r.K r.p k9 I l n w m p e q
 | ft=>
  rintro g s U H x y v u Q I l n ⟨G,h,d,a,b,w,m,p,e,q⟩
  have e:(M.G9 d a h).j (!·)=k0 b:=e
  cases e2:M.G9 d a h with
  | none=>rw [e2]at e;cases e
  | some c=>
   rw [e2]at e
   cases e
   exact tQ r.K r.p u0 I l n w m p e2 q
 | dt=>
  rintro g s U H x y v u Q I l n ⟨G,h,d,a,b,w,m,p,e,q⟩
  have e:M.Kv d a=k0 b:=e
  unfold M.Kv at e
  split at e
  .cases e
   cases m
   cases p
   cases l
   obtain⟨t,rfl⟩:=n
   exact wpAny_is_plain rfl (mS I q rfl)
  .cases e
   cases m
   cases p
   obtain⟨t,rfl⟩:=l
   obtain⟨z,rfl⟩:=n
   exact PyProof.Rows.is_bool (mS I q rfl)
  .cases e
 | kT=>
  rintro g s U H x y v u Q I l n ⟨G,h,d,a,b,w,m,p,e,q⟩
  have e:(M.Kv d a).j (!·)=k0 b:=e
  unfold M.Kv at e
  split at e
  .cases e
   cases m
   cases p
   cases l
   obtain⟨t,rfl⟩:=n
   exact wpAny_isNot_plain rfl (mS I q rfl)
  .cases e
   cases m
   cases p
   obtain⟨t,rfl⟩:=l
   obtain⟨z,rfl⟩:=n
   exact PyProof.Rows.isnot_bool (mS I q rfl)
  .cases e
def Qs (h:xh e=u0):behindInMarks o e=false:=by
 cases e<;>first | rfl | (simp [xh]at h)
def yL (D:Go Y F X k cf)(s:av Y G τ h U H)
 (p:aA Y G H ((M.eval F a τ h).p λx h=>(M.eval F b τ h).p λy h=>(M.R.of h (M.Gr o x y h)).p λc h=> .j c h) λc _ _ H'=>R (.C c) H'):
 md (kR Y o) (tD Y (M.eval F a)) (tD Y (M.eval F b)) U H R:=by
 refine Xa s.j Ext.refl s p λu v1 v A w e1 m g i C l=> ?_
 refine Xa s.j e1 g l λr v2 j q z e2 d f t B e=> ?_
 obtain⟨c,n,e⟩:=e.of
 exact⟨q,j,u,r,c,f.j,i.ext d g.j,t,n,e.at e2 f.j⟩
def aA.map {f:α->β}(p:aA Y G H (r.p λa h=> .j (f a) h) P):aA Y G H r λa h G' H'=>P (f a) h G' H':=by
 cases r with
 | ok a h=>exact p
 | exc d h=>exact p
 | fail=>exact p
def Jh (r:M.R α) (f) (g:β->M.AH->M.R γ):(r.p f).p g=r.p λa h=>(f a h).p g:=by cases r<;>rfl
def FR (l:Go Y F X k cf)(B:zN o=u0) (m:xh y=u0) (r:PE X x (tD Y (M.eval F a))) (z:PE X y (tD Y (M.eval F b))):PE X (.A x [fK o] [y] pos) (tD Y (M.eval F (.cmp o a b))):=by
 refine PE.imp (AJ (XO l o B) r z (Qs m)) λU H Q n=> ?_
 obtain⟨G,g,h,s,p⟩:=n
 rw [M.eval]at p
 refine yL l s ?_
 have A:aA Y G H (((M.eval F a g h).p λx h=>(M.eval F b g h).p λy h=>(M.R.of h (M.Gr o x y h)).p λc h=> .j c h).p λc h=> .j (M.W.v (.C c)) h) λw _ j i=> ∀v,aj Y j i w v->aM g U H w v->Q v i:=by
  simpa only [Jh,M.R.af]using p
 have f:=A.map
 cases q:(M.eval F a g h).p λx h=>(M.eval F b g h).p λy h=>(M.R.of h (M.Gr o x y h)).p λc h=> .j c h with
 | ok c t=>rw [q]at f;exact λj i e u=>f j i e u (.C c) rfl trivial
 | exc d t=>rw [q]at f;exact f
 | fail=>rw [q]at f;exact f
def EO (g:Go Y F X k cf)(w:zN o=u0) (j:xh y=u0) (n:PE X x (tD Y (M.eval F a))) (u:PE X y (tD Y (M.eval F b))):PT X (.A x [fK o] [y] pos) (c5 Y (M.Gn F (.cmp o a b))):=by
 refine PT.imp (vC (XO g o w) n u (Qs j)) λU H Q m=> ?_
 obtain⟨G,i,h,s,p⟩:=m
 unfold M.Gn at p
 rw [M.eval]at p
 refine yL g s ?_
 have f:=by
  simpa only [Jh,M.R.af,M.GR,M.R.ar]using p
 cases q:(M.eval F a i h).p λx h=>(M.eval F b i h).p λy h=>(M.R.of h (M.Gr o x y h)).p λc h=> .j c h with
 | ok c r=>rw [q]at f;exact λl v e t=>⟨c,rfl,f l v e t⟩
 | exc d r=>rw [q]at f;exact f
 | fail=>rw [q]at f;exact f
end
end
section
variable {Y:Ge}{F:M.Fx}{X:Cx}{E:XK}{k:Nat}{cf:Cf}{a b c:M.E}{x y z:Y4}{pos:Pos}
def ZH (r:M.R α):(r.p λw h=> .j w h)=r:=by cases r<;>rfl
def B4 (r:Go Y F X k cf) (g:PE X x (tD Y (M.eval F a))) (j: ∀i,isTrue x X.j i=(do let v ←i;standAt x.pos;holding [v] (truthy v))):PT X x (c5 Y (M.Gn F a)):=by
 refine PT.imp (BV g j) λU H Q f=> ?_
 obtain⟨G,w,h,s,p⟩:=f
 refine Xa s.j Ext.refl s p λo v1 d m e e1 n c l u b=> ?_
 cases q:M.G7 d o with
 | none=>rw [q]at b;exact b.j
 | some t=>
  rw [q]at b
  exact⟨t,nN r.K c.j l q,b m e e1 c.j⟩
def El (g:PE X x ta):PE X (.C .Not x pos) (λU H Q=>ta U H λv H1=> ∃t,kn X.K v H1 t/\Q (.C (!t)) H1):=by
 intro a s U H Q I h
 exact UnaryOp_ (aS (g a s U H _ I h) (by rintro v f⟨x,H1,j,i,t,d,b⟩;exact not_of (aS (n0 a f U H1 x v (λc l=>Q (.C (!c)) l) j i ⟨t,d,b⟩) (by rintro c m⟨k,e,q⟩;exact ⟨.C (!c),k,e,rfl,q⟩))))
def CO (i:Go Y F X k cf) (e:PE X x (tD Y (M.eval F a))):PE X (.C .Not x pos) (tD Y (M.eval F (.not a))):=by
 refine PE.imp (El e) λU H Q d=> ?_
 obtain⟨G,r,h,s,p⟩:=d
 refine Xa s.j Ext.refl s p λo v1 j m l e1 g c f n b=> ?_
 obtain⟨t,q,b⟩:=b.of
 exact⟨t,nN i.K c.j f q,aA.val b e1 c.j rfl trivial⟩
def FG (f:PT X x (c5 Y (M.Gn F a))):PT X (.C .Not x pos) (c5 Y (M.Gn F (.not a))):=by
 refine PT.imp (DP f) λU H Q g=> ?_
 obtain⟨G,c,h,s,p⟩:=g
 unfold M.Gn at p
 rw [M.eval]at p
 have d:aA Y G H ((M.Gn F a c h).p λt h=> .j (!t) h) λb _ _ e=>Q b e:=by
  unfold M.Gn
  simpa only [Jh,M.R.af,M.GR,M.R.ar]using p
 exact⟨G,c,h,s,d.map⟩
def NU {rest:Y0 Y4}(m:PE X x ta) (o:PE X (.y .And (y::rest) pos) tb):PE X (.y .And (x::y::rest) pos) (λU H Q=>ta U H λv H1=> ∃t,kn X.K v H1 t/\if t=u0 then tb U H1 Q else Q v H1):=by
 intro a s U H Q I h
 refine BoolOp_and (aS (m a s U H _ I h) ?_)
 rintro v l⟨x,H1,n,d,t,j,i⟩
 refine aS (n0 a l U H1 x v (λc f=>if c=u0 then tb U f Q else Q x f) n d ⟨t,j,i⟩) λc g k=> ?_
 obtain⟨e,b,q⟩:=k
 cases c with
 | true=>exact o a g U e Q b q
 | false=>exact⟨x,e,b,d,q⟩
def MN {rest:Y0 Y4}(m:PE X x ta) (o:PE X (.y .Or (y::rest) pos) tb):PE X (.y .Or (x::y::rest) pos) (λU H Q=>ta U H λv H1=> ∃t,kn X.K v H1 t/\if t=u0 then Q v H1 else tb U H1 Q):=by
 intro a s U H Q I h
 refine BoolOp_or (aS (m a s U H _ I h) ?_)
 rintro v l⟨x,H1,n,d,t,j,i⟩
 refine aS (n0 a l U H1 x v (λc f=>if c=u0 then Q x f else tb U f Q) n d ⟨t,j,i⟩) λc g k=> ?_
 obtain⟨e,b,q⟩:=k
 cases c with
 | false=>exact o a g U e Q b q
 | true=>exact⟨x,e,b,d,q⟩
def ug (v:Go Y F X k cf){rest:Y0 Y4}(j:PE X x (tD Y (M.eval F a))) (m:PE X (.y .And (y::rest) pos) (tD Y (M.eval F b))):PE X (.y .And (x::y::rest) pos) (tD Y (M.eval F (.and a b))):=by
 refine PE.imp (NU j m) λU H Q g=> ?_
 obtain⟨G,J,h,s,p⟩:=g
 refine Xa s.j Ext.refl s p λI v1 w C z e1 l d e u c=> ?_
 obtain⟨t,q,c⟩:=c.of
 refine⟨t,nN v.K d.j e q,?_⟩
 cases t with
 | true=>
  exact Xa s.j e1 d (by rw [ZH];exact c) λE v2 A D B e2 i f r o n=>aA.val n e2 f.j r (o.back e1 s.j)
 | false=>
  exact aA.val c e1 d.j e u
def tM (v:Go Y F X k cf){rest:Y0 Y4}(j:PE X x (tD Y (M.eval F a))) (m:PE X (.y .Or (y::rest) pos) (tD Y (M.eval F b))):PE X (.y .Or (x::y::rest) pos) (tD Y (M.eval F (.or a b))):=by
 refine PE.imp (MN j m) λU H Q g=> ?_
 obtain⟨G,J,h,s,p⟩:=g
 refine Xa s.j Ext.refl s p λI v1 w C z e1 l d e u c=> ?_
 obtain⟨t,q,c⟩:=c.of
 refine⟨t,nN v.K d.j e q,?_⟩
 cases t with
 | false=>
  exact Xa s.j e1 d (by rw [ZH];exact c) λE v2 A D B e2 i f r o n=>aA.val n e2 f.j r (o.back e1 s.j)
 | true=>
  exact aA.val c e1 d.j e u
def EZ :M.Gn F (.and a b) τ h=(M.Gn F a τ h).p λt h=>match t with
 | true=>M.Gn F b τ h
 | false=> .j k9 h:=by
 unfold M.Gn
 rw [M.eval]
 simp only [Jh]
 congr 1
 funext w h1
 cases q:M.G7 h1 w with
 | none=>rfl
 | some t=>
  cases t with
  | true=>rfl
  | false=>simp [q]
def Od :M.Gn F (.or a b) τ h=(M.Gn F a τ h).p λt h=>match t with
 | true=> .j u0 h
 | false=>M.Gn F b τ h:=by
 unfold M.Gn
 rw [M.eval]
 simp only [Jh]
 congr 1
 funext w h1
 cases q:M.G7 h1 w with
 | none=>rfl
 | some t=>
  cases t with
  | false=>rfl
  | true=>simp [q]
def Bb {rest:Y0 Y4}(l:PT X x (c5 Y (M.Gn F a))) (r:PW X (.y .And (y::rest) pos) (c5 Y (M.Gn F b))):PW X (.y .And (x::y::rest) pos) (c5 Y (M.Gn F (.and a b))):=by
 rintro v c j U H Q I ⟨G,C,h,s,p⟩
 refine D8 l r v c j U H Q I ?_
 rw [EZ]at p
 refine xU s.j Ext.refl s p λt z n i e1 o d e=> ?_
 cases t with
 | true=>
  exact xU s.j e1 d (f:=λw h=> .j w h) (by rw [ZH];exact e) λB A q m e2 k g u=>u q m e2 g.j
 | false=>
  exact e n i e1 d.j
def tJ {rest:Y0 Y4}(l:PT X x (c5 Y (M.Gn F a))) (r:PW X (.y .Or (y::rest) pos) (c5 Y (M.Gn F b))):PW X (.y .Or (x::y::rest) pos) (c5 Y (M.Gn F (.or a b))):=by
 rintro v c j U H Q I ⟨G,C,h,s,p⟩
 refine DV l r v c j U H Q I ?_
 rw [Od]at p
 refine xU s.j Ext.refl s p λt z n i e1 o d e=> ?_
 cases t with
 | false=>
  exact xU s.j e1 d (f:=λw h=> .j w h) (by rw [ZH];exact e) λB A q m e2 k g u=>u q m e2 g.j
 | true=>
  exact e n i e1 d.j
def FE (e:PE X x (tD Y (M.eval F a))):PE X (.C .USub x pos) (tD Y (M.eval F (.neg a))):=by
 refine PE.imp (rX EB e) λU H Q c=> ?_
 obtain⟨G,n,h,s,p⟩:=c
 refine Xa s.j Ext.refl s p λm v1 i k j e1 g d f l b=> ?_
 obtain⟨t,q,b⟩:=b.of
 exact⟨t,f.int q,aA.val b e1 d.j rfl trivial⟩
def L1 (f:PE X x (tD Y (M.eval F a))):PE X (.C .Invert x pos) (tD Y (M.eval F (.inv a))):=by
 refine PE.imp (rX HF f) λU H Q c=> ?_
 obtain⟨G,o,h,s,p⟩:=c
 refine Xa s.j Ext.refl s p λn v1 j l k e1 i d g m b=> ?_
 obtain⟨t,q,b⟩:=b.of
 refine⟨t,g.int q,?_⟩
 have e:Builtin.bitNot t= -t-1:=by unfold Builtin.bitNot;omega
 exact aA.val b e1 d.j rfl trivial
def Aw (r:aj Y G H w v):(v= .ak)↔w= .v .ak:=by
 constructor
 .intro e
  subst e
  cases w with
  | v d=>
   cases d with
   | ak=>rfl
   | bl _=>cases (r)
   | int _=>cases (r)
   | str _=>cases (r)
   | tup _=>obtain⟨_,_,e,_⟩:=r;cases e
   | lst _=>obtain⟨_,_,e,_⟩:=r;cases e
   | ref _=>obtain⟨_,e⟩:=r;cases e
   | err _ _ _=>obtain⟨_,_,_,e,_⟩:=r;cases e
  | own _=>obtain⟨_,_,e,_⟩:=r;cases e
  | bor _=>obtain⟨_,_,e,_⟩:=r;cases e
 .intro e
  subst e
  exact r
noncomputable def rE (neg:Bool):M.W->Bool
 | .v .ak=> !neg
 | _=>neg
def u2 :M.eval F (.fi neg a) τ h=(M.eval F a τ h).p λw h=>M.ao (.C (rE neg w)) h:=by
 rw [M.eval]
 congr 1
 funext w h1
 cases w with
 | v d=>cases d<;>rfl
 | own _=>rfl
 | bor _=>rfl
def Bh (r:aj Y G H w v) (neg:Bool):(if neg then !y9 (v= .ak)else y9 (v= .ak))=rE neg w:=by
 by_cases a:v= .ak
 .have b:=(Aw r).p a
  subst b a
  cases neg<;>rfl
 .have b:=λe=>a ((Aw r).q e)
  rw [(decide_eq_false a)]
  have e2:rE neg w=neg:=by
   cases w with
   | v d=>cases d<;>first | rfl | exact absurd rfl b
   | own _=>rfl
   | bor _=>rfl
  rw [e2]
  cases neg<;>rfl
def LI (d:PE X x (tD Y (M.eval F a))):PE X (.A x [if neg then .IsNot else .Is] [.u .none j pos'] pos) (tD Y (M.eval F (.fi neg a))):=by
 have b: ∀U H Q,tD Y (M.eval F (.fi neg a)) U H Q->tD Y (M.eval F a) U H λv c=>Q (.C (if neg then !y9 (v= .ak)else y9 (v= .ak))) c:=λU H Q e=>by
  obtain⟨G,q,h,s,p⟩:=e
  rw [u2]at p
  refine Xa s.j Ext.refl s p λo v1 l m c e1 k f g n i=> ?_
  rw [Bh g neg]
  exact aA.val i e1 f.j rfl trivial
 cases neg with
 | true=>exact PE.imp (tw (sR d)) b
 | false=>exact PE.imp (tw (rY d)) b
def CP (k:PE X x (tD Y (M.eval F a))):PT X (.A x [if neg then .IsNot else .Is] [.u .none j pos'] pos) (c5 Y (M.Gn F (.fi neg a))):=by
 have g: ∀U H Q,c5 Y (M.Gn F (.fi neg a)) U H Q->tD Y (M.eval F a) U H λv b=>Q (if neg then !y9 (v= .ak)else y9 (v= .ak)) b:=λU H Q m=>by
  obtain⟨G,i,h,s,p⟩:=m
  unfold M.Gn at p
  rw [u2,Jh]at p
  refine Xa s.j Ext.refl s p λI v1 D z b e1 B n u E A=> ?_
  rw [Bh u neg]
  exact A z b e1 n.j
 have fin: ∀U H Q,c5 Y (M.Gn F (.fi neg a)) U H Q->tD Y (M.eval F a) U H λv b=> ∃c,V.bl (if neg then !y9 (v= .ak)else y9 (v= .ak))= .C c/\Q c b:=λU H Q t=>by
  obtain⟨G,i,h,s,p⟩:=g U H Q t
  refine⟨G,i,h,s,?_⟩
  cases q:M.eval F a i h with
  | ok w o=>rw [q]at p;exact λl C e y v r f=>⟨_,rfl,p l C e y v r f⟩
  | exc d o=>rw [q]at p;exact p
  | fail=>rw [q]at p;exact p
 cases neg with
 | true=>exact PT.imp (u1 (sR k)) fin
 | false=>exact PT.imp (u1 (rY k)) fin
def r4 (h:xh e'=u0):lastMarks [o,o'] [e,e']=false:=Qs h
def uE (T:Go Y F X k cf)(s:av Y G τ h U H)
 (r: ∀b h' G' H',P (.v (.C b)) h' G' H'->R (.C b) H') (p:aA Y G H (M.eval F (.a2 o o' a b c) τ h) P):
 oh (kR Y o) (kR Y o') (tD Y (M.eval F a)) (tD Y (M.eval F b)) (tD Y (M.eval F c)) U H R:=by
 refine Xa s.j Ext.refl s p λE v1 I L J e1 z l v O y=> ?_
 refine Xa s.j e1 l y λn v2 w A K e2 i d q N e=> ?_
 obtain⟨t,j,e⟩:=e.of
 refine⟨A,w,E,n,t,d.j,v.ext i l.j,q,j,t,rfl,?_⟩
 cases t with
 | true=>
  refine Xa s.j e2 d e λx v3 D u S C f m B Q g=> ?_
  obtain⟨t,j,g⟩:=g.of
  exact⟨u,D,n,x,t,m.j,q.ext f d.j,B,j,r _ _ _ _ (g.at C m.j)⟩
 | false=>
  exact r _ _ _ _ (e.at e2 d.j)
def EL (e:Go Y F X k cf)(l:zN o=u0) (d:zN o'=u0) (g:xh z=u0) (i:PE X x (tD Y (M.eval F a))) (j:PE X y (tD Y (M.eval F b))) (f:PE X z (tD Y (M.eval F c))):
 PE X (.A x [fK o,fK o'] [y,z] pos) (tD Y (M.eval F (.a2 o o' a b c))):=
 PE.imp (E8 (XO e o l) (XO e o' d) i j f (r4 g)) (by rintro U H Q⟨G,t,h,s,p⟩;exact uE e s (λb n m r q=>q (.C b) rfl trivial) p)
def Ce (i:Go Y F X k cf)(B:zN o=u0) (g:zN o'=u0) (r:xh z=u0) (t:PE X x (tD Y (M.eval F a))) (v:PE X y (tD Y (M.eval F b))) (m:PE X z (tD Y (M.eval F c))):
 PT X (.A x [fK o,fK o'] [y,z] pos) (c5 Y (M.Gn F (.a2 o o' a b c))):=by
 refine PT.imp (Bv (XO i o B) (XO i o' g) t v m (r4 r)) λU H Q n=> ?_
 obtain⟨G,C,h,s,p⟩:=n
 refine uE i s (P:=λw _ _ f=> ∀b,w= .v (.C b)->Q b f) (λb l j f q=>⟨b,rfl,q b rfl⟩) ?_
 unfold M.Gn at p
 cases q:M.eval F (.a2 o o' a b c) C h with
 | ok w l=>rw [q]at p;exact λj f e u b A=>by subst A;exact p j f e u
 | exc d l=>rw [q]at p;exact p
 | fail=>rw [q]at p;exact p
end
def jb (h:Qb e=u0):starEach (e::es) env=(k9,eval e env)::starEach es env:=by
 cases e<;>first | rfl | (simp [Qb]at h)
def qo (h: ∀e∈es,Qb e=u0):(backTo pos (starEach es env)).z (·.1)=false:=by
 induction es with
 | nil=>rfl
 | cons e r c=>
  rw [jb (h e Aa3)]
  show(k9||(backTo pos _).z _)=k9
  rw [c λb a=>h b (Aa2 _ a)]
  rfl
section
variable {Y:Ge}{F:M.Fx}{X:Cx}{E:XK}{k:Nat}{cf:Cf}{a b c:M.E}{x y z:Y4}{pos:Pos}{es:M.Es}{xs:Y0 Y4}
def Mh:PA X [] (kf Y (M.Gu F .p)):=PA.imp zo (by rintro U H Q⟨G,a,h,s,p⟩;exact p G H Ext.refl s.j [] rfl)
def MR (v:Qb x=u0) (l:PE X x (tD Y (M.eval F a))) (o:PA X xs (kf Y (M.Gu F es))):PA X (x::xs) (kf Y (M.Gu F (.j a es))):=by
 refine PA.imp (zg l o (jb v)) λU H Q g=> ?_
 obtain⟨G,J,h,s,p⟩:=g
 refine Xa s.j Ext.refl s p λI v1 A C B e1 r k n u c=> ?_
 obtain⟨d,q,c⟩:=c.of
 obtain⟨D,e2,e,rd,_⟩:=oq e1 k s n u q
 refine oY s.j e2 e c λz f E j w y b m t i=> ?_
 exact i j w y m.j (v1::f) ⟨v1,f,rfl,rd.ext b e.j,t⟩
def Hu:PA X [] (gf Y (M.Gf F .p)):=PA.imp zo (by rintro U H Q⟨G,a,h,s,p⟩;exact p G H Ext.refl s.j [] rfl)
def HS (q:Qb x=u0) (i:PE X x (tD Y (M.eval F a))) (l:PA X xs (gf Y (M.Gf F es))):PA X (x::xs) (gf Y (M.Gf F (.j a es))):=by
 refine PA.imp (zg i l (jb q)) λU H Q e=> ?_
 obtain⟨G,C,h,s,p⟩:=e
 refine Xa s.j Ext.refl s p λB v1 v y w e1 n d k z m=> ?_
 refine jr s.j e1 d m λu c A g r t b j o f=> ?_
 exact f g r t j.j (v1::c) ⟨v1,c,rfl,k.ext b d.j,o⟩
def DQ (D:xs.e<=1000) (b: ∀τ h ds h',M.Gu F es τ h= .j ds h'->ds.e=xs.e) (t:PA X xs (kf Y (M.Gu F es))):PE X (.B xs n pos) (tD Y (M.eval F (.tup es))):=by
 refine PE.imp (B2 t) λU H Q m=> ?_
 obtain⟨G,τ,h,s,p⟩:=m
 rw [M.eval]at p
 cases q:M.Gu F es τ h with
 | ok a g=>
  have o:=b _ _ _ _ q
  refine oY s.j Ext.refl s (f:=λds h=>if ds.e=xs.e then M.ao (.q ds) h else .q) (P:=λw h' l k=> ∀v,aj Y l k w v->aM τ U H w v->Q v k) ?_ λds A y C z e1 u r i c=> ?_
  .rw [q]at p ⊢
   show aA Y G H (if a.e=xs.e then M.ao (.q a) g else .q) _
   rw [if_pos o]
   exact p
  .by_cases j:ds.e=xs.e
   .rw [if_pos j]at c
    have B:=i.length
    exact⟨Ag5 (Qt (by omega)),λx e=>aB.tup (aB.mk c e1 s.j) r.j i x e⟩
   .rw [if_neg j]at c;exact c.j
 | exc d g=>rw [q]at p;exact⟨G,τ,h,s,by rw [q];exact p⟩
 | fail=>rw [q]at p;exact p.j
def NY (C:xs.e<=1000) (b: ∀τ h ds h',M.Gu F es τ h= .j ds h'->ds.e=xs.e) (r:PA X xs (kf Y (M.Gu F es))):PE X (.List xs pos) (tD Y (M.eval F (.lst es))):=by
 refine PE.imp (Ih r) λU H Q m=> ?_
 obtain⟨G,τ,h,s,p⟩:=m
 rw [M.eval]at p
 cases q:M.Gu F es τ h with
 | ok a g=>
  have n:=b _ _ _ _ q
  refine oY s.j Ext.refl s (f:=λds h=>if ds.e=xs.e then .j (.j ds) h else .q) (P:=λw h' l k=> ∀v,aj Y l k w v->aM τ U H w v->Q v k) ?_ λds z x B y e1 t o i c=> ?_
  .rw [q]at p ⊢
   show aA Y G H (if a.e=xs.e then .j (M.W.own a) g else .q) _
   rw [if_pos n]
   exact p
  .by_cases j:ds.e=xs.e
   .rw [if_pos j]at c
    have A:=i.length
    exact⟨Ag5 (Qt (by omega)),λu e=>aB.own (aB.mk c e1 s.j) o.j i u e⟩
   .rw [if_neg j]at c;exact c.j
 | exc d g=>rw [q]at p;exact⟨G,τ,h,s,by rw [q];exact p⟩
 | fail=>rw [q]at p;exact p.j
def HN (r:aj Y G H w v):aj Y G H w.arg v:=by
 cases w with
 | v d=>exact r
 | own h=>obtain⟨a,b,f,_,c,g,e⟩:=r;exact⟨a,b,f,c,.p g,e⟩
 | bor h=>exact r
theorem Xt : ∀ {ws}{vs},bq Y G H ws vs->bq Y G H (ws.j M.W.arg) vs
 | [],_,z=>z
 | _::_,_,z7=>by obtain⟨v,r,c,b,a⟩:=z7;exact ⟨v,r,c,HN b,Xt a⟩
def Ws (ws:Y0 M.W): ∀w∈ws.j M.W.arg,nO w=true:=λw a=>by
 obtain⟨u,_,rfl⟩:=Ac.p a
 cases u<;>rfl
def L8 (b:Go Y F X k cf)(q:bV cf.j f g=u0) (A:cf.fns.u f=u0) (c: ∀e∈x::xs,Qb e=u0) (m:PA X (x::xs) (gf Y (M.Gf F es))):PE X (.w g (x::xs) [] pos) (tD Y (M.eval F (.p f es))):=by
 obtain⟨p,rfl,r,C⟩:=xc q
 obtain⟨u,J,I,a,t,B,d⟩:=(b.fn f A).imp λu h=>h.ex
 refine PE.imp (NX a b.p (b.gl _ r) d B t .p l9 m C (jb (c _ Aa3)) (qo λe n=>c e (Aa2 _ n))) λU H Q j=> ?_
 obtain⟨G,K,h,s,p⟩:=j
 refine jr s.j Ext.refl s p λz E i v D e1 y l o w=> ?_
 rw [Ad8]
 exact⟨v,i,_,l.j,Xt o,Ws z,(aB.mk w e1 s.j).x⟩
def MC (a:Go Y F X k cf)(e:bV cf.j f g=u0) (m:cf.fns.u f=u0):PE X (.w g [] [] pos) (tD Y (M.eval F (.p f .p))):=by
 obtain⟨p,rfl,i,o⟩:=xc e
 obtain⟨l,r,q,b,j,n,c⟩:=(a.fn f m).imp λl h=>h.ex
 refine PE.imp (BK b a.p (a.gl _ i) c n j .p l9 o) λU H Q d=> ?_
 obtain⟨G,t,h,s,p⟩:=d
 have p:=p
 exact⟨G,h,_,s.j,Xt (ws:= []) rfl,Ws [],(aB.mk p Ext.refl s.j).x⟩
def Lx (b:M.Bi) (a:ng b=u0):bootBuiltins (Zd (nj b))=k0 (yB b):=by
 cases b<;>first | (exact absurd (show k9=u0 from a) Ac2) | decide +kernel
def sr (b):nj b∈cv:=by cases b<;>decide
def BA (c:Go Y F X k cf){b:M.Bi}(q:ng b=u0) (y:bV cf.j (nj b) g=u0) (r: ∀e∈x::xs,Qb e=u0) (j:PA X (x::xs) (gf Y (M.Gf F es))):PE X (.w g (x::xs) [] pos) (tD Y (M.eval F (.bi b es))):=by
 obtain⟨p,rfl,l,n⟩:=xc y
 have i:=c.blt _ (sr b)
 have m:=Jp (sr b)
 have bt:=Lx b q
 have o:=My b q c.K c.u
 have a: ∀U H Q,tD Y (M.eval F (.bi b es)) U H Q->rR (tE Y b) (gf Y (M.Gf F es)) U H Q:=λU H Q u=>by
  obtain⟨G,I,h,s,p⟩:=u
  refine jr s.j Ext.refl s p λC E t z D e1 B d w A=> ?_
  exact⟨z,t,C,d.j,w,aB.mk A e1 s.j⟩
 have d:=jb (env:=X.j) (es:=xs) (r _ Aa3)
 have f:=qo (env:=X.j) (pos:=pos) λe v=>r e (Aa2 _ v)
 cases b with
 | len=>exact PE.imp (Qm o (c.gl _ l) i bt j m n d f) a
 | divmod=>exact PE.imp (Qm o (c.gl _ l) i bt j m n d f) a
 | min=>cases q
 | max=>cases q
 | int=>exact PE.imp (jy o (c.gl _ l) i bt j m n d f) a
 | list=>exact PE.imp (jy o (c.gl _ l) i bt j m n d f) a
 | tuple=>exact PE.imp (jy o (c.gl _ l) i bt j m n d f) a
 | sum=>exact PE.imp (Qm o (c.gl _ l) i bt j m n d f) a
 | all=>exact PE.imp (Qm o (c.gl _ l) i bt j m n d f) a
 | any=>exact PE.imp (Qm o (c.gl _ l) i bt j m n d f) a
 | sorted=>exact PE.imp (Qm o (c.gl _ l) i bt j m n d f) a
 | str=>cases q
 | abs=>cases q
def bG (h:ZT o=u0) (w):attributeBase o n env w=w:=by
 cases o with
 | Call f a b p=>
  cases a with
  | nil=>exact absurd (h) Ac2
  | cons x a=>cases f<;>rfl
 | _=>rfl
theorem AO (t): ∀ {ts}{n},M.Kk t ts=k0 n->lu (aN t) (ts.j aN)=k0 n
 | [],_,e=>by cases e
 | y::ys,n,e=>by
  unfold M.Kk at e
  rw [Ab2,lu]
  split at e
  .rename_i q
   cases e
   rw [if_pos (by rw [q])]
  .rename_i q
   obtain⟨k,e1,rfl⟩:=Ag4.p e
   rw [if_neg (λc=>q (by
    have:=congrArg (λs:Str=>s.j.p) c
    simpa [aN]using this)),AO t e1]
   rfl
theorem vq {b:Y2->Bool}(a: ∀c y,RV hp c y->b y=M.cw c d): ∀ {ys}{L}{j},cz hp ys L->M.Kp d ys=k0 j-> ∃y,L[j]? =k0 y/\b y=u0/\ ∀m z,m<j->L[m]? =k0 z->b z=k9
 | [],_,_,rfl,h=>by cases h
 | c::ys,_,j,z7,h=>by
  obtain⟨u,r,rfl,g,n⟩:=z7
  rw [M.Kp]at h
  by_cases q:M.cw c d=u0
  .rw [if_pos q]at h
   cases h
   exact⟨u,rfl,by rw [a c u g];exact q,λm z f=>absurd f (Ag3 m)⟩
  .rw [if_neg q]at h
   obtain⟨i,e,rfl⟩:=Ag4.p h
   obtain⟨y,l,o,p⟩:=vq a n e
   refine⟨y,l,o,λm z f k=> ?_⟩
   cases m with
   | zero=>cases k;rw [a c u g];simpa using q
   | succ m=>exact p m z (by omega) k
def Ci (Y:Ge):V->Y0 V->Hp->VK->Prop:=λx c H Q=> ∃G h b a y j,c= [y]/\ah Y G h H/\aj Y G H b x/\aj Y G H a y/\M.KA a b h=k0 j/\Q (.o (j:Nat)) H
def LV (B:X.K=Y.K)(d:bb k X.A):kj X "list.index" (Ci Y):=by
 rintro t s U H x Z v us Q I J rv ⟨G,h,w1,w2,y,j,P,p,L,R,e,q⟩
 subst P
 obtain⟨u,rfl,N⟩:=rv.one
 unfold M.KA at e
 split at e
 .rename_i ys e2
  split at e
  .rename_i c
   have l:=by simpa using c
   have w:=L.rv I B p J (by simp_all)
   rw [e2]at w
   obtain⟨a,i,rfl,S,f⟩:=w
   obtain⟨T,K,F⟩:=rg d l.1.2 (R.rv I B p N l.1.1.1) f
   obtain⟨z,C,h2,V⟩:=vq K f e
   obtain⟨⟨D,dd,r,sl⟩,A,E,k,O⟩:=id S
   subst E O
   have n:=f.e
   obtain⟨hj,h4⟩:=Aa1.p C
   have hL:=M.Gg
   refine call_meets PySem.F.slot_list_index ⟨_,A,rfl⟩ PySem.F.entry_list_index (PySem.F.args_list_index_2 _ _) (PySem.SeqAt.list_indexAt a i.q k dd sl u T j (by simp_all) (by lia) (by simp_all) (λm W g=> ?_)) ⟨A,F,?_⟩
   .exact V m _ g (by simp)
   .exact⟨.o j,H,I.kept λb o e=>e,⟨_,rfl⟩,q⟩
  .cases e
 .cases e
def ET (l:Go Y F X k cf)(hm:yz m=u0) (hl:(apos.j==cpos.p)=u0) (L:ZT o=u0) (v:Qb x=u0) (N:PE X o (tD Y (M.eval F a))) (O:PA X [x] (gf Y (M.Gf F es))):
 PE X (.w (.p o (Zd (yc m)) apos) [x] [] cpos) (tD Y (M.eval F (.d5 m a es))):=by
 cases m with
 | index=>
  refine PE.imp (nE PySem.F.plainAttrs_tuple PySem.F.slot_tuple_index PySem.F.type_tuple_index MK Ck N O (bG L _) (by rw [jb v];rfl) hl (jb v) rfl) λU H Q z=> ?_
  obtain⟨G,τ,h,s,p⟩:=z
  refine Xa s.j Ext.refl s p λw1 v1 h1 G1 H1 e1 C f j f1 e=> ?_
  split at e
  .rename_i y
   obtain⟨xs,ex⟩:=Ah8.p (y)
   obtain⟨b,A,rfl,r,V⟩:=j.tup ex
   refine⟨⟨b,rfl,l.K▸r.pl⟩,?_⟩
   refine jr s.j e1 f e λD us P S H2 e2 d g E c=> ?_
   obtain⟨b',Z,W,J,I⟩:=aj.ext (w:= .v (.q xs)) d f.j ⟨b,A,rfl,r,V⟩
   cases W
   cases D with
   | nil=>exact c.j
   | cons w wr=>
    cases wr with
    | cons _ _=>exact c.j
    | nil=>
     obtain⟨u,rfl,B⟩:=E.one
     have c:=c
     obtain⟨ts,q,c⟩:=c.of
     obtain⟨t,K,c⟩:=c.of
     obtain⟨n,T,c⟩:=c.of
     cases B.str K
     rw [ex,Af4]at q
     cases jT q I
     split at c
     .exact⟨b,aN t,n,ts.j aN,rfl,rfl,l.K▸fq.sq J,AO t T,(aB.mk c e2 s.j).v g.j rfl⟩
     .exact c.j
  .exact e.j
 | cc=>
  refine PE.imp (nE PySem.F.plainAttrs_list PySem.F.slot_list_index PySem.F.type_list_index AF (LV l.K l.p) N O (bG L _) (by rw [jb v];rfl) hl (jb v) rfl) λU H Q z=> ?_
  obtain⟨G,τ,h,s,p⟩:=z
  rw [M.eval]at p
  refine Xa s.j Ext.refl s p λw1 v1 h1 G1 H1 e1 C f j f1 e=> ?_
  split at e
  .rename_i y
   obtain⟨ys,R⟩:=Ah8.p (y)
   obtain⟨b,A,rfl,r,V⟩:=aj.lst f.j j R
   refine⟨⟨b,A,rfl,l.K▸r⟩,?_⟩
   refine jr s.j e1 f e λD us P S H2 e2 d g E c=> ?_
   cases D with
   | nil=>exact c.j
   | cons w wr=>
    cases wr with
    | cons _ _=>exact c.j
    | nil=>
     obtain⟨u,rfl,B⟩:=E.one
     have c:=c
     obtain⟨n,q,c⟩:=c.of
     exact⟨S,P,w1,w,u,n,rfl,g.j,j.ext d f.j,B,q,(aB.mk c e2 s.j).v g.j rfl⟩
  .exact e.j
 | count=>
  refine PE.imp (nE PySem.F.plainAttrs_list PySem.F.slot_list_count PySem.F.type_list_count AF Of N O (bG L _) (by rw [jb v];rfl) hl (jb v) rfl) λU H Q z=> ?_
  obtain⟨G,τ,h,s,p⟩:=z
  rw [M.eval]at p
  refine Xa s.j Ext.refl s p λw1 v1 h1 G1 H1 e1 C f j f1 e=> ?_
  split at e
  .rename_i y
   obtain⟨ys,R⟩:=Ah8.p (y)
   obtain⟨b,A,rfl,r,V⟩:=aj.lst f.j j R
   refine⟨⟨b,A,rfl,l.K▸r⟩,?_⟩
   refine jr s.j e1 f e λD us P S H2 e2 d g E c=> ?_
   cases D with
   | nil=>exact c.j
   | cons w wr=>
    cases wr with
    | cons _ _=>exact c.j
    | nil=>
     obtain⟨u,rfl,B⟩:=E.one
     have c:=c
     obtain⟨is,q,c⟩:=c.of
     obtain⟨i,K,c⟩:=c.of
     obtain⟨ys2,T,q4⟩:=Ag6.p q
     obtain⟨b',Z,W,y2,y3⟩:=aj.lst g.j (j.ext d f.j) T
     cases W
     cases wJ q4 y3
     cases B.int K
     split at c
     .exact⟨b,i,is,rfl,rfl,l.K▸y2,(aB.mk c e2 s.j).v g.j rfl⟩
     .exact c.j
  .exact e.j
def NC: "range" ∈cv:=by decide
def Nz: "list" ∈cv:=by decide
def DN (d:Go Y F X k cf)(w:bV cf.j "list" g=true) (e:bV cf.j "range" g2=true) (j:Qb x=true) (u:PE X x (tD Y (M.eval F a))):PE X (.w g [.w g2 [x] [] pos2] [] pos) (tD Y (M.eval F (.cg a))):=by
 obtain⟨p,rfl,y,K⟩:=xc w
 obtain⟨I,rfl,f,B⟩:=xc e
 refine PE.imp (Oe d.u (d.gl _ y) (d.blt _ Nz) (d.gl _ f) (d.blt _ NC) (zg u zo (jb j)) (jb j)) λU H Q r=> ?_
 obtain⟨G,N,h,s,p⟩:=r
 refine Xa s.j Ext.refl s p λL v1 E z o e1 A t v J b=> ?_
 obtain⟨n,q,b⟩:=b.of
 cases v.int q
 split at b
 .rename_i c
  refine⟨n.j,by rw [Int.toNat_of_nonneg c.1],by omega,λl C=> ?_⟩
  have m:aa Y z o ((Aa7 n.j).j λ(i:Nat)=>M.D.int i) ((Aa7 n.j).j λ(i:Nat)=>V.int i):=by
   induction Aa7 n.j with
   | nil=>rfl
   | cons i is D=>exact⟨_,_,rfl,rfl,D⟩
  exact aB.own (aB.mk b e1 s.j) t.j m l C
 .exact b.j
def Ms (q:Go Y F X k cf){s:M.Tx}{d:Y0 M.Tx}{m o:Nat}{i l b c:Pos}(n:(b.j==c.p)=u0) (j:nV (aN s) (d.j aN)=u0):
 PE X (.w (.p (.u (.j (aN s)) m i) (Zd "split") b) [.u (.j bY) o l] [] c) (tD Y (M.eval F (.ef s d))):=by
 refine PE.imp (nE PySem.F.plainAttrs_str PySem.F.slot_str_split PySem.F.type_str_split Nd Ib rC (zg rC zo rfl) rfl rfl n rfl rfl) λU H Q f=> ?_
 obtain⟨G,r,h,e,p⟩:=f
 rw [M.eval]at p
 exact⟨⟨_,rfl⟩,aN s,d.j aN,rfl,rfl,j,λa g=>aB.own (aB.mk p Ext.refl e.j) e.j (jR _) a g⟩
def Dz (d:Go Y F X k cf)(e:t≠ .ak) (A:bV cf.j "isinstance" g=true) (m:bV cf.j (c9 t) y=true) (l:Qb x=true) (w:PE X x (tD Y (M.eval F a))):PE X (.w g [x,y] [] pos) (tD Y (M.eval F (.cu a t))):=by
 obtain⟨p,rfl,B,I⟩:=xc A
 obtain⟨q,rfl,u,o⟩:=xc m
 have dF:c9 t∈cv:=by cases t<;>first | exact absurd rfl e | decide
 have bt:bootBuiltins (Zd (c9 t))=k0 (.j (c9 t)):=by cases t<;>first | exact absurd rfl e | decide +kernel
 have bi:bootBuiltins (Zd "isinstance")=some (.q "isinstance"):=boot_isinstance
 have b: "isinstance" ∈cv:=by decide
 have f:PE X (.j (Zd (c9 t)) q) (tC (.ty (c9 t))):=yV (d.gl _ u) (d.blt _ dF) bt rfl (Jp dF) o
 refine PE.imp (Qm (Nb d.K) (d.gl _ B) (d.blt _ b) bi (zg w (zg f zo) (jb l)) (Jp b) I (jb l) rfl) λU H Q r=> ?_
 obtain⟨G,N,h,s,p⟩:=r
 rw [M.eval]at p
 refine Xa s.j Ext.refl s p λJ v1 n C K e1 D j z L i=> ?_
 obtain⟨c,E,i⟩:=i.of
 exact⟨C,n,J,v1,t,c,rfl,e,j.j,z,E,aA.val i e1 j.j (v:= .C c) rfl trivial⟩
def OG (xs:Y0 α) (i):M.a8 xs i=L2.a8 xs i:=rfl
theorem aa.a8 (z:aa Y G H ds vs) (e:M.a8 ds i=k0 d): ∃v,L2.a8 vs i=k0 v/\aE Y G H d v:=by
 unfold M.a8 at e
 unfold L2.a8
 rw [z.length]at e
 cases q:M.d4 vs.e i with
 | none=>rw [q]at e;cases e
 | some j=>
  rw [q]at e
  obtain⟨v,b,a⟩:=z.get (e)
  refine⟨v,?_,a⟩
  have c:L2.d4 vs.e i=k0 j:=q
  rw [c]
  exact b
def xR (a:Xc y=u0):yO y:=by
 intro o i
 cases y<;>first | rfl | (simp [Xc]at a)
def Nc (w:Go Y F X k cf) (z:Xc y=u0) (C:PE X x (tD Y (M.eval F a))) (L:PE X y (tD Y (M.eval F b))):PE X (.q x y pos) (tD Y (M.eval F (.ix a b))):=by
 refine PE.imp (ri LZ C L (xR z)) λU H Q A=> ?_
 obtain⟨G,τ,h,s,p⟩:=A
 refine Xa s.j Ext.refl s p λP v1 S W T e1 K t j f1 J=> ?_
 refine Xa s.j e1 t J λw2 v2 I Z V e2 o n N f2 m=> ?_
 obtain⟨d,q,m⟩:=m.of
 have j:=j.ext o t.j
 unfold M.dJ at q
 split at q
 .rename_i i E
  cases N.int E
  split at q
  .rename_i g D
   cases j.str D
   split at q
   .rename_i hl
    cases c:M.a8 g i with
    | none=>rw [c]at q;cases q
    | some B=>
     rw [c]at q
     cases q
     refine .q (.q ⟨aN g,i,B,rfl,rfl,by rw [Jd];have:=Qi;omega,?_,aA.val m e2 n.j rfl trivial⟩)
     have:(aN g).j.p=g:=by simp [aN]
     exact c
   .cases q
  .cases c:P.seq? I with
   | none=>rw [c]at q;cases q
   | some R=>
    rw [c]at q
    obtain⟨l,r,rfl,f,O⟩:=j.seq n.j c
    obtain⟨v,e,rd⟩:=O.a8 (q)
    have u:=aA.val m e2 n.j rd trivial
    rcases f with f | f
    .exact .p ⟨l,r,i,v,rfl,rfl,w.K▸f,e,u⟩
    .exact .q (.p ⟨l,r,i,v,rfl,rfl,w.K▸f,e,u⟩)
 .cases q
end
section
variable {Y:Ge}{F:M.Fx}{X:Cx}{E:XK}{k:Nat}{cf:Cf}{a b c:M.E}{x y z:Y4}{pos p2:Pos}
def oO (xs:Y0 α) (lo hi):M.cut xs lo hi=(xs.J (HT.aV xs.e 0 lo)).A (HT.aV xs.e xs.e hi-HT.aV xs.e 0 lo):=by
 unfold M.cut
 have e: ∀d o,M.aV xs.e d o=HT.aV xs.e d o:=λd o=>by cases o<;>rfl
 rw [e,e]
theorem aa.cut (z:aa Y G H ds vs) (lo hi):aa Y G H (M.cut ds lo hi) (mH vs lo hi):=by
 rw [oO]
 rw [z.length]
 exact(z.drop _).take _
def oU {d b:Y1 Int}(n:ah Y G0 h0 H0) (e:Ext G0 H0 G H) (j:ah Y G h H) (r:aj Y G H w v)
 (p:aA Y G0 H0 (M.gN w d b h) λw _ G' H'=> ∀v,aj Y G' H' w v->aM τ U H0 w v->Q v H'):((rM Y.K v d b H Q\/rb Y.K v d b H Q)\/pM Y.K v d b H Q)\/rl v d b H Q:=by
 unfold M.gN at p
 split at p
 .rename_i z q
  cases r.str q
  split at p
  .rename_i c
   have o:=Qi
   refine .q ⟨_,rfl,by rw [Jd];omega,?_⟩
   have e1:lg (aN z) d b=aN (M.cut z d b):=by
    unfold lg
    rw [Jd,oO]
    simp [aN]
   exact aB.v (aB.mk p e n) j rfl
  .exact p.j
 .split at p
  .rename_i k q
   obtain⟨l,f,rfl,i,g⟩:=r.tup q
   by_cases c:HT.aV f.e 0 d=0/\HT.aV f.e f.e b=f.e
   .have e2:M.cut k d b=k:=by
     rw [oO,g.length,c.1,c.2,List.drop_zero,Nat.sub_zero,←g.length,Ap7]
    rw [e2]at p
    exact .p (.q ⟨l,f,rfl,i.sq,c.1,c.2,p G H e j _ ⟨l,f,rfl,i,g⟩ trivial⟩)
   .exact .p (.p (.q ⟨l,f,rfl,i.sq,c,λa m=>aB.tup (aB.mk p e n) j (g.cut d b) a m⟩))
  .split at p
   .rename_i k q
    obtain⟨l,f,rfl,i,g⟩:=r.lst j q
    exact .p <| .p <| .p ⟨l,f,rfl,i,λa m=>aB.own (aB.mk p e n) j (g.cut d b) a m⟩
   .exact p.j
def IE (K:Ab):V->Y1 Int->Y1 Int->Hp->VK->Prop:=λx lo hi H Q=>((rM K x lo hi H Q\/rb K x lo hi H Q)\/pM K x lo hi H Q)\/rl x lo hi H Q
def ph:gJ X (IE X.K):=((gX.or HQ).or NH).or oB
def LQ (E:Go Y F X k cf){m g:M.E}(r:PE X x (tD Y (M.eval F a))) (D:PE X l (tD Y (M.eval F m))) (q:PE X u (tD Y (M.eval F g))):PE X (.q x (.Slice (k0 l) (k0 u) y0 p2) pos) (tD Y (M.eval F (.sl a m g))):=by
 refine PE.imp (ZU ph r (XQ D) (XQ q)) λU H Q o=> ?_
 obtain⟨G,τ,h,s,p⟩:=o
 refine Xa s.j Ext.refl s p λw1 v1 I O J e1 y f v V w=> ?_
 refine Xa s.j e1 f w λT v2 L R N e2 d e A S p2=> ?_
 obtain⟨i,n,p2⟩:=p2.of
 refine⟨i,A.int n,?_⟩
 refine Xa s.j e2 e p2 λP v3 h3 K Z C b t B W c=> ?_
 obtain⟨j,z,c⟩:=c.of
 exact⟨j,B.int z,E.K▸oU s.j C t.j ((v.ext d f.j).ext b e.j) c⟩
def Cs (t:Go Y F X k cf){d:M.E}(j:PE X x (tD Y (M.eval F a))) (r:PE X l (tD Y (M.eval F d))):PE X (.q x (.Slice (k0 l) y0 y0 p2) pos) (tD Y (M.eval F (.fX a d))):=by
 refine PE.imp (ZU ph j (XQ r) yx) λU H Q g=> ?_
 obtain⟨G,I,h,s,p⟩:=g
 refine Xa s.j Ext.refl s p λE v1 u z v e1 o c m D n=> ?_
 refine Xa s.j e1 c n λC v2 w A y e2 b e q B p2=> ?_
 obtain⟨i,f,p2⟩:=p2.of
 exact⟨i,q.int f,t.K▸oU s.j e2 e.j (m.ext b c.j) p2⟩
def HA (q:Go Y F X k cf)(j:PE X x (tD Y (M.eval F a))) (g:PE X u (tD Y (M.eval F hi))):PE X (.q x (.Slice y0 (k0 u) y0 p2) pos) (tD Y (M.eval F (.gA a hi))):=by
 refine PE.imp (ZU ph j yx (XQ g)) λU H Q f=> ?_
 obtain⟨G,E,h,s,p⟩:=f
 refine Xa s.j Ext.refl s p λD v1 r y t e1 n c l C m=> ?_
 refine Xa s.j e1 c m λB v2 v z w e2 b d o A p2=> ?_
 obtain⟨i,e,p2⟩:=p2.of
 exact⟨i,o.int e,q.K▸oU s.j e2 d.j (l.ext b c.j) p2⟩
noncomputable def Gh.cell (G:Gh) (a:Y5):Gh:= { G with aU:=λr=>if r=G.n then a else G.j r,n:=G.n+1 }
def uk (a):Mon G H (G.cell a) H:=⟨λ_ _ _ z=>z,Ag0 _,λr b=>by show(if r=G.n then a else G.j r)=_;rw [if_neg (by lia)],λ_ z=>z⟩
def XH {a:Y5}{c:M.Cell}(d:ah Y G h H) (n: ¬G.fz a) (m:dU G a) (z:bH Y G H a c):ah Y (G.cell a) (h++ [c]) H where
 len:=by rw [Aa5,d.y];rfl
 any:=λr j q=>by
  show ¬G.fz (if r=G.n then a else G.j r)/\bH Y (G.cell a) H (if r=G.n then a else G.j r) j
  by_cases i:r=G.n
  .rw [if_pos i]
   rw [i,←d.y,Ad6 (Aa8 _),Al2]at q
   cases q
   exact⟨n,z.mon (uk a) λ_ e=>e⟩
  .rw [if_neg i]
   have g:r<G.n:=by
    have:=(Aa1.p q).1
    rw [Aa5,d.y]at this
    simp at this
    omega
   rw [Ac5 (by rw [d.y];exact g)]at q
   exact⟨(d.z r j q).1,(d.z r j q).2.mon (uk a) λ_ e=>e⟩
 inj:=λr s l k e=>by
  have l:r<G.n+1:=l
  have k:s<G.n+1:=k
  have e:(if r=G.n then a else G.j r)=(if s=G.n then a else G.j s):=e
  by_cases f:r=G.n
  .by_cases b:s=G.n
   .omega
   .rw [if_pos f,if_neg b]at e
    exact absurd e.p (m s (by omega))
  .by_cases b:s=G.n
   .rw [if_neg f,if_pos b]at e
    exact absurd e (m r (by omega))
   .rw [if_neg f,if_neg b]at e
    exact d.inj r s (by omega) (by omega) e
 live:=d.j
def X0 {a:Y5}(b:ah Y G h H) (f: ¬G.fz a) (d:dU G a) (e:H a=k0 (.u vs)) (z:aa Y G H xs vs) (c:M.Gc xs=u0):ah Y (G.cell a) (h++ [.lst xs]) H:=XH b f d ⟨c,vs,e,z⟩
def Bx {a:Y5}(b:ah Y G h H) (d: ¬G.fz a) (c:dU G a)(e:H a=k0 (.ins (Y.j c0) dx0 [])):ah Y (G.cell a) (h++ [.obj c0 []]) H:=XH b d c ⟨dx0,[],e,rfl⟩
def wy {a:Y5}(e:Ext G0 H0 G H) (g:H0 a=y0):Ext G0 H0 (G.cell a) H where
 keep:=e.p
 le:=Ab5 e.le (Ag0 _)
 aU:=λr d=>by show(if r=G.n then a else G.j r)=_;rw [if_neg (by have:=e.le;omega)];exact e.aU r d
 new:=λr f b=>by
  have b:r<G.n+1:=b
  show H0 (if r=G.n then a else G.j r)=y0
  by_cases c:r=G.n
  .rw [if_pos c];exact g
  .rw [if_neg c];exact e.new r f (by omega)
 fz:=e.fz
 old:=e.old
 cells:=e.q
def M8:PE X (.Dict [] [] pos) (tD Y (M.eval F .du)):=by
 refine PE.imp HX λU H Q d=> ?_
 obtain⟨G,e,h,s,p⟩:=d
 intro a b
 have p:=p
 have e1:Ext G H G (aF H a (dS [])):=Qr _ b
 have c:=s.j.new (dS []) b
 refine aA.val p (wy e1 b) (XH c (λz=>by obtain⟨o,q⟩:=s.j.j a z;rw [b]at q;cases q) (s.j.gE b) ⟨rfl,[],zb,rfl⟩) ?_ trivial
 show h.e<G.n+1/\V.ref a= .p (if h.e=G.n then a else G.j h.e)
 rw [s.j.y,if_pos rfl]
 exact⟨Ag _,rfl⟩
abbrev dQ (b:Y0 (M.Tx×M.D)) (a:Y0 V):Y0 (Str×V):=(b.j λp=>aN p.1).Z a
def zV (e:M.GV h o=k0 (r,ks)):o=k0 (.v (.p r))/\h[r]? =k0 (.aP ks):=by
 unfold M.GV at e
 split at e
 .split at e
  .rename_i q
   cases e
   exact⟨rfl,q⟩
  .cases e
 .cases e
def zp (s:av Y G τ h U H)(e:M.GV h (M.Gm τ i)=k0 (r,ks)):U[i]? =k0 (k0 (.p (G.j r)))/\M.Gc (ks.j (·.2))=u0/\ ∃j,H (G.j r)=k0 (dS (dQ ks j))/\aa Y G H (ks.j (·.2)) j:=by
 obtain⟨e1,e2⟩:=zV e
 obtain⟨v,b,a⟩:=s.q i _ e1
 obtain⟨d,c⟩:=(a)
 subst c
 exact⟨b,(s.j.z r _ e2).2⟩
def rm (a b):(aN a==aN b)=(a==b):=by
 cases q:a==b with
 | true=>rw [eq_of_beq q];exact beq_self_eq_true _
 | false=>exact beq_eq_false_iff_ne.q λz=>(beq_eq_false_iff_ne.p q) (qC z)
section
variable {G:Gh}{H:Hp}
theorem AX {k:M.Tx}: ∀ {ks}{i},aa Y G H (ks.j (·.2)) i->ks.p k=k0 d-> ∃v,(dQ ks i).p (aN k)=k0 v/\aE Y G H d v
 | [],_,_,e=>by cases e
 | (g,x)::fs,_,z7,e=>by
  obtain⟨v,r,rfl,b,a⟩:=z7
  rw [Ab8]at e
  show ∃w,((aN g,v)::dQ fs r).p (aN k)=k0 w/\_
  rw [Ab8,rm]
  cases q:k==g with
  | true=>rw [q]at e;cases e;exact⟨v,rfl,b⟩
  | false=>rw [q]at e;exact AX a e
theorem rr {k:M.Tx}: ∀ {ks}{i},aa Y G H (ks.j (·.2)) i->((dQ ks i).p (aN k)).q=(ks.p k).q
 | [],_,_=>rfl
 | (g,x)::fs,_,z7=>by
  obtain⟨v,r,rfl,b,a⟩:=z7
  show(((aN g,v)::dQ fs r).p (aN k)).q=_
  rw [Ab8,Ab8,rm]
  cases q:k==g with
  | true=>rfl
  | false=>exact rr a
theorem vJ {k:M.Tx}: ∀ {ks}{i},aa Y G H (ks.j (·.2)) i->((dQ ks i).z λp=>y9 (p.1=aN k))=ks.z λp=>y9 (p.1=k)
 | [],_,_=>rfl
 | (g,x)::fs,_,z7=>by
  obtain⟨v,r,rfl,b,a⟩:=z7
  show(y9 (aN g=aN k)||(dQ fs r).z λp=>y9 (p.1=aN k))=(y9 (g=k)||fs.z λp=>y9 (p.1=k))
  rw [vJ a]
  congr 1
  exact decide_eq_decide.q ⟨qC,congrArg aN⟩
theorem yo {k:M.Tx}(rv:aE Y G H d v): ∀ {ks}{j},aa Y G H (ks.j (·.2)) j-> ∃i,aa Y G H ((ks.j λp=>if p.1=k then(p.1,d)else p).j (·.2)) i/\((dQ ks j).j λp=>if p.1=aN k then(p.1,v)else p)=dQ (ks.j λp=>if p.1=k then(p.1,d)else p) i
 | [],_,rfl=>⟨[],rfl,rfl⟩
 | (g,x)::fs,_,z7=>by
  obtain⟨u,r,rfl,c,e⟩:=z7
  obtain⟨i,a,b⟩:=yo rv e
  by_cases q:g=k
  .refine⟨v::i,?_,?_⟩
   .simp only [Ab2,q,if_true]
    exact⟨v,i,rfl,rv,a⟩
   .show(if aN g=aN k then(aN g,v)else(aN g,u))::(dQ fs r).j _=dQ ((if g=k then(g,d)else(g,x))::fs.j _) (v::i)
    rw [b,if_pos (congrArg aN q),if_pos q]
    rfl
  .have f:=λz=>q (qC z)
   refine⟨u::i,?_,?_⟩
   .simp only [Ab2,q,if_false]
    exact⟨u,i,rfl,c,a⟩
   .show(if aN g=aN k then(aN g,v)else(aN g,u))::(dQ fs r).j _=dQ ((if g=k then(g,d)else(g,x))::fs.j _) (u::i)
    rw [b,if_neg f,if_neg q]
    rfl
theorem WR {k:M.Tx}(rv:aE Y G H d v): ∀ {ks}{i},aa Y G H (ks.j (·.2)) i->aa Y G H ((ks++ [(k,d)]).j (·.2)) (i++ [v])/\dQ ks i++ [(aN k,v)]=dQ (ks++ [(k,d)]) (i++ [v])
 | [],_,rfl=>⟨⟨v,[],rfl,rv,rfl⟩,rfl⟩
 | (g,x)::fs,_,z7=>by obtain⟨u,r,rfl,b,a⟩:=z7;exact ⟨⟨u,_,rfl,b,(WR rv a).1⟩,congrArg ((aN g,u):: ·) (WR rv a).2⟩
def Lf {k:M.Tx}(rv:aE Y G H d v)(z:aa Y G H (ks.j (·.2)) us): ∃i,aa Y G H ((M.GE ks k d).j (·.2)) i/\iF (dQ ks us) (aN k) v=dQ (M.GE ks k d) i:=by
 unfold M.GE iF
 rw [vJ z]
 by_cases c:(ks.z λp=>y9 (p.1=k))=u0
 .rw [if_pos c,if_pos c];exact yo rv z
 .rw [if_neg c,if_neg c];exact⟨_,WR rv z⟩
end
theorem xP: ∀ {ds},M.Gc ds=u0↔ ∀d∈ds,M.Gd d=u0
 | []=>⟨λ_ _ h=>absurd h Ai4,λ_=>rfl⟩
 | d::ds=>by
  rw [Aa0,xP,List.forall_mem_cons]
def Fo {k:M.Tx}(b:M.Gd d=u0)(z:M.Gc (ks.j (·.2))=u0):M.Gc ((M.GE ks k d).j (·.2))=true:=by
 rw [xP]at z ⊢
 unfold M.GE
 split
 .intro y a
  rw [Ae,Ac]at a
  obtain⟨p,c,rfl⟩:=a
  dsimp only [Function.comp]
  split
  .exact b
  .exact z _ (List.mem_map_of_mem c)
 .intro y a
  rw [Af1,Ac9]at a
  obtain a | a:=a
  .exact z y a
  .cases Ac6.p a;exact b
def B7 (z:aa Y G H (ks.j (·.2)) us):(dQ ks us).e=ks.e:=by
 have:=z.length
 rw [Aa]at this
 rw [Al9,Aa];lia
def Ml:R2:=λx y H Q=> ∃k a kvs v,y= .j k/\x= .p a/\H a=k0 (dS kvs)/\kvs.p k=k0 v/\Q v H
def sO:gH X Ml:=by
 rintro b c f o U H x y v u Q I h i ⟨k,a,j,d,m,ex,e,n,q⟩ l
 subst ex m
 cases h
 obtain⟨_,_,_,_,dd⟩:=ky I e
 exact tail_any dd.mapOf.typeIs slot_dict_getitem.p (CV I e i n λp s g r=>⟨_,H,g,r,q⟩) l
def NG (neg:Bool):R2:=λx y H Q=> ∃k a kvs,x= .j k/\y= .p a/\H a=k0 (dS kvs)/\Q (.C (if neg then !(kvs.p k).q else(kvs.p k).q)) H
def vN (neg):b8 X (compareOp (m2 neg)) (NG neg):=by
 rintro e i U H x y v u Q I d f ⟨k,a,j,ex,h,c,q⟩
 subst ex h
 cases f
 cases neg with
 | false=>exact LH I c d λg b=>⟨.C _,H,b,rfl,q⟩
 | true=>exact DO I c d λg b=>⟨.C _,H,b,rfl,q⟩
def M5:V->V->V->Hp->(Hp->Prop)->Prop:=λo i v H Q=> ∃k a kvs,i= .j k/\o= .p a/\H a=k0 (dS kvs)/\kvs.e<sizeLine/\Q (aF H a (dS (iF kvs k v)))
def Dm:oZ X M5:=by
 rintro b l U H o i v n p u Q I d f rv ⟨k,a,m,g,j,e,h,q⟩
 subst g j
 cases d
 exact N6 I e f rv h λr c=>⟨_,c,q⟩
def E1:Y0 V->Hp->VK->Prop:=λb H Q=> ∃a kvs,b= [.p a]/\H a=k0 (dS kvs)/\ ∀p,H p=y0->Q (.p p) (aF H p (dS kvs))
def FU:qv X (.j "dict") E1:=by
 rintro b j U H k l Q I rv ⟨a,h,i,e,q⟩
 subst i
 cases rv with
 | cons f g=>
  cases g
  cases f
  exact IC I e λp m d c=>⟨.p p,_,c,rfl,q p d⟩
def Cg (n:PE X x (tD Y (M.eval F a))):PE X x (tD Y (M.eval F (.a4 a))):=by
 refine PE.imp n λU H Q k=> ?_
 obtain⟨G,D,h,s,p⟩:=k
 refine Xa s.j Ext.refl s p λz v1 c g A e1 t i o w b=> ?_
 cases z with
 | own e=>
  obtain⟨l,C,rfl,m,u,j,q⟩:=o
  obtain⟨B,r,y⟩:=w
  cases r
  have b:aA Y G H (if M.Gc e=u0 then M.ao (.p c.e) (c++ [.lst e])else .q) _:=b
  by_cases f:M.Gc e=u0
  rotate_left
  .rw [if_neg f]at b;exact b.j
  rw [if_pos f]at b
  refine aA.val b (wy e1 y) (X0 i.j m u j q f) ?_ trivial
  show c.e<g.n+1/\V.ref l= .p (if c.e=g.n then l else g.j c.e)
  rw [i.j.y,if_pos rfl]
  exact⟨Ag _,rfl⟩
 | v d=>exact b.j
 | bor e=>exact b.j
end
structure qT (Y:Ge) (J:It) (ds:List M.D) (C:Gh->Hp->Prop):Prop where
 go: ∀i G H,C G H->i<ds.e->J.go i H
 gd: ∀i G H x H',C G H->i<ds.e->J.gd i H x H'-> ∃G',Ext G H G' H'/\(∀ h,ah Y G h H->ah Y G' h H')/\ ∃d,ds[i]? =k0 d/\aE Y G' H' d x
 stop: ∀i G H,C G H->ds.e<=i->i<=ds.e->J.stop i H
 keep: ∀G H G' H' h,C G H->Ext G H G' H'->ah Y G h H->C G' H'
noncomputable def Qo (τ:M.Sl) (U:St) (H:Hp):Hp:=λa=>open Classical in if ∃(i:Nat) (xs:Y0 M.D),M.Gm τ i=k0 (.j xs)/\U[i]? =k0 (k0 (.p a))then y0 else H a
def iz (Y:Ge) (a:Bool) (m:M.Sl->M.AH->M.R (Y0 M.D)):TI:=λU H R=> ∃G τ h,av Y G τ h U H/\aA Y G H (m τ h) λds _ G' H'=> ∀J C,qT Y J ds C->C G' H'->(a=u0->C G' (Qo τ U H'))->R J H'
def PI.imp (h:PI X tg e t) (k: ∀U H R,t' U H R->t U H R):PI X tg e t':=λa s U H R I q=>h a s U H R I (k _ _ _ q)
section
variable {Y:Ge}{F:M.Fx}{X:Cx}{E:XK}{k:Nat}{cf:Cf}{a b c:M.E}{x y z tg:Y4}{pos p2:Pos}{lp:Bool}
def mw (Y:Ge) (G:Gh) (H:Hp) (l:Y5) (vs:Y0 V):Prop:=(Rd H l (.u vs)/\dU G l)\/vk Y l vs
def CL (Y:Ge) (ds:Y0 M.D) (l:Y5) (vs:Y0 V) (G:Gh) (H:Hp):Prop:=mw Y G H l vs/\aa Y G H ds vs
def mw.sq (z:mw Y G H l vs):bA Y.K H l vs:=z.j (λz=> .p z.1) .q
def iW.oj (z:iW Y G H l vs) (a:ah Y G h H):mw Y G H l vs:=z.j (λz=> .p ⟨z.2,a.off z.1⟩) .q
def CL.keep (z:CL Y ds l vs G H) (e:Ext G H G' H') (c:ah Y G h H):CL Y ds l vs G' H':=by
 obtain⟨a,d⟩:=z
 refine⟨?_,d.ext e c⟩
 obtain⟨a,b⟩ | a:=a
 .refine .p ⟨e.rd a b,?_⟩
  obtain a | ⟨o,a⟩:=a
  .exact e.off a b
  .exact e.off a b
 .exact .q a
def CL.walk {K:Ab}(d:K=Y.K):qT Y (lx K l) ds (CL Y ds l vs) where
 go:=by
  rintro i G H ⟨b,c⟩ a
  obtain⟨v,e,_⟩:=c.get (Aa4 a)
  exact⟨vs,v,d▸b.sq,e⟩
 gd:=by
  rintro i G H x g ⟨b,c⟩ a ⟨e,y⟩
  subst e
  obtain⟨v,e,rd⟩:=c.get (Aa4 a)
  have:=y vs (d▸b.sq)
  rw [e]at this
  cases this
  exact⟨G,Ext.refl,λ_ q=>q,_,Aa4 a,rd⟩
 stop:=(by rintro i G H⟨b,c⟩a _;exact ⟨vs,d▸b.sq,by rw [← c.length];exact a⟩)
 keep:=λG H j g h z e f=>z.keep e f
def CT (Y:Ge) (ds:Y0 M.D) (l:Y5) (vs:Y0 V) (G:Gh) (H:Hp):Prop:=fq Y G H l vs/\aa Y G H ds vs
def fq.mon (z:fq Y G H l vs) (e:Mon G H G' H'):fq Y G' H' l vs:=z.j (λz=> .p ⟨e.fz l z.1,e.keep l _ z.1 z.2⟩) λz=> .q z
def CT.walk {K:Ab}(d:K=Y.K):qT Y (lD K l) ds (CT Y ds l vs) where
 go:=by
  rintro i G H ⟨b,c⟩ a
  obtain⟨v,e,_⟩:=c.get (Aa4 a)
  exact⟨vs,v,d▸b.sq,e⟩
 gd:=by
  rintro i G H x g ⟨b,c⟩ a ⟨e,y⟩
  subst e
  obtain⟨v,e,rd⟩:=c.get (Aa4 a)
  have:=y vs (d▸b.sq)
  rw [e]at this
  cases this
  exact⟨G,Ext.refl,λ_ q=>q,_,Aa4 a,rd⟩
 stop:=(by rintro i G H⟨b,c⟩a _;exact ⟨vs,d▸b.sq,by rw [← c.length];exact a⟩)
 keep:=λG H j g h z e f=>⟨z.1.mon (e.mon f),z.2.ext e f⟩
def Cv {b:Int}:qT Y (nz b n) ((Aa7 n).j λ(i:Nat)=>M.D.int (b+(i:Int))) (λ_ _=>True) where
 go:=λi G H _ a=>show i<n by simpa using a
 gd:=λi G H x d _ a c=>by
  obtain⟨e,y⟩:=c
  subst e y
  have a:=by simpa using a
  exact⟨G,Ext.refl,λ_ q=>q,.o (b+i),by simp [a],rfl⟩
 stop:=λi G H _ a _=>show n<=i by simpa using a
 keep:=λ_ _ _ _ _ _ _ _=>trivial
def zm (a: ¬ ∃ i xs,M.Gm τ i=k0 (.j xs)/\U[i]? =k0 (k0 (.p l))):Qo τ U H l=H l:=by
 unfold Qo
 rw [if_neg a]
def Zt (s:av Y G τ h U H)(e:M.Gm τ i=k0 (.j xs)) (k:U[i]? =k0 (k0 (.p l))): ¬G.fz l/\dU G l/\ ∃vs,H l=k0 (.u vs)/\aa Y G H xs vs:=by
 obtain⟨v,b,a,vs,f,c,j,d,g⟩:=s.q i _ e
 rw [k]at b
 cases b
 cases f
 exact⟨c,j,vs,d,g⟩
def qz (s:av Y G τ h U H):Mon G H G (Qo τ U H):=by
 refine⟨λa o z e=> ?_,Aa8 _,λ_ _=>rfl,λ_ z=>z⟩
 rw [zm (by rintro ⟨i,d,c,b⟩;exact (Zt s c b).1 z)]
 exact e
section
open PySem.Calls PySem.W PyProof.Rows
def Lz (K:Ab) (b:TE):TI:=λU H R=>b U H λx H1=>(∃ a,x= .p a/\(∃ xs,bA K H1 a xs)/\R (lx K a) H1)\/ ∃a,x= .p a/\(∃ xs,cQ K H1 a xs)/\R (lD K a) H1
def J9 (u:PE X l tl):PI X tg l (Lz X.K tl):=by
 intro d s U H R I h
 refine aS (u d s U H _ I h) ?_
 rintro v f ⟨x,k,c,m,n⟩
 rcases n with⟨a,e,⟨t,g⟩,q⟩ | ⟨a,e,⟨t,g⟩,q⟩
 .subst e
  cases m
  obtain⟨i,rv,p,r⟩:=c.A g
  refine wpAny_pyIter_list p.G ?_
  refine⟨f.j.j.j,[f.j.j.j],_,_,k,rfl,c.kept λb o e=>Ab1 _ e,Dd a _,⟨_,Ac8 _ rfl,rfl,rfl⟩,λb j=> ?_,q⟩
  have e:=by simpa using j
  subst e
  exact c.dR (Aa8 _) (c.aX.fresh (Aa8 _))
 .subst e
  cases m
  obtain⟨i,rv,p,r⟩:=c.tuple g
  refine wpAny_pyIter_tuple (p) ?_
  refine⟨f.j.j.j,[f.j.j.j],_,_,k,rfl,c.kept λb o e=>Ab1 _ e,MZ a _,⟨_,Ac8 _ rfl,rfl,rfl⟩,λb j=> ?_,q⟩
  have e:=by simpa using j
  subst e
  exact c.dR (Aa8 _) (c.aX.fresh (Aa8 _))
end
def LK (q:Go Y F X k cf) (D:PE X x (tD Y (M.eval F a))):PI X tg x (iz Y k9 (M.Gk F (.seq a))):=by
 refine PI.imp (J9 D) λU H R B=> ?_
 obtain⟨G,K,h,s,p⟩:=B
 refine Xa s.j Ext.refl s p λI v1 A o f e1 E r n L c=> ?_
 have lst: ∀ {e},aA Y G H (.j e A) (λe x y w=> ∀J C,qT Y J e C->C y w->(k9=u0->C y (Qo K U w))->R J w)->(∃ l b,v1= .p l/\mw Y o f l b/\aa Y o f e b) →
  (∃ a,v1= .p a/\(∃ t,bA X.K f a t)/\R (lx X.K a) f)\/ ∃a,v1= .p a/\(∃ t,cQ X.K f a t)/\R (lD X.K a) f:=λ{e} p ⟨l,b,g,i,m⟩=>
  .p ⟨l,g,⟨b,q.K▸i.sq⟩,p o f e1 r.j _ _ (CL.walk q.K) ⟨i,m⟩ λz=>absurd z Ac2⟩
 cases I with
 | v d=>
  cases d with
  | tup e=>
   obtain⟨l,b,rfl,i,j⟩:=n
   exact .q ⟨l,rfl,⟨b,q.K▸i.sq⟩,c o f e1 r.j _ _ (CT.walk q.K) ⟨i,j⟩ λz=>absurd z Ac2⟩
  | lst e=>obtain⟨l,b,g,i,j⟩:=n;exact lst c ⟨l,b,g,i.oj r.j,j⟩
  | ak=>exact c.j
  | bl _=>exact c.j
  | int _=>exact c.j
  | str _=>exact c.j
  | ref _=>exact c.j
  | err _ _ _=>exact c.j
 | own e=>obtain⟨l,b,g,_,j,m,u⟩:=n;exact lst c ⟨l,b,g,.p ⟨.p m,j⟩,u⟩
 | bor e=>obtain⟨l,b,g,j,m,u⟩:=n;exact lst c ⟨l,b,g,.p ⟨m,j⟩,u⟩
def Em (n:Int):((Aa7 n.j).j λ(i:Nat)=>M.D.int (i:Int))=(Aa7 n.j).j λ(i:Nat)=>M.D.int (0+(i:Int)):=by
 congr 1;funext i;rw [Int.zero_add]
def Ni: "range" ∈cv:=by decide
def jI (e:Go Y F X k cf)(o:bV cf.j "range" g=true) (d:Qb x=true) (l:PE X x (tD Y (M.eval F a))):PI X tg (.w g [x] [] pos) (iz Y lp (M.Gk F (.au a))):=by
 obtain⟨p,rfl,r,y⟩:=xc o
 refine PI.imp (B6 (e.gl _ r) (e.blt _ Ni) (zg l zo (jb d)) (jb d)) λU H R i=> ?_
 obtain⟨G,A,h,s,p⟩:=i
 refine Xa s.j Ext.refl s p λz v1 v t f e1 u j m w b=> ?_
 obtain⟨n,q,b⟩:=b.of
 split at b
 .rename_i c
  rw [M.GT]at c
  cases m.int q
  rw [Em]at b
  exact⟨n,rfl,c.1,c.2,b t f e1 j.j _ _ Cv trivial λ_=>trivial⟩
 .exact b.j
end
section
variable {Y:Ge}{F:M.Fx}{X:Cx}{E:XK}{k:Nat}{cf:Cf}
theorem Xl: ∀(τ) (i j) (w),M.Gm (M.Gz τ i w) j=if j=i/\i<τ.e then k0 w else M.Gm τ j
 | [],i,j,w=>by simp
 | x::r,0,0,w=>by simp
 | x::r,0,j+1,w=>by simp
 | x::r,i+1,0,w=>by simp
 | x::r,i+1,j+1,w=>by
  have:=Xl r i j w
  simp only [M.Gz,M.Gm,this,Aa6]
  by_cases h:j=i/\i<r.e
  .rw [if_pos h,if_pos (by omega)]
  .rw [if_neg h,if_neg (by omega)]
theorem Xw: ∀(τ) (i) (w),(M.Gz τ i w).e=τ.e
 | [],_,_=>rfl
 | _::_,0,_=>rfl
 | _::r,i+1,w=>by simp [Xw r i w]
theorem qx: ∀ {τ}{i}{w},M.Gm τ i=k0 w->i<τ.e
 | [],_,_,e=>by simp at e
 | _::_,0,_,_=>by simp
 | _::r,i+1,w,e=>by
  have:=qx (by simpa using e)
  simp;omega
theorem av.set (s:av Y G τ h U H)(r:aj Y G H w v)
 (m:eg w=u0-> ∀ j L,j≠i->M.Gm τ j=k0 L->eg L=u0-> ∀a,v= .p a->U[j]? ≠k0 (k0 (.p a))):av Y G (M.Gz τ i w) h (U.w i (k0 v)) H where
 len:=by rw [Xw,Ad3];exact s.len
 slot:=λj L e=>by
  rw [Xl]at e
  by_cases c:j=i/\i<τ.e
  .rw [if_pos c]at e
   cases e
   obtain⟨rfl,c⟩:=c
   exact⟨v,Ab6 (by rw [← s.len];exact c),r⟩
  .rw [if_neg c]at e
   have y:=λz=>c ⟨z,by subst z;exact qx e⟩
   obtain⟨n,o,u⟩:=s.q j L e
   exact⟨n,by rw [Ad1 (Ne.symm y)];exact o,u⟩
 apart:=λp q x L a b e1 e2 k g=>by
  rw [Xl]at e1 e2
  by_cases f:p=i/\i<τ.e
  .rw [if_pos f]at e1
   cases e1
   obtain⟨rfl,f⟩:=f
   rw [if_neg (λz=>b z.1.p)]at e2
   rw [Ab6 (by rw [← s.len];exact f)]at g
   cases g
   rw [Ad1 b]
   exact m rfl q L (Ne.symm b) e2 k a rfl
  .rw [if_neg f]at e1
   have l:=λz=>f ⟨z,by subst z;exact qx e1⟩
   rw [Ad1 (Ne.symm l)]at g
   by_cases d:q=i/\i<τ.e
   .rw [if_pos d]at e2
    cases e2
    obtain⟨rfl,d⟩:=d
    rw [Ab6 (by rw [← s.len];exact d)]
    intro z
    cases z
    exact m k p _ l e1 rfl a rfl g
   .rw [if_neg d]at e2
    have t:=λz=>d ⟨z,by subst z;exact qx e2⟩
    rw [Ad1 (Ne.symm t)]
    exact s.p p q x L a b e1 e2 k g
 heap:=s.j
def av.dC (s:av Y G τ h U H)(r:aE Y G H d v):av Y G (M.Gz τ i (.v d)) h (U.w i (k0 v)) H:=s.set r λz=>by cases z
noncomputable def ip:Y0 Nat->Y0 V->St->St
 | i::is,v::a,U=>ip is a (U.w i (k0 v))
 | _,_,U=>U
theorem QQ : ∀ {is}{ds}{vs}{τ j}{U},M.ba is ds τ=k0 j->aa Y G H ds vs->av Y G τ h U H->av Y G j h (ip is vs U) H/\is.e=vs.e
 | [],[],_,_,_,_,e,rfl,s=>by cases e;exact⟨s,rfl⟩
 | [],_::_,_,_,_,_,e,_,_=>by simp [M.ba]at e
 | _::_,[],_,_,_,_,e,_,_=>by simp [M.ba]at e
 | i::is,d::ds,_,_,_,_,e,z7,s=>by
  obtain⟨v,r,rfl,f,c⟩:=z7
  obtain⟨b,a⟩:=QQ (by simpa [M.ba]using e) c (s.dC f)
  exact⟨b,congrArg (· +1) a⟩
def gM (Y:Ge) (c:Y0 Nat) (one:Bool):TG:=λv U H Q=>match one with
 | true=> ∃i,c= [i]/\Q (U.w i (k0 v)) H
 | false=> ∃G ds b a,v= .p a/\fq Y G H a b/\aa Y G H ds b/\c.e=b.e/\Q (ip c b U) H
theorem jX (b:Go Y F X k cf): ∀ {is}{es},jv cf is es=u0->mf X es (λvs U H Q=>vs.e=is.e/\Q (ip is vs U) H)
 | [],[],_=>λa s U H vs f Q I r h=>by
  have c:=Ai5 h.1
  subst c
  exact AA a s U H [] f Q I r ⟨rfl,h.2⟩
 | [],_::_,h=>by simp [jv]at h
 | _::_,[],h=>by simp [jv]at h
 | i::is,e::es,h=>by
  cases e with
  | Name x p=>
   simp only [jv,Aa0,decide_eq_true_eq]at h
   obtain⟨⟨g,j⟩,l⟩:=h
   have m:=jX b l
   have c:=b.iJ x j
   have d:=qV (X6 (pos:=p) (by rw [b.N];exact b.nd) (by rw [b.N];exact g) c.1 c.2) m
   intro a s U H vs f Q I r q
   refine d a s U H vs f Q I r ?_
   cases vs with
   | nil=>simp at q
   | cons v vs=>
    refine⟨v,vs,rfl,?_⟩
    exact⟨by simpa using q.1,q.2⟩
  | _=>simp [jv]at h
theorem uN : ∀ {is}{es},jv cf is es=u0->(assignEach es env).e=is.e/\(assignEach es env).findIdx? (·.1)=y0
 | [],[],_=>⟨rfl,rfl⟩
 | [],_::_,h=>by simp [jv]at h
 | _::_,[],h=>by simp [jv]at h
 | i::is,e::es,h=>by
  cases e with
  | Name x p=>
   simp only [jv,Aa0]at h
   obtain⟨b,a⟩:=uN h.2
   have e1:assignEach (.j x p::es) env=(k9,assign (.j x p) env)::assignEach es env:=rfl
   rw [e1]
   refine⟨congrArg (· +1) b,?_⟩
   rw [List.findIdx?_cons]
   simp [a]
  | _=>simp [jv]at h
def Zz (d:Go Y F X k cf)(h:xf cf tg one e=u0):PG X e (gM Y tg one):=by
 cases one with
 | true=>
  cases e with
  | Name x p=>
   simp only [xf,Aa0]at h
   cases tg with
   | nil=>simp at h
   | cons i r=>
    cases r with
    | cons _ _=>simp at h
    | nil=>
     simp only [jv,Aa0,decide_eq_true_eq]at h
     obtain⟨_,⟨m,w⟩,_⟩:=h
     have l:=d.iJ x w
     have c:=X6 (pos:=p) (by rw [d.N];exact d.nd) (by rw [d.N];exact m) l.1 l.2
     intro b s U H v u Q I r q
     obtain⟨j,e,q⟩:=q
     cases e
     exact c b s U H v u Q I r q
  | _=>simp [xf]at h
 | false=>
  cases e with
  | Tuple B n p=>
   have h:=h
   obtain⟨y,f⟩:=uN h
   have c:=tG (k:=n) (pos:=p) d.u (jX d h) y f
   intro b s U H v u Q I r q
   obtain⟨G,z,t,a,rfl,o,A,g,q⟩:=q
   exact c b s U H _ u Q I r ⟨a,t,rfl,d.K▸o.sq,g.p,g.p,q⟩
  | _=>simp [xf]at h
def Zo (k) (l): ∀ i,M.Gm (Aa9 k y0++l) (k+i)=M.Gm l i:=by
 induction k with
 | zero=>intro i;simp
 | succ k a=>intro i;rw [Af0,show k+1+i=(k+i)+1 by lia];exact a i
def Zv (k) (l): ∀ {i},i<k->M.Gm (Aa9 k y0++l) i=none:=by
 induction k with
 | zero=>intro i h;lia
 | succ k a=>
  intro i h
  cases i with
  | zero=>rfl
  | succ i=>rw [Af0];exact a (by lia)
theorem xH: ∀(l) (i),M.Gm l i=(l[i]?).w
 | [],_=>by simp
 | _::_,0=>by simp
 | _::r,i+1=>by simpa using xH r i
def WO (s:av Y G τ h U H)(e:M.Gi τ j=k0 w): ∃v,U[j]? =k0 (k0 v)/\aj Y G H w v/\(eg w=u0-> ∃i,M.Gm τ j=k0 i/\eg i=u0)/\nO w=true:=by
 unfold M.Gi at e
 cases q:M.Gm τ j with
 | none=>rw [q]at e;cases e
 | some i=>
  obtain⟨v,c,b⟩:=s.q j i q
  rw [q]at e
  cases i with
  | v d=>cases e;exact⟨v,c,b,λz=>(by cases z),rfl⟩
  | own g=>cases e;obtain⟨a,f,n,o,k,l,m⟩:=b;exact⟨v,c,⟨a,f,n,k,.p l,m⟩,λ_=>⟨_,rfl,rfl⟩,rfl⟩
  | bor g=>cases e;exact⟨v,c,b,λ_=>⟨_,rfl,rfl⟩,rfl⟩
def gU (k:Nat) (aD:Y0 Nat) (τ:M.Sl):M.Sl:=Aa9 k y0++aD.j λj=>M.Gi τ j
def IV (s:av Y G τ h U H) (kk) (aD)(b:Ub.e=kk+aD.e) (d: ∀i,i<aD.e->Ub[kk+i]? =k0 ((U[aD.C i 0]?).w)):
 av Y G (gU kk aD τ) h Ub H where
 len:=by unfold gU;rw [Aa5,Ae2,Aa,b]
 slot:=λi w e=>by
  unfold gU at e
  by_cases f:i<kk
  .rw [Zv kk _ f]at e;cases e
  .obtain⟨j,rfl⟩: ∃j,i=kk+j:=⟨i-kk,by omega⟩
   rw [Zo,xH,Ac1]at e
   cases q:aD[j]? with
   | none=>rw [q]at e;cases e
   | some c=>
    rw [q]at e
    have e:=e
    obtain⟨v,g,l,_⟩:=WO s e
    have n:=(Aa1.p q).1
    refine⟨v,?_,l⟩
    rw [d j n,Ac7,q]
    show k0 ((U[c]?).w)=_
    rw [g]
    rfl
 apart:=λi j o w a m e1 e2 p r=>by
  exfalso
  unfold gU at e1
  by_cases f:i<kk
  .rw [Zv kk _ f]at e1;cases e1
  .obtain⟨k,rfl⟩: ∃j,i=kk+j:=⟨i-kk,by omega⟩
   rw [Zo,xH,Ac1]at e1
   cases q:aD[k]? with
   | none=>rw [q]at e1;cases e1
   | some c=>
    rw [q]at e1
    have e1:=e1
    obtain⟨_,_,_,_,z⟩:=WO s e1
    cases z
 heap:=s.j
end
theorem zf {env:YJ}{d:NameKind}(g:d≠ .u): ∀ {a:Y0 (Str×NameKind)}{x},a.p x=k0 d →
 (a.j λ(n,k)=>if(k==NameKind.free&&env.j.p== .j&&env.u n==k0 .p)then(n,NameKind.cell)else(n,k)).p x=k0 d
 | [],_,h=>by simp at h
 | (n,k)::r,x,h=>by
  have j:= @zf env d g r x
  rw [Ab2]
  rw [Ab8]at h
  cases c:x==n with
  | true=>
   rw [c]at h
   have e:=by simpa using h
   subst e
   have i:(k==NameKind.free)=false:=by simpa using g
   simp only [i,Ae4,Ak2,if_false,Ab8,c]
  | false=>
   rw [c]at h
   have q:=j h
   by_cases b:(k==NameKind.free&&env.j.p== .j&&env.u n==k0 .p)=u0
   .simp only [b,if_true,Ab8,c]
    exact q
   .have f:=Ak8.q b
    simp only [f,Ak2,if_false,Ab8,c]
    exact q
section
open L2 renaming MS.Ext.trans→L2.MS.Ext.j
variable {Y:Ge}{F:M.Fx}{X:Cx}{E:XK}{k:Nat}{cf:Cf}
structure lj (cf:Cf) (scope:Scope) (N:List Str) (k:Nat) (aD:List Nat):Prop where
 kind:scope.p= .j
 C6:(scope.j.j Prod.fst).B
 names: ∀y∈scope.j,y.2= .local->scope.j.p y.1=k0 .local
 free: ∀y∈scope.j,y.2= .u->cf.j.j.p y.1=k0 .p\/cf.j.j.p y.1=k0 .u
 gW: ∀x∈N.J k,scope.j.p x=k0 .u
 aD:xI cf aD (N.J k)=u0
 le:k<=N.e
 nd:N.B
def JK (h:Z7 cf scope N kk aD=u0):lj cf scope N kk aD:=by
 simp only [Z7,Aa0,decide_eq_true_eq,Ai6]at h
 obtain⟨⟨⟨⟨⟨⟨⟨⟨f,c⟩,j⟩,b⟩,k⟩,i⟩,e⟩,g⟩,l⟩:=h
 exact⟨f,c,λy a=>j y a,λy a=>b y a,λx d=>k x d,i,e,g⟩
theorem xW (a:Go Y F X k cf): ∀ {aD}{xs},xI cf aD xs=u0->cL X aD xs
 | [],[],_=>trivial
 | [],_::_,h=>by simp [xI]at h
 | _::_,[],h=>by simp [xI]at h
 | j::e,x::xs,h=>by
  simp only [xI,Aa0,decide_eq_true_eq]at h
  obtain⟨⟨c,b⟩,d⟩:=h
  exact⟨by rw [a.N];exact c,a.lZ x b,xW a d⟩
def X5 (a:Go Y F X k cf)(h:lj cf scope N kk aD):qZ X scope N kk aD:=
 ⟨h.kind,h.C6,h.names,λy b c=>a.lZ y.1 (h.free y b c),h.gW,xW a h.aD,h.le⟩
def uG (h:qW sc x=u0):sc.j.p x=k0 .local\/sc.j.p x=k0 .p\/sc.j.p x=k0 .u:=by
 unfold qW at h
 split at h
 .rename_i q;exact .p q
 .rename_i q;exact .q (.p q)
 .rename_i q;exact .q (.q q)
 .cases h
def yZ (h:iX sc x=u0):sc.j.p x=k0 .local\/sc.j.p x=k0 .p:=by
 unfold iX at h
 split at h
 .rename_i q;exact .p q
 .rename_i q;exact .q q
 .cases h
def oW (h:ly sc x=u0):sc.j.p x=k0 .globalImplicit:=by
 unfold ly at h
 split at h
 .rename_i q;exact q
 .cases h
def QB (a:Go Y F X k cf)(h:lj cf scope N kk aD) (C:Y5) (g:Y0 Y5) (s:Y3) (H:Hp):Go Y F (ze X N scope C g s H) k { cf with sc:=scope,N:=N } where
 N:=rfl
 K:=a.K
 cl:=a.cl
 ow:=a.ow
 nd:=h.nd
 g8:=λx b=>by
  rcases uG b with q | q | q
  .exact .p (zf (by decide) q)
  .exact .q (.p (zf (by decide) q))
  .exact .q (zk q)
 lR:=λx b=>zf (by decide) b
 iJ:=λx b=>by
  rcases yZ b with q | q
  .exact⟨.p (zf (by decide) q),.q (zf (by decide) q)⟩
  .exact⟨.q (zf (by decide) q),.p (decide_eq_true q)⟩
 lZ:=λx b=>by
  rcases b with q | q
  .exact .p (zf (by decide) q)
  .exact zk q
 gl:=λx b=>zf (by decide) (oW b)
 calm:=a.u
 room:=a.p
 dM:=a.dM
 blt:=a.blt
 con:=a.con
 fn:=λf i=>by
  obtain⟨c,e,m,l,j,n,d⟩:=(a.fn f i).imp λc h=>h.ex
  exact⟨c,⟨e,m,l,j,n,d⟩⟩
 cls:=a.cls
 fld:=a.fld
 kb:=a.kb
 eZ:=a.eZ
theorem td: ∀(is) (vs) (U) (j),j∉is->(ip is vs U)[j]? =U[j]?
 | [],_,_,_,_=>rfl
 | _::_,[],_,_,_=>rfl
 | i::is,v::vs,U,j,h=>by
  show(ip is vs (U.w i (k0 v)))[j]? =U[j]?
  rw [td is vs _ j λz=>h (Aa2 _ z),Ad1 (λz:i=j=>h (by rw [z];exact Aa3))]
theorem zJ: ∀(is) (vs) (U),(ip is vs U).e=U.e
 | [],_,_=>rfl
 | _::_,[],_=>rfl
 | i::is,v::vs,U=>by
  show(ip is vs (U.w i (k0 v))).e=U.e
  rw [zJ is vs,Ad3]
def af (e:M.Gq tg one d τ=k0 τ') (r:aE Y G H d x) (s:av Y G τ h U H)
 (f: ∀L,av Y G τ' h L H->(∀ j,j∉tg->L[j]? =U[j]?)->L.e=U.e->Q L H):gM Y tg one x U H Q:=by
 cases one with
 | true=>
  cases tg with
  | nil=>cases e
  | cons i m=>
   cases m with
   | cons _ _=>cases e
   | nil=>
    cases e
    exact⟨i,rfl,f _ (s.dC r) (λj c=>Ad1 λz=>c (by simp [z])) (Ad3 ..)⟩
 | false=>
  cases d with
  | tup k=>
   obtain⟨a,b,rfl,l,g⟩:=r
   obtain⟨o,n⟩:=QQ (e) g s
   exact⟨G,k,b,a,rfl,l,g,n,f _ o (λj c=>td tg b U j c) (zJ tg b U)⟩
  | _=>cases e
def XW {step:M.D->M.AH->M.R (Y1 M.D)}: ∀ {ds}{h}{d}{h'},M.Gy step ds h≠ .exc d h'
 | [],_,_,_=>λe=>by cases e
 | x::ds,h,d,h'=>λe=>by
  rw [M.Gy]at e
  split at e
  .split at e<;>cases e
  .cases e
def z9 {step:M.D->M.AH->M.R (Y1 M.D)}(e:M.Gy step (x::ds) h= .j ys hf): ∃o h1 r,step x h= .j o h1/\M.Gy step ds h1= .j r hf/\ys=(match o with | some y=>y::r | none=>r):=by
 rw [M.Gy]at e
 split at e
 .rename_i o h1 e1
  split at e
  .rename_i r a e2
   cases e
   exact⟨o,h1,r,e1,e2,rfl⟩
  .cases e
 .cases e
def mx (F:M.Fx) (g:Y0 Nat) (one:Bool) (f:M.Sl) (a:Bool) (c elt:M.E):M.D->M.AH->M.R (Y1 M.D):=λd h=>match M.Gq g one d f with
 | none=> .q
 | some e=>(if a then(M.eval F c e h).p λx h=>M.R.of h (M.G7 h x)else .j u0 h).p λb h=>match b with
  | true=>(M.eval F elt e h).p λy h=>(M.R.of h y.d).p λy h=> .j (k0 y) h
  | false=> .j y0 h
def Mi :M.eval F (.L tg one kk aD it y7 c elt) τ h=(M.Gk F it τ h).p λds h=>
 if ds.e<=M.bp then(M.Gy (mx F tg one (gU kk aD τ) y7 c elt) ds h).p λys h=> .j (.j ys) h else .q:=by
 rw [M.eval];rfl
noncomputable def lO (F:M.Fx) (a:Bool) (c:M.E):M.Sl->M.AH->M.R Bool:=λτ h=>if a then M.Gn F c τ h else .j u0 h
def zi {r:M.R α}(e:r.p f= .j b h): ∃a h1,r= .j a h1/\f a h1= .j b h:=by
 cases r with
 | ok a h1=>exact⟨a,h1,rfl,e⟩
 | exc d h1=>cases e
 | fail=>cases e
def w9 (a:xh iter=u0): ∀v,foldedSetIterable iter env v=pure v:=λv=>by cases iter<;>first | rfl | (simp [xh]at a)
def sT (htk: ∀i∈tg,i<kk)(h0:tD Y (M.eval F (.L tg one kk aD it y7 c elt)) U H Q):
 nY kk aD (iz Y k9 (M.Gk F it)) (λ_ _ _ _=>gM Y tg one) (λ_ _ _ _=>c5 Y (lO F y7 c)) (λ_ _ _ _=>tD Y (M.eval F elt)) U H Q:=by
 obtain⟨G,B,h,s,p⟩:=h0
 rw [Mi]at p
 refine⟨G,B,h,s,?_⟩
 cases qi:M.Gk F it B h with
 | exc d k=>rw [qi]at p;exact p
 | fail=>rw [qi]at p;exact p
 | ok f h1=>
  rw [qi]at p
  intro G1 H1 e1 y J C N c0 _ Ca fp st
  have p:aA Y G H (if f.e<=M.bp then(M.Gy (mx F tg one (gU kk aD B) y7 c elt) f h1).p λys h=> .j (.j ys) h else .q) λw k q l=> ∀v,aj Y q l w v->aM B U H w v->Q v l:=p
  by_cases hL:f.e<=M.bp
  rotate_left
  .rw [if_neg hL]at p;exact p.j
  rw [if_pos hL]at p
  cases W:M.Gy (mx F tg one (gU kk aD B) y7 c elt) f h1 with
  | exc d k=>exact absurd W XW
  | fail=>rw [W]at p;exact p.j
  | ok ys hf=>
   rw [W]at p
   have p:=p
   have hLs:=Qi
   refine⟨λi m yv Ub l=> ∃q k done rest,(m=f.e-i/\i<=f.e/\done.e<=i)/\Ext G1 H1 q l/\ah Y q k l/\C q l/\aa Y q l done yv ∧
    M.Gy (mx F tg one (gU kk aD B) y7 c elt) (f.J i) k= .j rest hf/\ys=done++rest/\Ub.e=kk+aD.e/\ ∀j,j<aD.e->Ub[kk+j]? =k0 ((U[aD.C j 0]?).w),⟨f.e,?_⟩,?_⟩
   .refine⟨G1,h1,[],ys,⟨by simp,Af2 _,Aa8 _⟩,Ext.refl,y,c0,rfl,W,rfl,?_,λj Z=> ?_⟩
    .unfold mR;rw [Aa5,Ae2,Aa]
    .unfold mR
     rw [Ad6 (by simp),Ae2,An1,Ac1,Aa4 Z,Ac7,Aa4 Z]
     rfl
   .rintro i m yv Ub l ⟨q,k,done,rest,⟨rfl,hi',hd⟩,e2,e,L,rd,qg,t,n,A⟩
    have ldone:=rd.length
    by_cases u:i<f.e
    .refine .q ⟨N.go i q l L u,by omega,_,λyv' Ub' V w=>⟨f.e-(i+1),by omega,w⟩,λx V hy=> ?_⟩
     obtain⟨G4,x4,hx4,d,ed,rdx⟩:=N.gd i q l x V L u hy
     have L:=N.keep _ _ _ _ k L x4 e
     have rd:=rd.ext x4 e
     have e2:=e2.j y x4
     have e:=hx4 _ e
     have edr:f.J i=d::f.J (i+1):=by
      rw [Am5 u]
      rw [Aa4 u]at ed
      cases ed
      rfl
     rw [edr]at qg
     obtain⟨o,h2,r,R,T,er⟩:=z9 qg
     unfold mx at R
     cases qb:M.Gq tg one d (gU kk aD B)with
     | none=>rw [qb]at R;cases R
     | some E=>
      rw [qb]at R
      have so:=s.ext (e1.j s.j e2) e
      have sb:=IV so kk aD n A
      refine af qb rdx sb λU2 s2 same O=> ?_
      have g: ∀j,j<aD.e->U2[kk+j]? =k0 ((U[aD.C j 0]?).w):=λj Z=>by
       rw [same _ λz=>by have:=htk _ z;omega];exact A j Z
      obtain⟨b,h3,I,a⟩:=zi (show (lO F y7 c E k).p _=_ from R)
      refine⟨G4,E,k,s2,?_⟩
      rw [I]
      intro G3 H3 S P
      have s3:=s2.ext S P
      cases b with
      | false=>
       refine pz ?_
       have a:=a
       cases a
       exact⟨G3,_,done,r,⟨rfl,by omega,by omega⟩,e2.j y S,P,N.keep _ _ _ _ k L S e,rd.ext S e,T,by rw [t,er],by rw [O];exact n,g⟩
      | true=>
       refine oA ?_
       obtain⟨w,h4,qe,a⟩:=zi (a)
       refine⟨G3,E,h3,s3,?_⟩
       rw [qe]
       intro G4 H4 e4 hr4 v rw' fw
       obtain⟨dd,h5,X,a⟩:=zi (a)
       cases qw:w.d with
       | none=>rw [qw]at X;cases X
       | some d'=>
        rw [qw]at X
        cases X
        cases (a)
        have s4:=s3.ext e4 hr4
        obtain⟨G5,e5,s5,rdv,m5⟩:=oq e4 s4 s3 rw' fw qw
        have K:=S.j e e5
        refine⟨G5,_,done++ [dd],r,⟨rfl,by omega,by rw [Aa5,List.length_singleton];omega⟩,e2.j y K,s5.j,N.keep _ _ _ _ k L K e,(rd.ext K e).append ⟨v,[],rfl,rdv,rfl⟩,T,?_,by rw [O];exact n,g⟩
        rw [t,er]
        simp
    .have ei:i=f.e:=by omega
     subst ei
     rw [List.drop_length]at qg
     cases (qg)
     rw [Ad8]at t
     subst t
     exact .p ⟨N.stop _ q l L (Aa8 _) (Aa8 _),by omega,λD hD=>aB.own (aB.mk p (e1.j s.j e2) s.j) e rd D hD⟩
def CA (f:Go Y F X k cf)(a:lj cf scope N kk aD)
 (g:aD.e=(N.J kk).e) (d:xf { cf with sc:=scope,N:=N } tg one t=u0) (e: ∀i∈tg,i<kk) (b:xh iter=u0)
 (h:PI X t iter (iz Y k9 (M.Gk F it)))
 (m: ∀C fp s H,PE (ze X N scope C fp s H) y (tD Y (M.eval F elt)))
 (l: ∀C fp s H,iu (ze X N scope C fp s H) ifs (c5 Y (lO F y7 c))):
 PE X (.z y [⟨t,iter,ifs,0⟩] scope pos) (tD Y (M.eval F (.L tg one kk aD it y7 c elt))):=
 PE.imp (Cw (X5 f a) h (λC fp s H=>Zz (QB f a C fp s H) d) l m f.u (w9 b)) λU H Q j=>sT e j
def Dx (a:Go Y F X k cf)(m:cf.N[i]? =k0 x) (u:iX cf.j x=u0)(g:swapsWith (.z y [⟨t,iter,ifs,0⟩] scope p0) (k0 (.j x pos2)) pos.p X.j=pure u0) (b:lj cf scope N kk aD)
 (o:aD.e=(N.J kk).e) (f:xf { cf with sc:=scope,N:=N } tg one t=u0) (h: ∀i∈tg,i<kk) (d:xh iter=u0)
 (r:PI X t iter (iz Y k9 (M.Gk F it)))
 (p: ∀C fp s H,PE (ze X N scope C fp s H) y (tD Y (M.eval F elt)))
 (n: ∀C fp s H,iu (ze X N scope C fp s H) ifs (c5 Y (lO F y7 c))):
 PS X (.j [.j x pos2] (.z y [⟨t,iter,ifs,0⟩] scope p0) pos) (iI (tD Y (M.eval F (.L tg one kk aD it y7 c elt))) (wY i)):=by
 have l:=a.iJ x u
 have j:=FP (by rw [a.N];exact a.nd) (by rw [a.N];exact m) l.1 (X5 a b) r (λC fp s H=>Zz (QB a b C fp s H) f) n p g a.u (w9 d) l.2
 exact λe s U H D I q=>j e s U H D I (sT h q)
def ZI (e:M.GF h o=k0 (r,xs)):o=k0 (.v (.p r))/\h[r]? =k0 (.lst xs):=by
 unfold M.GF at e
 split at e
 .split at e
  .rename_i q
   cases e
   exact⟨rfl,q⟩
  .cases e
 .cases e
def BO :qv X (.q "isinstance") (fun xs H Q=> ∃a vs,xs= [.p a,.ty "list"]/\H a=some (.u vs)/\Q (.C true) H):=by
 rintro b s U H xs g Q I r ⟨a,vs,f,rd,q⟩
 subst f
 obtain⟨u,h,rfl,d,e⟩:=oG r
 cases e
 exact qj I d (.lst rd) (WU _) λc=>⟨.C u0,H,I.tok c,rfl,q⟩
def Ll (d:Go Y F X k cf)(w:bV cf.j "isinstance" g=true) (l:bV cf.j "list" y=true) (j:Qb x=true) (u:PE X x (tD Y (M.eval F a))):PE X (.w g [x,y] [] pos) (tD Y (M.eval F (.eg a))):=by
 obtain⟨p,rfl,z,D⟩:=xc w
 obtain⟨q,rfl,r,n⟩:=xc l
 have dF: "list" ∈cv:=by decide
 have bi:=boot_isinstance
 have b: "isinstance" ∈cv:=by decide
 have e:PE X (.j (Zd "list") q) (tC (.ty "list")):=yV (d.gl _ r) (d.blt _ dF) (by decide +kernel) rfl (Jp dF) n
 refine PE.imp (Qm BO (d.gl _ z) (d.blt _ b) bi (zg u (zg e zo) (jb j)) (Jp b) D (jb j) rfl) λU H Q o=> ?_
 obtain⟨G,N,h,s,p⟩:=o
 refine Xa s.j Ext.refl s p λE v1 m K J e1 A f v L c=> ?_
 cases q:M.GF m (k0 E)with
 | none=>rw [q]at c;exact c.j
 | some i=>
  rw [q]at c
  obtain⟨C,I⟩:=ZI q
  cases C
  obtain⟨_,rfl⟩:=(v)
  obtain⟨_,t,B,_⟩:=f.j.cell i.1 i.2 I
  exact⟨_,t,rfl,B,aA.val c e1 f.j rfl trivial⟩
def Jt (b:Go Y F X k cf)(h1:cf.N[i]? =k0 x) (c:qW cf.j x=u0) (a:bg x=u0):PE X (.j x p) (nt i):=by
 unfold bg at a
 rw [Aa0]at a
 exact qy (by rw [b.N];exact h1) (b.g8 x c) (by simpa using a.1) (by simpa using a.2)
def tK: "dict" ∈cv:=by decide
def C3 (v:Go Y F X k cf)(h1:cf.N[i]? =k0 y) (n:qW cf.j y=u0) (u:bg y=u0) (l:PE X x (tD Y (M.eval F a))):PE X (.A x [m2 neg] [.j y j] pos) (tD Y (M.eval F (.cT neg a i))):=by
 refine PE.imp (AJ (vN neg) l (Jt v h1 n u) (Qs rfl)) λU H Q e=> ?_
 obtain⟨G,E,h,s,p⟩:=e
 refine Xa s.j Ext.refl s p λD v1 h1 o w e1 q b m C j=> ?_
 unfold M.cT at j
 split at j
 .rename_i f r A g
  cases m
  obtain⟨c,z,B,t,d⟩:=zp b g
  exact⟨_,c,aN f,_,_,rfl,rfl,t,by rw [rr d];exact j o _ e1 b.j (.C _) rfl trivial⟩
 .exact j.j
def FT (v:Go Y F X k cf)(h1:cf.N[i]? =k0 y) (n:qW cf.j y=u0) (u:bg y=u0) (l:PE X x (tD Y (M.eval F a))):PT X (.A x [m2 neg] [.j y j] pos) (c5 Y (M.Gn F (.cT neg a i))):=by
 refine PT.imp (vC (vN neg) l (Jt v h1 n u) (Qs rfl)) λU H Q e=> ?_
 obtain⟨G,E,h,s,p⟩:=e
 unfold M.Gn at p
 rw [M.eval,Jh]at p
 refine Xa s.j Ext.refl s p λD v1 h1 o w e1 q b m C j=> ?_
 unfold M.cT at j
 split at j
 .rename_i f r A g
  cases m
  obtain⟨c,z,B,t,d⟩:=zp b g
  exact⟨_,c,aN f,_,_,rfl,rfl,t,_,rfl,by rw [rr d];exact j o _ e1 b.j⟩
 .exact j.j
def HY (D:Go Y F X k cf)(h1:cf.N[i]? =k0 y) (w:qW cf.j y=u0) (C:bg y=u0) (I:Xc x=u0) (o:PE X x (tD Y (M.eval F a))):PE X (.q (.j y j) x pos) (tD Y (M.eval F (.fc i a))):=by
 refine PE.imp (ri sO (Jt D h1 w C) o (xR I)) λU H Q l=> ?_
 obtain⟨G,J,h,s,p⟩:=l
 rw [M.eval]at p
 cases q:M.GV h (M.Gm J i)with
 | none=>rw [q]at p;exact p.j
 | some t=>
  obtain⟨L,f⟩:=t
  rw [q]at p
  have sl:=(zp s q).1
  refine⟨_,sl,?_⟩
  refine Xa s.j Ext.refl s p λT v1 h1 P K e1 z e u S j=> ?_
  unfold M.fc at j
  split at j
  .rename_i m r O n
   cases u
   obtain⟨c,N,R,A,g⟩:=zp e n
   have b:=by rw [sl]at c;exact Ad9.inj (Ad9.inj c)
   split at j
   .rename_i d E
    obtain⟨v,B,rv⟩:=AX g E
    exact⟨aN m,_,_,v,rfl,b,A,B,(aB.mk j e1 s.j).v e.j rv⟩
   .exact j.j
  .exact j.j
def Ct (e:Go Y F X k cf)(w:bV cf.j "dict" g=true) (h1:cf.N[i]? =some y) (x:qW cf.j y=true) (B:bg y=true):PE X (.w g [.j y p1] [] pos) (tD Y (M.eval F (.eF i))):=by
 obtain⟨p,rfl,t,j⟩:=xc w
 refine PE.imp (jy FU (e.gl _ t) (e.blt _ tK) (by decide +kernel) (zg (Jt e h1 x B) zo rfl) (Jp tK) j rfl rfl) λU H Q n=> ?_
 obtain⟨G,C,h,s,p⟩:=n
 rw [M.eval]at p
 cases q:M.GV h (M.Gm C i)with
 | none=>rw [q]at p;exact p.j
 | some v=>
  obtain⟨r,f⟩:=v
  rw [q]at p
  obtain⟨l,u,d,A,m⟩:=zp s q
  refine⟨_,l,_,_,rfl,A,λa b=> ?_⟩
  have p:=p
  have e1:Ext G H G (aF H a (dS (dQ f d))):=Qr _ b
  have c:=s.j.new (dS (dQ f d)) b
  refine aA.val p (wy e1 b) (XH c (λz=>by obtain⟨o,q⟩:=s.j.j a z;rw [b]at q;cases q) (s.j.gE b) ⟨u,d,zb,m.ext e1 s.j⟩) ?_ trivial
  show h.e<G.n+1/\V.ref a= .p (if h.e=G.n then a else G.j h.e)
  rw [s.j.y,if_pos rfl]
  exact⟨Ag _,rfl⟩
def Oo (a:M.Ko d=u0) (z:aE Y G H d v):aE Y G' H' d v:=by
 cases d<;>first | exact z | exact absurd a (by simp)
def Cd (e:Ext G H G1 H1) (d:H a=y0):Ext G H G1 (aF H1 a o):=
 ⟨λb u z c=>by rw [Za (λq:b=a=>by rw [q,d]at z;cases z)];exact e.p b u z c,e.le,e.aU,e.new,e.fz,e.old,λr f z=>by
   obtain⟨u,z⟩:=z
   obtain⟨h,g⟩:=e.q r f ⟨u,z⟩
   exact⟨h,by rw [Za (λq:G.j r=a=>by rw [q,d]at z;cases z)];exact g⟩⟩
def KP (d:ah Y G h H) (f: ¬G.fz a) (of:dU G a):ah Y G h (aF H a o):=by
 have mon:Mon G H G (aF H a o):=⟨λb u z q=>by rw [Za (λe:b=a=>f (e▸z))];exact q,Aa8 _,λ_ _=>rfl,λ_ z=>z⟩
 refine⟨d.y,λq c e=>⟨(d.z q c e).1,(d.z q c e).2.mon mon λu z=>by rw [Za (of q (d.lt e))];exact z⟩,d.inj,λb z=> ?_⟩
 obtain⟨u,q⟩:=d.j b z
 exact⟨u,by rw [Za (λe:b=a=>f (e▸z))];exact q⟩
def gZ (G:Gh) (H:Hp) (a:Y5) (o:HO):Prop:=H a=k0 o/\ ¬G.fz a/\dU G a
def gZ.ext (l:gZ G H a o) (e:Ext G H G1 H1):gZ G1 H1 a o:=
 ⟨e.p a o l.1 l.2.2,λz=>(e.old a z).j l.2.1 (λq=>by rw [l.1]at q;cases q),e.off l.1 l.2.2⟩
def Ng {b c a k:M.Tx}(j:aj Y G H w1 v1) (h:aj Y G H w2 v2) (i:aj Y G H w3 v3) (e: [(b,w1),(c,w2),(a,w3)].p k=k0 w): ∃v,[(aN b,v1),(aN c,v2),(aN a,v3)].p (aN k)=k0 v/\aj Y G H w v:=by
 simp [Ab8,List.lookup_nil]at e ⊢
 simp [rm]
 cases f:k==b with
 | true=>rw [f]at e;cases e;exact⟨v1,rfl,j⟩
 | false=>
  rw [f]at e
  cases d:k==c with
  | true=>rw [d]at e;cases e;exact⟨v2,rfl,h⟩
  | false=>
   rw [d]at e
   cases g:k==a with
   | true=>rw [g]at e;cases e;exact⟨v3,rfl,i⟩
   | false=>rw [g]at e;cases e
def CC (V:Go Y F X k cf)(h1:cf.N[i]? =k0 x) (E:qW cf.j x=u0) (D:bg x=u0) (t:kz k1 q1=u0) (w:kz k2 q2=u0) (o:kz k3 q3=u0) (hn: [k1,k2,k3].B)
 (ha:PE X y1 (tD Y (M.eval F a))) (P:PE X y2 (tD Y (M.eval F b))) (W:PE X y3 (tD Y (M.eval F c))):PE X (.q (.Dict [q1,q2,q3] [y1,y2,y3] L) (.j x p2) pos) (tD Y (M.eval F (.gi k1 a k2 b k3 c i))):=by
 obtain⟨j1,o1,rfl⟩:=pX t
 obtain⟨j2,K,rfl⟩:=pX w
 obtain⟨j3,Z,rfl⟩:=pX o
 have ok:mv X [aN k1,aN k2,aN k3] [tD Y (M.eval F a),tD Y (M.eval F b),tD Y (M.eval F c)] [k0 (.u (.j (aN k1)) j1 o1),k0 (.u (.j (aN k2)) j2 K),k0 (.u (.j (aN k3)) j3 Z)] [y1,y2,y3]:=
  ⟨_,_,_,_,_,_,_,rfl,rfl,rfl,ha,_,_,_,_,_,_,_,rfl,rfl,rfl,P,_,_,_,_,_,_,_,rfl,rfl,rfl,W,rfl,rfl,rfl⟩
 refine PE.imp (ri sO (Du ok (by simp) (show 3<=15 by decide) (Ap.map (l:= [k1,k2,k3]) aN (λa b z q=>z (qC q)) hn)) (Jt V h1 E D) (xR rfl)) λU H Q J=> ?_
 obtain⟨G,τ,h,s,p⟩:=J
 rw [M.eval]at p
 intro m e
 have I:Ext G H G (aF H m (dS [])):=Qr _ e
 have O:av Y G τ h U (aF H m (dS [])):=s.ext I (s.j.new _ e)
 have S:gZ G (aF H m (dS [])) m (dS []):=⟨zb,s.j.i7 e,s.j.gE e⟩
 refine Xa s.j I O p λw1 v1 h1 G1 H1 e1 y B r1 f1 L=> ?_
 refine Xa s.j e1 B L λw2 v2 E G2 H2 e2 j r r2 f2 p2=> ?_
 refine Xa s.j e2 r p2 λw3 v3 D G3 H3 e3 g C r3 f3 f=> ?_
 have n:=((S.ext y).ext j).ext g
 refine⟨n.1,?_⟩
 unfold M.gi at f
 split at f
 .rename_i A N
  obtain⟨v,T,rv⟩:=C.q i _ N
  cases (show v= .j (aN A)from rv)
  split at f
  .rename_i d ed
   split at f
   .rename_i R
    obtain⟨u,eu,ru⟩:=Ng ((r1.ext j B.j).ext g r.j) (r2.ext g r.j) r3 ed
    exact⟨_,T,aN A,_,_,u,rfl,rfl,zb,eu,aA.val f (Cd e3 e) (KP C.j n.2.1 n.2.2) (v:=u) (show aE Y G3 _ d u from Oo R ru) trivial⟩
   .exact f.j
  .exact f.j
 .exact f.j
def yf (h:Str.ofString a=Str.ofString b):a=b:=by
 rw [Str.ofString_eq_toList,Str.ofString_eq_toList]at h
 have e:=by
  have:=congrArg (λs:Str=>s.j.p) h
  simpa using this
 have inj: ∀(l m:Y0 Char),l.j Char.toNat=m.j Char.toNat->l=m:=by
  intro l
  induction l with
  | nil=>intro m q;cases m with | nil=>rfl | cons _ _=>cases q
  | cons c l f=>
   intro m q
   cases m with
   | nil=>cases q
   | cons d m=>
    simp [List.cons.injEq]at q
    rw [Char.toNat_inj.p q.1,f m q.2]
 exact String.toList_inj.p (inj _ _ e)
def wK (e:M.G6 h o=k0 (r,c,fs)):o=k0 (.v (.p r))/\h[r]? =k0 (.obj c fs):=by
 unfold M.G6 at e
 split at e
 .split at e
  .rename_i q
   cases e
   exact⟨rfl,q⟩
  .cases e
 .cases e
def sU (s:av Y G τ h U H)(e:M.G6 h (M.Gm τ i)=k0 (r,c,fs)):U[i]? =k0 (k0 (.p (G.j r))):=by
 obtain⟨e1,e2⟩:=wK e
 obtain⟨v,d,b⟩:=s.q i _ e1
 obtain⟨_,a⟩:=(show r<G.n/\v= .p (G.j r)from b)
 rw [d,a]
noncomputable abbrev hV (fs:Y0 (String×M.D)):Y0 Str:=fs.j λp=>Str.ofString p.1
section
variable {G:Gh}{H:Hp}
def Bm (a b):(Zd a==Str.ofString b)=(a==b):=by
 cases q:a==b with
 | true=>rw [eq_of_beq q];exact beq_self_eq_true _
 | false=>exact beq_eq_false_iff_ne.q λz=>(beq_eq_false_iff_ne.p q) (yf z)
theorem sS : ∀ {fs}{i},aa Y G H (fs.j (·.2)) i->fs.p f=k0 d-> ∃v,((hV fs).Z i).p (Zd f)=k0 v/\aE Y G H d v
 | [],_,_,e=>by cases e
 | (g,x)::fs,_,z7,e=>by
  obtain⟨v,r,rfl,b,a⟩:=z7
  rw [Ab8]at e
  show ∃w,(((Str.ofString g),v)::(hV fs).Z r).p (Zd f)=k0 w/\_
  rw [Ab8,Bm]
  cases q:f==g with
  | true=>rw [q]at e;cases e;exact⟨v,rfl,b⟩
  | false=>rw [q]at e;exact sS a e
theorem Z2 : ∀ {fs}{a:Y0 V},fs.p f=y0->((hV fs).Z a).p (Zd f)=y0
 | [],_,_=>rfl
 | (g,x)::fs,[],_=>rfl
 | (g,x)::fs,v::r,e=>by
  rw [Ab8]at e
  show(((Str.ofString g),v)::(hV fs).Z r).p (Zd f)=y0
  rw [Ab8,Bm]
  cases q:f==g with
  | true=>rw [q]at e;cases e
  | false=>rw [q]at e;exact Z2 e
theorem ZR (rv:aE Y G H d v): ∀ {fs}{j},aa Y G H (fs.j (·.2)) j-> ∃i,aa Y G H ((M.a0 f d fs).j (·.2)) i/\L2.a0 (Zd f) v ((hV fs).Z j)=(hV (M.a0 f d fs)).Z i
 | [],_,z=>by cases z;exact⟨[v],⟨v,[],rfl,rv,rfl⟩,rfl⟩
 | (g,x)::fs,_,z7=>by
  obtain⟨u,r,rfl,e,c⟩:=z7
  show ∃i,aa Y G H ((if g=f then(g,d)::fs else(g,x)::M.a0 f d fs).j (·.2)) i/\(if Str.ofString g=Zd f then(Str.ofString g,v)::(hV fs).Z r else(Str.ofString g,u)::L2.a0 (Zd f) v ((hV fs).Z r))=(hV (if g=f then(g,d)::fs else(g,x)::M.a0 f d fs)).Z i
  by_cases q:g=f
  .rw [if_pos q,if_pos (congrArg Str.ofString q)]
   exact⟨v::r,⟨v,r,rfl,rv,c⟩,rfl⟩
  .rw [if_neg q,if_neg λz=>q (yf z)]
   obtain⟨i,a,b⟩:=ZR rv c
   exact⟨u::i,⟨u,i,rfl,e,a⟩,by rw [b];rfl⟩
end
def B5 (e:Ext G H G1 H1) (a:r<G.n):aj Y G1 H1 (.v (.p r)) (.p (G.j r)):=⟨Ab3 a e.le,by rw [e.aU r a]⟩
def DW (b:attributeBase o name env (eval o env)=eval o env) (c:methodCallForm args.e (backTo pos (starEach args env)) (backToKw pos (keywordEach [] env))=u0) (a:(apos.j==pos.p)=u0):
 eval (.w (.p o name apos) args [] pos) env=(do
  let i ←eval o env
  standAt apos.atName
  let (f,first) ←holding [i] (getMethod i name (do return (← importBound o env).getD u0))
  callWith pos f first (backTo pos (starEach args env)) (backToKw pos (keywordEach [] env))):=by
 have e1:methodCallForm (args.e+([]:Y0 Keyword).e) _ _=true:=c
 have e2:methodCallPos u0 o env apos pos=pure pos:=by unfold methodCallPos;simp [a]
 rw [arm_eval_Call,b]
 unfold methodCall
 rw [e1]
 simp only [e2,calleeOf,if_true,pure_bind]
def Hc (h: ∀e∈args,Qb e=u0) (b:args.e<29):methodCallForm args.e (backTo pos (starEach args env)) (backToKw pos (keywordEach [] env))=true:=by
 unfold methodCallForm
 have e1:(backTo pos (starEach args env)).K (λx=> !x.1)=true:=by
  have:=qo (env:=env) (pos:=pos) h
  rw [Ai6]
  intro x a
  rw [Ak7]at this
  simpa using this x a
 rw [e1]
 have e2:(backToKw pos (keywordEach [] env))= []:=rfl
 rw [e2]
 simp
 lia
def By (B:Go Y F X k cf)(hg:bV cf.j c g=u0) (L:cf.ob.eZ.u (c,q0)=u0) (E: ∀e∈y::ys,Qb e=u0) (T:PA X (y::ys) (gf Y (M.Gf F es))):
 PE X (.w g (y::ys) [] pos) (tD Y (M.eval F (.make c q0 es))):=by
 obtain⟨p0,rfl,S,K⟩:=xc hg
 obtain⟨A,fa,fd,ps,mk,u,bd⟩:=B.eZ c q0 L
 refine PE.imp (CI mk u B.dM (B.gl _ S) A bd .p l9 T K (jb (E _ Aa3)) (qo λe Z=>E e (Aa2 _ Z))) λU H Q P=> ?_
 obtain⟨G,τ,h,s,p⟩:=P
 refine jr s.j Ext.refl s p λz R i f m e1 e1' j r1 b=> ?_
 intro a l n J ne
 rw [Ad8]
 have C:aF m l (.own a) a=none:=by rw [Za (Ne.symm ne)];exact n
 have x1:Ext f m f (aF m l (.own a)):=Qr _ J
 have r2:=j.j.new (.own a) J
 have x2:Ext f (aF m l (.own a)) f (aF (aF m l (.own a)) a (.ins (Y.j c) l [])):=Qr _ C
 have r3:=r2.new (.ins (Y.j c) l []) C
 have mG:=j.j.i7 n
 have N:=Bx r3 mG (j.j.gE n) zb
 have D:=wy (x1.j j.j x2) n
 have r:=by
  show i.e<f.n+1/\V.ref a= .p (if i.e=f.n then a else f.j i.e)
  rw [j.j.y,if_pos rfl]
  exact⟨Ag _,rfl⟩
 refine⟨f.cell a,i++ [.obj c []],.v (.p i.e)::z.j M.W.arg,N,⟨.p a,R,rfl,r,bq.ext D j.j (Xt r1)⟩,λw t=> ?_,?_⟩
 .rcases Ab7.p t with rfl | t
  .rfl
  .exact Ws z w t
 .cases o:F.p q0 (.v (.p i.e)::z.j M.W.arg) (i++ [.obj c []])with
  | fail=>rw [o]at b;exact b.j
  | exc d W=>rw [o]at b;exact b.j
  | ok w W=>
   rw [o]at b
   intro O H' q x v rv _
   cases w with
   | own _=>exact b.j
   | bor _=>exact b.j
   | v d=>
    cases d with
    | ak=>
     refine⟨rv,?_⟩
     have b:=b
     have I:=r.1
     exact b O H' ((e1.j s.j D).j s.j q) x (.p a) ⟨Ab3 I q.le,by rw [q.aU _ I];exact r.2⟩ trivial
    | _=>exact b.j
def C8 (l:Go Y F X k cf)(j:cf.ob.fl.u (c,f)=u0) (e:ZT x=u0) (y:PE X x (tD Y (M.eval F a))):PE X (.p x (Zd f) pos) (tD Y (M.eval F (.aL a c f))):=by
 refine PE.imp (F5 y (bG e _)) λU H Q t=> ?_
 obtain⟨G,R,h,s,p⟩:=t
 refine Xa s.j Ext.refl s p λw v m g L e1 C i z P b=> ?_
 cases q:M.G6 m (k0 w)with
 | none=>rw [q]at b;exact b.j
 | some o=>
  obtain⟨r,n,fs⟩:=o
  rw [q]at b
  dsimp only at b
  split at b
  .rename_i e
   subst e
   obtain⟨d,K,b⟩:=b.of
   obtain⟨E,e2⟩:=wK q
   cases E
   obtain⟨_,I⟩:=(show r<g.n/\v= .p (g.j r)from z)
   obtain⟨N,A,O,D,B⟩:=i.j.obj r _ fs e2
   obtain⟨u,J,rv⟩:=sS B K
   exact⟨g.j r,Y.j n,A,_,u,I,D,(l.fld _ _ j).1,(l.fld _ _ j).2,J,aA.val b e1 i.j rv trivial⟩
  .exact b.j
def Iu (A:Go Y F X k cf)(C:cf.ob.mt.u (c,m,q0)=u0) (hl:(apos.j==pos.p)=u0) (z:(y::ys).e<=20) (f:ZT x=u0) (ho:PE X x (tD Y (M.eval F a))) (n: ∀e∈y::ys,Qb e=u0) (K:PA X (y::ys) (gf Y (M.Gf F es))):
 PE X (.w (.p x (Zd m) apos) (y::ys) [] pos) (tD Y (M.eval F (.bS a c m q0 es))):=by
 obtain⟨J,fa,fd,ps,mt,l,R⟩:=A.kb c m q0 C
 refine PE.imp (Fh ho J mt l A.p R .p l9 K (jb (n _ Aa3)) (qo λe L=>n e (Aa2 _ L)) (DW (bG f _) (Hc n (by omega)) hl)) λU H Q E=> ?_
 obtain⟨G,τ,h,s,p⟩:=E
 refine Xa s.j Ext.refl s p λw v D d H1 e1 S t N f1 b=> ?_
 cases q:M.G6 D (k0 w)with
 | none=>rw [q]at b;exact b.j
 | some o=>
  obtain⟨r,c',fs⟩:=o
  rw [q]at b
  dsimp only at b
  split at b
  .rename_i f
   obtain⟨rfl,z⟩:=f
   obtain⟨W,e2⟩:=wK q
   cases W
   obtain⟨g,rfl⟩:=(show r<d.n/\v= .p (d.j r)from N)
   obtain⟨nf,O,us,T,ru⟩:=t.j.obj r _ fs e2
   refine⟨d.j r,O,_,rfl,T,Z2 (Aj5.p z),?_⟩
   refine jr s.j e1 t b λu I P V H2 e2 i B r2 Z=> ?_
   rw [Ad8]
   refine⟨V,P,.v (.p r)::u.j M.W.arg,B.j,⟨.p (d.j r),I,rfl,B5 i g,Xt r2⟩,λw j=> ?_,(aB.mk Z e2 s.j).x⟩
   rcases Ab7.p j with rfl | j
   .rfl
   .exact Ws u w j
  .exact b.j
def Mw (y:Go Y F X k cf)(n:(apos.j==pos.p)=u0) (c:ZT x=u0) (m:PE X x (tD Y (M.eval F a))):
 PE X (.w (.p x (Zd "bit_length") apos) [] [] pos) (tD Y (M.eval F (.fy a))):=by
 refine PE.imp (Ow PySem.F.plainAttrs_int slot_int_bit_length type_int_bit_length IB m (bG c _) n) λU H Q d=> ?_
 obtain⟨G,z,h,s,p⟩:=d
 refine Xa s.j Ext.refl s p λw v o t r e1 j e g u b=> ?_
 obtain⟨i,f,b⟩:=b.of
 cases g.int f
 have l:Builtin.Int.intBits i=M.Kb i:=by
  unfold Builtin.Int.intBits M.Kb
  by_cases q:i=0
  .rw [if_pos q,if_pos (by rw [q];rfl)]
  .rw [if_neg q,if_neg (by simpa using q)]
 refine⟨rfl,i,rfl,rfl,?_⟩
 rw [l]
 exact aA.val b e1 e.j rfl trivial
def DU (b:ah Y G h H) (l:dB H H'):Ext G H G H'/\ah Y G h H':=
 ⟨⟨λa o e _=>l a o e,Aa8 _,λ_ _=>rfl,λr f d=>absurd f (Ao1.q d),λ_ h=>h,λ_ h=> .p h,by rintro r _⟨o,e⟩;exact ⟨o,l _ _ e⟩⟩,
  ⟨b.y,λr c e=>⟨(b.z r c e).1,(b.z r c e).2.mon ⟨λa o _ e=>l a o e,Aa8 _,λ_ _=>rfl,λ_ h=>h⟩ λo e=>l _ _ e⟩,b.inj,λa g=>(b.j a g).imp λo e=>l _ _ e⟩⟩
def fU (key:Int->M.R M.W) (m:Int):Int:=(M.G8 (key m)).getD 0
theorem rq : ∀ {is}{b i},M.GW key b (fU key b) is=k0 i->(∀ m∈is,∃y,M.G8 (key m)=k0 y)/\i=gy (fU key) b is
 | [],b,i,h=>⟨λm a=>absurd a Ai4,(Ad9.inj h).p⟩
 | x::is,b,i,h=>by
  rw [M.GW]at h
  cases q:M.G8 (key x)with
  | none=>rw [q]at h;cases h
  | some y=>
   have e:fU key x=y:=by rw [fU,q];rfl
   rw [q,Af4]at h
   rw [gy,e]
   by_cases c:y<fU key b
   .rw [if_pos c,←e]at h
    rw [if_pos c]
    obtain⟨f,d⟩:=rq h
    exact⟨λm a=>(Ab7.p a).j (λz=>z▸⟨y,q⟩) (f m),d⟩
   .rw [if_neg c]at h
    rw [if_neg c]
    obtain⟨f,d⟩:=rq h
    exact⟨λm a=>(Ab7.p a).j (λz=>z▸⟨y,q⟩) (f m),d⟩
def Cz (h:M.Kh key o=k0 i): ∃n is,o=k0 (n::is)/\(∀ m∈n::is,∃y,M.G8 (key m)=k0 y)/\i=gy (fU key) n is:=by
 match o,h with
 | some (n::is),h=>
  rw [M.Kh]at h
  cases q:M.G8 (key n)with
  | none=>rw [q]at h;cases h
  | some y=>
   have e:fU key n=y:=by rw [fU,q];rfl
   rw [q,Af4,←e]at h
   obtain⟨c,a⟩:=rq h
   exact⟨n,is,rfl,λm b=>(Ab7.p b).j (λz=>z▸⟨y,q⟩) (c m),a⟩
def uJ: "min" ∈cv:=by decide
def Hx (h:M.G8 r=k0 y):r= .j (.v (.o y)) []:=by
 unfold M.G8 at h
 split at h
 .cases h;rfl
 .cases h
def Ic (b:Go Y F X k cf)(d:w.arg=some (Zd "key")) (D:bV cf.j f w.value=true) (V:cf.fns.u f=true) (R:bV cf.j "min" g=true) (hx:Qb x=true) (Z:PE X x (tD Y (M.eval F a))):
 PE X (.w g [x] [w] pos) (tD Y (M.eval F (.fm f a))):=by
 obtain⟨p0,rfl,g2,N⟩:=xc R
 obtain⟨wa,wv,wq⟩:=w
 obtain⟨j,e1,S,f3⟩:=xc D
 have e1:=e1
 have d:=d
 subst e1 d
 obtain⟨ps,fa,fd,z,bd,kp,A⟩:=(b.fn f V).imp λps h=>h.ex
 refine PE.imp (Ea (E:=E0) b.u b.p.hd (b.gl _ g2) (b.blt _ uJ) (by decide +kernel) z b.dM (b.gl _ S) A bd (λC H s e s' hq=>by
  obtain⟨x,C',t,B,L,_,_,_,_,_,_,_,_,_,_,hE⟩:=hq
  exact hE.j) Z (Jp uJ) N f3 (jb hx)) λU H Q O=> ?_
 obtain⟨G,τ,h,s,p⟩:=O
 rw [M.eval]at p
 refine Xa s.j Ext.refl s p λw v h1 G1 H1 e1 e1' K r1 f1 j=> ?_
 obtain⟨i,P,j⟩:=j.of
 obtain⟨n,is,eo,hk,rfl⟩:=Cz P
 obtain⟨xs,ex,I⟩:=Ag6.p eo
 obtain⟨l,vs,rfl,sq,rd⟩:=r1.lst K.j ex
 cases wJ I rd
 refine⟨l,n,is,fU λx=>F.p f [.v (.o x)] [],rfl,b.K▸sq,λm A L _=> ?_,λL le=> ?_⟩
 .obtain⟨y,J⟩:=hk m A
  have ey:fU (λx=>F.p f [.v (.o x)] []) m=y:=by rw [fU,J];rfl
  refine⟨⟨λ_=>False,λ_=>0,0⟩,[],[.v (.o m)],⟨rfl,λr c e=>by simp at e,λr s u=>absurd u (Ag3 _),λa W=>W.j⟩,⟨.o m,[],rfl,rfl,rfl⟩,λw d=>by rw [Ac6.p d];rfl,?_⟩
  rw [Hx J]
  intro G' H' e u v rv _
  have rv:=rv
  exact⟨by rw [rv,ey],λa o q=>e.p a o q λr u=>absurd u (Ag3 _)⟩
 .obtain⟨T,x2⟩:=DU K.j le
  exact aA.val j (e1.j s.j T) x2 rfl trivial
end
def PW.eY (h:PT X (.y op vs pos) t):PW X (.y op vs pos) t:=λb a s U H Q I q=>by
 have:=h a s U H Q I q
 exact this
theorem jE : ∀ {es}{xs}{τ}{h}{ds}{h'},bF cf es xs=u0->M.Gu F es τ h= .j ds h'->ds.e=xs.e
 | .p,xs,_,_,_,_,c,e=>by
  cases Af8.p c
  rw [M.Gu]at e;cases e;rfl
 | .j a es,xs,τ,h,ds,h',c,e=>by
  refine kC (λx r c=> ?_) xs c
  obtain⟨w,f,e1,e⟩:=zi e
  obtain⟨d,g,e2,e⟩:=zi e
  obtain⟨r,i,b,e⟩:=zi e
  cases e
  rw [Aa6,Aa6,jE (a2 c).2 b]
theorem Ze : ∀ {es}{xs},bF cf es xs=u0-> ∀e∈xs,Qb e=u0
 | .p,xs,c=>by
  cases Af8.p c
  intro e b;cases b
 | .j a es,xs,c=>by
  refine kC (λx r c=> ?_) xs c
  intro e b
  rcases Ab7.p b with rfl | b
  .exact(a3 c).1
  .exact Ze (a2 c).2 e b
theorem QJ : ∀ {aD}{xs},xI cf aD xs=u0->aD.e=xs.e
 | [],[],_=>rfl
 | [],_::_,h=>by simp [xI]at h
 | _::_,[],h=>by simp [xI]at h
 | j::a,x::xs,h=>by
  simp only [xI,Aa0]at h
  exact congrArg (· +1) (QJ h.2)
def FK (h:jm e f=u0):xh e=true:=by
 refine qm (λg x l p h=> ?_) e h
 rfl
def QX (h:et cf it e=u0):xh e=true:=by
 cases it with
 | seq a=>exact(a2 h).1
 | au a=>exact FK h
 | enum a=>exact b9 h
 | cA a=>exact b9 h
section
variable {Y:Ge}{F:M.Fx}{k:Nat}
def bo (a:Go Y F X k cf) (r:PE X x (tD Y (M.eval F m))) (b: ∀i,isTrue x X.j i=(do let v ←i;standAt x.pos;holding [v] (truthy v))):PE X x (tD Y (M.eval F m))/\(gu m=u0->PT X x (c5 Y (M.Gn F m))):=⟨r,λ_=>B4 a r b⟩
mutual
theorem Qc: ∀(m:M.E){X:Cx}{cf:Cf}{e:Expr},Go Y F X k cf->wc cf m e=u0->PE X e (tD Y (M.eval F m))/\(gu m=u0->PT X e (c5 Y (M.Gn F m)))
 | .var i,X,cf,e,go,h=>by
  refine Xo (λx p h=> ?_) e h
  obtain⟨h1,h2,h3⟩:=fT h
  exact bo go (KS go h1 h2 h3) λ_=>rfl
 | .con c,X,cf,e,go,h=>by
  have r:=Ha go h
  obtain⟨p,rfl,_,_⟩:=xc h
  exact bo go r λ_=>rfl
 | .int i,X,cf,e,go,h=>by
  refine wF (λx n p h=> ?_) e h
  cases of_decide_eq_true h;exact bo go EH λ_=>rfl
 | .bl i,X,cf,e,go,h=>by
  refine wF (λx n p h=> ?_) e h
  cases of_decide_eq_true h;exact bo go IM λ_=>rfl
 | .ak,X,cf,e,go,h=>by
  refine wF (λx n p h=> ?_) e h
  cases of_decide_eq_true h;exact bo go CK λ_=>rfl
 | .str i,X,cf,e,go,h=>by
  refine wF (λx n p h=> ?_) e h
  cases of_decide_eq_true h;exact bo go MO λ_=>rfl
 | .tup es,X,cf,e,go,h=>by
  refine pd (λx n p h=> ?_) e h
  obtain⟨h1,h2⟩:=a2 h
  exact bo go (DQ (of_decide_eq_true h1) (λτ hh ds h' q=>jE h2 q) (ig es go h2)) λ_=>rfl
 | .lst es,X,cf,e,go,h=>by
  refine Dh (λx p h=> ?_) e h
  obtain⟨h1,h2⟩:=a2 h
  exact bo go (NY (of_decide_eq_true h1) (λτ hh ds h' q=>jE h2 q) (ig es go h2)) λ_=>rfl
 | .bin o a b,X,cf,e,go,h=>by
  refine KR (λx o y p h=> ?_) e h
  obtain⟨h0,ho,h1,h2⟩:=a4 h
  cases of_decide_eq_true h0
  exact bo go (MB go ho (Qc a go h1).1 (Qc b go h2).1) λ_=>rfl
 | .cmp o a b,X,cf,e,go,h=>by
  refine nT (λx o y p h=> ?_) e h
  refine kC (λy r h=> ?_) y h
  obtain⟨h0,ho,hs,h1,h2⟩:=a5 h
  obtain⟨rfl,rfl⟩:=of_decide_eq_true h0
  exact⟨FR go ho hs (Qc a go h1).1 (Qc b go h2).1,λ_=>EO go ho hs (Qc a go h1).1 (Qc b go h2).1⟩
 | .a2 o q a b c,X,cf,e,go,h=>by
  refine nT (λx o y p h=> ?_) e h
  refine kC (λy r h=> ?_) y h
  refine kC (λz r h=> ?_) r h
  obtain⟨h0,ho,hq,hs,h1,h2,h3⟩:=a7 h
  obtain⟨rfl,rfl⟩:=of_decide_eq_true h0
  exact⟨EL go ho hq hs (Qc a go h1).1 (Qc b go h2).1 (Qc c go h3).1,λ_=>Ce go ho hq hs (Qc a go h1).1 (Qc b go h2).1 (Qc c go h3).1⟩
 | .fi neg a,X,cf,e,go,h=>by
  refine nT (λx o y p h=> ?_) e h
  refine kC (λy r h=> ?_) y h
  refine wF (λj n p h=> ?_) y h
  obtain⟨h0,h1,h2⟩:=a3 h
  obtain⟨rfl,rfl⟩:=of_decide_eq_true h0
  cases of_decide_eq_true h1
  exact⟨LI (Qc a go h2).1,λ_=>CP (Qc a go h2).1⟩
 | .neg a,X,cf,e,go,h=>by
  refine ou (λo x p h=> ?_) e h
  cases of_decide_eq_true (a2 h).1
  exact bo go (FE (Qc a go (a2 h).2).1) λ_=>rfl
 | .inv a,X,cf,e,go,h=>by
  refine ou (λo x p h=> ?_) e h
  cases of_decide_eq_true (a2 h).1
  exact bo go (L1 (Qc a go (a2 h).2).1) λ_=>rfl
 | .not a,X,cf,e,go,h=>by
  refine ou (λo x p h=> ?_) e h
  cases of_decide_eq_true (a2 h).1
  exact⟨CO go (Qc a go (a2 h).2).1,λt=>FG ((Qc a go (a2 h).2).2 t)⟩
 | .and a b,X,cf,e,go,h=>by
  refine A6 (λo x p h=> ?_) e h
  refine kC (λx r h=> ?_) x h
  refine kC (λy r h=> ?_) r h
  obtain⟨h0,h1,h2⟩:=a3 h
  cases of_decide_eq_true h0
  cases r with
  | nil=>exact⟨ug go (Qc a go h1).1 (yg (Qc b go h2).1),λt=>(Bb ((Qc a go h1).2 (a2 t).1) (K4 ((Qc b go h2).2 (a2 t).2))).pt⟩
  | cons z r=>exact⟨ug go (Qc a go h1).1 (Qc b go h2).1,λt=>(Bb ((Qc a go h1).2 (a2 t).1) (PW.eY ((Qc b go h2).2 (a2 t).2))).pt⟩
 | .or a b,X,cf,e,go,h=>by
  refine A6 (λo x p h=> ?_) e h
  refine kC (λx r h=> ?_) x h
  refine kC (λy r h=> ?_) r h
  obtain⟨h0,h1,h2⟩:=a3 h
  cases of_decide_eq_true h0
  cases r with
  | nil=>exact⟨tM go (Qc a go h1).1 (yg (Qc b go h2).1),λt=>(tJ ((Qc a go h1).2 (a2 t).1) (IW ((Qc b go h2).2 (a2 t).2))).pt⟩
  | cons z r=>exact⟨tM go (Qc a go h1).1 (Qc b go h2).1,λt=>(tJ ((Qc a go h1).2 (a2 t).1) (PW.eY ((Qc b go h2).2 (a2 t).2))).pt⟩
 | .p f es,X,cf,e,go,h=>by
  refine qm (λg x l p h=> ?_) e h
  refine kE (λh=> ?_) l h
  obtain⟨h1,h2,h3⟩:=a3 h
  cases x with
  | nil=>
   cases es with
   | cons _ _=>exact b9 h3
   | nil=>
    have r:=MC (pos:=p) go h1 h2
    obtain⟨p,rfl,_,_⟩:=xc h1
    exact bo go r λ_=>rfl
  | cons x r=>
   have r:=L8 (pos:=p) go h1 h2 (Ze h3) (dw es go h3)
   obtain⟨p,rfl,_,_⟩:=xc h1
   exact bo go r λ_=>rfl
 | .bi b es,X,cf,e,go,h=>by
  refine qm (λg x l p h=> ?_) e h
  refine kE (λh=> ?_) l h
  refine kC (λx r h=> ?_) x h
  obtain⟨h1,h2,h3⟩:=a3 h
  have r:=BA (pos:=p) go h2 h1 (Ze h3) (dw es go h3)
  obtain⟨p,rfl,_,_⟩:=xc h1
  exact bo go r λ_=>rfl
 | .cu a t,X,cf,e,go,h=>by
  refine qm (λg x l p h=> ?_) e h
  refine kE (λh=> ?_) l h
  refine kC (λx r h=> ?_) x h
  refine kC (λy r h=> ?_) r h
  refine kE (λh=> ?_) r h
  obtain⟨h1,h2,h3,h4,h5⟩:=a5 h
  have r:=Dz (pos:=p) go (of_decide_eq_true h3) h1 h2 h4 (Qc a go h5).1
  obtain⟨p,rfl,_,_⟩:=xc h1
  exact bo go r λ_=>rfl
 | .ix a b,X,cf,e,go,h=>by
  refine gT (λx y p h=> ?_) e h
  obtain⟨h1,h2,h3⟩:=a3 h
  exact bo go (Nc go h1 (Qc a go h2).1 (Qc b go h3).1) λ_=>rfl
 | .sl a lo hi,X,cf,e,go,h=>by
  refine gT (λx y p h=> ?_) e h
  refine rp (λl u z p2 h=> ?_) y h
  refine kS (λl h=> ?_) l h
  refine kS (λu h=> ?_) u h
  obtain⟨h0,h1,h2,h3⟩:=a4 h
  cases nn h0
  exact bo go (LQ go (Qc a go h1).1 (Qc lo go h2).1 (Qc hi go h3).1) λ_=>rfl
 | .fX a lo,X,cf,e,go,h=>by
  refine gT (λx y p h=> ?_) e h
  refine rp (λl u z p2 h=> ?_) y h
  refine kS (λl h=> ?_) l h
  obtain⟨h0,h1,h2,h3⟩:=a4 h
  cases nn h0;cases nn h1
  exact bo go (Cs go (Qc a go h2).1 (Qc lo go h3).1) λ_=>rfl
 | .gA a hi,X,cf,e,go,h=>by
  refine gT (λx y p h=> ?_) e h
  refine rp (λl u z p2 h=> ?_) y h
  refine kS (λu h=> ?_) u h
  obtain⟨h0,h1,h2,h3⟩:=a4 h
  cases nn h0;cases nn h1
  exact bo go (HA go (Qc a go h2).1 (Qc hi go h3).1) λ_=>rfl
 | .eg a,X,cf,e,go,h=>by
  refine qm (λg x l p h=> ?_) e h
  refine kE (λh=> ?_) l h
  refine kC (λx r h=> ?_) x h
  refine kC (λy r h=> ?_) r h
  refine kE (λh=> ?_) r h
  obtain⟨h1,h2,h3,h4⟩:=a4 h
  have r:=Ll (pos:=p) go h1 h2 h3 (Qc a go h4).1
  obtain⟨p,rfl,_,_⟩:=xc h1
  exact bo go r λ_=>rfl
 | .L tg one kk aD it y7 c elt,X,cf,e,go,h=>by
  refine Bo (λy g s p h=> ?_) e h
  refine kC (λg r h=> ?_) g h
  obtain⟨t,iter,ifs,z⟩:=g
  obtain⟨h0,h1,h2,h3,h4,h5,h6⟩:=a7 h
  obtain⟨rfl,rfl⟩:=of_decide_eq_true h0
  simp only [Ai6,decide_eq_true_eq]at h2
  have sc:=JK h1
  have ht: ∀C fp w H,iu (ze X (Qw cf t aD) s C fp w H) ifs (c5 Y (lO F y7 c)):=λC fp w H=>by
   have gc:=QB go sc C fp w H
   cases y7 with
   | true=>
    refine kC (λz r h=> ?_) ifs h6
    refine kE (λh=> ?_) r h
    exact uB ((Qc c gc (a2 h).2).2 (a2 h).1)
   | false=>
    cases Af8.p h6
    intro pins s1 U H1 Q I ⟨G,τ,h,st,p⟩
    exact r9 pins s1 U H1 Q I (p G H1 Ext.refl st.j)
  exact bo go (CA go sc (QJ sc.aD) h3 h2 (QX h4) (mK it go h4) (λC fp s H=>(Qc elt (QB go sc C fp s H) h5).1) ht) λ_=>rfl
 | .du,X,cf,e,go,h=>by
  refine vb (λx y p h=> ?_) e h
  cases Af8.p (a2 h).1
  cases Af8.p (a2 h).2
  exact bo go M8 λ_=>rfl
 | .fc i a,X,cf,e,go,h=>by
  refine gT (λg y p h=> ?_) e h
  refine Xo (λx p1 h=> ?_) g h
  obtain⟨h0,h4,h5⟩:=a3 h
  obtain⟨h1,h2,h3⟩:=fT h0
  exact bo go (HY go h1 h2 h3 h4 (Qc a go h5).1) λ_=>rfl
 | .cT neg a i,X,cf,e,go,h=>by
  refine nT (λx o y p h=> ?_) e h
  refine kC (λy r h=> ?_) y h
  refine Xo (λy p1 h=> ?_) y h
  obtain⟨h0,h1,h4⟩:=a3 h
  obtain⟨rfl,rfl⟩:=of_decide_eq_true h0
  obtain⟨h1,h2,h3⟩:=fT h1
  exact⟨C3 go h1 h2 h3 (Qc a go h4).1,λ_=>FT go h1 h2 h3 (Qc a go h4).1⟩
 | .gi k1 a k2 b k3 c i,X,cf,e,go,h=>by
  refine gT (λd y p h=> ?_) e h
  refine vb (λks vs p0 h=> ?_) d h
  refine Xo (λx p1 h=> ?_) y h
  refine kC (λq1 ks h=> ?_) ks h
  refine kC (λq2 ks h=> ?_) ks h
  refine kC (λq3 ks h=> ?_) ks h
  refine kE (λh=> ?_) ks h
  refine kC (λv1 vs h=> ?_) vs h
  refine kC (λv2 vs h=> ?_) vs h
  refine kC (λv3 vs h=> ?_) vs h
  refine kE (λh=> ?_) vs h
  obtain⟨g1,g2⟩:=a2 h
  obtain⟨h0,h4,h5,h6⟩:=a4 g1
  obtain⟨h7,h8,h9,h10⟩:=a4 g2
  obtain⟨h1,h2,h3⟩:=fT h0
  exact bo go (CC go h1 h2 h3 h4 h5 h6 (of_decide_eq_true h7) (Qc a go h8).1 (Qc b go h9).1 (Qc c go h10).1) λ_=>rfl
 | .eF i,X,cf,e,go,h=>by
  refine qm (λg x l p h=> ?_) e h
  refine kE (λh=> ?_) l h
  refine kC (λx r h=> ?_) x h
  refine kE (λh=> ?_) r h
  obtain⟨h0,h1⟩:=a2 h
  refine Xo (λx p1 h=> ?_) x h1
  obtain⟨h1,h2,h3⟩:=fT h
  exact bo go (Ct go h0 h1 h2 h3) λ_=>rfl
 | .a4 a,X,cf,e,go,h=>⟨Cg (Qc a go h).1,λt=>b9 t⟩
 | .cg a,X,cf,e,go,h=>by
  refine qm (λg x l p h=> ?_) e h
  refine kE (λh=> ?_) l h
  refine kC (λx r h=> ?_) x h
  refine kE (λh=> ?_) r h
  refine qm (λg2 x l p2 h=> ?_) x h
  refine kE (λh=> ?_) l h
  refine kC (λx r h=> ?_) x h
  refine kE (λh=> ?_) r h
  obtain⟨h1,h2,h3,h4⟩:=a4 h
  exact bo go (DN go h1 h2 h3 (Qc a go h4).1) λ_=>rfl
 | .ef s ts,X,cf,e,go,h=>by
  refine qm (λg x l p h=> ?_) e h
  refine kE (λh=> ?_) l h
  refine kC (λx r h=> ?_) x h
  refine kE (λh=> ?_) r h
  refine XL (λo n q h=> ?_) g h
  refine wF (λc k1 p1 h=> ?_) o h
  refine wF (λc2 k2 p2 h=> ?_) x h
  obtain⟨h1,h2,h3,h4,h5⟩:=a5 h
  cases of_decide_eq_true h1
  cases of_decide_eq_true h2
  cases of_decide_eq_true h3
  exact bo go (Ms go h4 h5) λ_=>rfl
 | .make c q es,X,cf,e,go,h=>by
  refine qm (λg x l p h=> ?_) e h
  refine kE (λh=> ?_) l h
  refine kC (λx r h=> ?_) x h
  obtain⟨h1,h2,h3⟩:=a3 h
  exact bo go (By go h1 h2 (Ze h3) (dw es go h3)) λ_=>rfl
 | .aL a c f,X,cf,e,go,h=>by
  refine XL (λx n q h=> ?_) e h
  obtain⟨h0,h1,h2,h3⟩:=a4 h
  cases of_decide_eq_true h0
  exact bo go (C8 go h1 h2 (Qc a go h3).1) λ_=>rfl
 | .bS a c m q es,X,cf,e,go,h=>by
  refine qm (λg ys l p h=> ?_) e h
  refine kE (λh=> ?_) l h
  refine XL (λx n p2 h=> ?_) g h
  obtain⟨h0,h1,h2,h3,h4,h5,h6⟩:=a7 h
  cases of_decide_eq_true h0
  revert h3
  refine kC (λy ys h6 h3=> ?_) ys h6
  exact bo go (Iu go h1 h2 (of_decide_eq_true h3) h4 (Qc a go h5).1 (Ze h6) (dw es go h6)) λ_=>rfl
 | .fy a,X,cf,e,go,h=>by
  refine qm (λg ys l p h=> ?_) e h
  refine kE (λh=> ?_) l h
  refine kE (λh=> ?_) ys h
  refine XL (λx n p2 h=> ?_) g h
  obtain⟨h0,h1,h2,h3⟩:=a4 h
  cases of_decide_eq_true h0
  exact bo go (Mw go h1 h2 (Qc a go h3).1) λ_=>rfl
 | .fm f a,X,cf,e,go,h=>by
  refine qm (λg ys l p h=> ?_) e h
  refine kC (λx r h=> ?_) ys h
  refine kE (λh=> ?_) r h
  refine kC (λw r h=> ?_) l h
  refine kE (λh=> ?_) r h
  obtain⟨h0,h1,h2,h3,h4,h5⟩:=a6 h
  exact bo go (Ic go (of_decide_eq_true h0) h1 h2 h3 h4 (Qc a go h5).1) λ_=>rfl
 | .d5 m a es,X,cf,e,go,h=>by
  refine qm (λg x l p h=> ?_) e h
  refine kE (λh=> ?_) l h
  refine kC (λx r h=> ?_) x h
  refine kE (λh=> ?_) r h
  refine XL (λo n q h=> ?_) g h
  obtain⟨h1,h2,h3,h4,h5,h6⟩:=a6 h
  cases of_decide_eq_true h1
  exact bo go (ET go h2 h3 h4 (Ze h6 _ Aa3) (Qc a go h5).1 (dw es go h6)) λ_=>rfl
theorem ig: ∀(es:M.Es){X:Cx}{cf:Cf}{xs:List Expr},Go Y F X k cf->bF cf es xs=u0->PA X xs (kf Y (M.Gu F es))
 | .p,X,cf,xs,go,h=>by
  cases Af8.p h
  exact Mh
 | .j a es,X,cf,xs,go,h=>by
  refine kC (λx r h=> ?_) xs h
  obtain⟨h1,h2,h3⟩:=a3 h
  exact MR h1 (Qc a go h2).1 (ig es go h3)
theorem dw: ∀(es:M.Es){X:Cx}{cf:Cf}{xs:List Expr},Go Y F X k cf->bF cf es xs=u0->PA X xs (gf Y (M.Gf F es))
 | .p,X,cf,xs,go,h=>by
  cases Af8.p h
  exact Hu
 | .j a es,X,cf,xs,go,h=>by
  refine kC (λx r h=> ?_) xs h
  obtain⟨h1,h2,h3⟩:=a3 h
  exact HS h1 (Qc a go h2).1 (dw es go h3)
theorem mK: ∀(it:M.It){X:Cx}{cf:Cf}{tg e:Expr},Go Y F X k cf->et cf it e=u0->PI X tg e (iz Y k9 (M.Gk F it))
 | .seq a,X,cf,tg,e,go,h=>LK go (Qc a go (a2 h).2).1
 | .au a,X,cf,tg,e,go,h=>by
  refine qm (λg x l p h=> ?_) e h
  refine kE (λh=> ?_) l h
  refine kC (λx r h=> ?_) x h
  refine kE (λh=> ?_) r h
  obtain⟨h1,h2,h3⟩:=a3 h
  exact jI go h1 h2 (Qc a go h3).1
 | .enum a,X,cf,tg,e,go,h=>b9 h
 | .cA a,X,cf,tg,e,go,h=>b9 h
end
end
structure Bs where
 G:Gh
 H:Hp
 h:M.AH
structure bu (Y:Ge) (B:Bs) (G:Gh) (τ:M.Sl) (h:M.AH) (U:St) (H:Hp):Prop where
 st:av Y G τ h U H
 ext:Ext B.G B.H G H
 hr:ah Y B.G B.h B.H
 own: ∀i xs a,M.Gm τ i=k0 (.j xs)->U[i]? =k0 (k0 (.p a))->B.H a=y0
open L2 renaming MS.bu.own→L2.MS.bu.j,MS.bu.ext→L2.MS.bu.I,MS.bu.st→L2.MS.bu.p
def Jq (Y:Ge) (E:XK) (B:Bs) (o:M.O) (D:kN):Prop:=match o with
 | .p τ h=> ∀G U H,bu Y B G τ h U H->D.nx U H
 | .ret w h=> ∀G v H,Ext B.G B.H G H->ah Y G h H->aj Y G H w v->aM [] [] B.H w v->D.rt v H
 | .brk τ h=> ∀G U H,bu Y B G τ h U H->D.bk U H
 | .cont τ h=> ∀G U H,bu Y B G τ h U H->D.ct U H
 | .exc d h=> ∀G H,Ext B.G B.H G H->ah Y G h H->u7 Y E d G H
 | .q=>False
def cI (Y:Ge) (E:XK) (m:M.Sl->M.AH->M.O):TS:=λD U H=> ∃B G τ h,bu Y B G τ h U H/\Jq Y E B (m τ h) D
def PS.imp {st:Y7}(h:PS X st t) (k: ∀D U H,t' D U H->t D U H):PS X st t':=λa s U H D I q=>h a s U H D I (k _ _ _ q)
def dr.imp {st:Y0 Y7}(h:dr X st t) (k: ∀D U H,t' D U H->t D U H):dr X st t':=λa s U H D I q=>h a s U H D I (k _ _ _ q)
section
variable {Y:Ge}{E:XK}{B:Bs}{G G1:Gh}{τ:M.Sl}{h h1:M.AH}{U:St}{H H1:Hp}{D:kN}
def bu.on (s:bu Y B G τ h U H) (e:Ext G H G1 H1) (a:ah Y G1 h1 H1):bu Y B G1 τ h1 U H1:=⟨s.p.ext e a,s.I.trans s.hr e,s.hr,s.j⟩
def Jc (s:bu Y B G τ h U H) (p:Jq Y E B ((m τ h).cH f) D)
 (k: ∀w v h1 G1 H1,Ext G H G1 H1->bu Y B G1 τ h1 U H1->aj Y G1 H1 w v->aM τ U H w v->Jq Y E B (f w h1) D->Q v H1):tD Y m U H Q:=by
 refine⟨G,τ,h,s.p,?_⟩
 cases q:m τ h with
 | ok w h1=>rw [q]at p;exact λG1 H1 e a v c b=>k w v h1 G1 H1 e (s.on e a) c b p
 | exc d h1=>rw [q]at p;exact p.j
 | fail=>rw [q]at p;exact p
def yb (s:bu Y B G τ h U H) (p:Jq Y E B ((m τ h).cH f) D)
 (k: ∀b h1 G1 H1,Ext G H G1 H1->bu Y B G1 τ h1 U H1->Jq Y E B (f b h1) D->Q b H1):c5 Y m U H Q:=by
 refine⟨G,τ,h,s.p,?_⟩
 cases q:m τ h with
 | ok w h1=>rw [q]at p;exact λG1 H1 e a=>k w h1 G1 H1 e (s.on e a) p
 | exc d h1=>rw [q]at p;exact p.j
 | fail=>rw [q]at p;exact p
theorem bu.set (g:bu Y B G τ h U H) (e:Ext G H G1 H1) (s:bu Y B G1 τ h1 U H1) (r:aj Y G1 H1 w v) (f:aM τ U H w v) (t: ∀xs,w≠ .p xs):bu Y B G1 (M.Gz τ i w) h1 (U.w i (k0 v)) H1:=by
 refine⟨s.p.set r λu j x n e1 m a q z=> ?_,s.I,s.hr,λj xs a e1 e2=> ?_⟩
 .cases w with
  | v d=>cases u
  | bor xs=>exact t xs rfl
  | own xs=>
   obtain⟨b,k,l⟩:=f
   subst q
   cases k
   obtain⟨o,p⟩:=g.p.cV e1 m z
   rw [l]at p;cases p
 .rw [Xl]at e1
  by_cases c:j=i/\i<τ.e
  .rw [if_pos c]at e1
   cases e1
   obtain⟨rfl,c⟩:=c
   rw [Ab6 (by rw [← s.p.len];exact c)]at e2
   cases e2
   obtain⟨b,k,l⟩:=f
   cases k
   exact g.I.none g.hr l
  .rw [if_neg c]at e1
   have n:=λz=>c ⟨z,by subst z;exact qx e1⟩
   rw [Ad1 (Ne.symm n)]at e2
   exact s.j j xs a e1 e2
def bu.fz (a:bu Y B G τ h U H) (e:Ext G H G1 H1) (s:bu Y B G1 τ h1 U H1) (r:aj Y G1 H1 w v) (f:aM τ U H w v) (c:w.d=k0 d): ∃G2,Ext G H G2 H1/\bu Y B G2 τ h1 U H1/\aE Y G2 H1 d v:=by
 obtain⟨G2,e2,b,rd,_⟩:=oq e s.p a.p r f c
 exact⟨G2,e2,⟨b,a.I.trans a.hr e2,s.hr,s.j⟩,rd⟩
def bu.dC (s:bu Y B G τ h U H) (r:aE Y G H d v):bu Y B G (M.Gz τ i (.v d)) h (U.w i (k0 v)) H:=bu.set s Ext.refl s r trivial λa z=>by cases z
theorem bu.ba: ∀ {is}{ds}{vs}{τ j}{U},M.ba is ds τ=k0 j->aa Y G H ds vs->bu Y B G τ h U H->bu Y B G j h (ip is vs U) H/\is.e=vs.e
 | [],[],_,_,_,_,e,rfl,s=>by cases e;exact⟨s,rfl⟩
 | [],_::_,_,_,_,_,e,_,_=>by simp [M.ba]at e
 | _::_,[],_,_,_,_,e,_,_=>by simp [M.ba]at e
 | i::is,d::ds,_,_,_,_,e,z7,s=>by
  obtain⟨v,r,rfl,f,c⟩:=z7
  obtain⟨b,a⟩:=bu.ba (by simpa [M.ba]using e) c (s.dC f)
  exact⟨b,congrArg (· +1) a⟩
def AG (e:M.Gq tg one d τ=k0 τ') (r:aE Y G H d x) (s:bu Y B G τ h U H) (c: ∀j,bu Y B G τ' h j H->Q j H):gM Y tg one x U H Q:=by
 cases one with
 | true=>
  cases tg with
  | nil=>cases e
  | cons i g=>
   cases g with
   | cons _ _=>cases e
   | nil=>
    cases e
    exact⟨i,rfl,c _ (s.dC r)⟩
 | false=>
  cases d with
  | tup l=>
   obtain⟨a,f,rfl,k,b⟩:=r
   obtain⟨n,m⟩:=bu.ba (e) b s
   exact⟨G,l,f,a,rfl,k,b,m,c _ n⟩
  | _=>cases e
def bu.write (s:bu Y B G τ h U H) (l:M.Gm τ i=k0 (.j xs)) (n:U[i]? =k0 (k0 (.p a))) (r:aa Y G H ys us):bu Y B G (M.Gz τ i (.j ys)) h U (aF H a (.u us)):=by
 obtain⟨E,of,Z,ha,_⟩:=Zt s.p l n
 have P:=s.j i xs a l n
 have mon:Mon G H G (aF H a (.u us)):=⟨λb o z q=>by rw [Za (λe:b=a=>E (e▸z))];exact q,Aa8 _,λ_ _=>rfl,λ_ z=>z⟩
 have R:=qx l
 have J:ah Y G h (aF H a (.u us)):=by
  refine⟨s.p.j.y,λq c e=>⟨(s.p.j.z q c e).1,(s.p.j.z q c e).2.mon mon λo z=>by rw [Za (of q (s.p.j.lt e))];exact z⟩,s.p.j.inj,λb z=> ?_⟩
  obtain⟨o,q⟩:=s.p.j.j b z
  exact⟨o,by rw [Za (λe:b=a=>E (e▸z))];exact q⟩
 refine⟨⟨by rw [Xw];exact s.p.len,λj w e=> ?_,λp q C w b L g f X V=> ?_,J⟩,⟨λb o q F=> ?_,s.I.le,s.I.aU,s.I.new,s.I.fz,s.I.old,λq y z=> ?_⟩,s.hr,λj C b g f=> ?_⟩
 .rw [Xl]at e
  by_cases c:j=i/\i<τ.e
  .rw [if_pos c]at e
   cases e
   obtain⟨rfl,_⟩:=c
   exact⟨.p a,n,a,us,rfl,E,of,zb,r.mon mon⟩
  .rw [if_neg c]at e
   have Q:=λz=>c ⟨z,by subst z;exact qx e⟩
   obtain⟨v,x,A⟩:=s.p.q j w e
   refine⟨v,x,?_⟩
   cases w with
   | v d=>exact aE.mon mon A
   | own W=>
    obtain⟨b,bs,rfl,S,I,k,D⟩:=A
    have t:b≠a:=λz=>s.p.p i j xs _ a (Ne.symm Q) l e rfl n (z▸x)
    exact⟨b,bs,rfl,S,I,by rw [Za t];exact k,D.mon mon⟩
   | bor W=>
    obtain⟨b,bs,rfl,I,k,D⟩:=A
    have t:b≠a:=λz=>s.p.p i j xs _ a (Ne.symm Q) l e rfl n (z▸x)
    refine⟨b,bs,rfl,I,?_,D.mon mon⟩
    obtain k | ⟨o,k⟩:=k
    .exact .p (by rw [Za t];exact k)
    .exact .q ⟨o,by rw [Za t];exact k⟩
 .rw [Xl]at g f
  have N: ∃m,M.Gm τ p=k0 (.j m):=by
   by_cases c:p=i/\i<τ.e
   .exact⟨xs,by rw [c.1];exact l⟩
   .rw [if_neg c]at g;exact⟨C,g⟩
  have K: ∃u,M.Gm τ q=k0 u/\eg u=true:=by
   by_cases c:q=i/\i<τ.e
   .exact⟨.j xs,by rw [c.1];exact l,rfl⟩
   .rw [if_neg c]at f;exact⟨w,f,X⟩
  obtain⟨m,N⟩:=N
  obtain⟨u,K,O⟩:=K
  exact s.p.p p q m u b L N K O V
 .rw [Za (λe:b=a=>by rw [e,P]at q;cases q)]
  exact s.I.p b o q F
 .obtain⟨o,T⟩:=s.I.q q y z
  have:B.G.j q≠a:=λe=>by
   have:=of q (Ab3 y s.I.le)
   rw [s.I.aU q y]at this
   exact this e
  exact⟨o,by rw [Za this];exact T⟩
 .rw [Xl]at g
  by_cases c:j=i/\i<τ.e
  .obtain⟨rfl,_⟩:=c
   rw [n]at f
   cases f
   exact P
  .rw [if_neg c]at g;exact s.j j C b g f
theorem xD: ∀(xs) (n){d},M.Gc xs=u0->M.Gd d=u0->M.Gc (xs.w n d)=u0
 | [],_,_,_,_=>rfl
 | x::xs,0,d,h,a=>by
  have h:=h
  rw [Aa0]at h
  show(M.Gd d&&M.Gc xs)=u0
  rw [a,h.2];rfl
 | x::xs,n+1,d,h,a=>by
  have h:=h
  rw [Aa0]at h
  show(M.Gd x&&M.Gc (xs.w n d))=u0
  rw [h.1,xD xs n h.2 a];rfl
def bu.gm (s:bu Y B G τ h U H) (p:h[r]? =k0 c0) (z:bH Y G (aF H (G.j r) o1) (G.j r) c1):bu Y B G τ (h.w r c1) U (aF H (G.j r) o1):=by
 have E:=(Aa1.p p).1
 have f:=s.p.j.lt p
 have m:=s.p.j.mG f
 have mon:Mon G H G (aF H _ o1):=⟨λb o w q=>by rw [Za (λe:b=G.j r=>m (e▸w))];exact q,Aa8 _,λ_ _=>rfl,λ_ w=>w⟩
 have n:ah Y G (h.w r c1) (aF H (G.j r) o1):=by
  refine⟨by rw [Ad3];exact s.p.j.y,λq c e=> ?_,s.p.j.inj,λb w=> ?_⟩
  .by_cases c:q=r
   .subst c
    rw [Ab6 E]at e
    cases e
    exact⟨m,z⟩
   .rw [Ad1 (Ne.symm c)]at e
    exact⟨(s.p.j.z q _ e).1,(s.p.j.z q _ e).2.mon mon λo w=>by rw [Za λt=>c (s.p.j.inj q r (s.p.j.lt e) f t)];exact w⟩
  .obtain⟨o,q⟩:=s.p.j.j b w
   exact⟨o,by rw [Za (λe:b=G.j r=>m (e▸w))];exact q⟩
 refine⟨⟨s.p.len,λj w e=> ?_,s.p.p,n⟩,⟨λb o q i=> ?_,s.I.le,s.I.aU,s.I.new,s.I.fz,s.I.old,λq x w=> ?_⟩,s.hr,s.j⟩
 .obtain⟨v,u,k⟩:=s.p.q j w e
  refine⟨v,u,?_⟩
  cases w with
  | v d=>exact aE.mon mon k
  | own C=>
   obtain⟨b,bs,rfl,y,g,a,l⟩:=k
   exact⟨b,bs,rfl,y,g,by rw [Za (Ne.symm (g r f))];exact a,l.mon mon⟩
  | bor C=>
   obtain⟨b,bs,rfl,g,a,l⟩:=k
   refine⟨b,bs,rfl,g,?_,l.mon mon⟩
   obtain a | ⟨o,a⟩:=a
   .exact .p (by rw [Za (Ne.symm (g r f))];exact a)
   .exact .q ⟨o,by rw [Za (Ne.symm (g r f))];exact a⟩
 .have A:b≠G.j r:=λe=>by
   by_cases c:r<B.G.n
   .exact i r c (by rw [← s.I.aU r c];exact e.p)
   .have:=s.I.new r (Nat.not_lt.p c) f
    rw [← e,q]at this
    cases this
  rw [Za A]
  exact s.I.p b o q i
 .by_cases c:B.G.j q=G.j r
  .exact⟨_,by rw [c];exact zb⟩
  .obtain⟨o,D⟩:=s.I.q q x w
   exact⟨o,by rw [Za c];exact D⟩
def QT (a:ah Y G h H) (c:r<G.n) (o):Mon G H G (aF H (G.j r) o):=⟨λb o w q=>by rw [Za (λe:b=G.j r=>a.mG c (e▸w))];exact q,Aa8 _,λ_ _=>rfl,λ_ w=>w⟩
def bu.cell (s:bu Y B G τ h U H) (a:h[r]? =k0 (.lst xs)) (b:M.Gc ys=u0) (z:aa Y G H ys us):bu Y B G τ (h.w r (.lst ys)) U (aF H (G.j r) (.u us)):=
 s.gm a ⟨b,us,zb,z.mon (QT s.p.j (s.p.j.lt a) _)⟩
def bu.iP (s:bu Y B G τ h U H) (a:h[r]? =k0 (.obj c0 xs)) (z:aa Y G H (ys.j (·.2)) us):bu Y B G τ (h.w r (.obj c0 ys)) U (aF H (G.j r) (.ins (Y.j c0) dx0 ((ys.j λp=>Str.ofString p.1).Z us))):=
 s.gm a ⟨dx0,us,zb,z.mon (QT s.p.j (s.p.j.lt a) _)⟩
end
structure lS (Y:Ge) (F:M.Fx) (X:Cx) (E:XK) (k:Nat) (cf:Cf):Prop extends Go Y F X k cf where
 kh:PassesOwn (model X.p X.w) X.A X.j X.xe
 kU:X.stack=X.j::X.outer
 sL:X.j.frame=k0 X.j.p
 ex:X.ex= []
 nD: ∀c f,cf.ob.er.u (c,f)=true->ly cf.j (Zd c)=true->(Zd c==("__debug__" :Str))=false->lE Y c/\mO Y.K (Y.j c) (Zd f)/\ ∀(np cpos pos:Pos) (e:Expr) (t:TA),PA X [e] t->Qb e=true →
  PS X (.Raise (k0 (.w (.j (Zd c) np) [e] [] cpos)) y0 pos) (yt (Y.j c) (Zd f) E t)
 c3: ∀c,cf.c3.u c=true->PySem.W.mroIn X.K (Y.j c) (.j "BaseException")=some true/\cf.own.u c=true
section
open L2 renaming MS.aa.length→L2.MS.aa.e
variable {Y:Ge}{F:M.Fx}{X:Cx}{E:XK}{k:Nat}{cf:Cf}
def ZL (h:wG cf i x=u0):cf.N[i]? =k0 x/\iX cf.j x=true:=by
 simpa [wG]using h
def zC (h:xG cf i x=u0):cf.N[i]? =k0 x/\cf.j.j.p x=k0 .local:=by
 simpa [xG]using h
def Hv (k:tD Y (M.eval F (.a4 a)) U H Q):tD Y (M.eval F a) U H Q:=by
 obtain⟨G,B,h,s,p⟩:=k
 refine Xa s.j Ext.refl s p λx v1 c g y e1 r i n u b=> ?_
 cases x with
 | own e=>
  obtain⟨l,A,rfl,m,t,j,o⟩:=n
  obtain⟨z,q,w⟩:=u
  cases q
  have b:aA Y G H (if M.Gc e=u0 then M.ao (.p c.e) (c++ [.lst e])else .q) _:=b
  by_cases f:M.Gc e=u0
  rotate_left
  .rw [if_neg f]at b;exact b.j
  rw [if_pos f]at b
  refine aA.val b (wy e1 w) (X0 i.j m t j o f) ?_ trivial
  show c.e<g.n+1/\V.ref l= .p (if c.e=g.n then l else g.j c.e)
  rw [i.j.y,if_pos rfl]
  exact⟨Ag _,rfl⟩
 | v d=>exact b.j
 | bor e=>exact b.j
def Xf (h:wC v=u0):swapsWith v t l env=pure false:=by
 cases v<;>first | rfl | (simp [wC]at h)
def XN :swapsWith v (k0 (.p o n p)) l env=pure false:=by cases v<;>rfl
def Q4 (b:Go Y F X k cf)(a:wG cf i x=u0) (f:PE X v (tD Y (M.eval F m))) (e:swapsWith v (k0 (.j x p)) pos.p X.j=pure k9):
 PS X (.j [.j x p] v pos) (iI (tD Y (M.eval F m)) (wY i)):=by
 obtain⟨d,c⟩:=ZL a
 have a:=b.iJ x c
 exact Mz (by rw [b.N];exact b.nd) (by rw [b.N];exact d) a.1 f e a.2
noncomputable def sN:M.E->Bool
 | .a4 _=>u0
 | .L .. =>u0
 | _=>k9
def C5 (h:wc cf m v=u0) (a:sN m=k9):wC v=true:=by
 cases v with
 | ListComp _ _ _ _=>cases m<;>first | exact b9 h | (exact absurd (a) Aq)
 | SetComp _ _ _ _=>cases m<;>first | exact b9 h | (exact absurd (a) Aq)
 | DictComp _ _ _ _ _=>cases m<;>first | exact b9 h | (exact absurd (a) Aq)
 | _=>rfl
def ML (d:Cf) (a:Bool) (b:Y0 Y4) (c:M.E):Bool:=bif a then(lC b λz r=>kZ r (gu c&&wc d c z))else b.y
def Mp (h:wc cf (.L tg one kk aD it y7 c elt) v=u0): ∃y t iter ifs scope p0,v= .z y [⟨t,iter,ifs,0⟩] scope p0 ∧
 lj cf scope (Qw cf t aD) kk aD/\(∀ i∈tg,i<kk)/\xf { cf with sc:=scope,N:=Qw cf t aD } tg one t=u0/\et cf it iter=u0/\wc { cf with sc:=scope,N:=Qw cf t aD } elt y=u0 ∧
 ML { cf with sc:=scope,N:=Qw cf t aD } y7 ifs c=true:=by
 refine Bo (λy g s p h=> kC (λg r h=> ?_) g h) v h
 obtain⟨t,iter,ifs,z⟩:=g
 obtain⟨e,b,a,k,f,d,j⟩:=a7 h
 obtain⟨rfl,rfl⟩:=of_decide_eq_true e
 simp [decide_eq_true_eq]at a
 exact⟨y,t,iter,ifs,s,p,rfl,JK b,a,k,f,d,j⟩
def HV (e:Go Y F X k cf)(u:wG cf i x=u0)(h:wc cf (.L tg one kk aD it y7 c elt) v=u0):
 PS X (.j [.j x p] v pos) (iI (tD Y (M.eval F (.L tg one kk aD it y7 c elt))) (wY i)):=by
 have L:=(Qc (.L tg one kk aD it y7 c elt) e h).1
 obtain⟨y,t,j,d,a,N,rfl,l,K,P,n,A,o⟩:=Mp h
 obtain⟨b,q⟩: ∃b,swapsWith (.z y [⟨t,j,d,0⟩] a N) (k0 (.j x p)) pos.p X.j=pure b:=⟨_,rfl⟩
 cases b with
 | false=>exact Q4 e u L q
 | true=>
  obtain⟨O,E⟩:=ZL u
  have B: ∀C f s H,iu (ze X (Qw cf t aD) a C f s H) d (c5 Y (lO F y7 c)):=λC f s H=>by
   have w:=QB e l C f s H
   cases y7 with
   | true=>
    refine kC (λz r h=> ?_) d o
    refine kE (λh=> ?_) r h
    exact uB ((Qc c w (a2 h).2).2 (a2 h).1)
   | false=>
    cases Af8.p o
    rintro g J U m Q I ⟨G,R,h,D,p⟩
    exact r9 g J U m Q I (p G m Ext.refl D.j)
  exact Dx e O E q l (QJ l.aD) P K (QX n) (mK it e n) (λC f s H=>(Qc elt (QB e l C f s H) A).1) B
def Xb (a:Go Y F X k cf)(b:wG cf i x=u0)(h:wc cf m v=u0) (c:sN m=k9):PS X (.j [.j x p] v pos) (iI (tD Y (M.eval F m)) (wY i)):=
 Q4 a b (Qc m a h).1 (Xf (C5 h c))
theorem pL (c:Go Y F X k cf)(b:wG cf i x=u0): ∀ m,wc cf m v=u0->PS X (.j [.j x p] v pos) (iI (tD Y (M.eval F m)) (wY i))
 | .a4 a,h=>PS.imp (pL c b a h) λD U H q=>Hv q
 | .L ..,h=>HV c b h
 | .du,h=>Xb c b h rfl
 | .fc ..,h=>Xb c b h rfl
 | .cT ..,h=>Xb c b h rfl
 | .eF _,h=>Xb c b h rfl
 | .gi ..,h=>Xb c b h rfl
 | .var _,h=>Xb c b h rfl
 | .con _,h=>Xb c b h rfl
 | .int _,h=>Xb c b h rfl
 | .bl _,h=>Xb c b h rfl
 | .ak,h=>Xb c b h rfl
 | .str _,h=>Xb c b h rfl
 | .tup _,h=>Xb c b h rfl
 | .lst _,h=>Xb c b h rfl
 | .bin ..,h=>Xb c b h rfl
 | .cmp ..,h=>Xb c b h rfl
 | .a2 ..,h=>Xb c b h rfl
 | .fi ..,h=>Xb c b h rfl
 | .neg _,h=>Xb c b h rfl
 | .inv _,h=>Xb c b h rfl
 | .not _,h=>Xb c b h rfl
 | .and ..,h=>Xb c b h rfl
 | .or ..,h=>Xb c b h rfl
 | .p ..,h=>Xb c b h rfl
 | .bi ..,h=>Xb c b h rfl
 | .cu ..,h=>Xb c b h rfl
 | .eg _,h=>Xb c b h rfl
 | .ix ..,h=>Xb c b h rfl
 | .sl ..,h=>Xb c b h rfl
 | .fX ..,h=>Xb c b h rfl
 | .gA ..,h=>Xb c b h rfl
 | .cg _,h=>Xb c b h rfl
 | .ef ..,h=>Xb c b h rfl
 | .d5 ..,h=>Xb c b h rfl
 | .make ..,h=>Xb c b h rfl
 | .aL ..,h=>Xb c b h rfl
 | .bS ..,h=>Xb c b h rfl
 | .fy ..,h=>Xb c b h rfl
 | .fm ..,h=>Xb c b h rfl
def N7 (o:Go Y F X k cf)(n:wG cf i x=u0)(h:wc cf m v=u0):PS X (.j [.j x p] v pos) (cI Y E (M.exec F (.set i m))):=by
 refine PS.imp (pL o n m h) λD U H l=> ?_
 obtain⟨B,G,t,h,s,p⟩:=l
 refine Jc s p λw v q g b e1 c f j a=> ?_
 cases w with
 | bor e=>exact a.j
 | v d=>exact a g _ b (bu.set s e1 c f j λe z=>by cases z)
 | own r=>exact a g _ b (bu.set s e1 c f j λe z=>by cases z)
def F6 (o:Go Y F X k cf)(n:wG cf i x=u0)(h:wc cf m v=u0):PS X (.j [.j x p] v pos) (cI Y E (M.exec F (.ag i m))):=by
 refine PS.imp (pL o n m h) λD U H e=> ?_
 obtain⟨B,G,u,h,s,p⟩:=e
 refine Jc s p λw v r t c e1 f g l a=> ?_
 cases q:w.d with
 | none=>rw [q]at a;exact a.j
 | some d=>
  rw [q]at a
  obtain⟨j,e2,b,rd⟩:=bu.fz s e1 f g l q
  exact a j _ c (b.dC rd)
def WX :swapsWithSole [.B ts n p] v l env=pure false:=by
 cases v<;>rfl
def QM (h:qk v=u0):swappedStores [.B ts n p] v env=pure none:=by
 cases v<;>first | rfl | (simp [qk]at h)
def DX (f:Go Y F X k cf)(j:jv cf is ts=u0) (x:qk v=u0)(h:wc cf m v=u0):PS X (.j [.B ts n p] v pos) (cI Y E (M.exec F (.e8 is m))):=by
 refine PS.imp (J0 (Qc m f h).1 (Zz f (one:=k9) j) WX (QM x) rfl) λD U H l=> ?_
 obtain⟨B,G,e,h,s,p⟩:=l
 refine Jc s p λw v g u i e1 o r z a=> ?_
 cases w with
 | v d=>
  cases d with
  | tup c=>
   have a:Jq Y E B (match M.ba is c e with | some b=> .p b g | none=> .q) D:=a
   cases q:M.ba is c e with
   | none=>rw [q]at a;exact a.j
   | some b=>
    rw [q]at a
    exact AG (show M.Gq is k9 (.q c) e=k0 b from q) r o λt y=>a u t i y
  | _=>exact a.j
 | own _=>exact a.j
 | bor _=>exact a.j
def qK :swapsWithSole [.q x y p] v l env=pure false:=by
 cases v<;>rfl
def XB :swappedStores [.q x y p] v env=pure none:=by
 cases v<;>rfl
def JR (a:Xc y=u0) (v):assign (.q x y p) env v=(do
 let i ←holding [v] (eval x env)
 let j ←holding [v,i] (eval y env)
 standAt p
 holding [v,i,j] (setItem i j v)
 release [v,i,j] []):=by
 cases y<;>first | rfl | (simp [Xc]at a)
def XV (a:M.Ko d=u0) (z:aE Y G H d v):aE Y G' H' d v:=by
 cases d with
 | ak=>exact z
 | bl _=>exact z
 | int _=>exact z
 | str _=>exact z
 | _=>exact absurd (a) Ac2
def wP (a:M.Ko d=u0):M.Gd d=true:=by
 cases d<;>first | rfl | exact absurd (a) Ac2
def HM (e:Go Y F X k cf)(l:Xc y=u0)(R:wc cf o x=u0) (A:wc cf kx y=u0) (h:wc cf m v=u0):PS X (.j [.q x y p] v pos) (cI Y E (M.exec F (.bZ o kx m))):=by
 refine PS.imp (J0 (Qc m e h).1 (mZ (Qc o e R).1 (Qc kx e A).1 QR (JR l)) qK XB rfl) λD U H u=> ?_
 obtain⟨B,G,τ,h,s,p⟩:=u
 refine Jc s p λw v T G1 V e1 C I f1 J=> ?_
 refine Jc C J λow ov h2 G2 H2 e2 f O f2 N=> ?_
 refine Jc f N λZ iv h3 g Q S b P f3 a=> ?_
 unfold M.Ks at a
 split at a
 .rename_i d r j
  split at a
  .rename_i c q
   split at a
   .rename_i n L
    split at a
    .rename_i i
     obtain⟨W,t⟩:=(aj.ext S f.p.j O)
     subst t
     cases (P)
     have rd:aE Y g Q d v:=XV i I
     obtain⟨_,z,K,rv⟩:=b.p.j.cell r c q
     refine⟨_,z,j,n,rfl,rfl,K,by rw [← rv.e];exact L,?_⟩
     exact a g U _ (b.cell q (xD c n (b.p.j.pure r c q) (wP i)) (aa.set rd n rv))
    .exact a.j
   .exact a.j
  .exact a.j
 .exact a.j
def Il (h:M.fY w=k0 (a,b)):w= .v (.q [a,b]):=by
 unfold M.fY at h
 split at h
 .cases h;rfl
 .cases h
def Dp (f:Go Y F X k cf)(L:Xc y=u0) (hn:qk v=u0) (hj:wG cf j a=u0)(R:wc cf o x=u0) (hk:wc cf kx y=u0) (h:wc cf m v=u0):PS X (.j [.B [.q x y p,.j a pa] n pt] v pos) (cI Y E (M.exec F (.fW o kx j m))):=by
 obtain⟨T,V⟩:=ZL hj
 have I:=f.iJ a V
 refine PS.imp (J0 (Qc m f h).1 (tG f.u (qV (mZ (Qc o f R).1 (Qc kx f hk).1 QR (JR L)) (qV (X6 (by rw [f.N];exact f.nd) (by rw [f.N];exact T) I.1 I.2) AA))) WX (QM hn) rfl) λD U H N=> ?_
 obtain⟨B,G,τ,h,s,p⟩:=N
 refine Jc s p λw v h1 G1 H1 e1 S r1 f1 g=> ?_
 cases i:M.fY w with
 | none=>rw [i]at g;exact g.j
 | some dd=>
  obtain⟨z,d2⟩:=dd
  rw [i]at g
  cases Il i
  obtain⟨b,K,rfl,z2,v1,r',rfl,z3,v2,r'',rfl,z4,rfl⟩:=(r1)
  refine⟨b,[v1,v2],rfl,f.K▸z2.sq,rfl,v1,[v2],rfl,?_⟩
  refine Jc S g λow ov h2 G2 H2 e2 J r2 f2 p2=> ?_
  refine Jc J p2 λkw iv h3 C Q e3 l W f3 e=> ?_
  split at e
  rotate_left
  .exact e.j
  rename_i u
  cases c:M.Ks (.v z) ow kw τ h3 with
  | next τ' h'=>
   rw [c]at e
   unfold M.Ks at c
   split at c
   .rename_i d r Z e1
    cases e1
    split at c
    .rename_i t q
     split at c
     .rename_i n P
      split at c
      .rename_i A
       cases c
       obtain⟨h4,h5⟩:=(aj.ext e3 J.p.j r2)
       subst h5
       cases (W)
       have rd:aE Y C Q z v1:=XV A z3
       obtain⟨_,K,O,rv⟩:=l.p.j.cell r t q
       refine⟨_,K,Z,n,rfl,rfl,O,by rw [← rv.e];exact P,?_⟩
       have s4:=l.cell q (xD t n (l.p.j.pure r t q) (wP A)) (aa.set rd n rv)
       exact⟨v2,[],rfl,rfl,e C _ _ (s4.dC (XV u z4))⟩
      .cases c
     .cases c
    .cases c
   .cases c
  | ret _ _=>rw [c]at e;exact e.j
  | brk _ _=>rw [c]at e;exact e.j
  | cont _ _=>rw [c]at e;exact e.j
  | exc _ _=>rw [c]at e;exact e.j
  | fail=>rw [c]at e;exact e.j
def tH (h:W3 cf i m e cpos=u0): ∃x p apos,e= .p (.j x p) m apos/\cf.N[i]? =k0 x/\qW cf.j x=u0/\bg x=u0/\(apos.j==cpos.p)=true:=by
 refine XL (λx n q h=> Xo (λx p h=> ?_) x h) e h
 obtain⟨h,b,d⟩:=a3 h
 obtain⟨c,a,f⟩:=fT h
 cases of_decide_eq_true b
 exact⟨_,_,_,rfl,c,a,f,d⟩
def K3 (o:Go Y F X k cf)(V:W3 cf i "append" f cpos=true) (l:Qb v=true)(h:wc cf m v=true):PS X (.Expr (.w f [v] [] cpos) pos) (cI Y E (M.exec F (.app i m))):=by
 obtain⟨x,p,y,rfl,g,P,e,J⟩:=tH V
 unfold bg at e
 rw [Aa0]at e
 have pv:=qy (pos:=p) (by rw [o.N];exact g) (o.g8 x P) (by simpa using e.1) (by simpa using e.2)
 refine PS.imp (WS (oP PySem.F.plainAttrs_list PySem.F.slot_list_append PySem.F.type_list_append WY pv (zg (Qc m o h).1 zo (jb l)) rfl (by rw [jb l];rfl) J (jb l) rfl) (Xf rfl)) λD U H I=> ?_
 obtain⟨B,G,A,h,s,p⟩:=I
 rw [M.exec]at p
 cases q:M.Gm A i with
 | none=>rw [q]at p;exact p.j
 | some S=>
  rw [q]at p
  cases S with
  | v d=>exact p.j
  | bor c=>exact p.j
  | own c=>
   obtain⟨v0,n,a,K,rfl,Z,z3,C,z5⟩:=s.p.q i _ q
   refine⟨.p a,n,.p ⟨rfl,K,bA.of C⟩,?_⟩
   refine Jc s p λw v g G1 W e1 L O T b=> ?_
   cases j:w.d with
   | none=>rw [j]at b;exact b.j
   | some d=>
    rw [j]at b
    obtain⟨R,e2,r,rd⟩:=bu.fz s e1 L O T j
    have b:Jq Y E B (if c.e<M.bp then .p (M.Gz A i (.j (c++ [d]))) g else .q) D:=b
    by_cases z:c.e<M.bp
    .rw [if_pos z]at b
     obtain⟨nf,of,Q,N,t⟩:=Zt r.p q n
     have u:=t.e
     exact⟨a,Q,v,rfl,rfl,N,by have:=Qi;omega,b R U _ (r.write q n (t.append ⟨v,[],rfl,rd,rfl⟩))⟩
    .rw [if_neg z]at b;exact b.j
def Ou (y:Go Y F X k cf)(hf:W3 cf i "extend" f cpos=true) (r:Qb v=true)(h:wc cf m v=true):PS X (.Expr (.w f [v] [] cpos) pos) (cI Y E (M.exec F (.ext i m))):=by
 obtain⟨x,p,I,rfl,o,S,l,O⟩:=tH hf
 unfold bg at l
 rw [Aa0]at l
 have pv:=qy (pos:=p) (by rw [y.N];exact o) (y.g8 x S) (by simpa using l.1) (by simpa using l.2)
 refine PS.imp (WS (oP PySem.F.plainAttrs_list PySem.F.slot_list_extend PySem.F.type_list_extend FZ pv (zg (Qc m y h).1 zo (jb r)) rfl (by rw [jb r];rfl) O (jb r) rfl) (Xf rfl)) λD U H N=> ?_
 obtain⟨B,G,K,h,s,p⟩:=N
 rw [M.exec]at p
 cases q:M.Gm K i with
 | none=>rw [q]at p;exact p.j
 | some Z=>
  rw [q]at p
  cases Z with
  | v d=>exact p.j
  | bor j=>exact p.j
  | own j=>
   obtain⟨v0,t,a,P,rfl,z2,z3,L,z5⟩:=s.p.q i _ q
   refine⟨.p a,t,.p ⟨rfl,P,bA.of L⟩,?_⟩
   refine Jc s p λw v o T H1 e1 C R f1 c=> ?_
   cases w with
   | v d=>exact c.j
   | bor g=>exact c.j
   | own g=>
    obtain⟨b,n,rfl,_,_,W,e⟩:=R
    have c:Jq Y E B (if j.e+g.e<M.bp then .p (M.Gz K i (.j (j++g))) o else .q) D:=c
    by_cases J:j.e+g.e<M.bp
    .rw [if_pos J]at c
     obtain⟨nf,of,V,Q,z⟩:=Zt C.p q t
     have A:=z.e
     have u:=e.e
     exact⟨a,b,V,n,rfl,rfl,Q,W,by have:=Qi;omega,c T U _ (C.write q t (z.append e))⟩
    .rw [if_neg J]at c;exact c.j
theorem JO: ∀ {xs ys},M.Gc xs=u0->M.Gc ys=u0->M.Gc (xs++ys)=u0
 | [],_,_,h=>h
 | x::xs,ys,h,a=>by
  have h:=h
  rw [Aa0]at h
  show(M.Gd x&&M.Gc (xs++ys))=u0
  rw [h.1,JO h.2 a];rfl
def Ld (C:Go Y F X k cf)(hx:attributeBase x "append" X.j (eval x X.j)=eval x X.j) (P:(apos.j==cpos.p)=true) (j:Qb v=true) (T:wc cf a x=true) (h:wc cf m v=true):PS X (.Expr (.w (.p x "append" apos) [v] [] cpos) pos) (cI Y E (M.exec F (.fF a m))):=by
 refine PS.imp (WS (oP PySem.F.plainAttrs_list PySem.F.slot_list_append PySem.F.type_list_append WY (Qc a C T).1 (zg (Qc m C h).1 zo (jb j)) hx (by rw [jb j];rfl) P (jb j) rfl) (Xf rfl)) λD U H O=> ?_
 obtain⟨B,G,τ,h,s,p⟩:=O
 refine Jc s p λo vo N G0 H0 e0 l L f0 c=> ?_
 cases q:M.GF N (k0 o)with
 | none=>rw [q]at c;exact c.j
 | some z=>
  rw [q]at c
  obtain⟨K,J⟩:=ZI q
  cases K
  obtain⟨g,rfl⟩:=(L)
  obtain⟨_,n,f,_⟩:=l.p.j.cell z.1 z.2 J
  refine⟨.p ⟨rfl,n,bA.of f⟩,?_⟩
  refine Jc l c λw v h1 G1 H1 e1 S V f1 b=> ?_
  split at b
  .rename_i d r i Q I
   obtain⟨Z,e2,e,rd⟩:=bu.fz l e1 S V f1 Q
   by_cases t:i.e<M.bp/\M.Gd d=u0
   .rw [if_pos t]at b
    obtain⟨k1,u⟩:=ZI I
    cases k1
    obtain⟨_,W,R,A⟩:=e.p.j.cell _ i u
    have y:=A.e
    exact⟨_,W,v,by rw [e2.aU _ g],rfl,R,by have:=Qi;omega,b Z U _ (e.cell u (JO (e.p.j.pure _ i u) (by show(M.Gd d&&u0)=u0;rw [t.2];rfl)) (A.append ⟨v,[],rfl,rd,rfl⟩))⟩
   .rw [if_neg t]at b;exact b.j
  .exact b.j
def NA (a:Go Y F X k cf)(h1:cf.N[i]? =k0 x) (K:qW cf.j x=u0) (N:bg x=u0) (l:cf.ob.fl.u (c,f)=u0) (h:wc cf m v=u0):PS X (.j [.p (.j x j) (Zd f) p2] v pos) (cI Y E (M.exec F (.bO i c f m))):=by
 refine PS.imp (sC (Jt a h1 K N) (Qc m a h).1 XN) λD U H y=> ?_
 obtain⟨B,G,O,h,s,p⟩:=y
 refine Jc s p λw v h1 g P e1 b C S j=> ?_
 cases w with
 | own _=>exact j.j
 | bor _=>exact j.j
 | v d=>
  cases q:M.G6 h1 (M.Gm O i)with
  | none=>rw [q]at j;exact j.j
  | some o=>
   obtain⟨r,t,fs⟩:=o
   rw [q]at j
   dsimp only at j
   split at j
   .rename_i u
    obtain⟨rfl,T⟩:=u
    obtain⟨e2,n⟩:=wK q
    obtain⟨Q,I,R,z,L⟩:=b.p.j.obj r _ fs n
    obtain⟨A,e,J⟩:=ZR (C) L
    refine⟨_,sU b.p q,g.j r,Y.j t,I,_,rfl,z,(a.fld _ _ l).1,(a.fld _ _ l).2,?_,?_⟩
    .rw [Al9,Aa];omega
    .rw [J]
     exact j g U _ (b.iP n e)
   .exact j.j
def xZ (a:Go Y F X k cf)(h1:cf.N[i]? =k0 x) (N:qW cf.j x=u0) (Q:bg x=u0) (n:cf.ob.fl.u (c,f)=u0) (h:wc cf m v=u0):PS X (.j [.p (.j x j) (Zd f) p2] v pos) (cI Y E (M.exec F (.bW i c f m))):=by
 refine PS.imp (sC (Jt a h1 N Q) (Qc m a h).1 XN) λD U H z=> ?_
 obtain⟨B,G,R,h,s,p⟩:=z
 refine Jc s p λw v h1 T S e1 I J P j=> ?_
 cases e:w.d with
 | none=>rw [e]at j;exact j.j
 | some d=>
  rw [e]at j
  obtain⟨l,e2,b,rd⟩:=bu.fz s e1 I J P e
  cases q:M.G6 h1 (M.Gm R i)with
  | none=>rw [q]at j;exact j.j
  | some o=>
   obtain⟨r,u,fs⟩:=o
   rw [q]at j
   dsimp only at j
   split at j
   .rename_i y
    obtain⟨rfl,Z,hl⟩:=y
    obtain⟨e2,t⟩:=wK q
    obtain⟨V,K,W,A,O⟩:=b.p.j.obj r _ fs t
    obtain⟨C,g,L⟩:=ZR rd O
    refine⟨_,sU b.p q,l.j r,Y.j u,K,_,rfl,A,(a.fld _ _ n).1,(a.fld _ _ n).2,?_,?_⟩
    .rw [Al9,Aa];omega
    .rw [L]
     exact j l U _ (b.iP t g)
   .exact j.j
def LW (n:Go Y F X k cf)(h1:cf.N[i]? =k0 x) (z:qW cf.j x=u0) (R:bg x=u0) (A:Xc y=u0)(K:wc cf kx y=u0) (h:wc cf m v=u0):PS X (.j [.q (.j x p) y p2] v pos) (cI Y E (M.exec F (.cD i kx m))):=by
 refine PS.imp (J0 (Qc m n h).1 (mZ (Jt n h1 z R) (Qc kx n K).1 Dm (JR A)) qK XB rfl) λD U H I=> ?_
 obtain⟨B,G,T,h,s,p⟩:=I
 refine Jc s p λw v h1 G1 V e1 l N f1 e=> ?_
 cases q:M.GV h1 (M.Gm T i)with
 | none=>rw [q]at e;exact e.j
 | some L=>
  obtain⟨W,C⟩:=L
  rw [q]at e
  have sl:=(zp l.p q).1
  refine⟨_,sl,?_⟩
  refine Jc l e λZ iv z O H2 e2 c P f2 p2=> ?_
  split at p2
  .rename_i d t r ks g
   split at p2
   .rename_i S
    obtain⟨o,J,us,Q,u⟩:=zp c.p g
    have j:=by rw [sl]at o;exact Ad9.inj (Ad9.inj o)
    cases P
    have rd:=(N).ext e2 l.p.j
    obtain⟨f,a,b⟩:=Lf rd u
    refine⟨aN t,_,_,rfl,j,Q,by rw [B7 u];have:=Qi;omega,?_⟩
    rw [b]
    exact p2 O U _ (c.gm (zV g).2 ⟨Fo S.2 J,f,zb,a.mon (QT c.p.j (c.p.j.lt (zV g).2) _)⟩)
   .exact p2.j
  .exact p2.j
def Hz (e:Go Y F X k cf)(h1:cf.N[i]? =k0 x) (r:qW cf.j x=u0) (c:bg x=u0) (t:Xc y=u0)(z:wc cf kx y=u0) (h:wc cf m v=u0):PS X (.j [.q (.j x p) y p2] v pos) (cI Y E (M.exec F (.ek i kx m))):=by
 unfold bg at c
 rw [Aa0]at c
 have pv:=qy (pos:=p) (by rw [e.N];exact h1) (e.g8 x r) (by simpa using c.1) (by simpa using c.2)
 refine PS.imp (J0 (Qc m e h).1 (mZ pv (Qc kx e z).1 QR (JR t)) qK XB rfl) λD U H u=> ?_
 obtain⟨B,G,P,h,s,p⟩:=u
 refine Jc s p λw v h1 G1 Q e1 f C f1 b=> ?_
 cases q:M.Gm P i with
 | none=>rw [q]at b;exact b.j
 | some L=>
  rw [q]at b
  cases L with
  | v d=>exact b.j
  | bor O=>exact b.j
  | own O=>
   obtain⟨v0,g,a,S,rfl,V,z3,R,W⟩:=f.p.q i _ q
   refine⟨.p a,g,?_⟩
   refine Jc f b λT iv r J Z e2 l N f2 p2=> ?_
   split at p2
   .rename_i d j
    split at p2
    .rename_i n K
     cases (N)
     have rd:=(C).ext e2 f.p.j
     obtain⟨nf,of,I,A,o⟩:=Zt l.p q g
     refine⟨_,I,j,n,rfl,rfl,A,by rw [← o.e];exact K,?_⟩
     exact p2 J U _ (l.write q g (aa.set rd n o))
    .exact p2.j
   .exact p2.j
end
section
variable {Y:Ge}{E:XK}{B:Bs}{G:Gh}{τ:M.Sl}{h:M.AH}{U:St}{H:Hp}{D:kN}
def DZ (b:M.Gm τ i=k0 (.j xs)) (c:U[i]? =k0 (k0 (.p a))):Qo τ U H a=none:=by
 unfold Qo
 rw [if_pos ⟨i,xs,b,c⟩]
def uA (e:Qo τ U H a=k0 o):H a=k0 o:=by
 unfold Qo at e
 split at e
 .cases e
 .exact e
def B9 (s:av Y G τ h U H):ah Y G h (Qo τ U H) where
 len:=s.j.y
 any:=λr c e=>⟨(s.j.z r c e).1,(s.j.z r c e).2.mon (qz s) λo z=>by rw [zm (by rintro ⟨i,f,d,b⟩;exact (Zt s d b).2.1 r (s.j.lt e) rfl)];exact z⟩
 inj:=s.j.inj
 live:=λa z=>by
  obtain⟨o,q⟩:=s.j.j a z
  exact⟨o,by rw [zm (by rintro ⟨i,f,d,b⟩;exact (Zt s d b).1 z)];exact q⟩
def lK (G:Gh) (τ:M.Sl) (h:M.AH) (U:St) (H:Hp):Bs:=⟨G,Qo τ U H,h⟩
def xJ (s:bu Y B G τ h U H):Ext B.G B.H G (Qo τ U H) where
 keep:=λa o e c=>by
  rw [zm λ⟨i,f,d,b⟩=>by rw [s.j i f a d b]at e;cases e]
  exact s.I.p a o e c
 le:=s.I.le
 aU:=s.I.aU
 new:=s.I.new
 fz:=s.I.fz
 old:=s.I.old
 cells:=λr g z=>by
  obtain⟨o,q⟩:=s.I.q r g z
  refine⟨o,?_⟩
  rw [zm λj=>by
   obtain⟨i,f,d,b⟩:=j
   obtain⟨u,z⟩:=z
   rw [s.j i f _ d b]at z
   cases z]
  exact q
def Hq (s:bu Y B G τ h U H):bu Y (lK G τ h U H) G τ h U H where
 st:=s.p
 ext:=⟨λa o e _=>uA e,Aa8 _,λ_ _=>rfl,λr h1 h2=>absurd h1 (Ao1.q h2),λ_ z=>z,λ_ z=> .p z,by rintro r hr⟨o,z⟩;exact ⟨o,uA z⟩⟩
 hr:=B9 s.p
 own:=λi xs a e1 e2=>DZ e1 e2
def wV (s:bu Y B G τ h U H)(b:bu Y (lK G τ h U H) G2 τ2 h2 U2 H2):bu Y B G2 τ2 h2 U2 H2:=
 ⟨b.p,(xJ s).trans s.hr b.I,s.hr,λi c a e1 e2=>(xJ s).none s.hr (b.j i c a e1 e2)⟩
def Dn (s:bu Y B G τ h U H)(p:Jq Y E B o D):Jq Y E (lK G τ h U H) o D:=by
 cases o with
 | next i k=>exact λb g c j=>p b g c (wV s j)
 | brk i k=>exact λb g c j=>p b g c (wV s j)
 | cont i k=>exact λb g c j=>p b g c (wV s j)
 | ret w k=>
  refine λb v c e l r f=>p b v c ((xJ s).trans s.hr e) l r ?_
  cases w with
  | v d=>trivial
  | own q=>obtain⟨a,m,n⟩:=f;exact⟨a,m,(xJ s).none s.hr n⟩
  | bor q=>exact f
 | exc d k=>exact λb c e l=>p b c ((xJ s).trans s.hr e) l
 | fail=>exact p
end
section
variable {Y:Ge}{F:M.Fx}{X:Cx}{E:XK}{k:Nat}{cf:Cf}
def CL.hide (s:av Y G τ h U H) (c:CL Y ds l vs G H) (b: ¬ ∃ i xs,M.Gm τ i=k0 (.j xs)/\U[i]? =k0 (k0 (.p l))):CL Y ds l vs G (Qo τ U H):=by
 obtain⟨a,d⟩:=c
 refine⟨?_,d.mon (qz s)⟩
 obtain⟨a,e⟩ | a:=a
 .refine .p ⟨?_,e⟩
  obtain a | ⟨o,a⟩:=a
  .exact .p (by rw [zm b];exact a)
  .exact .q ⟨o,by rw [zm b];exact a⟩
 .exact .q a
def CL.iB (s:av Y G τ h U H) (a:iW Y G H l vs) (b:aa Y G H ds vs):CL Y ds l vs G (Qo τ U H):=by
 refine⟨?_,b.mon (qz s)⟩
 obtain a | a:=a
 .exact(CL.hide s ⟨.p ⟨a.2,s.j.off a.1⟩,b⟩ (by rintro ⟨j,e,d,c⟩;exact (Zt s d c).1 a.1)).1
 .exact .q a
def CT.hide (s:av Y G τ h U H) (c:CT Y ds l vs G H):CT Y ds l vs G (Qo τ U H):=⟨c.1.mon (qz s),c.2.mon (qz s)⟩
def jY (h:M.GK a=k0 i):a= .var i:=by
 cases a<;>first | (cases h;rfl) | cases h
def Ee (h:wc cf (.var i) e=u0): ∃x p,e= .j x p/\cf.N[i]? =k0 x/\qW cf.j x=u0/\bg x=true:=by
 exact Xo (λx p h=> ⟨_,_,rfl,fT h⟩) e h
def AY (b:Go Y F X k cf)(h:wc cf (.var i) e=u0):PE X e (nt i):=by
 obtain⟨x,p,rfl,d,c,a⟩:=Ee h
 unfold bg at a
 rw [Aa0]at a
 exact qy (by rw [b.N];exact d) (b.g8 x c) (by simpa using a.1) (by simpa using a.2)
def BR (s:av Y G τ h U H)(e:M.Gm τ i=k0 w) (m:w= .v (.u xs)\/w= .p xs):
 ∃l vs,U[i]? =k0 (k0 (.p l))/\CL Y xs l vs G H/\CL Y xs l vs G (Qo τ U H):=by
 obtain⟨v,e2,r⟩:=s.q i w e
 obtain rfl | rfl:=m
 .obtain⟨l,vs,rfl,a,b⟩:=r
  exact⟨l,vs,e2,⟨a.oj s.j,b⟩,CL.iB s a b⟩
 .obtain⟨l,vs,rfl,a,b,k⟩:=r
  have c:CL Y xs l vs G H:=⟨.p ⟨b,a⟩,k⟩
  refine⟨l,vs,e2,c,c.hide s λ⟨j,n,d,g⟩=> ?_⟩
  have f:j≠i:=λz=>by rw [z,e]at d;cases d
  exact s.p j i n _ l f d e rfl g e2
def QW (m:av Y G0 τ h0 U H0) (s:av Y G τ h U H)(r:aj Y G H w v) (f:aM τ U H0 w v) (i:w= .v (.u xs)\/w= .j xs):
 ∃l vs,v= .p l/\CL Y xs l vs G H/\CL Y xs l vs G (Qo τ U H):=by
 obtain rfl | rfl:=i
 .obtain⟨l,vs,rfl,b,a⟩:=r
  exact⟨l,vs,rfl,⟨b.oj s.j,a⟩,CL.iB s b a⟩
 .obtain⟨l,vs,rfl,b,a,g,k⟩:=r
  obtain⟨q,p,n⟩:=f
  cases p
  have c:CL Y xs l vs G H:=⟨.p ⟨.p g,a⟩,k⟩
  refine⟨l,vs,rfl,c,c.hide s λ⟨j,t,e,d⟩=> ?_⟩
  obtain⟨o,z⟩:=m.cV e rfl d
  rw [n]at z;cases z
def Lh (j:Go Y F X k cf)(L:wc cf a e=u0):PI X tg e (iz Y u0 (M.Gs F (.seq a))):=by
 cases q:M.GK a with
 | some i=>
  cases jY q
  refine PI.imp (J9 (AY j L)) λU H R A=> ?_
  obtain⟨G,r,h,s,p⟩:=A
  have p:aA Y G H (M.R.of h ((M.Gm r i).p M.lH)) λt _ n f=> ∀J C,qT Y J t C->C n f->(u0=u0->C n (Qo r U f))->R J f:=p
  cases y:M.Gm r i with
  | none=>rw [y]at p;exact p.j
  | some w=>
   rw [y]at p
   have lst: ∀ {b},(w= .v (.u b)\/w= .p b)->aA Y G H (.j b h) (λt _ n f=> ∀J C,qT Y J t C->C n f->(u0=u0->C n (Qo r U f))->R J f) →
    ∃v,U[i]? =k0 (k0 v)/\((∃ a,v= .p a/\(∃ b,bA X.K H a b)/\R (lx X.K a) H)\/ ∃a,v= .p a/\(∃ b,cQ X.K H a b)/\R (lD X.K a) H):=λ{b} B p=>by
    obtain⟨l,m,e2,x,I⟩:=BR s y B
    exact⟨_,e2,.p ⟨l,rfl,⟨m,j.K▸x.1.sq⟩,p G H Ext.refl s.j _ _ (CL.walk j.K) x λ_=>I⟩⟩
   cases w with
   | v d=>
    cases d with
    | lst b=>exact lst (.p rfl) p
    | tup b=>
     obtain⟨v,e2,l,m,rfl,u,E⟩:=s.q i _ y
     have c:CT Y b l m G H:=⟨u,E⟩
     exact⟨_,e2,.q ⟨l,rfl,⟨m,j.K▸u.sq⟩,p G H Ext.refl s.j _ _ (CT.walk j.K) c λ_=>c.hide s⟩⟩
    | ak=>exact p.j
    | bl _=>exact p.j
    | int _=>exact p.j
    | str _=>exact p.j
    | ref _=>exact p.j
    | err _ _ _=>exact p.j
   | bor b=>exact lst (.q rfl) p
   | own b=>exact p.j
 | none=>
  refine PI.imp (J9 (Qc a j L).1) λU H R A=> ?_
  obtain⟨G,r,h,s,p⟩:=A
  have p:=by
   unfold M.Gs at p
   dsimp only at p
   rw [q]at p
   exact p
  refine Xa s.j Ext.refl s p λK v1 O D o e1 P z N Q g=> ?_
  have lst: ∀ {b},(K= .v (.u b)\/K= .j b)->aA Y G H (.j b O) (λt _ n f=> ∀J C,qT Y J t C->C n f->(u0=u0->C n (Qo r U f))->R J f) →
   ((∃ a,v1= .p a/\(∃ b,bA X.K o a b)/\R (lx X.K a) o)\/ ∃a,v1= .p a/\(∃ b,cQ X.K o a b)/\R (lD X.K a) o):=λ{b} B p=>by
   obtain⟨l,m,e2,x,I⟩:=QW s z N Q B
   exact .p ⟨l,e2,⟨m,j.K▸x.1.sq⟩,p D o e1 z.j _ _ (CL.walk j.K) x λ_=>I⟩
  cases K with
  | v d=>
   cases d with
   | lst b=>exact lst (.p rfl) g
   | tup b=>
    obtain⟨l,m,rfl,u,E⟩:=N
    have c:CT Y b l m D o:=⟨u,E⟩
    exact .q ⟨l,rfl,⟨m,j.K▸u.sq⟩,g D o e1 z.j _ _ (CT.walk j.K) c λ_=>c.hide z⟩
   | ak=>exact g.j
   | bl _=>exact g.j
   | int _=>exact g.j
   | str _=>exact g.j
   | ref _=>exact g.j
   | err _ _ _=>exact g.j
  | own b=>exact lst (.q rfl) g
  | bor b=>exact g.j
theorem JG: ∀(ds) (i),(M.Kl i ds).e=ds.e
 | [],_=>rfl
 | d::ds,i=>congrArg (· +1) (JG ds (i+1))
theorem t8: ∀(ds) (j i) (h:i<ds.e),(M.Kl j ds)[i]? =k0 (.q [.o ((j+i:Nat):Int),ds[i]])
 | d::ds,j,0,_=>rfl
 | d::ds,j,i+1,h=>by
  have:=t8 ds (j+1) i (by simpa using h)
  rw [show j+1+i=j+(i+1)by omega]at this
  simpa [M.Kl]using this
def Ii: "enumerate" ∈cv:=by decide
def CL.mI {l:Y5}{vs:Y0 V}{K:Ab}(j:K=Y.K):qT Y (pZ K l) (M.Kl 0 ds) (CL Y ds l vs) where
 go:=by
  rintro i G H ⟨c,d⟩ b
  rw [JG]at b
  obtain⟨v,e,_⟩:=d.get (Aa4 b)
  exact⟨vs,v,j▸c.sq,e⟩
 gd:=by
  rintro i G H x t ⟨c,d⟩ b ⟨p,y,f,ex,s,k⟩
  rw [JG]at b
  subst ex s
  obtain⟨v,e,rd⟩:=d.get (Aa4 b)
  have:=k vs (j▸c.sq)
  rw [e]at this
  cases this
  refine⟨G.more p,jk _ f,λh g=>g.gY _ f,.q [.o i,ds[i]],by rw [t8 ds 0 i b,Am4],⟨p,[.o i,y],rfl,.p ⟨.q rfl,zb⟩,⟨.o i,[y],rfl,rfl,⟨y,[],rfl,?_,rfl⟩⟩⟩⟩
  have m:Mon G H (G.more p) (aF H p (.tup [.o i,y])):=⟨λa o w q=>by rw [Za (Zb q f)];exact q,Aa8 _,λ_ _=>rfl,λ_ z=>Or.inl z⟩
  exact rd.mon m
 stop:=by
  rintro i G H ⟨c,d⟩ n r
  rw [JG]at n r
  exact⟨vs,j▸c.sq,by rw [← d.length];omega⟩
 keep:=λG H u t h z e g=>z.keep e g
def Ek (b:Go Y F X k cf)(v:bV cf.j "enumerate" g=true) (f:Qb x=true) (n:wc cf a x=true):PI X (.B elts x1 tp) (.w g [x] [] pos) (iz Y true (M.Gs F (.cA a))):=by
 obtain⟨D,rfl,w,E⟩:=xc v
 refine PI.imp (LY (b.gl _ w) (b.blt _ Ii) (zg (Qc a b n).1 zo (jb f)) (jb f)) λU H R o=> ?_
 obtain⟨G,I,h,s,p⟩:=o
 have p:=p
 refine Xa s.j Ext.refl s p λj v1 C y m e1 z d t A c=> ?_
 obtain⟨e,q,c⟩:=c.of
 have u:j= .v (.u e)\/j= .j e:=by
  unfold M.Be at q
  split at q
  .cases q;exact .p rfl
  .cases q;exact .q rfl
  .cases q
 obtain⟨l,r,e2,i,B⟩:=QW s d t A u
 subst e2
 exact⟨l,r,rfl,b.K▸i.1.sq,c y m e1 d.j _ _ (CL.mI b.K) i λ_=>B⟩
def L3 (b:Go Y F X k cf)(j:pJ it tg=u0) (h:oN cf it e=u0):PI X tg e (iz Y u0 (M.Gs F it))/\xh e=true:=by
 cases it with
 | seq a=>exact⟨Lh b (a2 h).2,(a2 h).1⟩
 | au a=>
  refine qm (λg x l p h=> ?_) e h
  refine kE (λh=> ?_) l h
  refine kC (λx r h=> ?_) x h
  refine kE (λh=> ?_) r h
  obtain⟨d,c,f⟩:=a3 h
  exact⟨jI b d c (Qc a b f).1,rfl⟩
 | cA a=>
  cases tg with
  | Tuple i m n=>
   refine qm (λg x l p h=> ?_) e h
   refine kE (λh=> ?_) l h
   refine kC (λx r h=> ?_) x h
   refine kE (λh=> ?_) r h
   obtain⟨d,c,f⟩:=a3 h
   exact⟨Ek b d c f,rfl⟩
  | _=>exact b9 j
 | enum _=>exact b9 h
end
section
variable {Y:Ge}{G G0:Gh}{H H0:Hp}{h:M.AH}
noncomputable def Gh.cut (G:Gh) (n:Nat):Gh:= { G with n:=n }
mutual
theorem aE.cut (n:Nat): ∀ {d:M.D}{v:V},M.Gd d=u0->aE Y G H d v->aE Y (G.cut n) H d v
 | .ak,_,_,z=>z
 | .C _,_,_,z=>z
 | .o _,_,_,z=>z
 | .j _,_,_,z=>z
 | .q _,_,q,⟨a,vs,z1,z2,z3⟩=>⟨a,vs,z1,z2,aa.eO n (by simpa [M.Gd]using q) z3⟩
 | .u _,_,q,⟨a,vs,z1,z2,z3⟩=>⟨a,vs,z1,z2,aa.eO n (by simpa [M.Gd]using q) z3⟩
 | .p r,_,q,_=>by simp [M.Gd]at q
 | .w c f d,_,q,z=>by simp [M.Gd]at q
theorem aa.eO (n:Nat): ∀ {ds:List M.D}{vs:List V},M.Gc ds=u0->aa Y G H ds vs->aa Y (G.cut n) H ds vs
 | [],_,_,z=>z
 | d::ds,_,q,⟨v,r,z1,z2,z3⟩=>by
  have q':M.Gd d=u0/\M.Gc ds=true:=by simpa [M.Gc]using q
  exact⟨v,r,z1,aE.cut n q'.1 z2,aa.eO n q'.2 z3⟩
end
theorem ah.cut (r:ah Y G h H)(k:n<=G.n) (q:M.Gx (h.A n)=u0):ah Y (G.cut n) (h.A n) H where
 len:=by rw [Af6,r.y];exact Ak3 k
 any:=λi c e=>by
  have u:i<n:=by
   have:=(Aa1.p e).1
   rw [Af6]at this
   omega
  have o:=Ai6.p q c (Ac4 e)
  rw [Am7 u]at e
  obtain⟨m,f⟩:=r.z i c e
  refine⟨m,?_⟩
  cases c with
  | lst w=>obtain⟨b,p,d,a⟩:=f;exact⟨b,p,d,aa.eO n b a⟩
  | aP v=>obtain⟨b,g,d,a⟩:=f;exact⟨b,g,d,aa.eO n b a⟩
  | obj c fs=>obtain⟨s,g,d,a⟩:=f;exact⟨s,g,d,aa.eO n o a⟩
 inj:=λi j l t e=>r.inj i j (Ab3 l k) (Ab3 t k) e
 live:=r.j
theorem Ext.cut (e:Ext G0 H0 G H):Ext G0 H0 (G.cut G0.n) H:=⟨e.p,Aa8 _,e.aU,λr a b=>absurd a (Ao1.q b),e.fz,e.old,e.q⟩
theorem aj.cut (n) (i:n<=G.n)(q:w.keep=u0) (k: ∀xs,w≠ .p xs) (z:aj Y G H w v):aj Y (G.cut n) H w v:=by
 cases w with
 | v d=>exact aE.cut n q z
 | own xs=>
  obtain⟨a,c,j,h,f,e,g⟩:=z
  exact⟨a,c,j,h,λr b=>f r (Ab3 b i),e,aa.eO n q g⟩
 | bor xs=>exact absurd rfl (k xs)
end
section
variable {Y:Ge}{F:M.Fx}{X:Cx}{E:XK}{k:Nat}{cf:Cf}
def Lj (g:Go Y F X k cf)(f:wC v=u0)(h:wc cf m v=u0):PS X (.Expr v pos) (cI Y E (M.exec F (.ex m))):=by
 refine PS.imp (WS (Qc m g h).1 (Xf f)) λD U H b=> ?_
 obtain⟨B,G,n,h,s,p⟩:=b
 exact Jc s p λw v i d a e1 c j l e=>e d U a c
def CF (s:bu Y B G τ h U H)(f:aM τ U H w v) (e: ∀xs,w≠ .p xs):aM [] [] B.H w v:=by
 cases w with
 | v d=>trivial
 | own xs=>obtain⟨a,c,b⟩:=f;exact⟨a,c,s.I.none s.hr b⟩
 | bor xs=>exact absurd rfl (e xs)
def Fm (t:Go Y F X k cf)(h:wc cf m v=u0):PS X (.Return (k0 v) pos) (cI Y E (M.exec F (.ret m))):=by
 cases q:M.GK m with
 | some i=>
  cases jY q
  refine PS.imp (sg (AY t h)) λD U H f=> ?_
  obtain⟨B,G,j,h,s,p⟩:=f
  rw [M.exec,q]at p
  dsimp only at p
  cases c:M.Gm j i with
  | none=>rw [c]at p;exact p.j
  | some w=>
   rw [c]at p
   obtain⟨v,e2,r⟩:=s.p.q i w c
   refine⟨v,e2,?_⟩
   cases w with
   | bor b=>exact p.j
   | v d=>exact p G v H s.I s.p.j r trivial
   | own b=>
    have u:=r
    obtain⟨a,A,rfl,_⟩:=u
    exact p G _ H s.I s.p.j r ⟨a,rfl,s.j i b a c e2⟩
 | none=>
  refine PS.imp (sg (Qc m t h).1) λD U H f=> ?_
  obtain⟨B,G,j,h,s,p⟩:=f
  have p:Jq Y E B ((M.eval F m j h).cH λw h=>match w with
   | .p _=> .q
   | w=> .ret w h) D:=by
   rw [M.exec,q]at p;exact p
  refine Jc s p λw v y o l e1 e n x g=> ?_
  cases w with
  | bor b=>exact g.j
  | v d=>exact g o v l e.I e.p.j n trivial
  | own b=>exact g o v l e.I e.p.j n (CF s x λb z=>by cases z)
def Nx (j:PT X x (c5 Y (M.Gn F c))) (l:dr X ys (cI Y E (M.execs F a))) (m:dr X zs (cI Y E (M.execs F b))):PS X (.If x ys zs pos) (cI Y E (M.exec F (.iff c a b))):=by
 refine PS.imp (Dw j l m) λD U H k=> ?_
 obtain⟨B,G,i,h,s,p⟩:=k
 refine yb s p λt d f n e1 e g=> ?_
 cases t with
 | true=>exact oA ⟨B,f,i,d,e,g⟩
 | false=>exact pz ⟨B,f,i,d,e,g⟩
def Nj {st:Y7}(h1:PS X st (cI Y E (M.exec F s))) (i:dr X sts (cI Y E (M.execs F ss))):dr X (st::sts) (cI Y E (M.execs F (.cons s ss))):=by
 refine dr.imp (Ln h1 i) λD U H g=> ?_
 obtain⟨B,G,c,h,j,p⟩:=g
 rw [M.execs]at p
 refine⟨B,G,c,h,j,?_⟩
 cases q:M.exec F s c h with
 | next a b=>rw [q]at p;exact λf k l e=>⟨B,f,a,b,e,p⟩
 | ret w b=>rw [q]at p;exact p
 | brk a b=>rw [q]at p;exact p
 | cont a b=>rw [q]at p;exact p
 | exc d b=>rw [q]at p;exact p
 | fail=>rw [q]at p;exact p
def Fl:dr X [] (cI Y E (M.execs F .nil)):=dr.imp LC (by rintro D U H⟨B,G,a,h,s,p⟩;exact p G U H s)
def Hb (L:lS Y F X E k cf)(I:PT X x (c5 Y (M.Gn F c))) (K:dr X ys (cI Y E (M.execs F b))):PS X (.While x ys [] pos) (cI Y E (M.exec F (.kq n c b))):=by
 refine PS.imp (M6 L.kh I K) λD U H J=> ?_
 obtain⟨B,G,a,h,s,p⟩:=J
 refine⟨λm U H=> ∃G a h,bu Y B G a h U H/\Jq Y E B (M.GI (λa h=>M.Gn F c a h) (λa h=>M.execs F b a h) m a h) D,⟨n,G,a,h,s,p⟩,?_⟩
 rintro m U H ⟨G,a,h,s,p⟩
 cases m with
 | zero=>exact p.j
 | succ m=>
  refine yb s p λt r z C e1 v e=> ?_
  cases t with
  | false=>exact pz (e z U C v)
  | true=>
   refine oA ⟨_,λy A w=>⟨m,Ag _,w⟩,B,z,a,r,v,?_⟩
   have e:Jq Y E B (match M.execs F b a r with
    | .p f j=>M.GI (λa h=>M.Gn F c a h) (λa h=>M.execs F b a h) m f j
    | .cont f j=>M.GI (λa h=>M.Gn F c a h) (λa h=>M.execs F b a h) m f j
    | .brk f j=> .p f j
    | o=>o) D:=e
   cases q:M.execs F b a r with
   | next g i=>rw [q]at e;exact λu y A l=>⟨u,g,i,l,e⟩
   | cont g i=>rw [q]at e;exact λu y A l=>⟨u,g,i,l,e⟩
   | ret w i=>rw [q]at e;exact e
   | brk g i=>rw [q]at e;exact e
   | exc d i=>rw [q]at e;exact e
   | fail=>rw [q]at e;exact e
def Dj (L:lS Y F X E k cf)(he:pJ it t=u0) (ht:xf cf tg one t=u0) (hi:oN cf it iter=u0) (hb:dr X ys (cI Y E (M.execs F b))):
 PS X (.For t iter ys [] pos) (cI Y E (M.exec F (.for tg one it b))):=by
 obtain⟨li,ls⟩:=L3 L.toGo he hi
 refine PS.imp (Dk L.kh L.u li (Zz L.toGo ht) hb (w9 ls)) λD U H qq=> ?_
 obtain⟨B,G,g,h,s,p⟩:=qq
 rw [M.exec]at p
 refine⟨G,g,h,s.p,?_⟩
 cases q:M.Gs F it g h with
 | exc d A=>rw [q]at p;exact p.j
 | fail=>rw [q]at p;exact p
 | ok j A=>
  rw [q]at p
  intro K N e hr J C I c0 T
  have s1:=s.on e hr
  have p1:=Dn s1 p
  have cB:=T rfl
  have s2:=Hq s1
  refine⟨λi m V z=> ∃v n y,(m=j.e-i/\i<=j.e)/\bu Y (lK K g A U N) v n y V z/\Jq Y E (lK K g A U N) (M.Gp (M.Gq tg one) (λg h=>M.execs F b g h) (j.J i) n y) D,
   ⟨j.e,K,g,A,⟨by simp,Af2 _⟩,s2,p1⟩,?_⟩
  rintro i m V z ⟨v,n,y,⟨rfl,hi'⟩,u,c⟩
  have O:=I.keep _ _ _ _ _ cB u.I u.hr
  by_cases l:i<j.e
  .refine .q ⟨I.go i v z O l,_,λU2 H2 w=>⟨j.e-(i+1),by omega,w⟩,λx H'' hy=> ?_⟩
   obtain⟨G4,x4,Z,d,ed,R⟩:=I.gd i v z x H'' O l hy
   have u:=u.on x4 (Z _ u.p.j)
   have P:j.J i=d::j.J (i+1):=by
    rw [Am5 l]
    rw [Aa4 l]at ed
    cases ed
    rfl
   rw [P,M.Gp]at c
   cases Q:M.Gq tg one d n with
   | none=>rw [Q]at c;exact c.j
   | some r=>
    rw [Q]at c
    refine AG Q R u λU2 s3=>⟨_,G4,r,y,s3,?_⟩
    have c:Jq Y E (lK K g A U N) (match M.execs F b r y with
     | .p a f=>M.Gp (M.Gq tg one) (λg h=>M.execs F b g h) (j.J (i+1)) a f
     | .cont a f=>M.Gp (M.Gq tg one) (λg h=>M.execs F b g h) (j.J (i+1)) a f
     | .brk a f=> .p a f
     | o=>o) D:=c
    cases q:M.execs F b r y with
    | next a f=>rw [q]at c;exact λS U3 H3 W=>⟨S,a,f,⟨rfl,by omega⟩,W,c⟩
    | cont a f=>rw [q]at c;exact λS U3 H3 W=>⟨S,a,f,⟨rfl,by omega⟩,W,c⟩
    | ret w f=>rw [q]at c;exact c
    | brk a f=>rw [q]at c;exact c
    | exc d f=>rw [q]at c;exact c
    | fail=>rw [q]at c;exact c
  .have ei:i=j.e:=by omega
   subst ei
   rw [List.drop_length]at c
   exact .p ⟨I.stop _ v z O (Aa8 _) (Aa8 _),c v V z u⟩
theorem qO: ∀(τ) (i j),M.Gm (τ.w i y0) j=if j=i then y0 else M.Gm τ j
 | [],i,j=>by simp
 | x::r,0,0=>by simp
 | x::r,0,j+1=>by simp
 | x::r,i+1,0=>by simp
 | x::r,i+1,j+1=>by simpa using qO r i j
def bu.clear (s:bu Y B G τ h U H):bu Y B G (τ.w i y0) h (U.w i y0) H:=by
 have ne: ∀ {j w},M.Gm _ j=k0 w->j≠i/\M.Gm τ j=k0 w:=λ{j w} e=>by
  rw [qO]at e
  split at e
  .cases e
  .rename_i b;exact⟨b,e⟩
 have c: ∀ {j},j≠i->(U.w i y0)[j]? =U[j]? :=λ{j} b=>Ad1 (Ne.symm b)
 refine⟨⟨by rw [Ad3,Ad3];exact s.p.len,λj w e=> ?_,λp q d w a f e1 e2 o g=> ?_,s.p.j⟩,s.I,s.hr,λj d a e1 e2=> ?_⟩
 .obtain⟨b,e⟩:=ne e
  obtain⟨v,k,n⟩:=s.p.q j w e
  exact⟨v,by rw [c b];exact k,n⟩
 .obtain⟨l,e1⟩:=ne e1
  obtain⟨m,e2⟩:=ne e2
  rw [c l]at g
  rw [c m]
  exact s.p.p p q d w a f e1 e2 o g
 .obtain⟨b,e1⟩:=ne e1
  rw [c b]at e2
  exact s.j j d a e1 e2
def Ot (m:lS Y F X E k cf)(z:bV cf.j c g=u0) (t:cf.ob.er.u (c,f)=u0) (i:bF cf (.j e .p) [x]=u0):
 PS X (.Raise (k0 (.w g [x] [] cpos)) y0 pos) (cI Y E (M.exec F (.dN c f e))):=by
 obtain⟨N,rfl,A,J⟩:=xc z
 obtain⟨u,y,C⟩:=m.nD c f t A J
 refine PS.imp (C _ _ _ _ _ (ig _ m.toGo i) (Ze i _ Aa3)) λD U H w=> ?_
 obtain⟨B,G,n,h,s,p⟩:=w
 rw [M.exec]at p
 refine⟨G,n,h,s.p,?_⟩
 cases q:M.Gu F (.j e .p) n h with
 | exc d o=>rw [q]at p;exact p.j
 | fail=>rw [q]at p;exact p
 | ok b o=>
  rw [q]at p
  intro I K e1 l L r
  cases b with
  | nil=>exact p.j
  | cons d b=>
   cases b with
   | cons _ _=>exact p.j
   | nil=>
    obtain⟨v,O,rfl,rd,rfl⟩:=r
    refine⟨v,rfl,λj a=> ?_⟩
    exact(p (I.more j) _ ((s.I.trans s.hr e1).trans s.hr (jk (.xd [(Zd f,v)]) a)) (l.gY _ a)) c f d rfl u y j v (.q rfl) zb (rd.ext (jk _ a) l)
def He (a:lE Y c) (d:w∈Y.own) (b:(M.Kj Y.cl 8 c).u w=u0):PySem.W.kitCls Y.K (.p (Y.j c)) (.p (Y.j w))=k0 true:=by
 have h:=a.own w d
 rw [b]at h
 unfold An3 at h
 split at h
 .rename_i e
  have e:=by simpa using e
  rw [← e]
  exact a.k.slf
 .exact h
theorem Go.lM (a:Go Y F X k cf):Go Y F X.lM k cf:=⟨a.N,a.K,a.cl,a.ow,a.nd,a.g8,a.lR,a.iJ,a.lZ,a.gl,a.u,a.p,a.dM,a.blt,a.con,λf g=>by
 obtain⟨b,d,j,i,e,l,c⟩:=(a.fn f g).imp λb h=>h.ex
 exact⟨b,⟨d,j,i,e,l,c⟩⟩,a.cls,a.fld,a.kb,a.eZ⟩
theorem PS.lM {st:Y7}(h:PS X.lM st t):PS X st t:=λa s U H D I q=>wpAny_mono (h a s U H D (I.dE _) q) (λ_ _ z=>SP.cb z) λ_ _ z=>False.elim z
def LS (h:pT cf i f ys q=u0): ∃a g x xs j M L,ys= [.j [.j a j] (.w g (x::xs) [] M) L]/\xG cf i a=u0/\bV cf.j f g=u0/\cf.fns.u f=u0/\q (x::xs)=true:=by
 refine kC (λs r h=> ?_) ys h
 refine kE (λh=> ?_) r h
 refine fM (λb e p h=> ?_) s h
 refine kC (λt r h=> ?_) b h
 refine kE (λh=> ?_) r h
 refine Xo (λa p h=> ?_) t h
 refine qm (λg xs l p h=> ?_) e h
 refine kE (λh=> ?_) l h
 refine kC (λx r h=> ?_) xs h
 exact⟨_,_,_,_,_,_,_,rfl,a4 h⟩
def Iz (h:rh cf c nm iv fl hs=u0): ∃w n v i O fp M L,hs= [.j (k0 w) (k0 n) [.j [.j v i] (.p (.j n O) (Zd fl) fp) M] L]/\bV cf.j c w=u0/\cf.c3.u c=u0/\xG cf nm n=u0/\bg n=u0/\xG cf iv v=true:=by
 refine kC (λx r h=> ?_) hs h
 refine kE (λh=> ?_) r h
 refine Bw (λw n b p h=> ?_) x h
 refine kS (λw h=> ?_) w h
 refine kS (λn h=> ?_) n h
 refine kC (λa r h=> ?_) b h
 refine kE (λh=> ?_) r h
 refine fM (λg y p h=> ?_) a h
 refine kC (λt r h=> ?_) g h
 refine kE (λh=> ?_) r h
 refine Xo (λv p h=> ?_) t h
 refine XL (λz l p h=> ?_) y h
 refine Xo (λs p h=> ?_) z h
 obtain⟨e,m,q,j,f⟩:=a5 h
 obtain⟨o,k,d⟩:=a3 f
 cases of_decide_eq_true q
 cases of_decide_eq_true d
 exact⟨_,_,_,_,_,_,_,_,rfl,e,m,j,o,k⟩
def C4 (b:lS Y F X E k cf)(hh:rh cf c nm iv fl hs=u0) (ha:pT cf i f ys (λxs=>bF cf es xs)=u0):PS X (.Try ys hs [] [] pos) (cI Y E (M.exec F (.eR i f es c nm iv fl))):=by
 obtain⟨a,g,x,xs,gp,cp,aq,rfl,P,k2,k3,k4⟩:=LS ha
 obtain⟨w,n,v,vp,np,fp,ap,hp,rfl,g1,g2,g3,S,g5⟩:=Iz hh
 obtain⟨p0,rfl,K,h3⟩:=xc k2
 obtain⟨p1,rfl,h4,h5⟩:=xc g1
 obtain⟨ps,fa,fd,L,bd,kp,hm⟩:=(b.fn f k3).imp λps h=>h.ex
 obtain⟨hb,Z⟩:=b.c3 c g2
 obtain⟨a1,a2⟩:=zC P
 obtain⟨n1,n2⟩:=zC g3
 obtain⟨v1,v2⟩:=zC g5
 have r:=Ze k4
 unfold bg at S
 rw [Aa0]at S
 refine PS.lM (PS.imp (K9 (λ_ _ z=>z) b.kU b.sL b.ex L b.p (b.gl _ K) hm kp bd (dw es b.toGo.lM k4) (b.gl _ h4) (b.cls c Z) hb (by show X.N.B;rw [b.N];exact b.nd) (by show X.N[i]? =_;rw [b.N];exact a1) (b.lR a a2) (by show X.N[nm]? =_;rw [b.N];exact n1) (b.lR n n2) (by show X.N[iv]? =_;rw [b.N];exact v1) (b.lR v v2)
  (Xf rfl) (Xf rfl) h3 h5 (by simpa using S.1) (jb (r _ Aa3)) (qo λe he=>r e (Aa2 _ he)) rfl) λD U H ⟨B,G,I,h,s,p⟩=> ?_)
 rw [M.exec]at p
 refine⟨G,I,h,s.p,?_⟩
 cases q:M.Gf F es I h with
 | exc d J=>rw [q]at p;exact p.j
 | fail=>rw [q]at p;exact p.j
 | ok V J=>
  rw [q]at p
  intro G1 H1 e1 C vs r1
  have s1:=s.on e1 C
  refine⟨G1,J,_,C,Xt r1,Ws V,?_⟩
  have p:Jq Y E B (match F.p f (V.j M.W.arg) J with
   | .j w h=>M.KG w i I h
   | .exc d h=>M.KF F.cl c nm iv fl d I h
   | .q=> .q) D:=p
  cases N:F.p f (V.j M.W.arg) J with
  | fail=>rw [N]at p;exact p.j
  | ok w' K=>
   rw [N]at p
   intro T R e2 j v' rv _
   cases w' with
   | own _=>exact p.j
   | bor _=>exact p.j
   | v d=>exact p T _ R ((s1.on e2 j).dC rv)
  | exc d K=>
   rw [N]at p
   intro T R e2 j
   have t:c∈Y.own:=by rw [← b.ow];exact List.contains_iff_mem.p Z
   have l:Jq Y E B (M.KF F.cl c nm iv fl d I K) D:=p
   unfold M.KF at l
   intro m f' d' ed O W A u z1 Q z3
   subst ed
   rw [M.Kt]at l
   cases z: [c].z (M.Kj F.cl 8 m).u with
   | false=>rw [z]at l;exact l.j
   | true=>
    have P:(M.Kj Y.cl 8 m).u c=true:=by rw [← b.cl];simpa using z
    rw [z]at l
    dsimp only at l
    split at l
    .rename_i hg
     subst hg
     refine⟨_,rfl,b.K▸O.k,b.K▸He O t P,A,u,rfl,Q,b.K▸W,λy o=> ?_⟩
     have s2:=(s1.on e2 j).on (jk (gP y (Y.j m) (k0 A)) o) (j.gY (gP y (Y.j m) (k0 A)) o)
     have rd:aE Y (T.more y) (aF R y (gP y (Y.j m) (k0 A))) (.w m f' d') (.p y):=⟨y,A,u,rfl,.q rfl,.p z1,zb,by rw [Za (Zb Q o)];exact Q,O,W,z3.ext (jk _ o) j⟩
     exact l _ _ _ ((s2.dC rd).dC (z3.ext (jk _ o) j)).clear
    .exact l.j
end
section
open L2 renaming MS.lS.toGo→L2.MS.lS.j
variable {Y:Ge}{F:M.Fx}{k:Nat}{X:Cx}{E:XK}{cf:Cf}
mutual
theorem FY (go:lS Y F X E k cf): ∀(m:M.S){st:Stmt},tu cf m st=u0->PS X st (cI Y E (M.exec F m))
 | .set i e,st,h=>by
  refine fM (λts v p h=> ?_) st h
  refine kC (λt r h=> ?_) ts h
  refine Xo (λx p1 h=> ?_) t h
  refine kE (λh=> ?_) r h
  exact N7 go.j (a2 h).1 (a2 h).2
 | .ag i e,st,h=>by
  refine fM (λts v p h=> ?_) st h
  refine kC (λt r h=> ?_) ts h
  refine Xo (λx p1 h=> ?_) t h
  refine kE (λh=> ?_) r h
  exact F6 go.j (a2 h).1 (a2 h).2
 | .e8 is e,st,h=>by
  refine fM (λts v p h=> ?_) st h
  refine kC (λt r h=> ?_) ts h
  refine pd (λx n p1 h=> ?_) t h
  refine kE (λh=> ?_) r h
  obtain⟨h1,h2,h3⟩:=a3 h
  exact DX go.j h1 h2 h3
 | .bW i c f e,st,h=>by
  refine fM (λts v p h=> ?_) st h
  refine kC (λt r h=> ?_) ts h
  refine XL (λx n p1 h=> ?_) t h
  refine Xo (λx p2 h=> ?_) x h
  refine kE (λh=> ?_) r h
  obtain⟨h0,h⟩:=a2 h
  obtain⟨hn,h4,h6⟩:=a3 h
  obtain⟨h1,h2,h3⟩:=fT h0
  cases of_decide_eq_true hn
  exact xZ go.j h1 h2 h3 h4 h6
 | .ek i kx e,st,h=>by
  refine fM (λts v p h=> ?_) st h
  refine kC (λt r h=> ?_) ts h
  refine gT (λx y p1 h=> ?_) t h
  refine Xo (λx p2 h=> ?_) x h
  refine kE (λh=> ?_) r h
  obtain⟨h0,h4,h6,h7⟩:=a4 h
  obtain⟨h1,h2,h3⟩:=fT h0
  exact Hz go.j h1 h2 h3 h4 h6 h7
 | .cD i kx e,st,h=>by
  refine fM (λts v p h=> ?_) st h
  refine kC (λt r h=> ?_) ts h
  refine gT (λx y p1 h=> ?_) t h
  refine Xo (λx p2 h=> ?_) x h
  refine kE (λh=> ?_) r h
  obtain⟨h0,h4,h6,h7⟩:=a4 h
  obtain⟨h1,h2,h3⟩:=fT h0
  exact LW go.j h1 h2 h3 h4 h6 h7
 | .fW o kx j e,st,h=>by
  refine fM (λts v p h=> ?_) st h
  refine kC (λt r h=> ?_) ts h
  refine kE (λh=> ?_) r h
  refine pd (λts n p h=> ?_) t h
  refine kC (λt1 r h=> ?_) ts h
  refine kC (λt2 r h=> ?_) r h
  refine kE (λh=> ?_) r h
  refine gT (λx y p1 h=> ?_) t1 h
  refine Xo (λa p2 h=> ?_) t2 h
  obtain⟨h1,h2,h3,h4,h5⟩:=a5 h
  obtain⟨h5,h6⟩:=a2 h5
  exact Dp go.j h1 h2 h3 h4 h5 h6
 | .bZ o kx e,st,h=>by
  refine fM (λts v p h=> ?_) st h
  refine kC (λt r h=> ?_) ts h
  refine gT (λx y p1 h=> ?_) t h
  refine kE (λh=> ?_) r h
  obtain⟨h1,_,_,h4,h5,h6⟩:=a6 h
  exact HM go.j h1 h4 h5 h6
 | .app i e,st,h=>by
  refine nh (λc p h=> ?_) st h
  refine qm (λf x l q h=> ?_) c h
  refine kE (λh=> ?_) l h
  refine kC (λv r h=> ?_) x h
  refine kE (λh=> ?_) r h
  obtain⟨h1,h2,h3⟩:=a3 h
  exact K3 go.j h1 h2 h3
 | .ext i e,st,h=>by
  refine nh (λc p h=> ?_) st h
  refine qm (λf x l q h=> ?_) c h
  refine kE (λh=> ?_) l h
  refine kC (λv r h=> ?_) x h
  refine kE (λh=> ?_) r h
  obtain⟨h1,h2,h3⟩:=a3 h
  exact Ou go.j h1 h2 h3
 | .fF a e,st,h=>by
  refine nh (λc p h=> ?_) st h
  refine qm (λf x l q h=> ?_) c h
  refine kE (λh=> ?_) l h
  refine kC (λv r h=> ?_) x h
  refine kE (λh=> ?_) r h
  refine XL (λx n q h=> ?_) f h
  obtain⟨h0,h1,h2,h3,h4⟩:=a5 h
  rw [Aa0]at h4
  cases of_decide_eq_true h0
  refine Ld go.j ?_ h1 h2 h3 h4.1
  cases x with
  | Name _ _=>rfl
  | Subscript _ _ _=>rfl
  | _=>cases h4.2
 | .bO i c f e,st,h=>by
  refine fM (λts v p h=> ?_) st h
  refine kC (λt r h=> ?_) ts h
  refine XL (λx n p1 h=> ?_) t h
  refine Xo (λx p2 h=> ?_) x h
  refine kE (λh=> ?_) r h
  obtain⟨h0,hn,h4,h6⟩:=a4 h
  obtain⟨h1,h2,h3⟩:=fT h0
  cases of_decide_eq_true hn
  exact NA go.j h1 h2 h3 h4 h6
 | .eL,st,h=>λpins s U H D I ⟨B,G,τ,h,s',p⟩=>p.j
 | .ex e,st,h=>by
  refine nh (λv p h=> ?_) st h
  exact Lj go.j (a2 h).1 (a2 h).2
 | .ret e,st,h=>by
  refine Lo (λv p h=> ?_) st h
  refine kS (λv h=> ?_) v h
  exact Fm go.j h
 | .iff c a b,st,h=>by
  refine Eo (λx y z p h=> ?_) st h
  obtain⟨h0,h1,h2,h3⟩:=a4 h
  exact Nx ((Qc c go.j h1).2 h0) (dO go a h2) (dO go b h3)
 | .kq n c b,st,h=>by
  refine LN (λx y z p h=> ?_) st h
  refine kE (λh=> ?_) z h
  obtain⟨h0,h1,h2⟩:=a3 h
  exact Hb go ((Qc c go.j h1).2 h0) (dO go b h2)
 | .for tg one it b,st,h=>by
  refine FX (λt i y z p h=> ?_) st h
  refine kE (λh=> ?_) z h
  obtain⟨h1,h2,h3,h4⟩:=a4 h
  exact Dj go h1 h2 h3 (dO go b h4)
 | .dN c f e,st,h=>by
  refine Hi (λx y p h=> ?_) st h
  refine kS (λx h=> ?_) x h
  refine qm (λg x l q h=> ?_) x h
  refine kE (λh=> ?_) l h
  refine kC (λx r h=> ?_) x h
  refine kE (λh=> ?_) r h
  obtain⟨h0,h1,h2,h3⟩:=a4 h
  cases nn h0
  exact Ot go h1 h2 h3
 | .eR i f es c nm iv fl,st,h=>by
  refine F4 (λb hs p h=> ?_) st h
  exact C4 go (a2 h).1 (a2 h).2
theorem dO (go:lS Y F X E k cf): ∀(m:M.Ss){sts:List Stmt},c7 cf m sts=u0->dr X sts (cI Y E (M.execs F m))
 | .nil,sts,h=>by
  cases Af8.p h
  exact Fl
 | .cons s ss,sts,h=>by
  refine kC (λst r h=> ?_) sts h
  exact Nj (FY go s (a2 h).1) (dO go ss (a2 h).2)
end
end
structure Txt (K:Ab) (mg:Str->Option Value) (f:String) where
 st:Stmt
 fa:Addr
 fd:FuncData
 N:List Str
 ps:List Str
structure nc {K:Ab}{mg:Str->Option Value}{f:String}(t:Txt K mg f) (d:M.Fn) (fns own ez c3:List String) (ob:gL):Prop where
 fn: ∃x y8,kD K x y8 t.st t.fa t.fd
 bd:Binds K t.fd t.ps []
 sc:jB t.N t.ps (Xm t.st)
 n:t.N.e=d.n
 p:t.ps.e=d.ps
 le:d.ps<=d.n
 HK:c7 ⟨Xm t.st,t.N,fns,own,ez,c3,ob⟩ d.body (ZJ t.st)=u0
structure oX (Y:Ge) (p:M.Prog) (mg:Str->Option Value) (own ez c3:List String) (ob:gL):Prop where
 cl:p.cl=Y.cl
 ow:own=Y.own
 blt: ∀x,x∈cv->mg (Zd x)=y0
 con: ∀x d,p.con.p x=k0 d-> ∃u v,mg (Zd x)=k0 u/\RelV v u/\ ∀G H,aE Y G H d v
 cls: ∀c,own.u c=u0->mg (Zd c)=k0 (.p (Y.j c))
 nD: ∀c f,ob.er.u (c,f)=true->lE Y c/\mO Y.K (Y.j c) (Zd f)/\nZ Y.K (Y.j c) (Zd f)/\mg (Zd c)=some (.p (Y.j c))/\ ∃fI fd ps,PySem.W.findIn Y.K (.p (Y.j c)) "__init__" =some (some (.p fI))/\nQ Y.K (Zd f) fI fd ps
 c3: ∀c,c3.u c=true->PySem.W.mroIn Y.K (Y.j c) (.j "BaseException")=some true/\own.u c=true
 fld: ∀c f,ob.fl.u (c,f)=u0->dA Y.K (Y.j c)/\cj Y.K (Y.j c) (Zd f)
 kb: ∀c m q,ob.mt.u (c,m,q)=u0->dA Y.K (Y.j c)/\ob.ms.u q=u0/\nW Y.K (Y.j c) (Zd m) (Y.ma q)
 eZ: ∀c q,ob.eZ.u (c,q)=u0->mg (Zd c)=k0 (.p (Y.j c))/\ob.ms.u q=u0/\Mk Y.K (Y.j c) (Y.ma q)
section
variable {P:Y9}{w:Y8}{Y:Ge}{mg:Str->Y1 Y2}{base:Y6}{p:M.Prog}{own ez c3 fns:Y0 String}{ob:gL}
def Ip (g:ah Y G h H) (r:bq Y G H ws vs) (no: ∀w∈ws,nO w=u0) (u:N.e=n):bu Y ⟨G,H,h⟩ G (ws.j k0++Aa9 (n-ws.e) y0) h (start N vs) H:=by
 have get: ∀ {i}{w},M.Gm (ws.j k0++Aa9 (n-ws.e) y0) i=k0 w->ws[i]? =k0 w:=λ{i w} e=>by
  rw [xH]at e
  by_cases t:i<ws.e
  .rw [Ac5 (by simp_all),Ac1]at e
   cases q:ws[i]? with
   | none=>rw [q]at e;cases e
   | some z=>rw [q]at e;exact e
  .rw [Ad6 (by simp_all),Ai2]at e
   split at e<;>cases e
 have d: ∀ {ws}{vs}{i:Nat}{w},bq Y G H ws vs->ws[i]? =k0 w-> ∃v,vs[i]? =k0 v/\aj Y G H w v:=by
  intro ws
  induction ws with
  | nil=>intro vs i w _ e;simp at e
  | cons a r x=>
   rintro vs i w ⟨v,y,e1,m,o⟩ e
   subst e1
   cases i with
   | zero=>simp at e;subst e;exact⟨v,rfl,m⟩
   | succ i=>
    obtain⟨k,l,s⟩:=x o (by assumption)
    exact⟨k,by simpa using l,s⟩
 have b: ∀ {i}{c},M.Gm _ i≠k0 (.j c):=λ{i c} e=>by
  have:=no _ (Ac4 (get e))
  cases this
 refine⟨⟨?_,λi w e=> ?_,λi j c w a p e1=>absurd e1 b,g⟩,Ext.refl,g,λi c a e1=>absurd e1 b⟩
 .unfold start
  rw [Aa5,Aa5,Aa,Aa,Ae2,Ae2,u,r.length]
 .obtain⟨v,e2,f⟩:=d r (get e)
  refine⟨v,?_,f⟩
  unfold start
  have t:=(Aa1.p e2).1
  rw [Ac5 (by simp_all),Ac1,e2]
  rfl
def Mm (k:ah Y G h H) (p:mX Y E G H (M.Gw h.e o) Q):Jq Y E ⟨G,H,h⟩ o { nx:=λ_ H'=>Q .ak H',rt:=Q }:=by
 have g: ∀ {w}{c}{b}{H'}{v},(∀ i,w≠ .p i)->mX Y E G H (M.fin h.e w c) Q->Ext G H b H'->ah Y b c H'->aj Y b H' w v->aM [] [] H w v->Q v H':=λ{w c b H' v} q p e a r f=>by
  unfold M.fin at p
  split at p
  .exact p b H' e a v r f
  .split at p
   .rename_i j
    rw [Aa0,k.y]at j
    have n:=e.cut
    rw [k.y]at p
    exact p (b.cut G.n) H' n (a.cut e.le j.2) v (r.cut G.n e.le j.1 q) f
   .exact p b H' e a v r f
 cases o with
 | next m c=>exact λb s H' l=>g (λi z=>by cases z) p l.I l.p.j rfl trivial
 | ret w c=>
  cases w with
  | bor i=>exact p.j
  | v d=>exact λb v H' e a r f=>g (λi z=>by cases z) p e a r f
  | own i=>exact λb v H' e a r f=>g (λi z=>by cases z) p e a r f
 | exc d c=>exact p
 | brk m c=>exact p.j
 | cont m c=>exact p.j
 | fail=>exact p.j
end
section
variable {P:Y9}{w:Y8}{Y:Ge}{mg:Str->Y1 Y2}{base:Y6}{p:M.Prog}{own ez c3 fns:Y0 String}{ob:gL}
def sx (P:Y9) (w:Y8) (Y:Ge) (mg:Str->Y1 Y2) (base:Y6) (p:M.Prog) (k:Nat) (f:String):Prop:=
 ∃ps a fd,bz P w Y.K mg base (dP P w) (2*k+1) a fd ps (hJ Y (M.call p k f))/\Binds Y.K fd ps []/\Ah5 Y.K (.p a)=u0/\mg (Zd f)=k0 (.p a)
def vj (P:Y9) (w:Y8) (Y:Ge) (mg:Str->Y1 Y2) (base:Y6) (p:M.Prog) (k:Nat) (q:String):Prop:=
 ∃ps fd,bz P w Y.K mg base (dP P w) (2*k+1) (Y.ma q) fd ps (hJ Y (M.call p k q))/\Binds Y.K fd ps []
def pU (i:oX Y p mg own ez c3 ob){t:Txt Y.K mg f}(ok:nc t d fns own ez c3 ob) (V:p.fns.p f=k0 d) (k) (ih: ∀g,fns.u g=u0->sx P w Y mg base p k g) (T: ∀q,ob.ms.u q=u0->vj P w Y mg base p k q):
 bz P w Y.K mg base (dP P w) (2*(k+1)+1) t.fa t.fd t.ps (hJ Y (M.call p (k+1) f)):=by
 have a: ∀ {j}{h},j.e≠d.ps->M.call p (k+1) f j h= .q:=λ{j h} R=>by
  rw [M.call,V]
  simp [M.run,R]
 have l:=λ{j h} R=>M.Gb V k j h R
 obtain⟨x,S,F⟩:=ok.fn
 refine kD.sI F ok.sc (λvs H Q E ⟨G,h,j,C,z,no,q⟩=> ?_) λcdv A I s H vs Q E b ⟨G,h,j,C,z,no,q⟩=> ?_
 .by_cases o:j.e=d.ps
  .rw [← z.length,o,ok.p]
  .rw [a o]at q;exact q.j
 .by_cases o:j.e=d.ps
  rotate_left
  .rw [a o]at q;exact q.j
  rw [l o]at q
  refine⟨cI Y E (M.execs ⟨M.call p k,p.cl,p.con⟩ d.body),dO (k:=2*k+1) ?_ d.body ok.HK,?_⟩
  .refine { N:=rfl,K:=rfl,cl:=i.cl,ow:=i.ow,nd:=ok.sc.nd,g8:=λx n=>uG n,lR:=λx n=>n,iJ:=λx n=>⟨yZ n,.p rfl⟩,lZ:=λx n=>n,gl:=λx n=>oW n,calm:=rfl,room:=b.mono (by omega),dM:=b,blt:=i.blt,con:=i.con,fn:=λg D=> ?_,cls:=i.cls,fld:=i.fld,kb:=λc m q y=> ?_,eZ:=λc q y=> ?_,kh:=Cc,kU:=rfl,sL:=rfl,ex:=rfl,nD:=λc f X D hd=> ?_,c3:=i.c3 }
   .obtain⟨L,fa,O,r,u,h3,h4⟩:=ih g D
    exact⟨L,⟨fa,O,r,u,h3,h4⟩⟩
   .obtain⟨v,B,J⟩:=i.kb c m q y
    obtain⟨L,O,r,u⟩:=T q B
    exact⟨v,_,O,L,J,r,u⟩
   .obtain⟨v,B,J⟩:=i.eZ c q y
    obtain⟨L,O,r,u⟩:=T q B
    exact⟨v,_,O,L,J,r,u⟩
   .obtain⟨xo,xg,xe,W,fI,O,L,hi,Z⟩:=i.nD c f X
    exact⟨xo,xg,λnp U pos e t ha hp=>CM xe hi Z W (oW D) (b.mono (by omega)) ha (jb hp) hd⟩
  .refine⟨⟨G,H,h⟩,G,j.j k0++Aa9 (d.n-d.ps) y0,h,?_,Mm C q⟩
   have:=Ip C z no ok.n
   rw [o]at this
   exact this
def yF (f) (fa) (fd) (ps):bz P w Y.K mg base (dP P w) (2*0+1) fa fd ps (hJ Y (M.call p 0 f)):=
 ⟨by rintro c H Q E⟨G,h,d,e,g,no,q⟩;exact q.j,by rintro A a s H b i c Q E _ _ _ _⟨G,h,d,e,g,no,q⟩;exact q.j⟩
def F1 (l:oX Y p mg own ez c3 ob) (all: ∀f,fns.u f=u0-> ∃d,p.fns.p f=k0 d/\ ∃t:Txt Y.K mg f,nc t d fns own ez c3 ob/\Ah5 Y.K (.p t.fa)=u0/\mg (Zd f)=k0 (.p t.fa))
 (a: ∀q,ob.ms.u q=u0-> ∃d,p.fns.p q=k0 d/\ ∃t:Txt Y.K mg q,nc t d fns own ez c3 ob/\t.fa=Y.ma q): ∀k,(∀ f,fns.u f=u0->sx P w Y mg base p k f)/\ ∀q,ob.ms.u q=u0->vj P w Y mg base p k q:=by
 intro k
 induction k with
 | zero=>
  refine⟨λf h=> ?_,λq e=> ?_⟩
  .obtain⟨d,b,t,ok,i,g⟩:=all f h
   exact⟨t.ps,t.fa,t.fd,yF f _ _ _,ok.bd,i,g⟩
  .obtain⟨d,b,t,ok,j⟩:=a q e
   exact⟨t.ps,t.fd,yF q _ _ _,ok.bd⟩
 | succ k c=>
  refine⟨λf h=> ?_,λq e=> ?_⟩
  .obtain⟨d,b,t,ok,i,g⟩:=all f h
   exact⟨t.ps,t.fa,t.fd,pU l ok b k c.1 c.2,ok.bd,i,g⟩
  .obtain⟨d,b,t,ok,j⟩:=a q e
   exact⟨t.ps,t.fd,j▸pU l ok b k c.1 c.2,ok.bd⟩
def pV (K:Ab):Sp:=λc H Q _=> ∃(a:Y5) (b:Y0 Int),c= [.p a]/\bA K H a (b.j V.int)/\b.e<=63/\ ∀H',Q (.C u0) H'
theorem As : ∀(ns:Y0 Int),aa Y G H (ns.j M.D.int) (ns.j V.int)
 | []=>rfl
 | n::ns=>⟨_,_,rfl,rfl,As ns⟩
def DL (F:bz P w Y.K mg base (dP P w) n fa fd ps (hJ Y (M.call p k "law"))) (gz: ∀ns:Y0 Int,ns.e<=63-> ∃h',M.call p k "law" [.v (.u (ns.j .o))] []= .j (.v (.C true)) h'):
 bz P w Y.K mg base lQ n fa fd ps (pV Y.K):=by
 refine bz.calm F ?_
 rintro y H Q E ⟨a,ns,m,d,u,q⟩
 subst m
 obtain⟨h',h⟩:=gz ns u
 have fin: ∀G:Gh,ah Y G [] H->iW Y G H a _->hJ Y (M.call p k "law") [.p a] H Q (fun _ _ _=>False):=fun G l i=>by
  refine⟨G,[],[.v (.u _)],l,⟨.p a,[],rfl,⟨a,ns.j V.int,rfl,i,As ns⟩,rfl⟩,λw j=> ?_,?_⟩
  .cases Ac6.p j;rfl
  .rw [h]
   intro x t _ _ v r _
   cases (r)
   exact q t
 obtain d | d:=d
 .refine fin ⟨λb=>b=a,λ_=>0,0⟩ ⟨rfl,λr c e=>by simp at e,λr s f=>absurd f (Ag3 _),λb g=> ?_⟩ (.p ⟨rfl,d⟩)
  subst g
  obtain z | ⟨o,z⟩:=d
  .exact⟨_,z⟩
  .exact⟨_,z⟩
 .exact fin ⟨λ_=>False,λ_=>0,0⟩ ⟨rfl,λr c e=>by simp at e,λr s f=>absurd f (Ag3 _),λb g=>g.j⟩ (.q d)
def walk {l:PySem.W.OpenLaw}{K:Params->Ab}(k) (e:bb k callerA) (j:l.most=k0 63) (b:d.params.defaults= [])
 (n: ∀ w h,YP w h->(K w.p).In h)
 (F: ∀ w mg i h,(K w.p).In h->h.Ns mainGlobals mg->mg d.name=k0 (.p i) →
   ∃fd:YZ,(∀ s u,BindsTo s fd ⟨[u],[]⟩ [(x,u)])/\ ∀base:Y6,(K w.p).In base->base.Ns mainGlobals mg->bz l.prog w (K w.p) mg base lQ k i fd [x] (pV (K w.p))):
 PySem.W.WalkO q loose XP YP l.row.toRowW d [] (λf vs=>PySem.call f vs):=
 L2.ij j (by decide) b e n F (λ_ _ a g m _ c=>⟨a,g,rfl,c,m,λ_=>rfl⟩) λ_ _ _ _ _ z=>z
end
open PySem PySem.W PyProof.Rows KTD
theorem yT {f g:Str->Y1 (Str×Y2)}: ∀ {l:Y0 Str},(∀ n∈l,f n=g n)->l.T f=l.T g
 | [],_=>rfl
 | a::l,h=>by rw [Aj8,Aj8,h a Aa3,yT λn b=>h n (Aa2 _ b)]
theorem uf: ∀ {ps:Y0 Str}{b:Y0 Y2},ps.B->b.e=ps.e->ps.T (λn=>((ps.Z b).p n).j (n, ·))=ps.Z b
 | [],b,_,_=>rfl
 | p::ps,[],_,h=>by cases h
 | p::ps,u::b,d,h=>by
  have a:=Ah9.p d
  rw [List.zip_cons_cons,List.filterMap_cons_some (by rw [List.lookup_cons_self];rfl)]
  congr 1
  refine(yT λn c=> ?_).j (uf a.2 (Nat.succ.inj h))
  rw [Ab8,beq_eq_false_iff_ne.q (λe=>a.1 (e▸c):n≠p)]
def ND {ps:Y0 Str}{a:Y0 Y2}(h:a.e=ps.e)(b:n∈ps):((ps.Z a).p n).q=true:=by
 induction ps generalizing a with
 | nil=>cases b
 | cons p ps c=>
  cases a with
  | nil=>cases h
  | cons u a=>
   rw [List.zip_cons_cons,Ab8]
   cases e:n==p with
   | true=>rfl
   | false=>exact c (Nat.succ.inj h) ((Ab7.p b).w (beq_eq_false_iff_ne.p e))
noncomputable abbrev d9 (a:YZ):Y0 Str:=a.p.args.j (·.arg)
def HZ (h1:fd.p.posonlyargs= []) (h2:fd.p.vararg=y0) (h3:fd.p.kwonlyargs= []) (h4:fd.p.kwarg=y0) (h5:fd.defaults= .u) (nd:(d9 fd).B)(hl:us.e=(d9 fd).e):bindArgs fd ⟨us,[]⟩=pure ((d9 fd).Z us):=by
 have e: ∀k,((d9 fd).A k).Q (λn=>(((d9 fd).Z us).p n).u)= []:=λk=>List.filter_eq_nil_iff.q λn hn=>by
  have:=ND hl (List.mem_of_mem_take hn)
  cases q:((d9 fd).Z us).p n with
  | none=>rw [q]at this;cases this
  | some _=>simp
 obtain⟨n,q,⟨po,as,va,ko,kd,ka,df⟩,b,sc,g,cl,d,kV,doc,pm,an,cd,ct,bi⟩:=fd
 cases h1
 cases h2
 cases h3
 cases h4
 cases h5
 refine(if_neg ?_).j ((if_neg ?_).j ?_)
 .simpa using Al3 hl
 .exact λz=>by
   have z':=(congrArg (λl:Y0 Str=> !l.y) (e _)).p.j z
   cases z'
 .refine Eq.trans ?_ (congrArg pure (uf nd hl))
  rw [show ∀k,List.drop k (none.getD #[]).p= []from λk=>List.drop_nil,List.zip_nil_right]
  exact congrArg (λl:Y0 Str=>(pure _:Sem _)) (Ad8 _)
noncomputable def l1 (K:Frag) (a:Y5) (f:YZ->Y0 Y7->Bool):Bool:=match K.p a with
 | some ⟨_,_,.func fd,_⟩=>(match fd.body with
  | .stmts b=>f fd b
  | _=>k9)
 | _=>k9
def p6 {K:Frag}(h:l1 K a f=u0): ∃oc i fd sl b,K.p a=k0 ⟨oc,i,.func fd,sl⟩/\fd.body= .stmts b/\f fd b=true:=by
 unfold l1 at h
 split at h
 .rename_i e
  split at h
  .rename_i e2
   exact⟨_,_,_,_,_,e,e2,h⟩
  .cases h
 .cases h
def lW (K:Frag) (a:Y5) (b:YZ) (N:Y0 Str):Prop:=
 (b.globals=mainGlobals/\b.builtins=builtinsNs/\b.closure= []/\b.defaults= .u)/\codeIn K b.code b.qualname=u0/\keepIn K (.p a)=u0 ∧
 (b.p.posonlyargs.y=u0/\b.p.vararg.u=u0/\b.p.kwonlyargs.y=u0/\b.p.kwarg.u=u0) ∧
 b.j.p= .j/\b.j.isCoroutine=k9/\b.j.isGenerator=k9/\N.B/\N.A (d9 b).e=d9 b/\(∀ x∈d9 b,b.j.j.p x=k0 .local\/b.j.j.p x=k0 .p)/\ ∀y∈b.j.j,y.2≠ .u
instance {K:Frag}{a:Y5}{fd:YZ}{N:Y0 Str}:Decidable (lW K a fd N):=by unfold lW;infer_instance
def su {K:Frag}(l:K.p a=k0 ⟨oc,od,.func fd,sl⟩) (r:fd.body= .stmts b) (p:lW K a fd N):
 ∃st x q,ZJ st=b/\Xm st=fd.j/\kD K x q st a fd/\jB N (d9 fd) fd.j/\ ∀i:Y0 Y2,i.e=(d9 fd).e->bindArgs fd ⟨i,[]⟩=pure ((d9 fd).Z i):=by
 obtain⟨⟨g,bi,j,e⟩,h,s,⟨u,a2,a3,a4⟩,m,f,n,d,c,k,o⟩:=p
 refine⟨.FunctionDef fd.name fd.p b [] y0 [] fd.j y0 fd.name ⟨0,0,0,0⟩,fd.name,fd.qualname,rfl,rfl,⟨⟨oc,od,fd.kwdefaults,fd.doc,fd.pyModule,fd.annotations,fd.code,fd.closureTuple,sl,?_,l,h⟩,s⟩,⟨m,f,n,d,c,k,o⟩,λi t=>HZ (Af8.p u) (Aj5.p a2) (Af8.p a3) (Aj5.p a4) e (c▸(List.take_sublist _ _).nodup d) t⟩
 cases fd
 cases r
 cases g
 cases bi
 cases j
 cases e
 rfl
noncomputable def kX:Y1 (Y1 Y2)->Y5
 | some (k0 (.p a))=>a
 | _=>0
abbrev b7 (K:Frag) (c:String):Y5:=kX (nsIn K mainGlobals (Zd c))
abbrev m9 (K:Frag) (c:String):Prop:=nsIn K mainGlobals (Zd c)=k0 (k0 (.p (b7 K c)))
noncomputable def iq (K:Frag) (a:gL) (q:String):Y5:=match a.mt.find? (·.2.2==q)with
 | some (c,m,_)=>kX (findIn K (.p (b7 K c)) (Zd m))
 | none=>match a.eZ.find? (·.2==q)with
  | some (c,_)=>kX (findIn K (.p (b7 K c)) "__init__")
  | none=>0
noncomputable def Hy (sc:YX):Y0 Str:=sc.j.T λy=>if y.2= .local\/y.2= .p then k0 y.1 else y0
def XP (K:Frag) (a:M.dA) (own:Y0 String) (c:String):Prop:=((findIn K (.p (b7 K c)) "__getattribute__" =some (some (.q "BaseException.__getattribute__"))/\findIn K (.p (b7 K c)) "__getattr__" =some none/\findIn K (.p (b7 K c)) "__class__" =some (some (.q "object.__class__"))) ∧
 specialIn K (.q "object.__class__") "__get__" =some (some (.q "getset_descriptor.__get__"))/\takesIn K (.q "object.__class__")=some true/\mroIn K (b7 K c) (.j "object")=some true/\mroIn K (b7 K c) (.j "BaseException")=some true/\kitCls K (.p (b7 K c)) (.p (b7 K c))=some true/\(clsIn K (b7 K c)).q=true) ∧
 (∀ t∈own,kitOne K (.p (b7 K c)) (.p (b7 K t))=some ((M.Kj a 8 c).u t))/\kitOne K (.p (b7 K c)) (.j "ValueError")=some ((M.Kj a 8 c).u "ValueError")/\m9 K c
instance {K:Frag}{cl:M.dA}{own:Y0 String}{c:String}:Decidable (XP K cl own c):=by unfold XP;infer_instance
def p5 (K:Frag) (p:M.Prog) (c own e g:Y0 String) (h:gL) (nm:Y0 (String×Y0 String)) (a:Y5) (f:String):Bool:=l1 K a λfd b=>match p.fns.p f with
 | some d=>(λN=>y9 (lW K a fd N/\N.e=d.n/\(d9 fd).e=d.ps/\d.ps<=d.n)&&c7 ⟨fd.j,N,c,own,e,g,h⟩ d.body b) (((nm.p f).j λl=>l.j Zd).getD (Hy fd.j))
 | none=>k9
def pk {K:Frag}(mg) (h:p5 K p fns own ez c3 ob nm a f=u0):
 ∃d,p.fns.p f=k0 d/\ ∃t:Txt K mg f,nc t d fns own ez c3 ob/\t.fa=a/\keepIn K (.p a)=u0/\ ∃oc i sl,K.p a=k0 ⟨oc,i,.func t.fd,sl⟩/\t.ps=d9 t.fd/\ ∀j:Y0 Y2,j.e=t.ps.e->bindArgs t.fd ⟨j,[]⟩=pure (t.ps.Z j):=by
 obtain⟨oc,i,L,sl,b,l,v,h⟩:=p6 h
 cases e:p.fns.p f with
 | none=>rw [e]at h;cases h
 | some d=>
  rw [e]at h
  generalize ((nm.p f).j λl=>l.j Zd).getD _=N at h
  obtain⟨m,g⟩:=(Aa0 _ _).mp h
  obtain⟨q,w,o,n⟩:=of_decide_eq_true m
  obtain⟨r,x,u,rfl,s,F,c,k⟩:=su l v q
  rw [← s]at c g
  exact⟨d,rfl,⟨r,a,L,_,d9 L⟩,⟨⟨x,u,F⟩,.all k,c,w,o,n,g⟩,rfl,F.kp,oc,i,sl,l,rfl,k⟩
noncomputable def AM (f n m:Str) (b:Y0 Y7):Bool:=lC b λst r=>kZ r (fv st λd v=>lC d λt r=>kZ r (ZG t λx g _=>Xp x λa=>Xp v λc=>y9 (a=n)&&y9 (g=f)&&y9 (c=m)))
def DH (h:AM f n m b=u0): ∃L p2 M i,b= [.j [.p (.j n L) f p2] (.j m M) i]:=by
 refine kC (λd r h=> ?_) b h
 refine kE (λh=> ?_) r h
 refine fM (λl v p h=> ?_) d h
 refine kC (λt r h=> ?_) l h
 refine kE (λh=> ?_) r h
 refine XL (λx g p h=> ?_) t h
 refine Xo (λa p h=> ?_) x h
 refine Xo (λc p h=> ?_) v h
 obtain⟨j,e,k⟩:=a3 h
 cases of_decide_eq_true j
 cases of_decide_eq_true e
 cases of_decide_eq_true k
 exact⟨_,_,_,_,rfl⟩
def yI (K:Frag) (f:Str) (a:Y5):Bool:=l1 K a λfd b=>match d9 fd with
 | [n,m]=>y9 (lW K a fd [n,m]/\(n==("__debug__" :Str))=false/\(m==("__debug__" :Str))=false/\(n==("__classdict__" :Str))=false/\(m==("__classdict__" :Str))=false)&&AM f n m b
 | _=>k9
def LR {K:Frag}(h:yI K f a=u0) (w:isFn K (.p a)=u0): ∃fd ps,nQ K f a fd ps:=by
 obtain⟨oc,y,fd,sl,b,l,u,h⟩:=p6 h
 split at h
 .rename_i n m e
  obtain⟨g,r⟩:=(Aa0 _ _).mp h
  obtain⟨q,d⟩:=of_decide_eq_true g
  obtain⟨j,x,p,rfl,o,F,c,s⟩:=su l u q
  obtain⟨t,v,i,k,e2⟩:=DH r
  rw [← o]at c
  exact⟨fd,d9 fd,⟨x,p,j,_,n,m,t,v,i,k,F,e,rfl,c,e2,d⟩,.all s,beq_iff_eq.p w⟩
 .cases h
noncomputable def rV (K:Frag) (a:Y5) (f:Y0 Y2->Bool):Bool:=match K.p a with
 | some o=>(match o.j with
  | .j b _=>y9 (o.cls= .j "tuple" /\o.u=none/\b.j<=100)&&f b.p
  | _=>k9)
 | none=>k9
def EM (h:rV Y.K a f=u0): ∃i,f i=u0/\ ∀vs,Vals vs i-> ∀G H,fq Y G H a vs:=by
 unfold rV at h
 split at h
 .rename_i o e
  split at h
  .rename_i b n e2
   obtain⟨g,c⟩:=(Aa0 _ _).mp h
   obtain⟨d,k,j⟩:=of_decide_eq_true g
   exact⟨_,c,λvs r G H=> .q ⟨o,b,n,e,d,k,e2,Ab5 j (by rw [sizeLine_eq];decide),r⟩⟩
  .cases h
 .cases h
mutual
noncomputable def rN (K:Frag):M.D->Value->Bool
 | .o i,.o j _=>y9 (i=j)
 | .j s,.str t _=>y9 (aN s=t)
 | .q ds,.p a=>rV K a λus=>gb K ds us
 | _,_=>k9
noncomputable def gb (K:Frag):List M.D->List Value->Bool
 | [],[]=>u0
 | d::ds,u::us=>rN K d u&&gb K ds us
 | _,_=>k9
end
def sf (K:Frag) (x:String) (d:M.D):Bool:=match nsIn K mainGlobals (Zd x)with
 | some (k0 u)=>rN K d u
 | _=>k9
mutual
theorem AQ {Y:Ge}: ∀ {d:M.D}{u:Value},rN Y.K d u=u0-> ∃v,RelV v u/\ ∀G H,aE Y G H d v
 | .o _,.o _ _,h=>by cases of_decide_eq_true h;exact⟨.o _,⟨_,rfl⟩,λ_ _=>rfl⟩
 | .j _,.str _ _,h=>by cases of_decide_eq_true h;exact⟨.j _,⟨_,rfl⟩,λ_ _=>rfl⟩
 | .q ds,.p a,h=>by
  obtain⟨us,h1,h2⟩:=EM h
  obtain⟨vs,r,h3⟩:=fg h1
  exact⟨.p a,rfl,λG H=>⟨a,vs,rfl,h2 vs r G H,h3 G H⟩⟩
theorem fg {Y:Ge}: ∀ {ds:List M.D}{us:List Value},gb Y.K ds us=u0-> ∃vs,Vals vs us/\ ∀G H,aa Y G H ds vs
 | [],[],_=>⟨[],.p,λ_ _=>rfl⟩
 | d::ds,u::us,h=>by
  obtain⟨h1,h2⟩:=(Aa0 _ _).mp h
  obtain⟨v,r1,h3⟩:=AQ h1
  obtain⟨vs,r2,h4⟩:=fg h2
  exact⟨v::vs,.j r1 r2,λG H=>⟨v,vs,rfl,h3 G H,h4 G H⟩⟩
end
theorem tV : ∀ {l:Y0 (String×α)}{x}{d},l.p x=k0 d->(x,d)∈l
 | (k,v)::l,x,d,h=>by
  rw [Ab8]at h
  by_cases q:(x==k)=u0
  .rw [q]at h;cases h;rw [eq_of_beq q];exact Aa3
  .rw [eq_false_of_ne_true q]at h;exact Aa2 _ (tV h)
abbrev uv (K:Frag) (C:Y5):Prop:=plainGet K C Str.empty=true/\hasDictIn K C=true/\plainOver K C=true/\findIn K (.p C) "__setattr__" =some (some (.q "object.__setattr__"))
def oE (K:Frag) (p:M.Prog) (b own e d:Y0 String) (a:gL) (nm:Y0 (String×Y0 String)):Prop:=
 (∀ x∈cv,nsIn K mainGlobals (Zd x)=k0 y0)/\(∀ x∈p.con,sf K x.1 x.2=u0)/\(∀ c∈own,m9 K c) ∧
 (∀ c∈a.er,XP K p.cl own c.1/\(QP K (b7 K c.1)=true/\kY K (b7 K c.1)=true/\findIn K (.p (b7 K c.1)) "__setattr__" =some (some (.q "object.__setattr__"))/\findIn K (.p (b7 K c.1)) (Zd c.2)=some none/\keepIn K (.p (b7 K c.1))=true) ∧
   findIn K (.p (b7 K c.1)) "__init__" =some (some (.p (kX (findIn K (.p (b7 K c.1)) "__init__"))))/\yI K (Zd c.2) (kX (findIn K (.p (b7 K c.1)) "__init__"))=true/\isFn K (.p (kX (findIn K (.p (b7 K c.1)) "__init__")))=true) ∧
 (∀ c∈d,mroIn K (b7 K c) (.j "BaseException")=some true/\own.u c=true) ∧
 (∀ c∈a.fl,uv K (b7 K c.1)/\findIn K (.p (b7 K c.1)) (Zd c.2)=k0 y0) ∧
 (∀ c∈a.mt,uv K (b7 K c.1)/\a.ms.u c.2.2=u0/\findIn K (.p (b7 K c.1)) (Zd c.2.1)=k0 (k0 (.p (iq K a c.2.2)))/\isFn K (.p (iq K a c.2.2))=u0/\keepIn K (.p (iq K a c.2.2))=u0) ∧
 (∀ c∈a.eZ,m9 K c.1/\a.ms.u c.2=true/\makesIn K (b7 K c.1)=true/\findIn K (.p (b7 K c.1)) "__init__" =some (some (.p (iq K a c.2)))/\isFn K (.p (iq K a c.2))=true/\keepIn K (.p (b7 K c.1))=true) ∧
 (∀ f∈b,m9 K f/\p5 K p b own e d a nm (b7 K f) f=true)/\(∀ q∈a.ms,p5 K p b own e d a nm (iq K a q) q=true)/\b.u "law" =true/\l1 K (b7 K "law") (fun fd _=>decide (d9 fd= [("_law_script" :Str)]))=true
set_option synthInstance.maxSize 1000 in
instance {K:Frag}{p:M.Prog}{fns own ez c3:Y0 String}{ob:gL}{nm:Y0 (String×Y0 String)}:Decidable (oE K p fns own ez c3 ob nm):=by unfold oE;infer_instance
def XM  [BEq α] [LawfulBEq α] {l:Y0 α}(h:l.u x=u0):x∈l:=List.contains_iff_mem.p h
def XP.ok {K:Frag}{p:M.Prog}(h:XP K p.cl own c):lE ⟨K,b7 K,p.cl,own,iq K ob⟩ c:=by
 obtain⟨⟨⟨e,a2,a3⟩,a4,a5,a6,a7,a,d⟩,b,c,_⟩:=h
 exact⟨⟨e,a2,a3,a4,a5,a6,a7,a,d⟩,b,c⟩
def ki {l:OpenLaw}{K:Frag}(p) (fns own ez c3) (ob) (nm) (k) (X:K.In h) (G:h.Ns mainGlobals mg) (I:mg "law" =some (.p fa)) (T:decide (oE K p fns own ez c3 ob nm)=true)
 (gz: ∀ns:Y0 Int,ns.e<=63-> ∃h',M.call p (k+1) "law" [.v (.u (ns.j .o))] []= .j (.v (.C true)) h'):
 ∃fd:YZ,(∀ s v,BindsTo s fd ⟨[v],[]⟩ [("_law_script",v)])/\ ∀base:Y6,K.In base->base.Ns mainGlobals mg->bz l.prog w K mg base lQ (2*(k+1)+1) fa fd ["_law_script"] (pV K):=by
 obtain⟨S,U,t2,t4,t5,V,R,W,F,E,B,L⟩:=of_decide_eq_true T
 have N:oX ⟨K,b7 K,p.cl,own,iq K ob⟩ p mg own ez c3 ob:=by
  refine⟨rfl,rfl,λx hx=>mg_none_of X G (S x hx),λx d g=> ?_,λc a=>mg_of X G (t2 c (XM a)),λc f a=> ?_,λc a=>t5 c (XM a),λc f a=> ?_,λc m q a=> ?_,λc q a=> ?_⟩
  .have z:=U (x,d) (tV g)
   unfold sf at z
   split at z
   .rename_i u e
    obtain⟨v,r⟩:=AQ (Y:=⟨K,b7 K,p.cl,own,iq K ob⟩) z
    exact⟨u,v,mg_of X G e,r⟩
   .cases z
  .obtain⟨z,⟨e1,e2,j,b,n⟩,C,H,J⟩:=t4 (c,f) (XM a)
   obtain⟨fd,ps,i⟩:=LR H J
   exact⟨z.ok,⟨e2,b,z.1.1.1,z.1.1.2.1⟩,⟨e1,e2,j,b,n⟩,mg_of X G z.2.2.2,_,fd,ps,C,i⟩
  .obtain⟨⟨e1,e2,j,b⟩,n⟩:=V (c,f) (XM a)
   exact⟨⟨e1,e2,j,b⟩,n⟩
  .obtain⟨⟨e1,e2,j,b⟩,n,C,H,J⟩:=R (c,m,q) (XM a)
   exact⟨⟨e1,e2,j,b⟩,n,C,H,J⟩
  .obtain⟨e1,e2,j,b,n,C⟩:=W (c,q) (XM a)
   exact⟨mg_of X G e1,e2,j,b,n,C⟩
 have y: ∀f,fns.u f=u0->mg (Zd f)=k0 (.p (b7 K f)):=λf D=>mg_of X G (F f (XM D)).1
 have e:b7 K "law" =fa:=by
  have:=(y "law" B).p.j I
  cases this
  rfl
 obtain⟨d,g,t,ok,o,Q,oc,od,sl,lk,ep,bd⟩:=pk mg (F "law" (XM B)).2
 obtain⟨_,_,fd,_,_,A,_,z⟩:=p6 L
 rw [lk]at A
 cases A
 have z:=ep.j (of_decide_eq_true z)
 refine⟨t.fd,λs v=> .of_eq ((bd [v] (by rw [z];rfl)).j (by rw [z];rfl)),λbase _ _=> ?_⟩
 have O:=F1 (P:=l.prog) (w:=w) (base:=base) N (λf D=>by
  obtain⟨d,g,t,ok,o,Q,_⟩:=pk mg (F f (XM D)).2
  exact⟨d,g,t,ok,o▸Q,o▸y f D⟩) (λq Z=>by
  obtain⟨d,g,t,ok,o,_⟩:=pk mg (E q (XM Z))
  exact⟨d,g,t,ok,o⟩) k
 have:=DL (pU N ok g k O.1 O.2) gz
 rw [o,e,z]at this
 exact this
end L2.MS
namespace Wf
def hS (t k):t / 2 ^ k % 2=(t.j k).j:=(Nat.toNat_testBit t k).p
theorem QO: ∀(n a b:Nat),a<=n->(a ||| b)+(a &&& b)=a+b
 | 0,a,b,h=>by
  have:a=0:=by omega
  subst this;simp
 | n+1,a,b,h=>by
  by_cases c:a=0
  .subst c;simp
  have l:=QO n (a / 2) (b / 2) (by omega)
  have e1:=Am0 (a ||| b) 2
  have e2:=Am0 (a &&& b) 2
  rw [Nat.or_div_two]at e1
  rw [Nat.and_div_two]at e2
  have d:(a ||| b) % 2=1↔a % 2=1\/b % 2=1:=Nat.or_mod_two_eq_one
  have f:(a &&& b) % 2=1↔a % 2=1/\b % 2=1:=Nat.and_mod_two_eq_one
  have k:=Am0 a 2
  have g:=Am0 b 2
  have j:(a ||| b) % 2<2:=Aj4 _ (by decide)
  have i:(a &&& b) % 2<2:=Aj4 _ (by decide)
  generalize (a ||| b) % 2=p at*
  generalize (a &&& b) % 2=q at*
  by_cases c:a % 2=1<;>by_cases e:b % 2=1
  .have:p=1:=d.q (.p c)
   have:q=1:=f.q ⟨c,e⟩
   omega
  .have:p=1:=d.q (.p c)
   have: ¬q=1:=λh=>e (f.p h).2
   omega
  .have:p=1:=d.q (.q e)
   have: ¬q=1:=λh=>c (f.p h).1
   omega
  .have: ¬p=1:=λh=>(d.p h).j c e
   have: ¬q=1:=λh=>c (f.p h).1
   omega
def Fy (a b:Nat):a-(a &&& b)=a ^^^ (a &&& b):=by
 have h:=QO _ (a ^^^ (a &&& b)) (a &&& b) (Aa8 _)
 have e1:(a ^^^ (a &&& b)) ||| (a &&& b)=a:=Aj6 λk=>by
  simp [Ah2]
  cases a.j k<;>cases b.j k<;>rfl
 have e2:(a ^^^ (a &&& b)) &&& (a &&& b)=0:=Aj6 λk=>by
  simp only [Nat.testBit_xor,Ah2,Af9]
  cases a.j k<;>cases b.j k<;>rfl
 lia
def aT (a b k:Nat):(a-(a &&& b)).j k=(a.j k&& !b.j k):=by
 rw [Fy]
 simp [Ah2]
 cases a.j k<;>cases b.j k<;>rfl
noncomputable def ay (n t:Nat):Y0 (Nat×Nat):=((Aa7 (n*n)).Q t.j).j λk=>(k / n,k % n)
noncomputable def cX (n:Nat) (ps:Y0 (Nat×Nat)):Nat:=ps.U (λt p=>t ||| 2 ^ (p.1*n+p.2)) 0
def fu (n:Nat) (ps:Y0 (Nat×Nat)):Prop:= ∀p∈ps,p.1<n/\p.2<n
def place_lt {n a b:Nat}(c:a<n) (d:b<n):a*n+b<n*n:=by
 have:a*n+n<=n*n:=by
  have:=Ao4 n (Nat.succ_le_of_lt c)
  rwa [Nat.succ_mul]at this
 omega
def aI {n a b:Nat}(c:b<n):(a*n+b) / n=a:=by
 rw [Ao,Nat.mul_add_div (by lia),Nat.div_eq_of_lt c,Nat.add_zero]
def aK {n a b:Nat}(c:b<n):(a*n+b) % n=b:=by
 rw [Ao,Nat.mul_add_mod,Nat.mod_eq_of_lt c]
def bh {n k:Nat}(h:k<n*n):k / n<n:=Nat.div_lt_of_lt_mul h
def a9 {n k:Nat}(h:k<n*n):k % n<n:=Aj4 _ (by
 cases n with
 | zero=>simp at h
 | succ m=>lia)
def bw (n k:Nat):k / n*n+k % n=k:=by rw [Ao];exact Am0 k n
theorem uH (n): ∀(ps:Y0 (Nat×Nat)) (t k:Nat),(ps.U (λt p=>t ||| 2 ^ (p.1*n+p.2)) t).j k=(t.j k||ps.z λp=>y9 (p.1*n+p.2=k))
 | [],t,k=>by simp
 | p::r,t,k=>by
  rw [Ak1,uH n r,Ae8,Ae0,Ag7,Bool.or_assoc]
def cO (n) (ps) (k):(cX n ps).j k=ps.z λp=>y9 (p.1*n+p.2=k):=by
 unfold cX;rw [uH];simp
def dm (h:fu n ps):cX n ps<2 ^ (n*n):=by
 refine Nat.lt_pow_two_of_testBit _ λi b=> ?_
 rw [cO,Ak7]
 intro p a
 have:=h p a
 have:=place_lt this.1 this.2
 simp;omega
def bJ :p∈ay n t↔ ∃k,k<n*n/\t.j k=u0/\p=(k / n,k % n):=by
 unfold ay
 simp [Ab9]
 constructor
 .rintro ⟨k,⟨a,b⟩,rfl⟩;exact⟨k,a,b,rfl⟩
 .rintro ⟨k,a,b,rfl⟩;exact⟨k,⟨a,b⟩,rfl⟩
def bU (n t):fu n (ay n t):=λp b=>by
 obtain⟨k,a,c,rfl⟩:=bJ.p b
 exact⟨bh a,a9 a⟩
noncomputable def mr (ps:Y0 (Nat×Nat)):Y0 (Nat×Nat):=ps.j λp=>(p.2,p.1)
def fh (h:fu n ps):fu n (mr ps):=λp b=>by
 obtain⟨q,a,rfl⟩:=Ac.p b
 exact⟨(h q a).2,(h q a).1⟩
def bL (n t:Nat):Nat:=cX n (mr (ay n t))
def fV (n t):bL n t<2 ^ (n*n):=dm (fh (bU n t))
def fG (f:k<n*n):(bL n t).j k=t.j (k % n*n+k / n):=by
 unfold bL
 rw [cO]
 have d:=bh f
 by_cases h:t.j (k % n*n+k / n)=u0
 .rw [h,Ad2]
  refine⟨(k / n,k % n),?_,?_⟩
  .refine Ac.q ⟨(k % n,k / n),bJ.q ⟨k % n*n+k / n,place_lt (a9 f) d,h,?_⟩,rfl⟩
   rw [aI d,aK d]
  .simp [decide_eq_true_eq];exact bw n k
 .have c:=by simpa using h
  rw [c,Ak7]
  intro p i
  obtain⟨q,l,rfl⟩:=Ac.p i
  obtain⟨j,a,b,rfl⟩:=bJ.p l
  simp [decide_eq_true_eq]
  intro e
  subst e
  have g:=bh a
  have a2:=a9 a
  rw [aI g,aK g,bw]at c
  rw [c]at b
  cases b
def bK (n:Nat):Nat:=cX n ((Aa7 n).j λa=>(a,a))
def el (n):fu n ((Aa7 n).j λa=>(a,a)):=λp c=>by
 obtain⟨a,b,rfl⟩:=Ac.p c
 exact⟨Ab9.p b,Ab9.p b⟩
def Cj (c:k<n*n):(bK n).j k=y9 (k / n=k % n):=by
 unfold bK
 rw [cO]
 have f:=a9 c
 by_cases h:k / n=k % n
 .rw [decide_eq_true h,Ad2]
  refine⟨_,Ac.q ⟨k / n,Ab9.q (bh c),rfl⟩,?_⟩
  simp [decide_eq_true_eq]
  have:=bw n k
  rw [← h]at this
  exact this
 .rw [decide_eq_false h,Ak7]
  intro p d
  obtain⟨a,b,rfl⟩:=Ac.p d
  simp [decide_eq_true_eq]
  intro e
  subst e
  have b:=Ab9.p b
  exact h (by rw [aI b,aK b])
noncomputable def cy (n p b:Nat):Nat:=p / 2 ^ (b*n) % 2 ^ n
def joinM (n o p:Nat):Nat:=(ay n o).U (λt q=>t ||| cy n p q.2*2 ^ (q.1*n)) 0
def dh (n p b):cy n p b<2 ^ n:=Aj4 _ (Nat.pow_pos (by decide))
def Br (a:c<n):(cy n p b).j c=p.j (b*n+c):=by
 unfold cy
 rw [Ag8,decide_eq_true a,Ae5,Ag9,Ap6]
def Eg (c:x<2 ^ n) (d:0<n):(x*2 ^ (a*n)).j k=(y9 (k / n=a)&&x.j (k % n)):=by
 rw [Nat.testBit_mul_two_pow]
 have e:=bw n k
 by_cases h:k / n=a
 .subst h
  rw [decide_eq_true rfl,Ae5]
  have:k / n*n<=k:=by lia
  rw [decide_eq_true (this),Ae5]
  rw [show k-k / n*n=k % n by lia]
 .rw [decide_eq_false h,Ae4]
  by_cases b:k>=a*n
  .rw [decide_eq_true b,Ae5]
   refine Ai8 (Ab3 c (Ad (by decide) ?_))
   have f:a<k / n:=by
    have:a<=k / n:=(Nat.le_div_iff_mul_le d).q b
    lia
   have g:=Ao4 n f
   lia
  .rw [decide_eq_false b,Ae4]
theorem yJ (n p) (a:0<n): ∀(ps:Y0 (Nat×Nat)) t k,(ps.U (λt q=>t ||| cy n p q.2*2 ^ (q.1*n)) t).j k=(t.j k||ps.z λq=>y9 (k / n=q.1)&&(cy n p q.2).j (k % n))
 | [],t,k=>by simp
 | q::r,t,k=>by
  rw [Ak1,yJ n p a r,Ae8,Eg (dh n p q.2) a,Ag7,Bool.or_assoc]
def Oq (h:k<n*n):0<n:=by
 cases n with
 | zero=>simp at h
 | succ m=>omega
noncomputable def JB (n o p k:Nat):Bool:=(Aa7 n).z λb=>o.j (k / n*n+b)&&p.j (b*n+k % n)
def cn (g:k<n*n):(joinM n o p).j k=JB n o p k:=by
 have h:=a9 g
 unfold joinM JB
 rw [yJ n p (Oq g)]
 simp [Bool.false_or]
 rw [Bool.eq_iff_iff,Ad2,Ad2]
 constructor
 .rintro ⟨q,i,a⟩
  obtain⟨j,c,d,rfl⟩:=bJ.p i
  rw [Aa0,decide_eq_true_eq]at a
  obtain⟨e,a⟩:=a
  refine⟨j % n,Ab9.q (a9 c),?_⟩
  rw [Br h]at a
  rw [e,bw,d,a];rfl
 .rintro ⟨b,a,f⟩
  have a:=Ab9.p a
  rw [Aa0]at f
  refine⟨_,bJ.q ⟨k / n*n+b,place_lt (bh g) a,f.1,by rw [aI a,aK a]⟩,?_⟩
  rw [Br h,f.2]
  simp
def dy (n o p):joinM n o p<2 ^ (n*n):=by
 have c: ∀(a:Y0 (Nat×Nat)) t,(∀ q∈a,q.1<n)->t<2 ^ (n*n)->a.U (λt q=>t ||| cy n p q.2*2 ^ (q.1*n)) t<2 ^ (n*n):=by
  intro a
  induction a with
  | nil=>intro t _ h;exact h
  | cons q r i=>
   intro t d g
   refine i _ (λz f=>d z (Aa2 _ f)) (Ak9 g ?_)
   have b:=d q Aa3
   have:=dh n p q.2
   have e:2 ^ n*2 ^ (q.1*n)<=2 ^ (n*n):=by
    rw [← Nat.pow_add]
    refine Ad (by decide) ?_
    have:=Ao4 n (Nat.succ_le_of_lt b)
    lia
   exact Ab3 (Nat.mul_lt_mul_of_pos_right this (Nat.pow_pos (by decide))) e
 exact c _ _ (λq b=>(bU n o q b).1) (Nat.pow_pos (by decide))
def eJ (b:s<2 ^ n) (c:t<2 ^ n) (h: ∀k,k<n->s.j k=t.j k):s=t:=
 Aj6 λk=>by
  by_cases a:k<n
  .exact h k a
  .rw [Ai8 (Ab3 b (Ad (by decide) (by lia))),Ai8 (Ab3 c (Ad (by decide) (by lia)))]
def eG (d:a<n) (c:b<n):(bK n).j (a*n+b)=y9 (a=b):=by
 rw [Cj (place_lt d c),aI c,aK c]
def gv (n):bK n<2 ^ (n*n):=dm (el n)
inductive TC (n t a:Nat):Nat->Prop
 | step {b:Nat}:a<n->b<n->t.j (a*n+b)=u0->TC n t a b
 | more {b c:Nat}:TC n t a b->b<n->c<n->t.j (b*n+c)=u0->TC n t a c
def TC.trans (h1:TC n t a b) (d:TC n t b c):TC n t a c:=by
 induction d with
 | step x y z=>exact .more h1 x y z
 | more _ x y z e=>exact .more e x y z
structure fD (n t r:Nat):Prop where
 lt:r<2 ^ (n*n)
 bit: ∀a b,a<n->b<n->(r.j (a*n+b)=u0↔TC n t a b)
structure f6 (n t r:Nat):Prop where
 lt:r<2 ^ (n*n)
 sub: ∀a b,a<n->b<n->r.j (a*n+b)=u0->TC n t a b
 sup: ∀k,t.j k=u0->r.j k=u0
def f6.start (h:t<2 ^ (n*n)):f6 n t t:=⟨h,λ_ _ b a h=> .step b a h,λ_ h=>h⟩
def cJ (d:c<n):JB n o p (a*n+c)=(Aa7 n).z λb=>o.j (a*n+b)&&p.j (b*n+c):=by
 unfold JB
 rw [aI d,aK d]
def f6.next (h:f6 n t r):f6 n t (r ||| joinM n r r):=by
 refine⟨Ak9 h.lt (dy _ _ _),λa b g f d=> ?_,λk i=> ?_⟩
 .rw [Ae8,Ae7]at d
  obtain d | d:=d
  .exact h.sub a b g f d
  .rw [cn (place_lt g f),cJ f,Ad2]at d
   obtain⟨c,e,d⟩:=d
   have e:=Ab9.p e
   rw [Aa0]at d
   exact(h.sub a c g e d.1).trans (h.sub c b e f d.2)
 .rw [Ae8,h.sup k i,Am3]
def E5 {a b:Nat}(h:a ||| b=a) (k) (c:b.j k=u0):a.j k=true:=by
 rw [← h,Ae8,c,An8]
def f6.done (h:f6 n t r) (e:r ||| joinM n r r=r):fD n t r:=by
 refine⟨h.lt,λa b i j=>⟨h.sub a b i j,λg=> ?_⟩⟩
 induction g with
 | step d c f=>exact h.sup _ f
 | more g d c f k=>
  refine E5 e _ ?_
  rw [cn (place_lt i c),cJ c,Ad2]
  exact⟨_,Ab9.q d,by rw [(k d),h.sup _ f];rfl⟩
def f6.grow (h:f6 n t r) (ne:r ||| joinM n r r≠r):r<r ||| joinM n r r:=by
 have:= @Nat.left_le_or r (joinM n r r)
 lia
structure OD (n t a:Nat) (re wa:List Nat):Prop where
 an:a<n
 nd:re.B
 tc: ∀x∈re,TC n t a x
 wl: ∀x∈wa,x<n/\(x=a\/x∈re)
 cl: ∀x,(x=a\/x∈re)->x∉wa-> ∀b,b<n->t.j (x*n+b)=u0->b∈re
structure Lk (n t a:Nat) (re wa:List Nat) (h b:Nat):Prop where
 an:a<n
 nd:re.B
 tc: ∀x∈re,TC n t a x
 wl: ∀x∈wa,x<n/\(x=a\/x∈re)
 cl: ∀x,(x=a\/x∈re)->x∉wa->x≠h-> ∀b,b<n->t.j (x*n+b)=u0->b∈re
 hn:h<n
 hr:h=a\/h∈re
 hb: ∀b',b'<b->t.j (h*n+b')=u0->b'∈re
end Wf
namespace M
open M renaming E.int→M.E.o,E.str→M.E.j,E.tup→M.E.q,E.call→M.E.p,E.lst→M.E.u,E.bin→M.E.w,E.cmp→M.E.y,E.ix→M.E.A,E.bl→M.E.C,E.comp→M.E.L,E.ak→M.E.Q,E.not→M.E.U,E.bi→M.E.Z,E.chain→M.E.a2,E.var→M.E.a3,D.int→M.D.o,Es.cons→M.Es.j,Es.nil→M.Es.p,Ss.cons→M.Ss.j,Ss.nil→M.Ss.p,R.ok→M.R.j,S.set→M.S.w,S.ret→M.S.j,S.ag→M.S.p,S.iff→M.S.q,It.seq→M.It.j,It.au→M.It.p,Bi.tuple→M.Bi.w,Bi.len→M.Bi.y,Ty.tuple→M.Ty.w,Op.bor→M.Op.p,Op.band→M.Op.j,Op.mul→M.Op.q,Op.add→M.Op.u,Op.mod→M.Op.w,Op.shl→M.Op.y,Op.sub→M.Op.z,Op.shr→M.Op.A,Cp.eq→M.Cp.j,Cp.mem→M.Cp.p,Cp.ne→M.Cp.q
noncomputable abbrev uD:Tx:=[115,111,109,101,32,110,111,32,108,101,97,115,116,32,109,111,115,116,32,101,97,99,104,32,105,110,32,97,110,100,32,111,114,32,110,111,116,32,115,97,109,101,32,97,108,108,32,110,111,110,101,32,107,105,110,100,32,116,105,101,32,115,97,121]
abbrev fk:Tx:=[108,101,97,115,116]
abbrev ib:Tx:=[119,111,114,108,100]
abbrev gF:Tx:=[115,111,109,101]
abbrev ye:Tx:=[97,98,99,100,101,102,103,104,105,106,107,108,109,110,111,112,113,114,115,116,117,118,119,120,121,122]
abbrev kJ:Tx:=[98,114,111,107,101,110]
abbrev ir:Tx:=[109,111,115,116]
abbrev nC:Tx:=[101,97,99,104,108,101,97,115,116]
abbrev km:Tx:=[101,113,117,97,108]
abbrev iL:Tx:=[115,97,109,101]
abbrev kL:Tx:=[110,111,110,101]
abbrev mi:Tx:=[115,112,108,105,116]
abbrev iw:Tx:=[97,108,108]
abbrev gq:Tx:=[105,110]
abbrev ke:Tx:=[110,111,116]
abbrev mh:Tx:=[108,101,115,115]
abbrev rP:Tx:=[106,111,105,110,101,100]
abbrev ra:Tx:=[116,117,114,110,101,100]
abbrev mP:Tx:=[110,97,109,101]
abbrev yy:Tx:=[101,97,99,104,109,111,115,116]
abbrev hI:Tx:=[111,114]
abbrev iy:Tx:=[110,111]
abbrev lh:Tx:=[97,110,100]
abbrev sW:Tx:=[99,108,111,115,101,100]
abbrev pb:Tx:=[112,108,117,115]
abbrev oy:Tx:=[98,111,116,104]
abbrev Ay:Tx:=[112,97,112,101,114]
noncomputable abbrev S.r (c x:E):S:= .q c (.j (.j x) .p) .p
noncomputable abbrev E.v0:E:= .a3 0
open M renaming E.v0→M.E.z
abbrev E.v1:E:= .a3 1
open M renaming E.v1→M.E.B
noncomputable abbrev E.v2:E:= .a3 2
open M renaming E.v2→M.E.J
abbrev E.v3:E:= .a3 3
open M renaming E.v3→M.E.K
abbrev E.v4:E:= .a3 4
open M renaming E.v4→M.E.X
noncomputable abbrev E.v5:E:= .a3 5
abbrev E.v6:E:= .a3 6
abbrev E.v7:E:= .a3 7
abbrev E.v8:E:= .a3 8
abbrev E.v9:E:= .a3 9
abbrev E.i0:E:= .o 0
open M renaming E.i0→M.E.T
abbrev E.i1:E:= .o 1
open M renaming E.i1→M.E.N
abbrev E.i2:E:= .o 2
abbrev E.i3:E:= .o 3
abbrev E.i4:E:= .o 4
abbrev Es.a (x:E):Es:= .j x .p
noncomputable abbrev Es.b (x y:E):Es:= .j x (.j y .p)
noncomputable abbrev Es.c (x y z:E):Es:= .j x (.j y (.j z .p))
noncomputable abbrev Es.d (x y z u:E):Es:= .j x (.j y (.j z (.j u .p)))
noncomputable abbrev Es.f (x y z u v:E):Es:= .j x (.j y (.j z (.j u (.j v .p))))
noncomputable abbrev Es.g (x y z u v w:E):Es:= .j x (.j y (.j z (.j u (.j v (.j w .p)))))
noncomputable abbrev Ss.a (x:S):Ss:= .j x .p
noncomputable abbrev Ss.b (x y:S):Ss:= .j x (.j y .p)
noncomputable abbrev Ss.c (x y z:S):Ss:= .j x (.j y (.j z .p))
noncomputable abbrev Ss.d (x y z u:S):Ss:= .j x (.j y (.j z (.j u .p)))
noncomputable abbrev Ss.f (x y z u v:S):Ss:= .j x (.j y (.j z (.j u (.j v .p))))
noncomputable abbrev Ss.g (x y z u v w:S):Ss:= .j x (.j y (.j z (.j u (.j v (.j w .p)))))
noncomputable abbrev Ss.h (x y z u v w a:S):Ss:= .j x (.j y (.j z (.j u (.j v (.j w (.j a .p))))))
noncomputable abbrev Ss.k (x y z u v w a b:S):Ss:= .j x (.j y (.j z (.j u (.j v (.j w (.j a (.j b .p)))))))
noncomputable abbrev Ss.m (x y z u v w a b c:S):Ss:= .j x (.j y (.j z (.j u (.j v (.j w (.j a (.j b (.j c .p))))))))
def Iw:Fn:=⟨1,1,.a (.j (.and (.cu .z .int) (.U (.cu .z .bool))))⟩
def zD:Fn:=⟨2,2,.a (.j (.and (.p "is_whole" (.a .z)) (.a2 .le .lt .T .z .B)))⟩
noncomputable def QF:E:= .L [0] u0 1 [1,0] (.p (.w .q .z .z)) u0 (.w .j (.w .A .B .z) .N) (.Z .divmod (.b .z .J))
def ZQ:Fn:=⟨2,2,.a (.j QF)⟩
def zj:Ss:= .a (.p 2 (.w .p .J (.w .y .N (.w .u (.w .q .K .z) .X))))
def jQ:Fn:=⟨2,5,.c (.p 2 .T) (.for [3,4] k9 (.j .B) zj) (.j .J)⟩
def yl:Fn:=⟨2,2,.a (.j (.w .j .z .B))⟩
def uW:Fn:=⟨2,2,.a (.j (.w .p .z .B))⟩
def wX:Fn:=⟨2,2,.a (.j (.w .j .z (.inv .B)))⟩
def XA:E:= .L [0,1] false 2 [] (.j (.p "pairs_of" (.b .z .B))) false (.C true) (.q (.b .B .z))
def yi:Fn:=⟨2,2,.a (.j (.p "gathered" (.b .z XA)))⟩
noncomputable def wu:Ss:= .b (.p 7 (.w .j (.w .A .J (.w .q .v6 .z)) .K)) (.p 4 (.w .p .X (.w .y .v7 (.w .q .v5 .z))))
def sA:Fn:=⟨3,8,.d (.p 3 (.w .z (.w .y .N .z) .N)) (.p 4 .T) (.for [5,6] k9 (.j (.p "pairs_of" (.b .z .B))) wu) (.j .X)⟩
def Ju:E:= .y .q .K .J
def zu:Ss:= .b (.p 2 .K) (.p 3 (.p "either" (.b .J (.p "joined" (.c .z .J .J)))))
def AR:Fn:=⟨2,4,.d (.p 2 .B) (.p 3 (.p "either" (.b .J (.p "joined" (.c .z .J .J))))) (.kq 100000 Ju zu) (.j .J)⟩
def QV:E:= .L [0] u0 1 [] (.p .z) k9 (.C u0) (.q (.b .z .z))
def uz:Fn:=⟨1,1,.a (.j (.p "gathered" (.b .z QV)))⟩
def AZ:Fn:=⟨1,1,.a (.j (.w .z (.w .y .N (.w .q .z .z)) .N))⟩
def Xh:E:= .L [0] u0 1 [4] (.p .K) u0 (.w .j (.w .A .B .z) .N) (.q (.b .z .z))
def zt:Fn:=⟨3,5,.d (.r (.y .p .J (.A .z .N)) (.A (.A .B .i2) (.d5 .index (.A .z .N) (.a .J)))) (.p 3 (.A .B .T)) (.p 4 (.A (.A .B .N) (.d5 .index (.A .z .T) (.a .J)))) (.j (.p "gathered" (.b .K Xh)))⟩
def xz:Fn:=⟨3,3,.m (.r (.y .j .B (.j iL)) (.p "same" (.a .z))) (.r (.y .j .B (.j iw)) (.p "every" (.a .z))) (.r (.y .j .B (.j kL)) .T) (.r (.y .j .B (.j pb)) (.p "either" (.b (.A .J .T) (.A .J .N)))) (.r (.y .j .B (.j mh)) (.p "without" (.b (.A .J .T) (.A .J .N)))) (.r (.y .j .B (.j oy)) (.p "common" (.b (.A .J .T) (.A .J .N)))) (.r (.y .j .B (.j rP)) (.p "joined" (.c .z (.A .J .T) (.A .J .N)))) (.r (.y .j .B (.j ra)) (.p "turned" (.b .z (.A .J .T)))) (.j (.p "closed" (.b .z (.A .J .T))))⟩
def jD:E:= .L [0] u0 1 [4] (.p .z) k9 (.C u0) (.d5 .count .B (.a .z))
def JD:E:= .L [0,1] k9 2 [] (.j .K) k9 (.C u0) .z
def yW:Fn:=⟨3,5,.d (.p 3 (.p "pairs_of" (.b .z .J))) (.r (.y .p .B (.q (.b (.j fk) (.j ir)))) (.u (.a (.Z .y (.a .K))))) (.p 4 JD) (.j jD)⟩
def xC:E:= .L [0,1] k9 2 [] (.j .v5) k9 (.C u0) .B
def xE:E:= .L [0,1] k9 2 [] (.j .v5) k9 (.C u0) .z
def Qu:E:= .L [0] u0 1 [0,1] (.j (.fX .J .N)) k9 (.C u0) (.p "bounds" (.c .B .J .z))
def bI:Fn:=⟨3,9,.k (.p 3 (.A .J .T)) (.q (.y .j .K (.j mP)) (.b (.p 4 (.A .J .N)) (.j (.q (.b (.p "value_of_name" (.c .z (.A .B .T) .X)) (.p "value_of_name" (.c .z (.A .B .N) .X)))))) .p) (.p 5 Qu) (.p 6 xE) (.p 7 xC) (.r (.y .j .K (.j mh)) (.q (.b (.p "without" (.b (.A .v6 .T) (.A .v7 .N))) (.p "without" (.b (.A .v7 .T) (.A .v6 .N)))))) (.p 8 (.A (.A .B .T) .T)) (.j (.q (.b (.p "made" (.c .v8 .K .v6)) (.p "made" (.c .v8 .K .v7)))))⟩
def zX:Fn:=⟨2,2,.c (.r .z (.C u0)) (.r .B (.C k9)) (.j .Q)⟩
def qQ:Fn:=⟨1,1,.a (.j (.p "settled" (.b (.y .dt .z (.C false)) (.y .dt .z (.C true)))))⟩
def jP:Fn:=⟨2,2,.a (.j (.p "settled" (.b (.and (.y .dt .z (.C true)) (.y .dt .B (.C true))) (.or (.y .dt .z (.C false)) (.y .dt .B (.C false))))))⟩
def J2:Fn:=⟨2,2,.a (.j (.p "settled" (.b (.or (.y .dt .z (.C true)) (.y .dt .B (.C true))) (.and (.y .dt .z (.C false)) (.y .dt .B (.C false))))))⟩
def w6:Fn:=⟨2,2,.a (.j (.p "settled" (.b (.y .j (.p "without" (.b (.A .z .N) (.A .B .T))) .T) (.y .q (.p "without" (.b (.A .z .T) (.A .B .N))) .T))))⟩
def Xv:E:= .L [0] u0 1 [2] (.j .v5) k9 (.C u0) (.y .le .z .B)
def xw:E:= .L [0] u0 1 [2] (.j .X) k9 (.C u0) (.y .gt .z .B)
def ww:E:= .L [0] u0 1 [2] (.j .X) k9 (.C u0) (.y .ge .z .B)
def Wv:E:= .L [0] u0 1 [2] (.j .v5) k9 (.C u0) (.y .lt .z .B)
def XF:Fn:=⟨4,6,.d (.p 4 (.p "counts" (.c .z .B (.A .K .T)))) (.p 5 (.p "counts" (.c .z .B (.A .K .N)))) (.r (.y .p .B (.q (.b (.j fk) (.j nC)))) (.p "settled" (.b (.Z .all (.a ww)) (.Z .any (.a Wv))))) (.j (.p "settled" (.b (.Z .all (.a Xv)) (.Z .any (.a xw)))))⟩
def cG:Fn:=⟨3,4,.f (.p 3 (.A .J .T)) (.r (.y .j .K (.j ke)) (.p "not_told" (.a (.p "told" (.c .z .B (.A .J .N)))))) (.r (.y .j .K (.j lh)) (.p "and_told" (.b (.p "told" (.c .z .B (.A .J .N))) (.p "told" (.c .z .B (.A .J .i2)))))) (.r (.y .j .K (.j hI)) (.p "or_told" (.b (.p "told" (.c .z .B (.A .J .N))) (.p "told" (.c .z .B (.A .J .i2)))))) (.j (.p "fact_told" (.c .z .B .J)))⟩
def aZ:Fn:=⟨3,7,.k (.p 3 (.A .J .T)) (.p 4 (.A (.A .B .T) .T)) (.p 5 (.p "bounds" (.c .z .B (.A .J (.neg .N))))) (.r (.y .j .K (.j gF)) (.p "count_told" (.d .X (.j fk) .N .v5))) (.r (.y .j .K (.j iy)) (.p "count_told" (.d .X (.j ir) .T .v5))) (.r (.y .j .K (.j gq)) (.p "in_told" (.b (.p "bounds" (.c .z .B (.A .J .N))) .v5))) (.q (.y .j .K (.j km)) (.b (.p 6 (.p "bounds" (.c .z .B (.A .J .N)))) (.j (.p "and_told" (.b (.p "in_told" (.b .v6 .v5)) (.p "in_told" (.b .v5 .v6)))))) .p) (.j (.p "count_told" (.d .X .K (.A .J .N) .v5)))⟩
def xY:Fn:=⟨1,1,.a (.j (.p "is_below" (.b .z (.w .u (.con "GREATEST_SIZE") .N))))⟩
noncomputable def Bt:Fn:=⟨2,2,.a (.j (.w .u (.w .q (.u (.a .B)) (.Z .y (.a (.A .z .T)))) (.w .q (.u (.a (.w .q .B .B))) (.Z .y (.a (.A .z .N))))))⟩
def vZ:Fn:=⟨2,2,.a (.j (.Z .sum (.a (.p "widths" (.b .z .B)))))⟩
def QE:Fn:=⟨1,1,.a (.q (.U (.p "is_size" (.a .z))) (.a .eL) .p)⟩
def xF:Fn:=⟨3,4,.c (.ex (.p "check_size" (.a .B))) (.p 3 (.p "bits" (.b .z .B))) (.q (.y .gt .K .J) (.a .eL) .p)⟩
def qr:Ss:= .b (.app 3 (.w .j .X (.w .z (.w .y .N .v5) .N))) (.p 4 (.w .A .X .v5))
def ZO:Fn:=⟨3,7,.h (.ex (.p "check_size" (.a .B))) (.q (.U (.p "is_below" (.b .J (.w .y .N (.p "bits" (.b .z .B)))))) (.a .eL) .p) (.w 3 (.u .p)) (.p 4 .J) (.for [5] true (.j (.p "widths" (.b .z .B))) qr) (.p 6 (.Z .y (.a (.A .z .T)))) (.j (.q (.c .B (.Z .w (.a (.gA .K .v6))) (.Z .w (.a (.fX .K .v6))))))⟩
def zq:E:= .L [0,1] false 2 [3] (.j (.p "pairs_of" (.b .B (.p "every" (.a .B))))) false (.C true) (.q (.c .J .z .B))
def zA:Ss:= .a (.ext 2 zq)
def Qp:E:= .L [0] u0 1 [3] (.p .B) k9 (.C u0) (.q (.c .B .z .z))
def qA:Ss:= .a (.ext 2 Qp)
noncomputable def Xx:Fn:=⟨2,4,.d (.w 2 (.u .p)) (.for [3] u0 (.j (.A .z .T)) qA) (.for [3] u0 (.j (.A .z .N)) zA) (.j .J)⟩
noncomputable def wA:Fn:=⟨3,3,.b (.r (.or (.U (.cu .z .w)) (.y .q (.Z .y (.a .z)) .J)) (.C k9)) (.j (.and (.cu (.A .z .T) .str) (.y .j (.A .z .T) .B)))⟩
def Jj:Fn:=⟨3,3,.f (.bO 0 "Cases" "words" (.A .B .T)) (.bO 0 "Cases" "sayings" (.A .B .N)) (.bO 0 "Cases" "size" .J) (.bW 0 "Cases" "places" (.p "places_of" (.b (.A .B .T) .J))) (.bO 0 "Cases" "whole" (.w .z (.w .y .N (.Z .y (.j (.aL .z "Cases" "places") .p))) .N))⟩
def Wi:Fn:=⟨2,2,.a (.j (.p "world_of" (.j (.aL .z "Cases" "words") (.j (.aL .z "Cases" "size") (.a .B)))))⟩
def Xz:Fn:=⟨4,5,.b (.p 4 (.q (.j (.bS .z "Cases" "world_of_code" "Cases.world_of_code" (.a .J)) (.j (.bS .z "Cases" "world_of_code" "Cases.world_of_code" (.a .K)) .p)))) (.j (.p "told" (.j (.aL .z "Cases" "words") (.b .X (.A (.aL .z "Cases" "sayings") .B)))))⟩
def zw:Fn:=⟨4,4,.c (.r (.or (.U (.cu .B .str)) (.or (.U (.p "is_whole" (.a .J))) (.U (.p "is_whole" (.a .K))))) .T) (.r (.y .ft (.q (.c .B .J .K)) (.aL .z "Cases" "places")) .T) (.j (.w .y .N (.d5 .cc (.aL .z "Cases" "places") (.a (.q (.c .B .J .K))))))⟩
def Jf:Fn:=⟨4,6,.f (.q (.p "is_tuple_of" (.c .B (.j kJ) .i2)) (.b (.p 4 (.A .B .N)) (.j (.and (.p "is_below" (.b .X (.Z .y (.j (.aL .z "Cases" "sayings") .p)))) (.y .dt (.bS .z "Cases" "truth" "Cases.truth" (.c .X .J .K)) (.C false))))) .p) (.r (.U (.p "is_tuple_of" (.c .B (.j mi) (.o 6)))) (.C false)) (.p 5 (.bS .z "Cases" "bit_of" "Cases.bit_of" (.c (.A .B .N) (.A .B .i2) (.A .B .i3)))) (.r (.y .j (.w .j (.w .j .v5 .K) (.inv .J)) .T) (.C false)) (.j (.and (.bS .z "Cases" "is_shown" "Cases.is_shown" (.c (.A .B .i4) (.w .p .J .v5) .K)) (.bS .z "Cases" "is_shown" "Cases.is_shown" (.c (.A .B (.o 5)) .J (.w .j .K (.inv .v5))))))⟩
def wm:Ss:= .a (.q (.cu .J .w) (.a (.ext 1 (.p "names_in" (.a .J)))) .p)
noncomputable def WD:Fn:=⟨1,3,.d (.r (.y .j (.A .z .T) (.j mP)) (.u (.a (.A .z .N)))) (.w 1 (.u .p)) (.for [2] u0 (.j (.fX .z .N)) wm) (.j .B)⟩
def Ql:Ss:= .a (.q (.y .p (.A .v5 .T) .J) (.a (.p 3 (.w .p .K (.w .y .N .X)))) .p)
def XR:Fn:=⟨2,6,.d (.p 2 (.p "names_in" (.a .B))) (.p 3 .T) (.for [4,5] false (.cA (.aL .z "Cases" "places")) Ql) (.j .K)⟩
def Qd:E:= .y .gt .z .T
def xj:Ss:= .b (.p 0 (.w .j .z (.w .z .z .N))) (.p 1 (.w .u .B .N))
def WM:Fn:=⟨1,2,.c (.p 1 .T) (.kq 100000 Qd xj) (.j .B)⟩
def jg:E:= .L [0] u0 1 [0] (.j (.A .B .N)) k9 (.C u0) (.p "needed_bits" (.j (.aL .B "Search" "cases") (.a .z)))
def Zh:Fn:=⟨3,3,.b (.bO 0 "Search" "cases" (.make "Cases" "Cases.__init__" (.b .B .J))) (.bW 0 "Search" "needs" jg)⟩
noncomputable def Zg:Fn:=⟨2,2,.a (.j (.bS .z "Search" "told_of_case" "Search.told_of_case" (.j .B (.j .T (.j (.aL (.aL .z "Search" "cases") "Cases" "whole") .p)))))⟩
noncomputable def zh:E:= .L [0] u0 1 [0,3,2] (.j .B) k9 (.C u0) (.w .j (.w .j (.A (.aL .B "Search" "needs") .z) .J) (.inv .K))
def We:Fn:=⟨4,6,.c (.p 4 zh) (.p 5 (.fm "how_many_set" .X)) (.j (.w .z (.fy (.w .j .v5 (.neg .v5))) .N))⟩
noncomputable def qa:Ss:= .c (.p 6 (.bS (.aL .z "Search" "cases") "Cases" "truth" "Cases.truth" (.c .v5 .J .K))) (.r (.y .dt .v6 (.C false)) (.q (.b (.j Ay) (.q (.b (.j kJ) .v5))))) (.q (.fi false .v6) (.a (.app 4 .v5)) .p)
def aO:Fn:=⟨4,7,.d (.w 4 (.u .p)) (.for [5] u0 (.j .B) qa) (.r (.y .j .X (.u .p)) (.q (.j (.j ib) (.j (.bS (.aL .z "Search" "cases") "Cases" "world_of_code" "Cases.world_of_code" (.a .J)) .p)))) (.j (.bS .z "Search" "told_of_halves" "Search.told_of_halves" (.c .X .J .K)))⟩
noncomputable def aH:Fn:=⟨4,11,.k (.p 4 (.bS .z "Search" "chosen_place" "Search.chosen_place" (.c .B .J .K))) (.p 5 (.w .y .N .X)) (.p 6 (.bS .z "Search" "told_of_case" "Search.told_of_case" (.c .B (.w .p .J .v5) .K))) (.r (.or (.y .j (.A .v6 .T) (.j ib)) (.bS (.aL .z "Search" "cases") "Cases" "is_shown" "Cases.is_shown" (.c (.A .v6 .N) .J .K))) .v6) (.p 7 (.bS .z "Search" "told_of_case" "Search.told_of_case" (.c .B .J (.w .j .K (.inv .v5))))) (.r (.y .j (.A .v7 .T) (.j ib)) .v7) (.e8 [8,9,10] (.A (.aL (.aL .z "Search" "cases") "Cases" "places") .X)) (.j (.q (.b (.j Ay) (.q (.g (.j mi) .v8 .v9 (.a3 10) (.A .v6 .N) (.A .v7 .N))))))⟩
def oI:Fn:=⟨2,2,.b (.ex (.p "check_bits" (.c (.A .z .T) .B (.con "MOST_BITS")))) (.j (.bS (.make "Search" "Search.__init__" (.b .z .B)) "Search" "told_of_sayings" "Search.told_of_sayings" (.a (.cg (.Z .y (.a (.A .z .N)))))))⟩
def Xe:Ss:= .c (.e8 [4,5] (.p "found" (.b .z .K))) (.r (.y .j .X (.j ib)) (.q (.b .v5 .J))) (.fF .J .v5)
def ZD:Fn:=⟨2,6,.j (.ex (.p "check_bits" (.c (.A .z .T) .B (.con "MOST_BITS")))) (.j (.w 2 (.share (.u .p))) (.j (.for [3] true (.p (.w .u .B .N)) Xe) (.a (.dN "NoWorld" "papers" .J))))⟩
def zI:Fn:=⟨1,1,.a (.j (.u (.c .z .T (.Z .sum (.a (.gA .z .N))))))⟩
noncomputable def ZN:Fn:=⟨1,1,.c (.bZ .z .N (.w .u (.A .z .N) .N)) (.bZ .z .i2 (.w .w (.w .u (.w .q (.o 7) (.A .z .N)) (.Z .sum (.a (.gA (.A .z .T) (.o 9))))) (.o 16777213))) (.q (.y .lt (.A .z .N) (.Z .y (.a (.A .z .T)))) (.a (.bZ .z .i2 (.A (.A .z .T) (.A .z .N)))) .p)⟩
noncomputable def zE:Fn:=⟨2,3,.c (.q (.U (.a2 .le .lt .T (.A .z .i2) (.w .pow (.o 10) (.o 18)))) (.b (.fW .z .i2 2 (.Z .divmod (.b (.A .z .i2) .B))) (.j .J)) .p) (.bZ .z .i2 (.w .w (.w .u (.w .u (.w .q (.A .z .i2) (.o 742939)) (.w .q (.A .z .N) (.o 65063))) (.o 40503)) (.o 16777213))) (.j (.w .w (.w .fdiv (.w .q (.A .z .i2) (.w .u (.w .w (.A .z .i2) (.o 4093)) (.o 7))) (.o 64)) .B))⟩
def Wj:Ss:= .c (.p 8 (.w .u (.w .u (.gA .X .v6) (.A .J (.w .w (.w .u .K (.w .q (.o 5) .v5)) (.o 26)))) (.fX .X .v6))) (.q (.y .p .v8 (.ef uD [gF,iy,fk,ir,[101,97,99,104],gq,lh,hI,ke,iL,iw,kL,[107,105,110,100],[116,105,101],[115,97,121]])) (.a (.p 8 (.w .u .v8 (.j [113])))) .p) (.app 7 .v8)
def qp:Ss:= .a (.p 4 (.w .u .X (.A .J (.p "_law_draw" (.b .z (.o 26))))))
def Qz:E:= .L [0] u0 1 [2,3] (.p .B) k9 (.C u0) (.w .q (.A .B .J) (.w .u .z .N))
def xx:Fn:=⟨2,9,.m (.p 2 (.j ye)) (.p 3 (.p "_law_draw" (.b .z (.o 26)))) (.r (.y .j (.p "_law_draw" (.b .z .i3)) .T) Qz) (.p 4 (.j [])) (.for [5] true (.p (.p "_law_draw" (.b .z (.o 6)))) qp) (.p 6 (.p "_law_draw" (.b .z (.w .u (.Z .y (.a .X)) .N)))) (.w 7 (.u .p)) (.for [5] true (.p .B) Wj) (.j .v7)⟩
def xK:Fn:=⟨1,6,.d (.p 1 (.u (.j (.q (.c .T .N .i2)) (.j (.q (.c .N .N .i2)) (.j (.q (.c .T .N .i2)) (.g (.q (.c .N .T .i4)) (.q (.c .i2 .T .i3)) (.q (.c .T .N .i2)) (.q (.c .T .N .N)) (.q (.c .i2 .N .T)) (.q (.c .N .N .N)))))))) (.e8 [2,3,4] (.A .B (.p "_law_draw" (.b .z (.Z .y (.a .B)))))) (.p 5 (.p "_law_names" (.b .z (.w .u .J .K)))) (.j (.q (.b .X (.q (.b (.Z .w (.a (.Z .sorted (.a (.gA .v5 .J))))) (.Z .w (.a (.Z .sorted (.a (.fX .v5 .J))))))))))⟩
def je:E:= .L [0] u0 1 [] (.j .B) k9 (.C u0) (.q (.b (.j mP) .z))
def Qf:Fn:=⟨3,7,.g (.p 3 (.p "_law_draw" (.b .z (.o 10)))) (.q (.or (.y .j .J .T) (.y .lt .K .i3)) (.b (.p 4 (.w .u (.w .q je .i2) (.u (.c (.q (.a (.j iL))) (.q (.a (.j iw))) (.q (.a (.j kL))))))) (.j (.A .X (.p "_law_draw" (.b .z (.Z .y (.a .X))))))) .p) (.p 5 (.p "_law_expression" (.c .z .B (.w .z .J .N)))) (.r (.y .lt .K (.o 5)) (.q (.b (.A (.u (.b (.j ra) (.j sW))) (.w .z .K .i3)) .v5))) (.p 6 (.p "_law_expression" (.c .z .B (.w .z .J .N)))) (.j (.q (.c (.A (.u (.f (.j pb) (.j mh) (.j oy) (.j rP) (.j rP))) (.w .z .K (.o 5))) .v5 .v6)))⟩
def bj:Fn:=⟨3,6,.h (.p 3 (.p "_law_draw" (.b .z (.o 11)))) (.q (.and (.y .gt .J .T) (.y .gt .K (.o 7))) (.c (.p 4 (.p "_law_saying" (.c .z .B (.w .z .J .N)))) (.r (.y .j .K (.o 8)) (.q (.b (.j ke) .X))) (.j (.q (.c (.A (.u (.b (.j lh) (.j hI))) (.w .z .K (.o 9))) .X (.p "_law_saying" (.c .z .B (.w .z .J .N))))))) .p) (.p 5 (.A (.u (.j (.j gq) (.j (.j km) (.g (.j gF) (.j iy) (.j fk) (.j ir) (.j nC) (.j yy))))) (.w .w .K (.o 8)))) (.p 4 (.p "_law_expression" (.c .z .B .N))) (.r (.or (.y .j .v5 (.j gq)) (.y .j .v5 (.j km))) (.q (.c .v5 .X (.p "_law_expression" (.c .z .B .N))))) (.r (.or (.y .j .v5 (.j gF)) (.y .j .v5 (.j iy))) (.q (.b .v5 .X))) (.j (.q (.c .v5 (.A (.u (.j .T (.j .N (.g .N .i2 .i2 .i3 .i4 (.w .u (.o 10) (.p "_law_draw" (.b .z (.o 90)))))))) (.p "_law_draw" (.b .z (.o 8)))) .X)))⟩
def Zi:Ss:= .c (.ex (.p "_law_turn" (.a .z))) (.app 4 (.p "_law_saying" (.c .z .K .N))) (.q (.and (.y .gt .v5 .T) (.y .j (.p "_law_draw" (.b .z (.o 9))) .T)) (.a (.ek 4 (.neg .N) (.q (.b (.j ke) (.A .X (.p "_law_draw" (.b .z .v5))))))) .p)
def xt:Fn:=⟨3,6,.d (.p 3 (.Z .list (.a (.w .u (.A .B .T) (.A .B .N))))) (.w 4 (.u .p)) (.for [5] u0 (.p (.p "_law_draw" (.b .z (.w .u .J .N)))) Zi) (.j (.q (.b .B (.Z .w (.a .X)))))⟩
noncomputable def Xi:Ss:= .a (.q (.y .j (.w .j (.w .A .B (.w .u (.w .q .X .z) .v5)) .N) .N) (.b (.p 6 (.w .j (.w .A .J (.w .q .v5 .z)) (.w .z (.w .y .N .z) .N))) (.p 3 (.w .p .K (.w .y .v6 (.w .q .X .z))))) .p)
def xv:Ss:= .a (.for [5] u0 (.p .z) Xi)
def qG:Fn:=⟨3,7,.c (.p 3 .T) (.for [4] u0 (.p .z) xv) (.j .K)⟩
noncomputable def Wn:Ss:= .a (.q (.y .j (.w .j (.w .A .B (.w .u (.w .q .K .z) .X)) .N) .N) (.a (.p 2 (.w .p .J (.w .y .N (.w .u (.w .q .X .z) .K))))) .p)
def Qv:Ss:= .a (.for [4] u0 (.p .z) Wn)
def qs:Fn:=⟨2,5,.c (.p 2 .T) (.for [3] u0 (.p .z) Qv) (.j .J)⟩
def Jn:Ss:= .a (.p 2 (.w .p .J (.p "_law_joined" (.c .z .J .B))))
def ZF:Fn:=⟨2,4,.c (.p 2 .B) (.for [3] u0 (.p .z) Jn) (.j .J)⟩
def Wr:E:= .L [0] u0 1 [0] (.p .z) k9 (.C u0) (.w .y .N (.w .u (.w .q .z .B) .z))
def JQ:Fn:=⟨1,1,.a (.j (.Z .sum (.a Wr)))⟩
def ZX:Fn:=⟨4,4,.c (.r (.y .j .z (.j pb)) (.w .p .J .K)) (.r (.y .j .z (.j oy)) (.w .j .J .K)) (.j (.p "_law_joined" (.c .B .J .K)))⟩
def az:Fn:=⟨3,10,.j (.p 3 (.A .J .T)) (.m (.p 4 (.w .z (.w .y .N (.w .q .z .z)) .N)) (.r (.y .j .K (.j mP)) (.fc 1 (.A .J .N))) (.q (.y .p .K (.u (.c (.j iL) (.j iw) (.j kL)))) (.b (.p 5 (.gi iL (.p "_law_same" (.a .z)) iw .X kL .T 3)) (.j (.q (.b .v5 .v5)))) .p) (.e8 [6,7] (.p "_law_bounds" (.c .z .B (.A .J .N)))) (.r (.y .j .K (.j ra)) (.q (.b (.p "_law_turned" (.b .z .v6)) (.p "_law_turned" (.b .z .v7))))) (.r (.y .j .K (.j sW)) (.q (.b (.p "_law_closed" (.b .z .v6)) (.p "_law_closed" (.b .z .v7))))) (.e8 [8,9] (.p "_law_bounds" (.c .z .B (.A .J .i2)))) (.r (.y .j .K (.j mh)) (.q (.b (.w .j .v6 (.w .bxor .X .v9)) (.w .j .v7 (.w .bxor .X .v8))))) (.j (.q (.b (.p "_law_two" (.d .K .z .v6 .v8)) (.p "_law_two" (.d .K .z .v7 .v9))))))⟩
def jn:E:= .y .gt .z .T
def Wm:Ss:= .b (.p 1 (.w .u .B (.w .w .z .i2))) (.p 0 (.w .fdiv .z .i2))
def wQ:Fn:=⟨1,2,.c (.p 1 .T) (.kq 100000 jn Wm) (.j .B)⟩
def zz:E:= .L [0,1] k9 2 [1] (.j .J) k9 (.C u0) (.y .gt .z .J)
def jA:E:= .L [0,1] k9 2 [1] (.j .J) k9 (.C u0) (.y .le .B .J)
def JA:E:= .L [0,1] k9 2 [1] (.j .J) k9 (.C u0) (.y .lt .B .J)
def Xy:E:= .L [0,1] k9 2 [1] (.j .J) k9 (.C u0) (.y .ge .z .J)
noncomputable def zy:Fn:=⟨3,3,.c (.q .z (.b (.r (.Z .all (.a Xy)) (.C u0)) (.j (.A (.u (.b .Q (.C k9))) (.Z .int (.a (.Z .any (.a JA))))))) .p) (.r (.Z .all (.a jA)) (.C u0)) (.j (.A (.u (.b .Q (.C k9))) (.Z .int (.a (.Z .any (.a zz))))))⟩
noncomputable def JF:Fn:=⟨2,2,.b (.r (.y .j (.w .j (.A .z .N) (.A .B .T)) (.A .z .N)) (.C u0)) (.j (.A (.u (.b .Q (.C k9))) (.Z .int (.a (.y .q (.w .j (.A .z .T) (.A .B .N)) (.A .z .T))))))⟩
def qt:E:= .L [0] u0 1 [4,0,6,5] (.p .z) k9 (.C u0) (.q (.b (.p "_law_many" (.a (.w .j (.w .A .B (.w .q .z .J)) .K))) (.p "_law_many" (.a (.w .j (.w .A .X (.w .q .z .J)) .K)))))
def br:Fn:=⟨3,8,.h (.p 3 (.A .J .T)) (.q (.or (.y .j .K (.j gF)) (.y .j .K (.j iy))) (.b (.p 2 (.q (.c (.A (.u (.b (.j ir) (.j fk))) (.Z .int (.a (.y .j .K (.j gF))))) (.Z .int (.a (.y .j .K (.j gF)))) (.A .J .N)))) (.p 3 (.A .J .T))) .p) (.e8 [4,5] (.p "_law_bounds" (.c .z .B (.A .J .i2)))) (.r (.or (.y .j .K (.j fk)) (.y .j .K (.j ir))) (.p "_law_ruled" (.c (.y .j .K (.j fk)) (.A .J .N) (.u (.a (.q (.b (.p "_law_many" (.a .X)) (.p "_law_many" (.a .v5))))))))) (.p 6 (.w .z (.w .y .N .z) .N)) (.p 7 qt) (.j (.p "_law_ruled" (.c (.y .j .K (.j nC)) (.A .J .N) .v7)))⟩
def Xq:E:= .L [0] u0 1 [0,1] (.j .v5) k9 (.C u0) (.p "_law_told" (.c .B .J .z))
def bf:Fn:=⟨3,7,.f (.p 3 (.A .J .T)) (.q (.y .j .K (.j ke)) (.c (.p 4 (.p "_law_told" (.c .z .B (.A .J .N)))) (.r (.fi false .X) .Q) (.j (.U .X))) .p) (.q (.y .p .K (.u (.c (.j lh) (.j hI) (.j km)))) (.g (.p 5 (.u (.b (.A .J .N) (.A .J .i2)))) (.q (.y .j .K (.j km)) (.a (.p 5 (.u (.b (.q (.c (.j gq) (.A .J .N) (.A .J .i2))) (.q (.c (.j gq) (.A .J .i2) (.A .J .N))))))) .p) (.p 6 Xq) (.r (.y .p (.y .j .K (.j hI)) .v6) (.y .j .K (.j hI))) (.r (.y .p .Q .v6) .Q) (.j (.y .q .K (.j hI)))) .p) (.r (.y .j .K (.j gq)) (.p "_law_within" (.b (.p "_law_bounds" (.c .z .B (.A .J .N))) (.p "_law_bounds" (.c .z .B (.A .J .i2)))))) (.j (.p "_law_fact" (.c .z .B .J)))⟩
def Eu:Fn:=⟨1,1,.a (.j (.and (.cu .z .int) (.U (.cu .z .bool))))⟩
noncomputable def wn:E:= .L [0] u0 1 [1,0] (.p .z) k9 (.C u0) (.w .y (.w .j (.w .A .B .z) .N) (.w .u (.w .q .z .J) .z))
def qF:Fn:=⟨2,2,.a (.j (.Z .sum (.a wn)))⟩
def zr:Ss:= .a (.cD 3 (.A (.A .z .N) .X) (.q (.b (.A (.A .B .i2) .X) (.A (.A .B .i2) .X))))
def Xs:Ss:= .b (.p 5 (.p "_law_spread" (.b .J (.A (.A .B .N) .X)))) (.cD 3 (.A (.A .z .T) .X) (.q (.b .v5 .v5)))
def WB:Fn:=⟨2,6,.f (.p 2 (.A .B .T)) (.w 3 .du) (.for [4] u0 (.p (.Z .y (.a (.A .z .T)))) Xs) (.for [4] u0 (.p (.Z .y (.a (.A .z .N)))) zr) (.j .K)⟩
def wj:Ss:= .a (.r (.or (.U (.p "_law_whole" (.a .v5))) (.U (.a2 .le .lt .T .v5 (.w .y .N (.A (.u (.b .B (.w .q .B .B))) .K))))) (.C false))
def Qq:Ss:= .c (.p 4 (.A .J (.w .u .N .K))) (.r (.or (.U (.cu .X .w)) (.y .q (.Z .y (.a .X)) (.Z .y (.a (.A .z .K))))) (.C k9)) (.for [5] u0 (.j .X) wj)
def jw:Fn:=⟨3,6,.c (.r (.or (.U (.cu .J .w)) (.or (.y .q (.Z .y (.a .J)) .i3) (.or (.U (.p "_law_whole" (.a (.A .J .T)))) (.y .q (.A .J .T) .B)))) (.C false)) (.for [3] true (.p .i2) Qq) (.j (.C true))⟩
def xy:E:= .L [0] true 1 [1,2] (.j (.A .z .N)) false (.C true) (.y .dt (.p "_law_told" (.c (.A .B .T) .J .z)) (.C true))
def Qx:Fn:=⟨2,3,.b (.p 2 (.p "_law_seen" (.b (.A .z .T) .B))) (.j (.Z .all (.a xy)))⟩
def Jr:Ss:= .a (.cD 2 .K (.q (.b .T (.w .z (.w .y .N (.w .q .B .B)) .N))))
def Js:Ss:= .a (.cD 2 .K (.q (.b .T (.p "_law_same" (.a .B)))))
noncomputable def QD:Fn:=⟨2,4,.d (.w 2 .du) (.for [3] u0 (.j (.A .z .T)) Js) (.for [3] u0 (.j (.A .z .N)) Jr) (.j .J)⟩
def jx:Fn:=⟨3,11,.j (.e8 [3,4,5] .J) (.j (.r (.or (.U (.cu .K .str)) (.or (.cT u0 .K 1) (.or (.U (.p "_law_whole" (.a .X))) (.U (.p "_law_whole" (.a .v5)))))) .Q) (.m (.r (.or (.U (.a2 .le .lt .T .X .z)) (.U (.a2 .le .lt .T .v5 .z))) .Q) (.e8 [6,7] (.fc 1 .K)) (.p 8 (.w .y .N (.w .u (.w .q .X .z) .v5))) (.r (.or (.y .q (.w .j .v6 .v8) .T) (.y .j (.w .j .v7 .v8) .T)) .Q) (.w 9 (.eF 1)) (.cD 9 .K (.q (.b (.w .p .v6 .v8) .v7))) (.w 10 (.eF 1)) (.cD 10 .K (.q (.b .v6 (.w .z .v7 .v8)))) (.j (.u (.b .v9 (.a3 10))))))⟩
def xp:Fn:=⟨4,5,.g (.r (.or (.U (.cu .K .w)) (.y .j (.Z .y (.a .K)) .T)) (.C false)) (.q (.and (.y .j (.A .K .T) (.j kJ)) (.y .j (.Z .y (.a .K)) .i2)) (.b (.r (.or (.U (.p "_law_whole" (.a (.A .K .N)))) (.U (.a2 .le .lt .T (.A .K .N) (.Z .y (.a (.A .z .N)))))) (.C false)) (.j (.y .dt (.p "_law_told" (.c .B .J (.A (.A .z .N) (.A .K .N)))) (.C false)))) .p) (.r (.or (.y .q (.A .K .T) (.j mi)) (.y .q (.Z .y (.a .K)) (.o 6))) (.C false)) (.p 4 (.p "_law_split" (.c .B .J (.sl .K .N .i4)))) (.r (.fi false .X) (.C false)) (.j (.and (.p "_law_walks" (.d .z .B (.A .X .T) (.A .K .i4))) (.p "_law_walks" (.d .z .B (.A .X .N) (.A .K (.o 5))))))⟩
def qh:Ss:= .a (.r (.U (.p "_law_walks" (.d .z .K (.p "_law_open" (.b (.A .z .T) .K)) (.A .B .K)))) (.C false))
def Zj:Fn:=⟨3,4,.c (.r (.or (.U (.eg .B)) (.y .q (.Z .y (.a .B)) .J)) (.C k9)) (.for [3] u0 (.p .J) qh) (.j (.C u0))⟩
def zx:Fn:=⟨2,4,.c (.p 2 (.Z .list (.a (.w .u (.A .B .T) (.A .B .N))))) (.p 3 (.A (.u (.c (.q (.b (.j mP) (.A .J (.p "_law_draw" (.b .z (.Z .y (.a .J))))))) (.q (.a (.j iw))) (.q (.a (.j iL))))) (.p "_law_draw" (.b .z .i3)))) (.j (.u (.d (.q (.b (.j gF) .K)) (.q (.c (.j fk) .i2 .K)) (.q (.b (.j iy) (.q (.c (.j mh) (.q (.a (.j iw))) .K)))) (.q (.c (.j fk) (.w .u .N (.p "_law_draw" (.b .z .i4))) .K)))))⟩
def bB:Fn:=⟨2,6,.j (.p 2 .Q) (.j (.p 3 .Q) (.j (.eR 3 "smallest" (.b .z .B) "NoWorld" 4 2 "papers") (.g (.r (.fi true .J) (.q (.c (.j []) .J (.w .u .B .N)))) (.r (.or (.U (.cu .K .w)) (.y .q (.Z .y (.a .K)) .i2)) (.q (.c (.j []) .Q .T))) (.r (.or (.U (.cu (.A .K .T) .w)) (.y .j (.A .K .T) (.q .p))) (.q (.c (.j []) .Q .T))) (.p 5 (.A (.A .K .T) .T)) (.r (.or (.y .q (.Z .y (.a (.A .K .T))) .i3) (.or (.U (.p "_law_whole" (.a .v5))) (.U (.a2 .le .le .T .v5 .B)))) (.q (.c (.j []) .Q .T))) (.j (.q (.c (.A .K .T) (.A .K .N) .v5))))))⟩
def cN:Fn:=⟨1,10,.j (.w 1 (.share (.p "_law_start" (.a .z)))) (.j (.e8 [2,3] (.p "_law_words" (.a .B))) (.j (.p 4 (.p "_law_theory" (.c .B .K .i4))) (.m (.ex (.p "_law_turn" (.a .B))) (.q (.y .j (.p "_law_draw" (.b .B .i2)) .T) (.b (.p 5 (.A (.p "_law_first" (.b .B .K)) (.p "_law_draw" (.b .B .i4)))) (.p 4 (.q (.b .K (.w .u (.q (.a .v5)) (.A .X .N)))))) .p) (.e8 [6,7,8] (.p "_law_asked" (.b .X .J))) (.r (.U (.p "_law_papers_are" (.c .X .v7 .v8))) (.C false)) (.q (.y .q .v6 (.j [])) (.a (.r (.or (.U (.p "_law_is_world" (.c .K .v8 .v6))) (.U (.p "_law_keeps" (.b .X .v6)))) (.C false))) .p) (.fF .v7 .Q) (.p 9 (.p "_law_asked" (.b .X .J))) (.r (.or (.y .q (.A .v9 .i2) .v8) (.y .q (.y .j (.A .v9 .T) (.j [])) (.y .j .v6 (.j [])))) (.C false)) (.j (.p "_law_papers_are" (.c .X (.A .v9 .N) .v8))))))⟩
def prog:Prog:=⟨[("is_whole",Iw),("is_below",zD),("pairs_of",ZQ),("gathered",jQ),("common",yl),("either",uW),("without",wX),("turned",yi),("joined",sA),("closed",AR),("same",uz),("every",AZ),("value_of_name",zt),("made",xz),("counts",yW),("bounds",bI),("settled",zX),("not_told",qQ),("and_told",jP),("or_told",J2),("in_told",w6),("count_told",XF),("told",cG),("fact_told",aZ),("is_size",xY),("widths",Bt),("bits",vZ),("check_size",QE),("check_bits",xF),("world_of",ZO),("places_of",Xx),("is_tuple_of",wA),("Cases.__init__",Jj),("Cases.world_of_code",Wi),("Cases.truth",Xz),("Cases.bit_of",zw),("Cases.is_shown",Jf),("names_in",WD),("needed_bits",XR),("how_many_set",WM),("Search.__init__",Zh),("Search.told_of_sayings",Zg),("Search.chosen_place",We),("Search.told_of_case",aO),("Search.told_of_halves",aH),("found",oI),("smallest",ZD),("_law_start",zI),("_law_turn",ZN),("_law_draw",zE),("_law_names",xx),("_law_words",xK),("_law_expression",Qf),("_law_saying",bj),("_law_theory",xt),("_law_joined",qG),("_law_turned",qs),("_law_closed",ZF),("_law_same",JQ),("_law_two",ZX),("_law_bounds",az),("_law_many",wQ),("_law_ruled",zy),("_law_within",JF),("_law_fact",br),("_law_told",bf),("_law_whole",Eu),("_law_spread",qF),("_law_seen",WB),("_law_is_world",jw),("_law_keeps",Qx),("_law_open",QD),("_law_split",jx),("_law_walks",xp),("_law_papers_are",Zj),("_law_first",zx),("_law_asked",bB),("law",cN)],[("WorldError", "ValueError"),("NoSize", "WorldError"),("NoCode", "WorldError"),("TooBig", "WorldError"),("NoWorld", "WorldError")],[("GREATEST_SIZE",.o 4),("MOST_BITS",.o 16)]⟩
abbrev u9 (m:Nat):Fx:=⟨call prog m,prog.cl,prog.con⟩
noncomputable abbrev W.i (n:Nat):W:= .v (.o (n:Int))
noncomputable abbrev W.r (n:Nat):W:= .v (.ref n)
abbrev W.s (t:Tx):W:= .v (.str t)
abbrev W.b (b:Bool):W:= .v (.bl b)
abbrev W.t (t:Y0 D):W:= .v (.tup t)
abbrev W.l (t:Y0 D):W:= .v (.lst t)
noncomputable abbrev sv (d:D):Y1 W:=k0 (.v d)
abbrev si (n:Nat):Y1 W:=k0 (.i n)
def nk (m j:Nat) (h:j<=m): ∃k,m=k+j:=⟨m-j,by omega⟩
noncomputable abbrev D.n (n:Nat):D:= .o (n:Int)
theorem xB (f): ∀ ds,(∀ d∈ds,step d h= .j (f d) h)->Gy step ds h= .j (ds.T f) h
 | [],_=>rfl
 | d::ds,a=>by
  have c:=xB f ds λd b=>a d (Aa2 _ b)
  rw [Gy,a d Aa3]
  simp only [c]
  cases q:f d<;>simp [q]
def Az (f) (p:Gk F it τ h= .j ds h) (l:ds.e<=bp)
 (n: ∀d∈ds,∃i b,Gq tg one d (Aa9 k y0++aD.j λj=>Gi τ j)=k0 i/\Gn F c i h= .j b h/\(if b=u0 then ∃w y,eval F elt i h= .j w h/\w.d=k0 y/\f d=k0 y else f d=y0)):
 eval F (.L tg one k aD it u0 c elt) τ h= .j (.own (ds.T f)) h:=by
 rw [eval,p,R.af,if_pos l,xB f]
 .rfl
 intro d o
 obtain⟨i,b,g,e,a⟩:=n d o
 rw [g]
 show((Gn F c i h).bind _)=_
 rw [e]
 cases b with
 | true=>
  obtain⟨w,y,e1,e2,m⟩:=a
  simp [e1,e2,m]
 | false=>
  rw [if_neg (by simp)]at a
  simp [a]
def ql (f) (l:Gk F it τ h= .j ds h) (b:ds.e<=bp)
 (e: ∀d∈ds,∃i,Gq tg one d (Aa9 k y0++aD.j λj=>Gi τ j)=k0 i/\ ∃w,eval F elt i h= .j w h/\w.d=k0 (f d)):
 eval F (.L tg one k aD it k9 c elt) τ h= .j (.own (ds.j f)) h:=by
 rw [eval,l,R.af,if_pos b,xB (λd=>k0 (f d))]
 .simp [List.filterMap_eq_map']
 intro d g
 obtain⟨i,a,w,e1,e2⟩:=e d g
 rw [a]
 simp [e1,e2]
def qP (bnd) (body) (d) (ds) (τ) (h):Gp bnd body (d::ds) τ h=match bnd d τ with
 | none=> .fail
 | some c=>match body c h with
  | .next a b=>Gp bnd body ds a b
  | .cont a b=>Gp bnd body ds a b
  | .brk a b=> .next a b
  | o=>o:=rfl
@[simp] theorem zK (bnd) (body) (τ) (h):Gp bnd body [] τ h= .next τ h:=rfl
def Wa (a:bnd d τ=k0 τ1) (b:body τ1 h= .next τ2 h2):Gp bnd body (d::ds) τ h=Gp bnd body ds τ2 h2:=by
 rw [qP,a];simp [b]
@[simp] theorem GD (i) (d) (τ):Gq [i] u0 d τ=k0 (Gz τ i (.v d)):=rfl
@[simp] theorem Kg (tg) (ds) (τ):Gq tg k9 (.tup ds) τ=ba tg ds τ:=rfl
def Wc (a b:Nat):Kf (a:Int) (b:Int)=k0 ((a &&& b:Nat):Int):=by simp [Kf]
def xm (a b:Nat):la (a:Int) (b:Int)=k0 ((a ||| b:Nat):Int):=by simp [la]
@[simp] theorem HW (i j):Gj .w i j=if 0<j then k0 (i % j)else none:=rfl
@[simp] theorem EW (i j):Gj .fdiv i j=if 0<j/\j<lz then k0 (i / j)else none:=rfl
@[simp] theorem jc (i j):Gj .j i j=Kf i j:=rfl
@[simp] theorem Zn (i j):Gj .p i j=la i j:=rfl
def Xd (a b:Nat) (h:a<2 ^ 64):Gj .q (a:Int) (b:Int)=k0 ((a*b:Nat):Int):=by
 have c:(-eD< a/\ a<eD)\/(-eD< b/\ b<eD):=by rw [GY];omega
 show(if _ then _ else _)=_
 rw [if_pos c,Int.natCast_mul]
def j7 (k:Nat) (h:k<=1000000):Gj .y 1 (k:Int)=k0 ((2 ^ k:Nat):Int):=by
 have a: 0<=(k:Int)/\ k<=BP/\(1:Int).p<lG:=by rw [Kd,GC];exact⟨by lia,by lia,by decide⟩
 show(if _ then _ else _)=_
 rw [if_pos a,Int.one_mul,Ad5]
 simp
def jp (t k:Nat):Gj .A (t:Int) (k:Int)=k0 ((t / 2 ^ k:Nat):Int):=by
 simp [Gj,Int.natCast_pow]
def qR (t k):(t / 2 ^ k &&& 1)=(t.j k).j:=by
 have:=Af3 (t / 2 ^ k) 1
 rw [this]
 exact Wf.hS t k
noncomputable def pD (p:Nat×Nat):D:= .tup [.o (p.1:Nat),.o (p.2:Nat)]
def KY (n t:Nat) (m):(((Aa7 m).j λi=>D.n i).T λd=>match d with
 | .o i=>if t.j i.j then k0 (.tup [.o (i / (n:Int)),.o (i % (n:Int))])else y0
 | _=>y0)=(((Aa7 m).Q t.j).j λk=>(k / n,k % n)).j pD:=by
 induction Aa7 m with
 | nil=>rfl
 | cons x c b=>
  by_cases a:t.j x=u0
  .simp [a,pD,b]
  .simp [a,b]
def iE (m)(a:d∈(Aa7 m).j λi=>D.n i): ∃i:Nat,i<m/\d= .n i:=by
 obtain⟨i,b,rfl⟩:=Ac.p a
 exact⟨i,Ab9.p b,rfl⟩
def ji (a:n<=20):n*n<=400:=Ab5 (Af5 a a) (by decide)
def yY (a:n<=20):n*n<=bp:=Ab5 (ji a) (by rw [Gg];decide)
def Jm (e:eval F a τ h= .j (.i m) h) (c:m<=1000000):Gk F (.p a) τ h= .j ((Aa7 m).j λi=> .n i) h:=by
 have b: -f7<= m/\ m<f7:=by rw [GT];lia
 rw [Gk,e,R.af,int?_int,R.ar,R.af,if_pos b,Ad5]
def Dv (a:n<=20) (e:Gi τ i=si n/\Gi τ j=si n):Gk F (.p (.w .q (.a3 i) (.a3 j))) τ h= .j ((Aa7 (n*n)).j λi=> .n i) h:=by
 have b:=ji a
 refine Jm ?_ (by lia)
 simp [e.1,e.2,(Xd n n (by lia))]
def Wu (k n t) (h) (e:n<=20):call prog (k+1) "pairs_of" [.i n,.i t] h= .j (.own ((Wf.ay n t).j pD)) h:=by
 rw [Gb rfl _ _ _ rfl]
 simp only [ZQ,execs,exec,QF,GK]
 rw [Az (λd=>match d with
  | .o i=>if t.j i.j then k0 (.tup [.o _,.o (i % n)])else y0
  | _=>y0) (Dv e (by simp [Gi])) (by simpa using yY e)]
 .rw [KY]
  simp [Wf.ay]
 .intro d f
  obtain⟨i,j,rfl⟩:=iE _ f
  have b:0<n:=by cases n with
   | zero=>simp at j
   | succ m=>lia
  have a:0< n/\ n<lz:=by rw [GS];lia
  have g:Kf ((t / 2 ^ i:Nat)) 1=k0 (((t.j i).j:Nat):Int):=by
   rw [show 1=((1:Nat):Int)from rfl,Wc,qR]
  refine⟨_,t.j i,rfl,?_,?_⟩
  .unfold Gn
   simp only [eval,Gi,Af0,List.replicate_zero,Ab2,Ap8,Ae6,Gz,Gm,R.af,GH,jp,jc,g,R.ar,A9]
   cases t.j i<;>rfl
  .by_cases c:t.j i=u0
   .simp [c,Gi,a,b]
   .simp [c]
end M
local macro_rules | `(tactic| simp! [$xs,*]) => do
 let y:=("M.exec M.execs M.Gn M.eval M.Gf M.Gu M.Gk M.Gs M.GK M.Gi M.Gm M.Gz M.ba M.R.af M.R.aw M.R.ar M.O.bx M.O.ck M.O.eU M.W.lI M.W.fZ M.W.b4 M.W.eW M.W.hY List.map_cons List.map_nil List.cons_append List.nil_append Nat.reduceSub List.replicate_succ List.replicate_zero M.GR Bool.not_true Bool.not_false M.GH Option.bind_some M.Kq M.Kx M.Kw M.Kc M.Ku M.Ky M.int?_int M.Ga M.Gv M.GZ M.GA M.GD M.Kg".splitOn " ").toArray.map λx=>Lean.mkNode ``Lean.Parser.Tactic.simpLemma #[Lean.mkNullNode,Lean.mkNullNode,Lean.mkIdent (`_root_++x.toName)]
 `(tactic| simp only [$y,*,$xs,*])
namespace M
open M renaming D.int→M.D.o,D.str→M.D.j,D.tup→M.D.q,R.ok→M.R.j,W.own→M.W.j,O.next→M.O.p
def Md (e:n<=20)(f:a<n) (d:b<n) (h):
 execs F zj [si n,k0 l,si t,si a,si b] h=
  .p [si n,k0 l,si (t ||| 2 ^ (a*n+b)),si a,si b] h:=by
 have c:Gj .shl 1 _=k0 ((2 ^ (a*n+b):Nat):Int):=j7 _ (by
  have:=Wf.place_lt f d
  have:=ji e
  lia)
 rw [Int.natCast_add]at c
 simp only [zj,execs,exec,eval,Gi,Gm,R.af,R.ar,R.aw,O.bx,GH,(Xd a n (by lia)),Zc,c,Zn,(xm t (2 ^ (a*n+b))),W.lI,Gz]
theorem uY (c:n<=20)(h): ∀ ps t r x y,Wf.fu n ps-> ∃j i,
 Gp (Gq [3,4] k9) (λτ h=>execs F zj τ h) (ps.j pD++r) [si n,k0 l,si t,x,y] h=
  Gp (Gq [3,4] k9) (λτ h=>execs F zj τ h) r [si n,k0 l,sv (.o ((ps.U (λt p=>t ||| 2 ^ (p.1*n+p.2)) t:Nat):Int)),j,i] h
 | [],t,r,x,y,_=>⟨x,y,rfl⟩
 | p::ps,t,r,x,y,a=>by
  have b:=a p Aa3
  obtain⟨j,i,e⟩:=uY c h ps (t ||| 2 ^ (p.1*n+p.2)) r (sv (.o p.1)) (sv (.o p.2)) λq d=>a q (Aa2 _ d)
  refine⟨j,i,?_⟩
  rw [Ab2,Ap8,Wa rfl (Md c b.1 b.2 h),e]
  rfl
def Ho (k n) (ps) (l) (c:lH l=k0 (ps.j pD)) (h) (b:n<=20) (a:Wf.fu n ps):call prog (k+1) "gathered" [.i n,l] h= .j (.i (Wf.cX n ps)) h:=by
 rw [Gb rfl _ _ _ rfl]
 obtain⟨d,f,e⟩:=uY b h ps 0 [] y0 y0 a
 rw [Ad8,zK]at e
 simp [jQ,c,R.ar]
 rw [show (0)=((0:Nat):Int)from rfl,e]
 simp [Wf.cX]
def WJ (k n) (ps) (h) (b:n<=20) (a:Wf.fu n ps):call prog (k+3) "gathered" [.i n,.bor (ps.j pD)] h= .j (.i (Wf.cX n ps)) h:=Ho _ n ps _ rfl h b a
def JT (k s t) (h):call prog (k+1) "either" [.i s,.i t] h= .j (.i (s ||| t)) h:=by
 rw [Gb rfl _ _ _ rfl]
 simp! [uW,Zn,xm]
def Nr (k s t) (h):call prog (k+1) "common" [.i s,.i t] h= .j (.i (s &&& t)) h:=by
 rw [Gb rfl _ _ _ rfl]
 simp! [yl,jc,Wc]
def xL (s t:Nat):Kf (s:Int) (-(t:Int)-1)=k0 ((s-(s &&& t):Nat):Int):=by
 have b: ¬(0<= -(t:Int)-1):=by lia
 have a: 0<=(s:Int):=by lia
 have c:(-(-(t:Int)-1)-1).j=t:=by lia
 rw [Kf,if_pos a,if_neg b,c,Ad5]
def jz (k s t) (h):call prog (k+1) "without" [.i s,.i t] h= .j (.i (s-(s &&& t))) h:=by
 rw [Gb rfl _ _ _ rfl]
 simp! [wX,jc,xL]
def Ed (q:eval F e τ h= .j (.j xs) h):Gk F (.seq e) τ h= .j xs h:=by
 rw [Gk,q];rfl
def BL (q:eval F e τ h= .j (.t xs) h):Gk F (.seq e) τ h= .j xs h:=by
 rw [Gk,q];rfl
def JL (n t) (a:n<=20):((Wf.ay n t).j pD).e<=bp:=by
 refine Ab5 ?_ (yY a)
 simp only [Wf.ay,Aa]
 exact Ab5 (Aj _ _) (by simp)
def E7 (k n t) (h) (a:n<=20):call prog (k+4) "turned" [.i n,.i t] h= .j (.i (Wf.bL n t)) h:=by
 rw [Gb rfl _ _ _ rfl]
 have b: ∀h,eval (u9 (k+3)) XA [si n,si t] h= .j (.j ((Wf.mr (Wf.ay n t)).j pD)) h:=by
  intro h
  rw [XA,ql (λd=>match d with | .q [x,y]=> .q [y,x] | d=>d) (Ed ?_) (JL n t a)]
  .simp [Wf.mr,pD,Function.comp_def]
  .intro d c
   obtain⟨p,e,rfl⟩:=Ac.p c
   exact⟨_,rfl,_,rfl,rfl⟩
  .simp! [Wu _ n t h a]
 simp! [yi,b,WJ k n _ h a (Wf.fh (Wf.bU n t))]
 rfl
def Ik (k n) (h) (b:n<=20):call prog (k+4) "same" [.i n] h= .j (.i (Wf.bK n)) h:=by
 rw [Gb rfl _ _ _ rfl]
 have c: ∀h,eval (u9 (k+3)) QV [si n] h= .j (.j (((Aa7 n).j λa=>(a,a)).j pD)) h:=by
  intro h
  rw [QV,ql (λd=> .q [d,d]) (Jm (m:=n) (by simp! []) (by lia)) (by simp;rw [Gg];lia)]
  .simp [pD,Function.comp_def]
  .intro d e
   exact⟨_,rfl,_,rfl,rfl⟩
 simp! [uz,c,WJ k n _ h b (Wf.el n)]
 rfl
def uK (k n) (h) (c:n<=20):call prog (k+1) "every" [.i n] h= .j (.i (2 ^ (n*n)-1)) h:=by
 rw [Gb rfl _ _ _ rfl]
 have b:=j7 (n*n) (by have:=ji c;lia)
 have a:((2 ^ (n*n):Nat))-1=((2 ^ (n*n)-1:Nat):Int):=by
  have:=Ad4 (n*n)
  omega
 simp! [AZ,(Xd n n (by lia)),b,Qe,a]
def jU (x k:Nat) (a:x<2 ^ 64) (h:k<=1000000):Gj .shl (x:Int) (k:Int)=k0 ((x*2 ^ k:Nat):Int):=by
 have b: 0<=(k:Int)/\ k<=BP/\(x:Int).p<lG:=by rw [Kd,GC];exact⟨by lia,by lia,by simpa using a⟩
 show(if _ then _ else _)=_
 rw [if_pos b,Ad5,Int.natCast_mul,Int.natCast_pow]
 rfl
def LG (c:n<=20) (f:a<n) (g:b<n)(h):
 execs F wu [si n,si o,si p,si (2 ^ n-1),si t,si a,si b,x7] h=
  .p [si n,si o,si p,si (2 ^ n-1),si (t ||| Wf.cy n p b*2 ^ (a*n)),si a,si b,si (Wf.cy n p b)] h:=by
 have d:(p / 2 ^ (b*n) &&& (2 ^ n-1))=Wf.cy n p b:=by rw [Af3];rfl
 have e:=Ab5 (Af5 (Ag5 f) (Aa8 n)) (ji c)
 simp! [wu,(Xd a n (by lia)),(Xd b n (by lia)),jp,jc,Wc,d,(jU _ (a*n) (Ab3 (Wf.dh n p b) (Ab5 (Ad (by decide) c) (by decide))) (by lia)),Zn,xm]
theorem vR (c:n<=20) (h): ∀ ps t x y z,Wf.fu n ps-> ∃j i L,
 Gp (Gq [5,6] k9) (λτ h=>execs F wu τ h) (ps.j pD) [si n,si o,si p,si (2 ^ n-1),si t,x,y,z] h=
  .p [si n,si o,si p,si (2 ^ n-1),sv (.o ((ps.U (λt q=>t ||| Wf.cy n p q.2*2 ^ (q.1*n)) t:Nat):Int)),j,i,L] h
 | [],t,x,y,z,_=>⟨x,y,z,rfl⟩
 | q::ps,t,x,y,z,a=>by
  have b:=a q Aa3
  obtain⟨j,i,L,e⟩:=vR c h ps (t ||| Wf.cy n p q.2*2 ^ (q.1*n)) (sv (.o q.1)) (sv (.o q.2)) (si (Wf.cy n p q.2)) λq d=>a q (Aa2 _ d)
  refine⟨j,i,L,?_⟩
  rw [Ab2,Wa rfl (LG c b.1 b.2 h),e]
  rfl
def QS (k n o p) (h) (a:n<=20):call prog (k+2) "joined" [.i n,.i o,.i p] h= .j (.i (Wf.joinM n o p)) h:=by
 rw [Gb rfl _ _ _ rfl]
 have b:((2 ^ n:Nat))-1=((2 ^ n-1:Nat):Int):=by
  have:=Ad4 n
  lia
 obtain⟨c,f,d,e⟩:=vR a h _ 0 y0 y0 y0 (Wf.bU n o)
 simp! [sA,(j7 n (by lia)),Qe,b,Wu k n o h a]
 rw [show (0)=((0:Nat):Int)from rfl,e]
 simp! []
 rfl
theorem WZ (g:n<=20) (h): ∀ f r,2 ^ (n*n)-r<f->Wf.f6 n t r-> ∃r',Wf.fD n t r' ∧
 GI (λτ h=>Gn (u9 (k+2)) Ju τ h) (λτ h=>execs (u9 (k+2)) zu τ h) f [si n,si t,si r,si (r ||| Wf.joinM n r r)] h=
  .p [si n,si t,si r',si r'] h
 | 0,r,d,_=>absurd d (Ag3 _)
 | f+1,r,d,c=>by
  have j: ∀ a b,Gn (u9 (k+2)) Ju [si n,si t,si a,si b] h= .j (!y9 (b=a)) h:=by
   intro a b
   simp [Gn,Ju,Gi,GU]
   by_cases q:b=a
   .simp [q]
   .have: ¬(b=(a:Int)):=by omega
    simp [q,this]
  rw [GI,j,R.aw]
  by_cases e:r ||| Wf.joinM n r r=r
  .refine⟨r,c.done e,?_⟩
   simp only [e,decide_true,An0]
  .have p:=c.grow e
   have l:=c.next.lt
   obtain⟨r',i,m⟩:=WZ g h f (r ||| Wf.joinM n r r) (by omega) c.next
   refine⟨r',i,?_⟩
   simp only [e,decide_false,Ao5]
   have o:execs (u9 (k+2)) zu [si n,si t,si r,si (r ||| Wf.joinM n r r)] h=
    .p [si n,si t,si (r ||| Wf.joinM n r r),si ((r ||| Wf.joinM n r r) ||| Wf.joinM n (r ||| Wf.joinM n r r) (r ||| Wf.joinM n r r))] h:=by
    simp! [zu,QS k n _ _ h g,JT (k+1) _ _ h]
   simp only [o]
   exact m
def Mj (k n t) (h) (b:n<=4) (e:t<2 ^ (n*n)): ∃r,Wf.fD n t r/\call prog (k+3) "closed" [.i n,.i t] h= .j (.i r) h:=by
 rw [Gb rfl _ _ _ rfl]
 have c:2 ^ (n*n)-t<100000:=by
  have:n*n<=16:=Af5 b b
  have:2 ^ _<=2 ^ 16:=Ad (by decide) this
  lia
 obtain⟨r,d,a⟩:=WZ (by lia) h 100000 t c (Wf.f6.start e)
 refine⟨r,d,?_⟩
 simp [Gn]at a
 simp! [AR,QS k n _ _ h (by lia),JT _ _ _ h]
 rw [a]
 simp! []
def za (e:exec F s τ h= .p τ1 h1):execs F (.cons s ss) τ h=execs F ss τ1 h1:=by rw [execs,e,O.bx]
def fx (e:exec F s τ h= .p τ1 h1) (g:Gw n (execs F ss τ1 h1)=r):Gw n (execs F (.cons s ss) τ h)=r:=by rw [za e];exact g
def ja (e:exec F s τ h= .ret w h1):execs F (.cons s ss) τ h= .ret w h1:=by rw [execs,e,O.ck]
def xu (e:Gn F c τ h= .j u0 h1):exec F (.iff c a b) τ h=execs F a τ h1:=by rw [exec,e,R.aw]
def my (e:Gn F c τ h= .j k9 h1):exec F (.iff c a b) τ h=execs F b τ h1:=by rw [exec,e,R.aw]
def Zx (a:GK e=y0) (q:eval F e τ h= .j (.j xs) h1):exec F (.ret e) τ h= .ret (.j xs) h1:=by
 rw [exec,a];simp [q,R.aw]
def Ja (a:GK e=y0) (q:eval F e τ h= .j (.v d) h1):exec F (.ret e) τ h= .ret (.v d) h1:=by
 rw [exec,a];simp [q,R.aw]
def xq (e:h[r]? =k0 (.lst xs)) (i):dJ (.r r) (.v (.o i)) h=a8 xs i:=by
 simp [dJ,W.dY,W.seq?,e]
def mq (x y z:D):a8 [x,y,z] 0=k0 x:=rfl
def JU (x y z:D):a8 [x,y,z] 1=k0 y:=rfl
def J6 (x y z:D):a8 [x,y,z] 2=k0 z:=rfl
def BS:d4 3 2=k0 2:=rfl
def QA (g:eval F e τ h= .j (.v d) h) (k:Gi τ i=k0 (.r r)) (c:h[r]? =k0 (.lst xs)) (b:d4 xs.e j=k0 n) (f:Ko d=u0) (a:h2=h.w r (.lst (xs.w n d))):
 exec F (.bZ (.var i) (.int j) e) τ h= .p τ h2:=by
 subst a
 simp only [exec,g,R.aw,eval,k,Ks,c,b,f,if_true]
def J7 (a b) (h: -(2:Int) ^ 64<b/\b<2 ^ 64):Gj .mul a b=k0 (a*b):=by
 have c:(-eD<a/\a<eD)\/(-eD<b/\b<eD):=by rw [GY];exact .q h
 show(if _ then _ else _)=_
 rw [if_pos c]
def Lu (a b) (h: -(2:Int) ^ 64<a/\a<2 ^ 64):Gj .mul a b=k0 (a*b):=by
 have c:(-eD<a/\a<eD)\/(-eD<b/\b<eD):=by rw [GY];exact .p h
 show(if _ then _ else _)=_
 rw [if_pos c]
def jJ (a b) (h:0<b):Gj .mod a b=k0 (a % b):=by
 rw [HW,if_pos h]
def AB (a b) (h:0<b) (c:b<1073741824):Gj .fdiv a b=k0 (a / b):=by
 rw [EW,if_pos ⟨h,by rw [GS];exact c⟩]
def BZ (i j) (h):Gr .eq (.v (.o i)) (.v (.o j)) h=k0 (y9 (i=j)):=by
 rfl
theorem JZ: ∀xs:Y0 Int,Km (xs.j .o)=k0 xs.X
 | []=>rfl
 | x::xs=>by simp [Km,JZ xs]
def Nf (f:α->β) (xs) (lo hi):cut (xs.j f) lo hi=(cut xs lo hi).j f:=by
 simp [cut,List.map_take]
def DS (xs:Y0 α) (lo hi):(cut xs lo hi).e<=xs.e:=by
 simp [cut,Af7]
 lia
abbrev me:Tx:= ye
noncomputable def Et:Y0 Tx:= [gF,iy,fk,ir,[101,97,99,104],gq,lh,hI,ke,iL,iw,kL,[107,105,110,100],[116,105,101],[115,97,121]]
structure D9 (t:Tx):Prop where
 lo:1<=t.e
 hi:t.e<=8
 IY: ∀c∈t,97<=c/\c<=122
 free:t∉Et
def Hr (i:Nat) (h:i<26):a8 me (i:Int)=k0 (97+i):=by
 have: ∀i:Nat,i<26->a8 me i=k0 (97+i):=by decide
 exact this i h
def pB (xs:Y0 α) (n:Nat):cut xs y0 (k0 (n:Int))=xs.A n:=by
 have a: ¬((n:Int)<0):=by lia
 simp only [cut,aV,a,if_false,Ad5,List.drop_zero,Nat.sub_zero]
 by_cases q:n<=xs.e
 .rw [Ak3 q]
 .rw [Nat.min_eq_right (by lia),Ai7 (Aa8 _),Ai7 (by lia)]
def XY (xs:Y0 α) (n:Nat):cut xs (k0 (n:Int)) y0=xs.J n:=by
 have a: ¬((n:Int)<0):=by lia
 simp [cut,aV,a,Ad5]
 by_cases q:n<=xs.e
 .rw [Ak3 q,Ai7 (by simp)]
 .rw [Nat.min_eq_right (by lia),List.drop_of_length_le (Aa8 _),List.drop_of_length_le (by lia),List.take_nil]
def oB (s) (lo hi) (h) (a:s.e<=bp):gN (.s s) lo hi h= .j (.s (cut s lo hi)) h:=by
 show(if s.e<=bp then _ else _)=_
 rw [if_pos a]
def mul_str (s) (n) (h) (b:n<=1000) (a:s.e*n<=1000000):GX .mul (.s s) (.i n) h= .j (.v (.j (Aa9 n s).L)) h:=by
 show(if 0<=(n:Int)/\(n:Int)<=1000/\s.e*(n:Int).j<=bp then _ else _)=_
 rw [if_pos ⟨by lia,by lia,by rw [Gg,Ad5];exact a⟩,Ad5]
def add_str (s u) (h) (a:s.e+u.e<=1000000):GX .add (.s s) (.s u) h= .j (.s (s++u)) h:=by
 rw [MW,if_pos (by rw [Gg];exact a)]
def WA (i) (a:i<26) (h):dJ (.s me) (.i i) h=k0 (.j [97+i]):=by
 rw [pR,if_pos (by rw [Gg];decide),Hr i a]
 rfl
def tf (f:Nat->α) (m) (h:m<=8) (d: ∀i,i<8-> ∀j,j<8->i≠j->f i≠f j):((Aa7 m).j f).B:=by
 rw [List.Nodup,List.pairwise_map]
 refine Ap.imp_of_mem ?_ (List.nodup_range)
 intro a b g e c
 exact d a (by have:=Ab9.p g;lia) b (by have:=Ab9.p e;lia) c
def pq (a b:Nat) (c:0<b):Gj .mod (a:Int) (b:Int)=k0 ((a % b:Nat):Int):=by
 rw [jJ _ _ (by lia)];rfl
def L5 (a b:Nat) (c:0<b) (d:b<1073741824):Gj .fdiv (a:Int) (b:Int)=k0 ((a / b:Nat):Int):=by
 rw [AB _ _ (by lia) (by lia)];rfl
def Fz (a b:Nat):Gj .add (a:Int) (b:Int)=k0 ((a+b:Nat):Int):=rfl
def Wd (xs:Y0 α) (i) (h:i<xs.e):a8 xs (i:Int)=xs[i]? :=by
 have:(i)< xs.e:=by omega
 simp [a8,d4,this]
def xn (i j) (h):Gr .eq (.i i) (.i j) h=k0 (y9 (i=j)):=by
 rw [BZ]
 congr 1
 exact decide_eq_decide.q (by lia)
theorem wE: ∀i:Y0 Tx,GQ (i.j .j)=k0 i
 | []=>rfl
 | t::i=>by simp [GQ,wE i]
theorem Bp (s): ∀i:Y0 Tx,inD (.j s) (i.j .j)=y9 (s∈i)
 | []=>rfl
 | t::i=>by
  have a:=Bp s i
  simp only [inD]at a
  by_cases q:t=s
  .subst q
   simp [inD]
  .have b: ¬s=t:=λe=>q e.p
   simp only [inD,Ab2,Ag7,a,Ab7,b,false_or]
   simp [q]
theorem A4: ∀(a:Y0 Tx) (h),(GO h (a.j .j)=a.j .j/\Gc (a.j .j)=u0)/\GG (a.j .j)=0
 | [],_=>⟨⟨rfl,rfl⟩,rfl⟩
 | t::a,h=>by
  have b:=A4 a h
  simp [b]
def Wy (s) (a:Y0 Tx) (w) (h) (b:A0 (w.dd h)=k0 (GO h (a.j .j))):G9 (.s s) w h=k0 (y9 (s∈a)):=by
 unfold G9
 simp [b,(A4 a h),Bp]
structure Nm (ts:List Tx):Prop where
 nd:ts.B
 good: ∀t∈ts,D9 t
def Je (x) (r:Y0 α):a8 (x::r) 0=k0 x:=by
 have: 0< (x::r).e:=by simp
 simp [a8,d4,this]
def Cb (xs) (n) (h) (b:n<=1000) (a:xs.e*n<=1000000):GX .mul (.j xs) (.i n) h= .j (.j (Aa9 n xs).L) h:=by
 show Kz xs n h=_
 rw [Kz,if_pos ⟨by lia,by lia,by rw [Ad5,Gg];exact a⟩,Ad5]
def nM (b:Gd d=u0) (c:n<=h.e) (a:Gx (h.A n)=u0): ∃h',Gw n (.ret (.v d) h)= .j (.v d) h'/\h'=h.A n:=by
 by_cases q:h.e=n
 .exact⟨h,by simp [Gw,fin,q],by rw [← q,Ap7]⟩
 .exact⟨h.A n,by simp [Gw,fin,q,W.keep,b,a],rfl⟩
theorem Jw: ∀i:Y0 Tx,Gc (i.j .j)=u0
 | []=>rfl
 | t::i=>by simp [Jw i]
def KN (a:Gf F es τ h= .j ws h) (b:F.call f (ws.j W.arg) h= .j (.j xs) h) (c:Gc xs=u0):eval F (.share (.call f es)) τ h= .j (.r h.e) (h++ [.lst xs]):=by
 simp only [eval,a,R.af,b,c,if_true]
theorem wt (x): ∀ys:Y0 Tx,(Ki x ys).Perm (x::ys)
 | []=> .refl _
 | y::ys=>by
  unfold Ki
  by_cases q:y<x
  .rw [if_pos q]
   exact((wt x ys).cons y).trans (.swap x y ys)
  .rw [if_neg q]
theorem Qk: ∀xs:Y0 Tx,(GB xs).Perm xs
 | []=> .refl _
 | x::xs=>(wt x (GB xs)).trans ((Qk xs).cons x)
noncomputable abbrev iQ (a:Y0 Tx):D:= .q (a.j .j)
abbrev wD (K T:Y0 Tx):D:= .q [iQ K,iQ T]
def WP (ts) (h) (a:ts.e<64):dZ .sorted [.j (ts.j .j)] h= .j (.j ((GB ts).j .j)) h:=by
 show(R.of h ((k0 _).p GQ)).bind _=_
 rw [Af4,wE,R.ar,R.af,if_pos a]
abbrev aC (l:Y0 Nat):Y0 D:=l.j λ(x:Nat)=> .n x
abbrev kH (n:Nat) (b a:Y0 Nat):D:= .q [.n n,.q (aC b),.q (aC a)]
structure BN (n K T:Nat) (ks ts:List Nat):Prop where
 n4:n<=4
 lk:ks.e=K
 lt:ts.e=T
 bk: ∀x∈ks,x<2 ^ n
 bt: ∀x∈ts,x<2 ^ (n*n)
inductive Ex where
 | name (t:Tx)
 | same
 | all
 | none
 | turned (a:Ex)
 | closed (a:Ex)
 | plus (a b:Ex)
 | less (a b:Ex)
 | both (a b:Ex)
 | joined (a b:Ex)
abbrev Jg:Tx:= [110,97,109,101]
noncomputable abbrev jf:Tx:= [115,97,109,101]
abbrev Xn:Tx:= [97,108,108]
abbrev wh:Tx:= [110,111,110,101]
abbrev WE:Tx:= [112,108,117,115]
abbrev jq:Tx:= [108,101,115,115]
abbrev Jy:Tx:= [98,111,116,104]
abbrev Wg:Tx:= [106,111,105,110,101,100]
abbrev xi:Tx:= [116,117,114,110,101,100]
abbrev Ji:Tx:= [99,108,111,115,101,100]
noncomputable def aY:Ex->D
 | .name t=> .q [.j Jg,.j t]
 | .same=> .q [.j jf]
 | .all=> .q [.j Xn]
 | .none=> .q [.j wh]
 | .turned a=> .q [.j xi,aY a]
 | .closed a=> .q [.j Ji,aY a]
 | .plus a b=> .q [.j WE,aY a,aY b]
 | .less a b=> .q [.j jq,aY a,aY b]
 | .both a b=> .q [.j Jy,aY a,aY b]
 | .joined a b=> .q [.j Wg,aY a,aY b]
def Ex.wf (N:Y0 Tx):Ex->Prop
 | .name t=>t∈N
 | .turned a=>a.wf N
 | .closed a=>a.wf N
 | .plus a b=>a.wf N/\b.wf N
 | .less a b=>a.wf N/\b.wf N
 | .both a b=>a.wf N/\b.wf N
 | .joined a b=>a.wf N/\b.wf N
 | _=>True
noncomputable def Ex.dp:Ex->Nat
 | .turned a=>a.dp+1
 | .closed a=>a.dp+1
 | .plus a b=>max a.dp b.dp+1
 | .less a b=>max a.dp b.dp+1
 | .both a b=>max a.dp b.dp+1
 | .joined a b=>max a.dp b.dp+1
 | _=>0
end M
namespace Wf
noncomputable def wr (g:Nat->Nat->Bool):Nat->Nat->Nat->Bool
 | 0,a,b=>g a b
 | k+1,a,b=>wr g k a b||(wr g k a k&&wr g k k b)
theorem pW : ∀k,g a b=u0->wr g k a b=u0
 | 0,h=>h
 | k+1,h=>by rw [wr,pW k h,Am3]
theorem sD : ∀ k m,m<k-> ∀a b,wr g k a m=u0->wr g k m b=u0->wr g k a b=u0
 | 0,m,f=>absurd f (Ag3 _)
 | k+1,m,f=>λa b d c=>by
  rw [wr,Ae7,Aa0]at d c
  rw [wr,Ae7,Aa0]
  by_cases q:m=k
  .subst q
   have d:=d.j id And.left
   have c:=c.j id And.right
   exact .q ⟨d,c⟩
  .have h:m<k:=by omega
   have e:=sD (g:=g) k m h
   rcases d with d | d<;>rcases c with c | c
   .exact .p (e a b d c)
   .exact .q ⟨e a k d c.1,c.2⟩
   .exact .q ⟨d.1,e k b d.2 c⟩
   .exact .q ⟨d.1,c.2⟩
theorem zH (e: ∀a b,a<n->b<n->(g a b=u0↔t.j (a*n+b)=u0)): ∀k,k<=n-> ∀a b,a<n->b<n->wr g k a b=u0->TC n t a b
 | 0,_,a,b,c,d,h=> .step c d ((e a b c d).p h)
 | k+1,f,a,b,c,d,h=>by
  rw [wr,Ae7,Aa0]at h
  rcases h with h | h
  .exact zH e k (by omega) a b c d h
  .exact(zH e k (by omega) a k c (by omega) h.1).trans (zH e k (by omega) k b (by omega) d h.2)
def HJ (f: ∀a b,a<n->b<n->(g a b=u0↔t.j (a*n+b)=u0))(h:TC n t a b):wr g n a b=true:=by
 induction h with
 | step c d e=>exact pW n ((f _ _ c d).q e)
 | more j c d e i=>exact sD n _ c _ _ i (pW n ((f _ _ c d).q e))
def kQ (c: ∀a b,a<n->b<n->(g a b=u0↔t.j (a*n+b)=u0))(d:a<n) (e:b<n):wr g n a b=u0↔TC n t a b:=⟨zH c n (Aa8 n) a b d e,HJ c⟩
end Wf
namespace M
open M renaming E.int→M.E.o,E.str→M.E.j,E.call→M.E.p,E.lst→M.E.u,E.bin→M.E.w,E.cmp→M.E.y,E.v0→M.E.z,E.ix→M.E.A,E.v1→M.E.B,E.bl→M.E.C,E.v2→M.E.J,E.v3→M.E.K,E.comp→M.E.L,E.bi→M.E.Z,D.int→M.D.o,D.str→M.D.j,D.ref→M.D.p,D.tup→M.D.q,D.lst→M.D.u,D.bl→M.D.C,D.ak→M.D.Q,Es.cons→M.Es.j,Es.nil→M.Es.p,Ss.cons→M.Ss.j,Ss.nil→M.Ss.p,R.ok→M.R.j,R.bind→M.R.p,Cell.lst→M.Cell.u,Cell.obj→M.Cell.j,Cell.aP→M.Cell.p,W.own→M.W.j,W.bor→M.W.p,O.ret→M.O.j,O.next→M.O.p,It.seq→M.It.j,Ty.tuple→M.Ty.w,Ex.none→M.Ex.u,Ex.all→M.Ex.K,Ex.turned→M.Ex.B,Ex.dp→M.Ex.j,Ex.name→M.Ex.p,Ex.joined→M.Ex.q,Ex.closed→M.Ex.w,Ex.wf→M.Ex.y,Ex.less→M.Ex.z,Bi.len→M.Bi.y,Op.band→M.Op.j,Op.mul→M.Op.q,Op.add→M.Op.u,Op.mod→M.Op.w,Cp.eq→M.Cp.j,Cp.mem→M.Cp.p,Cp.ne→M.Cp.q,Fn.body→M.Fn.j
def di (t:Tx) (a:Y0 Tx):Nat:=(Kk t a).getD 0
theorem zn : ∀ {i},t∈i->Kk t i=k0 (di t i)/\di t i<i.e
 | y::b,h=>by
  unfold di
  by_cases q:y=t
  .simp [Kk,q]
  .have a:t∈b:=by
    rcases Ab7.p h with e | e
    .exact absurd e.p q
    .exact e
   obtain⟨e,l⟩:=zn a
   simp only [Kk,q,if_false,e,Option.map_some,Al,Aa6]at l ⊢
   exact⟨trivial,by omega⟩
structure Wo where
 n:Nat
 K:List Tx
 T:List Tx
 ks:List Nat
 ts:List Nat
structure Wo.Ok (w:Wo):Prop where
 hK:w.K.e<=4
 hT:w.T.e<=4
 nd:(w.K++w.T).B
 wl:BN w.n w.K.e w.T.e w.ks w.ts
def Wo.at (w:Wo) (t:Tx) (a b:Nat):Prop:=if t∈w.T then(w.ts.C (di t w.T) 0).j (a*w.n+b)=u0 else a=b/\(w.ks.C (di t w.K) 0).j a=u0
def fL (w:Wo):Ex->Nat->Nat->Prop
 | .p t,a,b=>w.at t a b
 | .same,a,b=>a=b
 | .K,_,_=>True
 | .u,_,_=>False
 | .B e,a,b=>fL w e b a
 | .w e,a,b=> ∃t,t<2 ^ (w.n*w.n)/\(∀ x y,x<w.n->y<w.n->(t.j (x*w.n+y)=u0↔fL w e x y))/\Wf.TC w.n t a b
 | .plus e f,a,b=>fL w e a b\/fL w f a b
 | .z e f,a,b=>fL w e a b/\ ¬fL w f a b
 | .both e f,a,b=>fL w e a b/\fL w f a b
 | .q e f,a,b=> ∃c,c<w.n/\fL w e a c/\fL w f c b
def Is (w:Wo) (e:Ex) (v:Nat):Prop:=v<2 ^ (w.n*w.n)/\ ∀a b,a<w.n->b<w.n->(v.j (a*w.n+b)=u0↔fL w e a b)
def pG (a:s<2 ^ n) (b:t<2 ^ n):s ||| t<2 ^ n:=Ak9 a b
def Wo.words (w:Wo):D:=wD w.K w.T
open M renaming Wo.words→M.Wo.j
def Wo.aG (w:Wo):D:=kH w.n w.ks w.ts
open M renaming Wo.aG→M.Wo.p
def nF (l) (i:Nat) (h:i<l.e):a8 (aC l) (i:Int)=k0 (.n (l.C i 0)):=by
 rw [Wd _ _ (by simp_all),Ac1,Aa4 h,Ac7,Aa4 h]
 rfl
def Z3 (ts) (t) (h) (a:t∈ts) (b:ts.e<=1000):nJ .index (.v (iQ ts)) [.s t] h= .j (.i (di t ts)) h:=by
 show(R.of h ((k0 _).p GQ)).p _=_
 rw [Af4,wE,R.ar,R.af]
 show(R.of h (k0 t)).p _=_
 rw [R.ar,R.af,(zn a).1,R.ar,R.af,if_pos (by rw [Gg];lia)]
def uy (x y z:D):a8 [x,y,z] 0=k0 x:=rfl
def Wh (x y:D):a8 [x,y] 0=k0 x:=rfl
def Xg (x y:D):a8 [x,y] 1=k0 y:=rfl
def BH (x:D):a8 [x] 0=k0 x:=rfl
noncomputable def iY (n x:Nat):Y0 (Nat×Nat):=((Aa7 n).Q x.j).j λa=>(a,a)
def QU (n x):Wf.fu n (iY n x):=λp b=>by
 obtain⟨a,c,rfl⟩:=Ac.p b
 have:=Ab9.p (Ai9.p c).1
 exact⟨this,this⟩
def uw (j:a<n) (g:b<n):(Wf.cX n (iY n x)).j (a*n+b)=u0↔a=b/\x.j a=true:=by
 rw [Wf.cO,Ad2]
 refine⟨λ⟨p,h,e⟩=> ?_,λ⟨e,i⟩=> ?_⟩
 .obtain⟨c,d,rfl⟩:=Ac.p h
  have f:=Ai9.p d
  have d:=Ab9.p f.1
  have e:=of_decide_eq_true e
  have e1:=congrArg (· / n) e
  have e2:=congrArg (· % n) e
  simp [Wf.aI d,Wf.aI g,Wf.aK d,Wf.aK g]at e1 e2
  subst e1
  exact⟨e2,f.2⟩
 .subst e
  exact⟨_,Ac.q ⟨a,Ai9.q ⟨Ab9.q j,i⟩,rfl⟩,decide_eq_true rfl⟩
def CZ (n x) (l:n<=4) (h):eval F Xh [a,b,c,si n,si x] h= .j (.j ((iY n x).j pD)) h:=by
 rw [Xh,Az (λd=>match d with
  | .o i=>if x.j i.j then k0 (.q [.o i,.o i])else y0
  | _=>y0) (Jm (m:=n) (by simp! []) (by lia)) (by simp;rw [Gg];lia)]
 .congr 2
  rw [List.filterMap_map,iY,Ae]
  induction Aa7 n with
  | nil=>rfl
  | cons y k f=>
   by_cases e:x.j y=u0
   .simp [e,pD,f]
   .simp [e,f]
 .intro d g
  obtain⟨i,o,rfl⟩:=iE _ g
  have j:Kf ((x / 2 ^ i:Nat)) 1=k0 (((x.j i).j:Nat):Int):=by
   rw [show 1=((1:Nat):Int)from rfl,Wc,qR]
  refine⟨[si i,si x],x.j i,rfl,?_,?_⟩
  .unfold Gn
   simp only [eval,Gi,Gm,R.af,GH,jp,jc,j,R.ar,A9]
   cases x.j i<;>rfl
  .by_cases e:x.j i=u0
   .simp [e,Gi]
   .simp [e]
def vm (t) (ts) (h):Gr .p (.s t) (.v (iQ ts)) h=k0 (y9 (t∈ts)):=Wy t ts (.v (iQ ts)) h rfl
def Wq (k)(ok:w.Ok) (t) (g:t∈w.K++w.T) (h): ∃v,Is w (.p t) v/\call prog (k+4) "value_of_name" [.v w.j,.v w.p,.s t] h= .j (.i v) h:=by
 rw [Gb rfl _ _ _ rfl]
 simp only [zt]
 show ∃v,_/\Gw _ (execs _ _ [sv (wD w.K w.T),sv (kH w.n w.ks w.ts),k0 _,y0,y0] h)=_
 have j:=ok.hK
 have i:=ok.hT
 by_cases q:t∈w.T
 .have f:=(zn q).2
  refine⟨w.ts.C (di t w.T) 0,⟨?_,λa b d e=> ?_⟩,?_⟩
  .rw [Ac7,Aa4 (by rw [ok.wl.lt];exact f)]
   exact ok.wl.bt _ (Al5 _)
  .show _↔w.at t a b
   rw [Wo.at,if_pos q]
  .rw [ja,Ga _ _ _ rfl]
   rw [xu (h1:=h) (by simp! [ae,Xg,vm,decide_eq_true q])]
   exact ja (Ja rfl (by simp only [eval,Gf,Gi,Gm,R.af,ae,Xg,J6,R.ar,vQ,if_true,Z3 w.T t h q (by omega)];rw [nF _ _ (by rw [ok.wl.lt];exact f)];rfl))
 .have c:=(Ac9.p g).u q
  have n4:=ok.wl.n4
  refine⟨Wf.cX w.n (iY w.n (w.ks.C (di t w.K) 0)),⟨Wf.dm (QU _ _),λa b d e=> ?_⟩,?_⟩
  .show _↔w.at t a b
   rw [Wo.at,if_neg q]
   exact uw d e
  .rw [za (τ1:= [sv (wD w.K w.T),sv (kH w.n w.ks w.ts),k0 (.s t),y0,y0]) (h1:=h) (by simp! [ae,Xg,vm,decide_eq_false q])]
   rw [za (τ1:= [sv _,sv _,k0 _,si w.n,y0]) rfl]
   rw [za (τ1:= [sv _,sv _,k0 _,si w.n,si _]) (by simp only [exec,eval,Gf,Gi,Gm,R.af,ae,Wh,JU,R.ar,vQ,if_true,Z3 w.K t h c (by omega)];rw [nF _ _ (by rw [ok.wl.lk];exact ((zn c).2))];rfl)]
   rw [ja (Ja rfl ?_),Ga _ _ _ rfl]
   simp only [eval,Gf,Gi,Gm,R.af,CZ w.n _ n4 h,Ab2,Ae9,W.b4,W.eW,WJ k w.n _ h (by omega) (QU _ _)]
def wb (s t:Tx) (h:AH):Gr .j (.s s) (.s t) h=k0 (s==t):=by simp [GU]
def xa (e:Gn F c τ h= .j k9 h):execs F (.j (.iff c a .p) ss) τ h=execs F ss τ h:=za (my e)
def we (e:Gn F c τ h= .j u0 h) (r:exec F s τ h= .j w h):execs F (.j (.iff c (.j s .p) .p) ss) τ h= .j w h:=ja ((xu e).j (ja r))
def Jb (s X) (h):Gn F (.y .j .B (.j X)) [a,k0 (.s s),c] h= .j (s==X) h:=by
 simp only [Gn,eval,Gi,Gm,R.af,wb,R.ar,GR]
abbrev lq (n:Nat) (s:Tx) (l:Y0 D):Sl:= [si n,k0 (.s s),k0 (.l l)]
def D0 (k n) (l) (h) (a:n<=4):call prog (k+5) "made" [.i n,.s jf,.l l] h= .j (.i (Wf.bK n)) h:=by
 rw [Gb rfl _ _ _ rfl]
 simp only [xz]
 show Gw _ (execs _ _ (lq n jf l) h)=_
 rw [we (Jb _ _ _) (Ja rfl (by simp only [eval,Gf,Gi,Gm,R.af,Ab2,Ae9,W.b4,Ik k n h (by lia)];rfl)),Ga _ _ _ rfl]
def IX (k n) (l) (h) (a:n<=4):call prog (k+5) "made" [.i n,.s Xn,.l l] h= .j (.i (2 ^ (n*n)-1)) h:=by
 rw [Gb rfl _ _ _ rfl]
 simp only [xz]
 show Gw _ (execs _ _ (lq n Xn l) h)=_
 rw [xa (Jb _ _ _),we (Jb _ _ _) (Ja rfl (by simp only [eval,Gf,Gi,Gm,R.af,Ab2,Ae9,W.b4,uK _ n h (by lia)];rfl)),Ga _ _ _ rfl]
def Nk (k n) (l) (h):call prog (k+5) "made" [.i n,.s wh,.l l] h= .j (.i (0)) h:=by
 rw [Gb rfl _ _ _ rfl]
 simp only [xz]
 rw [xa (Jb _ _ _),xa (Jb _ _ _),we (Jb _ _ _) _,Ga _ _ _ rfl]
 rfl
abbrev l2 (s t:Nat):Y0 D:= [.n s,.n t]
def jZ (k n s t) (h):call prog (k+5) "made" [.i n,.s WE,.l (l2 s t)] h= .j (.i (s ||| t)) h:=by
 rw [Gb rfl _ _ _ rfl]
 simp only [xz]
 show Gw _ (execs _ _ (lq n WE _) h)=_
 rw [xa (Jb _ _ _),xa (Jb _ _ _),xa (Jb _ _ _),we (Jb _ _ _) (Ja rfl (by simp only [eval,Gf,Gi,Gm,R.af,Zq,Wh,Xg,R.ar,Ab2,Ae9,W.b4,JT _ s t h];rfl)),Ga _ _ _ rfl]
def W1 (k n s t) (h):call prog (k+5) "made" [.i n,.s Jy,.l (l2 s t)] h= .j (.i (s &&& t)) h:=by
 rw [Gb rfl _ _ _ rfl]
 simp only [xz]
 show Gw _ (execs _ _ (lq n Jy _) h)=_
 rw [xa (Jb _ _ _),xa (Jb _ _ _),xa (Jb _ _ _),xa (Jb _ _ _),xa (Jb _ _ _),we (Jb _ _ _) (Ja rfl (by simp only [eval,Gf,Gi,Gm,R.af,Zq,Wh,Xg,R.ar,Ab2,Ae9,W.b4,Nr _ s t h];rfl)),Ga _ _ _ rfl]
def ZK (k n s t) (h) (a:n<=4):call prog (k+5) "made" [.i n,.s Wg,.l (l2 s t)] h= .j (.i (Wf.joinM n s t)) h:=by
 rw [Gb rfl _ _ _ rfl]
 simp only [xz]
 show Gw _ (execs _ _ (lq n Wg _) h)=_
 rw [xa (Jb _ _ _),xa (Jb _ _ _),xa (Jb _ _ _),xa (Jb _ _ _),xa (Jb _ _ _),xa (Jb _ _ _),we (Jb _ _ _) (Ja rfl (by simp only [eval,Gf,Gi,Gm,R.af,Zq,Wh,Xg,R.ar,Ab2,Ae9,W.b4,QS _ n s t h (by lia)];rfl)),Ga _ _ _ rfl]
def jM (k n s) (h) (a:n<=4):call prog (k+5) "made" [.i n,.s xi,.l [.n s]] h= .j (.i (Wf.bL n s)) h:=by
 rw [Gb rfl _ _ _ rfl]
 simp only [xz]
 show Gw _ (execs _ _ (lq n xi [.n s]) h)=_
 rw [xa (Jb _ _ _),xa (Jb _ _ _),xa (Jb _ _ _),xa (Jb _ _ _),xa (Jb _ _ _),xa (Jb _ _ _),xa (Jb _ _ _),we (Jb _ _ _) (Ja rfl (by simp only [eval,Gf,Gi,Gm,R.af,Zq,BH,R.ar,Ab2,Ae9,W.b4,E7 k n s h (by lia)];rfl)),Ga _ _ _ rfl]
def wI (k n s) (h) (b:n<=4) (c:s<2 ^ (n*n)): ∃r,Wf.fD n s r/\call prog (k+5) "made" [.i n,.s Ji,.l [.n s]] h= .j (.i r) h:=by
 obtain⟨r,a,e⟩:=Mj _ n s h b c
 refine⟨r,a,?_⟩
 rw [Gb rfl _ _ _ rfl]
 simp only [xz]
 rw [xa (Jb _ _ _),xa (Jb _ _ _),xa (Jb _ _ _),xa (Jb _ _ _),xa (Jb _ _ _),xa (Jb _ _ _),xa (Jb _ _ _),xa (Jb _ _ _),ja (Ja rfl (by assumption)),Ga _ _ _ rfl]
def HL (a:Gk F it τ h= .j [] h):eval F (.L tg one k aD it k9 c elt) τ h= .j (.j []) h:=by
 rw [eval,a,R.af,if_pos (show [].e<=bp from Af2 _)]
 rfl
def Bd (b:Gk F it τ h= .j [d] h) (e:eval F elt (Gz (Aa9 k y0++aD.j λj=>Gi τ j) 0 (.v d)) h= .j (.v y) h):eval F (.L [0] u0 k aD it k9 c elt) τ h= .j (.j [y]) h:=by
 have a: [d].e<=bp:=by rw [Gg];simp
 rw [eval,b,R.af,if_pos a]
 simp [Gy,e,R.ar]
def j5 (e:Gk F it τ h= .j [d1,d2] h) (b:eval F elt (Gz (Aa9 k y0++aD.j λj=>Gi τ j) 0 (.v d1)) h= .j (.v y1) h) (a:eval F elt (Gz (Aa9 k y0++aD.j λj=>Gi τ j) 0 (.v d2)) h= .j (.v y2) h):eval F (.L [0] u0 k aD it k9 c elt) τ h= .j (.j [y1,y2]) h:=by
 have d: [d1,d2].e<=bp:=by rw [Gg];simp
 rw [eval,e,R.af,if_pos d]
 simp [Gy,b,a,R.ar]
def Wt (f) (g:eval F e τ h= .j (.i n) h) (m:n<=1000)
 (l: ∀i,i<n-> ∃w,eval F elt (si i::aD.j λj=>Gi τ j) h= .j w h/\w.d=k0 (f i)):eval F (.L [0] u0 1 aD (.au e) k9 (.C u0) elt) τ h= .j (.j ((Aa7 n).j f)) h:=by
 rw [ql (λd=>match d with | .o i=>f i.j | d=>d) (Jm g (by lia)) (by simp;rw [Gg];lia)]
 .simp [Function.comp_def]
 .intro d k
  obtain⟨i,a,rfl⟩:=iE _ k
  obtain⟨w,c,b⟩:=l i a
  exact⟨_,rfl,w,c,by simpa using b⟩
def Xr (x y) (r:Y0 D):a8 (x::y::r) 1=k0 y:=by
 have:=Wd (x::y::r) 1 (by simp)
 exact this
abbrev tb (n v:Nat) (a b:Nat):Bool:=v.j (a*n+b)
noncomputable def eX (n:Nat) (g:Nat->Nat->Bool) (a:Nat):Nat:=((Aa7 n).j λb=>(g a b).j).X
theorem qu (g): ∀l:Y0 Nat,(l.Q g).e=(l.j λb=>(g b).j).X
 | []=>rfl
 | x::l=>by
  have a:=qu g l
  by_cases q:g x=u0
  .rw [List.filter_cons_of_pos q,Aa6,Ab2,An,a,q];simp;omega
  .have c:=by simpa using q
   rw [List.filter_cons_of_neg q,Ab2,An,a,c];simp
def XD (m n):Aa7 ((m+1)*n)=Aa7 (m*n)++(Aa7 n).j (m*n+ ·):=by
 rw [Nat.succ_mul,List.range_add]
def Hm {b:Nat}(a:b<n):(m*n+b) / n=m:=Wf.aI a
theorem vI (n v) (a): ∀m,((((Aa7 (m*n)).Q v.j).j (· / n)).count a)=if a<m then eX n (tb n v) a else 0
 | 0=>by simp
 | m+1=>by
  have h:=vI n v a m
  rw [XD,List.filter_append,Af1,List.count_append,h,An5,Ae]
  have e:((Aa7 n).Q (v.j∘(m*n+ ·))).j ((· / n)∘(m*n+ ·))=Aa9 ((Aa7 n).Q (v.j∘(m*n+ ·))).e m:=by
   rw [List.eq_replicate_iff]
   refine⟨by simp,λx d=> ?_⟩
   obtain⟨b,g,rfl⟩:=Ac.p d
   exact Hm (Ab9.p (Ai9.p g).1)
  rw [e,List.count_replicate,qu]
  by_cases q:a=m
  .subst q
   simp [eX,tb]
  .have f: ¬(m==a)=true:=by simp;exact λe=>q e.p
   rw [if_neg f]
   by_cases c:a<m
   .rw [if_pos c,if_pos (by omega)];omega
   .rw [if_neg c,if_neg (by omega)]
def LJ (b:a<n):((Wf.ay n v).j (·.1)).count a=eX n (tb n v) a:=by
 have:=vI n v a n
 rw [if_pos b]at this
 rw [← this,Wf.ay,Ae]
 rfl
theorem QG (n v): ∀m,((Aa7 (m*n)).Q v.j).e=((Aa7 m).j (eX n (tb n v))).X
 | 0=>by simp
 | m+1=>by
  have a:=QG n v m
  rw [XD,List.filter_append,Aa5,a,An5,Aa,qu,List.range_succ,Af1,List.sum_append]
  simp [eX,tb]
def K0 (n v):(Wf.ay n v).e=((Aa7 n).j (eX n (tb n v))).X:=by
 rw [Wf.ay,Aa,QG]
noncomputable abbrev Qa:Tx:= [108,101,97,115,116]
abbrev qc:Tx:= [109,111,115,116]
abbrev xb:Tx:= [101,97,99,104,108,101,97,115,116]
abbrev Qh:Tx:= [101,97,99,104,109,111,115,116]
abbrev XG:Tx:= [105,110]
abbrev zc:Tx:= [101,113,117,97,108]
abbrev Xj:Tx:= [115,111,109,101]
abbrev w5:Tx:= [110,111]
def JV (s a b) (h):Gr .p (.s s) (.t [.j a,.j b]) h=k0 (y9 (s∈ [a,b])):=Wy s [a,b] (.t [.j a,.j b]) h rfl
def XC (n v:Nat):Y0 Nat:=(Aa7 n).j (eX n (tb n v))
def Xk (n v:Nat) (s:Tx):Y0 Nat:=if s∈ [Qa,qc]then [(XC n v).X]else XC n v
theorem X7: ∀l:Y0 Nat,GN (aC l)=k0 (l.j λ(x:Nat)=>(x:Int))
 | []=>rfl
 | x::l=>by
  have:=X7 l
  simp only [Ab2,GN]at this ⊢
  rw [this];rfl
def BJ (l:Y0 Nat) (a:Nat):(l.j λ(x:Nat)=>(x:Int)).count (a:Int)=l.count a:=by
 induction l with
 | nil=>rfl
 | cons x l b=>
  rw [Ab2,List.count_cons,List.count_cons,b]
  by_cases q:x=a
  .simp [q]
  .have: ¬(x=(a:Int)):=by lia
   simp [q,this]
def vg (k n v) (s) (i:n<=4) (h):call prog (k+2) "counts" [.i n,.s s,.i v] h= .j (.j (aC (Xk n v s))) h:=by
 rw [Gb rfl _ _ _ rfl]
 simp only [yW]
 refine fx (by simp! [Wu k n v h (by omega)];rfl) ?_
 by_cases q:s∈ [Qa,qc]
 .rw [ja,Gv _ _ _ rfl]
  rw [xu (h1:=h) (by simp! [JV,decide_eq_true q])]
  refine ja (Zx rfl ?_)
  simp only [eval,Gu,Gf,Gi,Gm,R.af,QC,W.lI,R.ar,Aa,K0]
  rw [Xk,if_pos q]
  rfl
 .refine fx (by simp! [JV,decide_eq_false q];rfl) ?_
  have e2:eval (u9 (k+1)) JD [si n,k0 (.s s),si v,k0 (.l ((Wf.ay n v).j pD)),y0] h= .j (.j (aC ((Wf.ay n v).j (·.1)))) h:=by
   rw [JD,ql (λd=>match d with | .q [x,_]=>x | d=>d) (by simp! []) (JL n v (by omega))]
   .simp [pD,aC,Function.comp_def]
   .intro d f
    obtain⟨p,_,rfl⟩:=Ac.p f
    exact⟨_,rfl,_,rfl,rfl⟩
  have e1:eval (u9 (k+1)) jD [si n,k0 (.s s),si v,k0 (.l ((Wf.ay n v).j pD)),k0 (.l (aC ((Wf.ay n v).j (·.1))))] h= .j (.j (aC (XC n v))) h:=by
   rw [jD,Wt (λa=> .n _) rfl (by omega) λa e=>⟨.i _,?_,rfl⟩]
   .rw [aC,XC,Ae];rfl
   .have c:((((Wf.ay n v).j (·.1)).j λ(x:Nat)=>(x:Int))).e<=bp:=by
     have:=JL n v (show n<=20 by omega)
     simpa using this
    have b:nJ .count (.l (aC ((Wf.ay n v).j (·.1)))) [.i a] h= .j (.i (eX n (tb n v) a)) h:=by
     show(R.of h ((k0 (aC ((Wf.ay n v).j (·.1)))).p GN)).p _=_
     rw [Af4,X7,R.ar,R.af]
     show(R.of h (k0 (a:Int))).p _=_
     rw [R.ar,R.af,if_pos c,BJ,LJ e]
    have g:nL .count (.l (aC ((Wf.ay n v).j (·.1)))) h=true:=rfl
    simp only [eval,Gf,Gi,Gm,Ab2,Ae9,R.af,g,if_true,b]
  rw [za (τ1:= [si n,k0 (.s s),si v,k0 (.l ((Wf.ay n v).j pD)),k0 (.l (aC ((Wf.ay n v).j (·.1))))]) (by rw [exec,e2];rfl)]
  rw [ja (Zx rfl e1),Gv _ _ _ rfl,Xk,if_neg q]
inductive Fc where
 | dW (a b:Ex)
 | eA (a b:Ex)
 | d8 (a:Ex)
 | ak (a:Ex)
 | cnt (s:Tx) (k:Nat) (a:Ex)
def dI:Fc->D
 | .dW a b=> .q [.j XG,aY a,aY b]
 | .eA a b=> .q [.j zc,aY a,aY b]
 | .d8 a=> .q [.j Xj,aY a]
 | .ak a=> .q [.j w5,aY a]
 | .cnt s k a=> .q [.j s,.n k,aY a]
def Fc.wf (N:Y0 Tx):Fc->Prop
 | .dW a b=>a.y N/\b.y N
 | .eA a b=>a.y N/\b.y N
 | .d8 a=>a.y N
 | .ak a=>a.y N
 | .cnt s _ a=>s∈ [Qa,qc,xb,Qh]/\a.y N
def Fc.dp:Fc->Nat
 | .dW a b=>max a.j b.j
 | .eA a b=>max a.j b.j
 | .d8 a=>a.j
 | .ak a=>a.j
 | .cnt _ _ a=>a.j
theorem oH: ∀bs:Y0 Bool,Kn (bs.j .C)=k0 bs
 | []=>rfl
 | b::bs=>by simp [Kn,oH bs]
def Jz {bs:Y0 Bool}(q:eval F e τ h= .j (.j (bs.j .C)) h):eval F (.Z .all (.j e .p)) τ h= .j (.b (bs.K id)) h:=by
 rw [eval,Gf,q]
 simp [oH,R.ar]
def pA (p) (l:Y0 α):(l.j p).K id=l.K p:=by
 rw [An6];rfl
theorem wS: ∀l:Y0 Nat,Km (aC l)=k0 ((l.X:Nat):Int)
 | []=>rfl
 | x::l=>by
  have:=wS l
  simp only [Ab2,Km]at this ⊢
  rw [this,An]
  simp
def OH :eval F (.neg (.o 1)) τ h= .j (.v (.o (-1))) h:=rfl
def uL (x y:D):a8 [x,y] (-1)=k0 y:=rfl
def qS (x y z:D):a8 [x,y,z] (-1)=k0 z:=rfl
def Bj (s:Tx) (k:Nat) (l:Y0 Nat):Bool:=if s∈ [Qa,xb]then l.K λx=>y9 (k<=x)else l.K λx=>y9 (x<=k)
def XE (x y z:D):a8 [x,y,z] 2=k0 z:=rfl
def Jk (X)(e:Gm τ i=k0 (.s s)):Gn F (.y .j (.var i) (.j X)) τ h= .j (s==X) h:=by
 simp only [Gn,eval,Gi,e,R.af,wb,R.ar,GR]
structure V (n v:Nat) (g:Nat->Nat->Bool):Prop where
 lt:v<2 ^ (n*n)
 bit: ∀a b,a<n->b<n->(v.j (a*n+b)=u0↔g a b=u0)
section
variable {n s t:Nat}{g f:Nat->Nat->Bool}
def V.plus (h:V n s g) (q:V n t f):V n (s ||| t) λa b=>g a b||f a b:=⟨pG h.1 q.1,λa b c d=>by
 rw [Ae8,Ae7,h.2 a b c d,q.2 a b c d,Ae7]⟩
def V.both (h:V n s g) (q:V n t f):V n (s &&& t) λa b=>g a b&&f a b:=⟨Nat.and_lt_two_pow s q.1,λa b c d=>by
 rw [Ah2,Aa0,h.2 a b c d,q.2 a b c d,Aa0]⟩
def V.less (h:V n s g) (q:V n t f):V n (s-(s &&& t)) λa b=>g a b&& !f a b:=⟨Ah6 (Ap2 _ _) h.1,λa b c d=>by
 rw [Wf.aT,Aa0,h.2 a b c d,(Bool.eq_iff_iff.q (q.2 a b c d)),Aa0]⟩
def V.turned (h:V n s g):V n (Wf.bL n s) λa b=>g b a:=⟨Wf.fV _ _,λa b d c=>by
 rw [Wf.fG (Wf.place_lt d c),Wf.aI c,Wf.aK c,h.2 b a c d]⟩
def V.joined (h:V n s g) (q:V n t f):V n (Wf.joinM n s t) λa b=>(Aa7 n).z λc=>g a c&&f c b:=⟨Wf.dy _ _ _,λa b j i=>by
 rw [Wf.cn (Wf.place_lt j i),Wf.cJ i,Ad2,Ad2]
 constructor
 .rintro ⟨c,e,z⟩
  have d:=Ab9.p e
  rw [Aa0]at z
  exact⟨c,e,by rw [Aa0];exact⟨(h.2 a c j d).p z.1,(q.2 c b d i).p z.2⟩⟩
 .rintro ⟨c,e,z⟩
  have d:=Ab9.p e
  rw [Aa0]at z
  exact⟨c,e,by rw [Aa0];exact⟨(h.2 a c j d).q z.1,(q.2 c b d i).q z.2⟩⟩⟩
def V.closed (h:V n s g)(q:Wf.fD n s r):V n r (Wf.wr g n):=⟨q.lt,λa b c d=>(q.bit a b c d).j (Wf.kQ (λx y f e=>(h.2 x y f e).symm) c d).symm⟩
end
open M renaming V.turned→M.V.B,V.joined→M.V.q,V.closed→M.V.w
abbrev qX (s:Tx):Nat->Nat->Bool:=λa b=>(s==Xn)||((s==jf)&&y9 (a=b))
abbrev b5 (a b:Wo):D:= .q [a.p,b.p]
structure Pt (a b:Wo):Prop where
 oa:a.Ok
 K6:b.Ok
 en:b.n=a.n
 eK:b.K=a.K
 eT:b.T=a.T
def Pt.ew (p:Pt a b):b.j=a.j:=by rw [Wo.words,Wo.words,p.eK,p.eT]
abbrev gC (a b:Wo) (d:D) (s:Tx) (x4 x5 e f c:Y1 W):Sl:= [sv a.j,sv (b5 a b),sv d,k0 (.s s),x4,x5,e,f,c]
abbrev bc (v u:Nat):D:= .q [.n v,.n u]
section
variable {m:Nat}{a b:Wo}{h:AH}
def kA :Gk F (.j (.fX .J (.o 1))) (gC a b (.q (s::ds)) z x4 x5 x6 x7 x8) h= .j ds h:=by
 have e:cut (s::ds) (k0 1) y0=ds:=XY (s::ds) 1
 refine BL ?_
 show(if aV (s::ds).e 0 (k0 1)=0/\aV (s::ds).e (s::ds).e y0=(s::ds).e then R.fail else R.ok _ h)=_
 rw [if_neg (λc=>by have:=c.1;simp [aV]at this),e]
def Jv (q:call prog m "bounds" [.v a.j,.v (b5 a b),.v d] h= .j (.v y) h):eval (u9 m) (.p "bounds" (.c .B .J .z)) (Gz (List.replicate 1 none++ [0,1].j fun j=>Gi (gC a b v z x4 x5 x6 x7 x8) j) 0 (.v d)) h= .j (.v y) h:=by simp_all
def vw {s:Tx}{ds:Y0 D}{x:W}(g:(s==Jg)=k9){ps:Y0 (Nat×Nat)}(i:ps.e<=2)
 (h1:eval (u9 m) Qu (gC a b (.q (.j s::ds)) s y0 y0 y0 y0 y0) h= .j (.j (ps.j pD)) h){d:D}
 (q:execs (u9 m) (match bI.j with | .j _ (.j _ (.j _ (.j _ (.j _ r))))=>r | r=>r) (gC a b (.q (.j s::ds)) s y0 (k0 (.l (ps.j pD))) (k0 (.l (aC (ps.j (·.1))))) (k0 (.l (aC (ps.j (·.2))))) y0) h= .j (.v d) h):
 call prog (m+1) "bounds" [.v a.j,.v (b5 a b),.t (.j s::ds)] h= .j (.v d) h:=by
 rw [Gb (d:=bI) rfl _ _ _ rfl]
 simp only [bI]at q ⊢
 refine fx (by simp! [ae,Je];rfl) ?_
 rw [xa (by simp! [wb,g])]
 have e:(ps.j pD).e<=bp:=by rw [Gg];simp;omega
 rw [za (τ1:=gC a b _ s y0 _ y0 y0 y0) (h1:=h) (by rw [exec,h1];rfl)]
 have e2:eval (u9 m) xE (gC a b (.q (.j s::ds)) s y0 (k0 (.l (ps.j pD))) y0 y0 y0) h= .j (.j (aC (ps.j (·.1)))) h:=by
  rw [xE,ql (h:=h) (ds:=ps.j pD) (λd=>match d with | .q [x,_]=>x | d=>d) (by simp! []) e]
  .simp [pD,aC,Function.comp_def]
  .intro d c
   obtain⟨p,_,rfl⟩:=Ac.p c
   exact⟨_,rfl,_,rfl,rfl⟩
 rw [za (τ1:=gC a b _ s y0 _ _ y0 y0) (h1:=h) (by rw [exec,e2];rfl)]
 have f:eval (u9 m) xC (gC a b (.q (.j s::ds)) s y0 (k0 (.l (ps.j pD))) (k0 (.l (aC (ps.j (·.1))))) y0 y0) h= .j (.j (aC (ps.j (·.2)))) h:=by
  rw [xC,ql (h:=h) (ds:=ps.j pD) (λd=>match d with | .q [_,x]=>x | d=>d) (by simp! []) e]
  .simp [pD,aC,Function.comp_def]
  .intro d c
   obtain⟨p,_,rfl⟩:=Ac.p c
   exact⟨_,rfl,_,rfl,rfl⟩
 rw [za (τ1:=gC a b _ s y0 _ _ _ y0) (h1:=h) (by rw [exec,f];rfl)]
 rw [q,Ga _ _ _ rfl]
def zB {s:Tx}{ds:Y0 D}(g:(s==Jg)=k9) (c:(s==jq)=k9){ps:Y0 (Nat×Nat)}(e:ps.e<=2){v u:Nat}
 (h1:eval (u9 m) Qu (gC a b (.q (.j s::ds)) s y0 y0 y0 y0 y0) h= .j (.j (ps.j pD)) h)
 (d:call prog m "made" [.i a.n,.s s,.l (aC (ps.j (·.1)))] h= .j (.i v) h) (f:call prog m "made" [.i a.n,.s s,.l (aC (ps.j (·.2)))] h= .j (.i u) h):
 call prog (m+1) "bounds" [.v a.j,.v (b5 a b),.t (.j s::ds)] h= .j (.v (bc v u)) h:=by
 refine vw (x:= .v .Q) g e h1 ?_
 simp only [bI]
 rw [xa (by simp! [wb,c])]
 have i:dJ (.v (b5 a b)) (.v (.o 0)) h=k0 a.p:=rfl
 have e1:dJ (.v a.p) (.v (.o 0)) h=k0 _:=rfl
 refine(za (by simp! [e1];rfl)).j ?_
 rw [ja (Ja rfl (by simp! [d,f];rfl))]
def L4 
 (h1:eval (u9 (k+1)) Qu (gC a b (.q (.j jq::ds)) jq y0 y0 y0 y0 y0) h= .j (.j ([(s,s'),(t,t')].j pD)) h):
 call prog (k+2) "bounds" [.v a.j,.v (b5 a b),.t (.j jq::ds)] h= .j (.v (bc (s-(s &&& t')) (s'-(s' &&& t)))) h:=by
 refine vw (x:= .v .Q) rfl (by simp) h1 ?_
 refine ja ((xu (h1:=h) ?_).j (ja (Ja rfl ?_)))
 .simp! [wb];rfl
 .simp! [Zq,Wh,Xg,jz k s t' h,jz k s' t h]
end
abbrev QK:Tx:= [110,111,116]
abbrev Wx:Tx:= [97,110,100]
abbrev xA:Tx:= [111,114]
inductive Sy where
 | fact (f:Fc)
 | neg (a:Sy)
 | cF (a b:Sy)
 | cE (a b:Sy)
open M renaming Sy.fact→M.Sy.p
def aQ:Sy->D
 | .p f=>dI f
 | .neg a=> .q [.j QK,aQ a]
 | .cF a b=> .q [.j Wx,aQ a,aQ b]
 | .cE a b=> .q [.j xA,aQ a,aQ b]
def Sy.wf (N:Y0 Tx):Sy->Prop
 | .p f=>f.wf N
 | .neg a=>a.wf N
 | .cF a b=>a.wf N/\b.wf N
 | .cE a b=>a.wf N/\b.wf N
open M renaming Sy.wf→M.Sy.y
def Sy.dp:Sy->Nat
 | .p f=>f.dp
 | .neg a=>a.dp+1
 | .cF a b=>max a.dp b.dp+1
 | .cE a b=>max a.dp b.dp+1
open M renaming Sy.dp→M.Sy.j
def L7 (f) (wf:f.wf N): ∃s ds,dI f= .q (.j s::ds)/\(s==QK)=k9/\(s==Wx)=k9/\(s==xA)=false:=by
 cases f with
 | dW a b=>exact⟨XG,_,rfl,rfl,rfl,rfl⟩
 | eA a b=>exact⟨zc,_,rfl,rfl,rfl,rfl⟩
 | d8 a=>exact⟨Xj,_,rfl,rfl,rfl,rfl⟩
 | ak a=>exact⟨w5,_,rfl,rfl,rfl,rfl⟩
 | cnt s j a=>
  have: ∀s∈ [Qa,qc,xb,Qh],(s==QK)=k9/\(s==Wx)=k9/\(s==xA)=false:=by decide
  exact⟨s,_,rfl,this s wf.1⟩
noncomputable def aJ:Y1 Bool->D
 | none=> .Q
 | some b=> .C b
noncomputable def wT (a b:Bool):Y1 Bool:=if a then k0 u0 else if b then k0 k9 else y0
def eP (r q:Y1 Bool):Y1 Bool:=wT (r==k0 u0&&q==k0 u0) (r==k0 k9||q==k0 k9)
def fQ (r q:Y1 Bool):Y1 Bool:=wT (r==k0 u0||q==k0 u0) (r==k0 k9&&q==k0 k9)
def jo (k) (a b) (h):call prog (k+1) "settled" [.b a,.b b] h= .j (.v (aJ (wT a b))) h:=by
 rw [Gb rfl _ _ _ rfl]
 simp [zX]
 cases a
 .cases b
  .simp! []
   rfl
  .simp! []
   rfl
 .simp! []
  rfl
def ER (r) (b):Kv (.v (aJ r)) (.b b)=k0 (r==k0 b):=by
 cases r with
 | none=>rfl
 | some c=>cases c<;>cases b<;>rfl
def lU (r) (b) (h):Gr .dt (.v (aJ r)) (.b b) h=k0 (r==k0 b):=ER r b
section
variable {k:Nat}{r q:Y1 Bool}{h:AH}
def Dl:call prog (k+2) "not_told" [.v (aJ r)] h= .j (.v (aJ (r.j (!·)))) h:=by
 rw [Gb rfl _ _ _ rfl]
 simp only [qQ]
 rw [ja (Ja (d:=aJ (wT (r==k0 k9) (r==k0 u0))) (h1:=h) rfl (by simp! [lU,jo])),Ga _ _ _ rfl]
 cases r with
 | none=>rfl
 | some c=>cases c<;>rfl
def lF (h1:eval F e τ h= .j (.b a) h) (c:eval F f τ h= .j (.b b) h):eval F (.or e f) τ h= .j (.b (a||b)) h:=by
 rw [eval,h1]
 cases a
 .simp [c,Bool.false_or]
 .simp [Am3]
def QZ (h1:eval F e τ h= .j (.b a) h) (c:eval F f τ h= .j (.b b) h):eval F (.and e f) τ h= .j (.b (a&&b)) h:=by
 rw [eval,h1]
 cases a
 .simp [Ae4]
 .simp [c,Ae5]
def zF (b) (e:Gi τ i=sv (aJ r)):eval F (.y .dt (.var i) (.C b)) τ h= .j (.b (r==k0 b)) h:=by
 simp [e,lU,R.ar]
def jO:call prog (k+2) "and_told" [.v (aJ r),.v (aJ q)] h= .j (.v (aJ (eP r q))) h:=by
 rw [Gb rfl _ _ _ rfl]
 simp only [jP]
 show Gw _ (execs _ _ [sv _,sv _] h)=_
 rw [ja (Ja (d:=aJ (eP r q)) rfl (by
  rw [eval,Gf,(QZ (F:=(u9 (k+1))) (zF (h:=h) (τ:= [sv (aJ r),sv (aJ q)]) (i:=0) u0 rfl) (zF (i:=1) u0 rfl)),R.af,Gf,(lF (F:=(u9 (k+1))) (zF (h:=h) (τ:= [sv (aJ r),sv (aJ q)]) (i:=0) k9 rfl) (zF (i:=1) k9 rfl))]
  simp only [R.af,Gf,Ab2,Ae9,W.b4,jo]
  rfl)),Ga _ _ _ rfl]
def Iy:call prog (k+2) "or_told" [.v (aJ r),.v (aJ q)] h= .j (.v (aJ (fQ r q))) h:=by
 rw [Gb rfl _ _ _ rfl]
 simp only [J2]
 show Gw _ (execs _ _ [sv _,sv _] h)=_
 rw [ja (Ja (d:=aJ (fQ r q)) rfl (by
  rw [eval,Gf,(lF (F:=(u9 (k+1))) (zF (h:=h) (τ:= [sv (aJ r),sv (aJ q)]) (i:=0) u0 rfl) (zF (i:=1) u0 rfl)),R.af,Gf,(QZ (F:=(u9 (k+1))) (zF (h:=h) (τ:= [sv (aJ r),sv (aJ q)]) (i:=0) k9 rfl) (zF (i:=1) k9 rfl))]
  simp only [R.af,Gf,Ab2,Ae9,W.b4,jo]
  rfl)),Ga _ _ _ rfl]
end
def jH {bs:Y0 Bool}(q:eval F e τ h= .j (.j (bs.j .C)) h):eval F (.Z .any (.j e .p)) τ h= .j (.b (bs.z id)) h:=by
 rw [eval,Gf,q]
 simp [oH,R.ar]
def oo (p) (l:Y0 α):(l.j p).z id=l.z p:=by
 rw [Ap4];rfl
def F8 (n) (h):Gr .q (.i n) (.v (.o 0)) h=k0 (!y9 (n=0)):=by
 have this:Gr .j _ (.v (.o 0)) h=k0 _:=xn n 0 h
 rw [Nh]at this
 rw [EE]
 split at this
 .rename_i c
  rw [if_pos c]
  have:=Ad9.inj this
  rw [← this]
 .cases this
def og (n) (h):Gr .j (.i n) (.v (.o 0)) h=k0 (y9 (n=0)):=xn n 0 h
def dF (v u b a:Nat):Y1 Bool:=wT (y9 (u-(u &&& b)=0)) (!y9 (v-(v &&& a)=0))
def JY (k v u v' u') (h):call prog (k+2) "in_told" [.v (bc v u),.v (bc v' u')] h= .j (.v (aJ (dF v u v' u'))) h:=by
 rw [Gb rfl _ _ _ rfl]
 simp only [w6]
 rw [ja (Ja (d:=aJ (dF v u v' u')) rfl (by simp! [ae,Wh,Xg,jz k u v' h,jz k v u' h,og,F8,jo];rfl)),Ga _ _ _ rfl]
noncomputable def JM (s:Tx) (j:Nat) (l u:Y0 Nat):Y1 Bool:=if s∈ [Qa,xb]then wT (l.K λx=>y9 (j<=x)) (u.z λx=>y9 (x<j))else wT (u.K λx=>y9 (x<=j)) (l.z λx=>y9 (j<x))
def n7 (p) (k:l.e<=4) (a:Gi τ i=k0 (.l (aC l))) (e:Gi τ c=si j) (b: ∀x:Nat,Gr o (.i x) (.i j) h=k0 (p x)):
 eval F (.L [0] u0 1 [c] (.j (.var i)) k9 (.C u0) (.y o .z .B)) τ h= .j (.j ((l.j p).j .C)) h:=by
 have f:Gk F (.j (.var i)) τ h= .j (aC l) h:=by
  simp [a,R.af]
 rw [ql (λd=>match d with | .o x=> .C (p x.j) | d=>d) f (by rw [Gg,aC,Aa];lia)]
 .simp [Function.comp_def]
 .intro m g
  obtain⟨x,_,rfl⟩:=Ac.p g
  refine⟨[si x,si j],by simp only [Ab2,e];rfl,.b (p x),?_,by simp⟩
  simp! [b]
def vH (j x) (h):Gr .le (.i x) (.i j) h=k0 (y9 (x<=j)):=by
 rw [j6];congr 1;exact decide_eq_decide.q (by lia)
def tN (j x) (h):Gr .ge (.i x) (.i j) h=k0 (y9 (j<=x)):=by
 rw [Ov];congr 1;exact decide_eq_decide.q (by lia)
def n6 (j x) (h):Gr .lt (.i x) (.i j) h=k0 (y9 (x<j)):=by
 rw [Z1];congr 1;exact decide_eq_decide.q (by omega)
def hZ (j x) (h):Gr .gt (.i x) (.i j) h=k0 (y9 (j<x)):=by
 rw [N4];congr 1;exact decide_eq_decide.q (by omega)
def sF (n v) (s) (a:n<=4):(Xk n v s).e<=4:=by
 rw [Xk]
 split
 .simp
 .simp [XC];omega
abbrev mT (n:Nat) (s:Tx) (j v u:Nat) (x4 x5:Y1 W):Sl:= [si n,k0 (.s s),si j,sv (bc v u),x4,x5]
def jt (k n) (s) (j v u) (a:n<=4) (h):call prog (k+3) "count_told" [.i n,.s s,.i j,.v (bc v u)] h= .j (.v (aJ (JM s j (Xk n v s) (Xk n u s)))) h:=by
 rw [Gb rfl _ _ _ rfl]
 simp only [XF]
 refine fx (by simp! [ae,Wh,vg k n v s a h];rfl) ?_
 refine fx (by simp! [ae,Xg,vg k n u s a h];rfl) ?_
 have e:=sF n v s a
 have b:=sF n u s a
 rw [JM]
 by_cases q:s∈ [Qa,xb]
 .have e1:=n7 (F:=(u9 (k+2))) (τ:=mT n s j v u (k0 (.l _)) (k0 (.l (aC (Xk n u s))))) (i:=4) (c:=2) _ e rfl rfl λx=>tN j x h
  have e2:=n7 (F:=(u9 (k+2))) (τ:=mT n s j v u (k0 (.l (aC (Xk n v s)))) (k0 (.l _))) (i:=5) (c:=2) (h:=h) _ b rfl rfl λx=>n6 j x h
  rw [if_pos q,we (by simp! [JV,decide_eq_true q]) (Ja (d:=aJ (wT ((Xk n v s).K λx=>y9 (j<=x)) ((Xk n u s).z λx=>y9 (x<j)))) rfl (by
   rw [eval,Gf,ww,Jz e1,R.af,Gf,Wv,jH e2,pA,oo]
   simp only [R.af,Gf,Ab2,Ae9,W.b4,jo])),Ga _ _ _ rfl]
 .have e1:=n7 (F:=(u9 (k+2))) (τ:=mT n s j v u (k0 (.l (aC (Xk n v s)))) (k0 (.l (aC (Xk n u s))))) (i:=5) (c:=2) (o:= .le) (h:=h) _ b rfl rfl λx=>vH j x h
  have e2:=n7 (F:=(u9 (k+2))) (τ:=mT n s j v u (k0 (.l (aC (Xk n v s)))) (k0 (.l (aC (Xk n u s))))) (i:=4) (c:=2) (o:= .gt) (h:=h) _ e rfl rfl λx=>hZ j x h
  rw [if_neg q,xa (by simp! [JV,decide_eq_false q]),ja (Ja (d:=aJ (wT ((Xk n u s).K λx=>y9 (x<=j)) ((Xk n v s).z λx=>y9 (j<x)))) (h1:=h) rfl (by
   rw [eval,Gf,Xv,Jz e1,R.af,Gf,xw,jH e2,pA,oo]
   simp only [R.af,Gf,Ab2,Ae9,W.b4,jo])),Ga _ _ _ rfl]
noncomputable abbrev vU (a b:Wo) (d:D) (s:Tx) (v u:Nat) (c:Y1 W):Sl:= [sv a.j,sv (b5 a b),sv d,k0 (.s s),si a.n,sv (bc v u),c]
section
variable {k m:Nat}{a b:Wo}{h:AH}{v u v' u':Nat}{e e':Ex}
def Wz (f:a8 (.j s::ds) (-1)=k0 (aY e)) (c:call prog m "bounds" [.v a.j,.v (b5 a b),.v (aY e)] h= .j (.v (bc v u)) h)
 (q:execs (u9 m) (match aZ.j with | .j _ (.j _ (.j _ r))=>r | r=>r) (vU a b (.q (.j s::ds)) s v u y0) h= .j (.v d) h):call prog (m+1) "fact_told" [.v a.j,.v (b5 a b),.t (.j s::ds)] h= .j (.v d) h:=by
 rw [Gb rfl _ _ _ rfl]
 simp only [aZ]at q ⊢
 have i0:dJ (.v (b5 a b)) (.v (.o 0)) h=k0 a.p:=rfl
 have i1:dJ (.v a.p) (.v (.o 0)) h=k0 _:=rfl
 refine fx (by simp! [ae,Je];rfl) ?_
 refine fx (by simp! [i1];rfl) ?_
 rw [za (τ1:=vU a b (.q (.j s::ds)) s v u y0) (h1:=h) (by simp! [ae,f,c]),q,Ga _ _ _ rfl]
variable (n4:a.n<=4) (e1:call prog (k+3) "bounds" [.v a.j,.v (b5 a b),.v (aY e)] h= .j (.v (bc v u)) h) (e2:call prog (k+3) "bounds" [.v a.j,.v (b5 a b),.v (aY e')] h= .j (.v (bc v' u')) h)
include n4 e1
def EN:call prog (k+4) "fact_told" [.v a.j,.v (b5 a b),.v (dI (.d8 e))] h= .j (.v (aJ (JM Qa 1 (Xk a.n v Qa) (Xk a.n u Qa)))) h:=by
 refine Wz (uL _ _) e1 ?_
 have c:=jt k a.n Qa 1 v u n4 h
 have c:=c
 simp only [aZ]
 rw [we (Jk (s:=Xj) _ rfl) (Ja rfl (by assumption))]
def Ob:call prog (k+4) "fact_told" [.v a.j,.v (b5 a b),.v (dI (.ak e))] h= .j (.v (aJ (JM qc 0 (Xk a.n v qc) (Xk a.n u qc)))) h:=by
 refine Wz (uL _ _) e1 ?_
 have c:=jt k a.n qc 0 v u n4 h
 have c:=c
 simp only [aZ]
 rw [xa (Jk (s:=w5) _ rfl),we (Jk (s:=w5) _ rfl) (Ja rfl (by assumption))]
def MY (d:s∈ [Qa,qc,xb,Qh]):call prog (k+4) "fact_told" [.v a.j,.v (b5 a b),.v (dI (.cnt s j e))] h= .j (.v (aJ (JM s j (Xk a.n v s) (Xk a.n u s)))) h:=by
 refine Wz (qS _ _ _) e1 ?_
 have c:=jt k a.n s j v u n4 h
 have ne:=by
  have: ∀s∈ [Qa,qc,xb,Qh],(s==Xj)=k9/\(s==w5)=k9/\(s==XG)=k9/\(s==zc)=false:=by decide
  exact this s d
 simp only [aZ]
 rw [xa ((Jk _ rfl).j (by rw [ne.1])),xa ((Jk _ rfl).j (by rw [ne.2.1])),xa ((Jk _ rfl).j (by rw [ne.2.2.1])),xa ((Jk _ rfl).j (by rw [ne.2.2.2])),ja (Ja rfl (by assumption))]
include e2
theorem F0:call prog (k+4) "fact_told" [.v a.j,.v (b5 a b),.v (dI (.dW e' e))] h= .j (.v (aJ (dF v' u' v u))) h:=by
 refine Wz (qS _ _ _) e1 ?_
 simp only [aZ]
 rw [xa (Jk (s:=XG) _ rfl),xa (Jk (s:=XG) _ rfl),we (Jk (s:=XG) _ rfl) (Ja rfl (by simp! [ae,Xr,e2,JY];rfl))]
theorem IL:call prog (k+4) "fact_told" [.v a.j,.v (b5 a b),.v (dI (.eA e' e))] h= .j (.v (aJ (eP (dF v' u' v u) (dF v u v' u')))) h:=by
 refine Wz (qS _ _ _) e1 ?_
 simp only [aZ]
 rw [xa (Jk (s:=zc) _ rfl),xa (Jk (s:=zc) _ rfl),xa (Jk (s:=zc) _ rfl)]
 refine ja ((xu (Jk (s:=zc) _ rfl)).j ?_)
 refine(za (by simp! [ae,Xr,e2];rfl)).j ?_
 exact ja (Ja rfl (by simp! [JY,jO]))
end
def V.leaf :V n (Wf.bK n) (qX jf)/\V n (2 ^ (n*n)-1) (qX Xn)/\V n 0 (qX wh):=by
 refine⟨⟨Wf.gv _,λa b d c=> ?_⟩,⟨Nat.sub_lt (Ad4 _) (by decide),λa b d c=> ?_⟩,⟨Ad4 _,λa b d c=> ?_⟩⟩
 .rw [Wf.eG d c,decide_eq_true_eq]
  show _↔(k9||(u0&&decide _))=u0
  simp
 .rw [Ag2,decide_eq_true (Wf.place_lt d c)]
  show _↔(u0||(k9&&decide _))=u0
  simp
 .rw [Af9]
  show _↔(k9||(k9&&decide _))=u0
  simp
noncomputable def bg (w:Wo) (t:Tx) (x y:Nat):Bool:=if t∈w.T then(w.ts.C (di t w.T) 0).j (x*w.n+y)else y9 (x=y)&&(w.ks.C (di t w.K) 0).j x
def AW (w) (t) (x y):bg w t x y=u0↔fL w (.p t) x y:=by
 show _↔w.at t x y
 unfold bg Wo.at
 split
 .exact Iff.rfl
 .rw [Aa0,decide_eq_true_eq]
def bt (a b:Wo):Bool->Ex->Nat->Nat->Bool
 | false,.p t=>bg a t
 | true,.p t=>bg b t
 | _,.same=>qX jf
 | _,.K=>qX Xn
 | _,.u=>qX wh
 | p,.B e=>λx y=>bt a b p e y x
 | p,.w e=>Wf.wr (bt a b p e) a.n
 | p,.plus e f=>λx y=>bt a b p e x y||bt a b p f x y
 | p,.z e f=>λx y=>bt a b p e x y&& !bt a b (!p) f x y
 | p,.both e f=>λx y=>bt a b p e x y&&bt a b p f x y
 | p,.q e f=>λx y=>(Aa7 a.n).z λc=>bt a b p e x c&&bt a b p f c y
def DI (w): ∀ e p,bt w w p e=bt w w u0 e:=by
 intro e
 induction e with
 | name t=>intro p;cases p<;>rfl
 | turned e b=>intro p;simp [bt,b p]
 | closed e b=>intro p;simp [bt,b p]
 | plus e f b a=>intro p;simp [bt,b p,a p]
 | less e f b a=>intro p;simp [bt,b p,a _]
 | both e f b a=>intro p;simp [bt,b p,a p]
 | joined e f b a=>intro p;simp [bt,b p,a p]
 | _=>intro p;cases p<;>rfl
structure Le (a c:Wo):Prop where
 en:c.n=a.n
 nm: ∀t x y,bg a t x y=u0->bg c t x y=u0
def Le.refl (a):Le a a:=⟨rfl,λ_ _ _ h=>h⟩
theorem mM (h: ∀x y,g x y=u0->g' x y=u0): ∀k x y,Wf.wr g k x y=u0->Wf.wr g' k x y=u0
 | 0,x,y,z=>h x y z
 | k+1,x,y,z=>by
  rw [Wf.wr,Ae7,Aa0]at z ⊢
  exact z.j (λz=> .p (mM h k x y z)) λz=> .q ⟨mM h k _ _ z.1,mM h k _ _ z.2⟩
def yH (h: ∀c,f c=u0->g c=u0) (l:Y0 Nat) (z:l.z f=u0):l.z g=true:=by
 rw [Ad2]at z ⊢
 exact let ⟨c,b,a⟩:=z; ⟨c,b,h c a⟩
def zU (L:Le a a') (h:Le b' b): ∀ e x y,(bt a b k9 e x y=u0->bt a' b' k9 e x y=u0)/\(bt a' b' u0 e x y=u0->bt a b u0 e x y=u0):=by
 intro e
 induction e with
 | name t=>exact λx y=>⟨L.nm t x y,h.nm t x y⟩
 | same=>exact λx y=>⟨id,id⟩
 | all=>exact λx y=>⟨id,id⟩
 | none=>exact λx y=>⟨id,id⟩
 | turned e g=>exact λx y=>g y x
 | closed e g=>
  intro x y
  simp [bt,L.en]
  exact⟨mM (λx y=>(g x y).1) _ x y,mM (λx y=>(g x y).2) _ x y⟩
 | plus e f g d=>
  intro x y
  simp [bt,Ae7]
  exact⟨λz=>z.j (λz=> .p ((g x y).1 z)) λz=> .q ((d x y).1 z),λz=>z.j (λz=> .p ((g x y).2 z)) λz=> .q ((d x y).2 z)⟩
 | less e f g d=>
  intro x y
  simp only [bt,Aa0,Ag1,←Ap9]
  exact⟨λz=>⟨(g x y).1 z.1,λq=>z.2 ((d x y).2 q)⟩,λz=>⟨(g x y).2 z.1,λq=>z.2 ((d x y).1 q)⟩⟩
 | both e f g d=>
  intro x y
  simp only [bt,Aa0]
  exact⟨λz=>⟨(g x y).1 z.1,(d x y).1 z.2⟩,λz=>⟨(g x y).2 z.1,(d x y).2 z.2⟩⟩
 | joined e f g d=>
  intro x y
  simp only [bt,L.en]
  exact⟨yH (λc z=>by rw [Aa0]at z ⊢;exact⟨(g x c).1 z.1,(d c y).1 z.2⟩) _,yH (λc z=>by rw [Aa0]at z ⊢;exact⟨(g x c).2 z.1,(d c y).2 z.2⟩) _⟩
def Sub (v w:Nat):Prop:= ∀k,v.j k=u0->w.j k=u0
def V.sub (h:V n v g) (q:V n w f) (d: ∀x y,g x y=u0->f x y=u0):Sub v w:=λk z=>by
 by_cases a:k<n*n
 .have c:=h.2 _ _ (Wf.bh a) (Wf.a9 a)
  have b:=q.2 _ _ (Wf.bh a) (Wf.a9 a)
  rw [Wf.bw]at c b
  exact b.q (d _ _ (c.p z))
 .rw [Ai8 (Ab3 h.1 (Ad (by decide) (Nat.not_lt.p a)))]at z
  cases z
def Sub.and (h:Sub v w):v &&& w=v:=Aj6 λk=>by
 rw [Ah2]
 cases q:v.j k with
 | false=>rfl
 | true=>rw [h k q];rfl
def sub_zero :v-(v &&& w)=0↔Sub v w:=by
 refine⟨λh k z=> ?_,λh=>by rw [h.and,Al2]⟩
 have e:=congrArg (·.j k) h
 simp [Wf.aT,z,Ae5]at e
 simpa using e
structure B (a b:Wo) (e:Ex) (v u:Nat):Prop where
 lo:V a.n v (bt a b k9 e)
 hi:V a.n u (bt a b u0 e)
open M renaming B.lo→M.B.j,B.hi→M.B.p
section
variable {a b a' b':Wo}{e:Ex}{v u w z:Nat}
def B.mono (h:B a b e v u) (q:B a' b' e w z) (L:Le a a') (c:Le b' b):Sub v w/\Sub z u:=
 ⟨V.sub h.j (L.en▸q.j) λx y=>(zU L c e x y).1,V.sub (L.en▸q.p) h.p λx y=>(zU L c e x y).2⟩
def B.in (h:B a b e v u) (L:Le a b):Sub v u:=V.sub h.j h.p λx y q=>(zU (Le.refl a) L e x y).2 (DI a e k9▸(zU (Le.refl a) L e x y).1 q)
end
def qL (h:a=u0->a'=u0) (q:b=u0->b'=u0) (n:a'=u0->b'=u0->False) (e:wT a b=k0 x):wT a' b'=k0 x:=by
 cases a with
 | true=>rw [h rfl];exact e
 | false=>
  cases b with
  | false=>cases e
  | true=>
   rw [q rfl]
   cases a' with
   | true=>exact(n rfl (q rfl)).j
   | false=>exact e
def sZ (a):wT a (!a)=k0 a:=by cases a<;>rfl
def wU (h:Sub v w/\Sub z u) (q:Sub v' w'/\Sub z' u') (h1:Sub w z) (c:Sub w' z') (e:dF v u v' u'=k0 x):dF w z w' z'=k0 x:=by
 refine qL (λk=> ?_) (λk=> ?_) (λk b=> ?_) e
 .rw [decide_eq_true_eq,sub_zero]at k ⊢
  exact λi a=>q.1 i (k i (h.2 i a))
 .rw [Ag1,decide_eq_false_iff_not,sub_zero]at k ⊢
  exact λl=>k λi a=>q.2 i (l i (h.1 i a))
 .rw [decide_eq_true_eq,sub_zero]at k
  rw [Ag1,decide_eq_false_iff_not,sub_zero]at b
  exact b λi a=>c i (k i (h1 i a))
def dH:Y0 Nat->Y0 Nat->Prop
 | [],[]=>True
 | x::xs,y::ys=>x<=y/\dH xs ys
 | _,_=>False
theorem dH.map (h: ∀x,f x<=g x): ∀l:Y0 Nat,dH (l.j f) (l.j g)
 | []=>trivial
 | x::l=>⟨h x,dH.map h l⟩
theorem dH.sum: ∀ {l m},dH l m->l.X<=m.X
 | [],[],_=>Aa8 _
 | x::b,y::a,h=>by
  exact Nat.add_le_add h.1 (dH.sum h.2)
 | [],_::_,h=>h.j
 | _::_,[],h=>h.j
theorem dH.all (a: ∀x y,x<=y->p x=u0->q y=u0): ∀ {l m},dH l m->l.K p=u0->m.K q=u0
 | [],[],_,_=>rfl
 | x::c,y::b,h,z=>by
  rw [Al8,Aa0]at z ⊢
  exact⟨a x y h.1 z.1,dH.all a h.2 z.2⟩
 | [],_::_,h,_=>h.j
 | _::_,[],h,_=>h.j
theorem dH.dn (a: ∀x y,x<=y->p y=u0->q x=u0): ∀ {l m},dH l m->m.K p=u0->l.K q=u0
 | [],[],_,_=>rfl
 | x::c,y::b,h,z=>by
  rw [Al8,Aa0]at z ⊢
  exact⟨a x y h.1 z.1,dH.dn a h.2 z.2⟩
 | [],_::_,h,_=>h.j
 | _::_,[],h,_=>h.j
def AU (p q) (h: ∀x,p x= !q x) (l:Y0 Nat):l.z p= !l.K q:=by
 induction l with
 | nil=>rfl
 | cons x l a=>rw [Ag7,Al8,a,h x,Bool.not_and]
def yC (j x:Nat):y9 (x<j)= !y9 (j<=x):=by grind
def yu (s) (j) (l u):JM s j l u=if s∈ [Qa,xb]then wT (l.K λx=>y9 (j<=x)) (!u.K λx=>y9 (j<=x))else wT (u.K λx=>y9 (x<=j)) (!l.K λx=>y9 (x<=j)):=by
 rw [JM,AU _ (λx=>decide _) (λx=>yC j x),AU (λx=>decide _) (λx=>decide _) (λx=>yC x j)]
def C1 (h:dH l l') (q:dH u' u) (n:dH l' u') (e:JM s j l u=k0 x):JM s j l' u'=k0 x:=by
 have up: ∀x y:Nat,x<=y->y9 (j<=x)=u0->y9 (j<=y)=true:=λx y h k=>by
  rw [decide_eq_true_eq]at k ⊢;lia
 have dn: ∀x y:Nat,x<=y->y9 (y<=j)=u0->y9 (x<=j)=true:=λx y h k=>by
  rw [decide_eq_true_eq]at k ⊢;lia
 rw [yu]at e ⊢
 split at e
 .rename_i c
  rw [if_pos c]
  refine qL (λk=>h.all up k) (λk=> ?_) (λk a=> ?_) e
  .rw [Ag1,←Ap9]at k ⊢
   exact λl=>k (q.all up l)
  .rw [n.all up k]at a;cases a
 .rename_i c
  rw [if_neg c]
  refine qL (λk=>q.dn dn k) (λk=> ?_) (λk a=> ?_) e
  .rw [Ag1,←Ap9]at k ⊢
   exact λl=>k (h.dn dn l)
  .rw [n.dn dn k]at a;cases a
def pH (s) (h:Sub v w):dH (Xk n v s) (Xk n w s):=by
 have r:dH (XC n v) (XC n w):=dH.map (λa=>dH.sum (dH.map (λb=>by
  unfold tb
  cases q:v.j (a*n+b)with
  | false=>exact Af2 _
  | true=>rw [h _ q];exact Aa8 _) _)) _
 unfold Xk
 split
 .exact⟨r.sum,trivial⟩
 .exact r
def jK (s) (j) (l):JM s j l l=k0 (Bj s j l):=by
 rw [yu,Bj]
 split<;>exact sZ _
def zR (v u):dF v v u u=k0 (y9 (v-(v &&& u)=0)):=sZ _
def gO (a b:Wo):Fc->Y1 Bool->Prop
 | .dW x y,r=> ∃v u v' u',B a b x v u/\B a b y v' u'/\r=dF v u v' u'
 | .eA x y,r=> ∃v u v' u',B a b x v u/\B a b y v' u'/\r=eP (dF v u v' u') (dF v' u' v u)
 | .d8 x,r=> ∃v u,B a b x v u/\r=JM Qa 1 (Xk a.n v Qa) (Xk a.n u Qa)
 | .ak x,r=> ∃v u,B a b x v u/\r=JM qc 0 (Xk a.n v qc) (Xk a.n u qc)
 | .cnt s j x,r=> ∃v u,B a b x v u/\r=JM s j (Xk a.n v s) (Xk a.n u s)
def Td (a b:Wo):Sy->Y1 Bool->Prop
 | .p f,r=>gO a b f r
 | .neg s,r=> ∃q,Td a b s q/\r=q.j (!·)
 | .cF s t,r=> ∃p q,Td a b s p/\Td a b t q/\r=eP p q
 | .cE s t,r=> ∃p q,Td a b s p/\Td a b t q/\r=fQ p q
def Z4 (h: ∀x,p=k0 x->p'=k0 x) (k: ∀x,q=k0 x->q'=k0 x) (e:eP p q=k0 x):eP p' q'=k0 x:=by
 rcases p with _ | _ | _<;>rcases q with _ | _ | _<;>cases e<;>(first | rw [h _ rfl] | skip)<;>(first | rw [k _ rfl] | skip)<;>first | rfl | (rcases p' with _ | _ | _<;>rfl) | (rcases q' with _ | _ | _)
def CB (h: ∀x,p=k0 x->p'=k0 x) (k: ∀x,q=k0 x->q'=k0 x) (e:fQ p q=k0 x):fQ p' q'=k0 x:=by
 rcases p with _ | _ | _<;>rcases q with _ | _ | _<;>cases e<;>(first | rw [h _ rfl] | skip)<;>(first | rw [k _ rfl] | skip)<;>first | rfl | (rcases p' with _ | _ | _<;>rfl) | (rcases q' with _ | _ | _)
theorem gO.mono (L:Le a a') (k:Le b' b) (i:Le a' b')(h:gO a b f r) (q:gO a' b' f r') (e:r=k0 x):r'=k0 x:=by
 have cnt: ∀ {y}{v u l o}{s}{j},B a b y v u->B a' b' y l o->JM s j _ _=k0 x->JM s j (Xk a'.n l s) (Xk a'.n o s)=k0 x:=λd c e=>by
  have m:=d.mono c L k
  rw [L.en]
  exact C1 (pH _ m.1) (pH _ m.2) (pH _ (c.in i)) e
 cases f with
 | dW y z=>
  obtain⟨v,u,l,o,d,n,rfl⟩:=h
  obtain⟨w,t,A,p,c,g,rfl⟩:=q
  exact wU (d.mono c L k) (n.mono g L k) (c.in i) (g.in i) e
 | eA y z=>
  obtain⟨v,u,l,o,d,n,rfl⟩:=h
  obtain⟨w,t,A,p,c,g,rfl⟩:=q
  exact Z4 (λx=>wU (d.mono c L k) (n.mono g L k) (c.in i) (g.in i)) (λx=>wU (n.mono g L k) (d.mono c L k) (g.in i) (c.in i)) e
 | d8 y=>
  obtain⟨v,u,d,rfl⟩:=h
  obtain⟨w,t,c,rfl⟩:=q
  exact cnt d c e
 | ak y=>
  obtain⟨v,u,d,rfl⟩:=h
  obtain⟨w,t,c,rfl⟩:=q
  exact cnt d c e
 | cnt s j y=>
  obtain⟨v,u,d,rfl⟩:=h
  obtain⟨w,t,c,rfl⟩:=q
  exact cnt d c e
theorem Td.mono (L:Le a a') (g:Le b' b) (d:Le a' b'): ∀ s r r' x,Td a b s r->Td a' b' s r'->r=k0 x->r'=k0 x
 | .p f,r,r',x,h,q,e=>gO.mono L g d h q e
 | .neg s,r,r',x,z7,z8,e=>by
  obtain⟨p,h,i⟩:=z7;obtain⟨w,q,c⟩:=z8
  rw [c] ;rw [i]at e
  cases p with
  | none=>cases e
  | some y=>rw [Td.mono L g d s _ _ y h q rfl];exact e
 | .cF s t,r,r',x,z7,z8,e=>by
  obtain⟨u,v,j,k,i⟩:=z7;obtain⟨o,n,l,m,c⟩:=z8
  rw [c];rw [i]at e
  exact Z4 (λy z=>Td.mono L g d s _ _ y j l z) (λy z=>Td.mono L g d t _ _ y k m z) e
 | .cE s t,r,r',x,z7,z8,e=>by
  obtain⟨u,v,j,k,i⟩:=z7;obtain⟨o,n,l,m,c⟩:=z8
  rw [c];rw [i]at e
  exact CB (λy z=>Td.mono L g d s _ _ y j l z) (λy z=>Td.mono L g d t _ _ y k m z) e
def Zp (P:Pt a b) (h): ∀ e m,e.j+7<=m->e.y (a.K++a.T)-> ∃v u,B a b e v u/\call prog m "bounds" [.v a.j,.v (b5 a b),.v (aY e)] h= .j (.v (bc v u)) h:=by
 have n4:=P.oa.wl.n4
 have leaf: ∀ e s k v,aY e= .q [.j s]->(s==Jg)=k9->(s==jq)=k9->V a.n v (bt a b k9 e)->V a.n v (bt a b u0 e)->(∀ l,call prog (k+5) "made" [.i a.n,.s s,.l l] h= .j (.i v) h)-> ∃v u,B a b e v u/\call prog (k+6) "bounds" [.v a.j,.v (b5 a b),.v (aY e)] h= .j (.v (bc v u)) h:=by
  intro e s k v L E N A z f
  rw [L]
  exact⟨v,v,⟨A,z⟩,zB (ps:= []) E N (by simp) (HL kA) (f _) (f _)⟩
 intro e
 induction e with
 | name t=>
  intro m f wf
  obtain⟨k,rfl⟩: ∃k,m=k+6:=⟨m-6,by simp [Ex.dp]at f;omega⟩
  have F:t∈b.K++b.T:=by rw [P.eK,P.eT];exact wf
  obtain⟨v,A,e1⟩:=Wq (k+1) P.oa t wf h
  obtain⟨u,z,e2⟩:=Wq (k+1) P.K6 t F h
  have O:V a.n v _:=⟨A.1,λx y H C=>(A.2 x y H C).j (AW a t x y).symm⟩
  have J:V b.n u _:=⟨z.1,λx y H C=>(z.2 x y H C).j (AW b t x y).symm⟩
  rw [P.en]at J
  rw [P.ew]at e2
  refine⟨v,u,⟨O,J⟩,?_⟩
  rw [Gb (d:=bI) rfl _ _ _ rfl]
  simp only [bI,aY]
  have i0:dJ (.v (b5 a b)) (.v (.o 0)) h=k0 a.p:=rfl
  have i1:dJ (.v (b5 a b)) (.v (.o 1)) h=k0 b.p:=rfl
  refine fx (by simp! [ae,Je];rfl) ?_
  rw [ja (w:= .v (bc v u)) (h1:=h) ((xu (h1:=h) (Jk (s:=Jg) _ rfl)).j ?_),Ga _ _ _ rfl]
  refine(za (by simp! [ae,Xg];rfl)).j ?_
  exact ja (Ja rfl (by simp! [i0,i1,e1,e2]))
 | same=>
  intro m f wf
  obtain⟨k,rfl⟩: ∃k,m=k+6:=⟨m-6,by simp [Ex.dp]at f;omega⟩
  exact leaf .same jf k _ rfl rfl rfl V.leaf.1 V.leaf.1 λl=>D0 k a.n l h n4
 | all=>
  intro m f wf
  obtain⟨k,rfl⟩: ∃k,m=k+6:=⟨m-6,by simp [Ex.dp]at f;omega⟩
  exact leaf .K Xn k _ rfl rfl rfl V.leaf.2.1 V.leaf.2.1 λl=>IX k a.n l h n4
 | none=>
  intro m f wf
  obtain⟨k,rfl⟩: ∃k,m=k+6:=⟨m-6,by simp [Ex.dp]at f;omega⟩
  exact leaf .u wh k _ rfl rfl rfl V.leaf.2.2 V.leaf.2.2 λl=>Nk k a.n l h
 | turned c I=>
  intro m f wf
  simp only [Ex.dp]at f
  obtain⟨k,rfl⟩:=nk m 6 (by omega)
  obtain⟨v,u,q,e1⟩:=I (k+5) (by omega) wf
  exact⟨_,_,⟨q.j.B,q.p.B⟩,zB (ps:= [(v,u)]) rfl rfl (by simp) (Bd kA (Jv e1)) (jM k a.n v h n4) (jM k a.n u h n4)⟩
 | closed c I=>
  intro m f wf
  simp only [Ex.dp]at f
  obtain⟨k,rfl⟩:=nk m 6 (by omega)
  obtain⟨v,u,q,e1⟩:=I (k+5) (by omega) wf
  obtain⟨r,M,K⟩:=wI k a.n v h n4 q.j.1
  obtain⟨Q,G,D⟩:=wI k a.n u h n4 q.p.1
  exact⟨_,_,⟨q.j.w M,q.p.w G⟩,zB (ps:= [(v,u)]) rfl rfl (by simp) (Bd kA (Jv e1)) K D⟩
 | plus c d i j=>
  intro m f wf
  simp only [Ex.dp]at f
  obtain⟨k,rfl⟩:=nk m 6 (by omega)
  obtain⟨v,u,q,e1⟩:=i (k+5) (by omega) wf.1
  obtain⟨o,p,n,g⟩:=j (k+5) (by omega) wf.2
  exact⟨_,_,⟨q.j.plus n.j,q.p.plus n.p⟩,zB (ps:= [(v,u),(o,p)]) rfl rfl (by simp) (j5 kA (Jv e1) (Jv g)) (jZ k a.n v o h) (jZ k a.n u p h)⟩
 | less c d i j=>
  intro m f wf
  simp only [Ex.dp]at f
  obtain⟨k,rfl⟩:=nk m 6 (by omega)
  obtain⟨v,u,q,e1⟩:=i (k+5) (by omega) wf.1
  obtain⟨o,p,n,g⟩:=j (k+5) (by omega) wf.2
  exact⟨_,_,⟨q.j.less n.p,q.p.less n.j⟩,L4 (j5 kA (Jv e1) (Jv g))⟩
 | both c d i j=>
  intro m f wf
  simp only [Ex.dp]at f
  obtain⟨k,rfl⟩:=nk m 6 (by omega)
  obtain⟨v,u,q,e1⟩:=i (k+5) (by omega) wf.1
  obtain⟨o,p,n,g⟩:=j (k+5) (by omega) wf.2
  exact⟨_,_,⟨q.j.both n.j,q.p.both n.p⟩,zB (ps:= [(v,u),(o,p)]) rfl rfl (by simp) (j5 kA (Jv e1) (Jv g)) (W1 k a.n v o h) (W1 k a.n u p h)⟩
 | joined c d i j=>
  intro m f wf
  simp only [Ex.dp]at f
  obtain⟨k,rfl⟩:=nk m 6 (by omega)
  obtain⟨v,u,q,e1⟩:=i (k+5) (by omega) wf.1
  obtain⟨o,p,n,g⟩:=j (k+5) (by omega) wf.2
  exact⟨_,_,⟨q.j.q n.j,q.p.q n.p⟩,zB (ps:= [(v,u),(o,p)]) rfl rfl (by simp) (j5 kA (Jv e1) (Jv g)) (ZK k a.n v o h n4) (ZK k a.n u p h n4)⟩
def j9 (P:Pt a b) (h) (f) (m) (c:f.dp+7<=m) (wf:f.wf (a.K++a.T)): ∃r,gO a b f r/\call prog (m+1) "fact_told" [.v a.j,.v (b5 a b),.v (dI f)] h= .j (.v (aJ r)) h:=by
 have n4:=P.oa.wl.n4
 obtain⟨k,rfl⟩:=nk m 3 (by lia)
 cases f with
 | dW x y=>
  simp [Fc.dp]at c
  obtain⟨d,l,i,g⟩:=Zp P h x (k+3) (by lia) wf.1
  obtain⟨v,u,q,e⟩:=Zp P h y (k+3) (by lia) wf.2
  exact⟨_,⟨d,l,v,u,i,q,rfl⟩,F0 n4 e g⟩
 | eA x y=>
  simp [Fc.dp]at c
  obtain⟨d,l,i,g⟩:=Zp P h x (k+3) (by lia) wf.1
  obtain⟨v,u,q,e⟩:=Zp P h y (k+3) (by lia) wf.2
  exact⟨_,⟨d,l,v,u,i,q,rfl⟩,IL n4 e g⟩
 | d8 x=>
  obtain⟨v,u,q,e⟩:=Zp P h x _ c wf
  exact⟨_,⟨v,u,q,rfl⟩,EN n4 e⟩
 | ak x=>
  obtain⟨v,u,q,e⟩:=Zp P h x _ c wf
  exact⟨_,⟨v,u,q,rfl⟩,Ob n4 e⟩
 | cnt s j x=>
  obtain⟨v,u,q,e⟩:=Zp P h x _ c wf.2
  exact⟨_,⟨v,u,q,rfl⟩,MY n4 e wf.1⟩
abbrev yR (a b:Wo) (d:D) (s:Tx):Sl:= [sv a.j,sv (b5 a b),sv d,k0 (.s s)]
section
variable {m k:Nat}{a b:Wo}{h:AH}{x y:D}{r q:Y1 Bool}
def WG (z:execs (u9 m) (match cG.j with | .j _ r=>r | r=>r) (yR a b (.q (.j s::ds)) s) h= .j (.v d) h):call prog (m+1) "told" [.v a.j,.v (b5 a b),.t (.j s::ds)] h= .j (.v d) h:=by
 rw [Gb rfl _ _ _ rfl]
 simp only [cG]at z ⊢
 rw [za (τ1:=yR a b (.q (.j s::ds)) s) (h1:=h) (by simp! [ae,Je]),z,Ga _ _ _ rfl]
def DA (c:call prog (k+2) "told" [.v a.j,.v (b5 a b),.v x] h= .j (.v (aJ r)) h):call prog (k+3) "told" [.v a.j,.v (b5 a b),.t [.j QK,x]] h= .j (.v (aJ (r.j (!·)))) h:=by
 refine WG ?_
 simp only [cG]
 rw [we (Jk (s:=QK) _ rfl) (Ja rfl (by simp! [ae,Xr,c,Dl];rfl))]
def Hs (c:call prog (k+2) "told" [.v a.j,.v (b5 a b),.v x] h= .j (.v (aJ r)) h) (d:call prog (k+2) "told" [.v a.j,.v (b5 a b),.v y] h= .j (.v (aJ q)) h):call prog (k+3) "told" [.v a.j,.v (b5 a b),.t [.j Wx,x,y]] h= .j (.v (aJ (eP r q))) h:=by
 refine WG ?_
 simp only [cG]
 rw [xa (Jk (s:=Wx) _ rfl),we (Jk (s:=Wx) _ rfl) (Ja rfl (by simp! [ae,Xr,XE,c,d,jO];rfl))]
def MG (c:call prog (k+2) "told" [.v a.j,.v (b5 a b),.v x] h= .j (.v (aJ r)) h) (d:call prog (k+2) "told" [.v a.j,.v (b5 a b),.v y] h= .j (.v (aJ q)) h):call prog (k+3) "told" [.v a.j,.v (b5 a b),.t [.j xA,x,y]] h= .j (.v (aJ (fQ r q))) h:=by
 refine WG ?_
 simp only [cG]
 rw [xa (Jk (s:=xA) _ rfl),xa (Jk (s:=xA) _ rfl),we (Jk (s:=xA) _ rfl) (Ja rfl (by simp! [ae,Xr,XE,c,d,Iy];rfl))]
def Ij (wf:f.wf N) (e:call prog m "fact_told" [.v a.j,.v (b5 a b),.v (dI f)] h= .j (.v (aJ r)) h):call prog (m+1) "told" [.v a.j,.v (b5 a b),.v (dI f)] h= .j (.v (aJ r)) h:=by
 obtain⟨s,j,g,d,c,i⟩:=L7 f wf
 rw [g]at e ⊢
 refine WG ?_
 simp only [cG]
 rw [xa ((Jk _ rfl).j (by rw [d])),xa ((Jk _ rfl).j (by rw [c])),xa ((Jk _ rfl).j (by rw [i])),ja (Ja rfl (by assumption))]
end
def Hd (P:Pt a b) (h): ∀ s m,s.j+9<=m->s.y (a.K++a.T)-> ∃r,Td a b s r/\call prog m "told" [.v a.j,.v (b5 a b),.v (aQ s)] h= .j (.v (aJ r)) h:=by
 intro s
 induction s with
 | fact f=>
  intro m c wf
  simp [Sy.dp]at c
  obtain⟨k,rfl⟩:=nk m 2 (by lia)
  obtain⟨r,t,e⟩:=j9 P h f k (by lia) wf
  exact⟨r,t,Ij wf e⟩
 | neg x l=>
  intro m c wf
  simp [Sy.dp]at c
  obtain⟨k,rfl⟩:=nk m 3 (by lia)
  obtain⟨r,t,e⟩:=l (k+2) (by lia) wf
  exact⟨_,⟨r,t,rfl⟩,DA e⟩
 | cF x y d g=>
  intro m c wf
  simp [Sy.dp]at c
  obtain⟨k,rfl⟩:=nk m 3 (by lia)
  obtain⟨r,t,e⟩:=d (k+2) (by lia) wf.1
  obtain⟨q,j,i⟩:=g (k+2) (by lia) wf.2
  exact⟨_,⟨r,q,t,j,rfl⟩,Hs e i⟩
 | cE x y d g=>
  intro m c wf
  simp [Sy.dp]at c
  obtain⟨k,rfl⟩:=nk m 3 (by lia)
  obtain⟨r,t,e⟩:=d (k+2) (by lia) wf.1
  obtain⟨q,j,i⟩:=g (k+2) (by lia) wf.2
  exact⟨_,⟨r,q,t,j,rfl⟩,MG e i⟩
mutual
theorem vG: ∀ {d:D},Gd d=u0->cw d d=u0
 | .Q,_=>rfl
 | .C b,_=>by simp
 | .o i,_=>by simp
 | .j s,_=>by simp
 | .q xs,h=>by
  rw [cw];exact GJ (by simpa [Gd]using h)
 | .u xs,h=>by
  rw [cw];exact GJ (by simpa [Gd]using h)
 | .p _,h=>by simp at h
theorem GJ: ∀ {xs:List D},Gc xs=u0->GL xs xs=u0
 | [],_=>rfl
 | x::xs,h=>by
  have h':Gd x=u0/\Gc xs=true:=by simpa [Gc]using h
  rw [GL,vG h'.1,GJ h'.2];rfl
end
mutual
theorem Q0 {h:AH}: ∀ {d:D},Gd d=u0->res h d=d
 | .Q,_=>rfl
 | .C b,_=>rfl
 | .o i,_=>rfl
 | .j s,_=>rfl
 | .q xs,q=>by
  rw [res,GM (by simpa [Gd]using q)]
 | .u xs,q=>by
  rw [res,GM (by simpa [Gd]using q)]
 | .p _,q=>by simp at q
theorem GM {h:AH}: ∀ {xs:List D},Gc xs=u0->GO h xs=xs
 | [],_=>rfl
 | x::xs,q=>by
  have h':Gd x=u0/\Gc xs=true:=by simpa [Gc]using q
  rw [GO,Q0 h'.1,GM h'.2]
end
theorem Zk (f) (a: ∀x,Gd (f x)=u0): ∀l:Y0 α,Gc (l.j f)=u0
 | []=>rfl
 | x::l=>by simp [a x,Zk f a l]
theorem wH (f) (k) (a: ∀x,dep (f x)<=k): ∀l:Y0 α,GG (l.j f)<=k
 | []=>Af2 _
 | x::l=>by
  have c:=a x
  have b:=wH f k a l
  exact Nat.max_le.q ⟨c,b⟩
def j8 (d) (a:Gd d=u0) (b:dep d<150) (h):Gr .q (.v d) (.v d) h=k0 false:=by
 show(if GU (res h d) (res h d)then k0 (!cw (res h d) (res h d))else y0)=_
 rw [Q0 a,if_pos (by simp_all),vG a];rfl
def Zw:D->Bool
 | .o _=>u0
 | _=>k9
noncomputable def Zr (d:D) (e:Int):Bool:=match d with
 | .o i=>y9 (0<=i)&&y9 (i<e)
 | _=>k9
def qD (k) (d) (h) (a:Gd d=u0):call prog (k+1) "is_whole" [.v d] h= .j (.b (Zw d)) h:=by
 cases d<;>first | exact Ga _ _ _ rfl | cases a
def WC (k) (d) (e) (h) (a:Gd d=u0):call prog (k+2) "is_below" [.v d,.v (.o e)] h= .j (.b (Zr d e)) h:=by
 rw [Gb rfl _ _ _ rfl]
 have b:=qD k d h a
 cases d with
 | int i=>
  simp [b,zD,Zw,Zr,Gi]
  by_cases c:0<=i<;>simp [c]
 | _=>first | (simp [b,zD,Zw,Zr,Gi]) | (simp at a)
def m7 (l):Gc (aC l)=true:=Zk _ (λ_=>rfl) l
def Eb (l):GG (aC l)<=0:=wH _ 0 (λ_=>Aa8 _) l
def BY (k) (d) (h) (a:Gd d=u0):call prog (k+3) "is_size" [.v d] h= .j (.b (Zr d 5)) h:=by
 rw [Gb rfl _ _ _ rfl]
 have b:prog.con.p "GREATEST_SIZE" =some _:=rfl
 have c:(4:Int)+1=5:=rfl
 simp only [xY]
 simp! [b,Zc,c,(WC k d 5 h a)]
def vr (k) (d) (h) (b:Gd d=u0) (c:Zr d 5=u0):call prog (k+4) "check_size" [.v d] h= .j (.v .Q) h:=by
 rw [Gb rfl _ _ _ rfl]
 have a:=BY k d h b
 rw [c]at a
 simp only [QE]
 rw [xa (by simp! [a])]
 simp! []
noncomputable def cd:Y0 (Nat×Nat)->Nat
 | []=>0
 | q::r=>q.2+2 ^ q.1*cd r
noncomputable def dg:Y0 Nat->Nat->Y0 Nat
 | [],_=> []
 | w::a,c=>c % 2 ^ w::dg a (c / 2 ^ w)
noncomputable def c4 (n K T:Nat):Y0 Nat:=Aa9 K n++Aa9 T (n*n)
structure Wl (n:Nat) (ks ts:List Nat):Prop where
 n4:n<=4
 k4:ks.e<=4
 t4:ts.e<=4
 bk: ∀x∈ks,x<2 ^ n
 bt: ∀x∈ts,x<2 ^ (n*n)
def nI (n K T):(c4 n K T).e=K+T:=by simp [c4]
noncomputable abbrev nS (A B:Y0 D):D:= .q [.q A,.q B]
def EK (n K T):aC (c4 n K T)=Aa9 K (.n n)++Aa9 T (.n (n*n)):=by simp [c4]
theorem wB (x): ∀m,(Aa9 m x).X=m*x
 | 0=>by simp
 | m+1=>by rw [Af0,An,wB x m,Nat.succ_mul,Ap6]
def pj (n K T):(c4 n K T).X=K*n+T*(n*n):=by rw [c4,List.sum_append,wB,wB]
theorem uh (h): ∀ ws c i x5,(∀ w∈ws,w<=16)->i.e+ws.e<=1000-> ∃j L,
 Gp (Gq [5] u0) (λτ h=>execs F qr τ h) (aC ws) [x0,x1,x2,k0 (.j (aC i)),si c,x5,x6] h= .p [x0,x1,x2,k0 (.j (aC (i++dg ws c))),j,L,x6] h
 | [],c,i,x5,_,_=>⟨si c,x5,by simp [dg]⟩
 | w::ws,c,i,x5,b,n=>by
  rw [Aa6]at n
  have m:=b w Aa3
  obtain⟨j,L,e⟩:=uh h ws (c / 2 ^ w) (i++ [c % 2 ^ w]) (si w) (λx l=>b x (Aa2 _ l)) (by simp;omega)
  refine⟨j,L,?_⟩
  have d:=j7 w (by omega)
  have p:0<2 ^ w:=Nat.pow_pos (by decide)
  have f:((2 ^ w:Nat))-1=((2 ^ w-1:Nat):Int):=by omega
  have a:=Wc c (2 ^ w-1)
  rw [Af3]at a
  have k:=jp c w
  have o:(aC i).e<bp:=by rw [Gg,Aa];omega
  have g:aC (i++ [c % 2 ^ w])=aC i++ [.n (c % 2 ^ w)]:=by simp
  rw [show aC (w::ws)= .n w::aC ws from rfl,Wa rfl ?_,e,Ae3]
  .rfl
  .rw [g]
   simp! [qr,d,Qe,f,jc,a,o,if_true,k]
def sG (x) (m) (a:m<=1000) (h):GX .q (.j [x]) (.i m) h= .j (.j (Aa9 m x)) h:=by
 show Kz [x] m h=_
 have c: -1000<=(m:Int)/\(m:Int)<=1000/\ [x].e*(m:Int).j<=bp:=by rw [Gg,Ad5];simp;lia
 rw [Kz,if_pos c,Ad5,show(Aa9 m [x]).L=Aa9 m x by simp]
def vY (k n) (A B) (h) (c:n<=4) (d:A.e<=4) (b:B.e<=4):call prog (k+1) "widths" [.v (nS A B),.i n] h= .j (.j (aC (c4 n A.e B.e))) h:=by
 rw [Gb rfl _ _ _ rfl]
 have a:(Aa9 A.e (D.n n)).e+(Aa9 B.e (D.n (n*n))).e<=bp:=by rw [Gg];simp;lia
 rw [EK]
 simp only [Bt]
 simp! [ae,Wh,Xg,wg,(sG (.n n) A.e (by lia) h),(Xd n n (by lia)),(sG (.n (n*n)) B.e (by lia) h),EY,a,if_true]
def A5 (k n) (A B) (h) (c:n<=4) (d:A.e<=4) (a:B.e<=4):call prog (k+2) "bits" [.v (nS A B),.i n] h= .j (.i ((c4 n A.e B.e).X)) h:=by
 rw [Gb rfl _ _ _ rfl]
 have b:(aC (c4 n A.e B.e)).e<=bp:=by rw [Gg,Aa,nI];lia
 simp only [vZ]
 simp! [(vY k n A B h c d a),A7,b,if_true,wS]
theorem sj (n): ∀m,Aa7 (m*n)=(Aa7 m).N λa=>(Aa7 n).j (a*n+ ·)
 | 0=>by simp
 | m+1=>by rw [XD,sj n m,List.range_succ,List.flatMap_append];simp
def H9 (n t):Wf.ay n t=(Aa7 n).N λa=>((Aa7 n).Q λb=>t.j (a*n+b)).j λb=>(a,b):=by
 unfold Wf.ay
 rw [sj n n,List.filter_flatMap,List.map_flatMap]
 rw [List.flatMap_def,List.flatMap_def]
 congr 1
 refine Ai1 λa d=> ?_
 rw [An5,Ae]
 refine Ai1 λb c=> ?_
 have c:=Ab9.p (Ai9.p c).1
 show(_ / n,_ % n)=_
 rw [Wf.aI c,Wf.aK c]
def zZ (n t) (f) (z:α):(Wf.ay n t).U f z=(Aa7 n).U (λz a=>(Aa7 n).U (λz b=>if t.j (a*n+b)then f z (a,b)else z) z) z:=by
 rw [H9,List.foldl_flatMap]
 congr 1
 funext z a
 rw [List.foldl_map,List.foldl_filter]
def mj (e:Gi τ i=si n) (a:n<=1000000):Gs F (.au (.var i)) τ h= .j ((Aa7 n).j λi=> .n i) h:=Jm (by rw [eval,e]) a
def uS {st:Nat->Y1 W->Y1 W->Y1 W->Sl}{f:Nat->Nat->Nat->Nat}(A:n<=1000)
 (o:b2= .a (.for [j] u0 (.au .z) b1)) (q: ∀t x y z,Gi (st t x y z) 0=si n)
 (s: ∀d t x y z,Gz (st t x y z) i (.v d)=st t (sv d) y z) (w: ∀d t x y z,Gz (st t x y z) j (.v d)=st t x (sv d) z)
 (u: ∀a b t z,a<n->b<n-> ∃L,execs F b1 (st t (si a) (si b) z) h= .p (st (f a b t) (si a) (si b) L) h):
 ∀(l:Y0 Nat) t x y z,(∀ a∈l,a<n)-> ∃V M L,Gp (Gq [i] u0) (λτ h=>execs F b2 τ h) (l.j λa=>D.n a) (st t x y z) h= .p (st (l.U (λt a=>(Aa7 n).U (λt b=>f a b t) t) t) V M L) h:=by
 have dW: ∀ a,a<n-> ∀(l:Y0 Nat) t y z,(∀ b∈l,b<n)-> ∃M L,Gp (Gq [j] u0) (λτ h=>execs F b1 τ h) (l.j λb=>D.n b) (st t (si a) y z) h= .p (st (l.U (λt b=>f a b t) t) (si a) M L) h:=by
  intro a r l
  induction l with
  | nil=>exact λt y z _=>⟨y,z,rfl⟩
  | cons b l p=>
   intro t y z g
   obtain⟨m,e1⟩:=u a b t z r (g b Aa3)
   obtain⟨M,L,e⟩:=p _ _ m λc k=>g c (Aa2 _ k)
   refine⟨M,L,?_⟩
   rw [Ab2,Wa (by simp_all) e1,e]
   rfl
 intro l
 induction l with
 | nil=>exact λt x y z _=>⟨x,y,z,rfl⟩
 | cons a l p=>
  intro t x y z g
  obtain⟨v,m,e1⟩:=dW a (g a Aa3) _ t y z λb o=>Ab9.p o
  obtain⟨V,M,L,e⟩:=p _ _ v m λc k=>g c (Aa2 _ k)
  refine⟨V,M,L,?_⟩
  rw [Ab2,Wa (by rw [GD,s]) (by
   rw [o,execs,exec]
   rw [mj (q _ _ _ _) (by lia),R.aw,e1,O.bx,execs]),e]
  rfl
def oQ (o c):Gj .j ((o / 2 ^ c:Nat):Int) 1=k0 ((((o.j c).j:Nat)):Int):=by
 rw [jc,show 1=((1:Nat):Int)from rfl,Wc,qR]
def ue (x) (h):Gr .j (.i (x.j)) (.v (.o 1)) h=k0 x:=by
 cases x<;>rfl
abbrev l6 (n o p t:Nat) (x y z:Y1 W):Sl:= [si n,si o,si p,si t,x,y,z]
def W5 (k n o p) (h) (m:n<=20):call prog (k+1) "_law_joined" [.i n,.i o,.i p] h= .j (.i (Wf.joinM n o p)) h:=by
 rw [Gb rfl _ _ _ rfl]
 have step: ∀a b t z,a<n->b<n-> ∃g,execs (u9 k) Xi (l6 n o p t (si a) (si b) z) h= .p (l6 n o p (if o.j (a*n+b)then t ||| Wf.cy n p b*2 ^ (a*n)else t) (si a) (si b) g) h:=by
  intro a b t z f y
  have j:Gj .q (a:Int) (n:Int)=k0 _:=Xd a n (by omega)
  have d:Gj .q (b:Int) (n:Int)=k0 _:=Xd b n (by omega)
  have u:(p / 2 ^ (b*n) &&& (2 ^ n-1))=Wf.cy n p b:=by rw [Af3];rfl
  have s:a*n<=400:=Ab5 (Af5 (Ag5 f) (Aa8 n)) (ji m)
  have c:((2 ^ n:Nat):Int)-1=((2 ^ n-1:Nat):Int):=by
   have:=Ad4 n
   omega
  have l:Gn (u9 k) (.y .j (.w .j (.w .shr .B (.w .u (.w .q .v4 .z) .v5)) (.o 1)) (.o 1)) (l6 n o p t (si a) (si b) z) h= .j (o.j (a*n+b)) h:=by
   have v:(((a*n:Nat):Int)+(b:Int))=((a*n+b:Nat):Int):=rfl
   simp! [j,Zc,v,jp,oQ,ue]
  cases q:o.j (a*n+b)with
  | false=>
   refine⟨z,?_⟩
   unfold Xi
   rw [xa (by rw [l,q]),execs]
   rfl
  | true=>
   refine⟨si (Wf.cy n p b),?_⟩
   unfold Xi
   rw [execs,xu (by rw [l,q])]
   simp! [j,d,jp,(j7 n (by omega)),Qe,c,jc,Wc,u,(jU _ (a*n) (Ab3 (Wf.dh n p b) (Ab5 (Ad (by decide) m) (by decide))) (by omega)),Zn,xm,if_true]
 obtain⟨r,x,g,e⟩:=uS (i:=4) (b2:=xv) (by omega) rfl (λ_ _ _ _=>rfl) (λ_ _ _ _ _=>rfl) (λ_ _ _ _ _=>rfl) step _ 0 y0 y0 y0 λa f=>Ab9.p f
 simp only [qG]
 rw [za (τ1:=l6 n o p 0 y0 y0 y0) rfl]
 rw [za (τ1:=l6 n o p (Wf.joinM n o p) r x g) (h1:=h) (by
  rw [exec,mj (n:=n) rfl (by omega),R.aw,e]
  rw [Wf.joinM,zZ])]
 rw [ja (w:= .i (Wf.joinM n o p)) (h1:=h) rfl,Ga _ _ _ rfl]
abbrev ll (n o t:Nat) (x y:Y1 W):Sl:= [si n,si o,si t,x,y]
def tP (k n o) (h) (B:n<=20):call prog (k+1) "_law_turned" [.i n,.i o] h= .j (.i (Wf.bL n o)) h:=by
 rw [Gb (d:=qs) rfl _ _ _ rfl]
 have step: ∀a b t (z:Y1 W),a<n->b<n-> ∃s:Y1 W,execs (u9 k) Wn (ll n o t (si a) (si b)) h= .p (ll n o (if o.j (a*n+b)then t ||| 2 ^ (b*n+a)else t) (si a) (si b)) h:=by
  intro a b t z f u
  refine⟨y0,?_⟩
  have l:Gj .q (a:Int) (n:Int)=k0 _:=Xd a n (by omega)
  have c:Gj .q (b:Int) (n:Int)=k0 _:=Xd b n (by omega)
  have p:b*n+a<=400:=Ab5 (Ag5 (Wf.place_lt u f)) (ji B)
  have A:(((b*n:Nat):Int)+(a:Int))=((b*n+a:Nat):Int):=rfl
  have g:Gn (u9 k) (.y .j (.w .j (.w .shr .B (.w .u (.w .q .K .z) .v4)) (.o 1)) (.o 1)) (ll n o t (si a) (si b)) h= .j (o.j (a*n+b)) h:=by
   have r:(((a*n:Nat):Int)+(b:Int))=((a*n+b:Nat):Int):=rfl
   simp! [l,Zc,r,jp,oQ,ue]
  unfold Wn
  cases q:o.j (a*n+b)with
  | false=>
   rw [xa (by rw [g,q]),execs]
   rfl
  | true=>
   rw [execs,xu (h1:=h) (by rw [g,q])]
   simp! [c,Zc,A,(j7 (b*n+a) (by omega)),Zn,xm,if_true]
 obtain⟨m,v,s,e⟩:=uS (st:=λt x y _=>ll n o t x y) (i:=3) (j:=4) (b2:=Qv) (by omega) rfl (λ_ _ _ _=>rfl) (λ_ _ _ _ _=>rfl) (λ_ _ _ _ _=>rfl) step _ 0 y0 y0 y0 λa f=>Ab9.p f
 simp only [qs]
 rw [za (τ1:=ll n o 0 y0 y0) (h1:=h) rfl]
 rw [za (τ1:=ll n o (Wf.bL n o) m v) (h1:=h) (by
  rw [exec,mj (n:=n) rfl (by omega),R.aw,e]
  rw [Wf.bL,Wf.cX,Wf.mr,List.foldl_map,zZ])]
 rw [ja (w:= .i (Wf.bL n o)) (h1:=h) rfl,Ga _ _ _ rfl]
def cS (n t:Nat):Nat->Nat
 | 0=>t
 | i+1=>cS n t i ||| Wf.joinM n (cS n t i) t
theorem n3 : ∀ {l:Y0 Nat},(∀ x∈l,p x=u0->q x=u0)->(∃ x∈l,q x=u0/\p x=k9)->(l.Q p).e<(l.Q q).e
 | [],_,h=>by obtain⟨x,a,_⟩:=h;cases a
 | y::l,h,i=>by
  have le: ∀l:Y0 Nat,(∀ x∈l,p x=u0->q x=u0)->(l.Q p).e<=(l.Q q).e:=by
   intro l
   induction l with
   | nil=>exact λ_=>Aa8 _
   | cons z l b=>
    intro e
    have j:=b λx a=>e x (Aa2 _ a)
    have g:=e z Aa3
    rw [Al6,Al6]
    cases e1:p z with
    | true=>rw [g e1,if_pos rfl,if_pos rfl,Aa6,Aa6];omega
    | false=>
     rw [if_neg Ac2]
     cases q z with
     | true=>rw [if_pos rfl,Aa6];omega
     | false=>rw [if_neg Ac2];exact j
  have k:=le l λx a=>h x (Aa2 _ a)
  have f:=h y Aa3
  obtain⟨x,a,d,c⟩:=i
  rw [Al6,Al6]
  rcases Ab7.p a with rfl | a
  .rw [d,c,if_pos rfl,if_neg Ac2,Aa6];omega
  .have b:=n3 (λx a=>h x (Aa2 _ a)) ⟨x,a,d,c⟩
   cases e1:p y with
   | true=>rw [f e1,if_pos rfl,if_pos rfl,Aa6,Aa6];omega
   | false=>
    rw [if_neg Ac2]
    cases q y with
    | true=>rw [if_pos rfl,Aa6];omega
    | false=>rw [if_neg Ac2];exact b
section
variable {n t:Nat}
def Zu (e:a<n) (d:b<n):(cS n t (i+1)).j (a*n+b)=((cS n t i).j (a*n+b)||(Aa7 n).z λc=>(cS n t i).j (a*n+c)&&t.j (c*n+b)):=by
 rw [cS,Ae8,Wf.cn (Wf.place_lt e d),Wf.cJ d]
def k6 (n t i a:Nat):Prop:= ∀b,b<n->(cS n t (i+1)).j (a*n+b)=(cS n t i).j (a*n+b)
def W0 (e:a<n) (h:k6 n t i a):k6 n t (i+1) a:=λb f=>by
 rw [Zu e f]
 cases q:(Aa7 n).z λc=>(cS n t _).j _&&t.j (c*n+b)with
 | false=>rw [Bool.or_false]
 | true=>
  rw [An8,Zu e f,Ao7.q (.q ?_)]
  rw [Ad2]at q ⊢
  obtain⟨c,d,z⟩:=q
  rw [h c (Ab9.p d)]at z
  exact⟨c,d,z⟩
abbrev m6 (n t i a:Nat):Nat:=((Aa7 n).Q λb=>(cS n t i).j (a*n+b)).e
def uC (d:a<n) (h: ¬k6 n t i a):m6 n t i a<m6 n t (i+1) a:=by
 have h: ∃b,b<n/\(cS n t _).j _≠(cS n t i).j _:=Aj0 λz=>h λb c=>Aj0 λq=>z ⟨b,c,q⟩
 obtain⟨b,c,ne⟩:=h
 refine n3 (λx e z=>by rw [Zu d (Ab9.p e),z,Am3]) ⟨b,Ab9.q c,?_⟩
 cases q:(cS n t i).j (a*n+b)with
 | false=>rw [q]at ne;exact⟨by simpa using ne,rfl⟩
 | true=>exact absurd (by rw [Zu d c,q,Am3]) ne
theorem yp (b:a<n): ∀i,k6 n t i a\/i<=m6 n t i a
 | 0=> .q (Af2 _)
 | i+1=>(yp b i).j (λz=> .p (W0 b z)) λz=>by
  by_cases q:k6 n t i a
  .exact .p (W0 b q)
  .have:=uC b q
   exact .q (by omega)
def B0 (b:a<n):k6 n t n a:=(yp b n).j id λz=>Aj0 λq=>by
 have d:=uC b q
 have c:m6 n t (n+1) a<=n:=Ab5 (Aj _ _) (by simp)
 omega
theorem o7: ∀(i a b),a<n->b<n->(cS n t i).j (a*n+b)=u0->Wf.TC n t a b
 | 0,a,b,d,e,z=> .step d e z
 | i+1,a,b,d,e,z=>by
  rw [Zu d e,Ae7,Ad2]at z
  rcases z with z | ⟨c,f,z⟩
  .exact o7 i a b d e z
  .rw [Aa0]at z
   have f:=Ab9.p f
   exact .more (o7 i a c d f z.1) f e z.2
theorem uj: ∀(i k),t.j k=u0->(cS n t i).j k=u0
 | 0,_,z=>z
 | i+1,k,z=>by rw [cS,Ae8,uj i k z,Am3]
theorem r0 (a:t<2 ^ (n*n)): ∀i,cS n t i<2 ^ (n*n)
 | 0=>a
 | i+1=>Ak9 (r0 a i) (Wf.dy _ _ _)
def yN (i:t<2 ^ (n*n)):Wf.fD n t (cS n t n):=⟨r0 i n,λa b e h=>⟨o7 n a b e h,λg=>by
 induction g with
 | step d c f=>exact uj n _ f
 | more g d c f j=>
  rw [← B0 e _ c,Zu e c,Ao7,Ad2]
  exact .q ⟨_,Ab9.q d,by rw [j d,f];rfl⟩⟩⟩
end
abbrev nK (n t r:Nat) (x:Y1 W):Sl:= [si n,si t,si r,x]
theorem zP (k n t) (a:n<=20) (h): ∀ m i x,∃L,Gp (Gq [3] u0) (λτ h=>execs (u9 (k+1)) Jn τ h) ((Aa7 m).j λj=>D.n (i+j)) (nK n t (cS n t i) x) h= .p (nK n t (cS n t (i+m)) L) h
 | 0,i,x=>⟨x,rfl⟩
 | m+1,i,x=>by
  obtain⟨L,e⟩:=zP k n t a h m (i+1) (si (i))
  refine⟨L,?_⟩
  rw [Ah3,Ab2,Ae,Wa (τ1:=nK n t (cS n t i) (si (i))) rfl (by
   unfold Jn
   rw [za (τ1:=nK n t (cS n t (i+1)) (si (i))) (by simp! [W5 k n (cS n t i) t h a,xm];rfl),execs])]
  have:((λj=>D.n (i+j))∘Nat.succ)=λj=>D.n (i+1+j):=by
   funext j
   show D.n (i+(j+1))=_
   rw [show i+(j+1)=i+1+j by omega]
  rw [this,e,show i+1+m=i+(m+1)by omega]
def vF (k n t) (h) (a:n<=20):call prog (k+2) "_law_closed" [.i n,.i t] h= .j (.i (cS n t n)) h:=by
 rw [Gb rfl _ _ _ rfl]
 obtain⟨b,e⟩:=zP k n t a h n 0 y0
 simp [Am4]at e
 simp only [ZF]
 rw [za rfl]
 rw [za (by rw [exec,mj rfl (by lia),R.aw];exact e)]
 rw [ja rfl,Ga _ _ _ rfl]
def Nn (a b:Nat):KB (a:Int) (b:Int)=k0 ((a ^^^ b:Nat):Int):=rfl
def yk (k n) (h) (l:n<=4):call prog (k+1) "_law_same" [.i n] h= .j (.i (Wf.bK n)) h:=by
 rw [Gb rfl _ _ _ rfl]
 have e:eval (u9 k) Wr [si n] h= .j (.j (aC ((Aa7 n).j λa=>2 ^ (a*n+a)))) h:=by
  unfold Wr
  rw [Wt (λa=> .n _) rfl (by omega) λa b=>⟨.i _,?_,rfl⟩]
  .rw [aC,Ae];rfl
  .have f:=Xd a n (by omega)
   have g:=j7 (a*n+a) (by have:=Wf.place_lt b b;have:=ji (show n<=20 by omega);omega)
   have d:(((a*n:Nat):Int)+(a:Int))=((a*n+a:Nat):Int):=rfl
   simp! [f,Zc,d,g]
 have j:((Aa7 n).j λa=>2 ^ (a*n+a)).X=Wf.bK n:=by
  have:n=0\/n=1\/n=2\/n=3\/n=4:=by omega
  rcases this with rfl | rfl | rfl | rfl | rfl<;>decide +kernel
 have i:dZ .sum [.j (aC ((Aa7 n).j λa=>2 ^ (a*n+a)))] h= .j (.i (Wf.bK n)) h:=by
  show(R.of h ((k0 (aC ((Aa7 n).j λa=>2 ^ (a*n+a)))).p λc=>if c.e<=bp then Km c else y0)).p _=_
  rw [Af4,if_pos (by rw [Gg,aC,Aa,Aa,Ai];omega),wS,j]
  rfl
 simp only [JQ]
 rw [ja (w:= .i (Wf.bK n)) (h1:=h) (Ja rfl (by simp! [e,i])),Ga _ _ _ rfl]
def xO (k n s t) (h) (a:n<=20):(call prog (k+2) "_law_two" [.s WE,.i n,.i s,.i t] h= .j (.i (s ||| t)) h ∧
 call prog (k+2) "_law_two" [.s Jy,.i n,.i s,.i t] h= .j (.i (s &&& t)) h) ∧
 call prog (k+2) "_law_two" [.s Wg,.i n,.i s,.i t] h= .j (.i (Wf.joinM n s t)) h:=by
 refine⟨⟨?_,?_⟩,?_⟩
 all_goals
  rw [Gb rfl _ _ _ rfl]
  simp only [ZX]
 .show Gw _ (execs _ _ [k0 _,si n,si s,si t] h)=_
  rw [we (w:= .i (s ||| t)) (Jk (s:=WE) _ rfl) (Ja rfl (by simp! [Zn,xm])),Ga _ _ _ rfl]
 .show Gw _ (execs _ _ [k0 _,si n,si s,si t] h)=_
  rw [xa (Jk (s:=Jy) _ rfl),we (w:= .i (s &&& t)) (Jk (s:=Jy) _ rfl) (Ja rfl (by simp! [jc,Wc])),Ga _ _ _ rfl]
 .show Gw _ (execs _ _ [k0 _,si n,si s,si t] h)=_
  rw [xa (Jk (s:=Wg) _ rfl),xa (Jk (s:=Wg) _ rfl),ja (w:= .i (Wf.joinM n s t)) (h1:=h) (Ja rfl (by simp! [W5 k n s t h a])),Ga _ _ _ rfl]
def V.iA (h:V n s g) (q:V n t f):V n (s &&& ((2 ^ (n*n)-1) ^^^ t)) λa b=>g a b&& !f a b:=⟨Ah6 Nat.and_le_left h.1,λa b i j=>by
 have k:=q.2 a b i j
 rw [Ah2,Nat.testBit_xor,Ag2,decide_eq_true (Wf.place_lt i j),Bool.true_xor,Aa0,Aa0,(h.2 a b i j)]
 constructor
 .rintro ⟨d,c⟩
  refine⟨d,?_⟩
  cases e:f a b with
  | false=>rfl
  | true=>rw [k.q e]at c;cases c
 .rintro ⟨d,c⟩
  refine⟨d,?_⟩
  cases e:t.j (a*n+b)with
  | false=>rfl
  | true=>rw [k.p e]at c;cases c⟩
def aR (N:Y0 Tx) (f:Tx->Nat×Nat):Y0 (Tx×D):=N.j λt=>(t,bc (f t).1 (f t).2)
theorem oz : ∀ {N},t∈N->(aR N f).p t=k0 (bc (f t).1 (f t).2)
 | y::N,h=>by
  show Ah1 t ((y,_)::aR N f)=_
  rw [Ab8]
  by_cases e:t=y
  .subst e;rw [beq_self_eq_true]
  .rw [beq_eq_false_iff_ne.q e]
   exact oz ((Ab7.p h).w e)
structure Dc (a b:Wo) (f:Tx->Nat×Nat) (r:Nat) (h:AH):Prop where
 ad:h[r]? =k0 (.p (aR (a.K++a.T) f))
 n4:a.n<=4
 lo: ∀t∈a.K++a.T,V a.n (f t).1 (bg a t)
 hi: ∀t∈a.K++a.T,V a.n (f t).2 (bg b t)
noncomputable abbrev kg (n r:Nat) (d:D) (s:Tx) (x5 b c a e:Y1 W):Sl:= [si n,k0 (.r r),sv d,k0 (.s s),si (2 ^ (n*n)-1),x5,b,c,a,e]
def xT (s) (a:Y0 Tx) (h):Gr .p (.s s) (.j (a.j .j)) h=k0 (y9 (s∈a)):=Wy s a (.j _) h rfl
section
variable {m n r:Nat}{h:AH}
def WT (d:n<=4) (z:execs (u9 m) (match az.j with | .j _ (.j _ r)=>r | r=>r) (kg n r (.q (.j s::ds)) s y0 y0 y0 y0 y0) h= .j w h) (b:Gw h.e (.j w h)= .j w h):call prog (m+1) "_law_bounds" [.i n,.r r,.t (.j s::ds)] h= .j w h:=by
 rw [Gb rfl _ _ _ rfl]
 simp only [az]at z ⊢
 have c:=j7 (n*n) (by have:=ji (show n<=20 by lia);lia)
 have a:((2 ^ (n*n):Nat):Int)-1=((2 ^ (n*n)-1:Nat):Int):=by
  have:=Ad4 (n*n)
  lia
 refine fx (by simp! [ae,Je];rfl) ?_
 rw [za (τ1:=kg n r (.q (.j s::ds)) s y0 y0 y0 y0 y0) (h1:=h) (by simp! [(Xd n n (by lia)),c,Qe,a]),z]
 exact b
def E2 (a:n<=4) (e:h[r]? =k0 (.p kvs)) (l:kvs.p t=k0 d):call prog (m+1) "_law_bounds" [.i n,.r r,.t [.j Jg,.j t]] h= .j (.v d) h:=by
 refine WT a ?_ (Ga _ _ _ rfl)
 simp only [az]
 have dd:GV h (k0 (.r r))=k0 (r,kvs):=by unfold GV;simp [e]
 have dg:fc (.s t) (k0 (r,kvs)) h=ao d h:=by unfold fc;simp [l]
 rw [we (w:= .v d) (Jk (s:=Jg) _ rfl) (Ja rfl (by simp! [dd,ae,Xg,dg]))]
def rW (b:n<=4) (i:(s==Jg)=k9) (g:s∈ [jf,Xn,wh]) (a:List.lookup s [(jf,Wf.bK n),(Xn,2 ^ (n*n)-1),(wh,0)]=k0 v):call prog (m+2) "_law_bounds" [.i n,.r r,.t [.j s]] h= .j (.v (bc v v)) h:=by
 refine WT b ?_ (Ga _ _ _ rfl)
 simp only [az]
 have f:Gn (u9 (m+1)) (.y .p .K (.u (.c (.j jf) (.j Xn) (.j wh)))) (kg n r (.q [.j s]) s y0 y0 y0 y0 y0) h= .j u0 h:=by
  have:=xT s [jf,Xn,wh] h
  simp only [Ab2,Ae9]at this
  simp! [this,decide_eq_true g]
 have j:gi [(jf,.i (Wf.bK n)),(Xn,.i (2 ^ (n*n)-1)),(wh,.v (.o 0))] (k0 (.s s)) h= .j (.i v) h:=by
  unfold gi
  simp only [Ab8,List.lookup_nil]at a ⊢
  cases d:s==jf with
  | true=>rw [d]at a;cases a;rfl
  | false=>
   rw [d]at a
   cases c:s==Xn with
   | true=>rw [c]at a;cases a;rfl
   | false=>
    rw [c]at a
    cases e:s==wh with
    | true=>rw [e]at a;cases a;rfl
    | false=>rw [e]at a;cases a
 rw [xa ((Jk _ rfl).j (by rw [i]))]
 rw [ja]
 refine(xu f).j ?_
 refine(za (by simp! [yk m n h b,j];rfl)).j ?_
 rw [ja (w:= .v (bc v v)) (h1:=h) (Ja rfl (by simp! []))]
def sP (a:a8 (.j s::ds) i=k0 d) (e:call prog m "_law_bounds" [.i n,.r r,.v d] h= .j (.v (bc v u)) h):eval (u9 m) (.p "_law_bounds" (.c .z .B (.A .J (.o i)))) (kg n r (.q (.j s::ds)) s x5 x6 x7 x8 x9) h= .j (.v (bc v u)) h:=by
 simp! [ae,a,e]
def rT (b:n<=4) (g:(s==Jg)=k9) (c:s∉ [jf,Xn,wh]) (e:call prog m "_law_bounds" [.i n,.r r,.v d] h= .j (.v (bc v u)) h)
 (z:execs (u9 m) (match az.j with | .j _ (.j _ (.j _ (.j _ (.j _ r))))=>r | r=>r) (kg n r (.q (.j s::d::ds)) s y0 (si v) (si u) y0 y0) h= .j w h) (f:Gw h.e (.j w h)= .j w h):call prog (m+1) "_law_bounds" [.i n,.r r,.t (.j s::d::ds)] h= .j w h:=by
 refine WT b ?_ f
 simp only [az]at z ⊢
 have a:Gn (u9 m) (.y .p .K (.u (.c (.j jf) (.j Xn) (.j wh)))) (kg n r (.q (.j s::d::ds)) s y0 y0 y0 y0 y0) h= .j k9 h:=by
  have:=xT s [jf,Xn,wh] h
  simp only [Ab2,Ae9]at this
  simp! [this,decide_eq_false c]
 rw [xa ((Jk _ rfl).j (by rw [g])),xa a]
 refine(za (by rw [exec,sP (Xr _ _ _) e,R.aw];rfl)).j ?_
 exact z
def NT (a:n<=4) (e:call prog (m+1) "_law_bounds" [.i n,.r r,.v d] h= .j (.v (bc v u)) h):call prog (m+2) "_law_bounds" [.i n,.r r,.t [.j xi,d]] h= .j (.v (bc (Wf.bL n v) (Wf.bL n u))) h:=by
 refine rT a rfl (by decide) e ?_ (Ga _ _ _ rfl)
 simp only [az]
 rw [we (w:= .v (bc (Wf.bL n v) (Wf.bL n u))) (Jk (s:=xi) _ rfl) (Ja rfl (by simp! [tP m n v h (by lia),tP m n u h (by lia)]))]
def FW (a:n<=4) (e:call prog (m+2) "_law_bounds" [.i n,.r r,.v d] h= .j (.v (bc v u)) h):call prog (m+3) "_law_bounds" [.i n,.r r,.t [.j Ji,d]] h= .j (.v (bc (cS n v n) (cS n u n))) h:=by
 refine rT a rfl (by decide) e ?_ (Ga _ _ _ rfl)
 simp only [az]
 rw [xa (Jk (s:=Ji) _ rfl),we (w:= .v (bc (cS n v n) (cS n u n))) (Jk (s:=Ji) _ rfl) (Ja rfl (by simp! [vF m n v h (by lia),vF m n u h (by lia)]))]
def vf (c:n<=4) (i:(s==Jg)=k9) (f:s∉ [jf,Xn,wh]) (h1:(s==xi)=k9) (a:(s==Ji)=k9) (e:call prog m "_law_bounds" [.i n,.r r,.v d] h= .j (.v (bc v u)) h) (b:call prog m "_law_bounds" [.i n,.r r,.v d'] h= .j (.v (bc v' u')) h)
 (z:execs (u9 m) (match az.j with | .j _ (.j _ (.j _ (.j _ (.j _ (.j _ (.j _ (.j _ r)))))))=>r | r=>r) (kg n r (.q [.j s,d,d']) s y0 (si v) (si u) (si v') (si u')) h= .j w h) (g:Gw h.e (.j w h)= .j w h):call prog (m+1) "_law_bounds" [.i n,.r r,.t [.j s,d,d']] h= .j w h:=by
 refine rT c i f e ?_ g
 simp only [az]at z ⊢
 rw [xa ((Jk _ rfl).j (by rw [h1])),xa ((Jk _ rfl).j (by rw [a]))]
 refine(za (by rw [exec,sP (XE _ _ _) b,R.aw];rfl)).j ?_
 exact z
def FN (c:n<=4) (e:call prog m "_law_bounds" [.i n,.r r,.v d] h= .j (.v (bc v u)) h) (b:call prog m "_law_bounds" [.i n,.r r,.v d'] h= .j (.v (bc v' u')) h):call prog (m+1) "_law_bounds" [.i n,.r r,.t [.j jq,d,d']] h= .j (.v (bc (v &&& ((2 ^ (n*n)-1) ^^^ u')) (u &&& ((2 ^ (n*n)-1) ^^^ v')))) h:=by
 refine vf c rfl (by decide) rfl rfl e b ?_ (Ga _ _ _ rfl)
 simp only [az]
 have a: ∀i j:Int,Gj .bxor i j=KB i j:=λ_ _=>rfl
 rw [we (w:= .v (bc (v &&& ((2 ^ (n*n)-1) ^^^ u')) (u &&& ((2 ^ (n*n)-1) ^^^ v')))) (Jk (s:=jq) _ rfl) (Ja rfl (by simp! [a,Nn,jc,Wc]))]
def rS (f:n<=4) (k:(s==Jg)=k9) (g:s∉ [jf,Xn,wh]) (h1:(s==xi)=k9) (a:(s==Ji)=k9) (i:(s==jq)=k9) (e:call prog m "_law_bounds" [.i n,.r r,.v d] h= .j (.v (bc v u)) h) (c:call prog m "_law_bounds" [.i n,.r r,.v d'] h= .j (.v (bc v' u')) h)
 (b:call prog m "_law_two" [.s s,.i n,.i v,.i v'] h= .j (.i x) h) (j:call prog m "_law_two" [.s s,.i n,.i u,.i u'] h= .j (.i y) h):call prog (m+1) "_law_bounds" [.i n,.r r,.t [.j s,d,d']] h= .j (.v (bc x y)) h:=by
 refine vf f k g h1 a e c ?_ (Ga _ _ _ rfl)
 simp only [az]
 rw [xa ((Jk _ rfl).j (by rw [i])),ja (w:= .v (bc x y)) (h1:=h) (Ja rfl (by simp! [b,j]))]
end
def Jl (P:Dc a b f r h): ∀ e m,e.j+4<=m->e.y (a.K++a.T)-> ∃v u,B a b e v u/\call prog m "_law_bounds" [.i a.n,.r r,.v (aY e)] h= .j (.v (bc v u)) h:=by
 have n4:=P.n4
 intro e
 induction e with
 | name t=>
  intro m g wf
  obtain⟨k,rfl⟩:=nk m 1 (by omega)
  exact⟨_,_,⟨P.lo t wf,P.hi t wf⟩,E2 n4 P.ad (oz wf)⟩
 | same=>
  intro m g wf
  obtain⟨k,rfl⟩:=nk m 2 (by omega)
  exact⟨_,_,⟨V.leaf.1,V.leaf.1⟩,rW n4 rfl (by decide) rfl⟩
 | all=>
  intro m g wf
  obtain⟨k,rfl⟩:=nk m 2 (by omega)
  exact⟨_,_,⟨V.leaf.2.1,V.leaf.2.1⟩,rW n4 rfl (by decide) rfl⟩
 | none=>
  intro m g wf
  obtain⟨k,rfl⟩:=nk m 2 (by omega)
  exact⟨_,_,⟨V.leaf.2.2,V.leaf.2.2⟩,rW n4 rfl (by decide) rfl⟩
 | turned c s=>
  intro m g wf
  simp only [Ex.dp]at g
  obtain⟨k,rfl⟩:=nk m 2 (by omega)
  obtain⟨v,u,q,e1⟩:=s (k+1) (by omega) wf
  exact⟨_,_,⟨q.j.B,q.p.B⟩,NT n4 e1⟩
 | closed c s=>
  intro m g wf
  simp only [Ex.dp]at g
  obtain⟨k,rfl⟩:=nk m 3 (by omega)
  obtain⟨v,u,q,e1⟩:=s (k+2) (by omega) wf
  exact⟨_,_,⟨q.j.w (yN q.j.1),q.p.w (yN q.p.1)⟩,FW n4 e1⟩
 | plus c d j l=>
  intro m g wf
  simp only [Ex.dp]at g
  obtain⟨k,rfl⟩:=nk m 3 (by omega)
  obtain⟨v,u,q,e1⟩:=j (k+2) (by omega) wf.1
  obtain⟨o,p,n,i⟩:=l (k+2) (by omega) wf.2
  exact⟨_,_,⟨q.j.plus n.j,q.p.plus n.p⟩,rS n4 rfl (by decide) rfl rfl rfl e1 i (xO k a.n v o h (by omega)).1.1 (xO k a.n u p h (by omega)).1.1⟩
 | less c d j l=>
  intro m g wf
  simp only [Ex.dp]at g
  obtain⟨k,rfl⟩:=nk m 3 (by omega)
  obtain⟨v,u,q,e1⟩:=j (k+2) (by omega) wf.1
  obtain⟨o,p,n,i⟩:=l (k+2) (by omega) wf.2
  exact⟨_,_,⟨q.j.iA n.p,q.p.iA n.j⟩,FN n4 e1 i⟩
 | both c d j l=>
  intro m g wf
  simp only [Ex.dp]at g
  obtain⟨k,rfl⟩:=nk m 3 (by omega)
  obtain⟨v,u,q,e1⟩:=j (k+2) (by omega) wf.1
  obtain⟨o,p,n,i⟩:=l (k+2) (by omega) wf.2
  exact⟨_,_,⟨q.j.both n.j,q.p.both n.p⟩,rS n4 rfl (by decide) rfl rfl rfl e1 i (xO k a.n v o h (by omega)).1.2 (xO k a.n u p h (by omega)).1.2⟩
 | joined c d j l=>
  intro m g wf
  simp only [Ex.dp]at g
  obtain⟨k,rfl⟩:=nk m 3 (by omega)
  obtain⟨v,u,q,e1⟩:=j (k+2) (by omega) wf.1
  obtain⟨o,p,n,i⟩:=l (k+2) (by omega) wf.2
  exact⟨_,_,⟨q.j.q n.j,q.p.q n.p⟩,rS n4 rfl (by decide) rfl rfl rfl e1 i (xO k a.n v o h (by omega)).2 (xO k a.n u p h (by omega)).2⟩
noncomputable def kW:Nat->Nat->Nat
 | 0,_=>0
 | L+1,v=>v % 2+kW L (v / 2)
theorem pe: ∀(L v),kW L v=((Aa7 L).Q v.j).e
 | 0,_=>rfl
 | L+1,v=>by
  rw [kW,pe L,Ah3,Al6,An5]
  have e:(v.j∘Nat.succ)=(v / 2).j:=by
   funext i
   exact Nat.testBit_succ v i
  rw [e]
  by_cases q:v % 2=1
  .rw [if_pos (by rw [Nat.testBit_zero,decide_eq_true q]),Aa6,Aa,q];omega
  .rw [if_neg (by rw [Nat.testBit_zero,decide_eq_false q];exact Ac2),Aa];omega
abbrev mD (v a:Nat):Sl:= [si v,si a]
theorem vM (h): ∀ L f v a,v<2 ^ L->L<f->GI (λτ h=>Gn F jn τ h) (λτ h=>execs F Wm τ h) f (mD v a) h= .p (mD 0 (a+kW L v)) h
 | L,0,v,a,_,b=>absurd b (Ag3 _)
 | L,f+1,v,a,c,b=>by
  have i:Gn F jn (mD v a) h= .j (y9 (0<v)) h:=by
   have:Gr .gt (.i v) (.v (.o 0)) h=k0 (y9 (0<v)):=by
    show k0 (y9 (0<(v:Int)))=_
    congr 1
    exact decide_eq_decide.q (by omega)
   unfold jn
   simp! [this]
  rw [GI,i,R.aw]
  by_cases q:0<v
  .cases L with
   | zero=>simp at c;omega
   | succ L=>
    have e:execs F Wm (mD v a) h= .p (mD (v / 2) (a+v % 2)) h:=by
     have g:Gj .w v 2=k0 ((v % 2:Nat):Int):=pq v 2 (by decide)
     have d:Gj .fdiv v 2=k0 ((v / 2:Nat):Int):=L5 v 2 (by decide) (by decide)
     unfold Wm
     simp! [g,d,Fz]
    rw [decide_eq_true q]
    simp only [e]
    rw [vM h L f (v / 2) (a+v % 2) (by rw [Nat.pow_succ]at c;omega) (by omega),kW,Nat.add_assoc]
  .have v0:v=0:=by omega
   subst v0
   have z:kW L 0=0:=by rw [pe];simp
   rw [decide_eq_false q,z]
   rfl
def XT (k L v) (h) (b:L<=16) (a:v<2 ^ L):call prog (k+1) "_law_many" [.i v] h= .j (.v (.o ((((List.range L).Q v.j).e:Nat):Int))) h:=by
 rw [Gb rfl _ _ _ rfl]
 simp only [wQ]
 rw [za rfl]
 rw [za (by rw [exec];exact vM h L 100000 v 0 a (by lia))]
 rw [ja rfl,Ga _ _ _ rfl,Am4,pe]
def W7 {F:Fx}{e:E}{τ:Sl}{h:AH}{b:Bool}(q:eval F e τ h= .j (.b b) h):eval F (.A (.u (.b .ak (.C k9))) (.Z .int (.j e .p))) τ h= .j (.v (aJ (wT k9 b))) h:=by
 have e1:eval F (.Z .int (.j e .p)) τ h= .j (.i b.j) h:=by
  rw [eval,Gf,q];rfl
 rw [eval,show eval F _ τ h= .j _ h from rfl,R.af,e1,R.af,JJ]
 cases b<;>rfl
def n5 {F:Fx}{τ:Sl}{i j:Nat}{ps:Y0 (Nat×Nat)}{h:AH}{o:Cp}(p:Nat->Bool) (k:ps.e<=4) (c:Gk F (.j .J) τ h= .j (ps.j pD) h) (b:Gi τ 1=si j) (f:i=0\/i=1) (a: ∀x:Nat,Gr o (.i x) (.i j) h=k0 (p x)):
 eval F (.L [0,1] k9 2 [1] (.j .J) k9 (.C u0) (.y o (.var i) .J)) τ h= .j (.j ((ps.j λq=>p (if i=0 then q.1 else q.2)).j .C)) h:=by
 rw [ql (h:=h) (ds:=ps.j pD) (λd=>match d with | .q [.o x,.o y]=> .C (p (if i=0 then x.j else y.j)) | d=>d) c (by rw [Gg,Aa];lia)]
 .simp [Function.comp_def,pD]
 .intro g e
  obtain⟨q,_,rfl⟩:=Ac.p e
  refine⟨[si (q.1),si (q.2),si j],?_,?_⟩
  .rw [Ab2,Ae9,b];rfl
  .obtain rfl | rfl:=f
   .exact⟨.b (p q.1),by simp! [a],by simp [pD]⟩
   .exact⟨.b (p q.2),by simp! [a],by simp [pD]⟩
def oT {F:Fx}{e:E}{a:Ss}{b:Ss}{τ:Sl}{h:AH}{x y:Bool}(c:eval F e τ h= .j (.b x) h) (z:execs F b τ h= .j (.v (aJ (wT k9 y))) h):execs F (.j (.r e (.C u0)) b) τ h= .j (.v (aJ (wT x y))) h:=by
 have t:Gn F e τ h= .j x h:=by rw [Gn,c,R.af];rfl
 cases x with
 | true=>exact ja ((xu t).j (ja rfl))
 | false=>rw [xa t];exact z
def KO (k j:Nat) (up:Bool){w:W}{ps:Y0 (Nat×Nat)}(h:AH) (e:ps.e<=4) (c: ∀a b:Y1 W,Gk (u9 k) (.j .J) [a,b,k0 w] h= .j (ps.j pD) h):
 call prog (k+1) "_law_ruled" [.b up,.i j,w] h= .j (.v (aJ (if up then wT ((ps.j (·.1)).K fun x=>decide (j<=x)) ((ps.j (·.2)).z fun x=>decide (x<j))else wT ((ps.j (·.2)).K fun x=>decide (x<=j)) ((ps.j (·.1)).z fun x=>decide (j<x))))) h:=by
 rw [Gb (d:=zy) rfl _ _ _ rfl]
 show Gw _ (execs _ _ [k0 _,si j,k0 w] h)=_
 simp only [zy,zz,jA,JA,Xy]
 have f:=Jz (n5 (F:=(u9 k)) (τ:= [k0 (.b up),si j,k0 w]) (i:=0) (λx=>decide _) e (c _ _) rfl (.p rfl) (λx=>tN j x h))
 have g:=jH (n5 (F:=(u9 k)) (τ:= [k0 (.b up),si j,k0 w]) (i:=1) (λx=>decide _) e (c _ _) rfl (.q rfl) (λx=>n6 j x h))
 have e2:=Jz (n5 (F:=(u9 k)) (τ:= [k0 (.b up),si j,k0 w]) (i:=1) (λx=>y9 (x<=j)) e (c _ _) rfl (.q rfl) (λx=>vH j x h))
 have e1:=jH (n5 (F:=(u9 k)) (τ:= [k0 (.b up),si j,k0 w]) (i:=0) (λx=>y9 (j<x)) e (c _ _) rfl (.p rfl) (λx=>hZ j x h))
 rw [pA]at f e2
 rw [oo]at g e1
 rw [An6,Ap4,An6,Ap4]
 cases up with
 | true=>
  rw [ja (w:= .v _) (h1:=h) ((xu (h1:=h) rfl).j (oT (a:= .p) f (ja (Ja rfl (W7 g))))),Ga _ _ _ rfl]
  rfl
 | false=>
  rw [xa rfl,oT (a:= .p) e2 (ja (Ja rfl (W7 e1))),Ga _ _ _ rfl]
  rfl
def yr (u v):y9 (u &&& v=u)=y9 (u-(u &&& v)=0):=by
 have:= @Nat.and_le_left u v
 exact decide_eq_decide.q (by lia)
def ur (i j) (h):Gr .q (.i i) (.i j) h=k0 (!y9 (i=j)):=by
 have this:=xn i j h
 exact congrArg (Option.map (!·)) this
def Io (k v u v' u') (h):call prog (k+1) "_law_within" [.v (bc v u),.v (bc v' u')] h= .j (.v (aJ (dF v u v' u'))) h:=by
 rw [Gb rfl _ _ _ rfl]
 simp only [JF]
 rw [oT (a:= .p) (x:=y9 (u &&& v'=u)) (y:= !y9 (v &&& u'=v)) (by simp! [ae,Wh,Xg,jc,Wc,xn]) (ja (Ja rfl (W7 (by simp! [ae,Wh,Xg,jc,Wc,ur])))),Ga _ _ _ rfl,dF,yr,yr]
abbrev mF (n r:Nat) (d:D) (s:Tx) (x4 x5 a b:Y1 W):Sl:= [si n,k0 (.r r),sv d,k0 (.s s),x4,x5,a,b]
def t6 (n v a):((Aa7 n).Q (v / 2 ^ (a*n) &&& (2 ^ n-1)).j).e=eX n (tb n v) a:=by
 rw [qu,eX]
 congr 1
 refine Ai1 λb c=> ?_
 rw [Af3,Ag8,decide_eq_true (Ab9.p c),Ae5,Ag9,Ap6]
section
variable {m n r:Nat}{h:AH}
def pS (B:n<=4) (J:s∈ [Qa,qc,xb,Qh]) (H:v<2 ^ (n*n)) (E:u<2 ^ (n*n)) (e:call prog (m+1) "_law_bounds" [.i n,.r r,.v x] h= .j (.v (bc v u)) h):
 execs (u9 (m+1)) (match br.j with | .j _ (.j _ r)=>r | r=>r) (mF n r (.q [.j s,.n j,x]) s y0 y0 y0 y0) h= .j (.v (aJ (JM s j (Xk n v s) (Xk n u s)))) h:=by
 have g:n*n<=16:=Af5 B B
 simp only [br]
 refine(za (by rw [exec];simp! [ae,XE,e];rfl)).j ?_
 have y:Gn (u9 (m+1)) (.or (.y .j .K (.j Qa)) (.y .j .K (.j qc))) (mF n r (.q [.j s,.n j,x]) s (si v) (si u) y0 y0) h= .j (s==Qa||s==qc) h:=by
  rw [Gn,lF (a:=s==Qa) (b:=s==qc) (by simp! [wb]) (by simp! [wb]),R.af];rfl
 have i: ∀(w:W) (p:Y0 (Nat×Nat)) (X:Tx),p.e<=4->(∀ a b:Y1 W,Gk (u9 m) (.j .J) [a,b,k0 w] h= .j (p.j pD) h)->call prog _ "_law_ruled" [.b _,.i j,w] h= .j _ h:=fun w p X d G=>KO m j (s==X) h d G
 have up:(s∈ [Qa,xb])↔(s==Qa)=u0\/(s==xb)=true:=by simp
 by_cases c:(s==Qa||s==qc)=u0
 .have f:s∈ [Qa,qc]:=by simpa using c
  have ne:(s==xb)=false:=by
   have: ∀s∈ [Qa,qc],(s==xb)=false:=by decide
   exact this s f
  have k:=i (.p [bc (XC n v).X (XC n u).X]) [((XC n v).X,(XC n u).X)] Qa (by simp) (λa b=>rfl)
  have t:call prog (m+1) "_law_many" [.i v] h= .j (.i ((XC n v).X)) h:=by rw [XT m _ v h g H,QG n v n,XC]
  have o:call prog (m+1) "_law_many" [.i u] h= .j (.i ((XC n u).X)) h:=by rw [XT m _ u h g E,QG n u n,XC]
  rw [ja (w:= .v (aJ (JM s j (Xk n v s) (Xk n u s)))) (h1:=h)]
  refine(xu (h1:=h) (by rw [y,c])).j (ja (Ja rfl ?_))
  rw [JM,Xk,Xk,if_pos f,if_pos f]
  simp! [wb,ae,Xr,t,o,k]
  have iff:(s∈ [Qa,xb])↔(s==Qa)=true:=up.j (by rw [ne];simp)
  by_cases q:s∈ [Qa,xb]
  .rw [if_pos q,if_pos (iff.p q)]
  .rw [if_neg q,if_neg λz=>q (iff.q z)]
 .have l:(s==Qa||s==qc)=false:=by simpa using c
  have f:s∉ [Qa,qc]:=by simpa using c
  have ne:(s==Qa)=false:=by
   rw [Bool.or_eq_false_iff]at l
   exact l.1
  rw [xa (by rw [y,l])]
  have F:=j7 n (by omega)
  have d:((2 ^ n:Nat):Int)-1=((2 ^ n-1:Nat):Int):=by
   have:=Ad4 n
   omega
  refine(za (by simp! [F,Qe,d];rfl)).j ?_
  have D:eval (u9 (m+1)) qt (mF n r (.q [.j s,.n j,x]) s (si v) (si u) (si (2 ^ n-1)) y0) h= .j (.j (((XC n v).Z (XC n u)).j pD)) h:=by
   unfold qt
   rw [Wt (n:=n) (λa=>bc (eX n (tb n v) a) (eX n (tb n u) a)) rfl (by omega) λa I=>⟨.v _,?_,rfl⟩]
   .rw [XC,XC,List.zip_map',Ae];rfl
   .have C:Gj .q (a:Int) (n:Int)=k0 _:=Xd a n (by omega)
    have lt: ∀w:Nat,(w / 2 ^ (a*n) &&& (2 ^ n-1))<2 ^ n:=λw=>by rw [Af3];exact Aj4 _ (Ad4 n)
    have t:call prog (m+1) "_law_many" [.i (v / 2 ^ (a*n) &&& (2 ^ n-1))] h= .j (.i (eX n (tb n v) a)) h:=by rw [XT m n _ h (by omega) (lt v),t6]
    have o:call prog (m+1) "_law_many" [.i (u / 2 ^ (a*n) &&& (2 ^ n-1))] h= .j (.i (eX n (tb n u) a)) h:=by rw [XT m n _ h (by omega) (lt u),t6]
    simp! [C,jp,jc,Wc,t,o]
  have A:(XC n v).e=(XC n u).e:=by simp [XC]
  have k:=i (.l (((XC n v).Z (XC n u)).j pD)) ((XC n v).Z (XC n u)) xb (by rw [Al9];simp [XC];omega) (λa b=>rfl)
  rw [List.map_fst_zip (Al3 A),List.map_snd_zip (Al3 A.p)]at k
  refine(za (by rw [exec,D];rfl)).j ?_
  rw [ja (w:= .v (aJ (JM s j (Xk n v s) (Xk n u s)))) (h1:=h)]
  refine Ja rfl ?_
  rw [JM,Xk,Xk,if_neg f,if_neg f]
  simp! [wb,ae,Xr,k]
  have iff:(s∈ [Qa,xb])↔(s==xb)=true:=up.j (by rw [ne];simp)
  by_cases q:s∈ [Qa,xb]
  .rw [if_pos q,if_pos (iff.p q)]
  .rw [if_neg q,if_neg λz=>q (iff.q z)]
def Me (f:n<=4) (d:s∈ [Qa,qc,xb,Qh]) (i:v<2 ^ (n*n)) (g:u<2 ^ (n*n)) (e:call prog (m+1) "_law_bounds" [.i n,.r r,.v x] h= .j (.v (bc v u)) h):call prog (m+2) "_law_fact" [.i n,.r r,.t [.j s,.n j,x]] h= .j (.v (aJ (JM s j (Xk n v s) (Xk n u s)))) h:=by
 have z:=pS (j:=j) f d i g e
 rw [Gb rfl _ _ _ rfl]
 simp only [br]at z ⊢
 have c:=by
  have: ∀s∈ [Qa,qc,xb,Qh],(s==Xj)=k9/\(s==w5)=false:=by decide
  exact this s d
 refine fx (by simp! [Je];rfl) ?_
 rw [xa (by rw [Gn,lF (a:=s==Xj) (b:=s==w5) (by simp! [wb]) (by simp! [wb]),R.af,c.1,c.2];rfl),z,Ga _ _ _ rfl]
def tL {b:Bool}(a:n<=4) (f:v<2 ^ (n*n)) (c:u<2 ^ (n*n)) (e:call prog (m+1) "_law_bounds" [.i n,.r r,.v x] h= .j (.v (bc v u)) h):call prog (m+2) "_law_fact" [.i n,.r r,.t [.j (if b then Xj else w5),x]] h= .j (.v (aJ (JM (if b then Qa else qc) b.j (Xk n v (if b then Qa else qc)) (Xk n u (if b then Qa else qc))))) h:=by
 cases b with
 | true=>
  have z:=pS (s:=Qa) (j:=1) a (by decide) f c e
  rw [Gb rfl _ _ _ rfl]
  simp only [br]at z ⊢
  refine fx (by simp! [ae,Je];rfl) ?_
  rw [za (τ1:=mF n r (.q [.j Qa,.n (1),x]) Qa y0 y0 y0 y0) rfl,z,Ga _ _ _ rfl]
  rfl
 | false=>
  have z:=pS (s:=qc) (j:=0) a (by decide) f c e
  rw [Gb (d:=br) rfl _ _ _ rfl]
  simp only [br]at z ⊢
  refine fx (by simp! [ae,Je];rfl) ?_
  rw [za (τ1:=mF n r (.q [.j qc,.n (0),x]) qc y0 y0 y0 y0) (h1:=h) rfl,z,Ga _ _ _ rfl]
  rfl
end
abbrev hO (n r:Nat) (d:D) (s:Tx) (x4 x5 a:Y1 W):Sl:= [si n,k0 (.r r),sv d,k0 (.s s),x4,x5,a]
def CU (b) (p q) (h):Gr .p (.b b) (.l [aJ p,aJ q]) h=k0 (p==k0 b||q==k0 b):=by
 cases b<;>rcases p with _ | _ | _<;>rcases q with _ | _ | _<;>rfl
def IK (p q) (h):Gr .p (.v .Q) (.l [aJ p,aJ q]) h=k0 (p==y0||q==y0):=by
 rcases p with _ | _ | _<;>rcases q with _ | _ | _<;>rfl
def Iq (b) (p q:Y1 Bool) (c:(p==k0 b||q==k0 b)=u0):k0 b=if b then fQ p q else eP p q:=by
 cases b<;>rcases p with _ | _ | _<;>rcases q with _ | _ | _<;>first | rfl | cases c
def C9 (b) (p q:Y1 Bool) (a:(p==k0 b||q==k0 b)=k9) (c:(p==y0||q==y0)=u0):y0=if b then fQ p q else eP p q:=by
 cases b<;>rcases p with _ | _ | _<;>rcases q with _ | _ | _<;>first | rfl | exact absurd a (by decide) | exact absurd c (by decide)
def DC (b) (p q) (a:(p==k0 b||q==k0 b)=k9) (c:(p==y0||q==y0)=k9):k0 (!b)=if b then fQ p q else eP p q:=by
 cases b<;>rcases p with _ | _ | _<;>rcases q with _ | _ | _<;>first | rfl | exact absurd a (by decide) | exact absurd c (by decide)
section
variable {m n r:Nat}{h:AH}
def wz (z:execs (u9 m) (match bf.j with | .j _ r=>r | r=>r) (hO n r (.q (.j s::ds)) s y0 y0 y0) h= .j (.v d) h):call prog (m+1) "_law_told" [.i n,.r r,.t (.j s::ds)] h= .j (.v d) h:=by
 rw [Gb rfl _ _ _ rfl]
 simp only [bf]at z ⊢
 rw [za (τ1:=hO n r (.q (.j s::ds)) s y0 y0 y0) (h1:=h) (by simp! [ae,Je]),z,Ga _ _ _ rfl]
def Cu (e:call prog m "_law_told" [.i n,.r r,.v x] h= .j (.v (aJ p)) h):call prog (m+1) "_law_told" [.i n,.r r,.t [.j QK,x]] h= .j (.v (aJ (p.j (!·)))) h:=by
 refine wz ?_
 simp only [bf]
 rw [ja]
 refine(xu (Jk (s:=QK) _ rfl)).j ?_
 refine(za (by simp! [ae,Xr,e];rfl)).j ?_
 cases p with
 | none=>exact ja ((xu rfl).j (ja rfl))
 | some b=>
  rw [xa rfl]
  exact ja (Ja rfl (by simp! [];rfl))
def Lm (a:call prog m "_law_told" [.i n,.r r,.v x] h= .j (.v (aJ p)) h) (b:call prog m "_law_told" [.i n,.r r,.v y] h= .j (.v (aJ q)) h):eval (u9 m) Xq (hO n r d s x4 (some (.l [x,y])) none) h= .j (.j [aJ p,aJ q]) h:=by
 exact j5 rfl (by assumption) (by assumption)
def yd (f:call prog m "_law_told" [.i n,.r r,.v x] h= .j (.v (aJ p)) h) (g:call prog m "_law_told" [.i n,.r r,.v y] h= .j (.v (aJ q)) h):execs (u9 m) (.d (.ag 6 Xq) (.r (.y .p (.y .j .K (.j xA)) .v6) (.y .j .K (.j xA))) (.r (.y .p .ak .v6) .ak) (.ret (.y .q .K (.j xA)))) (hO n r d s none (some (.l [x,y])) none) h= .j (.v (aJ (if s==xA then fQ p q else eP p q))) h:=by
 rw [za (τ1:=hO n r d s y0 _ _) (by rw [exec,Lm f g];rfl)]
 have c:Gn (u9 m) (.y .p (.y .j .K (.j xA)) .v6) (hO n r d s y0 (k0 (.l [x,y])) (k0 (.l [aJ p,aJ q]))) h= .j (p==k0 (s==xA)||q==k0 (s==xA)) h:=by
  simp! [wb,CU]
 have e:Gn (u9 m) (.y .p .ak .v6) (hO n r d s y0 (k0 (.l [x,y])) (k0 (.l [aJ p,aJ q]))) h= .j (p==y0||q==y0) h:=by
  simp! [IK]
 have ne:Gr .q (.s s) (.s xA) h=k0 (!(s==xA)):=by
  have this:=wb s xA h
  exact congrArg (Option.map (!·)) this
 cases a:(p==k0 _||q==k0 _)with
 | true=>
  rw [we (w:= .b (s==xA)) (by rw [c,a]) (Ja rfl (by simp! [wb]))]
  rw [← Iq _ p q a]
  rfl
 | false=>
  rw [xa (by rw [c,a])]
  cases b:(p==y0||q==y0)with
  | true=>
   rw [we (by rw [e,b]) rfl]
   rw [← C9 _ p q a b]
   rfl
  | false=>
   rw [xa (by rw [e,b]),ja (w:= .b (!(s==xA))) (h1:=h) (Ja rfl (by simp! [ne]))]
   rw [← DC _ p q a b]
   rfl
def m3 :Gn (u9 m) (.y .p .K (.u (.c (.j Wx) (.j xA) (.j zc)))) (hO n r d s y0 y0 y0) h= .j (y9 (s∈ [Wx,xA,zc])) h:=by
 have:=xT s [Wx,xA,zc] h
 simp only [Ab2,Ae9]at this
 simp! [this]
def y6 (b:(s==QK)=k9) (e:s∈ [Wx,xA,zc]) (a:(s==zc)=k9) (c:call prog m "_law_told" [.i n,.r r,.v x] h= .j (.v (aJ p)) h) (d:call prog m "_law_told" [.i n,.r r,.v y] h= .j (.v (aJ q)) h):call prog (m+1) "_law_told" [.i n,.r r,.t [.j s,x,y]] h= .j (.v (aJ (if s==xA then fQ p q else eP p q))) h:=by
 refine wz ?_
 simp only [bf]
 rw [xa ((Jk _ rfl).j (by rw [b])),ja]
 refine(xu (by rw [m3,decide_eq_true e])).j ?_
 refine(za (by simp! [XE];rfl)).j ?_
 rw [xa ((Jk _ rfl).j (by rw [a]))]
 exact yd c d
def Ey (a:call prog m "_law_told" [.i n,.r r,.t [.j XG,x,y]] h= .j (.v (aJ p)) h) (b:call prog m "_law_told" [.i n,.r r,.t [.j XG,y,x]] h= .j (.v (aJ q)) h):call prog (m+1) "_law_told" [.i n,.r r,.t [.j zc,x,y]] h= .j (.v (aJ (eP p q))) h:=by
 refine wz ?_
 simp only [bf]
 rw [xa (Jk (s:=zc) _ rfl),ja]
 refine(xu (by rw [m3];rfl)).j ?_
 refine(za (by simp! [XE];rfl)).j ?_
 rw [za ((xu (Jk (s:=zc) _ rfl)).j (by
  rw [za (τ1:=hO n r (.q [.j zc,x,y]) zc y0 (k0 (.l [.q [.j XG,x,y],.q [.j XG,y,x]])) y0) (h1:=h) (by simp! [ae,Xr,XE]),execs]))]
 exact yd a b
def rk (a:call prog (m+1) "_law_bounds" [.i n,.r r,.v x] h= .j (.v (bc v u)) h) (b:call prog (m+1) "_law_bounds" [.i n,.r r,.v y] h= .j (.v (bc v' u')) h):call prog (m+2) "_law_told" [.i n,.r r,.t [.j XG,x,y]] h= .j (.v (aJ (dF v u v' u'))) h:=by
 refine wz ?_
 simp only [bf]
 rw [xa (Jk (s:=XG) _ rfl),xa (by rw [m3];rfl),we (w:= .v (aJ (dF v u v' u'))) (Jk (s:=XG) _ rfl) (Ja rfl (by simp! [ae,Xr,XE,a,b,Io]))]
def Q7 (h1:(s==QK)=k9) (a:s∉ [Wx,xA,zc]) (b:(s==XG)=k9) (e:call prog m "_law_fact" [.i n,.r r,.t (.j s::ds)] h= .j (.v d) h):call prog (m+1) "_law_told" [.i n,.r r,.t (.j s::ds)] h= .j (.v d) h:=by
 refine wz ?_
 simp only [bf]
 rw [xa ((Jk _ rfl).j (by rw [h1])),xa (by rw [m3,decide_eq_false a]),xa ((Jk _ rfl).j (by rw [b])),ja (w:= .v d) (h1:=h) (Ja rfl (by assumption))]
end
def A3 (P:Dc a b f r h): ∀ s m,s.j+8<=m->s.y (a.K++a.T)-> ∃q,Td a b s q/\call prog m "_law_told" [.i a.n,.r r,.v (aQ s)] h= .j (.v (aJ q)) h:=by
 have n4:=P.n4
 intro s
 induction s with
 | fact f=>
  intro m c wf
  simp only [Sy.dp]at c
  cases f with
  | dW x y=>
   simp only [Fc.dp]at c
   obtain⟨k,rfl⟩:=nk m 2 (by lia)
   obtain⟨v,u,q,e⟩:=Jl P x (k+1) (by lia) wf.1
   obtain⟨l,w,o,d⟩:=Jl P y (k+1) (by lia) wf.2
   exact⟨_,⟨v,u,l,w,q,o,rfl⟩,rk e d⟩
  | eA x y=>
   simp only [Fc.dp]at c
   obtain⟨k,rfl⟩:=nk m 3 (by lia)
   obtain⟨v,u,q,e⟩:=Jl P x (k+1) (by lia) wf.1
   obtain⟨l,w,o,d⟩:=Jl P y (k+1) (by lia) wf.2
   exact⟨_,⟨v,u,l,w,q,o,rfl⟩,Ey (rk e d) (rk d e)⟩
  | d8 x=>
   simp only [Fc.dp]at c
   obtain⟨k,rfl⟩:=nk m 3 (by lia)
   obtain⟨v,u,q,e⟩:=Jl P x (k+1) (by lia) wf
   exact⟨_,⟨v,u,q,rfl⟩,Q7 rfl (by decide) rfl (tL (b:=u0) n4 q.j.1 q.p.1 e)⟩
  | ak x=>
   simp only [Fc.dp]at c
   obtain⟨k,rfl⟩:=nk m 3 (by lia)
   obtain⟨v,u,q,e⟩:=Jl P x (k+1) (by lia) wf
   exact⟨_,⟨v,u,q,rfl⟩,Q7 rfl (by decide) rfl (tL (b:=k9) n4 q.j.1 q.p.1 e)⟩
  | cnt s j x=>
   simp only [Fc.dp]at c
   obtain⟨k,rfl⟩:=nk m 3 (by lia)
   obtain⟨v,u,q,e⟩:=Jl P x (k+1) (by lia) wf.2
   have A: ∀s∈ [Qa,qc,xb,Qh],(s==QK)=k9/\s∉ [Wx,xA,zc]/\(s==XG)=false:=by decide
   obtain⟨z,B,C⟩:=A s wf.1
   exact⟨_,⟨v,u,q,rfl⟩,Q7 z B C (Me n4 wf.1 q.j.1 q.p.1 e)⟩
 | neg x D=>
  intro m c wf
  simp only [Sy.dp]at c
  obtain⟨k,rfl⟩:=nk m 1 (by lia)
  obtain⟨q,t,e⟩:=D k (by lia) wf
  exact⟨_,⟨q,t,rfl⟩,Cu e⟩
 | cF x y g i=>
  intro m c wf
  simp only [Sy.dp]at c
  obtain⟨k,rfl⟩:=nk m 1 (by lia)
  obtain⟨p,t,e⟩:=g k (by lia) wf.1
  obtain⟨q,n,d⟩:=i k (by lia) wf.2
  exact⟨_,⟨p,q,t,n,rfl⟩,y6 (s:=Wx) rfl (by decide) rfl e d⟩
 | cE x y g i=>
  intro m c wf
  simp only [Sy.dp]at c
  obtain⟨k,rfl⟩:=nk m 1 (by lia)
  obtain⟨p,t,e⟩:=g k (by lia) wf.1
  obtain⟨q,n,d⟩:=i k (by lia) wf.2
  exact⟨_,⟨p,q,t,n,rfl⟩,y6 (s:=xA) rfl (by decide) rfl e d⟩
abbrev ai (ns:Y0 Int) (i:Nat) (v:Int):Cell:= .u [.u (ns.j .o),.n i,.o v]
def Fg:Gj .pow 10 18=k0 1000000000000000000:=by
 have:(0:Int)<=18/\ 18<=BP/\(10:Int).p<lG:=by rw [Kd,GC];decide
 show(if _ then _ else _)=_
 rw [if_pos this]
 rfl
def EC (v)(e:eval F (.A .z (.o 2)) τ h= .j (.v (.o v)) h):Gn F (.not (.chain .le .lt (.o 0) (.A .z (.o 2)) (.w .pow (.o 10) (.o 18)))) τ h= .j (!(y9 (0<=v)&&y9 (v<1000000000000000000))) h:=by
 rw [Gn,eval]
 rw [show eval F _ τ h= .j (.b (y9 (0<=v)&&y9 (v<1000000000000000000))) h by
  rw [eval,eval,R.af,e,R.af]
  by_cases q: 0<=v
  .simp! [j6,Z1,Fg,q,decide_true,Ae5]
  .simp! [j6,q,decide_false,Ae4]]
 simp! []
def Zf (k:Nat){ns:Y0 Int}{i:Nat}{v:Int}{h:AH}{r m:Nat}(e:h[r]? =k0 (ai ns i v)) (C:0<m) (G:m<1073741824):
 ∃(d:Nat) (g:Int),d<m/\call prog (k+1) "_law_draw" [.r r,.i m] h= .j (.i d) (h.w r (ai ns i g)):=by
 rw [Gb (d:=zE) rfl _ _ _ rfl]
 have a:(0:Int)<(m:Int):=by omega
 have z:r<h.e:=(Aa1.p e).1
 have i2:eval (u9 k) (.A .z (.o 2)) [k0 (.r r),si m,y0] h= .j (.v (.o v)) h:=by simp! [xq e,J6]
 have j:=EC v i2
 show ∃d g,_/\Gw _ (execs _ _ [k0 (.r r),si m,y0] h)=_
 simp only [zE]
 have l: ∀x:Int,∃d:Nat,d<m/\x % (m:Int)=(d:Int):=λx=>⟨(x % (m:Int)).j,by have:=Ap1 x a;have:=Ao0 x (Int.ne_of_gt a);omega,by have:=Ao0 x (Int.ne_of_gt a);omega⟩
 cases c:(y9 (0<=v)&&y9 (v<1000000000000000000))with
 | false=>
  obtain⟨d,b,f⟩:=l v
  refine⟨d,v / (m:Int),b,?_⟩
  have q:dZ .divmod [.v (.o v),.i m] h=ao (.q [.o (v / (m:Int)),.n d]) h:=by
   rw [Z8,if_pos ⟨a,by rw [GS];omega⟩,f]
  rw [ja (w:= .i d) (h1:=h.w r (ai ns i (v / (m:Int))))]
  .exact Ga _ h _ (by rw [Ad3])
  refine(xu (h1:=h) (by rw [j,c];rfl)).j ?_
  refine(za (by
   rw [exec,show eval (u9 k) (.Z .divmod (.b (.A .z (.o 2)) .B)) [k0 (.r r),si m,y0] h=ao (.q [.o (v / (m:Int)),.n d]) h by simp! [xq e,J6,q]]
   simp! [ao,fY,Ks,e,BS,Ko,if_true]
   rfl)).j ?_
  exact ja rfl
 | true=>
  rw [Aa0,decide_eq_true_eq,decide_eq_true_eq]at c
  have B:Gj .q v 742939=k0 (v*742939):=J7 _ _ (by decide)
  have y:Gj .q (i:Int) 65063=k0 ((i:Int)*65063):=J7 _ _ (by decide)
  have o:Gj .w (v*742939+(i:Int)*65063+40503) 16777213=k0 ((v*742939+(i:Int)*65063+40503) % 16777213):=jJ _ _ (by decide)
  have u:=Ao0 (v*742939+(i:Int)*65063+40503) (show (16777213:Int)≠0 by decide)
  have s:=Ap1 (v*742939+(i:Int)*65063+40503) (show (0:Int)<16777213 by decide)
  generalize F:(v*742939+(i:Int)*65063+40503) % 16777213=w at o u s
  have i1:eval (u9 k) (.A .z (.o 1)) [k0 (.r r),si m,y0] h= .j (.i i) h:=by simp! [xq e,JU]
  have e2:(h.w r (ai ns i w))[r]? =k0 (ai ns i w):=Ab6 z
  obtain⟨d,b,f⟩:=l (w*(w % 4093+7) / 64)
  refine⟨d,w,b,?_⟩
  rw [xa (by rw [j,decide_eq_true c.1,decide_eq_true c.2];rfl)]
  rw [za (τ1:= [k0 (.r r),si m,y0]) (h1:=h.w r (ai ns i w)) (QA (d:= .o w) (xs:= [.u (ns.j .o),.n i,.o v]) (n:=2) (by
   simp! [xq e,JU,J6,B,y,Zc,o]) rfl e rfl rfl rfl)]
  have D:=Ao0 w (show (4093:Int)≠0 by decide)
  have E:=Ap1 w (show (0:Int)<4093 by decide)
  have A:Gj .w w 4093=k0 (w % 4093):=jJ _ _ (by decide)
  have p:Gj .q w (w % 4093+7)=k0 (w*(w % 4093+7)):=J7 _ _ (by omega)
  have t:Gj .fdiv (w*(w % 4093+7)) 64=k0 (w*(w % 4093+7) / 64):=AB _ _ (by decide) (by decide)
  have n4:Gj .w (w*(w % 4093+7) / 64) (m:Int)=k0 ((d:Nat):Int):=by rw [jJ _ _ a,f]
  rw [ja (w:= .i d) (h1:=h.w r (ai ns i w)) (Ja rfl (by simp! [xq e2,J6,A,Zc,p,t,n4]))]
  exact Ga _ h _ (by rw [Ad3])
def yw {ns:Y0 Int}(b:ns.e<=63) (q:eval F e τ h= .j (.l (ns.j .o)) h): ∃s,eval F (.Z .sum (.a (.gA e (.o j)))) τ h= .j (.v (.o s)) h:=by
 have a:(cut ns y0 (k0 j)).e<=bp:=by
  have:=DS ns y0 (k0 j)
  rw [Gg];lia
 refine⟨(cut ns y0 (k0 j)).X,?_⟩
 simp! [q,sQ,Nf,A7,JZ,Aa,a,if_true]
def La (k) (ns:Y0 Int) (a:ns.e<=63) (h): ∃v,call prog (k+1) "_law_start" [.l (ns.j .o)] h= .j (.j [.u (ns.j .o),.n (0),.o v]) h:=by
 show ∃v,Gw _ (execs _ _ [k0 _] h)=_
 obtain⟨s,e⟩:=yw (F:=(u9 k)) (e:= .var 0) (τ:= [k0 (.l (ns.j .o))]) (h:=h) (j:=1) a (by simp! [])
 refine⟨s,?_⟩
 simp only [zI]
 rw [ja (w:= .j [.u (ns.j .o),.n (0),.o s]) (h1:=h) (Zx rfl (by
  generalize E.bi _ _=X at e ⊢
  simp! [e]
  rfl)),Gv _ _ _ rfl]
def sy (k)(o:ns.e<=63) (e:h[r]? =k0 (ai ns i v)):
 ∃v':Int,call prog (k+1) "_law_turn" [.r r] h= .j (.v .Q) (h.w r (ai ns (i+1) v')):=by
 rw [Gb rfl _ _ _ rfl]
 have f:r<h.e:=(Aa1.p e).1
 have e1:(h.w r (ai ns (i+1) v))[r]? =k0 _:=Ab6 f
 show ∃v',Gw _ (execs _ _ [k0 _] h)=_
 simp only [ZN]
 obtain⟨s,c⟩:=yw (F:=(u9 k)) (e:= .A .z (.o 0)) (τ:= [k0 (.r r)]) (h:=h.w r (ai ns (i+1) v)) o (by simp! [xq e1,mq])
 have m:Gj .q 7 _=k0 (7*((i+1:Nat):Int)):=Lu _ _ (by decide)
 have j: ∀x:Int,Gj .w x 16777213=k0 _:=λx=>jJ _ _ (by decide)
 have a: ∀x y,(h.w r (ai ns (i+1) x)).w r _=h.w r (ai ns (i+1) y):=λx y=>Ae1 ..
 have i1:((i:Int)+1)=((i+1:Nat):Int):=rfl
 generalize l:(7*((i+1:Nat):Int)+s) % 16777213=w
 have e2:(h.w r (ai ns (i+1) w))[r]? =k0 _:=Ab6 f
 rw [za (h1:=h.w r (ai ns (i+1) v)) (QA (d:= .n (i+1)) (xs:= [.u (ns.j .o),.n i,.o v]) (n:=1) (by simp! [xq e,JU,Zc,i1]) rfl e rfl rfl rfl)]
 rw [za (τ1:= [k0 (.r r)]) (h1:=h.w r (ai ns (i+1) w)) (QA (d:= .o w) (xs:= [.u (ns.j .o),.n (i+1),.o v]) (n:=2) (by
  generalize E.bi _ _=X at c ⊢
  simp! [c,xq e1,JU,m,Zc,j,l]) rfl e1 rfl rfl (a v w).p)]
 have g:Gn (u9 k) (.y .lt (.A .z (.o 1)) (.Z .y (.a (.A .z (.o 0))))) [k0 (.r r)] (h.w r (ai ns (i+1) w))= .j (y9 (i+1<ns.e)) (h.w r (ai ns (i+1) w)):=by
  have:(y9 (((i+1:Nat):Int)<(ns.e:Int)))=y9 (i+1<ns.e):=decide_eq_decide.q (by omega)
  simp! [xq e2,JU,mq,QC,ao,Aa,Z1,this]
 by_cases q:i+1<ns.e
 .refine⟨ns[i+1],?_⟩
  have b:a8 (ns.j D.int) ((i+1:Nat):Int)=k0 (.o ns[i+1]):=by
   rw [Wd _ _ (by rw [Aa];exact q),Ac1,Aa4 q];rfl
  rw [za (τ1:= [k0 (.r r)]) (h1:=h.w r (ai ns (i+1) ns[i+1])) ((xu (h1:=h.w r (ai ns (i+1) w)) (by rw [g,decide_eq_true q])).j (by
   rw [za (τ1:= [k0 (.r r)]) (h1:=h.w r (ai ns (i+1) ns[i+1])) (QA (d:= .o ns[i+1]) (xs:= [.u (ns.j .o),.n (i+1),.o w]) (n:=2) (by
    simp! [xq e2,mq,JU,Zq,b]) rfl e2 rfl rfl (a w _).p),execs]))]
  rw [execs]
  exact GA _ h _ (by rw [Ad3])
 .refine⟨w,?_⟩
  rw [xa (by rw [g,decide_eq_false q]),execs]
  exact GA _ h _ (by rw [Ad3])
def V.uniq (h:V n v g) (q:V n w g):v=w:=Wf.eJ h.lt q.lt λk a=>by
 have c:=h.2 _ _ (Wf.bh a) (Wf.a9 a)
 have b:=q.2 _ _ (Wf.bh a) (Wf.a9 a)
 rw [Wf.bw]at c b
 rw [Bool.eq_iff_iff,c,b]
theorem B.uniq (h:B a b e v u) (q:B a b e v' u'):v=v'/\u=u':=⟨h.j.uniq q.j,h.p.uniq q.p⟩
theorem gO.uniq (h:gO a b f p) (k:gO a b f q):p=q:=by
 cases f with
 | dW x y=>
  obtain⟨v,u,i,n,c,e,rfl⟩:=h
  obtain⟨w,t,m,l,d,g,rfl⟩:=k
  obtain⟨rfl,rfl⟩:=c.uniq d
  obtain⟨rfl,rfl⟩:=e.uniq g
  rfl
 | eA x y=>
  obtain⟨v,u,i,n,c,e,rfl⟩:=h
  obtain⟨w,t,m,l,d,g,rfl⟩:=k
  obtain⟨rfl,rfl⟩:=c.uniq d
  obtain⟨rfl,rfl⟩:=e.uniq g
  rfl
 | d8 x=>
  obtain⟨v,u,c,rfl⟩:=h
  obtain⟨w,t,d,rfl⟩:=k
  obtain⟨rfl,rfl⟩:=c.uniq d
  rfl
 | ak x=>
  obtain⟨v,u,c,rfl⟩:=h
  obtain⟨w,t,d,rfl⟩:=k
  obtain⟨rfl,rfl⟩:=c.uniq d
  rfl
 | cnt s j x=>
  obtain⟨v,u,c,rfl⟩:=h
  obtain⟨w,t,d,rfl⟩:=k
  obtain⟨rfl,rfl⟩:=c.uniq d
  rfl
theorem Td.uniq : ∀ {s}{p q},Td a b s p->Td a b s q->p=q
 | .p _,_,_,h,k=>gO.uniq h k
 | .neg _,_,_,z7,z8=>by obtain⟨p,h,e⟩:=z7;obtain⟨q,k,c⟩:=z8;rw [e,c,Td.uniq h k]
 | .cF _ _,_,_,z7,z8=>by obtain⟨p,q,h,f,e⟩:=z7;obtain⟨g,i,k,d,c⟩:=z8;rw [e,c,Td.uniq h k,Td.uniq f d]
 | .cE _ _,_,_,z7,z8=>by obtain⟨p,q,h,f,e⟩:=z7;obtain⟨g,i,k,d,c⟩:=z8;rw [e,c,Td.uniq h k,Td.uniq f d]
theorem Bq : ∀ {N},((aR N f).p t).q=y9 (t∈N)
 | []=>rfl
 | y::N=>by
  show(Ah1 t ((y,_)::aR N f)).q=_
  rw [Ab8]
  by_cases e:t=y
  .subst e;rw [beq_self_eq_true,decide_eq_true Aa3];rfl
  .rw [beq_eq_false_iff_ne.q e]
   rw [Bq]
   exact decide_eq_decide.q ⟨Aa2 _,λh=>(Ab7.p h).w e⟩
noncomputable def zW (f:Tx->Nat×Nat) (t:Tx) (p:Nat×Nat):Tx->Nat×Nat:=λx=>if x=t then p else f x
def yS (h:t∈N):GE (aR N f) t (bc p.1 p.2)=aR N (zW f t p):=by
 unfold GE aR
 rw [if_pos (Ad2.q ⟨_,Ac.q ⟨t,h,rfl⟩,by simp⟩)]
 rw [Ae]
 refine Ai1 λx a=> ?_
 show(if x=t then(x,bc p.1 p.2)else(x,bc (f x).1 (f x).2))=(x,bc (zW f t p x).1 (zW f t p x).2)
 unfold zW
 by_cases e:x=t
 .rw [if_pos e,if_pos e]
 .rw [if_neg e,if_neg e]
def ju (k) (d) (h) (a:Gd d=u0):call prog (k+1) "_law_whole" [.v d] h= .j (.b (Zw d)) h:=by
 cases d<;>first | exact Ga _ _ _ rfl | cases a
abbrev uQ (n r:Nat) (g dn c e:D) (d f b h a:Y1 W):Sl:= [si n,k0 (.r r),sv g,sv dn,sv c,sv e,d,f,b,h,a]
def xr (e:h[r]? =k0 (.p ks)):GV h (k0 (.r r))=k0 (r,ks):=by unfold GV;simp [e]
def oR (v p:Nat):Gj .j (v:Int) ((2 ^ p:Nat):Int)=k0 ((if v.j p then 2 ^ p else 0:Nat):Int):=by
 rw [jc,Wc]
 congr 2
 refine Aj6 λk=> ?_
 rw [Ah2,Ae0]
 by_cases e:p=k
 .subst e
  rw [decide_eq_true rfl,Bool.and_true]
  cases v.j p with
  | true=>rw [if_pos rfl,Ak]
  | false=>rw [if_neg Ac2,Af9]
 .rw [decide_eq_false e,Ah0]
  cases v.j p with
  | true=>rw [if_pos rfl,Ae0,decide_eq_false e]
  | false=>rw [if_neg Ac2,Af9]
def LO (k)(e:h[r]? =k0 (.p (aR N f))) (z:n<=4) (g:t∈N) (X:N.e<=100) (q:a<n) (v:b<n) (y:(f t).1.j (a*n+b)=k9) (i:(f t).2.j (a*n+b)=u0):
 call prog (k+2) "_law_split" [.i n,.r r,.t [.j t,.n a,.n b]] h= .j (.j [.p h.e,.p (h.e+1)]) (h++ [.p (aR N (zW f t ((f t).1 ||| 2 ^ (a*n+b),(f t).2))),.p (aR N (zW f t ((f t).1,(f t).2-2 ^ (a*n+b))))]):=by
 rw [Gb (d:=jx) rfl _ _ _ rfl]
 have R:r<h.e:=(Aa1.p e).1
 have s:a*n+b<16:=by
  have:=Wf.place_lt q v
  have:n*n<=16:=Af5 z z
  omega
 have ge:2 ^ _<=(f t).2:=Nat.ge_two_pow_of_testBit i
 generalize M:a*n+b=p at y i s ge ⊢
 have C:(aR N f).e<bp:=by rw [Gg,aR,Aa];omega
 generalize Q:(f t).1=A at y ⊢
 generalize J:(f t).2=c at i ge ⊢
 have D:aR N _=GE (aR N f) t _:=(yS (p:=(A ||| 2 ^ p,c)) g).p
 have L:aR N _=GE (aR N f) t _:=(yS (p:=(A,c-2 ^ p)) g).p
 have m:(aR N f).p t=k0 (bc A c):=by rw [oz g,Q,J]
 simp only [jx]
 have dd:=xr e
 refine fx (by simp! [];rfl) ?_
 have V:cT u0 (.s t) (k0 (r,aR N f)) h= .j (.b k9) h:=by
  unfold cT
  simp only [Bq,decide_eq_true g,if_true]
  rfl
 have l:cu .str (.s t)=k0 true:=rfl
 rw [xa (by simp! [l,dd,V,(ju k (.n a) h rfl),(ju k (.n b) h rfl),Zw])]
 have j: ∀x:Nat,x<n->((0:Int)<=(x:Int)/\(x:Int)<(n:Int)):=λx Z=>by omega
 rw [xa (by simp! [j6,Z1,decide_eq_true (j a q).1,decide_eq_true (j a q).2,decide_eq_true (j b v).1,decide_eq_true (j b v).2,ao])]
 have dg:fc (.s t) (k0 (r,aR N f)) h= .j (.v (bc A c)) h:=by unfold fc;simp only [m]
 refine fx (by simp! [dd,dg];rfl) ?_
 have G:Gj .q (a:Int) (n:Int)=k0 ((a*n:Nat):Int):=Xd a n (by omega)
 have S:(((a*n:Nat):Int)+(b:Int))=((p:Nat):Int):=by rw [← M];rfl
 refine fx (by simp! [G,Zc,S,(j7 p (by omega))];rfl) ?_
 have B:=oR A p
 have F:=oR c p
 rw [y,if_neg Ac2]at B
 rw [i,if_pos rfl]at F
 have Y:0<2 ^ p:=Ad4 p
 have H:Gr .q (.i (0)) (.v (.o 0)) h=k0 false:=rfl
 have P:Gr .j (.i (2 ^ p)) (.v (.o 0)) h=k0 false:=by
  have:=xn (2 ^ p) 0 h
  rw [decide_eq_false (by omega)]at this
  exact this
 rw [xa (by simp! [B,F,H,P])]
 have I:((c:Int)-((2 ^ p:Nat):Int))=((c-2 ^ p:Nat):Int):=by omega
 have T:(h++ [Cell.aP (aR N f)])[h.e]? =k0 (.p (aR N f)):=by simp
 have u:(h++ [Cell.aP (aR N f)]).w h.e (.p (GE (aR N f) t (bc (A ||| 2 ^ p) c)))=h++ [.p (GE (aR N f) t (bc (A ||| 2 ^ p) c))]:=by simp
 have nr:Gd (bc (A ||| 2 ^ p) c)=true:=rfl
 have oF:Gd (bc A (c-2 ^ p))=true:=rfl
 refine fx (by simp! [dd,ao];rfl) ?_
 rw [za (τ1:=uQ n r (.q [.j t,.n a,.n b]) (.j t) (.n a) (.n b) (si A) (si c) (si (2 ^ p)) (k0 (.r h.e)) y0) (h1:=h++ [.p (GE (aR N f) t (bc (A ||| 2 ^ p) c))]) (by
  simp! [Zn,xm,xr T,ao]
  rw [if_pos ⟨C,nr⟩,u])]
 have E:(h++ [Cell.aP (GE (aR N f) t (bc (A ||| 2 ^ p) c))])[r]? =k0 (.p (aR N f)):=by rw [Ac5 R,e]
 generalize GE (aR N f) t (bc (A ||| 2 ^ p) c)=U at E D ⊢
 have O:(h++ [Cell.aP U]++ [Cell.aP (aR N f)])[h.e+1]? =k0 (.p (aR N f)):=by simp
 have o:(h++ [Cell.aP U]++ [Cell.aP (aR N f)]).w (h.e+1) (.p (GE (aR N f) t (bc A (c-2 ^ p))))=h++ [Cell.aP U,.p (GE (aR N f) t (bc A (c-2 ^ p)))]:=by simp [List.set_append]
 have K:(h++ [Cell.aP U]).e=h.e+1:=by simp
 refine fx (by simp! [xr E,ao,K];rfl) ?_
 rw [za (τ1:=uQ n r (.q [.j t,.n a,.n b]) (.j t) (.n a) (.n b) (si A) (si c) (si (2 ^ p)) (k0 (.r h.e)) (k0 (.r (h.e+1)))) (h1:=h++ [.p U,.p (GE (aR N f) t (bc A (c-2 ^ p)))]) (by
  simp! [Qe,I,xr O,ao]
  rw [if_pos ⟨C,oF⟩,o])]
 rw [ja (w:= .j [.p h.e,.p (h.e+1)]) (h1:=h++ [.p U,.p (GE (aR N f) t (bc A (c-2 ^ p)))]) (Zx rfl (by simp! [])),D,L]
 show fin h.e (.j [.p h.e,.p (h.e+1)]) _=_
 unfold fin
 rw [if_neg (by simp),if_neg (by simp [W.keep])]
abbrev Pl:=Tx×Nat×Nat
def bT (p:Pl):D:= .q [.j p.1,.n (p.2.1),.n (p.2.2)]
noncomputable def eV (n:Nat) (t:Tx):Y0 Pl:=(Aa7 n).j λa=>(t,a,a)
def gj (n:Nat) (t:Tx):Y0 Pl:=(Wf.ay n (2 ^ (n*n)-1)).j λq=>(t,q.1,q.2)
abbrev fb (K T:Y0 Tx) (n:Nat) (l:Y0 Pl) (x:Y1 W):Sl:= [sv (wD K T),si n,k0 (.j (l.j bT)),x]
theorem rD (g) (c: ∀t,(g t).e<=16) (d: ∀ t l,l.e<=200->execs F b (fb K T n l (k0 (.s t))) h= .p (fb K T n (l++g t) (k0 (.s t))) h):
 ∀(a:Y0 Tx) l x,l.e+16*a.e<=200-> ∃i,Gp (Gq [3] u0) (λτ h=>execs F b τ h) (a.j .j) (fb K T n l x) h= .p (fb K T n (l++a.N g) i) h
 | [],l,x,_=>⟨x,by simp [Gp]⟩
 | t::a,l,x,f=>by
  rw [Aa6]at f
  have:=c t
  obtain⟨i,e⟩:=rD g c d a (l++g t) (k0 (.s t)) (by rw [Aa5];omega)
  refine⟨i,?_⟩
  rw [Ab2,Wa rfl (d t l (by omega)),e,Aj2,Ae3]
def EI (k n) (K T) (h) (p:n<=4) (F:K.e<=4) (E:T.e<=4):call prog (k+3) "places_of" [.v (wD K T),.i n] h= .j (.j ((K.N (eV n)++T.N (gj n)).j bT)) h:=by
 rw [Gb (d:=Xx) rfl _ _ _ rfl]
 have o:n*n<=16:=Af5 p p
 simp only [Xx]
 have i: ∀t,(eV n t).e<=16:=λt=>by simp [eV];omega
 have lt: ∀t,(gj n t).e<=16:=λt=>by
  rw [gj,Aa,Wf.ay,Aa]
  exact Ab5 (Aj _ _) (by rw [Ai];exact o)
 have j: ∀(c:Y0 Tx) (g:Tx->Y0 Pl),(∀ t,(g t).e<=16)->(c.N g).e<=16*c.e:=λc g f=>by
  induction c with
  | nil=>simp
  | cons t c H=>rw [Aj2,Aa5,Aa6];have:=f t;omega
 have ext: ∀ e b (g:Tx->Y0 Pl),(∀ t,(g t).e<=16)->b= .a (.ext 2 e)->(∀ (t:Tx) (l:Y0 Pl),eval (u9 (k+2)) e (fb K T n l (k0 (.s t))) h= .j (.j ((g t).j bT)) h)-> ∀(t:Tx) (l:Y0 Pl),l.e<=200->execs (u9 (k+2)) b (fb K T n l (k0 (.s t))) h= .p (fb K T n (l++g t) (k0 (.s t))) h:=λe b g f A u t l G=>by
  have B:(l.j bT).e+((g t).j bT).e<bp:=by rw [Gg,Aa,Aa];have:=f t;omega
  rw [A,za (τ1:=fb K T n (l++g t) (k0 (.s t))) (h1:=h) (by rw [exec];simp! [u,B,if_true];rw [← Af1]),execs]
 have s:=ext Qp qA _ i rfl λt l=>by
  unfold Qp
  rw [Wt (n:=n) (λa=>bT (t,a,a)) rfl (by omega) λa D=>⟨.v _,by simp! [];rfl,rfl⟩]
  rw [eV,Ae];rfl
 have r:=ext zq zA _ lt rfl λt l=>by
  unfold zq
  have v:Gk (u9 (k+2)) (.j (.p "pairs_of" (.b .B (.p "every" (.a .B))))) (fb K T n l (some (.s t))) h= .j ((Wf.ay n (2 ^ (n*n)-1)).j pD) h:=by
   simp! [uK _ n h (by omega),Wu _ n _ h (by omega)]
  rw [ql (h:=h) (ds:=(Wf.ay n (2 ^ (n*n)-1)).j pD) (λd=>match d with | .q [x,y]=> .q [.j t,x,y] | d=>d) v (by rw [Gg,Aa,Wf.ay,Aa];have:=Aj (2 ^ (n*n)-1).j (Aa7 (n*n));rw [Ai]at this;omega)]
  .rw [gj,Ae,Ae];rfl
  .intro d z
   obtain⟨q,_,rfl⟩:=Ac.p z
   exact⟨[si _,si _,k0 _],rfl,.t [.j t,.n _,.n _],by simp! [],rfl⟩
 obtain⟨m,e1⟩:=rD _ i s K [] y0 (by simp;omega)
 obtain⟨C,e2⟩:=rD _ lt r T (K.N (eV n)) m (by have:=j K (eV n) i;omega)
 rw [Ae6]at e1
 rw [za (τ1:=fb K T n [] y0) (h1:=h) rfl]
 rw [za (τ1:=fb K T n (K.N (eV n)) m) (h1:=h) (by
  rw [exec,show Gs (u9 (k+2)) (.j (.A .z (.o 0))) (fb K T n [] y0) h= .j (K.j .j) h by simp! [ae,Wh],R.aw];exact e1)]
 rw [za (τ1:=fb K T n (K.N (eV n)++T.N (gj n)) C) (h1:=h) (by
  rw [exec,show Gs (u9 (k+2)) (.j (.A .z (.o 1))) (fb K T n (K.N (eV n)) m) h= .j (T.j .j) h by simp! [ae,Xg],R.aw];exact e2)]
 rw [ja (w:= .j ((K.N (eV n)++T.N (gj n)).j bT)) (h1:=h) rfl,Gv _ _ _ rfl]
noncomputable abbrev l0:Y0 Tx:= [gF,iy,fk,ir,[101,97,99,104],gq,lh,hI,ke,iL,iw,kL,[107,105,110,100],[116,105,101],[115,97,121]]
noncomputable def WV (st:Tx) (at' f k:Nat):Tx:=st.A at'++ [97+(f+5*k) % 26]++st.J at'
def cR (st:Tx) (at' f k:Nat):Tx:=if WV st at' f k∈l0 then WV st at' f k++ [113]else WV st at' f k
def uF (h:at'<=st.e):(cR st at' f k)[at']? =k0 (97+(f+5*k) % 26):=by
 have b:(WV st at' f k)[at']? =k0 (97+(f+5*k) % 26):=by
  unfold WV
  rw [Ae3,Ad6 (by simp_all),Af6,Ak3 h,Al2]
  rfl
 unfold cR
 split
 .rw [Ac5 (Aa1.p b).1];exact b
 .exact b
def Dy (a:st.e<=6):(cR st at' f k).e<=8:=by
 have b:(WV st at' f k).e<=7:=by
  unfold WV
  rw [Aa5,Aa5,Af6,Af7]
  simp only [Aa6,Ad7]
  lia
 unfold cR
 split
 .rw [Aa5];simp [Ad7];lia
 .lia
def NZ (st) (at' f m) (h:at'<=st.e) (a:m<=8):((Aa7 m).j (cR st at' f)).B:=tf _ m a λi c j b ne z=>by
 have e1:=uF (f:=f) (k:=i) h
 rw [z,(uF (f:=f) (k:=j) h)]at e1
 have:=Ad9.inj e1
 lia
abbrev dq (r m:Nat) (f:Nat) (x4 x5 b c a:Y1 W):Sl:= [k0 (.r r),si m,k0 (.s me),si f,x4,x5,b,c,a]
theorem A8 (k): ∀(l:Y0 Nat) h v st x,h[r]? =k0 (ai ns i v)->st.e+l.e<=6-> ∃ L v' M,L.e<=6 ∧
 Gp (Gq [5] u0) (λτ h=>execs (u9 (k+1)) qp τ h) (l.j λj=>D.n j) (dq r m f (k0 (.s st)) x y0 y0 y0) h= .p (dq r m f (k0 (.s L)) M y0 y0 y0) (h.w r (ai ns i v'))
 | [],h,v,st,x,e,a=>⟨st,v,x,by simpa using a,by
  rw [show h.w r (ai ns i v)=h by
   refine List.ext_getElem? λj=> ?_
   by_cases q:r=j
   .subst q
    rw [Ab6 (Aa1.p e).1,e]
   .rw [Ad1 q]]
  rfl⟩
 | j::l,h,v,st,x,e,a=>by
  rw [Aa6]at a
  obtain⟨d,v1,g,e1⟩:=Zf k e (m:=26) (by decide) (by decide)
  have c:=(Aa1.p e).1
  obtain⟨L,v',M,b,e2⟩:=A8 k l (h.w r (ai ns i v1)) v1 (st++ [97+d]) (si j) (Ab6 c) (by rw [Aa5];simp;omega)
  rw [Ae1]at e2
  refine⟨L,v',M,b,?_⟩
  have e1:call prog (k+1) "_law_draw" [.r r,.v (.o 26)] h= .j (.i d) (h.w r (ai ns i v1)):=e1
  rw [Ab2,Wa (τ1:=dq r m f (k0 (.s st)) (si j) y0 y0 y0) rfl (by
   unfold qp
   rw [za (τ1:=dq r m f (k0 (.s (st++ [97+d]))) (si j) y0 y0 y0) (h1:=h.w r (ai ns i v1)) (by simp! [e1,WA d g,add_str st [97+d] _ (by simp;omega)]),execs]),e2]
theorem yK (B:st.e<=6) (h): ∀ c j x5 L,j+c<=100-> ∃M O,Gp (Gq [5] u0) (λτ h=>execs F Wj τ h) ((Aa7 c).j λi=>D.n (j+i)) (dq r m f (k0 (.s st)) x5 (si at') (k0 (.j (((Aa7 j).j (cR st at' f)).j .j))) L) h= .p (dq r m f (k0 (.s st)) M (si at') (k0 (.j (((Aa7 (j+c)).j (cR st at' f)).j .j))) O) h
 | 0,j,x5,L,_=>⟨x5,L,rfl⟩
 | c+1,j,x5,L,E=>by
  obtain⟨l,u,e⟩:=yK B h c (j+1) (si (j)) (k0 (.s (cR st at' f j))) (by omega)
  refine⟨l,u,?_⟩
  have s:execs F Wj (dq r m f (k0 (.s st)) (si (j)) (si at') (k0 (.j (((Aa7 j).j (cR st at' f)).j .j))) L) h= .p (dq r m f (k0 (.s st)) (si (j)) (si at') (k0 (.j (((Aa7 (j+1)).j (cR st at' f)).j .j))) (k0 (.s (cR st at' f j)))) h:=by
   have n:Gj .q 5 (j:Int)=k0 ((5*j:Nat):Int):=Xd 5 j (by decide)
   have A:((f:Int)+((5*j:Nat):Int))=((f+5*j:Nat):Int):=rfl
   have o:Gj .w ((f+5*j:Nat):Int) 26=k0 (((f+5*j) % 26:Nat):Int):=pq _ 26 (by decide)
   have d:=WA ((f+5*j) % 26) (Aj4 _ (by decide)) h
   have z:st.e<=bp:=by rw [Gg];omega
   have v:cut st y0 (k0 (at':Int))=st.A at':=pB st at'
   have y:cut st (k0 (at':Int)) y0=st.J at':=XY st at'
   have G:(st.A at').e<=6:=by rw [Af6];omega
   have l2:(st.J at').e<=6:=by rw [Af7];omega
   have x:=add_str (st.A at') [97+(f+5*j) % 26] h (by simp only [Aa6,Ad7];omega)
   have a2:=add_str (st.A at'++ [97+(f+5*j) % 26]) (st.J at') h (by rw [Aa5];simp only [Aa6,Ad7];omega)
   have C:(WV st at' f j).e<=13:=by
    unfold WV
    rw [Aa5,Aa5]
    simp only [Aa6,Ad7]
    omega
   have a3:=add_str (WV st at' f j) [113] h (by simp only [Aa6,Ad7];omega)
   have g:=xT (WV st at' f j) l0 h
   have w:(((Aa7 j).j (cR st at' f)).j D.str).e<bp:=by rw [Gg,Aa,Aa,Ai];omega
   have p:((Aa7 (j+1)).j (cR st at' f)).j D.str=((Aa7 j).j (cR st at' f)).j D.str++ [.j (cR st at' f j)]:=by rw [List.range_succ];simp
   unfold Wj
   rw [za (τ1:=dq r m f (k0 (.s st)) (si (j)) (si at') (k0 (.j (((Aa7 j).j (cR st at' f)).j .j))) (k0 (.s (WV st at' f j)))) (by
    simp! [oB,z,v,y,n,Zc,A,o,d,x,a2]
    rfl)]
   have b:Gn F (.y .p .v8 (.ef uD l0)) (dq r m f (k0 (.s st)) (si (j)) (si at') (k0 (.j (((Aa7 j).j (cR st at' f)).j .j))) (k0 (.s (WV st at' f j)))) h= .j (y9 (WV st at' f j∈l0)) h:=by
    rw [Gn,eval,eval]
    rw [show Gi (dq r m f (k0 (.s st)) (si (j)) (si at') (k0 (.j (((Aa7 j).j (cR st at' f)).j .j))) (k0 (.s (WV st at' f j)))) 8=k0 (.s (WV st at' f j))from rfl,R.af,eval,R.af,g]
    rfl
   have a: ∀t:Tx,t=cR st at' f j->execs F (.a (.app 7 .v8)) (dq r m f (k0 (.s st)) (si (j)) (si at') (k0 (.j (((Aa7 j).j (cR st at' f)).j .j))) (k0 (.s t))) h= .p (dq r m f (k0 (.s st)) (si (j)) (si at') (k0 (.j (((Aa7 (j+1)).j (cR st at' f)).j .j))) (k0 (.s (cR st at' f j)))) h:=λt k=>by
    subst k
    rw [p]
    simp! [w,if_true]
   by_cases q:WV st at' f j∈l0
   .rw [za (τ1:=dq r m f (k0 (.s st)) (si (j)) (si at') (k0 (.j (((Aa7 j).j (cR st at' f)).j .j))) (k0 (.s (WV st at' f j++ [113])))) (h1:=h) ((xu (by rw [b,decide_eq_true q])).j (by simp! [a3]))]
    exact a _ (by rw [cR,if_pos q])
   .rw [xa (by rw [b,decide_eq_false q])]
    exact a _ (by rw [cR,if_neg q])
  rw [Ah3,Ab2,Ae,Wa rfl s]
  have:((λi=>D.n (j+i))∘Nat.succ)=λi=>D.n (j+1+i):=by
   funext i
   show D.n (j+(i+1))=_
   rw [show j+(i+1)=j+1+i by omega]
  rw [this,e,show j+1+c=j+(c+1)by omega]
def Cy (c k:Nat):(Aa9 k [c]).L=Aa9 k c:=by simp
def D6 (k)(e:h[r]? =k0 (ai ns i v)) (B:m<=8): ∃(N:Y0 Tx) (A:Int),N.e=m/\N.B/\(∀ t∈N,t.e<=8)/\call prog (k+2) "_law_names" [.r r,.i m] h= .j (.j (N.j .j)) (h.w r (ai ns i A)):=by
 have M:r<h.e:=(Aa1.p e).1
 have o: ∀w,_[r]? =k0 (ai ns i w):=λw=>Ab6 M
 have I: ∀w,(h.w r (ai ns i w)).e=h.e:=λw=>Ad3 ..
 rw [Gb (d:=xx) rfl _ _ _ rfl]
 show ∃N A,_/\_/\_/\Gw _ _=_
 simp only [xx]
 obtain⟨f,v1,P,e1⟩:=Zf k e (m:=26) (by decide) (by decide)
 have e1:call prog _ "_law_draw" [.r r,.v (.o 26)] h= .j _ _:=e1
 obtain⟨d,v2,V,e2⟩:=Zf k (o v1) (m:=3) (by decide) (by decide)
 rw [Ae1]at e2
 have e2:call prog _ "_law_draw" [.r r,.v (.o 3)] _= .j _ _:=e2
 rw [za (τ1:= [k0 (.r r),si m,k0 (.s me),y0,y0,y0,y0,y0,y0]) (h1:=h) rfl]
 rw [za (τ1:=dq r m f y0 y0 y0 y0 y0) (h1:=h.w r (ai ns i v1)) (by simp! [e1])]
 have O: ∀h,Gr .j _ (.v (.o 0)) h=k0 _:=λh=>xn d 0 h
 have G:Gn (u9 (k+1)) (.y .j (.p "_law_draw" (.b .z (.o 3))) (.o 0)) (dq r m f none none none none none) (h.w r (ai ns i v1))= .j (decide (d=0)) (h.w r (ai ns i v2)):=by simp! [e2,O]
 by_cases q:d=0
 .refine⟨(Aa7 m).j λj=>Aa9 (j+1) (97+f),v2,by simp,tf _ m B (λa K b H ne z=>by have:=congrArg List.length z;simp at this;omega),λt u=> ?_,?_⟩
  .obtain⟨j,x,rfl⟩:=Ac.p u
   rw [Ae2]
   have:=Ab9.p x
   omega
  .rw [ja (w:= .j (((Aa7 m).j λj=>Aa9 (j+1) (97+f)).j .j)) (h1:=h.w r (ai ns i v2)) ((xu (h1:=h.w r (ai ns i v2)) (by rw [G,decide_eq_true q])).j (ja (Zx rfl ?_)))]
   .exact Gv _ h _ (I v2)
   .unfold Qz
    rw [Wt (n:=m) (λj=> .j (Aa9 (j+1) (97+f))) rfl (by omega) λj x=>⟨.s (Aa9 (j+1) (97+f)),?_,rfl⟩]
    .rw [Ae];rfl
    .have y:((j:Int)+1)=((j+1:Nat):Int):=rfl
     have C:=mul_str [97+f] (j+1) (h.w r (ai ns i v2)) (by omega) (by simp;omega)
     rw [Cy]at C
     simp! [WA f P,Zc,y,C]
 .rw [za (τ1:=dq r m f y0 y0 y0 y0 y0) (h1:=h.w r (ai ns i v2)) ((my (h1:=h.w r (ai ns i v2)) (by rw [G,decide_eq_false q])).j rfl)]
  rw [za (τ1:=dq r m f (k0 (.s [])) y0 y0 y0 y0) (h1:=h.w r (ai ns i v2)) rfl]
  obtain⟨c,v3,U,s⟩:=Zf k (o v2) (m:=6) (by decide) (by decide)
  rw [Ae1]at s
  have s:call prog (k+1) "_law_draw" [.r r,.v (.o 6)] (h.w r (ai ns i v2))= .j (.i c) (h.w r (ai ns i v3)):=s
  obtain⟨g,v4,p,l,D⟩:=A8 k (ns:=ns) (i:=i) (r:=r) (m:=m) (f:=f) (Aa7 c) (h.w r (ai ns i v3)) v3 [] y0 (o v3) (by simp;omega)
  rw [Ae1]at D
  have T:Gs (u9 (k+1)) (.au (.p "_law_draw" (.b .z (.o 6)))) (dq r m f (some (.s [])) none none none none) (h.w r (ai ns i v2))= .j ((List.range c).j fun i=> .n i) (h.w r (ai ns i v3)):=by
   have H: -f7<=(c:Int)/\(c:Int)<f7:=by rw [GT];omega
   simp! [s]
   rw [if_pos H,Ad5]
  rw [za (τ1:=dq r m f (k0 (.s g)) p y0 y0 y0) (h1:=h.w r (ai ns i v4)) (by rw [exec,T,R.aw];exact D)]
  obtain⟨a,v5,K,J⟩:=Zf k (o v4) (m:=g.e+1) (by omega) (by omega)
  rw [Ae1]at J
  have S:g.e<=bp:=by rw [Gg];omega
  have y:((g.e:Int)+1)=((g.e+1:Nat):Int):=rfl
  rw [za (τ1:=dq r m f (k0 (.s g)) p (si a) y0 y0) (h1:=h.w r (ai ns i v5)) (by simp! [len_str,S,if_true,ao,Zc,y,J])]
  rw [za (τ1:=dq r m f (k0 (.s g)) p (si a) (k0 (.j [])) y0) (h1:=h.w r (ai ns i v5)) rfl]
  obtain⟨L,Q,E⟩:=yK (F:=(u9 (k+1))) (r:=r) (m:=m) (f:=f) (at':=a) l (h.w r (ai ns i v5)) m 0 p y0 (by omega)
  simp only [Am4]at E
  rw [za (τ1:=dq r m f (k0 (.s g)) L (si a) (k0 (.j (((Aa7 m).j (cR g a f)).j .j))) Q) (h1:=h.w r (ai ns i v5)) (by rw [exec,mj (n:=m) rfl (by omega),R.aw];exact E)]
  refine⟨(Aa7 m).j (cR g a f),v5,by simp,NZ g a f m (by omega) B,λt u=> ?_,?_⟩
  .obtain⟨j,x,rfl⟩:=Ac.p u
   exact Dy l
  .rw [ja (w:= .j (((Aa7 m).j (cR g a f)).j .j)) (h1:=h.w r (ai ns i v5)) rfl]
   exact Gv _ h _ (I v5)
noncomputable abbrev dv:Y0 (Nat×Nat×Nat):= [(0,1,2),(1,1,2),(0,1,2),(1,0,4),(2,0,3),(0,1,2),(0,1,1),(2,1,0),(1,1,1)]
def gK (p:Nat×Nat×Nat):D:= .q [.n (p.1),.n (p.2.1),.n (p.2.2)]
structure bE (n:Nat) (K T:List Tx):Prop where
 n4:n<=4
 k4:K.e<=4
 t4:T.e<=4
 b6:K.e*n+T.e*(n*n)<=6
 nd:(K++T).B
 l8: ∀t∈K++T,t.e<=8
abbrev nG (r:Nat) (l:Y0 D) (a b c:Y1 W) (x:Y1 W):Sl:= [k0 (.r r),k0 (.l l),a,b,c,x]
def Nt (k)(e:h[r]? =k0 (ai ns i v)): ∃ n K T v',(bE n K T/\0<(K++T).e)/\call prog (k+3) "_law_words" [.r r] h= .j (.t [.n n,wD K T]) (h.w r (ai ns i v')):=by
 have I:r<h.e:=(Aa1.p e).1
 have C: ∀w,(h.w r (ai ns i w))[r]? =k0 (ai ns i w):=λw=>Ab6 I
 have M: ∀w,(h.w r (ai ns i w)).e=h.e:=λw=>Ad3 ..
 rw [Gb rfl _ _ _ rfl]
 show ∃n K T v',_/\Gw _ (execs _ _ [k0 (.r r),y0,y0,y0,y0,y0] h)=_
 simp only [xK]
 obtain⟨d,v1,z,e1⟩:=Zf (k+1) e (m:=9) (by decide) (by decide)
 have e1:call prog (k+2) "_law_draw" [.r r,.v (.o 9)] h= .j (.i d) (h.w r (ai ns i v1)):=e1
 have J: ∀p∈dv,(p.1+p.2.1<=8/\0<p.1+p.2.1)/\p.2.2<=4/\p.1<=4/\p.2.1<=4/\p.1*p.2.2+p.2.1*(p.2.2*p.2.2)<=6:=by decide
 obtain⟨⟨a,b,n⟩,x⟩: ∃p,dv[d]? =k0 p:=⟨dv[d],Aa4 z⟩
 obtain⟨g,u,o,s,E⟩:=J _ (Ac4 x)
 obtain⟨g,j⟩:=g
 have g:a+b<=8:=g
 have j:0<a+b:=j
 have u:n<=4:=u
 have o:a<=4:=o
 have s:b<=4:=s
 have f:a8 (dv.j gK) (d:Int)=k0 (gK (a,b,n)):=by
  rw [Wd _ _ (by rw [Aa];exact z),Ac1,x];rfl
 obtain⟨N,v2,R,nn,G,e2⟩:=D6 k (C v1) g
 rw [Ae1]at e2
 have l:((a:Int)+(b:Int))=((a+b:Nat):Int):=rfl
 refine⟨n,GB (N.A a),GB (N.J a),v2,?_,?_⟩
 .have y:=Qk (N.A a)
  have pt:=Qk (N.J a)
  have q:(GB (N.A a)).e=a:=by rw [y.length_eq,Af6];omega
  have lt:(GB (N.J a)).e=b:=by rw [pt.length_eq,Af7];omega
  have A:(GB (N.A a)++GB (N.J a)).Perm N:=(y.append pt).trans (by rw [List.take_append_drop])
  refine⟨⟨u,by rw [q];exact o,by rw [lt];exact s,by rw [q,lt];exact E,A.nodup_iff.q nn,λt F=>G t (A.mem_iff.p F)⟩,by rw [Aa5,q,lt];exact j⟩
 .rw [za (τ1:=nG r (dv.j gK) y0 y0 y0 y0) (h1:=h) rfl]
  rw [za (τ1:=nG r (dv.j gK) (si a) (si b) (si n) y0) (h1:=h.w r (ai ns i v1)) (by
   rw [exec,show eval (u9 (k+2)) (.A .B (.p "_law_draw" (.b .z (.Z .y (.a .B))))) (nG r (dv.j gK) none none none none) h= .j (.v (gK (a,b,n))) (h.w r (ai ns i v1))by
    have Q:((dv.j gK).e:Int)=9:=rfl
    have c:call prog (k+2) "_law_draw" [.r r,.v (.o ((dv.j gK).e:Int))] h= .j (.i d) (h.w r (ai ns i v1)):=e1
    generalize dv.j gK=L at f c ⊢
    simp! [QC,ao,c,Zq,f]]
   rfl)]
  rw [za (τ1:=nG r (dv.j gK) (si a) (si b) (si n) (k0 (.l (N.j .j)))) (h1:=h.w r (ai ns i v2)) (by simp! [Zc,l,e2])]
  have H:=WP (N.A a) (h.w r (ai ns i v2)) (by rw [Af6];omega)
  have B:=WP (N.J a) (h.w r (ai ns i v2)) (by rw [Af7];omega)
  have O:cut (N.j D.str) y0 (k0 (a:Int))=(N.A a).j D.str:=by rw [pB,List.map_take]
  have P:cut (N.j D.str) (k0 (a:Int)) y0=(N.J a).j D.str:=by rw [XY,List.map_drop]
  rw [ja (w:= .t [.n n,wD (GB (N.A a)) (GB (N.J a))]) (h1:=h.w r (ai ns i v2)) (Ja rfl (by
   simp! [sQ,O,P,H,B,wW,ao]))]
  exact Ga _ h _ (M v2)
def FH (s:Nat) (h1:3<=s) (b:s<5): ∃f:Ex->Ex,(∀ a,(f a).j=a.j+1)/\(∀ N a,a.y N->(f a).y N)/\ ∃t,a8 [D.str xi,.j Ji] ((s:Int)-3)=k0 (.j t)/\ ∀a,aY (f a)= .q [.j t,aY a]:=by
 match s,h1,b with
 | 3,_,_=>exact⟨.B,λ_=>rfl,λ_ _ h=>h,xi,rfl,λ_=>rfl⟩
 | 4,_,_=>exact⟨.w,λ_=>rfl,λ_ _ h=>h,Ji,rfl,λ_=>rfl⟩
 | s+5,_,h=>exact absurd h (by lia)
def DE (s:Nat) (h1:5<=s) (c:s<10): ∃f:Ex->Ex->Ex,(∀ a b,(f a b).j=max a.j b.j+1)/\(∀ N a b,a.y N->b.y N->(f a b).y N)/\ ∃t,a8 [D.str WE,.j jq,.j Jy,.j Wg,.j Wg] ((s:Int)-5)=k0 (.j t)/\ ∀a b,aY (f a b)= .q [.j t,aY a,aY b]:=by
 match s,h1,c with
 | 5,_,_=>exact⟨.plus,λ_ _=>rfl,λ_ _ _ h g=>⟨h,g⟩,WE,rfl,λ_ _=>rfl⟩
 | 6,_,_=>exact⟨.z,λ_ _=>rfl,λ_ _ _ h g=>⟨h,g⟩,jq,rfl,λ_ _=>rfl⟩
 | 7,_,_=>exact⟨.both,λ_ _=>rfl,λ_ _ _ h g=>⟨h,g⟩,Jy,rfl,λ_ _=>rfl⟩
 | 8,_,_=>exact⟨.q,λ_ _=>rfl,λ_ _ _ h g=>⟨h,g⟩,Wg,rfl,λ_ _=>rfl⟩
 | 9,_,_=>exact⟨.q,λ_ _=>rfl,λ_ _ _ h g=>⟨h,g⟩,Wg,rfl,λ_ _=>rfl⟩
 | s+10,_,h=>exact absurd h (by lia)
abbrev kI (r:Nat) (N:Y0 Tx) (g p:Nat) (x4 x5 a:Y1 W):Sl:= [k0 (.r r),k0 (.l (N.j .j)),si g,si p,x4,x5,a]
noncomputable def fP (N:Y0 Tx):Y0 Ex:=(N++N).j .p++ [.same,.K,.u]
def nH (h:e∈fP N):e.y N/\e.j=0:=by
 obtain h | h:=Ac9.p h
 .obtain⟨t,a,rfl⟩:=Ac.p h
  exact⟨(Ac9.p a).j id id,rfl⟩
 .have:e= .same\/e= .K\/e= .u:=by simpa using h
  rcases this with rfl | rfl | rfl<;>exact⟨trivial,rfl⟩
def Bl (m)(k:N.e<=8) (e:h[r]? =some (ai ns i v)): ∃ x v',x∈fP N/\execs (u9 (m+1)) (.b (.ag 4 (.w .u (.w .q je (.o 2)) (.u (.c (.tup (.a (.j jf))) (.tup (.a (.j Xn))) (.tup (.a (.j wh))))))) (.ret (.A .v4 (.p "_law_draw" (.b .z (.Z .y (.a .v4))))))) (kI r N g p none none none) h= .j (.v (aY x)) (h.w r (ai ns i v')):=by
 have l:(fP N).e=2*N.e+3:=by simp [fP];omega
 obtain⟨d,v1,f,e1⟩:=Zf m e (m:=(fP N).e) (by omega) (by omega)
 refine⟨_[d],v1,Al5 f,?_⟩
 have c:eval (u9 (m+1)) je (kI r N g p y0 y0 y0) h= .j (.j (N.j λt=>aY (.p t))) h:=by
  unfold je
  rw [ql (ds:=N.j .j) (λd=> .q [.j Jg,d]) (by simp! []) (by rw [Gg,Aa];omega)]
  .rw [Ae];rfl
  .intro d f
   exact⟨[sv d],rfl,.t [.j Jg,d],by simp! [],rfl⟩
 have b:=Cb (N.j λt=>aY (.p t)) 2 h (by decide) (by rw [Aa];omega)
 have j:GX .u (.j (Aa9 2 (N.j λt=>aY (.p t))).L) (.j [.q [.j jf],.q [.j Xn],.q [.j wh]]) h= .j (.j ((fP N).j aY)) h:=by
  show(if ((Aa9 2 (N.j λt=>aY (.p t))).L).e+3<=bp then _ else _)=_
  rw [if_pos (by rw [Gg];simp;omega)]
  simp [fP,aY,ao,Af0,Function.comp_def]
 rw [za (τ1:=kI r N g p (k0 (.l ((fP N).j aY))) y0 y0) (h1:=h) (by
  have b:GX .q _ (.v (.o 2)) h= .j _ h:=b
  generalize (Aa9 2 (N.j λt=>aY (.p t))).L=Z at b j
  simp! [c,b,j])]
 have a:a8 ((fP N).j aY) d=k0 (aY (fP N)[d]):=by
  rw [Wd _ _ (by rw [Aa];exact f),Ac1,Aa4 f];rfl
 have e1:call prog (m+1) "_law_draw" [.r r,.v (.o (((fP N).j aY).e))] h= .j (.i d) (h.w r (ai ns i v1)):=by rw [List.length_map];exact e1
 generalize (fP N).j aY=L at a e1 ⊢
 exact ja (Ja rfl (by simp! [QC,ao,e1,Zq,a]))
def vV (D:N.e<=8): ∀ g k h v,h[r]? =k0 (ai ns i v)-> ∃ e v',e.y N/\e.j<=g/\call prog (g+k+2) "_law_expression" [.r r,.l (N.j .j),.i g] h= .j (.v (aY e)) (h.w r (ai ns i v')):=by
 intro g
 induction g with
 | zero=>
  intro k h v e
  have o:r<h.e:=(Aa1.p e).1
  have c: ∀w,_[r]? =k0 (ai ns i w):=λw=>Ab6 o
  obtain⟨p,v1,G,e1⟩:=Zf _ e (m:=10) (by decide) (by decide)
  have e1:call prog (0+k+1) "_law_draw" [.r r,.v (.o 10)] h= .j _ _:=e1
  obtain⟨x,v2,j,e2⟩:=Bl _ D (c v1)
  rw [Ae1]at e2
  refine⟨x,v2,(nH j).1,Al3 (nH j).2,?_⟩
  rw [Gb rfl _ _ _ rfl]
  simp only [Qf]
  refine fx (by simp! [e1];rfl) ?_
  rw [ja ((xu (h1:=h.w r (ai ns i v1)) (by
   have z:Gr .j (.i (0)) (.v (.o 0)) (h.w r (ai ns i v1))=k0 true:=xn 0 0 _
   simp! [z])).j e2)]
  exact Ga _ h _ (Ad3 ..)
 | succ g K=>
  intro k h v e
  have o:r<h.e:=(Aa1.p e).1
  have c: ∀w,_[r]? =k0 (ai ns i w):=λw=>Ab6 o
  have u: ∀w,(h.w r (ai ns i w)).e=h.e:=λw=>Ad3 ..
  rw [show g+1+k+2=(g+k+2)+1 by omega]
  obtain⟨p,v1,G,e1⟩:=Zf (g+k+1) e (m:=10) (by decide) (by decide)
  have e1:call prog (g+k+2) "_law_draw" [.r r,.v (.o 10)] h= .j (.i p) (h.w r (ai ns i v1)):=e1
  have I:Gn (u9 (g+k+2)) (.or (.y .j .J (.o 0)) (.y .lt .K (.o 3))) (kI r N (g+1) p y0 y0 y0) (h.w r (ai ns i v1))= .j (y9 (p<3)) (h.w r (ai ns i v1)):=by
   have z:Gr .j (.i (g+1)) (.v (.o 0)) (h.w r (ai ns i v1))=k0 false:=by
    have:=xn (g+1) 0 (h.w r (ai ns i v1))
    rw [decide_eq_false (by omega)]at this
    exact this
   have n:=n6 3 p (h.w r (ai ns i v1))
   have n:Gr .lt (.i p) (.v (.o 3)) (h.w r (ai ns i v1))=k0 (y9 (p<3)):=n
   rw [Gn,lF (a:=k9) (b:=y9 (p<3)) (by simp! [z]) (by simp! [n]),R.af]
   rfl
  rw [Gb (d:=Qf) rfl _ _ _ rfl]
  show ∃e v',_/\_/\Gw _ (execs _ _ [k0 (.r r),k0 (.l (N.j .j)),si (g+1),y0,y0,y0,y0] h)=_
  simp only [Qf]
  rw [za (τ1:=kI r N (g+1) p y0 y0 y0) (h1:=h.w r (ai ns i v1)) (by simp! [e1])]
  by_cases q:p<3
  .obtain⟨x,v2,j,e2⟩:=Bl (g+k+1) (g:=g+1) (p:=p) D (c v1)
   rw [Ae1]at e2
   refine⟨x,v2,(nH j).1,by rw [(nH j).2];omega,?_⟩
   rw [ja (w:= .v (aY x)) (h1:=h.w r (ai ns i v2)) ((xu (h1:=h.w r (ai ns i v1)) (by rw [I,decide_eq_true q])).j e2)]
   exact Ga _ h _ (u v2)
  .rw [xa (by rw [I,decide_eq_false q])]
   obtain⟨x,v2,F,M,e2⟩:=K k _ v1 (c v1)
   rw [Ae1]at e2
   have E:(((g+1:Nat):Int)-1)=((g:Nat):Int):=by omega
   rw [za (τ1:=kI r N (g+1) p y0 (sv (aY x)) y0) (h1:=h.w r (ai ns i v2)) (by simp! [Qe,E,e2])]
   have H:Gr .lt (.i p) (.v (.o 5)) (h.w r (ai ns i v2))=k0 (y9 (p<5)):=n6 5 p _
   by_cases l:p<5
   .obtain⟨f,A,s,t,B,C⟩:=FH p (by omega) l
    refine⟨f x,v2,s N x F,by rw [A];omega,?_⟩
    rw [we (w:= .v (aY (f x))) (by simp! [H,decide_eq_true l]) (Ja rfl (by rw [C];simp! [Qe,JJ,B]))]
    exact Ga _ h _ (u v2)
   .rw [xa (by simp! [H,decide_eq_false l])]
    obtain⟨y,v3,L,O,J⟩:=K k _ v2 (c v2)
    rw [Ae1]at J
    rw [za (τ1:=kI r N (g+1) p y0 (sv (aY x)) (sv (aY y))) (h1:=h.w r (ai ns i v3)) (by simp! [Qe,E,J])]
    obtain⟨f,A,s,t,B,C⟩:=DE p (by omega) G
    refine⟨f x y,v3,s N x y F L,by rw [A];omega,?_⟩
    rw [ja (w:= .v (aY (f x y))) (h1:=h.w r (ai ns i v3)) (Ja rfl (by rw [C];simp! [Qe,JJ,B]))]
    exact Ga _ h _ (u v3)
theorem p8: ∀(ws) (c j w),ws[j]? =k0 w->(dg ws c)[j]? =k0 (c / 2 ^ (ws.A j).X % 2 ^ w)
 | [],_,_,_,h=>by simp at h
 | u::ws,c,0,w,h=>by
  have:u=w:=by simpa using h
  subst this
  simp [dg]
 | u::ws,c,j+1,w,h=>by
  have h:=by simpa using h
  show(dg ws (c / 2 ^ u))[j]? =_
  rw [p8 ws _ j w h,List.take_succ_cons,An,Nat.div_div_eq_div_mul,←Nat.pow_add]
theorem pN: ∀(ws) (c),(dg ws c).e=ws.e
 | [],_=>rfl
 | w::ws,c=>by rw [dg,Aa6,pN ws,Aa6]
def cP (n a b c:Nat):Y0 Nat:=(dg (c4 n a b) c).A a
def c8 (n a b c:Nat):Y0 Nat:=(dg (c4 n a b) c).J a
def Ft (n a b j) (h:j<=a):((c4 n a b).A j).X=j*n:=by
 rw [c4,List.take_append_of_le_length (by simp_all),List.take_replicate,wB,Ak3 h]
def MA (n a b j:Nat) (h:j<=b):((c4 n a b).A (a+j)).X=a*n+j*(n*n):=by
 rw [c4,List.take_append,Ae2,Ai7 (by simp),List.sum_append,List.take_replicate,wB,wB,An1,Ak3 h]
def nX (h:j<a):(cP n a b c)[j]? =k0 (c / 2 ^ (j*n) % 2 ^ n):=by
 rw [cP,Am7 h,p8 _ _ _ n (by rw [c4,Ac5 (by simp_all),Ai2,if_pos h]),Ft _ _ _ _ (Ag5 h)]
def mY (h:j<b):(c8 n a b c)[j]? =k0 (c / 2 ^ (a*n+j*(n*n)) % 2 ^ (n*n)):=by
 rw [c8,List.getElem?_drop,p8 _ _ _ _ (by rw [c4,Ad6 (by simp),Ae2,An1,Ai2,if_pos h]),MA _ _ _ _ (Ag5 h)]
def wo (n:Nat) (K T:Y0 Tx) (c:Nat):Wo:=⟨n,K,T,cP n K.e T.e c,c8 n K.e T.e c⟩
def ZV (n a b c):(cP n a b c).e=a:=by rw [cP,Af6,pN,nI];lia
def xS (n a b c):(c8 n a b c).e=b:=by rw [c8,Af7,pN,nI];lia
theorem bE.wo (g:bE n K T) (c):(wo n K T c).Ok:=by
 refine⟨g.k4,g.t4,g.nd,g.n4,ZV ..,xS ..,λx b=> ?_,λx b=> ?_⟩
 .obtain⟨j,a,e⟩:=Am b
  have:(cP n K.e T.e c)[j]? =k0 x:=by rw [← e];exact Aa4 a
  rw [nX (by rw [← ZV n K.e T.e c];exact a)]at this
  rw [← Ad9.inj this]
  exact Aj4 _ (Ad4 _)
 .obtain⟨j,a,e⟩:=Am b
  have:(c8 n K.e T.e c)[j]? =k0 x:=by rw [← e];exact Aa4 a
  rw [mY (by rw [← xS n K.e T.e c];exact a)]at this
  rw [← Ad9.inj this]
  exact Aj4 _ (Ad4 _)
def bE.pt (g:bE n K T) (c d):Pt (M.wo n K T c) (M.wo n K T d):=⟨g.wo c,g.wo d,rfl,rfl,rfl⟩
theorem wZ : ∀ {i}{j},i.B->i[j]? =k0 t->di t i=j
 | [],_,_,h=>by simp at h
 | y::c,0,_,h=>by
  have:y=t:=by simpa using h
  simp [di,Kk,this]
 | y::c,j+1,a,h=>by
  have h:=by simpa using h
  have m:=Ac4 h
  have a:=Ah9.p a
  have ne:y≠t:=λe=>a.1 (e▸m)
  have b:=wZ a.2 h
  rw [di]at b ⊢
  rw [Kk,if_neg ne,(zn m).1]
  rw [(zn m).1]at b
  simpa using b
theorem pF {b e:Type}(g) (m) (a: ∀t,(g t).e=m): ∀(l:Y0 b) i (y:e),(l.N g)[i]? =k0 y-> ∃j t p,l[j]? =k0 t/\(g t)[p]? =k0 y/\p<m/\i=j*m+p
 | [],i,y,h=>by simp at h
 | t::l,i,y,h=>by
  rw [Aj2]at h
  by_cases q:i<m
  .rw [Ac5 (by rw [a];exact q)]at h
   exact⟨0,t,i,rfl,h,q,by omega⟩
  .rw [Ad6 (by rw [a];omega),a]at h
   obtain⟨j,u,p,d,c,f,k⟩:=pF g m a l _ y h
   exact⟨j+1,u,p,d,c,f,by rw [Nat.add_mul];omega⟩
theorem ZP {a c:Type}(g:a->Y0 c) (m) (b: ∀t,(g t).e=m): ∀l:Y0 a,(l.N g).e=l.e*m
 | []=>by simp
 | t::l=>by rw [Aj2,Aa5,b,ZP g m b l,Aa6,Nat.add_mul];omega
def b3 (n:Nat) (K T:Y0 Tx):Y0 Pl:=K.N (eV n)++T.N (gj n)
def qB (n):Wf.ay n (2 ^ (n*n)-1)=(Aa7 (n*n)).j λk=>(k / n,k % n):=by
 rw [Wf.ay,List.filter_eq_self.q λk a=>by rw [Ag2,decide_eq_true (Ab9.p a)]]
def XJ (n) (t):(eV n t).e=n:=by simp [eV]
def vS (n) (t):(gj n t).e=n*n:=by simp [gj,qB]
def ZE (n) (K T):(b3 n K T).e=K.e*n+T.e*(n*n):=by rw [b3,Aa5,ZP _ _ (XJ n),ZP _ _ (vS n)]
def Zl (g:bE n K T)(h:(b3 n K T)[i]? =k0 (t,x,y)) (c):bg (wo n K T c) t x y=c.j i/\t∈K++T/\x<n/\y<n:=by
 obtain⟨f,e,m⟩:=Aj1.p g.nd
 rw [b3]at h
 by_cases q:i<K.e*n
 .rw [Ac5 (by rw [ZP _ _ (XJ n)];exact q)]at h
  obtain⟨j,u,p,d,a,b,k⟩:=pF _ n (XJ n) _ _ _ h
  rw [eV,Ac1,List.getElem?_range b]at a
  have a:=Ad9.inj a
  obtain⟨rfl,rfl,rfl⟩:u=t/\p=x/\p=y:=by simpa using a
  have mk:=Ac4 d
  refine⟨?_,Ad0 _ mk,b,b⟩
  rw [bg,if_neg (show u∉(wo n K T c).T from (λz=>m u mk u z rfl))]
  show(decide _&&((cP n K.e T.e c).C (di u K) 0).j p)=_
  rw [wZ f d,Ac7,nX ((Aa1.p d).1),Al,Ag8,Ag9,decide_eq_true b,decide_eq_true rfl,k,Ap6]
  rfl
 .rw [Ad6 (by rw [ZP _ _ (XJ n)];omega),ZP _ _ (XJ n)]at h
  obtain⟨j,u,p,d,a,b,k⟩:=pF _ _ (vS n) _ _ _ h
  rw [gj,qB,Ae,Ac1,List.getElem?_range b]at a
  have a:=Ad9.inj a
  obtain⟨rfl,rfl,rfl⟩:u=t/\p / n=x/\p % n=y:=by simpa using a
  have l:=Ac4 d
  refine⟨?_,Ab0 _ l,Wf.bh b,Wf.a9 b⟩
  rw [bg,if_pos (show u∈(wo n K T c).T from l)]
  show(((c8 n K.e T.e c).C (di u T) 0).j (p / n*n+p % n))=_
  rw [wZ e d,Ac7,mY ((Aa1.p d).1),Al,Ag8,Ag9,Wf.bw,decide_eq_true b,Ae5]
  congr 1
  omega
def oe (b:x<n) (a:y<n) (h:t∈T\/(t∈K/\x=y)): ∃i:Nat,(b3 n K T)[i]? =k0 (t,x,y):=by
 have:(t,x,y)∈b3 n K T:=by
  rw [b3,Ac9,List.mem_flatMap,List.mem_flatMap]
  obtain h | ⟨h,rfl⟩:=h
  .refine .q ⟨t,h,?_⟩
   rw [gj,qB,Ae]
   refine Ac.q ⟨x*n+y,Ab9.q (Wf.place_lt b a),?_⟩
   show(t,_ / n,_ % n)=_
   rw [Wf.aI a,Wf.aK a]
  .exact .p ⟨t,h,Ac.q ⟨x,Ab9.q b,rfl⟩⟩
 obtain⟨i,c,e⟩:=Am this
 exact⟨i,by rw [← e];exact Aa4 c⟩
def Ba (d:t∈K++T) (b:x<n) (a:y<n) (h:bg (wo n K T c) t x y=u0): ∃i:Nat,(b3 n K T)[i]? =k0 (t,x,y):=by
 refine oe b a ?_
 by_cases q:t∈T
 .exact .p q
 .rw [bg,if_neg (show t∉(wo n K T c).T from q),Aa0,decide_eq_true_eq]at h
  exact .q ⟨(Ac9.p d).u q,h.1⟩
def oi (g:bE n K T){i j:Nat}(h:(b3 n K T)[i]? =k0 p) (q:(b3 n K T)[j]? =k0 p):i=j:=by
 have a:=(Zl g q (2 ^ i)).1
 rw [((Zl g h _).1),Ak,Ae0]at a
 simpa using a.p
def Mu (k n) (A B) (c) (h) (b:n<=4) (h1:A.e<=4) (f:B.e<=4) (lt:c<2 ^ (c4 n A.e B.e).X):call prog (k+5) "world_of" [.v (nS A B),.i n,.i c] h= .j (.v (kH n (cP n A.e B.e c) (c8 n A.e B.e c))) h:=by
 rw [Gb rfl _ _ _ rfl]
 have d:=Af5 b b
 have i:=vr k (.n n) h rfl (by simp [Zr];omega)
 have a:=vY (k+3) n A B h b h1 f
 have q:(c4 n A.e B.e).X<=100:=by
  rw [pj]
  have p:A.e*n<=4*4:=Af5 h1 b
  have a2:B.e*(n*n)<=4*16:=Af5 f d
  omega
 have g:=WC (k+2) (.n c) ((2 ^ (c4 n A.e B.e).X:Nat):Int) h rfl
 have bt:Zr (.n c) ((2 ^ (c4 n A.e B.e).X:Nat):Int)=true:=by
  simp only [Zr,Aa0,decide_eq_true_eq];omega
 rw [bt]at g
 obtain⟨m,o,e⟩:=uh h (c4 n A.e B.e) c [] y0 (λw a=>by
  rcases Ac9.p a with a | a
  .rw [(List.mem_replicate.p a).2];omega
  .rw [(List.mem_replicate.p a).2];exact d) (by rw [nI];simp;omega)
 rw [Ae6]at e
 simp only [ZO]
 refine fx (by simp! [i];rfl) ?_
 rw [xa (by simp! [(A5 (k+2) n A B h b h1 f),(j7 (c4 n A.e B.e).X (by omega)),g])]
 refine fx (by simp! [];rfl) ?_
 refine fx (by simp! [];rfl) ?_
 have ew:eval (u9 (k+4)) (.p "widths" (.b .z .B)) [sv (nS A B),si n,si c,some (.j []),si c,none,none] h= .j (.j (aC (c4 n A.e B.e))) h:=by
  simp! [a]
 rw [za (by
  simp only [exec,Gs,GK,ew,R.af,Kc,R.ar,R.aw]
  exact e)]
 have j:cut (aC (dg (c4 n A.e B.e) c)) y0 (k0 (A.e:Int))=aC (cP n A.e B.e c):=by rw [pB,aC,←List.map_take];rfl
 have l:cut (aC (dg (c4 n A.e B.e) c)) (k0 (A.e:Int)) y0=aC (c8 n A.e B.e c):=by rw [XY,aC,←List.map_drop];rfl
 refine fx (by simp! [ae,Wh,wg];rfl) ?_
 rw [ja (w:= .v (kH n (cP n A.e B.e c) (c8 n A.e B.e c))) (h1:=h) (Ja rfl (by simp! [Og,j,l,wW]))]
 exact Ga _ _ _ rfl
noncomputable abbrev bN (n:Nat) (K T:Y0 Tx):Nat:=K.e*n+T.e*(n*n)
def cK (n:Nat) (K T:Y0 Tx) (S:Y0 Sy):Y0 (String×D):= [("words",wD K T),("sayings",.q (S.j aQ)),("size",.n n),("places",.u ((b3 n K T).j bT)),("whole",.n (2 ^ bN n K T-1))]
def Jo (e:h[r]? =k0 (.j c fs)):G6 h (k0 (.r r))=k0 (r,c,fs):=by unfold G6;simp [e]
def xl (b:h[r]? =k0 (.j c fs)) (a:Gm τ i=k0 (.r r)) (e:fs.p f=k0 d):eval F (.aL (.var i) c f) τ h= .j (.v d) h:=by
 rw [eval,eval,Gi,a]
 simp [Jo b,e,ao]
def ZM (b:h[r]? =k0 (.j c fs)) (a:Gm τ i=k0 (.r r)) (d:(fs.p m).u=u0) (e:Gf F es τ h= .j ws h):eval F (.bS (.var i) c m q es) τ h=F.call q (.r r::ws.j W.arg) h:=by
 rw [eval,eval,Gi,a]
 simp [Jo b,d,e]
section
variable {n:Nat}{K T:Y0 Tx}{S:Y0 Sy}{ro:Nat}{h:AH}
def W8 (k c) (g:bE n K T) (C:h[ro]? =k0 (.j "Cases" (cK n K T S))) (d:c<2 ^ bN n K T):call prog (k+6) "Cases.world_of_code" [.r ro,.i c] h= .j (.v (wo n K T c).p) h:=by
 rw [Gb rfl _ _ _ rfl]
 have e:=Mu k n (K.j .j) (T.j .j) c h g.n4 (by rw [Aa];exact g.k4) (by rw [Aa];exact g.t4) (by rw [pj,Aa,Aa];exact d)
 rw [Aa,Aa]at e
 simp only [Wi]
 have a:=xl (F:=(u9 (k+5))) (τ:= [k0 _,si c]) (i:=0) (f:= "words") C rfl rfl
 have b:=xl (F:=(u9 (k+5))) (τ:= [k0 _,si c]) (i:=0) (f:= "size") C rfl rfl
 rw [ja (w:= .v (wo n K T c).p) (h1:=h) (Ja rfl (by
  generalize E.aL _ _ _=X at a ⊢
  generalize E.aL _ _ _=Y at b ⊢
  simp! [a,b,e]
  rfl)),Ga _ _ _ rfl]
def xV (m j c d) (g:bE n K T) (C:h[ro]? =some (.j "Cases" (cK n K T S))) (v:c<2 ^ bN n K T) (y:d<2 ^ bN n K T)(t:S[j]? =some s) (u:s.j+9<=m) (wf:s.y (K++T)): ∃r,Td (wo n K T c) (wo n K T d) s r/\call prog (m+1) "Cases.truth" [.r ro,.i j,.i c,.i d] h= .j (.v (aJ r)) h:=by
 obtain⟨k,rfl⟩:=nk m 6 (by omega)
 obtain⟨r,x,e⟩:=Hd (g.pt c d) h s _ u wf
 refine⟨r,x,?_⟩
 rw [Gb rfl _ _ _ rfl]
 simp only [Xz]
 have b:=ZM (F:=(u9 (k+6))) (τ:= [k0 _,si j,si c,si d,y0]) (i:=0) (m:= "world_of_code") (q:= "Cases.world_of_code") (es:= .j .J .p) (ws:= [.i c]) C rfl rfl (by simp! [])
 have a:=ZM (F:=(u9 (k+6))) (τ:= [k0 _,si j,si c,si d,y0]) (i:=0) (m:= "world_of_code") (q:= "Cases.world_of_code") (es:= .j .K .p) (ws:= [.i d]) C rfl rfl (by simp! [])
 have b:=b.j (W8 k c g C v)
 have a:=a.j (W8 k d g C y)
 have z:j<S.e:=(Aa1.p t).1
 have l:a8 (S.j aQ) (j:Int)=k0 (aQ s):=by rw [Wd _ _ (by rw [Aa];exact z),Ac1,t];rfl
 rw [za (τ1:= [k0 (.r ro),si j,si c,si d,sv (b5 (wo n K T c) (wo n K T d))]) (h1:=h) (by
  generalize E.bS _ _ _ _ _=X at b ⊢
  generalize E.bS _ _ _ _ _=Y at a ⊢
  simp! [b,a])]
 have o:=xl (F:=(u9 (k+6))) (τ:= [k0 _,si j,si c,si d,sv (b5 (wo n K T c) (wo n K T d))]) (i:=0) (f:= "words") C rfl rfl
 have p:=xl (F:=(u9 (k+6))) (τ:= [k0 _,si j,si c,si d,sv (b5 (wo n K T c) (wo n K T d))]) (i:=0) (f:= "sayings") C rfl rfl
 have e:call prog _ "told" [.v (wD K T),.v _,.v _] h= .j _ h:=e
 rw [ja (w:= .v (aJ r)) (h1:=h) (Ja rfl (by
  generalize E.aL _ _ _=X at o ⊢
  generalize E.aL _ _ _=Y at p ⊢
  simp! [o,p,ae,l,e])),Ga _ _ _ rfl]
end
def tZ (p) (t) (a b):cw (bT p) (.q [.j t,.o a,.o b])=u0↔p.1=t/\(p.2.1:Int)=a/\(p.2.2:Int)=b:=by
 simp [bT,GL]
theorem sk (t) (a b): ∀L:Y0 Pl,inD (.q [.j t,.o a,.o b]) (L.j bT)=u0-> ∃ i x y,Kp (.q [.j t,.o a,.o b]) (L.j bT)=k0 i/\L[i]? =k0 (t,x,y)/\a=(x:Int)/\b=(y:Int)
 | [],h=>by simp [inD]at h
 | p::L,h=>by
  rw [Ab2,Kp]
  by_cases q:cw (bT p) (.q [.j t,.o a,.o b])=u0
  .obtain⟨d,c,e⟩:=(tZ p t a b).p q
   refine⟨0,p.2.1,p.2.2,by rw [if_pos q],?_,c.p,e.p⟩
   rw [← d];rfl
  .rw [if_neg q]
   have h:=by
    rw [inD,Ab2,Ag7,Ae7]at h
    exact h.w q
   obtain⟨i,x,y,d,c,e,f⟩:=sk t a b L h
   exact⟨i+1,x,y,by rw [d];rfl,c,e,f⟩
def tU {x y i:Nat}{L:Y0 Pl}(h:L[i]? =k0 (t,x,y)):inD (.q [.j t,.n x,.n y]) (L.j bT)=true:=by
 rw [inD,Ad2]
 exact⟨bT _,Ac.q ⟨_,Ac4 h,rfl⟩,(tZ _ _ _ _).q ⟨rfl,rfl,rfl⟩⟩
def wL (L:Y0 Pl):Gc (L.j bT)=true:=Zk _ (λ_=>rfl) L
def AL (L:Y0 Pl):GG (L.j bT)<140:=Ah6 (wH bT 1 (λ_=>by simp [bT]) L) (by decide)
def Dt (t) (a b) (L:Y0 Pl) (h):Gr .ft (.t [.j t,.o a,.o b]) (.l (L.j bT)) h=k0 (!inD (.q [.j t,.o a,.o b]) (L.j bT)):=by
 have g:G9 (.t [.j t,.o a,.o b]) (.l (L.j bT)) h=k0 (inD (.q [.j t,.o a,.o b]) (L.j bT)):=by
  unfold G9
  rw [W.hB,W.hB,Q0 (by exact wL L)]
  show(if _=u0 then _ else _)=_
  rw [wL,decide_eq_true (AL L)]
  rfl
 show(G9 _ _ h).j (!·)=_
 rw [g]
 rfl
def HD {L:Y0 Pl}(h) (c:L.e<=1000) (e:Kp (.q [.j t,.o a,.o b]) (L.j bT)=k0 i):nJ .cc (.l (L.j bT)) [.t [.j t,.o a,.o b]] h= .j (.i i) h:=by
 have g:KA (.t [.j t,.o a,.o b]) (.l (L.j bT)) h=k0 i:=by
  unfold KA
  rw [W.hB,W.hB,Q0 (by exact wL L)]
  show(if _=u0 then _ else _)=_
  rw [wL,decide_eq_true (AL L),decide_eq_true (by rw [Gg,Aa];lia)]
  exact e
 show(R.of h _).p _=_
 rw [g]
 rfl
section
variable {n:Nat}{K T:Y0 Tx}{S:Y0 Sy}{ro:Nat}{h:AH}
def Fj (k) (g:bE n K T) (C:h[ro]? =some (.j "Cases" (cK n K T S)))(c:(b3 n K T)[i]? =some (t,x,y)):call prog (k+2) "Cases.bit_of" [.r ro,.s t,.i x,.i y] h= .j (.i (2 ^ i)) h:=by
 rw [Gb rfl _ _ _ rfl]
 simp only [zw]
 have b:cu .str (.s t)=k0 true:=rfl
 rw [xa (by simp! [b,(qD k (.n x) h rfl),(qD k (.n y) h rfl),Zw])]
 have a:=xl (F:=(u9 (k+1))) (τ:= [k0 _,k0 (.s t),si x,si y]) (i:=0) (f:= "places") C rfl rfl
 have d:=Dt t x y (b3 n K T) h
 rw [tU c]at d
 obtain⟨j,o,p,e,l,e1,e2⟩:=sk t x y _ (tU c)
 obtain rfl:=Int.ofNat.inj e1
 obtain rfl:=Int.ofNat.inj e2
 obtain rfl:=oi g c l
 have q:(b3 n K T).e<=100:=by rw [ZE];have:=g.b6;lia
 have m:nL .cc (.l ((b3 n K T).j bT)) h=true:=rfl
 generalize E.aL _ _ _=X at a ⊢
 rw [xa (by simp! [a,d])]
 rw [ja (w:= .i (2 ^ i)) (h1:=h) (Ja rfl (by simp! [a,m,if_true,(HD h (by lia) e),(j7 i (by grind))])),Ga _ _ _ rfl]
end
def sV (n a b c j p):((c8 n a b c).C j 0).j p=(y9 (j<b)&&(y9 (p<n*n)&&c.j (p+(a*n+j*(n*n))))):=by
 rw [Ac7]
 by_cases q:j<b
 .rw [mY q,Al,Ag8,Ag9,decide_eq_true q,Ae5]
 .rw [List.getElem?_eq_none (by rw [xS];omega),Am9,Af9,decide_eq_false q,Ae4]
def uo (n a b c j p):((cP n a b c).C j 0).j p=(y9 (j<a)&&(y9 (p<n)&&c.j (p+j*n))):=by
 rw [Ac7]
 by_cases q:j<a
 .rw [nX q,Al,Ag8,Ag9,decide_eq_true q,Ae5]
 .rw [List.getElem?_eq_none (by rw [ZV];omega),Am9,Af9,decide_eq_false q,Ae4]
def lV (h:Sub c d):Le (wo n K T c) (wo n K T d):=⟨rfl,λt x y z=>by
 unfold bg at z ⊢
 by_cases q:t∈T
 .rw [if_pos (show t∈(wo n K T _).T from q)]at z ⊢
  have z:((c8 n K.e T.e c).C _ 0).j _=true:=z
  show((c8 n K.e T.e d).C _ 0).j _=u0
  rw [sV,Aa0,Aa0]at z ⊢
  exact⟨z.1,z.2.1,h _ z.2.2⟩
 .rw [if_neg (show t∉(wo n K T _).T from q)]at z ⊢
  have z:(decide _&&((cP n K.e T.e c).C (di t K) 0).j x)=true:=z
  show(decide _&&((cP n K.e T.e d).C (di t K) 0).j x)=u0
  rw [uo,Aa0,Aa0,Aa0]at z ⊢
  exact⟨z.1,z.2.1,z.2.2.1,h _ z.2.2.2⟩⟩
section
variable {n:Nat}{K T:Y0 Tx}
def qE (c d:Nat)(f:t∈K++T) (b:x<n) (a:y<n) (q: ¬ ∃i:Nat,(b3 n K T)[i]? =k0 (t,x,y)):bg (wo n K T c) t x y=false:=by
 cases e:bg _ t x y with
 | false=>rfl
 | true=>exact absurd (Ba f b a e) q
def IT (g:bE n K T)(h:(b3 n K T)[i]? =k0 (t,x,y)) (c) (f:t'∈K++T) (d:x'<n) (b:y'<n):bg (wo n K T (c ||| 2 ^ i)) t' x' y'=(bg (wo n K T c) t' x' y'||y9 ((t',x',y')=(t,x,y))):=by
 by_cases q: ∃j:Nat,(b3 n K T)[j]? =k0 (t',x',y')
 .obtain⟨j,a⟩:=q
  rw [(Zl g a _).1,(Zl g a _).1,Ae8,Ae0]
  congr 1
  refine decide_eq_decide.q ⟨λe=> ?_,λe=> ?_⟩
  .subst e;rw [h]at a;exact(Ad9.inj a).p
  .rw [e]at a;exact oi g h a
 .rw [qE _ c f d b q,qE _ c f d b q,decide_eq_false λe=>q ⟨i,by rw [e];exact h⟩]
  rfl
def Cr (g:bE n K T)(h:(b3 n K T)[i]? =k0 (t,x,y)) (c) (f:t'∈K++T) (d:x'<n) (b:y'<n):bg (wo n K T (c-(c &&& 2 ^ i))) t' x' y'=(bg (wo n K T c) t' x' y'&& !y9 ((t',x',y')=(t,x,y))):=by
 by_cases q: ∃j:Nat,(b3 n K T)[j]? =k0 (t',x',y')
 .obtain⟨j,a⟩:=q
  rw [(Zl g a _).1,(Zl g a _).1,Wf.aT,Ae0]
  congr 2
  refine decide_eq_decide.q ⟨λe=> ?_,λe=> ?_⟩
  .subst e;rw [h]at a;exact(Ad9.inj a).p
  .rw [e]at a;exact oi g h a
 .rw [qE _ c f d b q,qE _ c f d b q]
  rfl
def tx {t t':Tx}(c:y<n) (b:y'<n):y9 ((t',x',y')=(t,x,y))=(y9 (t'=t)&&y9 (x*n+y=x'*n+y')):=by
 by_cases e:t'=t
 .rw [decide_eq_true e,Ae5]
  refine decide_eq_decide.q ⟨λz=> ?_,λz=> ?_⟩
  .have:x'=x/\y'=y:=by simpa [e]using z
   rw [this.1,this.2]
  .have f:x=x':=by rw [← Wf.aI (a:=x) c,z,Wf.aI b]
   have d:y=y':=by rw [← Wf.aK c,z,Wf.aK b]
   rw [e,f,d]
 .rw [decide_eq_false e,Ae4,decide_eq_false]
  exact λz=>e (by injection z)
variable {f:Tx->Nat×Nat}{r low high:Nat}{h:AH}
def Dc.ef (P:Dc (wo n K T low) (wo n K T high) f r h) (g:bE n K T)(c:(b3 n K T)[i]? =k0 (t,x,y)) (h1:high.j i=u0) (e:low.j i=k9):(f t).1.j (x*n+y)=k9/\(f t).2.j (x*n+y)=true:=by
 obtain⟨e1,d,a,b⟩:=Zl g c low
 refine⟨Ak8.q λz=> ?_,((P.hi t d).bit x y a b).q (by rw [((Zl g c high).1),h1])⟩
 have:=((P.lo t d).bit x y a b).p z
 rw [e1,e]at this
 cases this
def Dc.yes (P:Dc (wo n K T low) (wo n K T high) f r h) (g:bE n K T)(o:(b3 n K T)[i]? =k0 (t,x,y))(e:h'[r']? =k0 (.p (aR (K++T) (zW f t ((f t).1 ||| 2 ^ (x*n+y),(f t).2))))):Dc (wo n K T (low ||| 2 ^ i)) (wo n K T high) (zW f t ((f t).1 ||| 2 ^ (x*n+y),(f t).2)) r' h':=by
 obtain⟨-,s,p,m⟩:=Zl g o low
 refine⟨e,g.n4,λd l=> ?_,λd l=> ?_⟩
 .have v:=P.lo d l
  have k: ∀a b,a<n->b<n->bg _ d a b=(bg (wo n K T low) d a b||(y9 (d=t)&&y9 (x*n+y=a*n+b))):=λa b j k=>by rw [IT g o low l j k,tx m k]
  unfold zW
  by_cases q:d=t
  .subst q
   rw [if_pos rfl]
   refine⟨pG v.lt (Ao3 (by decide) (Wf.place_lt p m)),λa b j c=> ?_⟩
   rw [k a b j c,decide_eq_true rfl,Ae5]
   rw [Ae8,Ae0,Ae7,Ae7]
   exact or_congr (v.bit a b j c) Iff.rfl
  .rw [if_neg q]
   refine⟨v.lt,λa b j c=> ?_⟩
   rw [k a b j c,decide_eq_false q,Ae4,Bool.or_false]
   exact v.bit a b j c
 .have v:=P.hi d l
  unfold zW
  by_cases q:d=t
  .subst q;rw [if_pos rfl];exact v
  .rw [if_neg q];exact v
def Dc.no (P:Dc (wo n K T low) (wo n K T high) f r h) (g:bE n K T)(s:(b3 n K T)[i]? =k0 (t,x,y)) (m:high.j i=u0)(e:h'[r']? =k0 (.p (aR (K++T) (zW f t ((f t).1,(f t).2-2 ^ (x*n+y)))))):Dc (wo n K T low) (wo n K T (high-(high &&& 2 ^ i))) (zW f t ((f t).1,(f t).2-2 ^ (x*n+y))) r' h':=by
 obtain⟨o,A,w,p⟩:=Zl g s high
 refine⟨e,g.n4,λc l=> ?_,λc l=> ?_⟩
 .have v:=P.lo c l
  unfold zW
  by_cases q:c=t
  .subst q;rw [if_pos rfl];exact v
  .rw [if_neg q];exact v
 .have v:=P.hi c l
  have k: ∀a b,a<n->b<n->bg _ c a b=(bg (wo n K T high) c a b&& !(y9 (c=t)&&y9 (x*n+y=a*n+b))):=λa b j k=>by rw [Cr g s high l j k,tx p k]
  unfold zW
  by_cases q:c=t
  .subst q
   rw [if_pos rfl]
   have bt:(f c).2.j (x*n+y)=true:=(v.bit x y w p).q (by rw [o];exact m)
   have u:=by
    have:=oR (f c).2 (x*n+y)
    rw [jc,Wc,bt,if_pos rfl]at this
    exact Int.ofNat.inj (Ad9.inj this)
   refine⟨Ah6 (Ap2 _ _) v.lt,λa b j d=> ?_⟩
   rw [k a b j d,decide_eq_true rfl,Ae5]
   have z:(f c).2-2 ^ (x*n+y)=(f c).2-((f c).2 &&& 2 ^ (x*n+y)):=by rw [u]
   rw [z,Wf.aT,Ae0,Aa0,Aa0]
   exact and_congr (v.bit a b j d) Iff.rfl
  .rw [if_neg q]
   refine⟨v.lt,λa b j d=> ?_⟩
   rw [k a b j d,decide_eq_false q,Ae4,Ao5,Bool.and_true]
   exact v.bit a b j d
end
abbrev Qy:Tx:= [98,114,111,107,101,110]
abbrev Qj:Tx:= [115,112,108,105,116]
abbrev bD (K T:Y0 Tx) (S:Y0 Sy):D:= .q [wD K T,.q (S.j aQ)]
def jC (k) (w) (l)(h):call prog (k+1) "is_tuple_of" [.t (.j s::r),.s w,.i l] h= .j (.b (decide (r.e+1=l)&&s==w)) h:=by
 rw [Gb rfl _ _ _ rfl]
 simp only [wA]
 have a:cu .w (.t (.j s::r))=k0 true:=rfl
 have c:cu .str (.s s)=k0 true:=rfl
 have b:=ur (r.e+1) l h
 by_cases e:r.e+1=l
 .rw [decide_eq_true e]at b ⊢
  rw [xa (by simp! [a,wg,ao,Aa6,b])]
  rw [ja (w:= .b (s==w)) (h1:=h) (Ja rfl (by simp! [ae,Je,c,wb])),Ga _ _ _ rfl]
  rfl
 .rw [decide_eq_false e]at b ⊢
  rw [we (by simp! [a,wg,ao,Aa6,b]) rfl,Ga _ _ _ rfl]
  rfl
section
variable {n:Nat}{K T:Y0 Tx}{S:Y0 Sy}{h:AH}
def LF (m r)(c:S[j]? =some s) (e:call prog (m+1) "_law_told" [.i n,.r r,.v (aQ s)] h= .j (.v (aJ (some false))) h):call prog (m+2) "_law_walks" [.v (bD K T S),.i n,.r r,.t [.j Qy,.n j]] h= .j (.b true) h:=by
 rw [Gb rfl _ _ _ rfl]
 simp only [xp]
 have d:=(Aa1.p c).1
 have l:=ju m (.n j) h rfl
 have b:a8 (S.j aQ) (j:Int)=k0 (aQ s):=by rw [Wd _ _ (by rw [Aa];exact d),Ac1,c];rfl
 have a:cu .w (.t [.j Qy,.n j])=k0 true:=rfl
 have g:Gr .j (.i (2)) (.v (.o 0)) h=k0 false:=rfl
 have f:Gr .j (.i (2)) (.v (.o 2)) h=k0 true:=rfl
 have i:((0:Int)<=(j:Int)):=by omega
 have k:((j:Int)<(S.e:Int)):=by omega
 rw [xa (by simp! [a,wg,ao,Aa6,Ad7,g])]
 rw [ja ((xu (h1:=h) (by simp! [ae,Wh,wb,ao,show(Qy== kJ)=u0 from rfl,wg,Aa6,Ad7,f])).j ?_),Ga _ _ _ rfl]
 rw [xa (by simp! [ae,Xg,l,Zw,ao,j6,Z1,i,k,decide_true,wg,Aa])]
 exact ja (Ja rfl (by simp! [ae,Xg,b,e,(lU _ k9 h),ao];rfl))
def Ff (m r)(e:call prog (m+1) "_law_split" [.i n,.r r,.t [dn,da,db]] h= .j (.j [.p h.e,.p (h.e+1)]) h2) (b:h2.A h.e=h) (k:h.e<=h2.e) (f:Gx h=true)
 (l:call prog (m+1) "_law_walks" [.v (bD K T S),.i n,.r h.e,.v p1] h2= .j (.b true) h2) (o:call prog (m+1) "_law_walks" [.v (bD K T S),.i n,.r (h.e+1),.v p2] h2= .j (.b true) h2):
 call prog (m+2) "_law_walks" [.v (bD K T S),.i n,.r r,.t [.j Qj,dn,da,db,p1,p2]] h= .j (.b true) h:=by
 rw [Gb (d:=xp) rfl _ _ _ rfl]
 simp only [xp]
 have a:cu .w (.t [.j Qj,dn,da,db,p1,p2])=k0 true:=rfl
 have j:Gr .j (.i (6)) (.v (.o 0)) h=k0 false:=rfl
 have i:Gr .q (.i (6)) (.v (.o 6)) h=k0 false:=rfl
 have q:Gr .q (.s Qj) (.s mi) h=k0 false:=rfl
 rw [xa (by simp! [a,wg,ao,Aa6,Ad7,j])]
 rw [xa (by simp! [ae,Je,wb,ao,show(Qj== kJ)=k9 from rfl]),xa (by simp! [ae,Je,q,ao,wg,Aa6,Ad7,i])]
 have c:gN (.t [D.str Qj,dn,da,db,p1,p2]) (k0 1) (k0 4) h= .j (.t [dn,da,db]) h:=rfl
 refine fx (by simp! [c,e];rfl) ?_
 rw [xa (by simp! [])]
 have a4:a8 [D.str Qj,dn,da,db,p1,p2] 4=k0 p1:=rfl
 have a5:a8 [D.str Qj,dn,da,db,p1,p2] 5=k0 p2:=rfl
 rw [ja (w:= .b u0) (h1:=h2) (Ja rfl (by simp! [Zq,Wh,Xg,ae,a4,a5,l,o]))]
 obtain⟨s,g,p⟩:=nM (d:= .C u0) (h:=h2) (n:=h.e) rfl k (by rw [b];exact f)
 rw [g,p,b]
end
section
variable {n:Nat}{K T:Y0 Tx}{S:Y0 Sy}{h:AH}{ro low high:Nat}
abbrev kl (ro:Nat) (p:D) (b a:Nat) (x y:Y1 W):Sl:= [k0 (.r ro),sv p,si b,si a,x,y]
def Fv (m)(C:h[ro]? =some (.j "Cases" (cK n K T S))) (g:j<S.e) (e:call prog (m+2) "Cases.truth" [.r ro,.i j,.i low,.i high] h= .j (.v (aJ o)) h):call prog (m+3) "Cases.is_shown" [.r ro,.t [.j Qy,.n j],.i low,.i high] h= .j (.b (o==some false)) h:=by
 rw [Gb rfl _ _ _ rfl]
 simp only [Jf]
 have b:call prog _ "is_tuple_of" [.t [.j Qy,.n j],.s kJ,.v (.o 2)] h= .j (.b true) h:=jC (m+1) Qy 2 h
 rw [ja ((xu (h1:=h) (by simp! [b])).j ?_),Ga _ _ _ rfl]
 refine(za (by simp! [ae,Xg];rfl)).j ?_
 have d:=WC m (.n j) S.e h rfl
 rw [show Zr _ S.e=u0 by rw [Zr,Aa0,decide_eq_true_eq,decide_eq_true_eq];omega]at d
 have c:=xl (F:=(u9 (m+2))) (τ:=kl ro (.q [.j Qy,.n j]) low high (si j) y0) (i:=0) (f:= "sayings") C rfl rfl
 have a:=ZM (F:=(u9 (m+2))) (τ:=kl ro (.q [.j Qy,.n j]) low high (si j) y0) (i:=0) (m:= "truth") (q:= "Cases.truth") (es:= .j .v4 (.b .J .K)) (ws:= [.i j,.i low,.i high]) C rfl rfl (by simp! [])
 have a:=a.j e
 have dt:=lU o k9 h
 generalize E.aL _ _ _=X at c ⊢
 generalize E.bS _ _ _ _ _=Y at a ⊢
 exact ja (Ja rfl (by simp_all))
def IU (i):((2 ^ i &&& high)-((2 ^ i &&& high) &&& low)=0)↔ ¬(high.j i=u0/\low.j i=k9):=by
 rw [sub_zero]
 constructor
 .rintro z ⟨c,b⟩
  have:=z i (by simp_all)
  rw [b]at this
  cases this
 .intro z k a
  rw [Ah2,Ae0,Aa0,decide_eq_true_eq]at a
  obtain⟨rfl,a⟩:=a
  cases q:low.j i with
  | true=>rfl
  | false=>exact absurd ⟨a,q⟩ z
def BX (m)(C:h[ro]? =k0 (.j "Cases" (cK n K T S)))(e:call prog (m+1) "Cases.bit_of" [.r ro,.v dn,.v da,.v db] h= .j (.i v) h)(j:call prog (m+1) "Cases.is_shown" [.r ro,.v p1,.i (low ||| v),.i high] h= .j (.b b1) h) (k:call prog (m+1) "Cases.is_shown" [.r ro,.v p2,.i low,.i (high-(high &&& v))] h= .j (.b b2) h):
 call prog (m+2) "Cases.is_shown" [.r ro,.t [.j Qj,dn,da,db,p1,p2],.i low,.i high] h= .j (.b (!decide ((v &&& high)-((v &&& high) &&& low)=0)&&(b1&&b2))) h:=by
 rw [Gb (d:=Jf) rfl _ _ _ rfl]
 simp only [Jf]
 have c:call prog _ "is_tuple_of" [.t [.j Qj,dn,da,db,p1,p2],.s kJ,.v (.o 2)] h= .j (.b false) h:=jC m Qy 2 h
 have f:call prog _ "is_tuple_of" [.t [.j Qj,dn,da,db,p1,p2],.s mi,.v (.o 6)] h= .j (.b true) h:=jC m Qj 6 h
 rw [xa (by simp! [c]),xa (by simp! [f,ao])]
 have g:a8 [D.str Qj,dn,da,db,p1,p2] 1=k0 dn:=rfl
 have a2:a8 [D.str Qj,dn,da,db,p1,p2] 2=k0 da:=rfl
 have a3:a8 [D.str Qj,dn,da,db,p1,p2] 3=k0 db:=rfl
 have a4:a8 [D.str Qj,dn,da,db,p1,p2] 4=k0 p1:=rfl
 have a5:a8 [D.str Qj,dn,da,db,p1,p2] 5=k0 p2:=rfl
 have a:=ZM (F:=(u9 (m+1))) (τ:=kl ro (.q [.j Qj,dn,da,db,p1,p2]) low high y0 y0) (i:=0) (m:= "bit_of") (q:= "Cases.bit_of") (es:= .j (.A .B (.o 1)) (.b (.A .B (.o 2)) (.A .B (.o 3)))) (ws:= [.v dn,.v da,.v db]) C rfl rfl (by simp! [ae,g,a2,a3])
 have a:=a.j e
 rw [za (τ1:=kl ro (.q [.j Qj,dn,da,db,p1,p2]) low high y0 (si v)) (h1:=h) (by
  generalize E.bS _ _ _ _ _=X at a ⊢
  simp! [a])]
 have b:Gn (u9 (m+1)) (.y .j (.w .j (.w .j .v5 .K) (.inv .J)) (.o 0)) (kl ro (.q [.j Qj,dn,da,db,p1,p2]) low high y0 (si v)) h= .j (y9 ((v &&& high)-((v &&& high) &&& low)=0)) h:=by
  simp! [jc,Wc,xL,og]
 cases q:y9 ((v &&& high)-((v &&& high) &&& low)=0)
 .rw [q]at b
  rw [xa b]
  rw [ja (w:= .b (b1&&b2)) (h1:=h) (Ja rfl (QZ ((ZM (F:=(u9 (m+1))) (τ:=kl ro (.q [.j Qj,dn,da,db,p1,p2]) low high none (si v)) (i:=0) (m:= "is_shown") (q:= "Cases.is_shown") (es:= .j (.A .B (.o 4)) (.b (.w .bor .J .v5) .K)) (ws:= [.v p1,.i (low ||| v),.i high]) C rfl rfl (by simp! [ae,a4,Zn,xm])).j j) ((ZM (F:=(u9 (m+1))) (τ:=kl ro (.q [.j Qj,dn,da,db,p1,p2]) low high none (si v)) (i:=0) (m:= "is_shown") (q:= "Cases.is_shown") (es:= .j (.A .B (.o 5)) (.b .J (.w .j .K (.inv .v5)))) (ws:= [.v p2,.i low,.i (high-(high &&& v))]) C rfl rfl (by simp! [ae,a5,jc,xL])).j k))),Ga _ _ _ rfl]
  rfl
 .rw [q]at b
  rw [we (w:= .b k9) b rfl,Ga _ _ _ rfl]
  rfl
end
def vK (h:Sub a w) (q:Sub b w):Sub (a ||| b) w:=λk z=>by
 rw [Ae8,Ae7]at z
 exact z.j (h k) (q k)
def tI (h:Sub w c) (q:w.j i=k9):Sub w (c-(c &&& 2 ^ i)):=λk z=>by
 rw [Wf.aT,h k z,Ae0,Ae5,Ag1]
 refine decide_eq_false λe=> ?_
 rw [← e,q]at z
 cases z
def uT (p:Gx h=u0) (a b):Gx (h++ [.p a,.p b])=true:=by
 rw [Gx,List.all_append,show h.K Cell.pure=u0 from p];rfl
inductive Pp (n:Nat) (K T:List Tx) (S:List Sy):D->Prop where
 | brk {j:Nat}(h:j<S.e):Pp n K T S (.q [.j Qy,.n j])
 | ef {i x y:Nat}{t:Tx}{p1 p2:D}(h:(b3 n K T)[i]? =k0 (t,x,y)) (h1:Pp n K T S p1) (h2:Pp n K T S p2):Pp n K T S (.q [.j Qj,.j t,.n x,.n y,p1,p2])
def Pp.nr {S:Y0 Sy}(h:Pp n K T S p):Gd p=true:=by
 induction h with
 | brk _=>rfl
 | ef _ _ _ a b=>simp [a,b]
structure Wk (n:Nat) (K T:List Tx) (S:List Sy) (c:Nat) (p:D) (low high r:Nat) (h:AH):Prop where
 mW:Gx h=true-> ∀m,c<=m->call prog m "_law_walks" [.v (bD K T S),.i n,.r r,.v p] h= .j (.b true) h
 snd: ∀w,Sub low w->Sub w high-> ∃s∈S,∀o,Td (wo n K T w) (wo n K T w) s o->o=k0 k9
def Lw (n:Nat) (K T:Y0 Tx) (S:Y0 Sy) (c:Nat) (p:D) (b a:Nat):Prop:= ∀f r h,Dc (wo n K T b) (wo n K T a) f r h->Wk n K T S c p b a r h
section
variable {n q c low high:Nat}{K T:Y0 Tx}{S:Y0 Sy}
def Lw.up (w:Lw n K T S c p low high) (l:c<=c'):Lw n K T S c' p low high:=λf r h P=>⟨λb m a=>(w f r h P).mW b m (Ab5 l a),(w f r h P).snd⟩
def Lw.brk (l: ∀s∈S,s.y (K++T)/\s.j<=q)(g:S[j]? =k0 s) (b:Td (wo n K T low) (wo n K T high) s (k0 k9)):Lw n K T S (q+10) (.q [.j Qy,.n j]) low high:=λf r h P=>by
 have c:=Ac4 g
 obtain⟨wf,dp⟩:=l s c
 refine⟨λ_ m p=> ?_,λw i o=>⟨s,c,λd a=>Td.mono (lV i) (lV o) (Le.refl _) s _ d k9 b a rfl⟩⟩
 obtain⟨k,rfl⟩:=nk m 2 (by lia)
 obtain⟨d,a,e⟩:=A3 P s (k+1) (by lia) wf
 rw [a.uniq b]at e
 exact LF k r g e
theorem Lw.ef (g:bE n K T)(a:(b3 n K T)[i]? =k0 (t,x,y)) (p:high.j i=u0) (z:low.j i=k9) (F:3<=c) (D:Lw n K T S c p1 (low ||| 2 ^ i) high) (C:Lw n K T S c p2 low (high-(high &&& 2 ^ i))):Lw n K T S (c+1) (.q [.j Qj,.j t,.n x,.n y,p1,p2]) low high:=λf r h P=>by
 obtain⟨-,u,v,b⟩:=Zl g a low
 obtain⟨A,l2⟩:=P.ef g a p z
 have B:(K++T).e<=100:=by rw [Aa5];have:=g.k4;have:=g.t4;omega
 have s:=D _ _ _ (P.yes g a (r':=h.e) (h':=h++ [.p (aR (K++T) (zW f t ((f t).1 ||| 2 ^ (x*n+y),(f t).2))),.p (aR (K++T) (zW f t ((f t).1,(f t).2-2 ^ (x*n+y))))]) (by simp))
 have q:=C _ _ _ (P.no g a p (r':=h.e+1) (h':=h++ [.p (aR (K++T) (zW f t ((f t).1 ||| 2 ^ (x*n+y),(f t).2))),.p (aR (K++T) (zW f t ((f t).1,(f t).2-2 ^ (x*n+y))))]) (by simp))
 refine⟨λd m E=> ?_,λw e l=> ?_⟩
 .obtain⟨k,rfl⟩:=nk m 3 (by omega)
  exact Ff _ r (LO k P.ad g.n4 u B v b A l2) (by simp) (by simp) d (s.mW (uT d _ _) _ (by omega)) (q.mW (uT d _ _) _ (by omega))
 .cases o:w.j i with
  | true=>exact s.snd w (vK e λk j=>by
   rw [Ae0,decide_eq_true_eq]at j
   rw [← j];exact o) l
  | false=>exact q.snd w e (tI l o)
def walk (g:bE n K T) (w: ∀s∈S,s.y (K++T)/\s.j<=q)(F:Pp n K T S p): ∀d,dep p<=d-> ∀low high:Nat,low<2 ^ bN n K T->high<2 ^ bN n K T-> ∃b:Bool,(∀ m ro (h':AH),d+q+12<=m->h'[ro]? =some (.j "Cases" (cK n K T S))->call prog m "Cases.is_shown" [.r ro,.v p,.i low,.i high] h'= .j (.b b) h')/\(b=true->Lw n K T S (d+q+12) p low high):=by
 induction F with
 | @brk j B=>
  intro d A low high c a
  obtain⟨s,f⟩: ∃s,S[j]? =k0 s:=⟨S[j],Aa4 B⟩
  obtain⟨wf,dp⟩:=w s (Ac4 f)
  obtain⟨o,D, -⟩:=xV (q+9) j low high (ro:=0) (h:= [Cell.obj "Cases" _]) g rfl c a f (by lia) wf
  refine⟨o==k0 k9,λm ro h' E C=> ?_,λz=>(Lw.brk w f (eq_of_beq z▸D)).up (by lia)⟩
  obtain⟨k,rfl⟩:=nk m 3 (by lia)
  obtain⟨Q,u,e⟩:=xV (k+1) j low high g C c a f (by lia) wf
  rw [u.uniq D]at e
  exact Fv k C B e
 | @ef i x y t R U v _ _ l r=>
  intro d A low high c a
  simp only [dep,GG]at A
  obtain⟨d,rfl⟩: ∃e,d=e+1:=⟨d-1,by lia⟩
  have O:i<bN n K T:=by
   have:=(Aa1.p v).1
   rw [ZE]at this
   exact this
  obtain⟨G,M,N⟩:=l d (by lia) _ high (pG c (Ao3 (by decide) O)) a
  obtain⟨J,L,P⟩:=r d (by lia) low _ c (Ah6 (Ap2 _ _) a)
  refine⟨!y9 ((2 ^ i &&& high)-((2 ^ i &&& high) &&& low)=0)&&(G&&J),λm ro h' E C=> ?_,λz=> ?_⟩
  .obtain⟨k,rfl⟩:=nk m 3 (by lia)
   exact BX _ C (Fj k g C v) (M _ ro h' (by lia) C) (L _ ro h' (by lia) C)
  .rw [Aa0,Aa0,Ag1,decide_eq_false_iff_not]at z
   obtain⟨I,H⟩:=Classical.not_not.p λy=>z.1 ((IU i).q y)
   rw [show d+1+q+12=d+q+12+1 by lia]
   exact Lw.ef g v I H (by lia) (N z.2.1) (P z.2.2)
end
abbrev i9:Y0 Tx:= [XG,zc,Xj,w5,Qa,qc,xb,Qh]
abbrev ic (r:Nat) (N:Y0 Tx) (g p:Nat) (x4 x5:Y1 W):Sl:= [k0 (.r r),k0 (.l (N.j .j)),si g,si p,x4,x5]
def iZ (X Y)(e:Gm τ i=k0 (.s s)):Gn F (.or (.y .j (.var i) (.j X)) (.y .j (.var i) (.j Y))) τ h= .j (s==X||s==Y) h:=by
 rw [Gn,lF (a:=s==X) (b:=s==Y) (by simp only [eval,Gi,e,R.af,wb,R.ar,ao]) (by simp only [eval,Gi,e,R.af,wb,R.ar,ao]),R.af]
 rfl
def Lc (k)(B:N.e<=8) (e:h[r]? =k0 (ai ns i v)): ∃ f v',f.wf N/\f.dp<=2/\execs (u9 (k+4)) (match bj.j with | .j _ (.j _ r)=>r | r=>r) (ic r N g p y0 y0) h= .j (.v (dI f)) (h.w r (ai ns i v')):=by
 have J:r<h.e:=(Aa1.p e).1
 have x: ∀w,_[r]? =k0 (ai ns i w):=λw=>Ab6 J
 obtain⟨a,v1,d,z,e1⟩:=vV B 1 _ h v e
 have e1:call prog (k+4) "_law_expression" [.r r,.l (N.j .j),.v (.o 1)] h= .j (.v (aY a)) (h.w r (ai ns i v1)):=by
  rw [show 1+(k+1)+2=k+4 by omega]at e1
  exact e1
 have K:Gj .w (p:Int) 8=k0 _:=pq p 8 (by decide)
 have pl:p % 8<8:=Aj4 _ (by decide)
 obtain⟨w,E⟩: ∃w,i9[p % 8]? =k0 w:=⟨i9[p % 8],Aa4 pl⟩
 have A:a8 [D.str XG,.j zc,.j Xj,.j w5,.j Qa,.j qc,.j xb,.j Qh] ((p % 8:Nat):Int)=k0 (.j w):=by
  show a8 (i9.j D.str) _=_
  rw [Wd _ _ (by rw [Aa];exact pl),Ac1,E];rfl
 have o:w=XG\/w=zc\/w=Xj\/w=w5\/w∈ [Qa,qc,xb,Qh]:=by
  have:=Ac4 E
  simpa using this
 simp only [bj]
 have H: ∀X,execs (u9 _) X _ _=execs (u9 (k+4)) (.j (.ag 5 (.A (.u (.j (.j gq) (.j (.j km) (.g (.j gF) (.j iy) (.j fk) (.j ir) (.j nC) (.j yy))))) (.w .w .K (.o 8)))) (.j (.ag 4 (.p "_law_expression" (.c .z .B (.o 1)))) X)) (ic r N g p none none) h:=fun X=>by
  rw [za (τ1:=ic r N g p y0 (k0 (.s w))) (h1:=h) (by simp! [K,JJ,A])]
  rw [za (τ1:=ic r N g p (sv (aY a)) (k0 (.s w))) (h1:=h.w r (ai ns i v1)) (by simp! [e1])]
 rw [← H]
 have two:(w==XG||w==zc)=true-> ∃ b v',b.y N/\b.j<=2/\ ∀X,execs (u9 (k+4)) (.j (.r (.or (.y .j .v5 (.j gq)) (.y .j .v5 (.j km))) (.tup (.c .v5 .v4 (.p "_law_expression" (.c .z .B (.o 1)))))) X) (ic r N g p (sv (aY a)) (some (.s w))) _= .j (.t [.j w,aY a,aY b]) (h.w r (ai ns i v')):=fun q=>by
  obtain⟨b,v2,l,C,e2⟩:=vV B 1 _ _ v1 (x v1)
  have e2:call prog (k+4) "_law_expression" [.r r,.l (N.j .j),.v (.o 1)] (h.w r (ai ns i v1))= .j (.v (aY b)) (h.w r (ai ns i v2)):=by
   rw [show 1+(k+1)+2=k+4 by omega,Ae1]at e2
   exact e2
  refine⟨b,v2,l,by omega,λX=> ?_⟩
  refine ja ((xu (h1:=h.w r (ai ns i v1)) ?_).j (ja (Ja rfl ?_)))
  .rw [iZ XG zc rfl,q]
  .simp! [e2]
 rcases o with rfl | rfl | rfl | rfl | o
 .obtain⟨b,v2,l,C,e2⟩:=two rfl
  exact⟨.dW a b,v2,⟨d,l⟩,by simp only [Fc.dp];omega,e2 _⟩
 .obtain⟨b,v2,l,C,e2⟩:=two rfl
  exact⟨.eA a b,v2,⟨d,l⟩,by simp only [Fc.dp];omega,e2 _⟩
 .refine⟨.d8 a,v1,d,Ap3 z,?_⟩
  rw [xa (iZ (s:=Xj) XG zc rfl)]
  exact we (iZ (s:=Xj) Xj w5 rfl) (Ja rfl (by simp! [];rfl))
 .refine⟨.ak a,v1,d,Ap3 z,?_⟩
  rw [xa (iZ (s:=w5) XG zc rfl)]
  exact we (iZ (s:=w5) Xj w5 rfl) (Ja rfl (by simp! [];rfl))
 .obtain⟨c,v2,u,e2⟩:=Zf (k+3) (x v1) (m:=90) (by decide) (by decide)
  rw [Ae1]at e2
  have e2:call prog (k+4) "_law_draw" [.r r,.v (.o 90)] (h.w r (ai ns i v1))= .j (.i c) (h.w r (ai ns i v2)):=e2
  obtain⟨n,v3,F,t⟩:=Zf (k+3) (x v2) (m:=8) (by decide) (by decide)
  rw [Ae1]at t
  have t:call prog (k+4) "_law_draw" [.r r,.v (.o 8)] (h.w r (ai ns i v2))= .j (.i n) (h.w r (ai ns i v3)):=t
  have L:((10:Int)+(c:Int))=((10+c:Nat):Int):=rfl
  obtain⟨j,I⟩: ∃j,[0,1,1,2,2,3,4,10+c][n]? =k0 j:=⟨_,Aa4 (show n< [0,1,1,2,2,3,4,10+c].e from F)⟩
  have y:a8 [D.int 0,.o 1,.o 1,.o 2,.o 2,.o 3,.o 4,.n (10+c)] (n:Int)=k0 (.n j):=by
   show a8 (aC [0,1,1,2,2,3,4,10+c]) _=_
   rw [Wd _ _ (by rw [Aa];exact F),Ac1,I];rfl
  refine⟨.cnt w j a,v3,⟨o,d⟩,Ap3 z,?_⟩
  have G:(w==XG||w==zc)=k9/\(w==Xj||w==w5)=false:=by
   have:w=Qa\/w=qc\/w=xb\/w=Qh:=by simpa using o
   rcases this with rfl | rfl | rfl | rfl<;>exact⟨rfl,rfl⟩
  rw [xa (by rw [iZ XG zc rfl,G.1])]
  rw [xa (by rw [iZ Xj w5 rfl,G.2])]
  exact ja (Ja rfl (by simp! [e2,Zc,L,t,JJ,y];rfl))
def FJ (F:N.e<=8): ∀ g k h v,h[r]? =k0 (ai ns i v)-> ∃ s v',s.y N/\s.j<=g+2/\call prog (g+k+5) "_law_saying" [.r r,.l (N.j .j),.i g] h= .j (.v (aQ s)) (h.w r (ai ns i v')):=by
 have leaf: ∀ g K h v,h[r]? =k0 (ai ns i v)-> ∀ p v1,(g=0\/ ¬7<p)->call prog (K+4) "_law_draw" [.r r,.v (.o 11)] h= .j (.i p) (h.w r (ai ns i v1))-> ∃ s v',s.y N/\s.j<=g+2/\call prog (K+5) "_law_saying" [.r r,.l (N.j .j),.i g] h= .j (.v (aQ s)) (h.w r (ai ns i v')):=by
  intro g K h v e p v1 q e1
  have n:r<h.e:=(Aa1.p e).1
  obtain⟨f,v2,wf,T,e2⟩:=Lc K F (Ab6 n)
  rw [Ae1]at e2
  refine⟨.p f,v2,wf,by simp only [Sy.dp];omega,?_⟩
  rw [Gb rfl _ _ _ rfl]
  simp only [bj]at e2 ⊢
  refine fx (by simp! [e1];rfl) ?_
  rw [xa (by
   have c:=hZ 0 g (h.w r (ai ns i v1))
   have c:Gr .gt (.i g) (.v (.o 0)) (h.w r (ai ns i v1))=k0 (y9 (0<g)):=c
   have j:Gr .gt (.i p) (.v (.o 7)) (h.w r (ai ns i v1))=k0 (y9 (7<p)):=hZ 7 p _
   rw [Gn,QZ (a:=y9 (0<g)) (b:=y9 (7<p)) (by simp! [c]) (by simp! [j]),R.af]
   have:(y9 (0<g)&&y9 (7<p))=false:=by
    rw [Bool.and_eq_false_iff,decide_eq_false_iff_not,decide_eq_false_iff_not]
    rcases q with q | q
    .exact .p (by omega)
    .exact .q q
   rw [this]
   rfl),e2]
  exact Ga _ h _ (Ad3 ..)
 intro g
 induction g with
 | zero=>
  intro k h v e
  obtain⟨p,v1,G,e1⟩:=Zf _ e (m:=11) (by decide) (by decide)
  rw [show 0+k+5=k+5 by omega]
  have e1:call prog _ "_law_draw" [.r r,.v _] h= .j _ _:=e1
  exact leaf 0 k h v e p v1 (.p rfl) e1
 | succ g E=>
  intro k h v e
  have n:r<h.e:=(Aa1.p e).1
  have u: ∀w,_[r]? =k0 (ai ns i w):=λw=>Ab6 n
  have A: ∀w,(h.w r (ai ns i w)).e=h.e:=λw=>Ad3 ..
  rw [show g+1+k+5=(g+k+1)+5 by omega]
  obtain⟨p,v1,G,e1⟩:=Zf _ e (m:=11) (by decide) (by decide)
  by_cases q:7<p
  .have e1:call prog (g+k+5) "_law_draw" [.r r,.v (.o 11)] h= .j (.i p) (h.w r (ai ns i v1)):=e1
   obtain⟨s,v2,z,S,e2⟩:=E k _ v1 (u v1)
   rw [Ae1]at e2
   have o:(((g+1:Nat):Int)-1)=((g:Nat):Int):=by omega
   rw [Gb (d:=bj) rfl _ _ _ rfl]
   show ∃s v',_/\_/\Gw _ (execs _ _ [k0 (.r r),k0 (.l (N.j .j)),si (g+1),y0,y0,y0] h)=_
   simp only [bj]
   rw [za (τ1:=ic r N (g+1) p y0 y0) (h1:=h.w r (ai ns i v1)) (by simp! [e1])]
   have I: ∀a X,execs (u9 (g+k+5)) (.j (.iff (.and (.y .gt .J (.o 0)) (.y .gt .K (.o 7))) a .p) X) (ic r N (g+1) p y0 y0) (h.w r (ai ns i v1))=(execs (u9 (g+k+5)) a (ic r N (g+1) p y0 y0) (h.w r (ai ns i v1))).seq λQ h=>execs (u9 (g+k+5)) X Q h:=λa X=>by
    rw [execs,xu (h1:=h.w r (ai ns i v1))]
    have c:Gr .gt (.i (g+1)) (.v (.o 0)) (h.w r (ai ns i v1))=k0 (y9 (0<g+1)):=hZ 0 (g+1) _
    have j:Gr .gt (.i p) (.v (.o 7)) (h.w r (ai ns i v1))=k0 (y9 (7<p)):=hZ 7 p _
    rw [Gn,QZ (a:=y9 (0<g+1)) (b:=y9 (7<p)) (by simp! [c]) (by simp! [j]),R.af,decide_eq_true q,decide_eq_true (by omega)]
    rfl
   rw [I]
   rw [za (τ1:=ic r N (g+1) p (sv (aQ s)) y0) (h1:=h.w r (ai ns i v2)) (by simp! [Qe,o,e2])]
   have x:Gr .j (.i p) (.v (.o 8)) (h.w r (ai ns i v2))=k0 (y9 (p=8)):=xn p 8 _
   by_cases y:p=8
   .refine⟨.neg s,v2,z,by simp only [Sy.dp];omega,?_⟩
    rw [we (w:= .v (aQ (.neg s))) (by simp! [x,decide_eq_true y]) (Ja rfl (by simp! [];rfl)),O.ck]
    exact Ga _ h _ (A v2)
   .rw [xa (by simp! [x,decide_eq_false y])]
    obtain⟨C,v3,l,H,B⟩:=E k _ v2 (u v2)
    rw [Ae1]at B
    obtain⟨f,L,J,t,M,P⟩: ∃f:Sy->Sy->Sy,(∀ a b,(f a b).j=max a.j b.j+1)/\(∀ a b,a.y N->b.y N->(f a b).y N)/\ ∃t,a8 [D.str Wx,.j xA] ((p:Int)-9)=k0 (.j t)/\ ∀a b,aQ (f a b)= .q [.j t,aQ a,aQ b]:=by
     have:p=9\/p=10:=by omega
     rcases this with rfl | rfl
     .exact⟨.cF,λ_ _=>rfl,λ_ _ h g=>⟨h,g⟩,Wx,rfl,λ_ _=>rfl⟩
     .exact⟨.cE,λ_ _=>rfl,λ_ _ h g=>⟨h,g⟩,xA,rfl,λ_ _=>rfl⟩
    refine⟨f s C,v3,J _ _ z l,by rw [L];omega,?_⟩
    rw [ja (w:= .v (aQ (f s C))) (h1:=h.w r (ai ns i v3)) (Ja rfl (by rw [P];simp! [Qe,JJ,M,o,B])),O.ck]
    exact Ga _ h _ (A v3)
  .have e1:call prog (g+k+1+4) "_law_draw" [.r r,.v (.o 11)] h= .j (.i p) (h.w r (ai ns i v1)):=e1
   exact leaf (g+1) (g+k+1) h v e p v1 (.q q) e1
noncomputable abbrev c9 (r:Nat) (w:D) (M:Nat) (N:Y0 Tx) (L:Y0 D) (x:Y1 W):Sl:= [k0 (.r r),sv w,si M,k0 (.l (N.j .j)),k0 (.j L),x]
def HU (k)(y:N.e<=8) (D:ns.e<=63) (e:h[r]? =k0 (ai ns i v)) (K:L.e=j) (H:j<5) (E: ∀s∈L,s.y N/\s.j<=4+j): ∃ s O v',s.y N/\s.j<=5+j/\execs (u9 (k+7)) Zi (c9 r w M N (L.j aQ) (si j)) h= .p (c9 r w M N ((L++ [s]).j aQ) (si j)) (h.w r (ai ns O v')):=by
 have B:r<h.e:=(Aa1.p e).1
 have f: ∀i w,_[r]? =k0 (ai ns i w):=λi w=>Ab6 B
 obtain⟨v1,e1⟩:=sy (k+6) D e
 obtain⟨s,v2,u,F,e2⟩:=FJ y 1 _ _ v1 (f (i+1) v1)
 have e2:call prog (k+7) "_law_saying" [.r r,.l (N.j .j),.v (.o 1)] (h.w r (ai ns (i+1) v1))= .j (.v (aQ s)) (h.w r (ai ns (i+1) v2)):=by
  rw [Ae1,show 1+(k+1)+5=k+7 by omega]at e2
  exact e2
 unfold Zi
 rw [za (τ1:=c9 r w M N (L.j aQ) (si j)) (h1:=h.w r (ai ns (i+1) v1)) (by simp! [e1])]
 have C:(L.j aQ).e<bp:=by rw [Gg,Aa];omega
 rw [za (τ1:=c9 r w M N ((L++ [s]).j aQ) (si j)) (h1:=h.w r (ai ns (i+1) v2)) (by
  simp! [e2,C,if_true]
  rw [Af1]
  rfl)]
 have n: ∀z:AH,Gr .gt _ (.v (.o 0)) z=k0 _:=hZ 0 j
 by_cases q:0<j
 .obtain⟨d,v3,I,c⟩:=Zf _ (f (i+1) v2) (m:=9) (by decide) (by decide)
  rw [Ae1]at c
  have c:call prog (k+7) "_law_draw" [.r r,.v (.o 9)] _= .j _ _:=c
  have t:Gn (u9 (k+7)) (.and (.y .gt .v5 (.o 0)) (.y .j (.p "_law_draw" (.b .z (.o 9))) (.o 0))) (c9 r w M N ((L++ [s]).j aQ) (si j)) (h.w r (ai ns (i+1) v2))= .j (decide (d=0)) (h.w r (ai ns (i+1) v3)):=by
   simp! [n,decide_eq_true q,c,og]
  by_cases l:d=0
  .obtain⟨x,v4,J,p⟩:=Zf (k+6) (f (i+1) v3) (m:=j) q (by omega)
   rw [Ae1]at p
   have g:x<L.e:=by omega
   have b:a8 ((L++ [s]).j aQ) (x:Int)=k0 (aQ L[x]):=by
    rw [Wd _ _ (by rw [Aa,Aa5];omega),Ac1,Ac5 g,Aa4 g];rfl
   obtain⟨A,G⟩:=E _ (Al5 g)
   refine⟨.neg L[x],i+1,v4,A,by simp only [Sy.dp];omega,?_⟩
   have a:d4 ((L++ [s]).j aQ).e (-1)=k0 L.e:=by
    rw [Aa,Aa5]
    simp [d4]
    omega
   have o:((L++ [s]).j aQ).w L.e (.q [.j QK,aQ L[x]])=(L++ [Sy.neg L[x]]).j aQ:=by
    rw [Af1,Af1,An4 _ _ (by rw [Aa];omega),Aa,Al2]
    rfl
   rw [za (τ1:=c9 r w M N ((L++ [Sy.neg L[x]]).j aQ) (si j)) (h1:=h.w r (ai ns (i+1) v4)) ((xu (h1:=h.w r (ai ns (i+1) v3)) (by rw [t,decide_eq_true l])).j ?_),execs]
   rw [za (τ1:=c9 r w M N ((L++ [Sy.neg L[x]]).j aQ) (si j)) (h1:=h.w r (ai ns (i+1) v4)),execs]
   generalize (L++ [s]).j aQ=Z at b a o ⊢
   simp! [p,DG,b,a,o,Int.reduceNeg]
  .refine⟨s,i+1,v3,u,by omega,?_⟩
   rw [za (my (h1:=h.w r (ai ns (i+1) v3)) (by rw [t,decide_eq_false l])),execs]
 .refine⟨s,i+1,v2,u,by omega,?_⟩
  rw [xa (by simp! [n,decide_eq_false q]),execs]
theorem vL (k)(n:N.e<=8) (p:ns.e<=63): ∀ c j i v (h:AH) (L:Y0 Sy) (x:Y1 W),h[r]? =k0 (ai ns i v)->L.e=j->j+c<=5->(∀ s∈L,s.y N/\s.j<=4+j)-> ∃(d:Y0 Sy) (m:Nat) (g:Int) (l:Y1 W),(∀ s∈d,s.y N/\s.j<=4+(j+c))/\d.e=j+c/\Gp (Gq [5] u0) (λτ h=>execs (u9 (k+7)) Zi τ h) ((Ak6 j c).j λ(x:Nat)=>D.n x) (c9 r w M N (L.j aQ) x) h= .p (c9 r w M N (d.j aQ) l) (h.w r (ai ns m g))
 | 0,j,i,v,h,L,x,e,f,_,b=>⟨L,i,v,x,b,f,by
  rw [List.range'_zero,Ae9,zK]
  congr 1
  obtain⟨o,e⟩:=Aa1.p e
  rw [← e,List.set_getElem_self]⟩
 | c+1,j,i,v,h,L,x,e,f,A,b=>by
  have o:r<h.e:=(Aa1.p e).1
  obtain⟨s,i1,v1,y,z,e1⟩:=HU k (M:=M) (w:=w) n p e f (by omega) b
  obtain⟨d,m,g,l,u,B,q⟩:=vL k (M:=M) (w:=w) n p c (j+1) i1 v1 (h.w r (ai ns i1 v1)) (L++ [s]) (si j) (Ab6 o) (by rw [Aa5,f];rfl) (by omega) (λt a=>by
   rcases Ac9.p a with a | a
   .exact⟨(b t a).1,by have:=(b t a).2;omega⟩
   .rw [Ac6.p a];exact⟨y,by omega⟩)
  rw [Ae1]at q
  refine⟨d,m,g,l,λs b=>by have:=u s b;exact⟨this.1,by omega⟩,by omega,?_⟩
  rw [Al4,Ab2,Wa (τ1:=c9 r w M N (L.j aQ) (si j)) rfl e1,q]
def MV (k)(g:bE n K T)(z:M<=5) (t:ns.e<=63) (e:h[r]? =k0 (ai ns i v)): ∃ S j v',(∀ s∈S,s.y (K++T)/\s.j<=9)/\S.e<=M/\call prog (k+8) "_law_theory" [.r r,.v (wD K T),.i M] h= .j (.v (bD K T S)) (h.w r (ai ns j v')):=by
 have q:r<h.e:=(Aa1.p e).1
 obtain⟨d,v1,B,e1⟩:=Zf _ e (m:=M+1) (by omega) (by omega)
 have e1:call prog (k+7) "_law_draw" [.r r,.i _] h= .j _ _:=e1
 have l:(K++T).e<=8:=by rw [Aa5];have:=g.k4;have:=g.t4;omega
 obtain⟨L,j,v',o,a,A,f⟩:=vL k (M:=M) (N:=K++T) (w:=wD K T) l t d 0 i v1 _ [] y0 (Ab6 q) rfl (by omega) (λ_ h=>absurd h Ai4)
 rw [Ae1]at f
 refine⟨L,j,v',λs y=>by have:=a s y;exact⟨this.1,by omega⟩,by omega,?_⟩
 rw [Gb (d:=xt) rfl _ _ _ rfl]
 show Gw _ (execs _ _ [k0 _,sv _,si M,y0,y0,y0] h)=_
 simp only [xt]
 have u:(K.j D.str).e+(T.j D.str).e<=bp:=by rw [Gg,Aa,Aa];have:=g.k4;have:=g.t4;omega
 rw [za (τ1:= [k0 _,sv _,si M,k0 (.l ((K++T).j .j)),y0,y0]) (h1:=h) (by
  simp! [ae,Wh,Xg,jS,u,if_true,ao,ub]
  rw [Af1])]
 rw [za (τ1:=c9 r (wD K T) M (K++T) [] y0) (h1:=h) (by simp! [])]
 have c:((M:Int)+1)=((M+1:Nat):Int):=rfl
 have p:Gs (u9 (k+7)) (.au (.p "_law_draw" (.b .z (.w .u .J (.o 1))))) (c9 r (wD K T) M (K++T) [] none) h= .j ((List.range d).j fun x=>D.n x) (h.w r (ai ns i v1)):=by
  have b: -(f7)<=(d:Int)/\(d:Int)<f7:=by rw [GT];omega
  simp! [Zc,c,e1,b,and_self,if_true,Ad5]
 rw [za (τ1:=c9 r (wD K T) M (K++T) (L.j aQ) o) (h1:=h.w r (ai ns j v')) (by
  rw [exec,p,R.aw,Al7]
  exact f)]
 rw [ja (w:= .v (bD K T L)) (h1:=h.w r (ai ns j v')) (Ja rfl (by simp! [F7,ao]))]
 exact Ga _ h _ (Ad3 ..)
def yM {f:Tx->Nat×Nat}{t:Tx}{N:Y0 Tx}(h:t∉N):GE (aR N f) t (bc (f t).1 (f t).2)=aR (N++ [t]) f:=by
 unfold GE aR
 rw [if_neg,Af1]
 .rfl
 .rw [Ad2]
  rintro ⟨p,a,e⟩
  obtain⟨x,b,rfl⟩:=Ac.p a
  have e:=by simpa using e
  exact h (e▸b)
def Xu (h) (a b:Cell):(h++ [a]).w h.e b=h++ [b]:=by simp
def Zm (h) (a:Cell):(h++ [a])[h.e]? =k0 a:=by simp
theorem om {st:Y1 W->Sl}(c: ∀x d,Gz (st x) 3 (.v d)=st (sv d)): ∀(a N:Y0 Tx) (x:Y1 W),(N++a).B->(∀ t∈a,∀N:Y0 Tx,N.e<=8->execs F b (st (k0 (.s t))) (h++ [.p (aR N f)])= .p (st (k0 (.s t))) (h++ [.p (GE (aR N f) t (bc (f t).1 (f t).2))]))->(N++a).e<=8-> ∃i,Gp (Gq [3] u0) (λτ h=>execs F b τ h) (a.j .j) (st x) (h++ [.p (aR N f)])= .p (st i) (h++ [.p (aR (N++a) f)])
 | [],N,x,_,_,_=>⟨x,by rw [Ad8];rfl⟩
 | t::a,N,x,k,g,j=>by
  have l:t∉N:=λz=>(Aj1.p k).2.2 t z t Aa3 rfl
  have e1:=g t Aa3 N (by rw [Aa5]at j;omega)
  rw [yM l]at e1
  obtain⟨i,e⟩:=om c a (N++ [t]) (k0 (.s t)) (by rw [Ae3];exact k) (λu m=>g u (Aa2 _ m)) (by rw [Ae3];exact j)
  refine⟨i,?_⟩
  rw [Ab2,Wa (τ1:=st (k0 (.s t))) (by rw [GD,c]) e1,e,Ae3]
  rfl
def fO (n:Nat) (T:Y0 Tx) (t:Tx):Nat×Nat:=if t∈T then(0,2 ^ (n*n)-1)else(0,Wf.bK n)
def EJ (k)(g:bE n K T) (h):call prog (k+2) "_law_open" [.v (wD K T),.i n] h= .j (.r h.e) (h++ [.p (aR (K++T) (fO n T))]):=by
 obtain⟨i,p,s⟩:=Aj1.p g.nd
 have r:n*n<=16:=Af5 g.n4 g.n4
 have m:Gj .q (n:Int) (n:Int)=k0 _:=Xd n n (by have:=g.n4;omega)
 have v:=j7 (n*n) (by omega)
 have a:((2 ^ (n*n):Nat):Int)-1=((2 ^ (n*n)-1:Nat):Int):=by
  have:=Ad4 (n*n)
  omega
 rw [Gb (d:=QD) rfl _ _ _ rfl]
 simp only [QD]
 have l: ∀N:Y0 Tx,N.e<=8->(aR N (fO n T)).e<bp:=λN c=>by rw [Gg,aR,Aa];omega
 obtain⟨j,e1⟩:=om (F:=(u9 (k+1))) (h:=h) (b:=Js) (f:=fO n T) (st:=λx=> [sv _,si n,k0 (.r h.e),x]) (λ_ _=>rfl) K [] y0 i (λt e N c=>by
  have q:t∉T:=λz=>s t e t z rfl
  have o:=yk k n (h++ [.p (aR N (fO n T))]) g.n4
  have nr:Gd (bc (fO n T t).1 (fO n T t).2)=true:=rfl
  have:fO n T t=(0,Wf.bK n):=by rw [fO,if_neg q]
  unfold Js
  rw [za (τ1:= [sv (wD K T),si n,k0 (.r h.e),k0 (.s t)]) (h1:=h++ [.p (GE (aR N (fO n T)) t (bc (fO n T t).1 (fO n T t).2))]) (by
   simp! [o,xr (Zm h (.p (aR N (fO n T)))),ao]
   rw [if_pos ⟨l N c,rfl⟩,Xu,this]
   rfl),execs]) (by have:=g.k4;rw [Ae6];omega)
 obtain⟨u,e2⟩:=om (F:=(u9 (k+1))) (h:=h) (b:=Jr) (f:=fO n T) (st:=λx=> [sv (wD K T),si n,k0 (.r h.e),x]) (λ_ _=>rfl) T K j g.nd (λt e N c=>by
  have:fO n T t=(0,2 ^ (n*n)-1):=by rw [fO,if_pos e]
  unfold Jr
  rw [za (τ1:= [sv (wD K T),si n,k0 (.r h.e),k0 (.s t)]) (h1:=h++ [.p (GE (aR N (fO n T)) t (bc (fO n T t).1 (fO n T t).2))]) (by
   simp! [m,v,Qe,a,xr (Zm h (.p (aR N (fO n T)))),ao]
   rw [if_pos ⟨l N c,rfl⟩,Xu,this]
   rfl),execs]) (by have:=g.k4;have:=g.t4;rw [Aa5];omega)
 rw [Ae6]at e1
 rw [za (τ1:= [sv (wD K T),si n,k0 (.r h.e),y0]) (h1:=h++ [.p (aR [] (fO n T))]) (by simp! [ao];rfl)]
 rw [za (τ1:= [sv (wD K T),si n,k0 (.r h.e),j]) (h1:=h++ [.p (aR K (fO n T))]) (by
  rw [exec,show Gs (u9 (k+1)) (.j (.A .z (.o 0))) [sv (wD K T),si n,k0 (.r h.e),y0] (h++ [.p (aR [] (fO n T))])= .j (K.j .j) (h++ [.p (aR [] (fO n T))])by simp! [ae,Wh],R.aw]
  exact e1)]
 rw [za (τ1:= [sv (wD K T),si n,k0 (.r h.e),u]) (h1:=h++ [.p (aR (K++T) (fO n T))]) (by
  rw [exec,show Gs (u9 (k+1)) (.j (.A .z (.o 1))) [sv (wD K T),si n,k0 (.r h.e),j] (h++ [.p (aR K (fO n T))])= .j (T.j .j) (h++ [.p (aR K (fO n T))])by simp! [ae,Xg],R.aw]
  exact e2)]
 rw [ja (w:= .r h.e) (h1:=h++ [.p (aR (K++T) (fO n T))]) rfl]
 show fin h.e _ _=_
 unfold fin
 rw [if_neg (by simp),if_neg (by simp [W.keep])]
def Ma {n:Nat}{K T:Y0 Tx}(g:bE n K T){r:Nat}{h:AH}(e:h[r]? =k0 (.p (aR (K++T) (fO n T)))):Dc (wo n K T 0) (wo n K T (2 ^ bN n K T-1)) (fO n T) r h:=by
 have a: ∀ {i x y:Nat}{t:Tx},_[i]? =k0 _->bg _ t x y=true:=λ{i x y t} b=>by
  have j:=(Aa1.p b).1
  rw [ZE]at j
  rw [(Zl g b _).1,Ag2,decide_eq_true j]
 refine⟨e,g.n4,λt f=> ?_,λt f=> ?_⟩
 .have:(fO n T t).1=0:=by unfold fO;split<;>rfl
  rw [this]
  refine⟨Ad4 _,λx y c d=> ?_⟩
  rw [Af9]
  refine⟨(λz=>by cases z),λz=> ?_⟩
  obtain⟨i,b⟩:=Ba f c d z
  rw [(Zl g b 0).1,Af9]at z
  cases z
 .unfold fO
  by_cases q:t∈T
  .rw [if_pos q]
   refine⟨Nat.sub_lt (Ad4 _) (by decide),λx y c d=> ?_⟩
   obtain⟨i,b⟩:=oe (K:=K) c d (.p q)
   have k:x*n+y<n*n:=Wf.place_lt c d
   show(2 ^ _-1).j (x*n+y)=u0↔_
   rw [Ag2,decide_eq_true k,a b]
  .rw [if_neg q]
   have v:=(V.leaf (n:=n)).1
   refine⟨v.lt,λx y c d=>(v.bit x y c d).j ?_⟩
   by_cases e:x=y
   .subst e
    obtain⟨i,b⟩:=oe (T:=T) c c (.q ⟨((Ac9.p f).u q),rfl⟩)
    rw [a b]
    simp [qX]
   .rw [bg,if_neg (show t∉(wo n K T _).T from q),decide_eq_false e,Ae4]
    simp [qX,e]
noncomputable def fj (n x:Nat):Nat:=((Aa7 n).j λa=>(x.j a).j*2 ^ (a*n+a)).X
def u3 {n x:Nat}(a:n<=4) (b:x<2 ^ n):fj n x=Wf.cX n (iY n x):=by
 have: ∀n,n<5-> ∀x,x<16->fj n x=Wf.cX n (iY n x):=by decide +kernel
 exact this n (by lia) x (Ab3 b (Ad (by decide) a))
def Li (k n x) (h) (l:n<=4):call prog (k+1) "_law_spread" [.i n,.i x] h= .j (.i (fj n x)) h:=by
 rw [Gb rfl _ _ _ rfl]
 have e:eval (u9 k) wn [si n,si x] h= .j (.j (aC ((Aa7 n).j λa=>(x.j a).j*2 ^ (a*n+a)))) h:=by
  unfold wn
  rw [Wt (λa=> .n _) rfl (by omega) λa b=>⟨.i _,?_,rfl⟩]
  .rw [aC,Ae];rfl
  .have f:=Xd a n (by omega)
   have j:(x.j a).j<=1:=by cases x.j a<;>decide
   have g:=jU (x.j a).j (a*n+a) (by omega) (by have:=Wf.place_lt b b;have:=ji (show n<=20 by omega);omega)
   have d:(((a*n:Nat):Int)+(a:Int))=((a*n+a:Nat):Int):=rfl
   simp! [f,Zc,d,jp,oQ,g]
 have i:dZ .sum [.j (aC ((Aa7 n).j λa=>(x.j a).j*2 ^ (a*n+a)))] h= .j (.i (fj n x)) h:=by
  show(R.of h ((k0 _).p λc=>if c.e<=bp then Km c else y0)).p _=_
  rw [Af4,if_pos (by rw [Gg,aC,Aa,Aa,Ai];omega),wS]
  rfl
 simp only [qF]
 rw [ja (w:= .i (fj n x)) (h1:=h) (Ja rfl (by simp! [e,i])),Ga _ _ _ rfl]
theorem ot {st:Y1 W->Y1 W->Sl}(g: ∀x y d,Gz (st x y) 4 (.v d)=st (sv d) y) (L a:Y0 Tx) (l:(a++L).B) (o:(a++L).e<=8) (n: ∀(j:Nat) (t:Tx) (y:Y1 W) (N:Y0 Tx),L[j]? =k0 t->N.e<=8-> ∃i,execs F b (st (si j) y) (h++ [.p (aR N f)])= .p (st (si j) i) (h++ [.p (GE (aR N f) t (bc (f t).1 (f t).2))])): ∀(c j:Nat) (x y:Y1 W),j+c=L.e-> ∃M i,Gp (Gq [4] u0) (λτ h=>execs F b τ h) ((Ak6 j c).j λ(x:Nat)=>D.n x) (st x y) (h++ [.p (aR (a++L.A j) f)])= .p (st M i) (h++ [.p (aR (a++L) f)])
 | 0,j,x,y,r=>⟨x,y,by rw [Ai7 (by omega)];rfl⟩
 | c+1,j,x,y,r=>by
  have k:j<L.e:=by omega
  have p:L[j]? =k0 L[j]:=Aa4 k
  have m:a++L=(a++L.A j)++(L[j]::L.J (j+1)):=by
   rw [Ae3,←Am5 k,List.take_append_drop]
  have q:L[j]∉a++L.A j:=λz=>by
   rw [m]at l
   exact(Aj1.p l).2.2 _ z _ Aa3 rfl
  obtain⟨s,e1⟩:=n j L[j] y (a++L.A j) p (by rw [m,Aa5]at o;omega)
  rw [yM q,Ae3,show L.A j++ [L[j]]=L.A (j+1)by rw [List.take_append_getElem k]]at e1
  obtain⟨M,i,e⟩:=ot g L a l o n c (j+1) (si j) s (by omega)
  refine⟨M,i,?_⟩
  rw [Al4,Ab2,Wa (τ1:=st (si j) y) (by rw [GD,g]) e1,e]
noncomputable def fS (n:Nat) (K T:Y0 Tx) (c:Nat) (t:Tx):Nat×Nat:=if t∈T then((c8 n K.e T.e c).C (di t T) 0,(c8 n K.e T.e c).C (di t T) 0)else(fj n ((cP n K.e T.e c).C (di t K) 0),fj n ((cP n K.e T.e c).C (di t K) 0))
def W9 {n c:Nat}{K T:Y0 Tx}(g:bE n K T){r:Nat}{h:AH}(e:h[r]? =k0 (.p (aR (K++T) (fS n K T c)))):Dc (wo n K T c) (wo n K T c) (fS n K T c) r h:=by
 have ok:=g.wo c
 have a: ∀t∈K++T,V n (fS n K T c t).1 (bg _ t)/\(fS n K T c t).2=(fS n K T c t).1:=λt b=>by
  unfold fS
  by_cases q:t∈T
  .rw [if_pos q]
   have i:=(zn q).2
   refine⟨⟨?_,λx y f d=> ?_⟩,rfl⟩
   .show(c8 n K.e T.e c).C _ 0<_
    rw [Ac7,mY i]
    exact Aj4 _ (Ad4 _)
   .rw [bg,if_pos (show t∈(wo n K T c).T from q)]
    exact Iff.rfl
  .rw [if_neg q]
   have lt:(cP n K.e T.e c).C (di t K) 0<2 ^ n:=by
    rw [Ac7,nX ((zn ((Ac9.p b).u q)).2)]
    exact Aj4 _ (Ad4 _)
   refine⟨⟨?_,λx y f d=> ?_⟩,rfl⟩
   .show fj n _<_
    rw [u3 g.n4 lt]
    exact Wf.dm (QU _ _)
   .show(fj n _).j _=u0↔_
    rw [u3 g.n4 lt,uw f d,bg,if_neg (show t∉(wo n K T c).T from q),Aa0,decide_eq_true_eq]
    exact Iff.rfl
 exact⟨e,g.n4,λt b=>(a t b).1,λt b=>by rw [(a t b).2];exact(a t b).1⟩
def BM (k c)(g:bE n K T) (h):call prog (k+2) "_law_seen" [.v (wD K T),.v (wo n K T c).p] h= .j (.r h.e) (h++ [.p (aR (K++T) (fS n K T c))]):=by
 obtain⟨p,u,Q⟩:=Aj1.p g.nd
 have M:=g.k4
 have H:=g.t4
 rw [Gb (d:=WB) rfl _ _ _ rfl]
 show Gw _ (execs _ _ [sv (wD K T),sv (kH n (cP n K.e T.e c) (c8 n K.e T.e c)),y0,y0,y0,y0] h)=_
 simp only [WB]
 have E: ∀N:Y0 Tx,N.e<=8->(aR N (fS n K T c)).e<bp:=λN r=>by rw [Gg,aR,Aa];omega
 have o: ∀(L:Y0 Tx) (j:Nat) (t:Tx),L[j]? =k0 t->a8 (L.j D.str) (j:Int)=k0 _:=λL j t e=>by
  rw [Wd _ _ (by rw [Aa];exact(Aa1.p e).1),Ac1,e];rfl
 generalize m:kH n _ _=a
 have X:a8 [D.n n,.q _,.q (aC (c8 n K.e T.e c))] 1=k0 (.q (aC (cP n K.e T.e c))):=rfl
 obtain⟨B,C,e1⟩:=ot (F:=(u9 (k+1))) (h:=h) (b:=Xs) (f:=fS n K T c) (st:=λx y=> [sv (wD K T),sv a,si n,k0 (.r h.e),x,y]) (λ_ _ _=>rfl) K [] p (by rw [Ae6];omega) (λj t y N l r=>by
  have P:=Ac4 l
  have I:t∉T:=λz=>Q t P t z rfl
  have A:j<(cP n K.e T.e c).e:=by rw [ZV];exact(Aa1.p l).1
  have J:=Li k n ((cP n K.e T.e c).C j 0) (h++ [.p (aR N (fS n K T c))]) g.n4
  have v:fS n K T c t=(fj n ((cP n K.e T.e c).C j 0),fj n ((cP n K.e T.e c).C j 0)):=by rw [fS,if_neg I,wZ p l]
  have S:=nF _ j A
  have a2:=o K j t l
  refine⟨sv (.o ((fj n ((cP n K.e T.e c).C j 0):Nat):Int)),?_⟩
  unfold Xs
  rw [za (τ1:= [sv (wD K T),sv a,si n,k0 (.r h.e),si j,sv (.o ((fj n ((cP n K.e T.e c).C j 0):Nat):Int))]) (h1:=h++ [.p (aR N (fS n K T c))]) (by
   rw [← m]
   simp! [ae,JU,S,J])]
  rw [za (τ1:= [sv (wD K T),sv a,si n,k0 (.r h.e),si j,sv (.o ((fj n ((cP n K.e T.e c).C j 0):Nat):Int))]) (h1:=h++ [.p (GE (aR N (fS n K T c)) t (bc (fS n K T c t).1 (fS n K T c t).2))]) (by
   simp! [ae,Wh,a2,xr (Zm h (.p (aR N (fS n K T c)))),ao]
   rw [if_pos ⟨E N r,rfl⟩,Xu,v]),execs]) K.e 0 y0 y0 (by omega)
 obtain⟨U,O,e2⟩:=ot (F:=(u9 (k+1))) (h:=h) (b:=zr) (f:=fS n K T c) (st:=λx y=> [sv (wD K T),sv a,si n,k0 (.r h.e),x,y]) (λ_ _ _=>rfl) T K g.nd (by rw [Aa5];omega) (λj t y N l r=>by
  have A:j<(c8 n K.e T.e c).e:=by rw [xS];exact(Aa1.p l).1
  have v:fS n K T c t=((c8 n K.e T.e c).C j 0,(c8 n K.e T.e c).C j 0):=by rw [fS,if_pos (Ac4 l),wZ u l]
  have a2:=o T j t l
  refine⟨y,?_⟩
  unfold zr
  rw [za (τ1:= [sv (wD K T),sv a,si n,k0 (.r h.e),si j,y]) (h1:=h++ [.p (GE (aR N (fS n K T c)) t (bc (fS n K T c t).1 (fS n K T c t).2))]) (by
   rw [← m]
   simp! [ae,Xg,J6,(nF _ j A),a2,xr (Zm h (.p (aR N (fS n K T c)))),ao]
   rw [if_pos ⟨E N r,rfl⟩,Xu,v]),execs]) T.e 0 B C (by omega)
 rw [List.take_zero,Ae6]at e1
 rw [List.take_zero,Ad8]at e2
 rw [Ae6]at e1
 have G: ∀(i:Int) (L:Y0 Tx) (x y:Y1 W) (s:AH),L.e<=4->a8 [iQ K,iQ T] i=k0 (iQ L)->Gs (u9 (k+1)) (.au (.Z .y (.a (.A .z (.o i))))) [sv (wD K T),sv a,si n,k0 (.r h.e),x,y] s= .j ((Ak6 0 L.e).j λ(x:Nat)=>D.n x) s:=λi L x y s V q=>by
  rw [← Al7]
  exact Jm (by simp! [ae,q,wg,ao,Aa]) (by omega)
 rw [za (τ1:= [sv (wD K T),sv a,si n,y0,y0,y0]) (h1:=h) (by
  rw [← m]
  simp! [ae,mq])]
 rw [za (τ1:= [sv (wD K T),sv a,si n,k0 (.r h.e),y0,y0]) (h1:=h++ [.p (aR [] (fS n K T c))]) (by simp! [ao];rfl)]
 rw [za (τ1:= [sv (wD K T),sv a,si n,k0 (.r h.e),B,C]) (h1:=h++ [.p (aR K (fS n K T c))]) (by
  rw [exec,G 0 K y0 y0 _ M rfl,R.aw]
  exact e1)]
 rw [za (τ1:= [sv (wD K T),sv a,si n,k0 (.r h.e),U,O]) (h1:=h++ [.p (aR (K++T) (fS n K T c))]) (by
  rw [exec,G 1 T B C _ H rfl,R.aw]
  exact e2)]
 rw [ja (w:= .r h.e) (h1:=h++ [.p (aR (K++T) (fS n K T c))]) rfl]
 show fin h.e (.r h.e) _=_
 unfold fin
 rw [if_neg (by simp),if_neg (by simp [W.keep])]
def p9 {F:Fx}{k:Nat}{aD:Y0 Nat}{it:It}{c elt:E}{τ:Sl}{h:AH}{ds:Y0 D}(Q:D->D->Prop) (i:Gk F it τ h= .j ds h) (l:ds.e<=1000) (e: ∀d∈ds,∃y,eval F elt (Gz (Aa9 k y0++aD.j λj=>Gi τ j) 0 (.v d)) h= .j (.v y) h/\Q d y): ∃f:D->D,eval F (.L [0] u0 k aD it k9 c elt) τ h= .j (.j (ds.j f)) h/\ ∀d∈ds,Q d (f d):=by
 have: ∀d,∃y,d∈ds->eval F elt _ h= .j _ h/\Q d y:=λd=>by
  by_cases m:d∈ds
  .obtain⟨y,g⟩:=e d m
   exact⟨y,λ_=>g⟩
  .exact⟨.Q,λz=>absurd z m⟩
 obtain⟨f,b⟩:=Classical.skolem.p this
 refine⟨f,?_,λd a=>(b d a).2⟩
 exact ql f i (by rw [Gg];lia) λd a=>⟨_,rfl,_,(b d a).1,rfl⟩
theorem sJ (f:D->D): ∀ds:Y0 D,(∀ d∈ds,∃b,f d= .C b)-> ∃bs:Y0 Bool,ds.j f=bs.j .C
 | [],_=>⟨[],rfl⟩
 | d::ds,h=>by
  obtain⟨b,e⟩:=h d Aa3
  obtain⟨bs,e2⟩:=sJ f ds λd a=>h d (Aa2 _ a)
  exact⟨b::bs,by rw [Ab2,e,e2];rfl⟩
section
variable {n q:Nat}{K T:Y0 Tx}{S:Y0 Sy}
def MI (m c) (g:bE n K T) (H: ∀s∈S,s.y (K++T)/\s.j<=q) (W:S.e<=100) (U:q+8<=m) (h) (N:Gx h=true): ∃b:Bool,call prog (m+1) "_law_keeps" [.v (bD K T S),.v (wo n K T c).p] h= .j (.b b) h/\(b=true↔ ∀s∈S,Td (wo n K T c) (wo n K T c) s (some true)):=by
 obtain⟨k,rfl⟩:=nk m 2 (by omega)
 have e1:=BM k c g h
 have P:=W9 g (c:=c) (Zm h (.p (aR (K++T) (fS n K T c))))
 rw [Gb (d:=Qx) rfl _ _ _ rfl]
 show ∃b,Gw _ (execs _ _ [sv (bD K T S),sv ((wo n K T c).p),y0] h)=_/\_
 simp only [Qx]
 have t:(h++ [Cell.aP (aR (K++T) (fS n K T c))]).A h.e=h:=by simp
 have I:h.e<=(h++ [Cell.aP (aR (K++T) (fS n K T c))]).e:=by simp
 generalize h++ [Cell.aP _]=j at e1 P t I
 have x:a8 [D.n n,.q (aC (cP n K.e T.e c)),.q (aC (c8 n K.e T.e c))] 0=k0 _:=rfl
 have J: ∀s∈S,∃o,Td _ _ s o/\eval (u9 (k+2)) (.y .dt (.p "_law_told" (.c (.A .B (.o 0)) .J .z)) (.C true)) [sv (aQ s),sv ((wo n K T c).p),some (.r h.e)] j= .j (.b (o==some true)) j:=fun s a=>by
  obtain⟨o,p,r⟩:=A3 P s (k+2) (by have:=(H s a).2;omega) (H s a).1
  have r:call prog (k+2) "_law_told" [.i n,.r h.e,.v (aQ s)] j= .j (.v (aJ o)) j:=r
  have M:(wo n K T c).p= .q [.n n,.q (aC (cP n K.e T.e c)),.q (aC (c8 n K.e T.e c))]:=rfl
  refine⟨o,p,?_⟩
  rw [M]
  simp! [ae,x,r,(lU o u0 j)]
 obtain⟨f,u,E⟩:=p9 (F:=(u9 (k+2))) (k:=1) (aD:= [1,2]) (it:= .j (.A .z (.o 1))) (c:= .C true) (elt:= .y .dt (.p "_law_told" (.c (.A .B (.o 0)) .J .z)) (.C true)) (τ:= [sv (bD K T S),sv ((wo n K T c).p),some (.r h.e)]) (h:=j) (ds:=S.j aQ) (fun d y=> ∀s∈S,d=aQ s-> ∃o,Td (wo n K T c) (wo n K T c) s o/\y= .C (o==some true)) (by simp! [ae,Xg]) (by rw [List.length_map];omega) (fun d l=>by
  obtain⟨s,a,rfl⟩:=Ac.p l
  obtain⟨o,p,r⟩:=J s a
  refine⟨.C (o==k0 u0),r,λR B e=> ?_⟩
  obtain⟨L,A,i⟩:=J R B
  rw [← e]at i
  rw [r]at i
  refine⟨L,A,?_⟩
  injection i with i
  injection i)
 obtain⟨bs,G⟩:=sJ f (S.j aQ) λd l=>by
  obtain⟨s,a,e⟩:=Ac.p l
  obtain⟨o, -,e2⟩:=E d l s a e.p
  exact⟨_,e2⟩
 rw [G]at u
 have u:eval (u9 (k+2)) xy [sv (bD K T S),sv ((wo n K T c).p),k0 (.r h.e)] j= .j (.j (bs.j .C)) j:=u
 refine⟨bs.K id,?_,λz s a=> ?_,λz=> ?_⟩
 .have v:a8 [wD K T,D.tup (S.j aQ)] 0=k0 (wD K T):=rfl
  refine fx (by simp! [ae,v,e1];rfl) ?_
  rw [ja (w:= .b (bs.K id)) (h1:=j) (Ja rfl (Jz u))]
  obtain⟨V,Q,O⟩:=nM (d:= .C (bs.K id)) (h:=j) (n:=h.e) rfl I (by rw [t];exact N)
  rw [Q,O,t]
 .obtain⟨o,p,e⟩:=E (aQ s) (Ac.q ⟨s,a,rfl⟩) s a rfl
  have m:f (aQ s)∈bs.j D.bl:=by rw [← G];exact Ac.q ⟨_,Ac.q ⟨s,a,rfl⟩,rfl⟩
  obtain⟨b,C,e2⟩:=Ac.p m
  rw [e]at e2
  have e2:b=(o==k0 u0):=by injection e2
  have:=Ai6.p z b C
  rw [e2]at this
  have:o=k0 true:=eq_of_beq this
  rw [← this]
  exact p
 .rw [Ai6]
  intro b C
  have m:D.bl b∈bs.j D.bl:=Ac.q ⟨b,C,rfl⟩
  rw [← G]at m
  obtain⟨d,l,e⟩:=Ac.p m
  obtain⟨s,a,rfl⟩:=Ac.p l
  obtain⟨o,p,e2⟩:=E (aQ s) l s a rfl
  rw [e2,p.uniq (z s a)]at e
  injection e with e
  exact e.p
end
def KU (l) (x):aC (l++ [x])=aC l++ [.n x]:=by simp
noncomputable def cq:Ex->Y0 Tx
 | .p t=> [t]
 | .B a=>cq a
 | .w a=>cq a
 | .plus a b=>cq a++cq b
 | .z a b=>cq a++cq b
 | .both a b=>cq a++cq b
 | .q a b=>cq a++cq b
 | _=> []
def N9:Fc->Y0 Tx
 | .dW a b=>cq a++cq b
 | .eA a b=>cq a++cq b
 | .d8 a=>cq a
 | .ak a=>cq a
 | .cnt _ _ a=>cq a
def Z9:Sy->Y0 Tx
 | .p f=>N9 f
 | .neg a=>Z9 a
 | .cF a b=>Z9 a++Z9 b
 | .cE a b=>Z9 a++Z9 b
def JE (h:a<=2 ^ x) (g:b<=2 ^ y):a+b<=2 ^ (max x y+1):=by
 have c:2 ^ x<=2 ^ max x y:=Ad (by decide) (Nat.le_max_left _ _)
 have d:2 ^ y<=2 ^ max x y:=Ad (by decide) (Nat.le_max_right _ _)
 lia
def lJ (h:a<=2 ^ x):a<=2 ^ (x+1):=Ab5 h (Ad (by decide) (Ag0 _))
theorem zd: ∀e:Ex,(cq e).e<=2 ^ e.j
 | .p _=>Aa8 _
 | .same=>Af2 _
 | .K=>Af2 _
 | .u=>Af2 _
 | .B a=>lJ (zd a)
 | .w a=>lJ (zd a)
 | .plus a b=>by rw [cq,Aa5];exact JE (zd a) (zd b)
 | .z a b=>by rw [cq,Aa5];exact JE (zd a) (zd b)
 | .both a b=>by rw [cq,Aa5];exact JE (zd a) (zd b)
 | .q a b=>by rw [cq,Aa5];exact JE (zd a) (zd b)
theorem Qn: ∀s:Sy,(Z9 s).e<=2 ^ (s.j+1)
 | .p f=>by
  cases f with
  | dW a b=>show(cq a++cq b).e<=_;rw [Aa5];exact JE (zd a) (zd b)
  | eA a b=>show(cq a++cq b).e<=_;rw [Aa5];exact JE (zd a) (zd b)
  | d8 a=>exact lJ (zd a)
  | ak a=>exact lJ (zd a)
  | cnt _ _ a=>exact lJ (zd a)
 | .neg a=>lJ (Qn a)
 | .cF a b=>by
  rw [Z9,Aa5,Sy.dp]
  have:=JE (Qn a) (Qn b)
  rw [show max (a.j+1) (b.j+1)+1=max a.j b.j+1+1 by omega]at this
  exact this
 | .cE a b=>by
  rw [Z9,Aa5,Sy.dp]
  have:=JE (Qn a) (Qn b)
  rw [show max (a.j+1) (b.j+1)+1=max a.j b.j+1+1 by omega]at this
  exact this
def iD (m:Nat) (h:AH) (p:D×Y0 Tx):Prop:=(∃ i,p.1= .o i/\p.2= [])\/ ∃xs,p.1= .q xs/\call prog m "names_in" [.v p.1] h= .j (.j (p.2.j .j)) h
theorem tS : ∀(ps:Y0 (D×Y0 Tx)) j x,(∀ p∈ps,iD m h p)->j.e+(ps.N (·.2)).e<=900000-> ∃L,Gp (Gq [2] u0) (λτ h=>execs (u9 m) wm τ h) (ps.j (·.1)) [sv th,k0 (.j (j.j .j)),x] h= .p [sv th,k0 (.j ((j++ps.N (·.2)).j .j)),L] h
 | [],j,x,_,_=>⟨x,by simp [Gp]⟩
 | (d,l)::ps,j,x,c,b=>by
  rw [Aj2,Aa5]at b
  have b:j.e+(l.e+(ps.N (·.2)).e)<=900000:=b
  obtain⟨L,e⟩:=tS ps (j++l) (sv d) (λp a=>c p (Aa2 _ a)) (by rw [Aa5];omega)
  refine⟨L,?_⟩
  rw [Ab2,Wa (τ1:= [sv th,k0 (.j (j.j .j)),sv d]) rfl,e,Aj2,Ae3]
  show execs _ wm _ h=_
  unfold wm
  rcases c (d,l) Aa3 with⟨i,e1,e2⟩ | ⟨f,e1,e2⟩
  .cases e1
   cases e2
   rw [xa (by simp! [EX,Ty.mB]),execs,Ad8]
  .cases e1
   have e2:=e2
   have g:(j.j D.str).e+(l.j D.str).e<bp:=by rw [Gg,Aa,Aa];omega
   rw [za ((xu (h1:=h) (by simp! [M9,Ty.hU])).j ?_),execs]
   rw [za (τ1:= [sv th,k0 (.j ((j++l).j .j)),k0 (.t f)]) (by
    simp! [e2,g,if_true]
    rw [Af1]),execs]
def rH (b:(s==Jg)=k9) (ps:Y0 (D×Y0 Tx)) (a: ∀p∈ps,iD m h p) (d:(ps.N (·.2)).e<=900000):call prog (m+1) "names_in" [.t (.j s::ps.j (·.1))] h= .j (.j ((ps.N (·.2)).j .j)) h:=by
 obtain⟨c,e⟩:=tS ps [] y0 a (by simp_all)
 rw [Ae6]at e
 rw [Gb rfl _ _ _ rfl]
 simp only [WD]
 rw [xa (by
  rw [← b]
  simp! [ae,Je,wb])]
 refine fx (by simp! [];rfl) ?_
 have sl:gN (.t (.j s::ps.j (·.1))) (k0 1) y0 h= .j (.t (ps.j (·.1))) h:=by
  show ao _ h=_
  rw [show cut _ (k0 1) y0=_ from XY _ 1]
  rfl
 rw [za (by
  rw [exec,show Gs (u9 m) _ [k0 _,k0 _,y0] h= .j (ps.j (·.1)) h by simp! [sl],R.aw]
  exact e)]
 rw [ja rfl,Gv _ _ _ rfl]
def oD (a:(s==Jg)=k9):call prog (m+1) "names_in" [.t [.j s]] h= .j (.j (([]:Y0 Tx).j .j)) h:=rH a [] (fun _ h=>absurd h List.not_mem_nil) (Nat.zero_le _)
def ni (c:(s==Jg)=k9) (b:iD m h (d,l)) (e:l.e<=400000):call prog (m+1) "names_in" [.t [.j s,d]] h= .j (.j (l.j .j)) h:=by
 have:=rH c [_] (λp a=>by rw [Ac6.p a];exact b) (by simp;lia)
 simpa using this
def zO (f:(s==Jg)=k9) (e:iD m h (d,l)) (b:iD m h (d',l')) (g:l.e<=400000) (c:l'.e<=400000):call prog (m+1) "names_in" [.t [.j s,d,d']] h= .j (.j ((l++l').j .j)) h:=by
 have:=rH f [_,_] (λp a=>by
  obtain rfl | a:=Ab7.p a
  .exact e
  .rw [Ac6.p a];exact b) (by simp;lia)
 simpa using this
def yQ (e): ∃xs,aY e= .q xs:=by cases e<;>exact⟨_,rfl⟩
def J4 (s): ∃xs,aQ s= .q xs:=by
 cases s with
 | fact f=>cases f<;>exact⟨_,rfl⟩
 | _=>exact⟨_,rfl⟩
def qI (d) (h:d<=17):2 ^ d<=400000:=Ab5 (Ad (by decide) h) (by decide)
def CS (h): ∀ e m,e.j+1<=m->e.j<=16->call prog m "names_in" [.v (aY e)] h= .j (.j ((cq e).j .j)) h:=by
 intro e
 have ok: ∀ e m,(∀ m,e.j+1<=m->e.j<=16->call prog m "names_in" [.v _] h= .j _ h)->e.j+1<=m->e.j<=16->iD m h (aY e,cq e)/\(cq e).e<=400000:=fun e m d f g=>by
  obtain⟨o,ex⟩:=yQ e
  exact⟨.q ⟨o,ex,d m f g⟩,Ab5 (zd e) (qI _ (by lia))⟩
 have one: ∀ s a,_=k9->(∀ m,a.j+1<=m->a.j<=16->call prog m "names_in" [.v _] h= .j _ h)-> ∀m,a.j+1+1<=m->a.j+1<=16->call prog m "names_in" [.t [.j s,aY a]] h= .j _ h:=fun s a j d m f g=>by
  obtain⟨k,rfl⟩:=nk m 1 (by lia)
  obtain⟨i,l⟩:=ok a k d (by lia) (by lia)
  exact ni j i l
 have two: ∀ s a b,_=k9->(∀ m,a.j+1<=m->a.j<=16->call prog m "names_in" [.v _] h= .j _ h)->(∀ m,b.j+1<=m->b.j<=16->call prog m "names_in" [.v _] h= .j _ h)-> ∀m,max a.j b.j+1+1<=m->max a.j b.j+1<=16->call prog m "names_in" [.t [.j s,aY a,aY b]] h= .j _ h:=fun s a b j d c m f g=>by
  obtain⟨k,rfl⟩:=nk m 1 (by lia)
  obtain⟨i,l⟩:=ok a k d (by lia) (by lia)
  obtain⟨n,p⟩:=ok b k c (by lia) (by lia)
  exact zO j i n l p
 induction e with
 | name t=>
  intro m f _
  obtain⟨k,rfl⟩: ∃k,m=k+1:=⟨m-1,by simp [Ex.dp]at f;lia⟩
  rw [Gb rfl _ _ _ rfl]
  show Gw _ (execs _ _ [k0 (.t [.j Jg,.j t]),y0,y0] h)=_
  simp only [WD]
  rw [ja (w:= .j [.j t]) (h1:=h) ((xu (by simp! [wb];rfl)).j (ja (Zx rfl (by simp! [ae,Xg])))),Gv _ _ _ rfl]
  rfl
 | same=>intro m f _;obtain⟨k,rfl⟩:=nk m 1 (by lia);exact oD rfl
 | all=>intro m f _;obtain⟨k,rfl⟩:=nk m 1 (by lia);exact oD rfl
 | none=>intro m f _;obtain⟨k,rfl⟩:=nk m 1 (by lia);exact oD rfl
 | turned a d=>exact one xi a rfl d
 | closed a d=>exact one Ji a rfl d
 | plus a b d c=>exact two WE a b rfl d c
 | less a b d c=>exact two jq a b rfl d c
 | both a b d c=>exact two Jy a b rfl d c
 | joined a b d c=>exact two Wg a b rfl d c
def B1 (h): ∀ s m,s.y N->s.j+2<=m->s.j<=14->call prog m "names_in" [.v (aQ s)] h= .j (.j ((Z9 s).j .j)) h:=by
 intro s
 have c: ∀ e m,e.j+1<=m->e.j<=14->iD m h (aY e,cq e)/\(cq e).e<=400000:=λe m d g=>by
  obtain⟨n,ex⟩:=yQ e
  exact⟨.q ⟨n,ex,CS h e m d (by omega)⟩,Ab5 (zd e) (qI _ (by omega))⟩
 induction s with
 | fact f=>
  intro m wf d g
  obtain⟨k,rfl⟩:=nk m 1 (by omega)
  cases f with
  | dW a b=>
   simp only [Sy.dp,Fc.dp]at d g
   obtain⟨i,l⟩:=c a k (by omega) (by omega)
   obtain⟨q,r⟩:=c b k (by omega) (by omega)
   exact zO rfl i q l r
  | eA a b=>
   simp only [Sy.dp,Fc.dp]at d g
   obtain⟨i,l⟩:=c a k (by omega) (by omega)
   obtain⟨q,r⟩:=c b k (by omega) (by omega)
   exact zO rfl i q l r
  | d8 a=>
   simp only [Sy.dp,Fc.dp]at d g
   obtain⟨i,l⟩:=c a k (by omega) (by omega)
   exact ni rfl i l
  | ak a=>
   simp only [Sy.dp,Fc.dp]at d g
   obtain⟨i,l⟩:=c a k (by omega) (by omega)
   exact ni rfl i l
  | cnt t j a=>
   simp only [Sy.dp,Fc.dp]at d g
   obtain⟨i,l⟩:=c a k (by omega) (by omega)
   have w:(t==Jg)=false:=by
    have:t=Qa\/t=qc\/t=xb\/t=Qh:=by simpa using wf.1
    rcases this with rfl | rfl | rfl | rfl<;>rfl
   have:=zO w (.p ⟨_,rfl,rfl⟩:iD k h (.n j,[])) i (Af2 _) l
   exact this
 | neg a p=>
  intro m wf d g
  obtain⟨k,rfl⟩:=nk m 1 (by omega)
  simp only [Sy.dp]at d g
  obtain⟨n,ex⟩:=J4 a
  exact ni rfl (.q ⟨n,ex,p k wf (by omega) (by omega)⟩) (Ab5 (Qn a) (qI _ (by omega)))
 | cF a b p o=>
  intro m wf d g
  obtain⟨k,rfl⟩:=nk m 1 (by omega)
  simp only [Sy.dp]at d g
  obtain⟨n,ex⟩:=J4 a
  obtain⟨u,v⟩:=J4 b
  exact zO rfl (.q ⟨n,ex,p k wf.1 (by omega) (by omega)⟩) (.q ⟨u,v,o k wf.2 (by omega) (by omega)⟩) (Ab5 (Qn a) (qI _ (by omega))) (Ab5 (Qn b) (qI _ (by omega)))
 | cE a b p o=>
  intro m wf d g
  obtain⟨k,rfl⟩:=nk m 1 (by omega)
  simp only [Sy.dp]at d g
  obtain⟨n,ex⟩:=J4 a
  obtain⟨u,v⟩:=J4 b
  exact zO rfl (.q ⟨n,ex,p k wf.1 (by omega) (by omega)⟩) (.q ⟨u,v,o k wf.2 (by omega) (by omega)⟩) (Ab5 (Qn a) (qI _ (by omega))) (Ab5 (Qn b) (qI _ (by omega)))
noncomputable def lT (L:Y0 Tx):Nat->Y0 Pl->Nat->Nat
 | _,[],v=>v
 | i,p::ps,v=>lT L (i+1) ps (if p.1∈L then v ||| 2 ^ i else v)
theorem yU : ∀ ps i v j,(lT L i ps v).j j=u0↔v.j j=u0\/ ∃ k p,ps[k]? =k0 p/\j=i+k/\p.1∈L
 | [],i,v,j=>by
  exact⟨.p,λh=>h.j id (by rintro ⟨k,p,e,_⟩;exact by simp at e)⟩
 | p::ps,i,v,j=>by
  rw [lT,yU ps]
  have b:(if p.1∈L then v ||| 2 ^ i else v).j j=u0↔v.j j=u0\/(j=i/\p.1∈L):=by
   by_cases q:p.1∈L
   .rw [if_pos q,Ae8,Ae0,Ae7,decide_eq_true_eq]
    exact or_congr Iff.rfl ⟨λz=>⟨z.p,q⟩,λz=>z.1.p⟩
   .rw [if_neg q]
    exact⟨.p,λz=>z.j id λz=>absurd z.2 q⟩
  rw [b]
  constructor
  .rintro ((h | ⟨rfl,h⟩) | ⟨k,a,e,rfl,h⟩)
   .exact .p h
   .exact .q ⟨0,p,rfl,rfl,h⟩
   .exact .q ⟨k+1,a,e,by omega,h⟩
  .rintro (h | ⟨k,a,e,rfl,h⟩)
   .exact .p (.p h)
   .cases k with
    | zero=>
     have:p=a:=by simpa using e
     exact .p (.q ⟨rfl,this▸h⟩)
    | succ k=>exact .q ⟨k,a,by simpa using e,by omega,h⟩
abbrev iM (ro:Nat) (s:D) (L:Y0 Tx) (v:Nat) (x y:Y1 W):Sl:= [k0 (.r ro),sv s,k0 (.l (L.j .j)),si v,x,y]
def N8 (s) (a:Y0 Tx) (h):Gr .p (.s s) (.l (a.j .j)) h=k0 (y9 (s∈a)):=Wy s a (.l _) h rfl
theorem tY : ∀ ps i v x y,i+ps.e<=1000-> ∃M j,Gp (Gq [4,5] k9) (λτ h=>execs F Ql τ h) (Kl i (ps.j bT)) (iM ro s L v x y) h= .p (iM ro s L (lT L i ps v) M j) h
 | [],i,v,x,y,_=>⟨x,y,rfl⟩
 | p::ps,i,v,x,y,c=>by
  rw [Aa6]at c
  obtain⟨M,j,e⟩:=tY ps (i+1) (if p.1∈L then v ||| 2 ^ i else v) (si i) (sv (bT p)) (by omega)
  refine⟨M,j,?_⟩
  rw [Ab2,Kl,Wa (τ1:=iM ro s L v (si i) (sv (bT p))) rfl,e,lT]
  unfold Ql
  have i0:dJ (.v (bT p)) (.v (.o 0)) h=k0 (.j p.1):=rfl
  have a:Gn F (.y .p (.A .v5 (.o 0)) .J) (iM ro s L v (si i) (sv (bT p))) h= .j (y9 (p.1∈L)) h:=by simp! [i0,N8]
  by_cases q:p.1∈L
  .rw [if_pos q,za ((xu (by rw [a,decide_eq_true q])).j ?_),execs]
   have b:=j7 i (by omega)
   rw [za (τ1:=iM ro s L (v ||| 2 ^ i) (si i) (sv (bT p))) (h1:=h) (by simp! [b,Zn,xm]),execs]
  .rw [if_neg q,xa (by rw [a,decide_eq_false q]),execs]
def eI (n:Nat) (K T:Y0 Tx) (s:Sy):Nat:=lT (Z9 s) 0 (b3 n K T) 0
section
variable {n:Nat}{K T:Y0 Tx}{S:Y0 Sy}{ro:Nat}{h:AH}
def Bn (s) (j):(eI n K T s).j j=u0↔ ∃p:Pl,(b3 n K T)[j]? =k0 p/\p.1∈Z9 s:=by
 rw [eI,yU,Af9]
 constructor
 .rintro (h | ⟨k,p,e,rfl,h⟩)
  .cases h
  .exact⟨p,by rw [Am4];exact e,h⟩
 .rintro ⟨p,e,h⟩
  exact .q ⟨j,p,e,(Am4 j).p,h⟩
def Mv (m) (g:bE n K T) (C:h[ro]? =k0 (.j "Cases" (cK n K T S)))(wf:s.y (K++T)) (a:s.j+2<=m) (b:s.j<=14):call prog (m+1) "needed_bits" [.r ro,.v (aQ s)] h= .j (.i (eI n K T s)) h:=by
 have c:0+(b3 n K T).e<=1000:=by rw [ZE];have:=g.b6;lia
 obtain⟨e,j,e2⟩:=tY _ 0 0 y0 y0 c
 refine fx (by simp! [(B1 h s m wf a b)];rfl) ?_
 rw [za (τ1:=iM ro _ _ 0 y0 y0) (by simp! [];rfl)]
 rw [za (by
  have d:Gs (u9 m) (.cA (.aL .z "Cases" "places")) (iM ro (aQ s) (Z9 s) 0 none none) h= .j (Kl 0 ((b3 n K T).j bT)) h:=by
   show(eval _ _ _ h).p _=_
   rw [(xl (F:=(u9 m)) (τ:=iM ro (aQ s) (Z9 s) 0 y0 y0) (i:=0) (f:= "places") C rfl rfl)]
   rfl
  rw [exec,d,R.aw]
  exact e2)]
 rw [ja (w:= .i (eI n K T s)) (h1:=h) rfl,Ga _ _ _ rfl]
end
theorem yn : ∀ f x a,x<f-> ∃y:Nat,GI (λτ h=>Gn F Qd τ h) (λτ h=>execs F xj τ h) f [si x,si a] h= .p [si (0),si y] h
 | 0,x,a,c=>absurd c (Ag3 _)
 | f+1,x,a,c=>by
  have g:Gn F Qd [si x,si a] h= .j (y9 (0<x)) h:=by
   have z:Gr .gt (.i x) (.v (.o 0)) h=k0 (y9 (0<x)):=hZ 0 x h
   unfold Qd
   simp! [z]
  show ∃y:Nat,((Gn F Qd _ h).cH _)=_
  rw [g,R.aw]
  by_cases q:0<x
  .obtain⟨y,e⟩:=yn f (x &&& (x-1)) (a+1) (by have:x &&& (x-1)<=x-1:=Nat.and_le_right;omega)
   refine⟨y,?_⟩
   rw [decide_eq_true q]
   have b:execs F xj [si x,si a] h= .p [si (x &&& (x-1)),si (a+1)] h:=by
    have i: x-1=((x-1:Nat):Int):=by omega
    have d: a+1=((a+1:Nat):Int):=rfl
    refine(za (by simp! [Qe,i,jc,Wc];rfl)).j ?_
    rw [za (τ1:= [si (x &&& (x-1)),si (a+1)]) (h1:=h) (by simp! [Zc,d]),execs]
   simp only [b]
   exact e
  .refine⟨a,?_⟩
   have:x=0:=by omega
   subst this
   rfl
def BG (k x) (h) (a:x<100000): ∃y:Nat,call prog (k+1) "how_many_set" [.i x] h= .j (.i y) h:=by
 obtain⟨y,e⟩:=yn 100000 x 0 a
 refine⟨y,?_⟩
 refine fx (by simp! [];rfl) ?_
 rw [za (by assumption)]
 rw [ja rfl,Ga _ _ _ rfl]
theorem XU : ∀ xs b j,(∀ m∈xs,∃y,G8 (key m)=k0 y)-> ∃i∈b::xs,GW key b j xs=k0 i
 | [],b,j,_=>⟨b,Aa3,rfl⟩
 | x::xs,b,j,h=>by
  obtain⟨y,e⟩:=h x Aa3
  rw [GW,e,Af4]
  by_cases q:y<j
  .obtain⟨i,a,d⟩:=XU xs x y λm c=>h m (Aa2 _ c)
   exact⟨i,Aa2 _ a,by rw [if_pos q];exact d⟩
  .obtain⟨i,a,d⟩:=XU xs b j λm c=>h m (Aa2 _ c)
   refine⟨i,?_,by rw [if_neg q];exact d⟩
   rcases Ab7.p a with rfl | a
   .exact Aa3
   .exact Aa2 _ (Aa2 _ a)
def B3 (a:xs≠ []) (h: ∀m∈xs,∃y,G8 (key m)=k0 y): ∃i∈xs,Kh key (k0 xs)=k0 i:=by
 cases xs with
 | nil=>exact absurd rfl a
 | cons x xs=>
  obtain⟨y,e⟩:=h x Aa3
  obtain⟨i,d,c⟩:=XU xs x y λm b=>h m (Aa2 _ b)
  exact⟨i,d,by rw [Kh,e];exact c⟩
def Fu (a:0<f) (h1:f<1024): ∃i:Nat,i<10/\f.j i=u0/\f-(f &&& (f-1))=2 ^ i:=by
 have: ∀f,f<1024->0<f->(Aa7 10).z λi=>f.j i&&y9 (f-(f &&& (f-1))=2 ^ i):=by decide +kernel
 obtain⟨i,b,e⟩:=Ad2.p (this f h1 a)
 rw [Aa0,decide_eq_true_eq]at e
 exact⟨i,Ab9.p b,e.1,e.2⟩
def Df {f:Nat}(a:0<f):Gj .j (f:Int) (-(f:Int))=k0 ((f-(f &&& (f-1)):Nat):Int):=by
 rw [jc,Kf,if_pos (Ap0 f),if_neg (by lia),Ad5,show(-(-(f:Int))-1).j=f-1 by lia]
def Ig (i):Kb ((2 ^ i:Nat):Int)=i+1:=by
 have:(2 ^ i)≠0:=Ap5 (Ad4 i)
 rw [Kb,if_neg (by lia),Int.natAbs_natCast,Nat.log2_two_pow]
def X8 (e:Ex):Gd (aY e)=u0/\dep (aY e)<=e.j+1:=by
 induction e with
 | turned a d=>obtain⟨c,g⟩:=d;exact⟨by simp [aY,c],by simp [aY,Ex.dp];lia⟩
 | closed a d=>obtain⟨c,g⟩:=d;exact⟨by simp [aY,c],by simp [aY,Ex.dp];lia⟩
 | plus a b d k=>obtain⟨c,g⟩:=d;obtain⟨f,h⟩:=k;exact⟨by simp [aY,c,f],by simp [aY,Ex.dp];lia⟩
 | less a b d k=>obtain⟨c,g⟩:=d;obtain⟨f,h⟩:=k;exact⟨by simp [aY,c,f],by simp [aY,Ex.dp];lia⟩
 | both a b d k=>obtain⟨c,g⟩:=d;obtain⟨f,h⟩:=k;exact⟨by simp [aY,c,f],by simp [aY,Ex.dp];lia⟩
 | joined a b d k=>obtain⟨c,g⟩:=d;obtain⟨f,h⟩:=k;exact⟨by simp [aY,c,f],by simp [aY,Ex.dp];lia⟩
 | _=>exact⟨rfl,by simp [aY]⟩
def Ht (s:Sy):Gd (aQ s)=u0/\dep (aQ s)<=s.j+2:=by
 induction s with
 | fact f=>
  cases f with
  | dW a b=>obtain⟨c,d⟩:=X8 a;obtain⟨e,h⟩:=X8 b;exact⟨by simp [aQ,dI,c,e],by simp [aQ,dI,Sy.dp,Fc.dp];lia⟩
  | eA a b=>obtain⟨c,d⟩:=X8 a;obtain⟨e,h⟩:=X8 b;exact⟨by simp [aQ,dI,c,e],by simp [aQ,dI,Sy.dp,Fc.dp];lia⟩
  | d8 a=>obtain⟨c,d⟩:=X8 a;exact⟨by simp [aQ,dI,c],by simp [aQ,dI,Sy.dp,Fc.dp];lia⟩
  | ak a=>obtain⟨c,d⟩:=X8 a;exact⟨by simp [aQ,dI,c],by simp [aQ,dI,Sy.dp,Fc.dp];lia⟩
  | cnt t j a=>obtain⟨c,d⟩:=X8 a;exact⟨by simp [aQ,dI,c],by simp [aQ,dI,dep,GG,Sy.dp,Fc.dp];lia⟩
 | neg a g=>obtain⟨c,d⟩:=g;exact⟨by simp [aQ,c],by simp [aQ,dep,GG,Sy.dp];lia⟩
 | cF a b g k=>obtain⟨c,d⟩:=g;obtain⟨e,h⟩:=k;exact⟨by simp [aQ,c,e],by simp [aQ,dep,GG,Sy.dp];lia⟩
 | cE a b g k=>obtain⟨c,d⟩:=g;obtain⟨e,h⟩:=k;exact⟨by simp [aQ,c,e],by simp [aQ,dep,GG,Sy.dp];lia⟩
def WF (k)(g:bE n K T) (h):call prog (k+5) "check_bits" [.v (wD K T),.i n,.v (.o 16)] h= .j (.v .Q) h:=by
 have n4:=g.n4
 have c:=g.b6
 have b:=vr k (.n n) h rfl (by simp [Zr];lia)
 have a:=A5 (k+2) n (K.j .j) (T.j .j) h n4 (by rw [Aa];exact g.k4) (by rw [Aa];exact g.t4)
 rw [Aa,Aa,pj]at a
 rw [Gb rfl _ _ _ rfl]
 simp only [xF]
 refine fx (by simp! [b];rfl) ?_
 refine fx (by simp! [a];rfl) ?_
 have z:Gr .gt _ (.v (.o 16)) h=k0 _:=hZ 16 (bN n K T) h
 rw [decide_eq_false (by lia)]at z
 rw [xa (by simp! [z]),execs]
 exact GA _ h _ rfl
def WQ (a:eval F e τ (g++ [.j c fs])= .j (.v d) (g++ [.j c fs])) (b:Gm τ i=k0 (.r g.e)) (h:Gd d=u0) (j:fs.e<100):exec F (.bO i c f e) τ (g++ [.j c fs])= .p τ (g++ [.j c (a0 f d fs)]):=by
 rw [exec,a,R.aw]
 simp only [b,Jo (Zm g _),h,j,and_self,if_true,Xu]
def MJ (a:eval F e τ (g++ [.j c fs])= .j (.j xs) (g++ [.j c fs])) (b:Gm τ i=k0 (.r g.e)) (d:Gc xs=u0) (h:fs.e<100):exec F (.bW i c f e) τ (g++ [.j c fs])= .p τ (g++ [.j c (a0 f (.u xs) fs)]):=by
 rw [exec,a,R.aw]
 simp only [W.fZ,b,Jo (Zm g _),show Gd (.u xs)=u0 from d,h,and_self,if_true,Xu]
def Dq (k){S:Y0 Sy}(g:bE n K T) (h:AH):call prog (k+4) "Cases.__init__" [.r h.e,.v (bD K T S),.i n] (h++ [.j "Cases" []])= .j (.v .Q) (h++ [Cell.obj "Cases" (cK n K T S)]):=by
 rw [Gb (d:=Jj) rfl _ _ _ rfl]
 show Gw _ (execs _ _ [k0 (.r h.e),sv (bD K T S),si n] (h++ [.j "Cases" []]))=_
 simp only [Jj]
 have o:Gd (wD K T)=true:=by
  show(Gc (K.j .j)&&(Gc (T.j .j)&&u0))=u0
  rw [Jw,Jw];rfl
 have c:Gd (.q (S.j aQ))=true:=Zk _ (λs=>(Ht s).1) S
 have p: ∀a,eval (u9 (k+3)) (.A .B (.o 0)) [k0 (.r h.e),sv (bD K T S),si n] a= .j (.v (wD K T)) a:=λa=>by simp! [ae,Wh]
 have l: ∀a,eval (u9 (k+3)) (.A .B (.o 1)) [k0 (.r h.e),sv (bD K T S),si n] a= .j (.t (S.j aQ)) a:=λa=>by simp! [ae,Xg]
 rw [za (WQ (fs:= []) (p _) rfl o (show 0<100 by decide))]
 rw [za (WQ (fs:=a0 "words" (wD K T) []) (l _) rfl c (show 1<100 by decide))]
 rw [za (WQ (fs:=a0 "sayings" (.q (S.j aQ)) (a0 "words" (wD K T) [])) (d:= .n n) (by simp! []) rfl rfl (show 2<100 by decide))]
 have pl: ∀a,eval (u9 (k+3)) (.p "places_of" (.b (.A .B (.o 0)) .J)) [some (.r h.e),sv (bD K T S),si n] a= .j (.j ((b3 n K T).j bT)) a:=fun a=>by
  simp! [ae,Wh,(EI k n K T a g.n4 g.k4 g.t4)]
  rfl
 rw [za (MJ (fs:=a0 "size" (.n n) (a0 "sayings" (.q (S.j aQ)) (a0 "words" (wD K T) []))) (pl _) rfl (wL _) (show 3<100 by decide))]
 have e:a0 "places" (.u ((b3 n K T).j bT)) (a0 "size" (.n n) (a0 "sayings" (.q (S.j aQ)) (a0 "words" (wD K T) [])))= [("words",wD K T),("sayings",.q (S.j aQ)),("size",.n n),("places",.u ((b3 n K T).j bT))]:=rfl
 rw [e]
 have q:=g.b6
 have m:=j7 (bN n K T) (by show K.e*n+T.e*(n*n)<=_;omega)
 have j:((2 ^ bN n K T:Nat):Int)-1=((2 ^ bN n K T-1:Nat):Int):=by
  have:=Ad4 (bN n K T)
  omega
 rw [za (WQ (d:= .n (2 ^ bN n K T-1)) (by
  have b:=xl (F:=(u9 (k+3))) (τ:= [k0 (.r h.e),sv (bD K T S),si n]) (i:=0) (f:= "places") (Zm h (.j "Cases" [("words",wD K T),("sayings",.q (S.j aQ)),("size",.n n),("places",.u ((b3 n K T).j bT))])) rfl rfl
  generalize E.aL _ _ _=X at b ⊢
  simp! [b,QC,ao,Aa,ZE,m,Qe,j]) rfl rfl (by simp))]
 rw [execs]
 exact GA _ _ _ (by simp)
noncomputable def eQ (n:Nat) (K T:Y0 Tx) (S:Y0 Sy) (a:Nat):Y0 (String×D):= [("cases",.p a),("needs",.u (aC (S.j (eI n K T))))]
structure Se (n:Nat) (K T:List Tx) (S:List Sy) (rs rc:Nat) (h:AH):Prop where
 se:h[rs]? =k0 (.j "Search" (eQ n K T S rc))
 cs:h[rc]? =k0 (.j "Cases" (cK n K T S))
theorem uX (f) (P:Nat->Prop): ∀ds:Y0 D,(∀ d∈ds,∃x:Nat,f d= .n x/\P x)-> ∃xs:Y0 Nat,ds.j f=aC xs/\(∀ x∈xs,P x)/\xs.e=ds.e
 | [],_=>⟨[],rfl,λ_ h=>absurd h Ai4,rfl⟩
 | d::ds,h=>by
  obtain⟨x,e,p⟩:=h d Aa3
  obtain⟨xs,e2,b,l2⟩:=uX f P ds λd c=>h d (Aa2 _ c)
  refine⟨x::xs,by rw [Ab2,e,e2];rfl,λy a=> ?_,by rw [Aa6,l2,Aa6]⟩
  rcases Ab7.p a with rfl | a
  .exact p
  .exact b y a
section
variable {n q:Nat}{K T:Y0 Tx}{S:Y0 Sy}
def CH (m:Nat) (g:bE n K T) (l: ∀s∈S,s.y (K++T)/\s.j<=q) (N:S.e<=100) (L:q+7<=m) (M:q<=14) (h:AH):call prog (m+1) "Search.__init__" [.r h.e,.v (bD K T S),.i n] (h++ [.j "Search" []])= .j (.v .Q) (h++ [.j "Search" (eQ n K T S (h.e+1)),.j "Cases" (cK n K T S)]):=by
 obtain⟨k,rfl⟩:=nk m 4 (by omega)
 have e1:=Dq k (S:=S) g (h++ [Cell.obj "Search" []])
 have o:(h++ [Cell.obj "Search" []]).e=h.e+1:=by simp
 rw [o]at e1
 rw [Gb (d:=Zh) rfl _ _ _ rfl]
 show Gw _ (execs _ _ [k0 (.r h.e),sv (bD K T S),si n] (h++ [.j "Search" []]))=_
 simp only [Zh]
 have v: ∀fs x,G6 (h++ [Cell.obj "Search" fs]++x) _=some (h.e, "Search",fs):=fun fs x=>Jo (by simp)
 have u: ∀fs b x,(h++ [Cell.obj "Search" fs]++x).w h.e (.j "Search" b)=h++ [Cell.obj "Search" b]++x:=fun fs b x=>by simp
 have mk:eval (u9 (k+4)) (.make "Cases" "Cases.__init__" (.b .B .J)) [some (.r h.e),sv (bD K T S),si n] (h++ [.j "Search" []])= .j (.r (h.e+1)) (h++ [.j "Search" []]++ [.j "Cases" (cK n K T S)]):=by
  simp! [o,e1,ao]
 rw [za (τ1:= [k0 (.r h.e),sv (bD K T S),si n]) (h1:=h++ [.j "Search" [("cases",.p (h.e+1))]]++ [.j "Cases" (cK n K T S)]) (by
  rw [exec,mk,R.aw]
  simp only [Gm,v,Ad7,show(0:Nat)<100 by decide,and_self,if_true,u]
  rfl)]
 have w:(h++ [Cell.obj "Search" [("cases",.p (h.e+1))]]++ [Cell.obj "Cases" (cK n K T S)])[h.e+1]? =some (.j "Cases" (cK n K T S)):=by simp
 have j:(h++ [Cell.obj "Search" [("cases",.p (h.e+1))]]++ [Cell.obj "Cases" (cK n K T S)])[h.e]? =some (.j "Search" [("cases",.p (h.e+1))]):=by simp
 have z:=v [("cases",.p (h.e+1))] [Cell.obj "Cases" (cK n K T S)]
 have t:=u [("cases",.p (h.e+1))] (eQ n K T S (h.e+1)) [Cell.obj "Cases" (cK n K T S)]
 have C:h++ [Cell.obj "Search" (eQ n K T S (h.e+1))]++ [Cell.obj "Cases" (cK n K T S)]=h++ [.j "Search" (eQ n K T S (h.e+1)),.j "Cases" (cK n K T S)]:=by simp
 generalize h++ [Cell.obj "Search" [("cases",.p (h.e+1))]]++ [Cell.obj "Cases" (cK n K T S)]=H at w j z t ⊢
 have comp:eval (u9 (k+4)) jg [k0 (.r h.e),sv (bD K T S),si n] H= .j (.j (aC (S.j (eI n K T)))) H:=by
  unfold jg
  obtain⟨f,B,I⟩:=p9 (F:=(u9 (k+4))) (k:=1) (aD:= [0]) (it:= .j (.A .B (.o 1))) (c:= .C true) (elt:= .p "needed_bits" (.j (.aL .B "Search" "cases") (.a .z))) (τ:= [some (.r h.e),sv (bD K T S),si n]) (h:=H) (ds:=S.j aQ) (fun d y=> ∀s∈S,d=aQ s->y= .n (eI n K T s)) (by simp! [ae,Xg]) (by rw [List.length_map];omega) (fun d G=>by
   have r: ∀s∈S,eval (u9 (k+4)) (.p "needed_bits" (.j (.aL .B "Search" "cases") (.a .z))) [sv (aQ s),some (.r h.e)] H= .j (.i (eI n K T s)) H:=fun s a=>by
    have e:=Mv (k+3) g w (l s a).1 (by have:=(l s a).2;omega) (by have:=(l s a).2;omega)
    have A:=xl (F:=(u9 (k+4))) (τ:= [sv (aQ s),k0 (.r h.e)]) (i:=1) (f:= "cases") j rfl rfl
    generalize E.aL _ _ _=X at A ⊢
    simp! [A,e]
   obtain⟨s,a,rfl⟩:=Ac.p G
   refine⟨_,r s a,λJ p e=> ?_⟩
   have e1:=r s a
   rw [e,r J p]at e1
   injection e1 with e1
   injection e1 with e1
   exact e1.p)
  rw [B]
  congr 2
  rw [Ae,aC,Ae]
  exact Ai1 λs a=>I (aQ s) (Ac.q ⟨s,a,rfl⟩) s a rfl
 rw [za (τ1:= [k0 (.r h.e),sv (bD K T S),si n]) (h1:=h++ [.j "Search" (eQ n K T S (h.e+1)),.j "Cases" (cK n K T S)]) (by
  rw [exec,comp,R.aw]
  simp only [W.fZ,Gm,z,show Gd (.u (aC (S.j (eI n K T))))=u0 from m7 _,Aa6,Ad7,show(0+1:Nat)<100 by decide,and_self,if_true]
  rw [show (a0 "needs" (.u (aC (S.j (eI n K T)))) [("cases",.p (h.e+1))])=eQ n K T S (h.e+1)from rfl,t,C]),execs]
 show fin _ (.v .Q) _=_
 unfold fin
 have D:Gx ((h++ [Cell.obj "Search" (eQ n K T S (h.e+1)),.j "Cases" (cK n K T S)]).A (h++ [Cell.obj "Search" []]).e)=false:=by
  rw [o,show h++ [Cell.obj "Search" (eQ n K T S (h.e+1)),.j "Cases" (cK n K T S)]=h++ [Cell.obj "Search" (eQ n K T S (h.e+1))]++ [.j "Cases" (cK n K T S)]by simp,List.take_left' (by simp),Gx,List.all_append]
  show(h.K Cell.pure&&k9)=k9
  rw [Ah0]
 rw [if_neg (by simp),D,Ah0,if_neg Ac2]
def ik (n:Nat) (K T:Y0 Tx) (b a:Nat) (s:Sy):Nat:=(eI n K T s &&& a)-((eI n K T s &&& a) &&& b)
def yj (low high) (s) (i):(ik n K T low high s).j i=((eI n K T s).j i&&high.j i&& !low.j i):=by
 rw [ik,Wf.aT,Ah2]
def MP (m)(g:bE n K T) (Y:Se n K T S rs rc H) (hh:high<2 ^ bN n K T) (t:js≠ []) (U:js.e<=1000) (Z: ∀j∈js,∃s,S[j]? =k0 s/\ik n K T low high s≠0):
 ∃i:Nat,i<bN n K T/\high.j i=u0/\low.j i=k9/\call prog (m+2) "Search.chosen_place" [.r rs,.p (aC js),.i low,.i high] H= .j (.i i) H:=by
 have N:bN n K T<=6:=g.b6
 obtain⟨f,b,Q⟩:=p9 (F:=(u9 (m+1))) (k:=1) (aD:= [0,3,2]) (it:= .j .B) (c:= .C true) (elt:= .w .j (.w .j (.A (.aL .B "Search" "needs") .z) .J) (.inv .K)) (τ:= [some (.r rs),some (.p (aC js)),si low,si high,none,none]) (h:=H) (ds:=aC js) (fun d y=> ∃x:Nat,y= .n x/\(∃ s,x=ik n K T low high s)/\x≠0) (by simp! []) (by rw [List.length_map];exact U) (fun d u=>by
  obtain⟨j,t,rfl⟩:=Ac.p u
  obtain⟨s,e1,e2⟩:=Z j t
  have P:j<S.e:=(Aa1.p e1).1
  have D:=xl (F:=(u9 (m+1))) (τ:= [si j,k0 (.r rs),si high,si low]) (i:=1) (f:= "needs") Y.se rfl rfl
  have q:a8 (aC (S.j (eI n K T))) (j:Int)=k0 (.n (eI n K T s)):=by
   rw [Wd _ _ (by rw [Aa,Aa];exact P),Ac1,Ac1,e1];rfl
  refine⟨.n (ik n K T low high s),?_,_,rfl,⟨s,rfl⟩,e2⟩
  show eval _ _ [si j,k0 (.r rs),si high,si low] H=_
  generalize E.aL _ _ _=X at D ⊢
  simp! [D,Zq,q,jc,Wc,xL]
  rfl)
 obtain⟨l,ex,C,v⟩:=uX f (λx=>(∃ s,x=ik n K T low high s)/\x≠0) _ λd u=>by
  obtain⟨x,e,p⟩:=Q d u
  exact⟨x,e,p⟩
 rw [ex]at b
 have lt: ∀x∈l,0<x/\x<64:=λx a=>by
  obtain⟨⟨s,e⟩,ne⟩:=C x a
  refine⟨Nat.pos_of_ne_zero ne,?_⟩
  have I:ik n K T low high s<=high:=Ab5 (Ap2 _ _) Nat.and_le_right
  have h2:2 ^ bN n K T<=2 ^ 6:=Ad (by decide) N
  omega
 obtain⟨i0,r,o⟩:=B3 (key:=fun x=>call prog (m+1) "how_many_set" [.v (.o x)] []) (xs:=l.j fun(x:Nat)=>(x:Int)) (by
  cases l with
  | nil=>
   rw [Aa]at v
   exact absurd (List.length_eq_zero_iff.p v.p) t
  | cons _ _=>simp) (λy G=>by
  obtain⟨x,a,rfl⟩:=Ac.p G
  obtain⟨y,e⟩:=BG m x [] (by have:=(lt x a).2;omega)
  exact⟨_,by show G8 (call prog (m+1) "how_many_set" [.i x] [])=_;rw [e];rfl⟩)
 obtain⟨x,a,rfl⟩:=Ac.p r
 obtain⟨z,J⟩:=lt x a
 obtain⟨i,_,A,O⟩:=Fu z (by omega)
 obtain⟨⟨s,rfl⟩,_⟩:=C x a
 rw [yj,Aa0,Aa0,Ag1]at A
 obtain⟨⟨R,V⟩,M⟩:=A
 obtain⟨p,L,_⟩:=(Bn s i).p R
 refine⟨i,?_,V,M,?_⟩
 .have:=(Aa1.p L).1
  rw [ZE]at this
  exact this
 rw [Gb (d:=We) rfl _ _ _ rfl]
 simp only [We]
 have b:eval (u9 _) zh [k0 _,k0 _,si low,si high,y0,y0] H= .j _ H:=b
 refine fx (by simp! [b];rfl) ?_
 refine fx (by
  simp! [W.mE,X7,o,ao]
  rfl) ?_
 have B:=Df z
 rw [O]at B
 have e1:((i+1:Nat):Int)-1=(i:Int):=by omega
 rw [ja (w:= .i i) (h1:=H) (Ja rfl (by simp! [B,Ig,ao,Qe,e1])),Ga _ _ _ rfl]
end
def Ol : ∀ e p,(∀ t∈cq e,bg a t=bg b t)->bt a b p e=bt a b u0 e:=by
 intro e
 induction e with
 | name t=>intro p h;cases p with
  | true=>rfl
  | false=>exact h t Aa3
 | turned e g=>intro p h;simp [bt,g p h]
 | closed e g=>intro p h;simp [bt,g p h]
 | plus e f g c=>intro p h;simp [bt,g p λt d=>h t (Ad0 _ d),c p λt d=>h t (Ab0 _ d)]
 | less e f g c=>
  intro p h
  simp [bt,g p (λt d=>h t (Ad0 _ d)),c _ (λt d=>h t (Ab0 _ d))]
 | both e f g c=>intro p h;simp [bt,g p λt d=>h t (Ad0 _ d),c p λt d=>h t (Ab0 _ d)]
 | joined e f g c=>intro p h;simp [bt,g p λt d=>h t (Ad0 _ d),c p λt d=>h t (Ab0 _ d)]
 | _=>intro p h;cases p<;>rfl
def B.nm (h:B a b e v u) (k: ∀t∈cq e,bg a t=bg b t):v=u:=by
 have l:=h.j
 rw [Ol e k9 k]at l
 exact l.uniq h.p
def Q6 (h:p≠y0) (g:q≠y0):eP p q≠none:=by
 rcases p with _ | _ | _<;>rcases q with _ | _ | _<;>first | exact absurd rfl h | exact absurd rfl g | (intro z;cases z)
def IZ (h:p≠y0) (g:q≠y0):fQ p q≠none:=by
 rcases p with _ | _ | _<;>rcases q with _ | _ | _<;>first | exact absurd rfl h | exact absurd rfl g | (intro z;cases z)
theorem Td.nm : ∀ s r,Td a b s r->(∀ t∈Z9 s,bg a t=bg b t)->r≠y0
 | .p f,r,h,k=>by
  cases f with
  | dW x y=>
   obtain⟨v,u,l,m,c,g,rfl⟩:=h
   cases c.nm λt d=>k t (Ad0 _ d)
   cases g.nm λt d=>k t (Ab0 _ d)
   rw [zR];intro z;cases z
  | eA x y=>
   obtain⟨v,u,l,m,c,g,rfl⟩:=h
   cases c.nm λt d=>k t (Ad0 _ d)
   cases g.nm λt d=>k t (Ab0 _ d)
   rw [zR,zR]
   exact Q6 (λz=>by cases z) λz=>by cases z
  | d8 x=>obtain⟨v,u,c,rfl⟩:=h;cases c.nm k;rw [jK];intro z;cases z
  | ak x=>obtain⟨v,u,c,rfl⟩:=h;cases c.nm k;rw [jK];intro z;cases z
  | cnt s j x=>obtain⟨v,u,c,rfl⟩:=h;cases c.nm k;rw [jK];intro z;cases z
 | .neg s,r,z7,k=>by
  obtain⟨q,h,e⟩:=z7
  have:=Td.nm s q h k
  cases q with
  | none=>exact absurd rfl this
  | some x=>rw [e];intro z;cases z
 | .cF s t,r,z7,k=>by
  obtain⟨p,q,c,g,e⟩:=z7
  rw [e]
  exact Q6 (Td.nm s p c λx i=>k x (Ad0 _ i)) (Td.nm t q g λx i=>k x (Ab0 _ i))
 | .cE s t,r,z7,k=>by
  obtain⟨p,q,c,g,e⟩:=z7
  rw [e]
  exact IZ (Td.nm s p c λx i=>k x (Ad0 _ i)) (Td.nm t q g λx i=>k x (Ab0 _ i))
theorem jj : ∀e:Ex,e.y N-> ∀t∈cq e,t∈N
 | .p x,w,t,h=>by rw [Ac6.p h];exact w
 | .B a,w,t,h=>jj a w t h
 | .w a,w,t,h=>jj a w t h
 | .plus a b,w,t,h=>(Ac9.p h).j (jj a w.1 t) (jj b w.2 t)
 | .z a b,w,t,h=>(Ac9.p h).j (jj a w.1 t) (jj b w.2 t)
 | .both a b,w,t,h=>(Ac9.p h).j (jj a w.1 t) (jj b w.2 t)
 | .q a b,w,t,h=>(Ac9.p h).j (jj a w.1 t) (jj b w.2 t)
theorem xQ : ∀s:Sy,s.y N-> ∀t∈Z9 s,t∈N
 | .p f,w,t,h=>by
  cases f with
  | dW a b=>exact(Ac9.p h).j (jj a w.1 t) (jj b w.2 t)
  | eA a b=>exact(Ac9.p h).j (jj a w.1 t) (jj b w.2 t)
  | d8 a=>exact jj a w t h
  | ak a=>exact jj a w t h
  | cnt _ _ a=>exact jj a w.2 t h
 | .neg a,w,t,h=>xQ a w t h
 | .cF a b,w,t,h=>(Ac9.p h).j (xQ a w.1 t) (xQ b w.2 t)
 | .cE a b,w,t,h=>(Ac9.p h).j (xQ a w.1 t) (xQ b w.2 t)
section
variable {n:Nat}{K T:Y0 Tx}{low high:Nat}
def K5 (g:bE n K T)(k:t∈K++T) (h: ∀ i x y,(b3 n K T)[i]? =k0 (t,x,y)->low.j i=high.j i):bg (wo n K T low) t=bg (wo n K T high) t:=by
 have a: ∀x y,x<n->y<n->bg _ t x y=bg (wo n K T high) t x y:=λx y j f=>by
  by_cases q: ∃i:Nat,(b3 n K T)[i]? =k0 (t,x,y)
  .obtain⟨i,d⟩:=q
   rw [(Zl g d low).1,(Zl g d high).1,h i x y d]
  .rw [qE low 0 k j f q,qE high 0 k j f q]
 funext x y
 by_cases q:t∈T
 .have b: ∀c,bg _ t x y=if x*n+y<n*n then bg _ t _ (_ % n)else false:=λc=>by
   unfold bg
   rw [if_pos (show t∈(wo n K T c).T from q),if_pos (show t∈(wo n K T c).T from q)]
   show((c8 n K.e T.e c).C (di t T) 0).j (x*n+y)=if _ then((c8 n K.e T.e c).C (di t T) 0).j ((x*n+y) / n*n+(x*n+y) % n)else k9
   rw [Wf.bw]
   by_cases z:x*n+y<n*n
   .rw [if_pos z]
   .rw [if_neg z,sV,decide_eq_false z,Ae4,Ah0]
  rw [b,b]
  by_cases z:x*n+y<n*n
  .rw [if_pos z,if_pos z]
   exact a _ _ (Wf.bh z) (Wf.a9 z)
  .rw [if_neg z,if_neg z]
 .by_cases z:x=y/\x<n
  .obtain⟨rfl,z⟩:=z
   exact a x x z z
  .have b: ∀c,bg _ t x y=false:=λc=>by
    unfold bg
    rw [if_neg (show t∉(wo n K T c).T from q)]
    show(decide _&&((cP n K.e T.e c).C _ 0).j x)=k9
    by_cases e:x=y
    .rw [uo,decide_eq_false (λl=>z ⟨e,l⟩),Ae4,Ah0,Ah0]
    .rw [decide_eq_false e,Ae4]
   rw [b,b]
def II (g:bE n K T) (sub:Sub low high)(wf:s.y (K++T)) (h:Td (wo n K T low) (wo n K T high) s y0):ik n K T low high s≠0:=λz=>by
 refine Td.nm s y0 h (λt b=>K5 g (xQ s wf t b) λi x y d=> ?_) rfl
 have c:=(Bn s i).q ⟨_,d,b⟩
 have e:=yj (n:=n) (K:=K) (T:=T) low high s i
 rw [z,Af9,c,Ae5]at e
 cases q:high.j i with
 | true=>
  rw [q,Ae5]at e
  cases a:low.j i with
  | true=>rfl
  | false=>rw [a]at e;cases e
 | false=>
  cases a:low.j i with
  | false=>rfl
  | true=>rw [sub i a]at q;cases q
def oc (n:Nat) (K T:Y0 Tx) (b a:Nat):Nat:=((Aa7 (bN n K T)).Q λi=>a.j i&& !b.j i).e
def Mg (a:i<bN n K T) (h:high.j i=u0) (l:low.j i=k9):oc n K T (low ||| 2 ^ i) high<oc n K T low high:=by
 refine n3 (λj _ z=> ?_) ⟨i,Ab9.q a,by rw [h,l];rfl,by rw [Ae8,Ak,An8,An0,Ah0]⟩
 rw [Ae8,Bool.not_or,Aa0,Aa0]at z
 rw [z.1,z.2.1];rfl
def BC (a:i<bN n K T) (h:high.j i=u0) (l:low.j i=k9):oc n K T low (high-(high &&& 2 ^ i))<oc n K T low high:=by
 refine n3 (λj _ z=> ?_) ⟨i,Ab9.q a,by rw [h,l];rfl,by rw [Wf.aT,Ak,An0,Ah0,Ae4]⟩
 rw [Wf.aT,Aa0,Aa0]at z
 rw [z.1.1,z.2];rfl
def Lr:oc n K T low high<=bN n K T:=by
 have:=Aj (λi=>high.j i&& !low.j i) (Aa7 (bN n K T))
 rw [Ai]at this
 exact this
end
abbrev XS:Tx:= [119,111,114,108,100]
abbrev jd:Tx:= [112,97,112,101,114]
structure GP (n:Nat) (K T:List Tx) (S:List Sy) (q d:Nat) (p:D) (low high:Nat):Prop where
 pp:Pp n K T S p
 dp:dep p<=d
 wk:Lw n K T S (d+q+12) p low high
section
variable {n q:Nat}{K T:Y0 Tx}{S:Y0 Sy}{d low high:Nat}{p:D}
theorem GP.up (h:GP n K T S q d p low high) (l:d<=d'):GP n K T S q d' p low high:=⟨h.pp,Ab5 h.dp l,h.wk.up (by lia)⟩
theorem GP.brk (c: ∀s∈S,s.y (K++T)/\s.j<=q)(a:S[j]? =k0 s) (b:Td (wo n K T low) (wo n K T high) s (k0 k9)) (e:1<=d):GP n K T S q d (.q [.j Qy,.n j]) low high:=⟨.brk (Aa1.p a).1,by simp;lia,(Lw.brk c a b).up (by lia)⟩
theorem GP.ef (g:bE n K T)(c:(b3 n K T)[i]? =k0 (t,x,y)) (f:high.j i=u0) (e:low.j i=k9) (a:GP n K T S q d p1 (low ||| 2 ^ i) high) (b:GP n K T S q d p2 low (high-(high &&& 2 ^ i))):GP n K T S q (d+1) (.q [.j Qj,.j t,.n x,.n y,p1,p2]) low high:=⟨.ef c a.pp b.pp,by
 have:=a.dp
 have:=b.dp
 simp [GG]
 lia,(Lw.ef g c f e (by lia) a.wk b.wk).up (by lia)⟩
def hF (n:Nat) (K T:Y0 Tx) (S:Y0 Sy) (q d e b:Nat) (a:D):Prop:=(∃ c,Sub e c/\Sub c b/\c<2 ^ bN n K T/\a= .q [.j XS,(wo n K T c).p]/\ ∀s∈S,Td (wo n K T c) (wo n K T c) s (k0 u0))\/ ∃p,a= .q [.j jd,p]/\GP n K T S q d p e b
noncomputable abbrev zev (c:Nat) (d:Y0 Nat) (b a:Nat) (l:Y0 Nat) (x y:Y1 W):Sl:= [k0 (.r c),k0 (.p (aC d)),si b,si a,k0 (.j (aC l)),x,y]
theorem pY (g:bE n K T) (A: ∀s∈S,s.y (K++T)/\s.j<=q) (N:low<2 ^ bN n K T) (w:high<2 ^ bN n K T)(r:Se n K T S rs rc H) (Q:q+10<=m): ∀ O L x y,(∀ j∈O,j<S.e)->L.e+O.e<=1000 →
 (∃ j s,S[j]? =k0 s/\Td (wo n K T low) (wo n K T high) s (k0 k9)/\Gp (Gq [5] u0) (λτ h=>execs (u9 m) qa τ h) (aC O) (zev rs j0 low high L x y) H= .j (.t [.j jd,.q [.j Qy,.n (j)]]) H) ∨
 ∃ M V W,(∀ j∈M,∃s,S[j]? =k0 s/\Td (wo n K T low) (wo n K T high) s y0)/\(∀ j∈O,j∉M-> ∃s,S[j]? =k0 s/\Td (wo n K T low) (wo n K T high) s (k0 u0))/\M.e<=O.e/\Gp (Gq [5] u0) (λτ h=>execs (u9 m) qa τ h) (aC O) (zev rs j0 low high L x y) H= .p (zev rs j0 low high (L++M) V W) H
 | [],L,x,y,_,_=> .q ⟨[],x,y,λ_ h=>absurd h Ai4,λ_ h=>absurd h Ai4,Aa8 _,by rw [Ad8];rfl⟩
 | j::O,L,x,y,G,Y=>by
  rw [Aa6]at Y
  have jl:=G j Aa3
  obtain⟨s,t⟩: ∃s,S[j]? =k0 s:=⟨S[j],Aa4 jl⟩
  obtain⟨wf,dp⟩:=A s (Ac4 t)
  obtain⟨k,rfl⟩:=nk m 1 (by omega)
  obtain⟨o,J,e1⟩:=xV k j low high g r.cs N w t (by omega) wf
  have U:=xl (F:=(u9 (k+1))) (τ:=zev rs j0 low high L (si j) y) (i:=0) (f:= "cases") r.se rfl rfl
  have tr:eval (u9 (k+1)) (.bS (.aL .z "Search" "cases") "Cases" "truth" "Cases.truth" (.c .v5 .J .K)) (zev rs j0 low high L (si j) y) H= .j (.v (aJ o)) H:=by
   generalize E.aL _ _ _=X at U ⊢
   rw [eval,U,R.af]
   simp only [Jo r.cs]
   rw [if_pos ⟨trivial,rfl⟩]
   simp! [e1]
  have D: ∀X,execs (u9 (k+1)) (.j (.ag 6 (.bS (.aL .z "Search" "cases") "Cases" "truth" "Cases.truth" (.c .v5 .J .K))) X) (zev rs j0 low high L (si j) y) H=execs (u9 (k+1)) X (zev rs j0 low high L (si j) (sv (aJ o))) H:=fun X=>by
   generalize E.bS _ _ _ _ _=Z at tr ⊢
   rw [za (τ1:=zev rs j0 low high L (si j) (sv (aJ o))) (h1:=H) (by simp! [tr])]
  have i1:=lU o k9 H
  have I:Gn (u9 (k+1)) (.y .dt .v6 (.C k9)) (zev rs j0 low high L (si j) (sv (aJ o))) H= .j (o==k0 k9) H:=by simp! [i1]
  have v: ∀ c,c.e+O.e<=1000->execs (u9 (k+1)) qa (zev rs j0 low high L (si j) y) H= .p (zev rs j0 low high c (si j) (sv (aJ o))) H->Gp (Gq [5] u0) (λτ h=>execs (u9 (k+1)) qa τ h) (aC (j::O)) (zev rs j0 low high L x y) H=Gp (Gq [5] u0) (λτ h=>execs (u9 (k+1)) qa τ h) (aC O) (zev rs j0 low high c (si j) (sv (aJ o))) H:=λc _ e=>by
   rw [aC,Ab2,Wa (τ1:=zev rs j0 low high L (si j) y) rfl e]
  rcases o with _ | _ | _
  .have b:execs (u9 (k+1)) qa (zev rs j0 low high L (si j) y) H= .p (zev rs j0 low high (L++ [j]) (si j) (sv (aJ y0))) H:=by
    unfold qa
    rw [D,xa I]
    rw [za (τ1:=zev rs j0 low high (L++ [j]) (si j) (sv (aJ y0))) (h1:=H) ((xu (h1:=H) (by simp! [aJ,ao,Ao5])).j ?_),execs]
    have lL:(aC L).e<bp:=by rw [Gg,Aa];omega
    rw [za (τ1:=zev rs j0 low high (L++ [j]) (si j) (sv (aJ y0))) (h1:=H) (by
     simp! [lL,if_true]
     simp only [zev,KU]),execs]
   rcases pY (j0:=j0) g A N w r Q O (L++ [j]) (si j) (sv (aJ y0)) (λi a=>G i (Aa2 _ a)) (by rw [Aa5];simp;omega)with⟨B,P,d,l,p⟩ | ⟨M,V,W,d,l,p,C⟩
   .exact .p ⟨B,P,d,l,(v _ (by rw [Aa5];simp;omega) b).j p⟩
   .refine .q ⟨j::M,V,W,λi a=> ?_,λi a u=> ?_,by rw [Aa6,Aa6];omega,?_⟩
    .rcases Ab7.p a with rfl | a
     .exact⟨s,t,J⟩
     .exact d i a
    .rcases Ab7.p a with rfl | a
     .exact absurd Aa3 u
     .exact l i a λz=>u (Aa2 _ z)
    .rw [v _ (by rw [Aa5];simp;omega) b,C,Ae3]
     rfl
  .refine .p ⟨j,s,t,J,?_⟩
   rw [aC,Ab2,Gp,show Gq [5] u0 (.n j) (zev rs j0 low high L x y)=k0 (zev rs j0 low high L (si j) y)from rfl]
   have b:execs (u9 (k+1)) qa (zev rs j0 low high L (si j) y) H= .j (.t [.j jd,.q [.j Qy,.n j]]) H:=by
    unfold qa
    rw [D]
    exact we I (Ja rfl (by simp! []))
   simp only [b]
  .have b:execs (u9 (k+1)) qa (zev rs j0 low high L (si j) y) H= .p (zev rs j0 low high L (si j) (sv (aJ (k0 u0)))) H:=by
    unfold qa
    rw [D,xa I,xa (by simp! [aJ,ao]),execs]
   rcases pY (j0:=j0) g A N w r Q O L (si j) (sv (aJ (k0 u0))) (λi a=>G i (Aa2 _ a)) (by omega)with⟨B,P,d,l,p⟩ | ⟨M,V,W,d,l,p,C⟩
   .exact .p ⟨B,P,d,l,(v _ (by omega) b).j p⟩
   .refine .q ⟨M,V,W,d,λi a u=> ?_,by rw [Aa6];omega,(v _ (by omega) b).j C⟩
    rcases Ab7.p a with rfl | a
    .exact⟨s,t,J⟩
    .exact l i a u
end
def uc (b:eval F a τ h= .j (.r r) h) (d:h[r]? =k0 (.j c fs)) (e:(fs.p m).u=u0) (f:Gf F es τ h= .j ws h):eval F (.bS a c m q es) τ h=F.call q (.r r::ws.j W.arg) h:=by
 rw [eval,b,R.af]
 simp only [Jo d]
 rw [if_pos ⟨trivial,e⟩,f,R.af]
def rZ (b:eval F a τ h= .j (.r r) h) (e:h[r]? =k0 (.j c fs)) (g:fs.p f=k0 d):eval F (.aL a c f) τ h= .j (.v d) h:=by
 rw [eval,b,R.af]
 simp only [Jo e]
 rw [if_pos trivial,g]
 rfl
def Bk (l) (h):Gr .j (.p (aC l)) (.j []) h=k0 (l== []):=by
 cases l with
 | nil=>rfl
 | cons x a=>
  show(if GU _ ((W.own []).dd h)then k0 (cw _ _)else y0)=_
  rw [W.kv,W.i8,GM (m7 (x::a))]
  have e:GU (.u (aC (x::a))) (.u (GO h []))=true:=by
   have:=Eb (x::a)
   have:=m7 (x::a)
   simp only [GO,decide_eq_true_eq]
   lia
  rw [if_pos e]
  rfl
section
variable {n q:Nat}{K T:Y0 Tx}{S:Y0 Sy}{low high:Nat}
def Tr (n:Nat) (K T:Y0 Tx) (S:Y0 Sy) (b a j:Nat):Prop:= ∃s,S[j]? =k0 s/\Td (wo n K T b) (wo n K T a) s (k0 u0)
theorem Tr.mono (g:bE n K T) (i: ∀s∈S,s.y (K++T)/\s.j<=q)(h:Tr n K T S low high j) (f:Sub low low') (b:Sub high' high) (k:Sub low' high') (d:low'<2 ^ bN n K T) (c:high'<2 ^ bN n K T):Tr n K T S low' high' j:=by
 obtain⟨s,e,t⟩:=h
 obtain⟨wf,dp⟩:=i s (Ac4 e)
 obtain⟨r,a,_⟩:=xV _ j low' high' (ro:=0) (h:= [Cell.obj "Cases" _]) g rfl d c e (Nat.le_refl _) wf
 have:=Td.mono (lV f) (lV b) (lV k) s _ _ u0 t a rfl
 exact⟨s,e,this▸a⟩
def Sub.eN (a):Sub a a:=λ_ h=>h
def Sub.tr (h:Sub a b) (k:Sub b c):Sub a c:=λi z=>k i (h i z)
def hF.of (g:Sub low low') (b:Sub high' high) (h: ∃c,Sub low' c/\Sub c high'/\c<2 ^ bN n K T/\a= .q [.j XS,(wo n K T c).p]/\ ∀s∈S,Td (wo n K T c) (wo n K T c) s (k0 u0)):hF n K T S q d low high a:=by
 obtain⟨c,f,e,i⟩:=h
 exact .p ⟨c,g.tr f,e.tr b,i⟩
def Ox (w:Wo):Gd w.p=true:=by simp [Wo.aG,m7,Bool.and_self]
def vX (a b):Sub a (a ||| b):=λk z=>by rw [Ae8,z];rfl
def vn (a b):Sub (a-(a &&& b)) a:=λk z=>by
 rw [Wf.aT,Aa0]at z
 exact z.1
def Mb (h:a.j i=u0):Sub (2 ^ i) a:=λk z=>by
 rw [Ae0]at z
 rw [← of_decide_eq_true z]
 exact h
def sY (i:Nat) (h:i<=1000):Gj .shl (1:Int) (i:Int)=k0 ((2 ^ i:Nat):Int):=by
 have:=jU 1 i (by decide) (by lia)
 rwa [Nat.one_mul]at this
noncomputable abbrev gQ (c:Nat) (d:Y0 Nat) (b a i:Nat) (y z u v w:Y1 W):Sl:= [k0 (.r c),k0 (.p (aC d)),si b,si a,si i,si (2 ^ i),y,z,u,v,w]
def vE (g:bE n K T) (I: ∀s∈S,s.y (K++T)/\s.j<=q)(v:Se n K T S rs rc H)(IH: ∀(u r:Nat) (l:Y0 Nat),oc n K T u r<oc n K T low high->Sub u r->u<2 ^ bN n K T->r<2 ^ bN n K T->(∀ j∈l,j<S.e)->l.e<=500->(∀ j,j<S.e->j∉l->Tr n K T S u r j)-> ∃a,Gd a=true/\hF n K T S q k u r a/\call prog (m+2) "Search.told_of_case" [.r rs,.p (aC l),.i u,.i r] H= .j (.v a) H) (hk:k<90) (sub:Sub low high) (B:low<2 ^ bN n K T) (N:high<2 ^ bN n K T) (w: ∀j∈js,j<S.e) (l5:js.e<=500) (tr: ∀j,j<S.e->j∉js->Tr n K T S low high j) (hm:k+q+18<=m): ∃a,Gd a=true/\hF n K T S q (k+1) low high a/\call prog (m+4) "Search.told_of_case" [.r rs,.p (aC js),.i low,.i high] H= .j (.v a) H:=by
 have run:=λ(a:D) (e:execs (u9 (m+3)) aO.j [k0 (.r rs),k0 (.p (aC js)),si low,si high,y0,y0,y0] H= .j (.v a) H)=>(show call prog (m+4) "Search.told_of_case" [.r rs,.p (aC js),.i low,.i high] H= .j (.v a) H from by
  rw [Gb (d:=aO) rfl _ _ _ rfl]
  show Gw _ (execs _ _ [k0 (.r rs),k0 (.p (aC js)),si low,si high,y0,y0,y0] H)=_
  rw [e,Ga _ _ _ rfl])
 simp only [aO]at run
 have st: ∀X,execs (u9 _) (.j (.set 4 (.u .p)) (.j (.for [5] u0 (.j .B) qa) X)) [k0 (.r rs),k0 (.p (aC js)),si low,si high,y0,y0,y0] H=(Gp (Gq [5] u0) (λτ h=>execs (u9 (m+3)) qa τ h) (aC js) (zev rs js low high [] y0 y0) H).seq λτ h=>execs (u9 (m+3)) X τ h:=λX=>by
  rw [za (τ1:=zev rs js low high [] y0 y0) (h1:=H) (by simp! [];rfl),execs,exec,show Gs (u9 (m+3)) (.j .B) (zev rs js low high [] y0 y0) H= .j (aC js) H by simp! [],R.aw]
 rcases pY (j0:=js) g I B N v (m:=m+3) (by omega) js [] y0 y0 w (by simp;omega)with⟨j,s,h1,h2,h3⟩ | ⟨l,x',y',h1,h2,h3,h4⟩
 .refine⟨_,by simp,.q ⟨_,rfl,GP.brk I h1 h2 (by omega)⟩,run _ ?_⟩
  rw [st,h3,O.ck]
 rw [Ae6]at h4
 have J: ∀j,j<S.e->j∉l->Tr n K T S low high j:=λj w hn=>by
  by_cases C:j∈js
  .exact h2 j C hn
  .exact tr j w C
 by_cases nil:l= []
 .subst nil
  refine⟨_,by simp [Ox],.p ⟨low,Sub.eN low,sub,B,rfl,λs hs=> ?_⟩,run _ ?_⟩
  .obtain⟨j,w,rfl⟩:=Am hs
   obtain⟨s,e,t⟩:=(J j w Ai4).mono g I (Sub.eN low) sub (Sub.eN low) B B
   rw [Aa4 w]at e
   injection e with e
   rw [e]
   exact t
  .rw [st,h4,O.bx]
   have f3:=W8 (m-3) low g v.cs B
   rw [show m-3+6=m+3 by omega]at f3
   have f3:=(uc (m:= "world_of_code") (q:= "Cases.world_of_code") (es:= .j .J .p) (ws:= [.i low]) (xl (F:=(u9 (m+3))) (τ:=zev rs js low high [] x' y') (i:=0) (f:= "cases") v.se rfl rfl) v.cs rfl (by simp! [])).j f3
   generalize E.bS _ _ _ _ _=X at f3 ⊢
   exact we (by simp! [show Gr .j (.p []) (.j []) H=k0 u0 from Bk [] H,ao]) (Ja rfl (by simp! [f3]))
 have U: ∀j∈l,j<S.e:=λj w=>by
  obtain⟨s,e,_⟩:=h1 j w
  exact(Aa1.p e).1
 have op: ∀j∈l,∃s,S[j]? =k0 s/\ik n K T low high s≠0:=λj w=>by
  obtain⟨s,e,t⟩:=h1 j w
  exact⟨s,e,II g sub (I s (Ac4 e)).1 t⟩
 have l5':l.e<=500:=by omega
 obtain⟨i,C,hb,lb,ec⟩:=MP m g v N nil (by omega) op
 have b6:bN n K T<=6:=g.b6
 have L:2 ^ i<2 ^ bN n K T:=Ao3 (by decide) C
 have V:low ||| 2 ^ i<2 ^ bN n K T:=Ak9 B L
 have hh1:high-(high &&& 2 ^ i)<2 ^ bN n K T:=Ah6 (Ap2 _ _) N
 have P:Sub (low ||| 2 ^ i) high:=vK sub (Mb hb)
 have W:Sub low (high-(high &&& 2 ^ i)):=tI sub lb
 obtain⟨Q,n1,A1,c1⟩:=IH (low ||| 2 ^ i) high l (Mg C hb lb) P V N U l5' λj w hn=>(J j w hn).mono g I (vX _ _) (Sub.eN _) P V N
 obtain⟨a2,n2,A2,c2⟩:=IH low (high-(high &&& 2 ^ i)) l (BC C hb lb) W B hh1 U l5' λj w hn=>(J j w hn).mono g I (Sub.eN _) (vn _ _) W B hh1
 have G: ∀a,call prog (m+3) "Search.told_of_halves" [.r rs,.p (aC l),.i low,.i high] H= .j (.v a) H->call prog (m+4) "Search.told_of_case" [.r rs,.p (aC js),.i low,.i high] H= .j (.v a) H:=fun a e=>run a (by
  rw [st,h4,O.bx]
  rw [xa (by simp! [Bk,beq_eq_false_iff_ne.q nil,ao])]
  exact ja (Ja rfl ((ZM (F:=(u9 (m+3))) (τ:=zev rs js low high l x' y') (i:=0) (m:= "told_of_halves") (q:= "Search.told_of_halves") (es:= .j .v4 (.b .J .K)) (ws:= [.p (aC l),.i low,.i high]) v.se rfl rfl (by simp! [])).j e)))
 have o:=λ(a:D) (e:execs (u9 (m+2)) aH.j [k0 (.r rs),k0 (.p (aC l)),si low,si high,y0,y0,y0,y0,y0,y0,y0] H= .j (.v a) H)=>G a (show call prog (m+3) "Search.told_of_halves" [.r rs,.p (aC l),.i low,.i high] H= .j (.v a) H from by
  rw [Gb (d:=aH) rfl _ _ _ rfl]
  show Gw _ (execs _ _ [k0 (.r rs),k0 (.p (aC l)),si low,si high,y0,y0,y0,y0,y0,y0,y0] H)=_
  rw [e,Ga _ _ _ rfl])
 clear run G st h4
 simp only [aH]at o
 have g1:eval (u9 (m+2)) (.bS .z "Search" "chosen_place" "Search.chosen_place" (.c .B .J .K)) [some (.r rs),some (.p (aC l)),si low,si high,none,none,none,none,none,none,none] H= .j (.i i) H:=(ZM (ws:= [.p (aC l),.i low,.i high]) v.se rfl rfl (by simp! [])).j ec
 have g2:eval (u9 (m+2)) (.bS .z "Search" "told_of_case" "Search.told_of_case" (.c .B (.w .bor .J .v5) .K)) (gQ rs l low high i none none none none none) H= .j (.v Q) H:=(ZM (ws:= [.p (aC l),.i (low ||| 2 ^ i),.i high]) v.se rfl rfl (by simp! [Zn,xm,ao])).j c1
 have g3:eval (u9 (m+2)) (.bS .z "Search" "told_of_case" "Search.told_of_case" (.c .B .J (.w .j .K (.inv .v5)))) (gQ rs l low high i (sv Q) none none none none) H= .j (.v a2) H:=(ZM (ws:= [.p (aC l),.i low,.i (high-(high &&& 2 ^ i))]) v.se rfl rfl (by simp! [jc,xL,ao])).j c2
 generalize E.bS _ _ _ _ _=X1 at g1 o
 generalize E.bS _ _ _ _ _=X2 at g2 o
 generalize E.bS _ _ _ _ _=X3 at g3 o
 have A: ∀X,execs (u9 (m+2)) (.j (.ag 4 X1) (.j (.ag 5 (.w .shl (.o 1) .v4)) (.j (.ag 6 X2) X))) [k0 (.r rs),k0 (.p (aC l)),si low,si high,y0,y0,y0,y0,y0,y0,y0] H=execs (u9 (m+2)) X (gQ rs l low high i (sv Q) y0 y0 y0 y0) H:=λX=>by
  rw [za (τ1:= [k0 (.r rs),k0 (.p (aC l)),si low,si high,si i,y0,y0,y0,y0,y0,y0]) (h1:=H) (by simp! [g1]),
   za (τ1:=gQ rs l low high i y0 y0 y0 y0 y0) (h1:=H) (by simp! [(sY i (by omega)),ao]),za (τ1:=gQ rs l low high i (sv Q) y0 y0 y0 y0) (h1:=H) (by simp! [g2])]
 rcases A1 with wd | ⟨z,rfl,M⟩
 .refine⟨Q,n1,hF.of (vX _ _) (Sub.eN _) wd,o _ ?_⟩
  obtain⟨c,_,_,_,rfl,_⟩:=wd
  rw [A]
  generalize E.bS _ _ _ _ _=Y
  exact we (by simp! [ae,Je,wb,ao];rfl) rfl
 obtain⟨b,Wb,Wl⟩:=walk g I M.pp k M.dp low high B N
 have g4:eval (u9 (m+2)) (.bS (.aL .z "Search" "cases") "Cases" "is_shown" "Cases.is_shown" (.c (.A .v6 (.o 1)) .J .K)) (gQ rs l low high i (some (.t [.j jd,z])) none none none none) H= .j (.b b) H:=(uc (ws:= [.v z,.i low,.i high]) (xl v.se rfl rfl) v.cs rfl (by simp! [ae,show a8 [D.str jd,z] 1=some z from rfl,ao])).j (Wb (m+2) rc H (by omega) v.cs)
 generalize E.bS _ _ _ _ _=Y at g4 o
 have tt:Gn (u9 (m+2)) (.or (.y .j (.A .v6 (.o 0)) (.j ib)) Y) (gQ rs l low high i (k0 (.t [.j jd,z])) y0 y0 y0 y0) H= .j b H:=by
  simp! [ae,Je,wb,ao,show(jd== ib)=k9 from rfl,g4]
 cases b with
 | true=>
  refine⟨_,n1,.q ⟨z,rfl,GP.up ⟨M.pp,M.dp,Wl rfl⟩ (Ag0 k)⟩,o _ ?_⟩
  rw [A]
  exact we tt rfl
 | false=>
  rcases A2 with wd | ⟨L,rfl,P2⟩
  .refine⟨a2,n2,hF.of (Sub.eN _) (vn _ _) wd,o _ ?_⟩
   obtain⟨c,_,_,_,rfl,_⟩:=wd
   rw [A,xa tt,za (τ1:=gQ rs l low high i (k0 (.t [.j jd,z])) (k0 (.t [.j XS,(wo n K T c).p])) y0 y0 y0) (h1:=H) (by simp! [g3])]
   exact we (by simp! [ae,Je,wb,ao];rfl) rfl
  .obtain⟨⟨t,x,y⟩,hp⟩: ∃p,(b3 n K T)[i]? =k0 p:=⟨_,Aa4 (by rw [ZE];exact C)⟩
   refine⟨.q [.j jd,.q [.j Qj,.j t,.n x,.n y,z,L]],by simp [M.pp.nr,P2.pp.nr],.q ⟨_,rfl,GP.ef g hp hb lb M P2⟩,o _ ?_⟩
   have at1:a8 ((b3 n K T).j bT) (i:Int)=k0 (.q [.j t,.n x,.n y]):=by
    rw [Wd _ _ (by rw [Aa,ZE];exact C),Ac1,hp]
    rfl
   have g5:eval (u9 (m+2)) (.aL (.aL .z "Search" "cases") "Cases" "places") (gQ rs l low high i (some (.t [.j jd,z])) (some (.t [.j jd,L])) none none none) H= .j (.l ((b3 n K T).j bT)) H:=rZ (xl v.se rfl rfl) v.cs rfl
   generalize E.aL _ _ _=Z at g5 ⊢
   rw [A,xa tt,za (τ1:=gQ rs l low high i (k0 (.t [.j jd,z])) (k0 (.t [.j jd,L])) y0 y0 y0) (h1:=H) (by simp! [g3]),xa (by simp! [ae,Je,wb,ao,show(jd== ib)=k9 from rfl])]
   refine(za (by simp! [g5,Zq,at1,ao];rfl)).j ?_
   exact ja (Ja rfl (by simp! [ae,show a8 [D.str jd,z] 1=k0 z from rfl,show a8 [D.str jd,L] 1=k0 L from rfl,ao]))
theorem r6 (g:bE n K T) (h: ∀s∈S,s.y (K++T)/\s.j<=q)(t:Se n K T S rs rc H): ∀ k low high m i,oc n K T low high<=k->k<80->Sub low high->low<2 ^ bN n K T->high<2 ^ bN n K T->(∀ j∈i,j<S.e)->i.e<=500->(∀ j,j<S.e->j∉i->Tr n K T S low high j)->2*k+q+22<=m-> ∃a,Gd a=u0/\hF n K T S q (k+1) low high a/\call prog m "Search.told_of_case" [.r rs,.p (aC i),.i low,.i high] H= .j (.v a) H
 | 0,low,high,m,i,w,y,sub,r,f,p,o,tr,u=>by
  obtain⟨m,rfl⟩: ∃x,m=x+4:=⟨m-4,by omega⟩
  exact vE g h t (λ_ _ _ z=>absurd z (by omega)) (by omega) sub r f p o tr (by omega)
 | k+1,low,high,m,i,w,y,sub,r,f,p,o,tr,u=>by
  obtain⟨m,rfl⟩: ∃x,m=x+4:=⟨m-4,by omega⟩
  exact vE g h t (λv A l z B a b c d e=>r6 g h t k v A (m+2) l (by omega) (by omega) B a b c d e (by omega)) (by omega) sub r f p o tr (by omega)
end
section
variable {n q:Nat}{K T:Y0 Tx}{S:Y0 Sy}
def NR (h:w<2 ^ b):Sub w (2 ^ b-1):=λk z=>by
 rw [Ag2,decide_eq_true_eq]
 refine Nat.lt_of_not_le λl=> ?_
 rw [Ai8 (Ab3 h (Ad (by decide) l))]at z
 cases z
def yX (w):Sub 0 w:=λk z=>by rw [Af9]at z;cases z
def NQ (g:bE n K T) (l: ∀s∈S,s.y (K++T)/\s.j<=q) (t:S.e<=100)(b:Se n K T S rs rc H) (r:q+34<=m): ∃a,Gd a=u0/\hF n K T S q 7 0 (2 ^ bN n K T-1) a/\call prog (m+1) "Search.told_of_sayings" [.r rs,.p (aC (List.range S.e))] H= .j (.v a) H:=by
 have o:bN n K T<=6:=g.b6
 have k:=Ad4 (bN n K T)
 obtain⟨a,p,A,e⟩:=r6 g l b 6 0 (2 ^ bN n K T-1) m _ (Ab5 Lr o) (by decide) (yX _) k (by lia) (λj c=>Ab9.p c) (by grind) (λj c h=>absurd (Ab9.q c) h) (by lia)
 refine⟨a,p,A,?_⟩
 rw [Gb rfl _ _ _ rfl]
 show Gw _ (execs _ _ [k0 _,k0 _] H)=_
 simp only [Zg]
 have d:eval (u9 m) (.aL (.aL .z "Search" "cases") "Cases" "whole") [some _,some (.p (aC (List.range S.e)))] H= .j _ H:=rZ (xl b.se rfl rfl) b.cs rfl
 generalize E.aL _ _ _=Z at d ⊢
 have f:=ZM (F:=(u9 m)) (τ:= [k0 _,k0 (.p (aC (List.range S.e)))]) (i:=0) (m:= "told_of_case") (q:= "Search.told_of_case") (es:= .j .B (.j (.o 0) (.j Z .p))) (ws:= [.p _,.i (0),.i _]) b.se rfl rfl (by simp! [d];rfl)
 rw [ja (Ja rfl (f.j e)),Ga _ _ _ rfl]
def F2 (xs ys) (h) (a:xs.e+ys.e<=100):GX .u (.t xs) (.t ys) h= .j (.t (xs++ys)) h:=by
 rw [jS,if_pos (by rw [Gg];lia)]
def xk (p:Gx h=u0) (a:Gx h'=u0):Gx (h++h')=true:=by
 rw [Gx,List.all_append,show h.K Cell.pure=u0 from p,show h'.K Cell.pure=u0 from a]
 rfl
def Bf (b:Gd d=u0) (a:Gx h=u0):Gw h.e (.j (.v d) (h++h'))= .j (.v d) h:=by
 have e:(h++h').A h.e=h:=List.take_left' rfl
 obtain⟨x,e1,e2⟩:=nM (n:=h.e) (h:=h++h') b (by simp) (by rw [e];exact a)
 rw [e1,e2,e]
def MF (g:bE n K T) (b: ∀s∈S,s.y (K++T)/\s.j<=q) (e:S.e<=100) (j:q<=14)(l:Gx h=u0) (t:q+35<=m): ∃a,Gd a=u0/\hF n K T S q 7 0 (2 ^ bN n K T-1) a/\call prog (m+1) "found" [.v (bD K T S),.i n] h= .j (.v a) h:=by
 obtain⟨k,rfl⟩:=nk m 5 (by omega)
 have f:Se n K T S h.e (h.e+1) (h++ [.j "Search" (eQ n K T S (h.e+1)),.j "Cases" (cK n K T S)]):=⟨by simp,by simp⟩
 obtain⟨a,c,A,p⟩:=NQ g b e (m:=k+4) f (by omega)
 refine⟨a,c,A,?_⟩
 rw [Gb (d:=oI) rfl _ _ _ rfl]
 simp only [oI]
 refine fx (by simp! [ae,Wh,ao,show List.lookup "MOST_BITS" prog.con=some (.o 16)from rfl,(WF k g h)];rfl) ?_
 have mk:eval (u9 (k+5)) (.make "Search" "Search.__init__" (.b .z .B)) [sv (bD K T S),si n] h= .j (.r h.e) (h++ [.j "Search" (eQ n K T S (h.e+1)),.j "Cases" (cK n K T S)]):=by
  simp! [(CH (k+4) g b e (by omega) j h),ao]
 have i:(0:Int)<=(S.e:Int)/\(S.e:Int)<=1000:=by omega
 have o:Gf (u9 (k+5)) (.a (.cg (.Z .y (.a (.A .z (.o 1)))))) [sv (bD K T S),si n] (h++ [.j "Search" (eQ n K T S (h.e+1)),.j "Cases" (cK n K T S)])= .j [.j (aC (List.range S.e))] (h++ [.j "Search" (eQ n K T S (h.e+1)),.j "Cases" (cK n K T S)]):=by
  simp! [ae,Xg,ao,wg,Aa,i,and_self,if_true,Ad5]
 generalize E.make _ _ _=Z at mk ⊢
 have r:eval (u9 (k+5)) (.bS Z "Search" "told_of_sayings" "Search.told_of_sayings" (.a (.cg (.Z .y (.a (.A .z (.o 1))))))) [sv (bD K T S),si n] h= .j (.v a) (h++ [.j "Search" (eQ n K T S (h.e+1)),.j "Cases" (cK n K T S)]):=by
  rw [eval,mk,R.af]
  simp only [Jo f.se]
  rw [if_pos ⟨trivial,rfl⟩,o,R.af]
  exact p
 rw [ja (Ja rfl r),Bf c l]
end
section
variable {n q:Nat}{K T:Y0 Tx}{S:Y0 Sy}
abbrev kr (K T:Y0 Tx) (n:Nat) (w:D) (a x4 x5:Y1 W):Sl:= [sv (wD K T),si n,sv w,a,x4,x5]
theorem Bg (a:n<=4) (c:i=0/\e=n\/i=1/\e=n*n): ∀ l x,(∀ y∈l,y<2 ^ e)-> ∃j,Gp (Gq [5] u0) (λτ h=>execs (u9 (m+1)) wj τ h) (aC l) (kr K T n w (si i) x4 x) h= .p (kr K T n w (si i) x4 j) h
 | [],x,_=>⟨x,rfl⟩
 | y::l,x,f=>by
  obtain⟨j,e2⟩:=Bg a c l (si y) λz g=>f z (Aa2 _ g)
  refine⟨j,?_⟩
  have p:=Af5 a a
  rw [aC,Ab2,Wa (τ1:=kr K T n w (si i) x4 (si y)) rfl ?_]
  .exact e2
  have e1:=ju m (.n y) h rfl
  have b:=Xd n n (by omega)
  have k:=sY e (by omega)
  have d:eval (u9 (m+1)) (.A (.u (.b .B (.w .q .B .B))) .K) (kr K T n w (si i) x4 (si y)) h= .j (.i e) h:=by
   rcases c with⟨rfl,rfl⟩ | ⟨rfl,rfl⟩
   .simp! [b,ao]
    rfl
   .simp! [b,ao]
    rfl
  have o:Gr .le (.v (.o 0)) (.i y) h=k0 true:=by
   show k0 (y9 (0<= y))=_
   rw [decide_eq_true (by omega)]
  have q:Gr .lt (.i y) (.i (2 ^ e)) h=k0 true:=by
   show k0 (y9 (y<((2 ^ e:Nat):Int)))=_
   rw [decide_eq_true (Int.ofNat_lt.q (f y Aa3))]
  unfold wj
  generalize E.ix _ _=X at d ⊢
  rw [xa (by simp! [e1,ao,Zw,o,d,k,q]),execs]
def vD {m i e:Nat}(c:n<=4) (g:i=0/\e=n\/i=1/\e=n*n) (l) (N:Y0 Tx) (o: ∀y∈l,y<2 ^ e) (f:a8 [x,y,z] (1+(i:Int))=k0 (.q (aC l))) (b:a8 [D.tup (K.j .j),.q (T.j .j)] (i:Int)=k0 (.q (N.j .j))) (k:l.e=N.e): ∃j L,execs (u9 (m+1)) Qq (kr K T n (.q [x,y,z]) (si i) x4 x5) h= .p (kr K T n (.q [x,y,z]) (si i) j L) h:=by
 obtain⟨d,e2⟩:=Bg c g l x5 o
 refine⟨k0 (.t (aC l)),d,?_⟩
 refine(za (by simp! [Zc,ae,f,ao];rfl)).j ?_
 rw [xa (by
  have a:cu .w (.t (aC l))=k0 true:=rfl
  have nn:Gr .q (.i l.e) (.i N.e) h=k0 false:=by
   rw [k]
   show k0 (!(decide _))=_
   rw [decide_eq_true rfl]
   rfl
  simp! [a,wg,Aa,ae,b,nn])]
 rw [za (by
  exact e2),execs]
def Cq (g:bE n K T) (m c) (h):call prog (m+2) "_law_is_world" [.v (wD K T),.i n,.v (wo n K T c).p] h= .j (.b true) h:=by
 have ok:=(g.wo c).wl
 obtain⟨j,i,e1⟩:=vD g.n4 (.p ⟨rfl,rfl⟩) (wo n K T c).ks K ok.bk rfl rfl ok.lk
 obtain⟨a2,k,e2⟩:=vD g.n4 (.q ⟨rfl,rfl⟩) (wo n K T c).ts T ok.bt rfl rfl ok.lt
 have e:=ju m (.n n) h rfl
 show Gw _ (execs _ _ (kr K T n (.q [.n n,.q _,.q _]) y0 y0 y0) h)=_
 simp only [jw]
 rw [xa (by
  have a:cu .w (.t [.n n,.q (aC (wo n K T c).ks),.q (aC (wo n K T c).ts)])=k0 true:=rfl
  have f:Gr .q (.i (3)) (.v (.o 3)) h=k0 false:=rfl
  have d:Gr .q (.i n) (.i n) h=k0 false:=by
   show k0 (!(decide _))=_
   rw [decide_eq_true rfl]
   rfl
  simp! [a,ao,wg,Aa6,Ad7,f,ae,uy,d,e,Zw])]
 rw [za (by
  rw [exec,show Gs (u9 _) _ _ h= .j [.n (0),.n (1)] h by(have b: -(f7)<= 2/\ 2<f7:=by rw [GT];lia);simp! [b,and_self,if_true];rfl,R.aw]
  rw [Wa rfl e1]
  rw [Wa rfl e2,zK])]
 rw [ja rfl,Ga _ _ _ rfl]
end
def bE.le (g:bE n K T) (h:m<=n):bE m K T:=⟨Ab5 h g.n4,g.k4,g.t4,Ab5 (Nat.add_le_add (Nat.mul_le_mul_left _ h) (Nat.mul_le_mul_left _ (Af5 h h))) g.b6,g.nd,g.l8⟩
def oF (h:Gd (.q [.j s,d])=u0):Gd d=true:=by simpa using h
def K7 (a:bnd d τ=k0 τ1) (b:body τ1 h= .j w h2):Gp bnd body (d::ds) τ h= .j w h2:=by
 rw [qP,a];simp only [b]
section
variable {K T:Y0 Tx}{S:Y0 Sy}{m q:Nat}{H:AH}
def gk (K T:Y0 Tx) (S:Y0 Sy) (q n:Nat) (ds:Y0 D):Prop:=ds.e=n/\ ∀s,s<n-> ∃p,ds[s]? =k0 p/\GP s K T S q 7 p 0 (2 ^ bN s K T-1)
def gk.snoc (h:gk K T S q n ds) (P:GP n K T S q 7 p 0 (2 ^ bN n K T-1)):gk K T S q (n+1) (ds++ [p]):=⟨by rw [Aa5,h.1];rfl,λs d=>by
 by_cases e:s<n
 .obtain⟨c,b,a⟩:=h.2 s e
  exact⟨c,by rw [Ac5 (by rw [h.1];exact e),b],a⟩
 .obtain rfl:s=n:=by omega
  exact⟨p,by rw [Ad6 (by rw [h.1];exact Aa8 _),h.1,Al2];rfl,P⟩⟩
def mC (K T:Y0 Tx) (S:Y0 Sy) (m s c:Nat):Prop:=s<=m/\c<2 ^ bN s K T/\ ∀z∈S,Td (wo s K T c) (wo s K T c) z (k0 u0)
abbrev gD (K T:Y0 Tx) (S:Y0 Sy) (m r:Nat) (a x4 x5:Y1 W):Sl:= [sv (bD K T S),si m,k0 (.r r),a,x4,x5]
def C0 (g:bE m K T)(b:s<=m) (i: ∀z∈S,z.y (K++T)/\z.j<=q) (t:S.e<=100) (l:q<=14) (n:Gx H=u0)(w:q+36<=f)(v:ds.e<=1000):
 (∃ c,mC K T S m s c/\execs (u9 f) Xe (gD K T S m H.e (si s) x4 x5) (H++ [.u ds])= .j (.t [(wo s K T c).p,.p H.e]) (H++ [.u ds]))\/ ∃p j M,GP s K T S q 7 p 0 (2 ^ bN s K T-1)/\execs (u9 f) Xe (gD K T S m H.e (si s) x4 x5) (H++ [.u ds])= .p (gD K T S m H.e (si s) j M) (H++ [.u (ds++ [p])]):=by
 obtain⟨f,rfl⟩:=nk f 1 (by omega)
 obtain⟨a,r,o,e1⟩:=MF (h:=H++ [.u ds]) (m:=f) (g.le b) i t l (xk n rfl) (by omega)
 unfold Xe
 rcases o with⟨c,_,_,e,rfl,d⟩ | ⟨p,rfl,P⟩
 .refine .p ⟨c,⟨b,e,d⟩,?_⟩
  refine(za (by simp! [ao,e1];rfl)).j ?_
  exact we (by simp! [wb,ao,show(XS== ib)=u0 from rfl]) (Ja rfl (by simp! [ao]))
 .refine .q ⟨p,k0 (.s jd),sv p,P,?_⟩
  refine(za (by simp! [ao,e1];rfl)).j ?_
  rw [xa (by simp! [wb,ao,show(jd== ib)=k9 from rfl])]
  have L:GF (H++ [.u ds]) (k0 (.r H.e))=k0 (H.e,ds):=by simp [GF]
  have u:ds.e<bp/\Gd p=true:=⟨by rw [Gg];omega,oF r⟩
  have k:(H++ [Cell.lst ds]).w H.e (.u (ds++ [p]))=H++ [.u (ds++ [p])]:=by
   rw [An4 _ _ (Aa8 _),Al2];rfl
  rw [za (τ1:=gD K T S m H.e (si s) (k0 (.s jd)) (sv p)) (h1:=H++ [.u (ds++ [p])]) (by simp! [L,ao,W.lI,u,and_self,if_true,k]),execs]
theorem vO (g:bE m K T) (b: ∀z∈S,z.y (K++T)/\z.j<=q) (o:S.e<=100) (d:q<=14) (l:Gx H=u0)(n:q+36<=f): ∀(k j:Nat) (ds:Y0 D) (a x4 x5:Y1 W),j+k=m+1->gk K T S q j ds →
 (∃ s c es,mC K T S m s c/\gk K T S q s es/\Gp (Gq [3] u0) (λτ h=>execs (u9 f) Xe τ h) ((Ak6 j k).j λi=>D.n i) (gD K T S m H.e a x4 x5) (H++ [.u ds])= .j (.t [(wo s K T c).p,.p H.e]) (H++ [.u es]))\/ ∃es O L M,gk K T S q (m+1) es/\Gp (Gq [3] u0) (λτ h=>execs (u9 f) Xe τ h) ((Ak6 j k).j λi=>D.n i) (gD K T S m H.e a x4 x5) (H++ [.u ds])= .p (gD K T S m H.e O L M) (H++ [.u es])
 | 0,j,ds,a,x4,x5,e,P=> .q ⟨ds,a,x4,x5,by rw [show m+1=j by omega];exact P,rfl⟩
 | k+1,j,ds,a,x4,x5,e,P=>by
  have n4:=g.n4
  rw [Al4,Ab2]
  rcases C0 g (s:=j) (by omega) b o d l n (ds:=ds) (by rw [P.1];omega) (x4:=x4) (x5:=x5)with⟨c,w,e1⟩ | ⟨p,L,M,G,e1⟩
  .exact .p ⟨j,c,ds,w,P,K7 (τ1:=gD K T S m H.e (si j) x4 x5) rfl e1⟩
  .rw [Wa (τ1:=gD K T S m H.e (si j) x4 x5) rfl e1]
   exact vO g b o d l n k (j+1) (ds++ [p]) (si j) L M (by omega) (P.snoc G)
def HB (g:bE m K T) (l: ∀z∈S,z.y (K++T)/\z.j<=q) (t:S.e<=100) (n:q<=14) (p:Gx H=u0)(r:q+36<=f):(∃ s c es,mC K T S m s c/\gk K T S q s es/\call prog (f+1) "smallest" [.v (bD K T S),.i m] H= .j (.t [(wo s K T c).p,.p H.e]) (H++ [.u es]))\/ ∃es,gk K T S q (m+1) es/\call prog (f+1) "smallest" [.v (bD K T S),.i m] H= .exc (.err "NoWorld" "papers" (.p H.e)) (H++ [.u es]):=by
 have n4:=g.n4
 obtain⟨k,rfl⟩:=nk f 5 (by omega)
 have e1:=WF k g H
 have u:Gs (u9 (k+5)) (.au (.w .u .B (.o 1))) (gD K T S m H.e y0 y0 y0) (H++ [.u []])= .j ((Ak6 0 (m+1)).j λi=>D.n i) (H++ [.u []]):=by
  show Gk _ _ _ _=_
  rw [← Al7]
  exact Jm (m:=m+1) (by simp! [Zc,ao];rfl) (by omega)
 have j: ∀ {X},(∀ o,Gp (Gq [3] u0) (fun a h=>execs (u9 (k+5)) Xe a h) ((List.range' 0 (m+1)).j fun i=>D.n i) (gD K T S m H.e y0 y0 y0) (H++ [.u []])=o->Gw H.e (o.seq fun a h=>execs (u9 (k+5)) (.a (.dN "NoWorld" "papers" .J)) a h)=X)->call prog (k+5+1) "smallest" [.v (bD K T S),.i m] H=X:=fun {X} h=>by
  rw [Gb (d:=ZD) rfl _ _ _ rfl]
  simp only [ZD]
  refine fx (by simp! [ae,Wh,ao,show List.lookup "MOST_BITS" prog.con=some (.o 16)from rfl,e1];rfl) ?_
  refine fx (by simp! [ao,Gc,if_true];rfl) ?_
  rw [execs,exec]
  refine(congrArg (λx=>Gw _ (O.seq (R.cH x _) _)) u).j ?_
  exact h _ rfl
 rcases vO g l t n p r (m+1) 0 [] y0 y0 y0 (by omega) ⟨rfl,λs v=>absurd v (Ag3 _)⟩with⟨s,c,es,w,P,e⟩ | ⟨es,B,y,A,P,e⟩
 .refine .p ⟨s,c,es,w,P,j λo b=> ?_⟩
  rw [← b,e,O.ck]
  simp [Gw,fin,W.keep]
 .refine .q ⟨es,P,j λo b=> ?_⟩
  rw [← b,e,O.bx]
  simp only [execs,exec,Gu,eval,Gi,Gm,R.af,R.ar,W.lI,R.aw,O.eU,GZ]
end
theorem vv {st:Sl->AH->Prop}: ∀(L:Y0 α),(∀ a∈L,∀τ h,st τ h-> ∃τ1 i h2,bnd (e a) τ=k0 τ1/\body τ1 h= .p i h2/\st i h2)-> ∀τ h,st τ h-> ∃j h',Gp bnd body (L.j e) τ h= .p j h'/\st j h'
 | [],_,τ,h,z=>⟨τ,h,rfl,z⟩
 | a::L,step,τ,h,z=>by
  obtain⟨τ1,i,h2,e1,e2,c⟩:=step a Aa3 τ h z
  obtain⟨j,h',g,f⟩:=vv L (λb d=>step b (Aa2 _ d)) i h2 c
  exact⟨j,h',by rw [Ab2,Wa e1 e2,g],f⟩
def DM (e:h[r]? =k0 (.u xs)):dZ .y [.r r] h=ao (.o xs.e) h:=by
 show(R.of h _).p _=_
 rw [show (W.r r).seq? h=k0 xs by simp [W.seq?,e]];rfl
def DD (h1:x<=y) (d:eval F a τ h= .j (.v (.o 0)) h) (f:eval F b τ h= .j (.i x) h) (e:eval F c τ h= .j (.i y) h):eval F (.chain .le .le a b c) τ h= .j (.b u0) h:=by simp_all
section
variable {K T:Y0 Tx}{S:Y0 Sy}{m q:Nat}{H:AH}
def ES (s c):Gd (wo s K T c).p=u0/\dep (wo s K T c).p<150:=by
 have a:=λl:Y0 Nat=>Zk (λi:Nat=>D.n i) (λ_=>rfl) l
 have b:=λl:Y0 Nat=>wH (λi:Nat=>D.n i) 0 (λ_=>Aa8 _) l
 constructor
 .show(u0&&(Gc (aC _)&&(Gc (aC _)&&u0)))=u0
  rw [show Gc (aC _)=u0 from a _,show Gc (aC _)=u0 from a _];rfl
 .have d:=b (wo s K T c).ks
  have e:=b (wo s K T c).ts
  show max 0 (max (GG (aC _)+1) (max (GG (aC _)+1) 0))+1<150
  have d:GG (aC (wo s K T c).ks)<=0:=d
  have e:GG (aC (wo s K T c).ts)<=0:=e
  omega
def nv (s c) (h):Gr .j (.v (wo s K T c).p) (.t []) h=k0 k9/\Gr .q (.v (wo s K T c).p) (.s []) h=k0 u0/\Gr .j (.v (wo s K T c).p) (.s []) h=k0 false:=by
 have g:=ES (K:=K) (T:=T) s c
 have r:=Q0 (h:=h) g.1
 refine⟨?_,?_,?_⟩
 .show(if GU (res h _) _ then k0 (cw (res h _) _)else y0)=_
  rw [r,if_pos (by rw [GU,g.1,decide_eq_true g.2];rfl)];rfl
 .show(if GU (res h _) _ then k0 (!cw (res h _) _)else y0)=_
  rw [r,if_pos (by rw [GU,g.1,decide_eq_true g.2];rfl)];rfl
 .show(if GU (res h _) _ then k0 (cw (res h _) _)else y0)=_
  rw [r,if_pos (by rw [GU,g.1,decide_eq_true g.2];rfl)];rfl
abbrev mu (K T:Y0 Tx) (S:Y0 Sy) (m:Nat) (b a x4 x5:Y1 W):Sl:= [sv (bD K T S),si m,b,a,x4,x5]
def tX (g:bE m K T) (r: ∀z∈S,z.y (K++T)/\z.j<=q) (C:S.e<=100) (u:q<=14) (v:Gx H=u0){f:Nat}(G:q+37<=f): ∃x n es,call prog (f+1) "_law_asked" [.v (bD K T S),.i m] H= .j (.t [x,.p H.e,.n n]) (H++ [.u es])/\gk K T S q n es/\((x= .j []/\n=m+1)\/ ∃c,mC K T S m n c/\x=(wo n K T c).p):=by
 obtain⟨f,rfl⟩:=nk f 1 (by omega)
 have l: ∀ {o X},exec (u9 (f+1)) (.eR 3 "smallest" (.b .z .B) "NoWorld" 4 2 "papers") (mu K T S m (sv .Q) (sv .Q) none none) H=o->(∀ Y,bB.j= .j (.ag 2 .ak) (.j (.ag 3 .ak) (.j (.eR 3 "smallest" (.b .z .B) "NoWorld" 4 2 "papers") Y))->Gw H.e (o.seq fun F h=>execs (u9 (f+1)) Y F h)=X)->call prog (f+1+1) "_law_asked" [.v (bD K T S),.i m] H=X:=fun {o X} D h=>by
  rw [Gb (d:=bB) rfl _ _ _ rfl,←h _ rfl,←D]
  rfl
 rcases HB (H:=H) g r C u v (f:=f) (by omega)with⟨s,c,es,w,P,e⟩ | ⟨es,P,e⟩
 .refine⟨(wo s K T c).p,s,es,l (o:= .p (mu K T S m (sv .Q) (k0 (.t [(wo s K T c).p,.p H.e])) y0 y0) (H++ [.u es])) ?_ λY a=> ?_,P,.q ⟨c,w,rfl⟩⟩
  .rw [exec,show Gf _ _ _ _= .j [.v (bD K T S),.i m] H by simp! []]
   show(match call prog (f+1) "smallest" [.v (bD K T S),.i m] H with | .j w h=>_ | .exc d h=>_ | .fail=>_)=_
   rw [e];rfl
  .simp only [bB]at a
   injection a with _ a
   injection a with _ a
   injection a with _ a
   subst a
   have j:=nv (K:=K) (T:=T) s c (H++ [.u es])
   have e1:=ju f (.n s) (H++ [.u es]) rfl
   generalize A:(wo s K T c).p=B at j
   obtain⟨b,i,rfl⟩: ∃k t,B= .q [.n s,k,t]:=⟨_,_,A.p⟩
   have i2:cu .w (.t [.q [.n s,b,i],.p H.e])=k0 true:=rfl
   have i3:cu .w (.t [.n s,b,i])=k0 true:=rfl
   have l2:Gr .q (.i (2)) (.v (.o 2)) (H++ [.u es])=k0 false:=rfl
   have y:Gr .q (.i (3)) (.v (.o 3)) (H++ [.u es])=k0 false:=rfl
   rw [O.bx,xa (by simp! [ao,An0])]
   rw [xa (by simp! [i2,ao,wg,Aa6,Ad7,l2])]
   rw [xa (by simp! [ae,Wh,ao,i3,j.1])]
   rw [za (τ1:=mu K T S m (sv .Q) (k0 (.t [.q [.n s,b,i],.p H.e])) y0 (si s)) (h1:=H++ [.u es]) (by simp! [ae,Wh,ao,uy])]
   rw [xa (by
    have p:eval (u9 (f+1)) (.chain .le .le (.o 0) .v5 .B) (mu K T S m (sv .Q) (k0 (.t [.q [.n s,b,i],.p H.e])) y0 (si s)) (H++ [.u es])= .j (.b u0) (H++ [.u es]):=DD w.1 rfl rfl rfl
    generalize E.chain _ _ _ _ _=X at p ⊢
    simp! [ae,Wh,ao,wg,Aa6,Ad7,y,e1,Zw,p])]
   rw [ja (w:= .t [.q [.n s,b,i],.p H.e,.n s]) (h1:=H++ [.u es]) (Ja rfl (by simp! [ae,Wh,Xg,ao]))]
   simp [Gw,fin,W.keep]
 .refine⟨.j [],m+1,es,l (o:= .p (mu K T S m (k0 (.r H.e)) (sv .Q) y0 y0) (H++ [.u es])) ?_ λY a=> ?_,P,.p ⟨rfl,rfl⟩⟩
  .rw [exec,show Gf _ _ _ _= .j [.v (bD K T S),.i m] H by simp! []]
   show(match call prog (f+1) "smallest" [.v (bD K T S),.i m] H with | .j w h=>_ | .exc d h=>_ | .fail=>_)=_
   rw [e];rfl
  .simp only [bB]at a
   injection a with _ a
   injection a with _ a
   injection a with _ a
   subst a
   rw [O.bx,we (w:= .t [.j [],.p H.e,.n (m+1)]) (by simp! [ao]) (Ja rfl (by simp! [ao,Zc];rfl))]
   simp [Gw,fin,W.keep]
abbrev k5 (K T:Y0 Tx) (S:Y0 Sy) (r n:Nat) (x:Y1 W):Sl:= [sv (bD K T S),k0 (.r r),si n,x]
def sE (g:bE m K T) (l:Gx H=true) (I:q<=14)(M:40<=f)(a:H[r]? =some (.u ds)) (N:n<=m+1) (P:gk K T S q n ds):call prog (f+1) "_law_papers_are" [.v (bD K T S),.r r,.i n] H= .j (.b true) H:=by
 have n4:=g.n4
 obtain⟨f,rfl⟩:=nk f 2 (by omega)
 have E:Gs (u9 (f+2)) (.au .J) (k5 K T S r n y0) H= .j ((Aa7 n).j λi=>D.n i) H:=by
  show Gk _ _ _ _=_
  exact Jm (m:=n) rfl (by omega)
 obtain⟨B,J,C,L,ex,rfl,rfl,_⟩:=vv (e:=λi:Nat=>D.n i) (bnd:=Gq [3] u0) (body:=λc h=>execs (u9 (f+2)) qh c h) (st:=λc h=> ∃x ex,c=k5 K T S r n x/\h=H++ex/\Gx ex=u0) (Aa7 n) (λs b c h j=>by
  obtain⟨x,ex,rfl,rfl,u⟩:=j
  have b:=Ab9.p b
  obtain⟨p,o,G⟩:=P.2 s b
  have t:=g.le (show s<=m by omega)
  have e1:dJ (.r r) (.i s) (H++ex)=k0 p:=by
   rw [xq (xs:=ds) (by rw [Ac5 (Aa1.p a).1,a]),Wd _ _ (by rw [P.1];exact b),o]
  have F:=EJ f t (H++ex)
  have z:=G.wk _ _ _ (Ma t (r:=(H++ex).e) (h:=H++ex++ [.p (aR (K++T) (fO s T))]) (by simp))
  have A:=z.mW (xk (xk l u) rfl) (f+2) (by omega)
  have k:dJ (.r r) (.i s) (H++ex++ [.p (aR (K++T) (fO s T))])=k0 p:=by
   rw [xq (xs:=ds) (by rw [Ae3,Ac5 (Aa1.p a).1,a]),Wd _ _ (by rw [P.1];exact b),o]
  refine⟨_,k5 K T S r n (si s),H++ex++ [.p (aR (K++T) (fO s T))],rfl,?_,si s,ex++ [.p (aR (K++T) (fO s T))],rfl,by rw [Ae3],xk u rfl⟩
  unfold qh
  show execs _ _ (k5 K T S r n (si s)) _=_
  rw [za (my (h1:=H++ex++ [.p (aR (K++T) (fO s T))]) (by simp! [ao,ae,Wh,F,k,A])),execs]) (k5 K T S r n y0) H ⟨_,[],rfl,by rw [Ad8],rfl⟩
 have v:GF H (k0 (.r r))=k0 (r,ds):=by simp only [W.r,GF,a]
 have nn:Gr .q (.v (.o (ds.e:Int))) (.i n) H=k0 false:=by
  rw [P.1]
  exact j8 (.o _) rfl (show (0:Nat)<150 by decide) H
 have y:=DM a
 rw [Gb (d:=Zj) rfl _ _ _ rfl]
 show Gw _ (execs _ _ (k5 K T S r n y0) H)=_
 simp only [Zj]
 rw [xa (by simp! [v,ao,y,nn])]
 refine fx (by
  rw [exec,E,R.aw]
  exact C) ?_
 rw [ja (w:= .b u0) (h1:=H++ex) rfl,Bf rfl l]
end
section
variable {K T:Y0 Tx}{n:Nat}
def LX (g:bE n K T) (p:0<(K++T).e)(f): ∃(X:Y0 Sy) (l:Int),(∀ z∈X,z.y (K++T)/\z.j<=9)/\X.e=4/\call prog (f+2) "_law_first" [.r 0,.v (wD K T)] [ai ns i v]= .j (.j (X.j aQ)) [ai ns i l]:=by
 have u:(K++T).e<=8:=by rw [Aa5];have:=g.k4;have:=g.t4;omega
 have t:(K.j D.str).e+(T.j D.str).e<=bp:=by rw [Gg,Aa,Aa];have:=g.k4;have:=g.t4;omega
 obtain⟨a,v1,j,e1⟩:=Zf f (h:= [ai ns i v]) (r:=0) rfl (m:=(K++T).e) p (by omega)
 have e1:call prog (f+1) "_law_draw" [.r 0,.i (K++T).e] [ai ns i v]= .j (.i a) [ai ns i v1]:=e1
 obtain⟨b,v2,A,e2⟩:=Zf f (h:= [ai ns i v1]) (r:=0) rfl (m:=3) (by decide) (by decide)
 have e2:call prog (f+1) "_law_draw" [.r 0,.v (.o 3)] [ai ns i v1]= .j (.i b) [ai ns i v2]:=e2
 obtain⟨d,v3,y,k⟩:=Zf f (h:= [ai ns i v2]) (r:=0) rfl (m:=4) (by decide) (by decide)
 have k:call prog (f+1) "_law_draw" [.r 0,.v (.o 4)] [ai ns i v2]= .j (.i d) [ai ns i v3]:=k
 have q:a8 ((K++T).j D.str) (a:Int)=k0 (.j (K++T)[a]):=by
  rw [Wd _ _ (by rw [Aa];exact j),Ac1,Aa4 j];rfl
 obtain⟨x,e,s,ex⟩: ∃x:Ex,x.y (K++T)/\x.j=0/\dJ (.j [.q [.j Jg,.j (K++T)[a]],.q [.j Xn],.q [.j jf]]) (.i b) [ai ns i v2]=k0 (aY x):=by
  obtain rfl | rfl | rfl:b=0\/b=1\/b=2:=by omega
  .exact⟨.p (K++T)[a],Al5 j,rfl,rfl⟩
  .exact⟨.K,trivial,rfl,rfl⟩
  .exact⟨.same,trivial,rfl,rfl⟩
 have i1:((1:Int)+(d:Int))=((1+d:Nat):Int):=by omega
 refine⟨[.p (.d8 x),.p (.cnt Qa 2 x),.p (.ak (.z .K x)),.p (.cnt Qa (1+d) x)],v3,λz c=> ?_,rfl,?_⟩
 .have o:(Ex.less .K x).j<=9:=by rw [Ex.dp,s];decide
  rcases Ab7.p c with rfl | c
  .exact⟨e,by show x.j<=9;omega⟩
  rcases Ab7.p c with rfl | c
  .exact⟨⟨Aa3,e⟩,by show x.j<=9;omega⟩
  rcases Ab7.p c with rfl | c
  .exact⟨⟨trivial,e⟩,o⟩
  rw [Ac6.p c]
  exact⟨⟨Aa3,e⟩,by show x.j<=9;omega⟩
 .rw [Gb (d:=zx) rfl _ _ _ rfl]
  show Gw 1 (execs _ _ [k0 (.r 0),sv (wD K T),y0,y0] [ai ns i v])=_
  simp only [zx]
  refine fx (τ1:= [k0 (.r 0),sv (wD K T),k0 (.l ((K++T).j .j)),y0]) (h1:= [ai ns i v]) (by
   simp! [ae,Wh,Xg,jS,t,if_true,ao,ub]
   rw [Af1]) ?_
  refine fx (τ1:= [k0 (.r 0),sv (wD K T),k0 (.l ((K++T).j .j)),sv (aY x)]) (h1:= [ai ns i v2]) (by simp! [QC,Aa,ao,e1,Zq,q,e2,ex]) ?_
  rw [ja (w:= .j _) (h1:= [ai ns i v3]) (Zx rfl (by simp! [ao,k,Zc,i1];rfl))]
  rfl
end
abbrev g7 (sc:D) (e a x4 x5 c d b f:Y1 W):Sl:= [sv sc,k0 (.r 0),e,a,x4,x5,c,d,b,f]
def vW:Ss:=match cN.j with
 | .j _ (.j _ (.j _ (.j _ (.j _ y))))=>y
 | y=>y
def LM:S:=match cN.j with
 | .j _ (.j _ (.j _ (.j _ (.j s _))))=>s
 | _=> .eL
section
variable {K T:Y0 Tx}{S:Y0 Sy}{m:Nat}{H:AH}
def EU (g:bE n K T) (a b): ∃f,Dc (wo n K T a) (wo n K T b) f 0 [.p (aR (K++T) f)]:=⟨λt=>((fS n K T a t).1,(fS n K T b t).1),rfl,g.n4,λt c=>(W9 (r:=0) (h:= [.p _]) g rfl).lo t c,λt c=>(W9 (r:=0) (h:= [.p (aR _ (fS n K T b))]) g rfl).lo t c⟩
def WH (g:bE m K T)(w:mC K T S m s c) (p:gk K T S 9 n ds) (h:s<n):False:=by
 obtain⟨i,e,b⟩:=w
 obtain⟨j,_,P⟩:=p.2 s h
 obtain⟨f,D⟩:=EU (g.le i) 0 (2 ^ bN s K T-1)
 obtain⟨z,a,d⟩:=(P.wk _ _ _ D).snd c (yX c) (NR e)
 cases d _ (b z a)
def MT (g:bE m K T) (q: ∀z∈S,z.y (K++T)/\z.j<=9) (u:S.e<=100) (i:Gx H=u0){sc:D}{x5:Y1 W}: ∃H',execs (u9 69) vW (g7 sc (si m) (sv (wD K T)) (sv (bD K T S)) x5 y0 y0 y0 y0) H= .j (.b u0) H':=by
 obtain⟨x,n,a,e1,l,p⟩:=tX (H:=H) g q u (by decide) i (f:=68) (by decide)
 obtain⟨L,C⟩:GF (H++ [.u a]) (k0 (.r H.e))=k0 (H.e,a)/\(H++ [Cell.lst a]).w H.e (.u (a++ [.Q]))=H++ [.u (a++ [.Q])]:=⟨by simp [GF],by rw [An4 _ _ (Aa8 _),Al2];rfl⟩
 obtain⟨y,d,j,M,t,k⟩:=tX (H:=H++ [.u (a++ [.Q])]) g q u (by decide) (xk i rfl) (f:=68) (by decide)
 have n4:=g.n4
 have B:n<=m+1:=by
  rcases p with⟨_,rfl⟩ | ⟨c,w,_⟩
  .exact Aa8 _
  .have:=w.1;omega
 have J:a.e<bp/\Gd .Q=true:=⟨by rw [Gg,l.1];omega,rfl⟩
 have e2:=sE (H:=H++ [.u a]) g (xk i rfl) (by decide) (f:=68) (by decide) (r:=H.e) (by simp) B l
 have nn:d=n:=by
  rcases p with⟨_,rfl⟩ | ⟨c,w,_⟩
  .rcases k with⟨_,rfl⟩ | ⟨o,e,_⟩
   .rfl
   .exact(WH g e l (by have:=e.1;omega)).j
  .rcases k with⟨_,rfl⟩ | ⟨o,e,_⟩
   .exact(WH g w t (by have:=w.1;omega)).j
   .rcases Nat.lt_trichotomy d n with h | h | h
    .exact(WH g e l h).j
    .exact h
    .exact(WH g w t h).j
 subst nn
 have E:=sE (H:=H++ [.u (a++ [.Q])]++ [.u j]) g (xk (xk i rfl) rfl) (by decide) (f:=68) (by decide) (r:=(H++ [Cell.lst (a++ [.Q])]).e) (by simp) B t
 have G: ∀h,Gr .q (.s []) (.s []) h=k0 k9/\Gr .j (.s []) (.s []) h=k0 true:=λh=>⟨rfl,rfl⟩
 have s: ∃b:Bool,(∀ h,Gr .j (.v x) (.s []) h=some b/\Gr .j (.v y) (.s []) h=some b)/\ ∀X,execs (u9 69) (.j (.iff (.y .q .v6 (.j [])) (.a (.r (.or (.not (.p "_law_is_world" (.c .K .v8 .v6))) (.not (.p "_law_keeps" (.b .v4 .v6)))) (.C false))) .p) X) (g7 sc (si m) (sv (wD K T)) (sv (bD K T S)) x5 (sv x) (some (.r H.e)) (si d) none) (H++ [.u a])=execs (u9 69) X (g7 sc (si m) (sv (wD K T)) (sv (bD K T S)) x5 (sv x) (some (.r H.e)) (si d) none) (H++ [.u a]):=by
  rcases p with⟨rfl,A⟩ | ⟨c,w,rfl⟩
  .rcases k with⟨rfl,_⟩ | ⟨o,e,_⟩
   .exact⟨u0,λh=>⟨rfl,rfl⟩,λX=>xa (by simp! [(G _).1,ao])⟩
   .exact absurd e.1 (by omega)
  .rcases k with⟨_,v⟩ | ⟨o,e,rfl⟩
   .exact absurd w.1 (by omega)
   .refine⟨k9,λh=>⟨(nv _ c h).2.2,(nv _ o h).2.2⟩,λX=>za ((xu (h1:=H++ [.u a]) (by simp! [(nv (K:=K) (T:=T) d c (H++ [.u a])).2.1,ao])).j ?_)⟩
    have A:=Cq (g.le w.1) 67 c (H++ [.u a])
    obtain⟨b,v,z⟩:=MI 68 c (g.le w.1) q u (by decide) (H++ [.u a]) (xk i rfl)
    rw [z.q w.2.2]at v
    rw [xa (by simp! [A,v,ao]),execs]
 obtain⟨b,tb,I⟩:=s
 have F: ∀h,Gr .q (.b b) (.b b) h=k0 false:=λh=>j8 (.C b) rfl (show (0:Nat)<150 by decide) h
 have ne: ∀h,Gr .q (.i d) (.i d) h=k0 false:=λh=>j8 (.o _) rfl (show (0:Nat)<150 by decide) h
 refine⟨H++ [.u (a++ [.Q])]++ [.u j],?_⟩
 simp only [vW,cN]
 refine(za (by simp! [e1];rfl)).j ?_
 rw [xa (by simp! [e2,ao])]
 refine(I _).j ?_
 rw [za (τ1:=g7 sc (si m) (sv (wD K T)) (sv (bD K T S)) x5 (sv x) (k0 (.r H.e)) (si d) y0) (h1:=H++ [.u (a++ [.Q])]) (by simp! [L,ao,W.lI,J,and_self,if_true,C])]
 refine(za (by simp! [M];rfl)).j ?_
 rw [xa (by simp! [ae,mq,J6,ao,ne,tb,F])]
 exact ja (Ja rfl (by simp! [ae,JU,ao,E]))
end
def gz (ns:Y0 Int) (hl:ns.e<=63): ∃h',call prog 70 "law" [.l (ns.j .o)] []= .j (.b true) h':=by
 suffices key: ∃H,execs (u9 69) cN.j [k0 (.l (ns.j .o)),y0,y0,y0,y0,y0,y0,y0,y0,y0] []= .j (.b u0) H by
  obtain⟨H,e⟩:=key
  rw [Gb (d:=cN) rfl _ _ _ rfl]
  show ∃h',Gw 0 (execs _ cN.j [k0 (.l (ns.j .o)),y0,y0,y0,y0,y0,y0,y0,y0,y0] [])=_
  rw [e]
  obtain⟨h',f1,f2⟩:=nM (d:= .C u0) (h:=H) (n:=0) rfl (Af2 _) rfl
  exact⟨h',f1⟩
 obtain⟨v0,e0⟩:=La 68 ns hl []
 obtain⟨n,K,T,v1,⟨g,g0⟩,e1⟩:=Nt 66 (h:= [ai ns 0 v0]) (r:=0) (i:=0) rfl
 have e1:call prog 69 "_law_words" [.r 0] [ai ns 0 v0]= .j (.t [.n n,wD K T]) [ai ns 0 v1]:=e1
 obtain⟨A,i2,v2,hA,lA,e2⟩:=MV 61 g (M:=4) (by decide) hl (h:= [ai ns 0 v1]) (r:=0) (i:=0) rfl
 have e2:call prog 69 "_law_theory" [.r 0,.v (wD K T),.v (.o 4)] [ai ns 0 v1]= .j (.v (bD K T A)) [ai ns i2 v2]:=e2
 obtain⟨v4,e4⟩:=sy 68 hl (h:= [ai ns i2 v2]) (r:=0) (i:=i2) rfl
 have e4:call prog 69 "_law_turn" [.r 0] [ai ns i2 v2]= .j (.v .Q) [ai ns (i2+1) v4]:=e4
 obtain⟨d,v5,hd,e5⟩:=Zf 68 (h:= [ai ns (i2+1) v4]) (r:=0) rfl (m:=2) (by decide) (by decide)
 have e5:call prog 69 "_law_draw" [.r 0,.v (.o 2)] [ai ns (i2+1) v4]= .j (.i d) [ai ns (i2+1) v5]:=e5
 have sh:eval (u9 69) (.share (.p "_law_start" (.a .z))) [some (.l (ns.j .o)),none,none,none,none,none,none,none,none,none] []= .j (.r 0) [ai ns 0 v0]:=KN (ws:= [.l (ns.j .o)]) (by simp! []) e0 (by
  show(Gc (ns.j .o)&&u0)=u0
  rw [Zk _ (λ_=>rfl)];rfl)
 have eq:Gr .j (.i d) (.v (.o 0)) [ai ns (i2+1) v5]=k0 (y9 (d=0)):=xn d 0 _
 have key: ∀ {C:Y0 Sy}{v:Int}{x5:Y1 W},(∀ z∈C,z.y (K++T)/\z.j<=9)->C.e<=100->exec (u9 69) LM (g7 (.u (ns.j .o)) (si n) (sv (wD K T)) (sv (bD K T A)) y0 y0 y0 y0 y0) [ai ns (i2+1) v4]= .p (g7 (.u (ns.j .o)) (si n) (sv (wD K T)) (sv (bD K T C)) x5 y0 y0 y0 y0) [ai ns (i2+1) v]-> ∃H,execs (u9 69) cN.j [k0 (.l (ns.j .o)),y0,y0,y0,y0,y0,y0,y0,y0,y0] []= .j (.b u0) H:=λ{C v x5} hC lC eC=>by
  obtain⟨H',eH⟩:=MT (H:= [ai ns (i2+1) v]) g hC lC rfl (sc:= .u (ns.j .o)) (x5:=x5)
  refine⟨H',?_⟩
  simp only [cN]
  rw [za (τ1:=g7 (.u (ns.j .o)) y0 y0 y0 y0 y0 y0 y0 y0) (h1:= [ai ns 0 v0]) (by
   generalize E.share _=X at sh ⊢
   simp! [sh])]
  generalize D.lst (ns.j .o)=sc at eH eC ⊢
  refine(za (by simp! [e1];rfl)).j ?_
  refine(za (by simp! [e2];rfl)).j ?_
  refine(za (by simp! [e4];rfl)).j ?_
  exact(za eC).j eH
 by_cases q:d=0
 .obtain⟨X,v6,hX,lX,e6⟩:=LX g g0 (ns:=ns) (i:=i2+1) (v:=v5) 67
  obtain⟨k,v7,hk,e7⟩:=Zf 68 (h:= [ai ns (i2+1) v6]) (r:=0) rfl (m:=4) (by decide) (by decide)
  have e7:call prog 69 "_law_draw" [.r 0,.v (.o 4)] [ai ns (i2+1) v6]= .j (.i k) [ai ns (i2+1) v7]:=e7
  have hk:k<X.e:=by omega
  have ax:a8 (X.j aQ) (k:Int)=k0 (aQ X[k]):=by
   rw [Wd _ _ (by rw [Aa];exact hk),Ac1,Aa4 hk];rfl
  have ad:=F2 [aQ X[k]] (A.j aQ) [ai ns (i2+1) v7] (by simp;omega)
  refine key (C:=X[k]::A) (v:=v7) (x5:=sv (aQ X[k])) (λz hz=> ?_) (by simp;omega) ((xu (h1:= [ai ns (i2+1) v5]) (by simp! [e5,eq,ao,decide_eq_true q])).j ?_)
  .rcases Ab7.p hz with rfl | hz
   .exact hX _ (Al5 hk)
   .exact hA z hz
  .rw [za (τ1:=g7 (.u (ns.j .o)) (si n) (sv (wD K T)) (sv (bD K T A)) (sv (aQ X[k])) y0 y0 y0 y0) (h1:= [ai ns (i2+1) v7]) (by simp! [e6,e7,JJ,ax,ao])]
   rw [za (τ1:=g7 (.u (ns.j .o)) (si n) (sv (wD K T)) (sv (bD K T (X[k]::A))) (sv (aQ X[k])) y0 y0 y0 y0) (h1:= [ai ns (i2+1) v7]) (by simp! [ao,ae,Xg,ad];rfl),execs]
 .refine key (v:=v5) (x5:=y0) hA (by omega) ((my (h1:= [ai ns (i2+1) v5]) (by simp! [e5,eq,ao,decide_eq_false q])).j ?_)
  rw [execs]
end M
namespace L2.MS
open PySem PyProof.Rows
noncomputable def rn:Y0 String:= ["is_whole", "is_below", "pairs_of", "gathered", "common", "either", "without", "turned", "joined", "closed", "same", "every", "value_of_name", "made", "counts", "bounds", "settled", "not_told", "and_told", "or_told", "in_told", "count_told", "told", "fact_told", "is_size", "widths", "bits", "check_size", "check_bits", "world_of", "places_of", "is_tuple_of", "names_in", "needed_bits", "how_many_set", "found", "smallest", "_law_start", "_law_turn", "_law_draw", "_law_names", "_law_words", "_law_expression", "_law_saying", "_law_theory", "_law_joined", "_law_turned", "_law_closed", "_law_same", "_law_two", "_law_bounds", "_law_many", "_law_ruled", "_law_within", "_law_fact", "_law_told", "_law_whole", "_law_spread", "_law_seen", "_law_is_world", "_law_keeps", "_law_open", "_law_split", "_law_walks", "_law_papers_are", "_law_first", "_law_asked", "law"]
def rG:Y0 String:= ["NoWorld"]
def pO:Y0 String:= []
def o3:Y0 String:= ["NoWorld"]
noncomputable def Oh:gL:=⟨[("Cases", "words"),("Cases", "sayings"),("Cases", "size"),("Cases", "places"),("Cases", "whole"),("Search", "cases"),("Search", "needs")],[("Cases", "world_of_code", "Cases.world_of_code"),("Cases", "truth", "Cases.truth"),("Cases", "bit_of", "Cases.bit_of"),("Cases", "is_shown", "Cases.is_shown"),("Search", "told_of_sayings", "Search.told_of_sayings"),("Search", "chosen_place", "Search.chosen_place"),("Search", "told_of_case", "Search.told_of_case"),("Search", "told_of_halves", "Search.told_of_halves")],[("Cases", "Cases.__init__"),("Search", "Search.__init__")],["Cases.__init__", "Cases.world_of_code", "Cases.truth", "Cases.bit_of", "Cases.is_shown", "Search.__init__", "Search.told_of_sayings", "Search.chosen_place", "Search.told_of_case", "Search.told_of_halves"],[("NoWorld", "papers")]⟩
noncomputable def Mq:Y0 (String×Y0 String):= [("_law_names",["_law_pack", "_law_many_here", "_law_letters", "_law_first_here", "_law_stem", "_law_k", "_law_at", "_law_names_here", "_law_name"])]
end L2.MS
namespace PySem.W.Fast
def tw10556627609025456419:=Nat
def tw14490840273783587933:=Nat
def tw6340406290674361835:=Nat
def tw1470891751613139931:=Nat
def tw16328004122630560574:=Nat
def tw12817747796573926547:=Nat
def tw13094047528285269502:=Nat
def tw14598934411855303495:=Nat
def tw15617556496551870698:=Nat
def tw3354119855297447095:=Nat
def tw714975033858587660:=Nat
def tw8249522395668611797:=Nat
def tw6656849281047401953:=Nat
def tw17594977429234954673:=Nat
def tw3733776034728093719:=Nat
def tw14558664572560424390:=Nat
def tw10338189328972481538:=Nat
def tw3803150831247137470:=Nat
def tw4172489034668600645:=Nat
def tw4374199409245328642:=Nat
def tw3982958380551690890:=Nat
def tw9956394941837836255:=Nat
def tw16338565254913541621:=Nat
def tw9459473764668413817:=Nat
def tw8210032545433473155:=Nat
def tw15503569881405091751:=Nat
def tw3480315060985703395:=Nat
def tw10855647276904074750:=Nat
def tw2561420758130667731:=Nat
def tw10540651013198755402:=Nat
def tw17180916527819803802:=Nat
def tw3511364218232405158:=Nat
def tw16420990061824677216:=Nat
def tw15678644773499700747:=Nat
def tw450389415209664865:=Nat
def tw5545057128516325669:=Nat
def tw18135125490931597111:=Nat
def tw4876388121174687638:=Nat
def tw16136000000672189141:=Nat
def tw14125093081711995629:=Nat
def tw9273136878629600457:=Nat
def tw1441565032007105974:=Nat
def tw13486879689796078472:=Nat
def tw6279722932776223899:=Nat
def tw18297211703876936574:=Nat
def tw13228479285498920618:=Nat
def tw12418069726100240991:=Nat
def tw8627711798474584057:=Nat
def tw4041646774496724974:=Nat
def tw15267193389585294173:=Nat
def tw18011765029650352345:=Nat
def tw7448211187275586472:=Nat
def tw3572187797284002054:=Nat
def tw8000500325161990353:=Nat
def tw5475233628055137224:=Nat
def tw2673633706435356390:=Nat
def tw12925824055989502463:=Nat
def tw329435380987509255:=Nat
def tw2662483466584397523:=Nat
def tw3221556875700661859:=Nat
def tw3228913624958013042:=Nat
def tw17057268582100050203:=Nat
def tw7360884194273093046:=Nat
def tw5332628661849853813:=Nat
def tw1331950038409172086:=Nat
def tw18335967165610445258:=Nat
def tw16812919502413052546:=Nat
def tw14469023254487597038:=Nat
def tw14666610525455715443:=Nat
def tw12556454810735486050:=Nat
def tw7631113922732414128:=Nat
def tw13043893239738304458:=Nat
def tw15325317008917702938:=Nat
def tw10804924352862119103:=Nat
def tw4289347227553293921:=Nat
def tw17392929940758297817:=Nat
def tw10838859056800308876:=Nat
def tw3266494271464648001:=Nat
def tw15541938546779180677:=Nat
def tw13921700424362289430:=Nat
def tw10162085107961203899:=Nat
def tw13933482546050572475:=Nat
def tw1510259160377510038:=Nat
def tw13385267525159984560:=Nat
def tw12738791974516153690:=Nat
def tw9065610961047503021:=Nat
def tw7470550850562572618:=Nat
def tw2252634079045746899:=Nat
def tw8678056158125965062:=Nat
def tw15443190586986438169:=Nat
def tw15914980860192861619:=Nat
def tw13236658610237600597:=Nat
def tw12390831240344520738:=Nat
def tw6922292658473404560:=Nat
def tw4770912528456675593:=Nat
def tw11474055137243361487:=Nat
def tw5169135313347840994:=Nat
def tw10913803873082005948:=Nat
def tw2983837730818354742:=Nat
def tw4943532108757157067:=Nat
def tw2834040616619768175:=Nat
def tw5444025100227668398:=Nat
def tw18282555932584914466:=Nat
def tw8142835690538147892:=Nat
def tw16385564720114949177:=Nat
def tw6938081155320504702:=Nat
def tw5648939420578180871:=Nat
def tw10965636889499836653:=Nat
def tw14972107012955353451:=Nat
def tw17903197183707229519:=Nat
def tw1190563261454200638:=Nat
def tw10632347677803560749:=Nat
def tw1835065995278739500:=Nat
def tw14846366819820963734:=Nat
def tw17834819105780687154:=Nat
def tw8193901422273708320:=Nat
def tw9310906035308483570:=Nat
def tw724363171052382284:=Nat
def tw919655182918607052:=Nat
def tw1313097709051731052:=Nat
def tw4405795075381601571:=Nat
def tw16530811910389635916:=Nat
def tw9729521110689974728:=Nat
def tw7888853253303397918:=Nat
def tw4980853858264070666:=Nat
def tw9301713119893485374:=Nat
def tw16364763735159139406:=Nat
def tw4953927237593821057:=Nat
def tw12725785160191026560:=Nat
def tw8283803294394510412:=Nat
def tw4336502167533211310:=Nat
def tw6914738362065856821:=Nat
def tw16515878292163739172:=Nat
def tw14404049554408713711:=Nat
def tw1078069743189760132:=Nat
def tw15031112585861556227:=Nat
def tw11383441728281035665:=Nat
def tw7781626856611720169:=Nat
def tw18311661151462931412:=Nat
def tw3641565996759558435:=Nat
def tw2244039605517264350:=Nat
def tw16286574664236953408:=Nat
def tw701163670135527087:=Nat
def tw4106429408269236588:=Nat
def tw9697753270865783741:=Nat
def tw5738253834698118911:=Nat
def tw15575652611112205775:=Nat
def tw12885842915854645578:=Nat
def tw10911538089658833235:=Nat
def tw11404503728006982725:=Nat
def tw7138810692354436957:=Nat
def tw5056852237948349743:=Nat
def tw17462573998634706972:=Nat
def tw9981936062847064358:=Nat
def tw8294305572174178220:=Nat
def tw10626335109702857319:=Nat
def tw4667820625478654999:=Nat
def tw3880242747507450543:=Nat
def tw3861458240765386923:=Nat
def tw2984262073219741726:=Nat
def tw15716746569083329396:=Nat
def tw13100024330687745696:=Nat
def tw6522268624952964155:=Nat
def tw5850914023061030518:=Nat
def tw4533840734789477948:=Nat
def tw16864179378702955523:=Nat
def tw9802248779014494193:=Nat
def tw9467410874599074151:=Nat
def tw6811079065235960353:=Nat
def tw5317843100964944709:=Nat
def tw3130306816730537862:=Nat
def tw2065239821724364233:=Nat
def tw1943869640565509112:=Nat
def tw1797051399199860185:=Nat
def tw16613137937100492004:=Nat
def tw16418077421330803556:=Nat
def tw12227668074335990338:=Nat
def tw1494151387962201224:=Nat
def tw2864819896536422904:=Nat
def tw3891715661204823939:=Nat
def tw14123837401715480111:=Nat
def tw3013486151892518612:=Nat
def tw13072245302174513234:=Nat
def tw3987660451551697193:=Nat
def tw5384690001520590665:=Nat
def tw8117496384510863415:=Nat
def tw18330809950000951167:=Nat
def tw4502834451272688216:=Nat
def tw15418715925667513099:=Nat
def tw12634897525679907870:=Nat
def tw9153682401973679681:=Nat
def tw8039731838213164727:=Nat
def tw4422187350117557648:=Nat
def tw17489427052794918853:=Nat
def tw12765425974301075614:=Nat
def tw10053135011474915511:=Nat
def tw9321533650542041091:=Nat
def tw1723723350476767810:=Nat
def tw13037873554228190035:=Nat
def tw12943280542372115793:=Nat
def tw16431911454821577379:=Nat
def tw5464452900411801533:=Nat
def tw8521991129383460723:=Nat
def tw13669715523572241395:=Nat
def tw15733213750824470067:=Nat
def tw12681917294009441135:=Nat
def tw15166001292314175729:=Nat
def tw11487799872887987839:=Nat
def tw2552940396832541406:=Nat
def tw9620290543112984161:=Nat
def tw7610815275793165879:=Nat
def tw6125098705511292262:=Nat
def tw5979381606895525469:=Nat
def tw4872294389210703996:=Nat
def tw4313258031150599061:=Nat
def tw2770852405490034761:=Nat
def tw2693135865901773139:=Nat
def tw16681683712284333115:=Nat
def tw3024825183230734259:=Nat
def tw8504869134109241113:=Nat
def tw7742418286565462115:=Nat
def tw7580611132990345963:=Nat
def tw517717083210864629:=Nat
def tw14679631571595995793:=Nat
def tw7066762807247060248:=Nat
def tw3213532988492697430:=Nat
def tw12974268697524370955:=Nat
def tw11604111741150149617:=Nat
def tw3380470325014922762:=Nat
def tw14364068806353813566:=Nat
def tw3732134986861276241:=Nat
def tw5496469779417941759:=Nat
def tw2472885888555120271:=Nat
def tw17527901177463243301:=Nat
def tw14626696628765609429:=Nat
def tw13380972090414162625:=Nat
def tw12709235110908803427:=Nat
def tw9198010408236445:=Nat
def tw8327608715046826831:=Nat
def tw7660025848870945965:=Nat
def tw5395970750823502033:=Nat
def tw5225060446729763807:=Nat
def tw4297225286903823210:=Nat
def tw1761036919846820213:=Nat
def tw14600779937008353048:=Nat
def tw10076903420561924518:=Nat
def tw998980698367109719:=Nat
def tw9786628891495269865:=Nat
def tw9609201131468499731:=Nat
def tw9445870459790704278:=Nat
def tw9354902444337948824:=Nat
def tw9216976307127420270:=Nat
def tw9149450802555226583:=Nat
def tw913745350937750284:=Nat
def tw9103502227417435051:=Nat
def tw9094460381107587570:=Nat
def tw9020031334473987021:=Nat
def tw8936658279533413216:=Nat
def tw888864279893436681:=Nat
def tw8852415366244422547:=Nat
def tw8670196030767372479:=Nat
def tw861695056429876615:=Nat
def tw8533184225551854914:=Nat
def tw8116093910213509925:=Nat
def tw77750977866471740:=Nat
def tw7758981692939877020:=Nat
def tw760025305287684659:=Nat
def tw7481841726945506800:=Nat
def tw7405629516313235440:=Nat
def tw7277293698372404842:=Nat
def tw7237571240837439683:=Nat
def tw7233896336565491982:=Nat
def tw7094453465521860897:=Nat
def tw7068183661492450145:=Nat
def tw6949662229883999072:=Nat
def tw6910895909654184006:=Nat
def tw6900462522184247173:=Nat
def tw6854777258320025461:=Nat
def tw6736090617793551808:=Nat
def tw6300482124669239309:=Nat
def tw6148426197320128353:=Nat
def tw6143504255420915131:=Nat
def tw6125785818727585003:=Nat
def tw6097829369697648249:=Nat
def tw5708172615665229655:=Nat
def tw5554245515269226585:=Nat
def tw5510168561813340312:=Nat
def tw5486266636603133619:=Nat
def tw5346620340191558794:=Nat
def tw5157323510226015487:=Nat
def tw5057488244978398297:=Nat
def tw4926224904092505354:=Nat
def tw490881733886191452:=Nat
def tw4710319521121065709:=Nat
def tw4616793191391348109:=Nat
def tw4565847042560063354:=Nat
def tw4520768299916716262:=Nat
def tw4417167836508935973:=Nat
def tw4314613965273333754:=Nat
def tw427244744094626299:=Nat
def tw4235000136390450334:=Nat
def tw4231812006234423031:=Nat
def tw4118771533932423792:=Nat
def tw4037001988395738070:=Nat
def tw402103815214817379:=Nat
def tw3889383975607447207:=Nat
def tw388703392481249836:=Nat
def tw3367602658054220440:=Nat
def tw3205915105397222625:=Nat
def tw3114972198546476704:=Nat
def tw3085434331723550655:=Nat
def tw2957698517793328182:=Nat
def tw2917374863217611997:=Nat
def tw2765689505220537380:=Nat
def tw2756299463967963708:=Nat
def tw2649784455706979003:=Nat
def tw2627596103841458096:=Nat
def tw2591128094934870968:=Nat
def tw2552022686539872977:=Nat
def tw2509757927239798503:=Nat
def tw2503857510279953496:=Nat
def tw2437811837214249806:=Nat
def tw2409544111139220833:=Nat
def tw2237788028618237460:=Nat
def tw2200399554506942322:=Nat
def tw2047221493328884875:=Nat
def tw1958718658356618212:=Nat
def tw1866888095700148509:=Nat
def tw1844110056228034786:=Nat
def tw18254180172046217414:=Nat
def tw18163232488764817692:=Nat
def tw18141645441683834635:=Nat
def tw18086039656209232275:=Nat
def tw18077624741875799019:=Nat
def tw18062267860290225296:=Nat
def tw18002170159822615651:=Nat
def tw17984024935981138304:=Nat
def tw17570442219565077230:=Nat
def tw17564068190372187193:=Nat
def tw17502671218138535076:=Nat
def tw17485509852138861895:=Nat
def tw17149254990977283373:=Nat
def tw17018713445358459515:=Nat
def tw16895561320435271021:=Nat
def tw16656097787024151129:=Nat
def tw16520402595317669991:=Nat
def tw16458164822103063510:=Nat
def tw16279402263477652437:=Nat
def tw16262564057231078483:=Nat
def tw16120412719538761013:=Nat
def tw1577503335220133903:=Nat
def tw15451744219231186958:=Nat
def tw15409456288501469950:=Nat
def tw15240211734059840416:=Nat
def tw15112604651973107185:=Nat
def tw15043702786153131930:=Nat
def tw15018787561512094123:=Nat
def tw14908100662901318669:=Nat
def tw14887333184996373978:=Nat
def tw1487099524716264184:=Nat
def tw14587482875428365667:=Nat
def tw14340430047943031991:=Nat
def tw14337963762652901076:=Nat
def tw14295172795850789250:=Nat
def tw14248155667579384466:=Nat
def tw1412249018663979394:=Nat
def tw1396412253468041965:=Nat
def tw13921356490391564637:=Nat
def tw13875046077252297887:=Nat
def tw13711021227192011779:=Nat
def tw13568806864321816873:=Nat
def tw13540912867490721930:=Nat
def tw1349879989386229130:=Nat
def tw13390598124272798919:=Nat
def tw13308869363155594171:=Nat
def tw12930644318709728722:=Nat
def tw1287955895487915056:=Nat
def tw12876242315668328127:=Nat
def tw12728294962647950096:=Nat
def tw12718054218752104712:=Nat
def tw12623479288726604542:=Nat
def tw12601063965992606295:=Nat
def tw12319365185042872970:=Nat
def tw12237544670021905641:=Nat
def tw12213153144182035572:=Nat
def tw1209060615736696058:=Nat
def tw12057258647570619123:=Nat
def tw12048354517991867695:=Nat
def tw1197448204161972842:=Nat
def tw11722415414648504260:=Nat
def tw11704094209317311190:=Nat
def tw11404626959991708137:=Nat
def tw1131036869398495404:=Nat
def tw11081203356119177675:=Nat
def tw10803127217089882906:=Nat
def tw10724138028242107628:=Nat
def tw10573950240895935926:=Nat
def tw10500370263142095278:=Nat
def tw10476860557719105174:=Nat
def tw5970898626493867384:=Nat
def tw10168956111703297504:=Nat
def tw681673833487729411:=Nat
def tw5908308171198850078:=Nat
def tw8520811912336056751:=Nat
def tw6451386273069391528:=Nat
def tw14021021599306031429:=Nat
def tw14320296222093780497:=Nat
def tw10266931810522249767:=Nat
def tw2975199397678363288:=Nat
def tw1003531054916795916:=Nat
def tw10133158624933628045:=Nat
def tw2307389019639410476:=Nat
def tw590461581129460256:=Nat
def tw16436544312753591196:=Nat
def tw8044687379992054129:=Nat
def tw5851006088787888734:=Nat
def tw738372319832403022:=Nat
def tw7095633341021060471:=Nat
def tw4746786560629426198:=Nat
def tw11779283474926600322:=Nat
def tw14052788012898864671:=Nat
def tw7603107540118632254:=Nat
def tw14766360382280084615:=Nat
def tw2032141099673239489:=Nat
def tw2915139044845191296:=Nat
def tw47469649571340339:=Nat
def tw4636570358264537305:=Nat
def tw16242694261261204549:=Nat
def tw2220978475765463135:=Nat
def tw11062440530369556088:=Nat
def tw1117246675173011534:=Nat
def tw14047536049874483852:=Nat
def tw8265072142192339396:=Nat
def tw14866009148276870144:=Nat
def tw14737457162251210167:=Nat
def tw6195519049254442513:=Nat
def tw3991898273493936616:=Nat
def tw12744260793841215699:=Nat
def tw14045971625298266030:=Nat
def tw9754730930465835914:=Nat
def tw8992949036598961725:=Nat
def tw2247431209281340611:=Nat
def tw9481460567384784947:=Nat
def tw11542116111112808902:=Nat
def tw1643046440933355439:=Nat
def tw8609890189170433458:=Nat
def tw3080503282767292197:=Nat
def tw354115590254453233:=Nat
def tw8604374844500826102:=Nat
def tw17807255308151506783:=Nat
def tw17387925403188212567:=Nat
def tw7036698603036694679:=Nat
def tw15834116849618213587:=Nat
def tw15269572951012212466:=Nat
def tw14776118612164480090:=Nat
def tw3114267775645347408:=Nat
def tw5411950913435491046:=Nat
def tw1857280586934002704:=Nat
def tw438813467367369118:=Nat
def tw10779469427368711610:=Nat
def tw17642871847566166118:=Nat
def tw17808778051621841094:=Nat
def tw18201432023060230271:=Nat
def tw14838385571526797901:=Nat
def tw9343380261062649011:=Nat
def tw15502748688078807881:=Nat
def tw1232830250125992389:=Nat
def tw9056330708244979097:=Nat
def tw6533514481689555527:=Nat
def tw10298394437868275482:=Nat
def tw1952058587747588811:=Nat
def tw11866346790018967501:=Nat
def tw3072694235359758502:=Nat
def tw250369734845071251:=Nat
def tw420164455058631089:=Nat
def tw6822350083305185996:=Nat
def tw3190577978510935450:=Nat
def tw13671395621895579504:=Nat
def tw9629795150446960206:=Nat
def tw7348849622700670431:=Nat
def tw16702077005413447289:=Nat
def tw6670706228858796652:=Nat
def tw3356338452670525926:=Nat
def tw13067191864611539780:=Nat
def tw11000640567635151134:=Nat
def tw10585121810194338272:=Nat
def tw14965265772503301986:=Nat
def tw4606678239439431457:=Nat
def tw8436143169268362380:=Nat
def tw14994127069339232379:=Nat
def tw1035237773379495649:=Nat
def tw16780053540290788003:=Nat
def tw3119972415326929561:=Nat
def tw7641644606687393690:=Nat
def tw15138204202851827409:=Nat
def tw15608825057548503256:=Nat
def tw11775800637048522914:=Nat
def tw8775491191022815754:=Nat
def tw3585376111933336121:=Nat
def tw10506092501326060643:=Nat
def tw14253231125021560889:=Nat
def tw10385118247902373581:=Nat
def tw6246321132780152441:=Nat
def tw7645707337611087208:=Nat
def tw12357150100729799936:=Nat
def tw8008918609339176152:=Nat
def tw17655579297920862643:=Nat
def tw9197016795204699043:=Nat
def tw2567070461175587134:=Nat
def tw9756752394810095532:=Nat
def tw13304130720691111086:=Nat
def tw11112475081862414847:=Nat
def tw4062357726024860156:=Nat
def tw9964837855478427307:=Nat
def tw2694875278808224056:=Nat
def tw12644539857075351209:=Nat
def tw13342553676625592760:=Nat
def tw2086920200642223790:=Nat
def tw8767084184180599807:=Nat
def tw5054868558779354686:=Nat
def tw11975721656179648450:=Nat
def tw12786582713166205726:=Nat
def tw7794792710657152324:=Nat
def tw9391447079559877471:=Nat
def tw5978100422808110376:=Nat
def tw15492330567537372125:=Nat
def tw5483147633725071756:=Nat
def tw15375942149982764710:=Nat
def tw5282167209411931381:=Nat
def tw11013423467453086267:=Nat
def tw13793223935870640662:=Nat
def tw4430419187838942779:=Nat
def tw7546861707805916245:=Nat
def tw14959954088335620234:=Nat
def tw6542931366709257551:=Nat
def tw2110417536410409370:=Nat
def tw17278796907325369090:=Nat
def tw338400502869237296:=Nat
def tw8839556222443872356:=Nat
def tw12520935794422544465:=Nat
def tw7611949859394250065:=Nat
def tw13953500870841180136:=Nat
def tw181023329280970656:=Nat
def tw6605410295479672372:=Nat
def tw6004707486021006181:=Nat
def tw635907392275293079:=Nat
def tw5791874434391664111:=Nat
def tw8586083245369849685:=Nat
def tw12863735677595988931:=Nat
def tw8316987698379220495:=Nat
def tw12673749218698391447:=Nat
def tw10210952226084007704:=Nat
def tw959775755891407845:=Nat
def tw3205478011385539372:=Nat
def tw2682119881907388464:=Nat
def tw840336900699514036:=Nat
def tw14788461920975859120:=Nat
def tw1360575449588271330:=Nat
def tw12513731654426397714:=Nat
def tw3373530906087225597:=Nat
def tw1331689778153647036:=Nat
def tw12838532247287778948:=Nat
def tw12559335044387968788:=Nat
def tw4137274439884804598:=Nat
def tw910378384558444828:=Nat
def tw6189528373085198854:=Nat
def tw4120967355553116961:=Nat
def tw321297191220257279:=Nat
def tw16936089757869297896:=Nat
def tw2796662949560855928:=Nat
def tw1464343425609405020:=Nat
def tw4870652471549571952:=Nat
def tw17267798111963125342:=Nat
def tw5525544045129264944:=Nat
def tw12463952829078050128:=Nat
def tw2511225369676111168:=Nat
def tw10823254305593455349:=Nat
def tw10367776759145766572:=Nat
def tw404606300014840422:=Nat
def tw16493260244433452902:=Nat
def tw18200230926982748213:=Nat
def tw12805392561866745332:=Nat
def tw13459829230566869458:=Nat
end PySem.W.Fast
open PySem PySem.W PyProof.Rows
set_option maxRecDepth 100000 in
set_option maxHeartbeats 0 in
theorem PySem.Challenge.cw_worldfind_k33_whole_smallest_holds : PySem.Challenge.rw_worldfind_k33_whole_smallest.Holds := by
 w_on;o_law;k_head;(case hw=>w_witness2)
 k_fill
 refine L2.MS.walk (l:=PySem.Challenge.rw_worldfind_k33_whole_smallest) (x:= "_law_script") (2*70+1) ⟨rfl,by decide,by decide⟩ rfl rfl (fun w h Y=>PySem.W.kIn_of Y) ?F
 case F=>
  intro w mg fa h KX G hmg
  exact L2.MS.ki M.prog L2.MS.rn L2.MS.rG L2.MS.pO L2.MS.o3 L2.MS.Oh L2.MS.Mq 69 KX G hmg (by kernel_rfl) M.gz
