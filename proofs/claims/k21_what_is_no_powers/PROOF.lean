import PyProof.Rows.All
import Wide.All
import OpenK.AllK
import Wide.FinOn
import Lean
import PyProof.EqAt
import PyProof.EqKinds
import PyProof.TupleCall
import KE.KNest
import PyProof.Rows.SortRuns
import KE.KSortKey
import KE.KLam
import KE.KNestM
import PyProof.Draws
import PyProof.EnumMake
import KE.KRevSl
import PyProof.DictItems
import PySem.Challenge.RW_boxsums_k21_what_is_no_powers
set_option Elab.async false
set_option linter.all false
set_option maxRecDepth 100000
set_option maxHeartbeats 4000000
open PySem.Heap renaming get?_push_of_some → g0,lt_size → G0,get?_push_size → L0,size_push → Z2,get?_update_ne → J3,SameBut → X3,get?_update_self → w6,get?_push_ne → B6,get?_update_other → y7,size_update → G7
open PySem.PyData renaming int → i0,tuple → B1,bool → W2,list → G3,depth → Z4,depthAll → t6,shownAll → R7,canLayAll0 → o8,shown → R8,showable → X8,dict → g9,canLay0 → j9,showableAll → Q9,hasDictAll → Z9
open List renaming length_map → j0,mem_cons_of_mem → q0,mem_cons_self → v0,getElem?_eq_getElem → A0,mem_map → J0,length_append → M0,size_toArray → N0,map_map → P0,mem_append_right → R0,getElem?_eq_some_iff → V0,mem_cons → W0,getElem?_map → X0,getD_eq_getElem?_getD → Y0,mem_singleton → Z0,replicate → A1,mem_append → E1,getElem?_set_ne → G1,range → N1,mem_of_getElem? → Q1,getElem?_append_right → S1,map_cons → T1,length_take → U1,length_drop → V1,take_of_length_le → W1,map_congr_left → Y1,append_assoc → E2,append_nil → K2,Nodup → O2,getElem?_append_left → P2,mem_append_left → T2,getElem?_cons_succ → U2,length_cons → X2,all_eq_true → Y2,mem_range → u3,pairwise_map → O3,flatMap_cons → P3,mem_of_mem_take → S3,extract_eq_take_drop → T3,pairwise_iff_getElem → U3,drop_of_length_le → V3,length_singleton → W3,zip_cons_cons → i4,mem_of_mem_drop → j4,of_mem_zip → m4,length_set → o4,lookup_cons → u4,getElem?_eq_none_iff → v4,replicate_succ → A4,length → B4,length_range → E4,length_zip → G4,getElem_mem → J4,mem_flatMap → K4,pairwise_singleton → N4,getElem_of_mem → S4,drop_eq_getElem_cons → V4,take_append_drop → W4,pairwise_reverse → X4,map → i5,getElem?_cons_zero → o5,map_append → v5,getElem?_zip_eq_some → N5,flatten_cons → S5,pairwise_append → V5,cons_append → Y5,pairwise_cons → i6,getElem?_set_self → j6,nodup_cons → o6,sum_cons → v6,mem_iff_getElem? → x6,mem_iff_getElem → E6,flatMap_nil → K6,map_eq_nil_iff → M6,length_nil → P6,forIn_cons → Q6,map_inj_right → V6,map_id → W6,length_eq_zero_iff → X6,all_map → g7,forIn_nil → i7,take_sublist → m7,reverse_cons → o7,drop_sublist → t7,filter_eq_nil_iff → A7,perm_append_comm → B7,foldl → E7,zipIdx_cons → F7,countP_cons → K7,length_take_le' → N7,mem_filter → P7,nil_append → Q7,filterMap_cons → T7,getElem?_drop → Z7,forIn_toArray → b8,set_cons_zero → e8,set_cons_succ → g8,nodup_iff_pairwise_ne → i8,exists_cons_of_ne_nil → j8,lookup → m8,reverse_perm → u8,getElem?_inj → v8,map_inj_left → w8,all_cons → y8,map_take → A8,getElem?_take_of_lt → B8,mem_reverse → J8,filter_cons → L8,cons_ne_nil → M8,getElem?_replicate → O8,map_nil → Q8,pairwise_flatMap → Z8,drop_drop → m9,mem_map_of_mem → y9,length_reverse → A9,flatMap_append → E9,any_cons → F9,mem_filterMap → N9
open PySem.W renaming Frag → n0,mg_none_of → O1,nsIn → m3,codeHdIn → Y4,keepIn → j5,fnOf → Q5,kla_obj → u6,findIn → h7,tabObj → j7,cellsFrom_some → v7,codeIn → W7,methodObj → n8,OpenLaw → Y8,codeHd_of_K → x9,tabIn → G9,specialIn → Y9,instObj → cQ
open Nat renaming le_refl → u0,lt_of_lt_of_le → O0,le_trans → Q0,ne_of_lt → U0,le_add_right → Q2,ne_of_gt → V2,lt_of_le_of_lt → B3,lt_irrefl → K3,zero_le → Q3,le_succ_of_le → P4,mul_le_mul_right → m5,le_of_lt → B5,le_of_ble_eq_true → K5,min_eq_left → P5,le_of_succ_le → T5,add_sub_cancel_left → Z5,le_mul_of_pos_right → Y6,succ_mul → Z6,zero_add → e7,lt_succ_of_lt → u7,add_le_add_right → O7,lt_trans → V7,le_of_not_lt → G8,min_eq_right → K8,lt_add_of_pos_right → P8,length_repr_le_iff → W8,add_le_add_left → v9,lt_two_pow_self → B9,mul_assoc → K9,sub_le → M9,mul_comm → S9,le_of_eq → T9,lt_or_ge → U9,le_succ → bQ
open Array renaming length_toList → S0,toList_append → G2,getElem_toList → A3,toList_extract → L4,perm_iff_toList_perm → Q4,getElem?_toList → J5,getElem?_eq_getElem → O5,toList_reverse → G6,size_extract → T6,forIn_toList → U6,toList_map → J7,toList_push → t8,toArray_toList → q9,toList → R9
open Bool renaming false_ne_true → T0,and_eq_true → J1,false_eq_true → S2,eq_false_iff → U5,eq_iff_iff → m6,beq_eq_decide_eq → A6,not_true → O6,and_true → M7,false_and → i9
open PySem.Builtin.SmallTypes renaming nextOf → L1,ownedTupleIsFree → Z1,ownedTupleHandOut → N6
open Option.some renaming inj → X1
open PySem.Obj renaming mapSeq → B2
open Ne renaming symm → E3
open PyProof.Rows renaming callWith_type1 → Y3,slot_tuple_getitem → T4,K → X7
open PySem.Value renaming ref → Z3,none → S6,isInt → b9,notImplemented → o9,int → t9,builtin → J9,type → L9,bool → dQ
open Int renaming eq_ofNat_of_zero_le → O4,le_refl → g6,mul_le_mul_of_nonneg_right → L7,natCast_pow → S7,mul_le_mul → Y7,pow_succ → S8,zero_add → T8,one_mul → h9,toNat → u9,mul_comm → V9,ofNat_le → W9,ofNat_lt → X9
open PySem.Builtin.Tuple renaming tupleHashOf → U4,tupleExact → W5,tupleItemsOf → J6
open Option renaming map_some → u5,map_eq_some_iff → E5,getD_some → G5,isNone_none → P9,getD_none → aQ
open PySem.Builtin.Int renaming intBits → A5
open PySem.Builtin.Slice renaming slicePlaces → L5,sliceAdjust → L6,sliceApplied → h8
open PySem.Builtin.List renaming listTooLong → X5
open PySem.Builtin.Dict renaming updateFrom → e6,addKeywords → E8,selfAndRest → F8,pairItems → V8
open PySem.Heap.SameBut renaming update → U7
open PySem.Builtin.Range renaming rangeSize → N8
open Nat.succ renaming inj → U8
open PySem.Heap.IsSliceOf renaming new → O9
open PySem PySem.Spec PyProof.Rows
variable {its us:List Value}{a1 a2 u x2:Value}{base h h':Heap}{α β:Type}{P prog:Program}{w:World}{o ot:Obj}{kk lo m n t':Nat}{ch fp ts:List Addr}{T f i1 i2 it l1 l2 z:Addr}{N loose:List Str}{A:Around}{E Q:Value->Shared->Prop}{s s':Shared}{pins:List (Addr×Obj)}{body elt iter tg:Expr}{pos':Pos}{cl hi:List Int}{p:List Value->Prop}{g:Int×Int}{fd:FuncData}{sc scope:Scope}{mg:Str->Option Value}{qual y:Str}{l rows:List PyData}{env:Env}{XP:(Str->Option Value)->Heap->Prop}{YP:World->Heap->Prop}{fr:List Nat}{ifs:List Expr}{xs1 xs2:Array Value}{fl:Bool}
namespace L2
noncomputable abbrev VZ:=Sum Int Str
noncomputable def vV:VZ->Value->Bool
 | .inl k,v=>b9 k v
 | .inr x,v=>Value.isStrOf x v
noncomputable def BO(w:World):VZ->Int
 | .inl k=>hashInt k
 | .inr x=>hashStr w x
theorem cX:∀{k:VZ}{v:Value},vV k v=true->(∃i t,k=Sum.inl i/\v=t9 i t)\/(∃x t,k=Sum.inr x/\v=Value.str x t)
 | .inl i,v,h=>by obtain⟨t,e⟩:=Value.isInt_shape (k:=i) (v:=v) h;exact .inl ⟨i,t,rfl,e⟩
 | .inr x,v,h=>by obtain⟨t,e⟩:=Value.isStrOf_shape (x:=x) (v:=v) h;exact .inr ⟨x,t,rfl,e⟩
theorem UD(i:Int)(t:Tok):vV (.inl i) (.int i t)=true:=by simp[vV,b9]
theorem VD(x:Str)(t:Tok):vV (.inr x) (.str x t)=true:=by simp[vV,Value.isStrOf]
theorem PB(a b:Int):decide ((Sum.inl a:VZ)=Sum.inl b)=(a==b):=by
 by_cases e:a=b
 ·subst e;simp
 ·have h:¬(Sum.inl a:VZ)=Sum.inl b:=λq=>e (Sum.inl.inj q);rw[decide_eq_false h];exact (beq_eq_false_iff_ne.mpr e).symm
theorem QB(a b:Str):decide ((Sum.inr a:VZ)=Sum.inr b)=decide (a=b):=by
 by_cases e:a=b
 ·subst e;simp
 ·have h:¬(Sum.inr a:VZ)=Sum.inr b:=λq=>e (Sum.inr.inj q);rw[decide_eq_false h,decide_eq_false e]
theorem RB(a:Int)(b:Str):decide ((Sum.inl a:VZ)=Sum.inr b)=false:=decide_eq_false (λq=>nomatch q)
theorem SB(a:Str)(b:Int):decide ((Sum.inr a:VZ)=Sum.inl b)=false:=decide_eq_false (λq=>nomatch q)
noncomputable def cZ(prog:Program)(w:World):PySem.KeyKind prog w VZ where
 is:=vV
 hash:=BO w
 inj:=λv a b ha hb=>by
  rcases cX ha with⟨i,t,rfl,rfl⟩|⟨x,t,rfl,rfl⟩
  ·rcases cX hb with⟨j,u,rfl,e⟩|⟨y,u,rfl,e⟩
   ·injection e with e1 _;rw[e1]
   ·exact nomatch e
  ·rcases cX hb with⟨j,u,rfl,e⟩|⟨y,u,rfl,e⟩
   ·exact nomatch e
   ·injection e with e1 _;rw[e1]
 byValue:=λk v h=>by rcases cX h with⟨i,t,rfl,rfl⟩|⟨x,t,rfl,rfl⟩<;>rfl
 pyHash:=λhv h=>by
  rcases cX hv with⟨i,t,rfl,rfl⟩|⟨x,t,rfl,rfl⟩
  ·exact wpAny_pyHash_int h
  ·exact wpAny_pyHash_str h
 eqBool:=λhu hv h=>by
  rcases cX hu with⟨i,t,rfl,rfl⟩|⟨x,t,rfl,rfl⟩
  ·rcases cX hv with⟨j,u,rfl,rfl⟩|⟨y,u,rfl,rfl⟩
   ·rw[PB]at h;exact wpAny_eqBool_int h
   ·rw[RB]at h;exact SeqAt.EqAt.int_str i t y u _ _ _ _ h
  ·rcases cX hv with⟨j,u,rfl,rfl⟩|⟨y,u,rfl,rfl⟩
   ·rw[SB]at h;exact SeqAt.EqAt.str_int x t j u _ _ _ _ h
   ·rw[QB]at h;exact wpAny_eqBool_str h
 «strs»:=λk x t v h=>by
  rcases cX h with⟨i,u,rfl,e⟩|⟨y,u,rfl,e⟩
  ·exact nomatch e
  ·injection e with e1 _
   subst e1
   cases v<;>rfl
theorem XU(prog:Program)(w:World)(i:Int)(t:Tok):(cZ prog w).is (.inl i) (.int i t)=true:=UD i t
theorem YU(prog:Program)(w:World)(x:Str)(t:Tok):(cZ prog w).is (.inr x) (.str x t)=true:=VD x t
inductive V where
 | non|bl (b:Bool)|int (i:Int)|str (x:Str)|byt (b:Array UInt8)|flt (b:UInt64)|ref (a:Addr)|ty (n:String)
 deriving DecidableEq
noncomputable def RelV:V->Value->Prop
 | .non,u=>u=S6
 | .bl b,u=>u=dQ b
 | .int i,u=>∃t,u=t9 i t
 | .str x,u=>∃t,u=Value.str x t
 | .byt b,u=>∃t,u=Value.bytes b t
 | .flt b,u=>∃t,u=Value.float b t
 | .ref a,u=>u=Z3 a
 | .ty n,u=>u=L9 n
abbrev Vals:List V->List Value->Prop:=Paired RelV
theorem Vals.length{xs:List V}(r:Vals xs us):xs.length=us.length:=Paired.length r
theorem Vals.get:∀{xs:List V}{us:List Value}{i:Nat}{x:V},Vals xs us->xs[i]?=some x->∃u,us[i]?=some u/\RelV x u
 | _,_,_,_,.nil,e=>by simp at e
 | _,_,0,_,.cons r _,e=>by simp at e;subst e;exact ⟨_,rfl,r⟩
 | _,_,i+1,x,.cons _ t,e=>by obtain⟨u,h1,h2⟩:=Vals.get (i:=i) (x:=x) t (by simpa using e);exact ⟨u,by simpa using h1,h2⟩
theorem Vals.set{x:V}(r:RelV x u):∀{xs:List V}{us:List Value} (i:Nat),Vals xs us->Vals (xs.set i x) (us.set i u)
 | _,_,_,.nil=>.nil
 | _,_,0,.cons _ t=>.cons r t
 | _,_,i+1,.cons q t=>.cons q (Vals.set r i t)
theorem Vals.append:∀{xs ys:List V}{us ws:List Value},Vals xs us->Vals ys ws->Vals (xs++ys) (us++ws)
 | _,_,_,_,.nil,s=>s
 | _,_,_,_,.cons r t,s=>.cons r (Vals.append t s)
theorem Vals.take:∀{xs:List V}{us:List Value} (n:Nat),Vals xs us->Vals (xs.take n) (us.take n)
 | _,_,0,_=>.nil
 | _,_,_+1,.nil=>.nil
 | _,_,n+1,.cons r t=>.cons r (Vals.take n t)
theorem Vals.drop:∀{xs:List V}{us:List Value} (n:Nat),Vals xs us->Vals (xs.drop n) (us.drop n)
 | _,_,0,r=>r
 | _,_,_+1,.nil=>.nil
 | _,_,n+1,.cons _ t=>Vals.drop n t
theorem Vals.none_of:∀{xs:List V}{us:List Value}{i:Nat},Vals xs us->xs[i]?=none->us[i]?=none:=λ{xs us i} r e=>by have h1:=r.length;have h2:xs.length<=i:=v4.mp e;exact v4.mpr (by omega)
noncomputable def BL:Option V->Option Value->Prop
 | some v,some u=>RelV v u
 | none,none=>True
 | _,_=>False
def KV{κ:Type}:List (κ×V)->List (κ×Value)->Prop:=Paired λ(p:κ×V) (q:κ×Value)=>p.1=q.1/\RelV p.2 q.2
noncomputable def kV:VZ->V
 | .inl i=>.int i
 | .inr x=>.str x
inductive HO where
 | lst (xs:List V)
 | tup (xs:List V)
 | dK (kvs:List (VZ×V))|dT (kvs:List (List VZ×V))
 | set (S:Int->Bool) (n:Nat)
 | ins (C dx:Addr) (fs:List (Str×V))
 | own (x:Addr)
 | xd (fs:List (Str×V))
 | met (f x:Addr)
 | rng (lo hi:Int)
 | frz (o:Obj) (u:HO)
 | tbl (ps:Array Value)
 | ext (φ:Heap->Prop)
noncomputable abbrev Hp:=Addr->Option HO
noncomputable def UQ(H:Hp)(a:Addr)(o:HO):Hp:=λb=>if b=a then some o else H b
theorem AQ{H:Hp}{a:Addr}{o:HO}:UQ H a o a=some o:=by unfold UQ;rw[if_pos rfl]
theorem nQ{H:Hp}{a b:Addr}{o:HO}(h:b≠a):UQ H a o b=H b:=by unfold UQ;rw[if_neg h]
theorem oQ{H:Hp}{a b:Addr}{o:HO}(h:H a=some o)(h':H b=none):a≠b:=by intro e;subst e;rw[h]at h';cases h'
def IsTupD(h:Heap)(a:Addr)(items:Array Value):Prop:=∃o,h.get? a=some o/\o.cls=.type "tuple"/\∃n,o.data=.seq items n/\o.dict=none
theorem IsTupD.t{a:Addr}{items:Array Value}:IsTupD h a items->IsTup h a items:=λ⟨o,e,c,n,d,_⟩=>⟨o,e,c,n,d⟩
theorem IsTupD.new(h:Heap)(items:Array Value):IsTupD (h.push { cls:=.type "tuple",data:=.seq items }) h.objs.size items:=⟨_,L0 _ rfl,rfl,_,rfl,rfl⟩
section
variable (P:Program)(w:World)
noncomputable def ObjOk(H:Hp)(h:Heap)(a:Addr):HO->Prop
 | .lst xs=>xs.length<=sizeLine/\∃(its:List Value) (n:Nat),Vals xs its/\h.get? a=some { cls:=.type "list",data:=.seq its.toArray n }
 | .tup xs=>xs.length<=sizeLine/\∃its:List Value,Vals xs its/\IsTupD h a its.toArray
 | .dK kvs=>kvs.length<=sizeLine/\(a==sysModules)=false/\∃vs,KV kvs vs/\h.DictOf (cZ P w) a vs
 | .dT kvs=>kvs.length<=sizeLine/\(a==sysModules)=false/\∃xs:List (List VZ×Addr×Value),
   Paired (λ(p:List VZ×V) (q:List VZ×Addr×Value)=>p.1=q.1/\H q.2.1=some (.tup (p.1.map kV))/\RelV p.2 q.2.2) kvs xs /\
   ∃o es ep,h.get? a=some o/\o.ExactDict/\o.data=.dict es ep/\es.toList=xs.map (entryOfKey (tupleKind (cZ P w)))/\(xs.map (·.1)).Nodup
 | .set S n=>h.SetOf (intKind P w) a S n
 | .ins C dx fs=>H dx=some (.own a)/\fs.length<=1000/\dx≠a/\h.get? a=some (cQ C dx) /\
   ∃mA,h.Ns1 dx mA/\(∀f,BL (fs.lookup f) (mA f))/\PySem.Within mA (fs.map (·.1))
 | .own _=>∃o,h.get? a=some o
 | .xd fs=>∃mA,h.Ns1 a mA/\∀f,BL (fs.lookup f) (mA f)
 | .rng lo hi=>∃t u v,h.get? a=some { cls:=.type "range",data:=.fields #[.int lo t,.int hi u,.int 1 v] }
 | .frz o u=>h.get? a=some o/\ObjOk H h a u
 | .tbl ps=>h.get? a=some { cls:=.none,data:=.fields ps }
 | .met f x=>h.get? a=some (n8 (.ref f) (.ref x))
 | .ext φ=>φ h/\(∃o,h.get? a=some o)/\∀h1 h2:Heap,φ h1->(∀o,h1.get? a=some o->h2.get? a=some o)->φ h2
def HOk(H:Hp)(h:Heap):Prop:=∀a o,H a=some o->ObjOk P w H h a o
end
section
variable {H H':Hp}{a:Addr}{o:HO}
theorem ObjOk.lt(x:ObjOk P w H h a o):a < h.objs.size:=by
 cases o with
 | lst xs=>obtain⟨_,_,_,_,e⟩:=x;exact G0 e
 | tup xs=>obtain⟨_,_,_,p⟩:=x;exact p.t.lt
 | dK kvs=>obtain⟨_,_,_,_,o,_,_,e,_⟩:=x;exact G0 e
 | dT kvs=>obtain⟨_,_,_,_,o,_,_,e,_⟩:=x;exact G0 e
 | set S n=>obtain⟨o,_,_,_,e,_⟩:=x;exact G0 e
 | ins C dx fs=>obtain⟨_,_,_,e,_⟩:=x;exact G0 e
 | own y=>obtain⟨_,e⟩:=x;exact G0 e
 | xd fs=>obtain⟨_,⟨_,_,_,e,_⟩,_⟩:=x;exact G0 e
 | rng lo hi=>obtain⟨_,_,_,e⟩:=x;exact G0 e
 | frz ob u=>obtain⟨e,_⟩:=x;exact G0 e
 | tbl ps=>exact G0 (show h.get? a=some _ from x)
 | met f y=>exact G0 (show h.get? a=some _ from x)
 | ext φ=>obtain⟨_,⟨_,e⟩,_⟩:=x;exact G0 e
theorem Paired.mapP{F G:α->β->Prop}:∀{l₁:List α}{l₂:List β},Paired F l₁ l₂->(∀a b,F a b->G a b)->Paired G l₁ l₂
 | _,_,.nil,_=>.nil
 | _,_,.cons r t,f=>.cons (f _ _ r) (Paired.mapP t f)
theorem ObjOk.stay(x:ObjOk P w H h a o)(k:∀b u,(b=a\/H b=some (.own a))->h.get? b=some u->h'.get? b=some u)(ho:∀b,H b=some (.own a)->H' b=some (.own a)) (ht:∀b xs,H b=some (.tup xs)->H' b=some (.tup xs)):ObjOk P w H' h' a o:=by
 induction o with
 | lst xs=>obtain⟨z,its,n,r,e⟩:=x;exact ⟨z,its,n,r,k _ _ (.inl rfl) e⟩
 | tup xs=>obtain⟨z,its,r,ob,e,c⟩:=x;exact ⟨z,its,r,ob,k _ _ (.inl rfl) e,c⟩
 | dK kvs=>obtain⟨z,y,vs,r,ob,es,ep,e,c⟩:=x;exact ⟨z,y,vs,r,ob,es,ep,k _ _ (.inl rfl) e,c⟩
 | dT kvs=>obtain⟨z,y,xs,r,ob,es,ep,e,c⟩:=x;exact ⟨z,y,xs,Paired.mapP r λp q z=>⟨z.1,ht _ _ z.2.1,z.2.2⟩,ob,es,ep,k _ _ (.inl rfl) e,c⟩
 | set S n=>obtain⟨ob,es,ep,t,e,c⟩:=x;exact ⟨ob,es,ep,t,k _ _ (.inl rfl) e,c⟩
 | ins C dx fs=>obtain⟨d,z,ne,e,mA,⟨od,es,ep,e2,c⟩,r⟩:=x;exact ⟨ho _ d,z,ne,k _ _ (.inl rfl) e,mA,⟨od,es,ep,k _ _ (.inr d) e2,c⟩,r⟩
 | own y=>obtain⟨ob,e⟩:=x;exact ⟨ob,k _ _ (.inl rfl) e⟩
 | xd fs=>obtain⟨mA,⟨od,es,ep,e,c⟩,r⟩:=x;exact ⟨mA,⟨od,es,ep,k _ _ (.inl rfl) e,c⟩,r⟩
 | rng lo hi=>obtain⟨t,u,v,e⟩:=x;exact ⟨t,u,v,k _ _ (.inl rfl) e⟩
 | frz ob u ih=>obtain⟨e,q⟩:=x;exact ⟨k _ _ (.inl rfl) e,ih q⟩
 | tbl ps=>have e:h.get? a=some { cls:=.none,data:=.fields ps }:=x;show h'.get? a=some { cls:=.none,data:=.fields ps };exact k a _ (.inl rfl) e
 | met f y=>have e:h.get? a=some (n8 (.ref f) (.ref y)):=x;show h'.get? a=some (n8 (.ref f) (.ref y));exact k a _ (.inl rfl) e
 | ext φ=>obtain⟨p,⟨o,e⟩,st⟩:=x;exact ⟨st _ _ p λo q=>k _ _ (.inl rfl) q,⟨o,k _ _ (.inl rfl) e⟩,st⟩
theorem HOk.lt(x:HOk P w H h)(e:H a=some o):a < h.objs.size:=(x a o e).lt
theorem HOk.fresh(x:HOk P w H h)(e:h.objs.size<=a):H a=none:=by
 cases q:H a with
 | none=>rfl
 | some u=>exact absurd (O0 (x.lt q) e) (K3 _)
theorem HOk.kept(x:HOk P w H h)(k:∀b u,h.get? b=some u->h'.get? b=some u):HOk P w H h':=λa o e=>(x a o e).stay (λb u _ q=>k b u q) (λ_ q=>q) λ_ _ q=>q
theorem HOk.laid(x:HOk P w H h)(k:∀b u,h.get? b=some u->h'.get? b=some u)(hp:h.objs.size<=a)(new:ObjOk P w (UQ H a o) h' a o):HOk P w (UQ H a o) h':=λb u e=>by
 have hn:=x.fresh hp;by_cases hb:b=a
 ·subst hb;rw[AQ]at e;cases e;exact new
 ·rw[nQ hb]at e;exact (x b u e).stay (λc v _ q=>k c v q) (λc q=>by rw[nQ (oQ q hn)];exact q) λc xs q=>by rw[nQ (oQ q hn)];exact q
end
def Rd(H:Hp)(a:Addr)(u:HO):Prop:=H a=some u\/∃o,H a=some (.frz o u)
theorem Rd.ok{H:Hp}{a:Addr}{u:HO}(r:Rd H a u)(x:HOk P w H h):ObjOk P w H h a u:=by
 rcases r with r|⟨o,r⟩
 ·exact x a u r
 ·obtain⟨_,q⟩:=x a _ r;exact q
noncomputable def CL:Option HO->Prop
 | some (.lst _)=>True
 | some (.dK _)=>True
 | some (.dT _)=>True
 | some (.set _ _)=>True
 | some (.ins _ _ _)=>True
 | some (.ext _)=>True
 | _=>False
section
variable {H:Hp}{x e:Addr}{o':HO}
theorem HOk.write(ok:HOk P w H h)(mu:CL (H x))(he:e=x\/H e=some (.own x))(k:∀b u,b≠e->h.get? b=some u->h'.get? b=some u)(heo:∃u,h'.get? e=some u)(new:ObjOk P w (UQ H x o') h' x o'):HOk P w (UQ H x o') h':=λb u q=>by
 have nown:∀c y,H c=some (.own y)->c≠x:=λc y r z=>by subst z;rw[r]at mu;exact mu
 have ntup:∀c xs,H c=some (.tup xs)->c≠x:=λc xs r z=>by subst z;rw[r]at mu;exact mu
 by_cases hb:b=x
 ·subst hb;rw[AQ]at q;cases q;exact new
 ·rw[nQ hb]at q;by_cases hbe:b=e
  ·have q':H b=some (.own x):=by
    rcases he with z|z
    ·exact absurd (hbe.trans z) hb
    ·rw[hbe];exact z
   rw[q]at q';cases q';obtain⟨v,hv⟩:=heo;exact ⟨v,by rw[hbe];exact hv⟩
  ·refine (ok b u q).stay (λc v hc r=>k c v ?_ r) (λc r=>by rw[nQ (nown c b r)];exact r) λc xs r=>by rw[nQ (ntup c xs r)];exact r
   rcases hc with rfl|hc
   ·exact hbe
   ·rintro rfl;rcases he with z|z
    ·exact nown c b hc z
    ·rw[hc]at z;cases z;exact hb rfl
end
structure Un(fs ex:List Addr)(H H':Hp)(h h':Heap):Prop where
 keep:∀b o,h.get? b=some o->H b=none->b∉fs->b∉ex->h'.get? b=some o
 slot:∀b o,h.get? b=some o->H b=none->b∈fs->b∉ex->∃sl,h'.get? b=some { o with slots:=sl }
 free:∀b o,h.get? b=some o->H b=none->b∉ex->H' b=none
 there:∀b o,h.get? b=some o->b∉ex->∃o',h'.get? b=some o'
 tups:∀b xs,H b=some (.tup xs)->H' b=some (.tup xs)
 frzs:∀b o u,H b=some (.frz o u)->H' b=some (.frz o u)
 tbls:∀b ps,H b=some (.tbl ps)->∃more,H' b=some (.tbl (ps++more))
section
variable {fs fs' ex ex':List Addr}{H H1 H2:Hp}{h1 h2:Heap}{a x e:Addr}{o:HO}
theorem Un.any(u:Un fs ex H H1 h h1){b:Addr}{ob:Obj}(q:h.get? b=some ob)(n:H b=none)(hx:b∉ex):∃sl,h1.get? b=some { ob with slots:=sl }:=by
 by_cases hb:b∈fs
 ·exact u.slot b ob q n hb hx
 ·exact ⟨ob.slots,u.keep b ob q n hb hx⟩
theorem Un.kept(k:∀b u,h.get? b=some u->h'.get? b=some u):Un fs ex H H h h':=⟨λb ob q _ _ _=>k b ob q,λb ob q _ _ _=>⟨ob.slots,k b ob q⟩,λ_ _ _ n _=>n,λb ob q _=>⟨ob,k b ob q⟩,λ_ _ q=>q,λ_ _ _ q=>q,λ_ ps q=>⟨#[],by rw[q];simp⟩⟩
theorem Un.refl:Un fs ex H H h h:=Un.kept λ_ _ q=>q
theorem Un.laid(k:∀b u,h.get? b=some u->h'.get? b=some u)(hp:h.objs.size<=a)(hn:H a=none):Un fs ex H (UQ H a o) h h' where
 keep:=λb u q _ _ _=>k b u q
 slot:=λb u q _ _ _=>⟨u.slots,k b u q⟩
 free:=λb u q n _=>by rw[nQ (U0 (O0 (G0 q) hp))];exact n
 there:=λb u q _=>⟨u,k b u q⟩
 tups:=λb xs q=>by rw[nQ (oQ q hn)];exact q
 frzs:=λb u xs q=>by rw[nQ (oQ q hn)];exact q
 tbls:=λb ps q=>⟨#[],by rw[nQ (oQ q hn),q];simp⟩
theorem Un.write(mu:CL (H x))(he:e=x\/H e=some (.own x))(k:∀b u,b≠e->h.get? b=some u->h'.get? b=some u)(heo:∃u,h'.get? e=some u):Un fs ex H (UQ H x o) h h':=by
 have hx:∀b,H b=none->b≠x:=λb n z=>by subst z;rw[n]at mu;exact mu
 have hb:∀b,H b=none->b≠e:=λb n z=>by
  subst z;rcases he with r|r
  ·exact hx b n r
  ·rw[n]at r;cases r
 have hm:∀b u,H b=some u->¬CL (some u)->b≠x:=λb u q nm z=>by subst z;rw[q]at mu;exact nm mu
 refine ⟨λb u q n _ _=>k b u (hb b n) q,λb u q n _ _=>⟨u.slots,k b u (hb b n) q⟩,λb u q n _=>by rw[nQ (hx b n)];exact n,λb u q _=>?_,
   λb xs q=>by rw[nQ (hm b _ q λz=>z)];exact q,λb u xs q=>by rw[nQ (hm b _ q λz=>z)];exact q,λb ps q=>⟨#[],by rw[nQ (hm b _ q λz=>z),q];simp⟩⟩;by_cases hbe:b=e
 ·subst hbe;exact heo
 ·exact ⟨u,k b u hbe q⟩
end
noncomputable def XN(h:Heap)(H:Hp):List Addr:=(N1 h.objs.size).filter λa=>(H a).isSome
noncomputable def fU(h:Heap)(H:Hp):Heap:=PySem.W.hideAll h (XN h H)
theorem WD(h:Heap)(H:Hp):(fU h H).objs.size=h.objs.size:=PySem.W.hideAll_size _ _
theorem Zq{H:Hp}{b:Addr}(e:h.get? b=some o)(n:H b=none):(fU h H).get? b=some o :=
 PySem.W.hideAll_get _ e λhm=>by have q:(H b).isSome=true:=(P7.mp hm).2;rw[n]at q;simp at q
theorem tw{H:Hp}{b:Addr}(e:(fU h H).get? b=some o):h.get? b=some o/\H b=none:=by
 have e':h.get? b=some o:=PySem.W.of_hideAll (XN h H) e;refine ⟨e',?_⟩;cases q:H b with
 | none=>rfl
 | some x=>have hm:b∈XN h H:=P7.mpr ⟨u3.mpr (G0 e'),by simp[q]⟩;have z:(fU h H).get? b=none:=PySem.W.hideAll_none (XN h H) hm;rw[z]at e;cases e
noncomputable def uw(g h:Heap)(L:Addr):List (Addr×Obj):=(N1 h.objs.size).filterMap λa=>if a=L\/(g.get? a).isSome=true then none else (h.get? a).map λo=>(a,o)
noncomputable def rest(g h:Heap)(L d:Addr):List (Addr×Obj):=(uw g h L).filter λp=>decide (p.1≠d)
def DL(mg:Str->Option Value)(h:Heap):Prop:=∃bm o,mg "__builtins__"=some (.ref bm)/\bm≠builtinsNs/\h.get? bm=some o/\o.cls=.type "module"/\o.dict=some builtinsNs/\o.data=.plain
structure Mod(K:n0)(mg:Str->Option Value)(base:Heap):Prop where
 kin:K.In base
 glob:base.Ns mainGlobals mg
 blt:∃mb,base.Ns builtinsNs mb/\∀x:Str,x ≠ "__name__"->mb x=bootBuiltins x
 nolimit:base.NoLimit
 bm:DL mg base
structure Cx where
 prog:Program
 w:World
 K:n0
 mg:Str->Option Value
 base:Heap
 A:Around
 N:List Str
 s₀:Shared
 H₀:Hp
 env:Env
 outer:List Env
 stack:List Env
 ex:List Addr
 fn:Str->Bool
 calm:Bool
 pn:List (Addr×Obj)
 xe:Value->Shared->Prop
noncomputable def wF(l:List Env):List Addr:=l.filterMap (·.frame)
noncomputable abbrev Cx.fs(X:Cx):List Addr:=wF X.outer
def EL(sc:Scope)(x:Str):Prop:=sc.names.lookup x=some .local\/sc.names.lookup x=some .cell\/sc.names.lookup x=some .free
def UB(sc:Scope)(x:Str):Prop:=sc.names.lookup x=some .local\/sc.names.lookup x=some .cell
def CO(env:Env)(h:Heap)(m:Str->Option Value)(x:Str)(u:Value):Prop:=(env.kindOf x=some .local/\m x=some u)\/((env.kindOf x=some .cell\/env.kindOf x=some .free)/\∃c,env.cells.lookup x=some c/\h.IsCell c (some u))
structure Cx.Ok(X:Cx):Prop where
 mod:Mod X.K X.mg X.base
 kind:X.env.scope.kind=.function
 glob:X.env.globals=mainGlobals
 blt:X.env.builtins=builtinsNs
 above:X.s₀.heap.objs.size<=X.env.locals
 inj:∀x y c,X.env.cells.lookup x=some c->X.env.cells.lookup y=some c->x=y
 has:∀x,(X.env.kindOf x=some .cell\/X.env.kindOf x=some .free)->∃c,X.env.cells.lookup x=some c
 cab:∀x c,X.fn x=true->X.env.cells.lookup x=some c->X.s₀.heap.objs.size<=c
 hd:X.calm=true->X.A.handled=none
 frames:X.A.frames=some X.stack
 stk:X.stack=X.outer\/(X.stack=X.env :: X.outer/\X.env.frame=some X.env.locals)
 exf:∀b∈X.ex,b≠X.env.locals/\∀x c,X.env.cells.lookup x=some c->c≠b
 bs:∀b o,X.base.get? b=some o->X.s₀.heap.get? b=some o/\X.H₀ b=none
 bsz:X.base.objs.size<=X.s₀.heap.objs.size
 noex:∀b o,X.base.get? b=some o->b∉X.ex
 exfs:∀b∈X.ex,b∉X.fs
 funs:X.s₀.heap.FunFrames X.base X.outer
 frf:∀b∈X.fs,X.H₀ b=none
structure Inv(X:Cx)(pins:List (Addr×Obj))(σ:List (Option V))(H:Hp)(s:Shared):Prop where
 ok:X.Ok
 os:s.os=X.s₀.os
 bare:AllBare s.gens
 base:Un X.fs X.ex X.H₀ H X.s₀.heap s.heap
 loc:∃m,s.heap.Ns X.env.locals m/\∀(i:Nat) (x:Str) (v:V),X.N[i]?=some x->σ[i]?=some (some v)->EL X.env.scope x->∃u,RelV v u/\CO X.env s.heap m x u
 cell:∀x c,X.env.cells.lookup x=some c->∃v,s.heap.IsCell c v
 free:H X.env.locals=none
 freeC:∀x c,X.env.cells.lookup x=some c->H c=none
 pin:∀p∈X.pn++pins,s.heap.get? p.1=some p.2/\H p.1=none/\p.1≠X.env.locals/\p.1∉X.fs/\∀v,p.2.data≠.cell v
 hok:HOk X.prog X.w H s.heap
 len:σ.length=X.N.length
section
variable {X:Cx}{σ:List (Option V)}{H H':Hp}
theorem Cx.Ok.nofr(ok:X.Ok){b:Addr}{o:Obj}(e:X.base.get? b=some o):b∉X.fs:=λhb=>by have:=(ok.funs.mem hb).1;rw[e]at this;cases this
theorem Inv.bs(I:Inv X pins σ H s):∀b o,X.base.get? b=some o->s.heap.get? b=some o/\H b=none:=λb o e=>⟨I.base.keep b o (I.ok.bs b o e).1 (I.ok.bs b o e).2 (I.ok.nofr e) (I.ok.noex b o e),I.base.free b o (I.ok.bs b o e).1 (I.ok.bs b o e).2 (I.ok.noex b o e)⟩
theorem Inv.bk(I:Inv X pins σ H s):∀b o,X.base.get? b=some o->s.heap.get? b=some o:=λb o e=>(I.bs b o e).1
theorem Inv.mod(I:Inv X pins σ H s):Mod X.K X.mg X.base:=I.ok.mod
theorem Inv.kIn(I:Inv X pins σ H s):X.K.In s.heap:=I.ok.mod.kin.keeps I.bk
theorem Inv.lt(I:Inv X pins σ H s):X.env.locals < s.heap.objs.size:=let ⟨_,hn,_⟩:=I.loc;hn.lt
theorem Inv.sz(I:Inv X pins σ H s):X.s₀.heap.objs.size<=s.heap.objs.size:=Q0 I.ok.above (B5 I.lt)
theorem Inv.nofs(I:Inv X pins σ H s){a:Addr}(h:s.heap.objs.size<=a):a∉X.fs:=λhb=>by obtain⟨_,o,ho,_⟩:=I.ok.funs.mem hb;exact absurd (O0 (G0 ho) (Q0 I.sz h)) (K3 _)
theorem Inv.cne(I:Inv X pins σ H s):∀x c,X.env.cells.lookup x=some c->c≠X.env.locals:=λx c e z=>by obtain⟨v,o,ho,hd⟩:=I.cell x c e;obtain⟨m,⟨o',es,ep,ho',hd',_⟩,_⟩:=I.loc;rw[z,ho']at ho;cases ho;rw[hd']at hd;cases hd
theorem Inv.funs(I:Inv X pins σ H s):s.heap.FunFrames X.base X.outer:=by
 have all:∀(l:List Env),(∀b∈wF l,b∈X.fs)->X.s₀.heap.FunFrames X.base l->s.heap.FunFrames X.base l:=by
  intro l;induction l with
  | nil=>intro _ _;trivial
  | cons env r ih=>intro hs hl;obtain⟨hk,⟨L,o,hf,hn,ho,hd⟩,hr⟩:=hl;have hL:L∈X.fs:=hs L (by unfold wF;rw[T7,hf];exact v0);obtain⟨sl,e⟩:=I.base.slot L o ho (I.ok.frf L hL) hL λz=>I.ok.exfs L z hL;exact ⟨hk,⟨L,_,hf,hn,e,hd⟩,ih (λb hb=>hs b (by unfold wF;rw[T7,hf];exact q0 _ hb)) hr⟩
 exact all X.outer (λ_ hb=>hb) I.ok.funs
theorem Inv.stack(I:Inv X pins σ H s):s.heap.FunFrames X.base X.stack:=by
 rcases I.ok.stk with e|⟨e,hf⟩
 ·rw[e];exact I.funs
 ·rw[e];obtain⟨m,hn,_⟩:=I.loc;refine .cons (by rw[I.ok.kind];decide) hf hn ?_ I.funs;exact Heap.get?_none_of_le (Q0 I.ok.bsz I.ok.above)
theorem Inv.stkSub(I:Inv X pins σ H s):∀b∈wF X.stack,b∈X.env.locals :: X.fs:=λb hb=>by
 rcases I.ok.stk with e|⟨e,hf⟩
 ·rw[e]at hb;exact q0 _ hb
 ·rw[e]at hb;unfold wF at hb;rw[T7,hf]at hb;exact hb
theorem Inv.stkFree(I:Inv X pins σ H s):∀b∈wF X.stack,H b=none:=λb hb=>by
 rcases W0.mp (I.stkSub b hb) with e|hb
 ·rw[e];exact I.free
 ·obtain⟨_,o,ho,_⟩:=I.ok.funs.mem hb;exact I.base.free b o ho (I.ok.frf b hb) λz=>I.ok.exfs b z hb
theorem Inv.step{g':Array GenState}{d':Drawn}(I:Inv X pins σ H s)(hch:∀b∈ch,(b∈X.ex\/X.s₀.heap.objs.size<=b)/\b≠X.env.locals/\(∀x c,X.env.cells.lookup x=some c->c≠b)/\∀p∈X.pn++pins,p.1≠b)(keep:∀b o,b≠X.env.locals->b∉X.fs->b∉ch->s.heap.get? b=some o->H b=none->h'.get? b=some o)(slot:∀b o,b≠X.env.locals->b∈X.fs->b∉ch->s.heap.get? b=some o->H b=none->∃sl,h'.get? b=some { o with slots:=sl }) (free:∀b o,b∉ch->s.heap.get? b=some o->H b=none->H' b=none)(there:∀b o,b∉ch->s.heap.get? b=some o->∃o',h'.get? b=some o')(tups:∀b xs,H b=some (.tup xs)->H' b=some (.tup xs)) (frzs:∀b o u,H b=some (.frz o u)->H' b=some (.frz o u)) (tbls:∀b ps,H b=some (.tbl ps)->∃more,H' b=some (.tbl (ps++more)))(ns:∀m,s.heap.Ns X.env.locals m->h'.Ns X.env.locals m) (hok:HOk X.prog X.w H' h') (hg:AllBare g'):Inv X pins σ H' { s with heap:=h',gens:=g',drawn:=d',toks:=t' }:=by
 have neL:∀b o,X.s₀.heap.get? b=some o->b≠X.env.locals:=λb o e=>U0 (O0 (G0 e) I.ok.above);have neC:∀b o,X.s₀.heap.get? b=some o->b∉X.ex->b∉ch:=λb o e hx hb=>by
  rcases (hch b hb).1 with z|z
  ·exact hx z
  ·exact absurd (O0 (G0 e) z) (K3 _)
 have cellK:∀x c,X.env.cells.lookup x=some c->∀v,s.heap.IsCell c v->h'.IsCell c v:=λx c e v ⟨o,ho,hd⟩=>by
  have nch:c∉ch:=λz=>(hch c z).2.2.1 x c e rfl;by_cases hc:c∈X.fs
  ·obtain⟨sl,q⟩:=slot c o (I.cne x c e) hc nch ho (I.freeC x c e);exact ⟨_,q,hd⟩
  ·exact ⟨o,keep c o (I.cne x c e) hc nch ho (I.freeC x c e),hd⟩
 refine ⟨I.ok,I.os,hg,⟨λb o e n hb hx=>?_,λb o e n hb hx=>?_,λb o e n hx=>?_,λb o e hx=>?_,λb xs e=>tups b xs (I.base.tups b xs e),λb o xs e=>frzs b o xs (I.base.frzs b o xs e),λb ps e=>?_⟩,?_,λx c e=>?_,?_,λx c e=>?_,λp hp=>?_,hok,I.len⟩
 ·exact keep b o (neL b o e) hb (neC b o e hx) (I.base.keep b o e n hb hx) (I.base.free b o e n hx)
 ·obtain⟨sl,e1⟩:=I.base.slot b o e n hb hx;obtain⟨sl',e2⟩:=slot b _ (neL b o e) hb (neC b o e hx) e1 (I.base.free b o e n hx);exact ⟨sl',e2⟩
 ·obtain⟨o',e1⟩:=I.base.there b o e hx;exact free b o' (neC b o e hx) e1 (I.base.free b o e n hx)
 ·obtain⟨o',e1⟩:=I.base.there b o e hx;exact there b o' (neC b o e hx) e1
 ·obtain⟨m1,e1⟩:=I.base.tbls b ps e;obtain⟨m2,e2⟩:=tbls b _ e1;exact ⟨m1++m2,by rw[e2,Array.append_assoc]⟩
 ·obtain⟨m,hn,hl⟩:=I.loc;refine ⟨m,ns m hn,λi x v e1 e2 e3=>?_⟩;obtain⟨u,r,l⟩:=hl i x v e1 e2 e3;refine ⟨u,r,?_⟩;rcases l with l|⟨k,c,e,z⟩
  ·exact .inl l
  ·exact .inr ⟨k,c,e,cellK x c e _ z⟩
 ·obtain⟨v,z⟩:=I.cell x c e;exact ⟨v,cellK x c e v z⟩
 ·obtain⟨m,⟨o,_,_,ho,_⟩,_⟩:=I.loc;exact free _ o (λz=>(hch _ z).2.1 rfl) ho I.free
 ·obtain⟨v,o,ho,hd⟩:=I.cell x c e;exact free c o (λz=>(hch c z).2.2.1 x c e rfl) ho (I.freeC x c e)
 ·obtain⟨e,n,ne,nf,d⟩:=I.pin p hp;have nch:p.1∉ch:=λz=>(hch p.1 z).2.2.2 p hp rfl;exact ⟨keep p.1 p.2 ne nf nch e n,free p.1 p.2 nch e n,ne,nf,d⟩
theorem Inv.un(I:Inv X pins σ H s)(u:Un X.fs [] H H' s.heap h')(hok:HOk X.prog X.w H' h'):Inv X pins σ H' { s with heap:=h',toks:=t' }:=by
 obtain⟨m,⟨o,es,ep,ho,r⟩,_⟩:=id I.loc;obtain⟨sl,hL⟩:=u.any ho I.free (by simp);exact I.step (g':=s.gens) (d':=s.drawn) (ch:=[]) (λ_ z=>nomatch z) (λb o _ hb _ e n=>u.keep b o e n hb (by simp)) (λb o _ hb _ e n=>u.slot b o e n hb (by simp)) (λb o _ e n=>u.free b o e n (by simp)) (λb o _ e=>u.there b o e (by simp)) u.tups u.frzs u.tbls (λm' hm=>by obtain⟨o',es',ep',ho',r'⟩:=hm;rw[ho]at ho';cases ho';exact ⟨_,es',ep',hL,r'⟩) hok I.bare
theorem Inv.call{g':Array GenState}{d':Drawn}(I:Inv X pins σ H s)(u:Un (wF X.stack) ch H H' s.heap h')(hok:HOk X.prog X.w H' h')(hg:AllBare g')(hch:∀b∈ch,(b∈X.ex\/X.s₀.heap.objs.size<=b)/\b≠X.env.locals/\(∀x c,X.env.cells.lookup x=some c->c≠b)/\∀p∈X.pn++pins,p.1≠b):Inv X pins σ H' { s with heap:=h',gens:=g',drawn:=d',toks:=t' }:=by
 obtain⟨m,⟨o,es,ep,ho,r⟩,_⟩:=id I.loc;obtain⟨sl,hL⟩:=u.any ho I.free λz=>(hch _ z).2.1 rfl;exact I.step (ch:=ch) hch (λb o hL hb hc e n=>u.keep b o e n (λz=>(W0.mp (I.stkSub b z)).elim hL hb) hc) (λb o _ _ hc e n=>u.any e n hc) (λb o hc e n=>u.free b o e n hc) (λb o hc e=>u.there b o e hc) u.tups u.frzs u.tbls (λm' hm=>by obtain⟨o',es',ep',ho',r'⟩:=hm;rw[ho]at ho';cases ho';exact ⟨_,es',ep',hL,r'⟩) hok hg
theorem Inv.turned(I:Inv X pins σ H s)(k:∀b o,b≠it->s.heap.get? b=some o->h'.get? b=some o)(hn:H it=none)(hL:it≠X.env.locals)(h1:it∈X.ex\/X.s₀.heap.objs.size<=it) (h2:∀x c,X.env.cells.lookup x=some c->c≠it) (h3:∀p∈X.pn++pins,p.1≠it):Inv X pins σ H { s with heap:=h',toks:=t' }:=by
 have nit:∀b u,H b=some u->b≠it:=λb u e z=>by rw[z,hn]at e;cases e
 refine I.step (g':=s.gens) (d':=s.drawn) (ch:=[it]) (λb hb=>?_) (λb o _ _ hc e _=>k b o (λz=>hc (by simp[z])) e) (λb o _ _ hc e _=>⟨o.slots,k b o (λz=>hc (by simp[z])) e⟩) (λ_ _ _ _ n=>n)
  (λb o hc e=>⟨o,k b o (λz=>hc (by simp[z])) e⟩) (λ_ _ e=>e) (λ_ _ _ e=>e) (λb ps e=>⟨#[],by rw[e];simp⟩) (λm hm=>?_) (λb u e=>?_) I.bare
 ·have e:b=it:=by simpa using hb
  subst e;exact ⟨h1,hL,h2,h3⟩
 ·obtain⟨o,es,ep,ho,r⟩:=hm;exact ⟨o,es,ep,k _ o (E3 hL) ho,r⟩
 ·refine (I.hok b u e).stay (λc v hc q=>k c v ?_ q) (λ_ q=>q) λ_ _ q=>q;rcases hc with z|z
  ·rw[z];exact nit b u e
  ·exact nit c _ z
theorem Inv.tok(I:Inv X pins σ H s)(t:Nat):Inv X pins σ H { s with toks:=t }:=I.un (h':=s.heap) (t':=t) Un.refl I.hok
theorem Inv.kept(I:Inv X pins σ H s)(k:∀b u,s.heap.get? b=some u->h'.get? b=some u):Inv X pins σ H { s with heap:=h',toks:=t' }:=I.un (Un.kept k) (I.hok.kept k)
theorem Inv.laid{a:Addr}{o:HO}(I:Inv X pins σ H s)(k:∀b u,s.heap.get? b=some u->h'.get? b=some u)(hp:s.heap.objs.size<=a)(new:ObjOk X.prog X.w (UQ H a o) h' a o):Inv X pins σ (UQ H a o) { s with heap:=h',toks:=t' }:=I.un (Un.laid k hp (I.hok.fresh hp)) (I.hok.laid k hp new)
theorem Inv.write{x e:Addr}{o:HO}(I:Inv X pins σ H s)(mu:CL (H x))(he:e=x\/H e=some (.own x))(k:∀b u,b≠e->s.heap.get? b=some u->h'.get? b=some u)(heo:∃u,h'.get? e=some u)(new:ObjOk X.prog X.w (UQ H x o) h' x o):Inv X pins σ (UQ H x o) { s with heap:=h',toks:=t' }:=I.un (Un.write mu he k heo) (I.hok.write mu he k heo new)
theorem Inv.pins_of{pins':List (Addr×Obj)}(I:Inv X pins σ H s)(h:∀p∈pins',s.heap.get? p.1=some p.2/\H p.1=none/\p.1≠X.env.locals/\p.1∉X.fs/\∀v,p.2.data≠.cell v):Inv X pins' σ H s:=⟨I.ok,I.os,I.bare,I.base,I.loc,I.cell,I.free,I.freeC,λp hp=>(E1.mp hp).elim (λz=>I.pin p (T2 _ z)) (h p),I.hok,I.len⟩
theorem ZU(hN:N.Nodup){i j:Nat}{x:Str}(a:N[i]?=some x)(b:N[j]?=some x):i=j:=by obtain⟨h1,e1⟩:=V0.mp a;obtain⟨h2,e2⟩:=V0.mp b;exact (List.getElem_inj hN).mp (e1.trans e2.symm)
theorem wV{M:Model}{i:Nat}{x:Str}{v:V}{Q:Unit->Shared->Prop}(I:Inv X pins σ H s)(hN:X.N.Nodup)(hi:X.N[i]?=some x)(hx:UB X.env.scope x)(r:RelV v u)
  (h:∀s',Inv X pins (σ.set i (some v)) H s'->(∃a,X3 a s.heap s'.heap/\(a=X.env.locals\/X.env.cells.lookup x=some a))->Q () s') (hf:X.fn x=true\/X.env.scope.names.lookup x=some .local:=by first|exact .inl rfl|exact .inr rfl|assumption):wpAny M A (storeName X.env x u) Q E s:=by
 obtain⟨m,hn,hl⟩:=id I.loc;have hcls:(X.env.scope.kind==.class||(X.env.scope.kind==.module&&X.env.locals != X.env.globals))=false:=by rw[I.ok.kind];rfl
 have hiσ:i < σ.length:=by rw[I.len];exact (V0.mp hi).1
 have cne:=I.cne;have tracked:∀{a:Addr}{h':Heap},(∃o,s.heap.get? a=some o/\H a=none)->X3 a s.heap h'->HOk X.prog X.w H h':=λ{a h'} ha hs b ob e=>by
  obtain⟨_,_,hfree⟩:=ha;refine (I.hok b ob e).stay (λc w' hc q=>(hs.2 c ?_).trans q) (λ_ q=>q) λ_ _ q=>q;rintro rfl;rcases hc with rfl|hc
  ·rw[hfree]at e;cases e
  ·rw[hfree]at hc;cases hc
 rcases hx with hk|hk
 ·refine wpAny_storeName_local hk hn (λh' hn' hs=>?_) hcls;obtain⟨oL,_,_,hoL,_⟩:=id hn;refine h _ ⟨I.ok,I.os,I.bare,⟨λb o e n hb hx=>?_,λb o e n hb hx=>?_,I.base.free,λb o e hx=>?_,I.base.tups,I.base.frzs,I.base.tbls⟩,⟨_,hn',λj y v' e1 e2 e3=>?_⟩,λy c e=>?_,I.free,I.freeC,λp hp=>?_,tracked ⟨oL,hoL,I.free⟩ hs,by simpa using I.len⟩ ⟨_,hs,.inl rfl⟩
  ·exact (hs.2 b (U0 (O0 (G0 e) I.ok.above))).trans (I.base.keep b o e n hb hx)
  ·obtain⟨sl,e1⟩:=I.base.slot b o e n hb hx;exact ⟨sl,(hs.2 b (U0 (O0 (G0 e) I.ok.above))).trans e1⟩
  ·obtain⟨o',e1⟩:=I.base.there b o e hx;exact ⟨o',(hs.2 b (U0 (O0 (G0 e) I.ok.above))).trans e1⟩
  ·by_cases hj:j=i
   ·subst hj;rw[hi]at e1;cases e1;rw[j6 hiσ]at e2;cases e2;exact ⟨u,r,.inl ⟨hk,by simp⟩⟩
   ·rw[G1 (E3 hj)]at e2;obtain⟨u',r',q⟩:=hl j y v' e1 e2 e3;refine ⟨u',r',?_⟩;rcases q with⟨k,e⟩|⟨k,c,e,z⟩
    ·refine .inl ⟨k,?_⟩;have:y≠x:=λe=>hj (ZU hN e1 (e ▸ hi));simp[this,e]
    ·exact .inr ⟨k,c,e,z.sameBut hs (cne y c e)⟩
  ·obtain⟨w',z⟩:=I.cell y c e;exact ⟨w',z.sameBut hs (cne y c e)⟩
  ·obtain⟨e,n,ne,nf,d⟩:=I.pin p hp;exact ⟨(hs.2 p.1 ne).trans e,n,ne,nf,d⟩
 ·have hfn:X.fn x=true:=by
   rcases hf with z|z
   ·exact z
   ·rw[z]at hk;cases hk
  obtain⟨c,hc⟩:=I.ok.has x (.inl hk);obtain⟨w',z⟩:=I.cell x c hc;refine wpAny_storeName_cell I.ok.kind hk hc z (λh' hc' hs=>?_);obtain⟨oc,hoc,hocd⟩:=id z;refine h { s with heap:=h' } ⟨I.ok,I.os,I.bare,⟨λb o e n hb hx=>?_,λb o e n hb hx=>?_,I.base.free,λb o e hx=>?_,I.base.tups,I.base.frzs,I.base.tbls⟩,⟨m,hn.sameBut hs (E3 (cne x c hc)),λj y v' e1 e2 e3=>?_⟩,λy c' e=>?_,I.free,I.freeC,λp hp=>?_,tracked ⟨oc,hoc,I.freeC x c hc⟩ hs,by simpa using I.len⟩ ⟨c,hs,.inr hc⟩
  ·exact (hs.2 b (U0 (O0 (G0 e) (I.ok.cab x c hfn hc)))).trans (I.base.keep b o e n hb hx)
  ·obtain⟨sl,e1⟩:=I.base.slot b o e n hb hx;exact ⟨sl,(hs.2 b (U0 (O0 (G0 e) (I.ok.cab x c hfn hc)))).trans e1⟩
  ·obtain⟨o',e1⟩:=I.base.there b o e hx;exact ⟨o',(hs.2 b (U0 (O0 (G0 e) (I.ok.cab x c hfn hc)))).trans e1⟩
  ·by_cases hj:j=i
   ·subst hj;rw[hi]at e1;cases e1;rw[j6 hiσ]at e2;cases e2;exact ⟨u,r,.inr ⟨.inl hk,c,hc,hc'⟩⟩
   ·rw[G1 (E3 hj)]at e2;obtain⟨u',r',q⟩:=hl j y v' e1 e2 e3;refine ⟨u',r',?_⟩;rcases q with q|⟨k,c',e,z'⟩
    ·exact .inl q
    ·refine .inr ⟨k,c',e,z'.sameBut hs ?_⟩;rintro rfl;exact hj (ZU hN e1 (I.ok.inj _ _ _ e hc ▸ hi))
  ·by_cases hcc:c'=c
   ·subst hcc;exact ⟨_,hc'⟩
   ·obtain⟨w2,z2⟩:=I.cell y c' e;exact ⟨w2,z2.sameBut hs hcc⟩
  ·obtain⟨e,n,ne,nf,d⟩:=I.pin p hp;refine ⟨(hs.2 p.1 ?_).trans e,n,ne,nf,d⟩;intro q;rw[q,hoc]at e;have q':oc=p.2:=X1 e;exact d w' (by rw[<- q'];exact hocd)
theorem aH{M:Model}{i:Nat}{x:Str}{v:V}{Q:Unit->Shared->Prop}(I:Inv X pins σ H s)(hN:X.N.Nodup)(hi:X.N[i]?=some x)(hx:UB X.env.scope x)(r:RelV v u)
  (h:∀s',Inv X pins (σ.set i (some v)) H s'->Q () s') (hf:X.fn x=true\/X.env.scope.names.lookup x=some .local:=by first|exact .inl rfl|exact .inr rfl|assumption):wpAny M A (storeName X.env x u) Q E s :=
 wV I hN hi hx r (λs' I' _=>h s' I') hf
theorem Inv.call'(I:Inv X pins σ H s)(ho:s'.os=s.os)(u:Un (wF X.stack) ch H H' s.heap s'.heap)(hok:HOk X.prog X.w H' s'.heap)(hg:AllBare s'.gens)(hch:∀b∈ch,(b∈X.ex\/X.s₀.heap.objs.size<=b)/\b≠X.env.locals/\(∀x c,X.env.cells.lookup x=some c->c≠b)/\∀p∈X.pn++pins,p.1≠b):Inv X pins σ H' s':=by
 obtain⟨h',g',d',t',o'⟩:=s';have e:o'=s.os:=ho;subst e;exact I.call (g':=g') (t':=t') (d':=d') u hok hg hch
end
noncomputable abbrev XK:=Value->Option Addr->Hp->Prop
noncomputable abbrev St:=List (Option V)
noncomputable abbrev VK:=V->Hp->Prop
noncomputable abbrev TE:=St->Hp->VK->Prop
noncomputable abbrev TT:=St->Hp->(Bool->Hp->Prop)->Prop
noncomputable abbrev TA:=St->Hp->(List V->Hp->Prop)->Prop
structure Ends where
 nx:St->Hp->Prop
 rt:VK
 bk:St->Hp->Prop:=λ_ _=>False
 ct:St->Hp->Prop:=λ_ _=>False
noncomputable abbrev TS:=Ends->St->Hp->Prop
def EP(X:Cx)(pins:List (Addr×Obj))(σ:St)(Q:VK)(u:Value)(s':Shared):Prop:=∃v H',Inv X pins σ H' s'/\RelV v u/\Q v H'
def TP(X:Cx)(pins:List (Addr×Obj))(σ:St)(Q:Bool->Hp->Prop)(b:Bool)(s':Shared):Prop:=∃H',Inv X pins σ H' s'/\Q b H'
def AP(X:Cx)(pins:List (Addr×Obj))(σ:St)(Q:List V->Hp->Prop)(us:List Value)(s':Shared):Prop:=∃vs H',Inv X pins σ H' s'/\Vals vs us/\Q vs H'
def SP(X:Cx)(pins:List (Addr×Obj))(D:Ends)(f:Flow)(s':Shared):Prop :=
 match f with
 | .next=>∃σ' H',Inv X pins σ' H' s'/\D.nx σ' H'
 | .brk=>∃σ' H',Inv X pins σ' H' s'/\D.bk σ' H'
 | .cont=>∃σ' H',Inv X pins σ' H' s'/\D.ct σ' H'
 | .ret u=>∃v σ' H',Inv X pins σ' H' s'/\RelV v u/\D.rt v H'
def PE(X:Cx)(e:Expr)(t:TE):Prop:=∀(pins:List (Addr×Obj)) (s:Shared) (σ:St) (H:Hp) (Q:VK),Inv X pins σ H s->t σ H Q->wpAny (model X.prog X.w) X.A (eval e X.env) (EP X pins σ Q) X.xe s
def PT(X:Cx)(e:Expr)(t:TT):Prop:=∀(pins:List (Addr×Obj)) (s:Shared) (σ:St) (H:Hp) (Q:Bool->Hp->Prop),Inv X pins σ H s->t σ H Q->wpAny (model X.prog X.w) X.A (isTrue e X.env (eval e X.env)) (TP X pins σ Q) X.xe s
def PW(X:Cx)(e:Expr)(t:TT):Prop:=∀(whole:Sem Value) (pins:List (Addr×Obj)) (s:Shared) (σ:St) (H:Hp) (Q:Bool->Hp->Prop),Inv X pins σ H s->t σ H Q->wpAny (model X.prog X.w) X.A (isTrue e X.env whole) (TP X pins σ Q) X.xe s
theorem PW.pt{X:Cx}{e:Expr}{t:TT}(h:PW X e t):PT X e t:=h _
def PA(X:Cx)(es:List Expr)(t:TA):Prop:=∀(pos:Pos) (pins:List (Addr×Obj)) (s:Shared) (σ:St) (H:Hp) (Q:List V->Hp->Prop),Inv X pins σ H s->t σ H Q->wpAny (model X.prog X.w) X.A (spliced (backTo pos (starEach es X.env))) (AP X pins σ Q) X.xe s
def PS(X:Cx)(st:Stmt)(t:TS):Prop:=∀(pins:List (Addr×Obj)) (s:Shared) (σ:St) (H:Hp) (D:Ends),Inv X pins σ H s->t D σ H->wpAny (model X.prog X.w) X.A (exec st X.env) (SP X pins D) X.xe s
def PSs(X:Cx)(st:List Stmt)(t:TS):Prop:=∀(pins:List (Addr×Obj)) (s:Shared) (σ:St) (H:Hp) (D:Ends),Inv X pins σ H s->t D σ H->wpAny (model X.prog X.w) X.A (execs st X.env) (SP X pins D) X.xe s
theorem hX{α:Type}{t:Sem α}{Q Q':α->Shared->Prop}{M:Model}(h:wpAny M A t Q E s)(hQ:∀a s,Q a s->Q' a s):wpAny M A t Q' E s:=wpAny_mono h hQ λ_ _ x=>x
section
variable {X:Cx}
def eY(i:Nat):TE:=λσ H Q=>∃v,σ[i]?=some (some v)/\Q v H
def tC(v:V):TE:=λ_ H Q=>Q v H
theorem az{i:Nat}{x:Str}{pos:Pos}(hN:X.N[i]?=some x)(hv:EL X.env.scope x)(hd:(x==("__debug__":Str))=false:=by decide)(hcd:(x==("__classdict__":Str))=false:=by decide):PE X (.Name x pos) (eY i):=by
 intro pins s σ H Q I h;obtain⟨v,e,h⟩:=h;obtain⟨m,hn,hl⟩:=I.loc;obtain⟨u,r,l⟩:=hl i x v hN e hv;have fin:EP X pins σ Q u s:=⟨v,H,I,r,h⟩;rcases l with⟨hk,hm⟩|⟨hk,c,hc,hcell⟩
 ·exact wpAny_Name (wpAny_loadName_local I.ok.kind hk hn hm fin) hd
 ·rcases hk with hk|hk
  ·exact wpAny_Name (wpAny_loadName_cell I.ok.kind hk hc hcell fin) hd
  ·exact wpAny_Name (wpAny_loadName_free I.ok.kind hk hc hcell fin hcd) hd
theorem bz{i j pos}:PE X (.Constant (.int i) j pos) (tC (.int i)):=λ_ _ _ H _ I h=>wpAny_Constant_int ⟨.int i,H,I.tok _,⟨_,rfl⟩,h⟩
theorem FL{b j pos}:PE X (.Constant (.bool b) j pos) (tC (.bl b)):=λ_ _ _ H _ I h=>Constant_bool ⟨.bl b,H,I,rfl,h⟩
theorem VB{j pos}:PE X (.Constant .none j pos) (tC .non):=λ_ _ _ H _ I h=>Constant_none ⟨.non,H,I,rfl,h⟩
theorem WB{x j pos}:PE X (.Constant (.str x) j pos) (tC (.str x)):=λ_ _ _ H _ I h=>Calls.Constant_str ⟨.str x,H,I.tok _,⟨_,rfl⟩,h⟩
def Gl(X:Cx)(x:Str):Prop:=X.env.kindOf x=some .globalImplicit
theorem vw{σ:St}{H:Hp}{x:Str}{pos:Pos}(I:Inv X pins σ H s)(hg:Gl X x)(hm:X.mg x=some u)(h:Q u s)
  (hd:(x==("__debug__":Str))=false:=by decide):wpAny (model X.prog X.w) X.A (eval (.Name x pos) X.env) Q E s :=
 Calls.Name_function_global I.ok.kind hg (Calls.loadGlobal_global (by rw[I.ok.glob];exact I.mod.glob.keeps I.bk) hm h) hd
theorem WZ{σ:St}{H:Hp}{x:Str}{pos:Pos}(I:Inv X pins σ H s)(hg:Gl X x)(hm:X.mg x=none)(hv:bootBuiltins x=some u)(h:Q u s)
  (hn:x ≠ "__name__":=by decide) (hd:(x==("__debug__":Str))=false:=by decide):wpAny (model X.prog X.w) X.A (eval (.Name x pos) X.env) Q E s:=by
 obtain⟨mb,h1,h2⟩:=I.mod.blt;exact Calls.Name_function_global I.ok.kind hg (Calls.loadGlobal_builtin (by rw[I.ok.glob];exact I.mod.glob.keeps I.bk) hm (by rw[I.ok.blt];exact h1.keeps I.bk) ((h2 x hn).trans hv) h) hd
theorem ww{x:Str}{v:V}{pos:Pos}(hg:Gl X x)(hm:X.mg x=none)(hv:bootBuiltins x=some u)(r:RelV v u)(hn:x ≠ "__name__":=by decide)(hd:(x==("__debug__":Str))=false:=by decide):PE X (.Name x pos) (tC v):=λ_ _ _ H _ I h=>WZ I hg hm hv ⟨v,H,I,r,h⟩ hn hd
variable {a b:Expr}{ta tb:TE}{pos:Pos}
def tB(t:TE):TT:=λσ H Q=>t σ H λx H1=>∃c,x=.bl c/\Q c H1
theorem XB{e:Expr}{t:TE}(h:PE X e t)(he:∀whole,isTrue e X.env whole=(do let v<-whole;standAt e.pos;holding [v] (truthy v)):=by intro _;rfl):PT X e (tB t):=by intro pins s σ H Q I hw;refine isTrue_plain (hX (h pins s σ H _ I hw) λv s1 ⟨x,H1,I1,r1,q1⟩=>?_) (he _);obtain⟨d,rfl,q⟩:=q1;cases r1;exact wpAny_truthy_bool ⟨H1,I1,q⟩
variable {tA tB':TT}{rest:List Expr}
def YB(t u:TT):TT:=λσ H Q=>t σ H λc H1=>if c=true then u σ H1 Q else Q false H1
def DO(t u:TT):TT:=λσ H Q=>t σ H λc H1=>if c=true then Q true H1 else u σ H1 Q
def ZB(t:TT):TT:=λσ H Q=>t σ H λc H1=>Q (!c) H1
theorem zw(ha:PT X a tA):PW X (.BoolOp .And [a] pos) tA:=by
 intro wh pins s σ H Q I h;refine isTrue_and (hX (ha pins s σ H Q I h) λc s1 e=>?_);cases c with
 | true=>exact isTrue_and_nil e
 | false=>exact e
theorem aC(ha:PT X a tA):PW X (.BoolOp .Or [a] pos) tA:=by
 intro wh pins s σ H Q I h;refine isTrue_or (hX (ha pins s σ H Q I h) λc s1 e=>?_);cases c with
 | false=>exact isTrue_or_nil e
 | true=>exact e
theorem bC(ha:PT X a tA)(hb:PW X (.BoolOp .And (b :: rest) pos) tB'):PW X (.BoolOp .And (a :: b :: rest) pos) (YB tA tB'):=by
 intro wh pins s σ H Q I h;refine isTrue_and (hX (ha pins s σ H _ I h) λc s1 ⟨H1,I1,q1⟩=>?_);cases c with
 | true=>exact hb wh pins s1 σ H1 Q I1 q1
 | false=>exact ⟨H1,I1,q1⟩
theorem GL(ha:PT X a tA)(hb:PW X (.BoolOp .Or (b :: rest) pos) tB'):PW X (.BoolOp .Or (a :: b :: rest) pos) (DO tA tB'):=by
 intro wh pins s σ H Q I h;refine isTrue_or (hX (ha pins s σ H _ I h) λc s1 ⟨H1,I1,q1⟩=>?_);cases c with
 | true=>exact ⟨H1,I1,q1⟩
 | false=>exact hb wh pins s1 σ H1 Q I1 q1
theorem cC(ha:PT X a tA):PT X (.UnaryOp .Not a pos) (ZB tA):=by intro pins s σ H Q I h;exact isTrue_not (ha pins s σ H (λc H1=>Q (!c) H1) I h)
def cz(ta tb:TE):TE:=λσ H Q=>ta σ H λx H1=>∃c,x=.bl c/\if c=true then tb σ H1 Q else Q (.bl false) H1
def dz(ta:TE):TE:=λσ H Q=>ta σ H λx H1=>∃c,x=.bl c/\Q (.bl (!c)) H1
theorem eC{op}{t:TE}(h:PE X a t):PE X (.BoolOp op [a] pos) t:=λpins s σ H Q I hw=>BoolOp_one (h pins s σ H Q I hw)
theorem gC(ha:PE X a ta)(hb:PE X (.BoolOp .And (b :: rest) pos) tb):PE X (.BoolOp .And (a :: b :: rest) pos) (cz ta tb):=by
 intro pins s σ H Q I h;refine BoolOp_and (hX (ha pins s σ H _ I h) λv s1 ⟨x,H1,I1,r1,q1⟩=>?_);obtain⟨c,rfl,q1⟩:=q1;cases r1;refine wpAny_truthy_bool ?_;cases c with
 | true=>exact hb pins s1 σ H1 Q I1 q1
 | false=>exact ⟨.bl false,H1,I1,rfl,q1⟩
theorem iC(ha:PE X a ta):PE X (.UnaryOp .Not a pos) (dz ta):=by intro pins s σ H Q I h;refine UnaryOp_ (hX (ha pins s σ H _ I h) λv s1 ⟨x,H1,I1,r1,q1⟩=>?_);obtain⟨c,rfl,q1⟩:=q1;cases r1;exact not_of (wpAny_truthy_bool ⟨.bl (!c),H1,I1,rfl,q1⟩)
end
def SqL(K:n0)(H:Hp)(a:Addr)(xs:List V):Prop :=
 Rd H a (.lst xs) \/
  ∃(o:Obj) (its:Array Value) (n:Nat),K.lookup a=some o/\o.cls=.type "list"/\o.dict=none/\o.data=.seq its n/\its.size<=sizeLine/\Vals xs its.toList
def SqT(K:n0)(H:Hp)(a:Addr)(xs:List V):Prop :=
 Rd H a (.tup xs) \/
  ∃(o:Obj) (its:Array Value) (n:Nat),K.lookup a=some o/\o.cls=.type "tuple"/\o.data=.seq its n/\its.size<=sizeLine/\Vals xs its.toList
noncomputable def EO:Value->Option V
 | .none=>some .non
 | .bool b=>some (.bl b)
 | .int i _=>some (.int i)
 | .str x _=>some (.str x)
 | .bytes b _=>some (.byt b)
 | .float b _=>some (.flt b)
 | .ref a=>some (.ref a)
 | .type n=>some (.ty n)
 | _=>none
theorem RelV.abs{x:V}(r:RelV x u):EO u=some x:=by
 cases x with
 | non=>cases r;rfl
 | bl _=>cases r;rfl
 | int _=>obtain⟨t,rfl⟩:=r;rfl
 | str _=>obtain⟨t,rfl⟩:=r;rfl
 | byt _=>obtain⟨t,rfl⟩:=r;rfl
 | flt _=>obtain⟨t,rfl⟩:=r;rfl
 | ref _=>cases r;rfl
 | ty _=>cases r;rfl
theorem RelV.inj{x y:V}(r:RelV x u)(q:RelV y u):x=y:=X1 (r.abs.symm.trans q.abs)
theorem Vals.inj:∀{xs ys:List V}{us:List Value},Vals xs us->Vals ys us->xs=ys
 | _,_,_,.nil,.nil=>rfl
 | _,_,_,.cons r t,.cons r' t'=>by rw[r.inj r',Vals.inj t t']
section
variable {X:Cx}{σ:St}{H:Hp}{a:Addr}{xs ys:List V}
theorem SqL.of{K:n0}(h:H a=some (.lst xs)):SqL K H a xs:=.inl (.inl h)
theorem SqT.of{K:n0}(h:H a=some (.tup xs)):SqT K H a xs:=.inl (.inl h)
theorem Inv.list(I:Inv X pins σ H s)(h:SqL X.K H a xs):∃its:List Value,Vals xs its/\PlainL s.heap a its.toArray/\xs.length<=sizeLine:=by
 rcases h with h|⟨o,its,n,hk,hc,hd,hs,hz,r⟩
 ·obtain⟨z,its,n,r,e⟩:=h.ok I.hok;exact ⟨its,r,⟨_,n,e,rfl,rfl,rfl⟩,z⟩
 ·refine ⟨its.toList,r,⟨o,n,I.kIn a o hk,hc,hd,by simpa using hs⟩,?_⟩;have e:=r.length;simp only[S0]at e;omega
theorem Inv.tuple(I:Inv X pins σ H s)(h:SqT X.K H a xs):∃its:List Value,Vals xs its/\IsTup s.heap a its.toArray/\xs.length<=sizeLine:=by
 rcases h with h|⟨o,its,n,hk,hc,hs,hz,r⟩
 ·obtain⟨z,its,r,p⟩:=h.ok I.hok;exact ⟨its,r,p.t,z⟩
 ·refine ⟨its.toList,r,⟨o,I.kIn a o hk,hc,n,by simpa using hs⟩,?_⟩;have e:=r.length;simp only[S0]at e;omega
theorem Inv.list_inj(I:Inv X pins σ H s)(h:SqL X.K H a xs)(h':SqL X.K H a ys):xs=ys:=by
 obtain⟨its,r,⟨o,n,e,_,_,d⟩,_⟩:=I.list h;obtain⟨its',r',⟨o',n',e',_,_,d'⟩,_⟩:=I.list h';rw[e]at e';cases e';rw[d]at d';injection d' with d1 _;have:its=its':=by simpa using congrArg R9 d1
 subst this;exact r.inj r'
theorem Inv.tuple_inj(I:Inv X pins σ H s)(h:SqT X.K H a xs)(h':SqT X.K H a ys):xs=ys:=by
 obtain⟨its,r,⟨o,e,_,n,d⟩,_⟩:=I.tuple h;obtain⟨its',r',⟨o',e',_,n',d'⟩,_⟩:=I.tuple h';rw[e]at e';cases e';rw[d]at d';injection d' with d1 _;have:its=its':=by simpa using congrArg R9 d1
 subst this;exact r.inj r'
end
noncomputable abbrev Cx.wish(X:Cx)(E:Value->Shared->Prop):Cx:={ X with xe:=E }
noncomputable abbrev Cx.nox(X:Cx):Cx:=X.wish λ_ _=>False
theorem Cx.Ok.wish{X:Cx}(ok:X.Ok)(E:Value->Shared->Prop):(X.wish E).Ok:=⟨ok.mod,ok.kind,ok.glob,ok.blt,ok.above,ok.inj,ok.has,ok.cab,ok.hd,ok.frames,ok.stk,ok.exf,ok.bs,ok.bsz,ok.noex,ok.exfs,ok.funs,ok.frf⟩
theorem Cx.Ok.unwish{X:Cx}(ok:(X.wish E).Ok):X.Ok:=⟨ok.mod,ok.kind,ok.glob,ok.blt,ok.above,ok.inj,ok.has,ok.cab,ok.hd,ok.frames,ok.stk,ok.exf,ok.bs,ok.bsz,ok.noex,ok.exfs,ok.funs,ok.frf⟩
section
variable {X:Cx}{σ:St}{H:Hp}
theorem Inv.wish(I:Inv X pins σ H s)(E:Value->Shared->Prop):Inv (X.wish E) pins σ H s:=⟨I.ok.wish E,I.os,I.bare,I.base,I.loc,I.cell,I.free,I.freeC,I.pin,I.hok,I.len⟩
theorem Inv.unwish(I:Inv (X.wish E) pins σ H s):Inv X pins σ H s:=⟨I.ok.unwish,I.os,I.bare,I.base,I.loc,I.cell,I.free,I.freeC,I.pin,I.hok,I.len⟩
theorem SP.unwish{D:Ends}{f:Flow}(h:SP (X.wish E) pins D f s'):SP X pins D f s':=by
 cases f with
 | next=>obtain⟨σ',H',I,q⟩:=h;exact ⟨σ',H',I.unwish,q⟩
 | brk=>obtain⟨σ',H',I,q⟩:=h;exact ⟨σ',H',I.unwish,q⟩
 | cont=>obtain⟨σ',H',I,q⟩:=h;exact ⟨σ',H',I.unwish,q⟩
 | ret u=>obtain⟨v,σ',H',I,r,q⟩:=h;exact ⟨v,σ',H',I.unwish,r,q⟩
theorem PE.nox{e:Expr}{t:TE}(h:PE X.nox e t):PE X e t:=λpins s σ H Q I hw=>wpAny_mono (h pins s σ H Q (I.wish _) hw) (λ_ _ ⟨v,H',I',r,q⟩=>⟨v,H',I'.unwish,r,q⟩) λ_ _ z=>False.elim z
theorem PSs.nox{st:List Stmt}{t:TS}(h:PSs X.nox st t):PSs X st t:=λpins s σ H D I hw=>wpAny_mono (h pins s σ H D (I.wish _) hw) (λ_ _ q=>q.unwish) λ_ _ z=>False.elim z
end
section
variable {X:Cx}{st:Stmt}{rest:List Stmt}{t u:TS}{e:Expr}{te:TE}{pos:Pos}
def iz:TS:=λD σ H=>D.nx σ H
def jC(t u:TS):TS:=λD σ H=>t { D with nx:=u D } σ H
theorem Aw:PSs X [] iz:=λ_ _ σ H _ I h=>wpAny_execs_nil ⟨σ,H,I,h⟩
theorem jz(h1:PS X st t)(h2:PSs X rest u):PSs X (st :: rest) (jC t u):=by
 intro pins s σ H D I h;refine wpAny_execs_cons (hX (h1 pins s σ H { D with nx:=u D } I h) λf s1 q=>?_);cases f with
 | next=>obtain⟨σ',H',I',q⟩:=q;exact h2 pins s1 σ' H' D I' q
 | ret v=>exact q
 | brk=>exact q
 | cont=>exact q
theorem Bw(h1:PS X st t):PSs X [st] t:=by
 intro pins s σ H D I h;refine wpAny_execs_cons (hX (h1 pins s σ H D I h) λf s1 q=>?_);cases f with
 | next=>exact wpAny_execs_nil q
 | ret v=>exact q
 | brk=>exact q
 | cont=>exact q
theorem Inv.quiet{σ:St}{H:Hp}(I:Inv X pins σ H s):interactive X.env=false:=by simp[interactive,I.ok.kind]
def mz(te:TE):TS:=λD σ H=>te σ H λ_ H1=>D.nx σ H1
theorem Cw(he:PE X e te)(hs:swapsWith e none pos.line X.env=pure false:=by rfl):PS X (.Expr e pos) (mz te):=by intro pins s σ H D I h;exact wpAny_Expr_any (hX (he pins s σ H _ I h) λv s1 ⟨x,H1,I1,r1,q1⟩=>⟨σ,H1,I1,q1⟩) I.quiet hs
def nz(te:TE):TS:=λD σ H=>te σ H D.rt
theorem oz(he:PE X e te):PS X (.Return (some e) pos) (nz te):=by intro pins s σ H D I h;exact wpAny_Return_some (hX (he pins s σ H _ I h) λv s1 ⟨x,H1,I1,r1,q1⟩=>⟨x,σ,H1,I1,r1,q1⟩)
def kC(c:TT)(t u:TS):TS:=λD σ H=>c σ H λb H1=>if b=true then t D σ H1 else u D σ H1
theorem HL{c:Expr}{a b:List Stmt}{tc:TT}(hc:PT X c tc)(ha:PSs X a t)(hb:PSs X b u):PS X (.If c a b pos) (kC tc t u):=by
 intro pins s σ H D I h;refine wpAny_If (hX (hc pins s σ H _ I h) λd s1 ⟨H1,I1,q1⟩=>?_);cases d with
 | true=>exact ha pins s1 σ H1 D I1 q1
 | false=>exact hb pins s1 σ H1 D I1 q1
end
noncomputable abbrev TG:=V->St->Hp->(St->Hp->Prop)->Prop
noncomputable abbrev lw:=List V->St->Hp->(St->Hp->Prop)->Prop
def PG(X:Cx)(target:Expr)(t:TG):Prop :=
 ∀(pins:List (Addr×Obj)) (s:Shared) (σ:St) (H:Hp) (v:V) (u:Value) (Q:St->Hp->Prop),Inv X pins σ H s->RelV v u->t v σ H Q ->
  wpAny (model X.prog X.w) X.A (assign target X.env u) (λ_ s'=>∃σ' H',Inv X pins σ' H' s'/\Q σ' H') X.xe s
def zu(X:Cx)(ts:List Expr)(t:lw):Prop :=
 ∀(pins:List (Addr×Obj)) (s:Shared) (σ:St) (H:Hp) (vs:List V) (us:List Value) (Q:St->Hp->Prop),Inv X pins σ H s->Vals vs us->t vs σ H Q ->
  wpAny (model X.prog X.w) X.A (assignInOrder ((assignEach ts X.env).map (·.2)) us) (λ_ s'=>∃σ' H',Inv X pins σ' H' s'/\Q σ' H') X.xe s
noncomputable abbrev pz:=V->V->V->Hp->(Hp->Prop)->Prop
def lC(X:Cx)(t:pz):Prop :=
 ∀(pins:List (Addr×Obj)) (s:Shared) (σ:St) (H:Hp) (o i v:V) (ov iv u:Value) (Q:Hp->Prop),Inv X pins σ H s->RelV o ov->RelV i iv->RelV v u->t o i v H Q ->
  wpAny (model X.prog X.w) X.A (setItem ov iv u) (λ_ s'=>∃H',Inv X pins σ H' s'/\Q H') X.xe s
noncomputable abbrev YN:=V->V->Hp->VK->Prop
def cR(X:Cx)(op:Operator)(t:YN):Prop :=
 ∀(pins:List (Addr×Obj)) (s:Shared) (σ:St) (H:Hp) (x y:V) (v u:Value) (Q:VK),Inv X pins σ H s->RelV x v->RelV y u->t x y H Q ->
  wpAny (model X.prog X.w) X.A (inplaceOp op v u) (EP X pins σ Q) X.xe s
section
variable {X:Cx}{pos:Pos}
def sJ(i:Nat):TG:=λv σ H Q=>Q (σ.set i (some v)) H
theorem Dw{i:Nat}{x:Str}(hN:X.N.Nodup)(hi:X.N[i]?=some x)(hx:UB X.env.scope x)(hf:X.fn x=true\/X.env.scope.names.lookup x=some .local:=by first|exact .inl rfl|exact .inr rfl|assumption):PG X (.Name x pos) (sJ i):=by intro pins s σ H v u Q I r h;exact wpAny_assign_Name (aH I hN hi hx r (λs' I'=>⟨_,H,I',h⟩) hf)
noncomputable def IL:lw:=λvs σ H Q=>vs=[]/\Q σ H
noncomputable def Au(t:TG)(u:lw):lw:=λvs σ H Q=>∃v r,vs=v :: r/\t v σ H λσ' H'=>u r σ' H' Q
theorem Ew:zu X [] IL:=by intro pins s σ H vs us Q I r h;obtain⟨e,h⟩:=h;subst e;cases r;exact assignInOrder_nil ⟨σ,H,I,h⟩
theorem qz{e:Expr}{es:List Expr}{t:TG}{u:lw}(h1:PG X e t)(h2:zu X es u)
  (hs:(assignEach (e :: es) X.env).map (·.2)=assign e X.env :: (assignEach es X.env).map (·.2):=by rfl):zu X (e :: es) (Au t u):=by
 intro pins s σ H vs us Q I r h;obtain⟨v,vr,e1,h⟩:=h;subst e1;cases r with
 | cons r rr=>rw[hs];refine assignInOrder_cons (hX (h1 pins s σ H _ _ _ I r h) λ_ s1 ⟨σ1,H1,I1,q1⟩=>?_);exact h2 pins s1 σ1 H1 _ _ Q I1 rr q1
def Fw(K:n0)(n:Nat)(t:lw):TG:=λv σ H Q=>∃a xs,v=.ref a/\SqT K H a xs/\xs.length=n/\t xs σ H Q
theorem mC{es:List Expr}{k:Nat}{t:lw}(hc:X.calm=true)(h:zu X es t)
  (hn:(assignEach es X.env).length=n:=by rfl) (hst:(assignEach es X.env).findIdx? (·.1)=none:=by rfl):PG X (.Tuple es k pos) (Fw X.K n t):=by
 intro pins s σ H v u Q I r hw;obtain⟨a,xs,e1,hq,hl,hw⟩:=hw;subst e1;cases r;obtain⟨its,rv,ht,hz⟩:=I.tuple hq;refine assign_Tuple_tuple (I.ok.hd hc) ht (by simp[hn,<- hl,rv.length]) hst λh' hx=>?_;have I1:Inv X pins σ H { s with heap:=h' }:=I.kept (t':=s.toks) λb o e=>hx b o (U0 (G0 e)) e;exact h pins _ σ H xs _ Q I1 (by simpa using rv) hw
def oC(to ti:TE)(t:pz):TG:=λv σ H Q=>to σ H λo H1=>ti σ H1 λi H2=>t o i v H2 λH3=>Q σ H3
theorem pC{o i:Expr}{to ti:TE}{t:pz}(ho:PE X o to)(hi:PE X i ti)(hs:lC X t)
  (ha:∀v,assign (.Subscript o i pos) X.env v=(do
    let ov<-holding [v] (eval o X.env)
    let iv<-holding [v,ov] (eval i X.env)
    standAt pos
    holding [v,ov,iv] (setItem ov iv v)
    release [v,ov,iv] []):=by intro _;rfl):PG X (.Subscript o i pos) (oC to ti t):=by
 intro pins s σ H v u Q I r h;rw[ha];refine wpAny_bind (wpAny_holding (hX (ho pins s σ H _ I h) λov s1 ⟨x,H1,I1,r1,q1⟩=>?_));refine wpAny_bind (wpAny_holding (hX (hi pins s1 σ H1 _ I1 q1) λiv s2 ⟨y,H2,I2,r2,q2⟩=>?_));refine wpAny_bind (wpAny_standAt (wpAny_bind (wpAny_holding (hX (hs pins s2 σ H2 x y v ov iv u _ I2 r1 r2 r q2) λ_ s3 ⟨H3,I3,q3⟩=>?_))));exact wpAny_release ⟨σ,H3,I3,q3⟩
def fY(te:TE)(g:TG):TS:=λD σ H=>te σ H λx H1=>g x σ H1 D.nx
theorem rz{e:Expr}{te:TE}{g:TG}(he:PE X e te)(hg:PG X tg g)(hs:swapsWithSole [tg] e pos.line X.env=pure false:=by rfl)(hw:swappedStores [tg] e X.env=pure none:=by rfl)
  (h1:(assignEach [tg] X.env).map (·.2)=[assign tg X.env]:=by rfl):PS X (.Assign [tg] e pos) (fY te g):=by
 intro pins s σ H D I h;refine wpAny_Assign_stores (hX (he pins s σ H _ I h) λv s1 ⟨x,H1,I1,r1,q1⟩=>?_) hs hw;rw[h1];exact hX (hg pins s1 σ H1 x v _ I1 r1 q1) λ_ s2 q=>q
theorem tz{i:Nat}{x:Str}{e:Expr}{te:TE}(hN:X.N.Nodup)(hi:X.N[i]?=some x)(hx:UB X.env.scope x)(he:PE X e te)(hs:swapsWith e (some (.Name x pos')) pos.line X.env=pure false:=by rfl)(hf:X.fn x=true\/X.env.scope.names.lookup x=some .local:=by first|exact .inl rfl|exact .inr rfl|assumption) :
  PS X (.Assign [.Name x pos'] e pos) (fY te (sJ i)):=by
 intro pins s σ H D I h;refine wpAny_Assign_Name (hX (he pins s σ H _ I h) λv s1 ⟨y,H1,I1,r1,q1⟩=>?_) hs;exact aH I1 hN hi hx r1 (λs2 I2=>⟨_,H1,I2,q1⟩) hf
def Bu(to ti te:TE)(tget:V->V->Hp->VK->Prop)(tip:YN)(tset:pz):TS:=λD σ H=>to σ H λo H1=>ti σ H1 λi H2=>tget o i H2 λx H3=>te σ H3 λy H4=>tip x y H4 λz H5=>tset o i z H5 λH6=>D.nx σ H6
def JL(X:Cx)(t:V->V->Hp->VK->Prop):Prop :=
 ∀(pins:List (Addr×Obj)) (s:Shared) (σ:St) (H:Hp) (o i:V) (ov iv:Value) (Q:VK),Inv X pins σ H s->RelV o ov->RelV i iv->t o i H Q ->
  wpAny (model X.prog X.w) X.A (getItem ov iv) (EP X pins σ Q) X.xe s
theorem Gw{o i e:Expr}{to ti te:TE}{tget:V->V->Hp->VK->Prop}{tip:YN}{tset:pz}{op:Operator}{tpos:Pos}(ho:PE X o to)(hi:PE X i ti)(hg:JL X tget)(he:PE X e te)(hp:cR X op tip)(hs:lC X tset)
  (ha:∀ov iv new,augStore i ov iv new=(do holding [new,ov,iv] (setItem ov iv new);release [new,ov,iv] [];pure .next):=by intros;rfl):PS X (.AugAssign (.Subscript o i tpos) op e pos) (Bu to ti te tget tip tset):=by
 intro pins s σ H D I h;refine wpAny_AugAssign_SubscriptAny (hX (ho pins s σ H _ I h) λov s1 ⟨x1,H1,I1,r1,q1⟩=>?_) ha;refine hX (hi pins s1 σ H1 _ I1 q1) λiv s2 ⟨x2,H2,I2,r2,q2⟩=>?_;refine hX (hg pins s2 σ H2 x1 x2 ov iv _ I2 r1 r2 q2) λold s3 ⟨x3,H3,I3,r3,q3⟩=>?_;refine hX (he pins s3 σ H3 _ I3 q3) λv s4 ⟨x4,H4,I4,r4,q4⟩=>?_;refine hX (hp pins s4 σ H4 x3 x4 old v _ I4 r3 r4 q4) λnew s5 ⟨x5,H5,I5,r5,q5⟩=>?_;exact hX (hs pins s5 σ H5 x1 x2 x5 ov iv new _ I5 r1 r2 r5 q5) λ_ s6 ⟨H6,I6,q6⟩=>⟨σ,H6,I6,q6⟩
noncomputable def FO(f:Int->Int->Int):YN:=λx y H Q=>∃i j,x=.int i/\y=.int j/\Q (.int (f i j)) H
theorem qC:cR X .Add (FO λi j=>i+j):=by intro pins s σ H x y v u Q I r1 r2 h;obtain⟨i,j,e1,e2,q⟩:=h;subst e1;subst e2;obtain⟨t,rfl⟩:=r1;obtain⟨t',rfl⟩:=r2;exact iadd_int ⟨.int _,H,I.tok _,⟨_,rfl⟩,q⟩
end
section
variable {X:Cx}{pos:Pos}
def eG(c:TT)(tb:TS):TS:=λD σ H=>∃W:Nat->St->Hp->Prop,(∃m,W m σ H)/\∀m σ H,W m σ H ->
 c σ H λb H1=>if b=true then ∃N:St->Hp->Prop,(∀σ' H',N σ' H'->∃m',m' < m/\W m' σ' H')/\tb { D with nx:=N,ct:=N,bk:=D.nx } σ H1 else D.nx σ H1
theorem uz{c:Expr}{body:List Stmt}{tc:TT}{tb:TS}(hp:PassesOwn (model X.prog X.w) X.A X.env X.xe)(hc:PT X c tc)(hb:PSs X body tb):PS X (.While c body [] pos) (eG tc tb):=by
 intro pins s σ H D I h;obtain⟨W,⟨m0,w0⟩,turn⟩:=h;refine wpAny_While (codeAny_whileLoop (λn s'=>∃σ' H',Inv X pins σ' H' s'/\W n σ' H') ?_ m0 ⟨σ,H,I,w0⟩);rintro n s1 ⟨σ1,H1,I1,w1⟩;refine wpAny_passesOwn hp (hX (hc pins s1 σ1 H1 _ I1 (turn n σ1 H1 w1)) λb s2 ⟨H2,I2,q2⟩=>?_);cases b with
 | true =>
  obtain⟨N,hN,q2⟩:=q2;rw[if_pos rfl];refine wpAny_passesOwn hp (hX (hb pins s2 σ1 H2 _ I2 q2) λf s3 q3=>?_);cases f with
  | next=>obtain⟨σ3,H3,I3,n3⟩:=q3;obtain⟨m',hm,w3⟩:=hN σ3 H3 n3;exact ⟨m',hm,σ3,H3,I3,w3⟩
  | cont=>obtain⟨σ3,H3,I3,n3⟩:=q3;obtain⟨m',hm,w3⟩:=hN σ3 H3 n3;exact ⟨m',hm,σ3,H3,I3,w3⟩
  | brk=>exact q3
  | ret v=>exact q3
 | false=>rw[if_neg T0];exact wpAny_execs_nil ⟨σ1,H2,I2,q2⟩
end
structure It where
 go:Nat->Hp->Prop
 yld:Nat->Hp->V->Hp->Prop
 stop:Nat->Hp->Prop
def GY(X:Cx)(pins:List (Addr×Obj))(H:Hp)(b:Addr):Prop:=H b=none/\b≠X.env.locals/\b∉X.fs/\(b∈X.ex\/X.s₀.heap.objs.size<=b)/\(∀x c,X.env.cells.lookup x=some c->c≠b)/\∀p∈X.pn++pins,p.1≠b
theorem Inv.fpOk{X:Cx}{σ:St}{H H':Hp}{b:Addr}(I:Inv X pins σ H s)(hb:s.heap.objs.size<=b)(hn:H' b=none):GY X pins H' b:=by
 refine ⟨hn,V2 (O0 I.lt hb),I.nofs hb,.inr (Q0 I.sz hb),λx c e z=>?_,λp hp z=>?_⟩
 ·obtain⟨v,q⟩:=I.cell x c e;exact absurd (O0 q.lt (by rw[z];exact hb)) (K3 _)
 ·exact absurd (O0 (G0 (I.pin p hp).1) (by rw[z];exact hb)) (K3 _)
structure Turn(P:Program)(w:World)(K:n0)(tg:Expr)(J:It)(fp:List Addr)(it:Addr)(tn:Nat->Heap->Prop):Prop where
 mem:it∈fp
 obj:∀i h,tn i h->∀b∈fp,∃o,h.get? b=some o/\∀v,o.data≠.cell v
 keep:∀i h h',tn i h->(∀b∈fp,∀o,h.get? b=some o->h'.get? b=some o)->tn i h'
 item:∀(X:Cx),X.prog=P->X.w=w->X.K=K->X.calm=true->∀(i:Nat) (pins:List (Addr×Obj)) (s:Shared) (σ:St) (H:Hp) (E:Value->Shared->Prop),Inv X pins σ H s->(∀b∈fp,GY X pins H b)->tn i s.heap->J.go i H ->
  wpAny (model P w) X.A (pyNext (.ref it)) (λr s1=>∃u,r=some u /\
    wpAny (model P w) X.A (letOwnedTupleGo tg (.ref it) u) (λ_ s2=>∃x H',Inv X pins σ H' s2/\RelV x u/\J.yld i H x H'/\tn (i+1) s2.heap/\∀b∈fp,H' b=none) E s1) E s
 done:∀(X:Cx),X.prog=P->X.w=w->X.K=K->X.calm=true->∀(i:Nat) (pins:List (Addr×Obj)) (s:Shared) (σ:St) (H:Hp) (E:Value->Shared->Prop),Inv X pins σ H s->(∀b∈fp,GY X pins H b)->tn i s.heap->J.stop i H ->
  wpAny (model P w) X.A (pyNext (.ref it)) (λr s1=>r=none/\Inv X pins σ H s1) E s
 self:∀(A:Around) (i:Nat) (s:Shared) (Q:Value->Shared->Prop) (E:Value->Shared->Prop),tn i s.heap->Q (.ref it) s->wpAny (model P w) A (pyIter (.ref it)) Q E s
noncomputable abbrev TI:=St->Hp->(It->Hp->Prop)->Prop
def dR(X:Cx)(pins:List (Addr×Obj))(σ:St)(tg:Expr)(R:It->Hp->Prop)(itv:Value)(s2:Shared):Prop:=∃(it:Addr) (fp:List Addr) (tn:Nat->Heap->Prop) (J:It) (H':Hp),itv=.ref it/\Inv X pins σ H' s2/\Turn X.prog X.w X.K tg J fp it tn/\tn 0 s2.heap/\(∀b∈fp,GY X pins H' b)/\R J H'
def PI(X:Cx)(tg iter:Expr)(wi:TI):Prop :=
 ∀(pins:List (Addr×Obj)) (s:Shared) (σ:St) (H:Hp) (R:It->Hp->Prop),Inv X pins σ H s->wi σ H R ->
  wpAny (model X.prog X.w) X.A (eval iter X.env) (λv s1=>wpAny (model X.prog X.w) X.A (pyIter v) (dR X pins σ tg R) X.xe s1) X.xe s
theorem vz{M:Model}{n:String}{vs:Array Value}{Q:Unit->Shared->Prop}(ho:s.heap.get? it=some o)(hc:o.cls=.type n)(hd:o.data=.fields vs)(hn:["enumerate","zip","dict_itemiterator","dict_reverseitemiterator","odict_iterator","itertools.zip_longest","itertools.pairwise"].contains n=false) (hQ:Q () s):wpAny M A (letOwnedTupleGo tg (.ref it) u) Q E s:=by
 unfold letOwnedTupleGo;cases tg<;>first
  | exact wpAny_pure hQ
  | (cases u<;>first
      | exact wpAny_pure hQ
      | (refine wpAny_bind (wpAny_load ho ?_)
         rw[hc,hd];show wpAny M A (if (["enumerate","zip","dict_itemiterator","dict_reverseitemiterator","odict_iterator","itertools.zip_longest","itertools.pairwise"].contains n&&vs[0]?==some (rawInt _))=true then _ else _) Q E s;rw[if_neg (by intro h;rw[hn,i9]at h;cases h)];exact wpAny_pure hQ))
noncomputable def GO(K:n0)(a:Addr):It:=⟨λi H=>∃xs x,SqL K H a xs/\xs[i]?=some x,λi H x H'=>H'=H/\∀xs,SqL K H a xs->xs[i]?=some x,λi H=>∃xs,SqL K H a xs/\xs.length<=i⟩
noncomputable def JO(K:n0)(a:Addr):It:=⟨λi H=>∃xs x,SqT K H a xs/\xs[i]?=some x,λi H x H'=>H'=H/\∀xs,SqT K H a xs->xs[i]?=some x,λi H=>∃xs,SqT K H a xs/\xs.length<=i⟩
noncomputable def ZN(lo:Int)(n:Nat):It:=⟨λi _=>i < n,λi H x H'=>H'=H/\x=.int (lo+i),λi _=>n<=i⟩
theorem XD{K:n0}(a it:Addr):Turn P w K tg (GO K a) [it] it (λi h=>h.IsListIter it a i) where
 mem:=by simp
 obj:=λi h st b hb=>by
  have e:b=it:=by simpa using hb
  subst e;obtain⟨o,e,c,d⟩:=st;exact ⟨o,e,λv z=>by rw[d]at z;cases z⟩
 keep:=λi h h' st k=>st.at λo e=>k it (by simp) o e
 item:=by intro X hP hw hK hc i pins s σ H E I hf st hg;subst hP hw hK;obtain⟨xs,x,hq,hx⟩:=hg;obtain⟨its,rv,p,hz⟩:=I.list hq;obtain⟨u,hu,ru⟩:=rv.get hx;obtain⟨f0,f1,f2,f3,f4,f5⟩:=hf it (by simp);refine wpAny_pyNext_list_item st p.isList (x:=u) (by simpa using hu) λh' st' sb=>?_;have I1:Inv X pins σ H { s with heap:=h' }:=I.turned (t':=s.toks) (λb o hb e=>(sb.2 b hb).trans e) f0 f1 f3 f4 f5;obtain⟨o,e,c,d⟩:=id st';exact ⟨u,rfl,vz (s:={ s with heap:=h' }) e c d (by decide) ⟨x,H,I1,ru,⟨rfl,λys hy=>by rw[I.list_inj hy hq];exact hx⟩,st',λb hb=>(hf b hb).1⟩⟩
 done:=by intro X hP hw hK hc i pins s σ H E I hf st hg;subst hP hw hK;obtain⟨xs,hq,hx⟩:=hg;obtain⟨its,rv,p,hz⟩:=I.list hq;obtain⟨f0,f1,f2,f3,f4,f5⟩:=hf it (by simp);have hl:=rv.length;exact wpAny_pyNext_list_end (I.ok.hd hc) st p.isList (by simp;omega) λh' eb=>⟨rfl,I.turned (t':=s.toks) (λb o hb e=>eb b o hb e) f0 f1 f3 f4 f5⟩
 self:=λ_ _ _ _ _ st h=>wpAny_pyIter_listiter st h
theorem fG{K:n0}(a it:Addr):Turn P w K tg (JO K a) [it] it (λi h=>h.IsTupleIter it a i) where
 mem:=by simp
 obj:=λi h st b hb=>by
  have e:b=it:=by simpa using hb
  subst e;obtain⟨o,e,c,d⟩:=st;exact ⟨o,e,λv z=>by rw[d]at z;cases z⟩
 keep:=λi h h' st k=>st.at λo e=>k it (by simp) o e
 item:=by intro X hP hw hK hc i pins s σ H E I hf st hg;subst hP hw hK;obtain⟨xs,x,hq,hx⟩:=hg;obtain⟨its,rv,p,hz⟩:=I.tuple hq;obtain⟨u,hu,ru⟩:=rv.get hx;obtain⟨f0,f1,f2,f3,f4,f5⟩:=hf it (by simp);refine wpAny_pyNext_tuple_item st (show s.heap.IsTuple a its.toArray from p) (x:=u) (by simpa using hu) λh' st' sb=>?_;have I1:Inv X pins σ H { s with heap:=h' }:=I.turned (t':=s.toks) (λb o hb e=>(sb.2 b hb).trans e) f0 f1 f3 f4 f5;obtain⟨o,e,c,d⟩:=id st';exact ⟨u,rfl,vz (s:={ s with heap:=h' }) e c d (by decide) ⟨x,H,I1,ru,⟨rfl,λys hy=>by rw[I.tuple_inj hy hq];exact hx⟩,st',λb hb=>(hf b hb).1⟩⟩
 done:=by intro X hP hw hK hc i pins s σ H E I hf st hg;subst hP hw hK;obtain⟨xs,hq,hx⟩:=hg;obtain⟨its,rv,p,hz⟩:=I.tuple hq;obtain⟨f0,f1,f2,f3,f4,f5⟩:=hf it (by simp);have hl:=rv.length;exact wpAny_pyNext_tuple_end (I.ok.hd hc) st (show s.heap.IsTuple a its.toArray from p) (by simp;omega) λh' eb=>⟨rfl,I.turned (t':=s.toks) (λb o hb e=>eb b o hb e) f0 f1 f3 f4 f5⟩
 self:=λ_ _ _ _ _ st h=>wpAny_pyIter_tupleiter st h
theorem gG{K:n0}(it:Addr)(lo:Int)(n:Nat):Turn P w K tg (ZN lo n) [it] it (λi h=>IsRangeIter h it (lo+(i:Nat) * 1) ((n:Int) - (i:Nat)) 1) where
 mem:=by simp
 obj:=λi h st b hb=>by
  have e:b=it:=by simpa using hb
  subst e;exact ⟨_,st,λv z=>by have z':Data.fields _=Data.cell v:=z;cases z'⟩
 keep:=λi h h' st k=>k it (by simp) _ st
 item:=by intro X hP hw hK hc i pins s σ H E I hf st hg;subst hP hw hK;obtain⟨f0,f1,f2,f3,f4,f5⟩:=hf it (by simp);have W:=Walks.range (prog:=X.prog) (w:=X.w) (I.ok.hd hc) it lo 1 n;refine W.item i s _ _ hg st λv h' tk hv st' kk=>?_;obtain⟨t,rfl⟩:=hv;have I1:Inv X pins σ H { s with heap:=h',toks:=tk }:=I.turned (λb o hb e=>kk b o (by simpa using hb) e) f0 f1 f3 f4 f5;refine ⟨_,rfl,vz (s:={ s with heap:=h',toks:=tk }) (n:="range_iterator") st' rfl rfl (by decide) ⟨.int (lo+i),H,I1,⟨t,?_⟩,⟨rfl,rfl⟩,st',λb hb=>(hf b hb).1⟩⟩;rw[Int.mul_one]
 done:=by intro X hP hw hK hc i pins s σ H E I hf st hg;subst hP hw hK;obtain⟨f0,f1,f2,f3,f4,f5⟩:=hf it (by simp);exact wpAny_pyNext_range_end (I.ok.hd hc) st (by have:n<=i:=hg;omega) λh' eb=>⟨rfl,I.turned (t':=s.toks) (λb o hb e=>eb b o hb e) f0 f1 f3 f4 f5⟩
 self:=λ_ _ _ _ _ st h=>wpAny_pyIter_rangeiter st h
section
variable {X:Cx}
theorem wz{σ:St}{H:Hp}{R:It->Hp->Prop}{lo hi:Int}{t u v:Tok}{tk:Nat}(I:Inv X pins σ H s)(h1:-(2 ^ 62)<=lo)(h2:lo < 2 ^ 62)(h3:-(2 ^ 62)<=hi)(h4:hi < 2 ^ 62)(q:R (ZN lo (hi - lo).toNat) H):wpAny (model X.prog X.w) X.A (pyIter (.ref s.heap.objs.size)) (dR X pins σ tg R) E { s with heap:=s.heap.push { cls:=.type "range",data:=.fields #[.int lo t,.int hi u,.int 1 v] },toks:=tk }:=by
 refine wpAny_pyIter_range (IsRange.new ..) (small_one h1 h2 h3 h4) ?_;have I1:Inv X pins σ H { s with heap:=s.heap.push { cls:=.type "range",data:=.fields #[.int lo t,.int hi u,.int 1 v] },toks:=tk }:=I.kept λb o e=>g0 _ e;refine ⟨(s.heap.push { cls:=.type "range",data:=.fields #[.int lo t,.int hi u,.int 1 v] }).objs.size,[(s.heap.push { cls:=.type "range",data:=.fields #[.int lo t,.int hi u,.int 1 v] }).objs.size],_,_,H,rfl,
   I1.kept (t':=tk) λb o e=>g0 _ e,gG _ lo (hi - lo).toNat,?_,λb hb=>?_,q⟩
 ·have e1:lo+((0:Nat):Int) * 1=lo:=by simp
  have e2:(((hi - lo).toNat:Nat):Int) - ((0:Nat):Int)=N8 lo hi 1:=by rw[rangeSize_one];split<;>omega
  show IsRangeIter _ _ (lo+((0:Nat):Int) * 1) ((((hi - lo).toNat:Nat):Int) - ((0:Nat):Int)) 1;rw[e1,e2];exact L0 _ rfl
 ·have e:b=(s.heap.push { cls:=.type "range",data:=.fields #[.int lo t,.int hi u,.int 1 v] }).objs.size:=by simpa using hb
  subst e;exact I1.fpOk (u0 _) (I1.hok.fresh (u0 _))
def xz(ta:TA):TI:=λσ H R=>ta σ H λvs H1=>∃j:Int,vs=[.int j]/\-(2 ^ 62)<=j/\j < 2 ^ 62/\R (ZN 0 j.toNat) H1
theorem YD{a:Expr}{ta:TA}{p pos:Pos}(hg:Gl X "range")(hm:X.mg "range"=none)(ha:PA X [a] ta)(hs:starEach [a] X.env=[(false,eval a X.env)]:=by rfl):PI X tg (.Call (.Name "range" p) [a] [] pos) (xz ta):=by
 intro pins s σ H R I h;refine Call_ (WZ I hg hm boot_range (Y3 (hX (ha pos pins s σ H _ I h) λus s1 ⟨vs,H1,I1,r1,q1⟩=>?_) hs rfl));obtain⟨j,e,q1,q2,q⟩:=q1;subst e;cases r1 with
 | cons r rr=>cases rr;obtain⟨t,rfl⟩:=r;exact call_range_1 (wz I1 (by omega) (by omega) q1 q2 (by simpa using q))
def rC(wi:TI)(g:TG)(tb:TS):TS:=λD σ H=>wi σ H λJ H1=>∃W:Nat->Nat->St->Hp->Prop,(∃m,W 0 m σ H1)/\∀i m σ H,W i m σ H ->
 (J.stop i H/\D.nx σ H)\/(J.go i H/\∃N:St->Hp->Prop,(∀σ' H',N σ' H'->∃m',m' < m/\W (i+1) m' σ' H')/\∀x H',J.yld i H x H'->g x σ H' λσ2 H2=>tb { D with nx:=N,ct:=N,bk:=D.nx } σ2 H2)
noncomputable def gY(fp:List Addr)(h:Heap):List (Addr×Obj):=fp.filterMap λb=>(h.get? b).map λo=>(b,o)
theorem XZ{b:Addr}(hb:b∈fp)(e:h.get? b=some o):(b,o)∈gY fp h:=N9.mpr ⟨b,hb,by rw[e];rfl⟩
theorem xV{p:Addr×Obj}(hp:p∈gY fp h):p.1∈fp/\h.get? p.1=some p.2:=by
 obtain⟨b,hb,e⟩:=N9.mp hp;cases q:h.get? b with
 | none=>rw[q]at e;cases e
 | some o=>rw[q]at e;have e':(b,o)=p:=X1 e;subst e';exact ⟨hb,q⟩
theorem Inv.pinned{σ:St}{H:Hp}(I:Inv X pins σ H s)(hf:∀b∈fp,GY X pins H b)(ho:∀b∈fp,∃o,s.heap.get? b=some o/\∀v,o.data≠.cell v):Inv X (pins++gY fp s.heap) σ H s :=
 I.pins_of λp hp=>(E1.mp hp).elim (λz=>I.pin p (R0 _ z)) λz=>by obtain⟨hb,e⟩:=xV z;obtain⟨f0,f1,f2,_⟩:=hf p.1 hb;obtain⟨o,e',d⟩:=ho p.1 hb;rw[e]at e';cases e';exact ⟨e,f0,f1,f2,d⟩
theorem Inv.unpinned{pl:List (Addr×Obj)}{σ:St}{H:Hp}(I:Inv X (pins++pl) σ H s):Inv X pins σ H s:=I.pins_of λp hp=>I.pin p (R0 _ (T2 _ hp))
theorem sC{body:List Stmt}{wi:TI}{g:TG}{tb:TS}{pos:Pos}(hp:PassesOwn (model X.prog X.w) X.A X.env X.xe)(hc:X.calm=true)(hi:PI X tg iter wi)(hg:PG X tg g)(hb:PSs X body tb)
  (hs:∀x,foldedSetIterable iter X.env x=pure x:=by intro _;rfl):PS X (.For tg iter body [] pos) (rC wi g tb):=by
 intro pins s σ H D I h;refine wpAny_For (hX (hi pins s σ H _ I h) λv s1 h1=>hX h1 λitv s2 h2=>?_) hs;obtain⟨it,fp,tn,J,H2,e,I2,T,st2,f2,W,⟨m0,w0⟩,turn⟩:=h2;subst e;have stat:∀{H':Hp},(∀b∈fp,H' b=none)->∀b∈fp,GY X pins H' b:=λhn b hb=>⟨hn b hb,(f2 b hb).2⟩;refine codeAny_forLoop_any (λn s'=>∃i σ' H',Inv X pins σ' H' s'/\tn i s'.heap/\(∀b∈fp,H' b=none)/\W i n σ' H') ?_ m0 ⟨0,σ,H2,I2,st2,λb hb=>(f2 b hb).1,w0⟩;rintro n s3 ⟨i,σ3,H3,I3,st3,fr3,w3⟩;rcases turn i n σ3 H3 w3 with⟨stop,qn⟩|⟨go,N,hN,step⟩
 ·refine wpAny_passesOwn hp (hX (T.done X rfl rfl rfl hc i pins s3 σ3 H3 X.xe I3 (stat fr3) st3 stop) λr s4 ⟨hr,I4⟩=>?_);subst hr;exact wpAny_execs_nil ⟨σ3,H3,I4,qn⟩
 ·refine wpAny_passesOwn hp (hX (T.item X rfl rfl rfl hc i pins s3 σ3 H3 X.xe I3 (stat fr3) st3 go) λr s4 ⟨u,hr,h4⟩=>?_);subst hr;refine wpAny_passesOwn hp (hX h4 λ_ s5 ⟨x,H5,I5,r5,y5,st5,fr5⟩=>?_);have I5':=I5.pinned (stat fr5) (T.obj _ _ st5);refine wpAny_passesOwn hp (hX (hg _ s5 σ3 H5 x u _ I5' r5 (step x H5 y5)) λ_ s6 ⟨σ6,H6,I6,q6⟩=>?_);refine wpAny_passesOwn hp (hX (hb _ s6 σ6 H6 _ I6 q6) λf s7 q7=>?_);have again:∀{σ7:St}{H7:Hp},Inv X (pins++gY fp s5.heap) σ7 H7 s7->N σ7 H7->∃m,m < n/\∃i σ' H',Inv X pins σ' H' s7/\tn i s7.heap/\(∀b∈fp,H' b=none)/\W i m σ' H':=λ{σ7 H7} I7 n7=>by
   obtain⟨m',hm,w7⟩:=hN σ7 H7 n7;refine ⟨m',hm,i+1,σ7,H7,I7.unpinned,T.keep _ _ _ st5 λb hb o e=>(I7.pin (b,o) (R0 _ (R0 _ (XZ hb e)))).1,λb hb=>?_,w7⟩;obtain⟨o,e,d⟩:=T.obj _ _ st5 b hb;exact (I7.pin (b,o) (R0 _ (R0 _ (XZ hb e)))).2.1
  cases f with
  | next=>obtain⟨σ7,H7,I7,n7⟩:=q7;exact again I7 n7
  | cont=>obtain⟨σ7,H7,I7,n7⟩:=q7;exact again I7 n7
  | brk=>obtain⟨σ7,H7,I7,q7⟩:=q7;exact ⟨σ7,H7,I7.unpinned,q7⟩
  | ret v=>obtain⟨x7,σ7,H7,I7,r7,q7⟩:=q7;exact ⟨x7,σ7,H7,I7.unpinned,r7,q7⟩
end
noncomputable abbrev R2:=V->V->Hp->VK->Prop
def OpR(X:Cx)(f:Value->Value->Sem Value)(r:R2):Prop :=
 ∀(pins:List (Addr×Obj)) (s:Shared) (σ:St) (H:Hp) (x y:V) (v u:Value) (Q:VK),Inv X pins σ H s->RelV x v->RelV y u->r x y H Q ->
  wpAny (model X.prog X.w) X.A (f v u) (EP X pins σ Q) X.xe s
def KO(X:Cx)(f:Value->Sem Value)(r:V->Hp->VK->Prop):Prop :=
 ∀(pins:List (Addr×Obj)) (s:Shared) (σ:St) (H:Hp) (x:V) (v:Value) (Q:VK),Inv X pins σ H s->RelV x v->r x H Q ->
  wpAny (model X.prog X.w) X.A (f v) (EP X pins σ Q) X.xe s
def dX(X:Cx)(f:Value)(r:List V->Hp->VK->Prop):Prop :=
 ∀(pins:List (Addr×Obj)) (s:Shared) (σ:St) (H:Hp) (xs:List V) (us:List Value) (Q:VK),Inv X pins σ H s->Vals xs us->r xs H Q ->
  wpAny (model X.prog X.w) X.A (call f us) (EP X pins σ Q) X.xe s
def Cu(r:R2)(ta tb:TE):TE:=λσ H Q=>ta σ H λx H1=>tb σ H1 λy H2=>r x y H2 Q
def LO(r:V->Hp->VK->Prop)(ta:TE):TE:=λσ H Q=>ta σ H λx H1=>r x H1 Q
def rI(C:Int->Int->Prop)(g:Int->Int->V):R2:=λx y H Q=>∃i j,x=.int i/\y=.int j/\C i j/\Q (g i j) H
def HY(g:Int->Int->V):R2:=λx y H Q=>∃i j,x=.int i/\y=.int j/\Q (g i j) H
def rU(g:Int->V):V->Hp->VK->Prop:=λx H Q=>∃i,x=.int i/\Q (g i) H
section
variable {X:Cx}{a b c:Expr}{ta tb tc:TE}{pos:Pos}
theorem uC(ha:PE X a ta)(hb:PE X b tb){pins:List (Addr×Obj)}{s:Shared}{σ:St}{H:Hp}{R:V->V->Hp->Prop}(I:Inv X pins σ H s)(h:ta σ H λx H1=>tb σ H1 λy H2=>R x y H2) {Q:Value->Shared->Prop}{f:Value->Value->Sem Value}(hf:∀v u s2 x y H2,Inv X pins σ H2 s2->RelV x v->RelV y u->R x y H2->wpAny (model X.prog X.w) X.A (f v u) Q X.xe s2):wpAny (model X.prog X.w) X.A (eval a X.env) (λv s₁=>wpAny (model X.prog X.w) X.A (eval b X.env) (λu s₂=>wpAny (model X.prog X.w) X.A (f v u) Q X.xe s₂) X.xe s₁) X.xe s:=by
 refine hX (ha pins s σ H _ I h) λv s1 ⟨x,H1,I1,r1,q1⟩=>?_;refine hX (hb pins s1 σ H1 _ I1 q1) λu s2 ⟨y,H2,I2,r2,q2⟩=>?_;exact hf v u s2 x y H2 I2 r1 r2 q2
theorem KL{op:Operator}{r:R2}(ho:OpR X (binaryOp op) r)(ha:PE X a ta)(hb:PE X b tb):PE X (.BinOp a op b pos) (Cu r ta tb):=by intro pins s σ H Q I h;exact wpAny_BinOp (uC ha hb I h λv u s2 x y H2 I2 rx ry q=>ho pins s2 σ H2 x y v u Q I2 rx ry q)
theorem LL{op:UnaryOp}{r:V->Hp->VK->Prop}(ho:KO X (unaryOp op) r)(ha:PE X a ta):PE X (.UnaryOp op a pos) (LO r ta):=by intro pins s σ H Q I h;exact UnaryOp_ (hX (ha pins s σ H _ I h) λv s1 ⟨x,H1,I1,r1,q1⟩=>ho pins s1 σ H1 x v Q I1 r1 q1)
theorem ML{f:Value->Value->Sem Value}{C:Int->Int->Prop}{g:Int->Int->Int}(rule:∀(i j:Int) (t u:Tok) (s:Shared) (Q:Value->Shared->Prop) (E:Value->Shared->Prop),C i j->Q (.int (g i j) s.toks) { s with toks:=s.toks+1 }->wpAny (model X.prog X.w) X.A (f (.int i t) (.int j u)) Q E s):OpR X f (rI C λi j=>.int (g i j)):=by
 intro pins s σ H x y v u Q I rx ry h;obtain⟨i,j,rfl,rfl,hc,q⟩:=h;obtain⟨t,rfl⟩:=rx;obtain⟨t',rfl⟩:=ry;exact rule i j t t' s _ _ hc ⟨.int (g i j),H,I.tok _,⟨_,rfl⟩,q⟩
theorem NL{f:Value->Value->Sem Value}{g:Int->Int->Int}(rule:∀(i j:Int) (t u:Tok) (s:Shared) (Q:Value->Shared->Prop) (E:Value->Shared->Prop),Q (.int (g i j) s.toks) { s with toks:=s.toks+1 }->wpAny (model X.prog X.w) X.A (f (.int i t) (.int j u)) Q E s):OpR X f (HY λi j=>.int (g i j)):=by
 intro pins s σ H x y v u Q I rx ry h;obtain⟨i,j,rfl,rfl,q⟩:=h;obtain⟨t,rfl⟩:=rx;obtain⟨t',rfl⟩:=ry;exact rule i j t t' s _ _ ⟨.int (g i j),H,I.tok _,⟨_,rfl⟩,q⟩
theorem Hw{f:Value->Value->Sem Value}{g:Int->Int->Bool}(rule:∀(i j:Int) (t u:Tok) (s:Shared) (Q:Value->Shared->Prop) (E:Value->Shared->Prop),Q (.bool (g i j)) s->wpAny (model X.prog X.w) X.A (f (.int i t) (.int j u)) Q E s):OpR X f (HY λi j=>.bl (g i j)):=by
 intro pins s σ H x y v u Q I rx ry h;obtain⟨i,j,rfl,rfl,q⟩:=h;obtain⟨t,rfl⟩:=rx;obtain⟨t',rfl⟩:=ry;exact rule i j t t' s _ _ ⟨.bl (g i j),H,I,rfl,q⟩
def vC(i j:Int):Prop:=0 < j/\j < 1073741824
def iG(i j:Int):Prop:=0<=j/\j<=1000000/\i.natAbs < 2 ^ 64
def CMul(i j:Int):Prop:=(-(2 ^ 64) < i/\i < 2 ^ 64)\/(-(2 ^ 64) < j/\j < 2 ^ 64)
theorem CMul.ok{i j:Int}(h:CMul i j):IntMulOk i j:=by
 rcases h with⟨h1,h2⟩|⟨h1,h2⟩
 ·exact .of_left (intBits_le_64 h1 h2)
 ·exact .of_right (intBits_le_64 h1 h2)
theorem op_add:OpR X (binaryOp .Add) (HY λi j=>.int (i+j)):=NL λ_ _ _ _ _ _ _ q=>add_int q
theorem MX:OpR X (binaryOp .Sub) (HY λi j=>.int (i - j)):=NL λ_ _ _ _ _ _ _ q=>sub_int q
theorem op_mul:OpR X (binaryOp .Mult) (rI CMul λi j=>.int (i * j)):=ML λ_ _ _ _ _ _ _ hc q=>mul_int q hc.ok
theorem gU:OpR X (binaryOp .FloorDiv) (rI vC λi j=>.int (i / j)):=ML λi j _ _ _ _ _ hc q=>by have h1:(0:Int) < j:=hc.1;have h2:j < 1073741824:=hc.2;exact floordiv_int (by omega) (by rw[Int.fdiv_eq_ediv_of_nonneg i (by omega)];exact q) (.inl (PyProof.noPylong_small (by omega)))
theorem oK:OpR X (binaryOp .Mod) (rI (λ_ j=>0 < j) λi j=>.int (i % j)):=ML λi j _ _ _ _ _ hc q=>by have h1:(0:Int) < j:=hc;exact mod_int' (by omega) (by rw[Int.fmod_eq_emod_of_nonneg i (by omega)];exact q)
theorem yz:OpR X (binaryOp .Pow) (rI iG λi j=>.int (i ^ j.toNat)):=ML λ_ _ _ _ _ _ _ hc q=>pow_int_small hc.1 hc.2.1 hc.2.2 q
theorem zz:OpR X (binaryOp .LShift) (rI iG λi j=>.int (i * 2 ^ j.toNat)):=ML λ_ _ _ _ _ _ _ hc q=>lshift_int_small hc.1 hc.2.1 hc.2.2 q
theorem unI{f:Value->Sem Value}{g:Int->Int}(rule:∀(i:Int) (t:Tok) (s:Shared) (Q:Value->Shared->Prop) (E:Value->Shared->Prop),Q (.int (g i) s.toks) { s with toks:=s.toks+1 }->wpAny (model X.prog X.w) X.A (f (.int i t)) Q E s):KO X f (rU λi=>.int (g i)):=by
 intro pins s σ H x v Q I rx h;obtain⟨i,rfl,q⟩:=h;obtain⟨t,rfl⟩:=rx;exact rule i t s _ _ ⟨.int (g i),H,I.tok _,⟨_,rfl⟩,q⟩
theorem wC:KO X (unaryOp .USub) (rU λi=>.int (-i)):=unI λ_ _ _ _ _ q=>neg_int q
end
noncomputable def OL:V->V->Bool
 | .non,.non=>true | .non,.int _=>true | .int _,.non=>true | .non,.bl _=>true | .bl _,.non=>true | .non,.str _=>true | .str _,.non=>true
 | .int _,.int _=>true | .bl _,.bl _=>true | .str _,.str _=>true | .byt _,.byt _=>true
 | .int _,.str _=>true | .str _,.int _=>true | .bl _,.str _=>true | .str _,.bl _=>true
 | _,_=>false
def aO:R2:=λx y H Q=>OL x y=true/\Q (.bl (decide (x=y))) H
def bO:R2:=λx y H Q=>OL x y=true/\Q (.bl (!decide (x=y))) H
theorem NY{i j:Int}:decide (V.int i=V.int j)=(i==j):=by rw[m6];simp
theorem Az{i j:Bool}:decide (V.bl i=V.bl j)=(i==j):=by rw[m6];simp
theorem OY{i j:Str}:decide (V.str i=V.str j)=(i==j):=by rw[m6];simp
theorem xF{i j:Array UInt8}:decide (V.byt i=V.byt j)=(i.toList==j.toList):=by rw[m6];cases i;cases j;simp
section
variable {X:Cx}{a b c:Expr}{ta tb tc:TE}{pos:Pos}
theorem QQ{σ:St}{H:Hp}{Q:VK}{k k':Bool}(I:Inv X pins σ H s)(q:Q (.bl k) H)(e:k=k'):EP X pins σ Q (.bool k') s:=by subst e;exact ⟨.bl k,H,I,rfl,q⟩
theorem op_eq:OpR X (compareOp .Eq) aO:=by
 intro pins s σ H x y v u Q I rx ry h;obtain⟨hs,q⟩:=h;cases x with
 | non =>
  cases rx;cases y with
  | non=>cases ry;exact PySem.EqNone.eq_none_none (QQ I q (by simp))
  | bl j=>cases ry;exact PySem.EqNone.eq_none_bool (QQ I q (by simp))
  | int j=>obtain⟨t',rfl⟩:=ry;exact PySem.EqNone.eq_none_int (QQ I q (by simp))
  | str j=>obtain⟨t',rfl⟩:=ry;exact PySem.EqNone.eq_none_str (QQ I q (by simp))
  | _=>exact absurd (show false=true from hs) T0
 | bl i =>
  cases rx;cases y with
  | non=>cases ry;exact PySem.EqNone.eq_bool_none (QQ I q (by simp))
  | bl j=>cases ry;exact eq_bool (QQ I q Az)
  | str j=>obtain⟨t',rfl⟩:=ry;exact PySem.EqMixed.eq_bool_str (QQ I q (by simp))
  | _=>exact absurd (show false=true from hs) T0
 | int i =>
  obtain⟨t,rfl⟩:=rx;cases y with
  | non=>cases ry;exact PySem.EqNone.eq_int_none (QQ I q (by simp))
  | int j=>obtain⟨t',rfl⟩:=ry;exact eq_int (QQ I q NY)
  | str j=>obtain⟨t',rfl⟩:=ry;exact PySem.EqMixed.eq_int_str (QQ I q (by simp))
  | _=>exact absurd (show false=true from hs) T0
 | str i =>
  obtain⟨t,rfl⟩:=rx;cases y with
  | non=>cases ry;exact PySem.EqNone.eq_str_none (QQ I q (by simp))
  | bl j=>cases ry;exact PySem.EqMixed.eq_str_bool (QQ I q (by simp))
  | int j=>obtain⟨t',rfl⟩:=ry;exact PySem.EqMixed.eq_str_int (QQ I q (by simp))
  | str j=>obtain⟨t',rfl⟩:=ry;exact eq_str (QQ I q OY)
  | _=>exact absurd (show false=true from hs) T0
 | byt i =>
  obtain⟨t,rfl⟩:=rx;cases y with
  | byt j=>obtain⟨t',rfl⟩:=ry;exact PySem.W.eq_bytes (QQ I q xF)
  | _=>exact absurd (show false=true from hs) T0
 | _=>cases y<;>exact absurd (show false=true from hs) T0
theorem op_ne:OpR X (compareOp .NotEq) bO:=by
 intro pins s σ H x y v u Q I rx ry h;obtain⟨hs,q⟩:=h;cases x with
 | non =>
  cases rx;cases y with
  | non=>cases ry;exact PySem.EqNone.ne_none_none (QQ I q (by simp))
  | bl j=>cases ry;exact PySem.EqNone.ne_none_bool (QQ I q (by simp))
  | int j=>obtain⟨t',rfl⟩:=ry;exact PySem.EqNone.ne_none_int (QQ I q (by simp))
  | str j=>obtain⟨t',rfl⟩:=ry;exact PySem.EqNone.ne_none_str (QQ I q (by simp))
  | _=>exact absurd (show false=true from hs) T0
 | bl i =>
  cases rx;cases y with
  | non=>cases ry;exact PySem.EqNone.ne_bool_none (QQ I q (by simp))
  | bl j=>cases ry;exact ne_bool (QQ I q (congrArg not Az))
  | str j=>obtain⟨t',rfl⟩:=ry;exact PySem.EqMixed.ne_bool_str (QQ I q (by simp))
  | _=>exact absurd (show false=true from hs) T0
 | int i =>
  obtain⟨t,rfl⟩:=rx;cases y with
  | non=>cases ry;exact PySem.EqNone.ne_int_none (QQ I q (by simp))
  | int j=>obtain⟨t',rfl⟩:=ry;exact ne_int (QQ I q (congrArg not NY))
  | str j=>obtain⟨t',rfl⟩:=ry;exact PySem.EqMixed.ne_int_str (QQ I q (by simp))
  | _=>exact absurd (show false=true from hs) T0
 | str i =>
  obtain⟨t,rfl⟩:=rx;cases y with
  | non=>cases ry;exact PySem.EqNone.ne_str_none (QQ I q (by simp))
  | bl j=>cases ry;exact PySem.EqMixed.ne_str_bool (QQ I q (by simp))
  | int j=>obtain⟨t',rfl⟩:=ry;exact PySem.EqMixed.ne_str_int (QQ I q (by simp))
  | str j=>obtain⟨t',rfl⟩:=ry;exact ne_str (QQ I q (congrArg not OY))
  | _=>exact absurd (show false=true from hs) T0
 | byt i =>
  obtain⟨t,rfl⟩:=rx;cases y with
  | byt j=>obtain⟨t',rfl⟩:=ry;exact PySem.W.ne_bytes (QQ I q (congrArg not xF))
  | _=>exact absurd (show false=true from hs) T0
 | _=>cases y<;>exact absurd (show false=true from hs) T0
theorem Bz:OpR X (compareOp .Lt) (HY λi j=>.bl (decide (i < j))):=Hw λ_ _ _ _ _ _ _ q=>lt_int q
theorem Du:OpR X (compareOp .LtE) (HY λi j=>.bl (decide (i<=j))):=Hw λ_ _ _ _ _ _ _ q=>le_int q
theorem yV:OpR X (compareOp .Gt) (HY λi j=>.bl (decide (j < i))):=Hw λ_ _ _ _ _ _ _ q=>gt_int q
theorem PL:OpR X (compareOp .GtE) (HY λi j=>.bl (decide (j<=i))):=Hw λ_ _ _ _ _ _ _ q=>ge_int q
theorem OpR.or{f:Value->Value->Sem Value}{r r':R2}(h:OpR X f r)(h':OpR X f r'):OpR X f (λx y H Q=>r x y H Q\/r' x y H Q):=by
 intro pins s σ H x y v u Q I rx ry q;rcases q with q|q
 ·exact h pins s σ H x y v u Q I rx ry q
 ·exact h' pins s σ H x y v u Q I rx ry q
theorem Cz(b:Expr){op:CmpOp}(h:op≠.In:=by decide)(h2:op≠.NotIn:=by decide):behindInMarks op b=false:=by
 have e1:(op==CmpOp.In)=false:=by cases op<;>first|rfl|exact absurd rfl h
 have e2:(op==CmpOp.NotIn)=false:=by cases op<;>first|rfl|exact absurd rfl h2
 cases b<;>simp[behindInMarks,e1,e2]
theorem Iw{op:CmpOp}{r:R2}(ho:OpR X (compareOp op) r)(ha:PE X a ta)(hb:PE X b tb)(hm:behindInMarks op b=false):PE X (.Compare a [op] [b] pos) (Cu r ta tb):=by intro pins s σ H Q I h;exact wpAny_Compare1 (uC ha hb I h λv u s2 x y H2 I2 rx ry q=>ho pins s2 σ H2 x y v u Q I2 rx ry q) hm
def Dz(t:TE):TT:=λσ H Q=>t σ H λx H'=>∃k,x=.bl k/\Q k H'
theorem yF{op:CmpOp}{r:R2}(ho:OpR X (compareOp op) r)(ha:PE X a ta)(hb:PE X b tb)(hm:behindInMarks op b=false):PT X (.Compare a [op] [b] pos) (Dz (Cu r ta tb)):=by
 intro pins s σ H Q I h;refine wpAny_isTrue_Compare1 (hX (ha pins s σ H _ I h) λv s1 ⟨x,H1,I1,r1,q1⟩=>hX (hb pins s1 σ H1 _ I1 q1) λu s2 ⟨y,H2,I2,r2,q2⟩=>hX (ho pins s2 σ H2 x y v u _ I2 r1 r2 q2) λc s3 ⟨z,H3,I3,r3,k,e,q3⟩=>?_) hm;subst e;cases r3;exact wpAny_truthy_bool ⟨H3,I3,q3⟩
def jG(r r':R2)(ta tb tc:TE):TE:=λσ H Q=>ta σ H λx H1=>tb σ H1 λy H2=>r x y H2 λz H3=>∃k,z=.bl k /\
 (if k=true then tc σ H3 λw' H4=>r' y w' H4 Q else Q (.bl false) H3)
theorem Ez{op op':CmpOp}{r r':R2}(ho:OpR X (compareOp op) r)(ho':OpR X (compareOp op') r')(ha:PE X a ta)(hb:PE X b tb)(hc:PE X c tc)
  (hm:lastMarks [op,op'] [b,c]=false:=by with_unfolding_all rfl):PE X (.Compare a [op,op'] [b,c] pos) (jG r r' ta tb tc):=by
 intro pins s σ H Q I h;refine Compare_chain (hX (ha pins s σ H _ I h) λv s1 ⟨x,H1,I1,r1,q1⟩=>chain_link (hX (hb pins s1 σ H1 _ I1 q1) λu s2 ⟨y,H2,I2,r2,q2⟩=>hX (ho pins s2 σ H2 x y v u _ I2 r1 r2 q2) λd s3 ⟨z,H3,I3,r3,k,e,q3⟩=>?_)) hm;subst e;cases r3;refine wpAny_truthy_bool ?_;cases k with
 | false=>exact ite_ff ⟨.bl false,H3,I3,rfl,q3⟩
 | true=>exact ite_tt (chain_last (hX (hc pins s3 σ H3 _ I3 q3) λw' s4 ⟨z',H4,I4,r4,q4⟩=>ho' pins s4 σ H4 y z' u w' Q I4 r2 r4 q4))
theorem gW:(sizeLine:Nat) < 2 ^ 63:=by rw[sizeLine_eq];decide
theorem qZ{x:V}(r:Vals [x] us):∃u,us=[u]/\RelV x u:=by
 cases r with
 | cons r1 r2=>cases r2;exact ⟨_,rfl,r1⟩
theorem lK{x y:V}(r:Vals [x,y] us):∃u w',us=[u,w']/\RelV x u/\RelV y w':=by
 cases r with
 | cons r1 r2 =>
  cases r2 with
  | cons r3 r4=>cases r4;exact ⟨_,_,rfl,r1,r3⟩
theorem hW:dX X (.builtin "abs") (λxs H Q=>∃i,xs=[.int i]/\Q (.int (if i < 0 then -i else i)) H):=by intro pins s σ H xs us Q I r h;obtain⟨i,rfl,q⟩:=h;obtain⟨u,rfl,t,rfl⟩:=qZ r;exact call_abs_int λu tk=>⟨.int (if i < 0 then -i else i),H,I.tok _,⟨_,rfl⟩,q⟩
theorem ZD(hc:X.calm=true):dX X (.builtin "max") (λxs H Q=>∃i j,xs=[.int i,.int j]/\Q (.int (if j > i then j else i)) H):=by
 intro pins s σ H xs us Q I r h;obtain⟨i,j,rfl,q⟩:=h;obtain⟨u,w',rfl,⟨t,rfl⟩,⟨t',rfl⟩⟩:=lK r;refine max_two_ints (I.ok.hd hc) λh' tk k=>⟨_,H,I.kept k,?_,q⟩;by_cases hj:j > i
 ·rw[if_pos hj,if_pos hj];exact ⟨_,rfl⟩
 ·rw[if_neg hj,if_neg hj];exact ⟨_,rfl⟩
theorem aq(hc:X.calm=true):dX X (.builtin "min") (λxs H Q=>∃i j,xs=[.int i,.int j]/\Q (.int (if j < i then j else i)) H):=by
 intro pins s σ H xs us Q I r h;obtain⟨i,j,rfl,q⟩:=h;obtain⟨u,w',rfl,⟨t,rfl⟩,⟨t',rfl⟩⟩:=lK r;refine min_two_ints (I.ok.hd hc) λh' tk k=>⟨_,H,I.kept k,?_,q⟩;by_cases hj:j < i
 ·rw[if_pos hj,if_pos hj];exact ⟨_,rfl⟩
 ·rw[if_neg hj,if_neg hj];exact ⟨_,rfl⟩
theorem hU:dX X (.type "str") (λxs H Q=>∃i,xs=[.int i]/\i.natAbs.log2 < 1920/\Q (.str (toString i)) H):=by intro pins s σ H xs us Q I r h;obtain⟨i,rfl,hz,q⟩:=h;obtain⟨u,rfl,t,rfl⟩:=qZ r;exact PySem.P.str_of_int hz ⟨.str _,H,I.tok _,⟨_,rfl⟩,q⟩
end
structure ObjM(h:Heap)(x dx C:Addr)(mA:Str->Option Value):Prop where
 obj:h.get? x=some (cQ C dx)
 ns:h.Ns1 dx mA
 ne:dx≠x
section
variable {K:n0}{x dx C:Addr}{mA:Str->Option Value}{name:Str}{v:Value}
end
section
variable {H H':Hp}{a C dx:Addr}{fs fs':List (Str×V)}
end
structure Cls(K:n0)(C:Addr):Prop where
 pg:PySem.W.plainGet K C Str.empty=true
 hd:PySem.W.hasDictIn K C=true
 po:PySem.W.plainOver K C=true
 sa:h7 K (.ref C) "__setattr__"=some (some (.builtin "object.__setattr__"))
structure Con(K:n0)(C:Addr)(f:Str)(v:V)(u:Value):Prop where
 at_:h7 K (.ref C) f=some (some u)
 rel:RelV v u
 get:Y9 K u "__get__"=some none
 cp:PySem.W.copiedNames.contains f=false
structure Meth(K:n0)(C:Addr)(m:Str)(f:Addr):Prop where
 at_:h7 K (.ref C) m=some (some (.ref f))
 fn:PySem.W.isFn K (.ref f)=true
 kp:j5 K (.ref f)=true
section
variable {X:Cx}{σ:St}{H:Hp}{a C dx:Addr}{fs:List (Str×V)}{f:Str}{v:V}
end
section
variable {X:Cx}{o e value:Expr}{f:Str}{pos tpos:Pos}{ta tv:TE}
end
section
variable {X:Cx}{σ:St}{H:Hp}{c:Value}{b:Bool}
inductive TyOf (K:n0) (H:Hp):V->Value->Prop where
 | non:TyOf K H .non (.type "NoneType")
 | bl (x:Bool):TyOf K H (.bl x) (.type "bool")
 | int (i:Int):TyOf K H (.int i) (.type "int")
 | str (x:Str):TyOf K H (.str x) (.type "str")
 | flt (x:UInt64):TyOf K H (.flt x) (.type "float")
 | lst {a:Addr}{xs:List V} (e:H a=some (.lst xs)):TyOf K H (.ref a) (.type "list")
 | frz {a:Addr}{o:Obj}{xs:List V} (e:H a=some (.frz o (.lst xs))):TyOf K H (.ref a) (.type "list")
 | tup {a:Addr}{xs:List V} (e:H a=some (.tup xs)):TyOf K H (.ref a) (.type "tuple")
 | dK {a:Addr}{kvs:List (VZ×V)} (e:H a=some (.dK kvs)):TyOf K H (.ref a) (.type "dict")
 | dT {a:Addr}{kvs:List (List VZ×V)} (e:H a=some (.dT kvs)):TyOf K H (.ref a) (.type "dict")
 | ins {a C dx:Addr}{fs:List (Str×V)} (e:H a=some (.ins C dx fs)) (cl:Cls K C) (ha:h7 K (.ref C) "__class__"=some (some (.builtin "object.__class__")))
   (hn:Y9 K (.builtin "object.__class__") "__get__"=some (some (.builtin "getset_descriptor.__get__"))) (htk:PySem.W.takesIn K (.builtin "object.__class__")=some true)
   (hm:PySem.W.mroIn K C (.type "object")=some true):TyOf K H (.ref a) (.ref C)
end
structure Room(k:Nat)(A:Around):Prop where
 hd:A.handled=none
 dp:A.depth+3 * k+5 < recursionLimit
 un:A.units+16 * k+200 < cLine
 gd:A.guards=some []
theorem Room.mono{j k:Nat}(r:Room k A)(h:j<=k):Room j A:=⟨r.hd,by have:=r.dp;omega,by have:=r.un;omega,r.gd⟩
theorem Room.deeper{k:Nat}(r:Room (k+1) A)(env:Env):Room k (A.deeper env):=⟨r.hd,by have:=r.dp;show A.depth+1+3 * k+5 < _;omega,by have:=r.un;show A.units+3+16 * k+200 < _;omega,r.gd⟩
theorem Room.in1{k:Nat}(r:Room (k+1) A):Room k A.in1:=⟨r.hd,by have:=r.dp;show A.depth+3 * k+5 < _;omega,by have:=r.un;show A.units+1+16 * k+200 < _;omega,r.gd⟩
theorem Room.depth{k:Nat}(r:Room k A):A.depth < recursionLimit:=by have:=r.dp;omega
theorem Room.units{k:Nat}(r:Room k A):A.units+64 < cLine:=by have:=r.un;omega
def Fz:TA:=λ_ H Q=>Q [] H
def bH(ta:TE)(tr:TA):TA:=λσ H Q=>ta σ H λx H1=>tr σ H1 λxs H2=>Q (x :: xs) H2
section
variable {X:Cx}{e:Expr}{es:List Expr}{te:TE}{t:TA}{pos:Pos}
theorem iW:PA X [] Fz:=λ_ _ _ _ H Q I h=>Calls.spliced_nil ⟨[],H,I,.nil,h⟩
theorem TJ(ha:PE X e te)(hr:PA X es t)(hs:starEach (e :: es) X.env=(false,eval e X.env) :: starEach es X.env:=by rfl):PA X (e :: es) (bH te t):=by intro pos pins s σ H Q I h;rw[hs];show wpAny _ _ (spliced ((false,eval e X.env) :: backTo pos (starEach es X.env))) _ _ s;refine Calls.spliced_cons (hX (ha pins s σ H _ I h) λu s1 ⟨x,H1,I1,r1,q1⟩=>?_);exact hX (hr pos pins s1 σ H1 _ I1 q1) λus s2 ⟨xs,H2,I2,r2,q2⟩=>⟨x :: xs,H2,I2,.cons r1 r2,q2⟩
def xC(t:TA):TE:=λσ H Q=>t σ H λxs H1=>xs.length<=sizeLine/\∀p,H1 p=none->Q (.ref p) (UQ H1 p (.tup xs))
def yC(t:TA):TE:=λσ H Q=>t σ H λxs H1=>xs.length<=sizeLine/\∀p,H1 p=none->Q (.ref p) (UQ H1 p (.lst xs))
theorem zC{x1}(h:PA X es t):PE X (.Tuple es x1 pos) (xC t):=by intro pins s σ H Q I hq;refine wpAny_Tuple_spliced (hX (h pos pins s σ H _ I hq) λus s1 ⟨xs,H1,I1,r,z,q⟩=>⟨by rw[<- r.length];exact z,?_⟩);have hf:H1 s1.heap.objs.size=none:=I1.hok.fresh (u0 _);refine ⟨.ref s1.heap.objs.size,UQ H1 s1.heap.objs.size (.tup xs),I1.laid (t':=s1.toks) (λb u e=>g0 _ e) (u0 _) ?_,rfl,q _ hf⟩;exact ⟨z,us,r,⟨_,L0 _ rfl,rfl,_,rfl,rfl⟩⟩
theorem AC(h:PA X es t):PE X (.List es pos) (yC t):=by intro pins s σ H Q I hq;refine wpAny_List_spliced (hX (h pos pins s σ H _ I hq) λus s1 ⟨xs,H1,I1,r,z,q⟩=>⟨by rw[<- r.length];exact z,?_⟩);have hf:H1 s1.heap.objs.size=none:=I1.hok.fresh (u0 _);refine ⟨.ref s1.heap.objs.size,UQ H1 s1.heap.objs.size (.lst xs),I1.laid (t':=s1.toks) (λb u e=>g0 _ e) (u0 _) ?_,rfl,q _ hf⟩;exact ⟨z,us,0,r,L0 _ rfl⟩
end
noncomputable abbrev Sp:=List V->Hp->VK->XK->Prop
noncomputable abbrev Gz:=List Env->Hp->Shared->XK->Value->Shared->Prop
structure Env0(P:Program)(w:World)(K:n0)(mg:Str->Option Value)(base:Heap)(A:Around)(outer:List Env)(s:Shared)(H:Hp):Prop where
 frames:A.frames=some outer
 mod:Mod K mg base
 bs:∀b o,base.get? b=some o->s.heap.get? b=some o/\H b=none
 bsz:base.objs.size<=s.heap.objs.size
 funs:s.heap.FunFrames base outer
 frf:∀b∈wF outer,H b=none
 hok:HOk P w H s.heap
 bare:AllBare s.gens
def CE(outer:List Env)(P:Program)(w:World)(H:Hp)(s:Shared)(Q:VK)(u:Value)(s':Shared):Prop:=∃v H',s'.os=s.os/\AllBare s'.gens/\Un (wF outer) [] H H' s.heap s'.heap/\HOk P w H' s'.heap/\RelV v u/\Q v H'
def CR(CX:Gz)(outer:List Env)(P:Program)(w:World)(H:Hp)(s:Shared)(Q:VK)(E:XK)(r:Result)(s':Shared):Prop :=
 match r with
 | .ok (.ret u)=>CE outer P w H s Q u s'
 | .ok _=>False
 | .error e=>CX outer H s E e s'
structure FnOk(P:Program)(w:World)(K:n0)(mg:Str->Option Value)(base:Heap)(CX:Gz)(k:Nat)(f:Addr)(fd:FuncData)(ps:List Str)(sp:Sp):Prop where
 len:∀vs H Q E,sp vs H Q E->vs.length=ps.length
 run:∀(A:Around) (outer:List Env) (s:Shared) (H:Hp) (args:Args) (us:List Value) (vs:List V) (Q:VK) (E:XK),Room k A->Env0 P w K mg base A outer s H->BindsTo s fd args (ps.zip us)->Vals vs us->sp vs H Q E ->
  codeAny (model P w) A (.call (.ref f) args) (CR CX outer P w H s Q E) s
section
variable {X:Cx}{σ:St}{H:Hp}
theorem Inv.env0(I:Inv X pins σ H s):Env0 X.prog X.w X.K X.mg X.base X.A X.stack s H:=⟨I.ok.frames,I.ok.mod,I.bs,Q0 I.ok.bsz I.sz,I.stack,I.stkFree,I.hok,I.bare⟩
theorem Inv.after{Q:VK}(I:Inv X pins σ H s)(h:CE X.stack X.prog X.w H s Q u s'):EP X pins σ Q u s':=by obtain⟨v,H',os,bare,un,hok,r,q⟩:=h;obtain⟨hh,g,d,t,os'⟩:=s';obtain rfl:os'=s.os:=os;exact ⟨v,H',I.call (h':=hh) (g':=g) (d':=d) (t':=t) (ch:=[]) un hok bare (λb z=>absurd z (by simp)),r,q⟩
end
def zV(sp:Sp)(dvs:List V)(E:XK)(t:TA):TE:=λσ H Q=>t σ H λvs H1=>sp (vs++dvs) H1 Q E
def Binds(K:n0)(fd:FuncData)(ps:List Str)(ds:List Value):Prop:=∀(s:Shared) (us:List Value),K.In s.heap->(us++ds).length=ps.length->BindsTo s fd ⟨us,[]⟩ (ps.zip (us++ds))
theorem Binds.all{K:n0}{ps:List Str}(h:∀us:List Value,us.length=ps.length->bindArgs fd ⟨us,[]⟩=pure (ps.zip us)):Binds K fd ps []:=λs us _ hl=>by rw[K2]at hl ⊢;exact .of_eq (h us hl)
def kG(CX:Gz)(X:Cx)(E:XK):Prop:=∀(pins:List (Addr×Obj)) (σ:St) (H:Hp) (s:Shared) (e:Value) (s':Shared),Inv X pins σ H s->CX X.stack H s E e s'->X.xe e s'
section
variable {X:Cx}{CX:Gz}{k:Nat}{C:Addr}{ps:List Str}{sp:Sp}{dvs:List V}{ds:List Value}{E:XK}{x m:Str}{p pos apos:Pos}{e o:Expr}{es:List Expr}{ta:TE}{t:TA}
theorem BC{σ:St}{H:Hp}{Q:VK}{vs:List V}(F:FnOk X.prog X.w X.K X.mg X.base CX k f fd ps sp)(hr:Room k X.A)(hb:Binds X.K fd ps ds)(hd:Vals dvs ds)(hx:kG CX X E)(I:Inv X pins σ H s) (r:Vals vs us) (h:sp (vs++dvs) H Q E):wpAny (model X.prog X.w) X.A (call (.ref f) us) (EP X pins σ Q) X.xe s:=by
 have r2:Vals (vs++dvs) (us++ds):=r.append hd;have hl:(us++ds).length=ps.length:=by rw[<- r2.length];exact F.len _ _ _ _ h
 refine wpAny_call (codeAny_mono (F.run X.A X.stack s H ⟨us,[]⟩ (us++ds) (vs++dvs) Q E hr I.env0 (hb s us I.kIn hl) r2 h) λr s' hq=>?_);cases r with
 | error e=>exact hx pins σ H s e s' I hq
 | ok fl =>
  cases fl with
  | ret u=>exact I.after hq
  | next=>exact False.elim hq
  | brk=>exact False.elim hq
  | cont=>exact False.elim hq
theorem Jw(F:FnOk X.prog X.w X.K X.mg X.base CX k f fd ps sp)(hr:Room k X.A)(hg:Gl X x)(hm:X.mg x=some (.ref f))(hk:j5 X.K (.ref f)=true)(hb:Binds X.K fd ps ds)(hd:Vals dvs ds)(hx:kG CX X E)
  (ha:PA X (e :: es) t) (hdb:(x==("__debug__":Str))=false:=by decide) (he:starEach (e :: es) X.env=(false,eval e X.env) :: starEach es X.env:=by rfl) (hpl:(backTo pos (starEach es X.env)).any (·.1)=false:=by rfl) :
  PE X (.Call (.Name x p) (e :: es) [] pos) (zV sp dvs E t):=by
 intro pins s σ H Q I h;refine wpAny_Call_Name_kw (vw I hg hm ?_ hdb);refine PySem.W.callWith_K (h₀:=X.base) I.ok.mod.kin hk (hX (ha pos pins s σ H _ I h) λus s1 ⟨vs,H1,I1,r,q⟩=>⟨I1.kIn,?_⟩) he hpl;exact BC F hr hb hd hx I1 r q
structure Mk(K:n0)(C f:Addr):Prop where
 makes:PySem.W.makesIn K C=true
 init:h7 K (.ref C) "__init__"=some (some (.ref f))
 fn:PySem.W.isFn K (.ref f)=true
 kp:j5 K (.ref C)=true
end
section
variable {X:Cx}{CX:Gz}{k:Nat}{C:Addr}{ps ks:List Str}{sp:Sp}{E:XK}{x m:Str}{p pos apos kpos:Pos}{e o:Expr}{es:List Expr}{kws:List Keyword}{te ta:TE}{t tk:TA}{nm:Option Str}
structure KBinds(K:n0)(fd:FuncData)(ps ks:List Str)(g:List Value->List Value->List Value)(gV:List V->List V->List V):Prop where
 to:∀(s:Shared) (us ws:List Value),K.In s.heap->(g us ws).length=ps.length->BindsTo s fd ⟨us,ks.zip ws⟩ (ps.zip (g us ws))
 rel:∀{vs:List V}{us:List Value}{zs:List V}{ws:List Value},Vals vs us->Vals zs ws->Vals (gV vs zs) (g us ws)
variable {g:List Value->List Value->List Value}{gV:List V->List V->List V}
end
structure FnScope(N P:List Str)(sc:Scope):Prop where
 kind:sc.kind=.function
 co:sc.isCoroutine=false
 gen:sc.isGenerator=false
 nd:N.Nodup
 pre:N.take P.length=P
 par:∀x∈P,sc.names.lookup x=some .local\/sc.names.lookup x=some .cell
 nofree:∀y∈sc.names,y.2≠.free
theorem AV{kindOf:Str->Option NameKind}{x:Str}:∀{binds:List (Str×Value)}{m:Str->Option Value},(∀v,(x,v)∉binds)->bindL kindOf binds m x=m x
 | [],_,_=>rfl
 | (n,v) :: r,m,h=>by
  unfold bindL;rw[AV λw hw=>h w (q0 _ hw)];split
  ·have:x≠n:=by rintro rfl;exact h v v0
   simp[this]
  ·rfl
theorem BV{kindOf:Str->Option NameKind}{x:Str}:∀{binds:List (Str×Value)}{m:Str->Option Value},(∀v,(x,v)∉binds)->bindC kindOf binds m x=m x
 | [],_,_=>rfl
 | (n,v) :: r,m,h=>by
  unfold bindC;rw[BV λw hw=>h w (q0 _ hw)];split
  ·rfl
  ·have:x≠n:=by rintro rfl;exact h v v0
   simp[this]
theorem CV{kindOf:Str->Option NameKind}{x:Str}{v:Value}:∀{P:List Str}{vs:List Value}{i:Nat}{m:Str->Option Value},P.Nodup->P[i]?=some x->vs[i]?=some v->kindOf x=some .local -> bindL kindOf (P.zip vs) m x=some v
 | [],_,_,_,_,h,_,_=>by simp at h
 | _ :: _,[],_,_,_,_,h,_=>by simp at h
 | p :: P,w :: vs,0,m,nd,h1,h2,hk=>by simp at h1 h2;subst h1;subst h2;show bindL kindOf ((p,w) :: P.zip vs) m p=_;unfold bindL;rw[AV λv hv=>(o6.mp nd).1 (m4 hv).1,if_pos hk];simp
 | p :: P,w :: vs,i+1,m,nd,h1,h2,hk=>by show bindL kindOf ((p,w) :: P.zip vs) m x=_;unfold bindL;exact CV (i:=i) (o6.mp nd).2 (by simpa using h1) (by simpa using h2) hk
theorem DV{kindOf:Str->Option NameKind}{x:Str}{v:Value}:∀{P:List Str}{vs:List Value}{i:Nat}{m:Str->Option Value},P.Nodup->P[i]?=some x->vs[i]?=some v->kindOf x≠some .local -> bindC kindOf (P.zip vs) m x=some v
 | [],_,_,_,_,h,_,_=>by simp at h
 | _ :: _,[],_,_,_,_,h,_=>by simp at h
 | p :: P,w :: vs,0,m,nd,h1,h2,hk=>by simp at h1 h2;subst h1;subst h2;show bindC kindOf ((p,w) :: P.zip vs) m p=_;unfold bindC;rw[BV λv hv=>(o6.mp nd).1 (m4 hv).1,if_neg hk];simp
 | p :: P,w :: vs,i+1,m,nd,h1,h2,hk=>by show bindC kindOf ((p,w) :: P.zip vs) m x=_;unfold bindC;exact DV (i:=i) (o6.mp nd).2 (by simpa using h1) (by simpa using h2) hk
noncomputable def start(N:List Str)(vs:List V):St:=vs.map some++A1 (N.length - vs.length) none
noncomputable def IY(CX:Gz)(P:Program)(w:World)(K:n0)(mg:Str->Option Value)(base:Heap)(N:List Str)(qual:Str)(scope:Scope)(f:Addr)(cd:Value)(A:Around)(outer:List Env)(s:Shared)(H:Hp)(E:XK):Cx where
 prog:=P
 w:=w
 K:=K
 mg:=mg
 base:=base
 A:=A.deeper (envOfC qual scope s.heap.objs.size f cd)
 N:=N
 s₀:=s
 H₀:=H
 env:=envOfC qual scope s.heap.objs.size f cd
 outer:=outer
 stack:=envOfC qual scope s.heap.objs.size f cd :: outer
 ex:=[]
 calm:=true
 fn:=λ_=>true
 pn:=[]
 xe:=λe s'=>wpAny (model P w) (A.deeper (envOfC qual scope s.heap.objs.size f cd)) (leaving (envOfC qual scope s.heap.objs.size f cd) e) (λ_ s''=>CX outer H s E e s'') (λe' s''=>CX outer H s E e' s'') s'
theorem EK{x:Str}(h:sc.names.lookup x=some .cell):∃c,(cellsFrom n sc.names []).lookup x=some c:=by have q:=v7 sc.names n [] (.inl h);exact Option.isSome_iff_exists.mp q
theorem EV{CX:Gz}{K:n0}{ps:List Str}{cd:Value}{outer:List Env}{s1:Shared}{H:Hp}{E:XK}{vs:List V}(S:FnScope N ps scope) (hd:A.handled=none) (e0:Env0 P w K mg base A outer s H) (hl:vs.length=ps.length) (r:Vals vs us)(x:InCallC s s.heap.objs.size (bindL (envOfC qual scope s.heap.objs.size f cd).kindOf (ps.zip us) λ_=>none) (cellsFrom (s.heap.objs.size+1) scope.names []) (bindC (envOfC qual scope s.heap.objs.size f cd).kindOf (ps.zip us) λ_=>none) s1):Inv (IY CX P w K mg base N qual scope f cd A outer s H E) [] (start N vs) H s1:=by
 have hpl:ps.length<=N.length:=by have:=congrArg B4 S.pre;rw[U1]at this;omega
 obtain⟨h1,tk,rfl,hk⟩:=x.done;have noA:∀b:Addr,b∉(IY CX P w K mg base N qual scope f cd A outer s H E).ex:=λb z=>absurd (show b∈([]:List Addr) from z) (by simp);refine ⟨⟨e0.mod,S.kind,rfl,rfl,u0 _,λy z c h1 h2=>?_,λy hy=>?_,λy c _ h=>?_,λ_=>hd,Around.frames_deeper e0.frames,.inr ⟨rfl,rfl⟩,λb z=>absurd z (noA b),e0.bs,e0.bsz,λb _ _=>noA b,λb z=>absurd z (noA b),e0.funs,e0.frf⟩,
   rfl,e0.bare,Un.kept hk,⟨_,x.toInCall.ns,λi y v h1 h2 h3=>?_⟩,λy c h=>⟨_,x.cell y c h⟩,e0.hok.fresh (u0 _),λy c h=>?_,λp hp=>absurd (show p∈([]:List (Addr×Obj)) from hp) (by simp),e0.hok.kept hk,?_⟩
 ·exact name_of_addr x.apart (PySem.mem_of_lookup h1) (PySem.mem_of_lookup h2)
 ·have hy:scope.names.lookup y=some .cell\/scope.names.lookup y=some .free:=hy;rcases hy with hy|hy
  ·exact EK hy
  ·exact absurd rfl (S.nofree _ (PySem.mem_of_lookup hy))
 ·exact B5 (x.above y c (PySem.mem_of_lookup h))
 ·have hi:i < vs.length:=by
   unfold start at h2;by_cases hi:i < vs.length
   ·exact hi
   ·rw[S1 (by simpa using hi)]at h2;rw[O8]at h2;split at h2<;>cases h2
  have ha:vs[i]?=some v:=by
   unfold start at h2;rw[P2 (by simpa using hi),X0]at h2;cases e:vs[i]? with
   | none=>rw[e]at h2;cases h2
   | some a=>rw[e]at h2;cases h2;rfl
  obtain⟨u,hu,rv⟩:=r.get ha;have hp:ps[i]?=some y:=by rw[<- S.pre,B8 (by omega)];exact h1
  have ndP:ps.Nodup:=by rw[<- S.pre];exact S.nd.sublist (m7 _ _)
  refine ⟨u,rv,?_⟩;rcases S.par y (Q1 hp) with k|k
  ·exact .inl ⟨k,CV ndP hp hu k⟩
  ·obtain⟨c,e⟩:=EK (n:=s.heap.objs.size+1) k;refine .inr ⟨.inl k,c,e,?_⟩;have q:=x.cell y c e;rw[DV ndP hp hu (by show scope.names.lookup y≠_;rw[k];decide)]at q;exact q
 ·exact e0.hok.fresh (B5 (x.above y c (PySem.mem_of_lookup h)))
 ·unfold start;show _=N.length;rw[M0,j0,List.length_replicate];omega
theorem Eu{CX:Gz}{K:n0}{k:Nat}{name:Str}{params:Arguments}{body:List Stmt}{dV kV doc pm cdv ct oc:Value}{an od:Option Addr}{osl:Array (Option Value)}{ps:List Str}{sp:Sp} (lk:K.lookup f=some ⟨oc,od,.func (Q5 name qual params body scope dV kV doc pm an cdv ct),osl⟩) (hcd:W7 K cdv qual=true) (S:FnScope N ps scope)(len:∀vs H Q E,sp vs H Q E->vs.length=ps.length)(hbody:∀(A:Around) (outer:List Env) (s:Shared) (H:Hp) (vs:List V) (Q:VK) (E:XK),Room k (A.deeper (envOfC qual scope s.heap.objs.size f cdv))->sp vs H Q E -> ∃t,PSs (IY CX P w K mg base N qual scope f cdv A outer s H E) body t/\t { nx:=λ_ H'=>Q .non H',rt:=Q } (start N vs) H):FnOk P w K mg base CX (k+1) f (Q5 name qual params body scope dV kV doc pm an cdv ct) ps sp:=by
 refine ⟨len,λA outer s H args us vs Q E hr e0 hb r hsp=>?_⟩;have hl:=len _ _ _ _ hsp;have KX:K.In s.heap:=e0.mod.kin.keeps λb o e=>(e0.bs b o e).1;have lim:s.heap.NoLimit:=e0.mod.nolimit.keeps λb o e=>(e0.bs b o e).1;have hkind:∀y∈ps.zip us,scope.names.lookup y.1=some .local\/(scope.names.lookup y.1=some .cell/\((cellsFrom (s.heap.objs.size+1) scope.names []).lookup y.1).isSome=true):=λ⟨n,v⟩ hy=>by
  rcases S.par n (m4 hy).1 with q|q
  ·exact .inl q
  ·exact .inr ⟨q,v7 _ _ _ (.inl q)⟩
 refine codeAny_call_function hr.depth (KX _ _ lk) rfl S.co S.gen rfl (PySem.W.codeRec_of KX hcd) (hb _ _ _ _ ?_);refine wpAny_newFunctionEnv_cells S.kind hkind λenv he s1 x=>?_;subst he;refine ⟨lim.keeps x.toInCall.keep,codeAny_func ?_⟩;obtain⟨t,ht,hq⟩:=hbody A outer s H vs Q E (hr.deeper _) hsp;have I:Inv (IY CX P w K mg base N qual scope f cdv A outer s H E) [] (start N vs) H s1:=EV S hr.hd e0 hl r x;refine wpAny_mono (ht [] s1 (start N vs) H _ I hq) (λfl s' hs=>?_) λe s' hs=>hs;have fin:∀{σ':St}{H':Hp}{v:V}{u:Value},Inv (IY CX P w K mg base N qual scope f cdv A outer s H E) [] σ' H' s'->RelV v u->Q v H'->CE outer P w H s Q u s':=λ{σ' H' v u} J rv q=>⟨v,H',J.os,J.bare,J.base,J.hok,rv,q⟩;cases fl with
 | ret u=>obtain⟨v,σ',H',J,rv,q⟩:=hs;exact fin J rv q
 | next=>obtain⟨σ',H',J,q⟩:=hs;exact fin (v:=V.non) (u:=S6) J rfl q
 | brk=>obtain⟨_,_,_,q⟩:=hs;exact False.elim q
 | cont=>obtain⟨_,_,_,q⟩:=hs;exact False.elim q
section
variable {X:Cx}{x:Str}{p pos:Pos}{e:Expr}{es:List Expr}{t:TA}{id T:String}{r:List V->Hp->VK->Prop}
def CC(r:List V->Hp->VK->Prop)(t:TA):TE:=λσ H Q=>t σ H λvs H1=>r vs H1 Q
theorem cH(hc:dX X (.builtin id) r)(hg:Gl X x)(hm:X.mg x=none)(hv:bootBuiltins x=some (.builtin id))(ha:PA X (e :: es) t)(hn:x ≠ "__name__":=by decide)(hdb:(x==("__debug__":Str))=false:=by decide)
  (he:starEach (e :: es) X.env=(false,eval e X.env) :: starEach es X.env:=by rfl) (hpl:(backTo pos (starEach es X.env)).any (·.1)=false:=by rfl):PE X (.Call (.Name x p) (e :: es) [] pos) (CC r t):=by
 intro pins s σ H Q I h;refine wpAny_Call_Name_kw (WZ I hg hm hv ?_ hn hdb);exact PyProof.Rows.callWith_builtin1 (hX (ha pos pins s σ H _ I h) λus s1 ⟨vs,H1,I1,r1,q1⟩=>hc pins s1 σ H1 vs us Q I1 r1 q1) he hpl
theorem LZ(hc:dX X (.type T) r)(hg:Gl X x)(hm:X.mg x=none)(hv:bootBuiltins x=some (.type T))(ha:PA X (e :: es) t)(hn:x ≠ "__name__":=by decide)(hdb:(x==("__debug__":Str))=false:=by decide)
  (he:starEach (e :: es) X.env=(false,eval e X.env) :: starEach es X.env:=by rfl) (hpl:(backTo pos (starEach es X.env)).any (·.1)=false:=by rfl):PE X (.Call (.Name x p) (e :: es) [] pos) (CC r t):=by
 intro pins s σ H Q I h;refine wpAny_Call_Name_kw (WZ I hg hm hv ?_ hn hdb);exact Y3 (hX (ha pos pins s σ H _ I h) λus s1 ⟨vs,H1,I1,r1,q1⟩=>hc pins s1 σ H1 vs us Q I1 r1 q1) he hpl
end
end L2
variable {r:List L2.V->L2.Hp->L2.VK->Prop}{σ:L2.St}{H:L2.Hp}{ys:List L2.V}{X:L2.Cx}
namespace HT
noncomputable def lexLt:List Int->List Int->Bool
 | [],[]=>false
 | [],_ :: _=>true
 | _ :: _,[]=>false
 | x :: xs,y :: ys=>if x=y then lexLt xs ys else decide (x < y)
theorem lexLt_cons(x y:Int)(xs ys:List Int):lexLt (x :: xs) (y :: ys)=if x=y then lexLt xs ys else decide (x < y):=rfl
theorem bV:lexLt [] []=false:=rfl
theorem jW(y:Int)(ys:List Int):lexLt [] (y :: ys)=true:=rfl
theorem kW(x:Int)(xs:List Int):lexLt (x :: xs) []=false:=rfl
theorem Hz(A:Around)(s:Shared)(a:Int)(t:Tok)(c:Int)(u:Tok):∃e,SeqAt.EqAt A s (.int a t) (.int c u) e/\(e=true ↔ a=c):=⟨(a==c),SeqAt.EqAt.int_int a t c u,by simp⟩
theorem Iz(A:Around)(s:Shared)(a:Int)(t:Tok)(c:Int)(u:Tok)(prog:Program)(w:World)(E:Value->Shared->Prop)(Q:Value->Shared->Prop)(h:Q (.bool (decide (a < c))) s):wpAny (model prog w) A (richCompare .Lt (.int a t) (.int c u)) Q E s:=
 (PyProof.Rows.lt_int h:wpAny (model prog w) A (compareOp .Lt (.int a t) (.int c u)) Q E s)
section
open PySem.SeqAt
open PySem.AutoSeq1 (wpAny_loadPart')
open PySem.MeetsSeq PySem.MeetsSeq2 PySem.MeetsSeq3
theorem cV(l b:Addr)(items items2:Array Value)(n n2:Nat)(dd dd2:Option Addr)(sl sl2:Array (Option Value))(ns ms:List Int)(hi:IntsAre items.toList ns)(hj:IntsAre items2.toList ms):Meets (Builtin.«tuple.__lt__» ⟨[.ref l,.ref b],[]⟩) (λ_ R s=>s.heap.get? l=some { cls:=.type "tuple",dict:=dd,data:=.seq items n,slots:=sl }/\s.heap.get? b=some { cls:=.type "tuple",dict:=dd2,data:=.seq items2 n2,slots:=sl2 } /\ R (.ok (.ret (.bool (lexLt ns ms)))) s):=
 .of_wp λprog w A R s h=>by
  obtain⟨hp,g,d,tk,os⟩:=s;obtain⟨hl,hb,h⟩:=h;have f2:=AutoSeq1.sub_tuple_tuple;have z1:items.size=ns.length:=by rw[<- hi.length];simp
  have z2:items2.size=ms.length:=by rw[<- hj.length];simp
  wp_walk using wpAny_loadPart' hl,wpAny_loadPart' hb,wpAny_forIn_list _ (λrest b s'=>b.1=none/\s'=⟨hp,g,d,tk,os⟩/\∃(vs ws:List Value) (ns' ms':List Int),rest=vs.zip ws /\
    IntsAre vs ns'/\IntsAre ws ms'/\ns'.length+items2.size=ms'.length+items.size/\R (.ok (.ret (.bool (lexLt ns' ms')))) ⟨hp,g,d,tk,os⟩) _
  case turn =>
   rintro⟨y,x⟩ rest b s' ⟨hb',rfl,vs,ws,ns',ms',hz,hvi,hwi,hlen,hR⟩;cases hvi with
   | nil=>rw[List.zip_nil_left]at hz;cases hz
   | cons a t hvi' =>
    cases hwi with
    | nil=>rw[List.zip_nil_right]at hz;cases hz
    | cons c u hwi' =>
     rw[i4]at hz;injection hz with hyx hrest;injection hyx with hy hx;subst hy hx;rw[lexLt_cons]at hR;simp only[X2]at hlen;obtain⟨e,he,hiff⟩:=Hz A.in1 ⟨hp,g,d,tk,os⟩ a t c u;refine wpAny_bind (he prog w _ _ ?_);cases e with
     | true =>
      rw[if_pos (hiff.mp rfl)]at hR
      wp_walk
      exact ⟨rfl,rfl,_,_,_,_,hrest,hvi',hwi',by omega,hR⟩
     | false =>
      rw[if_neg (λq=>absurd (hiff.mpr q) T0)]at hR;have hri:=Iz A.in1 ⟨hp,g,d,tk,os⟩ a t c u prog w
      wp_walk using hri
      exact ⟨_,rfl,by simpa using hR⟩
  case fin =>
   rintro⟨b1,b2⟩ s' ⟨hb',rfl,vs,ws,ns',ms',hz,hvi,hwi,hlen,hR⟩;simp only at hb';subst hb';have hv:lexLt ns' ms'=decide (items.size < items2.size):=by
    cases hvi with
    | nil =>
     cases hwi with
     | nil=>simp only[P6]at hlen;rw[bV];exact (decide_eq_false (by omega)).symm
     | cons c u hw=>simp only[P6,X2]at hlen;rw[jW];exact (decide_eq_true (by omega)).symm
    | cons a t hv =>
     cases hwi with
     | nil=>simp only[P6,X2]at hlen;rw[kW];exact (decide_eq_false (by omega)).symm
     | cons c u hw=>rw[i4]at hz;cases hz
   rw[hv]at hR
   wp_walk
   exact ⟨_,rfl,by simpa [Builtin.Tuple.tupleCompareSizes]using hR⟩
  case h=>exact ⟨rfl,rfl,items.toList,items2.toList,ns,ms,rfl,hi,hj,by omega,h⟩
end
theorem lt_tupInts{l b:Addr}{items items2:Array Value}{ns ms:List Int}(hl:IsTup s.heap l items)(hb:IsTup s.heap b items2)(hi:IntsAre items.toList ns)(hj:IntsAre items2.toList ms)(hu:A.units < cLine) (h:Q (.bool (lexLt ns ms)) s):wpAny (model prog w) A (compareOp .Lt (.ref l) (.ref b)) Q E s:=by
 obtain⟨⟨cls,dd,data,sl⟩,ho,hc,n,hd⟩:=id hl;obtain⟨⟨cls2,dd2,data2,sl2⟩,ho2,hc2,n2,hd2⟩:=id hb;simp only at hc hd hc2 hd2;subst hc hd hc2 hd2;exact richCompare_meets_room (op:=.Lt) ⟨_,ho,rfl⟩ ⟨_,ho2,rfl⟩ PySem.F.slot_tuple_lt PySem.F.entry_tuple_lt (PySem.F.args_tuple_lt_2 _ _) (cV l b items items2 n n2 dd dd2 sl sl2 ns ms hi hj)
  ⟨ho,ho2,show dQ (lexLt ns ms)≠o9/\Q (.bool (lexLt ns ms)) s from ⟨(λx=>nomatch x),h⟩⟩ hu
theorem cat_tup{t b:Addr}{vs ws:List Value}(ht:IsTup s.heap t vs.toArray)(hb:IsTup s.heap b ws.toArray)(hv:vs≠[])(h1:ws=[]->Q (.ref t) s) (h2:ws≠[]->Q (.ref s.heap.objs.size) { s with heap:=s.heap.push { cls:=.type "tuple",data:=.seq (vs++ws).toArray } })(hsz:vs.length+ws.length<=sizeLine):wpAny (model prog w) A (binaryOp .Add (.ref t) (.ref b)) Q E s:=by
 obtain⟨⟨cls,dd,data,sl⟩,ho,hc,n,hd⟩:=id ht;obtain⟨⟨cls2,dd2,data2,sl2⟩,ho2,hc2,n2,hd2⟩:=id hb;simp only at hc hd hc2 hd2;subst hc hd hc2 hd2;have e:vs.toArray++ws.toArray=(vs++ws).toArray:=by simp
 by_cases hw:ws=[]
 ·exact concat_meets ⟨_,ho,rfl⟩ ⟨_,ho2,rfl⟩ noFill_tuple_add seq_tuple_add PySem.F.slot_tuple_add PySem.F.entry_tuple_add (PySem.F.args_tuple_add_2 _ _)
   (tuple_addW1 t b vs.toArray ws.toArray n n2 dd dd2 sl sl2 (by simpa using hv) (by simp[hw])) ⟨ho,ho2,h1 hw⟩
 ·refine concat_meets ⟨_,ho,rfl⟩ ⟨_,ho2,rfl⟩ noFill_tuple_add seq_tuple_add PySem.F.slot_tuple_add PySem.F.entry_tuple_add (PySem.F.args_tuple_add_2 _ _)
   (tuple_addW2 t b vs.toArray ws.toArray n n2 dd dd2 sl sl2 (by simpa using hv) (by simpa using hw) (by rw[N0,N0];exact hsz)) ⟨ho,ho2,?_⟩;rw[e];exact h2 hw
noncomputable def sIx(n d:Nat):Option Int->Nat
 | none=>d
 | some v=>if v < 0 then (v+(n:Int)).toNat else min v.toNat n
theorem DC(n d:Nat)(hd:d<=n)(o:Option Int):sIx n d o<=n:=by
 cases o with
 | none=>exact hd
 | some v =>
  show (if v < 0 then (v+(n:Int)).toNat else min v.toNat n)<=n;by_cases hv:v < 0
  ·rw[if_pos hv];omega
  ·rw[if_neg hv];exact Nat.min_le_right _ _
theorem zF(v:Int)(n d:Nat):(if v < 0 then max (v+(n:Int)) 0 else min v (n:Int))=((sIx n d (some v):Nat):Int):=by
 show (if v < 0 then max (v+(n:Int)) 0 else min v (n:Int))=(((if v < 0 then (v+(n:Int)).toNat else min v.toNat n):Nat):Int);by_cases hv:v < 0
 ·simp only[if_pos hv];omega
 ·simp only[if_neg hv];omega
theorem lG(lo hi:Option Int)(n:Nat):L6 lo hi 1 (n:Int)=(((sIx n 0 lo:Nat):Int),((sIx n n hi:Nat):Int)):=by
 have h1:¬((1:Int) < 0):=by omega
 unfold L6;simp only[h1,if_false];refine Prod.ext ?_ ?_
 ·cases lo with
  | none=>rfl
  | some v=>exact zF v n 0
 ·cases hi with
  | none=>rfl
  | some v=>exact zF v n n
theorem mG(i j:Nat):L5 (i:Int) (j:Int) 1=j - i:=by
 unfold L5;have h1:(1:Int) > 0:=by omega
 simp only[h1,if_true,Int.ediv_one];split<;>omega
theorem lW{v:Value}{o:Option Int}{Q:Option Int->Shared->Prop}(p:IsPart v o)(h:Q o s):wpAny (model prog w) A (Builtin.Slice.slicePartIndex v) Q E s:=by
 cases p with
 | none=>exact slicePart_none h
 | int i t=>exact slicePart_int h
theorem MZ{sl:Addr}{vl vu:Value}{lo hi:Option Int}{Q:Int×Int×Nat->Shared->Prop}(hs:s.heap.IsSliceOf sl vl vu .none)(pl:IsPart vl lo)(pu:IsPart vu hi)(h:Q (((sIx n 0 lo:Nat):Int),1,sIx n n hi - sIx n 0 lo) s):wpAny (model prog w) A (h8 (.ref sl) (pure (n:Int))) Q E s:=by
 obtain⟨os,hos,hcs,hds⟩:=id hs;unfold h8 Builtin.Slice.sliceFields;refine wpAny_bind (wpAny_bind (wpAny_field hos hds (x:=vl) rfl (wpAny_bind (wpAny_field hos hds (x:=vu) rfl (wpAny_bind (wpAny_field hos hds (x:=.none) rfl (wpAny_pure ?_)))))));refine wpAny_bind (slicePart_none ?_);show wpAny _ _ (if ((1:Int)==0)=true then _ else _) _ _ s;rw[if_neg (by decide)];refine wpAny_bind (lW pl (wpAny_bind (lW pu (wpAny_bind (wpAny_pure ?_)))));show wpAny _ _ (match L6 lo hi 1 (n:Int) with|(lo,hi)=>pure (lo,(1:Int),L5 lo hi 1)) _ _ s;rw[lG lo hi n];show wpAny _ _ (pure (((sIx n 0 lo:Nat):Int),(1:Int),L5 ((sIx n 0 lo:Nat):Int) ((sIx n n hi:Nat):Int) 1)) _ _ s;rw[mG];exact wpAny_pure h
theorem Jz(xs:Array Value)(i k:Nat):((N1 k).filterMap λ(m:Nat)=>xs[((i:Int)+(m:Int) * 1).toNat]?).toArray=((xs.toList.drop i).take k).toArray:=by
 have e:(λ(m:Nat)=>xs[((i:Int)+(m:Int) * 1).toNat]?)=λm=>xs[i+m]?:=by
  funext m;have:((i:Int)+(m:Int) * 1).toNat=i+m:=by omega
  rw[this]
 rw[e];have:=pick_run xs i k;rw[List.filterMap_map]at this;have e2:((λx=>xs[x]?) ∘ λx=>i+x)=λm=>xs[i+m]?:=rfl;rw[e2]at this;rw[this]
theorem getItem_tuple_cut{t sl:Addr}{items:Array Value}{vl vu:Value}{lo hi:Option Int}(ht:IsTup s.heap t items)(hs:s.heap.IsSliceOf sl vl vu .none)(pl:IsPart vl lo)(pu:IsPart vu hi)(hw:¬(sIx items.size 0 lo=0/\sIx items.size items.size hi=items.size))(h:Q (.ref s.heap.objs.size) { s with heap:=s.heap.push { cls:=.type "tuple",data:=.seq ((items.toList.drop (sIx items.size 0 lo)).take (sIx items.size items.size hi - sIx items.size 0 lo)).toArray } })(hsz:items.size<=sizeLine):wpAny (model prog w) A (getItem (.ref t) (.ref sl)) Q E s:=by
 have htake:sizeOk (.seq ((items.toList.drop (sIx items.size 0 lo)).take (sIx items.size items.size hi - sIx items.size 0 lo)).toArray):=by show ((items.toList.drop (sIx items.size 0 lo)).take (sIx items.size items.size hi - sIx items.size 0 lo)).toArray.size<=sizeLine;rw[N0,U1,V1,S0];omega
 have hj:sIx items.size items.size hi<=items.size:=DC _ _ (u0 _) hi;obtain⟨os,hos,hcs,hds⟩:=id hs;have hTs:s.TypeIs (.ref sl) "slice":=⟨os,hos,hcs⟩;unfold getItem;try with_reducible refine wpAny_holding ?_
 first|refine wpAny_bind (wpAny_pure ?_)|skip
 refine wpAny_bind (wpAny_sequenceKey ht.typeIs (by decide) ?_);refine wpAny_bind (wpAny_callSpecial?_slot (name:=Str.ofString "__getitem__") ht.typeIs T4
   (wpAny_call_entry T4 ht.typeIs entry_tuple_getitem ?_ (args_tuple_getitem _ _)));show wpAny _ _ (J6 (.ref t) >>= _) _ _ s;refine wpAny_bind (tupleItemsOf_ ht ?_);refine wpAny_bind (wpAny_typeOf hTs ?_);rw[if_pos (by decide)];refine wpAny_bind (MZ hs pl pu ?_);have hno:¬((((sIx items.size 0 lo:Nat):Int)==0&&(1:Int)==1&&(sIx items.size items.size hi - sIx items.size 0 lo)==items.size)=true):=by
  intro q;rw[J1,J1]at q;have q1:((sIx items.size 0 lo:Nat):Int)=0:=eq_of_beq q.1.1;have q2:sIx items.size items.size hi - sIx items.size 0 lo=items.size:=eq_of_beq q.2;exact hw ⟨by omega,by omega⟩
 show wpAny _ _ (if (((sIx items.size 0 lo:Nat):Int)==0&&(1:Int)==1&&(sIx items.size items.size hi - sIx items.size 0 lo)==items.size)=true then _ else _) _ _ s;rw[if_neg hno,Jz];first
  | exact wpAny_bind (m:=W5 _) (wpAny_newObj_type (wpAny_pure ⟨_,rfl,wpAny_pure h⟩) htake)
  | exact wpAny_bind (m:=W5 _) (wpAny_newObj_type (wpAny_bind (wpAny_pure (wpAny_pure ⟨_,rfl,wpAny_pure h⟩))) htake)
  | exact wpAny_bind (wpAny_bind (m:=W5 _) (wpAny_newObj_type (wpAny_pure (wpAny_pure ⟨_,rfl,wpAny_pure h⟩)) htake))
  | exact wpAny_bind (wpAny_bind (m:=W5 _) (wpAny_newObj_type (wpAny_pure ⟨_,rfl,wpAny_pure h⟩) htake))
end HT
namespace L2
noncomputable abbrev TO:=St->Hp->(Option Int->Hp->Prop)->Prop
def PO(X:Cx)(e:Option Expr)(t:TO):Prop :=
 ∀(pins:List (Addr×Obj)) (s:Shared) (σ:St) (H:Hp) (Q:Option Int->Hp->Prop),Inv X pins σ H s->t σ H Q ->
  wpAny (model X.prog X.w) X.A (evalPart e X.env) (λu s'=>∃o H',Inv X pins σ H' s'/\IsPart u o/\Q o H') X.xe s
noncomputable def Kw:TO:=λ_ H Q=>Q none H
noncomputable def Kz(t:TE):TO:=λσ H Q=>t σ H λx H1=>∃i,x=.int i/\Q (some i) H1
theorem eX{ns:List Int}:∀{us:List Value},Vals (ns.map V.int) us->IntsAre us ns:=by
 induction ns with
 | nil=>intro us r;rw[Q8]at r;cases r;exact .nil
 | cons n ns ih =>
  intro us r;rw[T1]at r;cases r with
  | cons r1 r2=>obtain⟨t,e⟩:=r1;subst e;exact .cons n t (ih r2)
section
variable {e:Expr}{te:TE}{lo hi:Option Expr}{tl th:TO}{pos p2:Pos}
theorem PY:PO X none Kw:=by intro pins s σ H Q I h;rw[evalPart_none];exact wpAny_pure ⟨none,H,I,.none,h⟩
theorem EZ(h:PE X e te):PO X (some e) (Kz te):=by intro pins s σ H Q I hw;rw[evalPart_some];refine hX (h pins s σ H _ I hw) λu s1 ⟨x,H1,I1,r1,q1⟩=>?_;obtain⟨i,rfl,q⟩:=q1;obtain⟨t,rfl⟩:=r1;exact ⟨some i,H1,I1,.int i t,q⟩
def cO(X:Cx)(r:V->Option Int->Option Int->Hp->VK->Prop):Prop :=
 ∀(pins:List (Addr×Obj)) (s:Shared) (σ:St) (H:Hp) (x:V) (v vl vu:Value) (lo hi:Option Int) (sl:Addr) (Q:VK),Inv X pins σ H s->RelV x v->s.heap.IsSliceOf sl vl vu .none->IsPart vl lo->IsPart vu hi->r x lo hi H Q ->
  ∃T id,typeLookup (.type T) "__getitem__"=pure (some (.builtin id))/\s.TypeIs v T/\wpAny (model X.prog X.w) X.A (getItem v (.ref sl)) (EP X pins σ Q) X.xe s
def eR(r:V->Option Int->Option Int->Hp->VK->Prop)(te:TE)(tl th:TO):TE:=λσ H Q=>te σ H λx H1=>tl σ H1 λl H2=>th σ H2 λu H3=>r x l u H3 Q
theorem NZ{r:V->Option Int->Option Int->Hp->VK->Prop}(hr:cO X r)(he:PE X e te)(hl:PO X lo tl)(hu:PO X hi th):PE X (.Subscript e (.Slice lo hi none p2) pos) (eR r te tl th):=by intro pins s σ H Q I h;refine Subscript_ (hX (he pins s σ H _ I h) λv s1 ⟨x,H1,I1,r1,q1⟩=>?_);refine wpAny_Slice (hX (hl pins s1 σ H1 _ I1 q1) λvl s2 ⟨l,H2,I2,pl,q2⟩=>hX (hu pins s2 σ H2 _ I2 q2) λvu s3 ⟨u,H3,I3,pu,q3⟩=>?_);rw[evalPart_none];refine wpAny_pure ?_;have I4:Inv X pins σ H3 { s3 with heap:=s3.heap.push { cls:=.type "slice",data:=.fields #[vl,vu,.none] } }:=I3.kept (t':=s3.toks) λb ob q=>g0 _ q;obtain⟨T,id,hT,ht,hg⟩:=hr pins { s3 with heap:=s3.heap.push { cls:=.type "slice",data:=.fields #[vl,vu,.none] } } σ H3 x v vl vu l u s3.heap.objs.size Q I4 r1 (O9 ..) pl pu q3;show wpAny (model X.prog X.w) X.A (subscriptTail e (.Slice lo hi none p2) v (.ref s3.heap.objs.size)) (EP X pins σ Q) X.xe { s3 with heap:=s3.heap.push { cls:=.type "slice",data:=.fields #[vl,vu,.none] } };exact tail_any (ops:=[.ref s3.heap.objs.size,v]) ht hT hg (by with_unfolding_all rfl)
noncomputable def oJ(xs:List V)(lo hi:Option Int):List V:=(xs.drop (HT.sIx xs.length 0 lo)).take (HT.sIx xs.length xs.length hi - HT.sIx xs.length 0 lo)
theorem zY(xs:List V)(lo hi:Option Int):(oJ xs lo hi).length<=xs.length:=by unfold oJ;rw[U1,V1];omega
def MO(K:n0):V->Option Int->Option Int->Hp->VK->Prop:=λx lo hi H Q=>∃a xs,x=.ref a/\SqT K H a xs /\
 ¬(HT.sIx xs.length 0 lo=0/\HT.sIx xs.length xs.length hi=xs.length)/\∀p,H p=none->Q (.ref p) (UQ H p (.tup (oJ xs lo hi)))
theorem EC:cO X (MO X.K):=by
 intro pins s σ H x v vl vu lo hi sl Q I rx hs pl pu h;obtain⟨a,xs,rfl,hx,hw,q⟩:=h;cases rx;obtain⟨its,r,ht,hz⟩:=I.tuple hx;have hlen:its.toArray.size=xs.length:=by rw[N0];exact r.length.symm
 refine ⟨"tuple",_,T4.lookup,ht.typeIs,?_⟩;refine HT.getItem_tuple_cut ht hs pl pu (by rw[hlen];exact hw) ?_ (by rw[hlen];exact hz);rw[hlen];refine ⟨.ref s.heap.objs.size,_,I.laid (t':=s.toks) (o:=.tup (oJ xs lo hi)) (λb ob q=>g0 _ q) (u0 _) ?_,rfl,q _ (I.hok.fresh (u0 _))⟩;exact ⟨Q0 (zY xs lo hi) hz,_,(r.drop (HT.sIx xs.length 0 lo)).take (HT.sIx xs.length xs.length hi - HT.sIx xs.length 0 lo),IsTupD.new _ _⟩
def QL(K:n0):R2:=λx y H Q=>∃a b xs ys,x=.ref a/\y=.ref b/\SqT K H a xs/\SqT K H b ys/\xs≠[]/\xs.length+ys.length<=sizeLine /\
 (ys=[]->Q (.ref a) H)/\(ys≠[]->∀p,H p=none->Q (.ref p) (UQ H p (.tup (xs++ys))))
theorem Vals.nil_iff{xs:List V}(r:Vals xs us):us=[] ↔ xs=[]:=by
 cases r with
 | nil=>simp
 | cons _ _=>simp
theorem Lw:OpR X (binaryOp .Add) (QL X.K):=by intro pins s σ H x y v u Q I rx ry h;obtain⟨a,b,xs,ys,rfl,rfl,ha,hb,hx,hz,q1,q2⟩:=h;cases rx;cases ry;obtain⟨its,r1,p1,_⟩:=I.tuple ha;obtain⟨its2,r2,p2,_⟩:=I.tuple hb;refine HT.cat_tup p1 p2 (λz=>hx (r1.nil_iff.mp z)) (λz=>⟨.ref a,H,I,rfl,q1 (r2.nil_iff.mp z)⟩) (λz=>?_) (by rw[<- r1.length,<- r2.length];exact hz);refine ⟨.ref s.heap.objs.size,_,I.laid (t':=s.toks) (o:=.tup (xs++ys)) (λb ob q=>g0 _ q) (u0 _) ?_,rfl,q2 (λw=>z (r2.nil_iff.mpr w)) _ (I.hok.fresh (u0 _))⟩;exact ⟨by rw[M0];exact hz,_,r1.append r2,IsTupD.new _ _⟩
end
noncomputable def Lz(n:Nat)(i:Int):Option Nat:=if 0<=i then (if i < n then some i.toNat else none) else if -(n:Int)<=i then some (i+n).toNat else none
noncomputable def aV{α:Type}(xs:List α)(i:Int):Option α:=(Lz xs.length i).bind λj=>xs[j]?
theorem AF{i:Int}{j:Nat}(h:Lz n i=some j):seqIndex? i n=some j/\j < n/\-(n:Int)<=i/\i < n:=by
 unfold Lz at h;by_cases h0:0<=i
 ·rw[if_pos h0]at h;by_cases h1:i < n
  ·rw[if_pos h1]at h;have e:i.toNat=j:=X1 h;exact ⟨by rw[seqIndex_of h0 h1,e],by omega,by omega,h1⟩
  ·rw[if_neg h1]at h;cases h
 ·rw[if_neg h0]at h;by_cases h1:-(n:Int)<=i
  ·rw[if_pos h1]at h;have e:(i+n).toNat=j:=X1 h;exact ⟨by rw[seqIndex_neg (by omega) h1,e],by omega,h1,by omega⟩
  ·rw[if_neg h1]at h;cases h
theorem BF{α:Type}{xs:List α}{i:Int}{v:α}(h:aV xs i=some v):∃j,seqIndex? i xs.length=some j/\xs[j]?=some v/\j < xs.length/\-(xs.length:Int)<=i/\i < xs.length:=by
 unfold aV at h;cases e:Lz xs.length i with
 | none=>rw[e]at h;cases h
 | some j=>rw[e]at h;obtain⟨h1,h2,h3,h4⟩:=AF e;exact ⟨j,h1,h,h2,h3,h4⟩
theorem EX{α:Type}{xs:List α}{j:Nat}{v:α}(h:xs[j]?=some v):aV xs (j:Int)=some v:=by
 have hj:j < xs.length:=(V0.mp h).1;have e:Lz xs.length (j:Int)=some j:=by unfold Lz;rw[if_pos (by omega),if_pos (by omega)];simp
 unfold aV;rw[e];exact h
def CF(b:Expr):Prop:=∀o i,subscripted b false o i=operate [o,i] (getItem o i)
def IxR(X:Cx)(r:R2):Prop :=
 ∀(value slice:Expr) (pins:List (Addr×Obj)) (s:Shared) (σ:St) (H:Hp) (x y:V) (v u:Value) (Q:VK),Inv X pins σ H s->RelV x v->RelV y u->r x y H Q ->
  subscripted slice false v u=operate [v,u] (getItem v u)->wpAny (model X.prog X.w) X.A (subscriptTail value slice v u) (EP X pins σ Q) X.xe s
def fR(X:Cx)(id:String)(r:V->List V->Hp->VK->Prop):Prop :=
 ∀(pins:List (Addr×Obj)) (s:Shared) (σ:St) (H:Hp) (x:V) (xs:List V) (v:Value) (us:List Value) (Q:VK),Inv X pins σ H s->RelV x v->Vals xs us->r x xs H Q ->
  wpAny (model X.prog X.w) X.A (call (.builtin id) (v :: us)) (EP X pins σ Q) X.xe s
section
variable {a b:Expr}{ta tb:TE}{pos:Pos}
theorem IxR.or{r r':R2}(h:IxR X r)(h':IxR X r'):IxR X (λx y H Q=>r x y H Q\/r' x y H Q):=by
 intro value slice pins s σ H x y v u Q I rx ry q hs;rcases q with q|q
 ·exact h value slice pins s σ H x y v u Q I rx ry q hs
 ·exact h' value slice pins s σ H x y v u Q I rx ry q hs
theorem RL{r:R2}(hr:IxR X r)(ha:PE X a ta)(hb:PE X b tb)(hs:CF b):PE X (.Subscript a b pos) (Cu r ta tb):=by intro pins s σ H Q I h;exact Subscript_ (uC ha hb I h λv u s2 x y H2 I2 rx ry q=>hr a b pins s2 σ H2 x y v u Q I2 rx ry q (hs _ _))
def Mw(K:n0):R2:=λx y H Q=>∃p xs i v,x=.ref p/\y=.int i/\SqL K H p xs/\aV xs i=some v/\Q v H
def Nw(K:n0):R2:=λx y H Q=>∃p xs i v,x=.ref p/\y=.int i/\SqT K H p xs/\aV xs i=some v/\Q v H
theorem Ow:IxR X (Mw X.K):=by
 intro value slice pins s σ H x y v u Q I rx ry h hs;obtain⟨p,xs,i,z,rfl,rfl,hq,he,q⟩:=h;cases rx;obtain⟨t,rfl⟩:=ry;obtain⟨its,r,pl,hz⟩:=I.list hq;obtain⟨j,h1,h2,h3,h4,h5⟩:=BF he;obtain⟨w,ew,rw'⟩:=r.get h2;have hl:=r.length;have hn:=gW;have fin:EP X pins σ Q w s:=⟨z,H,I,rw',q⟩;by_cases h0:0<=i
 ·have hj:i.toNat=j:=by
   rw[seqIndex_of h0 h5]at h1;exact X1 h1
  exact item_listR pl.isList h0 (by omega) (by rw[hj];simpa using ew) fin hs
 ·have hj:(i+(its.toArray.size:Int)).toNat=j:=by
   rw[seqIndex_neg (by omega) h4]at h1;rw[N0,<- hl];exact X1 h1
  exact subscriptTail_builtinR (x:=w) pl.isList.typeIs slot_list_getitem.lookup
   (wpAny_getItem_list_neg (Q:=λr s'=>r=w/\EP X pins σ Q r s') pl.isList (by omega) (by rw[N0]<;>omega) (by omega) (by rw[hj];simpa using ew) ⟨rfl,fin⟩) hs
theorem FC:IxR X (Nw X.K):=by
 intro value slice pins s σ H x y v u Q I rx ry h hs;obtain⟨p,xs,i,z,rfl,rfl,hq,he,q⟩:=h;cases rx;obtain⟨t,rfl⟩:=ry;obtain⟨its,r,pl,hz⟩:=I.tuple hq;obtain⟨j,h1,h2,h3,h4,h5⟩:=BF he;obtain⟨w,ew,rw'⟩:=r.get h2;have hl:=r.length;have hn:=gW;have fin:EP X pins σ Q w s:=⟨z,H,I,rw',q⟩;exact subscriptTail_builtinR (x:=w) pl.typeIs slot_tuple_getitem.lookup
  (getItem_tuple (j:=j) (Q:=λr s'=>r=w/\EP X pins σ Q r s') pl (by omega) (by omega) (by rw[N0,<- hl];exact h1) (by simpa using ew) ⟨rfl,fin⟩) hs
theorem nG(its:List Value)(n j:Nat)(u:Value):B2 (·.setIfInBounds j u) { cls:=.type "list",data:=.seq its.toArray n }={ cls:=.type "list",data:=.seq (its.set j u).toArray n }:=by simp[B2]
theorem Inv.lst{p:Addr}{xs:List V}(I:Inv X pins σ H s)(h:H p=some (.lst xs)):∃(its:List Value) (n:Nat),Vals xs its/\s.heap.get? p=some { cls:=.type "list",data:=.seq its.toArray n }/\xs.length<=sizeLine:=by
 obtain⟨z,its,n,r,e⟩:=I.hok p _ h;exact ⟨its,n,r,e,z⟩
theorem Inv.lstUpd{p:Addr}{xs:List V}{its':List Value}{n':Nat}{f:Obj->Obj}(I:Inv X pins σ H s)(h:H p=some (.lst xs))(ho:s.heap.get? p=some { cls:=.type "list",data:=.seq its.toArray n }) (hf:f { cls:=.type "list",data:=.seq its.toArray n }={ cls:=.type "list",data:=.seq its'.toArray n' }) (r:Vals ys its') (hz:ys.length<=sizeLine) (t:Nat):Inv X pins σ (UQ H p (.lst ys)) { s with heap:=s.heap.update p f,toks:=t }:=by
 have e:(s.heap.update p f).get? p=some { cls:=.type "list",data:=.seq its'.toArray n' }:=by rw[w6 f ho (by rw[hf]<;>rfl),hf]
 refine I.write (x:=p) (e:=p) (by rw[h];trivial) (.inl rfl) (λb u hb q=>(y7 _ _ (E3 hb)).trans q) ⟨_,e⟩ ?_;exact ⟨hz,its',n',r,e⟩
def FV:V->V->V->Hp->(Hp->Prop)->Prop:=λo i v H Q=>∃p xs k j,o=.ref p/\i=.int k/\H p=some (.lst xs)/\Lz xs.length k=some j/\Q (UQ H p (.lst (xs.set j v)))
theorem dH:lC X FV:=by
 intro pins s σ H o i v ov iv u Q I ro ri rv h;obtain⟨p,xs,k,j,rfl,rfl,hp,hj,q⟩:=h;cases ro;obtain⟨t,rfl⟩:=ri;obtain⟨its,n,r,ho,hz⟩:=I.lst hp;obtain⟨h1,h2,h3,h4⟩:=AF hj;have hl:=r.length;have hn:=gW;have I':Inv X pins σ (UQ H p (.lst (xs.set j v))) { s with heap:=s.heap.update p (B2 (·.setIfInBounds j u)) }:=I.lstUpd hp ho (nG its n j u) (r.set rv j) (by rw[o4];exact hz) s.toks;by_cases h0:0<=k
 ·have hk:k.toNat=j:=by
   rw[seqIndex_of h0 h4]at h1;exact X1 h1
  exact PySem.W.ki_setAt ho h0 (by omega) (by rw[N0,<- hl];exact h4) (by rw[hk];exact ⟨_,I',q⟩)
 ·have hk:(k+(its.toArray.size:Int)).toNat=j:=by
   rw[seqIndex_neg (by omega) h3]at h1;rw[N0,<- hl];exact X1 h1
  exact PySem.W.ki_setBack ho (by omega) (by rw[N0,<- hl];exact h3) (by omega) (by rw[hk];exact ⟨_,I',q⟩)
theorem iU(lo hi:Option Int)(n:Nat):(sliceBounds lo hi none n).1=((HT.sIx n 0 lo:Nat):Int)/\(sliceBounds lo hi none n).2.1=((HT.sIx n n hi:Nat):Int)/\(sliceBounds lo hi none n).2.2=1:=by
 refine ⟨?_,?_,rfl⟩
 ·cases lo with
  | none=>simp[sliceBounds,HT.sIx]
  | some i =>
   simp only[sliceBounds,HT.sIx,aQ,show (1:Int) > 0 by decide,if_true];by_cases h:i < 0
   ·simp only[h,if_true]<;>omega
   ·simp only[h,if_false]<;>omega
 ·cases hi with
  | none=>simp[sliceBounds,HT.sIx]
  | some i =>
   simp only[sliceBounds,HT.sIx,aQ,show (1:Int) > 0 by decide,if_true];by_cases h:i < 0
   ·simp only[h,if_true]<;>omega
   ·simp only[h,if_false]<;>omega
theorem eV(its:List Value)(lo hi:Option Int):slicePick its.toArray lo hi none=((its.drop (HT.sIx its.length 0 lo)).take (HT.sIx its.length its.length hi - HT.sIx its.length 0 lo)).toArray:=by obtain⟨h1,h2,h3⟩:=iU lo hi its.toArray.size;unfold slicePick;rw[h1,h2,h3];simp only[sliceRange_one,pick_run,N0]<;>rfl
def Pw(K:n0):V->Option Int->Option Int->Hp->VK->Prop:=λx lo hi H Q=>∃a xs,x=.ref a/\SqL K H a xs/\∀p,H p=none->Q (.ref p) (UQ H p (.lst (oJ xs lo hi)))
theorem jU:cO X (Pw X.K):=by intro pins s σ H x v vl vu lo hi sl Q I rx hs pl pu h;obtain⟨a,xs,rfl,hx,q⟩:=h;cases rx;obtain⟨its,r,ht,hz⟩:=I.list hx;have hlen:=r.length;refine ⟨"list",_,slot_list_getitem.lookup,ht.isList.typeIs,?_⟩;refine wpAny_getItem_list_slice ht.isList hs pl pu .none (by simp) ?_ (by rw[N0]<;>omega);rw[eV,<- hlen];refine ⟨.ref s.heap.objs.size,_,I.laid (t':=s.toks) (o:=.lst (oJ xs lo hi)) (λb ob q=>g0 _ q) (u0 _) ?_,rfl,q _ (I.hok.fresh (u0 _))⟩;exact ⟨Q0 (zY xs lo hi) hz,_,0,(r.drop (HT.sIx xs.length 0 lo)).take (HT.sIx xs.length xs.length hi - HT.sIx xs.length 0 lo),L0 _ rfl⟩
noncomputable def FK:V->Bool
 | .non=>true
 | .bl _=>true
 | .int _=>true
 | .str _=>true
 | _=>false
noncomputable def Qw:V->V->Bool
 | .non,.non=>true
 | .bl a,.bl b=>a==b
 | .bl a,.int b=>(if a then 1 else 0)==b
 | .int a,.bl b=>a==(if b then 1 else 0)
 | .int a,.int b=>a==b
 | .str a,.str b=>a==b
 | _,_=>false
theorem GC{y x:V}{v:Value}(ry:RelV y u)(rx:RelV x v)(fy:FK y=true)(fx:FK x=true):SeqAt.EqAt A s u v (Qw y x):=by
 cases y with
 | non =>
  cases ry;cases x with
  | non=>cases rx;exact SeqAt.EqAt.same _
  | bl b=>cases rx;exact SeqAt.EqAt.none_bool b
  | int b=>obtain⟨t,rfl⟩:=rx;exact SeqAt.EqAt.none_int b t
  | str b=>obtain⟨t,rfl⟩:=rx;exact SeqAt.EqAt.none_str b t
  | _=>exact absurd (show false=true from fx) T0
 | bl a =>
  cases ry;cases x with
  | non=>cases rx;exact SeqAt.EqAt.bool_none a
  | bl b=>cases rx;exact SeqAt.EqAt.bool_bool a b
  | int b=>obtain⟨t,rfl⟩:=rx;exact SeqAt.EqAt.bool_int a b t
  | str b=>obtain⟨t,rfl⟩:=rx;exact SeqAt.EqAt.bool_str a b t
  | _=>exact absurd (show false=true from fx) T0
 | int a =>
  obtain⟨t',rfl⟩:=ry;cases x with
  | non=>cases rx;exact SeqAt.EqAt.int_none a t'
  | bl b=>cases rx;exact SeqAt.EqAt.int_bool a t' b
  | int b=>obtain⟨t,rfl⟩:=rx;exact SeqAt.EqAt.int_int a t' b t
  | str b=>obtain⟨t,rfl⟩:=rx;exact SeqAt.EqAt.int_str a t' b t
  | _=>exact absurd (show false=true from fx) T0
 | str a =>
  obtain⟨t',rfl⟩:=ry;cases x with
  | non=>cases rx;exact SeqAt.EqAt.str_none a t'
  | bl b=>cases rx;exact SeqAt.EqAt.str_bool a t' b
  | int b=>obtain⟨t,rfl⟩:=rx;exact SeqAt.EqAt.str_int a t' b t
  | str b=>obtain⟨t,rfl⟩:=rx;exact SeqAt.EqAt.str_str a t' b t
  | _=>exact absurd (show false=true from fx) T0
 | _=>exact absurd (show false=true from fy) T0
noncomputable def Rw(x:V)(u:Value):Bool:=match u with
 | .none=>Qw .non x
 | .bool b=>Qw (.bl b) x
 | .int i _=>Qw (.int i) x
 | .str z _=>Qw (.str z) x
 | _=>false
theorem Mz{x y:V}(r:RelV y u)(f:FK y=true):Rw x u=Qw y x:=by
 cases y with
 | non=>cases r;rfl
 | bl b=>cases r;rfl
 | int i=>obtain⟨t,rfl⟩:=r;rfl
 | str z=>obtain⟨t,rfl⟩:=r;rfl
 | _=>exact absurd (show false=true from f) T0
theorem kU{x:V}:∀{xs:List V}{us:List Value},Vals xs us->xs.all FK=true->us.any (Rw x)=xs.any λy=>Qw y x
 | _,_,.nil,_=>rfl
 | y :: xs,u :: us,.cons r t,f=>by rw[y8,J1]at f;rw[F9,F9,Mz r f.1,kU t f.2]
theorem mW{x:V}{v:Value}(rx:RelV x v)(fx:FK x=true):∀{xs:List V}{us:List Value},Vals xs us->xs.all FK=true->∀u∈us,SeqAt.EqAt A s u v (Rw x u)
 | _,_,.nil,_=>λu hu=>by cases hu
 | y :: xs,u :: us,.cons r t,f=>λu' hu=>by
  rw[y8,J1]at f;rcases W0.mp hu with rfl|hu
  ·rw[Mz r f.1];exact GC r rx f.1 fx
  ·exact mW rx fx t f.2 u' hu
noncomputable def SL(x:V)(xs:List V):Bool:=xs.any λy=>Qw y x
def NO(K:n0)(neg:Bool):R2:=λx y H Q=>∃p xs,y=.ref p/\(SqL K H p xs\/SqT K H p xs)/\FK x=true/\xs.all FK=true/\Q (.bl (if neg then !SL x xs else SL x xs)) H
theorem bq:OpR X (compareOp .In) (NO X.K false):=by
 intro pins s σ H x y v u Q I rx ry h;obtain⟨p,xs,rfl,hq,fx,fs,q⟩:=h;cases ry;rcases hq with hq|hq
 ·obtain⟨its,r,pl,hz⟩:=I.list hq;refine SeqAt.in_listAt (Rw x) pl.isList (λw hw=>mW rx fx r fs w (by simpa using hw)) ⟨.bl _,H,I,rfl,?_⟩;rw[show its.toArray.any (Rw x)=its.any (Rw x) by simp,kU r fs];exact q
 ·obtain⟨its,r,pl,hz⟩:=I.tuple hq;refine SeqAt.in_tupleAt (Rw x) pl (λw hw=>mW rx fx r fs w (by simpa using hw)) ⟨.bl _,H,I,rfl,?_⟩;rw[show its.toArray.any (Rw x)=its.any (Rw x) by simp,kU r fs];exact q
theorem lU:dX X (.builtin "len") (λxs H Q=>∃p ys,xs=[.ref p]/\(SqL X.K H p ys\/SqT X.K H p ys)/\Q (.int ys.length) H):=by
 intro pins s σ H xs us Q I r h;obtain⟨p,ys,rfl,hq,q⟩:=h;obtain⟨u,rfl,rx⟩:=qZ r;cases rx;have hn:=gW;rcases hq with hq|hq
 ·obtain⟨its,r',pl,hz⟩:=I.list hq;have hlen:=r'.length;exact Calls.call_len_list pl.isList (by simp only[N0]<;>omega) ⟨.int ys.length,H,I.tok _,⟨s.toks+1,by rw[N0,hlen]⟩,q⟩
 ·obtain⟨its,r',pl,hz⟩:=I.tuple hq;have hlen:=r'.length;exact len_tuple pl (by simp only[N0]<;>omega) ⟨.int ys.length,H,I.tok _,⟨s.toks+1,by rw[N0,hlen]⟩,q⟩
theorem mU:dX X (.type "list") (λxs H Q=>∃p ys,xs=[.ref p]/\(SqL X.K H p ys\/SqT X.K H p ys)/\∀l,H l=none->Q (.ref l) (UQ H l (.lst ys))):=by
 intro pins s σ H xs us Q I r h;obtain⟨p,ys,rfl,hq,q⟩:=h;obtain⟨u,rfl,rx⟩:=qZ r;cases rx;have fin:∀(its:List Value),Vals ys its->ys.length<=sizeLine->∀(h':Heap) (c':Nat),(∀b o',s.heap.get? b=some o'->h'.get? b=some o') ->
   h'.get? s.heap.objs.size=some { cls:=.type "list",dict:=none,data:=.seq its.toArray c',slots:=#[] }->EP X pins σ Q (.ref s.heap.objs.size) { s with heap:=h' }:=λits r' hz h' c' kp e =>
  ⟨.ref s.heap.objs.size,_,I.laid (t':=s.toks) kp (u0 _) (show ObjOk X.prog X.w _ h' _ (.lst ys) from ⟨hz,its,c',r',e⟩),rfl,q _ (I.hok.fresh (u0 _))⟩;rcases hq with hq|hq
 ·obtain⟨its,r',pl,hz⟩:=I.list hq;have hlen:=r'.length;obtain⟨o,ho,hc,n,hd⟩:=pl.isList;exact call_list_seq p (.inl rfl) ho hc hd (λh' c' kp e=>fin its r' hz h' c' kp e) (by simp only[N0]<;>omega)
 ·obtain⟨its,r',pl,hz⟩:=I.tuple hq;have hlen:=r'.length;obtain⟨o,ho,hc,n,hd⟩:=pl;exact call_list_seq p (.inr rfl) ho hc hd (λh' c' kp e=>fin its r' hz h' c' kp e) (by simp only[N0]<;>omega)
theorem fV:dX X (.type "tuple") (λxs H Q=>∃p ys,xs=[.ref p]/\((SqL X.K H p ys/\∀l,H l=none->Q (.ref l) (UQ H l (.tup ys)))\/(SqT X.K H p ys/\Q (.ref p) H))):=by
 intro pins s σ H xs us Q I r h;obtain⟨p,ys,rfl,h⟩:=h;obtain⟨u,rfl,rx⟩:=qZ r;cases rx;rcases h with⟨hq,q⟩|⟨hq,q⟩
 ·obtain⟨its,r',pl,hz⟩:=I.list hq;have hlen:=r'.length;refine call_tuple_list pl.isList (λh' kp=>?_) (by simp only[N0]<;>omega);have I1:Inv X pins σ H { s with heap:=h' }:=I.kept (t':=s.toks) kp;have I2:Inv X pins σ (UQ H h'.objs.size (.tup ys)) { s with heap:=h'.push { cls:=.type "tuple",data:=.seq its.toArray } }:=I1.laid (t':=s.toks) (λb o e=>g0 _ e) (u0 _) (show ObjOk X.prog X.w _ _ _ (.tup ys) from ⟨hz,its,r',IsTupD.new _ _⟩);exact ⟨.ref h'.objs.size,_,I2,rfl,q _ (I1.hok.fresh (u0 _))⟩
 ·obtain⟨its,r',pl,hz⟩:=I.tuple hq;exact call_tuple_same pl ⟨.ref p,H,I,rfl,q⟩
def gR(K:n0)(T:String)(x:V)(H:Hp):Prop:=match x with
 | .str _=>T = "str"
 | .int _=>T = "int"
 | .ref p=>(T = "list"/\∃xs,SqL K H p xs)\/(T = "tuple"/\∃o,K.lookup p=some o/\o.cls=.type "tuple"/\o.dict=none) \/
   (T = "dict"/\((∃kvs,H p=some (.dK kvs))\/∃kvs,H p=some (.dT kvs)))\/(T = "set"/\∃S n,H p=some (.set S n))
 | _=>False
theorem HC{T:String}{x:V}{v:Value}(I:Inv X pins σ H s)(r:RelV x v)(ty:gR X.K T x H):s.TypeIs v T/\∀a,v=.ref a->∃ob,s.heap.get? a=some ob/\ob.dict=none:=by
 cases x with
 | str z=>obtain⟨t,rfl⟩:=r;cases (show T = "str" from ty);exact ⟨typeIs_str s z t,λ_ e=>nomatch e⟩
 | int i=>obtain⟨t,rfl⟩:=r;cases (show T = "int" from ty);exact ⟨typeIs_int s i t,λ_ e=>nomatch e⟩
 | ref p =>
  cases r;rcases ty with⟨rfl,xs,hq⟩|⟨rfl,o,hk,hc,hd⟩|⟨rfl,hk⟩|⟨rfl,S,n,hk⟩
  ·obtain⟨its,_,pl,_⟩:=I.list hq;refine ⟨pl.isList.typeIs,λa e=>?_⟩;cases e;obtain⟨o,n,e,c,hd,_⟩:=pl;exact ⟨o,e,hd⟩
  ·refine ⟨⟨o,I.kIn p o hk,hc⟩,λa e=>?_⟩;cases e;exact ⟨o,I.kIn _ o hk,hd⟩
  ·have z:∃o,s.heap.get? p=some o/\o.ExactDict:=by
    rcases hk with⟨kvs,hk⟩|⟨kvs,hk⟩
    ·obtain⟨_,_,_,_,o,_,_,e,ex,_⟩:=I.hok p _ hk;exact ⟨o,e,ex⟩
    ·obtain⟨_,_,_,_,o,_,_,e,ex,_⟩:=I.hok p _ hk;exact ⟨o,e,ex⟩
   obtain⟨o,e,ex⟩:=z;refine ⟨⟨o,e,ex.1⟩,λa e2=>?_⟩;cases e2;exact ⟨o,e,ex.2.1⟩
  ·obtain⟨o,_,_,_,e,ex,_⟩:=I.hok p _ hk;refine ⟨⟨o,e,ex.1⟩,λa e2=>?_⟩;cases e2;exact ⟨o,e,ex.2.1⟩
 | _=>exact False.elim ty
def iR(K:n0)(T:String)(r:V->List V->Hp->VK->Prop)(to:TE)(t:TA):TE:=λσ H Q=>to σ H λx H1=>gR K T x H1/\t σ H1 λxs H2=>r x xs H2 Q
variable {o e:Expr}{es:List Expr}{to:TE}{t:TA}{name:Str}{apos cpos:Pos}{T id:String}{r:V->List V->Hp->VK->Prop}
theorem TL(pa:PlainAttrs T)(slot:Slot T name id)(hty:typeOf (.builtin id)=pure (.type "method_descriptor"))(hm:fR X id r)(ho:PE X o to)(ha:PA X (e :: es) t)
  (hbase:attributeBase o name X.env (eval o X.env)=eval o X.env:=by rfl)
  (hfew:((backTo cpos (starEach (e :: es) X.env)).all (λx=>!x.1)&&(backToKw cpos (keywordEach [] X.env)).all (λx=>x.1.isSome)
    && decide ((e :: es).length+([]:List Keyword).length+(if ([]:List Keyword).isEmpty then 0 else 1) < 30))=true:=by rfl)
  (hline:(apos.endLine==cpos.line)=true:=by rfl) (hs:starEach (e :: es) X.env=(false,eval e X.env) :: starEach es X.env:=by rfl) (hplain:(backTo cpos (starEach es X.env)).any (·.1)=false:=by rfl) :
  PE X (.Call (.Attribute o name apos) (e :: es) [] cpos) (iR X.K T r to t):=by
 intro pins s σ H Q I h;refine wpAny_Call_method_late hbase hfew hline rfl (hX (ho pins s σ H _ I h) λv s1 ⟨x,H1,I1,r1,ty,q1⟩=>?_);obtain⟨h1,h2⟩:=HC I1 r1 ty;refine ⟨T,id,pa,slot,hty,h1,h2,?_⟩;have hA:=ha cpos pins s1 σ H1 _ I1 q1;rw[hs]at hA ⊢;refine Calls.callWith_builtin (by show (false||(backTo cpos (starEach es X.env)).any (·.1))=false;rw[hplain]<;>rfl) (Calls.evalArgs_plain ?_);exact hX hA λus s2 ⟨vs,H2,I2,r2,q2⟩=>hm pins s2 σ H2 x vs v us Q I2 r1 r2 q2
end
def jR(X:Cx)(id:String)(r:V->List V->Hp->VK->Prop):Prop :=
 ∀(pins:List (Addr×Obj)) (s:Shared) (σ:St) (H:Hp) (x:V) (xs:List V) (v:Value) (us:List Value) (Q:VK),Inv X pins σ H s->RelV x v->Vals xs us->r x xs H Q ->
  wpAny (model X.prog X.w) X.A (call (.builtin id) (v :: us)) (EP X pins σ Q) X.xe s
theorem Vals.one:∀{x:V}{us:List Value},Vals [x] us->∃u,us=[u]/\RelV x u
 | _,_,.cons r .nil=>⟨_,rfl,r⟩
theorem Vals.reverse{xs:List V}(h:Vals xs us):Vals xs.reverse us.reverse:=by
 induction h with
 | nil=>exact .nil
 | cons r t ih=>rw[o7,o7];exact Vals.append ih (.cons r .nil)
theorem Vals.rep{xs:List V}(h:Vals xs us):∀k:Nat,Vals (A1 k xs).flatten (A1 k us).flatten
 | 0=>.nil
 | k+1=>by rw[A4,A4,S5,S5];exact Vals.append h (Vals.rep h k)
theorem iY(its:List Value):∀(k:Nat) (acc:List Value), E7 (λx1 x2=>x1++x2) acc.toArray (A1 k its.toArray)=(acc++(A1 k its).flatten).toArray
 | 0,acc=>by simp
 | k+1,acc=>by
  have e:acc.toArray++its.toArray=(acc++its).toArray:=by simp
  have e2:(acc++its)++(A1 k its).flatten=acc++(A1 (k+1) its).flatten:=by rw[A4,S5,E2]
  rw[<- e2,<- iY its k (acc++its),<- e,A4,List.foldl_cons]
section
variable {l b:Addr}{xs zs:List V}
theorem Inv.lset{its':List Value}{f:Array Value->Array Value}(I:Inv X pins σ H s)(hH:H l=some (.lst xs))(e:s.heap.get? l=some { cls:=.type "list",data:=.seq its.toArray n }) (hf:f its.toArray=its'.toArray) (hv:Vals ys its') (hz:ys.length<=sizeLine):Inv X pins σ (UQ H l (.lst ys)) { s with heap:=s.heap.update l (B2 f),toks:=t' }:=by
 have q:=PySem.IsL.update e f;rw[hf]at q;refine I.write (x:=l) (e:=l) (by rw[hH];exact trivial) (.inl rfl) (λb' u hb hu=>(y7 s.heap (B2 f) (E3 hb)).trans hu) ⟨_,q⟩ ?_;exact ⟨hz,its',_,hv,q⟩
theorem Inv.lnew(I:Inv X pins σ H s)(hv:Vals ys its)(hz:ys.length<=sizeLine):Inv X pins σ (UQ H s.heap.objs.size (.lst ys)) { s with heap:=s.heap.push { cls:=.type "list",data:=.seq its.toArray },toks:=t' }:=
 I.laid (λ_ _ q=>g0 _ q) (u0 _) ⟨hz,its,0,hv,L0 _ rfl⟩
theorem Inv.fresh(I:Inv X pins σ H s):H s.heap.objs.size=none:=I.hok.fresh (u0 _)
theorem Inv.lstM(I:Inv X pins σ H s)(hH:H l=some (.lst xs)):xs.length<=sizeLine/\∃(its:List Value) (n:Nat),Vals xs its/\xs.length=its.length/\s.heap.get? l=some { cls:=.type "list",data:=.seq its.toArray n }:=by obtain⟨z,its,n,r,e⟩:=I.hok l _ hH;exact ⟨z,its,n,r,r.length,e⟩
theorem fH(h:n<=sizeLine):X5 n=false:=by unfold X5;exact decide_eq_false (by omega)
end
def DF:V->List V->Hp->VK->Prop:=λx vs H Q=>∃l xs y,x=.ref l/\vs=[y]/\H l=some (.lst xs)/\xs.length < sizeLine/\Q .non (UQ H l (.lst (xs++[y])))
theorem GX:jR X "list.append" DF:=by intro pins s σ H x vs v us Q I rx rv h;obtain⟨l,xs,y,rfl,rfl,hH,hz,q⟩:=h;cases rx;obtain⟨u,rfl,ru⟩:=rv.one;obtain⟨z,its,n,r,hl,e⟩:=I.lstM hH;refine call_meets F.slot_list_append ⟨_,e,rfl⟩ F.entry_list_append (F.args_list_append_2 _ _) (PySem.list_append l its.toArray n u (by rw[N0];omega)) ⟨e,?_⟩;refine ⟨.non,_,I.lset (its':=its++[u]) hH e (by simp) (r.append (.cons ru .nil)) ?_,rfl,q⟩;rw[M0,W3];omega
def EF:V->List V->Hp->VK->Prop:=λx vs H Q=>∃l b xs zs,x=.ref l/\vs=[.ref b]/\H l=some (.lst xs)/\H b=some (.lst zs)/\xs.length+zs.length<=sizeLine/\Q .non (UQ H l (.lst (xs++zs)))
theorem UJ:jR X "list.extend" EF:=by
 intro pins s σ H x vs v us Q I rx rv h;obtain⟨l,b,xs,zs,rfl,rfl,hH,hB,hz,q⟩:=h;cases rx;obtain⟨u,rfl,ru⟩:=rv.one;cases ru;obtain⟨z,its,n,r,hl,e⟩:=I.lstM hH;obtain⟨z2,its2,n2,r2,hl2,e2⟩:=I.lstM hB;have hsz:its.toArray.size+its2.toArray.size<=sizeLine:=by rw[N0,N0];omega
 have hlong:¬(!its.toArray.isEmpty&&X5 (its.toArray.size+its2.toArray.size))=true:=by rw[fH hsz,Bool.and_false];exact T0
 refine call_meets F.slot_list_extend ⟨_,e,rfl⟩ F.entry_list_extend (F.args_list_extend_2 _ _)
  (AutoSeq1.list_extend_list_list_0 l its.toArray n b its2.toArray n2 hlong (by rw[N0];omega) (by omega)) ⟨e,e2,?_⟩;refine ⟨.non,_,I.lset (its':=its++its2) hH e (by simp) (r.append r2) ?_,rfl,q⟩;rw[M0];omega
def IC:R2:=λx y H Q=>∃l b xs zs,x=.ref l/\y=.ref b/\H l=some (.lst xs)/\H b=some (.lst zs)/\xs.length+zs.length<=sizeLine/\∀p,H p=none->Q (.ref p) (UQ H p (.lst (xs++zs)))
theorem JC:OpR X (binaryOp .Add) IC:=by
 intro pins s σ H x y v u Q I rx ry h;obtain⟨l,b,xs,zs,rfl,rfl,hH,hB,hz,q⟩:=h;cases rx;cases ry;obtain⟨z,its,n,r,hl,e⟩:=I.lstM hH;obtain⟨z2,its2,n2,r2,hl2,e2⟩:=I.lstM hB;refine PySem.P.add_list e e2 ?_ (by rw[N0,N0];omega);have ea:its.toArray++its2.toArray=(its++its2).toArray:=by simp
 rw[ea];exact ⟨.ref _,_,I.lnew (t':=s.toks) (r.append r2) (by rw[M0];omega),rfl,q _ I.fresh⟩
def KC:R2:=λx y H Q=>∃l k xs,x=.ref l/\y=.int k/\H l=some (.lst xs)/\-(2 ^ 63)<=k/\k < 2 ^ 63/\xs.length * k.toNat<=sizeLine /\
 ∀p,H p=none->Q (.ref p) (UQ H p (.lst (A1 k.toNat xs).flatten))
theorem FF(xs:List α)(k:Nat):(A1 k xs).flatten.length=k * xs.length:=by
 induction k with
 | zero=>simp
 | succ k ih=>rw[A4,S5,M0,ih,Z6,Nat.add_comm]
theorem LC:OpR X (binaryOp .Mult) KC:=by
 intro pins s σ H x y v u Q I rx ry h;obtain⟨l,k,xs,rfl,rfl,hH,h1,h2,hz,q⟩:=h;cases rx;obtain⟨t,rfl⟩:=ry;obtain⟨z,its,n,r,hl,e⟩:=I.lstM hH;have hlen:its.toArray.size * k.toNat<=sizeLine:=by rw[N0,<- hl];exact hz
 have hcap:¬its.toArray.size * k.toNat > (2 ^ 63 - 1) / 8:=by
  have:(sizeLine:Nat)<=(2 ^ 63 - 1) / 8:=by decide
  omega
 have hfit:¬(!Builtin.List.listFitsIndex k)=true:=by rw[fitsIndex_both h1 h2];exact T0
 have hlong:¬X5 (its.toArray.size * k.toNat)=true:=by rw[fH hlen];exact T0
 have hnew:E7 (λx1 x2=>x1++x2) #[] (A1 (if its.toArray.isEmpty=true then 0 else k.toNat) its.toArray)=(A1 k.toNat its).flatten.toArray:=by
  have f0:∀m:Nat,E7 (λx1 x2=>x1++x2) #[] (A1 m its.toArray)=(A1 m its).flatten.toArray:=λm=>by have:=iY its m [];rw[Q7]at this;exact this
  rw[f0];cases its with
  | nil=>simp
  | cons a r'=>rw[if_neg (by simp)]
 refine wpAny_binaryOp_repeat_ref (T:="list") (U:="int") (by decide) ⟨_,e,rfl⟩ (λs'=>typeIs_int s' k t) noFill_list_mul F.fills_int_mul F.slot_int_rmul repeat_list F.slot_int_index.lookup
  (call_meets F.slot_int_rmul (typeIs_int s k t) F.entry_int_rmul (F.args_int_rmul_2 _ _) (int___rmul___int_list k t l its.toArray n)
    ⟨e,rfl,⟨_,e,rfl⟩,call_meets F.slot_list_mul ⟨_,e,rfl⟩ F.entry_list_mul (F.args_list_mul_2 _ _) (AutoListH.list___mul___list_int_3 l its.toArray n k t hfit hcap hlong) ⟨e,?_⟩⟩);rw[hnew];exact ⟨.ref _,_,I.lnew (t':=s.toks) (r.rep k.toNat) (by rw[FF,S9];exact hz),rfl,q _ I.fresh⟩
section
set_option maxRecDepth 100000 in
end
section
variable {κ:Type}[DecidableEq κ]
end
theorem UL{k:VZ}(r:RelV (kV k) u):(cZ P w).is k u=true:=by
 cases k with
 | inl i=>obtain⟨t,e⟩:=(show ∃t,u=t9 i t from r);subst e;exact XU P w i t
 | inr x=>obtain⟨t,e⟩:=(show ∃t,u=Value.str x t from r);subst e;exact YU P w x t
theorem GV:∀{ks:List VZ}{us:List Value},Vals (ks.map kV) us->ItemsAre (cZ P w) ks us
 | [],_,r=>by rw[Q8]at r;cases r;exact .nil
 | k :: ks,_,r=>by
  rw[T1]at r;cases r with
  | cons h t=>exact .cons (UL h) (GV t)
abbrev KT(H:Hp):List (List VZ×V)->List (List VZ×Addr×Value)->Prop:=Paired λp q=>p.1=q.1/\H q.2.1=some (.tup (p.1.map kV))/\RelV p.2 q.2.2
section
variable {a:Addr}
theorem Fu{u:HO}(ok:HOk P w H h)(e:Rd H a u):ObjOk P w H h a u:=e.ok ok
theorem VL{kvs:List (VZ×V)}(ok:HOk P w H h)(e:Rd H a (.dK kvs)):kvs.length<=sizeLine/\(a==sysModules)=false/\∃vs,KV kvs vs/\h.DictOf (cZ P w) a vs:=show ObjOk P w H h a (.dK kvs) from Fu ok e
theorem MC{ks:List VZ}(ok:HOk P w H h)(e:H a=some (.tup (ks.map kV))):(tupleKind (cZ P w)).is h ks a:=by obtain⟨_,its,r,o,h1,h2,n,h3,_⟩:=(show ObjOk P w H h a (.tup (ks.map kV)) from ok a _ e);exact ⟨o,its.toArray,n,h1,h2,h3,by simpa using GV r⟩
theorem WL{kvs:List (List VZ×V)}(ok:HOk P w H h)(e:Rd H a (.dT kvs)):kvs.length<=sizeLine/\(a==sysModules)=false /\ ∃xs,KT H kvs xs/\h.DictOfH (tupleKind (cZ P w)) a xs:=by
 obtain⟨z,y,xs,r,o,es,ep,h1,h2,h3,h4,h5⟩:=(show ObjOk P w H h a (.dT kvs) from Fu ok e);refine ⟨z,y,xs,r,o,es,ep,h1,h2,h3,h4,λx hx=>?_,h5⟩;have all:∀{l:List (List VZ×V)}{m:List (List VZ×Addr×Value)},KT H l m->∀x∈m,(tupleKind (cZ P w)).is h x.1 x.2.1:=by
  intro l m q;induction q with
  | nil=>intro x hx;exact nomatch hx
  | @cons p q ps qs hq t ih =>
   intro x hx;rcases W0.mp hx with e|hx
   ·subst e;exact MC ok (by rw[<- hq.1];exact hq.2.1)
   ·exact ih x hx
 exact all r x hx
end
section
variable {a:Addr}{y v:V}{r:Value}{o:Option V}
theorem Inv.big(I:Inv X pins σ H s):sysModules < s.heap.objs.size:=by have h:mainGlobals < s.heap.objs.size:=(I.mod.glob.keeps I.bk).lt;exact V7 (by decide) h
theorem Sw{ob:HO}(I:Inv X pins σ H s)(mu:CL (H a))(hs:X3 a s.heap h')(he:∃q,h'.get? a=some q)(new:ObjOk X.prog X.w (UQ H a ob) h' a ob):Inv X pins σ (UQ H a ob) { s with heap:=h',toks:=t' }:=
 I.write (x:=a) (e:=a) mu (.inl rfl) (λb q hb z=>(hs.2 b hb).trans z) he new
end
section
variable {a:Addr}{kvs:List (VZ×V)}{k:VZ}
end
def Nz(i:Expr):Prop:=∀ov iv,subscripted i false ov iv=operate [ov,iv] (getItem ov iv)
theorem GF{value slice:Expr}{pos:Pos}{T id:String}(hl:typeLookup (.type T) "__getitem__"=pure (some (.builtin id))) (hs:Nz slice)(h:wpAny (model prog w) A (eval value env) (λo s₁=>wpAny (model prog w) A (eval slice env) (λi s₂=>s₂.TypeIs o T/\wpAny (model prog w) A (getItem o i) Q E s₂) E s₁) E s):wpAny (model prog w) A (eval (.Subscript value slice pos) env) Q E s:=by
 refine Subscript_ (wpAny_mono h (λo s₁ h₁=>wpAny_mono h₁ (λi s₂ h₂=>?_) λ_ _ x=>x) λ_ _ x=>x);obtain⟨hT,h₂⟩:=h₂;unfold subscriptTail;refine wpAny_bind ?_;rw[getitemInPython_of_ne hT.not_modules];refine wpAny_bind (wpAny_specialOf hT hl ?_);have fin:wpAny (model prog w) A (subscripted slice false o i) (λr s₃=>wpAny (model prog w) A (letTemporaryGo value o r >>= λ_=>pure r) Q E s₃) E s₂:=by rw[hs o i];exact wpAny_operating (wpAny_mono h₂ (λr s₃ h₃=>wpAny_bind (wpAny_letTemporaryGo (wpAny_pure h₃))) λ_ _ x=>x)
 first
  | exact wpAny_pure (wpAny_bind fin)
  | exact wpAny_bind (wpAny_pure (wpAny_bind fin))
  | exact wpAny_bind fin
section
variable {o i e value:Expr}{pos tpos:Pos}{td ty tv:TE}
end
theorem Oz(h:Heap)(hb:sysModules < h.objs.size):ObjOk P w H (h.push { cls:=.type "dict",data:=.dict #[] }) h.objs.size (.dT []):=⟨Q3 _,beq_eq_false_iff_ne.mpr (E3 (U0 hb)),[],.nil,_,#[],0,L0 _ rfl,⟨rfl,rfl,rfl⟩,rfl,rfl,List.nodup_nil⟩
def Pz:TE:=λ_ H Q=>∀p,H p=none->Q (.ref p) (UQ H p (.dT []))
section
variable {pos:Pos}
theorem Qz:PE X (.Dict [] [] pos) Pz:=λpins s σ H Q I h=>wpAny_Dict_empty ⟨.ref s.heap.objs.size,_,I.laid (a:=s.heap.objs.size) (o:=.dT []) (t':=s.toks) (λ_ _ q=>g0 _ q) (u0 _) (Oz s.heap I.big),rfl,h _ (I.hok.fresh (u0 _))⟩
end
structure M1(X:Cx)(o:Expr)(m:Str)(apos:Pos)(e:Expr)(cpos:Pos):Prop where
 base:attributeBase o m X.env (eval o X.env)=eval o X.env
 few:((backTo cpos (starEach [e] X.env)).all (λx=>!x.1)&&(backToKw cpos (keywordEach [] X.env)).all (λx=>x.1.isSome)
   && decide (([e]:List Expr).length+([]:List Keyword).length+(if ([]:List Keyword).isEmpty then 0 else 1) < 30))=true
 line:(apos.endLine==cpos.line)=true
 trees:backTo cpos (starEach [e] X.env)=[(false,eval e X.env)]
structure M2(X:Cx)(o:Expr)(m:Str)(apos:Pos)(e f:Expr)(cpos:Pos):Prop where
 base:attributeBase o m X.env (eval o X.env)=eval o X.env
 few:((backTo cpos (starEach [e,f] X.env)).all (λx=>!x.1)&&(backToKw cpos (keywordEach [] X.env)).all (λx=>x.1.isSome)
   && decide (([e,f]:List Expr).length+([]:List Keyword).length+(if ([]:List Keyword).isEmpty then 0 else 1) < 30))=true
 line:(apos.endLine==cpos.line)=true
 trees:backTo cpos (starEach [e,f] X.env)=[(false,eval e X.env),(false,eval f X.env)]
def OO(H:Hp)(a:Addr):Prop:=(∃kvs,Rd H a (.dK kvs))\/∃kvs,Rd H a (.dT kvs)
theorem NC{a:Addr}(I:Inv X pins σ H s)(d:OO H a):s.TypeIs (.ref a) "dict"/\(∀b,Z3 a=.ref b->∃ob,s.heap.get? b=some ob/\ob.dict=none)/\(a==sysModules)=false:=by
 rcases d with⟨kvs,e⟩|⟨kvs,e⟩
 ·obtain⟨_,hd,vs,_,dd⟩:=VL I.hok e;refine ⟨dd.typeIs,λb q=>?_,hd⟩;cases q;obtain⟨ob,_,_,h1,h2,_⟩:=dd;exact ⟨ob,h1,h2.2.1⟩
 ·obtain⟨_,hd,xs,_,dd⟩:=WL I.hok e;refine ⟨dd.typeIs,λb q=>?_,hd⟩;cases q;obtain⟨ob,_,_,h1,h2,_⟩:=dd;exact ⟨ob,h1,h2.2.1⟩
section
variable {a:Addr}{y d:V}{r:Value}{o:Option V}
end
section
variable {o e f:Expr}{apos cpos:Pos}{td ty tx:TE}
end
section
variable {a:Addr}{kvs:List (VZ×V)}
end
section
variable {a:Addr}{y:V}
end
end L2
namespace Att
open PySem.W PySem.Calls
theorem JY{P:Params}:∀(ns:List Int) (vs:List Value),WellAll P h vs (ns.map WData.int)->IntsAre vs ns:=by
 intro ns;induction ns with
 | nil=>intro vs w;rw[Q8]at w;cases w;exact .nil
 | cons n ns ih =>
  intro vs w;rw[T1]at w;cases w with
  | cons a b=>cases a;exact .cons _ _ (ih _ b)
theorem cq{l:OpenLaw}(hn:l.most=some n){P:Params}{h:Heap}{args:List WData}{vals:List Value}(hpre:l.row.toRowW.claim.pre args=true) (hwl:WellAll P h vals args):∃a vs ns,vals=[Z3 a]/\args=[WData.list (ns.map WData.int)]/\h.get? a=some { cls:=.type "list",data:=.seq vs.toArray }/\IntsAre vs ns/\ns.length<=n:=by
 have hsh:WShape.hasAll [] args [.list .int]=true:=(pre_splitW hpre).1;have hc:l.pre.holds [] { args:=args }=true:=(pre_splitW hpre).2;obtain⟨d,r,rfl,h1,h2⟩:=hasAllW_cons hsh;obtain rfl:=hasAllW_nil h2;obtain⟨xs,rfl,h3⟩:=hasW_list h1;obtain⟨ns,rfl⟩:=items_int h3;have hlen:ns.length<=n:=by
  unfold OpenLaw.pre at hc;have h4:(WTm.not (.lt (.lit (.int (n:Int))) (.len (.arg 0)))).holds [] { args:=[.list (ns.map .int)] }=true:=by have h4:=(holds_andW hc).1;rw[hn]at h4;exact h4
  have h5:=condW_of h4 (w_not (w_lt w_lit (w_len_list (w_arg rfl))));rw[j0]at h5;refine G8 λq=>?_;have q':(n:Int) < ((ns.length:Nat):Int):=by omega
  first
   | (rw[decide_eq_true q']at h5;exact absurd h5 (by decide))
   | (simp at h5;omega)
 cases hwl with
 | cons w1 w2 =>
  cases w2;cases w1 with
  | list ho hall=>exact ⟨_,_,ns,rfl,rfl,ho,JY ns _ hall,hlen⟩
theorem dq(l:OpenLaw)(args:List WData):l.row.toRowW.claim.post args (.bool true) args=true :=
 postW_of (r:=l.row.toRowW) (X:=(true==true))
  (show WShape.has [] (.bool true) .bool=true by first|rfl|decide|simp[WShape.has,WShape.arms,WShape.armsAll])
  (show (WTm.eq .res (.lit (.bool true))).value [] { args:=args,res:=some (.bool true),after:=args }=some (.bool (true==true)) from w_eq_bool (w_res rfl) w_lit) rfl
theorem attach_call{l:OpenLaw}{q:Program}{d:DefRec}(hn:l.most=some n) (hdf:d.params.defaults=[])(call:∀(w:World) (s₀ s₁:Shared) (mg mb:Str->Option Value) (fa:Addr) (o:Obj) (pm cd doc:Value) (a:Addr) (vs:List Value) (ns:List Int), Ground q loose [] XP w s₀ mg mb s₁.heap->YP w s₁.heap -> s₁.heap.get? fa=some o->o.data=.func (docDef d.name d.params d.body d.scope pm cd doc)->s₁.heap.CodeRec cd d.name->mg d.name=some (.ref fa) -> s₁.heap.get? a=some { cls:=.type "list",data:=.seq vs.toArray }->IntsAre vs ns->ns.length<=n->s₁.gens=#[] -> codeAny (model l.prog w) callerA (.call (.ref fa) ⟨[.ref a],[]⟩) (λr s'=>r=.ok (.ret (.bool true))/\OldK s₁.heap s'.heap/\s'.os=s₁.os/\AllBare s'.gens) s₁):WalkO q loose XP YP l.row.toRowW d [] (λf vs=>PySem.call f vs):=by
 intro w s₀ s₁ mg mb G Y fa o pm cd doc dV kV ho hd hcd hD hmg hg args vals as hpre hlay hrd hwl hlo;obtain rfl:dV=.none:=Dflts.none hD hdf;obtain rfl:kV=.none:=Dflts.noKw hD;obtain⟨a,vs,ns,rfl,rfl,hobj,hints,hlen⟩:=cq hn hpre hwl;refine enter_call (codeAny_mono (call w s₀ s₁ mg mb fa o pm cd doc a vs ns G Y ho (fd_plain hd) hcd hmg hobj hints hlen hg) λr s' hq=>?_);obtain⟨rfl,h2,h3,h4⟩:=hq;exact ⟨.inl ⟨.bool true,.bool true,[],rfl,λ_=>rfl,.bool true,dq l _,λ_=>⟨List.Pairwise.nil,λ_ hm=>(nomatch hm)⟩⟩,h2,h3,h4⟩
section
variable {K:Frag}
end
end Att
namespace L2
theorem HV:∀{vs:List Value}{ns:List Int},IntsAre vs ns->Vals (ns.map V.int) vs
 | _,_,.nil=>.nil
 | _,_,.cons n t h=>.cons ⟨t,rfl⟩ (HV h)
noncomputable def YZ(s:Stmt):Arguments:=match s with
 | .FunctionDef _ a _ _ _ _ _ _ _ _=>a
 | _=>{ posonlyargs:=[],args:=[],vararg:=none,kwonlyargs:=[],kw_defaults:=[],kwarg:=none,defaults:=[] }
noncomputable def NX(s:Stmt):List Stmt:=match s with
 | .FunctionDef _ _ b _ _ _ _ _ _ _=>b
 | _=>[]
noncomputable def mQ(s:Stmt):Scope:=match s with
 | .FunctionDef _ _ _ _ _ _ sc _ _ _=>sc
 | _=>{ kind:=.function,names:=[],isGenerator:=false,isCoroutine:=false }
noncomputable abbrev iZ:Gz:=λ_ _ _ _ _ _=>False
noncomputable abbrev E0:XK:=λ_ _ _=>False
theorem XL:kG iZ X E0:=λ_ _ _ _ _ _ _ h=>h.elim
structure Fun(K:n0)(x qual:Str)(st:Stmt)(f:Addr)(fd:FuncData):Prop where
 ex:∃(oc:Value) (od:Option Addr) (kV doc pm:Value) (an:Option Addr) (cdv ct:Value) (osl:Array (Option Value)),
  fd=Q5 x qual (YZ st) (NX st) (mQ st) .none kV doc pm an cdv ct/\K.lookup f=some ⟨oc,od,.func fd,osl⟩/\W7 K cdv qual=true
 kp:j5 K (.ref f)=true
section
variable {K:n0}
theorem Fun.ok{x:Str}{st:Stmt}{ps:List Str}{k:Nat}{sp:Sp}(F:Fun K x qual st f fd)(S:FnScope N ps (mQ st))(len:∀vs H Q E,sp vs H Q E->vs.length=ps.length)(hbody:∀(cdv:Value) (A:Around) (outer:List Env) (s:Shared) (H:Hp) (vs:List V) (Q:VK) (E:XK),Room k (A.deeper (envOfC qual (mQ st) s.heap.objs.size f cdv))->sp vs H Q E -> ∃t,PSs (IY iZ P w K mg base N qual (mQ st) f cdv A outer s H E).nox (NX st) t/\t { nx:=λ_ H'=>Q .non H',rt:=Q } (start N vs) H):FnOk P w K mg base iZ (k+1) f fd ps sp:=by
 obtain⟨oc,od,kV,doc,pm,an,cdv,ct,osl,rfl,lk,hcd⟩:=F.ex;refine Eu lk hcd S len λA outer s H vs Q E hr hsp=>?_;obtain⟨t,h,q⟩:=hbody cdv A outer s H vs Q E hr hsp;exact ⟨t,h.nox,q⟩
theorem Fun.binds{x:Str}{st:Stmt}{ps:List Str}(F:Fun K x qual st f fd)(h:∀(kV doc pm:Value) (an:Option Addr) (cdv ct:Value) (us:List Value),us.length=ps.length->bindArgs (Q5 x qual (YZ st) (NX st) (mQ st) .none kV doc pm an cdv ct) ⟨us,[]⟩=pure (ps.zip us)):Binds K fd ps []:=by
 obtain⟨oc,od,kV,doc,pm,an,cdv,ct,osl,rfl,lk,hcd⟩:=F.ex;exact .all (h kV doc pm an cdv ct)
theorem OC{x:Str}{st:Stmt}{oc:Value}{od an:Option Addr}{osl:Array (Option Value)}{kV doc pm cdv ct:Value}(l:K.lookup f=some ⟨oc,od,.func (Q5 x qual (YZ st) (NX st) (mQ st) .none kV doc pm an cdv ct),osl⟩)(c:W7 K cdv qual=true) (k:j5 K (.ref f)=true):Fun K x qual st f (Q5 x qual (YZ st) (NX st) (mQ st) .none kV doc pm an cdv ct):=⟨⟨oc,od,kV,doc,pm,an,cdv,ct,osl,rfl,l,c⟩,k⟩
end
theorem rZ{c A B:Prop}[Decidable c](h1:c->A)(h2:¬c->B):if c then A else B:=by
 by_cases h:c
 ·rw[if_pos h];exact h1 h
 ·rw[if_neg h];exact h2 h
section
variable {κ:Type}[DecidableEq κ]
end
noncomputable def ZZ(cells:List (Str×Addr)):List (Str×NameKind)->List (Str×Addr)->List (Str×Addr)
 | [],acc=>acc
 | (n,k) :: r,acc=>ZZ cells r (if k==.free then (n,(cells.lookup n).getD 0) :: acc else acc)
theorem nW(h:∀y∈sc.names,y.2=.free->∃c,env.cells.lookup y.1=some c):closureFor sc env=pure (ZZ env.cells sc.names []):=by
 have go:∀(l:List (Str×NameKind)) (acc:List (Str×Addr)),(∀y∈l,y.2=.free->∃c,env.cells.lookup y.1=some c) ->
   (forIn l acc λ(x:Str×NameKind) r=>(if (x.2==NameKind.free)=true then (do let a<-cellOf env x.1;pure (ForInStep.yield ((x.1,a) :: r))) else pure (ForInStep.yield r):Sem (ForInStep (List (Str×Addr)))))=pure (ZZ env.cells l acc):=by
  intro l;induction l with
  | nil=>intro acc _;rfl
  | cons y r ih =>
   intro acc hl;obtain⟨n,k⟩:=y;rw[Q6];by_cases hk:(k==NameKind.free)=true
   ·obtain⟨c,hc⟩:=hl (n,k) v0 (by simpa using hk);have hc:env.cells.lookup n=some c:=hc;simp only[hk,if_true,cellOf,hc,pure_bind,ZZ,G5];exact ih _ λy hy=>hl y (q0 _ hy)
   ·simp only[hk,if_false,pure_bind,ZZ];exact ih _ λy hy=>hl y (q0 _ hy)
 have e:=go sc.names [] h;unfold closureFor;show (forIn sc.names [] _ >>= λcs=>pure cs)=_;rw[show (forIn sc.names ([]:List (Str×Addr)) λ(x:Str×NameKind) r=>(match x with|(name,kind)=>if (kind==NameKind.free)=true then (do let a<-cellOf env name;pure (ForInStep.yield ((name,a) :: r))) else pure (ForInStep.yield r):Sem (ForInStep (List (Str×Addr)))))=pure (ZZ env.cells sc.names []) from e];rfl
theorem tJ{cells:List (Str×Addr)}{x:Str}{c:Addr}:∀{l:List (Str×NameKind)}{acc:List (Str×Addr)},(∀y∈l,y.2=.free->∃c,cells.lookup y.1=some c)->(ZZ cells l acc).lookup x=some c -> acc.lookup x=some c\/cells.lookup x=some c
 | [],acc,_,h=>.inl h
 | (n,k) :: r,acc,hl,h=>by
  have ih:=tJ (l:=r) (λy hy=>hl y (q0 _ hy)) h;rcases ih with ih|ih
  ·by_cases hk:(k==NameKind.free)=true
   ·rw[if_pos hk,u4]at ih;obtain⟨c',hc⟩:=hl (n,k) v0 (by simpa using hk);have hc:cells.lookup n=some c':=hc;cases e:x==n with
    | true =>
     rw[e]at ih;have:x=n:=by simpa using e
     subst this;simp only[hc,G5,Option.some.injEq]at ih;subst ih;exact .inr hc
    | false=>rw[e]at ih;exact .inl ih
   ·rw[if_neg hk]at ih;exact .inl ih
  ·exact .inr ih
theorem oW{cells:List (Str×Addr)}{x:Str}:∀{l:List (Str×NameKind)}{acc:List (Str×Addr)},((∃c,acc.lookup x=some c)\/l.lookup x=some .free)->∃c,(ZZ cells l acc).lookup x=some c
 | [],acc,h=>by
  rcases h with h|h
  ·exact h
  ·simp at h
 | (n,k) :: r,acc,h=>by
  refine oW (l:=r) ?_;rcases h with⟨c,h⟩|h
  ·left;by_cases hk:(k==NameKind.free)=true
   ·rw[if_pos hk,u4];cases x==n with
    | true=>exact ⟨_,rfl⟩
    | false=>exact ⟨c,h⟩
   ·rw[if_neg hk];exact ⟨c,h⟩
  ·rw[u4]at h;cases e:x==n with
   | true=>rw[e]at h;have hk:k=.free:=X1 h;left;subst hk;rw[if_pos (by decide),u4,e];exact ⟨_,rfl⟩
   | false=>rw[e]at h;exact .inr h
theorem uJ{env:Env}{x:Str}:∀{names:List (Str×NameKind)}, (names.map λ(n,k)=>if (k==NameKind.free&&env.scope.kind==.function&&env.kindOf n==some .cell) then (n,NameKind.cell) else (n,k)).lookup x = (names.lookup x).map λk=>if (k==NameKind.free&&env.scope.kind==.function&&env.kindOf x==some .cell) then .cell else k
 | []=>rfl
 | (n,k) :: r=>by
  have ih:=@uJ env x r;rw[T1];show m8 x ((if (k==NameKind.free&&env.scope.kind==.function&&env.kindOf n==some .cell)=true then (n,NameKind.cell) else (n,k)) :: _)=_;cases hx:x==n with
  | true =>
   have e:x=n:=by simpa using hx
   subst e;by_cases hc:(k==NameKind.free&&env.scope.kind==.function&&env.kindOf x==some .cell)=true
   ·rw[if_pos hc];simp only[u4,hx,u5];rw[if_pos hc]
   ·rw[if_neg hc];simp only[u4,hx,u5];rw[if_neg hc]
  | false =>
   by_cases hc:(k==NameKind.free&&env.scope.kind==.function&&env.kindOf n==some .cell)=true
   ·rw[if_pos hc];simp only[u4,hx];exact ih
   ·rw[if_neg hc];simp only[u4,hx];exact ih
theorem vJ(sc:Scope)(env:Env)(x:Str):(relabel sc env).names.lookup x=(sc.names.lookup x).map λk=>if (k==NameKind.free&&env.scope.kind==.function&&env.kindOf x==some .cell) then .cell else k:=uJ
theorem aJ:∀(names:List (Str×NameKind)) (n:Nat) (acc:List (Str×Addr)),cellsFrom n names acc=cellsFrom n names []++acc
 | [],_,_=>rfl
 | (x,k) :: r,n,acc=>by
  unfold cellsFrom;split
  ·rw[aJ r (n+1) ((x,n) :: acc),aJ r (n+1) [(x,n)],E2];rfl
  ·exact aJ r n acc
theorem pW{x:Str}{c:Addr}:∀(names:List (Str×NameKind)) (n:Nat),(x,c)∈cellsFrom n names []->(x,NameKind.cell)∈names/\n<=c
 | [],_,h=>by cases h
 | (y,k) :: r,n,h=>by
  unfold cellsFrom at h;split at h
  ·rename_i hk;have hk:k=.cell:=by simpa using hk
   rw[aJ,E1]at h;rcases h with h|h
   ·have:=pW r (n+1) h;exact ⟨q0 _ this.1,by omega⟩
   ·have h:(x,c)=(y,n):=by simpa using h
    cases h;subst hk;exact ⟨v0,u0 _⟩
  ·have:=pW r n h;exact ⟨q0 _ this.1,this.2⟩
theorem VX{x:Str}:∀{l m:List (Str×α)},(l++m).lookup x=(l.lookup x).or (m.lookup x)
 | [],_=>rfl
 | (y,v) :: l,m=>by
  rw[Y5,u4,u4];cases x==y with
  | true=>rfl
  | false=>exact VX
theorem jY{M:Model}{globals:Addr}{closure:List (Str×Addr)}{Q:Env->Shared->Prop}(hQ:Q (newEnv scope s.heap.objs.size globals (cellsFrom (s.heap.objs.size+1) scope.names closure) qual none .none (some env) builtinsNs) { s with heap:=pushCells (s.heap.push { cls:=.type "dict",data:=.dict #[] }) scope.names }):wpAny M A (newFunctionEnv scope globals closure [] qual none .none (some env)) Q E s:=by
 simp only[newFunctionEnv,Option.isSome_some,if_true];refine wpAny_bind (wpAny_alloc ?_);refine wpAny_bind (wpAny_layCells _ (λname kind cells=>by cases hkc:kind==NameKind.cell<;>simp[hkc]) _ _ _ _ ?_);rw[show ({ s with heap:=s.heap.push { cls:=.type "dict",data:=.dict #[] } }:Shared).heap.objs.size=s.heap.objs.size+1 from Z2 ..];refine wpAny_bind ?_;rw[i7];exact wpAny_pure (wpAny_pure hQ)
noncomputable def YL(N:List Str)(fr:List Nat):List Str:=fr.map λi=>N.getD i Str.empty
noncomputable def tL(σ:St)(fr:List Nat):St:=fr.map λi=>(σ[i]?).getD none
noncomputable def KQ(X:Cx)(own:List Str)(fr:List Nat)(sc:Scope)(C:Addr)(s:Shared)(H:Hp)(ex:List Addr):Cx where
 prog:=X.prog
 w:=X.w
 K:=X.K
 mg:=X.mg
 base:=X.base
 A:=X.A
 N:=own++YL X.N fr
 s₀:=s
 H₀:=H
 env:=compEnvC sc (cellsFrom (C+1) sc.names (ZZ X.env.cells sc.names [])) C X.env
 outer:=X.stack
 stack:=X.stack
 ex:=ex
 fn:=λx=>sc.names.lookup x==some .cell
 calm:=X.calm
 pn:=[]
 xe:=λ_ _=>False
noncomputable def PC(own:List Str)(σ:St)(fr:List Nat):St:=own.map (λ_=>none)++tL σ fr
structure CompSc(X:Cx)(own:List Str)(fr:List Nat)(sc:Scope):Prop where
 kind:sc.kind=.function
 cells:∀y∈sc.names,y.2=.cell->sc.names.lookup y.1=some .cell
 loc:∀y∈sc.names,y.2=.local->sc.names.lookup y.1=some .local
 free:∀y∈sc.names,y.2=.free->X.env.kindOf y.1=some .cell\/X.env.kindOf y.1=some .free
 fr:∀i∈fr,∃x,X.N[i]?=some x/\sc.names.lookup x=some .free
theorem oG{own:List Str}{C D:Addr}{h1:Heap}{tk:Nat}{oD:Obj}(S:CompSc X own fr sc) (I:Inv X pins σ H s) (hf:∀b∈fp,GY X pins H b) (hfo:∀b∈fp,∃o,s.heap.get? b=some o) (hC:s.heap.objs.size<=C) (hD:s.heap.objs.size<=D) (hDC:D≠C) (hn:h1.Ns C λx=>([]:List (Str×Value)).reverse.lookup x)(hk:∀b o,s.heap.get? b=some o->h1.get? b=some o) (hcl:∀x c,(x,c)∈cellsFrom (C+1) sc.names []->h1.IsCell c none) (hap:(cellsFrom (C+1) sc.names []).Pairwise λx y=>x.2≠y.2) (hoD:h1.get? D=some oD) (hdD:∀v,oD.data≠.cell v):Inv (KQ X own fr sc C s H fp) [(D,oD)] (PC own σ fr) H { s with heap:=h1,toks:=tk }:=by
 have hfree:∀y∈sc.names,y.2=.free->∃c,X.env.cells.lookup y.1=some c:=λy hy e=>I.ok.has y.1 (S.free y hy e);have cl1:∀x c,(ZZ X.env.cells sc.names []).lookup x=some c->X.env.cells.lookup x=some c:=λx c e=>by
  rcases tJ hfree e with z|z
  ·simp at z
  ·exact z
 have cl2:∀x c,(cellsFrom (C+1) sc.names (ZZ X.env.cells sc.names [])).lookup x=some c->(x,c)∈cellsFrom (C+1) sc.names []\/X.env.cells.lookup x=some c:=λx c e=>by
  rw[aJ,VX]at e;cases q:(cellsFrom (C+1) sc.names []).lookup x with
  | none=>rw[q]at e;exact .inr (cl1 x c e)
  | some c'=>rw[q]at e;cases e;exact .inl (PySem.mem_of_lookup q)
 have new:∀x c,(x,c)∈cellsFrom (C+1) sc.names []->C+1<=c:=λx c h=>(pW _ _ h).2;have oldc:∀x c,X.env.cells.lookup x=some c->c < s.heap.objs.size:=λx c e=>by obtain⟨v,q⟩:=I.cell x c e;exact q.lt
 have kin:∀x k,(relabel sc X.env).names.lookup x=some k->k=.cell\/k=.free->sc.names.lookup x=some .free\/sc.names.lookup x=some .cell:=λx k e hk=>by
  rw[vJ]at e;cases q:sc.names.lookup x with
  | none=>rw[q]at e;cases e
  | some j =>
   rw[q,u5,Option.some.injEq]at e;by_cases hj:j=.free
   ·rw[hj];exact .inl rfl
   ·have hne:(j==NameKind.free)=false:=by simpa using hj
    rw[hne,i9,i9,if_neg (by simp)]at e;subst e;rcases hk with z|z
    ·rw[z];exact .inr rfl
    ·exact absurd z hj
 have kout:∀x,sc.names.lookup x=some .free->((relabel sc X.env).names.lookup x=some .cell\/(relabel sc X.env).names.lookup x=some .free):=λx e=>by
  rw[vJ,e,u5];by_cases h:(NameKind.free==NameKind.free&&X.env.scope.kind==.function&&X.env.kindOf x==some .cell)=true
  ·rw[if_pos h];exact .inl rfl
  ·rw[if_neg h];exact .inr rfl
 have okc:∀b∈fp,b < s.heap.objs.size:=λb hb=>by obtain⟨o,e⟩:=hfo b hb;exact G0 e
 have fresh:∀{a:Addr},s.heap.objs.size<=a->H a=none:=λh=>I.hok.fresh h;have ok:(KQ X own fr sc C s H fp).Ok:={
   mod:=I.ok.mod
   kind:=S.kind
   glob:=I.ok.glob
   blt:=I.ok.blt
   above:=hC
   inj:=λx y c h1 h2=>by
     have hC:s.heap.objs.size<=C:=hC;rcases cl2 x c h1 with a|a<;>rcases cl2 y c h2 with b|b
     · exact name_of_addr hap a b
     · have:=new x c a;have:=oldc y c b;exact absurd (O0 (oldc y c b) (Q0 hC (T5 (new x c a)))) (K3 _)
     · exact absurd (O0 (oldc x c a) (Q0 hC (T5 (new y c b)))) (K3 _)
     · exact I.ok.inj x y c a b
   has:=λx hx=>by
     have hx:sc.names.lookup x=some .free\/sc.names.lookup x=some .cell:=by
       rcases hx with hx|hx
       · exact kin x _ hx (.inl rfl)
       · exact kin x _ hx (.inr rfl)
     show ∃c,(cellsFrom (C+1) sc.names (ZZ X.env.cells sc.names [])).lookup x=some c;rw[aJ,VX];rcases hx with hx|hx
     · obtain⟨c,e⟩:=oW (cells:=X.env.cells) (x:=x) (l:=sc.names) (acc:=[]) (.inr hx);rw[e];cases (cellsFrom (C+1) sc.names []).lookup x with
       | none=>exact ⟨c,rfl⟩
       | some c'=>exact ⟨c',rfl⟩
     · obtain⟨c,e⟩:=EK (n:=C+1) hx;rw[e];exact ⟨c,rfl⟩
   cab:=λx c h e=>by
     have h:sc.names.lookup x=some .cell:=by simpa [KQ]using h
     have e:(cellsFrom (C+1) sc.names (ZZ X.env.cells sc.names [])).lookup x=some c:=e;obtain⟨c',q⟩:=EK (n:=C+1) h;rw[aJ,VX,q]at e;cases e;exact Q0 hC (T5 (new x _ (PySem.mem_of_lookup q)))
   hd:=I.ok.hd
   frames:=I.ok.frames
   stk:=.inl rfl
   exf:=λb hb=>⟨U0 (O0 (okc b hb) hC),λx c e=>by
     rcases cl2 x c e with z|z
     · exact V2 (O0 (okc b hb) (Q0 hC (T5 (new x c z))))
     · exact (hf b hb).2.2.2.2.1 x c z⟩
   bs:=I.bs
   bsz:=Q0 I.ok.bsz I.sz
   noex:=λb o e hb=>by
     rcases (hf b hb).2.2.2.1 with z|z
     · exact I.ok.noex b o e z
     · exact absurd (O0 (G0 e) (Q0 I.ok.bsz z)) (K3 _)
   exfs:=λb hb hm=>by
     rcases W0.mp (I.stkSub b hm) with z|z
     · exact (hf b hb).2.1 z
     · exact (hf b hb).2.2.1 z
   funs:=I.stack
   frf:=I.stkFree };refine ⟨ok,rfl,I.bare,Un.kept hk,⟨_,hn,λi x v e1 e2 e3=>?_⟩,λx c e=>?_,fresh hC,λx c e=>?_,λp hp=>?_,I.hok.kept hk,?_⟩
 ·have e1:(own++YL X.N fr)[i]?=some x:=e1;have e2:(own.map (λ_=>(none:Option V))++tL σ fr)[i]?=some (some v):=e2;by_cases hi:i < own.length
  ·rw[P2 (by simpa using hi),X0]at e2;cases q:own[i]? with
   | none=>rw[q]at e2;cases e2
   | some z=>rw[q]at e2;cases e2
  ·rw[S1 (by omega)]at e1;rw[S1 (by simpa using hi),j0]at e2;unfold YL at e1;unfold tL at e2;rw[X0]at e1 e2;cases q:fr[i - own.length]? with
   | none=>rw[q]at e1;cases e1
   | some j =>
    rw[q,u5,Option.some.injEq]at e1 e2;obtain⟨y,hy,hyf⟩:=S.fr j (Q1 q);rw[Y0,hy,G5]at e1;subst e1;have e2':σ[j]?=some (some v):=by
     cases r:σ[j]? with
     | none=>rw[r]at e2;cases e2
     | some z=>rw[r,G5]at e2;rw[e2]
    have hkf:X.env.kindOf y=some .cell\/X.env.kindOf y=some .free:=S.free (y,.free) (PySem.mem_of_lookup hyf) rfl;obtain⟨m,hm,hl⟩:=I.loc;have vis:EL X.env.scope y:=by
     rcases hkf with z|z
     ·exact .inr (.inl z)
     ·exact .inr (.inr z)
    obtain⟨u,r,l⟩:=hl j y v hy e2' vis;refine ⟨u,r,?_⟩;rcases l with⟨k,_⟩|⟨k,c,hc,z⟩
    ·rcases hkf with k'|k'<;>rw[k]at k'<;>cases k'
    ·refine .inr ⟨kout y hyf,?_⟩;obtain⟨c',hc'⟩:∃c',(ZZ X.env.cells sc.names []).lookup y=some c':=oW (.inr hyf);have:c'=c:=X1 ((cl1 y c' hc').symm.trans hc);subst this;obtain⟨o,ho,hd⟩:=z;refine ⟨c',?_,o,hk _ _ ho,hd⟩;show (cellsFrom (C+1) sc.names (ZZ X.env.cells sc.names [])).lookup y=some c';rw[aJ,VX,hc'];cases q:(cellsFrom (C+1) sc.names []).lookup y with
     | none=>rfl
     | some c2=>have:=S.cells _ (pW _ _ (PySem.mem_of_lookup q)).1 rfl;rw[hyf]at this;cases this
 ·rcases cl2 x c e with z|z
  ·exact ⟨_,hcl x c z⟩
  ·obtain⟨v,o,ho,hd⟩:=I.cell x c z;exact ⟨v,o,hk _ _ ho,hd⟩
 ·rcases cl2 x c e with z|z
  ·exact fresh (Q0 hC (T5 (new x c z)))
  ·exact I.freeC x c z
 ·have e:p=(D,oD):=by
   have:p∈([]:List (Addr×Obj))++[(D,oD)]:=hp;simpa using this
  subst e;refine ⟨hoD,fresh hD,hDC,λhm=>?_,hdD⟩;have hm:D∈wF X.stack:=hm;obtain⟨_,o,ho,_⟩:=I.stack.mem hm;exact absurd (O0 (G0 ho) hD) (K3 _)
 ·show (own.map (λ_=>(none:Option V))++tL σ fr).length=(own++YL X.N fr).length;simp[tL,YL]
theorem Rz{own:List Str}{σ':St}{H':Hp}{C D:Addr}{oD:Obj}(I:Inv X pins σ H s) (hf:∀b∈fp,GY X pins H b) (hC:s.heap.objs.size<=C) (hD:s.heap.objs.size<=D) (hDC:D≠C)(J:Inv (KQ X own fr sc C s H fp) [(D,oD)] σ' H' s') (ho:oD={ cls:=.type "list",data:=.seq us.toArray n }) (r:Vals ys us) (hz:ys.length<=sizeLine):Inv X pins σ (UQ H' D (.lst ys)) s'/\(∃m,s'.heap.Ns C m)/\GY X pins (UQ H' D (.lst ys)) C:=by
 have pD:=J.pin (D,oD) (by simp[KQ]);have hHD:H' D=none:=pD.2.1;have u:Un (wF X.stack) fp H H' s.heap s'.heap:=J.base;have lt:∀b o,s.heap.get? b=some o->b≠D:=λb o e=>U0 (O0 (G0 e) hD);have u2:Un (wF X.stack) fp H (UQ H' D (.lst ys)) s.heap s'.heap :=
  ⟨u.keep,u.slot,λb o e n hx=>by rw[nQ (lt b o e)];exact u.free b o e n hx,u.there,λb xs e=>by rw[nQ (oQ (u.tups b xs e) hHD)];exact u.tups b xs e,
    λb o x e=>by rw[nQ (oQ (u.frzs b o x e) hHD)];exact u.frzs b o x e,λb ps e=>by obtain⟨more,q⟩:=u.tbls b ps e;exact ⟨more,by rw[nQ (oQ q hHD)];exact q⟩⟩;have hok:HOk X.prog X.w (UQ H' D (.lst ys)) s'.heap:=λb o e=>by
  by_cases hb:b=D
  ·subst hb;rw[AQ]at e;cases e;exact ⟨hz,us,n,r,by rw[<- ho];exact pD.1⟩
  ·rw[nQ hb]at e;exact (J.hok b o e).stay (λ_ _ _ q=>q) (λc q=>by rw[nQ (oQ q hHD)];exact q) λc xs q=>by rw[nQ (oQ q hHD)];exact q
 refine ⟨I.call' (ch:=fp) J.os u2 hok J.bare λb hb=>?_,?_,?_⟩
 ·obtain⟨f0,f1,f2,f3,f4,f5⟩:=hf b hb;exact ⟨f3,f1,f4,f5⟩
 ·obtain⟨m,hm,_⟩:=J.loc;exact ⟨m,hm⟩
 ·have hfree:H' C=none:=J.free;refine ⟨by rw[nQ (E3 hDC)];exact hfree,?_⟩;exact (I.fpOk hC (I.hok.fresh hC)).2
theorem wJ{R:Result->Shared->Prop}{elt target iter:Expr}{ifs:List Expr}{scope:Scope}{pos:Pos}{it acc:Value}{env:Env}(I:Nat->Shared->Prop)
  (turn:∀n s,I n s->wpAny (model prog w) A (pyNext it) (λr s₁=>match r with
    | none=>R (.ok .next) s₁
    | some v=>wpAny (model prog w) A (letOwnedTupleGo target it v) (λ_ s₁'=>wpAny (model prog w) A (assign target env v) (λ_ s₂ =>
        wpAny (model prog w) A (forIn ifs true λc r=>if r=true then do let ok<-isTrue c env (eval c env);pure (ForInStep.yield ok) else pure (ForInStep.yield r)) (λok s₃ =>
          if ok=true then wpAny (model prog w) A (eval elt env) (λx s₄=>wpAny (model prog w) A (call (.builtin "list.append") [acc,x]) (λ_ s₅=>∃m,m < n/\I m s₅) (λ_ _=>False) s₄) (λ_ _=>False) s₃
          else ∃m,m < n/\I m s₃) (λ_ _=>False) s₂) (λ_ _=>False) s₁') (λ_ _=>False) s₁) (λ_ _=>False) s)
  (n:Nat) (h:I n s) :
  codeAny (model prog w) A (.compLoop (.ListComp elt [⟨target,iter,ifs,0⟩] scope pos) 0 it acc env) R s:=by
 refine codeAny_loop rfl I (λn s hI=>?_) n h;show wpAny _ A ((compTurn (.ListComp elt [⟨target,iter,ifs,0⟩] scope pos) 0 it acc env).onRaise (λx=>do noteFrame x env;theTreesLotGoes x)) _ _ s;refine wpAny_noted ?_;rw[compTurn_list];refine wpAny_bind (wpAny_standAt (wpAny_bind (wpAny_mono (turn n s hI) (λr s₁ h₁=>?_) λ_ _ h'=>h'.elim)));cases r with
 | none=>exact wpAny_pure h₁
 | some v =>
  refine wpAny_bind (wpAny_mono h₁ (λ_ s₁' h₁'=>?_) λ_ _ h'=>h'.elim);refine wpAny_bind (wpAny_mono h₁' (λ_ s₂ h₂=>wpAny_bind (wpAny_mono h₂ (λok s₃ h₃=>?_) λ_ _ h'=>h'.elim)) λ_ _ h'=>h'.elim);cases ok with
  | false=>exact wpAny_pure ⟨rfl,h₃⟩
  | true=>exact wpAny_bind (wpAny_bind (wpAny_mono h₃ (λx s₄ h₄=>wpAny_bind (wpAny_mono h₄ (λ_ s₅ h₅=>wpAny_pure (wpAny_pure ⟨rfl,h₅⟩)) λ_ _ h'=>h'.elim)) λ_ _ h'=>h'.elim))
def Sz(X:Cx)(ifs:List Expr)(t:TT):Prop :=
 ∀(pins:List (Addr×Obj)) (s:Shared) (σ:St) (H:Hp) (Q:Bool->Hp->Prop),Inv X pins σ H s->t σ H Q ->
  wpAny (model X.prog X.w) X.A (forIn ifs true λc r=>if r=true then do let ok<-isTrue c X.env (eval c X.env);pure (ForInStep.yield ok) else pure (ForInStep.yield r)) (TP X pins σ Q) X.xe s
def ZL:TT:=λ_ H Q=>Q true H
theorem QC:Sz X [] ZL:=λ_ _ _ H _ I h=>wpAny_tests_nil ⟨H,I,h⟩
theorem RC{c:Expr}{t:TT}(h:PT X c t):Sz X [c] t:=λpins s σ H Q I hw=>wpAny_tests_one (h pins s σ H Q I hw)
def Gu(wi:TI)(own:List Str)(fr:List Nat)(g:TG)(tc:TT)(te:TE):TE:=λσ H Q=>wi σ H λJ H1=>∃W:Nat->Nat->List V->St->Hp->Prop,(∃m,W 0 m [] (PC own σ fr) H1)/\∀i m ys τ H,W i m ys τ H ->
 (J.stop i H/\∀D,H D=none->Q (.ref D) (UQ H D (.lst ys))) \/
 (J.go i H/\ys.length < sizeLine/\∃N:List V->St->Hp->Prop,(∀ys' τ' H',N ys' τ' H'->∃m',m' < m/\W (i+1) m' ys' τ' H')/\∀x H',J.yld i H x H'->g x τ H' λτ2 H2=>tc τ2 H2 λb H3=>if b=true then te τ2 H3 λy H4=>N (ys++[y]) τ2 H4 else N ys τ2 H3)
theorem fq{D:Addr}{k:Nat}{pl:List (Addr×Obj)}(I:Inv X ([(D,{ cls:=.type "list",data:=.seq us.toArray k })]++pl) σ H s) (h1:X.s₀.heap.objs.size<=D) (h2:∀x c,X.env.cells.lookup x=some c->c≠D) (h3:∀p∈X.pn++pl,p.1≠D) (hz:us.length < sizeLine)(h:∀k' s',Inv X ([(D,{ cls:=.type "list",data:=.seq (us++[u]).toArray k' })]++pl) σ H s'->Q .none s'):wpAny (model X.prog X.w) X.A (call (.builtin "list.append") [.ref D,u]) Q E s:=by
 obtain⟨e,hn,hL,hF,_⟩:=I.pin (D,{ cls:=.type "list",data:=.seq us.toArray k }) (R0 _ (T2 _ (Z0.mpr rfl)));dsimp only at e hn hL hF;have I0:Inv X pl σ H s:=I.pins_of λp hp=>I.pin p (R0 _ (R0 _ hp));refine call_meets F.slot_list_append ⟨_,e,rfl⟩ F.entry_list_append (F.args_list_append_2 _ _) (PySem.list_append D us.toArray k u (by rw[N0];omega)) ⟨e,?_⟩;have q:=PySem.IsL.update e λxs=>xs.push u;rw[show us.toArray.push u=(us++[u]).toArray by simp]at q;have I1:Inv X pl σ H { s with heap:=s.heap.update D (B2 λxs=>xs.push u),toks:=s.toks }:=I0.turned (it:=D) (λb o hb ho=>(y7 s.heap (B2 λxs=>xs.push u) (E3 hb)).trans ho) hn hL (.inr h1) h2 h3;obtain⟨k',q⟩:∃k',(s.heap.update D (B2 λxs=>xs.push u)).get? D=some { cls:=.type "list",data:=.seq (us++[u]).toArray k' }:=⟨_,q⟩;refine h k' _ (I1.pins_of (pins':=[(D,{ cls:=.type "list",data:=.seq (us++[u]).toArray k' })]++pl) λp hp=>?_);rcases E1.mp hp with z|z
 ·have z:p=_:=Z0.mp z;subst z;exact ⟨q,hn,hL,hF,λv z=>by cases z⟩
 ·exact I1.pin p (R0 _ z)
theorem qW{pos:Pos}{own:List Str}{g:TG}{tc:TT}{te:TE}{H2:Hp}{s2:Shared}{tn:Nat->Heap->Prop}{J:It}{Q:VK}{RR:Value->Addr->Result->Shared->Prop}(hc:X.calm=true) (S:CompSc X own fr sc) (I2:Inv X pins σ H2 s2) (T:Turn X.prog X.w X.K tg J fp it tn) (st2:tn 0 s2.heap) (f2:∀b∈fp,GY X pins H2 b)(hg:∀C ex,PG (KQ X own fr sc C s2 H2 ex) tg g) (hif:∀C ex,Sz (KQ X own fr sc C s2 H2 ex) ifs tc) (he:∀C ex,PE (KQ X own fr sc C s2 H2 ex) elt te)(W:Nat->Nat->List V->St->Hp->Prop) (m0:Nat) (w0:W 0 m0 [] (PC own σ fr) H2)(turn:∀i m ys τ H,W i m ys τ H->(J.stop i H/\∀D,H D=none->Q (.ref D) (UQ H D (.lst ys))) \/(J.go i H/\ys.length < sizeLine/\∃N:List V->St->Hp->Prop,(∀ys' τ' H',N ys' τ' H'->∃m',m' < m/\W (i+1) m' ys' τ' H')/\∀x H',J.yld i H x H'->g x τ H' λτ2 H2=>tc τ2 H2 λb H3=>if b=true then te τ2 H3 λy H4=>N (ys++[y]) τ2 H4 else N ys τ2 H3))(hRR:∀D C H s',Inv X pins σ H s'->Q (.ref D) H->(∃m,s'.heap.Ns C m)->GY X pins H C->RR (.ref D) C (.ok .next) s'):wpAny (model X.prog X.w) X.A (newList []) (λacc s₃=>wpAny (model X.prog X.w) X.A (newFunctionEnv sc X.env.globals (ZZ X.env.cells sc.names []) [] X.env.qual none .none (some X.env)) (λcenv s₄=>codeAny (model X.prog X.w) X.A (.compStart (.ListComp elt [⟨tg,iter,ifs,0⟩] sc pos) 0 (.ref it) acc { cenv with scope:=relabel sc X.env }) (RR acc cenv.locals) s₄) E s₃) E s2:=by
 refine wpAny_newObj_type (jY ?_);dsimp only;generalize hH2:s2.heap.push { cls:=.type "list",dict:=none,data:=.seq ([]:List Value).toArray }=G;generalize hh1:pushCells (G.push { cls:=.type "dict",data:=.dict #[] }) sc.names=h₁;have kp:∀b o,(G.push { cls:=.type "dict",data:=.dict #[] }).get? b=some o->h₁.get? b=some o:=λb o e=>hh1 ▸ pushCells_keeps _ _ b o e;have hns₁:h₁.Ns G.objs.size λx=>([]:List (Str×Value)).reverse.lookup x:=(Heap.Ns.new G (.type "dict")).keeps kp;have cok:CellsOk h₁ (G.objs.size+1) (cellsFrom (G.objs.size+1) sc.names []):=by have:=cellsFrom_ok sc.names (G.push { cls:=.type "dict",data:=.dict #[] }) (G.objs.size+1) [] ⟨λ_ _ hm=>(nomatch hm),List.Pairwise.nil⟩ (by rw[Z2];exact u0 _);rw[Z2,hh1]at this;exact this
 have hC:G.objs.size=s2.heap.objs.size+1:=by rw[<- hH2,Z2]
 have hCle:s2.heap.objs.size<=G.objs.size:=by rw[hC];exact bQ _
 have hDC:s2.heap.objs.size≠G.objs.size:=by rw[hC];exact U0 (Nat.lt_succ_self _)
 have old:∀b o,s2.heap.get? b=some o->h₁.get? b=some o:=λb o e=>kp b o (g0 _ (hH2 ▸ g0 _ e));have hacc:h₁.get? s2.heap.objs.size=some { cls:=.type "list",data:=.seq ([]:List Value).toArray }:=kp _ _ (g0 _ (hH2 ▸ L0 _ rfl));have st0':tn 0 h₁:=T.keep _ _ _ st2 λb hb o e=>old b o e;have fo:∀b∈fp,∃o,s2.heap.get? b=some o:=λb hb=>let ⟨o,e,_⟩:=T.obj _ _ st2 b hb;⟨o,e⟩;have flt:∀b∈fp,b < s2.heap.objs.size:=λb hb=>by obtain⟨o,e⟩:=fo b hb;exact G0 e
 have clb:∀x c,(ZZ X.env.cells sc.names []).lookup x=some c->X.env.cells.lookup x=some c:=λx c e=>by
  rcases tJ (λy hy e=>I2.ok.has y.1 (S.free y hy e)) e with z|z
  ·simp at z
  ·exact z
 have clb2:∀(C':Addr) x c,(cellsFrom (C'+1) sc.names (ZZ X.env.cells sc.names [])).lookup x=some c->C'+1<=c\/X.env.cells.lookup x=some c:=λC' x c e=>by
  rw[aJ,VX]at e;cases q:(cellsFrom (C'+1) sc.names []).lookup x with
  | none=>rw[q]at e;exact .inr (clb x c e)
  | some c'=>rw[q]at e;cases e;exact .inl (pW _ _ (PySem.mem_of_lookup q)).2
 have stt:∀C':Addr,s2.heap.objs.size<=C'->∀{H':Hp}{pl:List (Addr×Obj)},(∀b∈fp,H' b=none)->(∀p∈pl,s2.heap.objs.size<=p.1)->∀b∈fp,GY (KQ X own fr sc C' s2 H2 fp) pl H' b:=λC' hC' H' pl hn hp b hb=>by
  have I0:=f2 b hb;refine ⟨hn b hb,U0 (O0 (flt b hb) hC'),λhm=>?_,.inl hb,λx c e=>by
      rcases clb2 C' x c e with z|z
      · exact V2 (O0 (flt b hb) (Q0 hC' (T5 z)))
      · exact I0.2.2.2.2.1 x c z,λp hp'=>?_⟩
  ·rcases W0.mp (I2.stkSub b hm) with z|z
   ·exact I0.2.1 z
   ·exact I0.2.2.1 z
  ·have hp':p∈pl:=by
    have:p∈([]:List (Addr×Obj))++pl:=hp';simpa using this
   exact V2 (O0 (flt b hb) (hp p hp'))
 have loop:∀s₃:Shared,s₃={ s2 with heap:=h₁,toks:=s2.toks } ->
   codeAny (model X.prog X.w) X.A (.compLoop (.ListComp elt [⟨tg,iter,ifs,0⟩] sc pos) 0 (.ref it) (.ref s2.heap.objs.size) (compEnvC sc (cellsFrom (G.objs.size+1) sc.names (ZZ X.env.cells sc.names [])) G.objs.size X.env))
    (RR (.ref s2.heap.objs.size) G.objs.size) s₃:=by
  rintro s₃ rfl;have I3:=oG (own:=own) (fr:=fr) (tk:=s2.toks) S I2 f2 fo hCle (u0 _) hDC hns₁ old (λx c h=>(cok.empty x c h).1) cok.apart hacc (λv z=>by cases z);refine wJ (λn s'=>∃i H' ys us k τ,Inv (KQ X own fr sc G.objs.size s2 H2 fp) [(s2.heap.objs.size,{ cls:=.type "list",data:=.seq us.toArray k })] τ H' s'/\tn i s'.heap/\(∀b∈fp,H' b=none)/\Vals ys us/\ys.length<=sizeLine/\W i n ys τ H') ?_ m0
   ⟨0,H2,[],[],0,_,I3,st0',λb hb=>(f2 b hb).1,.nil,Q3 _,w0⟩;rintro n s4 ⟨i,H4,ys,us,k,τ,I4,st4,fr4,rv4,hz4,w4⟩;have hp4:∀p∈[(s2.heap.objs.size,({ cls:=.type "list",data:=.seq us.toArray k }:Obj))],s2.heap.objs.size<=p.1:=λp hp=>by
   rw[Z0.mp hp];exact u0 _
  rcases turn i n ys τ H4 w4 with⟨stop,qn⟩|⟨go,hlt,N,hN,step⟩
  ·refine hX (T.done (KQ X own fr sc G.objs.size s2 H2 fp) rfl rfl rfl hc i _ s4 _ H4 (λ_ _=>False) I4 (stt _ hCle fr4 hp4) st4 stop) λr s5 ⟨hr,I5⟩=>?_;subst hr;obtain⟨a1,a2,a3⟩:=Rz I2 f2 hCle (u0 _) hDC I5 rfl rv4 hz4;exact hRR _ _ _ s5 a1 (qn _ (I5.pin _ (R0 _ (Z0.mpr rfl))).2.1) a2 a3
  ·refine hX (T.item (KQ X own fr sc G.objs.size s2 H2 fp) rfl rfl rfl hc i _ s4 _ H4 (λ_ _=>False) I4 (stt _ hCle fr4 hp4) st4 go) λr s5 ⟨u,hr,h5⟩=>?_;subst hr;refine hX h5 λ_ s6 ⟨x,H6,I6,r6,y6,st6,fr6⟩=>?_;have I6':=I6.pinned (stt _ hCle fr6 hp4) (T.obj _ _ st6);refine hX (hg G.objs.size fp _ s6 _ H6 x u _ I6' r6 (step x H6 y6)) λ_ s7 ⟨σ7,H7,I7,q7⟩=>?_;refine hX (hif G.objs.size fp _ s7 σ7 H7 _ I7 q7) λb s8 ⟨H8,I8,q8⟩=>?_;have again:∀{s9:Shared}{H9:Hp}{ys':List V}{us':List Value}{k':Nat},Inv (KQ X own fr sc G.objs.size s2 H2 fp) ([(s2.heap.objs.size,{ cls:=.type "list",data:=.seq us'.toArray k' })]++gY fp s6.heap) σ7 H9 s9->Vals ys' us'->ys'.length<=sizeLine->N ys' σ7 H9 ->
     ∃m,m < n/\∃i H' ys us k τ,Inv (KQ X own fr sc G.objs.size s2 H2 fp) [(s2.heap.objs.size,{ cls:=.type "list",data:=.seq us.toArray k })] τ H' s9/\tn i s9.heap/\(∀b∈fp,H' b=none)/\Vals ys us/\ys.length<=sizeLine/\W i m ys τ H':=λ{s9 H9 ys' us' k'} I9 rv9 hz9 n9=>by
    obtain⟨m',hm,w9⟩:=hN ys' σ7 H9 n9;refine ⟨m',hm,i+1,H9,ys',us',k',σ7,I9.unpinned,T.keep _ _ _ st6 λb hb o e=>(I9.pin (b,o) (R0 _ (R0 _ (XZ hb e)))).1,λb hb=>?_,rv9,hz9,w9⟩;obtain⟨o,e,d⟩:=T.obj _ _ st6 b hb;exact (I9.pin (b,o) (R0 _ (R0 _ (XZ hb e)))).2.1
   cases b with
   | false=>rw[if_neg T0]at q8 ⊢;exact again I8 rv4 hz4 q8
   | true =>
    rw[if_pos rfl]at q8 ⊢;refine hX (he G.objs.size fp _ s8 σ7 H8 _ I8 q8) λy s9 ⟨yv,H9,I9,r9,n9⟩=>?_;refine fq (X:=KQ X own fr sc G.objs.size s2 H2 fp) I9 (u0 _) (λx c e z=>?_) (λp hp z=>?_) (by rw[<- rv4.length];exact hlt) λk' s10 I10=>?_
    ·rcases clb2 _ x c e with y|y
     ·rw[z]at y;exact absurd (O0 (Nat.lt_succ_of_le hCle) y) (K3 _)
     ·obtain⟨v,q⟩:=I2.cell x c y;exact absurd (O0 q.lt (by rw[z];exact u0 _)) (K3 _)
    ·have hp:p∈([]:List (Addr×Obj))++gY fp s6.heap:=hp;rw[Q7]at hp;have:=flt _ (xV hp).1;rw[z]at this;exact absurd this (K3 _)
    ·exact again I10 (rv4.append (.cons r9 .nil)) (by rw[M0,W3];omega) n9
 exact codeAny_compStart_list (loop _ rfl) (T.self _ 0 _ _ _ st0' (loop _ rfl))
theorem Tw{pos:Pos}{own:List Str}{wi:TI}{g:TG}{tc:TT}{te:TE}(hc:X.calm=true)(S:CompSc X own fr sc)(hi:PI X tg iter wi)
  (hg:∀C s H ex,PG (KQ X own fr sc C s H ex) tg g) (hif:∀C s H ex,Sz (KQ X own fr sc C s H ex) ifs tc) (he:∀C s H ex,PE (KQ X own fr sc C s H ex) elt te)
  (hs:∀x,foldedSetIterable iter X.env x=pure x:=by intro _;rfl):PE X (.ListComp elt [⟨tg,iter,ifs,0⟩] sc pos) (Gu wi own fr g tc te):=by
 intro pins s σ H Q I h;rw[eval_ListComp];refine wpAny_comprehension_free (use:=none) rfl hs (nW λy hy e=>I.ok.has y.1 (S.free y hy e)) S.kind S.loc (hX (hi pins s σ H _ I h) λv s1 h1=>hX h1 λitv s2 h2=>?_);obtain⟨it,fp,tn,J,H2,e,I2,T,st2,f2,W,⟨m0,w0⟩,turn⟩:=h2;subst e;refine qW (Q:=Q) (RR:=λacc C=>compPost (model X.prog X.w) X.A X.xe none (EP X pins σ Q) acc C) hc S I2 T st2 f2 (λC ex=>hg C s2 H2 ex) (λC ex=>hif C s2 H2 ex) (λC ex=>he C s2 H2 ex) W m0 w0 turn ?_;intro D C H' s' I' q ⟨m,hm⟩ fC;refine ⟨m,hm,λh' sb=>⟨.ref D,H',?_,rfl,q⟩⟩;obtain⟨f0,f1,f2,f3,f4,f5⟩:=fC;exact I'.turned (t':=s'.toks) (λb o hb e=>(sb.2 b hb).trans e) f0 f1 f3 f4 f5
theorem pG{pos spos py:Pos}{i:Nat}{own:List Str}{wi:TI}{g:TG}{tc:TT}{te:TE}(hN:X.N.Nodup)(hy:X.N[i]?=some y)(hl:X.env.scope.names.lookup y=some .local)(hc:X.calm=true)(S:CompSc X own fr sc)(hi:PI X tg iter wi)
  (hg:∀C s H ex,PG (KQ X own fr sc C s H ex) tg g) (hif:∀C s H ex,Sz (KQ X own fr sc C s H ex) ifs tc) (he:∀C s H ex,PE (KQ X own fr sc C s H ex) elt te)
  (hsw:swapsWith (.ListComp elt [⟨tg,iter,ifs,0⟩] sc pos) (some (.Name y py)) spos.line X.env=pure true:=by rfl)
  (hs:∀x,foldedSetIterable iter X.env x=pure x:=by intro _;rfl):PS X (.Assign [.Name y py] (.ListComp elt [⟨tg,iter,ifs,0⟩] sc pos) spos) (fY (Gu wi own fr g tc te) (sJ i)):=by
 intro pins s σ H D I h;rw[exec_Assign_Name_used _ _ _ _ hsw];refine wpAny_bind (wpAny_standAt ?_);show wpAny _ _ (evalThenUse (.ListComp elt [⟨tg,iter,ifs,0⟩] sc pos) X.env _ >>= _) _ _ s;refine wpAny_bind ?_;unfold evalThenUse;refine wpAny_bind ?_;refine wpAny_comprehension_free rfl hs (nW λy hy e=>I.ok.has y.1 (S.free y hy e)) S.kind S.loc (hX (hi pins s σ H _ I h) λv s1 h1=>hX h1 λitv s2 h2=>?_);obtain⟨it,fp,tn,J,H2,e,I2,T,st2,f2,W,⟨m0,w0⟩,turn⟩:=h2;subst e;refine qW (Q:=λv H1=>D.nx (σ.set i (some v)) H1) hc S I2 T st2 f2 (λC ex=>hg C s2 H2 ex) (λC ex=>hif C s2 H2 ex) (λC ex=>he C s2 H2 ex) W m0 w0 turn ?_;intro D' C H' s' I' q ⟨m,hm⟩ fC;obtain⟨f0,f1,f2,f3,f4,f5⟩:=fC;show wpAny (model X.prog X.w) X.A (assign (.Name y py) X.env (.ref D')) (λ_ s''=>∃m,s''.heap.Ns C m/\∀h',X3 C s''.heap h'->_) X.xe s';refine wpAny_assign_Name (wV I' hN hy (.inl hl) (v:=.ref D') rfl (λs'' I'' hsb=>?_) (.inr hl));obtain⟨a,hsb,ha⟩:=hsb;have hCa:C≠a:=by
  rcases ha with z|z
  ·rw[z];exact f1
  ·exact λe=>f4 y a z e.symm
 obtain⟨m',hm'⟩:∃m',s''.heap.Ns C m':=⟨m,hm.sameBut hsb hCa⟩;refine ⟨m',hm',λh' sb=>wpAny_pure (wpAny_pure ⟨_,H',?_,q⟩)⟩;exact I''.turned (t':=s''.toks) (λb o hb e=>(sb.2 b hb).trans e) f0 f1 f3 f4 f5
inductive Kd where|l|t
def ItAt(k:Kd)(h:Heap)(it a:Addr)(i:Nat):Prop:=match k with | .l=>h.IsListIter it a i | .t=>h.IsTupleIter it a i
def SqAt(k:Kd)(h:Heap)(a:Addr)(xs:Array Value):Prop:=match k with | .l=>h.IsList a xs | .t=>h.IsTuple a xs
noncomputable def OX(k:Kd)(a:Addr):Obj:=match k with | .l=>{ cls:=.type "list_iterator",data:=.fields #[.ref a,.int 0 0] } | .t=>{ cls:=.type "tuple_iterator",data:=.fields #[.ref a,.int 0 0] }
theorem ItAt.at{k:Kd}{a:Addr}{i:Nat}(x:ItAt k h it a i)(f:∀o,h.get? it=some o->h'.get? it=some o):ItAt k h' it a i:=by
 cases k with
 | l=>exact Heap.IsListIter.at x f
 | t=>exact Heap.IsTupleIter.at x f
theorem SqAt.at{k:Kd}{a:Addr}{xs:Array Value}(x:SqAt k h a xs)(f:∀o,h.get? a=some o->h'.get? a=some o):SqAt k h' a xs:=by
 cases k with
 | l=>exact Heap.IsList.at x f
 | t=>obtain⟨o,e,r⟩:=x;exact ⟨o,f o e,r⟩
theorem ItAt.obj{k:Kd}{a:Addr}{i:Nat}(x:ItAt k h it a i):∃o,h.get? it=some o/\∀v,o.data≠.cell v:=by
 cases k with
 | l=>obtain⟨o,e,c,d⟩:=x;exact ⟨o,e,λv z=>by rw[d]at z;cases z⟩
 | t=>obtain⟨o,e,c,d⟩:=x;exact ⟨o,e,λv z=>by rw[d]at z;cases z⟩
theorem ItAt.new(k:Kd){h:Heap}{it a:Addr}(e:h.get? it=some (OX k a)):ItAt k h it a 0:=by
 cases k with
 | l=>exact ⟨_,e,rfl,rfl⟩
 | t=>exact ⟨_,e,rfl,rfl⟩
theorem GK{k:Kd}{a:Addr}{xs:Array Value}(hl:SqAt k s.heap a xs)(h:Q (.ref s.heap.objs.size) { s with heap:=s.heap.push (OX k a) }):wpAny (model prog w) A (pyIter (.ref a)) Q E s:=by
 cases k with
 | l=>exact wpAny_pyIter_list hl h
 | t=>exact wpAny_pyIter_tuple hl h
theorem HK{t:Addr}{i:Nat}{items}{x:Value}(hit:s.heap.IsTupleIter it t i)(ht:s.heap.IsTuple t items)(hx:items[i]?=some x)(hQ:∀h',h'.IsTupleIter it t (i+1)->X3 it s.heap h'->Q x { s with heap:=h' }):wpAny (model prog w) A (L1 (.ref it)) Q E s:=by
 obtain⟨o,ho,hc,hd⟩:=id hit;obtain⟨ol,hol,_,nl,hdl⟩:=ht;unfold L1;refine wpAny_bind (wpAny_callSpecial?_slot (name:=Str.ofString "__next__") hit.typeIs F.slot_tuple_iterator_next
   (wpAny_call_entry F.slot_tuple_iterator_next hit.typeIs F.entry_tuple_iterator_next ?_ (F.args_tuple_iterator_next_1 _)));show wpAny _ _ (field (.ref it) 0 >>= _) _ _ s;refine wpAny_bind (wpAny_field ho hd (x:=.ref t) rfl ?_);show wpAny _ _ (if (Z3 t==S6)=true then _ else _) _ _ s;rw[if_neg (show ¬((Z3 t==S6)=true) from T0)];show wpAny _ _ (field (.ref it) 1 >>= _) _ _ s;refine wpAny_bind (wpAny_field ho hd (x:=.int i 0) rfl ?_);show wpAny _ _ (seqItems? (.ref t) >>= _) _ _ s;refine wpAny_bind (wpAny_seqItems hol hdl ?_);simp only[Int.toNat_natCast,hx];refine wpAny_bind (wpAny_setField ho hd (by simp) (wpAny_pure ⟨x,rfl,wpAny_pure (hQ _ ?_ (U7 ..))⟩));exact ⟨_,w6 _ ho (Obj.isFreed_of_fields (Obj.data_mapFields hd _)),(Obj.cls_mapFields ..).trans hc,by
   rw[Obj.data_mapFields hd];simp[rawInt]⟩
theorem kY{l:Addr}{i:Nat}{items}(hh:A.handled=none)(hit:s.heap.IsTupleIter it l i) (hl:s.heap.IsTuple l items) (hx:items[i]?=none)(hE:∀h' e,Heap.ExtBut it s.heap h'->(∃o,h'.get? e=some o/\o.cls=.type "StopIteration")->E (.ref e) { s with heap:=h' }):wpAny (model prog w) A (L1 (.ref it)) Q E s:=by
 obtain⟨o,ho,hc,hd⟩:=id hit;obtain⟨ol,hol,_,nl,hdl⟩:=hl;unfold L1;refine wpAny_bind (wpAny_callSpecial?_slot (name:=Str.ofString "__next__") hit.typeIs F.slot_tuple_iterator_next
   (wpAny_call_entry F.slot_tuple_iterator_next hit.typeIs F.entry_tuple_iterator_next ?_ (F.args_tuple_iterator_next_1 _)));show wpAny _ _ (field (.ref it) 0 >>= _) _ _ s;refine wpAny_bind (wpAny_field ho hd (x:=.ref l) rfl ?_);show wpAny _ _ (if (Z3 l==S6)=true then _ else _) _ _ s;rw[if_neg (show ¬((Z3 l==S6)=true) from T0)];show wpAny _ _ (field (.ref it) 1 >>= _) _ _ s;refine wpAny_bind (wpAny_field ho hd (x:=.int i 0) rfl ?_);show wpAny _ _ (seqItems? (.ref l) >>= _) _ _ s;refine wpAny_bind (wpAny_seqItems hol hdl ?_);simp only[Int.toNat_natCast,hx];refine wpAny_bind (wpAny_rule (wpAny_bind (wpAny_setField ho hd (by simp) ?_)));show wpAny _ _ (newExc (.type "StopIteration") [] >>= _) _ _ _;refine wpAny_bind ?_;simp only[newExc,newTuple];refine wpAny_bind (wpAny_newObj_type ?_ (by size_fits));refine wpAny_bind (m:=firstArgMember _ _) (wpAny_of_eq (a:=S6) (by first|rfl|(simp only[firstArgMember];rfl)) ?_);refine wpAny_newObj_type ?_ (by size_fits);simp only[raiseNew];refine wpAny_bind (wpAny_handled ?_);first|rw[show A.in1.handled=none from hh]|rw[hh]
 refine wpAny_bind (wpAny_pure (wpAny_throw ?_));exact hE _ _ (((U7 ..).extBut.push _).push _) ⟨_,L0 _ rfl,rfl⟩
theorem qX{k:Kd}{a:Addr}{i:Nat}{xs:Array Value}{x:Value}(hit:ItAt k s.heap it a i)(hl:SqAt k s.heap a xs)(hx:xs[i]?=some x)(hQ:∀h',ItAt k h' it a (i+1)->X3 it s.heap h'->Q x { s with heap:=h' }):wpAny (model prog w) A (L1 (.ref it)) Q E s:=by
 cases k with
 | l=>exact wpAny_nextOf_list_item hit hl hx hQ
 | t=>exact HK hit hl hx hQ
theorem WX{k:Kd}{a:Addr}{i:Nat}{xs:Array Value}(hh:A.handled=none)(hit:ItAt k s.heap it a i)(hl:SqAt k s.heap a xs)(hx:xs[i]?=none)(hE:∀h' e,Heap.ExtBut it s.heap h'->(∃o,h'.get? e=some o/\o.cls=.type "StopIteration")->E (.ref e) { s with heap:=h' }):wpAny (model prog w) A (L1 (.ref it)) Q E s:=by
 cases k with
 | l=>exact wpAny_nextOf_list_end hh hit hl hx hE
 | t=>exact kY hh hit hl hx hE
abbrev HQ(h:Heap)(T:Addr)(a1 a2:Value):Prop:=h.get? T=some { cls:=.type "tuple",data:=.seq #[a1,a2] }
structure ZAp2(z TI TO i1 i2 l1 l2:Addr):Prop where
 TIz:TI≠z
 TOz:TO≠z
 i1z:i1≠z
 i2z:i2≠z
 TOTI:TO≠TI
 i1TI:i1≠TI
 i2TI:i2≠TI
 i1TO:i1≠TO
 i2TO:i2≠TO
 i2i1:i2≠i1
 l1z:l1≠z
 l1TO:l1≠TO
 l1i1:l1≠i1
 l1i2:l1≠i2
 l2z:l2≠z
 l2TO:l2≠TO
 l2i1:l2≠i1
 l2i2:l2≠i2
theorem aM(n l1 l2:Nat)(h1:l1 < n)(h2:l2 < n):ZAp2 (n+4) (n+2) (n+3) n (n+1) l1 l2:=by constructor<;>(show ¬(@Eq Nat _ _))<;>omega
theorem qG{x:Value}{k:Nat}{Q:Unit->Shared->Prop}(hT:HQ s.heap T a1 a2)(h:∀h',h'.get? T=some { cls:=.type "tuple",data:=.seq ((#[a1,a2]:Array Value).setIfInBounds k x) }->X3 T s.heap h'->Q () { s with heap:=h' }):wpAny (model prog w) A (updateSeq T (·.setIfInBounds k x)) Q E s:=by
 refine wpAny_updateSeq hT rfl (h _ ?_ (U7 ..));rw[w6 _ hT rfl];simp[B2]
theorem rG{TI TO:Addr}{k:Nat}{k1:Kd}{k2:Kd}{x1:Value}(D:ZAp2 z TI TO i1 i2 l1 l2)(hz:IsZip s.heap z TI TO .none) (hTI:HQ s.heap TI (.ref i1) (.ref i2)) (hTO:HQ s.heap TO a1 a2)(h1:ItAt k1 s.heap i1 l1 k) (h2:ItAt k2 s.heap i2 l2 k) (hl1:SqAt k1 s.heap l1 xs1) (hl2:SqAt k2 s.heap l2 xs2) (hx1:xs1[k]?=some x1) (hx2:xs2[k]?=some x2)(hQ:∀h',IsZip h' z TI TO (rawInt s.heap.objs.size)->HQ h' TO x1 x2->ItAt k1 h' i1 l1 (k+1)->ItAt k2 h' i2 l2 (k+1)->HQ h' s.heap.objs.size x1 x2->h'.objs.size=s.heap.objs.size+1 ->(∀c o,c≠z->c≠TO->c≠i1->c≠i2->s.heap.get? c=some o->h'.get? c=some o)->Q (.ref s.heap.objs.size) { s with heap:=h' }):wpAny (model prog w) A (Builtin.«zip.__next__» ⟨[.ref z],[]⟩) (λfin s'=>∃v,fin=.done (.ret v)/\Q v s') E s:=by
 show wpAny _ _ (field (.ref z) 2 >>= _) _ _ _;refine wpAny_bind (wpAny_field hz rfl (x:=.bool false) rfl ?_);show wpAny _ _ (field (.ref z) 3 >>= _) _ _ _;refine wpAny_bind (wpAny_field hz rfl (x:=.ref TI) rfl ?_);refine wpAny_bind (wpAny_seqItems hTI rfl ?_);show wpAny _ _ (Z1 (.ref z) >>= _) _ _ _;refine wpAny_bind ?_;unfold Z1;refine wpAny_bind (wpAny_field hz rfl (x:=.none) rfl (wpAny_pure ?_));simp only[if_true];refine wpAny_bind (wpAny_rule ?_);refine wpAny_bind (wpAny_field hz rfl (x:=.ref TO) rfl ?_);refine wpAny_bind (wpAny_setField_rec hz (by simp) λh₁ hz₁ hs₁=>?_)
 replace hz₁:IsZip h₁ z TI TO .ellipsis:=hz₁
 refine wpAny_bind ?_;simp only[F7,List.zipIdx_nil,Q6,i7];have up₁:∀c o,c≠z->s.heap.get? c=some o->h₁.get? c=some o:=λc o c1 e=>hs₁.extBut _ _ c1 e;refine wpAny_bind (wpAny_bind (wpAny_onRaise ?_));show wpAny _ _ (L1 (.ref i1) >>= _) _ _ _;refine wpAny_bind (qX (h1.at λo e=>hs₁.extBut _ o D.i1z e) (hl1.at λo e=>hs₁.extBut _ o D.l1z e) hx1 λha1 hi1 hsa1=>wpAny_pure ?_);have hTOa1:HQ ha1 TO a1 a2:=hsa1.extBut _ _ D.i1TO.symm (hs₁.extBut _ _ D.TOz hTO);refine wpAny_bind (wpAny_seqItems hTOa1 rfl ?_);refine wpAny_bind (qG hTOa1 λhb1 hTOb1 hsb1=>?_)
 replace hTOb1:HQ hb1 TO x1 a2:=hTOb1
 refine wpAny_bind (wpAny_letGo (wpAny_pure ?_));refine wpAny_bind (wpAny_bind (wpAny_onRaise ?_));show wpAny _ _ (L1 (.ref i2) >>= _) _ _ _;refine wpAny_bind (qX (((h2.at λo e=>hs₁.extBut _ o D.i2z e).at λo e=>hsa1.extBut _ o D.i2i1 e).at λo e=>hsb1.extBut _ o D.i2TO e) (((hl2.at λo e=>hs₁.extBut _ o D.l2z e).at λo e=>hsa1.extBut _ o D.l2i1 e).at λo e=>hsb1.extBut _ o D.l2TO e) hx2 λha2 hi2 hsa2=>wpAny_pure ?_);have hTOa2:HQ ha2 TO x1 a2:=hsa2.extBut _ _ D.i2TO.symm hTOb1;refine wpAny_bind (wpAny_seqItems hTOa2 rfl ?_);refine wpAny_bind (qG hTOa2 λhb2 hTOb2 hsb2=>?_)
 replace hTOb2:HQ hb2 TO x1 x2:=hTOb2
 refine wpAny_bind (wpAny_letGo (wpAny_pure (wpAny_pure ?_)));refine wpAny_bind (wpAny_seqItems hTOb2 rfl ?_);refine wpAny_bind (wpAny_newTuple ?_);have hsz:hb2.objs.size=s.heap.objs.size:=by rw[hsb2.1,hsa2.1,hsb1.1,hsa1.1,hs₁.1]
 have hzG:IsZip hb2 z TI TO .ellipsis:=(hsb2.extBut _ _ D.TOz.symm (hsa2.extBut _ _ D.i2z.symm (hsb1.extBut _ _ D.TOz.symm (hsa1.extBut _ _ D.i1z.symm hz₁))));have hkG:∀c o,c≠z->c≠TO->c≠i1->c≠i2->s.heap.get? c=some o->hb2.get? c=some o:=λc o c1 c2 d1 d2 e=>(hsb2.extBut _ _ c2 (hsa2.extBut _ _ d2 (hsb1.extBut _ _ c2 (hsa1.extBut _ _ d1 (hs₁.extBut _ _ c1 e)))));have hiG1:ItAt k1 hb2 i1 l1 (k+1):=(((hi1.at λo e=>hsb1.extBut _ o D.i1TO e).at λo e=>hsa2.extBut _ o D.i2i1.symm e).at λo e=>hsb2.extBut _ o D.i1TO e);have hiG2:ItAt k2 hb2 i2 l2 (k+1):=(hi2.at λo e=>hsb2.extBut _ o D.i2TO e);have hzlt:z < hb2.objs.size:=G0 hzG;show wpAny _ _ (N6 (.ref z) (.ref hb2.objs.size) >>= _) _ _ _;refine wpAny_bind ?_;unfold N6;have hz₆:IsZip (hb2.push { cls:=.type "tuple",data:=.seq #[x1,x2] }) z TI TO .ellipsis:=g0 _ hzG;refine wpAny_bind (wpAny_setField_rec hz₆ (by simp) λh₇ hz₇ hs₇=>?_)
 replace hz₇:IsZip h₇ z TI TO (rawInt hb2.objs.size):=hz₇
 refine wpAny_setField_rec hz₇ (by simp) λh₈ hz₈ hs₈=>?_
 replace hz₈:IsZip h₈ z TI TO (rawInt hb2.objs.size):=hz₈
 have up:∀c o,c≠z->hb2.get? c=some o->h₈.get? c=some o:=λc o c1 e=>hs₈.extBut _ _ c1 (hs₇.extBut _ _ c1 (g0 _ e));have hT₈:HQ h₈ hb2.objs.size x1 x2:=hs₈.extBut _ _ (V2 hzlt) (hs₇.extBut _ _ (V2 hzlt) (L0 _ rfl));have hz8:h₈.objs.size=hb2.objs.size+1:=by rw[hs₈.1,hs₇.1,Z2]
 rw[hsz]at hz₈ hT₈ hz8;refine wpAny_pure ⟨_,rfl,?_⟩;show Q (.ref hb2.objs.size) _;rw[hsz];exact hQ h₈ hz₈ (up _ _ D.TOz hTOb2) (hiG1.at λo e=>up _ o D.i1z e) (hiG2.at λo e=>up _ o D.i2z e) hT₈ hz8 λc o c1 c2 d1 d2 e=>up c o c1 (hkG c o c1 c2 d1 d2 e)
theorem gq{TI TO:Addr}{k:Nat}{k1:Kd}{k2:Kd}{Q:Fin->Shared->Prop}(hh:A.handled=none)(D:ZAp2 z TI TO i1 i2 l1 l2)(hz:IsZip s.heap z TI TO .none) (hTI:HQ s.heap TI (.ref i1) (.ref i2)) (hTO:HQ s.heap TO a1 a2)(h1:ItAt k1 s.heap i1 l1 k) (h2:ItAt k2 s.heap i2 l2 k) (hl1:SqAt k1 s.heap l1 xs1) (hl2:SqAt k2 s.heap l2 xs2) (hend:xs1[k]?=none\/xs2[k]?=none)(hE:∀h' e,(∀c o,c≠z->c≠TO->c≠i1->c≠i2->s.heap.get? c=some o->h'.get? c=some o)->(∃o,h'.get? e=some o/\o.cls=.type "StopIteration")->E (.ref e) { s with heap:=h' }):wpAny (model prog w) A (Builtin.«zip.__next__» ⟨[.ref z],[]⟩) Q E s:=by
 show wpAny _ _ (field (.ref z) 2 >>= _) _ _ _;refine wpAny_bind (wpAny_field hz rfl (x:=.bool false) rfl ?_);show wpAny _ _ (field (.ref z) 3 >>= _) _ _ _;refine wpAny_bind (wpAny_field hz rfl (x:=.ref TI) rfl ?_);refine wpAny_bind (wpAny_seqItems hTI rfl ?_);show wpAny _ _ (Z1 (.ref z) >>= _) _ _ _;refine wpAny_bind ?_;unfold Z1;refine wpAny_bind (wpAny_field hz rfl (x:=.none) rfl (wpAny_pure ?_));simp only[if_true];refine wpAny_bind (wpAny_rule ?_);refine wpAny_bind (wpAny_field hz rfl (x:=.ref TO) rfl ?_);refine wpAny_bind (wpAny_setField_rec hz (by simp) λh₁ hz₁ hs₁=>?_)
 replace hz₁:IsZip h₁ z TI TO .ellipsis:=hz₁
 refine wpAny_bind ?_;simp only[F7,List.zipIdx_nil,Q6,i7];refine wpAny_bind (wpAny_bind (wpAny_onRaise ?_));show wpAny _ _ (L1 (.ref i1) >>= _) _ _ _;cases hx1:xs1[k]? with
 | none =>
  refine wpAny_bind (WX hh (h1.at λo e=>hs₁.extBut _ o D.i1z e) (hl1.at λo e=>hs₁.extBut _ o D.l1z e) hx1 λhq e hsq he=>?_);obtain⟨oe,hoe,hce⟩:=he;have hzq:IsZip hq z TI TO .ellipsis:=hsq _ _ D.i1z.symm hz₁;have hez:e≠z:=λx=>by subst x;rw[hzq]at hoe;cases hoe;simp at hce
  refine wpAny_setField_rec hzq (by simp) λh₉ _ hs₉=>hE h₉ e (λc o c1 c2 d1 d2 x=>hs₉.extBut _ _ c1 (hsq _ _ d1 (hs₁.extBut _ _ c1 x))) ⟨oe,hs₉.extBut _ _ hez hoe,hce⟩
 | some x1 =>
  refine wpAny_bind (qX (h1.at λo e=>hs₁.extBut _ o D.i1z e) (hl1.at λo e=>hs₁.extBut _ o D.l1z e) hx1 λha1 hi1 hsa1=>wpAny_pure ?_);have hTOa1:HQ ha1 TO a1 a2:=hsa1.extBut _ _ D.i1TO.symm (hs₁.extBut _ _ D.TOz hTO);refine wpAny_bind (wpAny_seqItems hTOa1 rfl ?_);refine wpAny_bind (qG hTOa1 λhb1 hTOb1 hsb1=>?_)
  replace hTOb1:HQ hb1 TO x1 a2:=hTOb1
  refine wpAny_bind (wpAny_letGo (wpAny_pure ?_));refine wpAny_bind (wpAny_bind (wpAny_onRaise ?_));show wpAny _ _ (L1 (.ref i2) >>= _) _ _ _;have hx2:xs2[k]?=none:=by
   rcases hend with h|h
   ·rw[hx1]at h;cases h
   ·exact h
  refine wpAny_bind (WX hh (((h2.at λo e=>hs₁.extBut _ o D.i2z e).at λo e=>hsa1.extBut _ o D.i2i1 e).at λo e=>hsb1.extBut _ o D.i2TO e) (((hl2.at λo e=>hs₁.extBut _ o D.l2z e).at λo e=>hsa1.extBut _ o D.l2i1 e).at λo e=>hsb1.extBut _ o D.l2TO e) hx2 λhq e hsq he=>?_);obtain⟨oe,hoe,hce⟩:=he;have hzq:IsZip hq z TI TO .ellipsis:=hsq _ _ D.i2z.symm (hsb1.extBut _ _ D.TOz.symm (hsa1.extBut _ _ D.i1z.symm hz₁));have hez:e≠z:=λx=>by subst x;rw[hzq]at hoe;cases hoe;simp at hce
  refine wpAny_setField_rec hzq (by simp) λh₉ _ hs₉=>hE h₉ e (λc o c1 c2 d1 d2 x=>hs₉.extBut _ _ c1 (hsq _ _ d2 (hsb1.extBut _ _ c2 (hsa1.extBut _ _ d1 (hs₁.extBut _ _ c1 x))))) ⟨oe,hs₉.extBut _ _ hez hoe,hce⟩
theorem xJ{TI TO:Addr}{k:Nat}{k1:Kd}{k2:Kd}{x1:Value}{Q:Option Value->Shared->Prop}(D:ZAp2 z TI TO i1 i2 l1 l2)(hz:IsZip s.heap z TI TO .none) (hTI:HQ s.heap TI (.ref i1) (.ref i2)) (hTO:HQ s.heap TO a1 a2)(h1:ItAt k1 s.heap i1 l1 k) (h2:ItAt k2 s.heap i2 l2 k) (hl1:SqAt k1 s.heap l1 xs1) (hl2:SqAt k2 s.heap l2 xs2) (hx1:xs1[k]?=some x1) (hx2:xs2[k]?=some x2)(hQ:∀h',IsZip h' z TI TO (rawInt s.heap.objs.size)->HQ h' TO x1 x2->ItAt k1 h' i1 l1 (k+1)->ItAt k2 h' i2 l2 (k+1)->HQ h' s.heap.objs.size x1 x2->h'.objs.size=s.heap.objs.size+1 ->(∀c o,c≠z->c≠TO->c≠i1->c≠i2->s.heap.get? c=some o->h'.get? c=some o)->Q (some (.ref s.heap.objs.size)) { s with heap:=h' }):wpAny (model prog w) A (pyNext (.ref z)) Q E s:=by
 have hT:s.TypeIs (.ref z) "zip":=⟨_,hz,rfl⟩;unfold pyNext;exact wpAny_bind (wpAny_attempt (wpAny_callSpecial?_slot (name:=Str.ofString "__next__") hT F.slot_zip_next
   (wpAny_call_entry F.slot_zip_next hT F.entry_zip_next
     (rG D hz hTI hTO h1 h2 hl1 hl2 hx1 hx2 λh' a1 a2 b1 b2 a5 a6 a7=>wpAny_pure (hQ h' a1 a2 b1 b2 a5 a6 a7)) (F.args_zip_next_1 _))))
theorem mK{TI TO:Addr}{k:Nat}{k1:Kd}{k2:Kd}{Q:Option Value->Shared->Prop}(hh:A.handled=none)(D:ZAp2 z TI TO i1 i2 l1 l2)(hz:IsZip s.heap z TI TO .none) (hTI:HQ s.heap TI (.ref i1) (.ref i2)) (hTO:HQ s.heap TO a1 a2)(h1:ItAt k1 s.heap i1 l1 k) (h2:ItAt k2 s.heap i2 l2 k) (hl1:SqAt k1 s.heap l1 xs1) (hl2:SqAt k2 s.heap l2 xs2) (hend:xs1[k]?=none\/xs2[k]?=none)(hQ:∀h',(∀c o,c≠z->c≠TO->c≠i1->c≠i2->s.heap.get? c=some o->h'.get? c=some o)->Q none { s with heap:=h' }):wpAny (model prog w) A (pyNext (.ref z)) Q E s:=by
 have hT:s.TypeIs (.ref z) "zip":=⟨_,hz,rfl⟩;unfold pyNext;refine wpAny_bind (wpAny_attempt (wpAny_callSpecial?_slot (name:=Str.ofString "__next__") hT F.slot_zip_next
   (wpAny_call_entry F.slot_zip_next hT F.entry_zip_next (gq hh D hz hTI hTO h1 h2 hl1 hl2 hend λh' e hk he=>?_) (F.args_zip_next_1 _))));obtain⟨o,ho,hc⟩:=he;refine wpAny_bind (wpAny_isInstance (T:="StopIteration") (b:=true) ⟨o,ho,hc⟩ isSubtype_stop ?_);exact wpAny_pure (hQ _ hk)
noncomputable abbrev iq(h:Heap)(k1:Kd)(k2:Kd)(l1 l2:Addr):Heap:=((h.push (OX k1 l1)).push (OX k2 l2))
noncomputable abbrev jq(h:Heap)(k1:Kd)(k2:Kd)(l1 l2:Addr):Heap:=(iq h k1 k2 l1 l2).push { cls:=.type "tuple",data:=.seq #[.ref h.objs.size,.ref (h.push (OX k1 l1)).objs.size] }
noncomputable abbrev kq(h:Heap)(k1:Kd)(k2:Kd)(l1 l2:Addr):Heap:=(jq h k1 k2 l1 l2).push { cls:=.type "tuple",data:=.seq #[.none,.none] }
noncomputable abbrev pJ(h:Heap)(k1:Kd)(k2:Kd)(l1 l2:Addr):Heap:=(kq h k1 k2 l1 l2).push { cls:=.type "zip",data:=.fields #[.none,.bool false,.bool false,.ref (iq h k1 k2 l1 l2).objs.size,.ref (jq h k1 k2 l1 l2).objs.size] }
theorem gH(k1:Kd)(k2:Kd)(l1 l2:Addr)(xs1 xs2:Array Value):Meets (Builtin.«zip.__new__» ⟨[.type "zip",.ref l1,.ref l2],[]⟩) (λ_ R s=>SqAt k1 s.heap l1 xs1/\SqAt k2 s.heap l2 xs2 /\ R (.ok (.ret (.ref (kq s.heap k1 k2 l1 l2).objs.size))) { s with heap:=pJ s.heap k1 k2 l1 l2 }):=
 .of_wp λprog w A R s h=>by
  obtain⟨hp,g,d,tk,os⟩:=s;obtain⟨hl1,hl2,h⟩:=h;have hsub:=sub_zip;have hL1:SqAt k1 (Shared.heap ⟨hp,g,d,tk,os⟩) l1 xs1:=hl1;have hL2:SqAt k2 (Shared.heap ⟨(hp.push (OX k1 l1)),g,d,tk,os⟩) l2 xs2:=(SqAt.at hl2 λo e=>g0 _ e)
  wp_walk using GK hL1,GK hL2
  exact ⟨_,rfl,h⟩
structure ZAp3(z TI TO i1 i2 i3 l1 l2 l3:Addr):Prop where
 TIz:TI≠z
 TOz:TO≠z
 i1z:i1≠z
 i2z:i2≠z
 i3z:i3≠z
 TOTI:TO≠TI
 i1TI:i1≠TI
 i2TI:i2≠TI
 i3TI:i3≠TI
 i1TO:i1≠TO
 i2TO:i2≠TO
 i3TO:i3≠TO
 i2i1:i2≠i1
 i3i1:i3≠i1
 i3i2:i3≠i2
 l1z:l1≠z
 l1TO:l1≠TO
 l1i1:l1≠i1
 l1i2:l1≠i2
 l1i3:l1≠i3
 l2z:l2≠z
 l2TO:l2≠TO
 l2i1:l2≠i1
 l2i2:l2≠i2
 l2i3:l2≠i3
 l3z:l3≠z
 l3TO:l3≠TO
 l3i1:l3≠i1
 l3i2:l3≠i2
 l3i3:l3≠i3
inductive Ki where|non|bl|int|str|lst|tup|dct
 deriving DecidableEq
noncomputable def Ki.nm:Ki->String
 | .non=>"NoneType" | .bl=>"bool" | .int=>"int" | .str=>"str" | .lst=>"list" | .tup=>"tuple" | .dct=>"dict"
noncomputable def KiOf(K:n0)(H:Hp):V->Ki->Prop
 | .non,k=>k=.non
 | .bl _,k=>k=.bl
 | .int _,k=>k=.int
 | .str _,k=>k=.str
 | .ref a,k=>(k=.lst/\∃xs,SqL K H a xs)\/(k=.tup/\∃xs,SqT K H a xs)\/(k=.dct/\((∃kvs,H a=some (.dK kvs))\/∃kvs,H a=some (.dT kvs)))
 | _,_=>False
noncomputable def Ki.sub:Ki->Ki->Bool
 | .bl,.int=>true
 | a,b=>decide (a=b)
theorem KiOf.typeIs{x:V}{k:Ki}(I:Inv X pins σ H s)(h:KiOf X.K H x k)(r:RelV x u):s.TypeIs u k.nm:=by
 cases x with
 | non=>cases h;cases r;rfl
 | bl b=>cases h;cases r;rfl
 | int i=>cases h;obtain⟨t,rfl⟩:=r;rfl
 | str i=>cases h;obtain⟨t,rfl⟩:=r;rfl
 | ref a =>
  cases r;rcases h with⟨rfl,xs,hq⟩|⟨rfl,xs,hq⟩|⟨rfl,⟨kvs,hq⟩|⟨kvs,hq⟩⟩
  ·obtain⟨its,_,⟨o,n,e,c,_⟩,_⟩:=I.list hq;exact ⟨o,e,c⟩
  ·obtain⟨its,_,⟨o,e,c,_⟩,_⟩:=I.tuple hq;exact ⟨o,e,c⟩
  ·obtain⟨_,_,_,_,o,es,ep,e,c,_⟩:=I.hok a _ hq;exact ⟨o,e,c.1⟩
  ·obtain⟨_,_,_,_,o,es,ep,e,c,_⟩:=I.hok a _ hq;exact ⟨o,e,c.1⟩
 | byt _=>cases h
 | flt _=>cases h
 | ty _=>cases h
theorem dZ(T:Ki):typeOf (.type T.nm)=pure (.type "type"):=by
 cases T
 ·exact F.isi_meta_NoneType
 ·exact F.isi_meta_bool
 ·exact F.isi_meta_int
 ·exact F.isi_meta_str
 ·exact F.isi_meta_list
 ·exact F.isi_meta_tuple
 ·exact F.isi_meta_dict
theorem nU(k T:Ki):isSubtype (.type k.nm) (.type T.nm)=pure (k.sub T):=by cases k<;>cases T<;>(show isSubtype (.type _) (.type _)=pure _;rw[isSubtype_type];kernel_rfl)
theorem Hu(k T:Ki)(h:k.sub T=false):(L9 k.nm==L9 T.nm)=false:=by cases k<;>cases T<;>first|(exfalso;revert h;decide)|decide +kernel
def QO(K:n0):List V->Hp->VK->Prop:=λxs H Q=>∃(x:V) (k:Ki) (T:Ki),xs=[x,.ty T.nm]/\KiOf K H x k/\Q (.bl (k.sub T)) H
theorem Tz:dX X (.builtin "isinstance") (QO X.K):=by
 intro pins s σ H xs us Q I r h;obtain⟨x,k,T,rfl,hk,q⟩:=h;obtain⟨u,w',rfl,ru,rw'⟩:=lK r;obtain rfl:w'=.type T.nm:=rw';have ht:=hk.typeIs I ru;cases hs:k.sub T with
 | true=>rw[hs]at q;exact call_isinstance (isinstance_true (Tx:=k.nm) (dZ T) (by rw[nU,hs])) ⟨ht,.bl true,H,I,rfl,q⟩
 | false =>
  rw[hs]at q;have hsub:isSubtype (.type k.nm) (.type T.nm)=pure false:=by rw[nU,hs]
  have hne:=Hu k T hs;have fin:EP X pins σ Q (.bool false) { s with toks:=s.toks+1 }:=⟨.bl false,H,I.tok _,rfl,q⟩;cases x with
  | non=>cases hk;cases ru;exact call_isinstance (isinstance_false_none hne (dZ T) hsub) fin
  | bl b=>cases hk;cases ru;exact call_isinstance (isinstance_false_bool hne (dZ T) hsub) fin
  | int i=>cases hk;obtain⟨t,rfl⟩:=ru;exact call_isinstance (isinstance_false_int hne (dZ T) hsub) fin
  | str i=>cases hk;obtain⟨t,rfl⟩:=ru;exact call_isinstance (isinstance_false_str hne (dZ T) hsub) fin
  | ref a =>
   cases ru;rcases hk with⟨rfl,_⟩|⟨rfl,_⟩|⟨rfl,_⟩
   ·exact call_isinstance (isinstance_false_list hne (dZ T) hsub) ⟨ht,fin⟩
   ·exact call_isinstance (isinstance_false_tuple hne (dZ T) hsub) ⟨ht,fin⟩
   ·exact call_isinstance (isinstance_false_dict hne (dZ T) hsub) ⟨ht,fin⟩
  | byt _=>cases hk
  | flt _=>cases hk
  | ty _=>cases hk
def SC(K:n0):List V->Hp->VK->Prop:=λxs H Q=>∃(a:Addr) (bs:List Bool),xs=[.ref a]/\SqL K H a (bs.map V.bl)/\Q (.bl (bs.all id)) H
theorem iH{bs:List Bool}(r:Vals (bs.map V.bl) us)(i:Nat)(v:Value)(h:us[i]?=some v):∃b,bs[i]?=some b/\v=.bool b:=by
 cases e:bs[i]? with
 | none =>
  have h1:(bs.map V.bl)[i]?=none:=by rw[X0,e];rfl
  rw[r.none_of h1]at h;cases h
 | some b=>obtain⟨u,hu,ru⟩:=r.get (i:=i) (x:=.bl b) (by rw[X0,e];rfl);rw[hu]at h;cases h;exact ⟨b,rfl,ru⟩
theorem oU(bs:List Bool):((N1 bs.length).all λi=>(bs[i]?).getD true)=bs.all id:=by
 rw[m6,Y2,Y2];constructor
 ·intro h b hb;obtain⟨i,hi,e⟩:=E6.mp hb;have:=h i (u3.mpr hi);rw[A0 hi,G5,e]at this;exact this
 ·intro h i hi;have hi:=u3.mp hi;rw[A0 hi,G5];exact h _ (J4 hi)
theorem Uz(hc:X.calm=true):dX X (.builtin "all") (SC X.K):=by
 intro pins s σ H xs us Q I r h;obtain⟨a,bs,rfl,hq,q⟩:=h;obtain⟨u,rfl,ru⟩:=qZ r;cases ru;obtain⟨its,rv,p,hz⟩:=I.list hq;have hl:=p.isList;have hlt:a < s.heap.objs.size:=by obtain⟨_,e,_⟩:=hl;exact G0 e
 refine call_all_walk (wpAny_pyIter_list hl ?_);refine ⟨s.heap.objs.size,[s.heap.objs.size,a],[s.heap.objs.size],its.toArray.size,_,_,λi=>(bs[i]?).getD true,rfl,Walks.list (A:=X.A.in1) (I.ok.hd hc) _ a (U0 hlt) its.toArray,
   ⟨⟨_,L0 _ rfl,rfl,rfl⟩,hl.push _⟩,λi v s' Q' E' hP hQ=>?_,λh' tk hk=>?_⟩
 ·obtain⟨b,e,rfl⟩:=iH rv i v (by simpa using hP);simp only[e,G5]at hQ;exact wpAny_truthy_bool hQ
 ·have e:((N1 its.toArray.size).all λi=>(bs[i]?).getD true)=bs.all id:=by
   have hl2:=rv.length;rw[j0]at hl2;rw[N0,<- hl2];exact oU bs
  rw[e];refine ⟨.bl (bs.all id),H,I.kept (h':=h') (t':=tk) λb o eo=>hk b o (λhm=>?_) (g0 _ eo),rfl,q⟩;rw[Z0.mp hm]at eo;exact K3 _ (G0 eo)
def Sq(k:Kd)(K:n0)(H:Hp)(a:Addr)(xs:List V):Prop:=match k with | .l=>SqL K H a xs | .t=>SqT K H a xs
theorem Inv.sq{k:Kd}{a:Addr}{xs:List V}(I:Inv X pins σ H s)(h:Sq k X.K H a xs):∃its:List Value,Vals xs its/\SqAt k s.heap a its.toArray/\xs.length<=sizeLine:=by
 cases k with
 | l=>obtain⟨its,r,p,z⟩:=I.list h;exact ⟨its,r,p.isList,z⟩
 | t=>obtain⟨its,r,p,z⟩:=I.tuple h;exact ⟨its,r,p,z⟩
theorem Inv.sq_inj{k:Kd}{a:Addr}{xs:List V}(I:Inv X pins σ H s)(h:Sq k X.K H a xs)(h':Sq k X.K H a ys):xs=ys:=by
 cases k with
 | l=>exact I.list_inj h h'
 | t=>exact I.tuple_inj h h'
noncomputable def TC(K:n0)(k1:Kd)(k2:Kd)(l1 l2:Addr):It :=
 ⟨λi H=>∃ys1 x1 ys2 x2,Sq k1 K H l1 ys1/\Sq k2 K H l2 ys2/\ys1[i]?=some x1/\ys2[i]?=some x2,
  λi H x H'=>∃T x1 x2,H T=none/\x=.ref T/\H'=UQ H T (.tup [x1,x2])/\(∀ys,Sq k1 K H l1 ys->ys[i]?=some x1)/\(∀ys,Sq k2 K H l2 ys->ys[i]?=some x2),
  λi H=>∃ys1 ys2,Sq k1 K H l1 ys1/\Sq k2 K H l2 ys2/\(ys1.length<=i\/ys2.length<=i)⟩
theorem lq{K:n0}{es:List Expr}{pos:Pos}(k1:Kd)(k2:Kd)(z TI TO i1 i2 l1 l2:Addr)(D:ZAp2 z TI TO i1 i2 l1 l2):Turn P w K (.Tuple es kk pos) (TC K k1 k2 l1 l2) [z,TI,TO,i1,i2] z (λi h=>IsZip h z TI TO .none/\HQ h TI (.ref i1) (.ref i2)/\(∃a1 a2,HQ h TO a1 a2)/\ItAt k1 h i1 l1 i/\ItAt k2 h i2 l2 i) where
 mem:=by simp
 obj:=λi h st b hb=>by
  obtain⟨hz,hTI,⟨a1,a2,hTO⟩,t1,t2⟩:=st;have hb:b=z\/b=TI\/b=TO\/b=i1\/b=i2:=by simpa using hb
  rcases hb with rfl|rfl|rfl|rfl|rfl
  ·exact ⟨_,hz,λv e=>by cases e⟩
  ·exact ⟨_,hTI,λv e=>by cases e⟩
  ·exact ⟨_,hTO,λv e=>by cases e⟩
  ·exact t1.obj
  ·exact t2.obj
 keep:=λi h h' st k=>by obtain⟨hz,hTI,⟨a1,a2,hTO⟩,t1,t2⟩:=st;exact ⟨k _ (by simp) _ hz,k _ (by simp) _ hTI,⟨a1,a2,k _ (by simp) _ hTO⟩,t1.at λo e=>k _ (by simp) _ e,t2.at λo e=>k _ (by simp) _ e⟩
 item:=by
  intro X hP hw hK hc i pins s σ H E I hf st hg;subst hP hw hK;obtain⟨hz,hTI,⟨a1,a2,hTO⟩,t1,t2⟩:=st;obtain⟨ys1,x1,ys2,x2,q1,q2,e1,e2⟩:=hg;obtain⟨its1,rv1,p1,z1⟩:=I.sq q1;obtain⟨u1,hu1,ru1⟩:=rv1.get e1;obtain⟨its2,rv2,p2,z2⟩:=I.sq q2;obtain⟨u2,hu2,ru2⟩:=rv2.get e2;refine xJ D hz hTI hTO t1 t2 p1 p2 (show its1.toArray[i]?=some u1 by simpa using hu1) (show its2.toArray[i]?=some u2 by simpa using hu2) λh' b1 b2 c1 c2 b5 b6 b7=>?_;have hTn:s.heap.objs.size≠z:=V2 (G0 hz);refine ⟨_,rfl,wpAny_letOwnedTupleGo_zip (s:={ s with heap:=h' }) b1 λh2 hz2 hs2=>?_⟩;have kp:∀b o,b∉[z,TI,TO,i1,i2]->s.heap.get? b=some o->h2.get? b=some o:=λb o hb e=>by
   have hb:b≠z/\b≠TI/\b≠TO/\b≠i1/\b≠i2:=by simpa using hb
   obtain⟨g1,g2,g3,f1,f2⟩:=hb;exact hs2.extBut _ _ g1 (b7 b o g1 g3 f1 f2 e)
  have hTI2:HQ h2 TI (.ref i1) (.ref i2):=hs2.extBut _ _ D.TIz (b7 TI _ D.TIz (E3 D.TOTI) (E3 D.i1TI) (E3 D.i2TI) hTI);have hT2:HQ h2 s.heap.objs.size u1 u2:=hs2.extBut _ _ hTn b5;have hfr:H s.heap.objs.size=none:=I.hok.fresh (u0 _);have I2:Inv X pins σ (UQ H s.heap.objs.size (.tup [x1,x2])) { s with heap:=h2 }:=by
   have nfp:∀b u,H b=some u->b∉[z,TI,TO,i1,i2]:=λb u e hb=>by have:=(hf b hb).1;rw[e]at this;cases this
   refine I.step (g':=s.gens) (d':=s.drawn) (ch:=[z,TI,TO,i1,i2]) (λb hb=>?_) (λb o _ _ hc' e _=>kp b o hc' e) (λb o _ _ hc' e _=>⟨o.slots,kp b o hc' e⟩) (λb o _ e n=>?_)
    (λb o hc' e=>⟨o,kp b o hc' e⟩) (λb xs e=>?_) (λb o xs e=>?_) (λb ps e=>⟨#[],?_⟩) (λm hm=>?_) (λb o e=>?_) I.bare
   ·obtain⟨f0,f1,f2,f3,f4,f5⟩:=hf b hb;exact ⟨f3,f1,f4,f5⟩
   ·rw[nQ (U0 (G0 e))];exact n
   ·rw[nQ (oQ e hfr)];exact e
   ·rw[nQ (oQ e hfr)];exact e
   ·rw[nQ (oQ e hfr),e];simp
   ·obtain⟨o,es',ep,ho,r⟩:=hm;exact ⟨o,es',ep,kp _ o (λhb=>(hf _ hb).2.1 rfl) ho,r⟩
   ·by_cases hb:b=s.heap.objs.size
    ·subst hb;rw[AQ]at e;cases e;exact ⟨by show 2<=sizeLine;decide,[u1,u2],.cons ru1 (.cons ru2 .nil),_,hT2,rfl,_,rfl,rfl⟩
    ·rw[nQ hb]at e;refine (I.hok b o e).stay (λc v hc' q=>kp c v ?_ q) (λc q=>by rw[nQ (oQ q hfr)];exact q) λc xs q=>by rw[nQ (oQ q hfr)];exact q
     rcases hc' with rfl|hc'
     ·exact nfp _ _ e
     ·exact nfp _ _ hc'
  refine ⟨.ref s.heap.objs.size,_,I2,rfl,⟨_,x1,x2,hfr,rfl,rfl,(λys hy=>by rw[I.sq_inj hy q1];exact e1),(λys hy=>by rw[I.sq_inj hy q2];exact e2)⟩,⟨hz2,hTI2,⟨u1,u2,hs2.extBut _ _ D.TOz b2⟩,c1.at λo e=>hs2.extBut _ _ D.i1z e,c2.at λo e=>hs2.extBut _ _ D.i2z e⟩,λb hb=>?_⟩;rw[nQ ?_]
  ·exact (hf b hb).1
  ·intro e;subst e;have hb:s.heap.objs.size=z\/s.heap.objs.size=TI\/s.heap.objs.size=TO\/s.heap.objs.size=i1\/s.heap.objs.size=i2:=by simpa using hb
   rcases hb with e|e|e|e|e
   ·exact hTn e
   ·exact V2 (G0 hTI) e
   ·exact V2 (G0 hTO) e
   ·obtain⟨o,eo,_⟩:=t1.obj;exact V2 (G0 eo) e
   ·obtain⟨o,eo,_⟩:=t2.obj;exact V2 (G0 eo) e
 done:=by
  intro X hP hw hK hc i pins s σ H E I hf st hg;subst hP hw hK;obtain⟨hz,hTI,⟨a1,a2,hTO⟩,t1,t2⟩:=st;obtain⟨ys1,ys2,q1,q2,hend⟩:=hg;obtain⟨its1,rv1,p1,z1⟩:=I.sq q1;have len1:=rv1.length;obtain⟨its2,rv2,p2,z2⟩:=I.sq q2;have len2:=rv2.length;refine mK (I.ok.hd hc) D hz hTI hTO t1 t2 p1 p2 ?_ λh' kp=>⟨rfl,?_⟩
  ·rcases hend with h|h
   ·exact .inl (by simp;omega)
   ·exact .inr (by simp;omega)
  ·have nfp:∀b u,H b=some u->b∉[z,TI,TO,i1,i2]:=λb u e hb=>by have:=(hf b hb).1;rw[e]at this;cases this
   have kp':∀b o,b∉[z,TI,TO,i1,i2]->s.heap.get? b=some o->h'.get? b=some o:=λb o hb e=>by
    have hb:b≠z/\b≠TI/\b≠TO/\b≠i1/\b≠i2:=by simpa using hb
    obtain⟨g1,g2,g3,f1,f2⟩:=hb;exact kp b o g1 g3 f1 f2 e
   refine I.step (g':=s.gens) (d':=s.drawn) (ch:=[z,TI,TO,i1,i2]) (λb hb=>?_) (λb o _ _ hc' e _=>kp' b o hc' e) (λb o _ _ hc' e _=>⟨o.slots,kp' b o hc' e⟩) (λb o _ e n=>n)
    (λb o hc' e=>⟨o,kp' b o hc' e⟩) (λb xs e=>e) (λb o xs e=>e) (λb ps e=>⟨#[],by rw[e];simp⟩) (λm hm=>?_) (λb o e=>?_) I.bare
   ·obtain⟨f0,f1,f2,f3,f4,f5⟩:=hf b hb;exact ⟨f3,f1,f4,f5⟩
   ·obtain⟨o,es',ep,ho,r⟩:=hm;exact ⟨o,es',ep,kp' _ o (λhb=>(hf _ hb).2.1 rfl) ho,r⟩
   ·refine (I.hok b o e).stay (λc v hc' q=>kp' c v ?_ q) (λ_ q=>q) λ_ _ q=>q;rcases hc' with rfl|hc'
    ·exact nfp _ _ e
    ·exact nfp _ _ hc'
 self:=λ_ _ _ _ _ st h=>wpAny_pyIter_zip st.1 h
def HF(K:n0)(ta:TA):TI:=λσ H R=>ta σ H λvs H1=>∃(k1:Kd) (l1:Addr) (ys1:List V) (k2:Kd) (l2:Addr) (ys2:List V),vs=[.ref l1,.ref l2]/\Sq k1 K H1 l1 ys1/\Sq k2 K H1 l2 ys2/\R (TC K k1 k2 l1 l2) H1
theorem Uw{es:List Expr}{kk:Nat}{tpos:Pos}{a b:Expr}{ta:TA}{p pos:Pos}(hg:Gl X "zip")(hm:X.mg "zip"=none)(ha:PA X [a,b] ta)(hs:starEach [a,b] X.env=(false,eval a X.env) :: starEach [b] X.env:=by rfl)(hpl:(backTo pos (starEach [b] X.env)).any (·.1)=false:=by rfl) :
  PI X (.Tuple es kk tpos) (.Call (.Name "zip" p) [a,b] [] pos) (HF X.K ta):=by
 intro pins s σ H R I h;refine Call_ (WZ I hg hm boot_zip (Y3 (hX (ha pos pins s σ H _ I h) λus s1 ⟨vs,H1,I1,r1,q1⟩=>?_) hs hpl));obtain⟨k1,l1,ys1,k2,l2,ys2,e,q1,q2,q⟩:=q1;subst e;obtain rfl:us=[.ref l1,.ref l2]:=by cases r1 with|cons r rr=>cases r;cases rr with|cons r rr=>cases r;cases rr;rfl
 obtain⟨its1,rv1,p1,z1⟩:=I1.sq q1;obtain⟨its2,rv2,p2,z2⟩:=I1.sq q2;have lt:∀{k:Kd}{l:Addr}{xs:Array Value},SqAt k s1.heap l xs->l < s1.heap.objs.size:=λ{k l xs} p=>by
  cases k with
  | l=>obtain⟨o,e,_⟩:=p;exact G0 e
  | t=>obtain⟨o,e,_⟩:=p;exact G0 e
 refine callType_new F.called_zip (by decide) (F.typeCall_zip_2 _ _) (F.newCall_zip_2 _ _) (λobj=>F.args_object_init_3 obj _ _) F.entry_zip_new (gH k1 k2 l1 l2 its1.toArray its2.toArray) ⟨p1,p2,?_⟩;have zI:(iq s1.heap k1 k2 l1 l2).objs.size=s1.heap.objs.size+2:=by simp[Z2]
 have zT:(jq s1.heap k1 k2 l1 l2).objs.size=s1.heap.objs.size+3:=by simp[Z2]
 have zO:(kq s1.heap k1 k2 l1 l2).objs.size=s1.heap.objs.size+4:=by simp[Z2]
 have gZ:(pJ s1.heap k1 k2 l1 l2).get? (kq s1.heap k1 k2 l1 l2).objs.size=some _:=L0 _ rfl;have gO:(pJ s1.heap k1 k2 l1 l2).get? (jq s1.heap k1 k2 l1 l2).objs.size=some _:=g0 _ (L0 _ rfl);have gT:(pJ s1.heap k1 k2 l1 l2).get? (iq s1.heap k1 k2 l1 l2).objs.size=some _:=g0 _ (g0 _ (L0 _ rfl));have g1:(pJ s1.heap k1 k2 l1 l2).get? s1.heap.objs.size=some (OX k1 l1):=g0 _ (g0 _ (g0 _ (g0 _ (L0 _ (by cases k1<;>rfl)))));have g2:(pJ s1.heap k1 k2 l1 l2).get? (s1.heap.push (OX k1 l1)).objs.size=some (OX k2 l2):=g0 _ (g0 _ (g0 _ (L0 _ (by cases k2<;>rfl))));have zz2:(s1.heap.push (OX k1 l1)).objs.size=s1.heap.objs.size+1:=by simp[Z2]
 rw[zO,zT,zI]at gZ;rw[zI,zz2]at gT;rw[zT]at gO;rw[zz2]at g2;show _/\_;rw[zO];have kp:∀b o,s1.heap.get? b=some o->(pJ s1.heap k1 k2 l1 l2).get? b=some o:=λb o e=>g0 _ (g0 _ (g0 _ (g0 _ (g0 _ (e)))));refine ⟨⟨_,gZ,rfl⟩,wpAny_pyIter_zip (s:={ s1 with heap:=pJ s1.heap k1 k2 l1 l2 }) gZ ?_⟩;refine ⟨_,[s1.heap.objs.size+4,s1.heap.objs.size+2,s1.heap.objs.size+3,s1.heap.objs.size,s1.heap.objs.size+1],_,_,H1,rfl,I1.kept (t':=s1.toks) kp,lq k1 k2 _ _ _ _ _ l1 l2 (aM _ l1 l2 (lt p1) (lt p2)),⟨gZ,gT,⟨_,_,gO⟩,ItAt.new k1 g1,ItAt.new k2 g2⟩,λb hb=>?_,q⟩;have hb:s1.heap.objs.size<=b:=by
  have hb:b=s1.heap.objs.size+4\/b=s1.heap.objs.size+2\/b=s1.heap.objs.size+3\/b=s1.heap.objs.size\/b=s1.heap.objs.size+1:=by simpa using hb
  rcases hb with rfl|rfl|rfl|rfl|rfl;all_goals first|exact Q2 _ _|exact u0 _
 exact I1.fpOk hb (I1.hok.fresh hb)
mutual
inductive Is (K:n0) (H:Hp):V->PyData->Prop
 | non:Is K H .non .none
 | bl (b):Is K H (.bl b) (.bool b)
 | int (i):Is K H (.int i) (.int i)
 | str (x):Is K H (.str x) (.str x)
 | lst {a xs ds}:SqL K H a xs->IsAll K H xs ds->Is K H (.ref a) (.list ds)
 | tup {a xs ds}:SqT K H a xs->IsAll K H xs ds->Is K H (.ref a) (.tuple ds)
inductive IsAll (K:n0) (H:Hp):List V->List PyData->Prop
 | nil:IsAll K H [] []
 | cons {x xs d ds}:Is K H x d->IsAll K H xs ds->IsAll K H (x :: xs) (d :: ds)
end
mutual
theorem Is.reads(I:Inv X pins σ H s):∀{x:V}{d:PyData}{u:Value},Is X.K H x d->RelV x u->∃as,Reads s.heap u d as
 | _,_,_,.non,r=>by cases r;exact ⟨_,.none⟩
 | _,_,_,.bl b,r=>by cases r;exact ⟨_,.bool b⟩
 | _,_,_,.int i,r=>by obtain⟨t,rfl⟩:=r;exact ⟨_,.int i t⟩
 | _,_,_,.str x,r=>by obtain⟨t,rfl⟩:=r;exact ⟨_,.str x t⟩
 | _,_,_,.lst hq ha,r=>by cases r;obtain⟨its,rv,⟨o,n,e,c,d,q⟩,z⟩:=I.list hq;obtain⟨as,hr⟩:=IsAll.reads I ha rv;exact ⟨_,.list e c q (by simpa using hr)⟩
 | _,_,_,.tup hq ha,r=>by cases r;obtain⟨its,rv,⟨o,e,c,n,q⟩,z⟩:=I.tuple hq;obtain⟨as,hr⟩:=IsAll.reads I ha rv;exact ⟨_,.tuple e c q (by simpa using hr)⟩
theorem IsAll.reads(I:Inv X pins σ H s):∀{xs:List V}{ds:List PyData}{us:List Value},IsAll X.K H xs ds->Vals xs us->∃as,ReadsAll s.heap us ds as
 | _,_,_,.nil,.nil=>⟨_,.nil⟩
 | _,_,_,.cons h t,.cons r rr=>by obtain⟨as,a⟩:=Is.reads I h r;obtain⟨bs,b⟩:=IsAll.reads I t rr;exact ⟨_,.cons a b⟩
end
open PySem.SeqAt in
def iV(K:n0)(neg:Bool):R2:=λx y H Q=>∃d e:PyData,Is K H x d/\Is K H y e/\shaped d=true/\shaped e=true/\noMix d e=true/\Q (.bl (if neg then !same d e else same d e)) H
theorem UC(hu:X.A.units+64 < cLine):OpR X (compareOp .Eq) (iV X.K false):=by intro pins s σ H x y v u Q I r1 r2 h;obtain⟨d,e,i1,i2,s1,s2,nm,q⟩:=h;obtain⟨as,a⟩:=i1.reads I r1;obtain⟨bs,b⟩:=i2.reads I r2;exact eq_dataH_same a b s1 s2 hu nm ⟨.bl _,H,I,rfl,q⟩
theorem VC(hu:X.A.units+64 < cLine):OpR X (compareOp .NotEq) (iV X.K true):=by intro pins s σ H x y v u Q I r1 r2 h;obtain⟨d,e,i1,i2,s1,s2,nm,q⟩:=h;obtain⟨as,a⟩:=i1.reads I r1;obtain⟨bs,b⟩:=i2.reads I r2;exact ne_dataH_same a b s1 s2 hu nm ⟨.bl _,H,I,rfl,q⟩
structure Cal(P:Program)(w:World)(K:n0)(mg:Str->Option Value)(base:Heap)(k:Nat)(x:Str)(ps:List Str)(sp:Sp):Prop where
 ex:∃(f:Addr) (fd:FuncData),FnOk P w K mg base iZ k f fd ps sp/\mg x=some (.ref f)/\j5 K (.ref f)=true/\Binds K fd ps []
theorem Iu{k:Nat}{x:Str}{ps:List Str}{sp:Sp}{p pos:Pos}{e:Expr}{es:List Expr}{t:TA}(C:Cal X.prog X.w X.K X.mg X.base k x ps sp)(hr:Room k X.A)(ha:PA X (e :: es) t)(hg:Gl X x:=by rfl)
  (hdb:(x==("__debug__":Str))=false:=by decide) (he:starEach (e :: es) X.env=(false,eval e X.env) :: starEach es X.env:=by rfl) (hpl:(backTo pos (starEach es X.env)).any (·.1)=false:=by rfl) :
  PE X (.Call (.Name x p) (e :: es) [] pos) (zV sp [] E0 t):=by
 obtain⟨f,fd,F,hm,hk,hb⟩:=C.ex;exact Jw F hr hg hm hk hb .nil XL ha hdb he hpl
noncomputable def pU(ds:Scope)(N:List Str)(fr:List Nat)(sc:Scope):Bool :=
 decide (sc.kind=.function)&&(sc.names.all λy=>!decide (y.2=.cell)||decide (sc.names.lookup y.1=some .cell))&&(sc.names.all λy=>!decide (y.2=.local)||decide (sc.names.lookup y.1=some .local)) &&
 (sc.names.all λy=>!decide (y.2=.free)||(decide (ds.names.lookup y.1=some .cell)||decide (ds.names.lookup y.1=some .free))) &&
 (fr.all λi=>match N[i]? with|some x=>decide (sc.names.lookup x=some .free)|none=>false)
theorem IV{own:List Str}(h:pU X.env.scope X.N fr sc=true):CompSc X own fr sc:=by
 unfold pU at h;simp only[J1,decide_eq_true_eq,Y2,Bool.or_eq_true,Bool.not_eq_true',decide_eq_false_iff_not]at h;obtain⟨⟨⟨⟨h1,h2⟩,h3⟩,h4⟩,h5⟩:=h;refine ⟨h1,λy hy e=>?_,λy hy e=>?_,λy hy e=>?_,λi hi=>?_⟩
 ·rcases h2 y hy with z|z
  ·exact absurd e z
  ·exact z
 ·rcases h3 y hy with z|z
  ·exact absurd e z
  ·exact z
 ·rcases h4 y hy with z|z
  ·exact absurd e z
  ·exact z
 ·have:=h5 i hi;cases q:X.N[i]? with
  | none=>rw[q]at this;cases this
  | some x=>rw[q]at this;exact ⟨x,rfl,of_decide_eq_true this⟩
def bM(J:It)(own:List Str)(fr:List Nat)(g:TG)(tc:TT)(te:TE)(σ:St)(H:Hp)(Q:VK):Prop :=
 ∃W:Nat->Nat->List V->St->Hp->Prop,(∃m,W 0 m [] (PC own σ fr) H)/\∀i m ys τ H,W i m ys τ H ->
   (J.stop i H/\∀D,H D=none->Q (.ref D) (UQ H D (.lst ys))) \/
   (J.go i H/\ys.length < sizeLine/\∃N:List V->St->Hp->Prop,(∀ys' τ' H',N ys' τ' H'->∃m',m' < m/\W (i+1) m' ys' τ' H')/\∀x H',J.yld i H x H'->g x τ H' λτ2 H2=>tc τ2 H2 λb H3=>if b=true then te τ2 H3 λy H4=>N (ys++[y]) τ2 H4 else N ys τ2 H3)
def rW(wi:TI)(own:List Str)(fr:List Nat)(g:TG)(tc:TT)(te:TE):TE:=λσ H Q=>wi σ H λJ H1=>bM J own fr g tc te σ H1 Q
theorem Vz{pos:Pos}{own:List Str}{wi:TI}{g:TG}{tc:TT}{te:TE}(hc:X.calm=true)(S:CompSc X own fr sc)(hi:PI X tg iter wi)
  (hg:∀C s H ex,PG (KQ X own fr sc C s H ex) tg g) (hif:∀C s H ex,Sz (KQ X own fr sc C s H ex) ifs tc) (he:∀C s H ex,PE (KQ X own fr sc C s H ex) elt te)
  (hs:∀x,foldedSetIterable iter X.env x=pure x:=by intro _;rfl):PE X (.ListComp elt [⟨tg,iter,ifs,0⟩] sc pos) (rW wi own fr g tc te):=Tw hc S hi hg hif he hs
theorem jH{pos spos py:Pos}{i:Nat}{own:List Str}{wi:TI}{g:TG}{tc:TT}{te:TE}(hN:X.N.Nodup)(hy:X.N[i]?=some y)(hl:X.env.scope.names.lookup y=some .local)(hc:X.calm=true)(S:CompSc X own fr sc)(hi:PI X tg iter wi)
  (hg:∀C s H ex,PG (KQ X own fr sc C s H ex) tg g) (hif:∀C s H ex,Sz (KQ X own fr sc C s H ex) ifs tc) (he:∀C s H ex,PE (KQ X own fr sc C s H ex) elt te)
  (hsw:swapsWith (.ListComp elt [⟨tg,iter,ifs,0⟩] sc pos) (some (.Name y py)) spos.line X.env=pure true:=by rfl)
  (hs:∀x,foldedSetIterable iter X.env x=pure x:=by intro _;rfl):PS X (.Assign [.Name y py] (.ListComp elt [⟨tg,iter,ifs,0⟩] sc pos) spos) (fY (rW wi own fr g tc te) (sJ i)):=pG hN hy hl hc S hi hg hif he hsw hs
section
variable {K:n0}
theorem Wz(h:X.K=K):IxR X (Mw K):=by subst h;exact Ow
theorem Vw(h:X.K=K):IxR X (Nw K):=by subst h;exact FC
def cM(K:n0):List V->Hp->VK->Prop:=λxs H Q=>∃(p:Addr) (ys:List V),xs=[.ref p]/\(SqL K H p ys\/SqT K H p ys)/\Q (.int ys.length) H
theorem GQ(h:X.K=K):dX X (.builtin "len") (cM K):=by subst h;exact lU
def IF(K:n0):List V->Hp->VK->Prop:=λxs H Q=>∃(p:Addr) (ys:List V),xs=[.ref p]/\(SqL K H p ys\/SqT K H p ys)/\∀l,H l=none->Q (.ref l) (UQ H l (.lst ys))
theorem XX(h:X.K=K):dX X (.type "list") (IF K):=by subst h;exact mU
def kH(K:n0):List V->Hp->VK->Prop:=λxs H Q=>∃(p:Addr) (ys:List V),xs=[.ref p]/\((SqL K H p ys/\∀l,H l=none->Q (.ref l) (UQ H l (.tup ys)))\/(SqT K H p ys/\Q (.ref p) H))
theorem HX(h:X.K=K):dX X (.type "tuple") (kH K):=by subst h;exact fV
theorem OZ(h:X.K=K)(hc:X.calm=true):dX X (.builtin "all") (SC K):=by subst h;exact Uz hc
theorem Ww(h:X.K=K)(hu:X.A.units+64 < cLine):OpR X (compareOp .Eq) (iV K false):=by subst h;exact UC hu
theorem Xw(h:X.K=K)(hu:X.A.units+64 < cLine):OpR X (compareOp .NotEq) (iV K true):=by subst h;exact VC hu
theorem Xz{es:List Expr}{kk:Nat}{tpos:Pos}{a b:Expr}{ta:TA}{p pos:Pos}(h:X.K=K)(hg:Gl X "zip")(hm:X.mg "zip"=none)(ha:PA X [a,b] ta)(hs:starEach [a,b] X.env=(false,eval a X.env) :: starEach [b] X.env:=by rfl)(hpl:(backTo pos (starEach [b] X.env)).any (·.1)=false:=by rfl) :
  PI X (.Tuple es kk tpos) (.Call (.Name "zip" p) [a,b] [] pos) (HF K ta):=by subst h;exact Uw hg hm ha hs hpl
theorem Yw{es:List Expr}{k:Nat}{t:lw}{pos:Pos}(h:X.K=K)(hc:X.calm=true)(hh:zu X es t)(hn:(assignEach es X.env).length=n:=by rfl)(hst:(assignEach es X.env).findIdx? (·.1)=none:=by rfl):PG X (.Tuple es k pos) (Fw K n t):=by subst h;exact mC hc hh hn hst
end
theorem Yz{t b:Addr}{ws:List Value}(ht:IsTup s.heap t ([]:List Value).toArray)(hb:IsTup s.heap b ws.toArray)(h:Q (.ref b) s):wpAny (model prog w) A (binaryOp .Add (.ref t) (.ref b)) Q E s:=by obtain⟨⟨cls,dd,data,sl⟩,ho,hc,n,hd⟩:=id ht;obtain⟨⟨cls2,dd2,data2,sl2⟩,ho2,hc2,n2,hd2⟩:=id hb;simp only at hc hd hc2 hd2;subst hc hd hc2 hd2;exact concat_meets ⟨_,ho,rfl⟩ ⟨_,ho2,rfl⟩ noFill_tuple_add seq_tuple_add PySem.F.slot_tuple_add PySem.F.entry_tuple_add (PySem.F.args_tuple_add_2 _ _) (tuple_addW0 t b _ ws.toArray n n2 dd dd2 sl sl2 rfl) ⟨ho,ho2,h⟩
noncomputable abbrev dM(a:Addr):HO:=.ext λh=>∃o es ep,h.get? a=some o/\o.ExactDict/\o.data=.dict es ep
noncomputable def hL(k:List Int):Int:=reduceHash (U4 (k.map hashInt))
noncomputable def hB(k:List Int×List Int):Int:=reduceHash (U4 [hL k.1,hL k.2])
noncomputable abbrev rX{κ:Type}(hs:κ->Int)(a:Addr)(ep:Nat)(xs:List (κ×Addr×V)):HO:=.ext λh=>(∃vs:List (κ×Addr×Value),Paired (λx v=>x.1=v.1/\x.2.1=v.2.1/\RelV x.2.2 v.2.2) xs vs /\
  ∃o es,h.get? a=some o/\o.ExactDict/\o.data=.dict es ep/\es.toList=vs.map λx=>⟨hs x.1,.ref x.2.1,x.2.2⟩)/\(xs.map (·.1)).Nodup/\xs.length<=sizeLine/\(a==sysModules)=false
noncomputable abbrev RO(a C:Addr):HO:=.ext λh=>∃o vs,h.get? a=some o/\o.cls=.ref C/\o.data=.fields vs
end L2
namespace L3
open L2
noncomputable abbrev D:=PyData
noncomputable abbrev Fg:=n0
def Sub(F H:Hp):Prop:=∀a o,F a=some o->H a=some o
theorem Sub.refl(H:Hp):Sub H H:=λ_ _ h=>h
theorem Sub.trans{A B C:Hp}(h:Sub A B)(k:Sub B C):Sub A C:=λa o e=>k a o (h a o e)
theorem Sub.new{F:Hp}{a:Addr}{o:HO}(h:F a=none):Sub F (UQ F a o):=λb u e=>by rw[nQ (oQ e h)];exact e
theorem Sub.rd{F:Hp}{a:Addr}{u:HO}(s:Sub F H):Rd F a u->Rd H a u
 | .inl h=>.inl (s _ _ h)
 | .inr ⟨o,h⟩=>.inr ⟨o,s _ _ h⟩
theorem Sub.sql{K:Fg}{F:Hp}{a:Addr}{xs:List V}(s:Sub F H):SqL K F a xs->SqL K H a xs
 | .inl h=>.inl (s.rd h)
 | .inr h=>.inr h
noncomputable def Zz:VZ->D
 | .inl i=>.int i
 | .inr x=>.str x
noncomputable abbrev bJ(ns:List Int):D:=.dict [(.none,.list (ns.map i0))]
noncomputable abbrev eM(C:Addr):D:=.dict [(.bool true,.int (C:Nat))]
noncomputable abbrev fM:D:=.dict [(.bool false,.none)]
noncomputable abbrev qU(ps:List (List Int×D)):D:=.dict [(.bool false,.list (ps.map λp=>.tuple [.tuple (p.1.map i0),p.2]))]
noncomputable abbrev iK(ps:List ((List Int×List Int)×D)):D:=.dict [(.bool false,.tuple (ps.map λp=>.tuple [.tuple [.tuple (p.1.1.map i0),.tuple (p.1.2.map i0)],p.2]))]
mutual
inductive Da (K:Fg) (F:Hp):V->D->Prop
 | non:Da K F .non .none
 | bl (b):Da K F (.bl b) (.bool b)
 | int (i):Da K F (.int i) (.int i)
 | str (x):Da K F (.str x) (.str x)
 | lst {a xs ds}:F a=some (.lst xs)->DaAll K F xs ds->Da K F (.ref a) (.list ds)
 | tup {a xs ds}:F a=some (.tup xs)->DaAll K F xs ds->Da K F (.ref a) (.tuple ds)
 | dk {a kvs es}:Rd F a (.dK kvs)->DaKV K F kvs es->Da K F (.ref a) (.dict es)
 | dt {a kvs es}:Rd F a (.dT kvs)->DaKT K F kvs es->Da K F (.ref a) (.dict es)
 | scr {a ns}:SqL K F a (ns.map V.int)->Da K F (.ref a) (bJ ns)
 | exc {a C}:F a=some (RO a C)->Da K F (.ref a) (eM C)
 | opq {a}:F a=some (dM a)->Da K F (.ref a) fM
 | pd {a a' ep xs ps}:F a=some (rX hL a' ep xs)->DaPd K F xs ps->Da K F (.ref a) (qU ps)
 | bd {a a' ep xs ps}:F a=some (rX hB a' ep xs)->DaBd K F xs ps->Da K F (.ref a) (iK ps)
inductive DaAll (K:Fg) (F:Hp):List V->List D->Prop
 | nil:DaAll K F [] []
 | cons {x xs d ds}:Da K F x d->DaAll K F xs ds->DaAll K F (x :: xs) (d :: ds)
inductive DaKV (K:Fg) (F:Hp):List (VZ×V)->List (D×D)->Prop
 | nil:DaKV K F [] []
 | cons {k v d kvs es}:Da K F v d->DaKV K F kvs es->DaKV K F ((k,v) :: kvs) ((Zz k,d) :: es)
inductive DaKT (K:Fg) (F:Hp):List (List VZ×V)->List (D×D)->Prop
 | nil:DaKT K F [] []
 | cons {ks v d kvs es}:Da K F v d->DaKT K F kvs es->DaKT K F ((ks,v) :: kvs) ((.tuple (ks.map Zz),d) :: es)
inductive DaPd (K:Fg) (F:Hp):List (List Int×Addr×V)->List (List Int×D)->Prop
 | nil:DaPd K F [] []
 | cons {k b v d xs ps}:F b=some (.tup (k.map V.int))->Da K F v d->DaPd K F xs ps->DaPd K F ((k,b,v) :: xs) ((k,d) :: ps)
inductive DaBd (K:Fg) (F:Hp):List ((List Int×List Int)×Addr×V)->List ((List Int×List Int)×D)->Prop
 | nil:DaBd K F [] []
 | cons {k b c e v d xs ps}:F b=some (.tup [.ref c,.ref e])->F c=some (.tup (k.1.map V.int))->F e=some (.tup (k.2.map V.int))->Da K F v d->DaBd K F xs ps->DaBd K F ((k,b,v) :: xs) ((k,d) :: ps)
end
section
variable {K:Fg}{F F':Hp}
mutual
theorem Da.mono(s:Sub F F'):∀{v:V}{d:D},Da K F v d->Da K F' v d
 | _,_,.non=>.non
 | _,_,.bl b=>.bl b
 | _,_,.int i=>.int i
 | _,_,.str x=>.str x
 | _,_,.lst h t=>.lst (s _ _ h) (DaAll.mono s t)
 | _,_,.tup h t=>.tup (s _ _ h) (DaAll.mono s t)
 | _,_,.dk h t=>.dk (s.rd h) (DaKV.mono s t)
 | _,_,.dt h t=>.dt (s.rd h) (DaKT.mono s t)
 | _,_,.scr h=>.scr (s.sql h)
 | _,_,.exc h=>.exc (s _ _ h)
 | _,_,.opq h=>.opq (s _ _ h)
 | _,_,.pd h t=>.pd (s _ _ h) (DaPd.mono s t)
 | _,_,.bd h t=>.bd (s _ _ h) (DaBd.mono s t)
theorem DaAll.mono(s:Sub F F'):∀{xs:List V}{ds:List D},DaAll K F xs ds->DaAll K F' xs ds
 | _,_,.nil=>.nil
 | _,_,.cons h t=>.cons (Da.mono s h) (DaAll.mono s t)
theorem DaKV.mono(s:Sub F F'):∀{xs:List (VZ×V)}{ds:List (D×D)},DaKV K F xs ds->DaKV K F' xs ds
 | _,_,.nil=>.nil
 | _,_,.cons h t=>.cons (Da.mono s h) (DaKV.mono s t)
theorem DaKT.mono(s:Sub F F'):∀{xs:List (List VZ×V)}{ds:List (D×D)},DaKT K F xs ds->DaKT K F' xs ds
 | _,_,.nil=>.nil
 | _,_,.cons h t=>.cons (Da.mono s h) (DaKT.mono s t)
theorem DaPd.mono(s:Sub F F'):∀{xs:List (List Int×Addr×V)}{ps:List (List Int×D)},DaPd K F xs ps->DaPd K F' xs ps
 | _,_,.nil=>.nil
 | _,_,.cons h v t=>.cons (s _ _ h) (Da.mono s v) (DaPd.mono s t)
theorem DaBd.mono(s:Sub F F'):∀{xs:List ((List Int×List Int)×Addr×V)}{ps:List ((List Int×List Int)×D)},DaBd K F xs ps->DaBd K F' xs ps
 | _,_,.nil=>.nil
 | _,_,.cons h h1 h2 v t=>.cons (s _ _ h) (s _ _ h1) (s _ _ h2) (Da.mono s v) (DaBd.mono s t)
end
theorem DaAll.length:∀{xs:List V}{ds:List D},DaAll K F xs ds->xs.length=ds.length
 | _,_,.nil=>rfl
 | _,_,.cons _ t=>by simp[DaAll.length t]
theorem DaAll.get:∀{xs:List V}{ds:List D}{i:Nat}{d:D},DaAll K F xs ds->ds[i]?=some d->∃v,xs[i]?=some v/\Da K F v d
 | _,_,_,_,.nil,e=>by simp at e
 | _,_,0,_,.cons h _,e=>by simp at e;subst e;exact ⟨_,rfl,h⟩
 | _,_,i+1,_,.cons _ t,e=>by obtain⟨v,a,b⟩:=DaAll.get (i:=i) t (by simpa using e);exact ⟨v,by simpa using a,b⟩
theorem DaAll.getV:∀{xs:List V}{ds:List D}{i:Nat}{v:V},DaAll K F xs ds->xs[i]?=some v->∃d,ds[i]?=some d/\Da K F v d
 | _,_,_,_,.nil,e=>by simp at e
 | _,_,0,_,.cons h _,e=>by simp at e;subst e;exact ⟨_,rfl,h⟩
 | _,_,i+1,_,.cons _ t,e=>by obtain⟨v,a,b⟩:=DaAll.getV (i:=i) t (by simpa using e);exact ⟨v,by simpa using a,b⟩
theorem DaAll.append:∀{xs ys:List V}{ds es:List D},DaAll K F xs ds->DaAll K F ys es->DaAll K F (xs++ys) (ds++es)
 | _,_,_,_,.nil,s=>s
 | _,_,_,_,.cons h t,s=>.cons h (DaAll.append t s)
theorem DaAll.set{v:V}{d:D}(h:Da K F v d):∀{xs:List V}{ds:List D} (i:Nat),DaAll K F xs ds->DaAll K F (xs.set i v) (ds.set i d)
 | _,_,_,.nil=>.nil
 | _,_,0,.cons _ t=>.cons h t
 | _,_,i+1,.cons q t=>.cons q (DaAll.set h i t)
theorem DaAll.take:∀{xs:List V}{ds:List D} (n:Nat),DaAll K F xs ds->DaAll K F (xs.take n) (ds.take n)
 | _,_,0,_=>.nil
 | _,_,_+1,.nil=>.nil
 | _,_,n+1,.cons h t=>.cons h (DaAll.take n t)
theorem DaAll.drop:∀{xs:List V}{ds:List D} (n:Nat),DaAll K F xs ds->DaAll K F (xs.drop n) (ds.drop n)
 | _,_,0,r=>r
 | _,_,_+1,.nil=>.nil
 | _,_,n+1,.cons _ t=>DaAll.drop n t
theorem DaAll.reverse{xs:List V}{ds:List D}(h:DaAll K F xs ds):DaAll K F xs.reverse ds.reverse:=by
 induction xs generalizing ds with
 | nil=>cases h;exact .nil
 | cons x xs ih =>
  cases h with
  | cons h t=>rw[o7,o7];exact (ih t).append (.cons h .nil)
theorem DaAll.rep{xs:List V}{ds:List D}(h:DaAll K F xs ds):∀k:Nat,DaAll K F (A1 k xs).flatten (A1 k ds).flatten
 | 0=>.nil
 | k+1=>by rw[A4,A4,S5,S5];exact h.append (DaAll.rep h k)
theorem DaAll.ints:∀ns:List Int,DaAll K F (ns.map V.int) (ns.map i0)
 | []=>.nil
 | n :: ns=>.cons (.int n) (DaAll.ints ns)
end
inductive Sl where
 | fz (d:D)|ow (d:D)|io (d:D)
noncomputable def Sl.d:Sl->D
 | .fz d=>d
 | .ow d=>d
 | .io d=>d
noncomputable def aX:Sl->Bool
 | .fz _=>false
 | .ow _=>true
 | .io _=>true
noncomputable abbrev Ev:=List (Option Sl)
noncomputable def Own1(K:Fg)(F:Hp):HO->D->Prop
 | .lst xs,.list ds=>DaAll K F xs ds
 | .dK kvs,.dict es=>DaKV K F kvs es
 | .dT kvs,.dict es=>DaKT K F kvs es
 | .ext φ,.dict [(.bool false,.list L)]=>∃(a':Addr) (ep:Nat) (xs:List (List Int×Addr×V)) (ps:List (List Int×D)),HO.ext φ=rX hL a' ep xs/\L=ps.map (λp=>.tuple [.tuple (p.1.map i0),p.2])/\DaPd K F xs ps
 | .ext φ,.dict [(.bool false,.tuple L)]=>∃(a':Addr) (ep:Nat) (xs:List ((List Int×List Int)×Addr×V)) (ps:List ((List Int×List Int)×D)),HO.ext φ=rX hB a' ep xs/\L=ps.map (λp=>.tuple [.tuple [.tuple (p.1.1.map i0),.tuple (p.1.2.map i0)],p.2])/\DaBd K F xs ps
 | _,_=>False
section
variable {K:Fg}{F F':Hp}{o:HO}{d:D}{a:Addr}
theorem Own1.ext{φ:Heap->Prop}(h:Own1 K F (.ext φ) d):(∃(a':Addr) (ep:Nat) (xs:List (List Int×Addr×V)) (ps:List (List Int×D)),HO.ext φ=rX hL a' ep xs/\d=qU ps/\DaPd K F xs ps) \/ ∃(a':Addr) (ep:Nat) (xs:List ((List Int×List Int)×Addr×V)) (ps:List ((List Int×List Int)×D)),HO.ext φ=rX hB a' ep xs/\d=iK ps/\DaBd K F xs ps:=by
 unfold Own1 at h;split at h
 ·rename_i z;cases z
 ·rename_i z;cases z
 ·rename_i z;cases z
 ·rename_i z;obtain⟨a',ep,xs,ps,e,rfl,t⟩:=h;exact .inl ⟨a',ep,xs,ps,z.trans e,rfl,t⟩
 ·rename_i z;obtain⟨a',ep,xs,ps,e,rfl,t⟩:=h;exact .inr ⟨a',ep,xs,ps,z.trans e,rfl,t⟩
 ·exact h.elim
theorem Own1.bd{a':Addr}{ep:Nat}{xs:List ((List Int×List Int)×Addr×V)}{ps:List ((List Int×List Int)×D)}(h:DaBd K F xs ps):Own1 K F (rX hB a' ep xs) (iK ps):=⟨a',ep,xs,ps,rfl,rfl,h⟩
theorem Own1.mono(s:Sub F F')(h:Own1 K F o d):Own1 K F' o d:=by
 cases o with
 | ext φ =>
  rcases h.ext with⟨a',ep,xs,ps,e,rfl,t⟩|⟨a',ep,xs,ps,e,rfl,t⟩
  ·exact ⟨a',ep,xs,ps,e,rfl,t.mono s⟩
  ·exact ⟨a',ep,xs,ps,e,rfl,t.mono s⟩
 | _=>cases d<;>first|exact DaAll.mono s h|exact DaKV.mono s h|exact DaKT.mono s h|exact h.elim
theorem Own1.da(h:Own1 K F o d)(e:F a=some o):Da K F (.ref a) d:=by
 cases o with
 | ext φ =>
  rcases h.ext with⟨a',ep,xs,ps,z,rfl,t⟩|⟨a',ep,xs,ps,z,rfl,t⟩
  ·rw[z]at e;exact .pd e t
  ·rw[z]at e;exact .bd e t
 | _=>cases d<;>first|exact .lst e h|exact .dk (.inl e) h|exact .dt (.inl e) h|exact h.elim
end
noncomputable def lamN:List Str:=["all_around","_law_made","_law_settle","exchanged","mirrored","stretched","cut"]
noncomputable def TB(K:Fg):List (Addr×Str):=lamN.filterMap λx=>(G9 K x).map λz=>(z.2,x)
noncomputable def stk:HO->Bool
 | .tbl _=>true
 | .frz _ _=>true
 | _=>false
noncomputable abbrev KY(c:Addr)(o:Obj):HO:=.frz o (.ext λh=>∃o,h.get? c=some o)
def aj(x:Str)(o:Obj):Prop:=∃vs t,o.data=.fields vs/\vs[1]?=some (.str (x ++ ".<locals>.<lambda>") t)
def TabOk(K:Fg)(F H:Hp):Prop:=∀z∈TB K,F z.1=none/\∃ps,H z.1=some (.tbl ps)/\PySem.TriplesOk ps.toList/\∀pos v,codeAmong pos ps.toList=some v->∃c o,v=.ref c/\H c=some (KY c o)/\aj z.2 o
theorem TabOk.up{K:Fg}{F F' H':Hp}(T:TabOk K F H)(kp:∀a o,stk o=true->H a=some o->H' a=some o)(hF:∀z∈TB K,F' z.1=none):TabOk K F' H':=λz hz=>by obtain⟨_,ps,e,t,q⟩:=T z hz;refine ⟨hF z hz,ps,kp _ _ rfl e,t,λpos v ev=>?_⟩;obtain⟨c,o,e1,e2,e3⟩:=q pos v ev;exact ⟨c,o,e1,kp _ _ rfl e2,e3⟩
theorem TabOk.put{K:Fg}{F:Hp}{a:Addr}{o:HO}(T:TabOk K F H)(n:∀u,H a=some u->stk u=false):TabOk K F (UQ H a o):=T.up (λb u s e=>by rw[nQ λz=>by subst z;rw[n u e]at s;cases s];exact e) λz hz=>(T z hz).1
theorem TabOk.ne{K:Fg}{F:Hp}{a:Addr}(T:TabOk K F H)(n:∀u,H a=some u->stk u=false):∀z∈TB K,z.1≠a:=λz hz e=>by obtain⟨_,ps,e1,_⟩:=T z hz;rw[e]at e1;cases n _ e1
theorem TabOk.F{K:Fg}{F:Hp}{a:Addr}{o:HO}(T:TabOk K F H)(n:∀u,H a=some u->stk u=false):TabOk K (UQ F a o) H:=T.up (λ_ _ _ e=>e) λz hz=>by rw[nQ (T.ne n z hz)];exact (T z hz).1
theorem Own1.stk{K:Fg}{F:Hp}{o:HO}{d:D}(h:Own1 K F o d):stk o=false:=by cases o<;>first|rfl|(cases d<;>exact h.elim)
structure Gh where
 H0:Hp
 F0:Hp
 io:Nat->Option Addr
structure Rel(K:Fg)(G:Gh)(F:Hp)(σ:L2.St)(H:Hp)(ρ:Ev):Prop where
 len:σ.length=ρ.length
 sub:Sub F H
 sub0:Sub G.F0 F
 fn:∀a o,F a=some o->G.F0 a=some o\/G.H0 a=none
 keep:∀a o,G.H0 a=some o->(∀i,G.io i≠some a)->(∀z∈TB K,z.1≠a)->H a=some o
 tb:TabOk K F H
 fz:∀(i:Nat) (d:D),ρ[i]?=some (some (Sl.fz d))->∃v,σ[i]?=some (some v)/\Da K F v d
 ow:∀(i:Nat) (s:Sl),ρ[i]?=some (some s)->aX s=true->∃a o,σ[i]?=some (some (V.ref a))/\F a=none/\H a=some o/\Own1 K F o s.d
 new:∀(i:Nat) (d:D) (a:Addr),ρ[i]?=some (some (Sl.ow d))->σ[i]?=some (some (V.ref a))->G.H0 a=none
 io:∀(i:Nat) (a:Addr),G.io i=some a->∃d,ρ[i]?=some (some (Sl.io d))/\σ[i]?=some (some (V.ref a))
 ioi:∀(i:Nat) (d:D),ρ[i]?=some (some (Sl.io d))->∃a,G.io i=some a
 ap:∀(i j:Nat) (s t:Sl) (a:Addr),ρ[i]?=some (some s)->aX s=true->ρ[j]?=some (some t)->aX t=true->σ[i]?=some (some (V.ref a))->σ[j]?=some (some (V.ref a))->i=j
noncomputable def Res(K:Fg)(G:Gh)(F H:Hp)(σ:L2.St)(ρ:Ev)(v:V):Sl->Prop
 | .fz d=>Da K F v d
 | .ow d=>∃a o,v=.ref a/\F a=none/\H a=some o/\Own1 K F o d/\G.H0 a=none/\∀(i:Nat) (s:Sl),ρ[i]?=some (some s)->aX s=true->σ[i]?≠some (some (V.ref a))
 | .io _=>False
section
variable {K:Fg}{G:Gh}{F F':Hp}{σ:L2.St}{ρ:Ev}{a:Addr}{o:HO}{d:D}{v:V}{s:Sl}
theorem Rel.bound(R:Rel K G F σ H ρ){i:Nat}(h:ρ[i]?=some (some s)):∃v,σ[i]?=some (some v):=by
 cases s with
 | fz d=>obtain⟨v,e,_⟩:=R.fz i d h;exact ⟨v,e⟩
 | ow d=>obtain⟨a,o,e,_⟩:=R.ow i _ h rfl;exact ⟨_,e⟩
 | io d=>obtain⟨a,o,e,_⟩:=R.ow i _ h rfl;exact ⟨_,e⟩
theorem Rel.h0(R:Rel K G F σ H ρ)(h:H a=none):G.H0 a=none:=by
 cases e:G.H0 a with
 | none=>rfl
 | some o =>
  by_cases q:∃i,G.io i=some a
  ·obtain⟨i,q⟩:=q;obtain⟨d,h1,h2⟩:=R.io i a q;obtain⟨a',o',h3,_,h4,_⟩:=R.ow i _ h1 rfl;rw[h2]at h3;cases h3;rw[h]at h4;cases h4
  ·have:=R.keep a o e (λi z=>q ⟨i,z⟩) (R.tb.ne λu z=>by rw[h]at z;cases z);rw[h]at this;cases this
theorem Rel.f0(R:Rel K G F σ H ρ)(h:H a=none):F a=none:=by
 cases e:F a with
 | none=>rfl
 | some o=>rw[R.sub a o e]at h;cases h
theorem Rel.laid(R:Rel K G F σ H ρ)(h:H a=none):Rel K G F σ (UQ H a o) ρ where
 len:=R.len
 sub:=λb u e=>by rw[nQ (oQ (R.sub b u e) h)];exact R.sub b u e
 sub0:=R.sub0
 fn:=R.fn
 keep:=λb u e n t=>by rw[nQ (oQ (R.keep b u e n t) h)];exact R.keep b u e n t
 tb:=R.tb.put λu z=>by rw[h]at z;cases z
 fz:=R.fz
 ow:=λi s e w=>by obtain⟨a',o',h1,h2,h3,h4⟩:=R.ow i s e w;exact ⟨a',o',h1,h2,by rw[nQ (oQ h3 h)];exact h3,h4⟩
 new:=R.new
 io:=R.io
 ioi:=R.ioi
 ap:=R.ap
theorem Rel.grow(R:Rel K G F σ H ρ)(h0:G.H0 a=none)(h:H a=some o)(hn:∀(i:Nat) (s:Sl),ρ[i]?=some (some s)->aX s=true->σ[i]?≠some (some (V.ref a)))(hk:stk o=false:=by rfl):Sub F (UQ F a o)/\Rel K G (UQ F a o) σ H ρ:=by
 have sb:Sub F (UQ F a o):=λb u e=>by
  by_cases z:b=a
  ·subst z;rw[AQ,<- h];exact R.sub _ _ e
  ·rw[nQ z];exact e
 refine ⟨sb,R.len,λb u e=>?_,R.sub0.trans sb,λb u e=>?_,R.keep,R.tb.F λu z=>by rw[h]at z;cases z;exact hk,λi d e=>?_,λi s e w=>?_,R.new,R.io,R.ioi,R.ap⟩
 ·by_cases z:b=a
  ·subst z;rw[AQ]at e;rw[h];exact e
  ·rw[nQ z]at e;exact R.sub _ _ e
 ·by_cases z:b=a
  ·subst z;exact .inr h0
  ·rw[nQ z]at e;exact R.fn _ _ e
 ·obtain⟨v,h1,h2⟩:=R.fz i d e;exact ⟨v,h1,h2.mono sb⟩
 ·obtain⟨a',o',h1,h2,h3,h4⟩:=R.ow i s e w;have z:a'≠a:=λz=>hn i s e w (by rw[h1,z]);exact ⟨a',o',h1,by rw[nQ z];exact h2,h3,h4.mono sb⟩
theorem Res.frz(R:Rel K G F σ H ρ)(r:Res K G F H σ ρ v s):∃F',Sub F F'/\Rel K G F' σ H ρ/\Da K F' v s.d:=by
 cases s with
 | fz d=>exact ⟨F,Sub.refl _,R,r⟩
 | ow d=>obtain⟨a,o,rfl,h1,h2,h3,h4,h5⟩:=r;obtain⟨sb,R'⟩:=R.grow h4 h2 h5 h3.stk;exact ⟨_,sb,R',(h3.mono sb).da AQ⟩
 | io d=>exact r.elim
theorem Rel.newOw(R:Rel K G F σ H ρ)(h:H a=none)(w:Own1 K F o d):Rel K G F σ (UQ H a o) ρ/\Res K G F (UQ H a o) σ ρ (.ref a) (.ow d):=by refine ⟨R.laid h,a,o,rfl,R.f0 h,AQ,w,R.h0 h,λi s e w z=>?_⟩;obtain⟨a',o',h1,h2,h3,h4⟩:=R.ow i s e w;rw[z]at h1;cases h1;rw[h]at h3;cases h3
theorem Rel.newTup(R:Rel K G F σ H ρ){xs:List V}{ds:List D}(h:H a=none)(w:DaAll K F xs ds):Sub F (UQ F a (.tup xs))/\Rel K G (UQ F a (.tup xs)) σ (UQ H a (.tup xs)) ρ/\Da K (UQ F a (.tup xs)) (.ref a) (.tuple ds):=by
 have R1:Rel K G F σ (UQ H a (.tup xs)) ρ:=R.laid h;obtain⟨sb,R2⟩:=R1.grow (a:=a) (o:=.tup xs) (R.h0 h) AQ λi s e w z=>by obtain⟨a',o',h1,h2,h3,h4⟩:=R.ow i s e w;rw[z]at h1;cases h1;rw[h]at h3;cases h3
 exact ⟨sb,R2,.tup AQ (w.mono sb)⟩
noncomputable def Sl.put:Sl->D->Sl
 | .fz _,d=>.fz d
 | .ow _,d=>.ow d
 | .io _,d=>.io d
theorem wQ{α:Type}{l:List α}{i j:Nat}{x y:α}(h:(l.set i x)[j]?=some y):(j=i/\y=x)\/(j≠i/\l[j]?=some y):=by
 by_cases z:i=j
 ·subst z;rw[List.getElem?_set]at h;simp at h;exact .inl ⟨rfl,h.2.symm⟩
 ·rw[G1 z]at h;exact .inr ⟨λq=>z q.symm,h⟩
theorem cJ{α:Type}{l:List α}{i:Nat}{x:α}(h:i < l.length):(l.set i x)[i]?=some x:=by simp[h]
theorem uX{α:Type}{l:List α}{i:Nat}{x:α}(h:l[i]?=some x):i < l.length:=(V0.mp h).1
theorem Rel.change(R:Rel K G F σ H ρ){i:Nat}{o':HO}{d':D}(h:ρ[i]?=some (some s))(w:aX s=true)(ha:σ[i]?=some (some (V.ref a)))(q:Own1 K F o' d'):Rel K G F σ (UQ H a o') (ρ.set i (some (s.put d'))):=by
 obtain⟨a0,o0,h1,h2,h3,h4⟩:=R.ow i s h w;rw[ha]at h1;cases h1;have sw:aX (s.put d')=true:=by cases s<;>first|rfl|cases w
 have hl:=uX h;refine ⟨by rw[o4];exact R.len,λb u e=>?_,R.sub0,R.fn,λb u e n t=>?_,R.tb.put λu z=>by rw[h3]at z;cases z;exact h4.stk,λj d e=>?_,λj t e wt=>?_,λj d b e eb=>?_,λj b e=>?_,λj d e=>?_,λj k t u b e1 w1 e2 w2 e3 e4=>?_⟩
 ·have z:b≠a:=λz=>by subst z;rw[h2]at e;cases e
  rw[nQ z];exact R.sub _ _ e
 ·by_cases z:b=a
  ·subst z;cases s with
   | fz d=>cases w
   | ow d=>rw[R.new i d b h ha]at e;cases e
   | io d=>obtain⟨a',e'⟩:=R.ioi i d h;obtain⟨d',_,e2⟩:=R.io i a' e';rw[ha]at e2;cases e2;exact absurd e' (n i)
  ·rw[nQ z];exact R.keep _ _ e n t
 ·rcases wQ e with⟨rfl,z⟩|⟨n,z⟩
  ·cases s<;>simp[Sl.put,aX]at z w
  ·exact R.fz j d z
 ·rcases wQ e with⟨rfl,z⟩|⟨n,z⟩
  ·cases z;exact ⟨a,o',ha,h2,AQ,by cases s<;>first|exact q|cases w⟩
  ·obtain⟨b,u,g1,g2,g3,g4⟩:=R.ow j t z wt;have nb:b≠a:=λx=>n (R.ap j i t s a z wt h w (by rw[g1,x]) ha);exact ⟨b,u,g1,g2,by rw[nQ nb];exact g3,g4⟩
 ·rcases wQ e with⟨rfl,z⟩|⟨n,z⟩
  ·cases s with
   | fz d=>cases w
   | ow d0=>exact R.new j d0 b h eb
   | io d=>cases z
  ·exact R.new j d b z eb
 ·obtain⟨d,e1,e2⟩:=R.io j b e;by_cases z:j=i
  ·subst z;rw[h]at e1;cases e1;exact ⟨d',by rw[cJ hl];rfl,e2⟩
  ·exact ⟨d,by rw[G1 (E3 z)];exact e1,e2⟩
 ·rcases wQ e with⟨rfl,z⟩|⟨n,z⟩
  ·cases s with
   | fz d=>cases w
   | ow d0=>cases z
   | io d0=>exact R.ioi j d0 h
  ·exact R.ioi j d z
 ·have f:∀(j:Nat) (t:Sl),(ρ.set i (some (s.put d')))[j]?=some (some t)->aX t=true->∃t',ρ[j]?=some (some t')/\aX t'=true:=λj t e wt=>by
   rcases wQ e with⟨rfl,z⟩|⟨n,z⟩
   ·exact ⟨s,h,w⟩
   ·exact ⟨t,z,wt⟩
  obtain⟨t',e1',w1'⟩:=f j t e1 w1;obtain⟨u',e2',w2'⟩:=f k u e2 w2;exact R.ap j k t' u' b e1' w1' e2' w2' e3 e4
theorem Rel.forget(R:Rel K G F σ H ρ){i:Nat}(h:ρ[i]?=some (some (Sl.ow d))):Rel K G F σ H (ρ.set i none):=by
 refine ⟨by rw[o4];exact R.len,R.sub,R.sub0,R.fn,R.keep,R.tb,λj d e=>?_,λj t e wt=>?_,λj d b e eb=>?_,λj b e=>?_,λj d e=>?_,λj k t u b e1 w1 e2 w2 e3 e4=>?_⟩
 ·rcases wQ e with⟨rfl,z⟩|⟨n,z⟩
  ·cases z
  ·exact R.fz j d z
 ·rcases wQ e with⟨rfl,z⟩|⟨n,z⟩
  ·cases z
  ·exact R.ow j t z wt
 ·rcases wQ e with⟨rfl,z⟩|⟨n,z⟩
  ·cases z
  ·exact R.new j d b z eb
 ·obtain⟨d',e1,e2⟩:=R.io j b e;have n:i≠j:=λz=>by subst z;rw[h]at e1;cases e1
  exact ⟨d',by rw[G1 n];exact e1,e2⟩
 ·rcases wQ e with⟨rfl,z⟩|⟨n,z⟩
  ·cases z
  ·exact R.ioi j d z
 ·rcases wQ e1 with⟨rfl,z⟩|⟨n,z⟩
  ·cases z
  ·rcases wQ e2 with⟨rfl,z'⟩|⟨n',z'⟩
   ·cases z'
   ·exact R.ap j k t u b z w1 z' w2 e3 e4
theorem Rel.freeze(R:Rel K G F σ H ρ){i:Nat}(h:ρ[i]?=some (some (Sl.ow d))):∃F' v,Sub F F'/\Rel K G F' σ H (ρ.set i (some (Sl.fz d)))/\σ[i]?=some (some v)/\Da K F' v d:=by
 obtain⟨a,o,h1,h2,h3,h4⟩:=R.ow i _ h rfl;have hl:=uX h;have R1:=R.forget h;have hn:∀(j:Nat) (s:Sl),(ρ.set i none)[j]?=some (some s)->aX s=true->σ[j]?≠some (some (V.ref a)):=λj s e w z=>by
  rcases wQ e with⟨rfl,q⟩|⟨n,q⟩
  ·cases q
  ·exact n (R.ap j i s _ a q w h rfl z h1)
 obtain⟨sb,R2⟩:=R1.grow (R.new i d a h h1) h3 hn h4.stk;have dd:Da K (UQ F a o) (.ref a) d:=(h4.mono sb).da AQ;refine ⟨_,_,sb,?_,h1,dd⟩;refine ⟨by rw[o4];exact R.len,R2.sub,R2.sub0,R2.fn,R2.keep,R2.tb,λj d' e=>?_,λj t e wt=>?_,λj d b e eb=>?_,λj b e=>?_,λj d e=>?_,λj k t u b e1 w1 e2 w2 e3 e4=>?_⟩
 ·rcases wQ e with⟨rfl,z⟩|⟨n,z⟩
  ·cases z;exact ⟨_,h1,dd⟩
  ·exact R2.fz j d' (by rw[G1 (E3 n)];exact z)
 ·rcases wQ e with⟨rfl,z⟩|⟨n,z⟩
  ·cases z;cases wt
  ·exact R2.ow j t (by rw[G1 (E3 n)];exact z) wt
 ·rcases wQ e with⟨rfl,z⟩|⟨n,z⟩
  ·cases z
  ·exact R.new j d b z eb
 ·obtain⟨d',e1,e2⟩:=R.io j b e;have n:i≠j:=λz=>by subst z;rw[h]at e1;cases e1
  exact ⟨d',by rw[G1 n];exact e1,e2⟩
 ·rcases wQ e with⟨rfl,z⟩|⟨n,z⟩
  ·cases z
  ·exact R.ioi j d z
 ·rcases wQ e1 with⟨rfl,z⟩|⟨n,z⟩
  ·cases z;cases w1
  ·rcases wQ e2 with⟨rfl,z'⟩|⟨n',z'⟩
   ·cases z';cases w2
   ·exact R.ap j k t u b z w1 z' w2 e3 e4
theorem Rel.forgetRes(R:Rel K G F σ H ρ){i:Nat}(h:ρ[i]?=some (some (Sl.ow d))):∃v,σ[i]?=some (some v)/\Res K G F H σ (ρ.set i none) v (.ow d):=by
 obtain⟨a,o,h1,h2,h3,h4⟩:=R.ow i _ h rfl;refine ⟨_,h1,a,o,rfl,h2,h3,h4,R.new i d a h h1,λj s e w z=>?_⟩;rcases wQ e with⟨rfl,q⟩|⟨n,q⟩
 ·cases q
 ·exact n (R.ap j i s _ a q w h rfl z h1)
def bj(ρ:Ev)(i:Nat):Prop:=match ρ[i]? with
 | some (some (Sl.io _))=>False
 | some _=>True
 | none=>False
theorem Rel.asg(R:Rel K G F σ H ρ){i:Nat}(hi:bj ρ i)(r:Res K G F H σ ρ v s):Rel K G F (σ.set i (some v)) H (ρ.set i (some s)):=by
 have hl:i < ρ.length:=by
  cases e:ρ[i]? with
  | none=>unfold bj at hi;rw[e]at hi;exact hi.elim
  | some x=>exact uX e
 have hl':i < σ.length:=by rw[R.len];exact hl
 have ni:∀d,ρ[i]?≠some (some (Sl.io d)):=λd e=>by unfold bj at hi;rw[e]at hi;exact hi
 refine ⟨by rw[o4,o4];exact R.len,R.sub,R.sub0,R.fn,R.keep,R.tb,λj d e=>?_,λj t e wt=>?_,λj d b e eb=>?_,λj b e=>?_,λj d e=>?_,λj k t u b e1 w1 e2 w2 e3 e4=>?_⟩
 ·rcases wQ e with⟨rfl,z⟩|⟨n,z⟩
  ·cases z;exact ⟨v,cJ hl',r⟩
  ·rw[G1 (E3 n)];exact R.fz j d z
 ·rcases wQ e with⟨rfl,z⟩|⟨n,z⟩
  ·cases z;cases s with
   | fz d=>cases wt
   | ow d=>obtain⟨a,o,rfl,h1,h2,h3,_⟩:=r;exact ⟨a,o,cJ hl',h1,h2,h3⟩
   | io d=>exact r.elim
  ·rw[G1 (E3 n)];exact R.ow j t z wt
 ·rcases wQ e with⟨rfl,z⟩|⟨n,z⟩
  ·cases z;obtain⟨a,o,rfl,h1,h2,h3,h4,_⟩:=r;rw[cJ hl']at eb;cases eb;exact h4
  ·rw[G1 (E3 n)]at eb;exact R.new j d b z eb
 ·obtain⟨d,e1,e2⟩:=R.io j b e;have n:i≠j:=λz=>by subst z;exact ni d e1
  exact ⟨d,by rw[G1 n];exact e1,by rw[G1 n];exact e2⟩
 ·rcases wQ e with⟨rfl,z⟩|⟨n,z⟩
  ·cases z;exact r.elim
  ·exact R.ioi j d z
 ·have own:∀(j:Nat) (t:Sl),j≠i->ρ[j]?=some (some t)->aX t=true->(σ.set i (some v))[j]?=some (some (V.ref b))->s.d=s.d->aX s=true->v=.ref b->False:=λj t n e w eb _ ws ev=>by
   subst ev;cases s with
   | fz d=>cases ws
   | io d=>exact r
   | ow d=>obtain⟨a,o,z,h1,h2,h3,h4,h5⟩:=r;cases z;rw[G1 (E3 n)]at eb;exact h5 j t e w eb
  rcases wQ e1 with⟨rfl,z⟩|⟨n,z⟩
  ·rcases wQ e2 with⟨rfl,z'⟩|⟨n',z'⟩
   ·rfl
   ·rw[cJ hl']at e3;cases e3;cases z;exact (own k u n' z' w2 e4 rfl w1 rfl).elim
  ·rcases wQ e2 with⟨rfl,z'⟩|⟨n',z'⟩
   ·rw[cJ hl']at e4;cases e4;cases z';exact (own j t n z w1 e3 rfl w2 rfl).elim
   ·rw[G1 (E3 n)]at e3;rw[G1 (E3 n')]at e4;exact R.ap j k t u b z w1 z' w2 e3 e4
end
noncomputable abbrev TD:=Ev->(Sl->Ev->Prop)->Prop
noncomputable abbrev AY:=Ev->(Bool->Ev->Prop)->Prop
noncomputable abbrev sU:=Sum Nat D
noncomputable abbrev AD:=Sum Nat TD
def lift(K:Fg)(td:TD):TE:=λσ H Q=>∃(G:Gh) (F:Hp) (ρ:Ev) (Qd:Sl->Ev->Prop),Rel K G F σ H ρ/\td ρ Qd /\
 ∀v H' F' r ρ',Sub F F'->Rel K G F' σ H' ρ'->Res K G F' H' σ ρ' v r->Qd r ρ'->Q v H'
def EQ(K:Fg)(tc:AY):TT:=λσ H Q=>∃(G:Gh) (F:Hp) (ρ:Ev) (Qd:Bool->Ev->Prop),Rel K G F σ H ρ/\tc ρ Qd /\
 ∀b H' F' ρ',Sub F F'->Rel K G F' σ H' ρ'->Qd b ρ'->Q b H'
noncomputable def sQ(K:Fg):AD->TE
 | .inl i=>eY i
 | .inr td=>lift K td
noncomputable def JQ:List TE->TA
 | []=>Fz
 | t :: ts=>bH t (JQ ts)
theorem lY{K:Fg}{a:AD}{σ:L2.St}{Q Q':VK}(m:∀v H,Q v H->Q' v H)(h:sQ K a σ H Q):sQ K a σ H Q':=by
 cases a with
 | inl i=>obtain⟨v,e,q⟩:=h;exact ⟨v,e,m _ _ q⟩
 | inr td=>obtain⟨G,F,ρ,Qd,R,w,k⟩:=h;exact ⟨G,F,ρ,Qd,R,w,λv H' F' r ρ' s R' r' q=>m _ _ (k v H' F' r ρ' s R' r' q)⟩
theorem sG{K:Fg}{a:AD}{σ:L2.St}{P:VK}(h:JQ ([a].map (sQ K)) σ H λvs H2=>∃x,vs=[x]/\P x H2):sQ K a σ H P:=lY (λv H q=>by obtain⟨x,e,q⟩:=q;cases e;exact q) h
theorem lH{K:Fg}{a b:AD}{σ:L2.St}{P:V->V->Hp->Prop}(h:JQ ([a,b].map (sQ K)) σ H λvs H2=>∃x y,vs=[x,y]/\P x y H2):sQ K a σ H λx H1=>sQ K b σ H1 λy H2=>P x y H2:=lY (λv H q=>lY (λu H q=>by obtain⟨x,y,e,q⟩:=q;cases e;exact q) q) h
def Zw(i:Nat):TD:=λρ Q=>match ρ[i]? with
 | some (some (.fz d))=>Q (.fz d) ρ
 | some (some (.ow d))=>Q (.fz d) (ρ.set i (some (.fz d)))
 | _=>False
def dC(d:D):TD:=λρ Q=>Q (.fz d) ρ
section
variable {K:Fg}{σ:L2.St}{Q:VK}
theorem gM{i:Nat}(h:lift K (Zw i) σ H Q):eY i σ H Q:=by
 obtain⟨G,F,ρ,Qd,R,w,k⟩:=h;unfold Zw at w;split at w
 ·rename_i d e;obtain⟨v,e1,h1⟩:=R.fz i d e;exact ⟨v,e1,k v H F (.fz d) ρ (Sub.refl _) R h1 w⟩
 ·rename_i d e;obtain⟨F',v,sb,R',e1,h1⟩:=R.freeze e;exact ⟨v,e1,k v H F' (.fz d) _ sb R' h1 w⟩
 ·exact w.elim
theorem SR{v:V}{d:D}(hv:∀F,Da K F v d)(h:lift K (dC d) σ H Q):tC v σ H Q:=by obtain⟨G,F,ρ,Qd,R,w,k⟩:=h;exact k v H F (.fz d) ρ (Sub.refl _) R (hv F) w
end
noncomputable def OpdAt(K:Fg)(F:Hp)(σ:L2.St)(v:V):sU->Prop
 | .inl i=>σ[i]?=some (some v)
 | .inr d=>Da K F v d
inductive OpdsAt (K:Fg) (F:Hp) (σ:L2.St):List V->List sU->Prop
 | nil:OpdsAt K F σ [] []
 | cons {v x vs xs}:OpdAt K F σ v x->OpdsAt K F σ vs xs->OpdsAt K F σ (v :: vs) (x :: xs)
theorem OpdAt.mono{K:Fg}{F F':Hp}{σ:L2.St}{v:V}{x:sU}(s:Sub F F')(h:OpdAt K F σ v x):OpdAt K F' σ v x:=by
 cases x with
 | inl i=>exact h
 | inr d=>exact Da.mono s h
noncomputable def yX:List AD->Ev->(List sU->Ev->Prop)->Prop
 | [],ρ,Q=>Q [] ρ
 | .inl i :: as,ρ,Q=>match ρ[i]? with
  | some (some _)=>yX as ρ λxs ρ'=>Q (.inl i :: xs) ρ'
  | _=>False
 | .inr td :: as,ρ,Q=>td ρ λr ρ1=>yX as ρ1 λxs ρ2=>Q (.inr r.d :: xs) ρ2
theorem yJ{K:Fg}{G:Gh}{σ:L2.St}:∀{as:List AD}{F H:Hp}{ρ:Ev}{Qd:List sU->Ev->Prop}{Qv:List V->Hp->Prop},Rel K G F σ H ρ->yX as ρ Qd -> (∀vs H' F' xs ρ',Sub F F'->Rel K G F' σ H' ρ'->OpdsAt K F' σ vs xs->vs.length=as.length->Qd xs ρ'->Qv vs H')->JQ (as.map (sQ K)) σ H Qv
 | [],F,H,ρ,Qd,Qv,R,w,k=>k [] H F [] ρ (Sub.refl _) R .nil rfl w
 | .inl i :: as,F,H,ρ,Qd,Qv,R,w,k=>by
  unfold yX at w;split at w
  ·rename_i s e;obtain⟨v,ev⟩:=R.bound e;refine ⟨v,ev,yJ (as:=as) R w λvs H' F' xs ρ' sb R' o hl q=>?_⟩;exact k (v :: vs) H' F' (.inl i :: xs) ρ' sb R' (.cons ev o) (by simp[hl]) q
  ·exact w.elim
 | .inr td :: as,F,H,ρ,Qd,Qv,R,w,k=>by refine ⟨G,F,ρ,_,R,w,λv H1 F1 r ρ1 s1 R1 r1 w1=>?_⟩;obtain⟨F2,s2,R2,d2⟩:=r1.frz R1;refine yJ (as:=as) R2 w1 λvs H' F' xs ρ' sb R' o hl q=>?_;exact k (v :: vs) H' F' (.inr r.d :: xs) ρ' (s1.trans (s2.trans sb)) R' (.cons (d2.mono sb) o) (by simp[hl]) q
theorem oX{K:Fg}{G:Gh}{σ:L2.St}{as:List AD}{F:Hp}{ρ:Ev}{Qd:List sU->Ev->Prop}{Qv:List V->Hp->Prop}(R:Rel K G F σ H ρ)(w:yX as ρ Qd)(k:∀vs H' F' xs ρ',Sub F F'->Rel K G F' σ H' ρ'->OpdsAt K F' σ vs xs->Qd xs ρ'->Qv vs H'):JQ (as.map (sQ K)) σ H Qv:=yJ R w λvs H' F' xs ρ' s R' o _ q=>k vs H' F' xs ρ' s R' o q
def At(K:Fg)(F H:Hp)(v:V)(d:D):Prop:=Da K F v d\/∃a o,v=.ref a/\F a=none/\H a=some o/\Own1 K F o d
inductive AtAll (K:Fg) (F H:Hp):List V->List D->Prop
 | nil:AtAll K F H [] []
 | cons {v d vs ds}:At K F H v d->AtAll K F H vs ds->AtAll K F H (v :: vs) (d :: ds)
noncomputable def look(ρ:Ev):sU->Option D
 | .inl i=>match ρ[i]? with
  | some (some s)=>some s.d
  | _=>none
 | .inr d=>some d
noncomputable def YQ(ρ:Ev):List sU->(List D->Prop)->Prop
 | [],k=>k []
 | .inr d :: xs,k=>YQ ρ xs λds=>k (d :: ds)
 | .inl i :: xs,k=>match ρ[i]? with
  | some (some s)=>YQ ρ xs λds=>k (s.d :: ds)
  | _=>False
section
variable {K:Fg}{G:Gh}{F:Hp}{σ:L2.St}{ρ:Ev}
theorem Rel.at(R:Rel K G F σ H ρ){i:Nat}{s:Sl}{v:V}(e:ρ[i]?=some (some s))(ev:σ[i]?=some (some v)):At K F H v s.d:=by
 cases s with
 | fz d=>obtain⟨v',e1,h1⟩:=R.fz i d e;rw[ev]at e1;cases e1;exact .inl h1
 | ow d=>obtain⟨a,o,h1,h2,h3,h4⟩:=R.ow i _ e rfl;rw[ev]at h1;cases h1;exact .inr ⟨a,o,rfl,h2,h3,h4⟩
 | io d=>obtain⟨a,o,h1,h2,h3,h4⟩:=R.ow i _ e rfl;rw[ev]at h1;cases h1;exact .inr ⟨a,o,rfl,h2,h3,h4⟩
theorem eZ(R:Rel K G F σ H ρ){xs:List sU}{vs:List V}{k:List D->Prop}(o:OpdsAt K F σ vs xs)(h:YQ ρ xs k):∃ds,AtAll K F H vs ds/\k ds:=by
 induction o generalizing k with
 | nil=>exact ⟨[],.nil,h⟩
 | @cons v x vs xs o t ih =>
  cases x with
  | inr d=>obtain⟨ds,a,q⟩:=ih (k:=λds=>k (d :: ds)) h;exact ⟨d :: ds,.cons (.inl o) a,q⟩
  | inl i =>
   unfold YQ at h;split at h
   ·rename_i s e;obtain⟨ds,a,q⟩:=ih (k:=λds=>k (s.d :: ds)) h;exact ⟨s.d :: ds,.cons (R.at e o) a,q⟩
   ·exact h.elim
end
def dY(as:List AD)(f:List D->(Sl->Prop)->Prop):TD:=λρ Q=>yX as ρ λxs ρ1=>YQ ρ1 xs λds=>f ds λr=>Q r ρ1
def SQ(K:Fg)(r:List V->Hp->VK->Prop)(f:List D->(Sl->Prop)->Prop):Prop :=
 ∀(G:Gh) (F:Hp) (σ:L2.St) (H:Hp) (ρ:Ev) (vs:List V) (ds:List D) (Q:VK) (Qd:Sl->Prop),Rel K G F σ H ρ->AtAll K F H vs ds->f ds Qd ->
  (∀v H' F' s,Sub F F'->Rel K G F' σ H' ρ->Res K G F' H' σ ρ v s->Qd s->Q v H')->r vs H Q
theorem LY{K:Fg}{as:List AD}{f:List D->(Sl->Prop)->Prop}(ok:SQ K r f){σ:L2.St}{H:Hp}{Q:VK}(h:lift K (dY as f) σ H Q):JQ (as.map (sQ K)) σ H λvs H1=>r vs H1 Q:=by obtain⟨G,F,ρ,Qd,R,w,k⟩:=h;refine oX R w λvs H' F' xs ρ' sb R' o q=>?_;obtain⟨ds,ha,q⟩:=eZ R' o q;exact ok G F' σ H' ρ' vs ds Q _ R' ha q λv H2 F2 s s2 R2 r2 q2=>k v H2 F2 s ρ' (sb.trans s2) R2 r2 q2
noncomputable def o1(f:D->(Sl->Prop)->Prop):List D->(Sl->Prop)->Prop
 | [x],Q=>f x Q
 | _,_=>False
noncomputable def o2(f:D->D->(Sl->Prop)->Prop):List D->(Sl->Prop)->Prop
 | [x,y],Q=>f x y Q
 | _,_=>False
noncomputable def o3(f:D->D->D->(Sl->Prop)->Prop):List D->(Sl->Prop)->Prop
 | [x,y,z],Q=>f x y z Q
 | _,_=>False
noncomputable def mq(td:TD):AY:=λρ Q=>td ρ λr ρ'=>match r with
 | .fz (.bool b)=>Q b ρ'
 | _=>False
noncomputable def WC(c:AY):AY:=λρ Q=>c ρ λb ρ'=>Q (!b) ρ'
noncomputable def XC(c e:AY):AY:=λρ Q=>c ρ λb ρ'=>if b=true then e ρ' Q else Q false ρ'
noncomputable def SO(c e:AY):AY:=λρ Q=>c ρ λb ρ'=>if b=true then Q true ρ' else e ρ' Q
noncomputable def oq:AY:=λρ Q=>Q true ρ
section
variable {K:Fg}{σ:L2.St}
theorem Ju{td:TD}{t:TE}(ht:∀{σ H Q},lift K td σ H Q->t σ H Q){Q:Bool->Hp->Prop}(h:EQ K (mq td) σ H Q):Dz t σ H Q:=by
 obtain⟨G,F,ρ,Qd,R,w,k⟩:=h;refine ht ⟨G,F,ρ,_,R,w,λv H' F' r ρ' sb R' r' q=>?_⟩;split at q
 ·rename_i b;cases r';exact ⟨b,rfl,k b H' F' ρ' sb R' q⟩
 ·exact q.elim
theorem iM{c:AY}{Q:Bool->Hp->Prop}(h:EQ K (WC c) σ H Q):ZB (EQ K c) σ H Q:=by obtain⟨G,F,ρ,Qd,R,w,k⟩:=h;exact ⟨G,F,ρ,_,R,w,λb H' F' ρ' sb R' q=>k (!b) H' F' ρ' sb R' q⟩
theorem jM{c e:AY}{Q:Bool->Hp->Prop}(h:EQ K (XC c e) σ H Q):YB (EQ K c) (EQ K e) σ H Q:=by
 obtain⟨G,F,ρ,Qd,R,w,k⟩:=h;refine ⟨G,F,ρ,_,R,w,λb H' F' ρ' sb R' q=>?_⟩;cases b with
 | true=>exact ⟨G,F',ρ',Qd,R',q,λb H2 F2 ρ2 s2 R2 q2=>k b H2 F2 ρ2 (sb.trans s2) R2 q2⟩
 | false=>exact k false H' F' ρ' sb R' q
theorem UO{c e:AY}{Q:Bool->Hp->Prop}(h:EQ K (SO c e) σ H Q):DO (EQ K c) (EQ K e) σ H Q:=by
 obtain⟨G,F,ρ,Qd,R,w,k⟩:=h;refine ⟨G,F,ρ,_,R,w,λb H' F' ρ' sb R' q=>?_⟩;cases b with
 | true=>exact k true H' F' ρ' sb R' q
 | false=>exact ⟨G,F',ρ',Qd,R',q,λb H2 F2 ρ2 s2 R2 q2=>k b H2 F2 ρ2 (sb.trans s2) R2 q2⟩
theorem kM{Q:Bool->Hp->Prop}(h:EQ K oq σ H Q):ZL σ H Q:=by obtain⟨G,F,ρ,Qd,R,w,k⟩:=h;exact k true H F ρ (Sub.refl _) R w
end
def cj(a b:TD):TD:=λρ Q=>a ρ λr ρ'=>match r with
 | .fz (.bool c)=>if c=true then b ρ' Q else Q (.fz (.bool false)) ρ'
 | _=>False
def dj(a:TD):TD:=λρ Q=>a ρ λr ρ'=>match r with
 | .fz (.bool c)=>Q (.fz (.bool (!c))) ρ'
 | _=>False
section
variable {K:Fg}{σ:L2.St}{Q:VK}{a b:TD}{c:AY}
theorem YC(h:lift K (cj a b) σ H Q):cz (lift K a) (lift K b) σ H Q:=by
 obtain⟨G,F,ρ,Qd,R,w,k⟩:=h;refine ⟨G,F,ρ,_,R,w,λv H' F' r ρ' sb R' r' q=>?_⟩;split at q
 ·rename_i c;cases r';refine ⟨c,rfl,?_⟩;cases c with
  | true=>exact ⟨G,F',ρ',Qd,R',q,λv H2 F2 r ρ2 s2 R2 r2 q2=>k v H2 F2 r ρ2 (sb.trans s2) R2 r2 q2⟩
  | false=>exact k _ H' F' (.fz (.bool false)) ρ' sb R' (Da.bl false) q
 ·exact q.elim
theorem ZC(h:lift K (dj a) σ H Q):dz (lift K a) σ H Q:=by
 obtain⟨G,F,ρ,Qd,R,w,k⟩:=h;refine ⟨G,F,ρ,_,R,w,λv H' F' r ρ' sb R' r' q=>?_⟩;split at q
 ·rename_i c;cases r';exact ⟨c,rfl,k _ H' F' (.fz (.bool (!c))) ρ' sb R' (Da.bl (!c)) q⟩
 ·exact q.elim
end
theorem QY{ρ:Ev}{i:Nat}{P:Prop}(h:match ρ[i]? with|some (some (.io _))=>False|some _=>P|none=>False):bj ρ i/\P:=by
 unfold bj;cases e:ρ[i]? with
 | none=>rw[e]at h;exact h.elim
 | some x =>
  rw[e]at h;cases x with
  | none=>exact ⟨trivial,h⟩
  | some s=>cases s with
   | fz d=>exact ⟨trivial,h⟩
   | ow d=>exact ⟨trivial,h⟩
   | io d=>exact h.elim
structure DE where
 nx:Ev->Prop
 rt:Sl->Ev->Prop
 bk:Ev->Prop
 ct:Ev->Prop
noncomputable abbrev VJ:=DE->Ev->Prop
def vQ(K:Fg)(ts:VJ):TS:=λD σ H=>∃(G:Gh) (F:Hp) (ρ:Ev) (E:DE),Rel K G F σ H ρ/\ts E ρ /\
 (∀σ' H' F' ρ',Sub F F'->Rel K G F' σ' H' ρ'->E.nx ρ'->D.nx σ' H') /\
 (∀v σ' H' F' r ρ',Sub F F'->Rel K G F' σ' H' ρ'->Res K G F' H' σ' ρ' v r->E.rt r ρ'->D.rt v H') /\
 (∀σ' H' F' ρ',Sub F F'->Rel K G F' σ' H' ρ'->E.bk ρ'->D.bk σ' H') /\
 (∀σ' H' F' ρ',Sub F F'->Rel K G F' σ' H' ρ'->E.ct ρ'->D.ct σ' H')
noncomputable def fj:VJ:=λE ρ=>E.nx ρ
noncomputable def av(t u:VJ):VJ:=λE ρ=>t { nx:=λρ'=>u E ρ',rt:=E.rt,bk:=E.bk,ct:=E.ct } ρ
noncomputable def aE(a:TD):VJ:=λE ρ=>a ρ E.rt
noncomputable def gj(a:TD):VJ:=λE ρ=>a ρ λ_ ρ'=>E.nx ρ'
noncomputable def bE(c:AY)(t u:VJ):VJ:=λE ρ=>c ρ λb ρ'=>if b=true then t E ρ' else u E ρ'
noncomputable def ij(i:Nat)(a:TD):VJ:=λE ρ=>a ρ λr ρ'=>match ρ'[i]? with
 | some (some (.io _))=>False
 | some _=>E.nx (ρ'.set i (some r))
 | none=>False
section
variable {K:Fg}{σ:L2.St}{E:Ends}{t u:VJ}{a:TD}{c:AY}
theorem cE(h:vQ K fj E σ H):iz E σ H:=by obtain⟨G,F,ρ,D,R,w,n,r,b,c⟩:=h;exact n σ H F ρ (Sub.refl _) R w
theorem later{G:Gh}{F F1 H1:Hp}{ρ1:Ev}{σ1:L2.St}{D:DE}{ts:VJ}(s:Sub F F1)(R:Rel K G F1 σ1 H1 ρ1)(w:ts D ρ1)(n:∀σ' H' F' ρ',Sub F F'->Rel K G F' σ' H' ρ'->D.nx ρ'->E.nx σ' H')(r:∀v σ' H' F' r ρ',Sub F F'->Rel K G F' σ' H' ρ'->Res K G F' H' σ' ρ' v r->D.rt r ρ'->E.rt v H')(b:∀σ' H' F' ρ',Sub F F'->Rel K G F' σ' H' ρ'->D.bk ρ'->E.bk σ' H')(c:∀σ' H' F' ρ',Sub F F'->Rel K G F' σ' H' ρ'->D.ct ρ'->E.ct σ' H'):vQ K ts E σ1 H1:=
 ⟨G,F1,ρ1,D,R,w,λ_ _ _ _ s' R' q=>n _ _ _ _ (s.trans s') R' q,λ_ _ _ _ _ _ s' R' r' q=>r _ _ _ _ _ _ (s.trans s') R' r' q,
   λ_ _ _ _ s' R' q=>b _ _ _ _ (s.trans s') R' q,λ_ _ _ _ s' R' q=>c _ _ _ _ (s.trans s') R' q⟩
theorem lM(h:vQ K (av t u) E σ H):jC (vQ K t) (vQ K u) E σ H:=by obtain⟨G,F,ρ,D,R,w,n,r,b,c⟩:=h;exact ⟨G,F,ρ,_,R,w,λσ' H' F' ρ' s R' q=>later s R' q n r b c,r,b,c⟩
theorem mM(h:vQ K (aE a) E σ H):nz (lift K a) E σ H:=by obtain⟨G,F,ρ,D,R,w,n,r,b,c⟩:=h;exact ⟨G,F,ρ,_,R,w,λv H' F' x ρ' s R' r' q=>r v σ H' F' x ρ' s R' r' q⟩
theorem dE(h:vQ K (gj a) E σ H):mz (lift K a) E σ H:=by obtain⟨G,F,ρ,D,R,w,n,r,b,c⟩:=h;exact ⟨G,F,ρ,_,R,w,λv H' F' x ρ' s R' r' q=>n σ H' F' ρ' s R' q⟩
theorem nM(h:vQ K (bE c t u) E σ H):kC (EQ K c) (vQ K t) (vQ K u) E σ H:=by
 obtain⟨G,F,ρ,D,R,w,n,r,b,c⟩:=h;refine ⟨G,F,ρ,_,R,w,λx H' F' ρ' s R' q=>?_⟩;cases x with
 | true=>exact later s R' q n r b c
 | false=>exact later s R' q n r b c
theorem Ku{i:Nat}(h:vQ K (ij i a) E σ H):fY (lift K a) (sJ i) E σ H:=by obtain⟨G,F,ρ,D,R,w,n,r,b,c⟩:=h;refine ⟨G,F,ρ,_,R,w,λv H' F' x ρ' s R' r' q=>?_⟩;have hn:=QY q;exact n _ H' F' _ s (R'.asg hn.1 r') hn.2
end
noncomputable def KF(i:Nat):VJ:=λE ρ=>match ρ[i]? with
 | some (some (.fz d))=>E.rt (.fz d) ρ
 | some (some (.ow d))=>E.rt (.ow d) (ρ.set i none)
 | _=>False
noncomputable def LF(i j:Nat):VJ:=λE ρ=>match ρ[j]? with
 | some (some (.fz d))=>(match ρ[i]? with
   | some (some (.io _))=>False
   | some _=>E.nx (ρ.set i (some (.fz d)))
   | none=>False)
 | some (some (.ow d))=>(match (ρ.set j none)[i]? with
   | some (some (.io _))=>False
   | some _=>E.nx ((ρ.set j none).set i (some (.ow d)))
   | none=>False)
 | _=>False
section
variable {K:Fg}{σ:L2.St}{E:Ends}
theorem eE{i:Nat}(h:vQ K (KF i) E σ H):nz (eY i) E σ H:=by
 obtain⟨G,F,ρ,D,R,w,n,r,b,c⟩:=h;unfold KF at w;split at w
 ·rename_i d e;obtain⟨v,e1,h1⟩:=R.fz i d e;exact ⟨v,e1,r v σ H F (.fz d) ρ (Sub.refl _) R h1 w⟩
 ·rename_i d e;obtain⟨v,e1,h1⟩:=R.forgetRes e;exact ⟨v,e1,r v σ H F (.ow d) _ (Sub.refl _) (R.forget e) h1 w⟩
 ·exact w.elim
theorem fE{i j:Nat}(h:vQ K (LF i j) E σ H):fY (eY j) (sJ i) E σ H:=by
 obtain⟨G,F,ρ,D,R,w,n,r,b,c⟩:=h;unfold LF at w;split at w
 ·rename_i d e;obtain⟨v,e1,h1⟩:=R.fz j d e;obtain⟨hn,w⟩:=QY w;exact ⟨v,e1,n _ H F _ (Sub.refl _) (R.asg (s:=.fz d) hn h1) w⟩
 ·rename_i d e;obtain⟨v,e1,h1⟩:=R.forgetRes e;obtain⟨hn,w⟩:=QY w;exact ⟨v,e1,n _ H F _ (Sub.refl _) ((R.forget e).asg (s:=.ow d) hn h1) w⟩
 ·exact w.elim
end
noncomputable abbrev rJ:=D->Ev->(Ev->Prop)->Prop
def gX(K:Fg)(g:rJ):TG:=λv σ H Q=>∃(G:Gh) (F:Hp) (ρ:Ev) (d:D) (Qd:Ev->Prop),Rel K G F σ H ρ/\Da K F v d/\g d ρ Qd/\∀σ' ρ',Rel K G F σ' H ρ'->Qd ρ'->Q σ' H
noncomputable def iE(i:Nat):rJ:=λd ρ Q=>match ρ[i]? with
 | some (some (.io _))=>False
 | some _=>Q (ρ.set i (some (.fz d)))
 | none=>False
noncomputable def oM:List rJ->List D->Ev->(Ev->Prop)->Prop
 | [],[],ρ,Q=>Q ρ
 | g :: gs,d :: ds,ρ,Q=>g d ρ λρ'=>oM gs ds ρ' Q
 | _,_,_,_=>False
noncomputable def dO(gs:List rJ):rJ:=λd ρ Q=>match d with
 | .tuple ds=>ds.length=gs.length/\oM gs ds ρ Q
 | _=>False
noncomputable def jV:List TG->lw
 | []=>IL
 | g :: gs=>Au g (jV gs)
section
variable {K:Fg}{σ:L2.St}{v:V}{Q:L2.St->Hp->Prop}
theorem VO{i:Nat}(h:gX K (iE i) v σ H Q):sJ i v σ H Q:=by obtain⟨G,F,ρ,d,Qd,R,hd,w,k⟩:=h;obtain⟨hn,w⟩:=QY w;exact k _ _ (R.asg (s:=.fz d) hn hd) w
theorem pM{G:Gh}{F:Hp}:∀{gs:List rJ}{ds:List D}{vs:List V}{σ:L2.St}{ρ:Ev}{Qd:Ev->Prop},Rel K G F σ H ρ->DaAll K F vs ds->oM gs ds ρ Qd->(∀σ' ρ',Rel K G F σ' H ρ'->Qd ρ'->Q σ' H)->jV (gs.map (gX K)) vs σ H Q
 | [],[],_,σ,ρ,Qd,R,.nil,w,k=>⟨rfl,k σ ρ R w⟩
 | g :: gs,d :: ds,_,σ,ρ,Qd,R,.cons h t,w,k=>⟨_,_,rfl,G,F,ρ,d,_,R,h,w,λσ' ρ' R' w'=>pM (gs:=gs) R' t w' k⟩
 | [],_ :: _,_,σ,ρ,Qd,R,_,w,k=>by exact w.elim
 | _ :: _,[],_,σ,ρ,Qd,R,_,w,k=>by exact w.elim
theorem WO{gs:List rJ}(hn:gs.length=n)(h:gX K (dO gs) v σ H Q):Fw K n (jV (gs.map (gX K))) v σ H Q:=by
 obtain⟨G,F,ρ,d,Qd,R,hd,w,k⟩:=h;unfold dO at w;split at w
 ·cases hd with
  | tup e t=>exact ⟨_,_,rfl,SqT.of (R.sub _ _ e),by rw[t.length,w.1,hn],pM R t w.2 k⟩
 ·exact w.elim
end
def Walks(K:Fg)(J:It)(F:Hp)(ds:List D):Prop:=∀(i:Nat) (H F1:Hp),Sub F F1->Sub F1 H ->
 (∀d,ds[i]?=some d->J.go i H/\∀x H',J.yld i H x H'->∃F2,Sub F1 F2/\(∀b o,F2 b=some o->F1 b=some o\/H b=none)/\Sub F2 H'/\Sub H H'/\Da K F2 x d)/\(ds.length=i->J.stop i H)
noncomputable abbrev tG:=Ev->(List D->Ev->Prop)->Prop
def PX(K:Fg)(ti:tG):TI:=λσ H R=>∃(G:Gh) (F:Hp) (ρ:Ev) (Qd:List D->Ev->Prop),Rel K G F σ H ρ/\ti ρ Qd /\
 ∀J H' F' ds ρ',Sub F F'->Rel K G F' σ H' ρ'->Walks K J F' ds->Qd ds ρ'->R J H'
theorem Rel.turn{K:Fg}{G:Gh}{F F2 H':Hp}{σ:L2.St}{ρ:Ev}(R:Rel K G F σ H ρ)(s:Sub F F2)(n:∀b o,F2 b=some o->F b=some o\/H b=none)(s2:Sub F2 H')(s3:Sub H H'):Rel K G F2 σ H' ρ where
 len:=R.len
 sub:=s2
 sub0:=R.sub0.trans s
 fn:=λb o e=>by
  rcases n b o e with q|q
  ·exact R.fn b o q
  ·exact .inr (R.h0 q)
 keep:=λa o e m t=>s3 _ _ (R.keep a o e m t)
 tb:=R.tb.up (λ_ _ _ e=>s3 _ _ e) λz hz=>by
  obtain⟨e1,ps,e2,_⟩:=R.tb z hz;cases q:F2 z.1 with
  | none=>rfl
  | some u =>
   rcases n _ u q with y|y
   ·rw[e1]at y;cases y
   ·rw[e2]at y;cases y
 fz:=λi d e=>by obtain⟨v,h1,h2⟩:=R.fz i d e;exact ⟨v,h1,h2.mono s⟩
 ow:=λi t e w=>by
  obtain⟨a,o,h1,h2,h3,h4⟩:=R.ow i t e w;refine ⟨a,o,h1,?_,s3 _ _ h3,h4.mono s⟩;cases q:F2 a with
  | none=>rfl
  | some u =>
   rcases n a u q with z|z
   ·rw[h2]at z;cases z
   ·rw[h3]at z;cases z
 new:=R.new
 io:=R.io
 ioi:=R.ioi
 ap:=R.ap
theorem mH{α:Type}{l:List α}{i:Nat}{x:α}(h:l[i]?=some x):l.drop i=x :: l.drop (i+1):=by obtain⟨hl,rfl⟩:=V0.mp h;exact V4 hl
noncomputable def uG(c:AY)(tb:VJ):VJ:=λE ρ=>∃W:Nat->Ev->Prop,(∃m,W m ρ)/\∀m ρ,W m ρ->c ρ λb ρ1=>if b=true then
 ∃N:Ev->Prop,(∀ρ',N ρ'->∃m',m' < m/\W m' ρ')/\tb { nx:=N,rt:=E.rt,bk:=E.nx,ct:=N } ρ1 else E.nx ρ1
theorem bv{K:Fg}{c:AY}{tb:VJ}{E:Ends}{σ:L2.St}(h:vQ K (uG c tb) E σ H):eG (EQ K c) (vQ K tb) E σ H:=by
 obtain⟨G,F,ρ,D,R,⟨W,⟨m0,w0⟩,st⟩,n,r,b,c⟩:=h;refine ⟨λm σ H=>∃F' ρ',Sub F F'/\Rel K G F' σ H ρ'/\W m ρ',⟨m0,F,ρ,Sub.refl _,R,w0⟩,?_⟩;rintro m σ H ⟨F',ρ',s',R',w'⟩;refine ⟨G,F',ρ',_,R',st m ρ' w',λx H1 F1 ρ1 s1 R1 q=>?_⟩;cases x with
 | false=>exact n σ H1 F1 ρ1 (s'.trans s1) R1 q
 | true =>
  obtain⟨N,hN,q⟩:=q;refine ⟨λσ2 H2=>∃F2 ρ2,Sub F F2/\Rel K G F2 σ2 H2 ρ2/\N ρ2,λσ2 H2 ⟨F2,ρ2,z1,z2,z3⟩=>?_,?_⟩
  ·obtain⟨m',hm,hw⟩:=hN ρ2 z3;exact ⟨m',hm,F2,ρ2,z1,z2,hw⟩
  ·refine ⟨G,F1,ρ1,_,R1,q,λσ4 H4 F4 ρ4 s4 R4 q=>?_,λv σ4 H4 F4 x4 ρ4 s4 R4 r4 q=>?_,λσ4 H4 F4 ρ4 s4 R4 q=>?_,λσ4 H4 F4 ρ4 s4 R4 q=>?_⟩
   ·exact ⟨F4,ρ4,s'.trans (s1.trans s4),R4,q⟩
   ·exact r v σ4 H4 F4 x4 ρ4 (s'.trans (s1.trans s4)) R4 r4 q
   ·exact n σ4 H4 F4 ρ4 (s'.trans (s1.trans s4)) R4 q
   ·exact ⟨F4,ρ4,s'.trans (s1.trans s4),R4,q⟩
noncomputable def cv:Option Sl->Option Sl
 | some (.ow d)=>some (.io d)
 | x=>x
noncomputable def sW(own:List Str)(fr:List Nat)(ρ:Ev):Ev:=own.map (λ_=>none)++fr.map λi=>cv ((ρ[i]?).getD none)
noncomputable def fv:Option Sl->Option (Option Sl)->Option Sl
 | some (.ow d),some (some (.io d'))=>some (.ow d')
 | some (.io d),some (some (.io d'))=>some (.io d')
 | x,_=>x
noncomputable def mY(fr:List Nat)(τ:Ev):Nat->Ev->Ev
 | _,[]=>[]
 | j,x :: ρ=>fv x ((fr.zip τ).lookup j) :: mY fr τ (j+1) ρ
theorem tW(fr:List Nat)(τ:Ev):∀(ρ:Ev) (j i:Nat),(mY fr τ j ρ)[i]?=(ρ[i]?).map λx=>fv x ((fr.zip τ).lookup (j+i))
 | [],j,i=>by simp[mY]
 | x :: ρ,j,0=>by simp[mY]
 | x :: ρ,j,i+1=>by have:=tW fr τ ρ (j+1) i;simp only[mY,U2];rw[this,show j+1+i=j+(i+1) by omega]
theorem nH(fr:List Nat)(τ:Ev):∀(ρ:Ev) (j:Nat),(mY fr τ j ρ).length=ρ.length
 | [],_=>rfl
 | x :: ρ,j=>by simp[mY,nH fr τ ρ (j+1)]
theorem uW:∀{fr:List Nat}{τ:Ev}{k i:Nat}{x:Option Sl},fr.Nodup->fr[k]?=some i->τ[k]?=some x->(fr.zip τ).lookup i=some x
 | [],_,_,_,_,_,e,_=>by simp at e
 | j :: fr,[],_,_,_,_,_,e=>by simp at e
 | j :: fr,y :: τ,0,i,x,_,e,e'=>by simp at e e';subst e e';simp[m8]
 | j :: fr,y :: τ,k+1,i,x,nd,e,e'=>by
  have nd':=o6.mp nd;simp at e e';have hm:i∈fr:=Q1 e;have ne:(i==j)=false:=by simp;intro z;subst z;exact nd'.1 hm
  simp[m8,ne];exact uW nd'.2 e e'
theorem zJ:∀{fr:List Nat}{τ:Ev}{i:Nat}{x:Option Sl},(fr.zip τ).lookup i=some x->∃k:Nat,fr[k]?=some i/\τ[k]?=some x
 | [],_,_,_,e=>by simp at e
 | j :: fr,[],_,_,e=>by simp at e
 | j :: fr,y :: τ,i,x,e=>by
  by_cases z:i=j
  ·subst z;simp[m8]at e;subst e;exact ⟨0,by simp,by simp⟩
  ·have ne:(i==j)=false:=by simp[z]
   simp[m8,ne]at e;obtain⟨k,h1,h2⟩:=zJ e;exact ⟨k+1,by simpa using h1,by simpa using h2⟩
noncomputable def lj(σ:L2.St)(ρ:Ev)(i:Nat):Option Addr:=match ρ[i]?,σ[i]? with
 | some (some s),some (some (.ref a))=>if aX s=true then some a else none
 | _,_=>none
theorem rq{σ:L2.St}{ρ:Ev}{i:Nat}{a:Addr}(h:lj σ ρ i=some a):∃s,ρ[i]?=some (some s)/\aX s=true/\σ[i]?=some (some (V.ref a)):=by
 unfold lj at h;split at h
 ·rename_i s b e1 e2;split at h
  ·rename_i w;cases h;exact ⟨s,e1,w,e2⟩
  ·cases h
 ·cases h
theorem gv{σ:L2.St}{ρ:Ev}{i:Nat}{a:Addr}{s:Sl}(h1:ρ[i]?=some (some s))(h2:aX s=true)(h3:σ[i]?=some (some (V.ref a))):lj σ ρ i=some a:=by unfold lj;rw[h1,h3];simp[h2]
noncomputable def mw(own:List Str)(fr:List Nat)(F H:Hp)(σ:L2.St)(ρ:Ev):Gh:=⟨H,F,λj=>if own.length<=j then (match fr[j - own.length]? with|some i=>lj σ ρ i|none=>none) else none⟩
theorem vG{own:List Str}{F:Hp}{σ:L2.St}{ρ:Ev}{j:Nat}{a:Addr}(h:(mw own fr F H σ ρ).io j=some a):∃k i s,j=own.length+k/\fr[k]?=some i/\ρ[i]?=some (some s)/\aX s=true/\σ[i]?=some (some (V.ref a)):=by
 unfold mw at h;simp only at h;split at h
 ·rename_i hl;split at h
  ·rename_i i e;obtain⟨s,h1,h2,h3⟩:=rq h;exact ⟨j - own.length,i,s,by omega,e,h1,h2,h3⟩
  ·cases h
 ·cases h
theorem wG{own:List Str}{F:Hp}{σ:L2.St}{ρ:Ev}{k i:Nat}{a:Addr}{s:Sl}(h0:fr[k]?=some i)(h1:ρ[i]?=some (some s))(h2:aX s=true)(h3:σ[i]?=some (some (V.ref a))):(mw own fr F H σ ρ).io (own.length+k)=some a:=by unfold mw;simp only;rw[if_pos (Q2 _ _),Z5,h0];exact gv h1 h2 h3
theorem tq{own:List Str}{f:Nat->Option α}{j:Nat}{x:α}(h:(own.map (λ_=>(none:Option α))++fr.map f)[j]?=some (some x)):∃k i,j=own.length+k/\fr[k]?=some i/\f i=some x:=by
 by_cases hl:j < own.length
 ·rw[P2 (by simpa using hl)]at h;simp at h
 ·rw[S1 (by simpa using G8 hl)]at h;simp at h;obtain⟨i,h1,h2⟩:=h;exact ⟨j - own.length,i,by omega,h1,h2⟩
theorem oH{own:List Str}{f:Nat->Option α}{k i:Nat}(h:fr[k]?=some i):(own.map (λ_=>(none:Option α))++fr.map f)[own.length+k]?=some (f i):=by rw[S1 (by simp)];simp[h]
theorem mj{x:Option Sl}{s:Sl}(h:cv x=some s):∃s0,x=some s0/\((∃d,s0=.fz d/\s=.fz d)\/(aX s0=true/\s=.io s0.d)):=by
 cases x with
 | none=>cases h
 | some s0 =>
  cases s0 with
  | fz d=>cases h;exact ⟨_,rfl,.inl ⟨d,rfl,rfl⟩⟩
  | ow d=>cases h;exact ⟨_,rfl,.inr ⟨rfl,rfl⟩⟩
  | io d=>cases h;exact ⟨_,rfl,.inr ⟨rfl,rfl⟩⟩
theorem getD_some{α:Type}{o:Option (Option α)}{x:α}(h:o.getD none=some x):o=some (some x):=by
 cases o with
 | none=>cases h
 | some y=>simp at h;rw[h]
section
variable {K:Fg}{G:Gh}{F F' H':Hp}{σ τ:L2.St}{ρ μ:Ev}{own:List Str}
theorem YX{j:Nat}{s:Sl}(h:(sW own fr ρ)[j]?=some (some s)):∃k i s0,j=own.length+k/\fr[k]?=some i/\ρ[i]?=some (some s0)/\((∃d,s0=.fz d/\s=.fz d)\/(aX s0=true/\s=.io s0.d)):=by obtain⟨k,i,h1,h2,h3⟩:=tq h;obtain⟨s0,h4,h5⟩:=mj h3;exact ⟨k,i,s0,h1,h2,getD_some h4,h5⟩
theorem vW{k i:Nat}(h:fr[k]?=some i):(PC own σ fr)[own.length+k]?=some ((σ[i]?).getD none):=oH (f:=λi=>(σ[i]?).getD none) h
theorem uq{k i:Nat}(h:fr[k]?=some i):(sW own fr ρ)[own.length+k]?=some (cv ((ρ[i]?).getD none)):=oH (f:=λi=>cv ((ρ[i]?).getD none)) h
theorem nj(nd:fr.Nodup){k l i:Nat}(a:fr[k]?=some i)(b:fr[l]?=some i):k=l:=by obtain⟨h1,e1⟩:=V0.mp a;obtain⟨h2,e2⟩:=V0.mp b;exact (List.getElem_inj nd).mp (e1.trans e2.symm)
theorem Rel.inner(R:Rel K G F σ H ρ)(nd:fr.Nodup):Rel K (mw own fr F H σ ρ) F (PC own σ fr) H (sW own fr ρ) where
 len:=by simp[PC,tL,sW]
 sub:=R.sub
 sub0:=Sub.refl _
 fn:=λ_ _ e=>.inl e
 keep:=λ_ _ e _ _=>e
 tb:=R.tb
 fz:=λj d e=>by
  obtain⟨k,i,s0,rfl,h2,h3,h4⟩:=YX e;rcases h4 with⟨d0,rfl,z⟩|⟨_,z⟩
  ·cases z;obtain⟨v,e1,e2⟩:=R.fz i d h3;exact ⟨v,by rw[vW h2,e1];rfl,e2⟩
  ·cases z
 ow:=λj s e w=>by
  obtain⟨k,i,s0,rfl,h2,h3,h4⟩:=YX e;rcases h4 with⟨d0,rfl,z⟩|⟨w0,z⟩
  ·cases z;cases w
  ·cases z;obtain⟨a,o,e1,e2,e3,e4⟩:=R.ow i s0 h3 w0;exact ⟨a,o,by rw[vW h2,e1];rfl,e2,e3,e4⟩
 new:=λj d a e _=>by obtain⟨k,i,s0,rfl,h2,h3,h4⟩:=YX e;rcases h4 with⟨d0,rfl,z⟩|⟨w0,z⟩<;>cases z
 io:=λj a e=>by obtain⟨k,i,s,rfl,h1,h2,h3,h4⟩:=vG e;refine ⟨s.d,?_,by rw[vW h1,h4];rfl⟩;rw[uq h1,h2];cases s<;>first|rfl|cases h3
 ioi:=λj d e=>by
  obtain⟨k,i,s0,rfl,h2,h3,h4⟩:=YX e;rcases h4 with⟨d0,rfl,z⟩|⟨w0,z⟩
  ·cases z
  ·obtain⟨a,o,e1,_⟩:=R.ow i s0 h3 w0;exact ⟨a,wG h2 h3 w0 e1⟩
 ap:=λj l s t a e1 w1 e2 w2 e3 e4=>by
  obtain⟨k,i,s0,rfl,h2,h3,h4⟩:=YX e1;obtain⟨k',i',s0',rfl,h2',h3',h4'⟩:=YX e2;have p1:aX s0=true:=by
   rcases h4 with⟨d0,rfl,z⟩|⟨w0,z⟩
   ·subst z;cases w1
   ·exact w0
  have p2:aX s0'=true:=by
   rcases h4' with⟨d0,rfl,z⟩|⟨w0,z⟩
   ·subst z;cases w2
   ·exact w0
  rw[vW h2]at e3;rw[vW h2']at e4;have q:=R.ap i i' s0 s0' a h3 p1 h3' p2 (getD_some (X1 e3)) (getD_some (X1 e4));subst q;rw[nj nd h2 h2']
theorem AJ(R:Rel K G F σ H ρ)(R':Rel K (mw own fr F H σ ρ) F' τ H' μ)(nd:fr.Nodup){i:Nat}{s:Sl}(h:(mY fr (μ.drop own.length) 0 ρ)[i]?=some (some s)):∃s0,ρ[i]?=some (some s0)/\((s=s0/\(aX s0=true->i∉fr))\/(aX s0=true/\∃k d',fr[k]?=some i/\μ[own.length+k]?=some (some (Sl.io d'))/\s=s0.put d')):=by
 rw[tW]at h;cases e:ρ[i]? with
 | none=>rw[e]at h;cases h
 | some x =>
  rw[e]at h;simp only[u5,e7]at h;have h:=X1 h;cases x with
  | none=>simp[fv]at h
  | some s0 =>
   refine ⟨s0,rfl,?_⟩;by_cases w0:aX s0=true
   ·by_cases hm:i∈fr
    ·obtain⟨k,hk⟩:=x6.mp hm;obtain⟨a,o,e1,_⟩:=R.ow i s0 e w0;obtain⟨d',g1,g2⟩:=R'.io _ _ (wG (own:=own) (F:=F) (H:=H) hk e w0 e1);have z:=uW (τ:=μ.drop own.length) nd hk (by rw[Z7];exact g1);rw[z]at h;refine .inr ⟨w0,k,d',hk,g1,?_⟩;cases s0 with
     | fz d=>cases w0
     | ow d=>simp[fv]at h;exact h.symm
     | io d=>simp[fv]at h;exact h.symm
    ·refine .inl ⟨?_,λ_=>hm⟩;have z:(fr.zip (μ.drop own.length)).lookup i=none:=by
      cases q:(fr.zip (μ.drop own.length)).lookup i with
      | none=>rfl
      | some y=>obtain⟨k,h1,_⟩:=zJ q;exact (hm (Q1 h1)).elim
     rw[z]at h;cases s0 with
     | fz d=>cases w0
     | ow d=>simp[fv]at h;exact h.symm
     | io d=>simp[fv]at h;exact h.symm
   ·refine .inl ⟨?_,λz=>(w0 z).elim⟩;cases s0 with
    | fz d=>simp[fv]at h;exact h.symm
    | ow d=>exact (w0 rfl).elim
    | io d=>exact (w0 rfl).elim
theorem jE{d:D}(x:Option (Option Sl)):∃d',fv (some (.io d)) x=some (.io d'):=by
 rcases x with _|_|(d'|d'|d')
 ·exact ⟨d,rfl⟩
 ·exact ⟨d,rfl⟩
 ·exact ⟨d,rfl⟩
 ·exact ⟨d,rfl⟩
 ·exact ⟨d',rfl⟩
theorem Rel.outer(R:Rel K G F σ H ρ)(R':Rel K (mw own fr F H σ ρ) F' τ H' μ)(nd:fr.Nodup):Rel K G F' σ H' (mY fr (μ.drop own.length) 0 ρ):=by
 have sb:Sub F F':=R'.sub0;have owns:∀{i:Nat}{s:Sl},(mY fr (μ.drop own.length) 0 ρ)[i]?=some (some s)->aX s=true->∃s0,ρ[i]?=some (some s0)/\aX s0=true:=λ{i s} e w=>by
  obtain⟨s0,h1,h2⟩:=AJ R R' nd e;rcases h2 with⟨rfl,_⟩|⟨w0,_⟩
  ·exact ⟨s,h1,w⟩
  ·exact ⟨s0,h1,w0⟩
 refine ⟨by rw[nH];exact R.len,R'.sub,R.sub0.trans sb,λa o e=>?_,λa o e n t=>?_,R'.tb,λi d e=>?_,λi s e w=>?_,λi d a e ea=>?_,λi a e=>?_,λi d e=>?_,λi j s t a e1 w1 e2 w2 e3 e4=>?_⟩
 ·rcases R'.fn a o e with q|q
  ·exact R.fn a o q
  ·exact .inr (R.h0 q)
 ·refine R'.keep a o (R.keep a o e n t) (λj z=>?_) t;obtain⟨k,i,s,rfl,h1,h2,h3,h4⟩:=vG z;cases s with
  | fz d=>cases h3
  | ow d=>rw[R.new i d a h2 h4]at e;cases e
  | io d=>obtain⟨a',g⟩:=R.ioi i d h2;obtain⟨_,_,g2⟩:=R.io i a' g;rw[h4]at g2;cases g2;exact n i g
 ·obtain⟨s0,h1,h2⟩:=AJ R R' nd e;rcases h2 with⟨rfl,_⟩|⟨w0,k,d',_,_,z⟩
  ·obtain⟨v,g1,g2⟩:=R.fz i d h1;exact ⟨v,g1,g2.mono sb⟩
  ·cases s0<;>simp[Sl.put,aX]at z w0
 ·obtain⟨s0,h1,h2⟩:=AJ R R' nd e;rcases h2 with⟨rfl,hm⟩|⟨w0,k,d',hk,hd,rfl⟩
  ·obtain⟨a,o,g1,g2,g3,g4⟩:=R.ow i s h1 w;have nio:∀j,(mw own fr F H σ ρ).io j≠some a:=λj z=>by
    obtain⟨k,i',s',rfl,q1,q2,q3,q4⟩:=vG z;have:=R.ap i i' s s' a h1 w q2 q3 g1 q4;subst this;exact hm w (Q1 q1)
   refine ⟨a,o,g1,?_,R'.keep a o g3 nio (R.tb.ne λu z=>by rw[g3]at z;cases z;exact g4.stk),g4.mono sb⟩;cases q:F' a with
   | none=>rfl
   | some u =>
    rcases R'.fn a u q with z|z
    ·have z:F a=some u:=z;rw[g2]at z;cases z
    ·have z:H a=none:=z;rw[g3]at z;cases z
  ·obtain⟨a,o,g1,g2,g3,g4⟩:=R.ow i s0 h1 w0;obtain⟨d2,q1,q2⟩:=R'.io _ _ (wG (own:=own) (F:=F) (H:=H) hk h1 w0 g1);obtain⟨a',o',p1,p2,p3,p4⟩:=R'.ow _ _ hd rfl;rw[q2]at p1;cases p1;exact ⟨a,o',g1,p2,p3,by cases s0<;>first|exact p4|cases w0⟩
 ·obtain⟨s0,h1,h2⟩:=AJ R R' nd e;rcases h2 with⟨rfl,_⟩|⟨w0,k,d',_,_,z⟩
  ·exact R.new i d a h1 ea
  ·cases s0 with
   | fz d=>cases w0
   | ow d0=>exact R.new i d0 a h1 ea
   | io d0=>cases z
 ·obtain⟨d,h1,h2⟩:=R.io i a e;obtain⟨d',hd⟩:=jE (d:=d) ((fr.zip (μ.drop own.length)).lookup i);exact ⟨d',by rw[tW,h1];simp only[u5,e7];rw[hd],h2⟩
 ·obtain⟨s0,h1,h2⟩:=AJ R R' nd e;rcases h2 with⟨rfl,_⟩|⟨w0,k,d',_,_,z⟩
  ·exact R.ioi i d h1
  ·cases s0 with
   | fz d=>cases w0
   | ow d0=>cases z
   | io d0=>exact R.ioi i d0 h1
 ·obtain⟨s0,g1,g2⟩:=owns e1 w1;obtain⟨t0,g3,g4⟩:=owns e2 w2;exact R.ap i j s0 t0 a g1 g2 g3 g4 e3 e4
end
noncomputable abbrev Con:=List Sl->(Sl->Ev->Prop)->Prop
noncomputable def pQ(K:Fg)(con:Con):Sp:=λvs H Q _=>∃(G:Gh) (F:Hp) (args:List Sl) (Qd:Sl->Ev->Prop),Rel K G F (vs.map some) H (args.map some)/\con args Qd /\
 ∀v H' F' r ρ',Sub F F'->Rel K G F' (vs.map some) H' ρ'->Res K G F' H' (vs.map some) ρ' v r->Qd r ρ'->Q v H'
mutual
noncomputable def noMut:D->Bool
 | .none=>true
 | .bool _=>true
 | .int _=>true
 | .str _=>true
 | .tuple xs=>noMutAll xs
 | .list _=>false
 | .dict _=>false
noncomputable def noMutAll:List D->Bool
 | []=>true
 | x :: xs=>noMut x&&noMutAll xs
end
section
variable {K:Fg}{F F':Hp}
mutual
theorem Da.noMut(h:∀b xs,F b=some (.tup xs)->F' b=some (.tup xs)):∀{v:V}{d:D},Da K F v d->noMut d=true->Da K F' v d
 | _,_,.non,_=>.non
 | _,_,.bl b,_=>.bl b
 | _,_,.int i,_=>.int i
 | _,_,.str x,_=>.str x
 | _,_,.lst _ _,z=>by simp[L3.noMut]at z
 | _,_,.tup e t,z=>.tup (h _ _ e) (DaAll.noMut h t (by simpa [L3.noMut]using z))
 | _,_,.dk _ _,z=>by simp[L3.noMut]at z
 | _,_,.dt _ _,z=>by simp[L3.noMut]at z
 | _,_,.scr _,z=>by simp[L3.noMut,bJ]at z
theorem DaAll.noMut(h:∀b xs,F b=some (.tup xs)->F' b=some (.tup xs)):∀{xs:List V}{ds:List D},DaAll K F xs ds->noMutAll ds=true->DaAll K F' xs ds
 | _,_,.nil,_=>.nil
 | _,_,.cons a t,z=>by simp[noMutAll]at z;exact .cons (Da.noMut h a z.1) (DaAll.noMut h t z.2)
end
end
noncomputable def iX(ρ:Ev):List sU->Bool
 | []=>false
 | .inr _ :: xs=>iX ρ xs
 | .inl i :: xs=>(match ρ[i]? with|some (some s)=>aX s|_=>false)||iX ρ xs
def oj(con:Con)(as:List AD):TD:=λρ Q=>yX as ρ λxs ρ1=>YQ ρ1 xs λds=>con (ds.map Sl.fz) λr _=>match iX ρ1 xs with
 | false=>Q r ρ1
 | true=>noMut r.d=true/\Q r ρ1
def qj(con:Con)(i:Nat)(xs:List sU)(ρ1:Ev)(Q:Sl->Ev->Prop):Prop:=match ρ1[i]? with
 | some (some s)=>match aX s,iX ρ1 xs with
  | true,false=>YQ ρ1 xs λds=>con (.io s.d :: ds.map Sl.fz) λr outs=>match outs with
   | some (.io d') :: _=>Q r (ρ1.set i (some (s.put d')))
   | _=>False
  | _,_=>False
 | _=>False
def tU(con:Con)(i:Nat)(as:List AD):TD:=λρ Q=>yX (.inl i :: as) ρ λxs ρ1=>qj con i xs.tail ρ1 Q
def LentA(σ:L2.St)(ρ:Ev)(xs:List sU)(a:Addr):Prop:=∃(i:Nat) (s:Sl),Sum.inl i∈xs/\ρ[i]?=some (some s)/\aX s=true/\σ[i]?=some (some (V.ref a))
theorem pK{σ:L2.St}{ρ:Ev}:∀{xs:List sU}{a:Addr},LentA σ ρ xs a->iX ρ xs=true
 | [],a,⟨i,s,h,_⟩=>by cases h
 | .inr d :: xs,a,⟨i,s,h,h1,h2,h3⟩=>by
  rcases W0.mp h with h|h
  ·cases h
  ·exact pK (xs:=xs) ⟨i,s,h,h1,h2,h3⟩
 | .inl j :: xs,a,⟨i,s,h,h1,h2,h3⟩=>by
  unfold iX;rcases W0.mp h with h|h
  ·cases h;rw[h1];simp[h2]
  ·rw[pK (xs:=xs) ⟨i,s,h,h1,h2,h3⟩];simp
open Classical in
noncomputable def qK(σ:L2.St)(ρ:Ev)(xs:List sU)(F H:Hp):Hp:=λb=>if LentA σ ρ xs b then H b else F b
open Classical in
noncomputable def ZX(σ:L2.St)(ρ:Ev)(xs:List sU)(F:Hp):Hp:=λb=>if LentA σ ρ xs b then none else F b
section
variable {K:Fg}{G:Gh}{F F' H':Hp}{σ:L2.St}{ρ:Ev}{xs:List sU}
theorem BJ{b:Addr}(h:¬LentA σ ρ xs b):qK σ ρ xs F H b=F b:=by unfold qK;rw[if_neg h]
theorem uU{b:Addr}(h:LentA σ ρ xs b):qK σ ρ xs F H b=H b:=by unfold qK;rw[if_pos h]
theorem dJ{b:Addr}(h:¬LentA σ ρ xs b):ZX σ ρ xs F b=F b:=by unfold ZX;rw[if_neg h]
theorem vq{b:Addr}(h:LentA σ ρ xs b):ZX σ ρ xs F b=none:=by unfold ZX;rw[if_pos h]
theorem LentA.own(R:Rel K G F σ H ρ){b:Addr}(h:LentA σ ρ xs b):∃(i:Nat) (s:Sl) (o:HO),ρ[i]?=some (some s)/\aX s=true/\σ[i]?=some (some (V.ref b))/\F b=none/\H b=some o/\Own1 K F o s.d:=by obtain⟨i,s,_,h1,h2,h3⟩:=h;obtain⟨a,o,g1,g2,g3,g4⟩:=R.ow i s h1 h2;rw[h3]at g1;cases g1;exact ⟨i,s,o,h1,h2,h3,g2,g3,g4⟩
theorem IK(R:Rel K G F σ H ρ):Sub F (qK σ ρ xs F H):=λb o e=>by
 have n:¬LentA σ ρ xs b:=λz=>by obtain⟨_,_,_,_,_,_,h,_⟩:=z.own R;rw[h]at e;cases e
 rw[BJ n];exact e
theorem jv(R:Rel K G F σ H ρ):Sub (qK σ ρ xs F H) H:=λb o e=>by
 by_cases z:LentA σ ρ xs b
 ·rw[uU z]at e;exact e
 ·rw[BJ z]at e;exact R.sub _ _ e
theorem lv(R:Rel K G F σ H ρ):TabOk K (qK σ ρ xs F H) H:=R.tb.up (λ_ _ _ e=>e) λz hz=>by
 obtain⟨e1,ps,e2,_⟩:=R.tb z hz;have n:¬LentA σ ρ xs z.1:=λy=>by obtain⟨_,_,o,_,_,_,_,h,w⟩:=y.own R;rw[e2]at h;cases h;exact w
 rw[BJ n];exact e1
theorem xG(R:Rel K G F σ H ρ){ys:List sU}{vs:List V}{k:List D->Prop}(m:∀y∈ys,y∈xs)(o:OpdsAt K F σ vs ys)(h:YQ ρ ys k):∃ds,DaAll K (qK σ ρ xs F H) vs ds/\k ds:=by
 induction o generalizing k with
 | nil=>exact ⟨[],.nil,h⟩
 | @cons v x vs ys o t ih =>
  cases x with
  | inr d=>obtain⟨ds,a,q⟩:=ih (k:=λds=>k (d :: ds)) (λy hy=>m y (q0 _ hy)) h;exact ⟨d :: ds,.cons (Da.mono (IK R) o) a,q⟩
  | inl i =>
   unfold YQ at h;split at h
   ·rename_i s e;obtain⟨ds,a,q⟩:=ih (k:=λds=>k (s.d :: ds)) (λy hy=>m y (q0 _ hy)) h;refine ⟨s.d :: ds,.cons ?_ a,q⟩;have o:σ[i]?=some (some v):=o;have own:aX s=true->Da K (qK σ ρ xs F H) v s.d:=λw=>by
     obtain⟨b,u,h1,h2,h3,h4⟩:=R.ow i s e w;rw[o]at h1;cases h1;have l:LentA σ ρ xs b:=⟨i,s,m _ v0,e,w,o⟩;exact (h4.mono (IK R)).da (by rw[uU l];exact h3)
    cases s with
    | fz d=>obtain⟨v,e1,e2⟩:=R.fz i d e;rw[o]at e1;cases e1;exact e2.mono (IK R)
    | ow d=>exact own rfl
    | io d=>exact own rfl
   ·exact h.elim
theorem wq{o:HO}{d:D}(h:Own1 K F o d):noMut d=false:=by
 cases o with
 | ext φ=>rcases h.ext with⟨a',ep,xs,ps,z,rfl,t⟩|⟨a',ep,xs,ps,z,rfl,t⟩<;>rfl
 | _=>cases d<;>first|rfl|exact h.elim
theorem KZ{ds:List D}{i:Nat}{s:Sl}(h:((ds.map Sl.fz).map some)[i]?=some (some s)):∃d,ds[i]?=some d/\s=.fz d:=by
 rw[P0,X0]at h;cases e:ds[i]? with
 | none=>rw[e]at h;cases h
 | some d=>rw[e]at h;cases h;exact ⟨d,rfl,rfl⟩
theorem kE{vs:List V}{i:Nat}{v:V}(h:vs[i]?=some v):(vs.map some)[i]?=some (some v):=by rw[X0,h];rfl
theorem wW{vs:List V}{ds:List D}(s:Sub F H)(tb:TabOk K F H)(da:DaAll K F vs ds):Rel K ⟨H,F,λ_=>none⟩ F (vs.map some) H ((ds.map Sl.fz).map some) where
 len:=by simp[da.length]
 sub:=s
 sub0:=Sub.refl _
 fn:=λ_ _ e=>.inl e
 keep:=λ_ _ e _ _=>e
 tb:=tb
 fz:=λi d e=>by obtain⟨d',e1,e2⟩:=KZ e;cases e2;obtain⟨v,h1,h2⟩:=da.get e1;exact ⟨v,kE h1,h2⟩
 ow:=λi s e w=>by obtain⟨d',e1,rfl⟩:=KZ e;cases w
 new:=λi d a e _=>by obtain⟨d',e1,e2⟩:=KZ e;cases e2
 io:=λi a e=>by cases e
 ioi:=λi d e=>by obtain⟨d',e1,e2⟩:=KZ e;cases e2
 ap:=λi j s t a e w _ _ _ _=>by obtain⟨d',e1,rfl⟩:=KZ e;cases w
theorem Rel.called(R:Rel K G F σ H ρ){σ1:L2.St}{ρ1:Ev}(R':Rel K ⟨H,qK σ ρ xs F H,λ_=>none⟩ F' σ1 H' ρ1):Sub F (ZX σ ρ xs F')/\Rel K G (ZX σ ρ xs F') σ H' ρ:=by
 have nl:∀{b:Addr}{o:HO},F b=some o->¬LentA σ ρ xs b:=λ{b o} e z=>by obtain⟨_,_,_,_,_,_,h,_⟩:=z.own R;rw[h]at e;cases e
 have sb:Sub F (ZX σ ρ xs F'):=λb o e=>by rw[dJ (nl e)];exact R'.sub0 _ _ (IK R _ _ e)
 have ul:∀{b:Addr}{o:HO},ZX σ ρ xs F' b=some o->¬LentA σ ρ xs b/\F' b=some o:=λ{b o} e=>by
  by_cases z:LentA σ ρ xs b
  ·rw[vq z]at e;cases e
  ·rw[dJ z]at e;exact ⟨z,e⟩
 have kp:∀{b:Addr}{o:HO},(∀z∈TB K,z.1≠b)->H b=some o->H' b=some o:=λ{b o} t e=>R'.keep b o e (λi z=>by cases z) t;refine ⟨sb,R.len,λb o e=>R'.sub _ _ (ul e).2,R.sub0.trans sb,λb o e=>?_,λa o e n t=>kp t (R.keep a o e n t),R'.tb.up (λ_ _ _ e=>e) λz hz=>?_,λi d e=>?_,λi s e w=>?_,R.new,R.io,R.ioi,R.ap⟩
 ·obtain⟨n,e⟩:=ul e;rcases R'.fn b o e with q|q
  ·have q:qK σ ρ xs F H b=some o:=q;rw[BJ n]at q;exact R.fn b o q
  ·exact .inr (R.h0 q)
 ·cases q:ZX σ ρ xs F' z.1 with
  | none=>rfl
  | some u=>have:=(ul q).2;rw[(R'.tb z hz).1]at this;cases this
 ·obtain⟨v,h1,h2⟩:=R.fz i d e;exact ⟨v,h1,h2.mono sb⟩
 ·obtain⟨a,o,h1,h2,h3,h4⟩:=R.ow i s e w;refine ⟨a,o,h1,?_,kp (R.tb.ne λu z=>by rw[h3]at z;cases z;exact h4.stk) h3,h4.mono sb⟩;cases q:ZX σ ρ xs F' a with
  | none=>rfl
  | some u =>
   obtain⟨n,q⟩:=ul q;rcases R'.fn a u q with z|z
   ·have z:qK σ ρ xs F H a=some u:=z;rw[BJ n,h2]at z;cases z
   ·have z:H a=none:=z;rw[h3]at z;cases z
theorem Res.called(R:Rel K G F σ H ρ){σ1:L2.St}{ρ1:Ev}{v:V}{r:Sl}(R':Rel K ⟨H,qK σ ρ xs F H,λ_=>none⟩ F' σ1 H' ρ1)(q:Res K ⟨H,qK σ ρ xs F H,λ_=>none⟩ F' H' σ1 ρ1 v r)(hl:iX ρ xs=true->noMut r.d=true):Res K G (ZX σ ρ xs F') H' σ ρ v r:=by
 have tp:∀b ys,F' b=some (.tup ys)->ZX σ ρ xs F' b=some (.tup ys):=λb ys e=>by
  have n:¬LentA σ ρ xs b:=λz=>by obtain⟨_,_,o,_,_,_,_,h,w⟩:=z.own R;have e2:=R'.sub0 b o (by show qK σ ρ xs F H b=some o;rw[uU z];exact h);rw[e]at e2;cases e2;exact w
  rw[dJ n];exact e
 by_cases l:iX ρ xs=true
 ·cases r with
  | fz d=>exact Da.noMut tp q (hl l)
  | ow d=>obtain⟨a,o,_,_,_,w,_⟩:=q;have:=hl l;rw[show (Sl.ow d).d=d from rfl,wq w]at this;cases this
  | io d=>exact q.elim
 ·have e:ZX σ ρ xs F'=F':=funext λb=>dJ λz=>l (pK z);rw[e];cases r with
  | fz d=>exact q
  | io d=>exact q.elim
  | ow d=>obtain⟨a,o,h1,h2,h3,h4,h5,_⟩:=q;refine ⟨a,o,h1,h2,h3,h4,R.h0 h5,λi s es w z=>?_⟩;obtain⟨a',o',g1,_,g3,_⟩:=R.ow i s es w;rw[z]at g1;cases g1;have h5:H a=none:=h5;rw[h5]at g3;cases g3
theorem lE{con:Con}{as:List AD}{E:XK}{Q:VK}(h:lift K (oj con as) σ H Q):zV (pQ K con) [] E (JQ (as.map (sQ K))) σ H Q:=by
 obtain⟨G,F,ρ,Qd,R,w,k⟩:=h;refine oX R w λvs H1 F1 xs ρ1 s1 R1 o w1=>?_;obtain⟨ds,da,w1⟩:=xG (xs:=xs) R1 (λy hy=>hy) o w1;rw[K2];refine ⟨_,_,ds.map Sl.fz,_,wW (jv R1) (lv R1) da,w1,λv H' F' r ρ' s' R' r' q=>?_⟩;obtain⟨sb,R2⟩:=R1.called R';have hq:(iX ρ1 xs=true->noMut r.d=true)/\Qd r ρ1:=by
  split at q
  ·rename_i e;exact ⟨λz=>(by rw[e]at z;cases z),q⟩
  ·exact ⟨λ_=>q.1,q.2⟩
 exact k v H' _ r ρ1 (s1.trans sb) R2 (Res.called R1 R' r' hq.1) hq.2
end
section
variable {K:Fg}{G:Gh}{F F' H':Hp}{σ:L2.St}{ρ:Ev}{xs:List sU}
noncomputable def eO(a:Addr):Nat->Option Addr:=λj=>if j=0 then some a else none
theorem pH{a b:Addr}{j:Nat}(h:eO a j=some b):j=0/\b=a:=by
 unfold eO at h;split at h
 ·rename_i z;cases h;exact ⟨z,rfl⟩
 ·cases h
theorem xq{vs:List V}{ds:List D}{a:Addr}{o:HO}{d:D}(s:Sub F H)(h1:F a=none)(h2:H a=some o)(h3:Own1 K F o d)(tb:TabOk K F H)(da:DaAll K F vs ds):Rel K ⟨H,F,eO a⟩ F ((V.ref a :: vs).map some) H ((Sl.io d :: ds.map Sl.fz).map some) where
 len:=by simp[da.length]
 sub:=s
 sub0:=Sub.refl _
 fn:=λ_ _ e=>.inl e
 keep:=λ_ _ e _ _=>e
 tb:=tb
 fz:=λi d' e=>by
  cases i with
  | zero=>simp at e
  | succ i =>
   have e:((ds.map Sl.fz).map some)[i]?=some (some (Sl.fz d')):=by simpa using e
   obtain⟨d2,e1,e2⟩:=KZ e;cases e2;obtain⟨v,g1,g2⟩:=da.get e1;exact ⟨v,by simpa using g1,g2⟩
 ow:=λi s e w=>by
  cases i with
  | zero=>simp at e;subst e;exact ⟨a,o,by simp,h1,h2,h3⟩
  | succ i =>
   have e:((ds.map Sl.fz).map some)[i]?=some (some s):=by simpa using e
   obtain⟨d2,e1,rfl⟩:=KZ e;cases w
 new:=λi d' b e _=>by
  cases i with
  | zero=>simp at e
  | succ i =>
   have e:((ds.map Sl.fz).map some)[i]?=some (some (Sl.ow d')):=by simpa using e
   obtain⟨d2,e1,e2⟩:=KZ e;cases e2
 io:=λi b e=>by obtain⟨rfl,rfl⟩:=pH e;exact ⟨d,by simp,by simp⟩
 ioi:=λi d' e=>by
  cases i with
  | zero=>exact ⟨a,rfl⟩
  | succ i =>
   have e:((ds.map Sl.fz).map some)[i]?=some (some (Sl.io d')):=by simpa using e
   obtain⟨d2,e1,e2⟩:=KZ e;cases e2
 ap:=λi j s t b e1 w1 e2 w2 _ _=>by
  have f:∀{i:Nat}{s:Sl},((Sl.io d :: ds.map Sl.fz).map some)[i]?=some (some s)->aX s=true->i=0:=λ{i s} e w=>by
   cases i with
   | zero=>rfl
   | succ i =>
    have e:((ds.map Sl.fz).map some)[i]?=some (some s):=by simpa using e
    obtain⟨d2,e1,rfl⟩:=KZ e;cases w
  rw[f e1 w1,f e2 w2]
theorem Rel.calledI(R:Rel K G F σ H ρ){i:Nat}{s:Sl}{a:Addr}{d':D}{σ1:L2.St}{ρ1:Ev}(e:ρ[i]?=some (some s))(w:aX s=true)(ea:σ[i]?=some (some (V.ref a)))(R':Rel K ⟨H,F,eO a⟩ F' (some (V.ref a) :: σ1) H' (some (Sl.io d') :: ρ1)):Rel K G F' σ H' (ρ.set i (some (s.put d'))):=by
 obtain⟨a0,o0,g1,g2,g3,g4⟩:=R.ow i s e w;rw[ea]at g1;cases g1;have sb:Sub F F':=R'.sub0;have hl:=uX e;have kp:∀{b:Addr}{o:HO},b≠a->(∀z∈TB K,z.1≠b)->H b=some o->H' b=some o:=λ{b o} n t q=>R'.keep b o q (λj z=>n (pH z).2) t;have ow':∀{j:Nat}{t:Sl},j≠i->ρ[j]?=some (some t)->aX t=true->∃b o,σ[j]?=some (some (V.ref b))/\F' b=none/\H' b=some o/\Own1 K F' o t.d:=λ{j t} n q wt=>by
  obtain⟨b,o,q1,q2,q3,q4⟩:=R.ow j t q wt;have nb:b≠a:=λz=>n (R.ap j i t s a q wt e w (by rw[q1,z]) ea);refine ⟨b,o,q1,?_,kp nb (R.tb.ne λu z=>by rw[q3]at z;cases z;exact q4.stk) q3,q4.mono sb⟩;cases z:F' b with
  | none=>rfl
  | some u =>
   rcases R'.fn b u z with y|y
   ·have y:F b=some u:=y;rw[q2]at y;cases y
   ·have y:H b=none:=y;rw[q3]at y;cases y
 refine ⟨by rw[o4];exact R.len,R'.sub,R.sub0.trans sb,λb o q=>?_,λb o q n t=>?_,R'.tb,λj d q=>?_,λj t q wt=>?_,λj d b q eb=>?_,λj b q=>?_,λj d q=>?_,λj k t u b e1 w1 e2 w2 e3 e4=>?_⟩
 ·rcases R'.fn b o q with y|y
  ·exact R.fn b o y
  ·exact .inr (R.h0 y)
 ·refine kp (λz=>?_) t (R.keep b o q n t);subst z;cases s with
  | fz d=>cases w
  | ow d=>rw[R.new i d b e ea]at q;cases q
  | io d=>obtain⟨a',y⟩:=R.ioi i d e;obtain⟨_,_,y2⟩:=R.io i a' y;rw[ea]at y2;cases y2;exact n i y
 ·rcases wQ q with⟨rfl,z⟩|⟨n,z⟩
  ·cases s<;>simp[Sl.put,aX]at z w
  ·obtain⟨v,y1,y2⟩:=R.fz j d z;exact ⟨v,y1,y2.mono sb⟩
 ·rcases wQ q with⟨rfl,z⟩|⟨n,z⟩
  ·cases z;obtain⟨b,o,y1,y2,y3,y4⟩:=R'.ow 0 (.io d') (by simp) rfl;simp at y1;subst y1;exact ⟨a,o,ea,y2,y3,by cases s<;>first|exact y4|cases w⟩
  ·exact ow' n z wt
 ·rcases wQ q with⟨rfl,z⟩|⟨n,z⟩
  ·cases s with
   | fz d=>cases w
   | ow d0=>exact R.new j d0 b e eb
   | io d0=>cases z
  ·exact R.new j d b z eb
 ·obtain⟨d,y1,y2⟩:=R.io j b q;by_cases z:j=i
  ·subst z;rw[e]at y1;cases y1;exact ⟨d',by rw[cJ hl];rfl,y2⟩
  ·exact ⟨d,by rw[G1 (E3 z)];exact y1,y2⟩
 ·rcases wQ q with⟨rfl,z⟩|⟨n,z⟩
  ·cases s with
   | fz d=>cases w
   | ow d0=>cases z
   | io d0=>exact R.ioi j d0 e
  ·exact R.ioi j d z
 ·have f:∀(j:Nat) (t:Sl),(ρ.set i (some (s.put d')))[j]?=some (some t)->aX t=true->∃t',ρ[j]?=some (some t')/\aX t'=true:=λj t q wt=>by
   rcases wQ q with⟨rfl,z⟩|⟨n,z⟩
   ·exact ⟨s,e,w⟩
   ·exact ⟨t,z,wt⟩
  obtain⟨t',e1',w1'⟩:=f j t e1 w1;obtain⟨u',e2',w2'⟩:=f k u e2 w2;exact R.ap j k t' u' b e1' w1' e2' w2' e3 e4
theorem mX(R:Rel K G F σ H ρ){ys:List sU}{vs:List V}{k:List D->Prop}(m:iX ρ ys=false)(o:OpdsAt K F σ vs ys)(h:YQ ρ ys k):∃ds,DaAll K F vs ds/\k ds:=by
 induction o generalizing k with
 | nil=>exact ⟨[],.nil,h⟩
 | @cons v x vs ys o t ih =>
  cases x with
  | inr d=>obtain⟨ds,a,q⟩:=ih (k:=λds=>k (d :: ds)) m h;exact ⟨d :: ds,.cons o a,q⟩
  | inl i =>
   unfold YQ at h;unfold iX at m;simp only[Bool.or_eq_false_iff]at m;split at h
   ·rename_i s e;obtain⟨ds,a,q⟩:=ih (k:=λds=>k (s.d :: ds)) m.2 h;refine ⟨s.d :: ds,.cons ?_ a,q⟩;have m1:=m.1;rw[e]at m1;cases s with
    | fz d=>obtain⟨v',e1,e2⟩:=R.fz i d e;have o:σ[i]?=some (some v):=o;rw[o]at e1;cases e1;exact e2
    | ow d=>cases m1
    | io d=>cases m1
   ·exact h.elim
theorem mv{con:Con}{i:Nat}{as:List AD}{E:XK}{Q:VK}(h:lift K (tU con i as) σ H Q):zV (pQ K con) [] E (JQ ((.inl i :: as).map (sQ K))) σ H Q:=by
 obtain⟨G,F,ρ,Qd,R,w,k⟩:=h;unfold tU yX at w;split at w
 ·rename_i s0 e0;obtain⟨v,ev⟩:=R.bound e0;refine ⟨v,ev,oX R w λvs H1 F1 xs ρ1 s1 R1 o w1=>?_⟩;show pQ K con (v :: vs++[]) H1 Q E;rw[K2];have w1:qj con i xs ρ1 Qd:=w1;unfold qj at w1;split at w1
  ·rename_i s e;split at w1
   ·rename_i p1 p2;obtain⟨a,o',g1,g2,g3,g4⟩:=R1.ow i s e p1;rw[ev]at g1;cases g1;obtain⟨ds,da,w1⟩:=mX R1 p2 o w1;refine ⟨_,F1,.io s.d :: ds.map Sl.fz,_,xq R1.sub g2 g3 g4 R1.tb da,w1,λv H' F' r ρ' s' R' r' q=>?_⟩;split at q
    ·rename_i d' ρ2;have R2:=R1.calledI e p1 ev R';refine k v H' F' r _ (s1.trans s') R2 ?_ q;cases r with
     | fz d=>exact r'
     | io d=>exact r'.elim
     | ow d =>
      obtain⟨b,u,h1,h2,h3,h4,h5,_⟩:=r';have h5:H1 b=none:=h5;refine ⟨b,u,h1,h2,h3,h4,R1.h0 h5,λj t es w z=>?_⟩;have own:∃t',ρ1[j]?=some (some t')/\aX t'=true:=by
       rcases wQ es with⟨rfl,y⟩|⟨n,y⟩
       ·exact ⟨s,e,p1⟩
       ·exact ⟨t,y,w⟩
      obtain⟨t',y1,y2⟩:=own;obtain⟨a',o',q1,_,q3,_⟩:=R1.ow j t' y1 y2;rw[z]at q1;cases q1;rw[h5]at q3;cases q3
    ·exact q.elim
   ·exact w1.elim
  ·exact w1.elim
 ·exact w.elim
noncomputable def nY(n:Nat)(args:List Sl):Ev:=args.map some++A1 (n - args.length) none
noncomputable def outs:List Sl->Ev->Ev
 | [],_=>[]
 | .io _ :: as,ρ=>(ρ.headD none) :: outs as ρ.tail
 | .fz d :: as,ρ=>some (.fz d) :: outs as ρ.tail
 | .ow d :: as,ρ=>some (.ow d) :: outs as ρ.tail
theorem QX{α:Type}{l:List (Option α)}{i:Nat}{x:α}(h:(l++A1 n none)[i]?=some (some x)):l[i]?=some (some x):=by
 by_cases z:i < l.length
 ·rw[P2 z]at h;exact h
 ·rw[S1 (G8 z),O8]at h;split at h<;>cases h
theorem JK{α:Type}{l m:List α}{i:Nat}{x:α}(h:l[i]?=some x):(l++m)[i]?=some x:=by rw[P2 (uX h)];exact h
theorem Rel.start{vs:List V}{args:List Sl}(R:Rel K G F (vs.map some) H (args.map some)):Rel K G F (L2.start N vs) H (nY N.length args) where
 len:=by have:=R.len;simp[L2.start,nY]at this ⊢;omega
 sub:=R.sub
 sub0:=R.sub0
 fn:=R.fn
 keep:=R.keep
 tb:=R.tb
 fz:=λi d e=>by obtain⟨v,h1,h2⟩:=R.fz i d (QX e);exact ⟨v,JK h1,h2⟩
 ow:=λi s e w=>by obtain⟨a,o,h1,h2⟩:=R.ow i s (QX e) w;exact ⟨a,o,JK h1,h2⟩
 new:=λi d a e ea=>R.new i d a (QX e) (QX ea)
 io:=λi a e=>by obtain⟨d,h1,h2⟩:=R.io i a e;exact ⟨d,JK h1,JK h2⟩
 ioi:=λi d e=>R.ioi i d (QX e)
 ap:=λi j s t a e1 w1 e2 w2 e3 e4=>R.ap i j s t a (QX e1) w1 (QX e2) w2 (QX e3) (QX e4)
theorem PZ:∀{args:List Sl}{ρ:Ev}{i:Nat}{s:Sl},(outs args ρ)[i]?=some (some s)->(∃d,args[i]?=some (.io d)/\ρ[i]?=some (some s))\/(args[i]?=some s/\∀d,s≠.io d)
 | [],ρ,i,s,h=>by simp[outs]at h
 | .io d :: as,ρ,0,s,h=>by
  simp[outs]at h;cases ρ with
  | nil=>simp at h
  | cons x ρ=>simp at h;exact .inl ⟨d,by simp,by simp[h]⟩
 | .fz d :: as,ρ,0,s,h=>by simp[outs]at h;subst h;exact .inr ⟨by simp,λd z=>by cases z⟩
 | .ow d :: as,ρ,0,s,h=>by simp[outs]at h;subst h;exact .inr ⟨by simp,λd z=>by cases z⟩
 | .io d :: as,ρ,i+1,s,h=>by
  simp only[outs,U2]at h;rcases PZ h with⟨d,h1,h2⟩|⟨h1,h2⟩
  ·exact .inl ⟨d,by simpa using h1,by cases ρ with|nil=>simp at h2|cons x ρ=>simpa using h2⟩
  ·exact .inr ⟨by simpa using h1,h2⟩
 | .fz d :: as,ρ,i+1,s,h=>by
  simp only[outs,U2]at h;rcases PZ h with⟨d,h1,h2⟩|⟨h1,h2⟩
  ·exact .inl ⟨d,by simpa using h1,by cases ρ with|nil=>simp at h2|cons x ρ=>simpa using h2⟩
  ·exact .inr ⟨by simpa using h1,h2⟩
 | .ow d :: as,ρ,i+1,s,h=>by
  simp only[outs,U2]at h;rcases PZ h with⟨d,h1,h2⟩|⟨h1,h2⟩
  ·exact .inl ⟨d,by simpa using h1,by cases ρ with|nil=>simp at h2|cons x ρ=>simpa using h2⟩
  ·exact .inr ⟨by simpa using h1,h2⟩
theorem MF:∀{args:List Sl}{ρ:Ev}{i:Nat}{d:D}{x:Option Sl},args[i]?=some (.io d)->ρ[i]?=some x->(outs args ρ)[i]?=some x
 | [],_,_,_,_,h,_=>by simp at h
 | _ :: _,[],_,_,_,_,h=>by simp at h
 | s :: as,y :: ρ,0,d,x,h,h'=>by simp at h h';subst h h';simp[outs]
 | s :: as,y :: ρ,i+1,d,x,h,h'=>by have:=MF (args:=as) (ρ:=ρ) (i:=i) (by simpa using h) (by simpa using h');cases s<;>simpa [outs]using this
theorem qH:∀(args:List Sl) (ρ:Ev),(outs args ρ).length=args.length
 | [],_=>rfl
 | s :: as,ρ=>by cases s<;>simp[outs,qH as]
theorem rj{args:List Sl}{i:Nat}{s:Sl}(h:(args.map some)[i]?=some (some s)):args[i]?=some s:=by
 rw[X0]at h;cases e:args[i]? with
 | none=>rw[e]at h;cases h
 | some x=>rw[e]at h;cases h;rfl
theorem KK{args:List Sl}{i:Nat}{s:Sl}(h:args[i]?=some s):(args.map some)[i]?=some (some s):=by rw[X0,h];rfl
theorem Rel.ret{vs:List V}{args:List Sl}{σ':L2.St}{ρ':Ev}(hn:∀s∈args,∀d,s≠.ow d)(R:Rel K G F (vs.map some) H (args.map some))(sb:Sub F F')(R':Rel K G F' σ' H' ρ'):Rel K G F' (vs.map some) H' (outs args ρ'):=by
 have own:∀{i:Nat}{s:Sl},(outs args ρ')[i]?=some (some s)->aX s=true->∃d a,args[i]?=some (.io d)/\ρ'[i]?=some (some s)/\G.io i=some a/\(vs.map some)[i]?=some (some (V.ref a))/\σ'[i]?=some (some (V.ref a)):=λ{i s} e w=>by
  rcases PZ e with⟨d,h1,h2⟩|⟨h1,h2⟩
  ·obtain⟨a,h3⟩:=R.ioi i d (KK h1);obtain⟨_,_,h4⟩:=R.io i a h3;obtain⟨_,_,h5⟩:=R'.io i a h3;exact ⟨d,a,h1,h2,h3,h4,h5⟩
  ·cases s with
   | fz d=>cases w
   | ow d=>exact (hn _ (Q1 h1) d rfl).elim
   | io d=>exact (h2 d rfl).elim
 refine ⟨by rw[qH];simpa using R.len,R'.sub,R'.sub0,R'.fn,R'.keep,R'.tb,λi d e=>?_,λi s e w=>?_,λi d a e ea=>?_,λi a e=>?_,λi d e=>?_,λi j s t a e1 w1 e2 w2 e3 e4=>?_⟩
 ·rcases PZ e with⟨d',h1,h2⟩|⟨h1,h2⟩
  ·obtain⟨a,h3⟩:=R.ioi i d' (KK h1);obtain⟨d2,h4,_⟩:=R'.io i a h3;rw[h2]at h4;cases h4
  ·obtain⟨v,h3,h4⟩:=R.fz i d (KK h1);exact ⟨v,h3,h4.mono sb⟩
 ·obtain⟨d,a,h1,h2,h3,h4,h5⟩:=own e w;obtain⟨b,o,g1,g2⟩:=R'.ow i s h2 w;rw[h5]at g1;cases g1;exact ⟨a,o,h4,g2⟩
 ·obtain⟨d',b,h1,h2,h3,h4,h5⟩:=own e rfl;rw[h4]at ea;cases ea;exact R'.new i d _ h2 h5
 ·obtain⟨d,h1,h2⟩:=R.io i a e;obtain⟨d',h3,h4⟩:=R'.io i a e;exact ⟨d',MF (rj h1) h3,h2⟩
 ·obtain⟨d',a,h1,h2,h3,h4,h5⟩:=own e rfl;exact ⟨a,h3⟩
 ·obtain⟨_,a1,_,h2,_,h4,h5⟩:=own e1 w1;obtain⟨_,a2,_,g2,_,g4,g5⟩:=own e2 w2;rw[h4]at e3;cases e3;rw[g4]at e4;cases e4;exact R'.ap i j s t a h2 w1 g2 w2 h5 g5
theorem Res.ret{vs:List V}{args:List Sl}{σ':L2.St}{ρ':Ev}{v:V}{r:Sl}(hn:∀s∈args,∀d,s≠.ow d)(R:Rel K G F (vs.map some) H (args.map some))(R':Rel K G F' σ' H' ρ')(q:Res K G F' H' σ' ρ' v r):Res K G F' H' (vs.map some) (outs args ρ') v r:=by
 cases r with
 | fz d=>exact q
 | io d=>exact q.elim
 | ow d =>
  obtain⟨a,o,h1,h2,h3,h4,h5,h6⟩:=q;refine ⟨a,o,h1,h2,h3,h4,h5,λi s e w z=>?_⟩;rcases PZ e with⟨d',g1,g2⟩|⟨g1,g2⟩
  ·obtain⟨b,g3⟩:=R.ioi i d' (KK g1);obtain⟨_,_,g4⟩:=R.io i b g3;obtain⟨_,_,g5⟩:=R'.io i b g3;rw[g4]at z;cases z;exact h6 i s g2 w g5
  ·cases s with
   | fz d=>cases w
   | ow d=>exact (hn _ (Q1 g1) d rfl).elim
   | io d=>exact (g2 d rfl).elim
noncomputable def vU(args:List Sl)(Qd:Sl->Ev->Prop):DE:={ nx:=λρ=>Qd (.fz .none) (outs args ρ),rt:=λr ρ=>Qd r (outs args ρ),bk:=λ_=>False,ct:=λ_=>False }
theorem Lu{con:Con}{ts:VJ}{vs:List V}{Q:VK}{E:XK}(hc:∀args Qd,con args Qd->(∀s∈args,∀d,s≠.ow d)/\ts (vU args Qd) (nY N.length args))(h:pQ K con vs H Q E):vQ K ts { nx:=λ_ H'=>Q .non H',rt:=Q } (L2.start N vs) H:=by
 obtain⟨G,F,args,Qd,R,w,k⟩:=h;obtain⟨hn,w⟩:=hc args Qd w;refine ⟨G,F,_,_,R.start,w,λσ' H' F' ρ' s R' q=>?_,λv σ' H' F' r ρ' s R' r' q=>?_,λ_ _ _ _ _ _ q=>q.elim,λ_ _ _ _ _ _ q=>q.elim⟩
 ·exact k .non H' F' (.fz .none) _ s (R.ret hn s R') Da.non q
 ·exact k v H' F' r _ s (R.ret hn s R') (r'.ret hn R R') q
end
section
variable {K:Fg}{F:Hp}{v:V}
theorem At.int{i:Int}(h:At K F H v (.int i)):v=.int i:=by
 rcases h with h|⟨a,o,rfl,_,_,h⟩
 ·cases h;rfl
 ·cases o<;>exact h.elim
theorem At.bool{b:Bool}(h:At K F H v (.bool b)):v=.bl b:=by
 rcases h with h|⟨a,o,rfl,_,_,h⟩
 ·cases h;rfl
 ·cases o<;>exact h.elim
theorem At.str{x:Str}(h:At K F H v (.str x)):v=.str x:=by
 rcases h with h|⟨a,o,rfl,_,_,h⟩
 ·cases h;rfl
 ·cases o<;>exact h.elim
theorem At.none(h:At K F H v .none):v=.non:=by
 rcases h with h|⟨a,o,rfl,_,_,h⟩
 ·cases h;rfl
 ·cases o<;>exact h.elim
theorem At.list{ds:List D}(s:Sub F H)(h:At K F H v (.list ds)):∃a xs,v=.ref a/\H a=some (.lst xs)/\DaAll K F xs ds:=by
 rcases h with h|⟨a,o,rfl,_,e,h⟩
 ·cases h with
  | lst e t=>exact ⟨_,_,rfl,s _ _ e,t⟩
 ·cases o<;>first|exact h.elim|exact ⟨_,_,rfl,e,h⟩
theorem At.tuple{ds:List D}(s:Sub F H)(h:At K F H v (.tuple ds)):∃a xs,v=.ref a/\F a=some (.tup xs)/\H a=some (.tup xs)/\DaAll K F xs ds:=by
 rcases h with h|⟨a,o,rfl,_,e,h⟩
 ·cases h with
  | tup e t=>exact ⟨_,_,rfl,e,s _ _ e,t⟩
 ·cases o<;>exact h.elim
theorem NF(k:VZ):Zz k≠.none:=by cases k<;>(intro z;cases z)
theorem Da.scr_inv{ns:List Int}:∀{d:D},Da K F v d->d=bJ ns->∃a,v=.ref a/\SqL K F a (ns.map V.int)
 | _,.non,e=>by cases e
 | _,.bl _,e=>by cases e
 | _,.int _,e=>by cases e
 | _,.str _,e=>by cases e
 | _,.lst _ _,e=>by cases e
 | _,.tup _ _,e=>by cases e
 | _,.dk _ t,e=>by
  cases t with
  | nil=>injection e with e;cases e
  | cons _ _=>injection e with e;injection e with e _;injection e with e _;exact (NF _ e).elim
 | _,.dt _ t,e=>by
  cases t with
  | nil=>injection e with e;cases e
  | cons _ _=>injection e with e;injection e with e _;injection e with e _;cases e
 | _,.scr (ns:=ns') q,e=>by
  injection e with e;injection e with e _;injection e with _ e;injection e with e2;have:∀(l m:List Int),l.map i0=m.map i0->l=m:=by
   intro l;induction l with
   | nil=>intro m e;cases m with|nil=>rfl|cons=>simp at e
   | cons a l ih=>intro m e;cases m with|nil=>simp at e|cons b m=>simp at e;rw[e.1,ih m e.2]
  rw[<- this _ _ e2];exact ⟨_,rfl,q⟩
theorem At.scr{ns:List Int}(s:Sub F H)(h:At K F H v (bJ ns)):∃a,v=.ref a/\SqL K H a (ns.map V.int):=by
 rcases h with h|⟨a,o,rfl,_,e,h⟩
 ·obtain⟨a,h1,h2⟩:=h.scr_inv rfl;exact ⟨a,h1,s.sql h2⟩
 ·exfalso;cases o<;>first|exact h.elim|skip
  ·rename_i kvs;have h:DaKV K F kvs [(.none,.list (ns.map i0))]:=h;generalize q:[(PyData.none,G3 (ns.map i0))]=es at h;cases h with
   | nil=>cases q
   | cons _ _=>injection q with q _;injection q with q _;exact NF _ q.symm
  ·rename_i kvs;have h:DaKT K F kvs [(.none,.list (ns.map i0))]:=h;cases h
theorem AtAll.one{vs:List V}{d:D}(h:AtAll K F H vs [d]):∃v,vs=[v]/\At K F H v d:=by cases h with|cons a t=>cases t;exact ⟨_,rfl,a⟩
theorem AtAll.two{vs:List V}{d e:D}(h:AtAll K F H vs [d,e]):∃v u,vs=[v,u]/\At K F H v d/\At K F H u e:=by cases h with|cons a t=>cases t with|cons b t=>cases t;exact ⟨_,_,rfl,a,b⟩
end
def jK(r:R2):List V->Hp->VK->Prop:=λvs H Q=>∃x y,vs=[x,y]/\r x y H Q
def XO(r:V->Hp->VK->Prop):List V->Hp->VK->Prop:=λvs H Q=>∃x,vs=[x]/\r x H Q
theorem VU{K:Fg}{r:R2}{f:D->D->(Sl->Prop)->Prop}(h:∀(G:Gh) (F:Hp) (σ:L2.St) (H:Hp) (ρ:Ev) (x y:V) (d e:D) (Q:VK) (Qd:Sl->Prop),Rel K G F σ H ρ->At K F H x d->At K F H y e->f d e Qd ->(∀v H' F' s,Sub F F'->Rel K G F' σ H' ρ->Res K G F' H' σ ρ v s->Qd s->Q v H')->r x y H Q):SQ K (jK r) (o2 f):=by
 intro G F σ H ρ vs ds Q Qd R a w k;match ds,a,w with
 | [d,e],a,w=>obtain⟨v,u,rfl,h1,h2⟩:=a.two;exact ⟨v,u,rfl,h G F σ H ρ v u d e Q Qd R h1 h2 w k⟩
theorem bG{K:Fg}{f:D->(Sl->Prop)->Prop}(h:∀(G:Gh) (F:Hp) (σ:L2.St) (H:Hp) (ρ:Ev) (x:V) (d:D) (Q:VK) (Qd:Sl->Prop),Rel K G F σ H ρ->At K F H x d->f d Qd ->(∀v H' F' s,Sub F F'->Rel K G F' σ H' ρ->Res K G F' H' σ ρ v s->Qd s->Q v H')->r [x] H Q):SQ K r (o1 f):=by
 intro G F σ H ρ vs ds Q Qd R a w k;match ds,a,w with
 | [d],a,w=>obtain⟨v,rfl,h1⟩:=a.one;exact h G F σ H ρ v d Q Qd R h1 w k
noncomputable def fI(C:Int->Int->Prop)(g:Int->Int->D):D->D->(Sl->Prop)->Prop
 | .int i,.int j,Q=>C i j/\Q (.fz (g i j))
 | _,_,_=>False
noncomputable def nv(g:Int->Int->D):D->D->(Sl->Prop)->Prop
 | .int i,.int j,Q=>Q (.fz (g i j))
 | _,_,_=>False
theorem qv{K:Fg}{C:Int->Int->Prop}{g:Int->Int->V}{g':Int->Int->D}(hg:∀F i j,Da K F (g i j) (g' i j)):SQ K (jK (rI C g)) (o2 (fI C g')):=VU λG F σ H ρ x y d e Q Qd R h1 h2 w k=>by
 cases d<;>first|exact w.elim|skip
 cases e<;>first|exact w.elim|skip
 case int.int i j=>cases h1.int;cases h2.int;exact ⟨i,j,rfl,rfl,w.1,k _ H F (.fz _) (Sub.refl _) R (hg F i j) w.2⟩
theorem rH{K:Fg}{g:Int->Int->V}{g':Int->Int->D}(hg:∀F i j,Da K F (g i j) (g' i j)):SQ K (jK (HY g)) (o2 (nv g')):=VU λG F σ H ρ x y d e Q Qd R h1 h2 w k=>by
 cases d<;>first|exact w.elim|skip
 cases e<;>first|exact w.elim|skip
 case int.int i j=>cases h1.int;cases h2.int;exact ⟨i,j,rfl,rfl,k _ H F (.fz _) (Sub.refl _) R (hg F i j) w⟩
def rAny(r r':R2):R2:=λx y H Q=>r x y H Q\/r' x y H Q
def sj:R2:=λx y H Q=>∃(a b:Addr) (xs ys:List V),x=.ref a/\y=.ref b/\H a=some (.tup xs)/\H b=some (.tup ys)/\xs.length+ys.length<=sizeLine /\
 (xs=[]->Q (.ref b) H)/\(xs≠[]->ys=[]->Q (.ref a) H)/\(xs≠[]->ys≠[]->∀p,H p=none->Q (.ref p) (UQ H p (.tup (xs++ys))))
noncomputable def YO:D->D->(Sl->Prop)->Prop
 | .int i,.int j,Q=>Q (.fz (.int (i+j)))
 | .tuple xs,.tuple ys,Q=>xs.length+ys.length<=sizeLine/\Q (.fz (.tuple (xs++ys)))
 | .list xs,.list ys,Q=>xs.length+ys.length<=sizeLine/\Q (.ow (.list (xs++ys)))
 | _,_,_=>False
theorem DaAll.nil_of{K:Fg}{F:Hp}{ds:List D}(h:DaAll K F [] ds):ds=[]:=by cases h;rfl
theorem lQ{K:Fg}:SQ K (jK (rAny (HY λi j=>.int (i+j)) (rAny sj IC))) (o2 YO):=VU λG F σ H ρ x y d e Q Qd R h1 h2 w k=>by
 cases d<;>first|exact w.elim|(cases e<;>first|exact w.elim|skip)
 case int.int i j=>cases h1.int;cases h2.int;exact .inl ⟨i,j,rfl,rfl,k _ H F (.fz _) (Sub.refl _) R (Da.int _) w⟩
 case tuple.tuple xs ys =>
  obtain⟨a,us,rfl,f1,e1,d1⟩:=h1.tuple R.sub;obtain⟨b,ws,rfl,f2,e2,d2⟩:=h2.tuple R.sub;refine .inr (.inl ⟨a,b,us,ws,rfl,rfl,e1,e2,by rw[d1.length,d2.length];exact w.1,λz=>?_,λ_ z=>?_,λ_ _ p hp=>?_⟩)
  ·subst z;have:=d1.nil_of;subst this;exact k _ H F (.fz _) (Sub.refl _) R (Da.tup f2 d2) w.2
  ·subst z;have:=d2.nil_of;subst this;refine k _ H F (.fz _) (Sub.refl _) R (Da.tup f1 d1) ?_;have:=w.2;rw[K2]at this;exact this
  ·obtain⟨sb,R',dd⟩:=R.newTup hp (d1.append d2);exact k _ _ _ (.fz _) sb R' dd w.2
 case list.list xs ys=>obtain⟨a,us,rfl,e1,d1⟩:=h1.list R.sub;obtain⟨b,ws,rfl,e2,d2⟩:=h2.list R.sub;refine .inr (.inr ⟨a,b,us,ws,rfl,rfl,e1,e2,by rw[d1.length,d2.length];exact w.1,λp hp=>?_⟩);obtain⟨R',r'⟩:=R.newOw (o:=.lst (us++ws)) (d:=.list (xs++ys)) hp (d1.append d2);exact k _ _ F _ (Sub.refl _) R' r' w.2
noncomputable def ZO:D->D->(Sl->Prop)->Prop
 | .int i,.int j,Q=>CMul i j/\Q (.fz (.int (i * j)))
 | .list xs,.int k,Q=>-(2 ^ 63)<=k/\k < 2 ^ 63/\xs.length * k.toNat<=sizeLine/\Q (.ow (.list (A1 k.toNat xs).flatten))
 | _,_,_=>False
theorem CJ{K:Fg}:SQ K (jK (rAny (rI CMul λi j=>.int (i * j)) KC)) (o2 ZO):=VU λG F σ H ρ x y d e Q Qd R h1 h2 w k=>by
 cases d<;>first|exact w.elim|(cases e<;>first|exact w.elim|skip)
 case int.int i j=>cases h1.int;cases h2.int;exact .inl ⟨i,j,rfl,rfl,w.1,k _ H F (.fz _) (Sub.refl _) R (Da.int _) w.2⟩
 case list.int xs j=>cases h2.int;obtain⟨a,us,rfl,e1,d1⟩:=h1.list R.sub;refine .inr ⟨a,j,us,rfl,rfl,e1,w.1,w.2.1,by rw[d1.length];exact w.2.2.1,λp hp=>?_⟩;obtain⟨R',r'⟩:=R.newOw (o:=.lst (A1 j.toNat us).flatten) (d:=.list (A1 j.toNat xs).flatten) hp (d1.rep _);exact k _ _ F _ (Sub.refl _) R' r' w.2.2.2
noncomputable def aP:D->(Sl->Prop)->Prop
 | .list ds,Q=>Q (.fz (.int ds.length))
 | .tuple ds,Q=>Q (.fz (.int ds.length))
 | .dict [(.none,.list ds)],Q=>∃ns:List Int,ds=ns.map i0/\Q (.fz (.int ns.length))
 | _,_=>False
theorem jX{K:Fg}:SQ K (cM K) (o1 aP):=bG λG F σ H ρ x d Q Qd R h1 w k=>by
 cases d<;>first|exact w.elim|skip
 case list ds=>obtain⟨a,us,rfl,e1,d1⟩:=h1.list R.sub;exact ⟨a,us,rfl,.inl (SqL.of e1),k _ H F (.fz _) (Sub.refl _) R (Da.int _) (by rw[d1.length];exact w)⟩
 case tuple ds=>obtain⟨a,us,rfl,_,e1,d1⟩:=h1.tuple R.sub;exact ⟨a,us,rfl,.inr (SqT.of e1),k _ H F (.fz _) (Sub.refl _) R (Da.int _) (by rw[d1.length];exact w)⟩
 case dict es =>
  rcases es with _|⟨⟨c1,c2⟩,_|⟨c3,c4⟩⟩
  ·exact w.elim
  ·cases c1<;>first|exact w.elim|skip
   cases c2<;>first|exact w.elim|skip
   obtain⟨ns,rfl,w⟩:=w;obtain⟨a,rfl,q⟩:=h1.scr R.sub;exact ⟨a,_,rfl,.inl q,k _ H F (.fz _) (Sub.refl _) R (Da.int _) (by rw[j0];exact w)⟩
  ·cases c1<;>first|exact w.elim|(cases c2<;>exact w.elim)
noncomputable def kR:D->D->(Sl->Prop)->Prop
 | .list ds,.int i,Q=>∃d,aV ds i=some d/\Q (.fz d)
 | .tuple ds,.int i,Q=>∃d,aV ds i=some d/\Q (.fz d)
 | .dict [(.none,.list ds)],.int i,Q=>∃(ns:List Int) (n:Int),ds=ns.map i0/\aV ns i=some n/\Q (.fz (.int n))
 | _,_,_=>False
theorem DaAll.at{K:Fg}{F:Hp}{xs:List V}{ds:List D}{i:Int}{d:D}(h:DaAll K F xs ds)(e:aV ds i=some d):∃v,aV xs i=some v/\Da K F v d:=by
 unfold aV at e ⊢;rw[h.length];cases q:Lz ds.length i with
 | none=>rw[q]at e;cases e
 | some j=>rw[q]at e;exact h.get e
theorem sv(f:α->β){l:List α}{i:Int}{x:α}(h:aV l i=some x):aV (l.map f) i=some (f x):=by
 unfold aV at h ⊢;rw[j0];cases q:Lz l.length i with
 | none=>rw[q]at h;cases h
 | some j=>rw[q]at h;simp at h ⊢;exact ⟨x,h,rfl⟩
theorem qM{K:Fg}:SQ K (jK (rAny (Mw K) (Nw K))) (o2 kR):=VU λG F σ H ρ x y d e Q Qd R h1 h2 w k=>by
 cases d<;>first|exact w.elim|skip
 case list ds =>
  cases e<;>first|exact w.elim|skip
  rename_i i;obtain⟨d,w1,w2⟩:=w;cases h2.int;obtain⟨a,us,rfl,e1,d1⟩:=h1.list R.sub;obtain⟨v,g1,g2⟩:=d1.at w1;exact .inl ⟨a,us,i,v,rfl,rfl,SqL.of e1,g1,k _ H F (.fz _) (Sub.refl _) R g2 w2⟩
 case tuple ds =>
  cases e<;>first|exact w.elim|skip
  rename_i i;obtain⟨d,w1,w2⟩:=w;cases h2.int;obtain⟨a,us,rfl,_,e1,d1⟩:=h1.tuple R.sub;obtain⟨v,g1,g2⟩:=d1.at w1;exact .inr ⟨a,us,i,v,rfl,rfl,SqT.of e1,g1,k _ H F (.fz _) (Sub.refl _) R g2 w2⟩
 case dict es =>
  rcases es with _|⟨⟨c1,c2⟩,_|⟨c3,c4⟩⟩
  ·exact w.elim
  ·cases c1<;>first|exact w.elim|skip
   cases c2<;>first|exact w.elim|skip
   cases e<;>first|exact w.elim|skip
   rename_i i;obtain⟨ns,n,e,w1,w2⟩:=w;subst e;cases h2.int;obtain⟨a,rfl,q⟩:=h1.scr R.sub;exact .inl ⟨a,_,i,_,rfl,rfl,q,sv V.int w1,k _ H F (.fz _) (Sub.refl _) R (Da.int _) w2⟩
  ·cases c1<;>first|exact w.elim|(cases c2<;>exact w.elim)
noncomputable def rM:D->(Sl->Prop)->Prop
 | .list ds,Q=>Q (.ow (.list ds))
 | .tuple ds,Q=>Q (.ow (.list ds))
 | _,_=>False
theorem WJ{K:Fg}:SQ K (IF K) (o1 rM):=bG λG F σ H ρ x d Q Qd R h1 w k=>by
 match d,h1,w with
 | .list ds,h1,w=>obtain⟨a,us,rfl,e1,d1⟩:=h1.list R.sub;refine ⟨a,us,rfl,.inl (SqL.of e1),λp hp=>?_⟩;obtain⟨R',r'⟩:=R.newOw (o:=.lst us) (d:=.list ds) hp d1;exact k _ _ F _ (Sub.refl _) R' r' w
 | .tuple ds,h1,w=>obtain⟨a,us,rfl,_,e1,d1⟩:=h1.tuple R.sub;refine ⟨a,us,rfl,.inr (SqT.of e1),λp hp=>?_⟩;obtain⟨R',r'⟩:=R.newOw (o:=.lst us) (d:=.list ds) hp d1;exact k _ _ F _ (Sub.refl _) R' r' w
noncomputable def mE:D->(Sl->Prop)->Prop
 | .list ds,Q=>Q (.fz (.tuple ds))
 | .tuple ds,Q=>Q (.fz (.tuple ds))
 | _,_=>False
theorem QZ{K:Fg}:SQ K (kH K) (o1 mE):=bG λG F σ H ρ x d Q Qd R h1 w k=>by
 match d,h1,w with
 | .list ds,h1,w=>obtain⟨a,us,rfl,e1,d1⟩:=h1.list R.sub;refine ⟨a,us,rfl,.inl ⟨SqL.of e1,λp hp=>?_⟩⟩;obtain⟨sb,R',dd⟩:=R.newTup hp d1;exact k _ _ _ (.fz _) sb R' dd w
 | .tuple ds,h1,w=>obtain⟨a,us,rfl,f1,e1,d1⟩:=h1.tuple R.sub;exact ⟨a,us,rfl,.inr ⟨SqT.of e1,k _ H F (.fz _) (Sub.refl _) R (Da.tup f1 d1) w⟩⟩
noncomputable def bP:D->(Sl->Prop)->Prop
 | .list ds,Q=>∃bs:List Bool,ds=bs.map W2/\Q (.fz (.bool (bs.all id)))
 | _,_=>False
theorem DaAll.bools{K:Fg}{F:Hp}:∀{xs:List V}{bs:List Bool},DaAll K F xs (bs.map W2)->xs=bs.map V.bl
 | [],[],_=>rfl
 | x :: xs,b :: bs,.cons h t=>by cases h;simp[DaAll.bools t]
theorem xW{K:Fg}:SQ K (SC K) (o1 bP):=bG λG F σ H ρ x d Q Qd R h1 w k=>by
 match d,h1,w with
 | .list ds,h1,⟨bs,e,w⟩=>subst e;obtain⟨a,us,rfl,e1,d1⟩:=h1.list R.sub;have:=d1.bools;subst this;exact ⟨a,bs,rfl,SqL.of e1,k _ H F (.fz _) (Sub.refl _) R (Da.bl _) w⟩
noncomputable def TR:D->Ki
 | .none=>.non
 | .bool _=>.bl
 | .int _=>.int
 | .str _=>.str
 | .list _=>.lst
 | .tuple _=>.tup
 | .dict ((.none,_) :: _)=>.lst
 | .dict _=>.dct
noncomputable def dP:D->(Sl->Prop)->Prop
 | .int i,Q=>Q (.fz (.int (if i < 0 then -i else i)))
 | _,_=>False
theorem yG{K:Fg}:SQ K (λxs H Q=>∃i,xs=[V.int i]/\Q (V.int (if i < 0 then -i else i)) H) (o1 dP):=bG λG F σ H ρ x d Q Qd R h1 w k=>by
 match d,h1,w with
 | .int i,h1,w=>cases h1.int;exact ⟨i,rfl,k _ H F (.fz _) (Sub.refl _) R (Da.int _) w⟩
theorem Mu{K:Fg}{g:Int->Int->Int}:SQ K (λxs H Q=>∃i j,xs=[V.int i,V.int j]/\Q (V.int (g i j)) H) (o2 (nv λi j=>.int (g i j))):=by
 intro G F σ H ρ vs ds Q Qd R a w k;match ds,a,w with
 | [d,e],a,w =>
  obtain⟨v,u,rfl,h1,h2⟩:=a.two;have w:nv (λi j=>.int (g i j)) d e Qd:=w;unfold nv at w;split at w
  rotate_left
  ·exact w.elim
  rename_i i j w;cases h1.int;cases h2.int;exact ⟨i,j,rfl,k _ H F (.fz _) (Sub.refl _) R (Da.int _) w⟩
noncomputable def sM:D->(Sl->Prop)->Prop
 | .int i,Q=>Q (.fz (.int (-i)))
 | _,_=>False
theorem nE{K:Fg}:SQ K (XO (rU λi=>.int (-i))) (o1 sM):=bG λG F σ H ρ x d Q Qd R h1 w k=>by
 match d,h1,w with
 | .int i,h1,w=>cases h1.int;exact ⟨_,rfl,i,rfl,k _ H F (.fz _) (Sub.refl _) R (Da.int _) w⟩
def yq(as:List AD)(f:List D->(Sl->Prop)->Prop):TD:=λρ Q=>yX as ρ λxs ρ1=>match iX ρ1 xs with
 | false=>YQ ρ1 xs λds=>f ds λr=>Q r ρ1
 | true=>False
def tj(ds:List D)(Q:Sl->Prop):Prop:=Q (.fz (.tuple ds))
def uj(ds:List D)(Q:Sl->Prop):Prop:=Q (.ow (.list ds))
theorem zQ(h:n<=1000):n<=sizeLine:=Q0 h (by decide)
theorem tM{K:Fg}{as:List AD}(hl:as.length<=1000){σ:L2.St}{H:Hp}{Q:VK}(h:lift K (yq as tj) σ H Q):xC (JQ (as.map (sQ K))) σ H Q:=by
 obtain⟨G,F,ρ,Qd,R,w,k⟩:=h;refine yJ R w λvs H' F' xs ρ' sb R' o hn q=>?_;split at q
 ·rename_i e;obtain⟨ds,da,q⟩:=mX R' e o q;refine ⟨zQ (by omega),λp hp=>?_⟩;obtain⟨s2,R2,dd⟩:=R'.newTup hp da;exact k _ _ _ (.fz _) _ (sb.trans s2) R2 dd q
 ·exact q.elim
theorem uM{K:Fg}{as:List AD}(hl:as.length<=1000){σ:L2.St}{H:Hp}{Q:VK}(h:lift K (yq as uj) σ H Q):yC (JQ (as.map (sQ K))) σ H Q:=by
 obtain⟨G,F,ρ,Qd,R,w,k⟩:=h;refine yJ R w λvs H' F' xs ρ' sb R' o hn q=>?_;split at q
 ·rename_i e;obtain⟨ds,da,q⟩:=mX R' e o q;refine ⟨zQ (by omega),λp hp=>?_⟩;obtain⟨R2,r2⟩:=R'.newOw (o:=.lst vs) (d:=.list ds) hp da;exact k _ _ _ _ _ sb R2 r2 q
 ·exact q.elim
def zG(p q:Int->Int->Bool)(a b c:AD):TD:=λρ Q=>yX [a,b] ρ λxs ρ1=>YQ ρ1 xs λds=>match ds with
 | [.int i,.int j]=>if p i j=true then yX [c] ρ1 λys ρ2=>YQ ρ2 ys λes=>match es with
   | [.int k]=>Q (.fz (.bool (q j k))) ρ2
   | _=>False
  else Q (.fz (.bool false)) ρ1
 | _=>False
theorem uv{K:Fg}{p q:Int->Int->Bool}{a b c:AD}{σ:L2.St}{Q:VK}(h:lift K (zG p q a b c) σ H Q):jG (HY λi j=>.bl (p i j)) (HY λi j=>.bl (q i j)) (sQ K a) (sQ K b) (sQ K c) σ H Q:=by
 obtain⟨G,F,ρ,Qd,R,w,k⟩:=h;have main:JQ ([a,b].map (sQ K)) σ H λvs H2=>∃x y,vs=[x,y]/\(HY λi j=>V.bl (p i j)) x y H2 λz H3=>∃k,z=.bl k /\
   (if k=true then sQ K c σ H3 λw' H4=>(HY λi j=>V.bl (q i j)) y w' H4 Q else Q (.bl false) H3):=by
  refine oX R w λvs H' F' xs ρ' sb R' o w1=>?_;obtain⟨ds,ha,w1⟩:=eZ R' o w1;split at w1
  ·rename_i i j;obtain⟨v,u,rfl,h1,h2⟩:=ha.two;cases h1.int;cases h2.int;refine ⟨_,_,rfl,i,j,rfl,rfl,p i j,rfl,?_⟩;by_cases e:p i j=true
   ·rw[if_pos e]at w1 ⊢;have:=oX (as:=[c]) (Qv:=λvs H4=>∃w',vs=[w']/\(HY λi j=>V.bl (q i j)) (V.int j) w' H4 Q) R' w1 λvs H2 F2 ys ρ2 s2 R2 o2 w2=>by
     obtain⟨es,hb,w2⟩:=eZ R2 o2 w2;split at w2
     ·rename_i k';obtain⟨v,rfl,h3⟩:=hb.one;cases h3.int;exact ⟨_,rfl,j,k',rfl,rfl,k _ H2 F2 (.fz _) ρ2 (sb.trans s2) R2 (Da.bl _) w2⟩
     ·exact w2.elim
    exact sG this
   ·rw[if_neg e]at w1 ⊢;exact k _ H' F' (.fz _) ρ' sb R' (Da.bl _) w1
  ·exact w1.elim
 exact lH main
def OF(i:Nat)(as:List AD)(f:List D->List D->(D->D->Prop)->Prop):TD:=λρ Q=>match ρ[i]? with
 | some (some s0)=>match s0.d,aX s0 with
  | .list _,true=>yX as ρ λxs ρ1=>match ρ1[i]?,iX ρ1 xs with
   | some (some s),false=>match s.d,aX s with
    | .list es,true=>YQ ρ1 xs λds=>f es ds λd' r=>Q (.fz r) (ρ1.set i (some (s.put d')))
    | _,_=>False
   | _,_=>False
  | _,_=>False
 | _=>False
def vM(K:Fg)(r:V->List V->Hp->VK->Prop)(f:List D->List D->(D->D->Prop)->Prop):Prop :=
 ∀(F H:Hp) (a:Addr) (xs:List V) (es:List D) (vs:List V) (ds:List D) (Q:VK) (k:D->D->Prop),Sub F H->H a=some (.lst xs)->DaAll K F xs es->DaAll K F vs ds->f es ds k ->
  (∀v o' d' res,Own1 K F o' d'->Da K F v res->k d' res->Q v (UQ H a o'))->r (.ref a) vs H Q
theorem oE{K:Fg}{i:Nat}{as:List AD}{r:V->List V->Hp->VK->Prop}{f:List D->List D->(D->D->Prop)->Prop}(ok:vM K r f){σ:L2.St}{H:Hp}{Q:VK}(h:lift K (OF i as f) σ H Q):∃a xs,σ[i]?=some (some (V.ref a))/\SqL K H a xs/\JQ (as.map (sQ K)) σ H λvs H2=>r (.ref a) vs H2 Q:=by
 obtain⟨G,F,ρ,Qd,R,w,k⟩:=h;unfold OF at w;split at w
 ·rename_i s0 e0;split at w
  ·rename_i es0 p1 p2;obtain⟨a,o,g1,g2,g3,g4⟩:=R.ow i s0 e0 p2;have gl:∃xs,H a=some (.lst xs):=by
    rw[p1]at g4;cases o<;>first|exact g4.elim|exact ⟨_,g3⟩
   obtain⟨xs0,gl⟩:=gl;refine ⟨a,xs0,g1,SqL.of gl,oX R w λvs H1 F1 xs ρ1 s1 R1 o1 w1=>?_⟩;split at w1
   ·rename_i s e en;split at w1
    ·rename_i es q1 q2;obtain⟨ds,da,w1⟩:=mX R1 en o1 w1;obtain⟨a',o',h1,h2,h3,h4⟩:=R1.ow i s e q2;rw[g1]at h1;cases h1;rw[q1]at h4;have hl:∃us,o'=.lst us/\DaAll K F1 us es:=by cases o'<;>first|exact h4.elim|exact ⟨_,rfl,h4⟩
     obtain⟨us,rfl,h4⟩:=hl;refine ok F1 H1 a us es vs ds Q _ R1.sub h3 h4 da w1 λv o2 d2 res ho hv hk=>?_;have R2:=R1.change (o':=o2) (d':=d2) e q2 g1 ho;exact k v _ F1 (.fz res) _ s1 R2 hv hk
    ·exact w1.elim
   ·exact w1.elim
  ·exact w.elim
 ·exact w.elim
noncomputable def vv:List D->List D->(D->D->Prop)->Prop
 | es,[x],k=>es.length < sizeLine/\k (.list (es++[x])) .none
 | _,_,_=>False
theorem IX{K:Fg}:vM K DF vv:=by
 intro F H a xs es vs ds Q k s e d1 d2 w q;match ds,d2,w with
 | [x],.cons h .nil,w=>exact ⟨a,xs,_,rfl,rfl,e,by rw[d1.length];exact w.1,q _ (.lst (xs++[_])) (.list (es++[x])) _ (d1.append (.cons h .nil)) .non w.2⟩
noncomputable def xv:List D->List D->(D->D->Prop)->Prop
 | es,[.list ys],k=>es.length+ys.length<=sizeLine/\k (.list (es++ys)) .none
 | _,_,_=>False
theorem XJ{K:Fg}:vM K EF xv:=by
 intro F H a xs es vs ds Q k s e d1 d2 w q;match ds,d2,w with
 | [.list ys],.cons h .nil,w =>
  cases h with
  | lst e2 t=>exact ⟨a,_,xs,_,rfl,rfl,e,s _ _ e2,by rw[d1.length,t.length];exact w.1,q _ (.lst (xs++_)) (.list (es++ys)) _ (d1.append t) .non w.2⟩
noncomputable def fO:List D->List D->(D->D->Prop)->Prop
 | es,[.int i,x],k=>es.length < sizeLine/\0<=i/\i<=es.length/\k (.list (es.take i.toNat++x :: es.drop i.toNat)) .none
 | _,_,_=>False
noncomputable def AG(j:Nat)(ai:AD)(te:TD):VJ:=λE ρ=>te ρ λr ρ1=>match ρ1[j]? with
 | some (some _)=>yX [ai] ρ1 λxs ρ2=>YQ ρ2 xs λds=>match ds,ρ2[j]? with
  | [.int k],some (some s)=>match s.d,aX s with
   | .list es,true=>∃n,Lz es.length k=some n/\E.nx (ρ2.set j (some (s.put (.list (es.set n r.d)))))
   | _,_=>False
  | _,_=>False
 | _=>False
theorem zv{K:Fg}{j:Nat}{ai:AD}{te:TD}{σ:L2.St}{E:Ends}(h:vQ K (AG j ai te) E σ H):fY (lift K te) (oC (eY j) (sQ K ai) FV) E σ H:=by
 obtain⟨G,F,ρ,D,R,w,n,r,b,c⟩:=h;refine ⟨G,F,ρ,_,R,w,λv H1 F1 x ρ1 s1 R1 r1 w1=>?_⟩;obtain⟨F2,s2,R2,d2⟩:=r1.frz R1;split at w1
 ·rename_i s0 e0;obtain⟨u,eu⟩:=R2.bound e0;refine ⟨u,eu,sG (P:=λi H2=>FV u i v H2 λH3=>E.nx σ H3) (oX R2 w1 λvs H3 F3 xs ρ3 s3 R3 o3 w3=>?_)⟩;obtain⟨ds,ha,w3⟩:=eZ R3 o3 w3;split at w3
  ·rename_i k s e;obtain⟨iv,rfl,hi⟩:=ha.one;cases hi.int;split at w3
   ·rename_i es p1 p2;obtain⟨m,w4,w5⟩:=w3;obtain⟨a,o,g1,g2,g3,g4⟩:=R3.ow j s e p2;rw[eu]at g1;cases g1;rw[p1]at g4;have hl:∃us,o=.lst us/\DaAll K F3 us es:=by cases o<;>first|exact g4.elim|exact ⟨_,rfl,g4⟩
    obtain⟨us,rfl,g4⟩:=hl;refine ⟨_,rfl,a,us,k,m,rfl,rfl,g3,by rw[g4.length];exact w4,?_⟩;have R4:=R3.change (o':=.lst (us.set m v)) (d':=.list (es.set m x.d)) e p2 eu (g4.set (d2.mono s3) m);exact n σ _ F3 _ (s1.trans (s2.trans s3)) R4 w5
   ·exact w3.elim
  ·exact w3.elim
 ·exact w1.elim
def wM(K:Fg)(tl:TE):TI:=λσ H R=>tl σ H λx H1=>∃a,x=.ref a/\(((∃xs,SqL K H1 a xs)/\R (GO K a) H1)\/((∃xs,SqT K H1 a xs)/\R (JO K a) H1))
noncomputable def vj(a:TD):tG:=λρ Q=>a ρ λr ρ1=>match r.d with
 | .list ds=>Q ds ρ1
 | .tuple ds=>Q ds ρ1
 | _=>False
theorem BG{K:Fg}{F:Hp}{a:Addr}{xs:List V}{ds:List D}(e:F a=some (.lst xs))(h:DaAll K F xs ds):Walks K (GO K a) F ds:=λi H F1 s1 s2=>by have q:=SqL.of (K:=K) (s2 _ _ (s1 _ _ e));refine ⟨λd ed=>?_,λhl=>⟨xs,q,by rw[h.length];omega⟩⟩;obtain⟨v,h1,h2⟩:=h.get ed;refine ⟨⟨xs,v,q,h1⟩,λx H' ⟨e1,e2⟩=>?_⟩;subst e1;have:=e2 xs q;rw[h1]at this;cases this;exact ⟨F1,Sub.refl _,λ_ _ z=>.inl z,s2,Sub.refl _,h2.mono s1⟩
theorem zq{K:Fg}{F:Hp}{a:Addr}{xs:List V}{ds:List D}(e:F a=some (.tup xs))(h:DaAll K F xs ds):Walks K (JO K a) F ds:=λi H F1 s1 s2=>by have q:=SqT.of (K:=K) (s2 _ _ (s1 _ _ e));refine ⟨λd ed=>?_,λhl=>⟨xs,q,by rw[h.length];omega⟩⟩;obtain⟨v,h1,h2⟩:=h.get ed;refine ⟨⟨xs,v,q,h1⟩,λx H' ⟨e1,e2⟩=>?_⟩;subst e1;have:=e2 xs q;rw[h1]at this;cases this;exact ⟨F1,Sub.refl _,λ_ _ z=>.inl z,s2,Sub.refl _,h2.mono s1⟩
theorem pE{K:Fg}{a:TD}{σ:L2.St}{R:It->Hp->Prop}(h:PX K (vj a) σ H R):wM K (lift K a) σ H R:=by
 obtain⟨G,F,ρ,Qd,Rl,w,k⟩:=h;refine ⟨G,F,ρ,_,Rl,w,λv H1 F1 r ρ1 s1 R1 r1 w1=>?_⟩;obtain⟨F2,s2,R2,d2⟩:=r1.frz R1;split at w1
 ·rename_i ds e;rw[e]at d2;cases d2 with
  | lst q t=>exact ⟨_,rfl,.inl ⟨⟨_,SqL.of (R2.sub _ _ q)⟩,k _ H1 F2 ds ρ1 (s1.trans s2) R2 (BG q t) w1⟩⟩
 ·rename_i ds e;rw[e]at d2;cases d2 with
  | tup q t=>exact ⟨_,rfl,.inr ⟨⟨_,SqT.of (R2.sub _ _ q)⟩,k _ H1 F2 ds ρ1 (s1.trans s2) R2 (zq q t) w1⟩⟩
 ·exact w1.elim
noncomputable def CQ(lo:Int)(n:Nat):List D:=(N1 n).map λ(i:Nat)=>i0 (lo+i)
theorem sH{K:Fg}{F:Hp}{lo:Int}:Walks K (ZN lo n) F (CQ lo n):=λi H F1 s1 s2=>by
 have hl:(CQ lo n).length=n:=by simp[CQ]
 refine ⟨λd ed=>?_,λh=>by rw[hl]at h;exact T9 h⟩;have hi:i < n:=by have:=uX ed;rw[hl]at this;exact this
 have e:(CQ lo n)[i]?=some (.int (lo+i)):=by simp[CQ,hi]
 rw[e]at ed;cases ed;refine ⟨hi,λx H' ⟨e1,e2⟩=>?_⟩;subst e1 e2;exact ⟨F1,Sub.refl _,λ_ _ z=>.inl z,s2,Sub.refl _,.int _⟩
noncomputable def CG(a:AD):tG:=λρ Q=>yX [a] ρ λxs ρ1=>YQ ρ1 xs λds=>match ds with
 | [.int j]=>-(2 ^ 62)<=j/\j < 2 ^ 62/\Q (CQ 0 j.toNat) ρ1
 | _=>False
theorem qE{K:Fg}{a:AD}{σ:L2.St}{R:It->Hp->Prop}(h:PX K (CG a) σ H R):xz (JQ ([a].map (sQ K))) σ H R:=by
 obtain⟨G,F,ρ,Qd,Rl,w,k⟩:=h;refine oX Rl w λvs H' F' xs ρ' sb R' o w1=>?_;obtain⟨ds,ha,w1⟩:=eZ R' o w1;split at w1
 ·rename_i j;obtain⟨v,rfl,h1⟩:=ha.one;cases h1.int;exact ⟨j,rfl,w1.1,w1.2.1,k _ H' F' _ ρ' sb R' sH w1.2.2⟩
 ·exact w1.elim
def UR(K:Fg)(F:Hp)(v:V)(ds:List D):Prop:=∃k a xs,v=.ref a/\(F a=some (match k with|Kd.l=>HO.lst xs|Kd.t=>HO.tup xs))/\DaAll K F xs ds
theorem JV{K:Fg}{a:Addr}{xs:List V}{k:Kd}(e:H a=some (match k with|Kd.l=>HO.lst xs|Kd.t=>HO.tup xs)):Sq k K H a xs:=by
 cases k with
 | l=>exact SqL.of e
 | t=>exact SqT.of e
noncomputable def xj:D->Option (List D)
 | .list ds=>some ds
 | .tuple ds=>some ds
 | _=>none
theorem wU{K:Fg}{F:Hp}{v:V}{d:D}{ds:List D}(h:Da K F v d)(e:xj d=some ds):∃k a xs,v=.ref a/\(F a=some (match k with|Kd.l=>HO.lst xs|Kd.t=>HO.tup xs))/\DaAll K F xs ds:=by
 cases h with
 | lst q t=>cases e;exact ⟨.l,_,_,rfl,q,t⟩
 | tup q t=>cases e;exact ⟨.t,_,_,rfl,q,t⟩
 | non=>cases e
 | bl=>cases e
 | int=>cases e
 | str=>cases e
 | dk _ _=>cases e
 | dt _ _=>cases e
 | scr _=>cases e
 | exc _=>cases e
 | opq _=>cases e
 | pd _ _=>cases e
 | bd _ _=>cases e
noncomputable def oY(ds es:List D):List D:=(ds.zip es).map λp=>B1 [p.1,p.2]
noncomputable def DG(a b:AD):tG:=λρ Q=>yX [a,b] ρ λxs ρ1=>match iX ρ1 xs with
 | false=>YQ ρ1 xs λds=>match ds with
  | [x,y]=>match xj x,xj y with
   | some us,some ws=>Q (oY us ws) ρ1
   | _,_=>False
  | _=>False
 | true=>False
theorem EG{K:Fg}{F:Hp}{a b:Addr}{k1 k2:Kd}{xs:List V}{ds es:List D}(e1:F a=some (match k1 with|Kd.l=>HO.lst xs|Kd.t=>HO.tup xs))(h1:DaAll K F xs ds)
  (e2:F b=some (match k2 with|Kd.l=>HO.lst ys|Kd.t=>HO.tup ys)) (h2:DaAll K F ys es):Walks K (TC K k1 k2 a b) F (oY ds es):=λi H F1 s1 s2=>by
 have q1:Sq k1 K H a xs:=JV (s2 _ _ (s1 _ _ e1));have q2:Sq k2 K H b ys:=JV (s2 _ _ (s1 _ _ e2));refine ⟨λd ed=>?_,λhl=>⟨xs,ys,q1,q2,?_⟩⟩
 ·simp only[oY,X0,E5]at ed;obtain⟨⟨x,y⟩,ez,rfl⟩:=ed;rw[N5]at ez;obtain⟨v,g1,g2⟩:=h1.get ez.1;obtain⟨u,g3,g4⟩:=h2.get ez.2;refine ⟨⟨xs,v,ys,u,q1,q2,g1,g3⟩,λz H' ⟨T,x1,x2,hT,ex,eH,f1,f2⟩=>?_⟩;subst ex eH;have f1:=f1 xs q1;have f2:=f2 ys q2;rw[g1]at f1;cases f1;rw[g3]at f2;cases f2;have fT:F1 T=none:=by
   cases z:F1 T with
   | none=>rfl
   | some o=>rw[s2 _ _ z]at hT;cases hT
  refine ⟨UQ F1 T (.tup [v,u]),Sub.new fT,λc o ec=>?_,λc o ec=>?_,Sub.new hT,.tup AQ (.cons (g2.mono (s1.trans (Sub.new fT))) (.cons (g4.mono (s1.trans (Sub.new fT))) .nil))⟩
  ·by_cases z:c=T
   ·subst z;exact .inr hT
   ·rw[nQ z]at ec;exact .inl ec
  ·by_cases z:c=T
   ·subst z;rw[AQ]at ec ⊢;exact ec
   ·rw[nQ z]at ec ⊢;exact s2 _ _ ec
 ·simp only[oY,j0,G4]at hl;rw[h1.length,h2.length];omega
theorem rE{K:Fg}{a b:AD}{σ:L2.St}{R:It->Hp->Prop}(h:PX K (DG a b) σ H R):HF K (JQ ([a,b].map (sQ K))) σ H R:=by
 obtain⟨G,F,ρ,Qd,Rl,w,k⟩:=h;refine oX Rl w λvs H' F' xs ρ' sb R' o w1=>?_;split at w1
 ·rename_i e;obtain⟨ds,da,w1⟩:=mX R' e o w1;split at w1
  ·rename_i x y;split at w1
   ·rename_i us ws p1 p2;cases da with
    | cons d1 t =>
     cases t with
     | cons d2 t=>cases t;obtain⟨k1,a1,us',rfl,e1,g1⟩:=wU d1 p1;obtain⟨k2,a2,ws',rfl,e2,g2⟩:=wU d2 p2;exact ⟨k1,a1,us',k2,a2,ws',rfl,JV (R'.sub _ _ e1),JV (R'.sub _ _ e2),k _ H' F' _ ρ' sb R' (EG e1 g1 e2 g2) w1⟩
   ·exact w1.elim
  ·exact w1.elim
 ·exact w1.elim
section
variable {K:Fg}{F:Hp}
theorem DaAll.keys:∀{xs:List V}{ks:List VZ},DaAll K F xs (ks.map Zz)->xs=ks.map kV
 | [],[],_=>rfl
 | x :: xs,k :: ks,.cons h t=>by
  have e:x=kV k:=by cases k<;>(cases h;rfl)
  rw[e,DaAll.keys t];rfl
end
open L2
noncomputable def OQ:Expr->Bool
 | .Starred _ _=>false
 | _=>true
theorem uQ{e:Expr}{es:List Expr}(h:OQ e=true):starEach (e :: es) env=(false,eval e env) :: starEach es env:=by cases e<;>first|rfl|cases h
theorem kX{pos:Pos}:∀{es:List Expr},es.all OQ=true->(backTo pos (starEach es env)).any (·.1)=false:=by
 intro es;induction es with
 | nil=>intro _;rfl
 | cons e es ih=>intro h;simp only[y8,J1]at h;rw[uQ h.1];have:=ih h.2;simp[backTo]at this ⊢;exact this
noncomputable def xU:Expr->Bool
 | .Set _ _ _=>false
 | _=>true
theorem pY{e:Expr}(h:xU e=true)(x:Value):foldedSetIterable e env x=pure x:=by cases e<;>first|rfl|cases h
noncomputable def LK:Expr->Bool
 | .ListComp _ _ _ _=>false
 | .SetComp _ _ _ _=>false
 | .DictComp _ _ _ _ _=>false
 | _=>true
theorem MK{e:Expr}{t:Option Expr}(h:LK e=true):swapsWith e t n env=pure false:=by cases e<;>first|rfl|cases h
section
variable {K:Fg}
theorem BY{e:Expr}{t t':TE}(h:PE X e t)(m:∀{σ H Q},t' σ H Q->t σ H Q):PE X e t':=λpins s σ H Q I w=>h pins s σ H Q I (m w)
theorem fP{e:Expr}{t t':TT}(h:PT X e t)(m:∀{σ H Q},t' σ H Q->t σ H Q):PT X e t':=λpins s σ H Q I w=>h pins s σ H Q I (m w)
theorem lR{e:Expr}{t t':TT}(h:PW X e t)(m:∀{σ H Q},t' σ H Q->t σ H Q):PW X e t':=λwh pins s σ H Q I w=>h wh pins s σ H Q I (m w)
theorem Aq{e:Stmt}{t t':TS}(h:PS X e t)(m:∀{D σ H},t' D σ H->t D σ H):PS X e t':=λpins s σ H D I w=>h pins s σ H D I (m w)
theorem xM{e:List Stmt}{t t':TS}(h:PSs X e t)(m:∀{D σ H},t' D σ H->t D σ H):PSs X e t':=λpins s σ H D I w=>h pins s σ H D I (m w)
theorem mR{e:Expr}{t t':TG}(h:PG X e t)(m:∀{v σ H Q},t' v σ H Q->t v σ H Q):PG X e t':=by
 unfold PG at h ⊢
 intros
 exact h _ _ _ _ _ _ _ (by assumption) (by assumption) (m (by assumption))
theorem iO{g e:Expr}{t t':TI}(h:PI X g e t)(m:∀{σ H R},t' σ H R->t σ H R):PI X g e t':=λpins s σ H R I w=>h pins s σ H R I (m w)
theorem gP{es:List Expr}{t t':TT}(h:Sz X es t)(m:∀{σ H Q},t' σ H Q->t σ H Q):Sz X es t':=λpins s σ H Q I w=>h pins s σ H Q I (m w)
theorem Av{e:Expr}{es:List Expr}{a:AD}{as:List AD}(ha:PE X e (sQ K a))(hr:PA X es (JQ (as.map (sQ K))))(hs:starEach (e :: es) X.env=(false,eval e X.env) :: starEach es X.env:=by exact uQ rfl):PA X (e :: es) (JQ ((a :: as).map (sQ K))):=TJ ha hr hs
variable {e:Expr}{a b c:AD}{as:List AD}{td te:TD}{tc td':AY}
theorem sE{i:Nat}(h:PE X e (eY i)):PE X e (lift K (Zw i)):=BY h gM
theorem Bv{v:V}{d:D}(hv:∀F,Da K F v d)(h:PE X e (tC v)):PE X e (lift K (dC d)):=BY h (SR hv)
theorem uL{r:R2}{f:D->D->(Sl->Prop)->Prop}(ok:SQ K (jK r) (o2 f))(h:PE X e (Cu r (sQ K a) (sQ K b))):PE X e (lift K (dY [a,b] (o2 f))):=BY h λq=>lH (LY ok q)
theorem nR{r:V->Hp->VK->Prop}{f:D->(Sl->Prop)->Prop}(ok:SQ K (XO r) (o1 f))(h:PE X e (LO r (sQ K a))):PE X e (lift K (dY [a] (o1 f))):=BY h λq=>sG (LY ok q)
theorem oR{f:List D->(Sl->Prop)->Prop}(ok:SQ K r f)(h:PE X e (CC r (JQ (as.map (sQ K))))):PE X e (lift K (dY as f)):=BY h λq=>LY ok q
theorem tE(hl:as.length<=1000)(h:PE X e (xC (JQ (as.map (sQ K))))):PE X e (lift K (yq as tj)):=BY h (tM hl)
theorem uE(hl:as.length<=1000)(h:PE X e (yC (JQ (as.map (sQ K))))):PE X e (lift K (yq as uj)):=BY h (uM hl)
theorem yj{p q:Int->Int->Bool}(h:PE X e (jG (HY λi j=>.bl (p i j)) (HY λi j=>.bl (q i j)) (sQ K a) (sQ K b) (sQ K c))):PE X e (lift K (zG p q a b c)):=BY h uv
theorem vE(h:PE X e (cz (lift K td) (lift K te))):PE X e (lift K (cj td te)):=BY h YC
theorem wE(h:PE X e (dz (lift K td))):PE X e (lift K (dj td)):=BY h ZC
theorem yM{con:Con}{E:XK}(h:PE X e (zV (pQ K con) [] E (JQ (as.map (sQ K))))):PE X e (lift K (oj con as)):=BY h lE
theorem xE{con:Con}{E:XK}{i:Nat}(h:PE X e (zV (pQ K con) [] E (JQ ((Sum.inl i :: as).map (sQ K))))):PE X e (lift K (tU con i as)):=BY h mv
theorem iP{i:Nat}{r:V->List V->Hp->VK->Prop}{f:List D->List D->(D->D->Prop)->Prop}(ok:vM K r f)(h:PE X e (iR K "list" r (eY i) (JQ (as.map (sQ K))))):PE X e (lift K (OF i as f)):=BY h λq=>by obtain⟨a,xs,e1,sq,w⟩:=oE ok q;exact ⟨_,e1,.inl ⟨rfl,xs,sq⟩,w⟩
theorem pR{r:R2}{f:D->D->(Sl->Prop)->Prop}(ok:SQ K (jK r) (o2 f))(h:PT X e (Dz (Cu r (sQ K a) (sQ K b)))):PT X e (EQ K (mq (dY [a,b] (o2 f)))):=fP h λq=>Ju (λz=>lH (LY ok z)) q
theorem yE(h:PT X e (tB (lift K td))):PT X e (EQ K (mq td)):=fP h λq=>Ju (λz=>z) q
theorem zE(h:PT X e (ZB (EQ K tc))):PT X e (EQ K (WC tc)):=fP h iM
theorem AE(h:PW X e (YB (EQ K tc) (EQ K td'))):PW X e (EQ K (XC tc td')):=lR h jM
theorem zM(h:PW X e (DO (EQ K tc) (EQ K td'))):PW X e (EQ K (SO tc td')):=lR h UO
variable {st:Stmt}{sts:List Stmt}{t u:VJ}
theorem Cv(h:PSs X sts iz):PSs X sts (vQ K fj):=xM h cE
theorem BE(h:PSs X sts (jC (vQ K t) (vQ K u))):PSs X sts (vQ K (av t u)):=xM h lM
theorem EE(h:PS X st (nz (lift K td))):PS X st (vQ K (aE td)):=Aq h mM
theorem Dv{i:Nat}(h:PS X st (nz (eY i))):PS X st (vQ K (KF i)):=Aq h eE
theorem Fv{i j:Nat}(h:PS X st (fY (eY j) (sJ i))):PS X st (vQ K (LF i j)):=Aq h fE
theorem Gv(h:PS X st (mz (lift K td))):PS X st (vQ K (gj td)):=Aq h dE
theorem AM(h:PS X st (kC (EQ K tc) (vQ K t) (vQ K u))):PS X st (vQ K (bE tc t u)):=Aq h nM
theorem FE{i:Nat}(h:PS X st (fY (lift K td) (sJ i))):PS X st (vQ K (ij i td)):=Aq h Ku
theorem BM{j:Nat}(h:PS X st (fY (lift K td) (oC (eY j) (sQ K a) FV))):PS X st (vQ K (AG j a td)):=Aq h zv
theorem zj(h:PS X st (eG (EQ K tc) (vQ K t))):PS X st (vQ K (uG tc t)):=Aq h bv
noncomputable def Aj(g:rJ)(a:TD):VJ:=λE ρ=>a ρ λr ρ'=>g r.d ρ' E.nx
theorem GE{g:rJ}{E:Ends}{σ:L2.St}(h:vQ K (Aj g td) E σ H):fY (lift K td) (gX K g) E σ H:=by obtain⟨G,F,ρ,D,R,w,n,r,b,c⟩:=h;refine ⟨G,F,ρ,_,R,w,λv H' F' x ρ' s R' r' q=>?_⟩;obtain⟨F2,s2,R2,d2⟩:=r'.frz R';exact ⟨G,F2,ρ',x.d,_,R2,d2,q,λσ3 ρ3 R3 w3=>n σ3 H' F2 ρ3 (s.trans s2) R3 w3⟩
theorem Hv{g:rJ}(h:PS X st (fY (lift K td) (gX K g))):PS X st (vQ K (Aj g td)):=Aq h GE
theorem Iv{i:Nat}(h:PG X e (sJ i)):PG X e (gX K (iE i)):=mR h VO
theorem HE{gs:List rJ}(h:PG X e (Fw K n (jV (gs.map (gX K)))))(hn:gs.length=n:=by rfl):PG X e (gX K (dO gs)):=mR h (WO hn)
theorem Bj{es:List Expr}{g:rJ}{gs:List rJ}(h1:PG X e (gX K g))(h2:zu X es (jV (gs.map (gX K))))(hs:(assignEach (e :: es) X.env).map (·.2)=assign e X.env :: (assignEach es X.env).map (·.2):=by rfl):zu X (e :: es) (jV ((g :: gs).map (gX K))):=qz h1 h2 hs
theorem Jv:Sz X [] (EQ K oq):=gP QC kM
theorem Kv{l:Expr}{tl:TE}(hK:X.K=K)(hl:PE X l tl):PI X tg l (wM K tl):=by
 subst hK;intro pins s σ H R I h;refine hX (hl pins s σ H _ I h) λv s1 ⟨x,H1,I1,r1,q1⟩=>?_;obtain⟨a,e,q1⟩:=q1;subst e;cases r1;rcases q1 with⟨⟨xs,hq⟩,q⟩|⟨⟨xs,hq⟩,q⟩
 ·obtain⟨its,rv,p,hz⟩:=I1.list hq;refine wpAny_pyIter_list p.isList ?_;refine ⟨s1.heap.objs.size,[s1.heap.objs.size],_,_,H1,rfl,I1.kept (t':=s1.toks) λb o e=>g0 _ e,XD a _,⟨_,L0 _ rfl,rfl,rfl⟩,λb hb=>?_,q⟩;have e:b=s1.heap.objs.size:=by simpa using hb
  subst e;exact I1.fpOk (u0 _) (I1.hok.fresh (u0 _))
 ·obtain⟨its,rv,p,hz⟩:=I1.tuple hq;refine wpAny_pyIter_tuple (show s1.heap.IsTuple a its.toArray from p) ?_;refine ⟨s1.heap.objs.size,[s1.heap.objs.size],_,_,H1,rfl,I1.kept (t':=s1.toks) λb o e=>g0 _ e,fG a _,⟨_,L0 _ rfl,rfl,rfl⟩,λb hb=>?_,q⟩;have e:b=s1.heap.objs.size:=by simpa using hb
  subst e;exact I1.fpOk (u0 _) (I1.hok.fresh (u0 _))
theorem IE{l:Expr}(hK:X.K=K)(hl:PE X l (lift K td)):PI X tg l (PX K (vj td)):=iO (Kv hK hl) pE
theorem Lv{l:Expr}(h:PI X tg l (xz (JQ ([a].map (sQ K))))):PI X tg l (PX K (CG a)):=iO h qE
theorem Mv{l:Expr}(h:PI X tg l (HF K (JQ ([a,b].map (sQ K))))):PI X tg l (PX K (DG a b)):=iO h rE
def CM(_ j:Int):Prop:=0 < j
theorem op_catB:OpR X (binaryOp .Add) sj:=by
 intro pins s σ H x y v u Q I rx ry h;obtain⟨a,b,xs,ys,rfl,rfl,ha,hb,hz,q1,q2,q3⟩:=h;have ha':SqT X.K H a xs:=SqT.of ha;have hb':SqT X.K H b ys:=SqT.of hb;by_cases hx:xs=[]
 ·subst hx;cases rx;cases ry;obtain⟨its,r1,p1,_⟩:=I.tuple ha';obtain⟨its2,r2,p2,_⟩:=I.tuple hb';cases r1;exact Yz p1 p2 ⟨.ref b,H,I,rfl,q1 rfl⟩
 ·exact Lw pins s σ H (.ref a) (.ref b) v u Q I rx ry ⟨a,b,xs,ys,rfl,rfl,ha',hb',hx,hz,λe=>q2 hx e,λe p hp=>q3 hx e p hp⟩
theorem jQ:OpR X (binaryOp .Add) (rAny (HY λi j=>.int (i+j)) (rAny sj IC)):=op_add.or (op_catB.or JC)
theorem FZ:OpR X (binaryOp .Mult) (rAny (rI CMul λi j=>.int (i * j)) KC):=op_mul.or LC
theorem RX:SQ K (jK (HY λi j=>.int (i - j))) (o2 (nv λi j=>.int (i - j))):=rH λ_ _ _=>.int _
theorem yU:SQ K (jK (rI vC λi j=>.int (i / j))) (o2 (fI vC λi j=>.int (i / j))):=qv λ_ _ _=>.int _
theorem rK:SQ K (jK (rI (λ_ j=>0 < j) λi j=>.int (i % j))) (o2 (fI CM λi j=>.int (i % j))):=qv (C:=CM) λ_ _ _=>.int _
theorem Cj:SQ K (jK (rI iG λi j=>.int (i ^ j.toNat))) (o2 (fI iG λi j=>.int (i ^ j.toNat))):=qv λ_ _ _=>.int _
theorem Dj:SQ K (jK (rI iG λi j=>.int (i * 2 ^ j.toNat))) (o2 (fI iG λi j=>.int (i * 2 ^ j.toNat))):=qv λ_ _ _=>.int _
theorem Nu:SQ K (jK (HY λi j=>.bl (decide (i < j)))) (o2 (nv λi j=>.bool (decide (i < j)))):=rH λ_ _ _=>.bl _
theorem DM:SQ K (jK (HY λi j=>.bl (decide (i<=j)))) (o2 (nv λi j=>.bool (decide (i<=j)))):=rH λ_ _ _=>.bl _
theorem LV:SQ K (jK (HY λi j=>.bl (decide (j < i)))) (o2 (nv λi j=>.bool (decide (j < i)))):=rH λ_ _ _=>.bl _
theorem EM:SQ K (jK (HY λi j=>.bl (decide (j<=i)))) (o2 (nv λi j=>.bool (decide (j<=i)))):=rH λ_ _ _=>.bl _
theorem Nv(hK:X.K=K):IxR X (rAny (Mw K) (Nw K)):=(Wz hK).or (Vw hK)
end
mutual
noncomputable def IQ:D->Bool
 | .none=>true
 | .bool _=>true
 | .int _=>true
 | .str _=>true
 | .list xs=>plainAll xs
 | .tuple xs=>plainAll xs
 | .dict _=>false
noncomputable def plainAll:List D->Bool
 | []=>true
 | x :: xs=>IQ x&&plainAll xs
end
section
variable {K:Fg}{F:Hp}
mutual
theorem Da.is(s:Sub F H):∀{v:V}{d:D},Da K F v d->IQ d=true->Is K H v d
 | _,_,.non,_=>.non
 | _,_,.bl b,_=>.bl b
 | _,_,.int i,_=>.int i
 | _,_,.str x,_=>.str x
 | _,_,.lst e t,z=>.lst (SqL.of (s _ _ e)) (DaAll.is s t (by simpa [IQ]using z))
 | _,_,.tup e t,z=>.tup (SqT.of (s _ _ e)) (DaAll.is s t (by simpa [IQ]using z))
 | _,_,.dk _ _,z=>by simp[IQ]at z
 | _,_,.dt _ _,z=>by simp[IQ]at z
 | _,_,.scr _,z=>by simp[IQ,bJ]at z
 | _,_,.exc _,z=>by simp[IQ,eM]at z
 | _,_,.opq _,z=>by simp[IQ,fM]at z
 | _,_,.pd _ _,z=>by simp[IQ,qU]at z
 | _,_,.bd _ _,z=>by simp[IQ,iK]at z
theorem DaAll.is(s:Sub F H):∀{xs:List V}{ds:List D},DaAll K F xs ds->plainAll ds=true->IsAll K H xs ds
 | _,_,.nil,_=>.nil
 | _,_,.cons a t,z=>by simp[plainAll]at z;exact .cons (Da.is s a z.1) (DaAll.is s t z.2)
end
theorem At.is{v:V}{d:D}(s:Sub F H)(h:At K F H v d)(p:IQ d=true):Is K H v d:=by
 rcases h with h|⟨a,o,rfl,_,e,h⟩
 ·exact h.is s p
 ·cases o<;>cases d<;>first|exact h.elim|(simp[IQ]at p)|skip
  ·rename_i xs ds;exact .lst (SqL.of e) (DaAll.is s h (by simpa [IQ]using p))
end
def Pv(x y:D)(Q:Sl->Prop):Prop:=IQ x=true/\IQ y=true/\SeqAt.shaped x=true/\SeqAt.shaped y=true/\SeqAt.noMix x y=true/\Q (.fz (.bool (same x y)))
def Rv(x y:D)(Q:Sl->Prop):Prop:=IQ x=true/\IQ y=true/\SeqAt.shaped x=true/\SeqAt.shaped y=true/\SeqAt.noMix x y=true/\Q (.fz (.bool (!same x y)))
noncomputable def qR:D->D->(Sl->Prop)->Prop
 | .int i,.int j,Q=>Q (.fz (.bool (decide (i=j))))
 | .list xs,y,Q=>Pv (.list xs) y Q
 | .tuple xs,y,Q=>Pv (.tuple xs) y Q
 | .str x,.str y,Q=>Q (.fz (.bool (decide (x=y))))
 | x,y,Q=>Pv x y Q
noncomputable def rR:D->D->(Sl->Prop)->Prop
 | .int i,.int j,Q=>Q (.fz (.bool (!decide (i=j))))
 | .list xs,y,Q=>Rv (.list xs) y Q
 | .tuple xs,y,Q=>Rv (.tuple xs) y Q
 | .str x,.str y,Q=>Q (.fz (.bool (!decide (x=y))))
 | x,y,Q=>Rv x y Q
theorem DJ{K:Fg}:SQ K (jK (rAny aO (iV K false))) (o2 qR):=VU λG F σ H ρ x y d e Q Qd R h1 h2 w k=>by
 have gen:Pv d e Qd->rAny aO (iV K false) x y H Q:=λ⟨p1,p2,p3,p4,p5,w⟩=>.inr ⟨d,e,h1.is R.sub p1,h2.is R.sub p2,p3,p4,p5,k _ H F (.fz _) (Sub.refl _) R (Da.bl _) w⟩;unfold qR at w;split at w
 ·rename_i i j;cases h1.int;cases h2.int;refine .inl ⟨rfl,k _ H F (.fz _) (Sub.refl _) R (Da.bl _) ?_⟩;have e:decide (V.int i=V.int j)=decide (i=j):=by rw[NY,A6]
  rw[e];exact w
 ·exact gen w
 ·exact gen w
 ·rename_i i j;cases h1.str;cases h2.str;refine .inl ⟨rfl,k _ H F (.fz _) (Sub.refl _) R (Da.bl _) ?_⟩;have e:decide (V.str i=V.str j)=decide (i=j):=by rw[OY,A6]
  rw[e];exact w
 ·exact gen w
theorem PF{K:Fg}:SQ K (jK (rAny bO (iV K true))) (o2 rR):=VU λG F σ H ρ x y d e Q Qd R h1 h2 w k=>by
 have gen:Rv d e Qd->rAny bO (iV K true) x y H Q:=λ⟨p1,p2,p3,p4,p5,w⟩=>.inr ⟨d,e,h1.is R.sub p1,h2.is R.sub p2,p3,p4,p5,k _ H F (.fz _) (Sub.refl _) R (Da.bl _) w⟩;unfold rR at w;split at w
 ·rename_i i j;cases h1.int;cases h2.int;refine .inl ⟨rfl,k _ H F (.fz _) (Sub.refl _) R (Da.bl _) ?_⟩;have e:decide (V.int i=V.int j)=decide (i=j):=by rw[NY,A6]
  rw[e];exact w
 ·exact gen w
 ·exact gen w
 ·rename_i i j;cases h1.str;cases h2.str;refine .inl ⟨rfl,k _ H F (.fz _) (Sub.refl _) R (Da.bl _) ?_⟩;have e:decide (V.str i=V.str j)=decide (i=j):=by rw[OY,A6]
  rw[e];exact w
 ·exact gen w
theorem wZ{K:Fg}(hK:X.K=K)(hu:X.A.units+64 < cLine):OpR X (compareOp .Eq) (rAny aO (iV K false)):=op_eq.or (Ww hK hu)
theorem zU{K:Fg}(hK:X.K=K)(hu:X.A.units+64 < cLine):OpR X (compareOp .NotEq) (rAny bO (iV K true)):=op_ne.or (Xw hK hu)
section
variable {K:Fg}
theorem VR{x:Str}{st:Stmt}{ps:List Str}{k:Nat}{con:Con}{ts:VJ}(F:Fun K x qual st f fd)(S:FnScope N ps (mQ st))(hb:∀(cdv:Value) (A:Around) (outer:List Env) (s:Shared) (H:Hp) (E:XK),Room k (A.deeper (envOfC qual (mQ st) s.heap.objs.size f cdv))->PSs (IY iZ P w K mg base N qual (mQ st) f cdv A outer s H E).nox (NX st) (vQ K ts))(hl:∀args Qd,con args Qd->args.length=ps.length) (hc:∀args Qd,con args Qd->(∀s∈args,∀d,s≠.ow d)/\ts (vU args Qd) (nY N.length args)):FnOk P w K mg base iZ (k+1) f fd ps (pQ K con):=by
 refine F.ok S (λvs H Q E h=>?_) (λcdv A outer s H vs Q E hr h=>⟨_,hb cdv A outer s H E hr,Lu hc h⟩);obtain⟨G,F',args,Qd,R,w',_⟩:=h;have h1:=hl args Qd w';have h2:=R.len;rw[j0,j0]at h2;rw[h2,h1]
end
noncomputable def FM:List Sl->Bool
 | []=>true
 | .ow _ :: _=>false
 | _ :: as=>FM as
theorem yQ:∀{as:List Sl},FM as=true->∀s∈as,∀d,s≠.ow d
 | .fz _ :: as,h,s,hs,d,z=>by
  rcases W0.mp hs with e|e
  ·subst e;cases z
  ·exact yQ (as:=as) h s e d z
 | .io _ :: as,h,s,hs,d,z=>by
  rcases W0.mp hs with e|e
  ·subst e;cases z
  ·exact yQ (as:=as) h s e d z
def GM(K:Fg):List V->Hp->VK->Prop:=λxs H Q=>∃(a:Addr) (ns:List Int),xs=[.ref a]/\(SqL K H a (ns.map V.int)\/SqT K H a (ns.map V.int))/\Q (.int ns.sum) H
theorem MV{K:Fg}(hK:X.K=K)(hc:X.calm=true):dX X (.builtin "sum") (GM K):=by
 subst hK;intro pins s σ H xs us Q I r h;obtain⟨a,ns,rfl,hq,q⟩:=h;obtain⟨u,rfl,ru⟩:=qZ r;cases ru;have hh:=I.ok.hd hc;rcases hq with hq|hq
 ·obtain⟨its,rv,p,hz⟩:=I.list hq;have hi:IntsAre its ns:=eX rv;obtain⟨zs,hx⟩:=hi.allInts.items;have hl':s.heap.IsList a (intItems zs):=hx ▸ p.isList;refine sum_intListG hh hl' λh' tk t' hk=>?_;have e1:ns=zs.toList.map (·.1):=by
   rw[<- nums_intItems,<- hx];exact (show numsOf its.toArray.toList=ns from hi.numsOf).symm
  have e2:preSum (numAt zs) zs.size=ns.sum:=by rw[preSum_eq,W1 (by simp),e1]
  rw[e2];exact ⟨.int ns.sum,H,I.kept hk,⟨t',rfl⟩,q⟩
 ·obtain⟨its,rv,p,hz⟩:=I.tuple hq;have hi:IntsAre its ns:=eX rv;obtain⟨zs,hx⟩:=hi.allInts.items;have hl':s.heap.IsTuple a (intItems zs):=hx ▸ p;refine PySem.W.ktm_sumG hh hl' λh' tk t' hk=>?_;have e1:ns=zs.toList.map (·.1):=by
   rw[<- nums_intItems,<- hx];exact (show numsOf its.toArray.toList=ns from hi.numsOf).symm
  have e2:preSum (numAt zs) zs.size=ns.sum:=by rw[preSum_eq,W1 (by simp),e1]
  rw[e2];exact ⟨.int ns.sum,H,I.kept hk,⟨t',rfl⟩,q⟩
noncomputable def jP:D->(Sl->Prop)->Prop
 | .list ds,Q=>∃ns:List Int,ds=ns.map i0/\Q (.fz (.int ns.sum))
 | .tuple ds,Q=>∃ns:List Int,ds=ns.map i0/\Q (.fz (.int ns.sum))
 | _,_=>False
theorem DaAll.intsV{K:Fg}{F:Hp}:∀{xs:List V}{ns:List Int},DaAll K F xs (ns.map i0)->xs=ns.map V.int
 | [],[],_=>rfl
 | x :: xs,b :: bs,.cons h t=>by cases h;simp[DaAll.intsV t]
theorem Ej{K:Fg}:SQ K (GM K) (o1 jP):=bG λG F σ H ρ x d Q Qd R h1 w k=>by
 match d,h1,w with
 | .list ds,h1,⟨ns,e,w⟩=>subst e;obtain⟨a,us,rfl,e1,d1⟩:=h1.list R.sub;have:=d1.intsV;subst this;exact ⟨a,ns,rfl,.inl (SqL.of e1),k _ H F (.fz _) (Sub.refl _) R (Da.int _) w⟩
 | .tuple ds,h1,⟨ns,e,w⟩=>subst e;obtain⟨a,us,rfl,_,e1,d1⟩:=h1.tuple R.sub;have:=d1.intsV;subst this;exact ⟨a,ns,rfl,.inr (SqT.of e1),k _ H F (.fz _) (Sub.refl _) R (Da.int _) w⟩
def Sv(i j:Int):Prop:=-(2 ^ 62)<=i/\i < 2 ^ 62/\-(2 ^ 62)<=j/\j < 2 ^ 62
def Bq:List V->Hp->VK->Prop:=λxs H Q=>∃i j:Int,(xs=[.int i,.int j]\/(xs=[.int j]/\i=0))/\∀p,H p=none->Q (.ref p) (UQ H p (.rng i j))
theorem tH:dX X (.type "range") Bq:=by
 intro pins s σ H xs us Q I r h;obtain⟨i,j,hx,q⟩:=h;have lay:∀(t u v:Tok) (tk:Nat),EP X pins σ Q (.ref s.heap.objs.size) { s with heap:=s.heap.push { cls:=.type "range",data:=.fields #[.int i t,.int j u,.int 1 v] },toks:=tk }:=λt u v tk=>⟨.ref s.heap.objs.size,_,I.laid (t':=tk) (o:=.rng i j) (λb o e=>g0 _ e) (u0 _) ⟨t,u,v,L0 _ rfl⟩,rfl,q _ (I.hok.fresh (u0 _))⟩;rcases hx with rfl|⟨rfl,rfl⟩
 ·obtain⟨u,w,rfl,ru,rw'⟩:=lK r;obtain⟨t,rfl⟩:=ru;obtain⟨t',rfl⟩:=rw';exact call_range_2 (lay _ _ _ _)
 ·obtain⟨u,rfl,ru⟩:=qZ r;obtain⟨t,rfl⟩:=ru;exact call_range_1 (lay _ _ _ _)
def YJ:List V->Hp->VK->Prop:=λxs H Q=>∃(p:Addr) (i j:Int),xs=[.ref p]/\H p=some (.rng i j)/\Sv i j/\(j - i).toNat<=2 ^ 24/\∀l,H l=none->Q (.ref l) (UQ H l (.lst ((N1 (j - i).toNat).map λ(n:Nat)=>V.int (i+n))))
theorem CY(hc:X.calm=true):dX X (.type "list") YJ:=by
 intro pins s σ H xs us Q I r h;obtain⟨p,i,j,rfl,hp,⟨b1,b2,b3,b4⟩,hz,q⟩:=h;obtain⟨u,rfl,ru⟩:=qZ r;cases ru;obtain⟨t,u,v,e⟩:=I.hok p _ hp;have hn:N8 i j 1=((j - i).toNat:Int):=by rw[rangeSize_one];split<;>omega
 refine call_list_range (I.ok.hd hc) e (small_one b1 b2 b3 b4) hn hz λh' tk acc' c' hk hS hacc=>?_;refine ⟨.ref s.heap.objs.size,_,I.laid (t':=tk) (o:=.lst ((N1 (j - i).toNat).map λ(n:Nat)=>V.int (i+n))) hk (u0 _) ?_,rfl,q _ (I.hok.fresh (u0 _))⟩;refine ⟨by rw[j0,E4];exact hz,acc'.toList,c',?_,by simpa using hS⟩;have gen:∀(n:Nat) (ys:List Value),ys.length=n->(∀(k:Nat) (y:Value),ys[k]?=some y->∃t,y=.int (i+k * 1) t)->Vals ((N1 n).map λ(n:Nat)=>V.int (i+n)) ys:=by
  intro n;induction n with
  | zero=>intro ys hl _;cases ys with|nil=>exact .nil|cons=>simp at hl
  | succ n ih =>
   intro ys hl hy;rcases List.eq_nil_or_concat ys with rfl|⟨zs,z,rfl⟩
   ·simp at hl
   ·rw[List.concat_eq_append]at hl hy ⊢;have hl':zs.length=n:=by simpa using hl
    rw[List.range_succ,v5];refine Vals.append (ih zs hl' λk y e=>hy k y (by rw[P2 (uX e)];exact e)) ?_;obtain⟨t,rfl⟩:=hy n z (by rw[<- hl'];simp);exact .cons ⟨t,by simp⟩ .nil
 refine gen _ _ (by rw[S0];exact hacc.1) λk y e=>?_;exact hacc.2 k y (by simpa using e)
noncomputable def HM:D->D->(Sl->Prop)->Prop
 | .int i,.int j,Q=>Sv i j/\(j - i).toNat<=2 ^ 24/\Q (.ow (.list (CQ i (j - i).toNat)))
 | _,_,_=>False
theorem IM{K:Fg}:SQ K (λvs H Q=>Bq vs H λv H1=>YJ [v] H1 Q) (o2 HM):=by
 intro G F σ H ρ vs ds Q Qd R a w k;match ds,a,w with
 | [d,e],a,w =>
  obtain⟨v,u,rfl,h1,h2⟩:=a.two;have w:HM d e Qd:=w;unfold HM at w;split at w
  rotate_left
  ·exact w.elim
  rename_i i j w;cases h1.int;cases h2.int;refine ⟨i,j,.inl rfl,λp hp=>⟨p,i,j,rfl,AQ,w.1,w.2.1,λl hl=>?_⟩⟩;have R1:Rel K G F σ (UQ H p (.rng i j)) ρ:=R.laid hp;have da:DaAll K F ((N1 (j - i).toNat).map λ(n:Nat)=>V.int (i+n)) (CQ i (j - i).toNat):=by have:=DaAll.ints (K:=K) (F:=F) ((N1 (j - i).toNat).map λ(n:Nat)=>i+(n:Int));simpa [CQ,P0,Function.comp_def]using this
  obtain⟨R',r'⟩:=R1.newOw (o:=.lst _) (d:=.list (CQ i (j - i).toNat)) hl da;exact k _ _ F _ (Sub.refl _) R' r' w.2.2
section
variable {K:Fg}{e:Expr}{a b:AD}
theorem JM(h:PE X e (CC YJ (bH (CC Bq (JQ ([a,b].map (sQ K)))) Fz))):PE X e (lift K (dY [a,b] (o2 HM))):=BY h λq=>LY IM q
end
noncomputable def clean1(ρ:Ev)(i:Nat):Ev:=match ρ[i]? with
 | some (some (.io _))=>ρ
 | some _=>ρ.set i none
 | none=>ρ
noncomputable def clean(ks:List Nat)(ρ:Ev):Ev:=match ks with
 | []=>ρ
 | i :: r=>clean r (clean1 ρ i)
section
variable {K:Fg}{G:Gh}{F:Hp}{σ:L2.St}{ρ:Ev}
theorem Rel.drop(R:Rel K G F σ H ρ){i:Nat}(hn:∀d,ρ[i]?≠some (some (Sl.io d))):Rel K G F σ H (ρ.set i none):=by
 refine ⟨by rw[o4];exact R.len,R.sub,R.sub0,R.fn,R.keep,R.tb,λj d e=>?_,λj t e wt=>?_,λj d b e eb=>?_,λj b e=>?_,λj d e=>?_,λj k t u b e1 w1 e2 w2 e3 e4=>?_⟩
 ·rcases wQ e with⟨rfl,z⟩|⟨n,z⟩
  ·cases z
  ·exact R.fz j d z
 ·rcases wQ e with⟨rfl,z⟩|⟨n,z⟩
  ·cases z
  ·exact R.ow j t z wt
 ·rcases wQ e with⟨rfl,z⟩|⟨n,z⟩
  ·cases z
  ·exact R.new j d b z eb
 ·obtain⟨d',e1,e2⟩:=R.io j b e;have n:i≠j:=λz=>by subst z;exact hn _ e1
  exact ⟨d',by rw[G1 n];exact e1,e2⟩
 ·rcases wQ e with⟨rfl,z⟩|⟨n,z⟩
  ·cases z
  ·exact R.ioi j d z
 ·rcases wQ e1 with⟨rfl,z⟩|⟨n,z⟩
  ·cases z
  ·rcases wQ e2 with⟨rfl,z'⟩|⟨n',z'⟩
   ·cases z'
   ·exact R.ap j k t u b z w1 z' w2 e3 e4
theorem Rel.clean1(R:Rel K G F σ H ρ)(i:Nat):Rel K G F σ H (clean1 ρ i):=by
 unfold L3.clean1;split
 ·exact R
 ·rename_i e1 e2;exact R.drop λd z=>by rw[e2]at z;cases z;exact e1 _ rfl
 ·exact R
theorem Rel.clean(ks:List Nat):∀{ρ:Ev},Rel K G F σ H ρ->Rel K G F σ H (clean ks ρ):=by
 induction ks with
 | nil=>intro ρ R;exact R
 | cons i r ih=>intro ρ R;exact ih (R.clean1 i)
end
noncomputable def xZ(ks:List Nat)(g:rJ)(tb:VJ)(E:DE):List D->Ev->Prop
 | [],ρ=>E.nx ρ
 | d :: ds,ρ=>g d ρ λρ'=>tb { nx:=λρ2=>xZ ks g tb E ds (clean ks ρ2),rt:=E.rt,bk:=λρ2=>E.nx (clean ks ρ2),ct:=λρ2=>xZ ks g tb E ds (clean ks ρ2) } ρ'
noncomputable def QF(ks:List Nat)(ti:tG)(g:rJ)(tb:VJ):VJ:=λE ρ=>ti ρ λds ρ'=>xZ ks g tb E ds (clean ks ρ')
theorem JE{K:Fg}{ks:List Nat}{ti:tG}{g:rJ}{tb:VJ}{E:Ends}{σ:L2.St}(h:vQ K (QF ks ti g tb) E σ H):rC (PX K ti) (gX K g) (vQ K tb) E σ H:=by
 obtain⟨G,F,ρ,D,R,w,n,r,b,c⟩:=h;refine ⟨G,F,ρ,_,R,w,λJ H1 F1 ds ρ1 s1 R1 wk w1=>?_⟩;refine ⟨λi m σ H=>m=ds.length - i/\i<=ds.length/\∃F' ρ',Sub F1 F'/\Rel K G F' σ H ρ'/\xZ ks g tb D (ds.drop i) ρ',⟨ds.length,rfl,Q3 _,F1,_,Sub.refl _,R1.clean ks,w1⟩,?_⟩;rintro i m σ H ⟨rfl,hi,F',ρ',s',R',w'⟩;obtain⟨hgo,hst⟩:=wk i H F' s' R'.sub;cases e:ds[i]? with
 | none=>have hl:ds.length<=i:=v4.mp e;refine .inl ⟨hst (by omega),?_⟩;rw[V3 hl]at w';exact n σ H F' ρ' (s1.trans s') R' w'
 | some d =>
  obtain⟨go,yl⟩:=hgo d e;have hl:=uX e;rw[mH e]at w';refine .inr ⟨go,λσ2 H2=>∃F2 ρ2,Sub F1 F2/\Rel K G F2 σ2 H2 ρ2/\xZ ks g tb D (ds.drop (i+1)) ρ2,λσ2 H2 ⟨F2,ρ2,z1,z2,z3⟩=>⟨ds.length - (i+1),by omega,rfl,hl,F2,ρ2,z1,z2,z3⟩,λx H2 y=>?_⟩;obtain⟨F2,t1,t2,t3,t4,t5⟩:=yl x H2 y;have R2:=R'.turn t1 t2 t3 t4;refine ⟨G,F2,ρ',d,_,R2,t5,w',λσ3 ρ3 R3 w3=>?_⟩;refine ⟨G,F2,ρ3,_,R3,w3,λσ4 H4 F4 ρ4 s4 R4 q=>?_,λv σ4 H4 F4 x4 ρ4 s4 R4 r4 q=>?_,λσ4 H4 F4 ρ4 s4 R4 q=>?_,λσ4 H4 F4 ρ4 s4 R4 q=>?_⟩
  ·exact ⟨F4,_,s'.trans (t1.trans s4),R4.clean ks,q⟩
  ·exact r v σ4 H4 F4 x4 ρ4 (s1.trans (s'.trans (t1.trans s4))) R4 r4 q
  ·exact n σ4 H4 F4 _ (s1.trans (s'.trans (t1.trans s4))) (R4.clean ks) q
  ·exact ⟨F4,_,s'.trans (t1.trans s4),R4.clean ks,q⟩
theorem Tv{K:Fg}{st:Stmt}{t:VJ}(ks:List Nat){ti:tG}{g:rJ}(h:PS X st (rC (PX K ti) (gX K g) (vQ K t))):PS X st (vQ K (QF ks ti g t)):=Aq h JE
theorem zX{ks:List Nat}{g:rJ}{tb:VJ}{E:DE}(J:List D->Ev->Prop)(hs:∀d ds ρ,J (d :: ds) ρ->∀N:Ev->Prop,(∀ρ2,J ds ρ2->N ρ2)->g d ρ λρ'=>tb { nx:=λρ2=>N (clean ks ρ2),rt:=E.rt,bk:=λρ2=>E.nx (clean ks ρ2),ct:=λρ2=>N (clean ks ρ2) } ρ')(hd:∀ρ,J [] ρ->E.nx ρ):∀{ds:List D}{ρ:Ev},J ds ρ->xZ ks g tb E ds ρ
 | [],ρ,h=>hd ρ h
 | d :: ds,ρ,h=>hs d ds ρ h _ λρ2 h2=>zX J hs hd h2
noncomputable def sZ(n:Nat)(g:rJ)(tc:AY)(te:TD):List D->List D->Ev->(List D->Ev->Prop)->Prop
 | [],acc,τ,Q=>Q acc τ
 | d :: ds,acc,τ,Q=>g d τ λτ1=>tc τ1 λb τ2=>if b=true then te τ2 λr τ3=>sZ n g tc te ds (acc++[r.d]) (clean (N1 n) τ3) Q else sZ n g tc te ds acc (clean (N1 n) τ2) Q
def yW(ti:tG)(own:List Str)(fr:List Nat)(g:rJ)(tc:AY)(te:TD):TD:=λρ Q=>ti ρ λds ρ1=>ds.length<=sizeLine/\sZ own.length g tc te ds [] (sW own fr ρ1) λys τ=>Q (.ow (.list ys)) (mY fr (τ.drop own.length) 0 ρ1)
theorem RF{K:Fg}{ti:tG}{own:List Str}{g:rJ}{tc:AY}{te:TD}(nd:fr.Nodup){σ:L2.St}{H:Hp}{Q:VK}(h:lift K (yW ti own fr g tc te) σ H Q):rW (PX K ti) own fr (gX K g) (EQ K tc) (lift K te) σ H Q:=by
 obtain⟨G,F,ρ,Qd,R,w,k⟩:=h;refine ⟨G,F,ρ,_,R,w,λJ H1 F1 ds ρ1 s1 R1 wk ⟨hz,w1⟩=>?_⟩;have Ri:=R1.inner (own:=own) nd;refine ⟨λi m ys τ H=>m=ds.length - i/\i<=ds.length/\∃F' ρ' acc,Rel K (mw own fr F1 H1 σ ρ1) F' τ H ρ'/\DaAll K F' ys acc/\acc.length<=i/\sZ own.length g tc te (ds.drop i) acc ρ' (λys τ=>Qd (.ow (.list ys)) (mY fr (τ.drop own.length) 0 ρ1)),
   ⟨ds.length,rfl,Q3 _,F1,_,[],Ri,.nil,Q3 _,w1⟩,?_⟩;rintro i m ys τ H' ⟨rfl,hi,F',ρ',acc,R',da,hl,w'⟩;obtain⟨hgo,hst⟩:=wk i H' F' R'.sub0 R'.sub;cases e:ds[i]? with
 | none=>have hl':ds.length<=i:=v4.mp e;refine .inl ⟨hst (by omega),λDd hD=>?_⟩;rw[V3 hl']at w';have Ro:=R1.outer R' nd;obtain⟨Rn,rn⟩:=Ro.newOw (o:=.lst ys) (d:=.list acc) hD da;exact k _ _ F' _ _ (s1.trans R'.sub0) Rn rn w'
 | some d =>
  obtain⟨go,yl⟩:=hgo d e;have hlt:=uX e;rw[mH e]at w';refine .inr ⟨go,by rw[da.length];omega,λys2 τ2 H2=>∃F2 ρ2 acc2,Rel K (mw own fr F1 H1 σ ρ1) F2 τ2 H2 ρ2/\DaAll K F2 ys2 acc2/\acc2.length<=i+1/\sZ own.length g tc te (ds.drop (i+1)) acc2 ρ2 (λys τ=>Qd (.ow (.list ys)) (mY fr (τ.drop own.length) 0 ρ1)),
    λys2 τ2 H2 ⟨F2,ρ2,acc2,z1,z2,z3,z4⟩=>⟨ds.length - (i+1),by omega,rfl,hlt,F2,ρ2,acc2,z1,z2,z3,z4⟩,λx H2 y=>?_⟩;obtain⟨F2,t1,t2,t3,t4,t5⟩:=yl x H2 y;have R2:=R'.turn t1 t2 t3 t4;refine ⟨_,F2,ρ',d,_,R2,t5,w',λτ3 ρ3 R3 w3=>?_⟩;refine ⟨_,F2,ρ3,_,R3,w3,λb H4 F4 ρ4 s4 R4 w4=>?_⟩;cases b with
  | false=>exact ⟨F4,_,acc,R4.clean _,da.mono (t1.trans s4),by omega,w4⟩
  | true=>refine ⟨_,F4,ρ4,_,R4,w4,λv H5 F5 r ρ5 s5 R5 r5 w5=>?_⟩;obtain⟨F6,s6,R6,d6⟩:=r5.frz R5;exact ⟨F6,_,acc++[r.d],R6.clean _,(da.mono (t1.trans (s4.trans (s5.trans s6)))).append (.cons d6 .nil),by simp;omega,w5⟩
section
variable {K:Fg}{e:Expr}{st:Stmt}{ti:tG}{own:List Str}{g:rJ}{tc:AY}{te:TD}
theorem Fj(nd:fr.Nodup)(h:PE X e (rW (PX K ti) own fr (gX K g) (EQ K tc) (lift K te))):PE X e (lift K (yW ti own fr g tc te)):=BY h (RF nd)
theorem Gj{i:Nat}(nd:fr.Nodup)(h:PS X st (fY (rW (PX K ti) own fr (gX K g) (EQ K tc) (lift K te)) (sJ i))):PS X st (vQ K (ij i (yW ti own fr g tc te))):=Aq h λq=>RF nd (Ku q)
end
theorem Hj{g:rJ}{tc:AY}{te:TD}{Q:List D->Ev->Prop}(J:List D->List D->Ev->Prop)(hs:∀d ds acc τ,J (d :: ds) acc τ->∀N:List D->Ev->Prop,(∀acc2 τ2,J ds acc2 τ2->N acc2 τ2)->g d τ λτ1=>tc τ1 λb τ2=>if b=true then te τ2 λr τ3=>N (acc++[r.d]) (clean (N1 n) τ3) else N acc (clean (N1 n) τ2))(hd:∀acc τ,J [] acc τ->Q acc τ):∀{ds acc:List D}{τ:Ev},J ds acc τ->sZ n g tc te ds acc τ Q
 | [],acc,τ,h=>hd acc τ h
 | d :: ds,acc,τ,h=>hs d ds acc τ h _ λacc2 τ2 h2=>Hj J hs hd h2
theorem SF{g:rJ}{te:TD}{Q:List D->Ev->Prop}(J:List D->List D->Ev->Prop)(hs:∀d ds acc τ,J (d :: ds) acc τ->∀N:List D->Ev->Prop,(∀acc2 τ2,J ds acc2 τ2->N acc2 τ2)->g d τ λτ1=>te τ1 λr τ3=>N (acc++[r.d]) (clean (N1 n) τ3))(hd:∀acc τ,J [] acc τ->Q acc τ) {ds acc:List D}{τ:Ev} (h:J ds acc τ):sZ n g oq te ds acc τ Q:=
 Hj J (λd ds acc τ h N hN=>by
   have q:=hs d ds acc τ h N hN;have e:(λτ1=>te τ1 λr τ3=>N (acc++[r.d]) (clean (N1 n) τ3))=λτ1=>oq τ1 λb τ2=>if b=true then te τ2 (λr τ3=>N (acc++[r.d]) (clean (N1 n) τ3)) else N acc (clean (N1 n) τ2):=by funext τ1;show _=(if true=true then te τ1 (λr τ3=>N (acc++[r.d]) (clean (N1 n) τ3)) else N acc (clean (N1 n) τ1));rw[if_pos rfl]
   rw[<- e];exact q) hd h
theorem qJ{g:rJ}{te:TD}{Q:List D->Ev->Prop}(f:D->D){τ:Ev}{ds:List D}(hs:∀d∈ds,∀N:D->Ev->Prop,N (f d) τ->g d τ λτ1=>te τ1 λr τ3=>N r.d (clean (N1 n) τ3))(hd:Q (ds.map f) τ):sZ n g oq te ds [] τ Q:=by
 refine SF (λrest acc τ'=>τ'=τ/\∃pre,ds=pre++rest/\acc=pre.map f) ?_ ?_ ⟨rfl,[],rfl,rfl⟩
 ·rintro d ds' acc τ' ⟨rfl,pre,e,rfl⟩ N hN;exact hs d (by rw[e];simp) (λx τ3=>N (pre.map f++[x]) τ3) (hN _ _ ⟨rfl,pre++[d],by rw[e];simp,by simp⟩)
 ·rintro acc τ' ⟨rfl,pre,e,rfl⟩;rw[K2]at e;subst e;exact hd
theorem KM{g:rJ}{tc:AY}{te:TD}{Q:List D->Ev->Prop}(p:D->Bool)(f:D->D){τ:Ev}{ds:List D}(hs:∀d∈ds,∀(N:D->Ev->Prop) (M:Ev->Prop),(p d=true->N (f d) τ)->(p d=false->M τ)->g d τ λτ1=>tc τ1 λb τ2=>if b=true then te τ2 λr τ3=>N r.d (clean (N1 n) τ3) else M (clean (N1 n) τ2))(hd:Q ((ds.filter p).map f) τ):sZ n g tc te ds [] τ Q:=by
 refine Hj (λrest acc τ'=>τ'=τ/\∃pre,ds=pre++rest/\acc=(pre.filter p).map f) ?_ ?_ ⟨rfl,[],rfl,rfl⟩
 ·rintro d ds' acc τ' ⟨rfl,pre,e,rfl⟩ N hN;exact hs d (by rw[e];simp) (λx τ3=>N ((pre.filter p).map f++[x]) τ3) (λτ3=>N ((pre.filter p).map f) τ3) (λhp=>hN _ _ ⟨rfl,pre++[d],by rw[e];simp,by simp[hp]⟩)
   (λhp=>hN _ _ ⟨rfl,pre++[d],by rw[e];simp,by simp[hp]⟩)
 ·rintro acc τ' ⟨rfl,pre,e,rfl⟩;rw[K2]at e;subst e;exact hd
def Ou(K:Fg):List V->Hp->VK->Prop:=λxs H Q=>∃(x:V) (d:PyData),xs=[x]/\Is K H x d/\d.showable=true/\d.hasDict=false/\d.depth+1<=64/\d.shown.length<=sizeLine/\Q (.str d.shown) H
theorem FG{K:Fg}{k:Nat}(hK:X.K=K)(hr:Room k X.A):dX X (.builtin "repr") (Ou K):=by
 subst hK;intro pins s σ H xs us Q I r h;obtain⟨x,d,rfl,hd,hs,hn,hz,hl,q⟩:=h;obtain⟨u,rfl,ru⟩:=qZ r;obtain⟨as,ra⟩:=hd.reads I ru;have hu:=hr.units;cases hd with
 | non=>cases ru;exact PySem.P.repr_of_none ⟨.str _,H,I.tok _,⟨_,rfl⟩,q⟩
 | bl b=>cases ru;exact PySem.P.repr_of_bool ⟨.str _,H,I.tok _,⟨_,rfl⟩,by cases b<;>exact q⟩
 | int i=>obtain⟨t,rfl⟩:=ru;exact PySem.P.repr_of_int (by simpa [X8]using hs) ⟨.str _,H,I.tok _,⟨_,rfl⟩,q⟩
 | str x=>obtain⟨t,rfl⟩:=ru;exact PySem.P.repr_of_str ⟨.str _,H,I.tok _,⟨_,rfl⟩,q⟩ hl
 | lst _ _=>cases ru;exact repr_of_reads' ra hs (λz=>by rw[hn]at z;cases z) hr.gd (by omega) (λ_ _ e=>e) (λh' u tk hk=>⟨.str _,H,I.kept hk,⟨u,rfl⟩,q⟩) hl
 | tup _ _=>cases ru;exact repr_of_reads' ra hs (λz=>by rw[hn]at z;cases z) hr.gd (by omega) (λ_ _ e=>e) (λh' u tk hk=>⟨.str _,H,I.kept hk,⟨u,rfl⟩,q⟩) hl
mutual
theorem NK:∀{d:D},IQ d=true->d.hasDict=false
 | .none,_=>rfl
 | .bool _,_=>rfl
 | .int _,_=>rfl
 | .str _,_=>rfl
 | .list xs,h=>by have:=plainAll_noDict (xs:=xs) (by simpa [IQ]using h);simpa [PyData.hasDict]using this
 | .tuple xs,h=>by have:=plainAll_noDict (xs:=xs) (by simpa [IQ]using h);simpa [PyData.hasDict]using this
 | .dict _,h=>by simp[IQ]at h
theorem plainAll_noDict:∀{xs:List D},plainAll xs=true->Z9 xs=false
 | [],_=>rfl
 | x :: xs,h=>by simp[plainAll]at h;simp[Z9,NK h.1,plainAll_noDict h.2]
end
structure WE(X:Cx)(e:Expr)(t:TE):Prop where
 h:PE X e t
structure WA(X:Cx)(es:List Expr)(t:TA):Prop where
 h:PA X es t
structure WT(X:Cx)(e:Expr)(t:TT):Prop where
 h:PT X e t
structure WW(X:Cx)(e:Expr)(t:TT):Prop where
 h:PW X e t
structure WS(X:Cx)(s:Stmt)(t:TS):Prop where
 h:PS X s t
structure WSs(X:Cx)(s:List Stmt)(t:TS):Prop where
 h:PSs X s t
structure WG(X:Cx)(e:Expr)(t:TG):Prop where
 h:PG X e t
structure WGs(X:Cx)(es:List Expr)(t:lw):Prop where
 h:zu X es t
structure WI(X:Cx)(g e:Expr)(t:TI):Prop where
 h:PI X g e t
structure WIf(X:Cx)(es:List Expr)(t:TT):Prop where
 h:Sz X es t
section
variable {K:Fg}{e e1 e2 e3:Expr}{es:List Expr}{a b c:AD}{as:List AD}{td te tf:TD}{tc tc':AY}{st:Stmt}{sts:List Stmt}{t u:VJ}{p pos p2 apos cpos tpos:Pos}{x:Str}
theorem wn(i:Nat)(hN:X.N[i]?=some x:=by rfl)(hv:EL X.env.scope x:=by first|exact Or.inl rfl|exact Or.inr (Or.inl rfl)|exact Or.inr (Or.inr rfl))(hd:(x==("__debug__":Str))=false:=by decide)
  (hcd:(x==("__classdict__":Str))=false:=by decide):WE X (.Name x pos) (sQ K (.inl i)):=⟨az hN hv hd hcd⟩
theorem wv(i:Nat)(hN:X.N[i]?=some x:=by rfl)(hv:EL X.env.scope x:=by first|exact Or.inl rfl|exact Or.inr (Or.inl rfl)|exact Or.inr (Or.inr rfl))(hd:(x==("__debug__":Str))=false:=by decide)
  (hcd:(x==("__classdict__":Str))=false:=by decide):WE X (.Name x pos) (lift K (Zw i)):=⟨sE (az hN hv hd hcd)⟩
theorem wx(h:WE X e (lift K td)):WE X e (sQ K (.inr td)):=⟨h.h⟩
theorem fQ:WA X [] (JQ (([]:List AD).map (sQ K))):=⟨iW⟩
theorem eQ(ha:WE X e (sQ K a))(hr:WA X es (JQ (as.map (sQ K))))(hs:OQ e=true:=by rfl):WA X (e :: es) (JQ ((a :: as).map (sQ K))):=⟨Av ha.h hr.h (uQ hs)⟩
theorem gQ{i:Int}{k:Nat}:WE X (.Constant (.int i) k pos) (lift K (dC (.int i))):=⟨Bv (λ_=>.int _) bz⟩
theorem sK{b:Bool}{k:Nat}:WE X (.Constant (.bool b) k pos) (lift K (dC (.bool b))):=⟨Bv (λ_=>.bl _) FL⟩
theorem NV{k:Nat}:WE X (.Constant .none k pos) (lift K (dC .none)):=⟨Bv (λ_=>.non) VB⟩
theorem Pu{z:Str}{k:Nat}:WE X (.Constant (.str z) k pos) (lift K (dC (.str z))):=⟨Bv (λ_=>.str _) WB⟩
theorem w_bin{op:Operator}{r:R2}{f:D->D->(Sl->Prop)->Prop}(ok:SQ K (jK r) (o2 f))(ho:OpR X (binaryOp op) r)(ha:WE X e1 (sQ K a))(hb:WE X e2 (sQ K b)):WE X (.BinOp e1 op e2 pos) (lift K (dY [a,b] (o2 f))):=⟨uL ok (KL ho ha.h hb.h)⟩
theorem Ij(ha:WE X e1 (sQ K a)):WE X (.UnaryOp .USub e1 pos) (lift K (dY [a] (o1 sM))):=⟨nR nE (LL wC ha.h)⟩
theorem OK{op:CmpOp}{r:R2}{f:D->D->(Sl->Prop)->Prop}(ok:SQ K (jK r) (o2 f))(ho:OpR X (compareOp op) r)(ha:WE X e1 (sQ K a))(hb:WE X e2 (sQ K b))(hm:op≠.In:=by decide)(hm2:op≠.NotIn:=by decide):WE X (.Compare e1 [op] [e2] pos) (lift K (dY [a,b] (o2 f))):=⟨uL ok (Iw ho ha.h hb.h (Cz _ hm hm2))⟩
theorem Uv{op op':CmpOp}{p q:Int->Int->Bool}(ho:OpR X (compareOp op) (HY λi j=>.bl (p i j)))(ho':OpR X (compareOp op') (HY λi j=>.bl (q i j)))(ha:WE X e1 (sQ K a))(hb:WE X e2 (sQ K b))(hc:WE X e3 (sQ K c))
  (hm:lastMarks [op,op'] [e2,e3]=false:=by with_unfolding_all rfl):WE X (.Compare e1 [op,op'] [e2,e3] pos) (lift K (zG p q a b c)):=⟨yj (Ez ho ho' ha.h hb.h hc.h hm)⟩
theorem Qu{op:BoolOp}{tr:TE}(h:WE X e tr):WE X (.BoolOp op [e] pos) tr:=⟨eC h.h⟩
theorem Ru{rest:List Expr}(ha:WE X e1 (lift K td))(hb:WE X (.BoolOp .And (e2 :: rest) pos) (lift K te)):WE X (.BoolOp .And (e1 :: e2 :: rest) pos) (lift K (cj td te)):=⟨vE (gC ha.h hb.h)⟩
theorem w_not(ha:WE X e1 (lift K td)):WE X (.UnaryOp .Not e1 pos) (lift K (dj td)):=⟨wE (iC ha.h)⟩
theorem lX{k:Nat}{ps:List Str}{con:Con}(C:Cal X.prog X.w X.K X.mg X.base k x ps (pQ K con))(hr:Room k X.A)(ha:WA X (e :: es) (JQ (as.map (sQ K))))(hg:Gl X x:=by rfl)(hdb:(x==("__debug__":Str))=false:=by decide)
  (he:OQ e=true:=by rfl) (hpl:es.all OQ=true:=by rfl):WE X (.Call (.Name x p) (e :: es) [] pos) (lift K (oj con as)):=⟨yM (Iu C hr ha.h hg hdb (uQ he) (kX hpl))⟩
theorem GZ{k i:Nat}{ps:List Str}{con:Con}(C:Cal X.prog X.w X.K X.mg X.base k x ps (pQ K con))(hr:Room k X.A)(ha:WA X (e :: es) (JQ ((Sum.inl i :: as).map (sQ K))))(hg:Gl X x:=by rfl)(hdb:(x==("__debug__":Str))=false:=by decide)
  (he:OQ e=true:=by rfl) (hpl:es.all OQ=true:=by rfl):WE X (.Call (.Name x p) (e :: es) [] pos) (lift K (tU con i as)):=⟨xE (Iu C hr ha.h hg hdb (uQ he) (kX hpl))⟩
theorem xQ{id:String}{f:List D->(Sl->Prop)->Prop}(ok:SQ K r f)(hc:dX X (.builtin id) r)(hm:X.mg x=none)(hv:bootBuiltins x=some (.builtin id))(ha:WA X (e :: es) (JQ (as.map (sQ K))))(hg:Gl X x:=by rfl)(hn:x ≠ "__name__":=by decide)(hdb:(x==("__debug__":Str))=false:=by decide)
  (he:OQ e=true:=by rfl) (hpl:es.all OQ=true:=by rfl):WE X (.Call (.Name x p) (e :: es) [] pos) (lift K (dY as f)):=⟨oR ok (cH hc hg hm hv ha.h hn hdb (uQ he) (kX hpl))⟩
theorem pX{T:String}{f:List D->(Sl->Prop)->Prop}(ok:SQ K r f)(hc:dX X (.type T) r)(hm:X.mg x=none)(hv:bootBuiltins x=some (.type T))(ha:WA X (e :: es) (JQ (as.map (sQ K))))(hg:Gl X x:=by rfl)(hn:x ≠ "__name__":=by decide)(hdb:(x==("__debug__":Str))=false:=by decide)
  (he:OQ e=true:=by rfl) (hpl:es.all OQ=true:=by rfl):WE X (.Call (.Name x p) (e :: es) [] pos) (lift K (dY as f)):=⟨oR ok (LZ hc hg hm hv ha.h hn hdb (uQ he) (kX hpl))⟩
theorem kP(hc:X.calm=true)(hm:X.mg "list"=none)(hm2:X.mg "range"=none)(ha:WA X [e1,e2] (JQ ([a,b].map (sQ K))))(hg:Gl X "list":=by rfl)(hg2:Gl X "range":=by rfl)(he:OQ e1=true:=by rfl)(he2:OQ e2=true:=by rfl) :
  WE X (.Call (.Name "list" p) [.Call (.Name "range" p2) [e1,e2] [] pos'] [] pos) (lift K (dY [a,b] (o2 HM))) :=
 ⟨JM (LZ (CY hc) hg hm boot_list (TJ (LZ tH hg2 hm2 boot_range ha.h (by decide) (by decide) (uQ he) (kX (by simp[he2]))) iW (uQ rfl)) (by decide) (by decide) (uQ rfl) (kX rfl))⟩
theorem MQ(hK:X.K=K)(ha:WE X e1 (sQ K a))(hb:WE X e2 (sQ K b))(hs:CF e2:=by exact λ_ _=>rfl):WE X (.Subscript e1 e2 pos) (lift K (dY [a,b] (o2 kR))):=⟨uL qM (RL (Nv hK) ha.h hb.h hs)⟩
theorem tQ{k:Nat}(h:WA X es (JQ (as.map (sQ K))))(hl:as.length<=1000:=by decide):WE X (.Tuple es k pos) (lift K (yq as tj)):=⟨tE hl (zC h.h)⟩
theorem WQ(h:WA X es (JQ (as.map (sQ K))))(hl:as.length<=1000:=by decide):WE X (.List es pos) (lift K (yq as uj)):=⟨uE hl (AC h.h)⟩
theorem fX{own:List Str}{ti:tG}{g:rJ}(hc:X.calm=true)(S:pU X.env.scope X.N fr sc=true)(hi:WI X tg iter (PX K ti))(hg:∀C s H ex,WG (KQ X own fr sc C s H ex) tg (gX K g))
  (hif:∀C s H ex,WIf (KQ X own fr sc C s H ex) ifs (EQ K tc)) (he:∀C s H ex,WE (KQ X own fr sc C s H ex) elt (lift K te)) (nd:fr.Nodup:=by decide) (hs:xU iter=true:=by rfl):WE X (.ListComp elt [⟨tg,iter,ifs,0⟩] sc pos) (lift K (yW ti own fr g tc te)) :=
 ⟨Fj nd (Vz hc (IV S) hi.h (λC s H ex=>(hg C s H ex).h) (λC s H ex=>(hif C s H ex).h) (λC s H ex=>(he C s H ex).h) (pY hs))⟩
theorem Xq{name:Str}{id:String}{i:Nat}{r:V->List V->Hp->VK->Prop}{f:List D->List D->(D->D->Prop)->Prop}(ok:vM K r f)(hK:X.K=K)(slot:Slot "list" name id)(hty:typeOf (.builtin id)=pure (.type "method_descriptor"))(hm:fR X id r)(ho:WE X (.Name x p) (sQ K (.inl i)))(ha:WA X (e :: es) (JQ (as.map (sQ K))))
  (hbase:attributeBase (.Name x p) name X.env (eval (.Name x p) X.env)=eval (.Name x p) X.env:=by rfl)
  (hfew:((backTo cpos (starEach (e :: es) X.env)).all (λx=>!x.1)&&(backToKw cpos (keywordEach [] X.env)).all (λx=>x.1.isSome)&&decide ((e :: es).length+([]:List Keyword).length+(if ([]:List Keyword).isEmpty then 0 else 1) < 30))=true:=by rfl)
  (hline:(apos.endLine==cpos.line)=true:=by rfl) (he:OQ e=true:=by rfl) (hpl:es.all OQ=true:=by rfl):WE X (.Call (.Attribute (.Name x p) name apos) (e :: es) [] cpos) (lift K (OF i as f)):=by
 subst hK;exact ⟨iP ok (TL PySem.F.plainAttrs_list slot hty hm ho.h ha.h hbase hfew hline (uQ he) (kX hpl))⟩
theorem AX{op:CmpOp}{r:R2}{f:D->D->(Sl->Prop)->Prop}(ok:SQ K (jK r) (o2 f))(ho:OpR X (compareOp op) r)(ha:WE X e1 (sQ K a))(hb:WE X e2 (sQ K b))(hm:op≠.In:=by decide)(hm2:op≠.NotIn:=by decide):WT X (.Compare e1 [op] [e2] pos) (EQ K (mq (dY [a,b] (o2 f)))):=⟨pR ok (yF ho ha.h hb.h (Cz _ hm hm2))⟩
theorem PK(h:WT X e (EQ K tc)):WT X (.UnaryOp .Not e pos) (EQ K (WC tc)):=⟨zE (cC h.h)⟩
theorem LE(h:WT X e (EQ K tc)):WW X (.BoolOp .And [e] pos) (EQ K tc):=⟨zw h.h⟩
theorem uH(h:WT X e (EQ K tc)):WW X (.BoolOp .Or [e] pos) (EQ K tc):=⟨aC h.h⟩
theorem LM{rest:List Expr}(ha:WT X e1 (EQ K tc))(hb:WW X (.BoolOp .And (e2 :: rest) pos) (EQ K tc')):WW X (.BoolOp .And (e1 :: e2 :: rest) pos) (EQ K (XC tc tc')):=⟨AE (bC ha.h hb.h)⟩
theorem GG{rest:List Expr}(ha:WT X e1 (EQ K tc))(hb:WW X (.BoolOp .Or (e2 :: rest) pos) (EQ K tc')):WW X (.BoolOp .Or (e1 :: e2 :: rest) pos) (EQ K (SO tc tc')):=⟨zM (GL ha.h hb.h)⟩
theorem vL{tt:TT}(h:WW X e tt):WT X e tt:=⟨h.h.pt⟩
theorem nK(h:WE X e (lift K td))(he:∀whole,isTrue e X.env whole=(do let v<-whole;standAt e.pos;holding [v] (truthy v)):=by intro _;rfl):WT X e (EQ K (mq td)):=⟨yE (XB h.h he)⟩
theorem qQ{i:Nat}(hN:X.N.Nodup)(hi:X.N[i]?=some x)(hx:UB X.env.scope x)(hf:X.fn x=true\/X.env.scope.names.lookup x=some .local:=by first|exact .inl rfl|exact .inr rfl|assumption):WG X (.Name x pos) (gX K (iE i)):=⟨Iv (Dw hN hi hx hf)⟩
theorem yZ:WGs X [] (jV (([]:List rJ).map (gX K))):=⟨Ew⟩
theorem LQ{g:rJ}{gs:List rJ}(h1:WG X e (gX K g))(h2:WGs X es (jV (gs.map (gX K))))(hs:(assignEach (e :: es) X.env).map (·.2)=assign e X.env :: (assignEach es X.env).map (·.2):=by rfl):WGs X (e :: es) (jV ((g :: gs).map (gX K))):=⟨Bj h1.h h2.h hs⟩
theorem EJ{gs:List rJ}{k:Nat}(hK:X.K=K)(hc:X.calm=true)(hh:WGs X es (jV (gs.map (gX K))))(hn:(assignEach es X.env).length=gs.length:=by rfl)(hst:(assignEach es X.env).findIdx? (·.1)=none:=by rfl):WG X (.Tuple es k pos) (gX K (dO gs)):=⟨HE (Yw hK hc hh.h hn hst) rfl⟩
theorem zW:WIf X [] (EQ K oq):=⟨Jv⟩
theorem sR(h:WT X e (EQ K tc)):WIf X [e] (EQ K tc):=⟨RC h.h⟩
theorem bX(hK:X.K=K)(hl:WE X e (lift K td)):WI X tg e (PX K (vj td)):=⟨IE hK hl.h⟩
theorem FJ(hm:X.mg "range"=none)(ha:WA X [e1] (JQ ([a].map (sQ K))))(hg:Gl X "range":=by rfl)(he:OQ e1=true:=by rfl):WI X tg (.Call (.Name "range" p) [e1] [] pos) (PX K (CG a)):=⟨Lv (YD hg hm ha.h (by rw[uQ he];rfl))⟩
theorem qY{ts:List Expr}(hK:X.K=K)(hm:X.mg "zip"=none)(ha:WA X [e1,e2] (JQ ([a,b].map (sQ K))))(hg:Gl X "zip":=by rfl)(he:OQ e1=true:=by rfl)(hpl:[e2].all OQ=true:=by rfl):WI X (.Tuple ts kk tpos) (.Call (.Name "zip" p) [e1,e2] [] pos) (PX K (DG a b)):=⟨Mv (Xz hK hg hm ha.h (uQ he) (kX hpl))⟩
theorem xX:WSs X [] (vQ K fj):=⟨Cv Aw⟩
theorem rQ{tr:TS}(h:WS X st tr):WSs X [st] tr:=⟨Bw h.h⟩
theorem kQ(h:WS X st (vQ K t))(h2:WSs X sts (vQ K u)):WSs X (st :: sts) (vQ K (av t u)):=⟨BE (jz h.h h2.h)⟩
theorem RQ(h:WE X e (lift K td)):WS X (.Return (some e) pos) (vQ K (aE td)):=⟨EE (oz h.h)⟩
theorem GJ{i:Nat}(h:WE X e (sQ K (.inl i))):WS X (.Return (some e) pos) (vQ K (KF i)):=⟨Dv (oz h.h)⟩
theorem jZ(h:WE X e (lift K td))(hs:LK e=true:=by rfl):WS X (.Expr e pos) (vQ K (gj td)):=⟨Gv (Cw h.h (MK hs))⟩
theorem tZ{sa sb:List Stmt}(hc:WT X e (EQ K tc))(ha:WSs X sa (vQ K t))(hb:WSs X sb (vQ K u)):WS X (.If e sa sb pos) (vQ K (bE tc t u)):=⟨AM (HL hc.h ha.h hb.h)⟩
theorem JX{body:List Stmt}(ks:List Nat){ti:tG}{g:rJ}(hp:PassesOwn (model X.prog X.w) X.A X.env X.xe)(hc:X.calm=true)(hi:WI X tg iter (PX K ti))(hg:WG X tg (gX K g))(hb:WSs X body (vQ K t))(hs:xU iter=true:=by rfl):WS X (.For tg iter body [] pos) (vQ K (QF ks ti g t)):=⟨Tv ks (sC hp hc hi.h hg.h hb.h (pY hs))⟩
theorem Vv{body:List Stmt}(hp:PassesOwn (model X.prog X.w) X.A X.env X.xe)(hc:WT X e (EQ K tc))(hb:WSs X body (vQ K t)):WS X (.While e body [] pos) (vQ K (uG tc t)):=⟨zj (uz hp hc.h hb.h)⟩
theorem BQ{i:Nat}(hN:X.N.Nodup)(hi:X.N[i]?=some x)(hx:UB X.env.scope x)(he:WE X e (lift K td))(hs:LK e=true:=by rfl)(hf:X.fn x=true\/X.env.scope.names.lookup x=some .local:=by first|exact .inl rfl|exact .inr rfl|assumption):WS X (.Assign [.Name x pos'] e pos) (vQ K (ij i td)):=⟨FE (tz hN hi hx he.h (MK hs) hf)⟩
theorem HG{i j:Nat}(hN:X.N.Nodup)(hi:X.N[i]?=some x)(hx:UB X.env.scope x)(he:WE X e (sQ K (.inl j)))(hs:LK e=true:=by rfl)(hf:X.fn x=true\/X.env.scope.names.lookup x=some .local:=by first|exact .inl rfl|exact .inr rfl|assumption):WS X (.Assign [.Name x pos'] e pos) (vQ K (LF i j)):=⟨Fv (tz hN hi hx he.h (MK hs) hf)⟩
theorem AU{own:List Str}{ti:tG}{g:rJ}{i:Nat}(hN:X.N.Nodup)(hy:X.N[i]?=some x)(hl:X.env.scope.names.lookup x=some .local)(hc:X.calm=true)(S:pU X.env.scope X.N fr sc=true)(hi:WI X tg iter (PX K ti))(hg:∀C s H ex,WG (KQ X own fr sc C s H ex) tg (gX K g))
  (hif:∀C s H ex,WIf (KQ X own fr sc C s H ex) ifs (EQ K tc)) (he:∀C s H ex,WE (KQ X own fr sc C s H ex) elt (lift K te)) (nd:fr.Nodup:=by decide) (hs:xU iter=true:=by rfl) (hsw:swapsWith (.ListComp elt [⟨tg,iter,ifs,0⟩] sc p) (some (.Name x pos')) pos.line X.env=pure true:=by rfl) :
  WS X (.Assign [.Name x pos'] (.ListComp elt [⟨tg,iter,ifs,0⟩] sc p) pos) (vQ K (ij i (yW ti own fr g tc te))) :=
 ⟨Gj nd (jH hN hy hl hc (IV S) hi.h (λC s H ex=>(hg C s H ex).h) (λC s H ex=>(hif C s H ex).h) (λC s H ex=>(he C s H ex).h) hsw (pY hs))⟩
theorem ME{j:Nat}(he:WE X e (lift K td))(ho:WE X e1 (sQ K (.inl j)))(hi:WE X e2 (sQ K a))(hs:swapsWithSole [.Subscript e1 e2 pos'] e pos.line X.env=pure false:=by rfl)(hw:swappedStores [.Subscript e1 e2 pos'] e X.env=pure none:=by rfl)
  (ha:∀v,assign (.Subscript e1 e2 pos') X.env v=(do
    let ov<-holding [v] (eval e1 X.env)
    let iv<-holding [v,ov] (eval e2 X.env)
    standAt pos'
    holding [v,ov,iv] (setItem ov iv v)
    release [v,ov,iv] []):=by intro _;rfl) (h1:(assignEach [.Subscript e1 e2 pos'] X.env).map (·.2)=[assign (.Subscript e1 e2 pos') X.env]:=by rfl):WS X (.Assign [.Subscript e1 e2 pos'] e pos) (vQ K (AG j a td)):=⟨BM (rz he.h (pC ho.h hi.h dH ha) hs hw h1)⟩
theorem IG{g:rJ}(he:WE X e (lift K td))(hg:WG X tg (gX K g))(hs:swapsWithSole [tg] e pos.line X.env=pure false:=by rfl)(hw:swappedStores [tg] e X.env=pure none:=by rfl)(h1:(assignEach [tg] X.env).map (·.2)=[assign tg X.env]:=by rfl):WS X (.Assign [tg] e pos) (vQ K (Aj g td)):=⟨Hv (rz he.h hg.h hs hw h1)⟩
end
section
variable {K:Fg}
theorem tK{x:Str}{st:Stmt}{ps:List Str}{k:Nat}{con:Con}{ts:VJ}(F:Fun K x qual st f fd)(S:FnScope N ps (mQ st))(hb:∀(cdv:Value) (A:Around) (outer:List Env) (s:Shared) (H:Hp) (E:XK),Room k (A.deeper (envOfC qual (mQ st) s.heap.objs.size f cdv))->WSs (IY iZ P w K mg base N qual (mQ st) f cdv A outer s H E).nox (NX st) (vQ K ts))(hl:∀args Qd,con args Qd->args.length=ps.length) (hc:∀args Qd,con args Qd->(∀s∈args,∀d,s≠.ow d)/\ts (vU args Qd) (nY N.length args)):FnOk P w K mg base iZ (k+1) f fd ps (pQ K con):=
 VR F S (λcdv A outer s H E hr=>(hb cdv A outer s H E hr).h) hl hc
end
end L3
variable {K:L3.Fg}{ρ:L3.Ev}
namespace L2
theorem AW:typeLookup (.type "list") "keys"=pure none:=by rw[typeLookup_type,builtinLookup_eq_fast];kernel_rfl
theorem TQ:plainId "dict.update.loop"=true:=by decide +kernel
theorem SX:entryFor table "dict.update.loop"=some Builtin.«dict.update.loop»:=entryFor_of_tree (by kernel_rfl)
theorem Cq{a:Addr}{xs:Array Value}{k:Nat}{Q:Option Value->Shared->Prop}(hx:s.heap.get? a=some o)(hc:o.cls=.type "list")(hdat:o.data=.seq xs k)(hd:o.dict=none)(hA:A.handled=none)(h:∀h' tk,(∀b o,s.heap.get? b=some o->h'.get? b=some o)->Q none { s with heap:=h',toks:=tk }):wpAny (model prog w) A (getAttr? (.ref a) "keys") Q E s:=by
 obtain⟨c,dct,dat,sl⟩:=o;simp only at hc hdat hd;subst hc hdat hd;obtain⟨hp,g,d,tk,os⟩:=s;have hT:∀tk',(⟨hp,g,d,tk',os⟩:Shared).TypeIs (.ref a) "list":=λ_=>⟨_,hx,rfl⟩;have f1:=sub_AttributeError;have f3:=F.slot_list_getattribute.lookup;have f4:=F.slot_list_getattribute.bind (.ref a);have f5:=am_list_getattr_none;unfold getAttr? getAttrBy? getAttrBy;repeat (any_goals (first|assumption|exact hT _|((with_reducible show wpAny _ _ (call (J9 "list.__getattribute__") _ _) _ _ _);refine call_meets F.slot_list_getattribute (hT _) am_entry_list_getattribute (F.args_list_getattribute_2 _ _) (meets_getattribute_miss_list a xs k sl "keys" _ AW (by decide +kernel) (by decide +kernel)) ⟨hx,hA,λh' tk' e hx'=>?_⟩)|wp_step))
 obtain⟨t',u',he⟩:=hx'.there;show wpAny _ _ (getattributeRaised _ _ _ _ _ _ _) _ _ _;unfold getattributeRaised;repeat (any_goals (first|assumption|wp_step))
 exact h _ _ hx'.keeps
section
variable {R:Result->Shared->Prop}{I:Addr}{wr:List Addr}{P:Nat->Value->Prop}{St:Nat->Heap->Prop}
theorem Jj(W:Walks prog w A.in1 I fp wr n P St)(d:Addr)(hdf:d∉fp)(J:Nat->Heap->Prop)(hfr:∀i h h',J i h->(∀b o,b∉wr->h.get? b=some o->h'.get? b=some o)->J i h')(step:∀(i:Nat) (v:Value) (s:Shared) (Q:Unit->Shared->Prop) (E:Value->Shared->Prop),i < n->P i v->J i s.heap ->(∀h' tk,J (i+1) h'->X3 d s.heap h'->Q () { s with heap:=h',toks:=tk }) -> ∃p x y,v=.ref p/\s.heap.IsTuple p #[x,y]/\wpAny (model prog w) A.in1 (dictSet d x y) Q E s):∀(k i:Nat) (s:Shared) (tA:Tok),n - i=k->i<=n->St i s.heap->J i s.heap -> (∀h' tk,J n h'->(∀b o,b∉wr->b≠d->s.heap.get? b=some o->h'.get? b=some o)->R (.ok (.ret .none)) { s with heap:=h',toks:=tk }) -> codeAny (model prog w) A (.builtin "dict.update.loop" ⟨[.ref d,.ref I,.int i tA,.none],[]⟩) R s:=by
 intro k;induction k with
 | zero =>
  intro i s tA hk hi hst hJ hR;have hin:i=n:=by omega
  subst hin;refine codeAny_builtin SX ?_;rw[Around.under_plainId TQ _];show wpAny _ A.in1 (pyNext (.ref I) >>= _) _ _ s;refine wpAny_bind (W.done s _ _ hst λh' tk hk'=>?_);show wpAny _ _ (E8 d [] >>= _) _ _ _;exact wpAny_bind (wpAny_pure (wpAny_pure (hR h' tk (hfr _ _ _ hJ hk') λb o hbw _ e=>hk' b o hbw e)))
 | succ k ih =>
  intro i s tA hk hi hst hJ hR;have hlt:i < n:=by omega
  refine codeAny_builtin SX ?_;rw[Around.under_plainId TQ _];show wpAny _ A.in1 (pyNext (.ref I) >>= _) _ _ s;refine wpAny_bind (W.item i s _ _ hlt hst λv h' tk hP hst' hk'=>?_);have hJ':=hfr _ _ _ hJ hk';obtain⟨p,x,y,rfl,⟨ob,ho,hc,m,hd⟩,hw⟩:=step i v { s with heap:=h',toks:=tk } (λ_ s''=>∃h'' tk',s''={ s with heap:=h'',toks:=tk' }/\J (i+1) h''/\X3 d h' h'') (λ_ _=>False) hlt hP hJ' λh'' tk' j sb=>⟨h'',tk',rfl,j,sb⟩;show wpAny _ A.in1 (holding [.ref p] _ >>= _) _ _ _;refine wpAny_bind (wpAny_holding ?_);refine wpAny_bind (wpAny_tryCatch ?_);unfold V8;refine wpAny_bind (wpAny_typeOf (T:="tuple") ⟨_,ho,hc⟩ ?_);rw[if_pos (by decide)];refine wpAny_bind (wpAny_seqItems ho hd (wpAny_pure ?_));show wpAny _ A.in1 (holding [x,y] (dictSet d x y)) _ _ _;refine wpAny_holding (wpAny_mono hw (λ_ s'' z=>?_) λ_ _ z=>z.elim);obtain⟨h'',tk',rfl,j,sb⟩:=z;refine wpAny_pure ⟨plainId_quiet TQ _,?_⟩;exact ih (i+1) { s with heap:=h'',toks:=tk' } 0 (by omega) hlt (W.frame _ _ _ hst' λb hb o e=>(sb.2 b λq=>hdf (q ▸ hb)).trans e) j λh3 tk3 j3 k3=>hR h3 tk3 j3 λb o hbw hbd e=>k3 b o hbw hbd ((sb.2 b hbd).trans (hk' b o hbw e))
end
theorem MY{a:Addr}{xs:Array Value}{k:Nat}(J:Nat->Heap->Prop)(hh:A.handled=none)(hx:s.heap.get? a=some o) (hc:o.cls=.type "list") (hdat:o.data=.seq xs k) (hd:o.dict=none)(h0:∀h',(∀b ob,s.heap.get? b=some ob->h'.get? b=some ob)->h'.get? s.heap.objs.size=some { cls:=.type "dict",data:=.dict #[] }->J 0 h')(hfr:∀i h h',J i h->(∀b ob,b < s.heap.objs.size+1->h.get? b=some ob->h'.get? b=some ob)->J i h')(step:∀(i:Nat) (v:Value) (s':Shared) (Q':Unit->Shared->Prop) (E':Value->Shared->Prop),xs[i]?=some v->J i s'.heap->(∀b ob,s.heap.get? b=some ob->s'.heap.get? b=some ob) ->(∀h' tk,J (i+1) h'->X3 s.heap.objs.size s'.heap h'->Q' () { s' with heap:=h',toks:=tk }) -> ∃p x y,v=.ref p/\s'.heap.IsTuple p #[x,y]/\wpAny (model prog w) A.in1.in1 (dictSet s.heap.objs.size x y) Q' E' s')(h:∀h' tk,J xs.size h'->(∀b ob,s.heap.get? b=some ob->h'.get? b=some ob)->Q (.ref s.heap.objs.size) { s with heap:=h',toks:=tk }):wpAny (model prog w) A (call (.type "dict") [.ref a]) Q E s:=by
 refine callType_codes (Q₁:=λobj s₁=>obj=.ref s.heap.objs.size/\s₁={ s with heap:=s.heap.push { cls:=.type "dict",data:=.dict #[] } }) F.kt_called_dict (F.kt_typeCall_dict_1 _) F.entry_dict_init (kt_code_dict_new _ ⟨rfl,rfl⟩) ?_;rintro obj s₁ ⟨rfl,rfl⟩;have hnew:(s.heap.push { cls:=.type "dict",data:=.dict #[] }).get? s.heap.objs.size=some { cls:=.type "dict",data:=.dict #[] }:=L0 _ rfl;have hkp:∀b ob,s.heap.get? b=some ob->(s.heap.push { cls:=.type "dict",data:=.dict #[] }).get? b=some ob:=λb ob e=>g0 _ e;refine ⟨⟨_,hnew,rfl⟩,F.args_dict_init_2 _ _,?_⟩;unfold Builtin.«dict.__init__»;refine wpAny_bind ?_;unfold F8;refine wpAny_bind (wpAny_notOrdered_dict ⟨_,hnew,rfl⟩ ?_);show wpAny _ _ (pure (s.heap.objs.size,[Z3 a])) _ _ _;refine wpAny_pure ?_;show wpAny _ _ (e6 "dict.__init__" s.heap.objs.size (.ref a) [] .none) _ _ _;unfold e6;refine wpAny_bind (wpAny_typeOf (T:="list") ⟨_,hkp _ _ hx,hc⟩ ?_);rw[if_pos (by decide)];refine wpAny_bind (Cq (hkp _ _ hx) hc hdat hd hh λh1 tk1 k1=>?_);simp only[P9,if_true];refine wpAny_bind (wpAny_rule ?_);refine wpAny_bind (wpAny_pyIter_list (s:={ s with heap:=h1,toks:=tk1 }) ⟨_,k1 _ _ (hkp _ _ hx),hc,k,hdat⟩ ?_);have hlt:s.heap.objs.size < h1.objs.size:=G0 (k1 _ _ hnew);have halt:a < s.heap.objs.size:=G0 hx;have hnf:s.heap.objs.size∉[h1.objs.size,a]:=λhm=>by
  rcases W0.mp hm with q|q
  ·exact U0 hlt q
  ·exact V2 halt (Z0.mp q)
 refine wpAny_pure ⟨plainId_quiet TQ _,Jj (Walks.list (A:=A.in1.in1) hh h1.objs.size a (U0 (V7 halt hlt)) xs) s.heap.objs.size hnf (λi h'=>J i h'/\∀b ob,s.heap.get? b=some ob->h'.get? b=some ob) ?_ ?_ xs.size 0 _ 0 rfl (Q3 _) ?_ ?_ ?_⟩
 ·rintro i hp hp' ⟨j,kk⟩ kp;refine ⟨hfr _ _ _ j λb ob hb e=>kp b ob (λhm=>U0 (B3 (Nat.le_of_lt_succ hb) hlt) (Z0.mp hm)) e,λb ob e=>kp b ob ?_ (kk b ob e)⟩;exact λhm=>U0 (V7 (G0 e) hlt) (Z0.mp hm)
 ·rintro i v s' Q' E' hi hP ⟨j,kk⟩ hq;refine step i v s' Q' E' hP j kk λh' tk j' sb=>hq h' tk ⟨j',λb ob e=>(sb.2 b ?_).trans (kk b ob e)⟩ sb;exact U0 (G0 e)
 ·exact ⟨⟨_,L0 _ rfl,rfl,rfl⟩,⟨_,g0 _ (k1 _ _ (hkp _ _ hx)),hc,k,hdat⟩⟩
 ·exact ⟨hfr _ _ _ (h0 h1 (λb ob e=>k1 b ob (hkp b ob e)) (k1 _ _ hnew)) λb ob _ e=>g0 _ e,λb ob e=>g0 _ (k1 b ob (hkp b ob e))⟩
 ·rintro h' tk ⟨j,kk⟩ _;exact ⟨rfl,h h' tk j kk⟩
theorem Vals.getV:∀{xs:List V}{us:List Value}{i:Nat}{u:Value},Vals xs us->us[i]?=some u->∃x,xs[i]?=some x/\RelV x u
 | _,_,0,_,.cons r _,e=>⟨_,rfl,by cases e;exact r⟩
 | _,_,i+1,_,.cons _ t,e=>Vals.getV (i:=i) t e
abbrev uK(h:Heap)(z TI TO T:Addr)(fl:Bool):Prop:=h.get? z=some { cls:=.type "zip",dict:=none,data:=.fields #[rawInt T,.bool fl,.bool false,.ref TI,.ref TO],slots:=#[] }
theorem MM{a:Addr}{Q:Option Obj->Shared->Prop}(ho:s.heap.get? a=some o)(h:Q (some o) s):wpAny (model prog w) A (loadIfAlive a) Q E s:=λΓ p _=>by show Sem.wp _ Γ (.loadIfAlive a λx=>.pure x) _ _ p s;rw[Sem.wp_loadIfAlive,ho];exact h
theorem TF{TI TO:Addr}{Q:Bool->Shared->Prop}(hz:uK s.heap z TI TO T fl)(hT:s.heap.get? T=some ot)(h:∀h₁,uK h₁ z TI TO T true->X3 z s.heap h₁->Q false { s with heap:=h₁ }):wpAny (model prog w) A (Z1 (.ref z)) Q E s:=by
 unfold Z1;refine wpAny_bind (wpAny_field hz rfl (x:=rawInt T) rfl ?_);show wpAny _ _ (loadIfAlive T >>= _) _ _ _;refine wpAny_bind (MM hT ?_);rw[if_neg (show ¬((some ot).isNone=true) from T0)];refine wpAny_bind (wpAny_field hz rfl (x:=.bool fl) rfl ?_);cases fl with
 | true=>rw[if_neg (by decide)];exact wpAny_pure (h s.heap hz ⟨rfl,λ_ _=>rfl⟩)
 | false=>rw[if_pos (by decide)];exact wpAny_bind (wpAny_setField_rec hz (by simp) λh₁ hz₁ hs₁=>wpAny_pure (h h₁ hz₁ hs₁))
theorem KG{TI TO:Addr}{k:Nat}{k1:Kd}{k2:Kd}{x1:Value}(D:ZAp2 z TI TO i1 i2 l1 l2)(hz:uK s.heap z TI TO T fl) (hTI:HQ s.heap TI (.ref i1) (.ref i2)) (hT:s.heap.get? T=some ot)(h1:ItAt k1 s.heap i1 l1 k) (h2:ItAt k2 s.heap i2 l2 k) (hl1:SqAt k1 s.heap l1 xs1) (hl2:SqAt k2 s.heap l2 xs2) (hx1:xs1[k]?=some x1) (hx2:xs2[k]?=some x2)(hQ:∀h',uK h' z TI TO T true->ItAt k1 h' i1 l1 (k+1)->ItAt k2 h' i2 l2 (k+1)->HQ h' s.heap.objs.size x1 x2->h'.objs.size=s.heap.objs.size+1 ->(∀c o,c≠z->c≠i1->c≠i2->s.heap.get? c=some o->h'.get? c=some o)->Q (.ref s.heap.objs.size) { s with heap:=h' }):wpAny (model prog w) A (Builtin.«zip.__next__» ⟨[.ref z],[]⟩) (λfin s'=>∃v,fin=.done (.ret v)/\Q v s') E s:=by
 show wpAny _ _ (field (.ref z) 2 >>= _) _ _ _;refine wpAny_bind (wpAny_field hz rfl (x:=.bool false) rfl ?_);show wpAny _ _ (field (.ref z) 3 >>= _) _ _ _;refine wpAny_bind (wpAny_field hz rfl (x:=.ref TI) rfl ?_);refine wpAny_bind (wpAny_seqItems hTI rfl ?_);show wpAny _ _ (Z1 (.ref z) >>= _) _ _ _;refine wpAny_bind (TF hz hT λh₁ hz₁ hs₁=>?_);simp only[S2,if_false];rw[b8];simp only[Q6,i7];refine wpAny_bind (wpAny_bind (wpAny_bind (wpAny_holding ?_)));show wpAny _ _ (L1 (.ref i1) >>= _) _ _ _;refine wpAny_bind (qX (h1.at λo e=>hs₁.extBut _ o D.i1z e) (hl1.at λo e=>hs₁.extBut _ o D.l1z e) hx1 λha1 hi1 hsa1=>wpAny_pure (wpAny_pure ?_));refine wpAny_bind (wpAny_bind (wpAny_holding ?_));show wpAny _ _ (L1 (.ref i2) >>= _) _ _ _;refine wpAny_bind (qX ((h2.at λo e=>hs₁.extBut _ o D.i2z e).at λo e=>hsa1.extBut _ o D.i2i1 e) ((hl2.at λo e=>hs₁.extBut _ o D.l2z e).at λo e=>hsa1.extBut _ o D.l2i1 e) hx2 λha2 hi2 hsa2=>wpAny_pure (wpAny_pure (wpAny_pure ?_)));refine wpAny_bind (wpAny_newTuple (hsz:=by show 2<=sizeLine;decide) ?_);have hsz:ha2.objs.size=s.heap.objs.size:=by rw[hsa2.1,hsa1.1,hs₁.1]
 have hzG:uK ha2 z TI TO T true:=hsa2.extBut _ _ D.i2z.symm (hsa1.extBut _ _ D.i1z.symm hz₁);refine wpAny_pure ⟨_,rfl,?_⟩;show Q (.ref ha2.objs.size) _;rw[hsz];refine hQ _ (g0 _ hzG) ((hi1.at λo e=>hsa2.extBut _ o D.i2i1.symm e).at λo e=>g0 _ e) (hi2.at λo e=>g0 _ e) ?_ ?_ λc o c1 d1 d2 e=>g0 _ (hsa2.extBut _ _ d2 (hsa1.extBut _ _ d1 (hs₁.extBut _ _ c1 e)))
 ·rw[<- hsz];exact L0 _ rfl
 ·rw[Z2,hsz]
theorem lV{TI TO:Addr}{k:Nat}{k1:Kd}{k2:Kd}{Q:Fin->Shared->Prop}(hh:A.handled=none)(D:ZAp2 z TI TO i1 i2 l1 l2)(hz:uK s.heap z TI TO T fl) (hTI:HQ s.heap TI (.ref i1) (.ref i2)) (hT:s.heap.get? T=some ot)(h1:ItAt k1 s.heap i1 l1 k) (h2:ItAt k2 s.heap i2 l2 k) (hl1:SqAt k1 s.heap l1 xs1) (hl2:SqAt k2 s.heap l2 xs2) (hend:xs1[k]?=none\/xs2[k]?=none)(hE:∀h' e,(∀c o,c≠z->c≠i1->c≠i2->s.heap.get? c=some o->h'.get? c=some o)->(∃o,h'.get? e=some o/\o.cls=.type "StopIteration")->E (.ref e) { s with heap:=h' }):wpAny (model prog w) A (Builtin.«zip.__next__» ⟨[.ref z],[]⟩) Q E s:=by
 show wpAny _ _ (field (.ref z) 2 >>= _) _ _ _;refine wpAny_bind (wpAny_field hz rfl (x:=.bool false) rfl ?_);show wpAny _ _ (field (.ref z) 3 >>= _) _ _ _;refine wpAny_bind (wpAny_field hz rfl (x:=.ref TI) rfl ?_);refine wpAny_bind (wpAny_seqItems hTI rfl ?_);show wpAny _ _ (Z1 (.ref z) >>= _) _ _ _;refine wpAny_bind (TF hz hT λh₁ hz₁ hs₁=>?_);simp only[S2,if_false];rw[b8];simp only[Q6,i7];refine wpAny_bind (wpAny_bind (wpAny_bind (wpAny_holding ?_)));show wpAny _ _ (L1 (.ref i1) >>= _) _ _ _;cases hx1:xs1[k]? with
 | none=>exact wpAny_bind (WX hh (h1.at λo e=>hs₁.extBut _ o D.i1z e) (hl1.at λo e=>hs₁.extBut _ o D.l1z e) hx1 λhq e hsq he=>hE hq e (λc o c1 d1 d2 x=>hsq _ _ d1 (hs₁.extBut _ _ c1 x)) he)
 | some x1 =>
  have hx2:xs2[k]?=none:=by
   rcases hend with h|h
   ·rw[hx1]at h;cases h
   ·exact h
  refine wpAny_bind (qX (h1.at λo e=>hs₁.extBut _ o D.i1z e) (hl1.at λo e=>hs₁.extBut _ o D.l1z e) hx1 λha1 hi1 hsa1=>wpAny_pure (wpAny_pure ?_));refine wpAny_bind (wpAny_bind (wpAny_holding ?_));show wpAny _ _ (L1 (.ref i2) >>= _) _ _ _;exact wpAny_bind (WX hh ((h2.at λo e=>hs₁.extBut _ o D.i2z e).at λo e=>hsa1.extBut _ o D.i2i1 e) ((hl2.at λo e=>hs₁.extBut _ o D.l2z e).at λo e=>hsa1.extBut _ o D.l2i1 e) hx2 λhq e hsq he=>hE hq e (λc o c1 d1 d2 x=>hsq _ _ d2 (hsa1.extBut _ _ d1 (hs₁.extBut _ _ c1 x))) he)
def ZSt(h:Heap)(z TI TO S i1 i2 l1 l2:Addr)(k1 k2:Kd)(i:Nat):Prop :=
 HQ h TI (.ref i1) (.ref i2)/\ItAt k1 h i1 l1 i/\ItAt k2 h i2 l2 i /\
  ((IsZip h z TI TO .none/\∃a1 a2,HQ h TO a1 a2)\/∃T fl ot,uK h z TI TO T fl/\h.get? T=some ot/\T≠z/\T≠i1/\T≠i2/\T≠S)
theorem LG{TI TO S:Addr}{k:Nat}{k1 k2:Kd}{x1:Value}{Q:Option Value->Shared->Prop}(D:ZAp2 z TI TO i1 i2 l1 l2)(hS:S < s.heap.objs.size)(st:ZSt s.heap z TI TO S i1 i2 l1 l2 k1 k2 k) (hl1:SqAt k1 s.heap l1 xs1) (hl2:SqAt k2 s.heap l2 xs2) (hx1:xs1[k]?=some x1) (hx2:xs2[k]?=some x2)(hQ:∀h',ZSt h' z TI TO S i1 i2 l1 l2 k1 k2 (k+1)->HQ h' s.heap.objs.size x1 x2->h'.objs.size=s.heap.objs.size+1 ->(∀c o,c≠z->c≠TO->c≠i1->c≠i2->s.heap.get? c=some o->h'.get? c=some o)->Q (some (.ref s.heap.objs.size)) { s with heap:=h' }):wpAny (model prog w) A (pyNext (.ref z)) Q E s:=by
 obtain⟨hTI,h1,h2,hz⟩:=st;have gz:∀{b:Addr}{o:Obj},s.heap.get? b=some o->s.heap.objs.size≠b:=λe=>V2 (G0 e);obtain⟨o1,g1,_⟩:=h1.obj;obtain⟨o2,g2,_⟩:=h2.obj;rcases hz with⟨hz,a1,a2,hTO⟩|⟨T,fl,ot,hz,hT,t1,t2,t3,t4⟩
 ·refine xJ D hz hTI hTO h1 h2 hl1 hl2 hx1 hx2 λh' b1 b2 c1 c2 b5 b6 b7=>hQ h' ⟨b7 TI _ D.TIz (E3 D.TOTI) (E3 D.i1TI) (E3 D.i2TI) hTI,c1,c2,.inr ⟨s.heap.objs.size,false,_,b1,b5,gz hz,gz g1,gz g2,V2 hS⟩⟩ b5 b6 b7
 ·have hTy:s.TypeIs (.ref z) "zip":=⟨_,hz,rfl⟩;unfold pyNext;exact wpAny_bind (wpAny_attempt (wpAny_callSpecial?_slot (name:=Str.ofString "__next__") hTy F.slot_zip_next
    (wpAny_call_entry F.slot_zip_next hTy F.entry_zip_next (wpAny_mono (KG (Q:=λv s'=>Q (some v) s') D hz hTI hT h1 h2 hl1 hl2 hx1 hx2 λh' b1 c1 c2 b5 b6 b7=>hQ h' ⟨b7 TI _ D.TIz (E3 D.i1TI) (E3 D.i2TI) hTI,c1,c2,.inr ⟨T,true,ot,b1,b7 T _ t1 t2 t3 hT,t1,t2,t3,t4⟩⟩ b5 b6 λc o d1 _ d3 d4 e=>b7 c o d1 d3 d4 e) (λfin s' z=>by obtain⟨v,rfl,z⟩:=z;exact ⟨_,rfl,wpAny_pure z⟩) λ_ _ z=>z) (F.args_zip_next_1 _))))
theorem mV{TI TO S:Addr}{k:Nat}{k1 k2:Kd}{Q:Option Value->Shared->Prop}(hh:A.handled=none)(D:ZAp2 z TI TO i1 i2 l1 l2)(st:ZSt s.heap z TI TO S i1 i2 l1 l2 k1 k2 k) (hl1:SqAt k1 s.heap l1 xs1) (hl2:SqAt k2 s.heap l2 xs2) (hend:xs1[k]?=none\/xs2[k]?=none)(hQ:∀h',(∀c o,c≠z->c≠TO->c≠i1->c≠i2->s.heap.get? c=some o->h'.get? c=some o)->Q none { s with heap:=h' }):wpAny (model prog w) A (pyNext (.ref z)) Q E s:=by
 obtain⟨hTI,h1,h2,hz⟩:=st;rcases hz with⟨hz,a1,a2,hTO⟩|⟨T,fl,ot,hz,hT,t1,t2,t3,t4⟩
 ·exact mK hh D hz hTI hTO h1 h2 hl1 hl2 hend hQ
 ·have hTy:s.TypeIs (.ref z) "zip":=⟨_,hz,rfl⟩;unfold pyNext;refine wpAny_bind (wpAny_attempt (wpAny_callSpecial?_slot (name:=Str.ofString "__next__") hTy F.slot_zip_next
    (wpAny_call_entry F.slot_zip_next hTy F.entry_zip_next (lV hh D hz hTI hT h1 h2 hl1 hl2 hend λh' e hk he=>?_) (F.args_zip_next_1 _))));obtain⟨o,ho,hc⟩:=he;refine wpAny_bind (wpAny_isInstance (T:="StopIteration") (b:=true) ⟨o,ho,hc⟩ isSubtype_stop ?_);exact wpAny_pure (hQ _ λc o d1 _ d3 d4 e=>hk c o d1 d3 d4 e)
theorem ZSt.keep{TI TO S:Addr}{k1 k2:Kd}{i:Nat}(x:ZSt h z TI TO S i1 i2 l1 l2 k1 k2 i)(hk:∀b o,b≠S->h.get? b=some o->h'.get? b=some o)(n1:z≠S)(n2:TI≠S)(n3:TO≠S)(n4:i1≠S)(n5:i2≠S):ZSt h' z TI TO S i1 i2 l1 l2 k1 k2 i:=by
 obtain⟨hTI,h1,h2,hz⟩:=x;refine ⟨hk _ _ n2 hTI,h1.at λo e=>hk _ _ n4 e,h2.at λo e=>hk _ _ n5 e,?_⟩;rcases hz with⟨hz,a1,a2,hTO⟩|⟨T,fl,ot,hz,hT,t1,t2,t3,t4⟩
 ·exact .inl ⟨hk _ _ n1 hz,a1,a2,hk _ _ n3 hTO⟩
 ·exact .inr ⟨T,fl,ot,hk _ _ n1 hz,hk _ _ t4 hT,t1,t2,t3,t4⟩
structure ZG(xs1 xs2:Array Value)(lo:Addr)(h:Heap)(as:List Addr):Prop where
 rise:as.Pairwise (· < ·)
 above:∀a∈as,lo < a
 pairs:∀(j:Nat) (a:Addr),as[j]?=some a->∃x y,xs1[j]?=some x/\xs2[j]?=some y/\HQ h a x y
section
variable {R:Result->Shared->Prop}
end
end L2
namespace L3
open L2
theorem Kj{k:Nat}(hr:Room k A):A.units+2 < cLine:=B3 (v9 (by decide:2<=64) _) hr.units
noncomputable def lP:D->Option (List D)
 | .list ds=>some ds
 | .tuple ds=>some ds
 | _=>none
section
variable {F:Hp}
theorem At.seq{v:V}{d:D}{ds:List D}(s:Sub F H)(h:At K F H v d)(e:lP d=some ds):∃k a xs,v=.ref a/\Sq k K H a xs/\DaAll K F xs ds:=by
 cases d<;>first|cases e|skip
 ·obtain⟨a,xs,rfl,e1,d1⟩:=h.list s;exact ⟨.l,a,xs,rfl,SqL.of e1,d1⟩
 ·obtain⟨a,xs,rfl,_,e1,d1⟩:=h.tuple s;exact ⟨.t,a,xs,rfl,SqT.of e1,d1⟩
end
section
variable {e e1 e2:Expr}{a b:AD}{p pos p2:Pos}
end
mutual
theorem MG:∀d:D,IQ d=true->SeqAt.noMix d d=true
 | .none,_=>by simp[SeqAt.noMix]
 | .bool _,_=>by simp[SeqAt.noMix]
 | .int _,_=>by simp[SeqAt.noMix]
 | .str _,_=>by simp[SeqAt.noMix]
 | .list xs,h=>by simp[SeqAt.noMix];exact noMixAll_self xs (by simpa [IQ]using h)
 | .tuple xs,h=>by simp[SeqAt.noMix];exact noMixAll_self xs (by simpa [IQ]using h)
 | .dict _,h=>by simp[IQ]at h
theorem noMixAll_self:∀xs:List D,plainAll xs=true->SeqAt.noMixAll xs xs=true
 | [],_=>by simp[SeqAt.noMixAll]
 | x :: xs,h=>by simp[plainAll]at h;simp[SeqAt.noMixAll];exact ⟨MG x h.1,noMixAll_self xs h.2⟩
end
structure Nice(n:Nat)(d:D):Prop where
 p:IQ d=true
 c:d.canLay0=true
 d:d.depth<=n
theorem Nice.int(n:Nat)(i:Int):Nice n (.int i):=⟨rfl,by simp[j9],by simp[Z4]⟩
theorem Nice.none(n:Nat):Nice n .none:=⟨rfl,by simp[j9],by simp[Z4]⟩
theorem vH:∀{l:List D},(∀d∈l,Nice n d)->plainAll l=true/\o8 l=true/\t6 l<=n
 | [],_=>⟨rfl,by simp[o8],by simp[t6]⟩
 | x :: l,h=>by have h1:=h x v0;have h2:=vH (l:=l) λd hd=>h d (q0 _ hd);refine ⟨by simp[plainAll,h1.p,h2.1],by simp[o8,h1.c,h2.2.1],?_⟩;have:=h1.d;have:=h2.2.2;simp[t6];omega
theorem Nice.tuple{l:List D}(h:∀d∈l,Nice n d):Nice (n+1) (.tuple l):=by obtain⟨a,b,c⟩:=vH h;exact ⟨by simp[IQ,a],by simp[j9,b],by simp[Z4];omega⟩
theorem Nice.tup(l:List Int):Nice 1 (.tuple (l.map i0)):=.tuple λd hd=>by obtain⟨i,_,rfl⟩:=J0.mp hd;exact .int 0 i
theorem Nice.sh{d:D}(h:Nice n d)(k:n<=64):SeqAt.shaped d=true:=by have:=h.d;unfold SeqAt.shaped;rw[h.c];simp;omega
end L3
namespace L2
def UF(K:n0):List V->Hp->VK->Prop:=λxs H Q=>∃(x:V) (k:Ki) (T:Ki),xs=[x,.ty T.nm]/\(KiOf K H x k\/∃a,x=.ref a/\k=.dct/\OO H a)/\Q (.bl (k.sub T)) H
theorem Dq:dX X (.builtin "isinstance") (UF X.K):=by
 intro pins s σ H xs us Q I r h;obtain⟨x,k,T,rfl,hk,q⟩:=h;rcases hk with hk|⟨a,rfl,rfl,hd⟩
 ·exact Tz pins s σ H _ us Q I r ⟨x,k,T,rfl,hk,q⟩
 ·obtain⟨u,w',rfl,ru,rw'⟩:=lK r;obtain rfl:w'=.type T.nm:=rw';cases ru;have ht:s.TypeIs (.ref a) Ki.dct.nm:=(NC I hd).1;cases hs:Ki.dct.sub T with
  | true=>rw[hs]at q;exact call_isinstance (isinstance_true (Tx:=Ki.dct.nm) (dZ T) (by rw[nU,hs])) ⟨ht,.bl true,H,I,rfl,q⟩
  | false =>
   rw[hs]at q;have hsub:isSubtype (.type Ki.dct.nm) (.type T.nm)=pure false:=by rw[nU,hs]
   have hne:=Hu Ki.dct T hs;have fin:EP X pins σ Q (.bool false) { s with toks:=s.toks+1 }:=⟨.bl false,H,I.tok _,rfl,q⟩;exact call_isinstance (isinstance_false_dict hne (dZ T) hsub) ⟨ht,fin⟩
inductive PrsT (H:Hp):List (V×V)->List (List VZ×V)->Prop
 | nil:PrsT H [] []
 | cons {b ks v ps kvs}:H b=some (.tup (ks.map kV))->PrsT H ps kvs->PrsT H ((.ref b,v) :: ps) ((ks,v) :: kvs)
section
variable {a:Addr}
end
end L2
namespace L3
open L2
noncomputable def eJ:List (D×D)->Bool
 | (.none,_) :: _=>false
 | (.bool _,_) :: _=>false
 | _=>true
noncomputable def Su(T:Ki):D->(Sl->Prop)->Prop
 | .dict es,Q=>eJ es=true/\Q (.fz (.bool (Ki.dct.sub T)))
 | d,Q=>Q (.fz (.bool ((TR d).sub T)))
theorem At.isD{F:Hp}{v:V}{es:List (D×D)}(s:Sub F H)(h:At K F H v (.dict es))(hn:eJ es=true):∃a,v=.ref a/\OO H a:=by
 rcases h with h|⟨a,o,rfl,_,e,h⟩
 ·cases h with
  | dk r t=>exact ⟨_,rfl,.inl ⟨_,s.rd r⟩⟩
  | dt r t=>exact ⟨_,rfl,.inr ⟨_,s.rd r⟩⟩
  | scr q=>simp[eJ]at hn
  | exc q=>simp[eJ]at hn
  | opq q=>simp[eJ]at hn
  | pd q t=>simp[eJ]at hn
  | bd q t=>simp[eJ]at hn
 ·cases o with
  | ext φ=>rcases h.ext with⟨a',ep,xs,ps,z,z2,t⟩|⟨a',ep,xs,ps,z,z2,t⟩<;>(injection z2 with z2;rw[z2]at hn;simp[eJ]at hn)
  | _=>first|exact h.elim|exact ⟨_,rfl,.inl ⟨_,.inl e⟩⟩|exact ⟨_,rfl,.inr ⟨_,.inl e⟩⟩
theorem Wv{T:Ki}:SQ K (λvs H Q=>∃x,vs=[x]/\UF K [x,.ty T.nm] H Q) (o1 (Su T)):=bG λG F σ H ρ x d Q Qd R h1 w k=>by
 have go:∀(ki:Ki),KiOf K H x ki->Qd (.fz (.bool (ki.sub T)))->∃x',[x]=[x']/\UF K [x',.ty T.nm] H Q:=λki h w=>⟨x,rfl,x,ki,T,rfl,.inl h,k _ H F (.fz _) (Sub.refl _) R (Da.bl _) w⟩;match d,h1,w with
 | .none,h1,w=>cases h1.none;exact go .non rfl w
 | .bool b,h1,w=>cases h1.bool;exact go .bl rfl w
 | .int i,h1,w=>cases h1.int;exact go .int rfl w
 | .str z,h1,w=>cases h1.str;exact go .str rfl w
 | .list ds,h1,w=>obtain⟨a,us,rfl,e1,d1⟩:=h1.list R.sub;exact go .lst (.inl ⟨rfl,us,SqL.of e1⟩) w
 | .tuple ds,h1,w=>obtain⟨a,us,rfl,_,e1,d1⟩:=h1.tuple R.sub;exact go .tup (.inr (.inl ⟨rfl,us,SqT.of e1⟩)) w
 | .dict es,h1,w=>obtain⟨a,rfl,hd⟩:=h1.isD R.sub w.1;exact ⟨_,rfl,_,.dct,T,rfl,.inr ⟨a,rfl,rfl,hd⟩,k _ H F (.fz _) (Sub.refl _) R (Da.bl _) w.2⟩
def Tu:TD:=λρ Q=>Q (.ow (.dict [])) ρ
theorem OE{σ:L2.St}{Q:VK}(h:lift K Tu σ H Q):Pz σ H Q:=by obtain⟨G,F,ρ,Qd,R,w,k⟩:=h;intro p hp;obtain⟨R',r'⟩:=R.newOw (o:=.dT []) (d:=.dict []) hp DaKT.nil;exact k _ _ F _ ρ (Sub.refl _) R' r' w
section
variable {e e1 e2:Expr}{a b:AD}{ta tb:TD}{st:Stmt}{p pos p2 px py pt:Pos}{x:Str}
theorem rY(T:Ki)(hK:X.K=K)(hm:X.mg "isinstance"=none){y:Str}(hm2:X.mg y=none)(hv2:bootBuiltins y=some (.type T.nm))(ha:WE X e1 (sQ K a))(hg:Gl X "isinstance":=by rfl)(hg2:Gl X y:=by rfl)(hy:y ≠ "__name__":=by decide)(hy2:(y==("__debug__":Str))=false:=by decide)(he:OQ e1=true:=by rfl) :
  WE X (.Call (.Name "isinstance" p) [e1,.Name y p2] [] pos) (lift K (dY [a] (o1 (Su T)))):=by
 subst hK;exact ⟨BY (cH Dq hg hm boot_isinstance (TJ ha.h (TJ (ww hg2 hm2 hv2 (v:=.ty T.nm) rfl hy hy2) iW (uQ rfl)) (uQ he)) (by decide) (by decide) (uQ he) (kX rfl)) λq=>sG (P:=λx H1=>UF X.K [x,.ty T.nm] H1 _) (LY Wv q)⟩
theorem QE:WE X (.Dict [] [] pos) (lift K Tu):=⟨BY Qz λq=>OE q⟩
end
end L3
namespace L2
theorem Lj:OpR X (compareOp .Is) (λx y H Q=>∃c d,x=.bl c/\y=.bl d/\Q (.bl (c==d)) H):=by intro pins s σ H x y v u Q I rx ry h;obtain⟨c,d,rfl,rfl,q⟩:=h;cases rx;cases ry;exact is_bool ⟨.bl _,H,I,rfl,q⟩
theorem sY:OpR X (compareOp .IsNot) (λx y H Q=>∃c d,x=.bl c/\y=.bl d/\Q (.bl (!(c==d))) H):=by intro pins s σ H x y v u Q I rx ry h;obtain⟨c,d,rfl,rfl,q⟩:=h;cases rx;cases ry;exact isnot_bool ⟨.bl _,H,I,rfl,q⟩
end L2
namespace L3
open L2
noncomputable def mP:D->D->(Sl->Prop)->Prop
 | .bool c,.bool d,Q=>Q (.fz (.bool (c==d)))
 | _,_,_=>False
noncomputable def NM:D->D->(Sl->Prop)->Prop
 | .bool c,.bool d,Q=>Q (.fz (.bool (!(c==d))))
 | _,_,_=>False
theorem Mj:SQ K (jK λx y H Q=>∃c d,x=.bl c/\y=.bl d/\Q (.bl (c==d)) H) (o2 mP):=VU λG F σ H ρ x y d e Q Qd R h1 h2 w k=>by
 cases d<;>first|exact w.elim|skip
 cases e<;>first|exact w.elim|skip
 case bool.bool c d=>cases h1.bool;cases h2.bool;exact ⟨c,d,rfl,rfl,k _ H F (.fz _) (Sub.refl _) R (Da.bl _) w⟩
theorem BU:SQ K (jK λx y H Q=>∃c d,x=.bl c/\y=.bl d/\Q (.bl (!(c==d))) H) (o2 NM):=VU λG F σ H ρ x y d e Q Qd R h1 h2 w k=>by
 cases d<;>first|exact w.elim|skip
 cases e<;>first|exact w.elim|skip
 case bool.bool c d=>cases h1.bool;cases h2.bool;exact ⟨c,d,rfl,rfl,k _ H F (.fz _) (Sub.refl _) R (Da.bl _) w⟩
section
variable {x:Str}{pos:Pos}
end
theorem nX(s:String):(Str.ofString s).length=s.length:=by rw[Str.ofString_eq_toList];simp only[Str.length,N0,j0];first|rfl|exact String.length_toList|exact String.length_toList _|simp
theorem OV{i:Int}{k:Nat}(hk:0 < k)(h:i.natAbs < 10 ^ k):(i0 i).shown.length<=k+1:=by
 show (Str.ofString (toString i)).length<=k+1;rw[nX];cases i with
 | ofNat n=>show (Nat.repr n).length<=k+1;have:=(W8 (n:=n) hk).mpr h;omega
 | negSucc m =>
  show ("-"++Nat.repr (m+1)).length<=k+1;have h1:m+1 < 10 ^ k:=by simpa using h
  have:=(W8 (n:=m+1) hk).mpr h1;rw[String.length_append];have e:("-":String).length=1:=by decide
  omega
theorem wH(sep:Str)(b:Nat):∀ts:List Str,(∀t∈ts,t.length<=b)->(Str.join sep ts).length<=ts.length * (b+sep.length)
 | [],_=>by simp[Str.join,Str.length,Str.empty]
 | [x],h=>by have:=h x v0;show x.length<=_;simp;omega
 | x :: y :: r,h=>by have h1:=h x v0;have h2:=wH sep b (y :: r) λt ht=>h t (q0 _ ht);show (x++sep++Str.join sep (y :: r)).length<=_;rw[Str.length_append,Str.length_append,X2,Z6];omega
theorem fJ:∀l:List D,R7 l=l.map R8
 | []=>rfl
 | x :: l=>by simp[R7,fJ l]
theorem xH{b:Nat}{l:List D}(h:∀d∈l,d.shown.length<=b):(B1 l).shown.length<=l.length * (b+2)+3:=by
 show (tupleText (R7 l)).length<=_;rw[fJ];have hj:=wH (Str.ofString ", ") b (l.map R8) λt ht=>by obtain⟨d,hd,rfl⟩:=J0.mp ht;exact h d hd
 rw[j0,nX]at hj;have e2:(", ":String).length=2:=by decide
 rw[e2]at hj;unfold tupleText;rw[Str.length_append,Str.length_append,nX,nX];have e1:("(":String).length=1:=by decide
 have e3:(if (((l.map R8).length==1)=true) then ",)" else ")":String).length<=2:=by split<;>decide
 omega
theorem NG{b:Nat}{l:List D}(h:∀d∈l,d.shown.length<=b):(G3 l).shown.length<=l.length * (b+2)+3:=by
 have gen:∀(ts:List Str) (k:Nat) (acc:Str),(∀t∈ts,t.length<=b)->(textFrom k acc ts).length<=acc.length+ts.length * (b+2):=by
  intro ts;induction ts with
  | nil=>intro k acc _;simp[textFrom]
  | cons t ts ih =>
   intro k acc ht;have h1:=ht t v0;have h2:=ih (k+1) (acc++Str.ofString (if k > 0 then ", " else "")++t) λx hx=>ht x (q0 _ hx);rw[Str.length_append,Str.length_append,nX]at h2;have e3:(if k > 0 then ", " else "":String).length<=2:=by split<;>decide
   show (textFrom (k+1) (acc++Str.ofString (if k > 0 then ", " else "")++t) ts).length<=_;rw[X2,Z6];omega
 show (listText (R7 l)).length<=_;rw[fJ];have hg:=gen (l.map R8) 0 (Str.ofString "[") λt ht=>by obtain⟨d,hd,rfl⟩:=J0.mp ht;exact h d hd
 unfold listText;rw[Str.length_append,nX];rw[nX,j0]at hg;have e1:("[":String).length=1:=by decide
 have e2:("]":String).length=1:=by decide
 omega
theorem showableAll_of:∀{l:List D},(∀d∈l,d.showable=true)->Q9 l=true
 | [],_=>rfl
 | x :: l,h=>by simp[Q9,h x v0];exact showableAll_of λd hd=>h d (q0 _ hd)
theorem CU{i:Int}{k:Nat}(h:i.natAbs < 2 ^ k)(hk:k<=1920):(i0 i).showable=true:=by
 show decide (i.natAbs.log2 < 1920)=true;refine decide_eq_true ?_;by_cases h0:i.natAbs=0
 ·rw[h0];decide
 ·exact O0 ((Nat.log2_lt h0).mpr h) hk
end L3
namespace L2
noncomputable def oP:V->Int
 | .int i=>i
 | _=>0
theorem BW(l:List Int):(l.map V.int).map oP=l:=by rw[P0];exact W6 l
theorem Nj{l m:List Int}(e:l.map V.int=m.map V.int):l=m:=by rw[<- BW l,<- BW m,e]
noncomputable def bS(H:Hp)(p:List Int)(y:Value):Bool:=@decide (∃c,y=.ref c/\H c=some (.tup (p.map V.int))) (Classical.propDecidable _)
theorem DY{ns:List Int}(r:Vals (ns.map V.int) us){k:Nat}(h:k < us.length):∃t,us[k]=.int (ns.getD k 0) t:=by
 have hl:=r.length;rw[j0]at hl;have hk:k < ns.length:=by omega
 obtain⟨u,hu,ru⟩:=r.get (i:=k) (x:=.int ns[k]) (by rw[X0,A0 hk];rfl);obtain⟨t,e⟩:=ru;rw[A0 h]at hu;have hu:=X1 hu;refine ⟨t,?_⟩;rw[hu,e,Y0,A0 hk];rfl
end L2
namespace L3
open L2
theorem DaAll.ints_of{F:Hp}{p:List Int}(h:DaAll K F ys (p.map i0)):ys=p.map V.int:=by
 have e:p.map i0=(p.map λn=>(.inl n:VZ)).map Zz:=by rw[P0];rfl
 rw[e]at h;have:=h.keys;rw[this,P0];rfl
def Oj(K:Fg):R2:=λx y H Q=>∃j,y=.int j/\Pw K x none (some j) H Q
def Pj(K:Fg):R2:=λx y H Q=>∃j,y=.int j/\Pw K x (some j) none H Q
noncomputable def Qj:D->D->(Sl->Prop)->Prop
 | .list ds,.int j,Q=>Q (.ow (.list (ds.take (if j < 0 then (j+ds.length).toNat else j.toNat))))
 | _,_,_=>False
noncomputable def Rj:D->D->(Sl->Prop)->Prop
 | .list ds,.int j,Q=>Q (.ow (.list (ds.drop (if j < 0 then (j+ds.length).toNat else j.toNat))))
 | _,_,_=>False
theorem Sj(us:List α)(j:Int):us.take (HT.sIx us.length us.length (some j))=us.take (if j < 0 then (j+us.length).toNat else j.toNat):=by
 show us.take (if j < 0 then (j+(us.length:Int)).toNat else min j.toNat us.length)=_;split
 ·rfl
 ·by_cases h:j.toNat<=us.length
  ·rw[P5 h]
  ·rw[W1 (by omega),W1 (by omega)]
theorem Tj:SQ K (jK (Oj K)) (o2 Qj):=VU λG F σ H ρ x y d e Q Qd R h1 h2 w k=>by
 cases d<;>first|exact w.elim|skip
 cases e<;>first|exact w.elim|skip
 rename_i ds j;cases h2.int;obtain⟨a,us,rfl,e1,d1⟩:=h1.list R.sub;refine ⟨j,rfl,a,us,rfl,SqL.of e1,λp hp=>?_⟩;have e3:oJ us none (some j)=us.take (if j < 0 then (j+ds.length).toNat else j.toNat):=by rw[<- d1.length,<- Sj];rfl
 rw[e3];obtain⟨R',r'⟩:=R.newOw (o:=.lst (us.take (if j < 0 then (j+ds.length).toNat else j.toNat))) (d:=.list (ds.take (if j < 0 then (j+ds.length).toNat else j.toNat))) hp (d1.take _);exact k _ _ F _ (Sub.refl _) R' r' w
theorem Uj:SQ K (jK (Pj K)) (o2 Rj):=VU λG F σ H ρ x y d e Q Qd R h1 h2 w k=>by
 cases d<;>first|exact w.elim|skip
 cases e<;>first|exact w.elim|skip
 rename_i ds j;cases h2.int;obtain⟨a,us,rfl,e1,d1⟩:=h1.list R.sub;refine ⟨j,rfl,a,us,rfl,SqL.of e1,λp hp=>?_⟩;have hl:=d1.length;have e3:oJ us (some j) none=us.drop (if j < 0 then (j+ds.length).toNat else j.toNat):=by
  unfold oJ;show (us.drop (if j < 0 then (j+(us.length:Int)).toNat else min j.toNat us.length)).take (us.length - (if j < 0 then (j+(us.length:Int)).toNat else min j.toNat us.length))=_;rw[W1 (by rw[V1];omega),hl];split
  ·rfl
  ·by_cases h:j.toNat<=us.length
   ·rw[P5 (by omega)]
   ·rw[V3 (by omega),V3 (by omega)]
 rw[e3];obtain⟨R',r'⟩:=R.newOw (o:=.lst (us.drop (if j < 0 then (j+ds.length).toNat else j.toNat))) (d:=.list (ds.drop (if j < 0 then (j+ds.length).toNat else j.toNat))) hp (d1.drop _);exact k _ _ F _ (Sub.refl _) R' r' w
noncomputable def pP:D->(Sl->Prop)->Prop
 | .int i,Q=>i.natAbs.log2 < 1920/\Q (.fz (.str (toString i)))
 | _,_=>False
theorem Xv:SQ K (λxs H Q=>∃i,xs=[V.int i]/\i.natAbs.log2 < 1920/\Q (V.str (toString i)) H) (o1 pP):=bG λG F σ H ρ x d Q Qd R h1 w k=>by
 match d,h1,w with
 | .int i,h1,w=>cases h1.int;exact ⟨i,rfl,w.1,k _ H F (.fz _) (Sub.refl _) R (Da.str _) w.2⟩
section
variable {e1 e2:Expr}{a b:AD}{pos p2:Pos}
theorem HZ(hK:X.K=K)(ha:WE X e1 (sQ K a))(hb:WE X e2 (sQ K b)):WE X (.Subscript e1 (.Slice none (some e2) none p2) pos) (lift K (dY [a,b] (o2 Qj))):=by subst hK;exact ⟨BY (NZ jU ha.h PY (EZ hb.h)) λq=>lH (P:=λx y H=>Oj X.K x y H _) (LY Tj q)⟩
theorem IZ(hK:X.K=K)(ha:WE X e1 (sQ K a))(hb:WE X e2 (sQ K b)):WE X (.Subscript e1 (.Slice (some e2) none none p2) pos) (lift K (dY [a,b] (o2 Rj))):=by subst hK;exact ⟨BY (NZ jU ha.h (EZ hb.h) PY) λq=>lH (P:=λx y H=>Pj X.K x y H _) (LY Uj q)⟩
end
end L3
namespace L2
theorem Vj{l:Addr}{xs:Array (Int×Tok)}(hh:A.handled=none)(ht:s.heap.IsTuple l (intItems xs))(hne:0 < xs.size)(h:∀v h' tk,(intItems xs)[argBest (λi j=>decide (numAt xs i < numAt xs j)) (xs.size - 1)]?=some v->(∀b o,s.heap.get? b=some o->h'.get? b=some o)->Q v { s with heap:=h',toks:=tk }):wpAny (model prog w) A (call (.builtin "min") [.ref l]) Q E s:=by
 obtain⟨o,ho,hc,n,hd⟩:=id ht;have hn:l≠s.heap.objs.size:=U0 (G0 ho);refine call_min_walk (wpAny_pyIter_tuple ht ?_);refine ⟨s.heap.objs.size,_,_,_,_,_,_,rfl,Walks.tuple (A:=A.in1) hh _ l hn (intItems xs),⟨⟨_,L0 _ rfl,rfl,rfl⟩,ht.push _⟩,λb hb=>?_,by simpa [intItems]using hne,CmpOf.ints_lt (numAt xs) (λ_ _=>intItems_at),λv h' tk hP hk=>?_⟩
 ·rcases W0.mp hb with rfl|hb
  ·exact G0 (L0 _ rfl)
  ·obtain rfl:=Z0.mp hb;exact G0 (g0 _ ho)
 ·exact h v h' tk (by simpa [intItems]using hP) λb o e=>hk b o (λhb=>absurd (G0 e) ((Z0.mp hb) ▸ K3 _)) (g0 _ e)
theorem Wj{l:Addr}{xs:Array (Int×Tok)}(hh:A.handled=none)(ht:s.heap.IsTuple l (intItems xs))(hne:0 < xs.size)(h:∀v h' tk,(intItems xs)[argBest (λi j=>decide (numAt xs i > numAt xs j)) (xs.size - 1)]?=some v->(∀b o,s.heap.get? b=some o->h'.get? b=some o)->Q v { s with heap:=h',toks:=tk }):wpAny (model prog w) A (call (.builtin "max") [.ref l]) Q E s:=by
 obtain⟨o,ho,hc,n,hd⟩:=id ht;have hn:l≠s.heap.objs.size:=U0 (G0 ho);refine call_max_walk (wpAny_pyIter_tuple ht ?_);refine ⟨s.heap.objs.size,_,_,_,_,_,_,rfl,Walks.tuple (A:=A.in1) hh _ l hn (intItems xs),⟨⟨_,L0 _ rfl,rfl,rfl⟩,ht.push _⟩,λb hb=>?_,by simpa [intItems]using hne,CmpOf.ints_gt (numAt xs) (λ_ _=>intItems_at),λv h' tk hP hk=>?_⟩
 ·rcases W0.mp hb with rfl|hb
  ·exact G0 (L0 _ rfl)
  ·obtain rfl:=Z0.mp hb;exact G0 (g0 _ ho)
 ·exact h v h' tk (by simpa [intItems]using hP) λb o e=>hk b o (λhb=>absurd (G0 e) ((Z0.mp hb) ▸ K3 _)) (g0 _ e)
def OM(K:n0):List V->Hp->VK->Prop:=λxs H Q=>∃(a:Addr) (ns:List Int),xs=[.ref a]/\(SqL K H a (ns.map V.int)\/SqT K H a (ns.map V.int))/\0 < ns.length/\∀M,M∈ns->(∀y∈ns,M<=y)->Q (.int M) H
def PM(K:n0):List V->Hp->VK->Prop:=λxs H Q=>∃(a:Addr) (ns:List Int),xs=[.ref a]/\(SqL K H a (ns.map V.int)\/SqT K H a (ns.map V.int))/\0 < ns.length/\∀M,M∈ns->(∀y∈ns,y<=M)->Q (.int M) H
theorem Xj{K:n0}(hK:X.K=K)(hc:X.calm=true):dX X (.builtin "min") (OM K):=by
 subst hK;intro pins s σ H xs us Q I r h;obtain⟨a,ns,rfl,hq,hp,q⟩:=h;obtain⟨u,rfl,ru⟩:=qZ r;cases ru;have hh:=I.ok.hd hc;have fin:∀{its:List Value}{zs:Array (Int×Tok)},Vals (ns.map V.int) its->its.toArray=intItems zs->0 < zs.size/\∀(v:Value) (h':Heap) (tk:Nat),(intItems zs)[argBest (λi j=>decide (numAt zs i < numAt zs j)) (zs.size - 1)]?=some v->(∀b o,s.heap.get? b=some o->h'.get? b=some o)->EP X pins σ Q v { s with heap:=h',toks:=tk }:=by
  intro its zs rv e;have hi:IntsAre its ns:=eX rv;have hns:ns=zs.toList.map (·.1):=by rw[<- nums_intItems,<- e];exact (show numsOf its.toArray.toList=ns from hi.numsOf).symm
  have hsz:0 < zs.size:=by have h3:=hp;rw[hns,j0,S0]at h3;exact h3
  refine ⟨hsz,λv h' tk hv hk=>?_⟩;obtain⟨t,rfl⟩:=intItems_at hv;obtain⟨h1,h2⟩:=argBest_lt (numAt zs) (zs.size - 1);refine ⟨.int _,H,I.kept hk,⟨t,rfl⟩,q _ ?_ λy hy=>?_⟩
  ·rw[hns,numAt_eq];exact getD_mem (by rw[j0,S0];omega)
  ·rw[hns]at hy;obtain⟨j,hj,rfl⟩:=mem_getD hy;rw[j0,S0]at hj;rw[<- numAt_eq];exact h2 j (by omega)
 rcases hq with hq|hq
 ·obtain⟨its,rv,p,hz⟩:=I.list hq;obtain⟨zs,hx⟩:=(eX rv).allInts.items;obtain⟨hs,f⟩:=fin rv hx;exact min_intList hh (hx ▸ p.isList) hs f
 ·obtain⟨its,rv,p,hz⟩:=I.tuple hq;obtain⟨zs,hx⟩:=(eX rv).allInts.items;obtain⟨hs,f⟩:=fin rv hx;exact Vj hh (show s.heap.IsTuple a (intItems zs) from hx ▸ p) hs f
theorem Yj{K:n0}(hK:X.K=K)(hc:X.calm=true):dX X (.builtin "max") (PM K):=by
 subst hK;intro pins s σ H xs us Q I r h;obtain⟨a,ns,rfl,hq,hp,q⟩:=h;obtain⟨u,rfl,ru⟩:=qZ r;cases ru;have hh:=I.ok.hd hc;have fin:∀{its:List Value}{zs:Array (Int×Tok)},Vals (ns.map V.int) its->its.toArray=intItems zs->0 < zs.size/\∀(v:Value) (h':Heap) (tk:Nat),(intItems zs)[argBest (λi j=>decide (numAt zs i > numAt zs j)) (zs.size - 1)]?=some v->(∀b o,s.heap.get? b=some o->h'.get? b=some o)->EP X pins σ Q v { s with heap:=h',toks:=tk }:=by
  intro its zs rv e;have hi:IntsAre its ns:=eX rv;have hns:ns=zs.toList.map (·.1):=by rw[<- nums_intItems,<- e];exact (show numsOf its.toArray.toList=ns from hi.numsOf).symm
  have hsz:0 < zs.size:=by have h3:=hp;rw[hns,j0,S0]at h3;exact h3
  refine ⟨hsz,λv h' tk hv hk=>?_⟩;obtain⟨t,rfl⟩:=intItems_at hv;obtain⟨h1,h2⟩:=argBest_gt (numAt zs) (zs.size - 1);refine ⟨.int _,H,I.kept hk,⟨t,rfl⟩,q _ ?_ λy hy=>?_⟩
  ·rw[hns,numAt_eq];exact getD_mem (by rw[j0,S0];omega)
  ·rw[hns]at hy;obtain⟨j,hj,rfl⟩:=mem_getD hy;rw[j0,S0]at hj;rw[<- numAt_eq];exact h2 j (by omega)
 rcases hq with hq|hq
 ·obtain⟨its,rv,p,hz⟩:=I.list hq;obtain⟨zs,hx⟩:=(eX rv).allInts.items;obtain⟨hs,f⟩:=fin rv hx;exact max_intList hh (hx ▸ p.isList) hs f
 ·obtain⟨its,rv,p,hz⟩:=I.tuple hq;obtain⟨zs,hx⟩:=(eX rv).allInts.items;obtain⟨hs,f⟩:=fin rv hx;exact Wj hh (show s.heap.IsTuple a (intItems zs) from hx ▸ p) hs f
end L2
namespace L3
open L2
section
variable {σ:L2.St}{v:V}{Q:L2.St->Hp->Prop}
end
noncomputable def qP:D->(Sl->Prop)->Prop
 | .list ds,Q=>∃ns:List Int,ds=ns.map i0/\0 < ns.length/\∀M,M∈ns->(∀y∈ns,M<=y)->Q (.fz (.int M))
 | .tuple ds,Q=>∃ns:List Int,ds=ns.map i0/\0 < ns.length/\∀M,M∈ns->(∀y∈ns,M<=y)->Q (.fz (.int M))
 | _,_=>False
noncomputable def rP:D->(Sl->Prop)->Prop
 | .list ds,Q=>∃ns:List Int,ds=ns.map i0/\0 < ns.length/\∀M,M∈ns->(∀y∈ns,y<=M)->Q (.fz (.int M))
 | .tuple ds,Q=>∃ns:List Int,ds=ns.map i0/\0 < ns.length/\∀M,M∈ns->(∀y∈ns,y<=M)->Q (.fz (.int M))
 | _,_=>False
theorem RE:SQ K (OM K) (o1 qP):=bG λG F σ H ρ x d Q Qd R h1 w k=>by
 match d,h1,w with
 | .list ds,h1,⟨ns,e,hp,w⟩=>subst e;obtain⟨a,us,rfl,e1,d1⟩:=h1.list R.sub;have:=d1.intsV;subst this;exact ⟨a,ns,rfl,.inl (SqL.of e1),hp,λM m1 m2=>k _ H F (.fz _) (Sub.refl _) R (Da.int _) (w M m1 m2)⟩
 | .tuple ds,h1,⟨ns,e,hp,w⟩=>subst e;obtain⟨a,us,rfl,_,e1,d1⟩:=h1.tuple R.sub;have:=d1.intsV;subst this;exact ⟨a,ns,rfl,.inr (SqT.of e1),hp,λM m1 m2=>k _ H F (.fz _) (Sub.refl _) R (Da.int _) (w M m1 m2)⟩
theorem SE:SQ K (PM K) (o1 rP):=bG λG F σ H ρ x d Q Qd R h1 w k=>by
 match d,h1,w with
 | .list ds,h1,⟨ns,e,hp,w⟩=>subst e;obtain⟨a,us,rfl,e1,d1⟩:=h1.list R.sub;have:=d1.intsV;subst this;exact ⟨a,ns,rfl,.inl (SqL.of e1),hp,λM m1 m2=>k _ H F (.fz _) (Sub.refl _) R (Da.int _) (w M m1 m2)⟩
 | .tuple ds,h1,⟨ns,e,hp,w⟩=>subst e;obtain⟨a,us,rfl,_,e1,d1⟩:=h1.tuple R.sub;have:=d1.intsV;subst this;exact ⟨a,ns,rfl,.inr (SqT.of e1),hp,λM m1 m2=>k _ H F (.fz _) (Sub.refl _) R (Da.int _) (w M m1 m2)⟩
open L2
section
variable {G:Gh}{F F' H':Hp}{σ:L2.St}
theorem Rel.grown(R:Rel K G F σ H ρ)(sb:Sub F F')(su:Sub F' H')(fn:∀b o,F' b=some o->F b=some o\/H b=none)(kp:∀b o,(∀z∈TB K,z.1≠b)->H b=some o->H' b=some o)(tb:TabOk K F' H'):Rel K G F' σ H' ρ:=by
 refine ⟨R.len,su,R.sub0.trans sb,λb o e=>?_,λa o e n t=>kp _ _ t (R.keep a o e n t),tb,λi d e=>?_,λi s e w=>?_,R.new,R.io,R.ioi,R.ap⟩
 ·rcases fn b o e with q|q
  ·exact R.fn b o q
  ·exact .inr (R.h0 q)
 ·obtain⟨v,h1,h2⟩:=R.fz i d e;exact ⟨v,h1,h2.mono sb⟩
 ·obtain⟨a,o,h1,h2,h3,h4⟩:=R.ow i s e w;refine ⟨a,o,h1,?_,kp _ _ (R.tb.ne λu z=>by rw[h3]at z;cases z;exact h4.stk) h3,h4.mono sb⟩;cases q:F' a with
  | none=>rfl
  | some u =>
   rcases fn a u q with z|z
   ·rw[h2]at z;cases z
   ·rw[h3]at z;cases z
end
section
variable {e:Expr}{es:List Expr}{as:List AD}{x:Str}{p pos:Pos}
end
end L3
namespace SG
noncomputable def Fq:Bool->Keyed->Array Keyed->Nat->Nat->Nat->StateT SortSt Sem (Option Nat):=sortPriv% PySem.Builtin.gallop
noncomputable def jO:Array Keyed->Array Keyed->StateT SortSt Sem (Array Keyed):=sortPriv% PySem.Builtin.mergeLo
noncomputable def kO:Array Keyed->Array Keyed->StateT SortSt Sem (Array Keyed):=sortPriv% PySem.Builtin.mergeHi
noncomputable abbrev QK(z:SortSt)(g:Nat):SortSt:=SortSt.mk' (kindOf z) (arrOf z) (pendingOf z) g (failedOf z)
theorem UE(lf:Bool)(ky:Keyed)(xs:Array Keyed)(bs n ht:Nat):Fq lf ky xs bs n ht=(do
    let ov (i:Nat):StateT SortSt Sem (Option Bool):=do
      let z<-elem' xs (bs+i)
      if lf then lt' z ky else return (<- lt' ky z).map (!·)
    let mut la:=0
    let mut o:=1
    let mut l:=0
    let mut h:=0
    let some rt<-ov ht|return none
    if rt then
      let mx:=n - ht
      for _ in [0:n] do
        if o ≥ mx then break
        let some mo<-ov (ht+o)|return none
        if !mo then break
        la:=o
        o:=2 * o+1
      l:=ht+la+1
      h:=ht+min o mx
    else
      let mx:=ht+1
      for _ in [0:n] do
        if o ≥ mx then break
        let some fo<-ov (ht - o)|return none
        if fo then break
        la:=o
        o:=2 * o+1
      l:=ht+1 - min o mx
      h:=ht - la
    for _ in [0:n] do
      if l ≥ h then break
      let m:=l+(h - l) / 2
      let some mo<-ov m|return none
      if mo then l:=m+1 else h:=m
    return some h):=rfl
section
variable {κ:SortKind}{rk:Keyed->Nat}{S:Keyed->Prop}
def uZ(prog:Program)(w:World)(A:Around)(s:Shared)(κ:SortKind)(rk:Keyed->Nat)(S:Keyed->Prop):Prop:=∀x y:Keyed,S x->S y->∀Q:Bool->Shared->Prop,Q (decide (rk x < rk y)) s->wpAny (model prog w) A (keyLt' κ x.1 y.1) Q (λ_ _=>False) s
theorem w_lt(q:uZ prog w A s κ rk S){x y:Keyed}{st:SortSt}{Q:Option Bool->SortSt->Prop}(hk:kindOf st=κ)(hx:S x)(hy:S y)(h:Q (some (decide (rk x < rk y))) st):wpS (model prog w) A E s (lt' x y) Q st:=by
 rw[lt'_eq];refine wpS_bind (wpS_get ?_);rw[hk];refine wpS_bind (wpS_lift (wpAny_attempt (wpAny_mono (q x y hx hy (λb s'=>b=decide (rk x < rk y)/\s'=s) ⟨rfl,rfl⟩) (λb s' e=>?_) λ_ _ e=>e.elim)));obtain⟨rfl,rfl⟩:=e;exact ⟨rfl,wpS_pure h⟩
theorem ZQ{xs:Array Keyed}{i:Nat}{st:SortSt}{Q:Keyed->SortSt->Prop}(hi:i < xs.size)(h:Q xs[i] st):wpS (model prog w) A E s (elem' xs i) Q st:=by rw[elem'_eq,getElem?_pos xs i hi];exact wpS_pure h
def Ov(prog:Program)(w:World)(A:Around)(E:Value->Shared->Prop)(s:Shared)(n:Nat)(b:Nat->Bool)(st:SortSt)(ov:Nat->StateT SortSt Sem (Option Bool)):Prop:=∀i,i < n->∀Q:Option Bool->SortSt->Prop,Q (some (b i)) st->wpS (model prog w) A E s (ov i) Q st
noncomputable def QM(ov:Nat->StateT SortSt Sem (Option Bool))(n l₀ h₀:Nat):StateT SortSt Sem (Option Nat):=do
 let mut l:=l₀
 let mut h:=h₀
 for _ in [0:n] do
  if l ≥ h then break
  let m:=l+(h - l) / 2
  let some mo<-ov m|return none
  if mo then l:=m+1 else h:=m
 return some h
theorem w_bin{ov:Nat->StateT SortSt Sem (Option Bool)}{l h':Nat}{b:Nat->Bool}{st:SortSt}{Q:Option Nat->SortSt->Prop}(hO:Ov prog w A E s n b st ov)(hm:∀i j,i<=j->j < n->b j=true->b i=true) (h1:l<=h') (h2:h'<=n) (h3:∀i,i < l->b i=true) (h4:∀i,h'<=i->i < n->b i=false)(h:∀k,k<=n->(∀i,i < k->b i=true)->(∀i,k<=i->i < n->b i=false)->Q (some k) st):wpS (model prog w) A E s (QM ov n l h') Q st:=by
 unfold QM;refine wpS_bind (wpS_mono (wpS_forRange (I:=λx c st'=>st'=st/\∃l h',c=(none,l,h')/\l<=h'/\h'<=n/\h' - l<=n - x/\(∀i,i < l->b i=true)/\∀i,h'<=i->i < n->b i=false)
   (Q:=λc st'=>st'=st/\∃k,c=(none,k,k)/\k<=n/\(∀i,i < k->b i=true)/\∀i,k<=i->i < n->b i=false) ?step ?fin ⟨rfl,l,h',rfl,h1,h2,by omega,h3,h4⟩) ?post)
 case fin =>
  rintro c st' ⟨rfl,l,h',rfl,a1,a2,a3,a4,a5⟩;have:l=h':=by omega
  subst this;exact ⟨rfl,l,rfl,a2,a4,a5⟩
 case post=>rintro c st' ⟨rfl,k,rfl,a1,a2,a3⟩;exact wpS_pure (h k a1 a2 a3)
 case step =>
  rintro x c st' _ hx ⟨rfl,l,h',rfl,a1,a2,a3,a4,a5⟩;dsimp only;by_cases hge:l ≥ h'
  ·rw[if_pos hge];have:l=h':=by omega
   subst this;exact wpS_pure ⟨rfl,l,rfl,a2,a4,a5⟩
  ·rw[if_neg hge];refine wpS_bind (hO _ (by omega) _ ?_);cases hb:b (l+(h' - l) / 2) with
   | true=>refine wpS_pure ⟨rfl,_,_,rfl,by omega,a2,by omega,λi hi=>hm _ _ (by omega) (by omega) hb,a5⟩
   | false =>
    refine wpS_pure ⟨rfl,_,_,rfl,by omega,by omega,by omega,a4,λi i1 i2=>?_⟩;cases hbi:b i with
    | false=>rfl
    | true=>rw[hm _ _ i1 i2 hbi]at hb;cases hb
theorem RM{lf:Bool}{ky:Keyed}{xs:Array Keyed}{bs ht:Nat}{st:SortSt}{Q:Option Nat->SortSt->Prop}{b:Nat->Bool}
  (hO:Ov prog w A E s n b st (λi=>do
    let z<-elem' xs (bs+i)
    if lf then lt' z ky else return (<- lt' ky z).map (!·)))
  (hm:∀i j,i<=j->j < n->b j=true->b i=true) (hh:ht < n)
  (h:∀k,k<=n->(∀i,i < k->b i=true)->(∀i,k<=i->i < n->b i=false)->Q (some k) st):wpS (model prog w) A E s (Fq lf ky xs bs n ht) Q st:=by
 rw[UE];generalize hov:(λi=>(do
     let z<-elem' xs (bs+i)
     if lf then lt' z ky else return (<- lt' ky z).map (!·):StateT SortSt Sem (Option Bool)))=ov at hO;dsimp only;clear hov;refine wpS_bind (hO ht hh _ ?_);cases hb:b ht with
 | true =>
  dsimp only;rw[if_pos rfl];refine wpS_bind (wpS_mono (wpS_forRange (I:=λx c st'=>st'=st/\∃la o:Nat,c=(none,la,o)/\la < o/\x+1<=o/\ht+la < n/\b (ht+la)=true)
    (Q:=λc st'=>st'=st/\∃la o:Nat,c=(none,la,o)/\la < o/\ht+la < n/\b (ht+la)=true/\(n - ht<=o\/b (ht+o)=false)) ?step ?fin ⟨rfl,0,1,rfl,by omega,by omega,by omega,hb⟩) ?post)
  case fin=>rintro c st' ⟨rfl,la,o,rfl,a1,a2,a3,a4⟩;exact ⟨rfl,la,o,rfl,a1,a3,a4,.inl (by omega)⟩
  case step =>
   rintro x c st' _ hx ⟨rfl,la,o,rfl,a1,a2,a3,a4⟩;dsimp only;by_cases hge:o ≥ n - ht
   ·rw[if_pos hge];exact wpS_pure ⟨rfl,la,o,rfl,a1,a3,a4,.inl hge⟩
   ·rw[if_neg hge];refine wpS_bind (hO _ (by omega) _ ?_);cases hbo:b (ht+o) with
    | true=>exact wpS_pure ⟨rfl,o,2 * o+1,rfl,by omega,by omega,by omega,hbo⟩
    | false=>exact wpS_pure ⟨rfl,la,o,rfl,a1,a3,a4,.inr hbo⟩
  case post =>
   rintro c st' ⟨rfl,la,o,rfl,a1,a3,a4,a5⟩;refine w_bin hO hm (l:=ht+la+1) (h':=ht+min o (n - ht)) (by omega) (by omega) (λi hi=>hm _ _ (by omega) a3 a4) (λi i1 i2=>?_) h;rcases a5 with a5|a5
   ·omega
   ·cases hbi:b i with
    | false=>rfl
    | true=>rw[hm (ht+o) i (by omega) i2 hbi]at a5;cases a5
 | false =>
  dsimp only;rw[if_neg (by decide)];refine wpS_bind (wpS_mono (wpS_forRange (I:=λx c st'=>st'=st/\∃la o:Nat,c=(none,la,o)/\la < o/\x+1<=o/\la<=ht/\b (ht - la)=false)
    (Q:=λc st'=>st'=st/\∃la o:Nat,c=(none,la,o)/\la < o/\la<=ht/\b (ht - la)=false/\(ht+1<=o\/b (ht - o)=true)) ?step2 ?fin2 ⟨rfl,0,1,rfl,by omega,by omega,by omega,hb⟩) ?post2)
  case fin2=>rintro c st' ⟨rfl,la,o,rfl,a1,a2,a3,a4⟩;exact ⟨rfl,la,o,rfl,a1,a3,a4,.inl (by omega)⟩
  case step2 =>
   rintro x c st' _ hx ⟨rfl,la,o,rfl,a1,a2,a3,a4⟩;dsimp only;by_cases hge:o ≥ ht+1
   ·rw[if_pos hge];exact wpS_pure ⟨rfl,la,o,rfl,a1,a3,a4,.inl hge⟩
   ·rw[if_neg hge];refine wpS_bind (hO _ (by omega) _ ?_);cases hbo:b (ht - o) with
    | false=>exact wpS_pure ⟨rfl,o,2 * o+1,rfl,by omega,by omega,by omega,hbo⟩
    | true=>exact wpS_pure ⟨rfl,la,o,rfl,a1,a3,a4,.inr hbo⟩
  case post2 =>
   rintro c st' ⟨rfl,la,o,rfl,a1,a3,a4,a5⟩;have up:∀i,ht - la<=i->i < n->b i=false:=λi i1 i2=>by
    cases hbi:b i with
    | false=>rfl
    | true=>rw[hm (ht - la) i i1 i2 hbi]at a4;cases a4
   refine w_bin hO hm (l:=ht+1 - min o (ht+1)) (h':=ht - la) (by omega) (by omega) (λi hi=>?_) up h;rcases a5 with a5|a5
   ·omega
   ·exact hm _ (ht - o) (by omega) (by omega) a5
theorem RZ(q:uZ prog w A s κ rk S){lf:Bool}{ky:Keyed}{xs:Array Keyed}{bs n ht:Nat}{st:SortSt}{Q:Option Nat->SortSt->Prop}(hk:kindOf st=κ)(hy:S ky)(hS:∀i (h:i < xs.size),S xs[i])
  (hn:bs+n<=xs.size) (hs:∀i j (h:j < xs.size) (h2:i<=j),bs<=i->j < bs+n->rk (xs[i]'(by omega))<=rk xs[j]) (hh:ht < n)
  (h:∀k,k<=n->(∀i (h:i < xs.size),bs<=i->i < bs+k->if lf=true then rk xs[i] < rk ky else rk xs[i]<=rk ky)->(∀i (h:i < xs.size),bs+k<=i->i < bs+n->if lf=true then rk ky<=rk xs[i] else rk ky < rk xs[i])->Q (some k) st) :
  wpS (model prog w) A E s (Fq lf ky xs bs n ht) Q st:=by
 refine RM (b:=λi=>if hi:bs+i < xs.size then (if lf=true then decide (rk xs[bs+i] < rk ky) else !decide (rk ky < rk xs[bs+i])) else false) ?_ ?_ hh ?_
 ·intro i hi Q hQ;have hi':bs+i < xs.size:=by omega
  simp only[dif_pos hi']at hQ;refine wpS_bind (ZQ hi' ?_);cases lf with
  | true=>exact w_lt q hk (hS _ _) hy hQ
  | false=>exact wpS_bind (w_lt q hk hy (hS _ _) (wpS_pure hQ))
 ·intro i j hij hj hb;have hj':bs+j < xs.size:=by omega
  have hi':bs+i < xs.size:=by omega
  have hle:=hs (bs+i) (bs+j) hj' (by omega) (by omega) (by omega);simp only[dif_pos hj']at hb;simp only[dif_pos hi'];cases lf with
  | true=>simp at hb ⊢;omega
  | false=>simp at hb ⊢;omega
 ·intro k hk h1 h2;refine h k hk (λi hi i1 i2=>?_) (λi hi i1 i2=>?_)
  ·have:=h1 (i - bs) (by omega);have e:bs+(i - bs)=i:=by omega
   simp only[e,dif_pos hi]at this;cases lf with
   | true=>simpa using this
   | false=>simpa using this
  ·have:=h2 (i - bs) (by omega) (by omega);have e:bs+(i - bs)=i:=by omega
   simp only[e,dif_pos hi]at this;cases lf with
   | true=>simpa using this
   | false=>simpa using this
end
section
variable {le:α->α->Prop}{a b out:List α}{i j:Nat}
structure Mg(le:α->α->Prop)(a b out:List α)(i j:Nat):Prop where
 perm:out.Perm (a.take i++b.take j)
 srt:out.Pairwise le
 la:∀x∈out,∀y∈a.drop i,le x y
 lb:∀x∈out,∀y∈b.drop j,le x y
theorem Mg.comm(h:Mg le a b out i j):Mg le b a out j i:=⟨h.perm.trans B7,h.srt,h.lb,h.la⟩
theorem Mg.takeA(h:Mg le a b out i j)(ha:a.Pairwise le)(k:Nat)(hk:∀x∈(a.drop i).take k,∀y∈b.drop j,le x y):Mg le a b (out++(a.drop i).take k) (i+k) j where
 perm:=by rw[List.take_add];refine (h.perm.append_right _).trans ?_;rw[E2,E2];exact List.Perm.append_left _ B7
 srt:=V5.mpr ⟨h.srt,(ha.sublist (t7 _ _)).sublist (m7 _ _),λx hx y hy=>h.la x hx y (S3 hy)⟩
 la:=λx hx y hy=>by
  rw[<- m9]at hy;rcases E1.mp hx with hx|hx
  ·exact h.la x hx y (j4 hy)
  ·have p:=ha.sublist (t7 i _);rw[<- W4 k (a.drop i)]at p;exact (V5.mp p).2.2 x hx y hy
 lb:=λx hx y hy=>by
  rcases E1.mp hx with hx|hx
  ·exact h.lb x hx y hy
  ·exact hk x hx y hy
theorem Mg.oneA(h:Mg le a b out i j)(ha:a.Pairwise le)(hi:i < a.length)(hk:∀y∈b.drop j,le a[i] y):Mg le a b (out++[a[i]]) (i+1) j:=by
 have e:(a.drop i).take 1=[a[i]]:=by rw[V4 hi];rfl
 have:=h.takeA ha 1 (by rw[e];simpa using hk);rwa [e]at this
theorem Mg.fin(h:Mg le a b out i j)(ha:a.Pairwise le)(hb:b.Pairwise le)(hx:∀x∈a.drop i,∀y∈b.drop j,le x y):(out++a.drop i++b.drop j).Perm (a++b)/\(out++a.drop i++b.drop j).Pairwise le:=by
 constructor
 ·have e:(a.take i++b.take j++a.drop i++b.drop j).Perm (a.take i++a.drop i++(b.take j++b.drop j)):=by
   simp only[E2];refine List.Perm.append_left _ ?_;rw[<- E2,<- E2];exact B7.append_right _
  rw[W4,W4]at e;exact ((h.perm.append_right _).append_right _).trans e
 ·rw[E2];refine V5.mpr ⟨h.srt,V5.mpr ⟨ha.sublist (t7 _ _),hb.sublist (t7 _ _),hx⟩,λx hx y hy=>?_⟩;rcases E1.mp hy with hy|hy
  ·exact h.la x hx y hy
  ·exact h.lb x hx y hy
theorem Mg.finC(h:Mg le a b out i j)(ha:a.Pairwise le)(hb:b.Pairwise le)(hx:∀x∈b.drop j,∀y∈a.drop i,le x y):(out++b.drop j++a.drop i).Perm (a++b)/\(out++b.drop j++a.drop i).Pairwise le:=by obtain⟨h1,h2⟩:=h.comm.fin hb ha hx;exact ⟨h1.trans B7,h2⟩
end
noncomputable abbrev Yv:=Option (Array Keyed)×Array Keyed×Nat×Nat×Nat×Nat×Nat
noncomputable abbrev lO:=Option (Array Keyed)×Array Keyed×Nat×Nat×Nat×Nat
noncomputable abbrev mO:=Option (Array Keyed)×Array Keyed×Nat×Nat×Nat
section
variable (x y:Array Keyed)
noncomputable def dn(o:Array Keyed)(i j:Nat):Array Keyed:=o++x.extract i x.size++y.extract j y.size
noncomputable def ls(o:Array Keyed)(i j:Nat):Array Keyed:=o++y.extract j y.size++x.extract i x.size
noncomputable def nO(o:Array Keyed)(i j g ac bc:Nat):StateT SortSt Sem (ForInStep Yv):=do
 let z<-elem' x i
 if (i+1+1==x.size)=true then pure (.done (some (ls x y (o.push z) (i+1) j),o.push z,i+1,j,g,ac,bc))
 else if (decide (ac < 7)&&decide (bc < 7))=true then pure (.done (none,o.push z,i+1,j,g,ac,bc))
 else pure (.yield (none,o.push z,i+1,j,g,ac,bc))
noncomputable def oO(o:Array Keyed)(i j g ac bc:Nat):StateT SortSt Sem (ForInStep Yv):=do
 let z<-elem' y j
 if (j+1==y.size)=true then pure (.done (some (dn x y (o.push z) i (j+1)),o.push z,i,j+1,g,ac,bc))
 else do
  let u<-elem' x i
  let some k<-Fq true u y (j+1) (y.size - (j+1)) 0|pure (.done (some (dn x y (o.push z) i (j+1)),o.push z,i,j+1,g,ac,bc))
  if k > 0 then
   if (j+1+k==y.size)=true then pure (.done (some (dn x y (o.push z++y.extract (j+1) (j+1+k)) i (j+1+k)),o.push z++y.extract (j+1) (j+1+k),i,j+1+k,g,ac,k))
   else nO x y (o.push z++y.extract (j+1) (j+1+k)) i (j+1+k) g ac k
  else nO x y (o.push z) i (j+1) g ac k
noncomputable def pO(o:Array Keyed)(i j g ac bc:Nat):StateT SortSt Sem (ForInStep Yv):=do
 modify λv=>QK v g
 let z<-elem' y j
 let some k<-Fq false z x i (x.size - i) 0|pure (.done (some (dn x y o i j),o,i,j,g,ac,bc))
 if k > 0 then
   if (i+k+1==x.size)=true then pure (.done (some (ls x y (o++x.extract i (i+k)) (i+k) j),o++x.extract i (i+k),i+k,j,g,k,bc))
   else if (i+k==x.size)=true then pure (.done (some (dn x y (o++x.extract i (i+k)) (i+k) j),o++x.extract i (i+k),i+k,j,g,k,bc))
   else oO x y (o++x.extract i (i+k)) (i+k) j g k bc
 else oO x y o i j g k bc
noncomputable def sP(t:Yv):StateT SortSt Sem (ForInStep Yv) :=
 if t.2.2.2.2.1 > 1 then pO x y t.2.1 t.2.2.1 t.2.2.2.1 (t.2.2.2.2.1 - 1) t.2.2.2.2.2.1 t.2.2.2.2.2.2
 else pO x y t.2.1 t.2.2.1 t.2.2.2.1 t.2.2.2.2.1 t.2.2.2.2.2.1 t.2.2.2.2.2.2
noncomputable def uP(g:Nat)(t:lO):StateT SortSt Sem (ForInStep lO):=do
 let z<-elem' y t.2.2.2.1
 let u<-elem' x t.2.2.1
 let some yw<-lt' z u|pure (.done (some (dn x y t.2.1 t.2.2.1 t.2.2.2.1),t.2.1,t.2.2.1,t.2.2.2.1,t.2.2.2.2.1,t.2.2.2.2.2))
 if yw=true then do
   let z<-elem' y t.2.2.2.1
   if (t.2.2.2.1+1==y.size)=true then pure (.done (some (dn x y (t.2.1.push z) t.2.2.1 (t.2.2.2.1+1)),t.2.1.push z,t.2.2.1,t.2.2.2.1+1,0,t.2.2.2.2.2+1))
   else if t.2.2.2.2.2+1 ≥ g then pure (.done (none,t.2.1.push z,t.2.2.1,t.2.2.2.1+1,0,t.2.2.2.2.2+1))
   else pure (.yield (none,t.2.1.push z,t.2.2.1,t.2.2.2.1+1,0,t.2.2.2.2.2+1))
 else do
   let z<-elem' x t.2.2.1
   if (t.2.2.1+1+1==x.size)=true then pure (.done (some (ls x y (t.2.1.push z) (t.2.2.1+1) t.2.2.2.1),t.2.1.push z,t.2.2.1+1,t.2.2.2.1,t.2.2.2.2.1+1,0))
   else if t.2.2.2.2.1+1 ≥ g then pure (.done (none,t.2.1.push z,t.2.2.1+1,t.2.2.2.1,t.2.2.2.2.1+1,0))
   else pure (.yield (none,t.2.1.push z,t.2.2.1+1,t.2.2.2.1,t.2.2.2.2.1+1,0))
noncomputable def qO(t:mO):StateT SortSt Sem (ForInStep mO):=do
 let v<-forIn [:x.size+y.size] ((none,t.2.1,t.2.2.1,t.2.2.2.1,0,0):lO) λ_ v=>uP x y t.2.2.2.2 v
 match v.1 with
 | some r=>pure (.done (some r,v.2.1,v.2.2.1,v.2.2.2.1,t.2.2.2.2))
 | none=>do
  liftM (rule "list.sort.gallop")
  let u<-forIn [:x.size+y.size] ((none,v.2.1,v.2.2.1,v.2.2.2.1,t.2.2.2.2+1,v.2.2.2.2.1,v.2.2.2.2.2):Yv) λ_ u=>sP x y u
  match u.1 with
  | some r=>pure (.done (some r,u.2.1,u.2.2.1,u.2.2.2.1,u.2.2.2.2.1))
  | none=>do
   modify λz=>QK z (u.2.2.2.2.1+1)
   pure (.yield (none,u.2.1,u.2.2.1,u.2.2.2.1,u.2.2.2.2.1+1))
end
theorem Zv(x y:Array Keyed):jO x y=(do
    rule "list.sort.merge-lo"
    let tt:=x.size+y.size
    let dn (o:Array Keyed) (i j:Nat):=o++x.extract i x.size++y.extract j y.size
    let ls (o:Array Keyed) (i j:Nat):=o++y.extract j y.size++x.extract i x.size
    let mut o:Array Keyed:=#[<- elem' y 0]
    let mut i:=0
    let mut j:=1
    if j==y.size then return dn o i j
    if i+1==x.size then return ls o i j
    let mut g:=gallopOf (<- get)
    for _ in [0:tt] do
      let mut ac:=0
      let mut bc:=0
      for _ in [0:tt] do
        let some yw<-lt' (<- elem' y j) (<- elem' x i)|return dn o i j
        if yw then
          o:=o.push (<- elem' y j);j:=j+1;bc:=bc+1;ac:=0
          if j==y.size then return dn o i j
          if bc ≥ g then break
        else
          o:=o.push (<- elem' x i);i:=i+1;ac:=ac+1;bc:=0
          if i+1==x.size then return ls o i j
          if ac ≥ g then break
      rule "list.sort.gallop"
      g:=g+1
      for _ in [0:tt] do
        if g > 1 then g:=g - 1
        modify (QK · g)
        let some k<-Fq false (<- elem' y j) x i (x.size - i) 0|return dn o i j
        ac:=k
        if k > 0 then
          o:=o++x.extract i (i+k);i:=i+k
          if i+1==x.size then return ls o i j
          if i==x.size then return dn o i j
        o:=o.push (<- elem' y j);j:=j+1
        if j==y.size then return dn o i j
        let some k<-Fq true (<- elem' x i) y j (y.size - j) 0|return dn o i j
        bc:=k
        if k > 0 then
          o:=o++y.extract j (j+k);j:=j+k
          if j==y.size then return dn o i j
        o:=o.push (<- elem' x i);i:=i+1
        if i+1==x.size then return ls o i j
        if ac < 7&&bc < 7 then break
      g:=g+1
      modify (QK · g)
    unsupported "internal:list.sort.merge-bound"):=rfl
theorem VE(x y:Array Keyed):jO x y=(do
    liftM (rule "list.sort.merge-lo")
    let z<-elem' y 0
    if (1==y.size)=true then pure (dn x y #[z] 0 1)
    else if (0+1==x.size)=true then pure (ls x y #[z] 0 1)
    else do
      let s<-get
      let v<-forIn [:x.size+y.size] ((none,#[z],0,1,gallopOf s):mO) λ_ v=>qO x y v
      match v.1 with
      | some r=>pure r
      | none=>unsupported "internal:list.sort.merge-bound"):=by
 rw[Zv];dsimp only;refine congrArg (bind _) (funext λ_=>?_);refine congrArg (bind _) (funext λz=>?_);refine congr (congrArg _ rfl) ?_;refine congr (congrArg _ rfl) ?_;refine congrArg (bind _) (funext λs=>?_);refine congr (congrArg bind ?A) (funext λv=>by obtain⟨r,v⟩:=v;cases r<;>rfl);refine congrArg _ (funext λ_=>funext λv=>?_);unfold qO;refine congr (congrArg bind rfl) (funext λv=>?_);obtain⟨r,v⟩:=v;cases r with
 | some r=>rfl
 | none=>refine congrArg (bind _) (funext λ_=>?_);refine congr (congrArg bind ?A2) (funext λv=>by obtain⟨r,v⟩:=v;cases r<;>rfl);rfl
section
variable {x y o:Array α}{i j k:Nat}
theorem RY:(x.extract i x.size).toList=x.toList.drop i:=by rw[L4,T3,W1 (by simp)]
theorem Uu:(x.extract i (i+k)).toList=(x.toList.drop i).take k:=by rw[L4,T3,Z5]
theorem LX{v:α}(h:v∈x.toList.drop i):∃(n:Nat) (hn:n < x.size),i<=n/\v=x[n]:=by obtain⟨n,hn,e⟩:=S4 h;rw[V1,S0]at hn;refine ⟨i+n,by omega,by omega,?_⟩;rw[<- e,List.getElem_drop,A3]
theorem vK{v:α}(h:v∈(x.toList.drop i).take k):∃(n:Nat) (hn:n < x.size),i<=n/\n < i+k/\v=x[n]:=by obtain⟨n,hn,e⟩:=S4 h;rw[U1,V1,S0]at hn;refine ⟨i+n,by omega,by omega,by omega,?_⟩;rw[<- e,List.getElem_take,List.getElem_drop,A3]
end
theorem ay(x y o:Array Keyed)(i j:Nat):(dn x y o i j).toList=o.toList++x.toList.drop i++y.toList.drop j:=by unfold dn;rw[G2,G2,RY,RY]
theorem cy(x y o:Array Keyed)(i j:Nat):(ls x y o i j).toList=o.toList++y.toList.drop j++x.toList.drop i:=by unfold ls;rw[G2,G2,RY,RY]
section
variable {κ:SortKind}{rk:Keyed->Nat}{S:Keyed->Prop}{x y:Array Keyed}
abbrev nV(rk:Keyed->Nat):Keyed->Keyed->Prop:=λa b=>rk a<=rk b
structure Hy(rk:Keyed->Nat)(S:Keyed->Prop)(x y:Array Keyed):Prop where
 hx:x.toList.Pairwise (nV rk)
 hy:y.toList.Pairwise (nV rk)
 Sx:∀i (h:i < x.size),S x[i]
 Sy:∀i (h:i < y.size),S y[i]
 x0:0 < x.size
 y0:0 < y.size
 hl:∀i (h:i < y.size),rk y[i]<=rk x[x.size - 1]
 hf:∀i (h:i < x.size),rk y[0]<=rk x[i]
theorem kZ{x:Array Keyed}(h:x.toList.Pairwise (nV rk)){i j:Nat}(hj:j < x.size)(hij:i<=j):rk (x[i]'(by omega))<=rk x[j]:=by
 rcases U9 i j with h1|h1
 ·have:=U3.mp h i j (by simpa using (by omega:i < x.size)) (by simpa using hj) h1;simpa using this
 ·have:i=j:=by omega
  subst this;exact u0 _
def Po(rk:Keyed->Nat)(x y r:Array Keyed):Prop:=r.toList.Perm (x.toList++y.toList)/\r.toList.Pairwise (nV rk)
theorem yH(H:Hy rk S x y){o:Array Keyed}{i j:Nat}(m:Mg (nV rk) x.toList y.toList o.toList i j)(h:y.size<=j\/x.size<=i):Po rk x y (dn x y o i j):=by unfold Po;rw[ay];refine m.fin H.hx H.hy λv hv u hu=>?_;obtain⟨n,hn,n1,_⟩:=LX hv;obtain⟨k,hk,k1,_⟩:=LX hu;omega
theorem VF(H:Hy rk S x y){o:Array Keyed}{i j:Nat}(m:Mg (nV rk) x.toList y.toList o.toList i j)(h:i+1=x.size):Po rk x y (ls x y o i j):=by
 unfold Po;rw[cy];refine m.finC H.hx H.hy λv hv u hu=>?_;obtain⟨n,hn,n1,rfl⟩:=LX hv;obtain⟨k,hk,k1,rfl⟩:=LX hu;have:k=x.size - 1:=by omega
 subst this;exact H.hl n hn
theorem PV(o:Array α)(z:α):(o.push z).toList=o.toList++[z]:=t8
structure J(rk:Keyed->Nat)(x y:Array Keyed)(N:Nat)(o:Array Keyed)(i j:Nat):Prop where
 m:Mg (nV rk) x.toList y.toList o.toList i j
 hi:i+1 < x.size
 hj:j < y.size
 hN:N<=i+j
theorem J.pushX(H:Hy rk S x y){N:Nat}{o:Array Keyed}{i j:Nat}(m:Mg (nV rk) x.toList y.toList o.toList i j)(hi:i < x.size)(h:∀n (hn:n < y.size),j<=n->rk x[i]<=rk y[n]):Mg (nV rk) x.toList y.toList (o.push x[i]).toList (i+1) j:=by
 rw[PV];have:=m.oneA H.hx (by simpa using hi) λv hv=>by obtain⟨n,hn,n1,rfl⟩:=LX hv;simpa using h n hn n1
 simpa using this
theorem J.pushY(H:Hy rk S x y){N:Nat}{o:Array Keyed}{i j:Nat}(m:Mg (nV rk) x.toList y.toList o.toList i j)(hj:j < y.size)(h:∀n (hn:n < x.size),i<=n->rk y[j]<=rk x[n]):Mg (nV rk) x.toList y.toList (o.push y[j]).toList i (j+1):=by
 rw[PV];have:=m.comm.oneA H.hy (by simpa using hj) λv hv=>by obtain⟨n,hn,n1,rfl⟩:=LX hv;simpa using h n hn n1
 have:=this.comm;simpa using this
def RT(rk:Keyed->Nat)(x y:Array Keyed)(N:Nat)(c:Yv):Prop:=(∃t,c.1=some t/\Po rk x y t)\/(c.1=none/\J rk x y N c.2.1 c.2.2.1 c.2.2.2.1)
def Gs(z z':SortSt):Prop:=∃g,z'=QK z g
theorem Gs.refl(z:SortSt):Gs z z:=⟨gallopOf z,rfl⟩
theorem Gs.set{z z':SortSt}(h:Gs z z')(g:Nat):Gs z (QK z' g):=by obtain⟨_,rfl⟩:=h;exact ⟨g,rfl⟩
theorem Gs.kind{z z':SortSt}(h:Gs z z'):kindOf z'=kindOf z:=by obtain⟨_,rfl⟩:=h;rfl
def rO(rk:Keyed->Nat)(x y:Array Keyed)(N:Nat)(st:SortSt)(r:ForInStep Yv)(st':SortSt):Prop :=
 Gs st st'/\match r with
  | .done c=>RT rk x y N c
  | .yield c=>c.1=none/\J rk x y N c.2.1 c.2.2.1 c.2.2.2.1
theorem Vu(H:Hy rk S x y){N:Nat}{o:Array Keyed}{i j g ac bc:Nat}{st st':SortSt}(hg:Gs st st')(m:Mg (nV rk) x.toList y.toList o.toList i j)(hi:i+1 < x.size)(hj:j < y.size)(hN:N<=i+j+1)
  (h:∀n (hn:n < y.size),j<=n->rk (x[i]'(by omega))<=rk y[n]):wpS (model prog w) A E s (nO x y o i j g ac bc) (rO rk x y N st) st':=by
 unfold nO;have m':=J.pushX H (N:=N) m (by omega) h;refine wpS_bind (ZQ (by omega) ?_);by_cases h1:i+1+1=x.size
 ·rw[if_pos (by simpa using h1)];exact wpS_pure ⟨hg,.inl ⟨_,rfl,VF H m' h1⟩⟩
 ·rw[if_neg (by simpa using h1)];have jj:J rk x y N (o.push (x[i]'(by omega))) (i+1) j:=⟨m',by omega,hj,by omega⟩;by_cases h2:(decide (ac < 7)&&decide (bc < 7))=true
  ·rw[if_pos h2];exact wpS_pure ⟨hg,.inr ⟨rfl,jj⟩⟩
  ·rw[if_neg h2];exact wpS_pure ⟨hg,rfl,jj⟩
theorem Wu(q:uZ prog w A s κ rk S)(H:Hy rk S x y){N:Nat}{o:Array Keyed}{i j g ac bc:Nat}{st st':SortSt}(hk:kindOf st=κ)(hg:Gs st st')(m:Mg (nV rk) x.toList y.toList o.toList i j)(hi:i+1 < x.size)(hj:j < y.size)(hN:N<=i+j+1)
  (h:∀n (hn:n < x.size),i<=n->rk (y[j]'(by omega))<=rk x[n]):wpS (model prog w) A E s (oO x y o i j g ac bc) (rO rk x y N st) st':=by
 unfold oO;have m':=J.pushY H (N:=N) m hj h;refine wpS_bind (ZQ hj ?_);by_cases h1:j+1=y.size
 ·rw[if_pos (by simpa using h1)];exact wpS_pure ⟨hg,.inl ⟨_,rfl,yH H m' (.inl (by omega))⟩⟩
 ·rw[if_neg (by simpa using h1)];refine wpS_bind (ZQ (by omega) ?_);refine wpS_bind (RZ q (hg.kind.trans hk) (H.Sx _ _) H.Sy (by omega) (λa b hb hab _ _=>kZ H.hy hb hab) (by omega) λk kn k1 k2=>?_);dsimp only;by_cases hk0:k > 0
  ·rw[if_pos hk0];have m2:Mg (nV rk) x.toList y.toList (o.push (y[j]'hj)++y.extract (j+1) (j+1+k)).toList i (j+1+k):=by
    rw[G2,Uu];refine (m'.comm.takeA H.hy k λv hv u hu=>?_).comm;obtain⟨n,hn,n1,n2,rfl⟩:=vK hv;obtain⟨p,hp,p1,rfl⟩:=LX hu;have:=k1 n hn n1 n2;rw[if_pos rfl]at this;have:=kZ H.hx hp p1;show rk _<=rk _;omega
   by_cases h2:j+1+k=y.size
   ·rw[if_pos (by simpa using h2)];exact wpS_pure ⟨hg,.inl ⟨_,rfl,yH H m2 (.inl (by omega))⟩⟩
   ·rw[if_neg (by simpa using h2)];refine Vu H hg m2 hi (by omega) (by omega) λn hn n1=>?_;have:=k2 n hn (by omega) (by omega);rw[if_pos rfl]at this;exact this
  ·rw[if_neg hk0];refine Vu H hg m' hi (by omega) (by omega) λn hn n1=>?_;have:=k2 n hn (by omega) (by omega);rw[if_pos rfl]at this;exact this
theorem Xu(q:uZ prog w A s κ rk S)(H:Hy rk S x y){N:Nat}{o:Array Keyed}{i j g ac bc:Nat}{st st':SortSt}(hk:kindOf st=κ)(hg:Gs st st')(m:Mg (nV rk) x.toList y.toList o.toList i j)(hi:i+1 < x.size)(hj:j < y.size)(hN:N<=i+j+1):wpS (model prog w) A E s (pO x y o i j g ac bc) (rO rk x y N st) st':=by
 unfold pO;refine wpS_bind (wpS_modify ?_);have hg':=hg.set g;refine wpS_bind (ZQ hj ?_);refine wpS_bind (RZ q (hg'.kind.trans hk) (H.Sy _ _) H.Sx (by omega) (λa b hb hab _ _=>kZ H.hx hb hab) (by omega) λk kn k1 k2=>?_);dsimp only;by_cases hk0:k > 0
 ·rw[if_pos hk0];have m2:Mg (nV rk) x.toList y.toList (o++x.extract i (i+k)).toList (i+k) j:=by
   rw[G2,Uu];refine m.takeA H.hx k λv hv u hu=>?_;obtain⟨n,hn,n1,n2,rfl⟩:=vK hv;obtain⟨p,hp,p1,rfl⟩:=LX hu;have:=k1 n hn n1 n2;rw[if_neg (by decide)]at this;have:=kZ H.hy hp p1;show rk _<=rk _;omega
  by_cases h2:i+k+1=x.size
  ·rw[if_pos (by simpa using h2)];exact wpS_pure ⟨hg',.inl ⟨_,rfl,VF H m2 h2⟩⟩
  ·rw[if_neg (by simpa using h2)];by_cases h3:i+k=x.size
   ·rw[if_pos (by simpa using h3)];exact wpS_pure ⟨hg',.inl ⟨_,rfl,yH H m2 (.inr (by omega))⟩⟩
   ·rw[if_neg (by simpa using h3)];refine Wu q H hk hg' m2 (by omega) hj (by omega) λn hn n1=>?_;have:=k2 n hn (by omega) (by omega);rw[if_neg (by decide)]at this;omega
 ·rw[if_neg hk0];refine Wu q H hk hg' m hi hj (by omega) λn hn n1=>?_;have:=k2 n hn (by omega) (by omega);rw[if_neg (by decide)]at this;omega
theorem SM(q:uZ prog w A s κ rk S)(H:Hy rk S x y){N:Nat}{c:Yv}{st st':SortSt}(hk:kindOf st=κ)(hg:Gs st st')(hJ:J rk x y N c.2.1 c.2.2.1 c.2.2.2.1):wpS (model prog w) A E s (sP x y c) (rO rk x y (N+1) st) st':=by
 unfold sP;have:=hJ.hN;split
 ·exact Xu q H hk hg hJ.m hJ.hi hJ.hj (by omega)
 ·exact Xu q H hk hg hJ.m hJ.hi hJ.hj (by omega)
theorem TM(q:uZ prog w A s κ rk S)(H:Hy rk S x y){N g:Nat}{c:lO}{st:SortSt}(hk:kindOf st=κ)(hJ:J rk x y N c.2.1 c.2.2.1 c.2.2.2.1) :
  wpS (model prog w) A E s (uP x y g c) (λr st'=>st'=st/\match r with
    | .done c=>(∃t,c.1=some t/\Po rk x y t)\/(c.1=none/\J rk x y (N+1) c.2.1 c.2.2.1 c.2.2.2.1)
    | .yield c=>c.1=none/\J rk x y (N+1) c.2.1 c.2.2.1 c.2.2.2.1) st:=by
 unfold uP;obtain⟨m,hi,hj,hN⟩:=hJ;refine wpS_bind (ZQ hj ?_);refine wpS_bind (ZQ (by omega) ?_);refine wpS_bind (w_lt q hk (H.Sy _ _) (H.Sx _ _) ?_);dsimp only;by_cases hlt:rk (y[c.2.2.2.1]'hj) < rk (x[c.2.2.1]'(by omega))
 ·rw[if_pos (by simpa using hlt)];have m':=J.pushY H (N:=N) m hj λn hn n1=>by have:=kZ H.hx hn n1;omega
  refine wpS_bind (ZQ hj ?_);by_cases h1:c.2.2.2.1+1=y.size
  ·rw[if_pos (by simpa using h1)];exact wpS_pure ⟨rfl,.inl ⟨_,rfl,yH H m' (.inl (by omega))⟩⟩
  ·rw[if_neg (by simpa using h1)];have jj:J rk x y (N+1) (c.2.1.push (y[c.2.2.2.1]'hj)) c.2.2.1 (c.2.2.2.1+1):=⟨m',hi,by omega,by omega⟩;split
   ·exact wpS_pure ⟨rfl,.inr ⟨rfl,jj⟩⟩
   ·exact wpS_pure ⟨rfl,rfl,jj⟩
 ·rw[if_neg (by simpa using hlt)];have m':=J.pushX H (N:=N) m (by omega) λn hn n1=>by have:=kZ H.hy hn n1;omega
  refine wpS_bind (ZQ (by omega) ?_);by_cases h1:c.2.2.1+1+1=x.size
  ·rw[if_pos (by simpa using h1)];exact wpS_pure ⟨rfl,.inl ⟨_,rfl,VF H m' h1⟩⟩
  ·rw[if_neg (by simpa using h1)];have jj:J rk x y (N+1) (c.2.1.push (x[c.2.2.1]'(by omega))) (c.2.2.1+1) c.2.2.2.1:=⟨m',by omega,hj,by omega⟩;split
   ·exact wpS_pure ⟨rfl,.inr ⟨rfl,jj⟩⟩
   ·exact wpS_pure ⟨rfl,rfl,jj⟩
theorem UM(q:uZ prog w A s κ rk S)(H:Hy rk S x y){N:Nat}{c:mO}{st st':SortSt}(hk:kindOf st=κ)(hg:Gs st st')(hJ:J rk x y N c.2.1 c.2.2.1 c.2.2.2.1) :
  wpS (model prog w) A E s (qO x y c) (λr st'=>Gs st st'/\match r with
    | .done c=>∃t,c.1=some t/\Po rk x y t
    | .yield c=>c.1=none/\J rk x y (N+1) c.2.1 c.2.2.1 c.2.2.2.1) st':=by
 unfold qO;refine wpS_bind (wpS_mono (wpS_forRange (I:=λn c st''=>st''=st'/\c.1=none/\J rk x y (N+n) c.2.1 c.2.2.1 c.2.2.2.1)
   (Q:=λc st''=>st''=st'/\((∃t,c.1=some t/\Po rk x y t)\/(c.1=none/\J rk x y N c.2.1 c.2.2.1 c.2.2.2.1))) ?step ?fin ⟨rfl,rfl,hJ⟩) ?post)
 case fin=>rintro c st'' ⟨rfl,_,h⟩;have h1:=h.hi;have h2:=h.hj;have h3:=h.hN;omega
 case step =>
  rintro n c st'' _ _ ⟨rfl,_,h⟩;refine wpS_mono (TM q H (hg.kind.trans hk) h) ?_;rintro r st3 ⟨rfl,h⟩;cases r with
  | done c=>refine ⟨rfl,h.imp id λh=>⟨h.1,h.2.m,h.2.hi,h.2.hj,?_⟩⟩;have:=h.2.hN;omega
  | yield c=>exact ⟨rfl,h.1,h.2⟩
 case post =>
  rintro c st'' ⟨rfl,h⟩;obtain⟨r,c⟩:=c;rcases h with⟨t,e,h⟩|⟨e,h⟩
  ·cases e;exact wpS_pure ⟨hg,_,rfl,h⟩
  ·cases e;dsimp only;refine wpS_bind (wpS_lift (wpAny_rule ⟨rfl,?_⟩));refine wpS_bind (wpS_mono (wpS_forRange (I:=λn c st''=>Gs st st''/\c.1=none/\J rk x y (N+n) c.2.1 c.2.2.1 c.2.2.2.1)
     (Q:=λc st''=>Gs st st''/\RT rk x y (N+1) c) ?step2 ?fin2 ⟨hg,rfl,h⟩) ?post2)
   case fin2=>rintro c st'' ⟨_,_,h⟩;have h1:=h.hi;have h2:=h.hj;have h3:=h.hN;omega
   case step2 =>
    rintro n c st'' _ _ ⟨hg2,_,h⟩;refine wpS_mono (SM q H hk hg2 h) ?_;rintro r st3 ⟨hg3,h⟩;cases r with
    | done c=>refine ⟨hg3,Or.imp id (λh=>⟨h.1,h.2.m,h.2.hi,h.2.hj,?_⟩) h⟩;have:=h.2.hN;omega
    | yield c=>exact ⟨hg3,h.1,h.2⟩
   case post2 =>
    rintro c st'' ⟨hg2,h⟩;obtain⟨r,c⟩:=c;rcases h with⟨t,e,h⟩|⟨e,h⟩
    ·cases e;exact wpS_pure ⟨hg2,_,rfl,h⟩
    ·cases e;exact wpS_bind (wpS_modify (wpS_pure ⟨hg2.set _,rfl,h⟩))
theorem VM(q:uZ prog w A s κ rk S)(H:Hy rk S x y){st:SortSt}{Q:Array Keyed->SortSt->Prop}(hk:kindOf st=κ)(h:∀r st',Gs st st'->Po rk x y r->Q r st'):wpS (model prog w) A E s (jO x y) Q st:=by
 rw[VE];refine wpS_bind (wpS_lift (wpAny_rule ⟨rfl,?_⟩));refine wpS_bind (ZQ H.y0 ?_);have m0:Mg (nV rk) x.toList y.toList (#[]:Array Keyed).toList 0 0:=⟨by simp,by simp,by simp,by simp⟩;have m1:=J.pushY H (N:=0) m0 H.y0 λn hn _=>H.hf n hn;have e1:(#[]:Array Keyed).push (y[0]'H.y0)=#[y[0]'H.y0]:=rfl;rw[e1]at m1;have hy0:=H.y0;have hx0:=H.x0;by_cases h1:1=y.size
 ·rw[if_pos (by simpa using h1)];exact wpS_pure (h _ _ (Gs.refl _) (yH H m1 (.inl (by omega))))
 ·rw[if_neg (by simpa using h1)];by_cases h2:0+1=x.size
  ·rw[if_pos (by simpa using h2)];exact wpS_pure (h _ _ (Gs.refl _) (VF H m1 h2))
  ·rw[if_neg (by simpa using h2)];refine wpS_bind (wpS_get ?_);refine wpS_bind (wpS_mono (wpS_forRange (I:=λn c st''=>Gs st st''/\c.1=none/\J rk x y n c.2.1 c.2.2.1 c.2.2.2.1)
     (Q:=λc st''=>Gs st st''/\∃t,c.1=some t/\Po rk x y t) ?step ?fin ⟨Gs.refl _,rfl,m1,by show 0+1 < x.size;omega,by show 1 < y.size;omega,by omega⟩) ?post)
   case fin=>rintro c st'' ⟨_,_,h⟩;have h1:=h.hi;have h2:=h.hj;have h3:=h.hN;omega
   case step =>
    rintro n c st'' _ _ ⟨hg2,_,h⟩;refine wpS_mono (UM q H hk hg2 h) ?_;rintro r st3 ⟨hg3,h⟩;cases r with
    | done c=>exact ⟨hg3,h⟩
    | yield c=>exact ⟨hg3,h⟩
   case post=>rintro c st'' ⟨hg2,t,e,hP⟩;obtain⟨r,c⟩:=c;cases e;exact wpS_pure (h _ _ hg2 hP)
end
noncomputable abbrev dy:=Option (Array Keyed)×Nat×Nat×Array Keyed×Nat×Nat×Nat
noncomputable abbrev sO:=Option (Array Keyed)×Nat×Nat×Array Keyed×Nat×Nat
noncomputable abbrev tO:=Option (Array Keyed)×Nat×Nat×Array Keyed×Nat
section
variable (x y:Array Keyed)
noncomputable def nw(o:Array Keyed)(i j:Nat):Array Keyed:=x.extract 0 i++y.extract 0 j++o.reverse
noncomputable def wL(o:Array Keyed)(i j:Nat):Array Keyed:=y.extract 0 j++x.extract 0 i++o.reverse
noncomputable def hi2(i j:Nat)(o:Array Keyed)(g ac bc:Nat):StateT SortSt Sem (ForInStep dy):=do
 let z<-elem' x (i - 1)
 if (i - 1==0)=true then pure (.done (some (nw x y (o.push z) (i - 1) j),i - 1,j,o.push z,g,ac,bc))
 else if (decide (ac < 7)&&decide (bc < 7))=true then pure (.done (none,i - 1,j,o.push z,g,ac,bc))
 else pure (.yield (none,i - 1,j,o.push z,g,ac,bc))
noncomputable def hi1(i j:Nat)(o:Array Keyed)(g ac bc:Nat):StateT SortSt Sem (ForInStep dy):=do
 let z<-elem' y (j - 1)
 if (j - 1==1)=true then pure (.done (some (wL x y (o.push z) i (j - 1)),i,j - 1,o.push z,g,ac,bc))
 else do
  let u<-elem' x (i - 1)
  let some p<-Fq true u y 0 (j - 1) (j - 1 - 1)|pure (.done (some (nw x y (o.push z) i (j - 1)),i,j - 1,o.push z,g,ac,bc))
  if j - 1 - p > 0 then
   if (p==1)=true then pure (.done (some (wL x y (o.push z++(y.extract p (j - 1)).reverse) i p),i,p,o.push z++(y.extract p (j - 1)).reverse,g,ac,j - 1 - p))
   else if (p==0)=true then pure (.done (some (nw x y (o.push z++(y.extract p (j - 1)).reverse) i p),i,p,o.push z++(y.extract p (j - 1)).reverse,g,ac,j - 1 - p))
   else hi2 x y i p (o.push z++(y.extract p (j - 1)).reverse) g ac (j - 1 - p)
  else hi2 x y i (j - 1) (o.push z) g ac (j - 1 - p)
noncomputable def uO(i j:Nat)(o:Array Keyed)(g ac bc:Nat):StateT SortSt Sem (ForInStep dy):=do
 modify λv=>QK v g
 let z<-elem' y (j - 1)
 let some p<-Fq false z x 0 i (i - 1)|pure (.done (some (nw x y o i j),i,j,o,g,ac,bc))
 if i - p > 0 then
   if (p==0)=true then pure (.done (some (nw x y (o++(x.extract p i).reverse) p j),p,j,o++(x.extract p i).reverse,g,i - p,bc))
   else hi1 x y p j (o++(x.extract p i).reverse) g (i - p) bc
 else hi1 x y i j o g (i - p) bc
noncomputable def vP(t:dy):StateT SortSt Sem (ForInStep dy) :=
 if t.2.2.2.2.1 > 1 then uO x y t.2.1 t.2.2.1 t.2.2.2.1 (t.2.2.2.2.1 - 1) t.2.2.2.2.2.1 t.2.2.2.2.2.2
 else uO x y t.2.1 t.2.2.1 t.2.2.2.1 t.2.2.2.2.1 t.2.2.2.2.2.1 t.2.2.2.2.2.2
noncomputable def wP(g:Nat)(t:sO):StateT SortSt Sem (ForInStep sO):=do
 let z<-elem' y (t.2.2.1 - 1)
 let u<-elem' x (t.2.1 - 1)
 let some xw<-lt' z u|pure (.done (some (nw x y t.2.2.2.1 t.2.1 t.2.2.1),t.2.1,t.2.2.1,t.2.2.2.1,t.2.2.2.2.1,t.2.2.2.2.2))
 if xw=true then do
   let z<-elem' x (t.2.1 - 1)
   if (t.2.1 - 1==0)=true then pure (.done (some (nw x y (t.2.2.2.1.push z) (t.2.1 - 1) t.2.2.1),t.2.1 - 1,t.2.2.1,t.2.2.2.1.push z,t.2.2.2.2.1+1,0))
   else if t.2.2.2.2.1+1 ≥ g then pure (.done (none,t.2.1 - 1,t.2.2.1,t.2.2.2.1.push z,t.2.2.2.2.1+1,0))
   else pure (.yield (none,t.2.1 - 1,t.2.2.1,t.2.2.2.1.push z,t.2.2.2.2.1+1,0))
 else do
   let z<-elem' y (t.2.2.1 - 1)
   if (t.2.2.1 - 1==1)=true then pure (.done (some (wL x y (t.2.2.2.1.push z) t.2.1 (t.2.2.1 - 1)),t.2.1,t.2.2.1 - 1,t.2.2.2.1.push z,0,t.2.2.2.2.2+1))
   else if t.2.2.2.2.2+1 ≥ g then pure (.done (none,t.2.1,t.2.2.1 - 1,t.2.2.2.1.push z,0,t.2.2.2.2.2+1))
   else pure (.yield (none,t.2.1,t.2.2.1 - 1,t.2.2.2.1.push z,0,t.2.2.2.2.2+1))
noncomputable def vO(t:tO):StateT SortSt Sem (ForInStep tO):=do
 let v<-forIn [:x.size+y.size] ((none,t.2.1,t.2.2.1,t.2.2.2.1,0,0):sO) λ_ v=>wP x y t.2.2.2.2 v
 match v.1 with
 | some r=>pure (.done (some r,v.2.1,v.2.2.1,v.2.2.2.1,t.2.2.2.2))
 | none=>do
  liftM (rule "list.sort.gallop")
  let u<-forIn [:x.size+y.size] ((none,v.2.1,v.2.2.1,v.2.2.2.1,t.2.2.2.2+1,v.2.2.2.2.1,v.2.2.2.2.2):dy) λ_ u=>vP x y u
  match u.1 with
  | some r=>pure (.done (some r,u.2.1,u.2.2.1,u.2.2.2.1,u.2.2.2.2.1))
  | none=>do
   modify λz=>QK z (u.2.2.2.2.1+1)
   pure (.yield (none,u.2.1,u.2.2.1,u.2.2.2.1,u.2.2.2.2.1+1))
end
theorem gy(x y:Array Keyed):kO x y=(do
    rule "list.sort.merge-hi"
    let tt:=x.size+y.size
    let dn (o:Array Keyed) (i j:Nat):=x.extract 0 i++y.extract 0 j++o.reverse
    let fs (o:Array Keyed) (i j:Nat):=y.extract 0 j++x.extract 0 i++o.reverse
    let mut i:=x.size - 1
    let mut j:=y.size
    let mut o:Array Keyed:=#[<- elem' x i]
    if i==0 then return dn o i j
    if j==1 then return fs o i j
    let mut g:=gallopOf (<- get)
    for _ in [0:tt] do
      let mut ac:=0
      let mut bc:=0
      for _ in [0:tt] do
        let some xw<-lt' (<- elem' y (j - 1)) (<- elem' x (i - 1))|return dn o i j
        if xw then
          i:=i - 1;o:=o.push (<- elem' x i);ac:=ac+1;bc:=0
          if i==0 then return dn o i j
          if ac ≥ g then break
        else
          j:=j - 1;o:=o.push (<- elem' y j);bc:=bc+1;ac:=0
          if j==1 then return fs o i j
          if bc ≥ g then break
      rule "list.sort.gallop"
      g:=g+1
      for _ in [0:tt] do
        if g > 1 then g:=g - 1
        modify (QK · g)
        let some p<-Fq false (<- elem' y (j - 1)) x 0 i (i - 1)|return dn o i j
        let k:=i - p
        ac:=k
        if k > 0 then
          o:=o++(x.extract p i).reverse;i:=p
          if i==0 then return dn o i j
        j:=j - 1;o:=o.push (<- elem' y j)
        if j==1 then return fs o i j
        let some p<-Fq true (<- elem' x (i - 1)) y 0 j (j - 1)|return dn o i j
        let k:=j - p
        bc:=k
        if k > 0 then
          o:=o++(y.extract p j).reverse;j:=p
          if j==1 then return fs o i j
          if j==0 then return dn o i j
        i:=i - 1;o:=o.push (<- elem' x i)
        if i==0 then return dn o i j
        if ac < 7&&bc < 7 then break
      g:=g+1
      modify (QK · g)
    unsupported "internal:list.sort.merge-bound"):=rfl
theorem XE(x y:Array Keyed):kO x y=(do
    liftM (rule "list.sort.merge-hi")
    let z<-elem' x (x.size - 1)
    if (x.size - 1==0)=true then pure (nw x y #[z] (x.size - 1) y.size)
    else if (y.size==1)=true then pure (wL x y #[z] (x.size - 1) y.size)
    else do
      let s<-get
      let v<-forIn [:x.size+y.size] ((none,x.size - 1,y.size,#[z],gallopOf s):tO) λ_ v=>vO x y v
      match v.1 with
      | some r=>pure r
      | none=>unsupported "internal:list.sort.merge-bound"):=by
 rw[gy];dsimp only;refine congrArg (bind _) (funext λ_=>?_);refine congrArg (bind _) (funext λz=>?_);refine congr (congrArg _ rfl) ?_;refine congr (congrArg _ rfl) ?_;refine congrArg (bind _) (funext λs=>?_);refine congr (congrArg bind ?A) (funext λv=>by obtain⟨r,v⟩:=v;cases r<;>rfl);refine congrArg _ (funext λ_=>funext λv=>?_);unfold vO;refine congr (congrArg bind rfl) (funext λv=>?_);obtain⟨r,v⟩:=v;cases r with
 | some r=>rfl
 | none=>refine congrArg (bind _) (funext λ_=>?_);refine congr (congrArg bind ?A2) (funext λv=>by obtain⟨r,v⟩:=v;cases r<;>rfl);rfl
section
variable {x:Array α}{i j k:Nat}
theorem SZ(hi:i<=x.size):x.toList.reverse.drop (x.size - i)=(x.toList.take i).reverse:=by rw[List.drop_reverse,S0,Nat.sub_sub_self hi]
theorem HJ{v:α}(hi:i<=x.size)(h:v∈x.toList.reverse.drop (x.size - i)):∃(n:Nat) (hn:n < x.size),n < i/\v=x[n]:=by rw[SZ hi,J8]at h;obtain⟨n,hn,e⟩:=S4 h;rw[U1,S0]at hn;refine ⟨n,by omega,by omega,?_⟩;rw[<- e,List.getElem_take,A3]
theorem DU(hk:k<=i)(hi:i<=x.size):(x.extract k i).reverse.toList=(x.toList.reverse.drop (x.size - i)).take (i - k):=by rw[G6,L4,T3,SZ hi,List.take_reverse,U1,S0,P5 hi,Nat.sub_sub_self hk,List.drop_take]
theorem WF:(x.extract 0 i).toList=x.toList.take i:=by rw[L4,T3,List.drop_zero,Nat.sub_zero]
end
section
variable {κ:SortKind}{rk:Keyed->Nat}{S:Keyed->Prop}{x y:Array Keyed}
abbrev tR(rk:Keyed->Nat):Keyed->Keyed->Prop:=λa b=>rk b<=rk a
structure MH(rk:Keyed->Nat)(x y:Array Keyed)(o:Array Keyed)(i j:Nat):Prop where
 m:Mg (tR rk) x.toList.reverse y.toList.reverse o.toList (x.size - i) (y.size - j)
 hi:i<=x.size
 hj:j<=y.size
theorem MH.comm{o:Array Keyed}{i j:Nat}(h:MH rk x y o i j):MH rk y x o j i:=⟨h.m.comm,h.hj,h.hi⟩
theorem MH.chunk(hx:x.toList.Pairwise (nV rk)){o:Array Keyed}{i j p:Nat}(h:MH rk x y o i j)(hp:p<=i)(hk:∀n (hn:n < x.size) k (hk:k < y.size),p<=n->n < i->k < j->rk y[k]<=rk x[n]):MH rk x y (o++(x.extract p i).reverse) p j:=by
 have hi:=h.hi;refine ⟨?_,by omega,h.hj⟩;rw[G2,DU hp hi];have e:x.size - p=x.size - i+(i - p):=by omega
 rw[e];refine h.m.takeA (X4.mpr hx) (i - p) λv hv u hu=>?_;obtain⟨k,hk1,hk2,rfl⟩:=HJ h.hj hu;rw[<- DU hp hi,G6,J8,L4,T3]at hv;obtain⟨n,hn,n1,n2,rfl⟩:=vK hv;exact hk n hn k hk1 n1 (by omega) hk2
theorem MH.push(hx:x.toList.Pairwise (nV rk)){o:Array Keyed}{i j:Nat}(h:MH rk x y o i j)(h0:0 < i)(hk:∀k (hk:k < y.size),k < j->rk y[k]<=rk (x[i - 1]'(by have:=h.hi;omega))) :
  MH rk x y (o.push (x[i - 1]'(by have:=h.hi;omega))) (i - 1) j:=by
 have hi:=h.hi;have e:o.push (x[i - 1]'(by omega))=o++(x.extract (i - 1) i).reverse:=by apply Array.toList_inj.mp;rw[t8,G2,DU (by omega) hi,show i - (i - 1)=1 by omega,V4 (by simp;omega)];simp only[List.take_succ_cons,List.take_zero,List.getElem_reverse,A3,S0];congr 3;omega
 rw[e];refine h.chunk hx (by omega) λn hn k hk1 n1 n2 k2=>?_;have:n=i - 1:=by omega
 subst this;exact hk k hk1 k2
theorem XF{a b o r:List Keyed}(h:(o++a++b).Perm (x.toList.reverse++y.toList.reverse)/\(o++a++b).Pairwise (tR rk))(e:r=(o++a++b).reverse):r.Perm (x.toList++y.toList)/\r.Pairwise (nV rk):=by subst e;exact ⟨((u8 _).trans h.1).trans ((u8 _).append (u8 _)),X4.mpr h.2⟩
theorem CW(H:Hy rk S x y){o:Array Keyed}{i j:Nat}(m:MH rk x y o i j)(h:i=0\/j=0):Po rk x y (nw x y o i j):=by
 refine XF (m.m.finC (X4.mpr H.hx) (X4.mpr H.hy) λv hv u hu=>?_) ?_
 ·obtain⟨n,hn,n1,_⟩:=HJ m.hj hv;obtain⟨k,hk,k1,_⟩:=HJ m.hi hu;omega
 ·unfold nw;rw[G2,G2,WF,WF,SZ m.hi,SZ m.hj,G6];simp
theorem EU(H:Hy rk S x y){o:Array Keyed}{i j:Nat}(m:MH rk x y o i j)(h:j=1):Po rk x y (wL x y o i j):=by
 refine XF (m.m.fin (X4.mpr H.hx) (X4.mpr H.hy) λv hv u hu=>?_) ?_
 ·obtain⟨n,hn,n1,rfl⟩:=HJ m.hi hv;obtain⟨k,hk,k1,rfl⟩:=HJ m.hj hu;have:k=0:=by omega
  subst this;exact H.hf n hn
 ·unfold wL;rw[G2,G2,WF,WF,SZ m.hi,SZ m.hj,G6];simp
structure JH(rk:Keyed->Nat)(x y:Array Keyed)(N:Nat)(i j:Nat)(o:Array Keyed):Prop where
 m:MH rk x y o i j
 hi:1<=i
 hj:2<=j
 hN:N+i+j<=x.size+y.size
def RH(rk:Keyed->Nat)(x y:Array Keyed)(N:Nat)(c:dy):Prop:=(∃t,c.1=some t/\Po rk x y t)\/(c.1=none/\JH rk x y N c.2.1 c.2.2.1 c.2.2.2.1)
def wO(rk:Keyed->Nat)(x y:Array Keyed)(N:Nat)(st:SortSt)(r:ForInStep dy)(st':SortSt):Prop :=
 Gs st st'/\match r with
  | .done c=>RH rk x y N c
  | .yield c=>c.1=none/\JH rk x y N c.2.1 c.2.2.1 c.2.2.2.1
theorem Yu(H:Hy rk S x y){N:Nat}{o:Array Keyed}{i j g ac bc:Nat}{st st':SortSt}(hg:Gs st st')(m:MH rk x y o i j)(hi:1<=i)(hj:2<=j)(hN:N+i+j<=x.size+y.size+1)
  (h:∀n (hn:n < y.size),n < j->rk y[n]<=rk (x[i - 1]'(by have:=m.hi;omega))):wpS (model prog w) A E s (hi2 x y i j o g ac bc) (wO rk x y N st) st':=by
 unfold hi2;have hi':=m.hi;have m':=m.push H.hx hi h;refine wpS_bind (ZQ (by omega) ?_);by_cases h1:i - 1=0
 ·rw[if_pos (by simpa using h1)];exact wpS_pure ⟨hg,.inl ⟨_,rfl,CW H m' (.inl h1)⟩⟩
 ·rw[if_neg (by simpa using h1)];have jj:JH rk x y N (i - 1) j (o.push (x[i - 1]'(by omega))):=⟨m',by omega,hj,by omega⟩;by_cases h2:(decide (ac < 7)&&decide (bc < 7))=true
  ·rw[if_pos h2];exact wpS_pure ⟨hg,.inr ⟨rfl,jj⟩⟩
  ·rw[if_neg h2];exact wpS_pure ⟨hg,rfl,jj⟩
theorem Zu(q:uZ prog w A s κ rk S)(H:Hy rk S x y){N:Nat}{o:Array Keyed}{i j g ac bc:Nat}{st st':SortSt}(hk:kindOf st=κ)(hg:Gs st st')(m:MH rk x y o i j)(hi:1<=i)(hj:2<=j)(hN:N+i+j<=x.size+y.size+1)
  (h:∀n (hn:n < x.size),n < i->rk x[n]<=rk (y[j - 1]'(by have:=m.hj;omega))):wpS (model prog w) A E s (hi1 x y i j o g ac bc) (wO rk x y N st) st':=by
 unfold hi1;have hi':=m.hi;have hj':=m.hj;have m':=(m.comm.push H.hy (by omega) h).comm;refine wpS_bind (ZQ (by omega) ?_);by_cases h1:j - 1=1
 ·rw[if_pos (by simpa using h1)];exact wpS_pure ⟨hg,.inl ⟨_,rfl,EU H m' h1⟩⟩
 ·rw[if_neg (by simpa using h1)];refine wpS_bind (ZQ (by omega) ?_);refine wpS_bind (RZ q (hg.kind.trans hk) (H.Sx _ _) H.Sy (by omega) (λa b hb hab _ _=>kZ H.hy hb hab) (by omega) λp pn k1 k2=>?_);dsimp only;have k1':∀n (hn:n < y.size),n < p->rk y[n] < rk (x[i - 1]'(by omega)):=λn hn hp=>by
   have:=k1 n hn (Q3 _) (by omega);rw[if_pos rfl]at this;exact this
  by_cases hk0:j - 1 - p > 0
  ·rw[if_pos hk0];have m2:=(m'.comm.chunk H.hy (p:=p) pn λn hn k hk1 n1 n2 n3=>by
     have:=k2 n hn (by omega) (by omega);rw[if_pos rfl]at this;have:=kZ H.hx (i:=k) (j:=i - 1) (by omega) (by omega);omega).comm;by_cases h2:p=1
   ·rw[if_pos (by simpa using h2)];exact wpS_pure ⟨hg,.inl ⟨_,rfl,EU H m2 h2⟩⟩
   ·rw[if_neg (by simpa using h2)];by_cases h3:p=0
    ·rw[if_pos (by simpa using h3)];exact wpS_pure ⟨hg,.inl ⟨_,rfl,CW H m2 (.inr h3)⟩⟩
    ·rw[if_neg (by simpa using h3)];exact Yu H hg m2 hi (by omega) (by omega) λn hn n1=>B5 (k1' n hn n1)
  ·rw[if_neg hk0];exact Yu H hg m' hi (by omega) (by omega) λn hn n1=>B5 (k1' n hn (by omega))
theorem aB(q:uZ prog w A s κ rk S)(H:Hy rk S x y){N:Nat}{o:Array Keyed}{i j g ac bc:Nat}{st st':SortSt}(hk:kindOf st=κ)(hg:Gs st st')(m:MH rk x y o i j)(hi:1<=i)(hj:2<=j)(hN:N+i+j<=x.size+y.size+1):wpS (model prog w) A E s (uO x y i j o g ac bc) (wO rk x y N st) st':=by
 unfold uO;have hi':=m.hi;have hj':=m.hj;refine wpS_bind (wpS_modify ?_);have hg':=hg.set g;refine wpS_bind (ZQ (by omega) ?_);refine wpS_bind (RZ q (hg'.kind.trans hk) (H.Sy _ _) H.Sx (by omega) (λa b hb hab _ _=>kZ H.hx hb hab) (by omega) λp pn k1 k2=>?_);dsimp only;have k1':∀n (hn:n < x.size),n < p->rk x[n]<=rk (y[j - 1]'(by omega)):=λn hn hp=>by have:=k1 n hn (Q3 _) (by omega);rw[if_neg (by decide)]at this;exact this
 by_cases hk0:i - p > 0
 ·rw[if_pos hk0];have m2:=m.chunk H.hx (p:=p) pn λn hn k hk1 n1 n2 n3=>by
   have:=k2 n hn (by omega) (by omega);rw[if_neg (by decide)]at this;have:=kZ H.hy (i:=k) (j:=j - 1) (by omega) (by omega);omega
  by_cases h3:p=0
  ·rw[if_pos (by simpa using h3)];exact wpS_pure ⟨hg',.inl ⟨_,rfl,CW H m2 (.inl h3)⟩⟩
  ·rw[if_neg (by simpa using h3)];exact Zu q H hk hg' m2 (by omega) hj (by omega) k1'
 ·rw[if_neg hk0];exact Zu q H hk hg' m hi hj (by omega) λn hn n1=>k1' n hn (by omega)
theorem WM(q:uZ prog w A s κ rk S)(H:Hy rk S x y){N:Nat}{c:dy}{st st':SortSt}(hk:kindOf st=κ)(hg:Gs st st')(hJ:JH rk x y N c.2.1 c.2.2.1 c.2.2.2.1):wpS (model prog w) A E s (vP x y c) (wO rk x y (N+1) st) st':=by
 unfold vP;have:=hJ.hN;split
 ·exact aB q H hk hg hJ.m hJ.hi hJ.hj (by omega)
 ·exact aB q H hk hg hJ.m hJ.hi hJ.hj (by omega)
theorem XM(q:uZ prog w A s κ rk S)(H:Hy rk S x y){N g:Nat}{c:sO}{st:SortSt}(hk:kindOf st=κ)(hJ:JH rk x y N c.2.1 c.2.2.1 c.2.2.2.1) :
  wpS (model prog w) A E s (wP x y g c) (λr st'=>st'=st/\match r with
    | .done c=>(∃t,c.1=some t/\Po rk x y t)\/(c.1=none/\JH rk x y (N+1) c.2.1 c.2.2.1 c.2.2.2.1)
    | .yield c=>c.1=none/\JH rk x y (N+1) c.2.1 c.2.2.1 c.2.2.2.1) st:=by
 unfold wP;obtain⟨m,hi,hj,hN⟩:=hJ;have hi':=m.hi;have hj':=m.hj;refine wpS_bind (ZQ (by omega) ?_);refine wpS_bind (ZQ (by omega) ?_);refine wpS_bind (w_lt q hk (H.Sy _ _) (H.Sx _ _) ?_);dsimp only;by_cases hlt:rk (y[c.2.2.1 - 1]'(by omega)) < rk (x[c.2.1 - 1]'(by omega))
 ·rw[if_pos (by simpa using hlt)];have m':=m.push H.hx hi λn hn n1=>by have:=kZ H.hy (i:=n) (j:=c.2.2.1 - 1) (by omega) (by omega);omega
  refine wpS_bind (ZQ (by omega) ?_);by_cases h1:c.2.1 - 1=0
  ·rw[if_pos (by simpa using h1)];exact wpS_pure ⟨rfl,.inl ⟨_,rfl,CW H m' (.inl h1)⟩⟩
  ·rw[if_neg (by simpa using h1)];have jj:JH rk x y (N+1) (c.2.1 - 1) c.2.2.1 (c.2.2.2.1.push (x[c.2.1 - 1]'(by omega))):=⟨m',by omega,hj,by omega⟩;split
   ·exact wpS_pure ⟨rfl,.inr ⟨rfl,jj⟩⟩
   ·exact wpS_pure ⟨rfl,rfl,jj⟩
 ·rw[if_neg (by simpa using hlt)];have m':=(m.comm.push H.hy (by omega) λn hn n1=>by have:=kZ H.hx (i:=n) (j:=c.2.1 - 1) (by omega) (by omega);omega).comm;refine wpS_bind (ZQ (by omega) ?_);by_cases h1:c.2.2.1 - 1=1
  ·rw[if_pos (by simpa using h1)];exact wpS_pure ⟨rfl,.inl ⟨_,rfl,EU H m' h1⟩⟩
  ·rw[if_neg (by simpa using h1)];have jj:JH rk x y (N+1) c.2.1 (c.2.2.1 - 1) (c.2.2.2.1.push (y[c.2.2.1 - 1]'(by omega))):=⟨m',by omega,by omega,by omega⟩;split
   ·exact wpS_pure ⟨rfl,.inr ⟨rfl,jj⟩⟩
   ·exact wpS_pure ⟨rfl,rfl,jj⟩
theorem JH.false{N i j:Nat}{o:Array Keyed}(h:JH rk x y N i j o)(hN:x.size+y.size<=N):False:=by have h1:=h.hi;have h2:=h.hj;have h3:=h.hN;omega
theorem YM(q:uZ prog w A s κ rk S)(H:Hy rk S x y){N:Nat}{c:tO}{st st':SortSt}(hk:kindOf st=κ)(hg:Gs st st')(hJ:JH rk x y N c.2.1 c.2.2.1 c.2.2.2.1) :
  wpS (model prog w) A E s (vO x y c) (λr st'=>Gs st st'/\match r with
    | .done c=>∃t,c.1=some t/\Po rk x y t
    | .yield c=>c.1=none/\JH rk x y (N+1) c.2.1 c.2.2.1 c.2.2.2.1) st':=by
 unfold vO;refine wpS_bind (wpS_mono (wpS_forRange (I:=λn c st''=>st''=st'/\c.1=none/\JH rk x y (N+n) c.2.1 c.2.2.1 c.2.2.2.1)
   (Q:=λc st''=>st''=st'/\((∃t,c.1=some t/\Po rk x y t)\/(c.1=none/\JH rk x y N c.2.1 c.2.2.1 c.2.2.2.1))) ?step ?fin ⟨rfl,rfl,hJ⟩) ?post)
 case fin=>rintro c st'' ⟨rfl,_,h⟩;exact (h.false (by omega)).elim
 case step =>
  rintro n c st'' _ _ ⟨rfl,_,h⟩;refine wpS_mono (XM q H (hg.kind.trans hk) h) ?_;rintro r st3 ⟨rfl,h⟩;cases r with
  | done c=>refine ⟨rfl,h.imp id λh=>⟨h.1,h.2.m,h.2.hi,h.2.hj,?_⟩⟩;have:=h.2.hN;omega
  | yield c=>exact ⟨rfl,h.1,h.2⟩
 case post =>
  rintro c st'' ⟨rfl,h⟩;obtain⟨r,c⟩:=c;rcases h with⟨t,e,h⟩|⟨e,h⟩
  ·cases e;exact wpS_pure ⟨hg,_,rfl,h⟩
  ·cases e;dsimp only;refine wpS_bind (wpS_lift (wpAny_rule ⟨rfl,?_⟩));refine wpS_bind (wpS_mono (wpS_forRange (I:=λn c st''=>Gs st st''/\c.1=none/\JH rk x y (N+n) c.2.1 c.2.2.1 c.2.2.2.1)
     (Q:=λc st''=>Gs st st''/\RH rk x y (N+1) c) ?step2 ?fin2 ⟨hg,rfl,h⟩) ?post2)
   case fin2=>rintro c st'' ⟨_,_,h⟩;exact (h.false (by omega)).elim
   case step2 =>
    rintro n c st'' _ _ ⟨hg2,_,h⟩;refine wpS_mono (WM q H hk hg2 h) ?_;rintro r st3 ⟨hg3,h⟩;cases r with
    | done c=>refine ⟨hg3,Or.imp id (λh=>⟨h.1,h.2.m,h.2.hi,h.2.hj,?_⟩) h⟩;have:=h.2.hN;omega
    | yield c=>exact ⟨hg3,h.1,h.2⟩
   case post2 =>
    rintro c st'' ⟨hg2,h⟩;obtain⟨r,c⟩:=c;rcases h with⟨t,e,h⟩|⟨e,h⟩
    ·cases e;exact wpS_pure ⟨hg2,_,rfl,h⟩
    ·cases e;exact wpS_bind (wpS_modify (wpS_pure ⟨hg2.set _,rfl,h⟩))
theorem ZM(q:uZ prog w A s κ rk S)(H:Hy rk S x y){st:SortSt}{Q:Array Keyed->SortSt->Prop}(hk:kindOf st=κ)(h:∀r st',Gs st st'->Po rk x y r->Q r st'):wpS (model prog w) A E s (kO x y) Q st:=by
 rw[XE];have hy0:=H.y0;have hx0:=H.x0;refine wpS_bind (wpS_lift (wpAny_rule ⟨rfl,?_⟩));refine wpS_bind (ZQ (by omega) ?_);have m0:MH rk x y #[] x.size y.size:=⟨⟨by simp,by simp,by simp,by simp⟩,u0 _,u0 _⟩;have m1:=m0.push H.hx hx0 λn hn _=>H.hl n hn;have e1:(#[]:Array Keyed).push (x[x.size - 1]'(by omega))=#[x[x.size - 1]'(by omega)]:=rfl;rw[e1]at m1;by_cases h1:x.size - 1=0
 ·rw[if_pos (by simpa using h1)];exact wpS_pure (h _ _ (Gs.refl _) (CW H m1 (.inl h1)))
 ·rw[if_neg (by simpa using h1)];by_cases h2:y.size=1
  ·rw[if_pos (by simpa using h2)];exact wpS_pure (h _ _ (Gs.refl _) (EU H m1 h2))
  ·rw[if_neg (by simpa using h2)];refine wpS_bind (wpS_get ?_);refine wpS_bind (wpS_mono (wpS_forRange (I:=λn c st''=>Gs st st''/\c.1=none/\JH rk x y n c.2.1 c.2.2.1 c.2.2.2.1)
     (Q:=λc st''=>Gs st st''/\∃t,c.1=some t/\Po rk x y t) ?step ?fin ⟨Gs.refl _,rfl,m1,by show 1<=x.size - 1;omega,by show 2<=y.size;omega,by show 0+(x.size - 1)+y.size<=_;omega⟩) ?post)
   case fin=>rintro c st'' ⟨_,_,h⟩;exact (h.false (by omega)).elim
   case step =>
    rintro n c st'' _ _ ⟨hg2,_,h⟩;refine wpS_mono (YM q H hk hg2 h) ?_;rintro r st3 ⟨hg3,h⟩;cases r with
    | done c=>exact ⟨hg3,h⟩
    | yield c=>exact ⟨hg3,h⟩
   case post=>rintro c st'' ⟨hg2,t,e,hP⟩;obtain⟨r,c⟩:=c;cases e;exact wpS_pure (h _ _ hg2 hP)
end
noncomputable def KR(rk:Keyed->Nat)(xs:Array Keyed)(i:Nat):Nat:=match xs[i]? with
 | some p=>rk p
 | none=>0
theorem KR_at{rk:Keyed->Nat}{xs:Array Keyed}{i:Nat}(h:i < xs.size):KR rk xs i=rk xs[i]:=by unfold KR;rw[getElem?_pos xs i h]
theorem sX{rk:Keyed->Nat}{xs ys:Array Keyed}{i j:Nat}(h:xs[i]?=ys[j]?):KR rk xs i=KR rk ys j:=by unfold KR;rw[h]
theorem tY{rk:Keyed->Nat}{xs:Array Keyed}{i j:Nat}(hj:j<=xs.size)(k:Nat):KR rk (mirror xs i j ((j - i) / 2)) k=if i<=k/\k < j then KR rk xs (i+j - 1 - k) else KR rk xs k:=by
 have e:=getElem?_mirror_all (i:=i) hj k;split
 ·rename_i h1;rw[if_pos h1]at e;exact sX e
 ·rename_i h1;rw[if_neg h1]at e;exact sX e
theorem QV{rk:Keyed->Nat}{xs:Array Keyed}{c d:Nat}(hs:c < xs.size)(hd:d<=c)(k:Nat):KR rk (bubble xs c d) k=if k=c - d then KR rk xs c else if c - d < k/\k<=c then KR rk xs (k - 1) else KR rk xs k:=by
 have e:=getElem?_bubble hs d hd k;split
 ·rename_i h1;rw[if_pos h1]at e;exact sX e
 ·rename_i h1;rw[if_neg h1]at e;split
  ·rename_i h2;rw[if_pos h2]at e;exact sX e
  ·rename_i h2;rw[if_neg h2]at e;exact sX e
def Sg(rk:Keyed->Nat)(xs:Array Keyed)(lo n:Nat):Prop:=∀i j,lo<=i->i<=j->j < lo+n->KR rk xs i<=KR rk xs j
def Dg(rk:Keyed->Nat)(xs:Array Keyed)(lo n:Nat):Prop:=∀i j,lo<=i->i<=j->j < lo+n->KR rk xs j<=KR rk xs i
structure Bs(κ:SortKind)(st:SortSt)(lo n:Nat)(st':SortSt):Prop where
 perm:(arrOf st').Perm (arrOf st)
 kind:kindOf st'=κ
 failed:failedOf st'=none
 pend:pendingOf st'=pendingOf st
 keep:∀i,i < lo\/lo+n<=i->(arrOf st')[i]?=(arrOf st)[i]?
theorem Bs.size{κ:SortKind}{st st':SortSt}(h:Bs κ st lo n st'):(arrOf st').size=(arrOf st).size:=h.perm.size_eq
theorem Bs.mir{κ:SortKind}{st st':SortSt}{i j:Nat}(h:Bs κ st lo n st')(hj:j<=(arrOf st).size)(h1:lo<=i)(h2:j<=lo+n):Bs κ st lo n (setArr st' (mirror (arrOf st') i j ((j - i) / 2))) :=
 ⟨(mirror_perm _ _ _ _).trans h.perm,h.kind,h.failed,h.pend,λk hk=>by show (mirror (arrOf st') i j ((j - i) / 2))[k]?=_;rw[getElem?_mirror_all (by rw[h.size];exact hj),if_neg (by omega)];exact h.keep k hk⟩
section
variable {κ:SortKind}{rk:Keyed->Nat}{S:Keyed->Prop}{st:SortSt}
abbrev AllS(S:Keyed->Prop)(xs:Array Keyed):Prop:=∀p,p∈xs.toList->S p
theorem Bs.inS{st':SortSt}(hS:AllS S (arrOf st))(h:Bs κ st lo n st'){i:Nat}(hi:i < (arrOf st').size):S (arrOf st')[i]:=hS _ ((Q4.mp h.perm).mem_iff.mp (by simp))
theorem DW(q:uZ prog w A s κ rk S){st':SortSt}{lo n i j:Nat}{Q:Option Bool->SortSt->Prop}(hS:AllS S (arrOf st))(hB:Bs κ st lo n st')(hi:i < (arrOf st).size)(hj:j < (arrOf st).size)(h:Q (some (decide (KR rk (arrOf st') i < KR rk (arrOf st') j))) st'):wpS (model prog w) A E s (ltAt' i j) Q st':=by
 have hi':i < (arrOf st').size:=by rw[hB.size];exact hi
 have hj':j < (arrOf st').size:=by rw[hB.size];exact hj
 rw[ltAt'_eq];refine wpS_bind (wpS_get ?_);refine wpS_bind (ZQ hi' (wpS_bind (ZQ hj' ?_)));refine w_lt q hB.kind (hB.inS hS _) (hB.inS hS _) ?_;rw[KR_at hi',KR_at hj']at h;exact h
noncomputable def Gq(lo a nrem:Nat):StateT SortSt Sem AscSt :=
 forIn [a:nrem] ((none,a):AscSt) λ_ z=>do
  let some sm<-ltAt' (lo+z.2) (lo+z.2 - 1)|pure (.done (some none,z.2))
  if sm=true then pure (.done (none,z.2)) else pure (.yield (none,z.2+1))
noncomputable def xL(lo n nrem:Nat):StateT SortSt Sem (Option Nat):=do
 reverseSlice' lo (lo+n)
 let z<-Gq lo n nrem
 match z.1 with
 | some r=>pure r
 | none=>pure (some z.2)
noncomputable def YF(lo n nrem:Nat):StateT SortSt Sem DescSt :=
 forIn [n:nrem] ((none,n,0):DescSt) λ_ z=>do
  let some sm<-ltAt' (lo+z.2.1) (lo+z.2.1 - 1)|pure (.done (some none,z.2.1,z.2.2))
  if sm=true then
   if z.2.2 > 0 then do
    reverseSlice' (lo+z.2.1 - (z.2.2+1)) (lo+z.2.1)
    pure (.yield (none,z.2.1+1,0))
   else pure (.yield (none,z.2.1+1,0))
  else do
   let some la<-ltAt' (lo+z.2.1 - 1) (lo+z.2.1)|pure (.done (some none,z.2.1,z.2.2))
   if la=true then pure (.done (none,z.2.1,z.2.2)) else pure (.yield (none,z.2.1+1,z.2.2+1))
noncomputable def aN(lo n nrem:Nat):StateT SortSt Sem (Option Nat):=do
 liftM (rule "list.sort.descending-run")
 let z<-YF lo (n+1) nrem
 match z.1 with
 | some r=>pure r
 | none =>
  if z.2.2 > 0 then do
   reverseSlice' (lo+z.2.1 - (z.2.2+1)) (lo+z.2.1)
   xL lo z.2.1 nrem
  else xL lo z.2.1 nrem
theorem YE(lo nrem:Nat):countRun' lo nrem=(do
    let z<-Gq lo 1 nrem
    match z.1 with
    | some r=>pure r
    | none =>
      if (z.2==nrem)=true then pure (some z.2)
      else if z.2 > 1 then do
        let some ro<-ltAt' lo (lo+z.2 - 1)|pure none
        if ro=true then pure (some z.2) else do
          reverseSlice' lo (lo+z.2)
          aN lo z.2 nrem
      else aN lo z.2 nrem):=by
 have te:∀m,(do
     reverseSlice' lo (lo+m)
     let z<-Gq lo m nrem
     match z.1 with
     | some r=>pure r
     | none=>pure (some z.2))=xL lo m nrem:=λm=>rfl;rw[countRun'_eq];unfold aN xL YF Gq;refine congr (congrArg bind rfl) (funext λz=>?_);obtain⟨r,n⟩:=z;cases r with
 | some r=>rfl
 | none =>
  dsimp only;have tl:∀z:AscSt,(match z.1 with|some r=>pure r|none=>pure (some z.2):StateT SortSt Sem (Option Nat))=match z.1 with|some r=>pure r|none=>pure (some z.2):=λz=>rfl
  split
  ·rfl
  ·split
   ·congr 1;funext x;cases x with
    | none=>rfl
    | some ro =>
     dsimp only;split
     ·rfl
     ·congr 1;funext _;congr 1;funext _;congr 1;funext z;obtain⟨r,m,q⟩:=z;cases r with
      | some r=>rfl
      | none =>
       dsimp only;split
       ·congr 1;funext _;congr 1;funext _;congr 1;funext z;obtain⟨r,k⟩:=z;cases r<;>rfl
       ·congr 1;funext _;congr 1;funext z;obtain⟨r,k⟩:=z;cases r<;>rfl
   ·congr 1;funext _;congr 1;funext z;obtain⟨r,m,q⟩:=z;cases r with
    | some r=>rfl
    | none =>
     dsimp only;split
     ·congr 1;funext _;congr 1;funext _;congr 1;funext z;obtain⟨r,k⟩:=z;cases r<;>rfl
     ·congr 1;funext _;congr 1;funext z;obtain⟨r,k⟩:=z;cases r<;>rfl
theorem ZF{i j:Nat}{st':SortSt}{Q:Unit->SortSt->Prop}(h:Q () (setArr st' (mirror (arrOf st') i j ((j - i) / 2)))):wpS (model prog w) A E s (reverseSlice' i j) Q st':=by rw[reverseSlice'_eq];exact wpS_modify h
theorem bB(q:uZ prog w A s κ rk S){st':SortSt}{lo N a nrem:Nat}{Q:AscSt->SortSt->Prop}(hS:AllS S (arrOf st))(hn:lo+nrem<=(arrOf st).size)(ha:1<=a)(han:a<=nrem)(hB:Bs κ st lo N st')(hs:Sg rk (arrOf st') lo a)(h:∀n,a<=n->n<=nrem->Sg rk (arrOf st') lo n->(n=nrem\/KR rk (arrOf st') (lo+n) < KR rk (arrOf st') (lo+n - 1))->Q (none,n) st'):wpS (model prog w) A E s (Gq lo a nrem) Q st':=by
 unfold Gq;refine wpS_forRange (I:=λx c z=>z=st'/\c=(none,x)/\Sg rk (arrOf st') lo x) ?step ?fin ⟨rfl,rfl,hs⟩
 case fin=>rintro c z ⟨rfl,rfl,h1⟩;rw[show max a nrem=nrem by omega]at h1 ⊢;exact h nrem han (u0 _) h1 (.inl rfl)
 case step =>
  rintro x c z hax hxn ⟨rfl,rfl,h1⟩;dsimp only;refine wpS_bind (DW q hS hB (by omega) (by omega) ?_);dsimp only;by_cases hl:KR rk (arrOf z) (lo+x) < KR rk (arrOf z) (lo+x - 1)
  ·rw[if_pos (by simpa using hl)];exact wpS_pure (h x hax (by omega) h1 (.inr hl))
  ·rw[if_neg (by simpa using hl)];refine wpS_pure ⟨rfl,rfl,λi j hi hij hj=>?_⟩;by_cases hjx:j < lo+x
   ·exact h1 i j hi hij hjx
   ·have:j=lo+x:=by omega
    subst this;by_cases hi':i=lo+x
    ·subst hi';exact u0 _
    ·have:=h1 i (lo+x - 1) hi (by omega) (by omega);omega
theorem bN(q:uZ prog w A s κ rk S){st':SortSt}{lo n nrem:Nat}{Q:Option Nat->SortSt->Prop}(hS:AllS S (arrOf st))(hn:lo+nrem<=(arrOf st).size)(h1:1<=n)(hnn:n<=nrem)(hB:Bs κ st lo nrem st')(hs:Dg rk (arrOf st') lo n)(h:∀m z,Bs κ st lo nrem z->1<=m->m<=nrem->Sg rk (arrOf z) lo m->Q (some m) z):wpS (model prog w) A E s (xL lo n nrem) Q st':=by
 unfold xL;refine wpS_bind (ZF ?_);have hz:lo+n<=(arrOf st').size:=by rw[hB.size];omega
 have hB':=hB.mir (i:=lo) (j:=lo+n) (by omega) (u0 _) (by omega);refine wpS_bind (bB q hS hn h1 hnn hB' (λi j hi hij hj=>?_) λm m1 m2 hm _=>wpS_pure (h m _ hB' (by omega) m2 hm));show KR rk (mirror _ _ _ _) i<=KR rk (mirror _ _ _ _) j;rw[tY hz,tY hz,if_pos (by omega),if_pos (by omega)];exact hs _ _ (by omega) (by omega) (by omega)
theorem IJ{xs:Array Keyed}{i j:Nat}(hj:j<=xs.size)(he:∀k,i<=k->k < j->KR rk xs k=KR rk xs (j - 1))(k:Nat):KR rk (mirror xs i j ((j - i) / 2)) k=KR rk xs k:=by
 rw[tY hj];split
 ·rw[he _ (by omega) (by omega),he k (by omega) (by omega)]
 ·rfl
theorem ZE(q:uZ prog w A s κ rk S){st':SortSt}{lo n nrem:Nat}{Q:DescSt->SortSt->Prop}(hS:AllS S (arrOf st))(hn:lo+nrem<=(arrOf st).size)(h1:1<=n)(hnn:n<=nrem)(hB:Bs κ st lo nrem st')(hs:Dg rk (arrOf st') lo n)(h:∀m e z,Bs κ st lo nrem z->n<=m->m<=nrem->Dg rk (arrOf z) lo m->e+1<=m->(∀i,lo+m - (e+1)<=i->i < lo+m->KR rk (arrOf z) i=KR rk (arrOf z) (lo+m - 1))->Q (none,m,e) z):wpS (model prog w) A E s (YF lo n nrem) Q st':=by
 unfold YF;refine wpS_forRange (I:=λx c z=>∃e,c=(none,x,e)/\Bs κ st lo nrem z/\Dg rk (arrOf z) lo x/\e+1<=x/\∀i,lo+x - (e+1)<=i->i < lo+x->KR rk (arrOf z) i=KR rk (arrOf z) (lo+x - 1)) ?step ?fin
  ⟨0,rfl,hB,hs,by omega,λi i1 i2=>by congr 1;omega⟩
 case fin=>rintro c z ⟨e,rfl,b,d,e1,e2⟩;rw[show max n nrem=nrem by omega]at d e1 e2 ⊢;exact h nrem e z b hnn (u0 _) d e1 e2
 case step =>
  rintro x c z hax hxn ⟨e,rfl,b,d,e1,e2⟩;dsimp only;have hz:lo+x<=(arrOf z).size:=by rw[b.size];omega
  refine wpS_bind (DW q hS b (by omega) (by omega) ?_);dsimp only;by_cases hl:KR rk (arrOf z) (lo+x) < KR rk (arrOf z) (lo+x - 1)
  ·rw[if_pos (by simpa using hl)];have st1:∀xs:Array Keyed,(∀k,KR rk xs k=KR rk (arrOf z) k)->Dg rk xs lo (x+1):=λxs hk i j hi hij hj=>by
    rw[hk,hk];by_cases hjx:j < lo+x
    ·exact d i j hi hij hjx
    ·have:j=lo+x:=by omega
     subst this;by_cases hi':i=lo+x
     ·subst hi';exact u0 _
     ·have:=d i (lo+x - 1) hi (by omega) (by omega);omega
   by_cases he:e > 0
   ·rw[if_pos he];exact wpS_bind (ZF (wpS_pure ⟨0,rfl,b.mir (by omega) (by omega) (by omega),st1 _ (IJ hz e2),by omega,λi i1 i2=>by congr 1;omega⟩))
   ·rw[if_neg he];exact wpS_pure ⟨0,rfl,b,st1 _ (λ_=>rfl),by omega,λi i1 i2=>by congr 1;omega⟩
  ·rw[if_neg (by simpa using hl)];refine wpS_bind (DW q hS b (by omega) (by omega) ?_);dsimp only;by_cases hg:KR rk (arrOf z) (lo+x - 1) < KR rk (arrOf z) (lo+x)
   ·rw[if_pos (by simpa using hg)];exact wpS_pure (h x e z b hax (by omega) d e1 e2)
   ·rw[if_neg (by simpa using hg)];refine wpS_pure ⟨e+1,rfl,b,λi j hi hij hj=>?_,by omega,λi i1 i2=>?_⟩
    ·by_cases hjx:j < lo+x
     ·exact d i j hi hij hjx
     ·have:j=lo+x:=by omega
      subst this;by_cases hi':i=lo+x
      ·subst hi';exact u0 _
      ·have:=d i (lo+x - 1) hi (by omega) (by omega);omega
    ·rw[show lo+(x+1) - 1=lo+x by omega];by_cases hix:i=lo+x
     ·subst hix;rfl
     ·have:=e2 i (by omega) (by omega);omega
theorem cN(q:uZ prog w A s κ rk S){st':SortSt}{lo n nrem:Nat}{Q:Option Nat->SortSt->Prop}(hS:AllS S (arrOf st))(hn:lo+nrem<=(arrOf st).size)(hnn:n+1<=nrem)(hB:Bs κ st lo nrem st')(hs:Dg rk (arrOf st') lo (n+1))(h:∀m z,Bs κ st lo nrem z->1<=m->m<=nrem->Sg rk (arrOf z) lo m->Q (some m) z):wpS (model prog w) A E s (aN lo n nrem) Q st':=by
 unfold aN;refine wpS_bind (wpS_lift (wpAny_rule ⟨rfl,?_⟩));refine wpS_bind (ZE q hS hn (by omega) hnn hB hs λm e z b m1 m2 d e1 e2=>?_);dsimp only;have hz:lo+m<=(arrOf z).size:=by rw[b.size];omega
 by_cases he:e > 0
 ·rw[if_pos he];refine wpS_bind (ZF (bN q hS hn (by omega) m2 (b.mir (by omega) (by omega) (by omega)) (λi j hi hij hj=>?_) h));show KR rk (mirror _ _ _ _) j<=KR rk (mirror _ _ _ _) i;rw[IJ hz e2,IJ hz e2];exact d i j hi hij hj
 ·rw[if_neg he];exact bN q hS hn (by omega) m2 b d h
theorem xP(q:uZ prog w A s κ rk S){lo nrem:Nat}{Q:Option Nat->SortSt->Prop}(hS:AllS S (arrOf st))(hn:lo+nrem<=(arrOf st).size)(h1:1<=nrem)(hB:Bs κ st lo nrem st)(h:∀m z,Bs κ st lo nrem z->1<=m->m<=nrem->Sg rk (arrOf z) lo m->Q (some m) z):wpS (model prog w) A E s (countRun' lo nrem) Q st:=by
 rw[YE];refine wpS_bind (bB q hS hn (u0 1) h1 hB (λi j hi hij hj=>by have:i=j:=(by omega);subst this;exact u0 _) λn n1 n2 sn hor=>?_);dsimp only;by_cases hnn:n=nrem
 ·rw[if_pos (by simpa using hnn)];exact wpS_pure (h n st hB n1 n2 sn)
 ·rw[if_neg (by simpa using hnn)];have hlt:=hor.resolve_left hnn;by_cases hgt:n > 1
  ·rw[if_pos hgt];refine wpS_bind (DW q hS hB (by omega) (by omega) ?_);dsimp only;by_cases hr:KR rk (arrOf st) lo < KR rk (arrOf st) (lo+n - 1)
   ·rw[if_pos (by simpa using hr)];exact wpS_pure (h n st hB n1 n2 sn)
   ·rw[if_neg (by simpa using hr)];have hz:lo+n<=(arrOf st).size:=by omega
    have all:∀k,lo<=k->k < lo+n->KR rk (arrOf st) k=KR rk (arrOf st) (lo+n - 1):=λk k1 k2=>by have a1:=sn lo k (by omega) k1 k2;have a2:=sn k (lo+n - 1) k1 (by omega) (by omega);omega
    refine wpS_bind (ZF (cN q hS hn (by omega) (hB.mir (by omega) (by omega) (by omega)) (λi j hi hij hj=>?_) h));show KR rk (mirror _ _ _ _) j<=KR rk (mirror _ _ _ _) i;rw[IJ hz all,IJ hz all];by_cases hjn:j < lo+n
    ·have:=all i hi (by omega);have:=all j (by omega) hjn;omega
    ·have:j=lo+n:=by omega
     subst this;by_cases hi':i=lo+n
     ·subst hi';exact u0 _
     ·have:=all i hi (by omega);omega
  ·rw[if_neg hgt];have:n=1:=by omega
   subst this;refine cN q hS hn (by omega) hB (λi j hi hij hj=>?_) h;by_cases hi':i=j
   ·subst hi';exact u0 _
   ·have e1:i=lo:=by omega
    have e2:j=lo+1:=by omega
    subst e1;subst e2;exact B5 hlt
theorem aI(q:uZ prog w A s κ rk S){st':SortSt}{lo N n ok:Nat}{Q:Bool->SortSt->Prop}(hS:AllS S (arrOf st))(hn:lo+n<=(arrOf st).size)(hnN:n<=N)(hok:ok<=n)(hB:Bs κ st lo N st')(hs:Sg rk (arrOf st') lo ok)(h:∀z,Bs κ st lo N z->Sg rk (arrOf z) lo n->Q true z):wpS (model prog w) A E s (binarySort' lo n ok) Q st':=by
 rw[binarySort'_eq];refine wpS_bind (wpS_mono (wpS_forRange (I:=λk c z=>c=(none,())/\Bs κ st lo N z/\Sg rk (arrOf z) lo (min k n)) (Q:=λc z=>c=(none,())/\Bs κ st lo N z/\Sg rk (arrOf z) lo n) ?step ?fin ?init) ?post)
 case post=>rintro c z ⟨rfl,b,hs'⟩;exact wpS_pure (h z b hs')
 case init =>
  refine ⟨rfl,hB,λi j hi hij hj=>?_⟩;by_cases h1:ok=0
  ·have:i=j:=by omega
   subst this;exact u0 _
  ·exact hs i j hi hij (by omega)
 case fin=>rintro c z ⟨hc,b,hs'⟩;refine ⟨hc,b,?_⟩;rwa [show min (max (max ok 1) n) n=n by omega]at hs'
 case step =>
  rintro k c z hak hkn ⟨rfl,b,hs'⟩;rw[show min k n=k by omega]at hs';refine wpS_bind (wpS_mono (wpS_forRange (I:=λx c z'=>z'=z/\∃l r,c=(none,l,r)/\l<=r/\r<=k/\r - l<=k - x/\(∀i,i < l->KR rk (arrOf z) (lo+i)<=KR rk (arrOf z) (lo+k))/\(∀i,r<=i->i < k->KR rk (arrOf z) (lo+k) < KR rk (arrOf z) (lo+i)))
    (Q:=λc z'=>z'=z/\∃l r,c=(none,l,r)/\l<=k/\(∀i,i < l->KR rk (arrOf z) (lo+i)<=KR rk (arrOf z) (lo+k))/\(∀i,l<=i->i < k->KR rk (arrOf z) (lo+k) < KR rk (arrOf z) (lo+i))) ?istep ?ifin ?iinit) ?ipost)
  case iinit=>exact ⟨rfl,0,k,rfl,by omega,by omega,by omega,λi hi=>by omega,λi h1 h2=>by omega⟩
  case ifin =>
   rintro c z' ⟨rfl,l,r,rfl,hlr,hrk,hm,hlo,hhi⟩;have:l=r:=by omega
   subst this;exact ⟨rfl,l,l,rfl,hrk,hlo,hhi⟩
  case istep =>
   rintro x c z' _ hxk ⟨rfl,l,r,rfl,hlr,hrk,hm,hlo,hhi⟩;dsimp only;by_cases hge:l ≥ r
   ·rw[if_pos hge];have:l=r:=by omega
    subst this;exact wpS_pure ⟨rfl,l,l,rfl,hrk,hlo,hhi⟩
   ·rw[if_neg hge];refine wpS_bind (DW q hS b (by omega) (by omega) ?_);dsimp only;by_cases hl:KR rk (arrOf z') (lo+k) < KR rk (arrOf z') (lo+(l+r) / 2)
    ·rw[if_pos (by simpa using hl)];refine wpS_pure ⟨rfl,l,(l+r) / 2,rfl,by omega,by omega,by omega,hlo,λi h1 h2=>?_⟩;have:=hs' (lo+(l+r) / 2) (lo+i) (by omega) (by omega) (by omega);omega
    ·rw[if_neg (by simpa using hl)];refine wpS_pure ⟨rfl,(l+r) / 2+1,r,rfl,by omega,by omega,by omega,λi h1=>?_,hhi⟩;have:=hs' (lo+i) (lo+(l+r) / 2) (by omega) (by omega) (by omega);omega
  case ipost =>
   rintro c z' ⟨rfl,l,r,rfl,hlk,hlo,hhi⟩;show wpS _ _ _ _ (do moveDown' (lo+k) (lo+l);pure (ForInStep.yield (none,()))) _ _;rw[moveDown'_eq];have hks:lo+k < (arrOf z').size:=by rw[b.size];omega
   refine wpS_bind (wpS_modify (wpS_pure ⟨rfl,⟨(bubble_perm _ _ _).trans b.perm,b.kind,b.failed,b.pend,λi hi=>?_⟩,?_⟩))
   ·show (bubble (arrOf z') _ _)[i]?=_;rw[getElem?_bubble hks _ (by omega),if_neg (by omega),if_neg (by omega)];exact b.keep i hi
   ·rw[show min (k+1) n=k+1 by omega];intro i j hi hij hj;show KR rk (bubble (arrOf z') (lo+k) (lo+k - (lo+l))) i<=KR rk (bubble (arrOf z') (lo+k) (lo+k - (lo+l))) j;rw[QV hks (by omega),QV hks (by omega),show lo+k - (lo+k - (lo+l))=lo+l by omega];have hlo':∀i,lo<=i->i < lo+l->KR rk (arrOf z') i<=KR rk (arrOf z') (lo+k):=λi h1 h2=>by
     have:=hlo (i - lo) (by omega);rwa [show lo+(i - lo)=i by omega]at this
    have hhi':∀i,lo+l<=i->i < lo+k->KR rk (arrOf z') (lo+k) < KR rk (arrOf z') i:=λi h1 h2=>by have:=hhi (i - lo) (by omega) (by omega);rwa [show lo+(i - lo)=i by omega]at this
    repeat' split
    all_goals first
     | (exfalso;omega)
     | exact u0 _
     | exact hlo' _ (by omega) (by omega)
     | exact B5 (hhi' _ (by omega) (by omega))
     | exact hs' _ _ (by omega) (by omega) (by omega)
end
noncomputable def wb(xs:Array Keyed)(c:Nat)(m:List Keyed)(n:Nat):Array Keyed:=(m.zipIdx n).foldl (λa pj=>a.setIfInBounds (c+pj.2) pj.1) xs
theorem bI(i:Nat):mergeAt' i=(do
    let z<-get
    let (some (sa,na,pw),some (sb,nb,_)):=((pendingOf z)[i]?,(pendingOf z)[i+1]?)|unsupported "internal:list.sort.pending"
    set (setPending z (((pendingOf z).setIfInBounds i (sa,na+nb,pw)).eraseIdxIfInBounds (i+1)))
    let some k<-Fq false (<- elem' (arrOf z) sb) (arrOf z) sa na 0|return false
    let (sa,na):=(sa+k,na - k)
    if na==0 then return true
    let some nb<-Fq true (<- elem' (arrOf z) (sa+na - 1)) (arrOf z) sb nb (nb - 1)|return false
    if nb==0 then return true
    let x:=(arrOf z).extract sa sb
    let y:=(arrOf z).extract sb (sb+nb)
    let r<-if na<=nb then jO x y else kO x y
    modify λv=>setArr v (wb (arrOf v) sa r.toList 0)
    return (failedOf (<- get)).isNone):=rfl
theorem OG:∀(m:List Keyed) (n c:Nat) (xs:Array Keyed),c+n+m.length<=xs.size->∀k,(wb xs c m n)[k]?=if c+n<=k/\k < c+n+m.length then m[k - (c+n)]? else xs[k]?
 | [],n,c,xs,_,k=>by show xs[k]?=_;rw[if_neg (by simp)]
 | p :: m,n,c,xs,h,k=>by
  have hl:(p :: m).length=m.length+1:=rfl;show (wb (xs.setIfInBounds (c+n) p) c m (n+1))[k]?=_;rw[OG m (n+1) c _ (by rw[Array.size_setIfInBounds];omega),Array.getElem?_setIfInBounds];by_cases h1:c+n=k
  ·subst h1;rw[if_neg (by omega),if_pos rfl,if_pos (by omega),if_pos (by omega)];simp
  ·by_cases h2:c+(n+1)<=k/\k < c+(n+1)+m.length
   ·rw[if_pos h2,if_pos (by omega)];have e:k - (c+n)=(k - (c+(n+1)))+1:=by omega
    rw[e,U2]
   ·rw[if_neg h2,if_neg h1,if_neg (by omega)]
theorem iy{xs:Array Keyed}{c:Nat}{m:List Keyed}(h:c+m.length<=xs.size):(wb xs c m 0).toList=xs.toList.take c++m++xs.toList.drop (c+m.length):=by
 apply List.ext_getElem?;intro k;rw[J5,OG m 0 c xs (by omega)];have hl:(xs.toList.take c).length=c:=by rw[U1,S0];omega
 rw[E2];by_cases h1:k < c
 ·rw[if_neg (by omega),P2 (by omega),B8 h1,J5]
 ·rw[S1 (by omega),hl];by_cases h2:k - c < m.length
  ·rw[if_pos (by omega),P2 h2];rfl
  ·rw[if_neg (by omega),S1 (by omega),Z7,J5];congr 1;omega
section
variable {κ:SortKind}{rk:Keyed->Nat}{S:Keyed->Prop}{st:SortSt}
theorem ext_at{xs:Array Keyed}{a b i:Nat}(hb:b<=xs.size)(hi:i < (xs.extract a b).size):(xs.extract a b)[i]=xs[a+i]'(by rw[T6]at hi;omega):=by rw[Array.getElem_extract]
theorem Zj{xs:Array Keyed}{a b:Nat}(hb:b<=xs.size)(h:∀i j,a<=i->i<=j->j < b->KR rk xs i<=KR rk xs j):(xs.extract a b).toList.Pairwise (nV rk):=by
 rw[U3];intro i j hi hj hij;rw[S0]at hi hj;rw[A3,A3,ext_at hb,ext_at hb];have hz:(xs.extract a b).size=b - a:=by rw[T6];omega
 have:=h (a+i) (a+j) (by omega) (by omega) (by omega);rwa [KR_at (by omega),KR_at (by omega)]at this
structure Mt(κ:SortKind)(rk:Keyed->Nat)(st:SortSt)(i sa na nb pw:Nat)(st':SortSt):Prop where
 perm:(arrOf st').Perm (arrOf st)
 kind:kindOf st'=κ
 failed:failedOf st'=none
 pend:pendingOf st'=((pendingOf st).setIfInBounds i (sa,na+nb,pw)).eraseIdxIfInBounds (i+1)
 keep:∀j,j < sa\/sa+(na+nb)<=j->(arrOf st')[j]?=(arrOf st)[j]?
 sg:Sg rk (arrOf st') sa (na+nb)
theorem dN(q:uZ prog w A s κ rk S){i sa na nb pw pw':Nat}{Q:Bool->SortSt->Prop}(hS:AllS S (arrOf st))(hk:kindOf st=κ)(hF:failedOf st=none)(p1:(pendingOf st)[i]?=some (sa,na,pw))(p2:(pendingOf st)[i+1]?=some (sa+na,nb,pw'))(hz:sa+na+nb<=(arrOf st).size) (n1:1<=na) (n2:1<=nb) (s1:Sg rk (arrOf st) sa na) (s2:Sg rk (arrOf st) (sa+na) nb) (h:∀st',Mt κ rk st i sa na nb pw st'->Q true st'):wpS (model prog w) A E s (mergeAt' i) Q st:=by
 rw[bI];refine wpS_bind (wpS_get ?_);rw[p1,p2];dsimp only;refine wpS_bind (wpS_modify (f:=λ_=>setPending st (((pendingOf st).setIfInBounds i (sa,na+nb,pw)).eraseIdxIfInBounds (i+1))) ?_);generalize hst1:setPending st (((pendingOf st).setIfInBounds i (sa,na+nb,pw)).eraseIdxIfInBounds (i+1))=st1;have hk1:kindOf st1=κ:=by rw[<- hst1];exact hk
 have hF1:failedOf st1=none:=by rw[<- hst1];exact hF
 have hA1:arrOf st1=arrOf st:=by rw[<- hst1]
 have hP1:pendingOf st1=((pendingOf st).setIfInBounds i (sa,na+nb,pw)).eraseIdxIfInBounds (i+1):=by rw[<- hst1]
 have hSi:∀j (hj:j < (arrOf st).size),S (arrOf st)[j]:=λj hj=>hS _ (by simp);have s1':∀a b,sa<=a->a<=b->b < sa+na->KR rk (arrOf st) a<=KR rk (arrOf st) b:=s1;have s2':∀a b,sa+na<=a->a<=b->b < sa+na+nb->KR rk (arrOf st) a<=KR rk (arrOf st) b:=s2;refine wpS_bind (ZQ (by omega) ?_);refine wpS_bind (RZ q hk1 (hSi _ _) hSi (by omega) (λa b hb hab h1 h2=>by
   have:=s1' a b h1 hab h2;rwa [KR_at (by omega),KR_at hb]at this) (by omega) λk kn k1 k2=>?_);dsimp only;have k1':∀a,sa<=a->a < sa+k->KR rk (arrOf st) a<=KR rk (arrOf st) (sa+na):=λa h1 h2=>by
  have:=k1 a (by omega) h1 h2;rw[if_neg (by decide)]at this;rwa [KR_at (by omega),KR_at (by omega)]
 have k2':∀a,sa+k<=a->a < sa+na->KR rk (arrOf st) (sa+na) < KR rk (arrOf st) a:=λa h1 h2=>by have:=k2 a (by omega) h1 h2;rw[if_neg (by decide)]at this;rwa [KR_at (by omega),KR_at (by omega)]
 by_cases h0:na - k=0
 ·rw[if_pos (by simpa using h0)];refine wpS_pure (h st1 ⟨by rw[hA1],hk1,hF1,hP1,λj _=>by rw[hA1],λa b h1 h2 h3=>?_⟩);rw[hA1];by_cases hb:b < sa+na
  ·exact s1' a b h1 h2 hb
  ·by_cases ha:a < sa+na
   ·exact Q0 (k1' a h1 (by omega)) (s2' (sa+na) b (by omega) (by omega) (by omega))
   ·exact s2' a b (by omega) h2 (by omega)
 ·rw[if_neg (by simpa using h0)];refine wpS_bind (ZQ (by omega) ?_);refine wpS_bind (RZ q hk1 (hSi _ _) hSi (by omega) (λa b hb hab h1 h2=>by
    have:=s2' a b h1 hab h2;rwa [KR_at (by omega),KR_at hb]at this) (by omega) λl ln l1 l2=>?_);dsimp only;have l1':∀a,sa+na<=a->a < sa+na+l->KR rk (arrOf st) a < KR rk (arrOf st) (sa+k+(na - k) - 1):=λa h1 h2=>by
   have:=l1 a (by omega) h1 h2;rw[if_pos rfl]at this;rwa [KR_at (by omega),KR_at (by omega)]
  have l2':∀a,sa+na+l<=a->a < sa+na+nb->KR rk (arrOf st) (sa+k+(na - k) - 1)<=KR rk (arrOf st) a:=λa h1 h2=>by have:=l2 a (by omega) h1 h2;rw[if_pos rfl]at this;rwa [KR_at (by omega),KR_at (by omega)]
  have el:sa+k+(na - k) - 1=sa+na - 1:=by omega
  rw[el]at l1' l2';by_cases hl0:l=0
  ·rw[if_pos (by simpa using hl0)];refine wpS_pure (h st1 ⟨by rw[hA1],hk1,hF1,hP1,λj _=>by rw[hA1],λa b h1 h2 h3=>?_⟩);rw[hA1];by_cases hb:b < sa+na
   ·exact s1' a b h1 h2 hb
   ·by_cases ha:a < sa+na
    ·exact Q0 (s1' a (sa+na - 1) h1 (by omega) (by omega)) (l2' b (by omega) (by omega))
    ·exact s2' a b (by omega) h2 (by omega)
  ·rw[if_neg (by simpa using hl0)];have hxz:((arrOf st).extract (sa+k) (sa+na)).size=na - k:=by rw[T6];omega
   have hyz:((arrOf st).extract (sa+na) (sa+na+l)).size=l:=by rw[T6];omega
   have H:Hy rk S ((arrOf st).extract (sa+k) (sa+na)) ((arrOf st).extract (sa+na) (sa+na+l)):=by
    refine ⟨Zj (by omega) λa b h1 h2 h3=>s1' a b (by omega) h2 h3,Zj (by omega) λa b h1 h2 h3=>s2' a b h1 h2 (by omega),λj hj=>?_,λj hj=>?_,by omega,by omega,λj hj=>?_,λj hj=>?_⟩
    ·rw[ext_at (by omega)];exact hSi _ _
    ·rw[ext_at (by omega)];exact hSi _ _
    ·rw[ext_at (by omega),ext_at (by omega)];have:=l1' (sa+na+j) (by omega) (by omega);rw[KR_at (by omega),KR_at (by omega)]at this;simp only[hxz];have e2:sa+k+(na - k - 1)=sa+na - 1:=by omega
     simp only[e2];exact B5 this
    ·rw[ext_at (by omega),ext_at (by omega)];have:=k2' (sa+k+j) (by omega) (by omega);rw[KR_at (by omega),KR_at (by omega)]at this;simp only[Nat.add_zero];exact B5 this
   have go:∀(r:Array Keyed) (st2:SortSt),Gs st1 st2->Po rk ((arrOf st).extract (sa+k) (sa+na)) ((arrOf st).extract (sa+na) (sa+na+l)) r->wpS (model prog w) A E s (do
       modify λv=>setArr v (wb (arrOf v) (sa+k) r.toList 0)
       let v<-get
       pure (failedOf v).isNone) Q st2:=by
    rintro r st2 ⟨g,rfl⟩ ⟨hp,hw⟩;refine wpS_bind (wpS_modify (wpS_bind (wpS_get ?_)));have hlen:r.toList.length=na - k+l:=by rw[hp.length_eq,M0,S0,S0,hxz,hyz]
    have hb:sa+k+r.toList.length<=(arrOf st).size:=by omega
    have eA:arrOf (setArr (QK st1 g) (wb (arrOf (QK st1 g)) (sa+k) r.toList 0))=wb (arrOf st) (sa+k) r.toList 0:=by show wb (arrOf st1) _ _ _=_;rw[hA1]
    have eF:failedOf (setArr (QK st1 g) (wb (arrOf (QK st1 g)) (sa+k) r.toList 0))=none:=hF1;rw[eF];have gt:∀j,(wb (arrOf st) (sa+k) r.toList 0)[j]?=if sa+k<=j/\j < sa+k+r.toList.length then r.toList[j - (sa+k)]? else (arrOf st)[j]?:=λj=>OG r.toList 0 (sa+k) (arrOf st) hb j;have mid:∀j,sa+k<=j->j < sa+na+l->∃n,sa+k<=n/\n < sa+na+l/\KR rk (wb (arrOf st) (sa+k) r.toList 0) j=KR rk (arrOf st) n:=λj j1 j2=>by
     have hj:j - (sa+k) < r.toList.length:=by omega
     have e:KR rk (wb (arrOf st) (sa+k) r.toList 0) j=rk (r.toList[j - (sa+k)]'hj):=by unfold KR;rw[gt,if_pos (by omega),A0 hj]
     have hm:=hp.mem_iff.mp (J4 hj);rw[e];rcases E1.mp hm with hm|hm
     ·obtain⟨n,hn,en⟩:=S4 hm;rw[S0]at hn;rw[A3,ext_at (by omega)]at en;refine ⟨sa+k+n,by omega,by omega,?_⟩;rw[<- en,KR_at (by omega)]
     ·obtain⟨n,hn,en⟩:=S4 hm;rw[S0]at hn;rw[A3,ext_at (by omega)]at en;refine ⟨sa+na+n,by omega,by omega,?_⟩;rw[<- en,KR_at (by omega)]
    have out:∀j,j < sa+k\/sa+na+l<=j->(wb (arrOf st) (sa+k) r.toList 0)[j]?=(arrOf st)[j]?:=λj hj=>by rw[gt,if_neg (by omega)]
    refine wpS_pure (h _ ⟨?_,hk1,hF1,hP1,?_,?_⟩)
    ·rw[eA,Q4,iy hb];have e:(arrOf st).toList=(arrOf st).toList.take (sa+k)++(((arrOf st).extract (sa+k) (sa+na)).toList++((arrOf st).extract (sa+na) (sa+na+l)).toList)++(arrOf st).toList.drop (sa+k+r.toList.length):=by
      rw[L4,L4,T3,T3];have e1:(arrOf st).toList.drop (sa+na)=((arrOf st).toList.drop (sa+k)).drop (na - k):=by rw[m9];congr 1;omega
      rw[e1,show sa+na - (sa+k)=na - k by omega,show sa+na+l - (sa+na)=l by omega,<- List.take_add,hlen];have e2:(arrOf st).toList.drop (sa+k+(na - k+l))=((arrOf st).toList.drop (sa+k)).drop (na - k+l):=by rw[m9]
      rw[e2,E2,W4,W4]
     conv=>rhs;rw[e]
     exact (hp.append_left _).append_right _
    ·intro j hj;rw[eA];exact out j (by omega)
    ·rw[eA];intro a b h1 h2 h3;have kA:∀a,a < sa+k->KR rk (wb (arrOf st) (sa+k) r.toList 0) a=KR rk (arrOf st) a:=λa ha=>sX (out a (.inl ha));have kB:∀a,sa+na+l<=a->KR rk (wb (arrOf st) (sa+k) r.toList 0) a=KR rk (arrOf st) a:=λa ha=>sX (out a (.inr ha));by_cases ha:a < sa+k
     ·rw[kA a ha];by_cases hb1:b < sa+k
      ·rw[kA b hb1];exact s1' a b h1 h2 (by omega)
      ·by_cases hb2:b < sa+na+l
       ·obtain⟨n,m1,m2,en⟩:=mid b (by omega) hb2;rw[en];by_cases hn:n < sa+na
        ·exact s1' a n h1 (by omega) hn
        ·exact Q0 (k1' a h1 ha) (s2' (sa+na) n (by omega) (by omega) (by omega))
       ·rw[kB b (by omega)];exact Q0 (k1' a h1 ha) (s2' (sa+na) b (by omega) (by omega) (by omega))
     ·by_cases ha2:a < sa+na+l
      ·by_cases hb2:b < sa+na+l
       ·have ha':a - (sa+k) < r.toList.length:=by omega
        have hb':b - (sa+k) < r.toList.length:=by omega
        have ea:KR rk (wb (arrOf st) (sa+k) r.toList 0) a=rk (r.toList[a - (sa+k)]'ha'):=by unfold KR;rw[gt,if_pos (by omega),A0 ha']
        have eb:KR rk (wb (arrOf st) (sa+k) r.toList 0) b=rk (r.toList[b - (sa+k)]'hb'):=by unfold KR;rw[gt,if_pos (by omega),A0 hb']
        rw[ea,eb];rcases U9 a b with hab|hab
        ·exact U3.mp hw _ _ ha' hb' (by omega)
        ·have:a=b:=by omega
         subst this;exact u0 _
       ·obtain⟨n,m1,m2,en⟩:=mid a (by omega) ha2;rw[en,kB b (by omega)];by_cases hn:n < sa+na
        ·exact Q0 (s1' n (sa+na - 1) (by omega) (by omega) (by omega)) (l2' b (by omega) (by omega))
        ·exact s2' n b (by omega) (by omega) (by omega)
      ·rw[kB a (by omega),kB b (by omega)];exact s2' a b (by omega) h2 (by omega)
   by_cases hle:na - k<=l
   ·simp only[if_pos hle];exact wpS_bind (VM q H hk1 λr st2 hg hP=>go r st2 hg hP)
   ·simp only[if_neg hle];exact wpS_bind (ZM q H hk1 λr st2 hg hP=>go r st2 hg hP)
end
noncomputable def Ch(rk:Keyed->Nat)(xs:Array Keyed):List (Nat×Nat×Nat)->Nat->Nat->Prop
 | [],b,e=>b=e
 | p :: l,b,e=>p.1=b/\1<=p.2.1/\Sg rk xs b p.2.1/\Ch rk xs l (b+p.2.1) e
theorem Ch.len{rk:Keyed->Nat}{xs:Array Keyed}:∀{l:List (Nat×Nat×Nat)}{b e:Nat},Ch rk xs l b e->b+l.length<=e
 | [],b,e,h=>by cases h;simp
 | p :: l,b,e,h=>by have:=h.2.2.2.len;have:=h.2.1;rw[X2];omega
theorem Ch.append{rk:Keyed->Nat}{xs:Array Keyed}:∀{l l':List (Nat×Nat×Nat)}{b e:Nat},Ch rk xs (l++l') b e ↔ ∃m,Ch rk xs l b m/\Ch rk xs l' m e
 | [],l',b,e=>⟨λh=>⟨b,rfl,h⟩,λ⟨m,h1,h2⟩=>by cases h1;exact h2⟩
 | p :: l,l',b,e=>⟨λ⟨h1,h2,h3,h4⟩=>by obtain⟨m,h5,h6⟩:=Ch.append.mp h4;exact ⟨m,⟨h1,h2,h3,h5⟩,h6⟩,λ⟨m,⟨h1,h2,h3,h5⟩,h6⟩=>⟨h1,h2,h3,Ch.append.mpr ⟨m,h5,h6⟩⟩⟩
theorem Ch.congr{rk:Keyed->Nat}{xs ys:Array Keyed}:∀{l:List (Nat×Nat×Nat)}{b e:Nat},(∀i,b<=i->i < e->ys[i]?=xs[i]?)->Ch rk xs l b e->Ch rk ys l b e
 | [],_,_,_,h=>h
 | p :: l,b,e,k,⟨h1,h2,h3,h4⟩=>by have:=h4.len;refine ⟨h1,h2,λi j hi hij hj=>?_,h4.congr λi hi he=>k i (by omega) he⟩;rw[sX (k i hi (by omega)),sX (k j (by omega) (by omega))];exact h3 i j hi hij hj
structure In(κ:SortKind)(rk:Keyed->Nat)(st:SortSt)(lo:Nat)(st':SortSt):Prop where
 perm:(arrOf st').Perm (arrOf st)
 kind:kindOf st'=κ
 failed:failedOf st'=none
 ch:Ch rk (arrOf st') (pendingOf st').toList 0 lo
theorem In.size{κ:SortKind}{rk:Keyed->Nat}{st st':SortSt}(h:In κ rk st lo st'):(arrOf st').size=(arrOf st).size:=h.perm.size_eq
section
variable {κ:SortKind}{rk:Keyed->Nat}{S:Keyed->Prop}{st:SortSt}
theorem AllS.perm{xs ys:Array Keyed}(h:AllS S xs)(p:ys.Perm xs):AllS S ys:=λq hq=>h q ((Q4.mp p).mem_iff.mp hq)
theorem cB(q:uZ prog w A s κ rk S){i lo:Nat}{st':SortSt}{Q:Bool->SortSt->Prop}(hS:AllS S (arrOf st))(hI:In κ rk st lo st')(hlo:lo<=(arrOf st).size)(hi:i+1 < (pendingOf st').size)(h:∀st'',In κ rk st lo st''->(pendingOf st'').size+1=(pendingOf st').size->(∀j,lo<=j->(arrOf st'')[j]?=(arrOf st')[j]?)->Q true st''):wpS (model prog w) A E s (mergeAt' i) Q st':=by
 obtain⟨perm,kind,failed,ch⟩:=hI;have hl:(pendingOf st').toList.length=(pendingOf st').size:=S0;obtain⟨pre,p,p',post,e,ep⟩:∃pre p p' post,(pendingOf st').toList=pre++p :: p' :: post/\pre.length=i:=by refine ⟨(pendingOf st').toList.take i,(pendingOf st').toList[i]'(by omega),(pendingOf st').toList[i+1]'(by omega),(pendingOf st').toList.drop (i+2),?_,by rw[U1];omega⟩;have e1:=V4 (l:=(pendingOf st').toList) (i:=i) (by omega);have e2:=V4 (l:=(pendingOf st').toList) (i:=i+1) (by omega);rw[<- e2,<- e1,W4]
 rw[e]at ch;obtain⟨m,c1,c2⟩:=Ch.append.mp ch;obtain⟨sa,na,pw⟩:=p;obtain⟨sb,nb,pw'⟩:=p';obtain⟨f1,f2,f3,g1,g2,g3,c3⟩:=c2;dsimp only at f1 f2 f3 g1 g2 g3 c3;subst f1;subst g1;have hlen:=c3.len;have q1:(pendingOf st')[i]?=some (sa,na,pw):=by rw[<- J5,e,S1 (by omega),ep,Nat.sub_self];rfl
 have q2:(pendingOf st')[i+1]?=some (sa+na,nb,pw'):=by rw[<- J5,e,S1 (by omega),ep,Z5];rfl
 have hz:=perm.size_eq;refine dN q (hS.perm perm) kind failed q1 q2 (by omega) f2 g2 f3 g3 λst'' M=>?_;have el:(pendingOf st'').toList=pre++(sa,na+nb,pw) :: post:=by rw[M.pend,Array.toList_eraseIdxIfInBounds,Array.toList_setIfInBounds,e,<- ep,List.set_append_right _ _ (u0 _),Nat.sub_self,List.eraseIdx_append_of_length_le (by omega),Z5];rfl
 refine h st'' ⟨M.perm.trans perm,M.kind,M.failed,?_⟩ ?_ λj hj=>M.keep j (.inr (by omega))
 ·rw[el];refine Ch.append.mpr ⟨sa,c1.congr λj _ hj=>M.keep j (.inl hj),rfl,by show 1<=na+nb;omega,M.sg,?_⟩;show Ch rk _ post (sa+(na+nb)) lo;rw[<- Nat.add_assoc];exact c3.congr λj hj _=>M.keep j (.inr (by omega))
 ·have e1:=congrArg B4 el;have e2:=congrArg B4 e;rw[S0]at e1 e2;simp only[M0,X2]at e1 e2;omega
theorem Ch.modify{xs:Array Keyed}(pw:Nat):∀{l:List (Nat×Nat×Nat)}{i b e:Nat},Ch rk xs l b e->Ch rk xs (l.modify i λx=>(x.1,x.2.1,pw)) b e
 | [],i,_,_,h=>by cases i<;>exact h
 | p :: l,0,_,_,h=>h
 | p :: l,i+1,_,_,⟨h1,h2,h3,h4⟩=>⟨h1,h2,h3,h4.modify pw (i:=i)⟩
theorem In.put{n pw:Nat}{z:SortSt}(h:In κ rk st lo z):In κ rk st lo (setPending z ((pendingOf z).modify ((pendingOf z).size - 1) λx=>(x.1,x.2.1,pw))) :=
 ⟨h.perm,h.kind,h.failed,by show Ch rk (arrOf z) ((pendingOf z).modify ((pendingOf z).size - 1) λx=>(x.1,x.2.1,pw)).toList 0 lo;rw[Array.toList_modify];exact h.ch.modify pw⟩
theorem In.push{z:SortSt}(h:In κ rk st lo z)(hn:1<=n)(hs:Sg rk (arrOf z) lo n):In κ rk st (lo+n) (setPending z ((pendingOf z).push (lo,n,0))) :=
 ⟨h.perm,h.kind,h.failed,by show Ch rk (arrOf z) ((pendingOf z).push (lo,n,0)).toList 0 (lo+n);rw[t8];exact Ch.append.mpr ⟨lo,h.ch,rfl,hn,hs,rfl⟩⟩
theorem In.run{z z':SortSt}(h:In κ rk st lo z)(b:Bs κ z lo n z'):In κ rk st lo z' :=
 ⟨b.perm.trans h.perm,b.kind,b.failed,by rw[b.pend];exact h.ch.congr λi _ hi=>b.keep i (.inl hi)⟩
theorem Sg.congr{xs ys:Array Keyed}(h:Sg rk xs lo n)(k:∀j,lo<=j->ys[j]?=xs[j]?):Sg rk ys lo n:=λi j hi hij hj=>by rw[sX (k i hi),sX (k j (by omega))];exact h i j hi hij hj
theorem w_sort(q:uZ prog w A s κ rk S){Q:Unit->SortSt->Prop}(hS:AllS S (arrOf st))(hk:kindOf st=κ)(hF:failedOf st=none)(hP:pendingOf st=#[])(h:∀st',(arrOf st').Perm (arrOf st)->failedOf st'=none->Sg rk (arrOf st') 0 (arrOf st).size->Q () st'):wpS (model prog w) A E s sortRuns' Q st:=by
 rw[sortRuns'_eq];refine wpS_bind (wpS_get ?_);dsimp only;have I0:In κ rk st 0 st:=⟨Array.Perm.refl _,hk,hF,by rw[hP];rfl⟩;refine wpS_bind (wpS_mono (wpS_forRange (I:=λx c z=>∃lo,c=(none,lo)/\In κ rk st lo z/\lo<=(arrOf st).size/\(x<=lo\/lo=(arrOf st).size)) (Q:=λc z=>c=(none,(arrOf st).size)/\In κ rk st (arrOf st).size z) ?step ?fin ⟨0,rfl,I0,Q3 _,.inl (u0 _)⟩) ?post)
 case fin =>
  rintro c z ⟨lo,rfl,hI,h1,h2⟩;have:lo=(arrOf st).size:=by omega
  subst this;exact ⟨rfl,hI⟩
 case step =>
  rintro x c z _ hx ⟨lo,rfl,hI,h1,h2⟩;dsimp only;by_cases hge:lo ≥ (arrOf st).size
  ·rw[if_pos hge];have:lo=(arrOf st).size:=by omega
   subst this;exact wpS_pure ⟨rfl,hI⟩
  ·rw[if_neg hge];have hz:=hI.size;have hS':AllS S (arrOf z):=AllS.perm hS hI.perm;refine wpS_bind (xP q hS' (by omega) (by omega) ⟨Array.Perm.refl _,hI.kind,hI.failed,rfl,λ_ _=>rfl⟩ λn z1 b1 n1 n2 g1=>?_);dsimp only;have rest:∀(n:Nat) (z1:SortSt),In κ rk st lo z1->1<=n->lo+n<=(arrOf st).size->Sg rk (arrOf z1) lo n->∃c,c=n/\In κ rk st lo z1/\Sg rk (arrOf z1) lo c/\1<=c/\lo+c<=(arrOf st).size:=λn z1 a b c d=>⟨n,rfl,a,d,b,c⟩;by_cases hlt:n < minRun' (arrOf st).size (arrOf st).size 0
   case' pos =>
    rw[if_pos hlt];refine wpS_bind (wpS_lift (wpAny_rule ⟨rfl,?_⟩));refine wpS_bind (aI (N:=(arrOf st).size - lo) q hS' (n:=min ((arrOf st).size - lo) (minRun' (arrOf st).size (arrOf st).size 0)) (by omega) (by omega) (by omega) b1 g1 λz2 b2 g2=>?_);simp only[O6,S2,if_false];have hI2:=hI.run b2;have m1:1<=min ((arrOf st).size - lo) (minRun' (arrOf st).size (arrOf st).size 0):=by omega
    have m2:lo+min ((arrOf st).size - lo) (minRun' (arrOf st).size (arrOf st).size 0)<=(arrOf st).size:=by omega
    clear b2 b1 g1;generalize min ((arrOf st).size - lo) (minRun' (arrOf st).size (arrOf st).size 0)=m at *
   case' neg =>
    rw[if_neg hlt];have hI2:=hI.run b1;have m1:=n1;have m2:lo+n<=(arrOf st).size:=by omega
    have g2:=g1;clear b1 g1 n1 n2 hlt;generalize n=m at *;generalize z1=z2 at *
   all_goals
    refine wpS_bind (wpS_get ?_);cases hb:(pendingOf z2).back? with
    | none=>exact wpS_bind (wpS_modify (wpS_pure ⟨lo+m,rfl,hI2.push m1 g2,m2,.inl (by omega)⟩))
    | some pb =>
     obtain⟨s1,n1,pv⟩:=pb;dsimp only;refine wpS_bind (wpS_mono (wpS_forRange (I:=λ_ c z=>c=(none,())/\In κ rk st lo z/\∀j,lo<=j->(arrOf z)[j]?=(arrOf z2)[j]?) (Q:=λc z=>c=(none,())/\In κ rk st lo z/\∀j,lo<=j->(arrOf z)[j]?=(arrOf z2)[j]?) ?_ (λ_ _ hh=>hh) ⟨rfl,hI2,λ_ _=>rfl⟩) ?_)
     ·rintro y c z _ _ ⟨rfl,hI3,k3⟩;refine wpS_bind (wpS_get ?_);by_cases hp:(pendingOf z).size > 1
      ·rw[if_pos hp];cases hq:(pendingOf z)[(pendingOf z).size - 2]? with
       | none=>exact wpS_pure ⟨rfl,hI3,k3⟩
       | some pq =>
        obtain⟨u1,u2,older⟩:=pq;dsimp only;split
        ·exact wpS_pure ⟨rfl,hI3,k3⟩
        ·refine wpS_bind (cB q hS hI3 (by omega) (by omega) λz4 hI4 _ k4=>?_);simp only[O6,S2,if_false];exact wpS_pure ⟨rfl,hI4,λj hj=>(k4 j hj).trans (k3 j hj)⟩
      ·rw[if_neg hp];exact wpS_pure ⟨rfl,hI3,k3⟩
     ·rintro c z ⟨rfl,hI3,k3⟩;exact wpS_bind (wpS_modify (wpS_bind (wpS_modify (wpS_pure ⟨lo+m,rfl,(hI3.put (n:=0)).push m1 (g2.congr k3),m2,.inl (by omega)⟩))))
 case post =>
  rintro c z ⟨rfl,hI⟩;dsimp only;refine wpS_bind (wpS_mono (wpS_forRange (I:=λx c z=>c=(none,())/\In κ rk st (arrOf st).size z/\(pendingOf z).size+x<=(arrOf st).size) (Q:=λc z=>c=(none,())/\In κ rk st (arrOf st).size z/\(pendingOf z).size<=1) ?_ ?_ ⟨rfl,hI,?_⟩) ?_)
  ·rintro x c z _ hx ⟨rfl,hI,hx2⟩;refine wpS_bind (wpS_get ?_);by_cases hp:(pendingOf z).size<=1
   ·rw[if_pos hp];exact wpS_pure ⟨rfl,hI,hp⟩
   ·rw[if_neg hp];refine wpS_bind (cB q hS hI (u0 _) (by (repeat' split)<;>omega) λz4 hI4 hs4 _=>?_);simp only[O6,S2,if_false];exact wpS_pure ⟨rfl,hI4,by omega⟩
  ·rintro c z ⟨rfl,hI,hx2⟩;exact ⟨rfl,hI,by omega⟩
  ·have:=hI.ch.len;rw[S0]at this;omega
  ·rintro c z ⟨rfl,hI,hp⟩;refine wpS_pure (h z hI.perm hI.failed ?_);have hc:=hI.ch;have hl:(pendingOf z).toList.length<=1:=by rw[S0];exact hp
   match (pendingOf z).toList,hc,hl with
   | [],hc,_=>have:0=(arrOf st).size:=hc;intro i j _ _ hj;omega
   | [p],⟨h1,h2,h3,h4⟩,_=>have h4:0+p.2.1=(arrOf st).size:=h4;rw[e7]at h4;rw[h4]at h3;exact h3
end
end SG
namespace L2
open PySem.W
section
variable {κ:SortKind}{vs:List Value}{rk:Value->Nat}
theorem RV{p:Keyed}(h:p∈(pairsOf vs).toList):p.1=p.2/\p.2∈vs:=by have h:p∈(vs.toArray.zip vs.toArray).toList:=h;rw[Array.toList_zip]at h;obtain⟨i,hi,e⟩:=S4 h;rw[List.getElem_zip]at e;subst e;exact ⟨rfl,J4 _⟩
theorem FU{a:Addr}{P:Fin->Shared->Prop}(ho:s.heap.get? a=some (seqObj "list" vs.toArray n))(hz:vs.length<=sizeLine)(hk:2<=vs.length->∀s':Shared,(∀b o,b≠a->s.heap.get? b=some o->s'.heap.get? b=some o)->∀Q':SortKind->Shared->Prop,Q' κ s'->wpAny (model prog w) A (keyKind' vs.toArray) Q' E s')(hlt:∀s':Shared,(∀b o,b≠a->s.heap.get? b=some o->s'.heap.get? b=some o)->∀x y,x∈vs->y∈vs->∀Q':Bool->Shared->Prop,Q' (decide (rk x < rk y)) s'->wpAny (model prog w) A (keyLt' κ x y) Q' (λ_ _=>False) s')(h:∀out:List Value,out.Perm vs->out.Pairwise (λx y=>rk x<=rk y)->P (.done (.ret .none)) { s with heap:=sortedHeap s.heap a vs out.toArray }):wpAny (model prog w) A (Builtin.«list.sort» ⟨[.ref a],[]⟩) P E s:=by
 rw[list_sort_plain];have ha:a < s.heap.objs.size:=G0 ho;refine wpAny_bind (listItems_at ho rfl ?_);refine wpAny_bind (listUpdate_at ho rfl ?_);obtain⟨e1,ho1⟩:∃e1,(s.heap.update a (B2 λ_=>#[])).get? a=some (seqObj "list" #[] e1):=⟨_,get?_update_seq ho (λ_=>#[])⟩;refine wpAny_bind (seqEpoch_at ho1 rfl ?_);refine wpAny_bind (wpAny_newTuple ?_);refine wpAny_bind (wpAny_newList ?_);refine wpAny_holding ?_;have ho6:(((s.heap.update a (B2 λ_=>#[])).push (seqObj "tuple" vs.toArray 0)).push (seqObj "list" #[] 0)).get? a=some (seqObj "list" #[] e1):=by rw[B6 _ _ _ (by rw[size_push',G7];exact U0 (u7 ha)),B6 _ _ _ (by rw[G7];exact U0 ha)];exact ho1
 have kp:∀b o,b≠a->s.heap.get? b=some o->(((s.heap.update a (B2 λ_=>#[])).push (seqObj "tuple" vs.toArray 0)).push (seqObj "list" #[] 0)).get? b=some o:=λb o hb e=>by refine g0 _ (g0 _ ?_);rw[J3 _ _ _ _ hb];exact e
 show wpAny (model prog w) A _ P E { s with heap:=((s.heap.update a (B2 λ_=>#[])).push (seqObj "tuple" vs.toArray 0)).push (seqObj "list" #[] 0) };dsimp only;have hsz:vs.toArray.size=vs.length:=by simp
 have out0:((pairsOf vs).map (·.2))=vs.toArray:=by apply Array.toList_inj.mp;rw[J7];show (vs.toArray.zip vs.toArray).toList.map (·.2)=_;simp only[Array.toList_zip];exact List.map_snd_zip (u0 _)
 by_cases h2:vs.toArray.size < 2
 ·rw[if_pos h2,if_pos h2];refine wpAny_bind (wpAny_pure ?_);rw[StateT.run_pure];refine wpAny_bind (wpAny_pure ?_);dsimp only;refine wpAny_bind (seqEpoch_at ho6 rfl ?_);refine wpAny_bind (listUpdate_at ho6 rfl ?_ (hsz2:=by rw[Array.size_map];show (pairsOf vs).size<=_;rw[pairsOf_size];exact P4 hz));simp only[bne_self_eq_false,S2,if_false];have h':=h vs (List.Perm.refl _) (by
    match vs,h2 with
    | [],_=>exact .nil
    | [x],_=>exact N4 _ _
    | x :: y :: z,h2=>simp at h2;omega);rw[<- out0]at h';exact wpAny_pure h'
 ·rw[if_neg h2,if_neg h2];have h2':2<=vs.length:=by omega
  refine wpAny_bind (hk h2' _ kp _ ?_);have run:=SG.w_sort (prog:=prog) (w:=w) (A:=A) (E:=E) (κ:=κ) (rk:=λp=>rk p.1) (S:=λp=>p.1∈vs) (st:=SortSt.mk' κ (pairsOf vs) #[] 7 none)
   (s:={ s with heap:=((s.heap.update a (B2 λ_=>#[])).push (seqObj "tuple" vs.toArray 0)).push (seqObj "list" #[] 0) })
   (Q:=λ_ st'=>(arrOf st').Perm (pairsOf vs)/\failedOf st'=none/\SG.Sg (λp=>rk p.1) (arrOf st') 0 (pairsOf vs).size)
   (λx y hx hy Q' hQ'=>hlt _ kp _ _ hx hy Q' hQ') (λp hp=>by have:=RV hp;show p.1∈vs;rw[this.1];exact this.2) rfl rfl rfl λst' p1 p2 p3=>⟨p1,p2,p3⟩;refine wpAny_bind (wpAny_mono run ?_ λ_ _ e=>e);rintro⟨⟨⟩,st'⟩ s' ⟨rfl,hp,hf,hs⟩;dsimp only at hp hf hs ⊢;refine wpAny_bind (seqEpoch_at ho6 rfl ?_);have hpl:=Q4.mp hp;have eq12:∀p∈(arrOf st').toList,p.1=p.2:=λp h=>(RV (hpl.mem_iff.mp h)).1;have hO:((arrOf st').map (·.2)).toList.Perm vs:=by
   rw[J7];have e:(pairsOf vs).toList.map (·.2)=vs:=by rw[<- J7,out0]
   have:=hpl.map (·.2);rw[e]at this;exact this
  have hL:((arrOf st').map (·.2)).toList.length=vs.length:=hO.length_eq;rw[S0]at hL;refine wpAny_bind (listUpdate_at ho6 rfl ?_ (hsz2:=by rw[hL];exact P4 hz));rw[hf];simp only[bne_self_eq_false,S2,if_false];refine wpAny_pure ?_;have:=h ((arrOf st').map (·.2)).toList hO (by rw[J7,O3,U3];intro i j hi hj hij;rw[S0]at hi hj;have hz2:(arrOf st').size=(pairsOf vs).size:=hp.size_eq;have:=hs i j (Q3 _) (by omega) (by omega);rw[SG.KR_at hi,SG.KR_at hj]at this;rw[A3,A3,<- eq12 _ (by simp),<- eq12 _ (by simp)];exact this);rw[q9]at this;exact this
theorem Hq{l:Addr}(hl:s.heap.IsList l vs.toArray)(hz:vs.length<=sizeLine)(hk:2<=vs.length->∀s':Shared,(∀b o,s.heap.get? b=some o->s'.heap.get? b=some o)->∀(E:Value->Shared->Prop) (Q':SortKind->Shared->Prop),Q' κ s'->wpAny (model prog w) A.in1.in1 (keyKind' vs.toArray) Q' E s')(hlt:∀s':Shared,(∀b o,s.heap.get? b=some o->s'.heap.get? b=some o)->∀x y,x∈vs->y∈vs->∀Q':Bool->Shared->Prop,Q' (decide (rk x < rk y)) s'->wpAny (model prog w) A.in1.in1 (keyLt' κ x y) Q' (λ_ _=>False) s')(h:∀out:List Value,out.Perm vs->out.Pairwise (λx y=>rk x<=rk y)->Q (.ref (s.heap.objs.size+1)) { s with heap:=sortedAll s.heap vs out.toArray }):wpAny (model prog w) A (call (.builtin "sorted") [.ref l]) Q E s:=by
 refine Calls.call_function_entry kind_sorted plain_sorted entry_sorted (args_sorted1 _) ?_;unfold Builtin.«sorted»;refine wpAny_bind (m:=checkCount "sorted" 1 1 _) (wpAny_pure ?_);refine wpAny_bind (collect_list hl ?_ (hsz:=hz));refine wpAny_bind (wpAny_newList ?_ hz);have hsz:((s.heap.push (seqObj "list" #[] 0)).update s.heap.objs.size (B2 (·++vs.toArray))).objs.size=s.heap.objs.size+1:=by rw[G7,size_push']
 have hoL:(((s.heap.push (seqObj "list" #[] 0)).update s.heap.objs.size (B2 (·++vs.toArray))).push (seqObj "list" vs.toArray 0)).get? (s.heap.objs.size+1)=some (seqObj "list" vs.toArray 0):=by rw[<- hsz];exact L0 _ rfl
 have keep:∀b o,s.heap.get? b=some o->b≠s.heap.objs.size+1/\(((s.heap.push (seqObj "list" #[] 0)).update s.heap.objs.size (B2 (·++vs.toArray))).push (seqObj "list" vs.toArray 0)).get? b=some o:=λb o q=>by have hlt:b < s.heap.objs.size:=G0 q;refine ⟨U0 (u7 hlt),?_⟩;rw[B6 _ _ _ (by rw[hsz];exact U0 (u7 hlt)),J3 _ _ _ _ (U0 hlt),B6 _ _ _ (U0 hlt)];exact q
 show wpAny _ _ _ _ _ { s with heap:=((s.heap.push (seqObj "list" #[] 0)).update s.heap.objs.size (B2 (·++vs.toArray))).push (seqObj "list" vs.toArray 0) };rw[hsz];refine wpAny_bind (wpAny_holding (wpAny_call_entry slot_list_sort ⟨_,hoL,rfl⟩ entry_list_sort (FU (κ:=κ) (rk:=rk) hoL hz (λh2 s' k Q' q=>hk h2 s' (λb o e=>k b o (keep b o e).1 (keep b o e).2) _ Q' q)
   (λs' k x y hx hy Q' q=>hlt s' (λb o e=>k b o (keep b o e).1 (keep b o e).2) x y hx hy Q' q) λout o1 o2=>⟨_,rfl,?_⟩) (args_list_sort _)));exact wpAny_pure ⟨_,rfl,h out o1 o2⟩
end
end L2
namespace SG
structure Wk{α:Type}(lt:α->α->Bool):Prop where
 irr:∀a,lt a a=false
 tr:∀a b c,lt a b=true->lt b c=true->lt a c=true
 nt:∀a b c,lt a b=false->lt b c=false->lt a c=false
theorem QG{p q:α->Bool}:∀{l:List α},(∀a∈l,p a=true->q a=true)->l.countP p<=l.countP q
 | [],_=>u0 _
 | a :: l,h=>by
  have ih:=QG (l:=l) λx hx=>h x (q0 _ hx);rw[K7,K7];have:=h a v0;cases hp:p a
  ·simp;omega
  ·rw[this hp];simp;omega
theorem ax{p q:α->Bool}:∀{l:List α},(∀a∈l,p a=true->q a=true)->(∃a∈l,p a=false/\q a=true)->l.countP p < l.countP q
 | [],_,⟨_,h,_⟩=>by simp at h
 | a :: l,h,⟨x,hx,h1,h2⟩=>by
  rw[K7,K7];rcases W0.mp hx with rfl|hx
  ·have:=QG (l:=l) λx hx=>h x (q0 _ hx);rw[h1,h2];simp;omega
  ·have ih:=ax (l:=l) (λx hx=>h x (q0 _ hx)) ⟨x,hx,h1,h2⟩;have:=h a v0;cases hp:p a
   ·simp;omega
   ·rw[this hp];simp;omega
theorem rank{lt:α->α->Bool}(W:Wk lt){l:List α}{x y:α}(hx:x∈l)(hy:y∈l):decide (l.countP (λa=>lt a x) < l.countP (λa=>lt a y))=lt x y:=by
 cases h:lt x y
 ·rw[decide_eq_false_iff_not,Nat.not_lt];refine QG λa _ ha=>?_;cases h2:lt a x
  ·rw[W.nt a x y h2 h]at ha;cases ha
  ·rfl
 ·rw[decide_eq_true_eq];exact ax (λa _ ha=>W.tr a x y ha h) ⟨x,hx,W.irr x,h⟩
theorem lex_wk:Wk HT.lexLt:=by
 refine ⟨λa=>?_,λa=>?_,λa=>?_⟩
 ·induction a with
  | nil=>rfl
  | cons x a ih=>rw[HT.lexLt_cons,if_pos rfl];exact ih
 ·induction a with
  | nil =>
   intro b c h1 h2;cases c with
   | nil=>cases b<;>cases h2
   | cons z c=>rfl
  | cons x a ih =>
   intro b c h1 h2;cases b with
   | nil=>cases h1
   | cons y b =>
    cases c with
    | nil=>cases h2
    | cons z c =>
     rw[HT.lexLt_cons]at h1 h2 ⊢;by_cases e1:x=y
     ·subst e1;rw[if_pos rfl]at h1;by_cases e2:x=z
      ·subst e2;rw[if_pos rfl]at h2 ⊢;exact ih b c h1 h2
      ·rw[if_neg e2]at h2 ⊢;exact h2
     ·rw[if_neg e1]at h1;have h1:=of_decide_eq_true h1;by_cases e2:y=z
      ·subst e2;rw[if_neg e1];exact decide_eq_true h1
      ·rw[if_neg e2]at h2;have h2:=of_decide_eq_true h2;rw[if_neg (by omega)];exact decide_eq_true (by omega)
 ·induction a with
  | nil =>
   intro b c h1 h2;cases b with
   | nil=>exact h2
   | cons y b=>cases h1
  | cons x a ih =>
   intro b c h1 h2;cases c with
   | nil=>rfl
   | cons z c =>
    cases b with
    | nil=>cases h2
    | cons y b =>
     rw[HT.lexLt_cons]at h1 h2 ⊢;by_cases e1:x=y
     ·subst e1;rw[if_pos rfl]at h1;by_cases e2:x=z
      ·subst e2;rw[if_pos rfl]at h2 ⊢;exact ih b c h1 h2
      ·rw[if_neg e2]at h2 ⊢;exact h2
     ·rw[if_neg e1]at h1;have h1:=of_decide_eq_false h1;by_cases e2:y=z
      ·subst e2;rw[if_neg e1];exact decide_eq_false h1
      ·rw[if_neg e2]at h2;have h2:=of_decide_eq_false h2;rw[if_neg (by omega)];exact decide_eq_false (by omega)
theorem lex_eq:∀{a b:List Int},HT.lexLt a b=false->HT.lexLt b a=false->a=b
 | [],[],_,_=>rfl
 | [],_ :: _,h,_=>by cases h
 | _ :: _,[],_,h=>by cases h
 | x :: a,y :: b,h1,h2=>by
  rw[HT.lexLt_cons]at h1 h2;by_cases e:x=y
  ·subst e;rw[if_pos rfl]at h1 h2;rw[lex_eq h1 h2]
  ·rw[if_neg e]at h1;rw[if_neg (λz=>e z.symm)]at h2;have h1:=of_decide_eq_false h1;have h2:=of_decide_eq_false h2;omega
theorem sorted_uniq{lt:α->α->Bool}(an:∀a b,lt a b=false->lt b a=false->a=b):∀{l m:List α},l.Perm m->l.Pairwise (λa b=>lt b a=false)->m.Pairwise (λa b=>lt b a=false)->l=m
 | [],m,p,_,_=>by rw[List.nil_perm.mp p]
 | x :: l,[],p,_,_=>by simp at p
 | x :: l,y :: m,p,h1,h2=>by
  have e:x=y:=by
   have hx:x∈y :: m:=p.mem_iff.mp v0;have hy:y∈x :: l:=p.mem_iff.mpr v0;rcases W0.mp hx with e|hx
   ·exact e
   ·rcases W0.mp hy with e|hy
    ·exact e.symm
    ·exact an x y ((i6.mp h2).1 x hx) ((i6.mp h1).1 y hy)
  subst e;rw[sorted_uniq an (List.perm_cons x |>.mp p) (i6.mp h1).2 (i6.mp h2).2]
end SG
namespace L2
open PySem.W
section
variable {X:Cx}{α:Type}[Inhabited α]
def GU(K:n0)(Rep:Hp->Addr->α->Prop)(fn:Hp->V->α)(lt:α->α->Bool):List V->Hp->VK->Prop:=λxs H Q=>∃(a:Addr) (us:List V),xs=[.ref a]/\SqL K H a us/\us.length<=sizeLine /\
 (∀v∈us,∃c x,v=.ref c/\Rep H c x)/\∀(p:Addr) (us':List V),H p=none->us'.Perm us->(us'.map (fn H)).Pairwise (λa b=>lt b a=false)->Q (.ref p) (UQ H p (.lst us'))
theorem Iq{us:List V}:∀{out:List Value},out.Perm its->Vals us its->∃us':List V,us'.Perm us/\Vals us' out:=by
 intro out p;induction p generalizing us with
 | nil=>intro h;exact ⟨us,List.Perm.refl _,h⟩
 | cons x _ ih =>
  intro h;cases h with
  | cons h t=>obtain⟨us',p,r⟩:=ih t;exact ⟨_,p.cons _,.cons h r⟩
 | swap x y l =>
  intro h;cases h with
  | cons h1 t=>cases t with|cons h2 t=>exact ⟨_,List.Perm.swap _ _ _,.cons h2 (.cons h1 t)⟩
 | trans _ _ ih1 ih2=>intro h;obtain⟨u2,p2,r2⟩:=ih2 h;obtain⟨u1,p1,r1⟩:=ih1 r2;exact ⟨u1,p1.trans p2,r1⟩
end
theorem bx:SG.Wk (λx y:Int=>decide (x < y)):=by
 refine ⟨λa=>decide_eq_false (Int.lt_irrefl a),λa b c h k=>?_,λa b c h k=>?_⟩
 ·exact decide_eq_true (Int.lt_trans (of_decide_eq_true h) (of_decide_eq_true k))
 ·have h:=of_decide_eq_false h;have k:=of_decide_eq_false k;exact decide_eq_false (by omega)
section
variable {vs:List Value}{kz:List Int}{keys:Array Value}{a kS:Addr}{e e1:Nat}{P:PySem.Fin->Shared->Prop}
theorem zH{st:SortSt}(nk:s.heap.get? kS=some (seqObj "list" keys e))(na:s.heap.get? a=some (seqObj "list" #[] e1))(hka:kS≠a)(hk:IntsAre keys.toList kz)(hlen:kz.length=vs.length)(hz:vs.length<=sizeLine)(hp:(arrOf st).Perm (keys.zip vs.toArray)) (hs:SortedTo (arrOf st) (arrOf st).size) (hfl:failedOf st=none)(h:∀h' out c,(∀b o,b≠a->b≠kS->s.heap.get? b=some o->h'.get? b=some o)->h'.get? a=some (seqObj "list" out c)->KskOut false kz vs out.toList->P (.done (.ret .none)) { s with heap:=h' }):wpAny (model prog w) A (ksk_tail a false e1 (.ref kS) st) P E s:=by
 have hsz:keys.size=vs.length:=by have h1:=hk.length;rw[S0]at h1;omega
 have hsz2:(arrOf st).size=vs.length:=by rw[hp.size_eq,Array.size_zip,hsz,N0,Nat.min_self]
 have na1:(s.heap.update kS (B2 λ_=>(#[]:Array Value))).get? a=some (seqObj "list" #[] e1):=(J3 _ _ _ _ hka.symm).trans na;obtain⟨c2,hc2⟩:∃c2,((s.heap.update kS (B2 λ_=>(#[]:Array Value))).update a (B2 λ_=>(arrOf st).map (·.2))).get? a=some (seqObj "list" ((arrOf st).map (·.2)) c2):=by have hc:=get?_update_seq (n:=e1) na1 (λ_=>(arrOf st).map (·.2));exact ⟨_,hc⟩
 unfold ksk_tail;try dsimp only
 refine wpAny_bind (listUpdate_at nk rfl ?_ (by rw[hsz];exact hz) (Q3 _));refine wpAny_bind (wpAny_letGo ?_);refine wpAny_bind (seqEpoch_at na1 rfl ?_);refine wpAny_bind (listUpdate_at na1 rfl ?_ (Q3 _) (show ((arrOf st).map (·.2)).size<=sizeLine+1 from by rw[Array.size_map,hsz2];exact Q0 hz (Q2 _ _)));rw[hfl];simp only[bne_self_eq_false,S2,if_false];refine wpAny_pure (h _ _ c2 (λb o h1 h2 e=>?_) hc2 (ksk_out (b:=false) hk hp hs));rw[J3 _ _ _ _ h1,J3 _ _ _ _ h2];exact e
theorem jy(nk:s.heap.get? kS=some (seqObj "list" keys e))(na:s.heap.get? a=some (seqObj "list" #[] e1))(hka:kS≠a)(hk:IntsAre keys.toList kz)(hlen:kz.length=vs.length)(hz:vs.length<=sizeLine)(h:∀h' out c,(∀b o,b≠a->b≠kS->s.heap.get? b=some o->h'.get? b=some o)->h'.get? a=some (seqObj "list" out c)->KskOut false kz vs out.toList->P (.done (.ret .none)) { s with heap:=h' }):wpAny (model prog w) A (ksk_end a false vs.toArray e1 (.ref kS) keys) P E s:=by
 have hsz:keys.size=vs.length:=by have h1:=hk.length;rw[S0]at h1;omega
 have hzs:(keys.zip vs.toArray).size=vs.length:=by rw[Array.size_zip,hsz,N0,Nat.min_self]
 unfold ksk_end;simp only[S2,if_false];try dsimp only
 by_cases h2:vs.toArray.size < 2
 ·rw[if_pos h2,if_pos h2];refine wpAny_bind (wpAny_pure ?_);rw[StateT.run_pure];refine wpAny_bind (wpAny_pure ?_);try dsimp only
  refine zH (st:=SortSt.mk' general' (keys.zip vs.toArray) #[] 7 none) nk na hka hk hlen hz (Array.Perm.refl _) ?_ rfl h;intro i j hij hj;have hj2:j < (keys.zip vs.toArray).size:=hj;rw[hzs]at hj2;rw[N0]at h2;have:i=j:=by omega
  subst this;exact g6 _
 ·rw[if_neg h2,if_neg h2];rw[N0]at h2;rw[ksk_kind hk (by rw[hsz];omega)];refine wpAny_bind (wpAny_pure ?_);have hI:IntKeys (keys.zip vs.toArray):=ksk_intKeys hk;have mem:∀p:Keyed,p∈(keys.zip vs.toArray).toList->∃n t,p.1=.int n t/\n∈kz:=λp hp=>by
   obtain⟨n,t,e⟩:=hI p hp;refine ⟨n,t,e,?_⟩;rw[ksk_zip]at hp;have:=(m4 hp).1;rw[<- hk.nums];exact J0.mpr ⟨p.1,this,by rw[e];rfl⟩
  have run:=SG.w_sort (prog:=prog) (w:=w) (A:=A) (E:=E) (κ:=oneType') (rk:=λp=>kz.countP λz=>decide (z < numOf p.1)) (S:=λp=>∃n t,p.1=.int n t/\n∈kz) (st:=SortSt.mk' oneType' (keys.zip vs.toArray) #[] 7 none) (s:=s)
   (Q:=λ_ st'=>(arrOf st').Perm (keys.zip vs.toArray)/\failedOf st'=none/\SG.Sg (λp=>kz.countP λz=>decide (z < numOf p.1)) (arrOf st') 0 (keys.zip vs.toArray).size)
   (λ⟨x1,x2⟩ ⟨y1,y2⟩ ⟨n,t,ex,hn⟩ ⟨m,u,ey,hm⟩ Q' hQ'=>by have ex:x1=.int n t:=ex;have ey:y1=.int m u:=ey;subst ex ey;show wpAny (model prog w) A (keyLt' oneType' (.int n t) (.int m u)) Q' _ s;rw[keyLt'_oneType];have rk:=SG.rank bx hn hm;have hQ':Q' (decide (kz.countP (λz=>decide (z < n)) < kz.countP (λz=>decide (z < m)))) s:=hQ';rw[rk]at hQ';exact oneLt_int hQ') (λp hp=>mem p hp) rfl rfl rfl λst' p1 p2 p3=>⟨p1,p2,p3⟩;refine wpAny_bind (wpAny_mono run ?_ λ_ _ e=>e);rintro⟨⟨⟩,st'⟩ s' ⟨rfl,hp,hf,hs⟩;try dsimp only
  refine zH nk na hka hk hlen hz hp (λi j hij hj=>?_) hf h;have hz2:(arrOf st').size=(keys.zip vs.toArray).size:=hp.size_eq;have hs:SG.Sg (λp=>kz.countP λz=>decide (z < numOf p.1)) (arrOf st') 0 (keys.zip vs.toArray).size:=hs;have hj:j < (arrOf st').size:=hj;have g:=hs i j (Q3 _) hij (by omega);have hi:i < (arrOf st').size:=B3 hij hj;rw[SG.KR_at hi,SG.KR_at hj]at g;have hpl:(arrOf st').toList.Perm (keys.zip vs.toArray).toList:=Q4.mp hp;obtain⟨n,t,en,mn⟩:=mem (arrOf st')[i] (hpl.mem_iff.mp (by simp));obtain⟨m,u,em,mm⟩:=mem (arrOf st')[j] (hpl.mem_iff.mp (by simp));have rk:=SG.rank bx mm mn;have ki:X7 (arrOf st') i=n:=by unfold X7;rw[getElem?_pos (arrOf st') i hi];show numOf (arrOf st')[i].1=n;rw[en];rfl
  have kj:X7 (arrOf st') j=m:=by unfold X7;rw[getElem?_pos (arrOf st') j hj];show numOf (arrOf st')[j].1=m;rw[em];rfl
  rw[ki,kj];try dsimp only at g
  rw[en,em]at g;have g:kz.countP (λz=>decide (z < n))<=kz.countP (λz=>decide (z < m)):=g;rw[decide_eq_false (Nat.not_lt.mpr g)]at rk;have:=of_decide_eq_false rk.symm;omega
end
noncomputable abbrev RK(f c:Addr)(qual:Str)(ar:Arguments)(body:Expr)(sc:Scope):HO:=.ext λh=>∃pm ctv,h.get? f=some (u6 "<lambda>" qual ar body sc [] pm c ctv)
theorem aD{c:Addr}{ar:Arguments}{pm ctv:Value}(e:h.get? f=some (u6 "<lambda>" qual ar body sc [] pm c ctv)):ObjOk P w H h f (RK f c qual ar body sc):=⟨⟨pm,ctv,e⟩,⟨_,e⟩,λh1 h2 ⟨pm,ctv,e1⟩ k=>⟨pm,ctv,k _ e1⟩⟩
theorem ly{K:n0}{k:Nat}{c:Addr}{ar:Arguments}{ps:List Str}{outer:List Env}{vs:List V}{Q:VK}{oc:Obj}{u:HO} (S:FnScope N ps scope) (hr:Room (k+1) A) (e0:Env0 P w K mg base A outer s H) (hf:H f=some (RK f c qual ar body scope)) (hc:H c=some (.frz oc u))(hq:∃vs t,oc.data=.fields vs/\vs[1]?=some (.str qual t))(hb:∀(pm ctv:Value) (us:List Value),us.length=ps.length->bindArgs (PySem.W.kla_fn "<lambda>" qual ar body scope [] pm (.ref c) ctv) ⟨us,[]⟩=pure (ps.zip us))(hl:vs.length=ps.length) (r:Vals vs us)(hbody:Room k (A.deeper (envOfC qual scope s.heap.objs.size f (.ref c)))->∃t:TE,PE (IY iZ P w K mg base N qual scope f (.ref c) A outer s H E0).nox body t/\t (start N vs) H Q):codeAny (model P w) A (.call (.ref f) ⟨us,[]⟩) (CR iZ outer P w H s Q E0) s:=by
 obtain⟨⟨pm,ctv,ho⟩,_⟩:=(show ObjOk P w H s.heap f (RK f c qual ar body scope) from e0.hok f _ hf);obtain⟨hoc,_⟩:=(show ObjOk P w H s.heap c (.frz oc u) from e0.hok c _ hc);obtain⟨vs',t',hd,hv⟩:=hq;have lim:s.heap.NoLimit:=e0.mod.nolimit.keeps λb o e=>(e0.bs b o e).1;have hkind:∀y∈ps.zip us,scope.names.lookup y.1=some .local\/(scope.names.lookup y.1=some .cell/\((cellsFrom (s.heap.objs.size+1) scope.names []).lookup y.1).isSome=true):=λ⟨n,v⟩ hy=>by
  rcases S.par n (m4 hy).1 with q|q
  ·exact .inl q
  ·exact .inr ⟨q,v7 _ _ _ (.inl q)⟩
 refine PySem.W.kla_callFunE hr.depth ho rfl S.co S.gen rfl ⟨c,oc,vs',t',rfl,hoc,hd,hv⟩ ?_;rw[hb pm ctv us (by rw[<- r.length];exact hl)];refine wpAny_pure (wpAny_newFunctionEnv_cells S.kind hkind λenv he s1 x=>?_);subst he;refine ⟨lim.keeps x.toInCall.keep,PySem.W.kla_codeExpr ?_⟩;obtain⟨t,ht,hq⟩:=hbody (hr.deeper _);have I:Inv (IY iZ P w K mg base N qual scope f (.ref c) A outer s H E0) [] (start N vs) H s1:=EV S hr.hd e0 hl r x;exact wpAny_mono (ht.nox [] s1 (start N vs) H _ I hq) (λu s' ⟨v,H',J,rv,q⟩=>⟨v,H',J.os,J.bare,J.base,J.hok,rv,q⟩) λe s' hs=>hs
end L2
namespace L3
open L2
theorem RG{pos:Pos}{c v:Value}:∀(l:List Value),TriplesOk l->codeAmong pos' (l++[rawInt pos.line,rawInt pos.col,c])=some v->codeAmong pos' l=some v\/v=c:=by
 intro l h e
 fun_induction TriplesOk l with
 | case1 =>
  simp only[Q7,codeAmong,rawInt]at e;split at e
  ·exact .inr (X1 e).symm
  ·cases e
 | case2 a t b u x rest ih =>
  simp only[Y5,codeAmong]at e ⊢;split at e
  ·rename_i hc;rw[if_pos hc];exact .inl e
  ·rename_i hc;rw[if_neg hc];exact ih h e
 | case3 l h1 h2=>exact h.elim
def yP(P:Addr)(x:Str)(ar:Arguments)(body:Expr)(sc:Scope)(pos:Pos):TE:=λ_ H Q=>∃ps,H P=some (.tbl ps)/\TriplesOk ps.toList /\
 (∀pos v,codeAmong pos ps.toList=some v->∃c o,v=.ref c/\H c=some (KY c o)/\aj x o) /\
 ∀(H':Hp) (ps':Array Value) (f c:Addr) (o:Obj),(∀b u,b≠P->H b=some u->H' b=some u)->H f=none->H' P=some (.tbl ps')->TriplesOk ps'.toList ->
  (∀pos v,codeAmong pos ps'.toList=some v->∃c o,v=.ref c/\H' c=some (KY c o)/\aj x o)->H' c=some (KY c o)->aj x o->H' f=some (RK f c (x ++ ".<locals>.<lambda>") ar body sc)->Q (.ref f) H'
theorem cI{c0 P:Addr}{x:Str}{ar:Arguments}{pos:Pos}(hcode:X.env.code=.ref c0)(hqual:X.env.qual ++ "<lambda>"=x ++ ".<locals>.<lambda>")(hC:Y4 X.K c0 P=true)(hcl:closureFor sc X.env=pure []) (hdef:defaultsOf ar X.env=([],[])):PE X (.Lambda ar body sc pos) (yP P x ar body sc pos):=by
 intro pins s σ H Q I ⟨ps,eP,tP,cP,h⟩;have hP:s.heap.get? P=some (j7 ps):=(show ObjOk X.prog X.w H s.heap P (.tbl ps) from I.hok P _ eP);have C:=x9 I.kIn hC;have hg:=I.ok.mod.glob.keeps I.bk;obtain⟨bm,ob,b1,b2,b3,b4,b5,b6⟩:=I.ok.mod.bm;have b3':=I.bk _ _ b3;have hgP:mainGlobals≠P:=λq=>by obtain⟨o,es,ep,e,hd,_⟩:=hg;rw[q,hP]at e;cases e;cases hd
 have hbP:bm≠P:=λq=>by rw[q,hP]at b3';cases b3';cases b4
 have hbG:bm≠mainGlobals:=λq=>by obtain⟨o,es,ep,e,hd,_⟩:=hg;rw[q,e]at b3';cases b3';rw[hd]at b6;cases b6
 have hB:s.heap.BuiltinsAt X.mg P:=⟨bm,ob,b1,b2,hbG,hbP,b3',b4,b5,b6⟩;refine PySem.W.kla_eval hdef ?_;rw[hqual];cases ec:codeAmong pos ps.toList with
 | some v =>
  obtain⟨c,o,rfl,hc,q⟩:=cP pos v ec;refine PySem.W.kla_makeFunctionHit (mg:=X.mg) hcl I.ok.glob hg hcode C hP tP ec hB λctv h' tk k hsz=>?_;have hf:H h'.objs.size=none:=I.hok.fresh hsz;have old:∀b u,H b=some u->UQ H h'.objs.size (RK h'.objs.size c (x ++ ".<locals>.<lambda>") ar body sc) b=some u:=λb u e=>by rw[nQ (oQ e hf)];exact e
  refine ⟨.ref _,_,I.laid (a:=h'.objs.size) (o:=RK h'.objs.size c (x ++ ".<locals>.<lambda>") ar body sc) (λb u e=>g0 _ (k b u e)) hsz (aD (L0 _ rfl)),rfl,?_⟩;refine h _ ps _ c o (λb u _ e=>old b u e) hf (old _ _ eP) tP (λpos v e=>?_) (old _ _ hc) q AQ;obtain⟨c,o,e1,e2,e3⟩:=cP pos v e;exact ⟨c,o,e1,old _ _ e2,e3⟩
 | none =>
  refine PySem.W.kla_makeFunction (mg:=X.mg) hcl I.ok.glob hg hcode C hP tP ec hgP hB λc ctv h' tk hx hge hlt hrec htb=>?_;obtain⟨c₂,oc,vs,t,e2,hoc,hd,hv⟩:=hrec;cases e2;have hsz:s.heap.objs.size<=h'.objs.size:=B5 (B3 hge hlt);have hc:H c=none:=I.hok.fresh hge;have hf:H h'.objs.size=none:=I.hok.fresh hsz;have ePc:P≠c:=oQ eP hc;have ePf:P≠h'.objs.size:=oQ eP hf;have ecf:c≠h'.objs.size:=U0 hlt;have old:∀b u,b≠P->H b=some u->UQ (UQ (UQ H P (.tbl (ps++#[rawInt pos.line,rawInt pos.col,.ref c]))) c (KY c oc)) h'.objs.size (RK h'.objs.size c (x ++ ".<locals>.<lambda>") ar body sc) b=some u:=λb u n e=>by rw[nQ (oQ e hf),nQ (oQ e hc),nQ n];exact e
  have newP:UQ (UQ (UQ H P (.tbl (ps++#[rawInt pos.line,rawInt pos.col,.ref c]))) c (KY c oc)) h'.objs.size (RK h'.objs.size c (x ++ ".<locals>.<lambda>") ar body sc) P=some (.tbl (ps++#[rawInt pos.line,rawInt pos.col,.ref c])):=by rw[nQ ePf,nQ ePc,AQ]
  have newC:UQ (UQ (UQ H P (.tbl (ps++#[rawInt pos.line,rawInt pos.col,.ref c]))) c (KY c oc)) h'.objs.size (RK h'.objs.size c (x ++ ".<locals>.<lambda>") ar body sc) c=some (KY c oc):=by rw[nQ ecf,AQ]
  generalize hH:UQ (UQ (UQ H P (.tbl (ps++#[rawInt pos.line,rawInt pos.col,.ref c]))) c (KY c oc)) h'.objs.size (RK h'.objs.size c (x ++ ".<locals>.<lambda>") ar body sc)=H' at old newP newC;have newF:H' h'.objs.size=some (RK h'.objs.size c (x ++ ".<locals>.<lambda>") ar body sc):=by rw[<- hH,AQ]
  have kp:∀b u,b≠P->s.heap.get? b=some u->(h'.push (u6 "<lambda>" (x ++ ".<locals>.<lambda>") ar body sc [] ((X.mg "__name__").getD .none) c ctv)).get? b=some u:=λb u n e=>g0 _ (hx b u n e);have nP:∀b,H b=none->b≠P:=λb n e=>by rw[e,eP]at n;cases n
  have un:Un X.fs [] H H' s.heap (h'.push (u6 "<lambda>" (x ++ ".<locals>.<lambda>") ar body sc [] ((X.mg "__name__").getD .none) c ctv)):=by
   refine ⟨λb o e n _ _=>kp b o (nP b n) e,λb o e n _ _=>⟨o.slots,kp b o (nP b n) e⟩,λb o e n _=>?_,λb o e _=>?_,λb xs e=>old b _ (λz=>by rw[z,eP]at e;cases e) e,λb o u e=>old b _ (λz=>by rw[z,eP]at e;cases e) e,λb qs e=>?_⟩
   ·have lt:=G0 e;rw[<- hH,nQ (U0 (O0 lt hsz)),nQ (U0 (O0 lt hge)),nQ (nP b n)];exact n
   ·by_cases z:b=P
    ·subst z;exact ⟨_,g0 _ htb⟩
    ·exact ⟨_,kp b o z e⟩
   ·by_cases z:b=P
    ·subst z;rw[eP]at e;cases e;exact ⟨_,newP⟩
    ·exact ⟨#[],by rw[old b _ z e];simp⟩
  have hok:HOk X.prog X.w H' (h'.push (u6 "<lambda>" (x ++ ".<locals>.<lambda>") ar body sc [] ((X.mg "__name__").getD .none) c ctv)):=λb u e=>by
   by_cases zf:b=h'.objs.size
   ·subst zf;rw[newF]at e;cases e;exact aD (L0 _ rfl)
   by_cases zc:b=c
   ·subst zc;rw[newC]at e;cases e;have e1:=g0 (u6 "<lambda>" (x ++ ".<locals>.<lambda>") ar body sc [] ((X.mg "__name__").getD .none) b ctv) hoc;exact ⟨e1,⟨_,e1⟩,⟨_,e1⟩,λh1 h2 ⟨o,e1⟩ k=>⟨o,k _ e1⟩⟩
   by_cases zp:b=P
   ·subst zp;rw[newP]at e;cases e;exact g0 _ htb
   have e:H b=some u:=by rw[<- hH,nQ zf,nQ zc,nQ zp]at e;exact e
   refine (I.hok b u e).stay (λd v hd q=>kp d v (λz=>?_) q) (λd q=>old d _ (λz=>by rw[z,eP]at q;cases q) q) λd xs q=>old d _ (λz=>by rw[z,eP]at q;cases q) q;rcases hd with hd|hd
   ·exact zp (hd.symm.trans z)
   ·rw[z,eP]at hd;cases hd
  refine ⟨.ref _,H',I.un un hok,rfl,h H' _ _ c oc old hf newP (by rw[G2];exact TriplesOk_snoc _ _ _ _ tP) (λpos' v e=>?_) newC ⟨vs,t,hd,hv⟩ newF⟩;rw[G2]at e;rcases RG _ tP e with e|e
  ·obtain⟨c1,o,e1,e2,e3⟩:=cP pos' v e;exact ⟨c1,o,e1,old _ _ (λz=>by rw[z,eP]at e2;cases e2) e2,e3⟩
  ·exact ⟨c,oc,e,newC,⟨vs,t,hd,hv⟩⟩
end L3
namespace L2
open PySem.W
theorem EY{β:Type}{R:α->β->Prop}{l2 l2':List β}(p:l2'.Perm l2):∀{l1:List α},Paired R l1 l2->∃l1',l1'.Perm l1/\Paired R l1' l2':=by
 induction p with
 | nil=>intro l1 h;exact ⟨l1,List.Perm.refl _,h⟩
 | cons x p ih =>
  intro l1 h;cases h with
  | cons r t=>obtain⟨l,q,z⟩:=ih t;exact ⟨_ :: l,q.cons _,.cons r z⟩
 | swap x y l =>
  intro l1 h;cases h with
  | cons r t =>
   cases t with
   | cons r2 t=>exact ⟨_ :: _ :: _,List.Perm.swap _ _ _,.cons r2 (.cons r t)⟩
 | trans p q ih1 ih2=>intro l1 h;obtain⟨l,a,b⟩:=ih2 h;obtain⟨l',c,d⟩:=ih1 b;exact ⟨l',c.trans a,d⟩
theorem EW:∀{kz:List Int}{vs:List V}{its:List Value},Vals vs its->Paired (λ(p:Int×V) (q:Int×Value)=>p.1=q.1/\RelV p.2 q.2) (kz.zip vs) (kz.zip its)
 | [],_,_,_=>.nil
 | _ :: _,_,_,.nil=>.nil
 | _ :: _,_,_,.cons r t=>.cons ⟨rfl,r⟩ (EW t)
theorem wK:∀{ps:List (Int×V)}{qs:List (Int×Value)},Paired (λ(p:Int×V) (q:Int×Value)=>p.1=q.1/\RelV p.2 q.2) ps qs->ps.map (·.1)=qs.map (·.1)/\Vals (ps.map (·.2)) (qs.map (·.2))
 | _,_,.nil=>⟨rfl,.nil⟩
 | _,_,.cons r t=>⟨by rw[T1,T1,r.1,(wK t).1],.cons r.2 (wK t).2⟩
theorem Inv.at(I:Inv X pins σ H s){A:Around}(h1:A.handled=X.A.handled)(h2:A.frames=X.A.frames):Inv { X with A:=A } pins σ H s:=⟨⟨I.ok.mod,I.ok.kind,I.ok.glob,I.ok.blt,I.ok.above,I.ok.inj,I.ok.has,I.ok.cab,λc=>h1.trans (I.ok.hd c),h2.trans I.ok.frames,I.ok.stk,I.ok.exf,I.ok.bs,I.ok.bsz,I.ok.noex,I.ok.exfs,I.ok.funs,I.ok.frf⟩,I.os,I.bare,I.base,I.loc,I.cell,I.free,I.freeC,I.pin,I.hok,I.len⟩
theorem AH{l:Addr}{vs:List V}{kz:List Int}{Q:VK}(I:Inv X pins σ H s)(rv:Vals vs its)(hz2:its.length<=sizeLine)(hcol:∀(R:List Value->Shared->Prop),(∀(h1:Heap) (tk:Nat),(∀b o,s.heap.get? b=some o->h1.get? b=some o)->R its { s with heap:=h1,toks:=tk })->wpAny (model X.prog X.w) X.A.in1 (collect (.ref l)) R X.xe s)(hlen:kz.length=vs.length) (W:Nat->Hp->Prop) (w0:W 0 H)(turn:∀(i:Nat) (v:V) (u:Value) (k:Int) (pins:List (Addr×Obj)) (s:Shared) (H:Hp),vs[i]?=some v->kz[i]?=some k->RelV v u->Inv { X with A:=X.A.in1.in1 } pins σ H s->W i H -> wpAny (model X.prog X.w) X.A.in1.in1 (call (.ref f) [u]) (EP { X with A:=X.A.in1.in1 } pins σ λr H'=>r=.int k/\W (i+1) H') (λ_ _=>False) s)(h:∀(H':Hp) (D:Addr) (ps:List (Int×V)),W vs.length H'->H' D=none->ps.Perm (kz.zip vs)->ps.Pairwise (λp q=>p.1<=q.1)->Q (.ref D) (UQ H' D (.lst (ps.map (·.2))))):wpAny (model X.prog X.w) X.A (call (.builtin "sorted") [.ref l] [(Str.ofString "key",.ref f)]) (EP X pins σ Q) X.xe s:=by
 have hl:=rv.length;have hz:vs.length<=sizeLine:=by omega
 refine call_function_entry_kw kind_sorted plain_sorted entry_sorted (ksk_s1 _ _) ?_;unfold Builtin.«sorted»;refine wpAny_bind (m:=checkCount "sorted" 1 1 _) (wpAny_pure ?_);refine wpAny_bind (hcol _ λh0 tk0 kp0=>?_);have I:=I.kept (t':=tk0) kp0;generalize ({ s with heap:=h0,toks:=tk0 }:Shared)=s at I ⊢;refine wpAny_bind (wpAny_newList ?_ hz2);have hoL:(s.heap.push (seqObj "list" its.toArray 0)).get? s.heap.objs.size=some (seqObj "list" its.toArray 0):=L0 _ rfl;have keep:∀b o,s.heap.get? b=some o->(s.heap.push (seqObj "list" its.toArray 0)).get? b=some o:=λb o q=>g0 _ q;have hsz2:(s.heap.push (seqObj "list" its.toArray 0)).objs.size=s.heap.objs.size+1:=size_push' ..;show wpAny _ _ _ _ _ { s with heap:=s.heap.push (seqObj "list" its.toArray 0) };generalize s.heap.push (seqObj "list" its.toArray 0)=h1 at *;refine wpAny_bind (wpAny_holding (wpAny_call_entry_kw slot_list_sort ⟨_,hoL,rfl⟩ entry_list_sort ?body (ksk_l1 _ _)))
 case body =>
  show wpAny (model X.prog X.w) X.A.in1.in1 (Builtin.«list.sort» ⟨[.ref (s.heap.objs.size)],[(Str.ofString "key",.ref f)]⟩) _ _ _;rw[ksk_t1];unfold ksk_tree;refine wpAny_bind (listItems_at hoL rfl ?_);refine wpAny_bind (listUpdate_at hoL rfl ?_ (by rw[N0];exact hz2) (Q3 _));obtain⟨e1,ho1⟩:∃e1,(h1.update (s.heap.objs.size) (B2 λ_=>(#[]:Array Value))).get? (s.heap.objs.size)=some (seqObj "list" #[] e1):=⟨_,get?_update_seq hoL λ_=>#[]⟩;refine wpAny_bind (seqEpoch_at ho1 rfl ?_);refine wpAny_bind (wpAny_newTuple ?_ (by show its.length<=_;exact hz2));refine wpAny_bind (wpAny_newList ?_ (Q3 _));refine wpAny_holding ?_;have hk3:((h1.update (s.heap.objs.size) (B2 λ_=>(#[]:Array Value))).push (seqObj "tuple" its.toArray 0)).objs.size=s.heap.objs.size+2:=by rw[size_push',G7,hsz2]
  have keep2:∀b o,s.heap.get? b=some o->(((h1.update (s.heap.objs.size) (B2 λ_=>(#[]:Array Value))).push (seqObj "tuple" its.toArray 0)).push (seqObj "list" #[] 0)).get? b=some o:=λb o q=>by refine g0 _ (g0 _ ?_);rw[J3 _ _ _ _ (U0 (G0 q))];exact keep b o q
  have ho2:(((h1.update (s.heap.objs.size) (B2 λ_=>(#[]:Array Value))).push (seqObj "tuple" its.toArray 0)).push (seqObj "list" #[] 0)).get? (s.heap.objs.size)=some (seqObj "list" #[] e1):=g0 _ (g0 _ ho1);have hk2:(((h1.update (s.heap.objs.size) (B2 λ_=>(#[]:Array Value))).push (seqObj "tuple" its.toArray 0)).push (seqObj "list" #[] 0)).get? (s.heap.objs.size+2)=some (seqObj "list" #[] 0):=by rw[<- hk3];exact L0 _ rfl
  show wpAny _ _ (ksk_rest (s.heap.objs.size) (.ref f) false its.toArray e1 (.ref ((h1.update (s.heap.objs.size) (B2 λ_=>(#[]:Array Value))).push (seqObj "tuple" its.toArray 0)).objs.size)) _ _ { s with heap:=((h1.update (s.heap.objs.size) (B2 λ_=>(#[]:Array Value))).push (seqObj "tuple" its.toArray 0)).push (seqObj "list" #[] 0) };rw[hk3];generalize ((h1.update (s.heap.objs.size) (B2 λ_=>(#[]:Array Value))).push (seqObj "tuple" its.toArray 0)).push (seqObj "list" #[] 0)=h3 at *;have fresh:∀j,∀q:Obj,h3.get? (s.heap.objs.size+j)=some q->(∀v,q.data≠.cell v)->h3.get? (s.heap.objs.size+j)=some q/\H (s.heap.objs.size+j)=none/\s.heap.objs.size+j≠X.env.locals/\s.heap.objs.size+j∉X.fs/\∀v,q.data≠.cell v:=λj q hq hd =>
   ⟨hq,I.hok.fresh (Q2 _ _),V2 (O0 I.lt (Q2 _ _)),I.nofs (Q2 _ _),hd⟩;have I0:Inv X pins σ H { s with heap:=h3 }:=I.kept (t':=s.toks) keep2;have I1:Inv { X with A:=X.A.in1.in1 } ([(s.heap.objs.size+2,seqObj "list" #[] 0),(s.heap.objs.size,seqObj "list" #[] e1)]++pins) σ H { s with heap:=h3 }:=by
   refine (I0.at (A:=X.A.in1.in1) rfl rfl).pins_of λp hp=>?_;rcases E1.mp hp with hp|hp
   ·rcases W0.mp hp with rfl|hp
    ·exact fresh 2 _ hk2 (λv z=>by cases z)
    ·rw[Z0.mp hp];exact fresh 0 _ ho2 (λv z=>by cases z)
   ·exact I0.pin p (R0 _ hp)
  have oldC:∀j,∀x c,X.env.cells.lookup x=some c->c≠s.heap.objs.size+j:=λj x c z=>by obtain⟨v,o,ho,_⟩:=I.cell x c z;exact U0 (O0 (G0 ho) (Q2 _ _))
  have oldP:∀j,∀p∈X.pn++pins,p.1≠s.heap.objs.size+j:=λj p hp=>U0 (O0 (G0 (I.pin p hp).1) (Q2 _ _));have sz0:∀j,X.s₀.heap.objs.size<=s.heap.objs.size+j:=λj=>Q0 I.sz (Q2 _ _);unfold ksk_rest;refine wpAny_bind (wpAny_rule ?_);first
   | rw[b8]
   | (rw[<- U6];simp only[List.toList_toArray])
  refine wpAny_bind (ksk_fold (λi s'=>∃H' kA e,Inv { X with A:=X.A.in1.in1 } ([(s.heap.objs.size+2,seqObj "list" kA e),(s.heap.objs.size,seqObj "list" #[] e1)]++pins) σ H' s'/\IntsAre kA.toList (kz.take i)/\W i H') its 0 _
    ⟨H,#[],0,I1,by simpa using IntsAre.nil,w0⟩ ?step ?done)
  case step =>
   rintro j x s' hx ⟨H',kA,e,J,hk,wj⟩;simp only[e7]at hk wj ⊢;have hj:j < its.length:=(V0.mp hx).1;obtain⟨k,hkj⟩:∃k,kz[j]?=some k:=⟨_,A0 (by omega)⟩;obtain⟨v,hv⟩:∃v,vs[j]?=some v:=⟨_,A0 (by omega)⟩;obtain⟨u,hu,ru⟩:=rv.get hv;rw[hx]at hu;cases hu;have hzk:kA.size<=its.length:=by have h1:=hk.length;rw[S0,U1]at h1;omega
   refine wpAny_bind (wpAny_attempt (wpAny_mono (turn j v x k _ s' H' hv hkj ru J wj) (λv s'' he=>?_) λ_ _ hF=>hF.elim));obtain⟨r,H2,J2,rr,er,w2⟩:=he;subst er;obtain⟨t2,rfl⟩:=rr;try dsimp only
   have nk:=J2.pin (s.heap.objs.size+2,seqObj "list" kA e) (R0 _ (T2 _ (.head _)));have na:=J2.pin (s.heap.objs.size,seqObj "list" #[] e1) (R0 _ (T2 _ (.tail _ (.head _))));obtain⟨c2,hc2⟩:∃c2,(s''.heap.update (s.heap.objs.size+2) (B2 (·.push (.int k t2)))).get? (s.heap.objs.size+2)=some (seqObj "list" (kA.push (.int k t2)) c2):=⟨_,get?_update_seq nk.1 (·.push (.int k t2))⟩;have ek:kz.take (j+1)=kz.take j++[k]:=by rw[List.take_add_one,hkj];simp
   have ea:(kA.push (t9 k t2)).toList=kA.toList++[t9 k t2]:=by simp
   refine wpAny_bind (listUpdate_at nk.1 rfl ?_ (Q0 hzk hz2) (by rw[Array.size_push];exact Nat.succ_le_succ (Q0 hzk hz2)));have K0:Inv { X with A:=X.A.in1.in1 } pins σ H2 s'':=J2.pins_of λp hp=>J2.pin p (R0 _ (R0 _ hp));have K1:=K0.turned (t':=s''.toks) (it:=s.heap.objs.size+2) (h':=s''.heap.update (s.heap.objs.size+2) (B2 (·.push (.int k t2)))) (λb o hb ho=>(J3 _ _ _ _ hb).trans ho) nk.2.1 nk.2.2.1 (.inr (sz0 2)) (oldC 2) (oldP 2);refine wpAny_pure ⟨rfl,H2,kA.push (.int k t2),c2,K1.pins_of λp hp=>?_,by rw[ea,ek];exact ksk_snoc hk,w2⟩;rcases E1.mp hp with hp|hp
   ·rcases W0.mp hp with rfl|hp
    ·exact ⟨hc2,nk.2.1,nk.2.2.1,nk.2.2.2.1,λv z=>by cases z⟩
    ·rw[Z0.mp hp];exact ⟨(J3 _ _ _ _ (U0 (P8 (by decide:0 < 2)))).trans na.1,na.2⟩
   ·exact K1.pin p (R0 _ hp)
  case done =>
   rintro s' ⟨H',kA,e,J,hk,wj⟩;have hk':IntsAre kA.toList kz:=by have e3:kz.take (0+its.length)=kz:=W1 (by omega);rw[e3]at hk;exact hk
   have wj:W vs.length H':=by rw[hl];simpa using wj
   have nk:=J.pin (s.heap.objs.size+2,seqObj "list" kA e) (R0 _ (T2 _ (.head _)));have na:=J.pin (s.heap.objs.size,seqObj "list" #[] e1) (R0 _ (T2 _ (.tail _ (.head _))));try dsimp only
   refine wpAny_bind (listItems_at nk.1 rfl ?_);refine jy nk.1 na.1 (V2 (P8 (by decide:0 < 2))) hk' (by omega) hz2 λh' out c kp ha ⟨qs,q1,q2,q3⟩=>⟨_,rfl,?_⟩;refine wpAny_pure ⟨_,rfl,?_⟩;obtain⟨ps,p1,p2⟩:=EY q1 (EW rv);obtain⟨p3,p4⟩:=wK p2;have K0:Inv X pins σ H' s':=(J.at (A:=X.A) rfl rfl).pins_of λp hp=>J.pin p (R0 _ (R0 _ hp));have nn:H' (s.heap.objs.size)=none:=na.2.1;have lenP:(ps.map (·.2)).length=vs.length:=by rw[j0,p1.length_eq,G4];omega
   have mch:∀{b:Addr},b∉[s.heap.objs.size,s.heap.objs.size+2]->b≠s.heap.objs.size/\b≠s.heap.objs.size+2:=λ{b} z=>⟨λq=>z (by simp[q]),λq=>z (by simp[q])⟩;refine ⟨.ref (s.heap.objs.size),UQ H' (s.heap.objs.size) (.lst (ps.map (·.2))),K0.step (g':=s'.gens) (d':=s'.drawn) (t':=s'.toks) (ch:=[s.heap.objs.size,s.heap.objs.size+2]) (λb hb=>?_) (λb o _ _ hb e _=>kp b o (mch hb).1 (mch hb).2 e) (λb o _ _ hb e _=>⟨o.slots,kp b o (mch hb).1 (mch hb).2 e⟩)
     (λb o hb e n=>by rw[nQ (mch hb).1];exact n) (λb o hb e=>⟨o,kp b o (mch hb).1 (mch hb).2 e⟩) (λb xs e=>by rw[nQ (oQ e nn)];exact e) (λb o u e=>by rw[nQ (oQ e nn)];exact e) (λb ps e=>⟨#[],by rw[nQ (oQ e nn),e];simp⟩) (λm hm=>?_) (λb u e=>?_) K0.bare,rfl,h H' _ ps wj nn p1 ?_⟩
   ·rcases W0.mp hb with rfl|hb
    ·exact ⟨.inr (sz0 0),na.2.2.1,oldC 0,oldP 0⟩
    ·rw[Z0.mp hb];exact ⟨.inr (sz0 2),nk.2.2.1,oldC 2,oldP 2⟩
   ·obtain⟨o,es,ep,ho,r⟩:=hm;exact ⟨o,es,ep,kp _ o (E3 na.2.2.1) (E3 nk.2.2.1) ho,r⟩
   ·by_cases z:b=s.heap.objs.size
    ·subst z;rw[AQ]at e;cases e;exact ⟨by rw[lenP];exact hz,out.toList,c,by rw[q2];exact p4,by rw[ha,q9]⟩
    ·rw[nQ z]at e;have hb3:∀d v,H' d=some v->d≠s.heap.objs.size+2:=λd v q z=>by rw[z]at q;have:=nk.2.1;rw[this]at q;cases q
     refine (K0.hok b u e).stay (λd v hd q=>?_) (λd q=>by rw[nQ (oQ q nn)];exact q) λd xs q=>by rw[nQ (oQ q nn)];exact q
     rcases hd with rfl|hd
     ·exact kp _ _ z (hb3 _ _ e) q
     ·exact kp _ _ (oQ hd nn) (hb3 _ _ hd) q
   ·have:(ps.map (·.1)).Pairwise (·<=·):=by
     rw[p3,O3];exact q3.imp λh=>by simpa using h
    rw[O3]at this;exact this
theorem UG{l:Addr}{vs:List V}{kz:List Int}{Q:VK}(I:Inv X pins σ H s)(hs:SqL X.K H l vs)(hlen:kz.length=vs.length)(W:Nat->Hp->Prop)(w0:W 0 H)(turn:∀(i:Nat) (v:V) (u:Value) (k:Int) (pins:List (Addr×Obj)) (s:Shared) (H:Hp),vs[i]?=some v->kz[i]?=some k->RelV v u->Inv { X with A:=X.A.in1.in1 } pins σ H s->W i H -> wpAny (model X.prog X.w) X.A.in1.in1 (call (.ref f) [u]) (EP { X with A:=X.A.in1.in1 } pins σ λr H'=>r=.int k/\W (i+1) H') (λ_ _=>False) s)(h:∀(H':Hp) (D:Addr) (ps:List (Int×V)),W vs.length H'->H' D=none->ps.Perm (kz.zip vs)->ps.Pairwise (λp q=>p.1<=q.1)->Q (.ref D) (UQ H' D (.lst (ps.map (·.2))))):wpAny (model X.prog X.w) X.A (call (.builtin "sorted") [.ref l] [(Str.ofString "key",.ref f)]) (EP X pins σ Q) X.xe s:=by
 obtain⟨its,rv,⟨o,n,e,c,d1,d2⟩,hz⟩:=I.list hs;have hl:=rv.length;have hz2:its.length<=sizeLine:=by omega
 refine AH I rv hz2 (λR hR=>collect_list (vs:=its) ⟨o,e,c,n,by first|exact d2|exact d1⟩ (hR _ s.toks λb o q=>?_) hz2) hlen W w0 turn h;have hlt:b < s.heap.objs.size:=G0 q;rw[J3 _ _ _ _ (U0 hlt),B6 _ _ _ (U0 hlt)];exact q
end L2
namespace L3
open L2
structure Lm(K:Fg)(x:Str)(fd:FuncData):Prop where
 ex:∃c P,fd.code=.ref c/\Y4 K c P=true/\(P,x)∈TB K/\∀z∈TB K,z.1=P->z.2=x
def dI(td tb:TD):TD:=λρ Q=>td ρ λr ρ1=>∃(ds:List D) (kz:List Int),r.d=.list ds/\kz.length=ds.length /\
 (∀(i:Nat) (d:D) (k:Int),ds[i]?=some d->kz[i]?=some k->tb [some (.fz d)] λr' _=>r'=.fz (.int k)) /\
 ∀ps:List (Int×D),ps.Perm (kz.zip ds)->ps.Pairwise (λp q=>p.1<=q.1)->Q (.ow (.list (ps.map (·.2)))) ρ1
section
variable {F:Hp}
theorem DaAll.zip:∀{kz:List Int}{xs:List V}{ds:List D},DaAll K F xs ds->Paired (λ(p:Int×D) (q:Int×V)=>p.1=q.1/\Da K F q.2 p.2) (kz.zip ds) (kz.zip xs)
 | [],_,_,_=>.nil
 | _ :: _,_,_,.nil=>.nil
 | _ :: _,_,_,.cons r t=>.cons ⟨rfl,r⟩ (DaAll.zip t)
theorem VG:∀{ps:List (Int×D)}{qs:List (Int×V)},Paired (λ(p:Int×D) (q:Int×V)=>p.1=q.1/\Da K F q.2 p.2) ps qs->ps.map (·.1)=qs.map (·.1)/\DaAll K F (qs.map (·.2)) (ps.map (·.2))
 | _,_,.nil=>⟨rfl,.nil⟩
 | _,_,.cons r t=>⟨by rw[T1,T1,r.1,(VG t).1],.cons r.2 (VG t).2⟩
theorem my{v:V}{ds:List D}(h:Da K F v (.list ds)):∃a xs,v=.ref a/\F a=some (.lst xs)/\DaAll K F xs ds:=by
 cases h with
 | lst e t=>exact ⟨_,_,rfl,e,t⟩
theorem cx{v:V}{k:Int}(h:Da K F v (.int k)):v=.int k:=by cases h;rfl
end
theorem ny{k:Nat}{x:Str}{c0 P:Addr}{ar:Arguments}{e:Expr}{lp kp p pos:Pos}{td tb:TD}(hK:X.K=K)(hr:Room (k+3) X.A)(hm:X.mg "sorted"=none)(he:WE X e (lift K td))
  (hcode:X.env.code=.ref c0) (hqual:X.env.qual ++ "<lambda>"=x ++ ".<locals>.<lambda>") (hC:Y4 K c0 P=true) (hP:(P,x)∈TB K) (hPx:∀z∈TB K,z.1=P->z.2=x) (S:FnScope [y] [y] sc)
  (hb:∀(f:Addr) (cdv:Value) (A:Around) (outer:List Env) (s:Shared) (H:Hp),Room k (A.deeper (envOfC (x ++ ".<locals>.<lambda>") sc s.heap.objs.size f cdv)) ->
    WE (IY iZ X.prog X.w K X.mg X.base [y] (x ++ ".<locals>.<lambda>") sc f cdv A outer s H E0).nox body (lift K tb))
  (hba:∀(c:Addr) (pm ctv u:Value),bindArgs (PySem.W.kla_fn "<lambda>" (x ++ ".<locals>.<lambda>") ar body sc [] pm (.ref c) ctv) ⟨[u],[]⟩=pure [(y,u)]:=by intros;rfl)
  (hcl:closureFor sc X.env=pure []:=by rfl) (hdef:defaultsOf ar X.env=([],[]):=by rfl) (hg:Gl X "sorted":=by rfl)
  (hst:starEach [e] X.env=(false,eval e X.env) :: starEach [] X.env:=by rfl) (hb2:backTo pos (starEach [e] X.env)=(false,eval e X.env) :: backTo pos (starEach [] X.env):=by rfl) (hpl:(backTo pos (starEach [e] X.env)).any (·.1)=false:=by rfl) :
  WE X (.Call (.Name "sorted" p) [e] [⟨some "key",.Lambda ar body sc lp,kp⟩] pos) (lift K (dI td tb)):=by
 subst hK;refine ⟨λpins s σ H Q I h=>?_⟩;obtain⟨G,F,ρ,Qd,R,w,kk⟩:=h;refine wpAny_Call_Name_kw (WZ I hg hm (show bootBuiltins "sorted"=some (.builtin "sorted") from by first|rfl|decide) ?_);refine callWith_kw (env:=X.env) (e:=e) (rest:=[]) (kws:=[⟨some "key",.Lambda ar body sc lp,kp⟩]) ?_ hb2 hpl rfl rfl;have P1:PA X [e] (bH (lift X.K td) Fz):=TJ he.h iW hst;refine hX (P1 pos pins s σ H (λvs H1=>∃(v:V) (F1:Hp) (ρ1:Ev) (ds:List D) (kz:List Int),vs=[v]/\Sub F F1/\Rel X.K G F1 σ H1 ρ1/\Da X.K F1 v (.list ds)/\kz.length=ds.length /\
     (∀(i:Nat) (d:D) (k:Int),ds[i]?=some d->kz[i]?=some k->tb [some (.fz d)] λr' _=>r'=.fz (.int k))/\∀ps:List (Int×D),ps.Perm (kz.zip ds)->ps.Pairwise (λp q=>p.1<=q.1)->Qd (.ow (.list (ps.map (·.2)))) ρ1) I ⟨G,F,ρ,_,R,w,λv H1 F1 r ρ1 s1 R1 r1 w1=>?_⟩) λus s1 ⟨vs,H1,I1,rv,q1⟩=>?_
 ·obtain⟨ds,kz,e1,e2,e3,e4⟩:=w1;obtain⟨F2,s2,R2,d2⟩:=r1.frz R1;rw[e1]at d2;exact ⟨v,F2,ρ1,ds,kz,rfl,s1.trans s2,R2,d2,e2,e3,e4⟩
 obtain⟨v,F1,ρ1,ds,kz,rfl,sb1,R1,d1,hlen,hkey,hend⟩:=q1;obtain⟨l,xs,rfl,fl,dx⟩:=my d1;obtain⟨u,rfl,ru⟩:=qZ rv;cases ru;refine kws_cons ?_;obtain⟨_,ps0,eP,tP,cP⟩:=R1.tb (P,x) hP;refine hX (cI (x:=x) (P:=P) hcode hqual hC hcl hdef pins s1 σ H1 (λv H2=>∃f c o,v=.ref f/\Rel X.K G F1 σ H2 ρ1/\H2 f=some (RK f c (x ++ ".<locals>.<lambda>") ar body sc)/\H2 c=some (KY c o)/\aj x o/\SqL X.K H2 l xs) I1 ⟨ps0,eP,tP,cP,?_⟩) λu2 s2 ⟨v2,H2,I2,rv2,q2⟩=>?_
 ·intro H' ps' f c o kp hf nP nT nC nc nq nf;have su:Sub F1 H':=λb o e=>kp b o (λz=>by rw[z,(R1.tb (P,x) hP).1]at e;cases e) (R1.sub b o e);refine ⟨f,c,o,rfl,R1.grown (Sub.refl _) su (λb o e=>.inl e) (λb o n e=>kp b o (E3 (n (P,x) hP)) e) λz hz=>?_,nf,nc,nq,.inl (.inl (su _ _ fl))⟩;refine ⟨(R1.tb z hz).1,?_⟩;by_cases zp:z.1=P
  ·rw[zp,hPx z hz zp];exact ⟨ps',nP,nT,nC⟩
  ·obtain⟨_,qs,g1,g2,g3⟩:=R1.tb z hz;refine ⟨qs,kp _ _ zp g1,g2,λpos v e=>?_⟩;obtain⟨c',o',h1,h2,h3⟩:=g3 pos v e;exact ⟨c',o',h1,kp _ _ (λq=>by rw[q,eP]at h2;cases h2) h2,h3⟩
 obtain⟨f,c,o,rfl,R2,hf,hc,hq,hs⟩:=q2;cases rv2;refine kws_nil ?_;show wpAny (model X.prog X.w) X.A (call (.builtin "sorted") [.ref l] [(Str.ofString "key",.ref f)]) (EP X pins σ Q) X.xe s2;have hxl:=dx.length;refine UG (vs:=xs) (kz:=kz) I2 hs (by omega) (λi H'=>∃F',Sub F1 F'/\Rel X.K G F' σ H' ρ1/\H' f=some (RK f c (x ++ ".<locals>.<lambda>") ar body sc)/\H' c=some (KY c o)) ⟨F1,Sub.refl _,R2,hf,hc⟩ (λi v u kv pins s H hv hk ru I ⟨F',sb,R,hf,hc⟩=>?_) (λH' Dd ps ⟨F',sb,R,_,_⟩ hn p1 p2=>?_)
 ·obtain⟨d,hd,dv⟩:=(dx.mono sb).getV hv;have kb:=hkey i d kv hd hk;have run:=ly (k:=k) (N:=[y]) (ps:=[y]) (us:=[u]) (vs:=[v]) (Q:=λr H'=>r=.int kv/\∃F',Sub F1 F'/\Rel X.K G F' σ H' ρ1/\H' f=some (RK f c (x ++ ".<locals>.<lambda>") ar body sc)/\H' c=some (KY c o)) S hr.in1.in1 I.env0 hf hc hq
   (λpm ctv us hl=>by
     match us,hl with
     | [u],_=>exact hba c pm ctv u) rfl (.cons ru .nil) (λhr'=>⟨_,(hb f (.ref c) X.A.in1.in1 X.stack s H hr').h,⟨H,F',λ_=>none⟩,F',[some (.fz d)],_,wW (vs:=[v]) (ds:=[d]) R.sub R.tb (.cons dv .nil),kb,λv' H3 F3 r3 ρ3 s3 R3 res3 e3=>?_⟩)
  ·refine wpAny_call (codeAny_mono run λr s' hq=>?_);cases r with
   | error e=>exact False.elim hq
   | ok fl =>
    cases fl with
    | ret u=>exact I.after hq
    | next=>exact False.elim hq
    | brk=>exact False.elim hq
    | cont=>exact False.elim hq
  ·subst e3;have kp:∀b o,(∀z∈TB X.K,z.1≠b)->H b=some o->H3 b=some o:=λb o n e=>R3.keep b o e (λi z=>by cases z) n;refine ⟨cx res3,F3,sb.trans s3,R.grown s3 R3.sub (λb o e=>R3.fn b o e) kp R3.tb,kp _ _ (R.tb.ne λu z=>by rw[hf]at z;cases z;rfl) hf,kp _ _ (λz hz e=>?_) hc⟩;obtain⟨_,qs,g1,_⟩:=R.tb z hz;rw[e,hc]at g1;cases g1
 ·obtain⟨qs,q1,q2⟩:=EY p1 (dx.mono sb).zip;obtain⟨q3,q4⟩:=VG q2;obtain⟨R',r'⟩:=R.newOw (o:=.lst (ps.map λp:Int×V=>p.2)) (d:=.list (qs.map λp:Int×D=>p.2)) hn (show DaAll X.K F' _ _ from q4);refine kk _ _ F' _ ρ1 (sb1.trans sb) R' r' (hend qs q1 ?_);have:(qs.map (·.1)).Pairwise (·<=·):=by
   rw[q3,O3];exact p2
  rw[O3]at this;exact this
theorem zP{x:Str}{st:Stmt}{c:Addr}{ps:List Str}{k:Nat}{con:Con}{ts:VJ}(F:Fun K x qual st f fd)(hcd:fd.code=.ref c)(S:FnScope N ps (mQ st))(hb:∀(A:Around) (outer:List Env) (s:Shared) (H:Hp) (E:XK),Room k (A.deeper (envOfC qual (mQ st) s.heap.objs.size f (.ref c)))->WSs (IY iZ P w K mg base N qual (mQ st) f (.ref c) A outer s H E).nox (NX st) (vQ K ts))(hl:∀args Qd,con args Qd->args.length=ps.length) (hc:∀args Qd,con args Qd->(∀s∈args,∀d,s≠.ow d)/\ts (vU args Qd) (nY N.length args)):FnOk P w K mg base iZ (k+1) f fd ps (pQ K con):=by
 obtain⟨oc,od,kV,doc,pm,an,cdv,ct,osl,rfl,lk,hcd'⟩:=F.ex;have e:cdv=.ref c:=hcd;subst e;refine Eu lk hcd' S (λvs H Q E h=>?_) λA outer s H vs Q E hr hsp=>⟨_,(hb A outer s H E hr).h.nox,Lu hc hsp⟩;obtain⟨G,F',args,Qd,R,w',_⟩:=h;have h1:=hl args Qd w';have h2:=R.len;rw[j0,j0]at h2;rw[h2,h1]
theorem oy{a:Addr}{ns:List Int}(hS:SqL K H a (ns.map V.int))(hT:∀z∈TB K,H z.1=some (.tbl #[])):∃F:Hp,Rel K ⟨H,F,λ_=>none⟩ F [some (.ref a)] H [some (.fz (bJ ns))]:=by
 refine ⟨λb=>match H b with
   | some (.tbl ps)=>none
   | o=>o,?_⟩;have su:Sub (λb=>match H b with
   | some (.tbl ps)=>none
   | o=>o) H:=λb o e=>by
  dsimp only at e;split at e
  ·cases e
  ·exact e
 have back:∀b u,H b=some u->stk u=false\/(∃o x,u=.frz o x)->(match H b with
   | some (.tbl ps)=>none
   | o=>o)=some u:=λb u e s=>by
  rw[e];cases u<;>first|rfl|(rcases s with s|⟨_,_,s⟩<;>cases s)
 have hS':SqL K (λb=>match H b with
   | some (.tbl ps)=>none
   | o=>o) a (ns.map V.int):=by
  rcases hS with (h|⟨o,h⟩)|h
  ·exact .inl (.inl (back _ _ h (.inl rfl)))
  ·exact .inl (.inr ⟨o,back _ _ h (.inr ⟨_,_,rfl⟩)⟩)
  ·exact .inr h
 have tb:TabOk K (λb=>match H b with
   | some (.tbl ps)=>none
   | o=>o) H:=λz hz=>by
  have e:=hT z hz;refine ⟨by dsimp only;rw[e],#[],e,trivial,λpos v q=>?_⟩;cases q
 exact wW (vs:=[.ref a]) (ds:=[bJ ns]) su tb (.cons (.scr hS') .nil)
end L3
namespace L2
def gx(ts:List Addr)(H:Hp):Prop:=(∀b,H b=none\/(∃o xs,H b=some (.frz o (.lst xs)))\/b∈ts)/\∀P∈ts,H P=some (.tbl #[])
theorem Jq{K:n0}{mb:Str->Option Value}{CX:Gz}{k:Nat}{fa a:Addr}{x:Str}{sp:Sp}{s₁:Shared}{vs:List Value}{ns:List Int}(KX:K.In s₁.heap) (hts:∀P∈ts,s₁.heap.get? P=some (j7 #[])) (hct:∀P∈ts,K.lookup P=none/\∃c,Y4 K c P=true)(hns:s₁.heap.Ns mainGlobals mg) (hb:s₁.heap.Ns builtinsNs mb) (hbb:∀x:Str,x ≠ "__name__"->mb x=bootBuiltins x) (hlim:s₁.heap.NoLimit) (hbm:DL mg s₁.heap) (hg:s₁.gens=#[])(ha:s₁.heap.get? a=some { cls:=.type "list",data:=.seq vs.toArray }) (hi:IntsAre vs ns) (hl:ns.length<=sizeLine) (hr:Room k callerA)(F:∀base:Heap,K.In base->base.Ns mainGlobals mg->FnOk P w K mg base CX k fa fd [x] sp) (hbind:∀(s:Shared) (u:Value),BindsTo s fd ⟨[u],[]⟩ [(x,u)])(hsp:∀H:Hp,gx ts H->SqL K H a (ns.map V.int)->sp [.ref a] H (λv _=>v=.bl true) λ_ _ _=>False)(hCX:∀H e s',CX [] H s₁ (λ_ _ _=>False) e s'->False):codeAny (model P w) callerA (.call (.ref fa) ⟨[.ref a],[]⟩) (λr s'=>r=.ok (.ret (.bool true))/\OldK s₁.heap s'.heap/\s'.os=s₁.os/\AllBare s'.gens) s₁:=by
 have rv:=HV hi;have lenV:=hi.length;have nat:a∉ts:=λz=>by have:=hts a z;rw[ha]at this;cases this
 have core:∀H:Hp,gx ts H->SqL K H a (ns.map V.int)->HOk P w H s₁.heap->(∀b,H b≠none->b=a\/b∈ts)->(H a≠none->K.lookup a=none) ->
   codeAny (model P w) callerA (.call (.ref fa) ⟨[.ref a],[]⟩) (λr s'=>r=.ok (.ret (.bool true))/\OldK s₁.heap s'.heap/\s'.os=s₁.os/\AllBare s'.gens) s₁:=by
  intro H hO hS hok hA hK;have base_of:∀{b:Addr}{o:Obj},s₁.heap.get? b=some o->H b=none->(fU s₁.heap H).get? b=some o:=λe n=>Zq e n;have noA:∀{b:Addr}{o:Obj},s₁.heap.get? b=some o->o.cls≠.none->o.cls≠.type "list"->H b=none:=λ{b o} e d1 d2=>by
   cases q:H b with
   | none=>rfl
   | some u =>
    rcases hA b (by rw[q];simp) with e'|e'
    ·subst e';rw[ha]at e;cases e;exact absurd rfl d2
    ·rw[hts b e']at e;cases e;exact absurd rfl d1
  have noD:∀{b:Addr}{o:Obj}{es:Array DictEntry}{ep:Nat},s₁.heap.get? b=some o->o.data=.dict es ep->H b=none:=λ{b o es ep} e d=>by
   cases q:H b with
   | none=>rfl
   | some u =>
    rcases hA b (by rw[q];simp) with e'|e'
    ·subst e';rw[ha]at e;cases e;have d':Data.seq vs.toArray _=Data.dict es ep:=d;cases d'
    ·rw[hts b e']at e;cases e;cases d
  have nsK:∀{b:Addr}{m:Str->Option Value},s₁.heap.Ns b m->(fU s₁.heap H).Ns b m:=λ{b m} ⟨o,es,ep,e,d,r⟩=>⟨o,es,ep,base_of e (noD e d),d,r⟩;have hKb:K.In (fU s₁.heap H):=λb o e=>base_of (KX b o e) (by
    cases q:H b with
    | none=>rfl
    | some u =>
      rcases hA b (by rw[q];simp) with e'|e'
      · subst e';rw[hK (by rw[q];simp)]at e;cases e
      · rw[(hct b e').1]at e;cases e);have hM:Mod K mg (fU s₁.heap H):=⟨hKb,nsK hns,⟨mb,nsK hb,hbb⟩,let ⟨mc,h1,h2⟩:=hlim;⟨mc,nsK h1,h2⟩,let ⟨bm,o,b1,b2,b3,b4,b5,b6⟩:=hbm;⟨bm,o,b1,b2,base_of b3 (noA b3 (by rw[b4];exact λz=>by cases z) (by rw[b4];intro z;injection z with z;exact absurd z (by decide))),b4,b5,b6⟩⟩;have e0:Env0 P w K mg (fU s₁.heap H) callerA [] s₁ H:=⟨rfl,hM,λb o e=>tw e,T9 (WD _ _),trivial,λb hb=>absurd (show b∈([]:List Addr) from hb) (by simp),hok,.of_eq hg⟩;refine codeAny_mono ((F _ hKb (nsK hns)).run callerA [] s₁ H ⟨[.ref a],[]⟩ [.ref a] [.ref a] _ _ hr e0 (hbind s₁ (.ref a)) (.cons rfl .nil) (hsp H hO hS)) λr s' h=>?_;cases r with
  | error e=>exact (hCX H e s' h).elim
  | ok fl =>
   cases fl with
   | next=>exact False.elim h
   | brk=>exact False.elim h
   | cont=>exact False.elim h
   | ret u =>
    obtain⟨v,H',os,bare,un,hok',r',q⟩:=h;have q':v=.bl true:=q;subst q';obtain rfl:u=dQ true:=r';have tabs:∀b∈ts,∃more,s'.heap.get? b=some (j7 (#[]++more)):=λb hb=>by obtain⟨more,e⟩:=un.tbls b _ (hO.2 b hb);exact ⟨more,(show ObjOk P w H' s'.heap b (.tbl (#[]++more)) from hok' b _ e)⟩
    have others:∀b o,b∉ts->s₁.heap.get? b=some o->s'.heap.get? b=some o:=λb o hb e=>by
     cases q:H b with
     | none=>exact un.keep b o e q (by intro z;exact absurd (show b∈([]:List Addr) from z) (by simp)) (by simp)
     | some u =>
      rcases hO.1 b with z|⟨ob,xs,z⟩|z
      ·rw[q]at z;cases z
      ·have z2:=un.frzs b ob _ z;obtain⟨e1,_⟩:=hok b _ z;obtain⟨e2,_⟩:=hok' b _ z2;rw[e]at e1;cases e1;exact e2
      ·exact absurd z hb
    refine ⟨rfl,⟨λb o e=>?_,λb o e=>?_⟩,os,bare⟩
    ·by_cases hb:b∈ts
     ·obtain⟨more,e2⟩:=tabs b hb;obtain⟨_,c,hc⟩:=hct b hb;have e3:=hts b hb;rw[e]at e3;cases e3;exact .inr (.inl ⟨((x9 KX hc).tab (hts b hb)).isCodeTable,rfl,#[],more,rfl,e2⟩)
     ·exact .inl (others b o hb e)
    ·by_cases hb:b∈ts
     ·obtain⟨more,e2⟩:=tabs b hb;exact ⟨_,e2⟩
     ·exact ⟨_,others b o hb e⟩
 cases hk:K.lookup a with
 | some o =>
  have e:=KX a o hk;rw[ha]at e;cases e;refine core (λb=>if b∈ts then some (.tbl #[]) else none) ⟨λb=>?_,λP hP=>if_pos hP⟩ (.inr ⟨_,vs.toArray,_,hk,rfl,rfl,rfl,by rw[N0,lenV];exact hl,by simpa using rv⟩) (λb u z=>?_) (λb z=>?_) λz=>absurd (if_neg nat) z
  ·by_cases hb:b∈ts
   ·exact .inr (.inr hb)
   ·exact .inl (if_neg hb)
  ·by_cases hb:b∈ts
   ·have z':=(if_pos hb).symm.trans z;cases z';exact hts b hb
   ·have z':=(if_neg hb).symm.trans z;cases z'
  ·by_cases hb:b∈ts
   ·exact .inr hb
   ·exact absurd (if_neg hb) z
 | none =>
  refine core (λb=>if b=a then some (.frz { cls:=.type "list",data:=.seq vs.toArray } (.lst (ns.map V.int))) else if b∈ts then some (.tbl #[]) else none) ⟨λb=>?_,λP hP=>?_⟩ (.inl (.inr ⟨{ cls:=.type "list",data:=.seq vs.toArray },if_pos rfl⟩)) (λb u z=>?_) (λb z=>?_) λ_=>hk
  ·by_cases hb:b=a
   ·exact .inr (.inl ⟨_,_,if_pos hb⟩)
   ·by_cases hb2:b∈ts
    ·exact .inr (.inr hb2)
    ·exact .inl (by dsimp only;rw[if_neg hb,if_neg hb2])
  ·have ne:P≠a:=λq=>nat (q ▸ hP);show (if P=a then _ else if P∈ts then some (HO.tbl #[]) else none)=_;rw[if_neg ne,if_pos hP]
  ·have z:(if b=a then some (HO.frz { cls:=.type "list",data:=.seq vs.toArray } (.lst (ns.map V.int))) else if b∈ts then some (.tbl #[]) else none)=some u:=z;by_cases hb:b=a
   ·rw[if_pos hb]at z;cases z;subst hb;exact ⟨ha,by rw[j0];exact hl,vs,_,rv,ha⟩
   ·rw[if_neg hb]at z;by_cases hb2:b∈ts
    ·rw[if_pos hb2]at z;cases z;exact hts b hb2
    ·rw[if_neg hb2]at z;cases z
  ·have z:(if b=a then some (HO.frz { cls:=.type "list",data:=.seq vs.toArray } (.lst (ns.map V.int))) else if b∈ts then some (.tbl #[]) else none)≠none:=z;by_cases hb:b=a
   ·exact .inl hb
   ·rw[if_neg hb]at z;by_cases hb2:b∈ts
    ·exact .inr hb2
    ·exact absurd (if_neg hb2) z
theorem walk_ofT{l:Y8}{k:Nat}{q:Program}{d:DefRec}{K:Params->n0}{CX:World->Gz}{sp:World->Sp}{x:Str}(hn:l.most=some n) (hn2:n<=sizeLine) (hdf:d.params.defaults=[]) (hr:Room k callerA)(hY:∀(w:World) (h:Heap),YP w h->(K w.params).In h/\∀P∈ts,h.get? P=some (j7 #[]))(hct:∀w:World,∀P∈ts,(K w.params).lookup P=none/\∃c,Y4 (K w.params) c P=true)(F:∀(w:World) (mg:Str->Option Value) (fa:Addr) (h:Heap),(K w.params).In h->h.Ns mainGlobals mg->mg d.name=some (.ref fa) -> ∃fd:FuncData,(∀(s:Shared) (u:Value),BindsTo s fd ⟨[u],[]⟩ [(x,u)]) /\ ∀base:Heap,(K w.params).In base->base.Ns mainGlobals mg->FnOk l.prog w (K w.params) mg base (CX w) k fa fd [x] (sp w))(hsp:∀(w:World) (H:Hp) (a:Addr) (ns:List Int),ns.length<=n->gx ts H->SqL (K w.params) H a (ns.map V.int)->sp w [.ref a] H (λv _=>v=.bl true) λ_ _ _=>False)(hCX:∀(w:World) (H:Hp) (s:Shared) (e:Value) (s':Shared),CX w [] H s (λ_ _ _=>False) e s'->False):PySem.W.WalkO q loose XP YP l.row.toRowW d [] (λf vs=>PySem.call f vs):=by
 refine Att.attach_call hn hdf λw s₀ s₁ mg mb fa o pm cd doc a vs ns G Y ho hd hcd hmg hobj hints hlen hg=>?_;obtain⟨KX,hts⟩:=hY w _ Y;obtain⟨fd,hb,hF⟩:=F w mg fa _ KX G.T.g hmg;exact Jq KX hts (hct w) G.T.g G.T.b G.T.builtins G.T.nolimit G.T.bmain hg hobj hints (Q0 hlen hn2) hr hF hb (λH hO hS=>hsp w H a ns hlen hO hS) λH e s'=>hCX w H s₁ e s'
end L2
namespace L3
open L2
noncomputable def eI(K:Fg)(x:Str)(fd:FuncData):Bool:=match G9 K x with
 | some (c,P)=>(match fd.code with | .ref c'=>c'==c|_=>false)&&Y4 K c P&&(TB K).all (λz=>z.1 != P||z.2==x)&&(TB K).any λz=>z.1==P&&z.2==x
 | none=>false
theorem eN{x:Str}(h:eI K x fd=true):Lm K x fd:=by
 unfold eI at h;split at h
 ·rename_i c P e;simp only[J1]at h;obtain⟨⟨⟨h1,h2⟩,h3⟩,h4⟩:=h;refine ⟨c,P,?_,h2,?_,λz hz q=>?_⟩
  ·split at h1
   ·rename_i c' e1;rw[e1,beq_iff_eq.mp h1]
   ·cases h1
  ·obtain⟨z,hz,q⟩:=List.any_eq_true.mp h4;simp only[J1,beq_iff_eq]at q;have:z=(P,x):=Prod.ext q.1 q.2;rw[<- this];exact hz
  ·have:=Y2.mp h3 z hz;rw[q]at this;simpa using this
 ·cases h
noncomputable def gI(K:Fg)(ts:List Addr):Bool:=(ts.all λP=>(K.lookup P).isNone&&lamN.any λx=>match G9 K x with
  | some (c,P')=>P'==P&&Y4 K c P
  | none=>false)&&(TB K).all λz=>ts.contains z.1
theorem dB(h:gI K ts=true):(∀P∈ts,K.lookup P=none/\∃c,Y4 K c P=true)/\∀z∈TB K,z.1∈ts:=by
 unfold gI at h;rw[J1]at h;refine ⟨λP hP=>?_,λz hz=>?_⟩
 ·have:=Y2.mp h.1 P hP;rw[J1]at this;refine ⟨Option.isNone_iff_eq_none.mp this.1,?_⟩;obtain⟨x,_,q⟩:=List.any_eq_true.mp this.2;split at q
  ·rename_i c P' _;rw[J1]at q;exact ⟨c,q.2⟩
  ·cases q
 ·have:=Y2.mp h.2 z hz;simpa using this
theorem walkT{l:Y8}{k:Nat}{q:Program}{d:DefRec}{K:Params->n0}{x:Str}{cLaw:Con}(hc:∀ns:List Int,ns.length<=63->cLaw [.fz (bJ ns)] λr _=>r=.fz (.bool true)) (hr:Room k callerA) (hn:l.most=some 63) (hdf:d.params.defaults=[])(hY:∀(w:World) (h:Heap),YP w h->(K w.params).In h/\∀P∈ts,h.get? P=some (j7 #[])) (hts:∀w:World,gI (K w.params) ts=true)(F:∀(w:World) (mg:Str->Option Value) (fa:Addr) (h:Heap),(K w.params).In h->h.Ns mainGlobals mg->mg d.name=some (.ref fa) -> ∃fd:FuncData,(∀(s:Shared) (u:Value),BindsTo s fd ⟨[u],[]⟩ [(x,u)])/\∀base:Heap,(K w.params).In base->base.Ns mainGlobals mg->FnOk l.prog w (K w.params) mg base iZ k fa fd [x] (pQ (K w.params) cLaw)):PySem.W.WalkO q loose XP YP l.row.toRowW d [] (λf vs=>PySem.call f vs):=by
 refine L2.walk_ofT (ts:=ts) (n:=63) (k:=k) (x:=x) (CX:=λ_=>iZ) (sp:=λw=>pQ (K w.params) cLaw) hn (by decide) hdf hr hY (λw=>(dB (hts w)).1) F (λw H a ns hl hO hS=>?_) λ_ _ _ _ _ z=>z;obtain⟨Fr,R⟩:=oy hS λz hz=>hO.2 _ ((dB (hts w)).2 z hz);refine ⟨_,Fr,[.fz (bJ ns)],λr _=>r=.fz (.bool true),R,hc ns hl,λv H' F' r ρ' _ _ res e=>?_⟩;subst e;have res:Da (K w.params) F' v (.bool true):=res;cases res;rfl
end L3
namespace L2
open PySem.W
section
variable {X:Cx}{α:Type}[Inhabited α]{Rep:Hp->Addr->α->Prop}{fn:Hp->V->α}{lt:α->α->Bool}{κ:SortKind}
theorem BH{c:Addr}(h:RelV (.ref c) u):u=.ref c:=h
noncomputable def JJ(fn:Hp->V->α)(H:Hp):Value->α
 | .ref c=>fn H (.ref c)
 | _=>default
theorem XG(W:SG.Wk lt)(hf:∀H c a,Rep H c a->fn H (.ref c)=a)(hkind:∀{pins:List (Addr×Obj)}{s:Shared}{σ:St}{H:Hp},Inv X pins σ H s->∀its:List Value,2<=its.length->(∀u∈its,∃c x,u=.ref c/\Rep H c x)->∀(s':Shared),(∀b o,s.heap.get? b=some o->s'.heap.get? b=some o)->∀(E:Value->Shared->Prop) (Q':SortKind->Shared->Prop),Q' κ s'->wpAny (model X.prog X.w) X.A.in1.in1 (keyKind' its.toArray) Q' E s')(hcmp:∀{pins:List (Addr×Obj)}{s:Shared}{σ:St}{H:Hp},Inv X pins σ H s->∀(c d:Addr) (x y:α),Rep H c x->Rep H d y->∀(s':Shared),(∀b o,s.heap.get? b=some o->s'.heap.get? b=some o)->∀Q':Bool->Shared->Prop,Q' (lt x y) s'->wpAny (model X.prog X.w) X.A.in1.in1 (keyLt' κ (.ref c) (.ref d)) Q' (λ_ _=>False) s'):dX X (.builtin "sorted") (GU X.K Rep fn lt):=by
 intro pins s σ H xs us Q I r h;obtain⟨a,vs,rfl,hs,hz,hrep,q⟩:=h;obtain⟨u,rfl,ru⟩:=qZ r;cases ru;obtain⟨its,rv,⟨o,n,e,c,d1,d2⟩,hz'⟩:=I.list hs;have hl:=rv.length;have at':∀u∈its,∃c x,u=.ref c/\Rep H c x:=λu hu=>by
  obtain⟨i,hi,rfl⟩:=S4 hu;have hi2:i < vs.length:=by omega
  obtain⟨c,x,hv,hr⟩:=hrep _ (J4 hi2);obtain⟨u,hu,ru⟩:=rv.get (A0 hi2);rw[hv]at ru;rw[A0 hi]at hu;have:its[i]=u:=X1 hu;rw[this];exact ⟨c,x,BH ru,hr⟩
 have key:∀x∈its,∀y∈its,decide ((its.map (JJ fn H)).countP (λa=>lt a (JJ fn H x)) < (its.map (JJ fn H)).countP (λa=>lt a (JJ fn H y)))=lt (JJ fn H x) (JJ fn H y):=λx hx y hy=>SG.rank W (y9 hx) (y9 hy);refine Hq (κ:=κ) (rk:=λv=>(its.map (JJ fn H)).countP (λa=>lt a (JJ fn H v))) (vs:=its) ⟨o,e,c,n,by first|exact d2|exact d1⟩ (by omega) (λh2 s' k E' Q' q'=>?_) (λs' k x y hx hy Q' q'=>?_) (λout o1 o2=>?_)
 ·exact hkind I its h2 at' s' k E' Q' q'
 ·rw[key x hx y hy]at q';obtain⟨c,x',rfl,hx'⟩:=at' x hx;obtain⟨d,y',rfl,hy'⟩:=at' y hy;refine hcmp I c d x' y' hx' hy' s' k Q' ?_;have e1:JJ fn H (.ref c)=x':=hf H c x' hx';have e2:JJ fn H (.ref d)=y':=hf H d y' hy';rw[e1,e2]at q';exact q'
 ·obtain⟨ep,he⟩:=sortedAll_at s.heap its out.toArray;have hn:H (s.heap.objs.size+1)=none:=I.hok.fresh (bQ _);obtain⟨us',p',r'⟩:=Iq o1 rv;refine ⟨.ref (s.heap.objs.size+1),UQ H (s.heap.objs.size+1) (.lst us'),I.laid (t':=s.toks) (λb u e=>sortedAll_old e) (bQ _) ?_,rfl,q _ us' hn p' ?_⟩
  ·exact ⟨by rw[p'.length_eq];exact hz,out,ep,r',by rw[he]⟩
  ·rw[O3,U3];intro i j hi hj hij;have hl':=r'.length;have o3:=U3.mp o2 i j (by omega) (by omega) hij;have hxm:out[i]'(by omega)∈its:=o1.mem_iff.mp (J4 _);have hym:out[j]'(by omega)∈its:=o1.mem_iff.mp (J4 _);have k2:=key _ hym _ hxm;rw[decide_eq_false (Nat.not_lt.mpr o3)]at k2;have ev:∀(m:Nat) (hm:m < us'.length),fn H us'[m]=JJ fn H (out[m]'(by omega)):=λm hm=>by
    obtain⟨c,x,hv,hr⟩:=hrep _ (p'.mem_iff.mp (J4 hm));obtain⟨u,hu,ru⟩:=r'.get (A0 hm);rw[A0 (by omega)]at hu;have hu:out[m]'(by omega)=u:=X1 hu;rw[hv]at ru ⊢;rw[hu,BH ru];rfl
   rw[ev i hi,ev j hj];exact k2.symm
end
noncomputable def iI(H:Hp):V->List Int
 | .ref c=>match H c with
  | some (.tup xs)=>xs.map oP
  | _=>[]
 | _=>[]
end L2
namespace L3
open L2
theorem DaAll.mem{F:Hp}:∀{us:List V}{ds:List D},DaAll K F us ds->∀v∈us,∃d∈ds,Da K F v d
 | _,_,.nil,v,h=>by simp at h
 | _,_,.cons a t,v,h=>by
  rcases W0.mp h with rfl|h
  ·exact ⟨_,v0,a⟩
  ·obtain⟨d,h1,h2⟩:=DaAll.mem t v h;exact ⟨d,q0 _ h1,h2⟩
theorem DaAll.map_of{F:Hp}{f:V->D}:∀{us:List V},(∀v∈us,Da K F v (f v))->DaAll K F us (us.map f)
 | [],_=>.nil
 | v :: us,h=>.cons (h v v0) (DaAll.map_of λx hx=>h x (q0 _ hx))
theorem DaAll.map_eq{F:Hp}{g:α->D}{f:V->α}(hg:∀v a,Da K F v (g a)->f v=a):∀{us:List V}{as:List α},DaAll K F us (as.map g)->us.map f=as
 | [],[],_=>rfl
 | _ :: _,[],h=>by cases h
 | [],_ :: _,h=>by cases h
 | v :: us,a :: as,h=>by
  cases h with
  | cons h t=>rw[T1,hg v a h,DaAll.map_eq hg t]
theorem ix{F:Hp}{v:V}{r:List Int}(h:Da K F v (.tuple (r.map i0))):∃c,v=.ref c/\F c=some (.tup (r.map V.int)):=by
 cases h with
 | tup h t=>have:=t.ints_of;subst this;exact ⟨_,rfl,h⟩
end L3
namespace L2
def eB:V->Hp->VK->Prop:=λx H Q=>∃i:Int,x=.int i/\Q (.int (A5 i:Nat)) H
theorem qy{o:Expr}{to:TE}{apos cpos:Pos}(ho:PE X o to)(hbase:attributeBase o "bit_length" X.env (eval o X.env)=eval o X.env:=by rfl)(hline:(apos.endLine==cpos.line)=true:=by rfl) :
  PE X (.Call (.Attribute o "bit_length" apos) [] [] cpos) (LO eB to):=by
 intro pins s σ H Q I h;refine wpAny_Call_method0_late hbase hline (hX (ho pins s σ H _ I h) λv s1 ⟨x,H1,I1,r1,q1⟩=>?_);obtain⟨i,rfl,q⟩:=q1;obtain⟨t,rfl⟩:=r1;exact ⟨"int","int.bit_length",PySem.F.plainAttrs_int,PySem.F.slot_int_bit_length,PySem.F.type_int_bit_length,typeIs_int _ _ _,λb eb=>(by cases eb),Calls.callWith_builtin rfl (PySem.evalArgs_none (call_int_bit_length ⟨.int (A5 i:Nat),H1,I1.tok _,⟨_,rfl⟩,q⟩))⟩
end L2
namespace L3
open L2
noncomputable def fB:D->(Sl->Prop)->Prop
 | .int i,Q=>Q (.fz (.int (A5 i:Nat)))
 | _,_=>False
theorem sy:SQ K (XO eB) (o1 fB):=bG λG F σ H ρ x d Q Qd R h1 w k=>by
 cases d<;>first|exact w.elim|skip
 case int i=>cases h1.int;exact ⟨_,rfl,i,rfl,k _ H F (.fz _) (Sub.refl _) R (Da.int _) w⟩
theorem jI{o:Expr}{a:AD}{apos cpos:Pos}(ho:WE X o (sQ K a))(hbase:attributeBase o "bit_length" X.env (eval o X.env)=eval o X.env:=by rfl)(hline:(apos.endLine==cpos.line)=true:=by rfl) :
  WE X (.Call (.Attribute o "bit_length" apos) [] [] cpos) (lift K (dY [a] (o1 fB))):=⟨nR sy (qy ho.h hbase hline)⟩
end L3
namespace L2
theorem jx(hh:A.handled=none){k:Kd}{it l:Addr}(ne:l≠it){xs:Array Value}:Draws P w A it [it,l] xs.size (λi x=>xs[i]?=some x) (λi h=>ItAt k h it l i/\SqAt k h l xs) where
 live:=λi h st=>by obtain⟨o,e,_⟩:=st.1.obj;exact ⟨o,e⟩
 frame:=λi h h' st kp=>⟨st.1.at λo e=>kp it (by simp) o e,st.2.at λo e=>kp l (by simp) o e⟩
 item:=λi s Q E hi st hQ=>by refine qX st.1 st.2 (O5 hi) λh' t' s'=>?_;exact hQ _ h' s.toks (O5 hi) ⟨t',st.2.at λo e=>(s'.2 l ne).trans e⟩ s'
 done:=λs Q E st hE=>WX hh st.1 st.2 (by simp) hE
noncomputable def BP(K:n0)(k:Kd)(l:Addr):It :=
 ⟨λi H=>∃ys x,Sq k K H l ys/\ys[i]?=some x,
  λi H x H'=>∃T y,H T=none/\x=.ref T/\H'=UQ H T (.tup [.int (i:Nat),y])/\∀ys,Sq k K H l ys->ys[i]?=some y,
  λi H=>∃ys,Sq k K H l ys/\ys.length<=i⟩
theorem Kq{K:n0}{es:List Expr}{pos:Pos}(k:Kd)(e it l:Addr)(ne:e≠it)(nl:l≠it)(nel:e≠l):Turn P w K (.Tuple es kk pos) (BP K k l) [e,it] e (λi h=>(∃old,IsEnum h e it (i:Nat) old)/\ItAt k h it l i) where
 mem:=by simp
 obj:=λi h st b hb=>by
  obtain⟨⟨old,he⟩,t⟩:=st;have hb:b=e\/b=it:=by simpa using hb
  rcases hb with rfl|rfl
  ·exact ⟨_,he,λv e=>by cases e⟩
  ·exact t.obj
 keep:=λi h h' st kp=>by obtain⟨⟨old,he⟩,t⟩:=st;exact ⟨⟨old,kp _ (by simp) _ he⟩,t.at λo e=>kp _ (by simp) _ e⟩
 item:=by
  intro X hP hw hK hc i pins s σ H E I hf st hg;subst hP hw hK;obtain⟨⟨old,he⟩,t⟩:=st;obtain⟨ys,y,q1,e1⟩:=hg;obtain⟨its,rv,p1,z1⟩:=I.sq q1;obtain⟨u,hu,ru⟩:=rv.get e1;have hh:X.A.in1.handled=none:=I.ok.hd hc;have hlt:i < its.toArray.size:=by have:=(V0.mp hu).1;simpa using this
  refine wpAny_pyNext_enum_itemD (jx hh nl (k:=k) (xs:=its.toArray)) he ⟨t,p1⟩ hlt ne (by simp[ne,nel]) λx h' tk hx b1 b2 b3 b4 b5=>?_;have hx:x=u:=by rw[show its.toArray[i]?=some u by simpa using hu]at hx;exact (X1 hx).symm
  subst hx;have hTn:s.heap.objs.size≠e:=V2 (G0 he);refine ⟨_,rfl,wpAny_letOwnedTupleGo_enum (s:={ s with heap:=h',toks:=tk+1 }) b1 λh2 he2 hs2=>?_⟩;have kp:∀b o,b∉[e,it]->s.heap.get? b=some o->h2.get? b=some o:=λb o hb eb=>by
   have hb:b≠e/\b≠it:=by simpa using hb
   exact hs2.extBut _ _ hb.1 (b5 b o hb.1 hb.2 eb)
  have hT2:HQ h2 s.heap.objs.size (.int (i:Nat) tk) x:=hs2.extBut _ _ hTn b3;have hfr:H s.heap.objs.size=none:=I.hok.fresh (u0 _);have I2:Inv X pins σ (UQ H s.heap.objs.size (.tup [.int (i:Nat),y])) { s with heap:=h2 }:=by
   have nfp:∀b u,H b=some u->b∉[e,it]:=λb u eb hb=>by have:=(hf b hb).1;rw[eb]at this;cases this
   refine I.step (g':=s.gens) (d':=s.drawn) (ch:=[e,it]) (λb hb=>?_) (λb o _ _ hc' eb _=>kp b o hc' eb) (λb o _ _ hc' eb _=>⟨o.slots,kp b o hc' eb⟩) (λb o _ eb n=>?_)
    (λb o hc' eb=>⟨o,kp b o hc' eb⟩) (λb xs eb=>?_) (λb o xs eb=>?_) (λb ps eb=>⟨#[],?_⟩) (λm hm=>?_) (λb o eb=>?_) I.bare
   ·obtain⟨f0,f1,f2,f3,f4,f5⟩:=hf b hb;exact ⟨f3,f1,f4,f5⟩
   ·rw[nQ (U0 (G0 eb))];exact n
   ·rw[nQ (oQ eb hfr)];exact eb
   ·rw[nQ (oQ eb hfr)];exact eb
   ·rw[nQ (oQ eb hfr),eb];simp
   ·obtain⟨o,es',ep,ho,r⟩:=hm;exact ⟨o,es',ep,kp _ o (λhb=>(hf _ hb).2.1 rfl) ho,r⟩
   ·by_cases hb:b=s.heap.objs.size
    ·subst hb;rw[AQ]at eb;cases eb;exact ⟨by show 2<=sizeLine;decide,[.int (i:Nat) tk,x],.cons ⟨tk,rfl⟩ (.cons ru .nil),_,hT2,rfl,_,rfl,rfl⟩
    ·rw[nQ hb]at eb;refine (I.hok b o eb).stay (λc v hc' q=>kp c v ?_ q) (λc q=>by rw[nQ (oQ q hfr)];exact q) λc xs q=>by rw[nQ (oQ q hfr)];exact q
     rcases hc' with rfl|hc'
     ·exact nfp _ _ eb
     ·exact nfp _ _ hc'
  refine ⟨.ref s.heap.objs.size,_,I2.tok (tk+1),rfl,⟨_,y,hfr,rfl,rfl,λys' hy=>by rw[I.sq_inj hy q1];exact e1⟩,⟨⟨x,by simpa using he2⟩,b2.1.at λo eo=>hs2.extBut _ _ (E3 ne) eo⟩,λb hb=>?_⟩;rw[nQ ?_]
  ·exact (hf b hb).1
  ·intro z;subst z;have hb:s.heap.objs.size=e\/s.heap.objs.size=it:=by simpa using hb
   rcases hb with z|z
   ·exact hTn z
   ·obtain⟨o,eo,_⟩:=t.obj;exact V2 (G0 eo) z
 done:=by
  intro X hP hw hK hc i pins s σ H E I hf st hg;subst hP hw hK;obtain⟨⟨old,he⟩,t⟩:=st;obtain⟨ys,q1,hend⟩:=hg;obtain⟨its,rv,p1,z1⟩:=I.sq q1;have hlen:=rv.length;have hh:X.A.in1.handled=none:=I.ok.hd hc;have hT:s.TypeIs (.ref e) "enumerate":=⟨_,he,rfl⟩;unfold pyNext;refine wpAny_bind (wpAny_attempt (wpAny_callSpecial?_slot (name:=Str.ofString "__next__") hT F.slot_enumerate_next (wpAny_call_entry F.slot_enumerate_next hT F.entry_enumerate_next ?_ (F.args_enumerate_next_1 _))));show wpAny _ _ (field (.ref e) 2 >>= _) _ _ _;refine wpAny_bind (wpAny_field he rfl (x:=.ref it) rfl ?_);refine wpAny_bind (WX hh t p1 (by simp;omega) λh' x kp hx'=>?_);obtain⟨o,ho,hcl⟩:=hx';refine wpAny_bind (wpAny_isInstance (T:="StopIteration") (b:=true) ⟨o,ho,hcl⟩ isSubtype_stop ?_);refine wpAny_pure ⟨rfl,?_⟩;have nfp:∀b u,H b=some u->b∉[e,it]:=λb u eb hb=>by have:=(hf b hb).1;rw[eb]at this;cases this
  have kp':∀b o,b∉[e,it]->s.heap.get? b=some o->h'.get? b=some o:=λb o hb eb=>by
   have hb:b≠e/\b≠it:=by simpa using hb
   exact kp b o hb.2 eb
  refine I.step (g':=s.gens) (d':=s.drawn) (ch:=[e,it]) (λb hb=>?_) (λb o _ _ hc' eb _=>kp' b o hc' eb) (λb o _ _ hc' eb _=>⟨o.slots,kp' b o hc' eb⟩) (λb o _ eb n=>n)
   (λb o hc' eb=>⟨o,kp' b o hc' eb⟩) (λb xs eb=>eb) (λb o xs eb=>eb) (λb ps eb=>⟨#[],by rw[eb];simp⟩) (λm hm=>?_) (λb o eb=>?_) I.bare
  ·obtain⟨f0,f1,f2,f3,f4,f5⟩:=hf b hb;exact ⟨f3,f1,f4,f5⟩
  ·obtain⟨o,es',ep,ho,r⟩:=hm;exact ⟨o,es',ep,kp' _ o (λhb=>(hf _ hb).2.1 rfl) ho,r⟩
  ·refine (I.hok b o eb).stay (λc v hc' q=>kp' c v ?_ q) (λ_ q=>q) λ_ _ q=>q;rcases hc' with rfl|hc'
   ·exact nfp _ _ eb
   ·exact nfp _ _ hc'
 self:=λ_ _ _ _ _ st h=>by obtain⟨⟨old,he⟩,_⟩:=st;exact wpAny_pyIter_enum he h
noncomputable abbrev fN(h:Heap)(k:Kd)(l:Addr):Heap:=(h.push (OX k l)).push { cls:=.type "enumerate",data:=.fields #[.none,.bool false,.ref h.objs.size,rawInt 0,.none,.none] }
theorem kx(k:Kd)(l:Addr)(xs:Array Value):Meets (Builtin.«enumerate.__new__» ⟨[.type "enumerate",.ref l],[]⟩) (λ_ R s=>SqAt k s.heap l xs/\R (.ok (.ret (.ref (s.heap.push (OX k l)).objs.size))) { s with heap:=fN s.heap k l }):=
 .of_wp λprog w A R s h=>by
  obtain⟨hp,g,d,tk,os⟩:=s;obtain⟨hl,h⟩:=h;have hsub:=sub_enumerate;have hL:SqAt k (Shared.heap ⟨hp,g,d,tk,os⟩) l xs:=hl;obtain⟨o,ho⟩:∃o,hp.get? l=some o:=by cases k<;>(obtain⟨o,eo,_⟩:=hl;exact ⟨o,eo⟩)
  wp_walk using AutoSeq1.wpAny_loadPart' ho
  refine wpAny_stack_any λst=>wpAny_pure ?_;split
  ·rename_i c _ _ _ _ _;cases (c==L9 "enumerate")
   ·wp_walk using AutoSeq1.wpAny_loadPart' ho,GK hL
    exact ⟨_,rfl,h⟩
   ·wp_walk using AutoSeq1.wpAny_loadPart' ho,GK hL
    exact ⟨_,rfl,h⟩
  ·wp_walk using AutoSeq1.wpAny_loadPart' ho,GK hL
   exact ⟨_,rfl,h⟩
def gB(K:n0)(ta:TA):TI:=λσ H R=>ta σ H λvs H1=>∃(k:Kd) (l:Addr) (ys:List V),vs=[.ref l]/\Sq k K H1 l ys/\R (BP K k l) H1
theorem uy{es:List Expr}{kk:Nat}{tpos:Pos}{a:Expr}{ta:TA}{p pos:Pos}(hg:Gl X "enumerate")(hm:X.mg "enumerate"=none)(ha:PA X [a] ta)(hs:starEach [a] X.env=(false,eval a X.env) :: starEach [] X.env:=by rfl)(hpl:(backTo pos (starEach [] X.env)).any (·.1)=false:=by rfl) :
  PI X (.Tuple es kk tpos) (.Call (.Name "enumerate" p) [a] [] pos) (gB X.K ta):=by
 intro pins s σ H R I h;refine Call_ (WZ I hg hm boot_enumerate (Y3 (hX (ha pos pins s σ H _ I h) λus s1 ⟨vs,H1,I1,r1,q1⟩=>?_) hs hpl));obtain⟨k,l,ys,e,q1,q⟩:=q1;subst e;obtain rfl:us=[.ref l]:=by cases r1 with|cons r rr=>cases r;cases rr;rfl
 obtain⟨its,rv,p1,z1⟩:=I1.sq q1;have lt:l < s1.heap.objs.size:=by
  cases k with
  | l=>obtain⟨o,e,_⟩:=p1;exact G0 e
  | t=>obtain⟨o,e,_⟩:=p1;exact G0 e
 refine callType_new F.called_enumerate (by decide) (F.typeCall_enumerate_1 _) (F.newCall_enumerate_1 _) (λobj=>F.args_object_init_2 obj _) F.entry_enumerate_new (kx k l its.toArray) ⟨p1,?_⟩;have zI:(s1.heap.push (OX k l)).objs.size=s1.heap.objs.size+1:=by simp[Z2]
 have gE:(fN s1.heap k l).get? (s1.heap.push (OX k l)).objs.size=some _:=L0 _ rfl;have g1:(fN s1.heap k l).get? s1.heap.objs.size=some (OX k l):=g0 _ (L0 _ (by cases k<;>rfl));rw[zI]at gE;show _/\_;rw[zI];have kp:∀b o,s1.heap.get? b=some o->(fN s1.heap k l).get? b=some o:=λb o e=>g0 _ (g0 _ e);refine ⟨⟨_,gE,rfl⟩,wpAny_pyIter_enum (s:={ s1 with heap:=fN s1.heap k l }) gE ?_⟩;have n1:(s1.heap.objs.size+1:Nat)≠s1.heap.objs.size:=by omega
 have n2:l≠s1.heap.objs.size:=U0 lt;have n3:(s1.heap.objs.size+1:Nat)≠l:=V2 (u7 lt);refine ⟨_,[s1.heap.objs.size+1,s1.heap.objs.size],_,_,H1,rfl,I1.kept (t':=s1.toks) kp,Kq k _ _ l n1 n2 n3,⟨⟨_,gE⟩,ItAt.new k g1⟩,λb hb=>?_,q⟩;have hb:s1.heap.objs.size<=b:=by
  have hb:b=s1.heap.objs.size+1\/b=s1.heap.objs.size:=by simpa using hb
  rcases hb with rfl|rfl
  ·exact Q2 _ _
  ·exact u0 _
 exact I1.fpOk hb (I1.hok.fresh hb)
end L2
namespace L3
open L2
noncomputable def bD(ds:List D):List D:=ds.zipIdx.map λp=>B1 [.int (p.2:Nat),p.1]
noncomputable def lx(a:AD):tG:=λρ Q=>yX [a] ρ λxs ρ1=>match iX ρ1 xs with
 | false=>YQ ρ1 xs λds=>match ds with
  | [x]=>match xj x with
   | some us=>Q (bD us) ρ1
   | _=>False
  | _=>False
 | true=>False
theorem YG{F:Hp}{a:Addr}{k1:Kd}{xs:List V}{ds:List D}(e1:F a=some (match k1 with|Kd.l=>HO.lst xs|Kd.t=>HO.tup xs))(h1:DaAll K F xs ds):Walks K (BP K k1 a) F (bD ds):=λi H F1 s1 s2=>by
 have q1:Sq k1 K H a xs:=JV (s2 _ _ (s1 _ _ e1));refine ⟨λd ed=>?_,λhl=>⟨xs,q1,?_⟩⟩
 ·simp only[bD,X0,E5]at ed;obtain⟨⟨x,j⟩,ez,rfl⟩:=ed;rw[List.getElem?_zipIdx,E5]at ez;obtain⟨x',ex,ep⟩:=ez;cases ep;obtain⟨v,g1,g2⟩:=h1.get ex;refine ⟨⟨xs,v,q1,g1⟩,λz H' ⟨T,y,hT,ex,eH,f1⟩=>?_⟩;subst ex eH;have f1:=f1 xs q1;rw[g1]at f1;cases f1;have fT:F1 T=none:=by
   cases z:F1 T with
   | none=>rfl
   | some o=>rw[s2 _ _ z]at hT;cases hT
  refine ⟨UQ F1 T (.tup [.int (i:Nat),v]),Sub.new fT,λc o ec=>?_,λc o ec=>?_,Sub.new hT,.tup AQ (.cons (by rw[e7];exact .int _) (.cons (g2.mono (s1.trans (Sub.new fT))) .nil))⟩
  ·by_cases z:c=T
   ·subst z;exact .inr hT
   ·rw[nQ z]at ec;exact .inl ec
  ·by_cases z:c=T
   ·subst z;rw[AQ]at ec ⊢;exact ec
   ·rw[nQ z]at ec ⊢;exact s2 _ _ ec
 ·simp only[bD,j0,List.length_zipIdx]at hl;rw[h1.length];omega
theorem kI{a:AD}{σ:L2.St}{R:It->Hp->Prop}(h:PX K (lx a) σ H R):gB K (JQ ([a].map (sQ K))) σ H R:=by
 obtain⟨G,F,ρ,Qd,Rl,w,k⟩:=h;refine oX Rl w λvs H' F' xs ρ' sb R' o w1=>?_;split at w1
 ·rename_i e;obtain⟨ds,da,w1⟩:=mX R' e o w1;split at w1
  ·rename_i x;split at w1
   ·rename_i us p1;cases da with
    | cons d1 t=>cases t;obtain⟨k1,a1,us',rfl,e1,g1⟩:=wU d1 p1;exact ⟨k1,a1,us',rfl,JV (R'.sub _ _ e1),k _ H' F' _ ρ' sb R' (YG e1 g1) w1⟩
   ·exact w1.elim
  ·exact w1.elim
 ·exact w1.elim
section
variable {e1:Expr}{a:AD}{p pos tpos:Pos}
theorem lI{ts:List Expr}(hK:X.K=K)(hm:X.mg "enumerate"=none)(ha:WA X [e1] (JQ ([a].map (sQ K))))(hg:Gl X "enumerate":=by rfl)(he:OQ e1=true:=by rfl):WI X (.Tuple ts kk tpos) (.Call (.Name "enumerate" p) [e1] [] pos) (PX K (lx a)):=by subst hK;exact ⟨iO (uy hg hm ha.h (uQ he) (by rfl)) kI⟩
end
end L3
namespace L2
def iB(K:n0):V->V->Hp->VK->Prop:=λx y H Q=>y=.int (-1)/\∃a xs,x=.ref a/\SqL K H a xs/\∀p,H p=none->Q (.ref p) (UQ H p (.lst xs.reverse))
theorem vy{e k:Expr}{te tk:TE}{pos p2:Pos}(he:PE X e te)(hk:PE X k tk):PE X (.Subscript e (.Slice none none (some k) p2) pos) (Cu (iB X.K) te tk):=by intro pins s σ H Q I h;refine Subscript_ (hX (he pins s σ H _ I h) λv s1 ⟨x,H1,I1,r1,q1⟩=>?_);refine wpAny_Slice ?_;rw[evalPart_none];refine wpAny_pure (wpAny_pure ?_);rw[evalPart_some];refine hX (hk pins s1 σ H1 _ I1 q1) λvk s2 ⟨y,H2,I2,r2,q2⟩=>?_;obtain⟨rfl,a,xs,rfl,hx,q⟩:=q2;obtain⟨t,rfl⟩:=r2;cases r1;have I3:Inv X pins σ H2 { s2 with heap:=s2.heap.push { cls:=.type "slice",data:=.fields #[.none,.none,.int (-1) t] } }:=I2.kept (t':=s2.toks) λb ob q=>g0 _ q;obtain⟨its,r,ht,hz⟩:=I3.list hx;have hlen:=r.length;show wpAny (model X.prog X.w) X.A (subscriptTail e (.Slice none none (some k) p2) (.ref a) (.ref s2.heap.objs.size)) (EP X pins σ Q) X.xe { s2 with heap:=s2.heap.push { cls:=.type "slice",data:=.fields #[.none,.none,.int (-1) t] } };refine tail_any (T:="list") (ops:=[.ref a,.ref s2.heap.objs.size]) ht.isList.typeIs slot_list_getitem.lookup ?_ (by with_unfolding_all rfl);refine wpAny_getItem_list_slice ht.isList (O9 ..) .none .none (.int (-1) t) (by decide) ?_ (by rw[N0]<;>omega);rw[PySem.W.krv_pick];refine ⟨.ref _,_,I3.laid (t':=s2.toks) (o:=.lst xs.reverse) (λb ob q=>g0 _ q) (u0 _) ?_,rfl,q _ (I3.hok.fresh (u0 _))⟩;exact ⟨by rw[A9];exact hz,its.reverse,0,r.reverse,L0 _ rfl⟩
end L2
namespace L3
open L2
noncomputable def jB:D->D->(Sl->Prop)->Prop
 | .list ds,.int j,Q=>j=-1/\Q (.ow (.list ds.reverse))
 | _,_,_=>False
theorem wy:SQ K (jK (iB K)) (o2 jB):=VU λG F σ H ρ x y d e Q Qd R h1 h2 w k=>by
 cases d<;>first|exact w.elim|skip
 cases e<;>first|exact w.elim|skip
 rename_i ds j;have w:j=-1/\Qd (.ow (.list ds.reverse)):=w;cases h2.int;obtain⟨a,us,rfl,e1,d1⟩:=h1.list R.sub;refine ⟨by rw[w.1],a,us,rfl,SqL.of e1,λp hp=>?_⟩;obtain⟨R',r'⟩:=R.newOw (o:=.lst us.reverse) (d:=.list ds.reverse) hp d1.reverse;exact k _ _ F _ (Sub.refl _) R' r' w.2
section
variable {e e1 e2 e3 e4:Expr}{a b:AD}{td:TD}{pos p2 p1 pt:Pos}
theorem mI(hK:X.K=K)(ha:WE X e1 (sQ K a))(hb:WE X e2 (sQ K b)):WE X (.Subscript e1 (.Slice none none (some e2) p2) pos) (lift K (dY [a,b] (o2 jB))):=by subst hK;exact ⟨uL wy (vy ha.h hb.h)⟩
end
noncomputable def gN(neg:Bool):D->D->(Sl->Prop)->Prop
 | .int i,y,Q=>∃ns:List Int,xj y=some (ns.map i0)/\Q (.fz (.bool (if neg then !decide (i∈ns) else decide (i∈ns))))
 | _,_,_=>False
theorem FW(i:Int):∀ns:List Int,SL (.int i) (ns.map V.int)=decide (i∈ns)
 | []=>by simp[SL]
 | n :: ns=>by
  have:=FW i ns;simp only[SL,T1,F9]at this ⊢;rw[this,m6];simp[Qw];constructor
  ·rintro (rfl|h)
   ·exact .inl rfl
   ·exact .inr h
  ·rintro (rfl|h)
   ·exact .inl rfl
   ·exact .inr h
theorem SV(ns:List Int):(ns.map V.int).all FK=true:=by rw[Y2];intro x hx;obtain⟨n,_,rfl⟩:=J0.mp hx;rfl
theorem nI(neg:Bool):SQ K (jK (NO K neg)) (o2 (gN neg)):=VU λG F σ H ρ x y d e Q Qd R h1 h2 w k=>by
 cases d<;>first|exact w.elim|skip
 rename_i i;obtain⟨ns,p1,w⟩:=w;cases h1.int;have fin:∀b,b=decide (i∈ns)->Q (.bl (if neg then !b else b)) H:=λb hb=>by subst hb;exact k _ H F (.fz _) (Sub.refl _) R (Da.bl _) w
 cases e<;>first|cases p1|skip
 ·obtain⟨a,us,rfl,e1,d1⟩:=h2.list R.sub;have:=d1.intsV;subst this;exact ⟨a,_,rfl,.inl (SqL.of e1),rfl,SV ns,fin _ (FW i ns)⟩
 ·obtain⟨a,us,rfl,_,e1,d1⟩:=h2.tuple R.sub;have:=d1.intsV;subst this;exact ⟨a,_,rfl,.inr (SqT.of e1),rfl,SV ns,fin _ (FW i ns)⟩
section
variable {e1 e2:Expr}{a b:AD}{pos:Pos}
theorem oI(hK:X.K=K):OpR X (compareOp .In) (NO K false):=by subst hK;exact bq
theorem cD(hK:X.K=K)(ha:WE X e1 (sQ K a))(hb:WE X e2 (sQ K b))(hm:behindInMarks .In e2=false:=by rfl):WT X (.Compare e1 [.In] [e2] pos) (EQ K (mq (dY [a,b] (o2 (gN false))))):=⟨pR (nI false) (yF (oI hK) ha.h hb.h hm)⟩
end
end L3
namespace L2
theorem GW{b:Nat}(k:Nat)(h:b < n):b≠n+k:=by omega
theorem CH:typeLookup (.type "zip") "keys"=pure none:=by rw[typeLookup_type,builtinLookup_eq_fast];kernel_rfl
theorem HW:typeLookup (.type "zip") "__getattr__"=pure none:=by rw[typeLookup_type,builtinLookup_eq_fast];kernel_rfl
theorem gJ:entryFor table "zip.__getattribute__"=some Builtin.«object.__getattribute__»:=entryFor_alias (id':="object.__getattribute__") (by kernel_rfl) (by decide +kernel) (by decide +kernel) (by kernel_rfl)
theorem oV(a:Addr)(fs:Array Value)(sl:Array (Option Value))(u:Tok):Meets (Builtin.«object.__getattribute__» ⟨[.ref a,.str "keys" u],[]⟩) (λA R s=>s.heap.get? a=some { cls:=.type "zip",dict:=none,data:=.fields fs,slots:=sl }/\raisesAttr (.ref a) "keys" A R s):=.of_wp λprog w A R s hs=>by
 obtain⟨hp,g,d,tk,os⟩:=s;obtain⟨hx,hs⟩:=hs;have hT:(⟨hp,g,d,tk,os⟩:Shared).TypeIs (.ref a) "zip":=⟨_,hx,rfl⟩;have hmiss:=CH;have hname:(["__module__","__name__","__qualname__","__doc__","__annotations__"]:List Str).contains "keys"=false:=by decide +kernel
 unfold Builtin.«object.__getattribute__»;repeat (any_goals (first|assumption|wp_step))
 all_goals (try simp only[hname,S2,if_false])
 repeat (any_goals (first|assumption|wp_step))
 exact wpAny_raiseAttrError hs.1 hs.2 (attrMsg_fits (by decide +kernel) (by size_fits))
theorem pV{a:Addr}{fs:Array Value}{sl:Array (Option Value)}{Q:Option Value->Shared->Prop}(hx:s.heap.get? a=some { cls:=.type "zip",dict:=none,data:=.fields fs,slots:=sl })(hA:A.handled=none)(h:∀h' tk,(∀b o,s.heap.get? b=some o->h'.get? b=some o)->Q none { s with heap:=h',toks:=tk }):wpAny (model prog w) A (getAttr? (.ref a) "keys") Q E s:=by
 obtain⟨hp,g,d,tk,os⟩:=s;have hT:∀tk',(⟨hp,g,d,tk',os⟩:Shared).TypeIs (.ref a) "zip":=λ_=>⟨_,hx,rfl⟩;have f1:=sub_AttributeError;have f3:=F.slot_zip_getattribute.lookup;have f4:=F.slot_zip_getattribute.bind (.ref a);have f5:=HW;unfold getAttr? getAttrBy? getAttrBy;repeat (any_goals (first|assumption|exact hT _|((with_reducible show wpAny _ _ (call (J9 "zip.__getattribute__") _ _) _ _ _);refine call_meets F.slot_zip_getattribute (hT _) gJ (F.args_zip_getattribute_2 _ _) (oV a fs sl _) ⟨hx,hA,λh' tk' e hx'=>?_⟩)|wp_step))
 obtain⟨t',u',he⟩:=hx'.there;show wpAny _ _ (getattributeRaised _ _ _ _ _ _ _) _ _ _;unfold getattributeRaised;repeat (any_goals (first|assumption|wp_step))
 exact h _ _ hx'.keeps
section
variable {R:Result->Shared->Prop}
theorem Lq{TI TO d:Addr}{k1 k2:Kd}(hh:A.handled=none)(D:ZAp2 z TI TO i1 i2 l1 l2)(n1:z≠d)(n2:TI≠d)(n3:TO≠d)(n4:i1≠d)(n5:i2≠d)(n6:l1≠d)(n7:l2≠d)(hn1:n<=xs1.size) (hn2:n<=xs2.size) (hend:xs1[n]?=none\/xs2[n]?=none) (J:Nat->Heap->Prop)(hfr:∀i h h',J i h->(∀b o,b≠z->b≠TO->b≠i1->b≠i2->h.get? b=some o->h'.get? b=some o)->J i h')(step:∀(i:Nat) (x y:Value) (s:Shared) (Q:Unit->Shared->Prop) (E:Value->Shared->Prop),i < n->xs1[i]?=some x->xs2[i]?=some y->J i s.heap ->(∀h' tk,J (i+1) h'->X3 d s.heap h'->Q () { s with heap:=h',toks:=tk })->wpAny (model prog w) A.in1 (dictSet d x y) Q E s):∀(k i:Nat) (s:Shared) (tA:Tok),n - i=k->i<=n->ZSt s.heap z TI TO d i1 i2 l1 l2 k1 k2 i->SqAt k1 s.heap l1 xs1->SqAt k2 s.heap l2 xs2->J i s.heap->d < s.heap.objs.size -> (∀h' tk,J n h'->R (.ok (.ret .none)) { s with heap:=h',toks:=tk }) -> codeAny (model prog w) A (.builtin "dict.update.loop" ⟨[.ref d,.ref z,.int i tA,.none],[]⟩) R s:=by
 intro k;induction k with
 | zero =>
  intro i s tA hk hi hst q1 q2 hJ hd hR;have hin:i=n:=by omega
  subst hin;refine codeAny_builtin SX ?_;rw[Around.under_plainId TQ _];show wpAny _ A.in1 (pyNext (.ref z) >>= _) _ _ s;refine wpAny_bind (mV (A:=A.in1) hh D hst q1 q2 hend λh' he=>?_);show wpAny _ _ (E8 d [] >>= _) _ _ _;exact wpAny_bind (wpAny_pure (wpAny_pure (hR h' s.toks (hfr _ _ _ hJ he))))
 | succ k ih =>
  intro i s tA hk hi hst q1 q2 hJ hd hR;have hlt:i < n:=by omega
  obtain⟨x,hx⟩:∃p,xs1[i]?=some p:=⟨xs1[i],O5 (by omega)⟩;obtain⟨y,hy⟩:∃p,xs2[i]?=some p:=⟨xs2[i],O5 (by omega)⟩;refine codeAny_builtin SX ?_;rw[Around.under_plainId TQ _];show wpAny _ A.in1 (pyNext (.ref z) >>= _) _ _ s;refine wpAny_bind (LG (S:=d) D hd hst q1 q2 hx hy λh' hst' ht hz hkp=>?_);have hJ':=hfr _ _ _ hJ hkp;show wpAny _ A.in1 (holding [.ref s.heap.objs.size] _ >>= _) _ _ _;refine wpAny_bind (wpAny_holding ?_);refine wpAny_bind (wpAny_tryCatch ?_);unfold V8;refine wpAny_bind (wpAny_typeOf (T:="tuple") ⟨_,ht,rfl⟩ ?_);rw[if_pos (by decide)];refine wpAny_bind (wpAny_seqItems ht rfl (wpAny_pure ?_));show wpAny _ A.in1 (holding [x,y] (dictSet d x y)) _ _ _;refine wpAny_holding (wpAny_mono (step i x y { s with heap:=h' } (λ_ s''=>∃h'' tk',s''={ s with heap:=h'',toks:=tk' }/\J (i+1) h''/\X3 d h' h'') (λ_ _=>False) hlt hx hy hJ' λh'' tk' j sb=>⟨h'',tk',rfl,j,sb⟩) (λ_ s'' z=>?_) λ_ _ z=>z.elim);obtain⟨h'',tk',rfl,j,sb⟩:=z;have kp:∀b o,b≠d->h'.get? b=some o->h''.get? b=some o:=λb o nb e=>(sb.2 b nb).trans e;refine wpAny_pure ⟨plainId_quiet TQ _,?_⟩;refine ih (i+1) { s with heap:=h'',toks:=tk' } 0 (by omega) hlt (hst'.keep kp n1 n2 n3 n4 n5) (q1.at λo e=>kp _ _ n6 (hkp _ o D.l1z D.l1TO D.l1i1 D.l1i2 e)) (q2.at λo e=>kp _ _ n7 (hkp _ o D.l2z D.l2TO D.l2i1 D.l2i2 e)) j ?_ λh3 tk3 j3=>hR h3 tk3 j3;have:HQ h'' s.heap.objs.size x y:=kp _ _ (V2 hd) ht;exact V7 hd (G0 this)
end
theorem qV{TI TO:Addr}{k1 k2:Kd}(J:Nat->Heap->Prop)(hh:A.handled=none)(D:ZAp2 z TI TO i1 i2 l1 l2)(hn1:n<=xs1.size) (hn2:n<=xs2.size) (hend:xs1[n]?=none\/xs2[n]?=none) {a1 a2:Value}(hz:IsZip s.heap z TI TO .none) (hTI:HQ s.heap TI (.ref i1) (.ref i2)) (hTO:HQ s.heap TO a1 a2) (h1:ItAt k1 s.heap i1 l1 0) (h2:ItAt k2 s.heap i2 l2 0) (hl1:SqAt k1 s.heap l1 xs1) (hl2:SqAt k2 s.heap l2 xs2) (b1:l1 < s.heap.objs.size) (b2:l2 < s.heap.objs.size)(h0:∀h',(∀b ob,s.heap.get? b=some ob->h'.get? b=some ob)->h'.get? s.heap.objs.size=some { cls:=.type "dict",data:=.dict #[] }->J 0 h')(hfr:∀i h h',J i h->(∀b o,b≠z->b≠TO->b≠i1->b≠i2->h.get? b=some o->h'.get? b=some o)->J i h')(step:∀(i:Nat) (x y:Value) (s':Shared) (Q':Unit->Shared->Prop) (E':Value->Shared->Prop),i < n->xs1[i]?=some x->xs2[i]?=some y->J i s'.heap ->(∀h' tk,J (i+1) h'->X3 s.heap.objs.size s'.heap h'->Q' () { s' with heap:=h',toks:=tk })->wpAny (model prog w) A.in1.in1 (dictSet s.heap.objs.size x y) Q' E' s')(h:∀h' tk,J n h'->Q (.ref s.heap.objs.size) { s with heap:=h',toks:=tk }):wpAny (model prog w) A (call (.type "dict") [.ref z]) Q E s:=by
 refine callType_codes (Q₁:=λobj s₁=>obj=.ref s.heap.objs.size/\s₁={ s with heap:=s.heap.push { cls:=.type "dict",data:=.dict #[] } }) F.kt_called_dict (F.kt_typeCall_dict_1 _) F.entry_dict_init (kt_code_dict_new _ ⟨rfl,rfl⟩) ?_;rintro obj s₁ ⟨rfl,rfl⟩;have hnew:(s.heap.push { cls:=.type "dict",data:=.dict #[] }).get? s.heap.objs.size=some { cls:=.type "dict",data:=.dict #[] }:=L0 _ rfl;have hkp:∀b ob,s.heap.get? b=some ob->(s.heap.push { cls:=.type "dict",data:=.dict #[] }).get? b=some ob:=λb ob e=>g0 _ e;refine ⟨⟨_,hnew,rfl⟩,F.args_dict_init_2 _ _,?_⟩;unfold Builtin.«dict.__init__»;refine wpAny_bind ?_;unfold F8;refine wpAny_bind (wpAny_notOrdered_dict ⟨_,hnew,rfl⟩ ?_);show wpAny _ _ (pure (s.heap.objs.size,[Z3 z])) _ _ _;refine wpAny_pure ?_;show wpAny _ _ (e6 "dict.__init__" s.heap.objs.size (.ref z) [] .none) _ _ _;unfold e6;refine wpAny_bind (wpAny_typeOf (T:="zip") ⟨_,hkp _ _ hz,rfl⟩ ?_);rw[if_pos (by decide)];refine wpAny_bind (pV (hkp _ _ hz) hh λh1' tk1 kk1=>?_);simp only[P9,if_true];refine wpAny_bind (wpAny_rule ?_);refine wpAny_bind (wpAny_pyIter_zip (s:={ s with heap:=h1',toks:=tk1 }) (kk1 _ _ (hkp _ _ hz)) ?_);have kp:∀b ob,s.heap.get? b=some ob->h1'.get? b=some ob:=λb ob e=>kk1 b ob (hkp b ob e);obtain⟨o1,g1,_⟩:=h1.obj;obtain⟨o2,g2,_⟩:=h2.obj;have hlt:s.heap.objs.size < h1'.objs.size:=G0 (kk1 _ _ hnew);refine wpAny_pure ⟨plainId_quiet TQ _,Lq (A:=A.in1) hh D (U0 (G0 hz)) (U0 (G0 hTI)) (U0 (G0 hTO)) (U0 (G0 g1)) (U0 (G0 g2)) (U0 b1) (U0 b2) hn1 hn2 hend J hfr step n 0 _ 0 rfl (Q3 _)
   ⟨kp _ _ hTI,h1.at λo e=>kp _ _ e,h2.at λo e=>kp _ _ e,.inl ⟨kp _ _ hz,a1,a2,kp _ _ hTO⟩⟩ (hl1.at λo e=>kp _ _ e) (hl2.at λo e=>kp _ _ e) (h0 h1' kp (kk1 _ _ hnew)) hlt λh' tk j=>⟨rfl,h h' tk j⟩⟩
end L2
namespace L3
open L2
section
variable {e e1 e2:Expr}{a b:AD}{p pos p2:Pos}
end
end L3
namespace L2
end L2
namespace L3
open L2
theorem NQ{t u:VJ}{E:DE}(J:Ev->Prop)(h1:∀N:Ev->Prop,(∀ρ',J ρ'->N ρ')->t { nx:=N,rt:=E.rt,bk:=E.bk,ct:=E.ct } ρ)(h2:∀ρ',J ρ'->u E ρ'):av t u E ρ:=h1 _ h2
theorem gnC{i:Nat}{d:D}{Q:Ev->Prop}(h:iE i d ρ Q=Q (ρ.set i (some (.fz d))))(w:Q (ρ.set i (some (.fz d)))):iE i d ρ Q:=by rw[h];exact w
end L3
namespace HT
section
open PySem.SeqAt
open PySem.AutoSeq1 (wpAny_loadPart')
open PySem.MeetsSeq PySem.MeetsSeq2 PySem.MeetsSeq3
theorem whole_tup{t sl:Addr}{items:Array Value}{vl vu:Value}{lo hi:Option Int}(hT:IsTup s.heap t items)(hS:s.heap.IsSliceOf sl vl vu .none)(p1:IsPart vl lo)(p2:IsPart vu hi)(z1:sIx items.size 0 lo=0) (z2:sIx items.size items.size hi=items.size) (q:Q (.ref t) s):wpAny (model prog w) A (getItem (.ref t) (.ref sl)) Q E s:=by
 obtain⟨os,g1,g2,g3⟩:=id hS;have tS:s.TypeIs (.ref sl) "slice":=⟨os,g1,g2⟩;unfold getItem;try with_reducible refine wpAny_holding ?_
 first|refine wpAny_bind (wpAny_pure ?_)|skip
 refine wpAny_bind (wpAny_sequenceKey hT.typeIs (by decide) ?_);refine wpAny_bind (wpAny_callSpecial?_slot (name:=Str.ofString "__getitem__") hT.typeIs T4 (wpAny_call_entry T4 hT.typeIs entry_tuple_getitem ?_ (args_tuple_getitem _ _)));show wpAny _ _ (J6 (.ref t) >>= _) _ _ s;refine wpAny_bind (tupleItemsOf_ hT (wpAny_bind (wpAny_typeOf tS ?_)));rw[if_pos (by decide)];refine wpAny_bind (MZ hS p1 p2 ?_);have yes:((((sIx items.size 0 lo:Nat):Int)==0&&(1:Int)==1&&(sIx items.size items.size hi - sIx items.size 0 lo)==items.size)=true):=by rw[z1,z2];simp
 show wpAny _ _ (if (((sIx items.size 0 lo:Nat):Int)==0&&(1:Int)==1&&(sIx items.size items.size hi - sIx items.size 0 lo)==items.size)=true then _ else _) _ _ s;rw[if_pos yes];refine wpAny_bind (m:=Builtin.Tuple.tupleIsExact _) (wpAny_bind (wpAny_typeOf hT.typeIs (wpAny_pure ?_)));rw[if_pos (by decide)];exact wpAny_bind (wpAny_rule (wpAny_pure ⟨_,rfl,wpAny_pure q⟩))
end
end HT
namespace L2
def Mq(K:n0):V->Option Int->Option Int->Hp->VK->Prop:=λx lo hi H Q=>∃a xs,x=.ref a/\SqT K H a xs /\
 (oJ xs lo hi=xs->Q (.ref a) H)/\∀p,H p=none->Q (.ref p) (UQ H p (.tup (oJ xs lo hi)))
theorem HU:cO X (Mq X.K):=by
 intro pins s σ H x v vl vu lo hi sl Q I rx hS p1 p2 h;obtain⟨a,xs,rfl,hx,q1,q2⟩:=h;by_cases z:HT.sIx xs.length 0 lo=0/\HT.sIx xs.length xs.length hi=xs.length
 ·cases rx;obtain⟨its,r,hT,hz⟩:=I.tuple hx;have hl:its.toArray.size=xs.length:=by rw[N0];exact r.length.symm
  refine ⟨"tuple",_,T4.lookup,hT.typeIs,HT.whole_tup hT hS p1 p2 (by rw[hl];exact z.1) (by rw[hl];exact z.2) ⟨.ref a,H,I,rfl,q1 ?_⟩⟩;unfold oJ;rw[z.1,z.2];simp
 ·exact EC pins s σ H (.ref a) v vl vu lo hi sl Q I rx hS p1 p2 ⟨a,xs,rfl,hx,z,q2⟩
theorem IU(xs:List V){i j:Int}(hi:0<=i)(hj:0<=j):oJ xs (some i) (some j)=(xs.take j.toNat).drop i.toNat:=by
 unfold oJ;have e1:HT.sIx xs.length 0 (some i)=min i.toNat xs.length:=by show (if i < 0 then (i+(xs.length:Int)).toNat else min i.toNat xs.length)=_;rw[if_neg (by omega)]
 have e2:HT.sIx xs.length xs.length (some j)=min j.toNat xs.length:=by show (if j < 0 then (j+(xs.length:Int)).toNat else min j.toNat xs.length)=_;rw[if_neg (by omega)]
 rw[e1,e2,List.drop_take];by_cases h:i.toNat<=xs.length
 ·rw[P5 h];by_cases h2:j.toNat<=xs.length
  ·rw[P5 h2]
  ·rw[K8 (by omega),W1 (by rw[V1];omega),W1 (by rw[V1];omega)]
 ·rw[V3 (by omega),V3 (by omega)];simp
theorem dD(xs:List V){j:Int}(hj:0<=j):oJ xs none (some j)=xs.take j.toNat:=by
 unfold oJ;have e2:HT.sIx xs.length xs.length (some j)=min j.toNat xs.length:=by show (if j < 0 then (j+(xs.length:Int)).toNat else min j.toNat xs.length)=_;rw[if_neg (by omega)]
 rw[e2];show (xs.drop 0).take (min j.toNat xs.length - 0)=_;rw[List.drop_zero,Nat.sub_zero];by_cases h2:j.toNat<=xs.length
 ·rw[P5 h2]
 ·rw[K8 (by omega),W1 (by omega),W1 (by omega)]
end L2
namespace L3
open L2
def pI(a b c:AD)(f:D->Int->Int->(Sl->Prop)->Prop):TD:=λρ Q=>yX [a,b] ρ λxs ρ1=>YQ ρ1 xs λds=>match ds with
 | [_,.int i]=>yX [c] ρ1 λzs ρ2=>YQ ρ2 (xs.take 1++zs) λes=>match es with
  | [d,.int j]=>f d i j λr=>Q r ρ2
  | _=>False
 | _=>False
def qI(K:Fg)(r:V->Option Int->Option Int->Hp->VK->Prop)(f:D->Int->Int->(Sl->Prop)->Prop):Prop :=
 ∀(G:Gh) (F:Hp) (σ:L2.St) (H:Hp) (ρ:Ev) (x:V) (i j:Int) (d:D) (Q:VK) (Qd:Sl->Prop),Rel K G F σ H ρ->At K F H x d->f d i j Qd ->
  (∀v H' F' s,Sub F F'->Rel K G F' σ H' ρ->Res K G F' H' σ ρ v s->Qd s->Q v H')->r x (some i) (some j) H Q
theorem lB{a b c:AD}{r:V->Option Int->Option Int->Hp->VK->Prop}{f:D->Int->Int->(Sl->Prop)->Prop}(ok:qI K r f){σ:L2.St}{H:Hp}{Q:VK}(h:lift K (pI a b c f) σ H Q):eR r (sQ K a) (Kz (sQ K b)) (Kz (sQ K c)) σ H Q:=by
 obtain⟨G,F,ρ,Qd,R,w,k⟩:=h;have main:JQ ([a,b].map (sQ K)) σ H λvs H2=>∃x y,vs=[x,y]/\∃i,y=.int i/\sQ K c σ H2 λz H3=>∃j,z=.int j/\r x (some i) (some j) H3 Q:=by
  refine oX R w λvs H' F' xs ρ' sb R' o w1=>?_;obtain⟨ds,ha,w1⟩:=eZ R' o w1;split at w1
  ·rename_i dx i;obtain⟨v,u,rfl,h1,h2⟩:=ha.two;cases h2.int;refine ⟨_,_,rfl,i,rfl,?_⟩;refine sG (oX (as:=[c]) (Qv:=λvs H4=>∃z,vs=[z]/\∃j,z=.int j/\r v (some i) (some j) H4 Q) R' w1 λvs H2 F2 ys ρ2 s2 R2 o2 w2=>?_);cases o with|cons p1 t1=>?_
   cases t1 with|cons p2 t2=>?_
   cases t2;obtain⟨es,hb,w2⟩:=eZ R2 (OpdsAt.cons (p1.mono s2) o2) w2;split at w2
   ·rename_i d j;cases hb with|cons q1 t3=>?_
    obtain⟨v3,rfl,h3⟩:=t3.one;cases h3.int;exact ⟨_,rfl,j,rfl,ok G F2 σ H2 ρ2 v i j d Q _ R2 q1 w2 λv' H3 F3 s3 sb3 R3 r3 q3=>k v' H3 F3 s3 ρ2 (sb.trans (s2.trans sb3)) R3 r3 q3⟩
   ·exact w2.elim
  ·exact w1.elim
 exact lH main
def iN(r:V->Option Int->Option Int->Hp->VK->Prop):R2:=λx z H Q=>∃j,z=.int j/\r x none (some j) H Q
noncomputable def mB:D->Int->Int->(Sl->Prop)->Prop
 | .tuple ds,i,j,Q=>0<=i/\0<=j/\Q (.fz (.tuple ((ds.take j.toNat).drop i.toNat)))
 | _,_,_,_=>False
noncomputable def nB:D->Int->Int->(Sl->Prop)->Prop
 | .list ds,i,j,Q=>0<=i/\0<=j/\Q (.ow (.list ((ds.take j.toNat).drop i.toNat)))
 | _,_,_,_=>False
noncomputable def oB:D->D->(Sl->Prop)->Prop
 | .tuple ds,.int j,Q=>0<=j/\Q (.fz (.tuple (ds.take j.toNat)))
 | _,_,_=>False
theorem xy:qI K (Mq K) mB:=λG F σ H ρ x i j d Q Qd R h1 w k=>by
 cases d<;>first|exact w.elim|skip
 rename_i ds;obtain⟨w1,w2,w⟩:=w;obtain⟨a,us,rfl,f1,e1,d1⟩:=h1.tuple R.sub;have dc:=(d1.take j.toNat).drop i.toNat;refine ⟨a,us,rfl,SqT.of e1,λz=>?_,λp hp=>?_⟩
 ·rw[IU us w1 w2]at z;refine k _ H F (.fz _) (Sub.refl _) R (Da.tup f1 ?_) w;rw[z]at dc;exact dc
 ·rw[IU us w1 w2];obtain⟨sb,R',dd⟩:=R.newTup hp dc;exact k _ _ _ (.fz _) sb R' dd w
theorem yy:qI K (Pw K) nB:=λG F σ H ρ x i j d Q Qd R h1 w k=>by
 cases d<;>first|exact w.elim|skip
 rename_i ds;obtain⟨w1,w2,w⟩:=w;obtain⟨a,us,rfl,e1,d1⟩:=h1.list R.sub;refine ⟨a,us,rfl,SqL.of e1,λp hp=>?_⟩;rw[IU us w1 w2];obtain⟨R',r'⟩:=R.newOw (o:=.lst ((us.take j.toNat).drop i.toNat)) (d:=.list ((ds.take j.toNat).drop i.toNat)) hp ((d1.take j.toNat).drop i.toNat);exact k _ _ F _ (Sub.refl _) R' r' w
theorem zy:SQ K (jK (iN (Mq K))) (o2 oB):=VU λG F σ H ρ x y d e Q Qd R h1 h2 w k=>by
 cases d<;>first|exact w.elim|(cases e<;>first|exact w.elim|skip)
 rename_i ds j;obtain⟨w1,w⟩:=w;cases h2.int;obtain⟨a,us,rfl,f1,e1,d1⟩:=h1.tuple R.sub;have dc:=d1.take j.toNat;refine ⟨j,rfl,a,us,rfl,SqT.of e1,λz=>?_,λp hp=>?_⟩
 ·rw[dD us w1]at z;refine k _ H F (.fz _) (Sub.refl _) R (Da.tup f1 ?_) w;rw[z]at dc;exact dc
 ·rw[dD us w1];obtain⟨sb,R',dd⟩:=R.newTup hp dc;exact k _ _ _ (.fz _) sb R' dd w
section
variable {e1 e2 e3:Expr}{a b c:AD}{p pos p2 apos cpos:Pos}{x:Str}
theorem sI(hK:X.K=K)(ha:WE X e1 (sQ K a))(hb:WE X e2 (sQ K b))(hc:WE X e3 (sQ K c)):WE X (.Subscript e1 (.Slice (some e2) (some e3) none p2) pos) (lift K (pI a b c mB)):=by subst hK;exact ⟨BY (NZ HU ha.h (EZ hb.h) (EZ hc.h)) λq=>lB xy q⟩
theorem uI(hK:X.K=K)(ha:WE X e1 (sQ K a))(hb:WE X e2 (sQ K b))(hc:WE X e3 (sQ K c)):WE X (.Subscript e1 (.Slice (some e2) (some e3) none p2) pos) (lift K (pI a b c nB)):=by subst hK;exact ⟨BY (NZ jU ha.h (EZ hb.h) (EZ hc.h)) λq=>lB yy q⟩
theorem KJ(hK:X.K=K)(ha:WE X e1 (sQ K a))(hb:WE X e2 (sQ K b)):WE X (.Subscript e1 (.Slice none (some e2) none p2) pos) (lift K (dY [a,b] (o2 oB))):=by subst hK;exact ⟨BY (NZ HU ha.h PY (EZ hb.h)) λq=>lH (P:=λx z H=>iN (Mq X.K) x z H _) (LY zy q)⟩
end
section
variable {ec:Expr}{p p1 p2 p3 p4 p5 p6 p7 p8 p9 pa pb pc pd pe pf pg ph pi' pj pk pl:Pos}{x a b c:Str}{tc:AY}
end
noncomputable def Ay:D->(Sl->Prop)->Prop
 | .int j,Q=>Sv 0 j/\j.toNat<=2 ^ 24/\Q (.ow (.list (CQ 0 j.toNat)))
 | _,_=>False
theorem By{G:Gh}{F:Hp}{σ:L2.St}{x:V}{j:Int}{Q:VK}{Qd:Sl->Prop}(R:Rel K G F σ H ρ)(h1:At K F H x (.int j))(w:Ay (.int j) Qd)(k:∀v H' F' s,Sub F F'->Rel K G F' σ H' ρ->Res K G F' H' σ ρ v s->Qd s->Q v H'):Bq [x] H λv H1=>YJ [v] H1 Q:=by
 cases h1.int;refine ⟨0,j,.inr ⟨rfl,rfl⟩,λp hp=>⟨p,0,j,rfl,AQ,w.1,by have:=w.2.1;omega,λl hl=>?_⟩⟩;have ej:(j - 0).toNat=j.toNat:=by omega
 rw[ej];have R1:Rel K G F σ (UQ H p (.rng 0 j)) ρ:=R.laid hp;have da:DaAll K F ((N1 j.toNat).map λ(n:Nat)=>V.int (0+n)) (CQ 0 j.toNat):=by have:=DaAll.ints (K:=K) (F:=F) ((N1 j.toNat).map λ(n:Nat)=>(0:Int)+(n:Int));simpa [CQ,P0,Function.comp_def]using this
 obtain⟨R',r'⟩:=R1.newOw (o:=.lst _) (d:=.list (CQ 0 j.toNat)) hl da;exact k _ _ F _ (Sub.refl _) R' r' w.2.2
theorem vI:SQ K (λvs H Q=>Bq vs H λv H1=>YJ [v] H1 Q) (o1 Ay):=bG λG F σ H ρ x d Q Qd R h1 w k=>by
 cases d with
 | int j=>exact By R h1 w k
 | _=>exact w.elim
section
variable {e e1:Expr}{a:AD}{p p2 pos:Pos}
theorem wI(h:PE X e (CC YJ (bH (CC Bq (JQ ([a].map (sQ K)))) Fz))):PE X e (lift K (dY [a] (o1 Ay))):=BY h λq=>LY vI q
theorem pB(hc:X.calm=true)(hm:X.mg "list"=none)(hm2:X.mg "range"=none)(ha:WA X [e1] (JQ ([a].map (sQ K))))(hg:Gl X "list":=by rfl)(hg2:Gl X "range":=by rfl)(he:OQ e1=true:=by rfl) :
  WE X (.Call (.Name "list" p) [.Call (.Name "range" p2) [e1] [] pos'] [] pos) (lift K (dY [a] (o1 Ay))) :=
 ⟨wI (LZ (CY hc) hg hm boot_list (TJ (LZ tH hg2 hm2 boot_range ha.h (by decide) (by decide) (uQ he) (kX rfl)) iW (uQ rfl)) (by decide) (by decide) (uQ rfl) (kX rfl))⟩
end
end L3
namespace L2
open PySem.W
noncomputable abbrev PQ:=List Int×List Int
noncomputable def TV(x y:PQ):Bool:=if x.1=y.1 then HT.lexLt x.2 y.2 else HT.lexLt x.1 y.1
theorem ltB_wk:SG.Wk TV:=by
 have W:=SG.lex_wk;refine ⟨λa=>?_,λa b c h1 h2=>?_,λa b c h1 h2=>?_⟩
 ·unfold TV;rw[if_pos rfl];exact W.irr _
 ·unfold TV at h1 h2 ⊢;by_cases e1:a.1=b.1
  ·rw[if_pos e1]at h1;by_cases e2:b.1=c.1
   ·rw[if_pos e2]at h2;rw[if_pos (e1.trans e2)];exact W.tr _ _ _ h1 h2
   ·rw[if_neg e2]at h2;rw[if_neg (by rw[e1];exact e2),e1];exact h2
  ·rw[if_neg e1]at h1;by_cases e2:b.1=c.1
   ·rw[if_neg (by rw[<- e2];exact e1),<- e2];exact h1
   ·rw[if_neg e2]at h2;have h3:=W.tr _ _ _ h1 h2;rw[if_neg (λz=>by rw[z,W.irr]at h3;cases h3)];exact h3
 ·unfold TV at h1 h2 ⊢;by_cases e1:a.1=b.1
  ·rw[if_pos e1]at h1;by_cases e2:b.1=c.1
   ·rw[if_pos e2]at h2;rw[if_pos (e1.trans e2)];exact W.nt _ _ _ h1 h2
   ·rw[if_neg e2]at h2;rw[if_neg (by rw[e1];exact e2),e1];exact h2
  ·rw[if_neg e1]at h1;by_cases e2:b.1=c.1
   ·rw[if_neg (by rw[<- e2];exact e1),<- e2];exact h1
   ·rw[if_neg e2]at h2;have h3:=W.nt _ _ _ h1 h2;by_cases e3:a.1=c.1
    ·exfalso;rw[<- e3]at h2;exact e1 (SG.lex_eq h1 h2)
    ·rw[if_neg e3];exact h3
theorem xI{a b:PQ}(h1:TV a b=false)(h2:TV b a=false):a=b:=by
 unfold TV at h1 h2;by_cases e:a.1=b.1
 ·rw[if_pos e]at h1;rw[if_pos e.symm]at h2;have:=SG.lex_eq h1 h2;cases a;cases b;cases e;cases this;rfl
 ·rw[if_neg e]at h1;rw[if_neg (λz=>e z.symm)]at h2;exact absurd (SG.lex_eq h1 h2) e
def rV(H:Hp)(c:Addr)(x:PQ):Prop:=∃a b,H c=some (.tup [.ref a,.ref b])/\H a=some (.tup (x.1.map V.int))/\H b=some (.tup (x.2.map V.int))
noncomputable def ox(H:Hp):V->PQ
 | .ref c=>match H c with
  | some (.tup [x,y])=>(iI H x,iI H y)
  | _=>([],[])
 | _=>([],[])
theorem qx{c:Addr}{r:List Int}(h:H c=some (.tup (r.map V.int))):iI H (.ref c)=r:=by show (match H c with|some (.tup xs)=>xs.map oP|_=>[])=r;rw[h];exact BW r
theorem IW(H:Hp)(c:Addr)(x:PQ)(h:rV H c x):ox H (.ref c)=x:=by obtain⟨a,b,h1,h2,h3⟩:=h;show (match H c with|some (.tup [x,y])=>(iI H x,iI H y)|_=>([],[]))=x;rw[h1];show (iI H (.ref a),iI H (.ref b))=x;rw[qx h2,qx h3]
theorem sx{a b:Addr}{x y:List Int}(I:Inv X pins σ H s)(hu:A.units < cLine)(ha:H a=some (.tup (x.map V.int)))(hb:H b=some (.tup (y.map V.int))){s':Shared}(k:∀b o,s.heap.get? b=some o->s'.heap.get? b=some o):SeqAt.EqAt A s' (.ref a) (.ref b) (decide (x=y)):=by
 by_cases e:a=b
 ·subst e;rw[ha]at hb;injection hb with hb;injection hb with hb;rw[Nj hb,decide_eq_true rfl];exact SeqAt.EqAt.same _
 ·have I':Inv X pins σ H { s with heap:=s'.heap }:=I.kept (t':=s.toks) k;obtain⟨_,ia,ra,ta⟩:=(show ObjOk X.prog X.w H s'.heap a (.tup (x.map V.int)) from I'.hok a _ ha);obtain⟨_,ib,rb,tb⟩:=(show ObjOk X.prog X.w H s'.heap b (.tup (y.map V.int)) from I'.hok b _ hb);have la:=ra.length;have lb:=rb.length;rw[j0]at la lb;have h:=SeqAt.RcAt.tuples (A:=A) (s:=s') (e:=λk=>x.getD k 0==y.getD k 0) ta.t tb.t hu λj h1 h2=>by
   obtain⟨t1,e1⟩:=DY ra (k:=j) (by simpa using h1);obtain⟨t2,e2⟩:=DY rb (k:=j) (by simpa using h2);simp only[List.getElem_toArray];rw[e1,e2];exact SeqAt.EqAt.int_int _ _ _ _
  have hv:((N1 (min ia.toArray.size ib.toArray.size)).all (λk=>x.getD k 0==y.getD k 0)&&ia.toArray.size==ib.toArray.size)=decide (x=y):=by
   simp only[N0,<- la,<- lb];by_cases z:x=y
   ·subst z;rw[decide_eq_true rfl];simp
   ·rw[decide_eq_false z,U5];intro hb;rw[J1,Y2,beq_iff_eq]at hb;refine z (List.ext_getElem hb.2 λk k1 k2=>?_);have:=hb.1 k (u3.mpr (by omega));rw[beq_iff_eq,Y0,Y0,A0 k1,A0 k2]at this;exact this
  rw[<- hv];exact SeqAt.EqAt.of_refs e h
theorem aF(hu:X.A.units+2 < cLine):dX X (.builtin "sorted") (GU X.K rV ox TV):=by
 have hu1:X.A.in1.in1.units < cLine:=by show X.A.units+2 < cLine;exact hu
 refine XG (κ:=tuples' false) ltB_wk IW (λ{pins s σ H} I its h2 at' s' k E' Q' q'=>?_) (λ{pins s σ H} I c d x y hx hy s' k Q' q'=>?_)
 ·have gen:∀(l:List Value),(∀v∈l,∃(c:Addr) (r:PQ),v=.ref c/\rV H c r)->∃fs:List Value,KatTups s'.heap l fs/\fs.length=l.length/\∀v∈fs,Looks (model X.prog X.w) s'.heap (typeOf v) (.type "tuple"):=by
   intro l;induction l with
   | nil=>intro _;exact ⟨[],.nil,rfl,λv hv=>by simp at hv⟩
   | cons v l ih =>
    intro hl;obtain⟨fs,f1,f2,f3⟩:=ih λx hx=>hl x (q0 _ hx);obtain⟨c,r,rfl,a,b,hc,ha,hb⟩:=hl v v0;obtain⟨_,itc,rc,ob,e1,e2,m,e3,_⟩:=(show ObjOk X.prog X.w H s.heap c (.tup [.ref a,.ref b]) from I.hok c _ hc);obtain⟨u1,u2,rfl,r1,r2⟩:=lK rc;cases r1;obtain⟨_,itb,rb,oa,g1,g2,_⟩:=(show ObjOk X.prog X.w H s.heap a (.tup (r.1.map V.int)) from I.hok a _ ha);refine ⟨.ref a :: fs,.cons (k _ _ e1) e2 e3 rfl f1,by simp[f2],λv hv=>?_⟩;rcases W0.mp hv with rfl|hv
    ·have:=(show Looks (model X.prog X.w) s'.heap (typeOf (.ref a)) oa.cls from (Looks.ld (k _ _ g1)).andThen .now);rw[g2]at this;exact this
    ·exact f3 v hv
  obtain⟨fs,f1,f2,f3⟩:=gen its at';exact kat_kind (T:=.type "tuple") f1 (by omega) f3 (by decide) q'
 ·obtain⟨a1,b1,hc1,ha1,hb1⟩:=hx;obtain⟨a2,b2,hc2,ha2,hb2⟩:=hy;obtain⟨_,ic,rc,oc,c1,c2,m1,c3,_⟩:=(show ObjOk X.prog X.w H s.heap c (.tup [.ref a1,.ref b1]) from I.hok c _ hc1);obtain⟨_,id',rd,od,d1,d2,m2,d3,_⟩:=(show ObjOk X.prog X.w H s.heap d (.tup [.ref a2,.ref b2]) from I.hok d _ hc2);obtain⟨u1,u2,rfl,r1,r2⟩:=lK rc;cases r1;cases r2;obtain⟨w1,w2,rfl,r3,r4⟩:=lK rd;cases r3;cases r4;have I':Inv X pins σ H { s with heap:=s'.heap }:=I.kept (t':=s.toks) k;have lt1:∀{a b:Addr}{x y:List Int}{Q:Bool->Shared->Prop},H a=some (.tup (x.map V.int))->H b=some (.tup (y.map V.int))->Q (HT.lexLt x y) s'->wpAny (model X.prog X.w) X.A.in1.in1 (oneLt' false (.ref a) (.ref b)) Q (λ_ _=>False) s':=λ{a b x y Q} ha hb hq=>by
   obtain⟨_,ia,ra,ta⟩:=(show ObjOk X.prog X.w H s'.heap a (.tup (x.map V.int)) from I'.hok a _ ha);obtain⟨_,ib,rb,tb⟩:=(show ObjOk X.prog X.w H s'.heap b (.tup (y.map V.int)) from I'.hok b _ hb);exact kat_one _ _ (HT.lt_tupInts ta.t tb.t (eX ra) (eX rb) hu1 hq)
  refine kat_lt (k _ _ c1) c3 (k _ _ d1) d3 (kat_cons ?_);refine sx I hu1 ha1 ha2 k _ _ _ _ ?_;unfold TV at q';refine kat_go (λq=>kat_yes (kat_cons ?_)) (λq=>kat_no ?_)
  ·have q:=of_decide_eq_true q;rw[if_pos q]at q';refine sx I hu1 hb1 hb2 k _ _ _ _ ?_;refine kat_go (λz=>kat_yes ?_) (λz=>kat_no ?_)
   ·have z:=of_decide_eq_true z;rw[z,SG.lex_wk.irr]at q';exact q'
   ·exact lt1 hb1 hb2 q'
  ·have q:=of_decide_eq_false q;rw[if_neg q]at q';exact lt1 ha1 ha2 q'
end L2
namespace L3
open L2
noncomputable abbrev FQ(b:PQ):D:=.tuple [.tuple (b.1.map i0),.tuple (b.2.map i0)]
noncomputable def yI:D->(Sl->Prop)->Prop
 | .list ds,Q=>∃rows:List PQ,ds=rows.map FQ/\rows.length<=sizeLine/\∀rows':List PQ,rows'.Perm rows->rows'.Pairwise (λa b=>TV b a=false)->Q (.ow (.list (rows'.map FQ)))
 | _,_=>False
theorem ux{F:Hp}{v:V}{r:PQ}(h:Da K F v (FQ r)):∃c,v=.ref c/\rV F c r:=by
 cases h with
 | tup h t =>
  cases t with
  | cons h1 t =>
   cases t with
   | cons h2 t=>cases t;obtain⟨a,rfl,ha⟩:=ix h1;obtain⟨b,rfl,hb⟩:=ix h2;exact ⟨_,rfl,a,b,h,ha,hb⟩
theorem Cy{F:Hp}{c:Addr}{r:PQ}(h:rV F c r):Da K F (.ref c) (FQ r):=by obtain⟨a,b,h1,h2,h3⟩:=h;exact .tup h1 (.cons (.tup h2 (DaAll.ints _)) (.cons (.tup h3 (DaAll.ints _)) .nil))
theorem vx:SQ K (GU K rV ox TV) (o1 yI):=bG λG F σ H ρ x d Q Qd R h1 w k=>by
 cases d<;>first|exact w.elim|skip
 case list ds =>
  obtain⟨rows,e,hz,w⟩:=w;subst e;obtain⟨a,us,rfl,e1,d1⟩:=h1.list R.sub;have hl:=d1.length;rw[j0]at hl;have hrep:∀v∈us,∃c r,v=.ref c/\rV F c r/\r∈rows:=λv hv=>by obtain⟨d,hd,dv⟩:=d1.mem v hv;obtain⟨r,hr,rfl⟩:=J0.mp hd;obtain⟨c,rfl,hc⟩:=ux dv;exact ⟨c,r,rfl,hc,hr⟩
  have up:∀{c:Addr}{r:PQ},rV F c r->rV H c r:=λ{c r} ⟨a,b,h1,h2,h3⟩=>⟨a,b,R.sub _ _ h1,R.sub _ _ h2,R.sub _ _ h3⟩;have hfe:∀v∈us,ox H v=ox F v:=λv hv=>by obtain⟨c,r,rfl,hc,_⟩:=hrep v hv;rw[IW F c r hc,IW H c r (up hc)]
  refine ⟨a,us,rfl,SqL.of e1,by omega,λv hv=>?_,λp us' hp p' o'=>?_⟩
  ·obtain⟨c,r,rfl,hc,_⟩:=hrep v hv;exact ⟨c,r,rfl,up hc⟩
  ·have em:us.map (ox F)=rows:=by
    refine DaAll.map_eq (K:=K) (F:=F) (g:=FQ) (λv a h=>?_) d1;obtain⟨c,rfl,hc⟩:=ux h;exact IW F c a hc
   have ee:us'.map (ox H)=us'.map (ox F):=Y1 λv hv=>hfe v (p'.mem_iff.mp hv);rw[ee]at o';have dall:DaAll K F us' ((us'.map (ox F)).map FQ):=by rw[P0];refine DaAll.map_of λv hv=>?_;obtain⟨c,r,rfl,hc,_⟩:=hrep v (p'.mem_iff.mp hv);show Da K F (.ref c) (FQ (ox F (.ref c)));rw[IW F c r hc];exact Cy hc
   obtain⟨R',r'⟩:=R.newOw (o:=.lst us') (d:=.list _) hp dall;exact k _ _ F _ (Sub.refl _) R' r' (w _ (by rw[<- em];exact p'.map _) o')
theorem DH(h:X.K=K)(hu:X.A.units+2 < cLine):dX X (.builtin "sorted") (GU K rV ox TV):=by subst h;exact aF hu
theorem eD(us:List V){i:Int}(h:0<=i):oJ us (some i) none=us.drop i.toNat:=by
 unfold oJ;have e1:HT.sIx us.length 0 (some i)=min i.toNat us.length:=by show (if i < 0 then (i+(us.length:Int)).toNat else min i.toNat us.length)=_;rw[if_neg (by omega)]
 rw[e1];show (us.drop (min i.toNat us.length)).take (us.length - min i.toNat us.length)=_;rw[W1 (by rw[V1];exact u0 _)];by_cases z:i.toNat<=us.length
 ·rw[P5 z]
 ·rw[K8 (by omega),V3 (u0 _),V3 (by omega)]
def jN(r:V->Option Int->Option Int->Hp->VK->Prop):R2:=λx z H Q=>∃j,z=.int j/\r x (some j) none H Q
noncomputable def qB:D->D->(Sl->Prop)->Prop
 | .tuple ds,.int j,Q=>0<=j/\Q (.fz (.tuple (ds.drop j.toNat)))
 | _,_,_=>False
theorem Dy:SQ K (jK (jN (Mq K))) (o2 qB):=VU λG F σ H ρ x y d e Q Qd R h1 h2 w k=>by
 cases d<;>first|exact w.elim|(cases e<;>first|exact w.elim|skip)
 rename_i ds j;obtain⟨w1,w⟩:=w;cases h2.int;obtain⟨a,us,rfl,f1,e1,d1⟩:=h1.tuple R.sub;have dc:=d1.drop j.toNat;refine ⟨j,rfl,a,us,rfl,SqT.of e1,λz=>?_,λp hp=>?_⟩
 ·rw[eD us w1]at z;refine k _ H F (.fz _) (Sub.refl _) R (Da.tup f1 ?_) w;rw[z]at dc;exact dc
 ·rw[eD us w1];obtain⟨sb,R',dd⟩:=R.newTup hp dc;exact k _ _ _ (.fz _) sb R' dd w
theorem lZ{e1 e2:Expr}{a b:AD}{pos p2:Pos}(hK:X.K=K)(ha:WE X e1 (sQ K a))(hb:WE X e2 (sQ K b)):WE X (.Subscript e1 (.Slice (some e2) none none p2) pos) (lift K (dY [a,b] (o2 qB))):=by subst hK;exact ⟨BY (NZ HU ha.h (EZ hb.h) PY) λq=>lH (P:=λx z H=>jN (Mq X.K) x z H _) (LY Dy q)⟩
end L3
namespace L2
theorem JW:fillsNumberSlot (.type "tuple") "mul"=pure false:=PySem.fillsNumberSlot_seq (id:="tuple.__mul__") (r:=some (.builtin "tuple.__rmul__")) PySem.F.slot_tuple_mul.lookup (by decide +kernel) PySem.F.slot_tuple_rmul.lookup (by decide +kernel)
theorem fD:seqRepeat? (.type "tuple")=pure (some (.builtin "tuple.__mul__")):=by unfold seqRepeat?;rw[PySem.seqSlot_of (T:="tuple") (name:="__mul__") (id:="tuple.__mul__") PySem.F.slot_tuple_mul.lookup (by decide +kernel),PySem.seqSlot_of (T:="tuple") (name:="__rmul__") (id:="tuple.__rmul__") PySem.F.slot_tuple_rmul.lookup (by decide +kernel)];rfl
theorem SK(a:Int)(t:Tok)(l:Addr)(items:Array Value)(n:Nat)(sl:Array (Option Value)):Meets (Builtin.«int.__rmul__» ⟨[.int a t,.ref l],[]⟩) (λ_ R s=>s.heap.get? l=some { cls:=.type "tuple",dict:=none,data:=.seq items n,slots:=sl }/\R (.ok (.ret o9)) s):=
 .of_wp λprog w A R s h=>by
  obtain⟨hp,g,d,tk,os⟩:=s;obtain⟨hl,h⟩:=h
  wp_walk
  exact ⟨_,rfl,h⟩
theorem Ey(l:Addr)(items:Array Value)(n:Nat)(sl:Array (Option Value))(k:Int)(t:Tok)(h1:2<=k)(h2:k < 2 ^ 63)(h3:items.isEmpty=false)(h4:items.size * k.toNat<=sizeLine):Meets (Builtin.«tuple.__mul__» ⟨[.ref l,.int k t],[]⟩) (λ_ R s=>s.heap.get? l=some { cls:=.type "tuple",dict:=none,data:=.seq items n,slots:=sl } /\ R (.ok (.ret (.ref s.heap.objs.size))) { s with heap:=s.heap.push { cls:=.type "tuple",data:=.seq (E7 (λx1 x2=>x1++x2) #[] (A1 k.toNat items)) } }):=
 .of_wp λprog w A R s h=>by
  obtain⟨hp,g,d,tk,os⟩:=s;obtain⟨hl,h⟩:=h;have c1:(decide (k < -2 ^ 63)||decide (k ≥ 2 ^ 63))=false:=by simp;omega
  have c2:(items.isEmpty||k==1)=false:=by rw[h3];simp;omega
  have c3:(decide (k<=0)||items.isEmpty)=false:=by rw[h3];simp;omega
  have hk:((k.toNat:Nat):Int)=k:=by omega
  have hm:(items.size:Int) * k<=(sizeLine:Nat):=by rw[<- hk];exact_mod_cast h4
  have hs:(sizeLine:Nat)<=(2 ^ 63 - 1) / 8:=by decide
  have c4:¬((items.size:Int) * k > (2 ^ 63 - 1) / 8):=by omega
  wp_walk
  refine wpAny_ite_false (decide_eq_false (by rw[c1];exact T0)) ?_
  wp_walk
  refine wpAny_ite_false (decide_eq_false (by rw[c2];exact T0)) ?_
  wp_walk
  refine wpAny_ite_false (decide_eq_false (by rw[c3];exact T0)) ?_
  wp_walk
  rw[if_neg c4]
  wp_walk
  have c5:Builtin.Tuple.tupleTooMany ((items.size:Int) * k)=false:=decide_eq_false (by omega);refine wpAny_ite_false (decide_eq_false (by rw[c5];exact T0)) ?_;have hsz:(E7 (λx1 x2=>x1++x2) #[] (A1 k.toNat items)).size<=sizeLine:=by
   have f0:∀(m:Nat) (acc:Array Value),(E7 (λx1 x2=>x1++x2) acc (A1 m items)).size=acc.size+m * items.size:=by
    intro m;induction m with
    | zero=>intro acc;simp
    | succ m ih=>intro acc;rw[A4,List.foldl_cons,ih,Array.size_append,Z6];omega
   rw[f0,S9];simpa using h4
  wp_walk
  exact ⟨_,rfl,h⟩
def xx:R2:=λx y H Q=>∃l k xs,x=.ref l/\y=.int k/\H l=some (.tup xs)/\xs≠[]/\2<=k/\k < 2 ^ 63/\xs.length * k.toNat<=sizeLine/\∀p,H p=none->Q (.ref p) (UQ H p (.tup (A1 k.toNat xs).flatten))
theorem Fy:OpR X (binaryOp .Mult) xx:=by
 intro pins s σ H x y v u Q I rx ry h;obtain⟨l,k,xs,rfl,rfl,hH,hne,h1,h2,hz,q⟩:=h;cases rx;obtain⟨t,rfl⟩:=ry;obtain⟨z,its,r,⟨cls,dd,data,sl⟩,e,c,m,d,dn⟩:=(show ObjOk X.prog X.w H s.heap l (.tup xs) from I.hok l _ hH);simp only at c d dn;subst c d dn;have hl:=r.length;have hem:its.toArray.isEmpty=false:=by
  cases its with
  | nil=>exact absurd (X6.mp hl) hne
  | cons=>rfl
 refine wpAny_binaryOp_repeat_ref (T:="tuple") (U:="int") (by decide) ⟨_,e,rfl⟩ (λs'=>typeIs_int s' k t) JW PySem.F.fills_int_mul PySem.F.slot_int_rmul fD PySem.F.slot_int_index.lookup
  (call_meets PySem.F.slot_int_rmul (typeIs_int s k t) PySem.F.entry_int_rmul (PySem.F.args_int_rmul_2 _ _) (SK k t l its.toArray m sl)
    ⟨e,rfl,⟨_,e,rfl⟩,call_meets PySem.F.slot_tuple_mul ⟨_,e,rfl⟩ PySem.F.entry_tuple_mul (PySem.F.args_tuple_mul_2 _ _) (Ey l its.toArray m sl k t h1 h2 hem (by rw[N0,<- hl];exact hz)) ⟨e,?_⟩⟩);have f0:E7 (λx1 x2=>x1++x2) #[] (A1 k.toNat its.toArray)=(A1 k.toNat its).flatten.toArray:=by
  have:=iY its k.toNat [];rw[Q7]at this;exact this
 rw[f0];exact ⟨.ref _,_,I.laid (t':=s.toks) (λb o e=>g0 _ e) (u0 _) (show ObjOk X.prog X.w _ _ _ (.tup (A1 k.toNat xs).flatten) from ⟨by rw[FF,S9];exact hz,_,r.rep k.toNat,IsTupD.new _ _⟩),rfl,q _ I.fresh⟩
end L2
namespace L3
open L2
end L3
namespace L2
section
variable {P:Program}{w:World}{κ:Type}[DecidableEq κ]{kd:KeyKind P w κ}
def BKey(kd:KeyKind P w κ)(h:Heap)(k:List κ×List κ)(a:Addr):Prop:=∃o b c n,h.get? a=some o/\o.cls=.type "tuple"/\o.data=.seq #[.ref b,.ref c] n/\IsTupleKey kd h k.1 b/\IsTupleKey kd h k.2 c
theorem BKey.ty{k:List κ×List κ}{a:Addr}(x:BKey kd s.heap k a):s.TypeIs (.ref a) "tuple":=by obtain⟨o,_,_,_,e,c,_⟩:=x;exact ⟨o,e,c⟩
theorem UV{k:List κ}{a:Addr}(kk:∀b ob,h.get? b=some ob->h'.get? b=some ob)(x:IsTupleKey kd h k a):IsTupleKey kd h' k a:=by obtain⟨o,its,n,e,r⟩:=x;exact ⟨o,its,n,kk _ _ e,r⟩
theorem BKey.mono{k:List κ×List κ}{a:Addr}(kk:∀b ob,h.get? b=some ob->h'.get? b=some ob)(x:BKey kd h k a):BKey kd h' k a:=by obtain⟨o,b,c,n,e,e1,e2,x1,x2⟩:=x;exact ⟨o,b,c,n,kk _ _ e,e1,e2,UV kk x1,UV kk x2⟩
theorem BKey.inj{a:Addr}{x y:List κ×List κ}(p:BKey kd h x a)(q:BKey kd h y a):x=y:=by
 obtain⟨o,b,c,n,e,_,d,x1,x2⟩:=p;obtain⟨o',b',c',n',e',_,d',y1,y2⟩:=q;have eo:o=o':=X1 (e.symm.trans e');subst eo;have ed:=d.symm.trans d';injection ed with z _;have z:=congrArg R9 z;have zb:b=b':=by injection z with z1 _;injection z1
 have zc:c=c':=by injection z with _ z2;injection z2 with z2 _;injection z2
 subst zb;subst zc;exact Prod.ext (x1.inj y1) (x2.inj y2)
theorem BKey.stays{k:List κ×List κ}{a d:Addr}{es ep}(x:BKey kd h k a)(ho:h.get? d=some o)(hd:o.data=.dict es ep)(hs:X3 d h h'):BKey kd h' k a:=by
 obtain⟨o',b,c,n,e,e1,e2,x1,x2⟩:=x;have ne:a≠d:=λz=>by subst z;have eo:=X1 (e.symm.trans ho);subst eo;rw[hd]at e2;cases e2
 exact ⟨o',b,c,n,(hs.2 a ne).trans e,e1,e2,x1.keeps ho hd hs,x2.keeps ho hd hs⟩
noncomputable def yx(kd:KeyKind P w κ)(k:List κ×List κ):Int:=reduceHash (U4 [tupleKeyHash kd k.1,tupleKeyHash kd k.2])
theorem AI{k:List κ×List κ}{a:Addr}{Q:Int->Shared->Prop}(hu:A.units+4 < cLine)(hk:BKey kd s.heap k a)(q:Q (yx kd k) { s with toks:=s.toks+(k.1.length+1+(k.2.length+1)+1) }):wpAny (model P w) A (PySem.pyHash (.ref a)) Q E s:=by
 have hT:=hk.ty;obtain⟨o,b,c,n,ho,_,hd,x1,x2⟩:=hk;unfold PySem.pyHash;first|unfold pyHashByItsType|skip
 first|refine wpAny_bind (wpAny_cRoomFor_or (.inr (by omega)) ?_)|skip
 refine wpAny_bind (wpAny_specialOf hT F.slot_tuple_hash.lookup ?_);show wpAny _ _ (if (some (J9 "tuple.__hash__")==some S6)=true then _ else _) Q E s;rw[if_neg (by rw[beq_builtin_none];decide)];refine wpAny_bind (wpAny_specialOf hT F.slot_tuple_hash.lookup ?_);show wpAny _ _ (callSpecialIfBoundUnlessNone? (.ref a) "__hash__" _ >>= _) Q E s;refine wpAny_bind (wpAny_callSpecialIfBoundUnlessNone?_slot hT F.slot_tuple_hash (wpAny_call_entry F.slot_tuple_hash hT F.entry_tuple_hash ?_ (F.args_tuple_hash_1 _)));show wpAny _ _ (J6 (.ref a) >>= _) _ _ s;refine wpAny_bind (wpAny_tupleItemsOf ho hd ?_);refine wpAny_bind ?_;rw[<- U6];have h1:A.in1.units < cLine:=by show A.units+1 < cLine;omega
 refine wpAny_forIn_list _
  (λrest (r:Array Int) s'=>(rest=[.ref b,.ref c]/\r.toList=[]/\s'=s)\/(rest=[.ref c]/\r.toList=[tupleKeyHash kd k.1]/\s'={ s with toks:=s.toks+(k.1.length+1) }) \/
    (rest=[]/\r.toList=[tupleKeyHash kd k.1,tupleKeyHash kd k.2]/\s'={ s with toks:=s.toks+(k.1.length+1)+(k.2.length+1) }))
  _ ?_ ?_ _ _ (.inl ⟨rfl,rfl,rfl⟩)
 ·rintro x rest r s' (⟨e,er,rfl⟩|⟨e,er,rfl⟩|⟨e,_⟩)
  ·cases e;refine wpAny_bind (wpAny_pyHash_tuple h1 x1 ?_);exact wpAny_pure (.inr (.inl ⟨rfl,by simp[er],rfl⟩))
  ·cases e;refine wpAny_bind (wpAny_pyHash_tuple h1 x2 ?_);exact wpAny_pure (.inr (.inr ⟨rfl,by simp[er],rfl⟩))
  ·cases e
 ·rintro r s' (⟨e,_⟩|⟨e,_⟩|⟨_,er,rfl⟩)
  ·cases e
  ·cases e
  show wpAny _ _ (retInt (U4 r.toList)) _ _ _;rw[er];refine wpAny_ret_mkInt ?_;unfold yx reduceHash at q;generalize U4 [tupleKeyHash kd k.1,tupleKeyHash kd k.2]=m at q;show wpAny _ _ (if (decide (-(2:Int) ^ 63<=m)&&decide (m < 2 ^ 63))=true then _ else _) Q E _;have et:s.toks+(k.1.length+1+(k.2.length+1)+1)=s.toks+(k.1.length+1)+(k.2.length+1)+1:=by omega
  rw[et]at q;by_cases hz:(decide (-(2:Int) ^ 63<=m)&&decide (m < 2 ^ 63))=true
  ·rw[if_pos hz]at q ⊢;exact wpAny_pure q
  ·rw[if_neg hz]at q ⊢;exact wpAny_bind (wpAny_rule (wpAny_pure q))
theorem kN{x y:List κ×List κ}{a b:Addr}{R:PySem.Fin->Shared->Prop}(hu:A.units < cLine)(hx:BKey kd s.heap x a)(hy:BKey kd s.heap y b)(h:R (.done (.ret (.bool (decide (x=y))))) s):wpAny (model P w) A (Builtin.«tuple.__eq__» ⟨[.ref a,.ref b],[]⟩) R E s:=by
 have hT:=hy.ty;obtain⟨oa,a1,a2,na,ea,_,da,x1,x2⟩:=hx;obtain⟨ob,b1,b2,nb,eb,_,db,y1,y2⟩:=hy;show wpAny _ _ (isInstance (.ref b) (.type "tuple") >>= _) _ _ s;refine wpAny_bind (wpAny_isInstance hT isSubtype_tuple_tuple ?_);simp only[O6,S2,if_false];refine wpAny_bind (wpAny_tupleItemsOf ea da ?_);refine wpAny_bind (wpAny_tupleItemsOf eb db ?_);refine wpAny_bind ?_;refine wpAny_forIn_list _
  (λrest r s'=>r.1=none/\s'=s/\(rest=[(.ref a1,.ref b1),(.ref a2,.ref b2)]\/(rest=[(.ref a2,.ref b2)]/\x.1=y.1)\/(rest=[]/\x=y))) _ ?_ ?_ _ _ ⟨rfl,rfl,.inl rfl⟩
 ·rintro⟨u,v⟩ rest r s' ⟨hr,rfl,e|⟨e,hxy⟩|⟨e,_⟩⟩
  ·cases e;refine wpAny_bind (wpAny_eqBool_tuple hu x1 y1 ?_);by_cases hk:x.1=y.1
   ·rw[decide_eq_true hk];exact wpAny_pure ⟨rfl,rfl,.inr (.inl ⟨rfl,hk⟩)⟩
   ·rw[decide_eq_false hk];rw[decide_eq_false (show ¬x=y from λz=>hk (by rw[z]))]at h;exact wpAny_bind (wpAny_pure (wpAny_pure (wpAny_pure h)))
  ·cases e;refine wpAny_bind (wpAny_eqBool_tuple hu x2 y2 ?_);by_cases hk:x.2=y.2
   ·rw[decide_eq_true hk];exact wpAny_pure ⟨rfl,rfl,.inr (.inr ⟨rfl,Prod.ext hxy hk⟩)⟩
   ·rw[decide_eq_false hk];rw[decide_eq_false (show ¬x=y from λz=>hk (by rw[z]))]at h;exact wpAny_bind (wpAny_pure (wpAny_pure (wpAny_pure h)))
  ·cases e
 ·rintro⟨r1,r2⟩ s' ⟨hr,rfl,e|⟨e,_⟩|⟨_,hxy⟩⟩
  ·cases e
  ·cases e
  simp only at hr;subst hr;rw[decide_eq_true hxy]at h;exact wpAny_pure h
theorem CP{x y:List κ×List κ}{a b:Addr}{Q:Bool->Shared->Prop}(hu:A.units+4 < cLine)(hx:BKey kd s.heap x a)(hy:BKey kd s.heap y b)(h:Q (decide (x=y)) s):wpAny (model P w) A (PySem.eqBool (.ref a) (.ref b)) Q E s:=by
 unfold PySem.eqBool;try with_reducible refine wpAny_holding ?_
 show wpAny _ _ (if (Z3 a==Z3 b)=true then _ else _) Q E s;by_cases hab:(Z3 a==Z3 b)=true
 ·rw[if_pos hab];have e:a=b:=by have:=eq_of_beq hab;injection this
  subst e;have e:=hx.inj hy;subst e;rw[decide_eq_true rfl]at h;exact wpAny_bind (wpAny_rule (wpAny_pure h))
 ·rw[if_neg hab];have h1:A.in1.units < cLine:=by show A.units+1 < cLine;omega
  exact wpAny_bind (wpAny_richCompare_same_room (op:=.Eq) hx.ty hy.ty F.slot_tuple_eq
    (wpAny_call_entry F.slot_tuple_eq hx.ty F.entry_tuple_eq (kN h1 hx hy ⟨_,rfl,(λe=>nomatch e),wpAny_truthy_bool h⟩) (F.args_tuple_eq_2 _ _)) (by omega))
theorem gD{k:List κ}{a:Addr}{Q:Bool->Shared->Prop}(hk:IsTupleKey kd s.heap k a)(h:Q true s):wpAny (model P w) A (eqIsQuiet (n+1) (.ref a)) Q E s:=by
 have hT:=hk.typeIs;obtain⟨o,its,m,ho,_,hd,hi⟩:=hk;unfold eqIsQuiet;refine wpAny_bind (wpAny_specialOf hT F.slot_tuple_eq.lookup ?_);show wpAny _ _ (isInstance (.ref a) (.type "tuple") >>= _) _ _ s;refine wpAny_bind (wpAny_isInstance hT isSubtype_tuple_tuple ?_);simp only[O6,S2,if_false];refine wpAny_bind (wpAny_seqItems ho hd ?_);refine wpAny_bind ?_;show wpAny _ _ (forIn its _ _) _ _ s;rw[<- U6];refine wpAny_forIn_list _ (λrest r s'=>r.1=none/\s'=s/\∀v∈rest,carriedByValue v=true) _ ?_ ?_ _ _ ⟨rfl,rfl,hi.byValue⟩
 ·rintro v rest r s' ⟨hr,rfl,hall⟩;rw[eqIsQuiet_byValue _ (hall v v0)];exact wpAny_bind (wpAny_pure (wpAny_pure ⟨rfl,rfl,λu hu'=>hall u (q0 _ hu')⟩))
 ·rintro⟨r1,r2⟩ s' ⟨hr,rfl,_⟩;simp only at hr;subst hr;exact wpAny_pure h
theorem Gy{k:List κ×List κ}{a:Addr}{Q:Bool->Shared->Prop}(hk:BKey kd s.heap k a)(h:Q true s):wpAny (model P w) A (eqIsQuiet 8 (.ref a)) Q E s:=by
 have hT:=hk.ty;obtain⟨o,b,c,n,ho,_,hd,x1,x2⟩:=hk;unfold eqIsQuiet;refine wpAny_bind (wpAny_specialOf hT F.slot_tuple_eq.lookup ?_);show wpAny _ _ (isInstance (.ref a) (.type "tuple") >>= _) _ _ s;refine wpAny_bind (wpAny_isInstance hT isSubtype_tuple_tuple ?_);simp only[O6,S2,if_false];refine wpAny_bind (wpAny_seqItems ho hd ?_);refine wpAny_bind ?_;show wpAny _ _ (forIn #[Z3 b,Z3 c] _ _) _ _ s;rw[<- U6];refine wpAny_forIn_list _ (λrest r s'=>r.1=none/\s'=s/\∀v∈rest,v=.ref b\/v=.ref c) _ ?_ ?_ _ _ ⟨rfl,rfl,λv hv=>by simpa using hv⟩
 ·rintro v rest r s' ⟨hr,rfl,hall⟩;have hrest:∀v∈rest,v=.ref b\/v=.ref c:=λu hu'=>hall u (q0 _ hu');rcases hall v v0 with rfl|rfl
  ·exact wpAny_bind (gD x1 (wpAny_pure ⟨rfl,rfl,hrest⟩))
  ·exact wpAny_bind (gD x2 (wpAny_pure ⟨rfl,rfl,hrest⟩))
 ·rintro⟨r1,r2⟩ s' ⟨hr,rfl,_⟩;simp only at hr;subst hr;exact wpAny_pure h
noncomputable def KW(kd:KeyKind P w κ):HeapKind P w (List κ×List κ) where
 is:=BKey kd
 hash:=yx kd
 draws:=λk=>k.1.length+1+(k.2.length+1)+1
 room:=λA=>A.units+4 < cLine
 inj:=λp q=>p.inj q
 keeps:=λx ho hd hs=>x.stays ho hd hs
 pyHash:=λhu hk h=>AI hu hk h
 eqBool:=λhu hx hy h=>CP hu hx hy h
 quiet:=λhk h=>Gy hk h
end
end L2
namespace L3
open L2
section
variable {e e1:Expr}{a:AD}{p pos p2:Pos}
theorem mZ{k:Nat}(hr:Room k A):A.units+6 < cLine:=B3 (v9 (by decide:6<=64) _) hr.units
end
end L3
namespace L2
theorem JU{R:α->β->Prop}:∀{l:List α}{m:List β},Paired R l m->∀{i:Nat}{x:α},l[i]?=some x->∃y,m[i]?=some y/\R x y
 | _,_,.nil,i,x,h=>by simp at h
 | _,_,.cons r t,0,x,h=>by simp only[o5,Option.some.injEq]at h;subst h;exact ⟨_,rfl,r⟩
 | _,_,.cons r t,i+1,x,h=>by simp only[U2]at h;obtain⟨y,e,ry⟩:=JU t h;exact ⟨y,e,ry⟩
section
variable {κ:Type}{hs:κ->Int}
theorem zx{d d':Addr}{ep:Nat}{xs:List (κ×Addr×V)}(e:ObjOk P w H h d (rX hs d' ep xs)):d'=d:=by
 obtain⟨f,⟨o,ho⟩,st⟩:=e;by_cases z:d'=d
 ·exact z
 exfalso;obtain⟨⟨vs,pr,o',es,e1,e2,e3,e4⟩,_⟩:=id f;obtain⟨⟨vs2,_,o2,es2,g1,g2,_⟩,_⟩:=st h (h.update d' λ_=>{ cls:=.type "tuple",data:=.seq #[] }) f λq hq=>by rw[J3 _ d d' _ (E3 z)];exact hq
 have g3:(h.update d' λ_=>{ cls:=.type "tuple",data:=.seq #[] }).get? d'=some { cls:=.type "tuple",data:=.seq #[] }:=w6 _ e1 rfl;rw[g3]at g1;injection g1 with g1;rw[<- g1]at g2;exact absurd g2.1 (by decide)
theorem ext_at{d d':Addr}{ep:Nat}{xs:List (κ×Addr×V)}(I:Inv X pins σ H s)(e:H d=some (rX hs d' ep xs)):∃(vs:List (κ×Addr×Value)) (o:Obj) (es:Array DictEntry),Paired (λx v=>x.1=v.1/\x.2.1=v.2.1/\RelV x.2.2 v.2.2) xs vs/\s.heap.get? d=some o/\o.ExactDict/\o.data=.dict es ep/\(es.toList=vs.map λx=>⟨hs x.1,.ref x.2.1,x.2.2⟩)/\es.size=xs.length/\(xs.map (·.1)).Nodup/\xs.length<=sizeLine/\(d==sysModules)=false:=by
 have ed:=zx (show ObjOk X.prog X.w H s.heap d (rX hs d' ep xs) from I.hok d _ e);subst ed;obtain⟨⟨⟨vs,pr,o,es,e1,e2,e3,e4⟩,nd,hl,hm⟩,_⟩:=(show ObjOk X.prog X.w H s.heap d' (rX hs d' ep xs) from I.hok d' _ e);refine ⟨vs,o,es,pr,e1,e2,e3,e4,?_,nd,hl,hm⟩;have:=congrArg B4 e4;rw[j0,<- pr.length]at this;simpa using this
end
def uR(K:n0):List V->Hp->VK->Prop:=λvs H1 Q=>∃(k1:Kd) (l1:Addr) (k2:Kd) (l2:Addr) (xs:List (List Int×Addr×V)),vs=[.ref l1,.ref l2]/\Sq k1 K H1 l1 (xs.map λx=>V.ref x.2.1)/\Sq k2 K H1 l2 (xs.map λx=>x.2.2) /\
 (∀x∈xs,H1 x.2.1=some (.tup (x.1.map V.int)))/\(xs.map (·.1)).Nodup/\∀l ep,H1 l=none->Q (.ref l) (UQ H1 l (rX hL l ep xs))
def WR(K:n0)(ta:TA):TE:=λσ H Q=>ta σ H λvs H1=>uR K vs H1 Q
theorem TK:∀{ks:List Int}{us:List Value},Vals (ks.map V.int) us->ItemsAre (intKind P w) ks us
 | [],_,r=>by cases r;exact .nil
 | k :: ks,_,r=>by
  cases r with
  | cons h t=>obtain⟨tk,rfl⟩:=h;exact .cons (by show b9 k (.int k tk)=true;simp[b9]) (TK t)
theorem UK{R:α->β->Prop}{x:α}{y:β}:∀{l:List α}{m:List β},Paired R l m->R x y->Paired R (l++[x]) (m++[y])
 | _,_,.nil,r=>.cons r .nil
 | _,_,.cons r0 t,r=>.cons r0 (UK t r)
theorem TX{κ:Type}:∀{xs:List (κ×Addr×V)}{vs:List (κ×Addr×Value)},Paired (λx v=>x.1=v.1/\x.2.1=v.2.1/\RelV x.2.2 v.2.2) xs vs->vs.map (·.1)=xs.map (·.1)
 | _,_,.nil=>rfl
 | _,_,.cons r t=>by simp only[T1,TX t,r.1]
theorem SY{R:α->β->Prop}:∀{l:List α}{m:List β},Paired R l m->l.length=m.length
 | _,_,.nil=>rfl
 | _,_,.cons _ t=>by simp[SY t]
theorem ZJ{R:α->β->Prop}:∀{l:List α}{m:List β},Paired R l m->∀y∈m,∃x∈l,R x y
 | _,_,.nil,y,h=>by cases h
 | _,_,.cons r t,y,h=>by
  rcases W0.mp h with z|z
  ·subst z;exact ⟨_,v0,r⟩
  ·obtain⟨x,hx,r'⟩:=ZJ t y z;exact ⟨x,q0 _ hx,r'⟩
theorem Ax{κ:Type}[DecidableEq κ]{vs:List (κ×Addr×Value)}{k:κ}(h:k∉vs.map (·.1)):atKey vs k=none:=atKey_none_of_get λj p e=>h (J0.mpr ⟨_,Q1 e,rfl⟩)
theorem EH{α:Type}{l:List α}{i:Nat}{x:α}(h:l[i]?=some x):l.take (i+1)=l.take i++[x]:=by have hi:=(V0.mp h).1;have e:=(V0.mp h).2;rw[List.take_add_one,h];rfl
theorem VV{κ:Type}{xs:List (κ×Addr×V)}{i:Nat}{x:κ×Addr×V}(nd:(xs.map (·.1)).Nodup)(h:xs[i]?=some x):x.1∉(xs.take i).map (·.1):=λz=>by
 obtain⟨y,hy,e⟩:=J0.mp z;obtain⟨j,hj⟩:=x6.mp hy;rw[List.getElem?_take]at hj;split at hj
 ·rename_i hlt;have a1:(xs.map (·.1))[j]?=some x.1:=by rw[X0,hj,u5,e]
  have a2:(xs.map (·.1))[i]?=some x.1:=by rw[X0,h];rfl
  have:=(v8 (V0.mp a1).1 nd).mp (a1.trans a2.symm);omega
 ·cases hj
theorem lN{a b:Expr}{ta:TA}{p pos p0 pos0:Pos}(hcm:X.calm=true)(hu:X.A.units+2 < cLine)(hg0:Gl X "dict")(hm0:X.mg "dict"=none)(hv0:bootBuiltins "dict"=some (.type "dict"))(hg:Gl X "zip")(hm:X.mg "zip"=none)(ha:PA X [a,b] ta)(hs:starEach [a,b] X.env=(false,eval a X.env) :: starEach [b] X.env) (hpl:(backTo pos (starEach [b] X.env)).any (·.1)=false)(hs0:starEach [.Call (.Name "zip" p) [a,b] [] pos] X.env=(false,eval (.Call (.Name "zip" p) [a,b] [] pos) X.env) :: starEach [] X.env) (hpl0:(backTo pos0 (starEach [] X.env)).any (·.1)=false):PE X (.Call (.Name "dict" p0) [.Call (.Name "zip" p) [a,b] [] pos] [] pos0) (WR X.K ta):=by
 intro pins s σ H Q I h;refine wpAny_Call_Name_kw (WZ I hg0 hm0 hv0 ?_ (by decide) (by decide));refine Y3 ?_ hs0 hpl0;rw[hs0];show wpAny _ _ (spliced ((false,eval (.Call (.Name "zip" p) [a,b] [] pos) X.env) :: backTo pos0 (starEach [] X.env))) _ _ s;refine Calls.spliced_cons ?_;refine Call_ (WZ I hg hm boot_zip (Y3 (hX (ha pos pins s σ H _ I h) λus s1 ⟨vs,H1,I1,r1,q1⟩=>?_) hs hpl));obtain⟨k1,l1,k2,l2,xs,e,q1,q2,hky,hnd,q⟩:=q1;subst e;obtain rfl:us=[.ref l1,.ref l2]:=by cases r1 with|cons r rr=>cases r;cases rr with|cons r rr=>cases r;cases rr;rfl
 obtain⟨its1,rv1,p1,z1⟩:=I1.sq q1;obtain⟨its2,rv2,p2,z2⟩:=I1.sq q2;have lt:∀{k:Kd}{l:Addr}{xs:Array Value},SqAt k s1.heap l xs->l < s1.heap.objs.size:=λ{k l xs} p=>by
  cases k with
  | l=>obtain⟨o,e,_⟩:=p;exact G0 e
  | t=>obtain⟨o,e,_⟩:=p;exact G0 e
 refine callType_new F.called_zip (by decide) (F.typeCall_zip_2 _ _) (F.newCall_zip_2 _ _) (λobj=>F.args_object_init_3 obj _ _) F.entry_zip_new (gH k1 k2 l1 l2 its1.toArray its2.toArray) ⟨p1,p2,?_⟩;have zI:(iq s1.heap k1 k2 l1 l2).objs.size=s1.heap.objs.size+2:=by simp[Z2]
 have zT:(jq s1.heap k1 k2 l1 l2).objs.size=s1.heap.objs.size+3:=by simp[Z2]
 have zO:(kq s1.heap k1 k2 l1 l2).objs.size=s1.heap.objs.size+4:=by simp[Z2]
 have zZ:(pJ s1.heap k1 k2 l1 l2).objs.size=s1.heap.objs.size+5:=by simp[Z2]
 have gZ:(pJ s1.heap k1 k2 l1 l2).get? (kq s1.heap k1 k2 l1 l2).objs.size=some _:=L0 _ rfl;have gO:(pJ s1.heap k1 k2 l1 l2).get? (jq s1.heap k1 k2 l1 l2).objs.size=some _:=g0 _ (L0 _ rfl);have gT:(pJ s1.heap k1 k2 l1 l2).get? (iq s1.heap k1 k2 l1 l2).objs.size=some _:=g0 _ (g0 _ (L0 _ rfl));have g1:(pJ s1.heap k1 k2 l1 l2).get? s1.heap.objs.size=some (OX k1 l1):=g0 _ (g0 _ (g0 _ (g0 _ (L0 _ (by cases k1<;>rfl)))));have g2:(pJ s1.heap k1 k2 l1 l2).get? (s1.heap.push (OX k1 l1)).objs.size=some (OX k2 l2):=g0 _ (g0 _ (g0 _ (L0 _ (by cases k2<;>rfl))));have zz2:(s1.heap.push (OX k1 l1)).objs.size=s1.heap.objs.size+1:=by simp[Z2]
 rw[zO,zT,zI]at gZ;rw[zI,zz2]at gT;rw[zT]at gO;rw[zz2]at g2;show _/\_;rw[zO];have kp:∀b o,s1.heap.get? b=some o->(pJ s1.heap k1 k2 l1 l2).get? b=some o:=λb o e=>g0 _ (g0 _ (g0 _ (g0 _ (g0 _ (e)))));refine ⟨⟨_,gZ,rfl⟩,Calls.spliced_nil ?_⟩;have len1:=rv1.length;have len2:=rv2.length;have DD:=aM s1.heap.objs.size l1 l2 (lt p1) (lt p2);have hxl:its1.length=xs.length:=by rw[<- len1,j0]
 have hxl2:its2.length=xs.length:=by rw[<- len2,j0]
 have key:∀{x:List Int×Addr×V}{h':Heap},x∈xs->(∀b ob,s1.heap.get? b=some ob->h'.get? b=some ob)->(tupleKind (intKind X.prog X.w)).is h' x.1 x.2.1:=λ{x h'} hx kk=>by obtain⟨_,its,r,o,h1,h2,n,h3,_⟩:=(show ObjOk X.prog X.w H1 s1.heap x.2.1 (.tup (x.1.map V.int)) from I1.hok _ _ (hky x hx));exact ⟨o,its.toArray,n,kk _ _ h1,h2,h3,by simpa using TK r⟩
 have hb:(s1.heap.objs.size+5==sysModules)=false:=beq_eq_false_iff_ne.mpr (E3 (U0 (O0 I1.big (Q2 _ _))));have hz5:xs.length<=sizeLine:=by omega
 refine qV (s:={ s1 with heap:=pJ s1.heap k1 k2 l1 l2 }) (xs1:=its1.toArray) (xs2:=its2.toArray) (n:=xs.length) (λi h=>(∀b ob,s1.heap.get? b=some ob->h.get? b=some ob)/\∃vs:List (List Int×Addr×Value),Paired (λx v=>x.1=v.1/\x.2.1=v.2.1/\RelV x.2.2 v.2.2) (xs.take i) vs/\∃o es ep,h.get? (s1.heap.objs.size+5)=some o/\o.ExactDict/\o.data=.dict es ep/\es.toList=vs.map λx=>⟨hL x.1,.ref x.2.1,x.2.2⟩)
  (I1.ok.hd hcm) DD (by simp only[N0];omega) (by simp only[N0];omega) (.inl (by simp;omega)) gZ gT gO (ItAt.new k1 g1) (ItAt.new k2 g2)
  (p1.at λo e=>kp _ _ e) (p2.at λo e=>kp _ _ e) (by show l1 < (pJ s1.heap k1 k2 l1 l2).objs.size;rw[zZ];exact O0 (lt p1) (Q2 _ _)) (by show l2 < (pJ s1.heap k1 k2 l1 l2).objs.size;rw[zZ];exact O0 (lt p2) (Q2 _ _)) ?_ ?_ ?_ ?_
 ·intro h' kk e;dsimp only at e;rw[zZ]at e;exact ⟨λb o x=>kk b o (kp b o x),[],.nil,_,#[],0,e,⟨rfl,rfl,rfl⟩,rfl,rfl⟩
 ·rintro i h1 h2 ⟨kk,vs,rel,o',es,ep,ho,rest⟩ k3;have far:∀{b:Addr},b < s1.heap.objs.size->b≠s1.heap.objs.size+4/\b≠s1.heap.objs.size+3/\b≠s1.heap.objs.size/\b≠s1.heap.objs.size+1:=λ{b} z=>⟨GW 4 z,GW 3 z,GW 0 z,GW 1 z⟩;refine ⟨λb o x=>?_,vs,rel,o',es,ep,?_,rest⟩
  ·obtain⟨f1,f2,f3,f4⟩:=far (G0 x);exact k3 b o f1 f2 f3 f4 (kk b o x)
  ·refine k3 _ _ ?_ ?_ ?_ ?_ ho<;>(show ¬(@Eq Nat _ _))<;>omega
 ·rintro i x y s' Q' E' hi hx hy ⟨kk,vs,rel,o',es,ep,ho,a1,a2,a3⟩ hq';dsimp only at hq' ⊢;rw[zZ]at hq' ⊢;obtain⟨y1,ey1,ry1⟩:=rv1.getV (by simpa using hx);obtain⟨y2,ey2,ry2⟩:=rv2.getV (by simpa using hy);obtain⟨⟨k,b,v⟩,hxi⟩:∃x,xs[i]?=some x:=⟨_,A0 hi⟩;rw[X0,hxi]at ey1 ey2;cases ey1;cases ey2;cases ry1;have hxm:(k,b,v)∈xs:=Q1 hxi;have hvl:=SY rel;rw[U1]at hvl;have hz2:vs.length<=sizeLine:=by omega
  have hfr:=VV hnd hxi;rw[<- TX rel]at hfr;have hvn:(vs.map (·.1)).Nodup:=by rw[TX rel,A8];exact hnd.sublist (m7 _ _)
  refine wpAny_dictSet_heap (hsz:=hz2) (knd:=tupleKind (intKind X.prog X.w)) hu (key hxm kk) ⟨o',es,ep,ho,a1,a2,a3,λu hu'=>?_,hvn⟩ λh' dd' sb=>hq' h' _ ⟨λc o e=>?_,vs++[(k,b,y)],?_,?_⟩ sb
  ·obtain⟨x',hx',r1,r2,_⟩:=ZJ rel u hu';have:=key (S3 hx') kk;rw[r1,r2]at this;exact this
  ·have hc:c < s1.heap.objs.size:=G0 e;exact (sb.2 c (GW 5 hc)).trans (kk c o e)
  ·rw[EH hxi];exact UK rel ⟨rfl,rfl,ry2⟩
  ·obtain⟨q,es,ep,hq,h2,h3,h4,_,h5⟩:=dd';rw[storedH_new (Ax hfr)]at h4;exact ⟨q,es,ep,hq,h2,h3,h4⟩
 ·rintro h' tk ⟨kk,vs,rel,o',es,ep,f1,f2,f3,f4⟩;rw[W1 (u0 _)]at rel;have hfr:H1 (s1.heap.objs.size+5)=none:=I1.hok.fresh (Q2 _ _);dsimp only;rw[zZ];refine ⟨.ref (s1.heap.objs.size+5),_,I1.laid (t':=tk) kk (Q2 _ _) (show ObjOk X.prog X.w _ h' _ (rX hL (s1.heap.objs.size+5) ep xs) from ⟨⟨⟨vs,rel,o',es,f1,f2,f3,f4⟩,hnd,hz5,hb⟩,⟨o',f1⟩,λh1 h2 z k=>?_⟩),rfl,q _ ep hfr⟩;obtain⟨⟨vs,r,o,es,g1,g2⟩,g3⟩:=z;exact ⟨⟨vs,r,o,es,k _ g1,g2⟩,g3⟩
def BK(H:Hp)(y:V)(k:List Int×List Int):Prop:=∃b c e:Addr,y=.ref b/\H b=some (.tup [.ref c,.ref e])/\H c=some (.tup (k.1.map V.int))/\H e=some (.tup (k.2.map V.int))
theorem bF(I:Inv X pins σ H s){b:Addr}{zs:List V}(e:H b=some (.tup zs)):∃its,Vals zs its/\∃o,s.heap.get? b=some o/\o.cls=.type "tuple"/\∃n,o.data=.seq its.toArray n:=by obtain⟨_,its,r,o,h1,h2,n,h3,_⟩:=(show ObjOk X.prog X.w H s.heap b (.tup zs) from I.hok b _ e);exact ⟨its,r,o,h1,h2,n,h3⟩
theorem iD(I:Inv X pins σ H s){ks:List Int}{b:Addr}(e:H b=some (.tup (ks.map V.int))):IsTupleKey (intKind X.prog X.w) s.heap ks b:=by obtain⟨its,r,o,h1,h2,n,h3⟩:=bF I e;exact ⟨o,its.toArray,n,h1,h2,h3,by simpa using TK r⟩
theorem TY(I:Inv X pins σ H s){k:List Int×List Int}{b c e:Addr}(h1:H b=some (.tup [.ref c,.ref e]))(h2:H c=some (.tup (k.1.map V.int)))(h3:H e=some (.tup (k.2.map V.int))):BKey (intKind X.prog X.w) s.heap k b:=by obtain⟨its,r,o,e1,e2,n,e3⟩:=bF I h1;obtain⟨u1,u2,rfl,r1,r2⟩:=lK r;cases r1;cases r2;exact ⟨o,c,e,n,e1,e2,e3,iD I h2,iD I h3⟩
def jD(K:n0):List V->Hp->VK->Prop:=λvs H Q=>∃(p:Addr) (ys:List V) (xs:List ((List Int×List Int)×Addr×V)),vs=[.ref p]/\SqL K H p ys/\ys.length=xs.length /\
 (∀(i:Nat) x,xs[i]?=some x->∃q,ys[i]?=some (.ref q)/\H q=some (.tup [.ref x.2.1,x.2.2]))/\(∀x∈xs,∃c e,H x.2.1=some (.tup [.ref c,.ref e])/\H c=some (.tup (x.1.1.map V.int))/\H e=some (.tup (x.1.2.map V.int))) /\
 (xs.map (·.1)).Nodup/\∀l ep,H l=none->Q (.ref l) (UQ H l (rX hB l ep xs))
theorem FH(hc:X.calm=true)(hu:X.A.units+6 < cLine):dX X (.type "dict") (jD X.K):=by
 intro pins s σ H vs us Q I r h;obtain⟨p,ys,xs,rfl,hq,hyl,hp,hk,hnd,q⟩:=h;obtain⟨u,rfl,rx⟩:=qZ r;cases rx;obtain⟨its,r',⟨o,n,e1,e2,e3,e4⟩,hz⟩:=I.list hq;have hlen:=r'.length;have key:∀{x:(List Int×List Int)×Addr×V}{h':Heap},x∈xs->(∀b ob,s.heap.get? b=some ob->h'.get? b=some ob)->BKey (intKind X.prog X.w) h' x.1 x.2.1:=λ{x h'} hx kk=>by obtain⟨c,e,g1,g2,g3⟩:=hk x hx;exact (TY I g1 g2 g3).mono kk
 have hb:(s.heap.objs.size==sysModules)=false:=beq_eq_false_iff_ne.mpr (E3 (U0 I.big));have hz5:xs.length<=sizeLine:=by omega
 refine MY (λi h=>∃vs:List ((List Int×List Int)×Addr×Value),Paired (λx v=>x.1=v.1/\x.2.1=v.2.1/\RelV x.2.2 v.2.2) (xs.take i) vs/\∃o es ep,h.get? s.heap.objs.size=some o/\o.ExactDict/\o.data=.dict es ep/\es.toList=vs.map λx=>⟨hB x.1,.ref x.2.1,x.2.2⟩) (I.ok.hd hc) e1 e2 e4 e3 ?_ ?_ ?_ ?_
 ·intro h' _ e;exact ⟨[],.nil,_,#[],0,e,⟨rfl,rfl,rfl⟩,rfl,rfl⟩
 ·rintro i h1 h2 ⟨vs,rel,o',es,ep,ho,rest⟩ kp;exact ⟨vs,rel,o',es,ep,kp _ _ (Nat.lt_succ_self _) ho,rest⟩
 ·rintro i v s' Q' E' hv ⟨vs,rel,o',es,ep,ho,a1,a2,a3⟩ kk hq';have hi:i < its.length:=(V0.mp (by simpa using hv)).1;obtain⟨⟨k,b,w'⟩,hxi⟩:∃x,xs[i]?=some x:=⟨_,A0 (by omega)⟩;obtain⟨qq,ey,eq⟩:=hp i _ hxi;obtain⟨y,ey',ry⟩:=r'.getV (by simpa using hv);rw[ey]at ey';cases ey';cases ry;have hxm:(k,b,w')∈xs:=Q1 hxi;obtain⟨its2,r2,ob,h1,h2,m,h3⟩:=bF I eq;obtain⟨u1,u2,rfl,ru1,ru2⟩:=lK r2;cases ru1;have hvl:=SY rel;rw[U1]at hvl;have hz2:vs.length<=sizeLine:=by omega
  have hfr:=VV hnd hxi;rw[<- TX rel]at hfr;have hvn:(vs.map (·.1)).Nodup:=by rw[TX rel,A8];exact hnd.sublist (m7 _ _)
  refine ⟨qq,.ref b,u2,rfl,⟨ob,kk _ _ h1,h2,m,h3⟩,wpAny_dictSet_heap (hsz:=hz2) (knd:=KW (intKind X.prog X.w)) (show X.A.units+1+1+4 < cLine by omega) (key hxm kk) ⟨o',es,ep,ho,a1,a2,a3,λu hu'=>?_,hvn⟩ λh' dd' sb=>hq' h' _ ⟨vs++[(k,b,u2)],?_,?_⟩ sb⟩
  ·obtain⟨x',hx',r1,r2,_⟩:=ZJ rel u hu';have:=key (S3 hx') kk;rw[r1,r2]at this;exact this
  ·rw[EH hxi];exact UK rel ⟨rfl,rfl,ru2⟩
  ·obtain⟨q,es,ep,hq,h2,h3,h4,_,h5⟩:=dd';rw[storedH_new (Ax hfr)]at h4;exact ⟨q,es,ep,hq,h2,h3,h4⟩
 ·rintro h' tk ⟨vs,rel,o',es,ep,f1,f2,f3,f4⟩ kp;have et:xs.take its.toArray.size=xs:=by rw[W1];simp only[N0];omega
  rw[et]at rel;have hfr:H s.heap.objs.size=none:=I.hok.fresh (u0 _);refine ⟨.ref s.heap.objs.size,_,I.laid (t':=tk) kp (u0 _) (show ObjOk X.prog X.w _ h' _ (rX hB s.heap.objs.size ep xs) from ⟨⟨⟨vs,rel,o',es,f1,f2,f3,f4⟩,hnd,hz5,hb⟩,⟨o',f1⟩,λh1 h2 z k=>?_⟩),rfl,q _ ep hfr⟩;obtain⟨⟨vs,r,o,es,g1,g2⟩,g3⟩:=z;exact ⟨⟨vs,r,o,es,k _ g1,g2⟩,g3⟩
def rB:R2:=λx y H Q=>∃(d d':Addr) (ep:Nat) (xs:List ((List Int×List Int)×Addr×V)) (k:List Int×List Int) (b:Addr) (v:V),x=.ref d/\H d=some (rX hB d' ep xs)/\(∀x∈xs,∃c e,H x.2.1=some (.tup [.ref c,.ref e])/\H c=some (.tup (x.1.1.map V.int))/\H e=some (.tup (x.1.2.map V.int)))/\BK H y k/\(k,b,v)∈xs/\Q v H
def mN(td ty:TE):TE:=λσ H Q=>td σ H λx H1=>ty σ H1 λy H2=>rB x y H2 Q
theorem Iy{o i:Expr}{td ty:TE}{pos:Pos}(hu:X.A.units+6 < cLine)(ho:PE X o td)(hi:PE X i ty)(hs:Nz i):PE X (.Subscript o i pos) (mN td ty):=by
 intro pins s σ H Q I h;refine GF PySem.F.slot_dict_getitem.lookup hs (hX (ho pins s σ H _ I h) λu s1 ⟨x,H1,I1,rx,q1⟩=>hX (hi pins s1 σ H1 _ I1 q1) λiv s2 ⟨y,H2,I2,ry,q2⟩=>?_);obtain⟨d,d',ep,xs,k,b,v,ex,hd,hk,⟨bb,c,e,ey,g1,g2,g3⟩,hm,q⟩:=q2;subst ex;subst ey;obtain rfl:u=Z3 d:=rx;obtain rfl:iv=Z3 bb:=ry;obtain⟨vs,ob,es,pr,e1,e2,e3,e4,hz,hnd,_,_⟩:=ext_at I2 hd;refine ⟨⟨ob,e1,e2.1⟩,?_⟩;obtain⟨j,hj⟩:=x6.mp hm;obtain⟨⟨k',b',w'⟩,hv,r1,r2,r3⟩:=JU pr hj;have r1:k=k':=r1;subst r1;have hvn:(vs.map (·.1)).Nodup:=by rw[TX pr];exact hnd
 have hall:∀x∈vs,(KW (intKind X.prog X.w)).is s2.heap x.1 x.2.1:=λx hx=>by obtain⟨x',hx',r1,r2,_⟩:=ZJ pr x hx;obtain⟨c,e,f1,f2,f3⟩:=hk x' hx';have:=TY I2 f1 f2 f3;rw[r1,r2]at this;exact this
 refine wpAny_getItem_heap (knd:=KW (intKind X.prog X.w)) (show X.A.units+1+4 < cLine by omega) (TY I2 g1 g2 g3) ⟨ob,es,ep,e1,e2,e3,e4,hall,hvn⟩ (atKey_of_get hvn hv) ?_;exact ⟨v,H2,I2.tok _,r3,q⟩
end L2
namespace L3
open L2
noncomputable abbrev tI(k:List Int):D:=.tuple (k.map i0)
noncomputable abbrev b2(k:List Int×List Int):D:=.tuple [tI k.1,tI k.2]
section
variable {F:Hp}
theorem kD:∀{ks:List Int}{xs:List V},DaAll K F xs (ks.map i0)->xs=ks.map V.int
 | [],_,h=>by cases h;rfl
 | k :: ks,_,h=>by
  cases h with
  | cons h t=>rw[kD t];cases h;rfl
theorem Dx{v:V}{k:List Int}(h:Da K F v (tI k)):∃b,v=.ref b/\F b=some (.tup (k.map V.int)):=by
 cases h with
 | tup e t=>have:=kD t;subst this;exact ⟨_,rfl,e⟩
theorem Ex{v:V}{k:List Int×List Int}(h:Da K F v (b2 k)):∃b c e,v=.ref b/\F b=some (.tup [.ref c,.ref e])/\F c=some (.tup (k.1.map V.int))/\F e=some (.tup (k.2.map V.int)):=by
 cases h with
 | tup e t =>
  cases t with
  | cons h1 t =>
   cases t with
   | cons h2 t=>cases t;obtain⟨c,rfl,e1⟩:=Dx h1;obtain⟨g,rfl,e2⟩:=Dx h2;exact ⟨_,c,g,rfl,e,e1,e2⟩
theorem Fx{a b:List Int}(h:tI a=tI b):a=b:=by injection h with h;exact (V6 (λx y z=>by injection z)).mp h
theorem BI{a b:List Int×List Int}(h:b2 a=b2 b):a=b:=by injection h with h;injection h with h1 h2;injection h2 with h2 _;exact Prod.ext (Fx h1) (Fx h2)
theorem At.mark{v:V}{d0:D}(h:At K F H v (.dict [(.bool false,d0)]))(hd:∀L,d0≠.list L):Da K F v (.dict [(.bool false,d0)])\/∃a a' ep xs ps,v=.ref a/\H a=some (rX hB a' ep xs)/\DaBd K F xs ps/\g9 [(.bool false,d0)]=iK ps:=by
 rcases h with h|⟨a,o,rfl,_,e,h⟩
 ·exact .inl h
 ·cases o<;>first|exact h.elim|(rcases h.ext with⟨a',ep,xs,ps,z,z2,t⟩|⟨a',ep,xs,ps,z,z2,t⟩;(injection z2 with z2;injection z2 with z2 _;injection z2 with _ z2;exact absurd z2 (hd _));exact .inr ⟨a,a',ep,xs,ps,rfl,by rw[<- z];exact e,t,z2⟩)|skip
  ·have h:DaKV K F _ [(W2 false,d0)]:=h;generalize e9:([(W2 false,d0)]:List (D×D))=es at h;cases h with
   | nil=>cases e9
   | @cons k _ _ _ _ _ _=>cases k<;>cases e9
  ·have h:DaKT K F _ [(W2 false,d0)]:=h;generalize e9:([(W2 false,d0)]:List (D×D))=es at h;cases h with
   | nil=>cases e9
   | cons _ _=>cases e9
theorem lD{v:V}{d0:D}(h:Da K F v (.dict [(.bool false,d0)])):(∃a,v=.ref a/\d0=.none/\F a=some (dM a))\/(∃a a' ep xs ps,v=.ref a/\F a=some (rX hL a' ep xs)/\DaPd K F xs ps/\d0=.list (ps.map λp=>.tuple [tI p.1,p.2])) \/ ∃a a' ep xs ps,v=.ref a/\F a=some (rX hB a' ep xs)/\DaBd K F xs ps/\d0=.tuple (ps.map λp=>.tuple [b2 p.1,p.2]):=by
 generalize e0:(g9 [(.bool false,d0)])=d at h;cases h with
 | opq q=>cases e0;exact .inl ⟨_,rfl,rfl,q⟩
 | pd q t=>injection e0 with e0;injection e0 with e0 _;injection e0 with _ e0;exact .inr (.inl ⟨_,_,_,_,_,rfl,q,t,e0⟩)
 | bd q t=>injection e0 with e0;injection e0 with e0 _;injection e0 with _ e0;exact .inr (.inr ⟨_,_,_,_,_,rfl,q,t,e0⟩)
 | dk q t =>
  injection e0 with e0;subst e0;generalize e9:([(W2 false,d0)]:List (D×D))=es at t;cases t with
  | nil=>cases e9
  | @cons k _ _ _ _ _ _=>cases k<;>cases e9
 | dt q t =>
  injection e0 with e0;subst e0;generalize e9:([(W2 false,d0)]:List (D×D))=es at t;cases t with
  | nil=>cases e9
  | cons _ _=>cases e9
 | _=>cases e0
theorem DaBd.find:∀{xs:List ((List Int×List Int)×Addr×V)}{ps:List ((List Int×List Int)×D)},DaBd K F xs ps->∀{k:List Int×List Int}{d:D},(k,d)∈ps->∃b v,(k,b,v)∈xs/\Da K F v d
 | _,_,.nil,k,d,h=>by cases h
 | _,_,.cons e1 e2 e3 h t,k,d,z=>by
  rcases W0.mp z with z|z
  ·cases z;exact ⟨_,_,v0,h⟩
  ·obtain⟨b,v,m,g⟩:=DaBd.find t z;exact ⟨b,v,q0 _ m,g⟩
theorem DaBd.keys:∀{xs:List ((List Int×List Int)×Addr×V)}{ps:List ((List Int×List Int)×D)},DaBd K F xs ps->∀x∈xs,∃c e,F x.2.1=some (.tup [.ref c,.ref e])/\F c=some (.tup (x.1.1.map V.int))/\F e=some (.tup (x.1.2.map V.int))
 | _,_,.nil,x,h=>by cases h
 | _,_,.cons e1 e2 e3 h t,x,z=>by
  rcases W0.mp z with z|z
  ·subst z;exact ⟨_,_,e1,e2,e3⟩
  ·exact DaBd.keys t x z
theorem Rel.newE{G:Gh}{σ:L2.St}{a:Addr}{o:HO}(R:Rel K G F σ H ρ)(h:H a=none)(hk:stk o=false:=by rfl):Sub F (UQ F a o)/\Rel K G (UQ F a o) σ (UQ H a o) ρ:=by have R1:Rel K G F σ (UQ H a o) ρ:=R.laid h;refine R1.grow (a:=a) (o:=o) (R.h0 h) AQ (λi s e w z=>?_) hk;obtain⟨a',o',h1,h2,h3,h4⟩:=R.ow i s e w;rw[z]at h1;cases h1;rw[h]at h3;cases h3
end
def vR:D->D->(Sl->Prop)->Prop:=λd e Q=>∃ps:List (List Int×D),lP d=some (ps.map λp=>tI p.1)/\lP e=some (ps.map (·.2))/\(ps.map (·.1)).Nodup/\Q (.fz (qU ps))
theorem Gx{F:Hp}:∀{ps:List (List Int×D)}{ys1 ys2:List V},DaAll K F ys1 (ps.map λp=>tI p.1)->DaAll K F ys2 (ps.map (·.2)) -> ∃xs:List (List Int×Addr×V),xs.map (·.1)=ps.map (·.1)/\ys1=xs.map (λx=>V.ref x.2.1)/\ys2=xs.map (λx=>x.2.2)/\(∀x∈xs,F x.2.1=some (.tup (x.1.map V.int)))/\DaPd K F xs ps
 | [],_,_,h1,h2=>by cases h1;cases h2;exact ⟨[],rfl,rfl,rfl,λx hx=>(by cases hx),.nil⟩
 | p :: ps,_,_,h1,h2=>by
  cases h1 with
  | @cons v _ _ _ h1 t1 =>
   cases h2 with
   | @cons u _ _ _ h2 t2 =>
    obtain⟨xs,e1,e2,e3,e4,e5⟩:=Gx t1 t2;obtain⟨b,rfl,eb⟩:=Dx h1;refine ⟨(p.1,b,u) :: xs,by simp[e1],by simp[e2],by simp[e3],λx hx=>?_,.cons eb h2 e5⟩;rcases W0.mp hx with z|z
    ·subst z;exact eb
    ·exact e4 x z
theorem nN:SQ K (uR K) (o2 vR):=by
 intro G F σ H ρ vs ds Q Qd R ha w k;rcases ds with _|⟨d,_|⟨e,_|⟨e3,ds⟩⟩⟩<;>first|exact w.elim|skip
 ·obtain⟨v1,v2,rfl,h1,h2⟩:=ha.two;obtain⟨ps,e1,e2,nd,w⟩:=w;obtain⟨k1,l1,ys1,rfl,q1,d1⟩:=h1.seq R.sub e1;obtain⟨k2,l2,ys2,rfl,q2,d2⟩:=h2.seq R.sub e2;obtain⟨xs,g1,g2,g3,g4,g5⟩:=Gx d1 d2;rw[g2]at q1;rw[g3]at q2;refine ⟨k1,l1,k2,l2,xs,rfl,q1,q2,λx hx=>R.sub _ _ (g4 x hx),by rw[g1];exact nd,λl ep hl=>?_⟩;obtain⟨sb,R'⟩:=R.newE (o:=rX hL l ep xs) hl;exact k _ _ _ (.fz (qU ps)) sb R' (Da.pd AQ (g5.mono sb)) w
noncomputable def mD:D->(Sl->Prop)->Prop
 | .list ds,Q=>∃ps:List ((List Int×List Int)×D),(ds=ps.map λp=>.tuple [b2 p.1,p.2])/\(ps.map (·.1)).Nodup/\Q (.fz (iK ps))
 | _,_=>False
theorem Hx{F:Hp}:∀{ps:List ((List Int×List Int)×D)}{ys:List V},DaAll K F ys (ps.map λp=>.tuple [b2 p.1,p.2]) -> ∃xs:List ((List Int×List Int)×Addr×V),xs.map (·.1)=ps.map (·.1)/\ys.length=xs.length/\(∀(i:Nat) x,xs[i]?=some x->∃q,ys[i]?=some (.ref q)/\F q=some (.tup [.ref x.2.1,x.2.2]))/\DaBd K F xs ps
 | [],_,h=>by cases h;exact ⟨[],rfl,rfl,λi x e=>by simp at e,.nil⟩
 | p :: ps,_,h=>by
  cases h with
  | @cons v _ _ _ h t =>
   obtain⟨xs,e1,e2,e3,e4⟩:=Hx t;cases h with
   | @tup q us _ eq tt =>
    cases tt with
    | @cons y _ _ _ hy tt =>
     cases tt with
     | @cons u _ _ _ hu tt =>
      cases tt;obtain⟨b,c,e,rfl,f1,f2,f3⟩:=Ex hy;refine ⟨(p.1,b,u) :: xs,by simp[e1],by simp[e2],λi x ex=>?_,.cons f1 f2 f3 hu e4⟩;cases i with
      | zero=>cases ex;exact ⟨q,rfl,eq⟩
      | succ i=>exact e3 i x ex
theorem Nq:SQ K (jD K) (o1 mD):=bG λG F σ H ρ x d Q Qd R h1 w k=>by
 match d,h1,w with
 | .list ds,h1,⟨ps,e,nd,w⟩ =>
  subst e;obtain⟨a,us,rfl,e1,d1⟩:=h1.list R.sub;obtain⟨xs,g1,g2,g3,g4⟩:=Hx d1;refine ⟨a,us,xs,rfl,SqL.of e1,g2,λi x ex=>?_,λx hx=>?_,by rw[g1];exact nd,λl ep hl=>?_⟩
  ·obtain⟨q,z1,z2⟩:=g3 i x ex;exact ⟨q,z1,R.sub _ _ z2⟩
  ·obtain⟨c,e,z1,z2,z3⟩:=g4.keys x hx;exact ⟨c,e,R.sub _ _ z1,R.sub _ _ z2,R.sub _ _ z3⟩
  ·obtain⟨sb,R'⟩:=R.newE (o:=rX hB l ep xs) hl;exact k _ _ _ (.fz (iK ps)) sb R' (Da.bd AQ (g4.mono sb)) w
def sB:D->D->(Sl->Prop)->Prop:=λd e Q=>∃(ps:List ((List Int×List Int)×D)) (k:List Int×List Int) (r:D),d=iK ps/\e=b2 k/\(k,r)∈ps/\Q (.fz r)
theorem UY:∀{ps qs:List ((List Int×List Int)×D)},(ps.map λp=>B1 [b2 p.1,p.2])=(qs.map λp=>B1 [b2 p.1,p.2])->ps=qs
 | [],[],_=>rfl
 | [],_ :: _,h=>by cases h
 | _ :: _,[],h=>by cases h
 | p :: ps,q :: qs,h=>by simp only[T1,List.cons.injEq]at h;obtain⟨h1,h2⟩:=h;injection h1 with h1;injection h1 with h1 h3;injection h3 with h3 _;rw[Prod.ext (BI h1) h3,UY h2]
theorem At.b2{F:Hp}{v:V}{k:List Int×List Int}(s:Sub F H)(h:At K F H v (b2 k)):BK H v k:=by obtain⟨a,us,rfl,f1,e1,d1⟩:=h.tuple s;obtain⟨b,c,e,z,g1,g2,g3⟩:=Ex (Da.tup f1 d1);cases z;exact ⟨_,c,e,rfl,s _ _ g1,s _ _ g2,s _ _ g3⟩
theorem Jy:SQ K (jK rB) (o2 sB):=VU λG F σ H ρ x y d e Q Qd R h1 h2 w k=>by
 obtain⟨ps,kk,r,rfl,rfl,hm,w⟩:=w;have at':∃a a' ep xs,x=.ref a/\H a=some (rX hB a' ep xs)/\DaBd K F xs ps:=by
  rcases h1.mark (λL z=>by cases z) with h1|⟨a,a',ep,xs,qs,rfl,e1,d1,z⟩
  ·rcases lD h1 with⟨a,_,z,_⟩|⟨a,_,ep,xs,qs,_,_,_,z⟩|⟨a,a',ep,xs,qs,rfl,e1,d1,z⟩
   ·cases z
   ·cases z
   ·injection z with z;have:=UY z;subst this;exact ⟨a,a',ep,xs,rfl,R.sub _ _ e1,d1⟩
  ·injection z with z;injection z with z _;injection z with _ z;injection z with z;have:=UY z;subst this;exact ⟨a,a',ep,xs,rfl,e1,d1⟩
 obtain⟨a,a',ep,xs,rfl,e1,d1⟩:=at';obtain⟨b,v,m,dv⟩:=d1.find hm;refine ⟨a,a',ep,xs,kk,b,v,rfl,e1,λx hx=>?_,h2.b2 R.sub,m,k _ H F (.fz _) (Sub.refl _) R dv w⟩;obtain⟨c,e,z1,z2,z3⟩:=d1.keys x hx;exact ⟨c,e,R.sub _ _ z1,R.sub _ _ z2,R.sub _ _ z3⟩
section
variable {e e1 e2:Expr}{a b:AD}{p pos p2 tpos apos cpos:Pos}
theorem DP(hK:X.K=K)(hc:X.calm=true)(hu:X.A.units+2 < cLine)(hm:X.mg "dict"=none)(hv:bootBuiltins "dict"=some (.type "dict"))(hm2:X.mg "zip"=none)(ha:WA X [e1,e2] (JQ ([a,b].map (sQ K))))(hg:Gl X "dict":=by rfl)(hg2:Gl X "zip":=by rfl)(he:OQ e1=true:=by rfl)(he2:OQ e2=true:=by rfl) :
  WE X (.Call (.Name "dict" p) [.Call (.Name "zip" p2) [e1,e2] [] pos'] [] pos) (lift K (dY [a,b] (o2 vR))):=by
 subst hK;exact ⟨BY (lN hc hu hg hm hv hg2 hm2 ha.h (uQ he) (kX (by simp[he2])) (uQ rfl) (kX rfl)) λq=>LY nN q⟩
theorem Ix(hK:X.K=K)(hc:X.calm=true)(hu:X.A.units+6 < cLine)(hm:X.mg "dict"=none)(hv:bootBuiltins "dict"=some (.type "dict"))(ha:WA X [e] (JQ ([a].map (sQ K))))(hg:Gl X "dict":=by rfl)(he:OQ e=true:=by rfl) :
  WE X (.Call (.Name "dict" p) [e] [] pos) (lift K (dY [a] (o1 mD))):=by
 subst hK;exact pX Nq (FH hc hu) hm hv ha hg (by decide) (by decide) he rfl
theorem xK(hu:X.A.units+6 < cLine)(ha:WE X e1 (sQ K a))(hb:WE X e2 (sQ K b))(hs:Nz e2:=by exact λ_ _=>rfl):WE X (.Subscript e1 e2 pos) (lift K (dY [a,b] (o2 sB))):=⟨uL Jy (Iy hu ha.h hb.h hs)⟩
end
end L3
namespace L2
end L2
namespace L3
open L2
theorem DaPd.at{F:Hp}:∀{xs:List (List Int×Addr×V)}{ps:List (List Int×D)},DaPd K F xs ps->∀z∈xs,F z.2.1=some (.tup (z.1.map V.int))
 | _,_,.nil,z,h=>by cases h
 | _,_,.cons e _ t,z,h=>by
  rcases W0.mp h with q|q
  ·subst q;exact e
  ·exact DaPd.at t z q
section
variable {e e1 e2:Expr}{a:AD}{td:TD}{pos:Pos}
end
end L3
namespace L2
end L2
namespace L3
open L2
theorem oN{F:Hp}{v:V}{L:List D}(s:Sub F H)(h1:At K F H v (.dict [(.bool false,.list L)])):∃(b b':Addr) (ep:Nat) (ys:List (List Int×Addr×V)) (qs:List (List Int×D)),v=.ref b/\H b=some (rX hL b' ep ys)/\DaPd K F ys qs/\L=qs.map λp=>.tuple [tI p.1,p.2]:=by
 rcases h1 with h1|⟨b,o,rfl,g1,g2,g3⟩
 ·rcases lD h1 with⟨_,_,z,_⟩|⟨c,a',ep,ys,qs,rfl,e1,g1,z⟩|⟨_,_,_,_,_,_,_,_,z⟩
  ·cases z
  ·injection z with z;exact ⟨c,a',ep,ys,qs,rfl,s _ _ e1,g1,z⟩
  ·cases z
 ·cases o with
  | ext φ =>
   rcases g3.ext with⟨a',ep,ys,qs,z,z2,t⟩|⟨_,_,_,_,_,z2,_⟩
   case inr=>injection z2 with z2;injection z2 with z2 _;injection z2 with _ z2;cases z2
   rw[z]at g2;refine ⟨b,a',ep,ys,qs,rfl,g2,t,?_⟩;injection z2 with z2;injection z2 with z2 _;injection z2 with _ z2;injection z2
  | dK kvs =>
   exfalso;have h:DaKV K F kvs [(W2 false,G3 L)]:=g3;generalize e9:[(W2 false,G3 L)]=es at h;cases h with
   | nil=>cases e9
   | @cons k _ _ _ _ _ _=>cases k<;>cases e9
  | dT kvs =>
   exfalso;have h:DaKT K F kvs [(W2 false,G3 L)]:=g3;generalize e9:[(W2 false,G3 L)]=es at h;cases h with
   | nil=>cases e9
   | cons _ _=>cases e9
  | _=>exact g3.elim
theorem CI{ps qs:List (List Int×D)}(z2:qU ps=qU qs):ps=qs:=by
 have e2:ps.map (λp=>B1 [B1 (p.1.map i0),p.2])=qs.map (λp=>B1 [B1 (p.1.map i0),p.2]):=by injection z2 with z2;injection z2 with z2 _;injection z2 with _ z2;injection z2
 exact (V6 (λx y q=>by injection q with q;injection q with q1 q2;injection q2 with q2 _;injection q1 with q1;exact Prod.ext ((V6 (λx y z=>by injection z)).mp q1) q2)).mp e2
section
variable {p p1 p2 p3 p4 pos:Pos}{f a x:Str}
end
end L3
namespace L2
noncomputable abbrev Bk:=List Int×List Int
def KB(H:Hp)(b:Addr)(k:Bk):Prop:=∃c e:Addr,H b=some (.tup [.ref c,.ref e])/\H c=some (.tup (k.1.map V.int))/\H e=some (.tup (k.2.map V.int))
noncomputable def kK{α:Type}(xs:List (Bk×Addr×α))(k:Bk)(b:Addr)(v:α):List (Bk×Addr×α):=if k∈xs.map (·.1) then xs.map (λx=>if x.1=k then (x.1,x.2.1,v) else x) else xs++[(k,b,v)]
theorem GH{vs:List (Bk×Addr×Value)}{k:Bk}{b:Addr}:storedH vs k b u=kK vs k b u:=by
 unfold storedH kK;have e:(atKey vs k).isSome=true ↔ k∈vs.map (·.1):=by
  unfold atKey;rw[Option.isSome_map,List.find?_isSome];constructor
  ·rintro⟨x,hx,e⟩;exact J0.mpr ⟨x,hx,of_decide_eq_true e⟩
  ·intro h;obtain⟨x,hx,e⟩:=J0.mp h;exact ⟨x,hx,decide_eq_true e⟩
 by_cases z:k∈vs.map (·.1)
 ·rw[if_pos (e.mpr z),if_pos z];rfl
 ·rw[if_neg (λy=>z (e.mp y)),if_neg z]
theorem Jx(xs:List (Bk×Addr×α))(k:Bk)(b:Addr)(v:α):(kK xs k b v).length<=xs.length+1:=by
 unfold kK;split
 ·rw[j0];omega
 ·rw[M0];simp
theorem cF{α:Type}{xs:List (Bk×Addr×α)}{k:Bk}{b:Addr}{v:α}(h:(xs.map (·.1)).Nodup):((kK xs k b v).map (·.1)).Nodup:=by
 unfold kK;split
 ·rw[P0];have e:((λx:Bk×Addr×α=>x.1) ∘ λx=>if x.1=k then (x.1,x.2.1,v) else x)=λx=>x.1:=by
   funext x;show (if x.1=k then (x.1,x.2.1,v) else x).1=x.1;split<;>rfl
  rw[e];exact h
 ·rename_i z;rw[v5,List.nodup_append];refine ⟨h,by simp,λa ha b hb e=>?_⟩;have hb:b=k:=by simpa using hb
  rw[e,hb]at ha;exact z ha
theorem Kx{xs:List (Bk×Addr×V)}{vs:List (Bk×Addr×Value)}{k:Bk}{b:Addr}{v:V}(h:Paired (λx v=>x.1=v.1/\x.2.1=v.2.1/\RelV x.2.2 v.2.2) xs vs)(r:RelV v u):Paired (λx v=>x.1=v.1/\x.2.1=v.2.1/\RelV x.2.2 v.2.2) (kK xs k b v) (kK vs k b u):=by
 unfold kK;rw[TX h];split
 ·rename_i z;clear z;induction h with
  | nil=>exact .nil
  | @cons x y l m r1 t ih =>
   refine .cons ?_ ih;obtain⟨a1,a2,a3⟩:=r1;by_cases z:x.1=k
   ·have z2:y.1=k:=a1.symm.trans z;dsimp only;rw[if_pos z,if_pos z2];exact ⟨a1,a2,r⟩
   ·have z2:¬y.1=k:=λq=>z (a1.trans q);dsimp only;rw[if_neg z,if_neg z2];exact ⟨a1,a2,a3⟩
 ·exact UK h ⟨rfl,rfl,r⟩
theorem dF{d d' b:Addr}{ep:Nat}{xs:List (Bk×Addr×V)}{k:Bk}{v:V}{Q:Unit->Shared->Prop}(hu:X.A.units+6 < cLine)(I:Inv X pins σ H s)(e:H d=some (rX hB d' ep xs)) (hky:∀x∈xs,KB H x.2.1 x.1) (hk:KB H b k) (rv:RelV v u) (hl:xs.length < sizeLine)(q:∀ep' s',Inv X pins σ (UQ H d (rX hB d ep' (kK xs k b v))) s'->Q () s'):wpAny (model X.prog X.w) X.A (setItem (.ref d) (.ref b) u) Q E s:=by
 obtain⟨vs,o,es,pr,e1,e2,e3,e4,hz,nd,_,hm⟩:=ext_at I e;have key:∀{k:Bk}{b:Addr},KB H b k->(KW (intKind X.prog X.w)).is s.heap k b:=λ{k b} ⟨c,e,h1,h2,h3⟩=>TY I h1 h2 h3;have hvl:=SY pr;refine wpAny_setItem_heap (hsz:=by omega) (knd:=KW (intKind X.prog X.w)) (show X.A.units+1+4 < cLine by omega) (key hk) ⟨o,es,ep,e1,e2,e3,e4,λx hx=>?_,by rw[TX pr];exact nd⟩ λh' dd' sb=>?_
 ·obtain⟨y,hy,r1,r2,_⟩:=ZJ pr x hx;have:=key (hky y hy);rw[r1,r2]at this;exact this
 ·obtain⟨o2,es2,ep2,g1,g2,g3,g4,_,g5⟩:=dd';rw[GH]at g4;have hlen:=Jx xs k b v;refine q ep2 _ (Sw I (by rw[e];exact True.intro) sb ⟨o2,g1⟩ ⟨⟨⟨kK vs k b u,Kx pr rv,o2,es2,g1,g2,g3,g4⟩,cF nd,by omega,hm⟩,⟨o2,g1⟩,λh1 h2 z k'=>?_⟩);obtain⟨⟨vs',r',o',es',f1,f2⟩,f3⟩:=z;exact ⟨⟨vs',r',o',es',k' _ f1,f2⟩,f3⟩
def uB(td ty tv:TE):TS:=λE σ H=>tv σ H λv H1=>td σ H1 λx H2=>ty σ H2 λy H3=>∃(d d' b:Addr) (ep:Nat) (xs:List (Bk×Addr×V)) (k:Bk),x=.ref d/\y=.ref b/\H3 d=some (rX hB d' ep xs)/\(∀z∈xs,KB H3 z.2.1 z.1) /\
 KB H3 b k/\xs.length < sizeLine/\∀ep',E.nx σ (UQ H3 d (rX hB d ep' (kK xs k b v)))
theorem Ky{o i value:Expr}{td ty tv:TE}{pos:Pos}(hu:X.A.units+6 < cLine)(ho:PE X o td)(hi:PE X i ty)(hv:PE X value tv)(hs:swapsWith value (some (.Subscript o i pos')) pos.line X.env=pure false):PS X (.Assign [.Subscript o i pos'] value pos) (uB td ty tv):=by
 intro pins s σ H D I h;refine wpAny_Assign_Subscript (hX (hv pins s σ H _ I h) λr s1 ⟨v,H1,I1,rv,q1⟩=>hX (ho pins s1 σ H1 _ I1 q1) λu s2 ⟨x,H2,I2,rx,q2⟩=>hX (hi pins s2 σ H2 _ I2 q2) λiv s3 ⟨y,H3,I3,ry,d,d',b,ep,xs,k,ex,ey,e1,e2,e3,e4,q3⟩=>?_) hs;subst ex ey;obtain rfl:u=Z3 d:=rx;obtain rfl:iv=Z3 b:=ry;exact dF hu I3 e1 e2 e3 rv e4 λep' s4 I4=>⟨σ,_,I4,q3 ep'⟩
def Lx:TE:=λ_ H Q=>∀p,H p=none->Q (.ref p) (UQ H p (rX hB p 0 []))
theorem Mx{pos:Pos}:PE X (.Dict [] [] pos) Lx:=λpins s σ H Q I h =>
 wpAny_Dict_empty ⟨.ref s.heap.objs.size,_,I.laid (a:=s.heap.objs.size) (o:=rX hB s.heap.objs.size 0 []) (t':=s.toks) (λ_ _ q=>g0 _ q) (u0 _)
   ⟨⟨⟨[],.nil,_,#[],L0 _ rfl,⟨rfl,rfl,rfl⟩,rfl,rfl⟩,List.nodup_nil,Q3 _,beq_eq_false_iff_ne.mpr (E3 (U0 I.big))⟩,⟨_,L0 _ rfl⟩,λh1 h2 z k=>by obtain⟨⟨vs,r,o,es,g1,g2⟩,g3⟩:=z;exact ⟨⟨vs,r,o,es,k _ g1,g2⟩,g3⟩⟩,rfl,h _ (I.hok.fresh (u0 _))⟩
end L2
namespace L3
open L2
noncomputable def LW(ps:List (Bk×D))(k:Bk)(d:D):List (Bk×D):=if k∈ps.map (·.1) then ps.map (λx=>if x.1=k then (x.1,d) else x) else ps++[(k,d)]
theorem DaBd.names{F:Hp}:∀{xs:List (Bk×Addr×V)}{ps:List (Bk×D)},DaBd K F xs ps->xs.map (·.1)=ps.map (·.1)
 | _,_,.nil=>rfl
 | _,_,.cons _ _ _ _ t=>by simp only[T1,DaBd.names t]
theorem DaBd.snoc{F:Hp}{k:Bk}{b:Addr}{v:V}{d:D}(hb:KB F b k)(hv:Da K F v d):∀{xs:List (Bk×Addr×V)}{ps:List (Bk×D)},DaBd K F xs ps->DaBd K F (xs++[(k,b,v)]) (ps++[(k,d)])
 | _,_,.nil=>let ⟨_,_,h1,h2,h3⟩:=hb;.cons h1 h2 h3 hv .nil
 | _,_,.cons e1 e2 e3 h t=>.cons e1 e2 e3 h (DaBd.snoc hb hv t)
theorem DaBd.repl{F:Hp}{k:Bk}{v:V}{d:D}(hv:Da K F v d):∀{xs:List (Bk×Addr×V)}{ps:List (Bk×D)},DaBd K F xs ps->DaBd K F (xs.map λx=>if x.1=k then (x.1,x.2.1,v) else x) (ps.map λx=>if x.1=k then (x.1,d) else x)
 | _,_,.nil=>.nil
 | _,_,@DaBd.cons _ _ k' b' _ _ v' d' xs ps e1 e2 e3 h t=>by
  have ih:=DaBd.repl (k:=k) hv t;rw[T1,T1];by_cases z:k'=k
  ·dsimp only;rw[if_pos z,if_pos z];exact .cons e1 e2 e3 hv ih
  ·dsimp only;rw[if_neg z,if_neg z];exact .cons e1 e2 e3 h ih
theorem DaBd.put{F:Hp}{k:Bk}{b:Addr}{v:V}{d:D}{xs:List (Bk×Addr×V)}{ps:List (Bk×D)}(h:DaBd K F xs ps)(hb:KB F b k)(hv:Da K F v d):DaBd K F (kK xs k b v) (LW ps k d):=by
 unfold kK LW;rw[h.names];split
 ·exact h.repl hv
 ·exact h.snoc hb hv
theorem DI{F:Hp}{o:HO}{ps:List (Bk×D)}(h:Own1 K F o (iK ps)):∃a' ep ys,o=rX hB a' ep ys/\DaBd K F ys ps:=by
 cases o with
 | ext φ =>
  rcases h.ext with⟨_,_,_,_,_,z2,_⟩|⟨a',ep,ys,qs,z,z2,t⟩
  ·injection z2 with z2;injection z2 with z2 _;injection z2 with _ z2;cases z2
  ·injection z2 with z2;injection z2 with z2 _;injection z2 with _ z2;injection z2 with z2;have:=UY z2;subst this;exact ⟨a',ep,ys,z,t⟩
 | dK kvs =>
  exfalso;have h:DaKV K F kvs [(W2 false,_)]:=h;generalize e9:[(W2 false,_)]=es at h;cases h with
  | nil=>cases e9
  | @cons k _ _ _ _ _ _=>cases k<;>cases e9
 | dT kvs =>
  exfalso;have h:DaKT K F kvs [(W2 false,_)]:=h;generalize e9:[(W2 false,_)]=es at h;cases h with
  | nil=>cases e9
  | cons _ _=>cases e9
 | _=>exact h.elim
noncomputable def vB(j:Nat)(ak:AD)(te:TD):VJ:=λE ρ=>te ρ λr ρ1=>match ρ1[j]? with
 | some (some _)=>yX [ak] ρ1 λxs ρ2=>match iX ρ2 xs with
  | true=>False
  | false=>YQ ρ2 xs λds=>match ρ2[j]? with
   | some (some s)=>∃(k:Bk) (ps:List (Bk×D)),ds=[b2 k]/\s.d=iK ps/\aX s=true/\ps.length < sizeLine/\E.nx (ρ2.set j (some (s.put (iK (LW ps k r.d)))))
   | _=>False
 | _=>False
theorem EI{j:Nat}{ak:AD}{te:TD}{σ:L2.St}{E:Ends}(h:vQ K (vB j ak te) E σ H):uB (eY j) (sQ K ak) (lift K te) E σ H:=by
 obtain⟨G,F,ρ,D,R,w,n,r,b,c⟩:=h;refine ⟨G,F,ρ,_,R,w,λv H1 F1 x ρ1 s1 R1 r1 w1=>?_⟩;obtain⟨F2,s2,R2,d2⟩:=r1.frz R1;split at w1
 ·rename_i s0 e0;obtain⟨u,eu⟩:=R2.bound e0;refine ⟨u,eu,sG (P:=λy H3=>∃(d d' b:Addr) (ep:Nat) (xs:List (Bk×Addr×V)) (k:Bk),u=.ref d/\y=.ref b/\H3 d=some (rX hB d' ep xs)/\(∀z∈xs,KB H3 z.2.1 z.1) /\
    KB H3 b k/\xs.length < sizeLine/\∀ep',E.nx σ (UQ H3 d (rX hB d ep' (kK xs k b v)))) (oX R2 w1 λvs H3 F3 xs ρ3 s3 R3 o3 w3=>?_)⟩;split at w3
  ·exact w3.elim
  rename_i m;obtain⟨ds,ha,w3⟩:=mX R3 m o3 w3;split at w3
  ·rename_i s e;obtain⟨k,ps,rfl,p1,p2,p3,w3⟩:=w3;cases ha with
   | cons hk ht=>cases ht;obtain⟨kb,kc,ke,rfl,hb1,hb2,hb3⟩:=Ex hk;have hb:KB F3 kb k:=⟨kc,ke,hb1,hb2,hb3⟩;obtain⟨a,o,g1,g2,g3,g4⟩:=R3.ow j s e p2;rw[eu]at g1;cases g1;rw[p1]at g4;obtain⟨a',ep,ys,rfl,t⟩:=DI g4;have up:∀{b:Addr}{k:Bk},KB F3 b k->KB H3 b k:=λ{b k} ⟨c,e,h1,h2,h3⟩=>⟨c,e,R3.sub _ _ h1,R3.sub _ _ h2,R3.sub _ _ h3⟩;refine ⟨_,rfl,a,a',kb,ep,ys,k,rfl,rfl,g3,λq hq=>up (t.keys q hq),up hb,by have:=congrArg B4 t.names;rw[j0,j0]at this;omega,λep'=>?_⟩;have R4:=R3.change (o':=rX hB a ep' (kK ys k kb v)) (d':=iK (LW ps k x.d)) e p2 eu (Own1.bd (t.put hb (d2.mono s3)));exact n σ _ F3 _ (s1.trans (s2.trans s3)) R4 w3
  ·exact w3.elim
 ·exact w1.elim
def wB:TD:=λρ Q=>Q (.ow (iK [])) ρ
theorem FI{σ:L2.St}{Q:VK}(h:lift K wB σ H Q):Lx σ H Q:=by obtain⟨G,F,ρ,Qd,R,w,k⟩:=h;intro p hp;obtain⟨R',r'⟩:=R.newOw (o:=rX hB p 0 []) (d:=iK []) hp (Own1.bd .nil);exact k _ _ F _ ρ (Sub.refl _) R' r' w
section
variable {e e1 e2:Expr}{a:AD}{td:TD}{pos:Pos}
theorem fF{j:Nat}(hu:X.A.units+6 < cLine)(ho:WE X e1 (sQ K (.inl j)))(hi:WE X e2 (sQ K a))(hv:WE X e (lift K td))(hs:LK e=true:=by rfl):WS X (.Assign [.Subscript e1 e2 pos'] e pos) (vQ K (vB j a td)):=⟨Aq (Ky hu ho.h hi.h hv.h (MK hs)) EI⟩
theorem Ly:WE X (.Dict [] [] pos) (lift K wB):=⟨BY Mx FI⟩
end
end L3
namespace L2
def Nx:V->V->Hp->VK->Prop:=λx y H Q=>∃(p:Addr) (xs:List V) (k:Int) (v:V),x=.ref p/\y=.int k/\0<=k/\H p=some (.lst xs)/\xs[k.toNat]?=some v/\Q v H
theorem My:JL X Nx:=by intro pins s σ H o i ov iv Q I ro ri h;obtain⟨p,xs,k,v,rfl,rfl,h0,hp,hv,q⟩:=h;cases ro;obtain⟨t,rfl⟩:=ri;obtain⟨its,r,pl,hz⟩:=I.list (SqL.of hp);obtain⟨w,ew,rw'⟩:=r.get hv;have hl:=r.length;have hn:=gW;have hk:k.toNat < xs.length:=(V0.mp hv).1;exact wpAny_getItem_list pl.isList h0 (by omega) (by simpa using ew) ⟨v,H,I,rw',q⟩
end L2
namespace L3
open L2
noncomputable def gF(j:Nat)(ai:AD)(n:Int):VJ:=λE ρ=>match ρ[j]? with
 | some (some _)=>yX [ai] ρ λxs ρ2=>YQ ρ2 xs λds=>match ds,ρ2[j]? with
  | [.int k],some (some s)=>match s.d,aX s with
   | .list es,true=>∃a:Int,0<=k/\es[k.toNat]?=some (.int a)/\E.nx (ρ2.set j (some (s.put (.list (es.set k.toNat (.int (a+n)))))))
   | _,_=>False
  | _,_=>False
 | _=>False
theorem Ny{j:Nat}{ai:AD}{m:Int}{σ:L2.St}{E:Ends}(h:vQ K (gF j ai m) E σ H):Bu (eY j) (sQ K ai) (tC (.int m)) Nx (FO λi j=>i+j) FV E σ H:=by
 obtain⟨G,F,ρ,D,R,w,n,r,b,c⟩:=h;unfold gF at w;split at w
 ·rename_i s0 e0;obtain⟨u,eu⟩:=R.bound e0;refine ⟨u,eu,sG (P:=λi H2=>Nx u i H2 λx H3=>FO (λi j=>i+j) x (.int m) H3 λz H5=>FV u i z H5 λH6=>E.nx σ H6) (oX R w λvs H3 F3 xs ρ3 s3 R3 o3 w3=>?_)⟩;obtain⟨ds,ha,w3⟩:=eZ R3 o3 w3;split at w3
  ·rename_i k s e;obtain⟨iv,rfl,hi⟩:=ha.one;cases hi.int;split at w3
   ·rename_i es p1 p2;obtain⟨x,h0,w4,w5⟩:=w3;obtain⟨a,o,g1,g2,g3,g4⟩:=R3.ow j s e p2;rw[eu]at g1;cases g1;rw[p1]at g4;have hl:∃us,o=.lst us/\DaAll K F3 us es:=by cases o<;>first|exact g4.elim|exact ⟨_,rfl,g4⟩
    obtain⟨us,rfl,g4⟩:=hl;obtain⟨v,hv,dv⟩:=g4.get w4;cases cx dv;have hk:k.toNat < us.length:=(V0.mp hv).1;refine ⟨_,rfl,a,us,k,_,rfl,rfl,h0,g3,hv,x,m,rfl,rfl,a,us,k,k.toNat,rfl,rfl,g3,?_,?_⟩
    ·unfold Lz;rw[if_pos h0,if_pos (by omega)]
    have R4:=R3.change (o':=.lst (us.set k.toNat (.int (x+m)))) (d':=.list (es.set k.toNat (.int (x+m)))) e p2 eu (g4.set (.int _) k.toNat);exact n σ _ F3 _ s3 R4 w5
   ·exact w3.elim
  ·exact w3.elim
 ·exact w.elim
theorem Oy{e1 e2:Expr}{a:AD}{j:Nat}{m:Int}{kd}{pos p:Pos}(ho:WE X e1 (sQ K (.inl j)))(hi:WE X e2 (sQ K a))
  (ha:∀ov iv new,augStore e2 ov iv new=(do holding [new,ov,iv] (setItem ov iv new);release [new,ov,iv] [];pure .next):=by intros;rfl):WS X (.AugAssign (.Subscript e1 e2 pos') .Add (.Constant (.int m) kd p) pos) (vQ K (gF j a m)) :=
 ⟨Aq (Gw ho.h hi.h My bz qC dH ha) Ny⟩
theorem Ox{σ:L2.St}(I:Inv X pins σ H s){a:Addr}(h:Rd H a (.dK [])\/Rd H a (.dT [])):∃as,Reads s.heap (.ref a) (.dict []) as/\sysModules∉as:=by
 have get:∀{u:HO},Rd H a u->ObjOk X.prog X.w H s.heap a u:=λ{u} h=>h.ok I.hok;obtain⟨hsm,o,es,ep,e1,e2,e3,e4⟩:(a==sysModules)=false/\∃o es ep,s.heap.get? a=some o/\o.ExactDict/\o.data=.dict es ep/\es.toList=[]:=by
  rcases h with h|h
  ·obtain⟨_,hsm,vs,kv,o,es,ep,e1,e2,e3,_,e4,_⟩:=get h;cases kv;exact ⟨hsm,o,es,ep,e1,e2,e3,by cases h:es.toList with|nil=>rfl|cons _ _=>rw[h]at e4;cases e4⟩
  ·obtain⟨_,hsm,xs,kt,o,es,ep,e1,e2,e3,e4,_⟩:=get h;cases kt;exact ⟨hsm,o,es,ep,e1,e2,e3,by simpa using e4⟩
 refine ⟨a :: []++[],.dict (kvs:=[]) e1 e2.1 e3 (by rw[e4];exact .nil) (by rw[e4];exact .nil),λz=>?_⟩;have z:sysModules=a:=by simpa using z
 rw[z]at hsm;simp at hsm
def Px(K:Fg):List V->Hp->VK->Prop:=λxs H Q=>Ou K xs H Q\/∃a:Addr,xs=[.ref a]/\(Rd H a (.dK [])\/Rd H a (.dT []))/\Q (.str (g9 []).shown) H
theorem MW{k:Nat}(hK:X.K=K)(hr:Room k X.A):dX X (.builtin "repr") (Px K):=λpins s σ H xs us Q I r h=>by
 rcases h with h|⟨a,rfl,h,q⟩
 ·exact FG hK hr pins s σ H xs us Q I r h
 ·obtain⟨u,rfl,ru⟩:=qZ r;cases ru;obtain⟨as,ra,hsm⟩:=Ox I h;have hu:=hr.units;exact repr_of_reads' ra rfl (λ_=>hsm) hr.gd (by show _+(g9 []).depth < _;simp only[Z4,PyData.depthKv];omega) (λ_ _ e=>e) (λh' u tk hk=>⟨.str _,H,I.kept hk,⟨u,rfl⟩,q⟩) (by decide +kernel)
noncomputable def GI:D->Bool
 | .dict es=>es.isEmpty
 | d=>IQ d
def HI(d:D)(Q:Sl->Prop):Prop:=GI d=true/\d.showable=true/\d.depth+1<=64/\d.shown.length<=sizeLine/\Q (.fz (.str d.shown))
theorem At.no{F:Hp}{v:V}(sb:Sub F H)(h:At K F H v (.dict [])):∃a:Addr,v=.ref a/\(Rd H a (.dK [])\/Rd H a (.dT [])):=by
 rcases h with h|⟨a,o,rfl,n,e,h⟩
 ·cases h with
  | dk h t=>cases t;exact ⟨_,rfl,.inl (sb.rd h)⟩
  | dt h t=>cases t;exact ⟨_,rfl,.inr (sb.rd h)⟩
 ·refine ⟨a,rfl,?_⟩;cases o with
  | dK kvs=>have h:DaKV K F kvs []:=h;cases h;exact .inl (.inl e)
  | dT kvs=>have h:DaKT K F kvs []:=h;cases h;exact .inr (.inl e)
  | _=>exact h.elim
theorem HH:SQ K (Px K) (o1 HI):=bG λG F σ H ρ x d Q Qd R h1 w k=>by
 obtain⟨p1,p2,p3,p4,w⟩:=w;have q:=k _ H F (.fz _) (Sub.refl _) R (Da.str _) w;by_cases hp:IQ d=true
 ·exact .inl ⟨x,d,rfl,h1.is R.sub hp,p2,NK hp,p3,p4,q⟩
 ·cases d with
  | dict es =>
   cases es with
   | nil=>obtain⟨a,rfl,h⟩:=h1.no R.sub;exact .inr ⟨a,rfl,h,q⟩
   | cons _ _=>cases p1
  | _=>exact absurd p1 hp
end L3
namespace L2
theorem Qx(l:Addr)(items:Array Value)(n:Nat)(sl:Array (Option Value))(k:Int)(t:Tok)(hk:k=1):Meets (Builtin.«tuple.__mul__» ⟨[.ref l,.int k t],[]⟩) (λ_ R s=>s.heap.get? l=some { cls:=.type "tuple",dict:=none,data:=.seq items n,slots:=sl }/\R (.ok (.ret (.ref l))) s):=
 .of_wp λprog w A R s h=>by
  obtain⟨hp,g,d,tk,os⟩:=s;obtain⟨hl,h⟩:=h;have c1:(decide (k < -2 ^ 63)||decide (k ≥ 2 ^ 63))=false:=by subst hk;decide
  have c2:(items.isEmpty||k==1)=true:=by subst hk;simp
  clear hk
  wp_walk
  refine wpAny_ite_false (decide_eq_false (by rw[c1];exact T0)) ?_
  wp_walk
  exact ⟨_,rfl,h⟩
def Rx:R2:=λx y H Q=>∃l xs,x=.ref l/\y=.int 1/\H l=some (.tup xs)/\Q (.ref l) H
theorem Py:OpR X (binaryOp .Mult) Rx:=by
 intro pins s σ H x y v u Q I rx ry h;obtain⟨l,xs,rfl,rfl,hH,q⟩:=h;cases rx;obtain⟨t,rfl⟩:=ry;obtain⟨z,its,r,⟨cls,dd,data,sl⟩,e,c,m,d,dn⟩:=(show ObjOk X.prog X.w H s.heap l (.tup xs) from I.hok l _ hH);simp only at c d dn;subst c d dn;refine wpAny_binaryOp_repeat_ref (T:="tuple") (U:="int") (by decide) ⟨_,e,rfl⟩ (λs'=>typeIs_int s' 1 t) JW PySem.F.fills_int_mul PySem.F.slot_int_rmul fD PySem.F.slot_int_index.lookup
  (call_meets PySem.F.slot_int_rmul (typeIs_int s 1 t) PySem.F.entry_int_rmul (PySem.F.args_int_rmul_2 _ _) (SK 1 t l its.toArray m sl)
    ⟨e,rfl,⟨_,e,rfl⟩,call_meets PySem.F.slot_tuple_mul ⟨_,e,rfl⟩ PySem.F.entry_tuple_mul (PySem.F.args_tuple_mul_2 _ _) (Qx l its.toArray m sl 1 t rfl) ⟨e,?_⟩⟩);exact ⟨.ref l,H,I,rfl,q⟩
theorem VY:OpR X (binaryOp .Mult) (L3.rAny xx Rx):=by
 intro pins s σ H x y v u Q I rx ry h;rcases h with h|h
 ·exact Fy pins s σ H x y v u Q I rx ry h
 ·exact Py pins s σ H x y v u Q I rx ry h
end L2
namespace L3
open L2
noncomputable def pN:D->D->(Sl->Prop)->Prop
 | .tuple ds,.int k,Q=>ds≠[]/\1<=k/\k < 2 ^ 63/\ds.length * k.toNat<=sizeLine/\Q (.fz (.tuple (A1 k.toNat ds).flatten))
 | _,_,_=>False
theorem WY:SQ K (jK (rAny xx Rx)) (o2 pN):=VU λG F σ H ρ x y d e Q Qd R h1 h2 w k=>by
 cases d<;>first|exact w.elim|(cases e<;>first|exact w.elim|skip)
 rename_i ds n;obtain⟨w0,w1,w2,w3,w⟩:=w;cases h2.int;obtain⟨a,us,rfl,f1,e1,d1⟩:=h1.tuple R.sub;have hl:=d1.length;by_cases hn:n=1
 ·subst hn;have e:(A1 (1:Int).toNat ds).flatten=ds:=by simp
  rw[e]at w;exact .inr ⟨a,us,rfl,rfl,e1,k _ H F (.fz _) (Sub.refl _) R (Da.tup f1 d1) w⟩
 ·refine .inl ⟨a,n,us,rfl,rfl,e1,λz=>w0 (by rw[z]at hl;exact X6.mp hl.symm),by omega,w2,by rw[hl];exact w3,λp hp=>?_⟩;obtain⟨sb,R',dd⟩:=R.newTup hp (d1.rep n.toNat);exact k _ _ _ (.fz _) sb R' dd w
end L3
namespace L2
def xB:R2:=λx y H Q=>∃(d d' b:Addr) (ep:Nat) (xs:List (List Int×Addr×V)) (k:List Int) (c:Addr) (v:V),x=.ref d/\y=.ref b/\H d=some (rX hL d' ep xs)/\(∀z∈xs,H z.2.1=some (.tup (z.1.map V.int)))/\H b=some (.tup (k.map V.int))/\(k,c,v)∈xs/\Q v H
theorem Qy{o i:Expr}{td ty:TE}{pos:Pos}(hu:X.A.units+6 < cLine)(ho:PE X o td)(hi:PE X i ty)(hs:Nz i):PE X (.Subscript o i pos) (Cu xB td ty):=by
 intro pins s σ H Q I h;refine GF PySem.F.slot_dict_getitem.lookup hs (hX (ho pins s σ H _ I h) λu s1 ⟨x,H1,I1,rx,q1⟩=>hX (hi pins s1 σ H1 _ I1 q1) λiv s2 ⟨y,H2,I2,ry,q2⟩=>?_);obtain⟨d,d',b,ep,xs,k,c,v,ex,ey,hd,hk,hb,hm,q⟩:=q2;subst ex ey;obtain rfl:u=Z3 d:=rx;obtain rfl:iv=Z3 b:=ry;obtain⟨vs,ob,es,pr,e1,e2,e3,e4,hz,hnd,_,_⟩:=ext_at I2 hd;have key:∀{k:List Int}{b:Addr},H2 b=some (.tup (k.map V.int))->(tupleKind (intKind X.prog X.w)).is s2.heap k b:=λ{k b} hb=>by obtain⟨_,its,r,o,h1,h2,n,h3,_⟩:=(show ObjOk X.prog X.w H2 s2.heap b (.tup (k.map V.int)) from I2.hok _ _ hb);exact ⟨o,its.toArray,n,h1,h2,h3,by simpa using TK r⟩
 refine ⟨⟨ob,e1,e2.1⟩,?_⟩;obtain⟨j,hj⟩:=x6.mp hm;obtain⟨⟨k',b',w'⟩,hv,r1,r2,r3⟩:=JU pr hj;have r1:k=k':=r1;subst r1;have hvn:(vs.map (·.1)).Nodup:=by rw[TX pr];exact hnd
 have hall:∀x∈vs,(tupleKind (intKind X.prog X.w)).is s2.heap x.1 x.2.1:=λx hx=>by obtain⟨x',hx',r1,r2,_⟩:=ZJ pr x hx;have:=key (hk x' hx');rw[r1,r2]at this;exact this
 exact wpAny_getItem_heap (knd:=tupleKind (intKind X.prog X.w)) (tupleKind_room_in1 (show X.A.units+1 < cLine by omega)) (key hb) ⟨ob,es,ep,e1,e2,e3,e4,hall,hvn⟩ (atKey_of_get hvn hv) ⟨v,H2,I2.tok _,r3,q⟩
end L2
namespace L3
open L2
noncomputable def Ux:D->D->(Sl->Prop)->Prop
 | .dict [(.bool false,.list L)],.tuple ds,Q=>∃(ps:List (List Int×D)) (k:List Int) (d:D),L=ps.map (λp=>.tuple [tI p.1,p.2])/\ds=k.map i0/\(k,d)∈ps/\Q (.fz d)
 | _,_,_=>False
theorem DaPd.has{F:Hp}{k:List Int}{d:D}:∀{xs:List (List Int×Addr×V)}{ps:List (List Int×D)},DaPd K F xs ps->(k,d)∈ps->∃b v,(k,b,v)∈xs/\Da K F v d
 | _,_,.nil,h=>by cases h
 | _,_,.cons e h t,z=>by
  rcases W0.mp z with q|q
  ·cases q;exact ⟨_,_,v0,h⟩
  ·obtain⟨b,v,hb,hv⟩:=DaPd.has t q;exact ⟨b,v,q0 _ hb,hv⟩
theorem Ry:SQ K (jK xB) (o2 Ux):=VU λG F σ H ρ x y d e Q Qd R h1 h2 w k=>by
 unfold Ux at w;split at w
 rotate_left
 ·exact w.elim
 rename_i L ds w;obtain⟨ps,kk,d0,hL',rfl,hm,w⟩:=w;obtain⟨b,b',ep,ys,qs,rfl,hb,t,hq⟩:=oN R.sub h1;have e3:ps=qs:=CI (by unfold qU;rw[<- hL',hq]);subst e3;obtain⟨c,us,rfl,hc1,hc2,hd⟩:=h2.tuple R.sub;rw[hd.intsV]at hc2;obtain⟨b0,v,hv,dv⟩:=t.has hm;exact ⟨b,b',c,ep,ys,kk,b0,v,rfl,rfl,hb,λz hz=>R.sub _ _ (t.at z hz),hc2,hv,k _ _ F (.fz d0) (Sub.refl _) R dv w⟩
section
variable {e1 e2:Expr}{a b:AD}{pos:Pos}
theorem II(hu:X.A.units+6 < cLine)(ha:WE X e1 (sQ K a))(hb:WE X e2 (sQ K b))(hs:Nz e2:=by exact λ_ _=>rfl):WE X (.Subscript e1 e2 pos) (lift K (dY [a,b] (o2 Ux))):=⟨uL Ry (Qy hu ha.h hb.h hs)⟩
end
end L3
namespace R21
open L2 L3
noncomputable abbrev ZA(d:D):Option Sl:=some (.fz d)
noncomputable abbrev YA(d:D):Option Sl:=some (.ow d)
noncomputable def top(i:Nat):Stmt:=PySem.Challenge.pw_boxsums_k21_what_is_no_powers.main.body.getD i (.Pass ⟨0,0,0,0⟩)
structure Txt(mg:Str->Option Value):Prop where
 len_:mg "len"=none
 abs_:mg "abs"=none
 max_:mg "max"=none
 min_:mg "min"=none
 zip_:mg "zip"=none
 int_:mg "int"=none
 bool_:mg "bool"=none
 range_:mg "range"=none
 repr_:mg "repr"=none
 sorted_:mg "sorted"=none
 isinstance_:mg "isinstance"=none
 list_:mg "list"=none
 tuple_:mg "tuple"=none
 all_:mg "all"=none
 sum_:mg "sum"=none
 dict_:mg "dict"=none
 enumerate_:mg "enumerate"=none
 str_:mg "str"=none
section
variable {K:n0}
noncomputable abbrev CZ(ns:List Int)(k l:Int):PyData:=.list [bJ ns,.int k,.int l]
def qN:Con:=λargs Q=>∃ns:List Int,args=[.fz (bJ ns)]/\∀o,Q (.ow (CZ ns 0 0)) o
theorem rN:FnScope ["_law_script"] ["_law_script"] (mQ (top 23)):=⟨rfl,rfl,rfl,by decide +kernel,rfl,by decide +kernel,by decide +kernel⟩
theorem JI(F:Fun K "_law_pen" "_law_pen" (top 23) f fd):FnOk P w K mg base iZ 1 f fd ["_law_script"] (pQ K qN):=by
 have S:=rN;refine tK F S (λcdv A outer s H E hr=>(rQ (RQ (WQ (eQ (wx (wv 0)) (eQ (wx gQ) (eQ (wx gQ) fQ))))))) ?_ ?_
 ·rintro args Qd ⟨ns,rfl,_⟩;rfl
 ·rintro args Qd ⟨ns,rfl,q⟩;exact ⟨yQ rfl,q _⟩
def IH:Con:=λargs Q=>∃(ns:List Int) (k l m:Int),args=[.io (CZ ns k l),.fz (.int m)]/\0<=k/\0<=l/\0 < m/\m < 1000000 /\
 ∀(r k' l':Int) (o:Ev),0<=r->r < m->0<=k'->0<=l'->Q (.fz (.int r)) (some (.io (CZ ns k' l')) :: o)
theorem KI:FnScope ["_law_pen_here","_law_most","_law_found","_law_at","_law_cell","_law_number_here"] ["_law_pen_here","_law_most"] (mQ (top 24)):=⟨rfl,rfl,rfl,by decide +kernel,rfl,by decide +kernel,by decide +kernel⟩
theorem Ty(F:Fun K "_law_take" "_law_take" (top 24) f fd)(T:Txt mg):FnOk P w K mg base iZ 1 f fd ["_law_pen_here","_law_most"] (pQ K IH):=by
 have S:=KI;refine tK F S (λcdv A outer s H E hr=>(kQ (tZ (AX LV yV (wx (MQ rfl (wn 0) (wx gQ))) (wx gQ)) (kQ (BQ (i:=2) S.nd rfl (Or.inl rfl) (w_bin rK oK (wx (MQ rfl (wn 0) (wx gQ))) (wn 1)))
     (kQ (ME (w_bin yU gU (wx (MQ rfl (wn 0) (wx gQ))) (wn 1)) (wn 0) (wx gQ))
     (rQ (GJ (wn 2))))) xX)
     (kQ (BQ (i:=3) S.nd rfl (Or.inl rfl) (MQ rfl (wn 0) (wx gQ)))
     (kQ (ME (w_bin lQ jQ (wn 3) (wx gQ)) (wn 0) (wx gQ))
     (kQ (BQ (i:=4) S.nd rfl (Or.inl rfl) gQ)
     (kQ (tZ (AX LV yV (wx (xQ jX (GQ (K:=K) rfl) T.len_ PySem.boot_len (eQ (wx (MQ rfl (wn 0) (wx gQ))) fQ))) (wx gQ)) (rQ (BQ (i:=4) S.nd rfl (Or.inl rfl) (MQ rfl (wx (MQ rfl (wn 0) (wx gQ))) (wx (w_bin rK oK (wn 3) (wx (xQ jX (GQ (K:=K) rfl) T.len_ PySem.boot_len (eQ (wx (MQ rfl (wn 0) (wx gQ))) fQ)))))))) xX)
     (kQ (tZ (vL (LM (AX Nu Bz (wn 3) (wx (xQ jX (GQ (K:=K) rfl) T.len_ PySem.boot_len (eQ (wx (MQ rfl (wn 0) (wx gQ))) fQ)))) (LE (AX EM PL (wx (xQ yG hW T.abs_ boot_abs (eQ (wn 4) fQ))) (wx (w_bin Cj yz (wx gQ) (wx gQ))))))) (kQ (ME (w_bin yU gU (wx (xQ yG hW T.abs_ boot_abs (eQ (wn 4) fQ))) (wn 1)) (wn 0) (wx gQ))
     (rQ (RQ (w_bin rK oK (wx (xQ yG hW T.abs_ boot_abs (eQ (wn 4) fQ))) (wn 1))))) xX)
     (kQ (BQ (i:=5) S.nd rfl (Or.inl rfl) (w_bin rK oK (wx (w_bin CJ FZ (wx (w_bin lQ jQ (wx (w_bin lQ jQ (wx (w_bin rK oK (wn 4) (wx gQ))) (wx (w_bin CJ FZ (wx gQ) (wn 3))))) (wx gQ))) (wx gQ))) (wx gQ)))
     (kQ (BQ (i:=5) S.nd rfl (Or.inl rfl) (w_bin rK oK (wx (w_bin lQ jQ (wx (w_bin lQ jQ (wx (w_bin CJ FZ (wn 5) (wn 5))) (wx (w_bin CJ FZ (wx gQ) (wn 5))))) (wn 3))) (wx gQ)))
     (rQ (RQ (w_bin rK oK (wx (w_bin yU gU (wn 5) (wx gQ))) (wn 1))))))))))))) ?_ ?_
 ·rintro args Qd ⟨ns,k,l,m,rfl,_⟩;rfl
 ·rintro args Qd ⟨ns,k,l,m,rfl,hk,hl,m0,m1,q⟩;have hmd:∀x:Int,0<=x % m/\x % m < m:=λx=>⟨Int.emod_nonneg _ (by omega),Int.emod_lt_of_pos _ m0⟩;refine ⟨yQ rfl,?_⟩;refine ⟨_,rfl,?_⟩;refine rZ (λh1=>?_) (λh1=>?_)
  ·refine ⟨_,rfl,m0,_,rfl,⟨m0,by omega⟩,2,rfl,?_⟩;exact q _ _ _ _ (hmd _).1 (hmd _).2 hk (Int.ediv_nonneg hl (by omega))
  refine ⟨_,rfl,?_⟩;refine ⟨1,rfl,?_⟩;refine ⟨_,rfl,ns,rfl,?_⟩;have ab:∀c:Int,0<=(if c < 0 then -c else c):=λc=>by split<;>omega
  have pos:∀n:Nat,0 < n->0<=k % (n:Int)/\k % (n:Int) < n:=λn hn=>⟨Int.emod_nonneg _ (by omega),Int.emod_lt_of_pos _ (by omega)⟩;refine rZ (λh2=>?_) (λh2=>?_)
  ·have h2:0 < ns.length:=by have:(0:Int) < (ns.length:Int):=of_decide_eq_true h2;omega
   obtain⟨j,hj⟩:=O4 (pos _ h2).1;have hjl:j < ns.length:=by have:=(pos _ h2).2;omega
   refine ⟨_,rfl,_,rfl,ns,rfl,by show (0:Int) < (ns.length:Int);omega,ns,ns[j],rfl,by rw[hj];exact EX (A0 hjl),?_⟩;refine ⟨_,rfl,ns,rfl,?_⟩;refine rZ (λh3=>?_) (λh3=>?_)
   ·refine ⟨⟨by decide,by decide,by decide⟩,?_⟩;refine rZ (λh4=>?_) (λh4=>?_)
    ·refine ⟨⟨m0,by omega⟩,2,rfl,m0,?_⟩;exact q _ _ _ _ (hmd _).1 (hmd _).2 (by omega) (Int.ediv_nonneg (ab _) (by omega))
    ·refine ⟨by show (0:Int) < 2147483587;decide,.inl ⟨by decide,by decide⟩,.inr ⟨by decide,by decide⟩,by show (0:Int) < 2147483647;decide,?_⟩;refine ⟨.inl ⟨by omega,by omega⟩,.inl ⟨by decide,by decide⟩,by show (0:Int) < 2147483629;decide,?_⟩;exact ⟨⟨by decide,by decide⟩,m0,q _ _ _ _ (hmd _).1 (hmd _).2 (by omega) hl⟩
   ·refine ⟨by show (0:Int) < 2147483587;decide,.inl ⟨by decide,by decide⟩,.inr ⟨by decide,by decide⟩,by show (0:Int) < 2147483647;decide,?_⟩;refine ⟨.inl ⟨by omega,by omega⟩,.inl ⟨by decide,by decide⟩,by show (0:Int) < 2147483629;decide,?_⟩;exact ⟨⟨by decide,by decide⟩,m0,q _ _ _ _ (hmd _).1 (hmd _).2 (by omega) hl⟩
  ·refine ⟨_,rfl,ns,rfl,?_⟩;refine rZ (λh3=>?_) (λh3=>?_)
   ·exfalso;have h3:k < (ns.length:Int):=of_decide_eq_true h3;refine h2 (decide_eq_true ?_);omega
   ·refine ⟨by show (0:Int) < 2147483587;decide,.inl ⟨by decide,by decide⟩,.inr ⟨by decide,by decide⟩,by show (0:Int) < 2147483647;decide,?_⟩;refine ⟨.inl ⟨by omega,by omega⟩,.inl ⟨by decide,by decide⟩,by show (0:Int) < 2147483629;decide,?_⟩;exact ⟨⟨by decide,by decide⟩,m0,q _ _ _ _ (hmd _).1 (hmd _).2 (by omega) hl⟩
open L2 L3
noncomputable def VQ:List Int->Int
 | []=>1
 | a :: r=>a * VQ r
theorem TZ:∀{l:List Int},(∀c∈l,1<=c)->1<=VQ l
 | [],_=>g6 _
 | a :: r,h=>by have h1:=h a v0;have h2:=TZ (l:=r) λc hc=>h c (q0 _ hc);show 1<=a * VQ r;have:=Y7 h1 h2 (by decide) (by omega);omega
structure Sd(sd:List Int):Prop where
 l1:1<=sd.length
 l3:sd.length<=3
 p:∀c∈sd,1<=c
 m:VQ sd<=120
noncomputable abbrev iQ(p:List Int):PyData:=.tuple (p.map i0)
noncomputable def DQ{α:Type}(acc:List (List α)):List (List α)->List (List α)
 | []=>acc
 | c :: cs=>DQ (acc.flatMap λp=>c.map λx=>p++[x]) cs
noncomputable def lenP{α:Type}:List (List α)->Nat
 | []=>1
 | c :: cs=>c.length * lenP cs
theorem WK:∀{cs:List (List α)},(∀c∈cs,c≠[])->1<=lenP cs
 | [],_=>u0 _
 | c :: cs,h=>by have h1:1<=c.length:=List.length_pos_iff.mpr (h c v0);have h2:=WK (cs:=cs) λd hd=>h d (q0 _ hd);exact Nat.mul_le_mul h1 h2
theorem YK(c:List α):∀acc:List (List α),(acc.flatMap λp=>c.map λx=>p++[x]).length=acc.length * c.length
 | []=>by simp
 | p :: acc=>by rw[P3,M0,YK c acc,j0,X2,Z6,Nat.add_comm]
theorem vX:∀(cs acc:List (List α)),(DQ acc cs).length=acc.length * lenP cs
 | [],acc=>by simp[DQ,lenP]
 | c :: cs,acc=>by rw[DQ,vX cs,YK,lenP,K9]
noncomputable def rng(s:Int):List Int:=(N1 s.toNat).map λ(n:Nat)=>(n:Int)
theorem yK(s:Int):CQ 0 s.toNat=(rng s).map i0:=by simp[CQ,rng,P0,Function.comp_def]
theorem JZ(s:Int):(rng s).length=s.toNat:=by simp[rng]
noncomputable def tX(sd:List Int):List (List Int):=DQ [[]] (sd.map rng)
theorem ZK:∀{sd:List Int},(∀c∈sd,1<=c)->(lenP (sd.map rng):Int)=VQ sd
 | [],_=>rfl
 | a :: r,h=>by have h1:=h a v0;have h2:=ZK (sd:=r) λc hc=>h c (q0 _ hc);show ((((rng a).length * lenP (r.map rng):Nat)):Int)=a * VQ r;rw[JZ,Int.natCast_mul,h2];congr 1;omega
theorem aZ(a b:List Int):oY (a.map i0) (b.map i0)=(a.zip b).map λp=>B1 [.int p.1,.int p.2]:=by rw[oY,List.zip_map,P0];rfl
noncomputable def BX(a b:Int):List Int:=(N1 (b+1 - a).toNat).map λ(n:Nat)=>a+(n:Int)
theorem KH(a b:Int):CQ a (b+1 - a).toNat=(BX a b).map i0:=by simp[CQ,BX,P0,Function.comp_def]
theorem uY(s:Int):BX 0 (s - 1)=rng s:=by unfold BX rng;rw[show s - 1+1 - 0=s by omega];simp
noncomputable def Yq(low high:List Int):List (List Int):=DQ [[]] ((low.zip high).map λp=>BX p.1 p.2)
theorem NW:∀sd:List Int,((sd.map λ_=>(0:Int)).zip (sd.map λs=>s - 1))=sd.map λs=>(0,s - 1)
 | []=>rfl
 | a :: r=>by simp[NW r]
theorem fZ:∀{sd:List Int},(∀c∈sd,1<=c)->∀c∈sd,c<=VQ sd
 | a :: r,h,c,hc=>by
  have h1:=h a v0;have hr:∀c∈r,1<=c:=λc hc=>h c (q0 _ hc);have h2:=TZ hr;show c<=a * VQ r;rcases W0.mp hc with rfl|hc
  ·have:=Int.mul_le_mul_of_nonneg_left h2 (show (0:Int)<=c by omega);omega
  ·have h3:=fZ hr c hc;have:=L7 h1 (show (0:Int)<=VQ r by omega);omega
noncomputable def LI(sd pl:List Int):Int:=(sd.zip pl).foldl (λi p=>i * p.1+p.2) 0
noncomputable def qw{α:Type}:List α->List (List α)->Prop
 | [],[]=>True
 | x :: xs,c :: cs=>x∈c/\qw xs cs
 | _,_=>False
theorem LH:∀{cs acc:List (List α)}{p:List α},p∈DQ acc cs->∃a∈acc,∃q,p=a++q/\qw q cs
 | [],acc,p,h=>⟨p,h,[],by simp,trivial⟩
 | c :: cs,acc,p,h=>by obtain⟨a',ha',q,rfl,hq⟩:=LH (cs:=cs) h;obtain⟨a,ha,hb⟩:=K4.mp ha';obtain⟨x,hx,rfl⟩:=J0.mp hb;exact ⟨a,ha,x :: q,by simp,hx,hq⟩
theorem aK{α:Type}{cs:List (List α)}{p:List α}(h:p∈DQ [[]] cs):qw p cs:=by obtain⟨a,ha,q,rfl,hq⟩:=LH h;simp at ha;subst ha;exact hq
theorem nD{x s:Int}(h:x∈rng s):0<=x/\x < s:=by unfold rng at h;obtain⟨n,hn,rfl⟩:=J0.mp h;have:=u3.mp hn;omega
noncomputable def Wi:List Int->List Int->Prop
 | [],[]=>True
 | x :: xs,s :: ss=>(0<=x/\x < s)/\Wi xs ss
 | _,_=>False
theorem iJ{sd p:List Int}(hm:p∈tX sd):Wi p sd:=by
 have h:=aK hm;clear hm;induction sd generalizing p with
 | nil=>cases p with
  | nil=>trivial
  | cons _ _=>exact h.elim
 | cons s ss ih=>cases p with
  | nil=>exact h.elim
  | cons x xs=>exact ⟨nD h.1,ih h.2⟩
theorem bK{sd:List Int}(hp:∀c∈sd,1<=c):((tX sd).length:Int)=VQ sd:=by rw[tX,vX,<- ZK hp];simp
theorem OW:∀{p sd:List Int},Wi p sd->p.length=sd.length
 | [],[],_=>rfl
 | [],_ :: _,h=>h.elim
 | _ :: _,[],h=>h.elim
 | _ :: _,_ :: _,h=>by simp[OW h.2]
theorem yB:∀{sd pl:List Int}{i m:Int},Wi pl sd->0<=i->i < m->0<=(sd.zip pl).foldl (λi p=>i * p.1+p.2) i/\(sd.zip pl).foldl (λi p=>i * p.1+p.2) i < m * VQ sd
 | [],[],i,m,_,h0,h1=>by simp[VQ];omega
 | [],_ :: _,_,_,h,_,_=>h.elim
 | _ :: _,[],_,_,h,_,_=>h.elim
 | s :: ss,x :: xs,i,m,h,h0,h1=>by
  have hx:=h.1;have hs:0<=s:=by omega
  have e1:0<=i * s:=Int.mul_nonneg h0 hs;have e2:i * s<=(m - 1) * s:=L7 (by omega) hs;rw[Int.sub_mul,h9]at e2;have:=yB (sd:=ss) (pl:=xs) (i:=i * s+x) (m:=m * s) h.2 (by omega) (by omega);rw[Int.mul_assoc]at this;exact this
theorem MI{s:Int}{j:Nat}{x:Int}(h:(rng s)[j]?=some x):x=j/\(j:Int) < s:=by unfold rng at h;rw[X0,E5]at h;obtain⟨n,hn,rfl⟩:=h;rw[V0]at hn;obtain⟨h1,h2⟩:=hn;simp at h1 h2;omega
theorem qD{s:Int}(hs:1<=s):∀{acc:List (List Int)}{j':Nat}{a':List Int},(acc.flatMap λp=>(rng s).map λx=>p++[x])[j']?=some a' -> ∃(j:Nat) (a:List Int) (x:Int),acc[j]?=some a/\a'=a++[x]/\(0<=x/\x < s)/\(j':Int)=j * s+x
 | [],j',a',h=>by simp at h
 | a :: acc,j',a',h=>by
  rw[P3]at h;rcases U9 j' ((rng s).map λx=>a++[x]).length with g|g
  ·rw[P2 g,X0,E5]at h;obtain⟨x,hx,rfl⟩:=h;obtain⟨rfl,h2⟩:=MI hx;exact ⟨0,a,_,rfl,rfl,⟨by omega,h2⟩,by simp⟩
  ·rw[S1 g]at h;obtain⟨j,b,x,h1,h2,h3,h4⟩:=qD hs h;rw[j0,JZ]at g h4;refine ⟨j+1,b,x,h1,h2,h3,?_⟩;rw[show ((j+1:Nat):Int)=(j:Int)+1 by omega,Int.add_mul,h9];omega
theorem rD:∀{sd:List Int}{acc:List (List Int)}{k:Nat}{p:List Int},(∀c∈sd,1<=c)->(DQ acc (sd.map rng))[k]?=some p -> ∃(j:Nat) (a q:List Int),acc[j]?=some a/\p=a++q/\Wi q sd/\(sd.zip q).foldl (λi p=>i * p.1+p.2) (j:Int)=k
 | [],acc,k,p,_,h=>⟨k,p,[],h,by simp,trivial,rfl⟩
 | s :: ss,acc,k,p,hp,h=>by obtain⟨j',a',q',h1,h2,h3,h4⟩:=rD (sd:=ss) (λc hc=>hp c (q0 _ hc)) h;obtain⟨j,a,x,g1,g2,g3,g4⟩:=qD (hp s v0) h1;refine ⟨j,a,x :: q',g1,by rw[h2,g2];simp,⟨g3,h3⟩,?_⟩;rw[g4]at h4;exact h4
theorem iF{sd:List Int}(hp:∀c∈sd,1<=c){k:Nat}{p:List Int}(h:(tX sd)[k]?=some p):Wi p sd/\LI sd p=k:=by
 obtain⟨j,a,q,h1,h2,h3,h4⟩:=rD hp h;have hj:j=0:=by
  rcases j with _|j
  ·rfl
  ·simp at h1
 subst hj;simp at h1;subst h1;simp at h2;subst h2;exact ⟨h3,h4⟩
theorem jJ{xs:List Int}{i:Nat}(h:i < xs.length):aV (xs.map i0) (i:Int)=some (.int (xs.getD i 0)):=by refine EX ?_;rw[X0,A0 h,Y0,A0 h];rfl
theorem sD:∀{a b:List Int} (x y:Int),a.length=b.length->HT.lexLt a b=true->HT.lexLt (a++[x]) (b++[y])=true
 | [],[],x,y,_,h=>by cases h
 | [],_ :: _,x,y,e,_=>by simp at e
 | _ :: _,[],x,y,e,_=>by simp at e
 | u :: a,v :: b,x,y,e,h=>by
  rw[Y5,Y5,HT.lexLt_cons];rw[HT.lexLt_cons]at h;by_cases q:u=v
  ·rw[if_pos q]at h ⊢;exact sD x y (by simpa using e) h
  ·rw[if_neg q]at h ⊢;exact h
theorem tD:∀(a:List Int) {x y:Int},x < y->HT.lexLt (a++[x]) (a++[y])=true
 | [],x,y,h=>by show HT.lexLt [x] [y]=true;rw[HT.lexLt_cons,if_neg (by omega)];exact decide_eq_true h
 | u :: a,x,y,h=>by rw[Y5,Y5,HT.lexLt_cons,if_pos rfl];exact tD a h
theorem wX:∀{cs acc:List (List Int)}{n:Nat},acc.Pairwise (λa b=>HT.lexLt a b=true)->(∀p∈acc,p.length=n)->(∀c∈cs,c.Pairwise (· < ·))->(DQ acc cs).Pairwise (λa b=>HT.lexLt a b=true)
 | [],_,_,h,_,_=>h
 | c :: cs,acc,n,h,hn,hc=>by
  refine wX (cs:=cs) (n:=n+1) ?_ ?_ λd hd=>hc d (q0 _ hd)
  ·rw[Z8];refine ⟨λp hp=>?_,?_⟩
   ·rw[O3];exact (hc c v0).imp λh=>tD p h
   ·refine List.Pairwise.imp_of_mem (λ{a b} ha hb h=>?_) h;intro x hx y hy;obtain⟨u,_,rfl⟩:=J0.mp hx;obtain⟨v,_,rfl⟩:=J0.mp hy;exact sD u v (by rw[hn a ha,hn b hb]) h
  ·intro p hp;obtain⟨q,hq,hx⟩:=K4.mp hp;obtain⟨x,_,rfl⟩:=J0.mp hx;rw[M0,hn q hq];rfl
theorem XY(a b:Int):(BX a b).Pairwise (· < ·):=by unfold BX;rw[O3];exact List.pairwise_lt_range.imp λh=>by omega
theorem jF(lo hi:List Int):(Yq lo hi).Pairwise (λa b=>HT.lexLt b a=false):=by
 have h:=wX (cs:=(lo.zip hi).map λp=>BX p.1 p.2) (acc:=[[]]) (n:=0) (N4 _ _) (by simp) λc hc=>by obtain⟨p,_,rfl⟩:=J0.mp hc;exact XY _ _
 refine List.Pairwise.imp (λ{a b} h=>?_) h;cases e:HT.lexLt b a
 ·rfl
 ·have:=SG.lex_wk.tr a b a h e;rw[SG.lex_wk.irr]at this;cases this
theorem sN(a b:Int):(BX a b).length=(b+1 - a).toNat:=by simp[BX]
theorem LJ:∀{cs acc:List (List α)}{a q:List α},a∈acc->qw q cs->a++q∈DQ acc cs
 | [],acc,a,[],ha,_=>by simpa [DQ]using ha
 | [],_,_,_ :: _,_,h=>h.elim
 | _ :: _,_,_,[],_,h=>h.elim
 | c :: cs,acc,a,x :: q,ha,h=>by have:=LJ (cs:=cs) (acc:=acc.flatMap λp=>c.map λx=>p++[x]) (a:=a++[x]) (q:=q) (K4.mpr ⟨a,ha,J0.mpr ⟨x,h.1,rfl⟩⟩) h.2;simpa [DQ]using this
theorem uD{x s:Int}(h0:0<=x)(h1:x < s):x∈rng s:=J0.mpr ⟨x.toNat,u3.mpr (by omega),by omega⟩
theorem Vx:∀{p sd:List Int},Wi p sd->qw p (sd.map rng)
 | [],[],_=>trivial
 | [],_ :: _,h=>h.elim
 | _ :: _,[],h=>h.elim
 | x :: p,s :: sd,h=>⟨uD h.1.1 h.1.2,Vx h.2⟩
theorem Wx{p sd:List Int}(h:Wi p sd):p∈tX sd:=LJ (a:=[]) (by simp) (Vx h)
noncomputable abbrev zK(sd cl:List Int):PyData:=.tuple [iQ sd,iQ cl]
noncomputable def cK(sd cl p:List Int):Int:=cl.getD (LI sd p).toNat 0
mutual
noncomputable def WV:PyData->Bool
 | .dict es=>eJ es
 | .list xs=>okAll xs
 | .tuple xs=>okAll xs
 | .none=>true
 | .bool _=>true
 | .int _=>true
 | .str _=>true
noncomputable def okAll:List PyData->Bool
 | []=>true
 | x :: xs=>WV x&&okAll xs
end
theorem bZ:∀{xs:List PyData},okAll xs=true->∀d∈xs,WV d=true
 | [],_,d,h=>by simp at h
 | x :: xs,h,d,hd=>by
  simp[okAll]at h;rcases W0.mp hd with rfl|hd
  ·exact h.1
  ·exact bZ h.2 d hd
theorem AZ:∀{xs:List PyData},(∀d∈xs,WV d=true)->okAll xs=true
 | [],_=>rfl
 | x :: xs,h=>by simp[okAll];exact ⟨h x v0,AZ λd hd=>h d (q0 _ hd)⟩
noncomputable def KU:PyData->Bool
 | .int _=>true
 | _=>false
noncomputable def Xx(s:Int):PyData->Bool
 | .int i=>decide (0<=i)&&decide (i < s)
 | _=>false
noncomputable def vD:List PyData->List Int->Bool
 | d :: ds,s :: sd=>Xx s d&&vD ds sd
 | _,_=>true
noncomputable def AK(sd:List Int):PyData->Bool
 | .tuple ds=>decide (ds.length=sd.length)&&vD ds sd
 | _=>false
theorem ints_of:∀{ds:List PyData},ds.all KU=true->∃ns:List Int,ds=ns.map i0
 | [],_=>⟨[],rfl⟩
 | d :: ds,h=>by simp at h;obtain⟨ns,e⟩:=ints_of (ds:=ds) (by simpa using h.2);cases d<;>simp[KU]at h;rename_i i;exact ⟨i :: ns,by rw[e];rfl⟩
theorem QW:∀{ds:List PyData}{sd:List Int},ds.length=sd.length->vD ds sd=true->ds.all KU=true
 | [],_,_,_=>rfl
 | d :: ds,[],h,_=>by simp at h
 | d :: ds,s :: sd,h,k=>by simp[vD]at k;have:=QW (ds:=ds) (sd:=sd) (by simpa using h) k.2;cases d<;>simp[Xx]at k;rename_i i;show (KU (.int i)&&ds.all KU)=true;rw[this];rfl
noncomputable def sV(p:Int×Int):Bool:=decide (0<=p.1)&&decide (p.1 < p.2)
theorem wD:∀(ns sd:List Int),vD (ns.map i0) sd=((ns.zip sd).map sV).all id
 | [],_=>by simp[vD]
 | n :: ns,[]=>by simp[vD]
 | n :: ns,s :: sd=>by simp[vD,Xx,sV,wD ns sd]
noncomputable def tN(ns ms:List Int):Bool:=((ns.zip ms).map λp=>decide (p.1<=p.2)).all id
noncomputable def unI:PyData->Int
 | .int i=>i
 | _=>0
noncomputable def XR:PyData->PyData->Bool
 | .tuple xs,.tuple ys=>tN (xs.map unI) (ys.map unI)
 | _,_=>false
theorem xD(ns:List Int):(ns.map i0).map unI=ns:=by rw[P0];exact W6 ns
noncomputable def YR(sd:List Int):PyData->Bool
 | .tuple [a,b]=>AK sd a&&AK sd b&&XR a b
 | _=>false
theorem XV{sd:List Int}{d:PyData}(h:AK sd d=true):∃ns:List Int,d=iQ ns/\ns.length=sd.length:=by cases d<;>simp[AK]at h;rename_i ds;obtain⟨ns,e⟩:=ints_of (QW h.1 h.2);subst e;exact ⟨ns,rfl,by simpa using h.1⟩
def kF:Con:=λargs Q=>∃d,args=[.fz d]/\WV d=true/\∀o,Q (.fz (.bool (KU d))) o
theorem Uy:FnScope ["thing"] ["thing"] (mQ (top 1)):=⟨rfl,rfl,rfl,by decide +kernel,rfl,by decide +kernel,by decide +kernel⟩
theorem Yx(F:Fun K "is_whole" "is_whole" (top 1) f fd)(T:Txt mg):FnOk P w K mg base iZ 1 f fd ["thing"] (pQ K kF):=by
 have S:=Uy;refine tK F S (λcdv A outer s H E hr=>(rQ (RQ (Ru (rY .int rfl T.isinstance_ T.int_ boot_int (wn 0)) (Qu (w_not (rY .bl rfl T.isinstance_ T.bool_ boot_bool (wn 0)))))))) ?_ ?_
 ·rintro args Qd ⟨d,rfl,_⟩;rfl
 ·rintro args Qd ⟨d,rfl,hd,q⟩;refine ⟨yQ rfl,?_⟩;cases d with
  | dict es=>exact ⟨hd,q _⟩
  | int i=>exact q _
  | bool b=>exact q _
  | none=>exact q _
  | str x=>exact q _
  | list xs=>exact q _
  | tuple xs=>exact q _
structure CalsC(P:Program)(w:World)(K:n0)(mg:Str->Option Value)(base:Heap):Prop where
 is_whole:Cal P w K mg base 1 "is_whole" ["thing"] (pQ K kF)
noncomputable def CK(n:Nat):PyData->Bool
 | .tuple ds=>decide (ds.length=n)&&ds.all KU
 | _=>false
def Zx:Con:=λargs Q=>∃(d:PyData) (n:Nat),args=[.fz d,.fz (.int n)]/\WV d=true/\n<=1000/\∀o,Q (.fz (.bool (CK n d))) o
theorem NI:FnScope ["thing","many"] ["thing","many"] (mQ (top 2)):=⟨rfl,rfl,rfl,by decide +kernel,rfl,by decide +kernel,by decide +kernel⟩
theorem Vy(F:Fun K "are_wholes" "are_wholes" (top 2) f fd)(T:Txt mg)(C:CalsC P w K mg base):FnOk P w K mg base iZ 2 f fd ["thing","many"] (pQ K Zx):=by
 have S:=NI;refine tK F S (λcdv A outer s H E hr=>(kQ (tZ (vL (GG (PK (nK (rY .tup rfl T.isinstance_ T.tuple_ boot_tuple (wn 0)))) (uH (AX PF (zU (K:=K) rfl hr.units) (wx (xQ jX (GQ (K:=K) rfl) T.len_ PySem.boot_len (eQ (wn 0) fQ))) (wn 1))))) (rQ (RQ sK)) xX)
     (rQ (RQ (xQ xW (OZ (K:=K) rfl rfl) T.all_ boot_all (eQ (wx (fX rfl (own:=["number"]) (fr:=[]) (by kernel_rfl) (bX rfl (wv 0)) (λ_ _ _ _=>(qQ (i:=0) (by decide +kernel:O2 (["number"]:List Str)) rfl (Or.inl rfl))) (λ_ _ _ _=>zW) (λ_ _ _ _=>(lX C.is_whole (hr.mono (by first|decide|omega)) (eQ (wn 0) fQ))))) fQ)))))) ?_ ?_
 ·rintro args Qd ⟨d,n,rfl,_⟩;rfl
 ·rintro args Qd ⟨d,n,rfl,hd,hn,q⟩;refine ⟨yQ rfl,?_⟩;cases d with
  | dict es=>exact ⟨hd,q _⟩
  | int i=>exact q _
  | bool b=>exact q _
  | none=>exact q _
  | str x=>exact q _
  | list xs=>exact q _
  | tuple xs =>
   refine rZ (λh=>?_) (λh=>?_)
   ·have h:¬(xs.length:Int)=n:=by simpa using h
    have e:CK n (.tuple xs)=false:=by simp[CK];intro z;omega
    rw[e]at q;exact q _
   ·have h:(xs.length:Int)=n:=by simpa using h
    have hl:xs.length=n:=by omega
    refine ⟨zQ (by omega),qJ (λd=>.bool (KU d)) ?_ ?_⟩
    ·intro d hd2 N hN;exact ⟨d,rfl,bZ (by simpa [WV]using hd) d hd2,λo=>hN⟩
    ·refine ⟨xs.map KU,by rw[P0];rfl,?_⟩;have e:CK n (.tuple xs)=(xs.map KU).all id:=by simp[CK,hl]
     rw[<- e];exact q _
structure CalsD(P:Program)(w:World)(K:n0)(mg:Str->Option Value)(base:Heap):Prop where
 are_wholes:Cal P w K mg base 2 "are_wholes" ["thing","many"] (pQ K Zx)
def NH:Con:=λargs Q=>∃(sd:List Int) (d:PyData),args=[.fz (iQ sd),.fz d]/\WV d=true/\sd.length<=1000/\∀o,Q (.fz (.bool (AK sd d))) o
noncomputable def FP:PyData->PyData
 | .tuple [.int a,.int b]=>.bool (sV (a,b))
 | _=>.none
theorem Oq:FnScope ["sides","thing"] ["sides","thing"] (mQ (top 8)):=⟨rfl,rfl,rfl,by decide +kernel,rfl,by decide +kernel,by decide +kernel⟩
theorem lF(F:Fun K "is_place" "is_place" (top 8) f fd)(T:Txt mg)(C:CalsD P w K mg base):FnOk P w K mg base iZ 3 f fd ["sides","thing"] (pQ K NH):=by
 have S:=Oq;refine tK F S (λcdv A outer s H E hr=>(kQ (tZ (PK (nK (lX C.are_wholes (hr.mono (by first|decide|omega)) (eQ (wn 1) (eQ (wx (xQ jX (GQ (K:=K) rfl) T.len_ PySem.boot_len (eQ (wn 0) fQ))) fQ))))) (rQ (RQ sK)) xX)
     (rQ (RQ (xQ xW (OZ (K:=K) rfl rfl) T.all_ boot_all (eQ (wx (fX rfl (own:=["number","side"]) (fr:=[]) (by kernel_rfl) (qY rfl T.zip_ (eQ (wn 1) (eQ (wn 0) fQ))) (λ_ _ _ _=>(EJ rfl rfl (LQ (qQ (i:=0) (by decide +kernel:O2 (["number","side"]:List Str)) rfl (Or.inl rfl)) (LQ (qQ (i:=1) (by decide +kernel:O2 (["number","side"]:List Str)) rfl (Or.inl rfl)) yZ)))) (λ_ _ _ _=>zW) (λ_ _ _ _=>(Uv Du Bz (wx gQ) (wn 0) (wn 1))))) fQ)))))) ?_ ?_
 ·rintro args Qd ⟨sd,d,rfl,_⟩;rfl
 ·rintro args Qd ⟨sd,d,rfl,hd,hn,q⟩;refine ⟨yQ rfl,?_⟩;refine ⟨d,sd.length,by rw[j0];rfl,hd,hn,λo=>?_⟩;cases ha:CK sd.length d with
  | false =>
   have e:AK sd d=false:=by
    cases d<;>first|rfl|skip
    rename_i ds;simp[CK]at ha;by_cases h:ds.length=sd.length
    ·cases hz:vD ds sd with
     | false=>simp[AK,hz]
     | true=>have:=QW h hz;exact absurd this (by simpa using ha h)
    ·simp[AK,h]
   rw[e]at q;exact q _
  | true =>
   cases d<;>simp[CK]at ha;rename_i ds;obtain⟨hl,hi⟩:=ha;obtain⟨ns,rfl⟩:=ints_of (ds:=ds) (by simpa using hi);have hz:oY (ns.map i0) (sd.map i0)=(ns.zip sd).map λp=>B1 [.int p.1,.int p.2]:=aZ ns sd;have hln:ns.length=sd.length:=by simpa using hl
   refine ⟨by rw[hz,j0,G4];exact zQ (by omega),qJ FP ?_ ?_⟩
   ·intro d hd2 N hN;rw[hz]at hd2;obtain⟨⟨a,b⟩,_,rfl⟩:=J0.mp hd2;have hN:N (.bool (sV (a,b))) _:=hN;refine ⟨rfl,?_⟩;refine rZ (λh=>?_) (λh=>?_)
    ·have e:sV (a,b)=decide (a < b):=by
      have h:decide (0<=a)=true:=h;simp[sV,of_decide_eq_true h]
     rw[e]at hN;exact hN
    ·have e:sV (a,b)=false:=by
      have h:¬decide (0<=a)=true:=h;simp[sV];intro z;exact absurd (decide_eq_true z) h
     rw[e]at hN;exact hN
   ·rw[hz,P0];refine ⟨(ns.zip sd).map sV,by rw[P0];rfl,?_⟩;have e:AK sd (.tuple (ns.map i0))=((ns.zip sd).map sV).all id:=by
     rw[<- wD];simp[AK,hln]
    rw[<- e];exact q _
theorem vY(f:α->β):∀(cs acc:List (List α)),(DQ acc cs).map (i5 f)=DQ (acc.map (i5 f)) (cs.map (i5 f))
 | [],acc=>rfl
 | c :: cs,acc=>by show (DQ (acc.flatMap λp=>c.map λx=>p++[x]) cs).map (i5 f)=DQ ((acc.map (i5 f)).flatMap λp=>(c.map f).map λx=>p++[x]) (cs.map (i5 f));rw[vY f cs];congr 1;rw[List.map_flatMap,List.flatMap_map];congr 1;funext p;simp[P0,Function.comp_def]
def ck:Con:=λargs Q=>∃cs:List (List PyData),args=[.fz (.list (cs.map G3))]/\(∀c∈cs,c≠[])/\lenP cs<=1000/\cs.length<=1000/\∀o,Q (.ow (.list ((DQ [[]] cs).map B1))) o
theorem OI:FnScope ["choices","chosen","things","longer","ahead","thing"] ["choices"] (mQ (top 3)):=⟨rfl,rfl,rfl,by decide +kernel,rfl,by decide +kernel,by decide +kernel⟩
theorem Wy(F:Fun K "one_of_each" "one_of_each" (top 3) f fd):FnOk P w K mg base iZ 1 f fd ["choices"] (pQ K ck):=by
 have S:=OI;refine tK F S (λcdv A outer s H E hr=>(kQ (BQ (i:=1) S.nd rfl (Or.inl rfl) (WQ (eQ (wx (tQ fQ)) fQ)))
     (kQ (JX [2,3,4] PassesOwn.never rfl (bX rfl (wv 0)) (qQ (i:=2) S.nd rfl (Or.inl rfl)) (kQ (BQ (i:=3) S.nd rfl (Or.inl rfl) (WQ fQ))
     (kQ (JX [4,5] PassesOwn.never rfl (bX rfl (wv 1)) (qQ (i:=4) S.nd rfl (Or.inl rfl)) (rQ (JX [5] PassesOwn.never rfl (bX rfl (wv 2)) (qQ (i:=5) S.nd rfl (Or.inl rfl)) (rQ (jZ (Xq IX rfl PySem.F.slot_list_append PySem.F.type_list_append GX (wn 3) (eQ (wx (w_bin lQ jQ (wn 4) (wx (tQ (eQ (wx (wv 5)) fQ))))) fQ)))))))
     (rQ (HG (i:=1) S.nd rfl (Or.inl rfl) (wn 3))))))
     (rQ (GJ (wn 1)))))) ?_ ?_
 ·rintro args Qd ⟨cs,rfl,_⟩;rfl
 ·rintro args Qd ⟨cs,rfl,hne,hlen,hcl,q⟩;refine ⟨yQ rfl,?_⟩;refine zX (λrest ρ=>∃(acc rs:List (List PyData)),ρ=[ZA (.list (cs.map G3)),YA (.list (acc.map B1)),none,none,none,none]/\rest=rs.map G3/\(∀c∈rs,c≠[])/\acc.length * lenP rs=lenP cs/\DQ acc rs=DQ [[]] cs/\(∀p∈acc,p.length+rs.length<=1000)) ?_ ?_
   ⟨[[]],cs,rfl,rfl,hne,by simp,rfl,λp hp=>by simp at hp;subst hp;simpa using hcl⟩
  ·rintro d ds ρ ⟨acc,rs,rfl,er,hne',hln,hacc,hpl⟩ N hN;cases rs with
   | nil=>cases er
   | cons c rs =>
    cases er;have hr2:∀c∈rs,c≠[]:=λc hc=>hne' c (q0 _ hc);have hlp:=WK hr2;have htot:(acc.flatMap λp=>c.map λx=>p++[x]).length<=1000:=by rw[YK];have h1:acc.length * (c.length * lenP rs)=lenP cs:=hln;rw[<- K9]at h1;have:acc.length * c.length<=acc.length * c.length * lenP rs:=Y6 _ hlp;omega
    refine zX (λrest ρ=>∃(lg rp:List (List PyData)),ρ=[ZA (.list (cs.map G3)),ZA (.list (acc.map B1)),ZA (.list c),YA (.list (lg.map B1)),none,none]/\rest=rp.map B1/\(lg++rp.flatMap λp=>c.map λx=>p++[x])=(acc.flatMap λp=>c.map λx=>p++[x])/\(∀p∈rp,p∈acc)) ?_ ?_
     ⟨[],acc,rfl,rfl,rfl,λp hp=>hp⟩
    ·rintro d ds ρ ⟨lg,rp,rfl,er,he,hin⟩ M hM;cases rp with
     | nil=>cases er
     | cons p rp =>
      cases er;have hp1:=hpl p (hin p v0);have hl5:lg.length+c.length<=1000:=by have:=congrArg B4 he;rw[M0,P3,M0,j0]at this;omega
      refine zX (λrest ρ=>∃(pre:List PyData),c=pre++rest/\ρ=[ZA (.list (cs.map G3)),ZA (.list (acc.map B1)),ZA (.list c),YA (.list ((lg++pre.map λx=>p++[x]).map B1)),ZA (.tuple p),none]) ?_ ?_
       ⟨[],rfl,by simp;rfl⟩
      ·rintro x ds' ρ ⟨pre,hc,rfl⟩ L hL;refine ⟨by simp at hp1 ⊢;exact zQ (by omega),by rw[j0,M0,j0];have:=congrArg B4 hc;simp at this;exact O0 (show _ < 1000 by omega) (by decide),?_⟩;refine hL _ ⟨pre++[x],by rw[hc];simp,?_⟩;have e1:((lg++pre.map λx=>p++[x]).map B1)++[B1 (p++[x])]=((lg++(pre++[x]).map λx=>p++[x]).map B1):=by simp
       rw[<- e1];rfl
      ·rintro ρ ⟨pre,hc,rfl⟩;rw[K2]at hc;subst hc;exact hM _ ⟨lg++c.map λx=>p++[x],rp,rfl,rfl,by rw[E2,<- he,P3],λp' hp'=>hin p' (q0 _ hp')⟩
    ·rintro ρ ⟨lg,rp,rfl,er,he,hin⟩;cases rp with
     | cons p rp=>cases er
     | nil =>
      rw[K6,K2]at he;refine hN _ ⟨acc.flatMap λp=>c.map λx=>p++[x],rs,by rw[he];rfl,rfl,hr2,?_,hacc,λp hp=>?_⟩
      ·rw[YK,K9];exact hln
      ·obtain⟨p',hp',hx⟩:=K4.mp hp;obtain⟨x,_,rfl⟩:=J0.mp hx;have:=hpl p' hp';simp at this ⊢;omega
  ·rintro ρ ⟨acc,rs,rfl,er,hne',hln,hacc,hpl⟩;cases rs with
   | cons a rs=>cases er
   | nil=>have hacc:acc=DQ [[]] cs:=hacc;rw[hacc];exact q _
structure CalsBt(P:Program)(w:World)(K:n0)(mg:Str->Option Value)(base:Heap):Prop where
 one_of_each:Cal P w K mg base 1 "one_of_each" ["choices"] (pQ K ck)
def uN:Con:=λargs Q=>∃low high:List Int,args=[.fz (iQ low),.fz (iQ high)]/\low.length=high.length/\low.length<=3/\(∀p∈low.zip high,0<=p.1/\p.1<=p.2/\p.2<=1000)/\lenP ((low.zip high).map λp=>BX p.1 p.2)<=1000/\∀o,Q (.ow (.list ((Yq low high).map iQ))) o
theorem vN:FnScope ["low","high"] ["low","high"] (mQ (top 4)):=⟨rfl,rfl,rfl,by decide +kernel,rfl,by decide +kernel,by decide +kernel⟩
theorem QI(F:Fun K "places_between" "places_between" (top 4) f fd)(T:Txt mg)(C:CalsBt P w K mg base):FnOk P w K mg base iZ 2 f fd ["low","high"] (pQ K uN):=by
 have S:=vN;refine tK F S (λcdv A outer s H E hr=>(rQ (RQ (lX C.one_of_each (hr.mono (by first|decide|omega)) (eQ (wx (fX rfl (own:=["first","last"]) (fr:=[]) (by kernel_rfl) (qY rfl T.zip_ (eQ (wn 0) (eQ (wn 1) fQ))) (λ_ _ _ _=>(EJ rfl rfl (LQ (qQ (i:=0) (by decide +kernel:O2 (["first","last"]:List Str)) rfl (Or.inl rfl)) (LQ (qQ (i:=1) (by decide +kernel:O2 (["first","last"]:List Str)) rfl (Or.inl rfl)) yZ)))) (λ_ _ _ _=>zW) (λ_ _ _ _=>(kP rfl T.list_ T.range_ (eQ (wn 0) (eQ (wx (w_bin lQ jQ (wn 1) (wx gQ))) fQ)))))) fQ))))) ?_ ?_
 ·rintro args Qd ⟨low,high,rfl,_⟩;rfl
 ·rintro args Qd ⟨low,high,rfl,hl,h3,hb,hlen,q⟩;refine ⟨yQ rfl,?_⟩;have hz:(oY (low.map i0) (high.map i0)).length<=sizeLine:=by rw[aZ,j0,G4];exact zQ (by omega)
  refine ⟨hz,qJ (λd=>match d with | .tuple [.int a,.int b]=>.list (CQ a (b+1 - a).toNat)|_=>.none) ?_ ?_⟩
  ·intro d hd N hN;rw[aZ]at hd;obtain⟨⟨a,b⟩,hp,rfl⟩:=J0.mp hd;have hab:=hb _ hp;simp only at hab;exact ⟨rfl,⟨by omega,by omega,by omega,by omega⟩,by omega,hN⟩
  ·have e1:(oY (low.map i0) (high.map i0)).map (λd=>match d with | .tuple [.int a,.int b]=>G3 (CQ a (b+1 - a).toNat)|_=>.none)=(((low.zip high).map λp=>BX p.1 p.2).map (i5 i0)).map G3:=by
    rw[aZ,P0,P0,P0];refine Y1 λp _=>?_;simp[KH]
   rw[e1];have hl2:lenP (((low.zip high).map λp=>BX p.1 p.2).map (i5 i0))=lenP ((low.zip high).map λp=>BX p.1 p.2):=by
    generalize (low.zip high).map (λp=>BX p.1 p.2)=cs;induction cs with
    | nil=>rfl
    | cons c cs ih=>simp[lenP,ih]
   refine ⟨((low.zip high).map λp=>BX p.1 p.2).map (i5 i0),rfl,?_,by rw[hl2];exact hlen,by simp;omega,λo=>?_⟩
   ·intro c hc;obtain⟨c',hc',rfl⟩:=J0.mp hc;obtain⟨p,hp,rfl⟩:=J0.mp hc';have:=hb p hp;intro z;have:=congrArg B4 z;simp[BX]at this;omega
   ·have e2:(DQ [[]] (((low.zip high).map λp=>BX p.1 p.2).map (i5 i0))).map B1=(Yq low high).map iQ:=by
     have:=vY i0 ((low.zip high).map λp=>BX p.1 p.2) [[]];simp only[T1,Q8]at this;rw[<- this,P0];rfl
    rw[e2];exact q _
def fk:Con:=λargs Q=>∃sd pl:List Int,args=[.fz (iQ sd),.fz (iQ pl)]/\sd.length<=1000/\(∀s∈sd,0<=s/\s < 2 ^ 64)/\∀o,Q (.fz (.int (LI sd pl))) o
theorem Xy:FnScope ["sides","place","index","side","number"] ["sides","place"] (mQ (top 5)):=⟨rfl,rfl,rfl,by decide +kernel,rfl,by decide +kernel,by decide +kernel⟩
theorem gk(F:Fun K "index_of" "index_of" (top 5) f fd)(T:Txt mg):FnOk P w K mg base iZ 1 f fd ["sides","place"] (pQ K fk):=by
 have S:=Xy;refine tK F S (λcdv A outer s H E hr=>(kQ (BQ (i:=2) S.nd rfl (Or.inl rfl) gQ)
     (kQ (JX [3,4] PassesOwn.never rfl (qY rfl T.zip_ (eQ (wn 0) (eQ (wn 1) fQ))) (EJ rfl rfl (LQ (qQ (i:=3) S.nd rfl (Or.inl rfl)) (LQ (qQ (i:=4) S.nd rfl (Or.inl rfl)) yZ))) (rQ (BQ (i:=2) S.nd rfl (Or.inl rfl) (w_bin lQ jQ (wx (w_bin CJ FZ (wn 2) (wn 3))) (wn 4)))))
     (rQ (GJ (wn 2)))))) ?_ ?_
 ·rintro args Qd ⟨sd,pl,rfl,_⟩;rfl
 ·rintro args Qd ⟨sd,pl,rfl,hl,hs,q⟩;refine ⟨yQ rfl,?_⟩;refine zX (λrest ρ=>∃(i:Int) (rs:List (Int×Int)),ρ=[ZA (iQ sd),ZA (iQ pl),ZA (.int i),none,none]/\rest=rs.map (λp=>B1 [.int p.1,.int p.2])/\(∀p∈rs,p∈sd.zip pl)/\rs.foldl (λi p=>i * p.1+p.2) i=LI sd pl) ?_ ?_
   ⟨0,sd.zip pl,rfl,aZ _ _,λ_ h=>h,rfl⟩
  ·rintro d ds ρ ⟨i,rs,rfl,er,hin,hf⟩ N hN;cases rs with
   | nil=>cases er
   | cons p rs=>cases er;have hp:=hs p.1 (m4 (hin p v0)).1;exact ⟨rfl,.inr ⟨by omega,by omega⟩,hN _ ⟨i * p.1+p.2,rs,rfl,rfl,λx hx=>hin x (q0 _ hx),hf⟩⟩
  ·rintro ρ ⟨i,rs,rfl,er,hin,hf⟩;cases rs with
   | nil=>have hf:i=LI sd pl:=hf;subst hf;exact q _
   | cons _ _=>cases er
noncomputable def Bx:List Int->List Int->List Int->Prop
 | [],[],[]=>True
 | x :: lo,y :: hi,s :: sd=>(0<=x/\x<=y/\y < s)/\Bx lo hi sd
 | _,_,_=>False
theorem mF:∀{lo hi sd:List Int},Bx lo hi sd->lo.length=sd.length/\hi.length=sd.length
 | [],[],[],_=>⟨rfl,rfl⟩
 | x :: lo,y :: hi,s :: sd,h=>by have:=mF h.2;simp[this.1,this.2]
 | [],[],_ :: _,h=>h.elim
 | [],_ :: _,z,h=>by cases z<;>exact h.elim
 | _ :: _,[],z,h=>by cases z<;>exact h.elim
 | _ :: _,_ :: _,[],h=>h.elim
theorem zB:∀{lo hi sd:List Int},Bx lo hi sd->vD (lo.map i0) sd=true/\vD (hi.map i0) sd=true/\tN lo hi=true
 | [],[],[],_=>⟨rfl,rfl,rfl⟩
 | x :: lo,y :: hi,s :: sd,h=>by
  obtain⟨h1,h2,h3⟩:=zB h.2;have hx:=h.1;refine ⟨?_,?_,?_⟩
  ·simp only[T1,vD,Xx,h1,M7,J1,decide_eq_true_eq];omega
  ·simp only[T1,vD,Xx,h2,M7,J1,decide_eq_true_eq];omega
  ·have e:tN (x :: lo) (y :: hi)=(decide (x<=y)&&tN lo hi):=by simp[tN]
   rw[e,h3,M7,decide_eq_true_eq];exact hx.2.1
 | [],[],_ :: _,h=>h.elim
 | [],_ :: _,z,h=>by cases z<;>exact h.elim
 | _ :: _,[],z,h=>by cases z<;>exact h.elim
 | _ :: _,_ :: _,[],h=>h.elim
theorem OH{a b x:Int}(h:x∈BX a b):a<=x/\x<=b:=by unfold BX at h;obtain⟨n,hn,rfl⟩:=J0.mp h;have:=u3.mp hn;omega
theorem ik:∀{lo hi sd p:List Int},Bx lo hi sd->qw p ((lo.zip hi).map λq=>BX q.1 q.2)->Wi p sd
 | [],[],[],[],_,_=>trivial
 | [],[],[],_ :: _,_,h=>h.elim
 | x :: lo,y :: hi,s :: sd,[],_,h=>h.elim
 | x :: lo,y :: hi,s :: sd,z :: p,h,k=>by have:=OH k.1;have hx:=h.1;simp only at this;exact ⟨by omega,ik h.2 k.2⟩
 | [],[],_ :: _,_,h,_=>h.elim
 | [],_ :: _,z,_,h,_=>by cases z<;>exact h.elim
 | _ :: _,[],z,_,h,_=>by cases z<;>exact h.elim
 | _ :: _,_ :: _,[],_,h,_=>h.elim
theorem jk{lo sd p:List Int}(h:Bx lo hi sd)(hp:p∈Yq lo hi):Wi p sd:=ik h (aK hp)
theorem RI{sd p:List Int}(h:Wi p sd):0<=LI sd p/\LI sd p < VQ sd:=by have:=yB h (g6 0) (by decide:(0:Int) < 1);rw[h9]at this;exact this
noncomputable def nZ(sd cl lo hi:List Int):List Int:=(Yq lo hi).map (cK sd cl)
def YV(c:Int):Prop:=-(10 ^ 27) < c/\c < 10 ^ 27
noncomputable def LeP:List Int->List Int->Prop
 | [],[]=>True
 | c :: cs,m :: ms=>(1<=c/\c<=m)/\LeP cs ms
 | _,_=>False
theorem LeP.snoc:∀{cs ms:List Int}{c m:Int},LeP cs ms->1<=c->c<=m->LeP (cs++[c]) (ms++[m])
 | [],[],_,_,_,h1,h2=>⟨⟨h1,h2⟩,trivial⟩
 | _ :: _,_ :: _,_,_,h,h1,h2=>⟨h.1,LeP.snoc h.2 h1 h2⟩
 | [],_ :: _,_,_,h,_,_=>h.elim
 | _ :: _,[],_,_,h,_,_=>h.elim
theorem LeP.len:∀{cs ms:List Int},LeP cs ms->cs.length=ms.length
 | [],[],_=>rfl
 | _ :: _,_ :: _,h=>by simp[LeP.len h.2]
 | [],_ :: _,h=>h.elim
 | _ :: _,[],h=>h.elim
theorem LeP.pos:∀{cs ms:List Int},LeP cs ms->∀c∈cs,1<=c
 | [],[],_,_,hc=>by cases hc
 | c :: cs,m :: ms,h,x,hx=>by
  rcases W0.mp hx with z|z
  ·subst z;exact h.1.1
  ·exact LeP.pos h.2 x z
 | [],_ :: _,h,_,_=>h.elim
 | _ :: _,[],h,_,_=>h.elim
theorem LeP.prod:∀{cs ms:List Int},LeP cs ms->VQ cs<=VQ ms
 | [],[],_=>g6 _
 | c :: cs,m :: ms,h=>by have h1:=LeP.prod h.2;have h2:=TZ (LeP.pos h.2);show c * VQ cs<=m * VQ ms;exact Y7 h.1.2 h1 (by omega) (by have:=h.1.1;have:=h.1.2;omega)
 | [],_ :: _,h=>h.elim
 | _ :: _,[],h=>h.elim
structure Mst(ms:List Int):Prop where
 l1:1<=ms.length
 l3:ms.length<=3
 p:∀c∈ms,1<=c/\c<=120
 m:VQ ms<=120
theorem LeP.sd{cs ms:List Int}(h:LeP cs ms)(hm:Mst ms):Sd cs:=⟨by rw[h.len];exact hm.l1,by rw[h.len];exact hm.l3,h.pos,Int.le_trans h.prod hm.m⟩
theorem ZV{sd:List Int}(hp:∀c∈sd,1<=c):(tX sd).Nodup:=by rw[i8,U3];intro i j hi hj hij e;have h1:=iF hp (k:=i) (p:=(tX sd)[i]) (by simp[hi]);have h2:=iF hp (k:=j) (p:=(tX sd)[j]) (by simp[hj]);rw[e]at h1;have:=h1.2.symm.trans h2.2;omega
theorem SI{a b:List Int}(h:HT.lexLt a b=true):HT.lexLt b a=false:=by
 cases e:HT.lexLt b a
 ·rfl
 ·have:=SG.lex_wk.tr a b a h e;rw[SG.lex_wk.irr]at this;cases this
theorem nF(sd:List Int):(tX sd).Pairwise (λa b=>HT.lexLt b a=false):=by
 have h:=wX (cs:=sd.map rng) (acc:=[[]]) (n:=0) (N4 _ _) (by simp) λc hc=>by obtain⟨s,_,rfl⟩:=J0.mp hc;rw[<- uY];exact XY _ _
 exact h.imp SI
theorem mk{l:List (List Int)}(h:l.Pairwise (λa b=>HT.lexLt a b=true)):l.Nodup:=h.imp λ{a b} z e=>by rw[e,SG.lex_wk.irr]at z;cases z
theorem Pq(lo hi:List Int):(Yq lo hi).Nodup:=by
 unfold Yq;exact mk (wX (cs:=(lo.zip hi).map λp=>BX p.1 p.2) (acc:=[[]]) (n:=0) (N4 _ _) (by simp) λc hc=>by obtain⟨p,_,rfl⟩:=J0.mp hc;exact XY _ _)
noncomputable def oF:List Int->List Int->List Int->Bool
 | a :: lo,x :: p,b :: hi=>(decide (a<=x)&&decide (x<=b))&&oF lo p hi
 | _,_,_=>true
theorem rng2_mem{a b x:Int}:x∈BX a b ↔ a<=x/\x<=b:=by refine ⟨OH,λh=>?_⟩;unfold BX;exact J0.mpr ⟨(x - a).toNat,u3.mpr (by omega),by omega⟩
theorem yD:∀{lo hi sd p:List Int},Bx lo hi sd->p.length=sd.length->oF lo p hi=true->qw p ((lo.zip hi).map λq=>BX q.1 q.2)
 | [],[],[],[],_,_,_=>trivial
 | a :: lo,b :: hi,s :: sd,x :: p,h,hl,hi'=>by have hi':((decide (a<=x)&&decide (x<=b))&&oF lo p hi)=true:=hi';rw[J1,J1,decide_eq_true_eq,decide_eq_true_eq]at hi';exact ⟨rng2_mem.mpr hi'.1,yD h.2 (by simpa using hl) hi'.2⟩
 | [],[],[],_ :: _,_,h,_=>by simp at h
 | _ :: _,_ :: _,_ :: _,[],_,h,_=>by simp at h
 | [],[],_ :: _,_,h,_,_=>h.elim
 | [],_ :: _,z,_,h,_,_=>by cases z<;>exact h.elim
 | _ :: _,[],z,_,h,_,_=>by cases z<;>exact h.elim
 | _ :: _,_ :: _,[],_,h,_,_=>h.elim
theorem zD:∀{lo hi p:List Int},lo.length=hi.length->qw p ((lo.zip hi).map λq=>BX q.1 q.2)->oF lo p hi=true
 | [],_,_,_,_=>by simp[oF]
 | a :: lo,b :: hi,x :: p,hl,h=>by show ((decide (a<=x)&&decide (x<=b))&&oF lo p hi)=true;have h1:=rng2_mem.mp h.1;rw[zD (by simpa using hl) h.2,decide_eq_true h1.1,decide_eq_true h1.2];rfl
 | _ :: _,[],_,hl,_=>by simp at hl
 | _ :: _,_ :: _,[],_,h=>h.elim
theorem pF{lo sd:List Int}(h:Bx lo hi sd):(tX sd).filter (λp=>oF lo p hi)=Yq lo hi:=by
 have hl:=mF h;have hp:∀c∈sd,1<=c:=by
  have gen:∀{lo hi sd:List Int},Bx lo hi sd->∀c∈sd,1<=c:=by
   intro lo;induction lo with
   | nil=>intro hi sd h c hc;cases hi<;>cases sd<;>first|exact h.elim|cases hc
   | cons a lo ih =>
    intro hi sd h c hc;cases hi with
    | nil=>cases sd<;>exact h.elim
    | cons b hi =>
     cases sd with
     | nil=>exact h.elim
     | cons s sd =>
      rcases W0.mp hc with z|z
      ·subst z;have:=h.1;omega
      ·exact ih h.2 c z
  exact gen h
 refine SG.sorted_uniq (lt:=HT.lexLt) (λa b=>SG.lex_eq) ((List.perm_ext_iff_of_nodup ((ZV hp).filter _) (Pq lo hi)).mpr λp=>?_) ((nF sd).filter _) (jF lo hi);rw[P7];constructor
 ·rintro⟨h1,h2⟩;exact LJ (a:=[]) (by simp) (yD h (OW (iJ h1)) h2)
 ·intro h1;exact ⟨Wx (jk h h1),zD (by omega) (aK h1)⟩
theorem LU{sd:List Int}(hp:∀c∈sd,1<=c)(hl:cl.length=(tX sd).length):(tX sd).zip cl=(tX sd).map λp=>(p,cK sd cl p):=by
 refine List.ext_getElem? λi=>?_;by_cases hi:i < (tX sd).length
 ·have hz:i < ((tX sd).zip cl).length:=by rw[G4];omega
  rw[X0,A0 hi,A0 hz,List.getElem_zip];have h1:=iF hp (k:=i) (p:=(tX sd)[i]) (by simp[hi]);show some ((tX sd)[i],cl[i])=some ((tX sd)[i],cK sd cl (tX sd)[i]);have e:cK sd cl (tX sd)[i]=cl[i]:=by unfold cK;rw[h1.2,show ((i:Int)).toNat=i by omega,Y0,A0 (by omega)];rfl
  rw[e]
 ·rw[v4.mpr (by rw[G4];omega),v4.mpr (by rw[j0];omega)]
noncomputable def DX(sd cl:List Int):List (List Int×PyData):=((tX sd).zip cl).map λr=>(r.1,i0 r.2)
structure CalsB(P:Program)(w:World)(K:n0)(mg:Str->Option Value)(base:Heap):Prop where
 law_take:Cal P w K mg base 1 "_law_take" ["_law_pen_here","_law_most"] (pQ K IH)
def BD:Con:=λargs Q=>∃(ns:List Int) (k l:Int),args=[.io (CZ ns k l)]/\0<=k/\0<=l/\∀(r k' l':Int) (o:Ev),YV r->0<=k'->0<=l'->Q (.fz (.int r)) (some (.io (CZ ns k' l')) :: o)
theorem qk:FnScope ["_law_pen_here","_law_way"] ["_law_pen_here"] (mQ (top 25)):=⟨rfl,rfl,rfl,by decide +kernel,rfl,by decide +kernel,by decide +kernel⟩
theorem Qq(F:Fun K "_law_number" "_law_number" (top 25) f fd)(T:Txt mg)(C:CalsB P w K mg base):FnOk P w K mg base iZ 2 f fd ["_law_pen_here"] (pQ K BD):=by
 have S:=qk;refine tK F S (λcdv A outer s H E hr=>(kQ (BQ (i:=1) S.nd rfl (Or.inl rfl) (GZ C.law_take (hr.mono (by first|decide|omega)) (eQ (wn 0) (eQ (wx gQ) fQ))))
     (kQ (tZ (AX DJ (wZ (K:=K) rfl hr.units) (wn 1) (wx gQ)) (rQ (RQ (w_bin CJ FZ (wx (w_bin RX MX (wx (w_bin RX MX (wx (w_bin Cj yz (wx gQ) (wx gQ))) (wx gQ))) (wx (GZ C.law_take (hr.mono (by first|decide|omega)) (eQ (wn 0) (eQ (wx gQ) fQ)))))) (wx (w_bin RX MX (wx gQ) (wx (w_bin CJ FZ (wx gQ) (wx (GZ C.law_take (hr.mono (by first|decide|omega)) (eQ (wn 0) (eQ (wx gQ) fQ))))))))))) xX)
     (kQ (tZ (AX LV yV (wn 1) (wx gQ)) (rQ (RQ (w_bin RX MX (wx (GZ C.law_take (hr.mono (by first|decide|omega)) (eQ (wn 0) (eQ (wx gQ) fQ)))) (wx gQ)))) xX)
     (rQ (RQ (w_bin RX MX (wx (GZ C.law_take (hr.mono (by first|decide|omega)) (eQ (wn 0) (eQ (wx gQ) fQ)))) (wx gQ)))))))) ?_ ?_
 ·rintro args Qd ⟨ns,k,l,rfl,_⟩;rfl
 ·rintro args Qd ⟨ns,k,l,rfl,hk,hl,q⟩;refine ⟨yQ rfl,?_⟩;refine ⟨ns,k,l,_,rfl,hk,hl,by decide,by decide,λr k1 l1 _ r0 r1 hk1 hl1=>?_⟩;refine rZ (λh=>?_) (λh=>?_)
  ·refine ⟨⟨by decide,by decide,by decide⟩,?_⟩;refine ⟨ns,k1,l1,_,rfl,hk1,hl1,by decide,by decide,λa k2 l2 _ a0 a1 hk2 hl2=>?_⟩;refine ⟨ns,k2,l2,_,rfl,hk2,hl2,by decide,by decide,λb k3 l3 _ b0 b1 hk3 hl3=>?_⟩;refine ⟨.inl ⟨by decide,by decide⟩,.inr ⟨by omega,by omega⟩,?_⟩;refine q _ _ _ _ ?_ hk3 hl3;show YV ((10 ^ (27:Int).toNat - 1 - a) * (1 - 2 * b));have e:(10:Int) ^ (27:Int).toNat=10 ^ 27:=rfl;rw[e];rcases (show b=0\/b=1 by omega) with rfl|rfl
   ·exact ⟨by omega,by omega⟩
   ·exact ⟨by omega,by omega⟩
  refine rZ (λh=>?_) (λh=>?_)
  ·refine ⟨ns,k1,l1,_,rfl,hk1,hl1,by decide,by decide,λa k2 l2 _ a0 a1 hk2 hl2=>?_⟩;exact q _ _ _ _ ⟨by omega,by omega⟩ hk2 hl2
  ·refine ⟨ns,k1,l1,_,rfl,hk1,hl1,by decide,by decide,λa k2 l2 _ a0 a1 hk2 hl2=>?_⟩;exact q _ _ _ _ ⟨by omega,by omega⟩ hk2 hl2
noncomputable def tV:List Int->Int
 | []=>0
 | [x]=>x
 | x :: y :: l=>min x (tV (y :: l))
noncomputable def uV:List Int->Int
 | []=>0
 | [x]=>x
 | x :: y :: l=>max x (uV (y :: l))
theorem MJ:∀{l:List Int},l≠[]->tV l∈l/\∀y∈l,tV l<=y
 | [],h=>absurd rfl h
 | [x],_=>⟨by simp[tV],λy hy=>by
   have e:y=x:=by simpa using hy
   rw[e];exact g6 _⟩
 | x :: y :: l,_=>by
  obtain⟨h1,h2⟩:=MJ (l:=y :: l) (by simp);show min x (tV (y :: l))∈x :: y :: l/\_;constructor
  ·rcases (show min x (tV (y :: l))=x\/min x (tV (y :: l))=tV (y :: l) by omega) with e|e<;>rw[e]
   ·exact v0
   ·exact q0 _ h1
  ·intro z hz;show min x (tV (y :: l))<=z;rcases W0.mp hz with e|e
   ·omega
   ·have:=h2 z e;omega
theorem NJ:∀{l:List Int},l≠[]->uV l∈l/\∀y∈l,y<=uV l
 | [],h=>absurd rfl h
 | [x],_=>⟨by simp[uV],λy hy=>by
   have e:y=x:=by simpa using hy
   rw[e];exact g6 _⟩
 | x :: y :: l,_=>by
  obtain⟨h1,h2⟩:=NJ (l:=y :: l) (by simp);show max x (uV (y :: l))∈x :: y :: l/\_;constructor
  ·rcases (show max x (uV (y :: l))=x\/max x (uV (y :: l))=uV (y :: l) by omega) with e|e<;>rw[e]
   ·exact v0
   ·exact q0 _ h1
  ·intro z hz;show z<=max x (uV (y :: l));rcases W0.mp hz with e|e
   ·omega
   ·have:=h2 z e;omega
theorem UI{l:List Int}{m:Int}(h1:m∈l)(h2:∀y∈l,m<=y):m=tV l:=by have hs:=MJ (l:=l) (λz=>by rw[z]at h1;cases h1);have a:=h2 _ hs.1;have b:=hs.2 _ h1;omega
theorem VI{l:List Int}{m:Int}(h1:m∈l)(h2:∀y∈l,y<=m):m=uV l:=by have hs:=NJ (l:=l) (λz=>by rw[z]at h1;cases h1);have a:=h2 _ hs.1;have b:=hs.2 _ h1;omega
theorem XI{lo sd:List Int}(h:Bx lo hi sd):Yq lo hi≠[]:=λz=>by
 have:lo∈Yq lo hi:=by
  refine LJ (a:=[]) (by simp) ?_;clear z;induction lo generalizing hi sd with
  | nil=>cases hi with
   | nil=>trivial
   | cons b hi=>cases sd<;>exact h.elim
  | cons a lo ih =>
   cases hi with
   | nil=>cases sd<;>exact h.elim
   | cons b hi =>
    cases sd with
    | nil=>exact h.elim
    | cons s sd=>exact ⟨rng2_mem.mpr ⟨g6 _,h.1.2.1⟩,ih h.2⟩
 rw[z]at this;cases this
theorem aY{sd lo:List Int}(h:Bx lo hi sd):nZ sd cl lo hi≠[]:=λz=>XI h (M6.mp z)
noncomputable def PH(b:PQ)(i:Nat)(p:Int×Int):PQ:=(b.1.set i p.1,b.2.set i p.2)
theorem aU:∀{lo hi x:List Int}{i:Nat}{a c m:Int},lo.length=x.length->hi.length=x.length->lo[i]?=some a->hi[i]?=some c->a<=m->m < c -> (oF lo x hi=(oF (lo.set i a) x (hi.set i m)||oF (lo.set i (m+1)) x (hi.set i c)))/\¬(oF (lo.set i a) x (hi.set i m)=true/\oF (lo.set i (m+1)) x (hi.set i c)=true)
 | [],_,_,_,_,_,_,_,_,h,_,_,_=>by simp at h
 | l :: lo,h :: hi,y :: x,0,a,c,m,h1,h2,e1,e2,h3,h4=>by
  simp only[o5,Option.some.injEq]at e1 e2;subst e1;subst e2;simp only[e8,oF];cases oF lo x hi
  ·simp
  ·by_cases q1:l<=y<;>by_cases q2:y<=m<;>by_cases q3:m+1<=y<;>by_cases q4:y<=h<;>simp[q1,q2,q3,q4]<;>omega
 | l :: lo,h :: hi,y :: x,i+1,a,c,m,h1,h2,e1,e2,h3,h4=>by
  simp only[U2]at e1 e2;obtain⟨g1,g2⟩:=aU (lo:=lo) (hi:=hi) (x:=x) (i:=i) (by simpa using h1) (by simpa using h2) e1 e2 h3 h4;simp only[g8,oF];rw[g1];constructor
  ·cases (decide (l<=y)&&decide (y<=h))<;>simp
  ·rintro⟨z1,z2⟩;rw[J1]at z1 z2;exact g2 ⟨z1.2,z2.2⟩
 | _ :: _,[],_ :: _,_,_,_,_,_,h,_,_,_,_=>by simp at h
 | _ :: _,_,[],_,_,_,_,h,_,_,_,_,_=>by simp at h
theorem CD{p q r:α->Bool}:∀{l:List α},(∀x∈l,p x=(q x||r x)/\¬(q x=true/\r x=true))->(l.filter p).Perm (l.filter q++l.filter r)
 | [],_=>List.Perm.refl _
 | x :: l,h=>by
  have ih:=CD (l:=l) λy hy=>h y (q0 _ hy);obtain⟨h1,h2⟩:=h x v0;rw[L8,L8,L8,h1];cases e1:q x with
  | true =>
   have e2:r x=false:=by cases e2:r x with|false=>rfl|true=>exact absurd ⟨e1,e2⟩ h2
   rw[e2];simpa using ih
  | false =>
   cases e2:r x with
   | false=>simpa using ih
   | true=>simp only[Bool.false_or,if_true,S2,if_false];exact (ih.cons x).trans List.perm_middle.symm
theorem Rq{sd:List Int}{b:PQ}(hb:Bx b.1 b.2 sd){i:Nat}{a c m:Int}(ha:b.1[i]?=some a)(hc:b.2[i]?=some c)(h1:a<=m)(h2:m < c)(hb1:Bx (PH b i (a,m)).1 (PH b i (a,m)).2 sd)(hb2:Bx (PH b i (m+1,c)).1 (PH b i (m+1,c)).2 sd):(nZ sd cl b.1 b.2).Perm (nZ sd cl (PH b i (a,m)).1 (PH b i (a,m)).2++nZ sd cl (PH b i (m+1,c)).1 (PH b i (m+1,c)).2):=by
 unfold nZ;rw[<- v5];refine List.Perm.map _ ?_;rw[<- pF hb,<- pF hb1,<- pF hb2];refine CD λx hx=>?_;have hl:=OW (iJ hx);have hbl:=mF hb;exact aU (by omega) (by omega) ha hc h1 h2
theorem QH:∀(lo acc:List Int),DQ [acc] ((lo.zip lo).map λq=>BX q.1 q.2)=[acc++lo]
 | [],acc=>by simp[DQ]
 | a :: lo,acc=>by
  have e:BX a a=[a]:=by unfold BX;rw[show (a+1 - a).toNat=1 by omega];simp
  rw[i4,T1];show DQ ([acc].flatMap λp=>(BX a a).map λx=>p++[x]) _=_;rw[e];show DQ [acc++[a]] _=_;rw[QH lo (acc++[a])];simp
theorem SH{l:List Int}{i:Nat}{x:Int}(h:l[i]?=some x):l.set i x=l:=by obtain⟨h1,h2⟩:=V0.mp h;rw[<- h2];exact List.set_getElem_self h1
noncomputable def gpw(n:Int):Nat:=n.toNat.log2
theorem YY{n:Int}(h:1<=n)(k:Nat):k<=gpw n ↔ (2:Int) ^ k<=n:=by
 unfold gpw;rw[Nat.le_log2 (by omega)];have e:((2 ^ k:Nat):Int)=2 ^ k:=by rw[S7];rfl
 omega
theorem MU{n:Int}(h:1<=n):(gpw n:Int)+1<=n:=by
 have h1:=(YY h (gpw n)).mp (u0 _);have h2:gpw n < 2 ^ gpw n:=B9;have e:((2 ^ gpw n:Nat):Int)=2 ^ gpw n:=by rw[S7];rfl
 omega
theorem sk{n:Int}(h:1<=n):(A5 n:Int) - 1=gpw n:=by
 unfold A5 gpw;have e:(n==0)=false:=by rw[beq_eq_false_iff_ne];omega
 rw[e];have e2:n.natAbs=n.toNat:=by omega
 rw[e2];show (((n.toNat.log2+1:Nat):Int)) - 1=_;omega
noncomputable def kJ(sd p:List Int):List (List Int):=(sd.zip p).map λq=>rng ((gpw (q.1 - q.2):Nat)+1)
noncomputable def XQ(sd:List Int):List PQ:=(tX sd).flatMap λp=>(DQ [[]] (kJ sd p)).map λw=>(p,w)
noncomputable def Pc:List Int->List Int->List Int->Prop
 | [],[],[]=>True
 | x :: p,k :: w,s :: sd=>(0<=x/\x < s/\0<=k/\(2:Int) ^ k.toNat<=s - x)/\Pc p w sd
 | _,_,_=>False
theorem AB:∀{sd p w:List Int},Wi p sd->qw w (kJ sd p)->Pc p w sd
 | [],[],[],_,_=>trivial
 | s :: sd,x :: p,k :: w,h1,h2=>by have hx:=h1.1;have hk:0<=k/\k < ((gpw (s - x):Nat):Int)+1:=nD h2.1;refine ⟨⟨hx.1,hx.2,hk.1,(YY (by omega) _).mp (by omega)⟩,AB h1.2 h2.2⟩
 | [],[],_ :: _,_,h=>h.elim
 | _ :: _,_ :: _,[],_,h=>h.elim
 | [],_ :: _,_,h,_=>h.elim
 | _ :: _,[],_,h,_=>h.elim
theorem BB:∀{sd p w:List Int},Pc p w sd->Wi p sd/\qw w (kJ sd p)
 | [],[],[],_=>⟨trivial,trivial⟩
 | s :: sd,x :: p,k :: w,h=>by obtain⟨⟨h1,h2,h3,h4⟩,h5⟩:=h;obtain⟨g1,g2⟩:=BB h5;refine ⟨⟨⟨h1,h2⟩,g1⟩,⟨?_,g2⟩⟩;have:=(YY (by omega) k.toNat).mpr h4;exact uD h3 (by show k < ((gpw (s - x):Nat):Int)+1;omega)
 | [],[],_ :: _,h=>h.elim
 | [],_ :: _,z,h=>by cases z<;>exact h.elim
 | _ :: _,[],z,h=>by cases z<;>exact h.elim
 | _ :: _,_ :: _,[],h=>h.elim
theorem pcs_mem{sd:List Int}{b:PQ}:b∈XQ sd ↔ Pc b.1 b.2 sd:=by
 unfold XQ;constructor
 ·intro h;obtain⟨p,hp,hw⟩:=K4.mp h;obtain⟨w,hw2,rfl⟩:=J0.mp hw;exact AB (iJ hp) (aK hw2)
 ·intro h;obtain⟨h1,h2⟩:=BB h;exact K4.mpr ⟨b.1,Wx h1,J0.mpr ⟨b.2,LJ (a:=[]) (by simp) h2,rfl⟩⟩
theorem oZ:∀{p w sd:List Int},Pc p w sd->p.length=sd.length/\w.length=sd.length
 | [],[],[],_=>⟨rfl,rfl⟩
 | x :: p,k :: w,s :: sd,h=>by have:=oZ h.2;simp only[X2];omega
 | [],[],_ :: _,h=>h.elim
 | [],_ :: _,z,h=>by cases z<;>exact h.elim
 | _ :: _,[],z,h=>by cases z<;>exact h.elim
 | _ :: _,_ :: _,[],h=>h.elim
noncomputable def nJ(p w:List Int):List Int:=(p.zip w).map λq=>q.1+2 ^ q.2.toNat - 1
theorem NU(k:Nat):(1:Int)<=2 ^ k:=by
 have:1<=2 ^ k:=Nat.one_le_two_pow;have e:((2 ^ k:Nat):Int)=2 ^ k:=by rw[S7];rfl
 omega
theorem FY:∀{p w sd:List Int},Pc p w sd->Bx p (nJ p w) sd
 | [],[],[],_=>trivial
 | x :: p,k :: w,s :: sd,h=>by obtain⟨⟨h1,h2,h3,h4⟩,h5⟩:=h;have:=NU k.toNat;exact ⟨⟨h1,by show x<=x+2 ^ k.toNat - 1;omega,by show x+2 ^ k.toNat - 1 < s;omega⟩,FY h5⟩
 | [],[],_ :: _,h=>h.elim
 | [],_ :: _,z,h=>by cases z<;>exact h.elim
 | _ :: _,[],z,h=>by cases z<;>exact h.elim
 | _ :: _,_ :: _,[],h=>h.elim
theorem eK:∀{p w sd:List Int}{i:Nat}{x k:Int},Pc p w sd->p[i]?=some x->w[i]?=some k->0 < k -> Pc p (w.set i (k - 1)) sd/\Pc (p.set i (x+2 ^ (k - 1).toNat)) (w.set i (k - 1)) sd/\nJ p (w.set i (k - 1))=(nJ p w).set i (x+2 ^ (k - 1).toNat - 1)/\nJ (p.set i (x+2 ^ (k - 1).toNat)) (w.set i (k - 1))=nJ p w/\(nJ p w)[i]?=some (x+2 ^ k.toNat - 1)
 | [],_,_,_,_,_,_,h,_,_=>by simp at h
 | y :: p,l :: w,s :: sd,0,x,k,h,e1,e2,hk=>by
  simp only[o5,Option.some.injEq]at e1 e2;subst e1;subst e2;obtain⟨⟨h1,h2,h3,h4⟩,h5⟩:=h;have ek:l.toNat=(l - 1).toNat+1:=by omega
  have e3:(2:Int) ^ l.toNat=2 * 2 ^ (l - 1).toNat:=by rw[ek,S8,V9]
  have h6:=NU (l - 1).toNat;rw[e3]at h4;refine ⟨⟨⟨h1,h2,by omega,by omega⟩,h5⟩,⟨⟨by omega,by omega,by omega,by omega⟩,h5⟩,?_,?_,?_⟩
  ·rfl
  ·show (y+2 ^ (l - 1).toNat+2 ^ (l - 1).toNat - 1) :: nJ p w=(y+2 ^ l.toNat - 1) :: nJ p w;rw[e3];congr 1;omega
  ·rfl
 | y :: p,l :: w,s :: sd,i+1,x,k,h,e1,e2,hk=>by
  simp only[U2]at e1 e2;obtain⟨g1,g2,g3,g4,g5⟩:=eK h.2 e1 e2 hk;refine ⟨⟨h.1,g1⟩,⟨h.1,g2⟩,?_,?_,?_⟩
  ·show (y+2 ^ l.toNat - 1) :: nJ p (w.set i (k - 1))=(y+2 ^ l.toNat - 1) :: (nJ p w).set i _;rw[g3]
  ·show (y+2 ^ l.toNat - 1) :: nJ (p.set i _) (w.set i (k - 1))=(y+2 ^ l.toNat - 1) :: nJ p w;rw[g4]
  ·exact g5
 | _ :: _,[],z,_,_,_,h,_,_,_=>by cases z<;>exact h.elim
 | _ :: _,_ :: _,[],_,_,_,h,_,_,_=>h.elim
noncomputable def v2(sd cl:List Int)(b:PQ):List Int:=[tV (nZ sd cl b.1 (nJ b.1 b.2)),uV (nZ sd cl b.1 (nJ b.1 b.2))]
theorem Yy{sd:List Int}{b:PQ}(h:Pc b.1 b.2 sd){i:Nat}{x k:Int}(e1:b.1[i]?=some x)(e2:b.2[i]?=some k)(hk:0 < k):v2 sd cl b=[min (tV (nZ sd cl b.1 (nJ b.1 (b.2.set i (k - 1))))) (tV (nZ sd cl (b.1.set i (x+2 ^ (k - 1).toNat)) (nJ (b.1.set i (x+2 ^ (k - 1).toNat)) (b.2.set i (k - 1))))),max (uV (nZ sd cl b.1 (nJ b.1 (b.2.set i (k - 1))))) (uV (nZ sd cl (b.1.set i (x+2 ^ (k - 1).toNat)) (nJ (b.1.set i (x+2 ^ (k - 1).toNat)) (b.2.set i (k - 1)))))]:=by
 obtain⟨g1,g2,g3,g4,g5⟩:=eK h e1 e2 hk;have hb:=FY h;have b1:=FY g1;have b2:=FY g2;have h6:=NU (k - 1).toNat;have ek:k.toNat=(k - 1).toNat+1:=by omega
 have e3:(2:Int) ^ k.toNat=2 * 2 ^ (k - 1).toNat:=by rw[ek,S8,V9]
 have es1:b.1.set i x=b.1:=SH e1;have es2:(nJ b.1 b.2).set i (x+2 ^ k.toNat - 1)=nJ b.1 b.2:=SH g5;have hp:=Rq (cl:=cl) (b:=(b.1,nJ b.1 b.2)) (i:=i) (a:=x) (c:=x+2 ^ k.toNat - 1) (m:=x+2 ^ (k - 1).toNat - 1) hb e1 g5 (by omega) (by omega)
  (by show Bx (b.1.set i x) ((nJ b.1 b.2).set i (x+2 ^ (k - 1).toNat - 1)) sd;rw[es1,<- g3];exact b1)
  (by show Bx (b.1.set i (x+2 ^ (k - 1).toNat - 1+1)) ((nJ b.1 b.2).set i (x+2 ^ k.toNat - 1)) sd;rw[es2,Int.sub_add_cancel,<- g4];exact b2);have hp:(nZ sd cl b.1 (nJ b.1 b.2)).Perm (nZ sd cl (b.1.set i x) ((nJ b.1 b.2).set i (x+2 ^ (k - 1).toNat - 1))++nZ sd cl (b.1.set i (x+2 ^ (k - 1).toNat - 1+1)) ((nJ b.1 b.2).set i (x+2 ^ k.toNat - 1))):=hp;rw[es1,<- g3,es2,Int.sub_add_cancel]at hp;rw[<- g4]at hp;have sa:=MJ (aY (cl:=cl) b1);have sb:=MJ (aY (cl:=cl) b2);have ta:=NJ (aY (cl:=cl) b1);have tb:=NJ (aY (cl:=cl) b2);unfold v2;rw[<- g4];generalize nZ sd cl b.1 (nJ (b.1.set i (x+2 ^ (k - 1).toNat)) (b.2.set i (k - 1)))=l at hp ⊢;generalize nZ sd cl b.1 (nJ b.1 (b.2.set i (k - 1)))=l1 at *;generalize nZ sd cl (b.1.set i (x+2 ^ (k - 1).toNat)) (nJ (b.1.set i (x+2 ^ (k - 1).toNat)) (b.2.set i (k - 1)))=l2 at *;congr 1
 ·refine (UI (hp.mem_iff.mpr ?_) λy hy=>?_).symm
  ·rcases (show min (tV l1) (tV l2)=tV l1\/min (tV l1) (tV l2)=tV l2 by omega) with e|e<;>rw[e]
   ·exact T2 _ sa.1
   ·exact R0 _ sb.1
  ·rcases E1.mp (hp.mem_iff.mp hy) with z|z
   ·have:=sa.2 y z;omega
   ·have:=sb.2 y z;omega
 ·congr 1;refine (VI (hp.mem_iff.mpr ?_) λy hy=>?_).symm
  ·rcases (show max (uV l1) (uV l2)=uV l1\/max (uV l1) (uV l2)=uV l2 by omega) with e|e<;>rw[e]
   ·exact T2 _ ta.1
   ·exact R0 _ tb.1
  ·rcases E1.mp (hp.mem_iff.mp hy) with z|z
   ·have:=ta.2 y z;omega
   ·have:=tb.2 y z;omega
theorem uk(s:Int):(rng s).Pairwise (· < ·):=by rw[<- uY];exact XY _ _
theorem YI(sd p:List Int):∀c∈kJ sd p,c.Pairwise (· < ·):=λc hc=>by obtain⟨q,_,rfl⟩:=J0.mp hc;exact uk _
theorem ZI(sd:List Int):(tX sd).Pairwise (λa b=>HT.lexLt a b=true):=wX (cs:=sd.map rng) (acc:=[[]]) (n:=0) (N4 _ _) (by simp) λc hc=>by obtain⟨s,_,rfl⟩:=J0.mp hc;exact uk _
theorem vk(sd:List Int):(XQ sd).Pairwise λa b=>TV a b=true:=by
 unfold XQ;refine Z8.mpr ⟨λp hp=>?_,(ZI sd).imp λ{a b} hab x hx y hy=>?_⟩
 ·refine O3.mpr ((wX (cs:=kJ sd p) (acc:=[[]]) (n:=0) (N4 _ _) (by simp) (YI sd p)).imp λ{a b} h=>?_);show TV (p,a) (p,b)=true;unfold TV;rw[if_pos rfl];exact h
 ·obtain⟨u,_,rfl⟩:=J0.mp hx;obtain⟨v,_,rfl⟩:=J0.mp hy;show TV (a,u) (b,v)=true;unfold TV;rw[if_neg (λz=>by have z:a=b:=z;rw[z,SG.lex_wk.irr]at hab;cases hab)];exact hab
theorem fK(sd:List Int):(XQ sd).Nodup:=(vk sd).imp λ{a b} h z=>by rw[z,ltB_wk.irr]at h;cases h
theorem xk{sd:List Int}{rows:List PQ}(h1:rows.Perm (XQ sd))(h2:rows.Pairwise λa b=>TV b a=false):rows=XQ sd :=
 SG.sorted_uniq (lt:=TV) (λa b=>xI) h1 h2 ((vk sd).imp λ{a b} h=>by
   cases e:TV b a with
   | false=>rfl
   | true=>have:=ltB_wk.tr _ _ _ h e;rw[ltB_wk.irr]at this;cases this)
theorem OJ:∀{sd p:List Int},Wi p sd->(lenP (kJ sd p):Int)<=VQ sd/\1<=VQ sd
 | [],[],_=>⟨by show (1:Int)<=1;decide,by show (1:Int)<=1;decide⟩
 | s :: sd,x :: p,h=>by
  obtain⟨i1,i2⟩:=OJ (sd:=sd) (p:=p) h.2;have hx:=h.1;have h1:=MU (n:=s - x) (by omega);have e:(lenP (kJ (s :: sd) (x :: p)):Int)=(((gpw (s - x):Nat):Int)+1) * (lenP (kJ sd p):Int):=by show (((rng (((gpw (s - x):Nat):Int)+1)).length * lenP (kJ sd p):Nat):Int)=_;rw[JZ,Int.natCast_mul];congr 1
  rw[e];show _<=s * VQ sd/\1<=s * VQ sd;refine ⟨Y7 (by omega) i1 (by omega) (by omega),?_⟩;have:=Y7 (show (1:Int)<=s by omega) i2 (by decide) (by omega);omega
 | [],_ :: _,h=>h.elim
 | _ :: _,[],h=>h.elim
theorem RW{β:Type}{f:α->List β}{c:Nat}:∀{l:List α},(∀p∈l,(f p).length<=c)->(l.flatMap f).length<=l.length * c
 | [],_=>by simp
 | p :: l,h=>by have h1:=h p v0;have h2:=RW (l:=l) λq hq=>h q (q0 _ hq);rw[P3,M0,X2,Z6];omega
theorem SW{sd:List Int}(h:Sd sd){l:List (List Int)}(hl:∀p∈l,p∈tX sd)(hn:l.length<=120):(l.flatMap λp=>(DQ [[]] (kJ sd p)).map λw=>((p,w):PQ)).length<=14400:=by
 have h1:=RW (f:=λp=>(DQ [[]] (kJ sd p)).map λw=>((p,w):PQ)) (c:=120) (l:=l) λp hp=>by rw[j0,vX];have h2:=(OJ (iJ (hl p hp))).1;have h3:=h.m;simp;omega
 have h4:=m5 120 hn;omega
theorem ZY{sd:List Int}(h:Sd sd):(tX sd).length<=120:=by have h1:=bK h.p;have h2:=h.m;omega
theorem OU{sd:List Int}(h:Sd sd):(XQ sd).length<=14400:=SW h (λp hp=>hp) (ZY h)
noncomputable abbrev DK(sd cl:List Int)(b:PQ):PyData:=.tuple [iQ b.1,iQ b.2,.int (tV (nZ sd cl b.1 (nJ b.1 b.2))),.int (uV (nZ sd cl b.1 (nJ b.1 b.2)))]
theorem BZ(h:n<=100000):n<=sizeLine:=Q0 h (by decide)
noncomputable def wR:PyData->PyData
 | .tuple [.int s,.int x]=>.list ((rng ((gpw (s - x):Nat)+1)).map i0)
 | _=>.none
def yk:Con:=λargs Q=>∃sd:List Int,args=[.fz (iQ sd)]/\sd.length<=1000/\∀o,Q (.fz (iQ (sd.map λ_=>0))) o
theorem Zy:FnScope ["sides"] ["sides"] (mQ (top 9)):=⟨rfl,rfl,rfl,by decide +kernel,rfl,by decide +kernel,by decide +kernel⟩
theorem zk(F:Fun K "first_place" "first_place" (top 9) f fd)(T:Txt mg):FnOk P w K mg base iZ 1 f fd ["sides"] (pQ K yk):=by
 have S:=Zy;refine tK F S (λcdv A outer s H E hr=>(rQ (RQ (pX QZ (HX (K:=K) rfl) T.tuple_ boot_tuple (eQ (wx (fX rfl (own:=["side"]) (fr:=[]) (by kernel_rfl) (bX rfl (wv 0)) (λ_ _ _ _=>(qQ (i:=0) (by decide +kernel:O2 (["side"]:List Str)) rfl (Or.inl rfl))) (λ_ _ _ _=>zW) (λ_ _ _ _=>gQ))) fQ))))) ?_ ?_
 ·rintro args Qd ⟨sd,rfl,_⟩;rfl
 ·rintro args Qd ⟨sd,rfl,hl,q⟩;refine ⟨yQ rfl,?_⟩;refine ⟨by rw[j0];exact zQ hl,qJ (λ_=>.int 0) (λd hd N hN=>hN) ?_⟩;have e:(sd.map i0).map (λ_=>i0 0)=(sd.map λ_=>0).map i0:=by simp[P0,Function.comp_def]
  rw[e];exact q _
def CB:Con:=λargs Q=>∃sd:List Int,args=[.fz (iQ sd)]/\sd.length<=1000/\∀o,Q (.fz (iQ (sd.map λs=>s - 1))) o
theorem aL:FnScope ["sides"] ["sides"] (mQ (top 10)):=⟨rfl,rfl,rfl,by decide +kernel,rfl,by decide +kernel,by decide +kernel⟩
theorem au(F:Fun K "last_place" "last_place" (top 10) f fd)(T:Txt mg):FnOk P w K mg base iZ 1 f fd ["sides"] (pQ K CB):=by
 have S:=aL;refine tK F S (λcdv A outer s H E hr=>(rQ (RQ (pX QZ (HX (K:=K) rfl) T.tuple_ boot_tuple (eQ (wx (fX rfl (own:=["side"]) (fr:=[]) (by kernel_rfl) (bX rfl (wv 0)) (λ_ _ _ _=>(qQ (i:=0) (by decide +kernel:O2 (["side"]:List Str)) rfl (Or.inl rfl))) (λ_ _ _ _=>zW) (λ_ _ _ _=>(w_bin RX MX (wn 0) (wx gQ))))) fQ))))) ?_ ?_
 ·rintro args Qd ⟨sd,rfl,_⟩;rfl
 ·rintro args Qd ⟨sd,rfl,hl,q⟩;refine ⟨yQ rfl,?_⟩;refine ⟨by rw[j0];exact zQ hl,qJ (λd=>match d with | .int i=>.int (i - 1)|_=>.none) (λd hd N hN=>?_) ?_⟩
  ·obtain⟨i,_,rfl⟩:=J0.mp hd;exact hN
  ·refine Eq.mpr (congrArg (λz=>Qd (.fz (.tuple z)) _) ?_) (q _);simp[P0,Function.comp_def]
structure CalsF(P:Program)(w:World)(K:n0)(mg:Str->Option Value)(base:Heap):Prop where
 places_between:Cal P w K mg base 2 "places_between" ["low","high"] (pQ K uN)
 first_place:Cal P w K mg base 1 "first_place" ["sides"] (pQ K yk)
 last_place:Cal P w K mg base 1 "last_place" ["sides"] (pQ K CB)
def TW:Con:=λargs Q=>∃sd:List Int,args=[.fz (iQ sd)]/\Sd sd/\∀o,Q (.ow (.list ((tX sd).map iQ))) o
theorem TH:FnScope ["sides"] ["sides"] (mQ (top 12)):=⟨rfl,rfl,rfl,by decide +kernel,rfl,by decide +kernel,by decide +kernel⟩
theorem PU(F:Fun K "all_places" "all_places" (top 12) f fd)(C:CalsF P w K mg base):FnOk P w K mg base iZ 3 f fd ["sides"] (pQ K TW):=by
 have S:=TH;refine tK F S (λcdv A outer s H E hr=>(rQ (RQ (lX C.places_between (hr.mono (by first|decide|omega)) (eQ (wx (lX C.first_place (hr.mono (by first|decide|omega)) (eQ (wn 0) fQ))) (eQ (wx (lX C.last_place (hr.mono (by first|decide|omega)) (eQ (wn 0) fQ))) fQ)))))) ?_ ?_
 ·rintro args Qd ⟨sd,rfl,_⟩;rfl
 ·rintro args Qd ⟨sd,rfl,hsd,q⟩;have h3:=hsd.l3;refine ⟨yQ rfl,?_⟩;refine ⟨sd,rfl,by omega,λo1=>?_⟩;refine ⟨sd,rfl,by omega,λo2=>?_⟩;have e:((sd.map λ_=>(0:Int)).zip (sd.map λs=>s - 1)).map (λp=>BX p.1 p.2)=sd.map rng:=by
   rw[NW,P0];exact Y1 λs _=>uY s
  refine ⟨sd.map λ_=>0,sd.map λs=>s - 1,rfl,by simp,by simpa using h3,λp hp=>?_,?_,λo3=>?_⟩
  ·rw[NW]at hp;obtain⟨s,hs,rfl⟩:=J0.mp hp;have h1:=hsd.p s hs;have h2:=fZ hsd.p s hs;have:=hsd.m;exact ⟨by show (0:Int)<=0;decide,by show (0:Int)<=s - 1;omega,by show s - 1<=1000;omega⟩
  ·rw[e];have h1:=ZK hsd.p;have:=hsd.m;omega
  ·unfold Yq;rw[e];exact q _
def xR:Con:=λargs Q=>∃k:Int,args=[.fz (.int k)]/\0<=k/\k<=1000/\∀o,Q (.fz (.int (2 ^ k.toNat))) o
theorem GP:FnScope ["power","number","turn"] ["power"] (mQ (top 14)):=⟨rfl,rfl,rfl,by decide +kernel,rfl,by decide +kernel,by decide +kernel⟩
theorem wN(F:Fun K "two_to" "two_to" (top 14) f fd)(T:Txt mg):FnOk P w K mg base iZ 1 f fd ["power"] (pQ K xR):=by
 have S:=GP;refine tK F S (λcdv A outer s H E hr=>(kQ (BQ (i:=1) S.nd rfl (Or.inl rfl) gQ)
     (kQ (JX [2] PassesOwn.never rfl (FJ T.range_ (eQ (wn 0) fQ)) (qQ (i:=2) S.nd rfl (Or.inl rfl)) (rQ (BQ (i:=1) S.nd rfl (Or.inl rfl) (w_bin CJ FZ (wn 1) (wx gQ)))))
     (rQ (GJ (wn 1)))))) ?_ ?_
 ·rintro args Qd ⟨k,rfl,_⟩;rfl
 ·rintro args Qd ⟨k,rfl,k0,k1,q⟩;refine ⟨yQ rfl,?_⟩;with_reducible refine NQ (λρ=>ρ=[ZA (.int k),ZA (.int 1),none]) ?_ ?_
  ·intro N hN;exact hN _ rfl
  rintro _ rfl;with_reducible refine NQ (λρ=>ρ=[ZA (.int k),ZA (.int (2 ^ k.toNat)),none]) ?_ ?_
  ·intro N hN;refine ⟨by omega,by omega,?_⟩;refine zX (λrest ρ=>∃j:Nat,j+rest.length=k.toNat/\ρ=[ZA (.int k),ZA (.int (2 ^ j)),none]) ?_ ?_ ⟨0,by rw[CQ,j0,E4];omega,rfl⟩
   ·rintro d ds ρ ⟨j,hj,rfl⟩ M hM;refine ⟨.inr ⟨by decide,by decide⟩,?_⟩;refine hM _ ⟨j+1,by simp at hj;omega,?_⟩;rw[S8];rfl
   ·rintro ρ ⟨j,hj,rfl⟩;have e:j=k.toNat:=by simpa using hj
    subst e;exact hN _ rfl
  rintro _ rfl;exact q _
def yR:Con:=λargs Q=>∃n:Int,args=[.fz (.int n)]/\1<=n/\∀o,Q (.fz (.int (gpw n:Nat))) o
theorem HP:FnScope ["length"] ["length"] (mQ (top 15)):=⟨rfl,rfl,rfl,by decide +kernel,rfl,by decide +kernel,by decide +kernel⟩
theorem xN(F:Fun K "greatest_power" "greatest_power" (top 15) f fd):FnOk P w K mg base iZ 1 f fd ["length"] (pQ K yR):=by
 have S:=HP;refine tK F S (λcdv A outer s H E hr=>(rQ (RQ (w_bin RX MX (wx (jI (wn 0))) (wx gQ))))) ?_ ?_
 ·rintro args Qd ⟨n,rfl,_⟩;rfl
 ·rintro args Qd ⟨n,rfl,h,q⟩;refine ⟨yQ rfl,?_⟩;have q1:∀o,Qd (.fz (.int ((A5 n:Nat) - 1))) o:=λo=>by rw[sk h];exact q o
  exact q1 _
structure CalsAp(P:Program)(w:World)(K:n0)(mg:Str->Option Value)(base:Heap):Prop where
 all_places:Cal P w K mg base 3 "all_places" ["sides"] (pQ K TW)
 greatest_power:Cal P w K mg base 1 "greatest_power" ["length"] (pQ K yR)
 one_of_each:Cal P w K mg base 1 "one_of_each" ["choices"] (pQ K ck)
def zR:Con:=λargs Q=>∃sd:List Int,args=[.fz (iQ sd)]/\Sd sd/\∀o,Q (.ow (.list ((XQ sd).map FQ))) o
theorem IP:FnScope ["sides","pieces","place","choices","powers"] ["sides"] (mQ (top 16)):=⟨rfl,rfl,rfl,by decide +kernel,rfl,by decide +kernel,by decide +kernel⟩
theorem yN(F:Fun K "all_pieces" "all_pieces" (top 16) f fd)(T:Txt mg)(C:CalsAp P w K mg base):FnOk P w K mg base iZ 4 f fd ["sides"] (pQ K zR):=by
 have S:=IP;refine tK F S (λcdv A outer s H E hr=>(kQ (BQ (i:=1) S.nd rfl (Or.inl rfl) (WQ fQ))
     (kQ (JX [2,3,4] PassesOwn.never rfl (bX rfl (lX C.all_places (hr.mono (by first|decide|omega)) (eQ (wn 0) fQ))) (qQ (i:=2) S.nd rfl (Or.inl rfl)) (kQ (AU (i:=3) S.nd rfl rfl rfl (own:=["side","number"]) (fr:=[]) (by kernel_rfl) (qY rfl T.zip_ (eQ (wn 0) (eQ (wn 2) fQ))) (λ_ _ _ _=>(EJ rfl rfl (LQ (qQ (i:=0) (by decide +kernel:O2 (["side","number"]:List Str)) rfl (Or.inl rfl)) (LQ (qQ (i:=1) (by decide +kernel:O2 (["side","number"]:List Str)) rfl (Or.inl rfl)) yZ)))) (λ_ _ _ _=>zW) (λ_ _ _ _=>(pB rfl T.list_ T.range_ (eQ (wx (w_bin lQ jQ (wx (lX C.greatest_power (hr.mono (by first|decide|omega)) (eQ (wx (w_bin RX MX (wn 0) (wn 1))) fQ))) (wx gQ))) fQ))))
     (rQ (JX [4] PassesOwn.never rfl (bX rfl (lX C.one_of_each (hr.mono (by first|decide|omega)) (eQ (wx (wv 3)) fQ))) (qQ (i:=4) S.nd rfl (Or.inl rfl)) (rQ (jZ (Xq IX rfl PySem.F.slot_list_append PySem.F.type_list_append GX (wn 1) (eQ (wx (tQ (eQ (wx (wv 2)) (eQ (wx (wv 4)) fQ)))) fQ))))))))
     (rQ (GJ (wn 1)))))) ?_ ?_
 ·rintro args Qd ⟨sd,rfl,_⟩;rfl
 ·rintro args Qd ⟨sd,rfl,hsd,q⟩;refine ⟨yQ rfl,?_⟩;have h3:=hsd.l3;have hm:=hsd.m;have h120:=ZY hsd;with_reducible refine NQ (λρ=>ρ=[ZA (iQ sd),YA (.list []),none,none,none]) ?_ ?_
  ·intro N hN;exact hN _ rfl
  rintro _ rfl;with_reducible refine NQ (λρ=>ρ=[ZA (iQ sd),YA (.list ((XQ sd).map FQ)),none,none,none]) ?_ ?_
  ·intro N hN;refine ⟨sd,rfl,hsd,λo=>?_⟩;refine (?_:xZ _ _ _ _ ((tX sd).map iQ) [ZA (iQ sd),YA (.list []),none,none,none]);refine zX (λrest ρ=>∃dn rs:List (List Int),tX sd=dn++rs/\rest=rs.map iQ/\ρ=[ZA (iQ sd),YA (.list ((dn.flatMap λp=>(DQ [[]] (kJ sd p)).map λw=>((p,w):PQ)).map FQ)),none,none,none]) ?_ ?_ ⟨[],tX sd,rfl,rfl,rfl⟩
   ·rintro d ds ρ ⟨dn,rs,ez,es,rfl⟩ M hM;cases rs with
    | nil=>cases es
    | cons p rs =>
     cases es;have hp:p∈tX sd:=by rw[ez];simp
     have hwi:=iJ hp;have hwl:=OW hwi;have hlp:=OJ hwi;have hdn:(dn.flatMap λp=>(DQ [[]] (kJ sd p)).map λw=>((p,w):PQ)).length<=14400:=SW hsd (λx hx=>by rw[ez];exact T2 _ hx) (by rw[ez,M0]at h120;omega);generalize hB0:(dn.flatMap λp=>(DQ [[]] (kJ sd p)).map λw=>((p,w):PQ))=B0 at hdn ⊢;have hel:(DQ [[]] (kJ sd p)).length<=120:=by rw[vX];have:=hlp.1;simp;omega
     with_reducible refine gnC rfl ?_
     with_reducible refine NQ (λρ=>ρ=[ZA (iQ sd),YA (.list (B0.map FQ)),ZA (iQ p),YA (.list (((kJ sd p).map (i5 i0)).map G3)),none]) ?_ ?_
     ·intro M2 hM2;have hz:=aZ sd p;refine ⟨by rw[hz,j0,G4];exact zQ (by omega),?_⟩;refine qJ wR ?_ ?_
      ·intro d hd N' hN';rw[hz]at hd;obtain⟨⟨s,x⟩,hsx,rfl⟩:=J0.mp hd;have hb:1<=s - x/\s - x<=120:=by
        have hs:=fZ hsd.p s (m4 hsx).1;have gen:∀{p sd:List Int},Wi p sd->∀q∈sd.zip p,0<=q.2/\q.2 < q.1:=by
         intro p;induction p with
         | nil=>intro sd _ q hq;simp at hq
         | cons y p ih =>
          intro sd h q hq;cases sd with
          | nil=>exact h.elim
          | cons t sd =>
           rw[i4]at hq;rcases W0.mp hq with z|z
           ·rw[z];exact h.1
           ·exact ih h.2 q z
        have:=gen hwi (s,x) hsx;simp only at this;omega
       have hg:=MU hb.1;refine ⟨rfl,s - x,rfl,hb.1,λo=>?_⟩;refine ⟨⟨by decide,by omega⟩,by omega,?_⟩;have hN':N' (.list ((rng ((gpw (s - x):Nat)+1)).map i0)) _:=hN';rw[<- yK]at hN';exact hN'
      ·have e:(oY (sd.map i0) (p.map i0)).map wR=((kJ sd p).map (i5 i0)).map G3:=by
        rw[hz];unfold kJ;rw[P0,P0,P0];rfl
       rw[e];exact hM2 _ rfl
     rintro _ rfl;have hlp2:lenP ((kJ sd p).map (i5 i0))=lenP (kJ sd p):=by
      generalize kJ sd p=cs;induction cs with
      | nil=>rfl
      | cons c cs ih=>show (c.map i0).length * _=c.length * _;rw[ih,j0]
     refine ⟨(kJ sd p).map (i5 i0),rfl,λc hc=>?_,by rw[hlp2];have:=hlp.1;omega,?_,λo=>?_⟩
     ·obtain⟨c',hc',rfl⟩:=J0.mp hc;obtain⟨q,_,rfl⟩:=J0.mp hc';intro z;have:=congrArg B4 z;rw[j0,JZ,P6]at this;omega
     ·unfold kJ;rw[j0,j0,G4];omega
     have e1:(DQ [[]] ((kJ sd p).map (i5 i0))).map B1=(DQ [[]] (kJ sd p)).map iQ:=by have:=vY i0 (kJ sd p) [[]];have e:([[]]:List (List Int)).map (i5 i0)=[[]]:=rfl;rw[e]at this;rw[<- this,P0];rfl
     rw[e1];refine (?_:xZ _ _ _ _ ((DQ [[]] (kJ sd p)).map iQ) [ZA (iQ sd),YA (.list (B0.map FQ)),ZA (iQ p),ZA (.list (((kJ sd p).map (i5 i0)).map G3)),none]);generalize hE:DQ [[]] (kJ sd p)=ws at hel ⊢;refine zX (λrest ρ=>∃dw rw':List (List Int),ws=dw++rw'/\rest=rw'.map iQ/\ρ=[ZA (iQ sd),YA (.list ((B0++dw.map λw=>((p,w):PQ)).map FQ)),ZA (iQ p),ZA (.list (((kJ sd p).map (i5 i0)).map G3)),none]) ?_ ?_ ⟨[],ws,rfl,rfl,by simp⟩
     ·rintro d ds ρ ⟨dw,rw',ew,es,rfl⟩ M3 hM3;cases rw' with
      | nil=>cases es
      | cons u rw' =>
       cases es;have hdl:dw.length<=120:=by rw[ew,M0]at hel;omega
       refine ⟨B3 (show ((B0++dw.map λw=>((p,w):PQ)).map FQ).length<=20000 by rw[j0,M0,j0];omega) (by decide),?_⟩;refine hM3 _ ⟨dw++[u],rw',by rw[ew];simp,rfl,?_⟩;have e:(B0++(dw++[u]).map λw=>((p,w):PQ)).map FQ=(B0++dw.map λw=>((p,w):PQ)).map FQ++[FQ (p,u)]:=by simp
       rw[e];rfl
     ·rintro ρ ⟨dw,rw',ew,es,rfl⟩;cases rw' with
      | cons _ _=>cases es
      | nil=>rw[K2]at ew;subst ew;refine hM _ ⟨dn++[p],rs,by rw[ez];simp,rfl,?_⟩;rw[E9,hB0];simp only[P3,K6,K2];rw[hE];rfl
   ·rintro ρ ⟨dn,rs,ez,es,rfl⟩;cases rs with
    | cons _ _=>cases es
    | nil=>rw[K2]at ez;unfold XQ at hN;rw[ez]at hN;exact hN _ rfl
  rintro _ rfl;exact q _
theorem ED(p:List Int){i:Nat}(h:i < p.length)(x:Int):p.take i++x :: p.drop (i+1)=p.set i x:=by rw[List.set_eq_take_append_cons_drop,if_pos h]
noncomputable def aW(b:PQ):List Int:=((N1 b.2.length).filter λi=>decide (0 < b.2.getD i 0)).map λ(i:Nat)=>(i:Int)
theorem bW{b:PQ}(hl:b.2.length=b.1.length){x:Int}(h:x∈aW b):∃(i:Nat) (a c:Int),x=i/\i < b.1.length/\b.1[i]?=some a/\b.2[i]?=some c/\0 < c:=by
 obtain⟨i,hi,rfl⟩:=J0.mp h;obtain⟨h1,h2⟩:=P7.mp hi;have h1:=u3.mp h1;have e1:b.1[i]?=some (b.1.getD i 0):=by rw[Y0,A0 (by omega)];rfl
 have e2:b.2[i]?=some (b.2.getD i 0):=by rw[Y0,A0 h1];rfl
 exact ⟨i,_,_,rfl,by omega,e1,e2,of_decide_eq_true h2⟩
theorem Ak:∀{p w sd:List Int},Pc p w sd->(∀k∈w,k=0)->nJ p w=p
 | [],[],[],_,_=>rfl
 | x :: p,k :: w,s :: sd,h,hk=>by have e:=hk k v0;subst e;have ih:=Ak h.2 λk hk'=>hk k (q0 _ hk');show (x+2 ^ (0:Int).toNat - 1) :: nJ p w=x :: p;rw[ih];congr 1;show x+1 - 1=x;omega
 | [],[],_ :: _,h,_=>h.elim
 | [],_ :: _,z,h,_=>by cases z<;>exact h.elim
 | _ :: _,[],z,h,_=>by cases z<;>exact h.elim
 | _ :: _,_ :: _,[],h,_=>h.elim
theorem UH:∀{p w sd:List Int},Pc p w sd->∀k∈w,0<=k
 | [],[],[],_,k,hk=>by cases hk
 | x :: p,k :: w,s :: sd,h,l,hl=>by
  rcases W0.mp hl with z|z
  ·rw[z];exact h.1.2.2.1
  ·exact UH h.2 l z
 | [],[],_ :: _,h,_,_=>h.elim
 | [],_ :: _,z,h,_,_=>by cases z<;>exact h.elim
 | _ :: _,[],z,h,_,_=>by cases z<;>exact h.elim
 | _ :: _,_ :: _,[],h,_,_=>h.elim
theorem bu{sd:List Int}{b:PQ}(hb:Pc b.1 b.2 sd)(h:aW b=[]):nJ b.1 b.2=b.1:=by have h1:=A7.mp (M6.mp h);refine Ak hb λk hk=>?_;obtain⟨i,hi,e⟩:=E6.mp hk;have h4:=h1 i (u3.mpr hi);rw[Y0,A0 hi]at h4;simp at h4;have:=UH hb k hk;omega
theorem bL{sd:List Int}{b:PQ}(h:nJ b.1 b.2=b.1):v2 sd cl b=[cK sd cl b.1,cK sd cl b.1]:=by
 have e:nZ sd cl b.1 b.1=[cK sd cl b.1]:=by unfold nZ Yq;rw[QH b.1 []];rfl
 unfold v2;rw[h,e];rfl
def AR:Con:=λargs Q=>∃(p:List Int) (i:Nat) (x:Int),args=[.fz (iQ p),.fz (.int i),.fz (.int x)]/\i < p.length/\p.length<=100/\∀o,Q (.fz (iQ (p.set i x))) o
theorem JP:FnScope ["numbers","way","number"] ["numbers","way","number"] (mQ (top 6)):=⟨rfl,rfl,rfl,by decide +kernel,rfl,by decide +kernel,by decide +kernel⟩
theorem zN(F:Fun K "replaced" "replaced" (top 6) f fd):FnOk P w K mg base iZ 1 f fd ["numbers","way","number"] (pQ K AR):=by
 have S:=JP;refine tK F S (λcdv A outer s H E hr=>(rQ (RQ (w_bin lQ jQ (wx (w_bin lQ jQ (wx (KJ rfl (wn 0) (wn 1))) (wx (tQ (eQ (wx (wv 2)) fQ))))) (wx (lZ rfl (wn 0) (wx (w_bin lQ jQ (wn 1) (wx gQ))))))))) ?_ ?_
 ·rintro args Qd ⟨p,i,x,rfl,_⟩;rfl
 ·rintro args Qd ⟨p,i,x,rfl,hi,hl,q⟩;refine ⟨yQ rfl,?_⟩;have e:(p.map i0).take (i:Int).toNat++[i0 x]++(p.map i0).drop ((i:Int)+1).toNat=(p.set i x).map i0:=by
   rw[show (i:Int).toNat=i by omega,show ((i:Int)+1).toNat=i+1 by omega,<- ED p hi x];simp[A8,List.map_drop]
  unfold iQ at q;rw[<- e]at q;exact ⟨by omega,zQ (by simp;omega),by show (0:Int)<=(i:Int)+1;omega,zQ (by simp;omega),q _⟩
structure CalsCa(P:Program)(w:World)(K:n0)(mg:Str->Option Value)(base:Heap):Prop where
 index_of:Cal P w K mg base 1 "index_of" ["sides","place"] (pQ K fk)
def BR:Con:=λargs Q=>∃sd cl p:List Int,args=[.fz (zK sd cl),.fz (iQ p)]/\Sd sd/\cl.length=(tX sd).length/\Wi p sd/\∀o,Q (.fz (.int (cK sd cl p))) o
theorem KP:FnScope ["field","place"] ["field","place"] (mQ (top 11)):=⟨rfl,rfl,rfl,by decide +kernel,rfl,by decide +kernel,by decide +kernel⟩
theorem AN(F:Fun K "cell_at" "cell_at" (top 11) f fd)(C:CalsCa P w K mg base):FnOk P w K mg base iZ 2 f fd ["field","place"] (pQ K BR):=by
 have S:=KP;refine tK F S (λcdv A outer s H E hr=>(rQ (RQ (MQ rfl (wx (MQ rfl (wn 0) (wx gQ))) (wx (lX C.index_of (hr.mono (by first|decide|omega)) (eQ (wx (MQ rfl (wn 0) (wx gQ))) (eQ (wn 1) fQ)))))))) ?_ ?_
 ·rintro args Qd ⟨sd,cl,p,rfl,_⟩;rfl
 ·rintro args Qd ⟨sd,cl,p,rfl,hsd,hcl,hp,q⟩;refine ⟨yQ rfl,?_⟩;have h3:=hsd.l3;have hm:=hsd.m;have hpl:=bK hsd.p;have hi:=RI hp;refine ⟨_,rfl,_,rfl,sd,p,rfl,by omega,λs hs=>?_,λo=>?_⟩
  ·have h1:=hsd.p s hs;have h2:=fZ hsd.p s hs;omega
  ·obtain⟨n,hn⟩:=O4 hi.1;have hnl:n < cl.length:=by omega
   refine ⟨.int (cK sd cl p),?_,q _⟩;unfold cK;rw[hn];exact jJ hnl
def DR:Con:=λargs Q=>∃ts us:List Int,args=[.fz (.list [iQ ts,iQ us])]/\ts.length=2/\us.length=2/\∀o,Q (.fz (iQ [min (ts.getD 0 0) (us.getD 0 0),max (ts.getD 1 0) (us.getD 1 0)])) o
theorem LP:FnScope ["parts"] ["parts"] (mQ (top 17)):=⟨rfl,rfl,rfl,by decide +kernel,rfl,by decide +kernel,by decide +kernel⟩
theorem BN(F:Fun K "put_together" "put_together" (top 17) f fd)(T:Txt mg):FnOk P w K mg base iZ 1 f fd ["parts"] (pQ K DR):=by
 have S:=LP;refine tK F S (λcdv A outer s H E hr=>(rQ (RQ (tQ (eQ (wx (xQ RE (Xj (K:=K) rfl rfl) T.min_ boot_min (eQ (wx (fX rfl (own:=["part"]) (fr:=[]) (by kernel_rfl) (bX rfl (wv 0)) (λ_ _ _ _=>(qQ (i:=0) (by decide +kernel:O2 (["part"]:List Str)) rfl (Or.inl rfl))) (λ_ _ _ _=>zW) (λ_ _ _ _=>(MQ rfl (wn 0) (wx gQ))))) fQ))) (eQ (wx (xQ SE (Yj (K:=K) rfl rfl) T.max_ boot_max (eQ (wx (fX rfl (own:=["part"]) (fr:=[]) (by kernel_rfl) (bX rfl (wv 0)) (λ_ _ _ _=>(qQ (i:=0) (by decide +kernel:O2 (["part"]:List Str)) rfl (Or.inl rfl))) (λ_ _ _ _=>zW) (λ_ _ _ _=>(MQ rfl (wn 0) (wx gQ))))) fQ))) fQ)))))) ?_ ?_
 ·rintro args Qd ⟨ts,us,rfl,_⟩;rfl
 ·rintro args Qd ⟨ts,us,rfl,ht,hu,q⟩;refine ⟨yQ rfl,?_⟩;obtain⟨b,c,rfl⟩:∃b c,ts=[b,c]:=by
   rcases ts with _|⟨a,_|⟨b,_|⟨c,ts⟩⟩⟩<;>first|exact ⟨_,_,rfl⟩|(simp at ht)
  obtain⟨b',c',rfl⟩:∃b c,us=[b,c]:=by rcases us with _|⟨a,_|⟨b,_|⟨c,ts⟩⟩⟩<;>first|exact ⟨_,_,rfl⟩|(simp at hu)
  have q:∀o,Qd (.fz (iQ [min b b',max c c'])) o:=q;refine ⟨zQ (by simp),_,rfl,_,rfl,[b,b'],rfl,by simp,λm hm hmy=>⟨zQ (by simp),_,rfl,_,rfl,[c,c'],rfl,by simp,λM hM hMy=>?_⟩⟩;have e1:m=min b b':=by
   have h1:=hmy b (by simp);have h2:=hmy b' (by simp);have h3:m=b\/m=b':=by simpa using hm
   omega
  have e2:M=max c c':=by
   have h1:=hMy c (by simp);have h2:=hMy c' (by simp);have h3:M=c\/M=c':=by simpa using hM
   omega
  rw[e1,e2];exact q _
theorem Ck:∀{p sd:List Int},Wi p sd->∀q∈sd.zip p,0<=q.2/\q.2 < q.1
 | [],_,_,q,hq=>by simp at hq
 | y :: p,[],h,q,hq=>h.elim
 | y :: p,t :: sd,h,q,hq=>by
  rw[i4]at hq;rcases W0.mp hq with z|z
  ·rw[z];exact h.1
  ·exact Ck h.2 q z
theorem cu{sd p:List Int}(hsd:Sd sd)(h:Wi p sd)(q:Int×Int)(hq:q∈sd.zip p):1<=q.1 - q.2/\q.1 - q.2<=120:=by have h1:=Ck h q hq;have h2:=fZ hsd.p q.1 (m4 hq).1;have h3:=hsd.m;omega
theorem ER{gs:List rJ}{ds:List PyData}{ρ':Ev}{Q:Ev->Prop}(h:oM gs ds ρ Q=Q ρ')(w:Q ρ'):oM gs ds ρ Q:=by rw[h];exact w
def CN:Con:=λargs Q=>∃n:Int,args=[.fz (.int n)]/\1<=n/\n<=1000/\∀o,Q (.fz (.int (gpw n:Nat))) o
theorem DN:FnScope ["_law_length","_law_found"] ["_law_length"] (mQ (top 28)):=⟨rfl,rfl,rfl,by decide +kernel,rfl,by decide +kernel,by decide +kernel⟩
theorem cL(F:Fun K "_law_most_power" "_law_most_power" (top 28) f fd):FnOk P w K mg base iZ 1 f fd ["_law_length"] (pQ K CN):=by
 have S:=DN;refine tK F S (λcdv A outer s H E hr=>(kQ (BQ (i:=1) S.nd rfl (Or.inl rfl) gQ)
     (kQ (Vv PassesOwn.never (AX DM Du (wx (w_bin Dj zz (wx gQ) (wn 1))) (wn 0)) (rQ (BQ (i:=1) S.nd rfl (Or.inl rfl) (w_bin lQ jQ (wn 1) (wx gQ)))))
     (rQ (GJ (wn 1)))))) ?_ ?_
 ·rintro args Qd ⟨n,rfl,_⟩;rfl
 ·rintro args Qd ⟨n,rfl,h1,h2,q⟩;refine ⟨yQ rfl,?_⟩;have hlt:=MU h1;with_reducible refine NQ (λρ=>ρ=[ZA (.int n),ZA (.int 0)]) ?_ ?_
  ·intro N hN;exact hN _ rfl
  rintro _ rfl;with_reducible refine NQ (λρ=>ρ=[ZA (.int n),ZA (.int (gpw n:Nat))]) ?_ ?_
  ·intro N hN;refine ⟨λm ρ=>∃j:Nat,j<=gpw n/\m=gpw n - j/\ρ=[ZA (.int n),ZA (.int (j:Nat))],⟨gpw n,0,Q3 _,rfl,rfl⟩,?_⟩;rintro m ρ ⟨j,hj,rfl,rfl⟩;refine ⟨⟨by omega,by omega,by decide⟩,?_⟩;have e:(2:Int) * 2 ^ (j:Int).toNat=2 ^ (j+1):=by
    rw[show (j:Int).toNat=j by omega,S8,V9]
   have hi:=YY h1 (j+1);rw[<- e]at hi;refine rZ (λh=>?_) (λh=>?_)
   ·have hj2:j+1<=gpw n:=hi.mpr (of_decide_eq_true h);exact ⟨λρ=>ρ=[ZA (.int n),ZA (.int ((j+1:Nat):Int))],λρ' e=>⟨gpw n - (j+1),by omega,j+1,hj2,rfl,e⟩,rfl⟩
   ·have hj2:¬j+1<=gpw n:=λz=>h (decide_eq_true (hi.mp z));have ej:j=gpw n:=by omega
    rw[ej];exact hN _ rfl
  rintro _ rfl;exact q _
def QU:Con:=λargs Q=>∃sd:List Int,args=[.fz (iQ sd)]/\(∀c∈sd,1<=c)/\VQ sd<=1000/\sd.length<=3/\∀o,Q (.ow (.list ((tX sd).map iQ))) o
theorem Dk:FnScope ["_law_sides","_law_found","_law_side","_law_longer","_law_place"] ["_law_sides"] (mQ (top 26)):=⟨rfl,rfl,rfl,by decide +kernel,rfl,by decide +kernel,by decide +kernel⟩
theorem Tq(F:Fun K "_law_places" "_law_places" (top 26) f fd)(T:Txt mg):FnOk P w K mg base iZ 1 f fd ["_law_sides"] (pQ K QU):=by
 have S:=Dk;refine tK F S (λcdv A outer s H E hr=>(kQ (BQ (i:=1) S.nd rfl (Or.inl rfl) (WQ (eQ (wx (tQ fQ)) fQ)))
     (kQ (JX [2,3,4] PassesOwn.never rfl (bX rfl (wv 0)) (qQ (i:=2) S.nd rfl (Or.inl rfl)) (kQ (BQ (i:=3) S.nd rfl (Or.inl rfl) (WQ fQ))
     (kQ (JX [4] PassesOwn.never rfl (bX rfl (wv 1)) (qQ (i:=4) S.nd rfl (Or.inr rfl)) (rQ (jZ (Xq XJ rfl PySem.F.slot_list_extend PySem.F.type_list_extend UJ (wn 3) (eQ (wx (fX rfl (own:=["_law_number_here"]) (fr:=[4]) (by kernel_rfl) (FJ T.range_ (eQ (wn 2) fQ)) (λ_ _ _ _=>(qQ (i:=0) (by decide +kernel:O2 (["_law_number_here","_law_place"]:List Str)) rfl (Or.inl rfl))) (λ_ _ _ _=>zW) (λ_ _ _ _=>(w_bin lQ jQ (wn 1) (wx (tQ (eQ (wx (wv 0)) fQ))))))) fQ)))))
     (rQ (HG (i:=1) S.nd rfl (Or.inl rfl) (wn 3))))))
     (rQ (GJ (wn 1)))))) ?_ ?_
 ·rintro args Qd ⟨sd,rfl,_⟩;rfl
 ·rintro args Qd ⟨sd,rfl,hp,hm,h3,q⟩;refine ⟨yQ rfl,?_⟩;with_reducible refine NQ (λρ=>ρ=[ZA (iQ sd),YA (.list [.tuple []]),none,none,none]) ?_ ?_
  ·intro N hN;exact hN _ rfl
  rintro _ rfl;with_reducible refine NQ (λρ=>ρ=[ZA (iQ sd),YA (.list ((tX sd).map iQ)),none,none,none]) ?_ ?_
  rotate_left
  ·rintro _ rfl;exact q _
  intro NE hE;refine zX (λrest ρ=>∃(acc:List (List Int)) (rs:List Int),ρ=[ZA (iQ sd),YA (.list (acc.map iQ)),none,none,none]/\rest=rs.map i0/\(∀c∈rs,1<=c)/\DQ acc (rs.map rng)=tX sd/\(∀p∈acc,p.length+rs.length<=3)) ?_ ?_
   ⟨[[]],sd,rfl,rfl,hp,rfl,λp hp=>by simp at hp;subst hp;simpa using h3⟩
  ·rintro d ds ρ ⟨acc,rs,rfl,er,hr1,hacc,hl3⟩ N hN;cases rs with
   | nil=>cases er
   | cons a rs =>
    cases er;have ha1:=hr1 a v0;have hr2:∀c∈rs,1<=c:=λc hc=>hr1 c (q0 _ hc);have hlp:=WK (cs:=rs.map rng) λc hc=>by obtain⟨x,hx,rfl⟩:=J0.mp hc;intro z;have:=congrArg B4 z;rw[JZ]at this;have:=hr2 x hx;simp at *;omega
    have htot:(acc.flatMap λp=>(rng a).map λx=>p++[x]).length<=1000:=by have h1:=vX (rs.map rng) (acc.flatMap λp=>(rng a).map λx=>p++[x]);have h2:(DQ (acc.flatMap λp=>(rng a).map λx=>p++[x]) (rs.map rng))=tX sd:=hacc;rw[h2]at h1;have h3:=vX (sd.map rng) [[]];have h4:=ZK hp;unfold tX at h1;have:(acc.flatMap λp=>(rng a).map λx=>p++[x]).length<=(acc.flatMap λp=>(rng a).map λx=>p++[x]).length * lenP (rs.map rng):=Y6 _ hlp;simp only[W3,Nat.one_mul]at h3;omega
    refine zX (λrest ρ=>∃(lg rp:List (List Int)),ρ=[ZA (iQ sd),ZA (.list (acc.map iQ)),ZA (.int a),YA (.list (lg.map iQ)),none]/\rest=rp.map iQ/\(lg++rp.flatMap λp=>(rng a).map λx=>p++[x])=(acc.flatMap λp=>(rng a).map λx=>p++[x])/\(∀p∈rp,p∈acc)) ?_ ?_
     ⟨[],acc,rfl,rfl,rfl,λp hp=>hp⟩
    ·rintro d ds ρ ⟨lg,rp,rfl,er,he,hin⟩ M hM;cases rp with
     | nil=>cases er
     | cons p rp =>
      cases er;have hpl:=hl3 p (hin p v0);have hl5:lg.length+(rng a).length<=1000:=by have:=congrArg B4 he;rw[M0,P3,M0,j0]at this;omega
      have hra:a.toNat<=1000:=by rw[JZ]at hl5;omega
      refine ⟨by omega,by omega,by rw[CQ,j0,E4];exact zQ hra,qJ (λd=>.tuple (p.map i0++[d])) ?_ ?_⟩
      ·rintro d hd R hR;exact ⟨by simp only[j0,W3];simp at hpl;exact zQ (by omega),hR⟩
      ·refine ⟨by rw[j0,j0,CQ,j0,E4];rw[JZ]at hl5;exact zQ (by omega),?_⟩;refine hM _ ⟨lg++(rng a).map λx=>p++[x],rp,?_,rfl,by rw[E2,<- he,P3],λp' hp'=>hin p' (q0 _ hp')⟩;have e1:(lg.map iQ)++((CQ 0 a.toNat).map λd=>B1 (p.map i0++[d]))=(lg++(rng a).map λx=>p++[x]).map iQ:=by
        rw[yK,v5,P0,P0];congr 1;refine Y1 λx _=>?_;simp[iQ]
       rw[<- e1];rfl
    ·rintro ρ ⟨lg,rp,rfl,er,he,hin⟩;cases rp with
     | cons p rp=>cases er
     | nil =>
      rw[K6,K2]at he;refine hN _ ⟨acc.flatMap λp=>(rng a).map λx=>p++[x],rs,?_,rfl,hr2,hacc,λp hp=>?_⟩
      ·rw[he];rfl
      ·obtain⟨p',hp',hx⟩:=K4.mp hp;obtain⟨x,_,rfl⟩:=J0.mp hx;have:=hl3 p' hp';simp at this ⊢;omega
  ·rintro ρ ⟨acc,rs,rfl,er,hr1,hacc,hl3⟩;cases rs with
   | cons a rs=>cases er
   | nil=>have hacc:acc=tX sd:=hacc;rw[hacc];exact hE _ rfl
structure CalsLpc(P:Program)(w:World)(K:n0)(mg:Str->Option Value)(base:Heap):Prop where
 law_places:Cal P w K mg base 1 "_law_places" ["_law_sides"] (pQ K QU)
 law_most_power:Cal P w K mg base 1 "_law_most_power" ["_law_length"] (pQ K CN)
def EN:Con:=λargs Q=>∃sd:List Int,args=[.fz (iQ sd)]/\Sd sd/\∀o,Q (.ow (.list ((XQ sd).map FQ))) o
noncomputable def MP(p:List Int):PyData->PyData
 | .int k=>iQ (p++[k])
 | _=>.none
noncomputable def FR(p:List Int):PyData->PyData
 | d=>.tuple [iQ p,d]
theorem FN:FnScope ["_law_sides","_law_found","_law_place","_law_some","_law_side","_law_number_here","_law_longer","_law_powers"] ["_law_sides"] (mQ (top 29)):=⟨rfl,rfl,rfl,by decide +kernel,rfl,by decide +kernel,by decide +kernel⟩
theorem dL(F:Fun K "_law_pieces" "_law_pieces" (top 29) f fd)(T:Txt mg)(C:CalsLpc P w K mg base):FnOk P w K mg base iZ 2 f fd ["_law_sides"] (pQ K EN):=by
 have S:=FN;refine tK F S (λcdv A outer s H E hr=>(kQ (BQ (i:=1) S.nd rfl (Or.inl rfl) (WQ fQ))
     (kQ (JX [2,3,4,5] PassesOwn.never rfl (bX rfl (lX C.law_places (hr.mono (by first|decide|omega)) (eQ (wn 0) fQ))) (qQ (i:=2) S.nd rfl (Or.inr rfl)) (kQ (BQ (i:=3) S.nd rfl (Or.inl rfl) (WQ (eQ (wx (tQ fQ)) fQ)))
     (kQ (JX [4,5,6,7] PassesOwn.never rfl (qY rfl T.zip_ (eQ (wn 0) (eQ (wn 2) fQ))) (EJ rfl rfl (LQ (qQ (i:=4) S.nd rfl (Or.inl rfl)) (LQ (qQ (i:=5) S.nd rfl (Or.inl rfl)) yZ))) (kQ (BQ (i:=6) S.nd rfl (Or.inl rfl) (WQ fQ))
     (kQ (JX [7] PassesOwn.never rfl (bX rfl (wv 3)) (qQ (i:=7) S.nd rfl (Or.inr rfl)) (rQ (jZ (Xq XJ rfl PySem.F.slot_list_extend PySem.F.type_list_extend UJ (wn 6) (eQ (wx (fX rfl (own:=["_law_k"]) (fr:=[7]) (by kernel_rfl) (FJ T.range_ (eQ (wx (w_bin lQ jQ (wx (lX C.law_most_power (hr.mono (by first|decide|omega)) (eQ (wx (w_bin RX MX (wn 4) (wn 5))) fQ))) (wx gQ))) fQ)) (λ_ _ _ _=>(qQ (i:=0) (by decide +kernel:O2 (["_law_k","_law_powers"]:List Str)) rfl (Or.inl rfl))) (λ_ _ _ _=>zW) (λ_ _ _ _=>(w_bin lQ jQ (wn 1) (wx (tQ (eQ (wx (wv 0)) fQ))))))) fQ)))))
     (rQ (HG (i:=3) S.nd rfl (Or.inl rfl) (wn 6))))))
     (rQ (jZ (Xq XJ rfl PySem.F.slot_list_extend PySem.F.type_list_extend UJ (wn 1) (eQ (wx (fX rfl (own:=["_law_powers"]) (fr:=[2]) (by kernel_rfl) (bX rfl (wv 3)) (λ_ _ _ _=>(qQ (i:=0) (by decide +kernel:O2 (["_law_powers","_law_place"]:List Str)) rfl (Or.inl rfl))) (λ_ _ _ _=>zW) (λ_ _ _ _=>(tQ (eQ (wx (wv 1)) (eQ (wx (wv 0)) fQ)))))) fQ)))))))
     (rQ (RQ (xQ vx (DH rfl (Kj hr)) T.sorted_ boot_sorted (eQ (wn 1) fQ))))))) ?_ ?_
 ·rintro args Qd ⟨sd,rfl,_⟩;rfl
 ·rintro args Qd ⟨sd,rfl,hsd,q⟩;refine ⟨yQ rfl,?_⟩;have h3:=hsd.l3;have hm:=hsd.m;have h120:=ZY hsd;with_reducible refine NQ (λρ=>ρ=[ZA (iQ sd),YA (.list []),none,none,none,none,none,none]) ?_ ?_
  ·intro N hN;exact hN _ rfl
  rintro _ rfl;with_reducible refine NQ (λρ=>ρ=[ZA (iQ sd),YA (.list ((XQ sd).map FQ)),none,none,none,none,none,none]) ?_ ?_
  ·intro N hN;refine ⟨sd,rfl,hsd.p,by omega,by omega,λo=>?_⟩;refine (?_:xZ _ _ _ _ ((tX sd).map iQ) [ZA (iQ sd),YA (.list []),none,none,none,none,none,none]);refine zX (λrest ρ=>∃dn rs:List (List Int),tX sd=dn++rs/\rest=rs.map iQ/\ρ=[ZA (iQ sd),YA (.list ((dn.flatMap λp=>(DQ [[]] (kJ sd p)).map λw=>((p,w):PQ)).map FQ)),none,none,none,none,none,none]) ?_ ?_ ⟨[],tX sd,rfl,rfl,rfl⟩
   ·rintro d ds ρ ⟨dn,rs,ez,es,rfl⟩ M hM;cases rs with
    | nil=>cases es
    | cons p rs =>
     cases es;have hp:p∈tX sd:=by rw[ez];simp
     have hwi:=iJ hp;have hwl:=OW hwi;have hlp:=OJ hwi;have hdn:(dn.flatMap λp=>(DQ [[]] (kJ sd p)).map λw=>((p,w):PQ)).length<=14400:=SW hsd (λx hx=>by rw[ez];exact T2 _ hx) (by rw[ez,M0]at h120;omega);generalize hB0:(dn.flatMap λp=>(DQ [[]] (kJ sd p)).map λw=>((p,w):PQ))=B0 at hdn ⊢;have hel:(DQ [[]] (kJ sd p)).length<=120:=by rw[vX];have:=hlp.1;simp;omega
     with_reducible refine gnC rfl ?_
     with_reducible refine NQ (λρ=>ρ=[ZA (iQ sd),YA (.list (B0.map FQ)),ZA (iQ p),YA (.list [.tuple []]),none,none,none,none]) ?_ ?_
     ·intro M2 hM2;exact hM2 _ rfl
     rintro _ rfl;with_reducible refine NQ (λρ=>ρ=[ZA (iQ sd),YA (.list (B0.map FQ)),ZA (iQ p),YA (.list ((DQ [[]] (kJ sd p)).map iQ)),none,none,none,none]) ?_ ?_
     ·intro M2 hM2;have hz:=aZ sd p;refine (?_:xZ _ _ _ _ (oY (sd.map i0) (p.map i0)) [ZA (iQ sd),YA (.list (B0.map FQ)),ZA (iQ p),YA (.list [.tuple []]),none,none,none,none]);rw[hz];have hzl:(sd.zip p).length<=3:=by rw[G4];omega
      have hzb:∀q∈sd.zip p,1<=q.1 - q.2/\q.1 - q.2<=120:=λq hq=>cu hsd hwi q hq;have hinv:∀p'∈([[]]:List (List Int)),p'.length+(sd.zip p).length<=3:=λp' hp'=>by
       have e:p'=[]:=by simpa using hp'
       rw[e];simpa using hzl
      have hec:DQ [[]] ((sd.zip p).map λq=>rng ((gpw (q.1 - q.2):Nat)+1))=DQ [[]] (kJ sd p):=rfl;generalize sd.zip p=zs at hzb hinv hec ⊢;generalize DQ [[]] (kJ sd p)=E at hec hM2 hel;clear hz hM;refine zX (λrest ρ=>∃(acc:List (List Int)) (rs:List (Int×Int)),rest=(rs.map λq=>B1 [i0 q.1,i0 q.2])/\(∀q∈rs,1<=q.1 - q.2/\q.1 - q.2<=120)/\DQ acc (rs.map λq=>rng ((gpw (q.1 - q.2):Nat)+1))=E/\(∀p'∈acc,p'.length+rs.length<=3)/\ρ=[ZA (iQ sd),YA (.list (B0.map FQ)),ZA (iQ p),YA (.list (acc.map iQ)),none,none,none,none]) ?_ ?_ ⟨[[]],zs,rfl,hzb,hec,hinv,rfl⟩
      ·rintro d ds ρ ⟨acc,rs,er,hr1,hacc,hl3,rfl⟩ M3 hM3;cases rs with
       | nil=>cases er
       | cons x rs =>
        cases er;have hx:=hr1 x v0;have hrs:∀q∈rs,1<=q.1 - q.2/\q.1 - q.2<=120:=λc hc=>hr1 c (q0 _ hc);have hacc':DQ (acc.flatMap λp=>(rng ((gpw (x.1 - x.2):Nat)+1)).map λx=>p++[x]) (rs.map λq=>rng ((gpw (q.1 - q.2):Nat)+1))=E:=hacc;have hgl:=MU hx.1;have hlp:=WK (cs:=rs.map λq=>rng ((gpw (q.1 - q.2):Nat)+1)) λc hc=>by obtain⟨x,hx,rfl⟩:=J0.mp hc;intro z;have h1:=congrArg B4 z;rw[JZ,P6]at h1;omega
        have htot:(acc.flatMap λp=>(rng ((gpw (x.1 - x.2):Nat)+1)).map λx=>p++[x]).length<=120:=by have h1:=vX (rs.map λq=>rng ((gpw (q.1 - q.2):Nat)+1)) (acc.flatMap λp=>(rng ((gpw (x.1 - x.2):Nat)+1)).map λx=>p++[x]);rw[hacc']at h1;have h2:(acc.flatMap λp=>(rng ((gpw (x.1 - x.2):Nat)+1)).map λx=>p++[x]).length<=(acc.flatMap λp=>(rng ((gpw (x.1 - x.2):Nat)+1)).map λx=>p++[x]).length * lenP (rs.map λq=>rng ((gpw (q.1 - q.2):Nat)+1)):=Y6 _ hlp;omega
        refine ⟨rfl,?_⟩;with_reducible refine ER (ρ':=[ZA (iQ sd),YA (.list (B0.map FQ)),ZA (iQ p),YA (.list (acc.map iQ)),ZA (.int x.1),ZA (.int x.2),none,none]) rfl ?_
        with_reducible refine NQ (λρ=>ρ=[ZA (iQ sd),YA (.list (B0.map FQ)),ZA (iQ p),YA (.list (acc.map iQ)),ZA (.int x.1),ZA (.int x.2),YA (.list []),none]) ?_ ?_
        ·intro M2 hM2;exact hM2 _ rfl
        rintro _ rfl;generalize hG:gpw (x.1 - x.2)=g at hacc' htot hgl;with_reducible refine NQ (λρ=>ρ=[ZA (iQ sd),YA (.list (B0.map FQ)),ZA (iQ p),ZA (.list (acc.map iQ)),ZA (.int x.1),ZA (.int x.2),YA (.list ((acc.flatMap λp=>(rng ((g:Nat)+1)).map λx=>p++[x]).map iQ)),none]) ?_ ?_
        ·intro M4 hM4;refine zX (λrest ρ=>∃(lg rp:List (List Int)),rest=rp.map iQ/\(lg++rp.flatMap λp=>(rng ((g:Nat)+1)).map λx=>p++[x])=(acc.flatMap λp=>(rng ((g:Nat)+1)).map λx=>p++[x])/\(∀p∈rp,p∈acc)/\ρ=[ZA (iQ sd),YA (.list (B0.map FQ)),ZA (iQ p),ZA (.list (acc.map iQ)),ZA (.int x.1),ZA (.int x.2),YA (.list (lg.map iQ)),none]) ?_ ?_ ⟨[],acc,rfl,rfl,λp hp=>hp,rfl⟩
         ·rintro d ds ρ ⟨lg,rp,er,he,hin,rfl⟩ M5 hM5;cases rp with
          | nil=>cases er
          | cons u rp =>
           cases er;have hpl:=hl3 u (hin u v0);have hl5:lg.length+(rng ((g:Nat)+1)).length<=120:=by have:=congrArg B4 he;rw[M0,P3,M0,j0]at this;omega
           refine ⟨x.1 - x.2,rfl,hx.1,by omega,λo=>?_⟩;rw[hG];refine ⟨by omega,by omega,by rw[CQ,j0,E4];exact zQ (by omega),?_⟩;rw[yK];refine qJ (MP u) ?_ ?_
           ·intro d hd N' hN';obtain⟨k,_,rfl⟩:=J0.mp hd;refine ⟨zQ (by simp;simp at hpl;omega),?_⟩;have e:MP u (.int k)=.tuple (u.map i0++[.int k]):=by
             show iQ (u++[k])=_;unfold iQ;rw[v5];rfl
            rw[e]at hN';exact hN'
           ·have e1:((rng ((g:Nat)+1)).map i0).map (MP u)=((rng ((g:Nat)+1)).map λx=>u++[x]).map iQ:=by
             rw[P0,P0];rfl
            rw[e1];refine ⟨zQ (by simp;omega),hM5 _ ⟨lg++(rng ((g:Nat)+1)).map λx=>u++[x],rp,rfl,by rw[E2,<- he,P3],λp' hp'=>hin p' (q0 _ hp'),?_⟩⟩;rw[v5];rfl
         ·rintro ρ ⟨lg,rp,er,he,hin,rfl⟩;cases rp with
          | cons _ _=>cases er
          | nil=>rw[K6,K2]at he;rw[<- he]at hM4;exact hM4 _ rfl
        rintro _ rfl;refine hM3 _ ⟨acc.flatMap λp=>(rng ((g:Nat)+1)).map λx=>p++[x],rs,rfl,hrs,hacc',λp hp=>?_,rfl⟩;obtain⟨p',hp',hx⟩:=K4.mp hp;obtain⟨x,_,rfl⟩:=J0.mp hx;have:=hl3 p' hp';simp at this ⊢;omega
      ·rintro ρ ⟨acc,rs,er,hr1,hacc,hl3,rfl⟩;cases rs with
       | cons _ _=>cases er
       | nil=>have hacc:acc=E:=hacc;rw[<- hacc]at hM2;exact hM2 _ rfl
     rintro _ rfl;generalize hE:DQ [[]] (kJ sd p)=ws at hel ⊢;refine ⟨zQ (by rw[j0];omega),qJ (FR p) (λd _ N' hN'=>hN') ?_⟩;have e1:(ws.map iQ).map (FR p)=(ws.map λw=>((p,w):PQ)).map FQ:=by rw[P0,P0];rfl
     rw[e1];refine ⟨BZ (by rw[j0,j0,j0];omega),?_⟩;refine hM _ ⟨dn++[p],rs,by rw[ez];simp,rfl,?_⟩;rw[E9,hB0];simp only[P3,K6,K2];rw[hE,v5];rfl
   ·rintro ρ ⟨dn,rs,ez,es,rfl⟩;cases rs with
    | cons _ _=>cases es
    | nil=>rw[K2]at ez;unfold XQ at hN;rw[ez]at hN;exact hN _ rfl
  rintro _ rfl;refine ⟨XQ sd,rfl,BZ (by have:=OU hsd;omega),λrows hp hu=>?_⟩;rw[xk hp hu];exact q _
theorem RU{sd:List Int}(h:Sd sd)(h24:VQ sd<=24):(XQ sd).length<=576:=by
 have h1:=RW (f:=λp=>(DQ [[]] (kJ sd p)).map λw=>((p,w):PQ)) (c:=24) (l:=tX sd) λp hp=>by rw[j0,vX];have h2:=(OJ (iJ hp)).1;simp;omega
 have h4:=bK h.p;have h5:=m5 24 (show (tX sd).length<=24 by omega);exact Q0 h1 h5
structure CalsSm(P:Program)(w:World)(K:n0)(mg:Str->Option Value)(base:Heap):Prop where
 law_take:Cal P w K mg base 1 "_law_take" ["_law_pen_here","_law_most"] (pQ K IH)
 law_places:Cal P w K mg base 1 "_law_places" ["_law_sides"] (pQ K QU)
 law_number:Cal P w K mg base 2 "_law_number" ["_law_pen_here"] (pQ K BD)
def Ek:Con:=λargs Q=>∃(ns:List Int) (k l:Int),args=[.io (CZ ns k l)]/\0<=k/\0<=l/\∀(sd cl:List Int) (k' l':Int) (o:Ev),Sd sd->VQ sd<=24->cl.length=(tX sd).length->(∀c∈cl,YV c)->0<=k'->0<=l'->Q (.fz (.tuple [zK sd cl,qU (DX sd cl)])) (some (.io (CZ ns k' l')) :: o)
theorem du:FnScope ["_law_pen_here","_law_most","_law_sides","_law_places_here","_law_cells"] ["_law_pen_here"] (mQ (top 27)):=⟨rfl,rfl,rfl,by decide +kernel,rfl,by decide +kernel,by decide +kernel⟩
theorem Fk(F:Fun K "_law_small" "_law_small" (top 27) f fd)(T:Txt mg)(C:CalsSm P w K mg base):FnOk P w K mg base iZ 3 f fd ["_law_pen_here"] (pQ K Ek):=by
 have S:=du;refine tK F S (λcdv A outer s H E hr=>(kQ (BQ (i:=1) S.nd rfl (Or.inl rfl) (MQ rfl (wx (WQ (eQ (wx (WQ (eQ (wx gQ) fQ))) (eQ (wx (WQ (eQ (wx gQ) (eQ (wx gQ) fQ)))) (eQ (wx (WQ (eQ (wx gQ) (eQ (wx gQ) (eQ (wx gQ) fQ))))) (eQ (wx (WQ (eQ (wx gQ) (eQ (wx gQ) fQ)))) fQ)))))) (wx (GZ C.law_take (hr.mono (by first|decide|omega)) (eQ (wn 0) (eQ (wx gQ) fQ))))))
     (kQ (BQ (i:=2) S.nd rfl (Or.inl rfl) (pX QZ (HX (K:=K) rfl) T.tuple_ boot_tuple (eQ (wx (fX rfl (own:=["_law_side"]) (fr:=[0]) (by kernel_rfl) (bX rfl (wv 1)) (λ_ _ _ _=>(qQ (i:=0) (by decide +kernel:O2 (["_law_side","_law_pen_here"]:List Str)) rfl (Or.inl rfl))) (λ_ _ _ _=>zW) (λ_ _ _ _=>(w_bin lQ jQ (wx gQ) (wx (GZ C.law_take (hr.mono (by first|decide|omega)) (eQ (wn 1) (eQ (wn 0) fQ)))))))) fQ)))
     (kQ (BQ (i:=3) S.nd rfl (Or.inl rfl) (lX C.law_places (hr.mono (by first|decide|omega)) (eQ (wn 2) fQ)))
     (kQ (BQ (i:=4) S.nd rfl (Or.inl rfl) (pX QZ (HX (K:=K) rfl) T.tuple_ boot_tuple (eQ (wx (fX rfl (own:=["_law_place"]) (fr:=[0]) (by kernel_rfl) (bX rfl (wv 3)) (λ_ _ _ _=>(qQ (i:=0) (by decide +kernel:O2 (["_law_place","_law_pen_here"]:List Str)) rfl (Or.inl rfl))) (λ_ _ _ _=>zW) (λ_ _ _ _=>(GZ C.law_number (hr.mono (by first|decide|omega)) (eQ (wn 1) fQ))))) fQ)))
     (rQ (RQ (tQ (eQ (wx (tQ (eQ (wx (wv 2)) (eQ (wx (wv 4)) fQ)))) (eQ (wx (DP rfl rfl (Kj hr) T.dict_ (by decide +kernel) T.zip_ (eQ (wn 3) (eQ (wn 4) fQ)))) fQ)))))))))) ?_ ?_
 ·rintro args Qd ⟨ns,k,l,rfl,_⟩;rfl
 ·rintro args Qd ⟨ns,k,l,rfl,hk,hl,q⟩;refine ⟨yQ rfl,?_⟩;with_reducible refine NQ (λρ=>∃(ms:List Int) (k1 l1:Int),Mst ms/\VQ ms<=24/\0<=k1/\0<=l1/\ρ=[some (.io (CZ ns k1 l1)),ZA (.list (ms.map i0)),none,none,none]) ?_ ?_
  ·intro N hN;refine ⟨ns,k,l,4,rfl,hk,hl,by decide,by decide,λr k1 l1 _ r0 r1 hk1 hl1=>?_⟩;rcases (show r=0\/r=1\/r=2\/r=3 by omega) with rfl|rfl|rfl|rfl
   ·exact ⟨.list ([8].map i0),rfl,hN _ ⟨[8],k1,l1,⟨by decide,by decide,by decide,by decide⟩,by decide,hk1,hl1,rfl⟩⟩
   ·exact ⟨.list ([3,4].map i0),rfl,hN _ ⟨[3,4],k1,l1,⟨by decide,by decide,by decide,by decide⟩,by decide,hk1,hl1,rfl⟩⟩
   ·exact ⟨.list ([2,2,2].map i0),rfl,hN _ ⟨[2,2,2],k1,l1,⟨by decide,by decide,by decide,by decide⟩,by decide,hk1,hl1,rfl⟩⟩
   ·exact ⟨.list ([2,12].map i0),rfl,hN _ ⟨[2,12],k1,l1,⟨by decide,by decide,by decide,by decide⟩,by decide,hk1,hl1,rfl⟩⟩
  rintro _ ⟨ms,k0,l0,hM,h24,hk0,hl0,rfl⟩;have h3:=hM.l3;with_reducible refine NQ (λρ=>∃(sd:List Int) (k1 l1:Int),Sd sd/\VQ sd<=24/\0<=k1/\0<=l1/\ρ=[some (.io (CZ ns k1 l1)),ZA (.list (ms.map i0)),ZA (iQ sd),none,none]) ?_ ?_
  ·intro N hN;refine ⟨zQ (by rw[j0];omega),SF (λrest acc τ=>∃(dn rs cs:List Int) (k4 l4:Int),ms=dn++rs/\rest=rs.map i0/\acc=cs.map i0/\LeP cs dn/\τ=[none,some (.io (CZ ns k4 l4))]/\0<=k4/\0<=l4) ?_ ?_ ⟨[],ms,[],k0,l0,rfl,rfl,rfl,trivial,rfl,hk0,hl0⟩⟩
   ·rintro d ds acc τ ⟨dn,rs,cs,k4,l4,em,er,rfl,hle,rfl,hk4,hl4⟩ N' hN';cases rs with
    | nil=>cases er
    | cons m rs=>cases er;have hm:=hM.p m (by rw[em];simp);refine ⟨ns,k4,l4,m,rfl,hk4,hl4,by omega,by omega,λx k5 l5 _ x0 x1 hk5 hl5=>?_⟩;exact hN' _ _ ⟨dn++[m],rs,cs++[1+x],k5,l5,by rw[em];simp,rfl,by simp[Sl.d],hle.snoc (by omega) (by omega),rfl,hk5,hl5⟩
   ·rintro acc τ ⟨dn,rs,cs,k4,l4,em,er,rfl,hle,rfl,hk4,hl4⟩;cases rs with
    | cons _ _=>cases er
    | nil=>rw[K2]at em;subst em;exact hN _ ⟨cs,k4,l4,hle.sd hM,Int.le_trans hle.prod h24,hk4,hl4,rfl⟩
  rintro _ ⟨sd,k1,l1,hsd,hs24,hk1,hl1,rfl⟩;have hm:=hsd.m;have hpl:=bK hsd.p;with_reducible refine NQ (λρ=>ρ=[some (.io (CZ ns k1 l1)),ZA (.list (ms.map i0)),ZA (iQ sd),YA (.list ((tX sd).map iQ)),none]) ?_ ?_
  ·intro N hN;exact ⟨sd,rfl,hsd.p,by omega,hsd.l3,λo=>hN _ rfl⟩
  rintro _ rfl;with_reducible refine NQ (λρ=>∃(cl:List Int) (k1 l1:Int),cl.length=(tX sd).length/\(∀c∈cl,YV c)/\0<=k1/\0<=l1/\ρ=[some (.io (CZ ns k1 l1)),ZA (.list (ms.map i0)),ZA (iQ sd),ZA (.list ((tX sd).map iQ)),ZA (iQ cl)]) ?_ ?_
  ·intro N hN;refine ⟨zQ (by rw[j0];omega),SF (λrest acc τ=>∃(cs:List Int) (k4 l4:Int),acc=cs.map i0/\cs.length+rest.length=(tX sd).length/\(∀c∈cs,YV c)/\τ=[none,some (.io (CZ ns k4 l4))]/\0<=k4/\0<=l4) ?_ ?_ ⟨[],k1,l1,rfl,by simp,λc hc=>(by cases hc),rfl,hk1,hl1⟩⟩
   ·rintro d ds acc τ ⟨cs,k4,l4,rfl,hlen,hB,rfl,hk4,hl4⟩ N' hN';refine ⟨ns,k4,l4,rfl,hk4,hl4,λx k5 l5 _ hx hk5 hl5=>?_⟩;refine hN' _ _ ⟨cs++[x],k5,l5,by simp[Sl.d],by simp at hlen ⊢;omega,λc hc=>?_,rfl,hk5,hl5⟩;rcases E1.mp hc with z|z
    ·exact hB c z
    ·rw[Z0.mp z];exact hx
   ·rintro acc τ ⟨cs,k4,l4,rfl,hlen,hB,rfl,hk4,hl4⟩;exact hN _ ⟨cs,k4,l4,by simpa using hlen,hB,hk4,hl4,rfl⟩
  rintro _ ⟨cl,k2,l2,hcl,hB,hk2,hl2,rfl⟩;have e1:(tX sd).map iQ=(DX sd cl).map λp=>tI p.1:=by
   unfold DX;rw[P0];have e:(tX sd).map iQ=(((tX sd).zip cl).map (·.1)).map iQ:=by rw[List.map_fst_zip (by omega)]
   rw[e,P0];rfl
  have e2:cl.map i0=(DX sd cl).map (·.2):=by
   unfold DX;rw[P0];have e:cl.map i0=(((tX sd).zip cl).map (·.2)).map i0:=by rw[List.map_snd_zip (by omega)]
   rw[e,P0];rfl
  have e3:(DX sd cl).map (·.1)=tX sd:=by unfold DX;rw[P0];exact List.map_fst_zip (by omega)
  refine ⟨DX sd cl,congrArg some e1,congrArg some e2,by rw[e3];exact ZV hsd.p,?_⟩;exact q sd cl k2 l2 _ hsd hs24 hcl hB hk2 hl2
noncomputable def VH(sd:List Int)(V:PQ->Int×Int):List (PQ×PyData):=(XQ sd).map λb=>(b,iQ [(V b).1,(V b).2])
theorem cW{sd:List Int}{V:PQ->Int×Int}{b:PQ}(h:Pc b.1 b.2 sd):(b,iQ [(V b).1,(V b).2])∈VH sd V:=J0.mpr ⟨b,pcs_mem.mpr h,rfl⟩
theorem qF:∀{p w sd:List Int},Pc p w sd->∀q∈p.zip w,0<=q.2/\∃s∈sd,(2:Int) ^ q.2.toNat<=s
 | [],_,_,_,q,hq=>by simp at hq
 | _ :: _,[],z,h,_,_=>by cases z<;>exact h.elim
 | x :: p,k :: w,[],h,_,_=>h.elim
 | x :: p,k :: w,s :: sd,h,q,hq=>by
  rw[i4]at hq;rcases W0.mp hq with z|z
  ·subst z;exact ⟨h.1.2.2.1,s,v0,by have h1:=h.1;show (2:Int) ^ k.toNat<=s;omega⟩
  ·obtain⟨g1,s',g2,g3⟩:=qF h.2 q z;exact ⟨g1,s',q0 _ g2,g3⟩
theorem Gk{k:Nat}{n:Int}(h:(2:Int) ^ k<=n):(k:Int)<=n:=by
 have h2:k < 2 ^ k:=B9;have e:((2 ^ k:Nat):Int)=2 ^ k:=by rw[S7];rfl
 omega
structure CalsFl(P:Program)(w:World)(K:n0)(mg:Str->Option Value)(base:Heap):Prop where
 replaced:Cal P w K mg base 1 "replaced" ["numbers","way","number"] (pQ K AR)
 two_to:Cal P w K mg base 1 "two_to" ["power"] (pQ K xR)
 put_together:Cal P w K mg base 1 "put_together" ["parts"] (pQ K DR)
def GR:Con:=λargs Q=>∃(sd:List Int) (V:PQ->Int×Int) (b:PQ) (i:Nat) (a c:Int),args=[.fz (iK (VH sd V)),.fz (FQ b),.fz (.int i)]/\Sd sd/\Pc b.1 b.2 sd/\i < sd.length/\b.1[i]?=some a/\b.2[i]?=some c/\0 < c/\∀o,Q (.fz (iQ [min (V (b.1,b.2.set i (c - 1))).1 (V (b.1.set i (a+2 ^ (c - 1).toNat),b.2.set i (c - 1))).1,max (V (b.1,b.2.set i (c - 1))).2 (V (b.1.set i (a+2 ^ (c - 1).toNat),b.2.set i (c - 1))).2])) o
theorem NP:FnScope ["told","piece","way","place","power","powers","further"] ["told","piece","way"] (mQ (top 21)):=⟨rfl,rfl,rfl,by decide +kernel,rfl,by decide +kernel,by decide +kernel⟩
theorem GN(F:Fun K "from_lesser" "from_lesser" (top 21) f fd)(T:Txt mg)(C:CalsFl P w K mg base):FnOk P w K mg base iZ 2 f fd ["told","piece","way"] (pQ K GR):=by
 have S:=NP;refine tK F S (λcdv A outer s H E hr=>(kQ (BQ (i:=3) S.nd rfl (Or.inl rfl) (MQ rfl (wn 1) (wx gQ)))
     (kQ (BQ (i:=4) S.nd rfl (Or.inl rfl) (w_bin RX MX (wx (MQ rfl (wx (MQ rfl (wn 1) (wx gQ))) (wn 2))) (wx gQ)))
     (kQ (BQ (i:=5) S.nd rfl (Or.inl rfl) (lX C.replaced (hr.mono (by first|decide|omega)) (eQ (wx (MQ rfl (wn 1) (wx gQ))) (eQ (wn 2) (eQ (wn 4) fQ)))))
     (kQ (BQ (i:=6) S.nd rfl (Or.inl rfl) (lX C.replaced (hr.mono (by first|decide|omega)) (eQ (wn 3) (eQ (wn 2) (eQ (wx (w_bin lQ jQ (wx (MQ rfl (wn 3) (wn 2))) (wx (lX C.two_to (hr.mono (by first|decide|omega)) (eQ (wn 4) fQ))))) fQ)))))
     (rQ (RQ (lX C.put_together (hr.mono (by first|decide|omega)) (eQ (wx (WQ (eQ (wx (xK (mZ hr) (wn 0) (wx (tQ (eQ (wx (wv 3)) (eQ (wx (wv 5)) fQ)))))) (eQ (wx (xK (mZ hr) (wn 0) (wx (tQ (eQ (wx (wv 6)) (eQ (wx (wv 5)) fQ)))))) fQ)))) fQ))))))))) ?_ ?_
 ·rintro args Qd ⟨sd,V,b,i,a,c,rfl,_⟩;rfl
 ·rintro args Qd ⟨sd,V,b,i,a,c,rfl,hsd,hb,hi,ha,hc,hac,q⟩;refine ⟨yQ rfl,?_⟩;have h3:=hsd.l3;have hbl:=oZ hb;have hm:=hsd.m;obtain⟨g1,s,hs,g2⟩:=qF hb (a,c) (by
    have:(b.1.zip b.2)[i]?=some (a,c):=by rw[N5];exact ⟨ha,hc⟩
    exact Q1 this);have hs2:=fZ hsd.p s hs;have hk:=Gk g2;simp only at g1 hk;have hat1:aV (b.1.map i0) (i:Int)=some (.int a):=EX (by rw[X0,ha];rfl);have hat2:aV (b.2.map i0) (i:Int)=some (.int c):=EX (by rw[X0,hc];rfl);obtain⟨l1,l2,_,_,_⟩:=eK hb ha hc hac;with_reducible refine NQ (λρ=>ρ=[ZA (iK (VH sd V)),ZA (FQ b),ZA (.int (i:Nat)),ZA (iQ b.1),none,none,none]) ?_ ?_
  ·intro N hN;exact ⟨_,rfl,hN _ rfl⟩
  rintro _ rfl;with_reducible refine NQ (λρ=>ρ=[ZA (iK (VH sd V)),ZA (FQ b),ZA (.int (i:Nat)),ZA (iQ b.1),ZA (.int (c - 1)),none,none]) ?_ ?_
  ·intro N hN;exact ⟨_,rfl,_,hat2,hN _ rfl⟩
  rintro _ rfl;with_reducible refine NQ (λρ=>ρ=[ZA (iK (VH sd V)),ZA (FQ b),ZA (.int (i:Nat)),ZA (iQ b.1),ZA (.int (c - 1)),ZA (iQ (b.2.set i (c - 1))),none]) ?_ ?_
  ·intro N hN;exact ⟨_,rfl,b.2,i,c - 1,rfl,by omega,by omega,λo=>hN _ rfl⟩
  rintro _ rfl;with_reducible refine NQ (λρ=>ρ=[ZA (iK (VH sd V)),ZA (FQ b),ZA (.int (i:Nat)),ZA (iQ b.1),ZA (.int (c - 1)),ZA (iQ (b.2.set i (c - 1))),ZA (iQ (b.1.set i (a+2 ^ (c - 1).toNat)))]) ?_ ?_
  ·intro N hN;exact ⟨_,hat1,c - 1,rfl,by omega,by omega,λo=>⟨b.1,i,a+2 ^ (c - 1).toNat,rfl,by omega,by omega,λo=>hN _ rfl⟩⟩
  rintro _ rfl;refine ⟨VH sd V,(b.1,b.2.set i (c - 1)),_,rfl,rfl,cW l1,?_⟩;refine ⟨VH sd V,(b.1.set i (a+2 ^ (c - 1).toNat),b.2.set i (c - 1)),_,rfl,rfl,cW l2,?_⟩;exact ⟨_,_,rfl,rfl,rfl,λo=>q _⟩
theorem OP{α:Type}{l:List α}(h:l.length<=m)(n:Nat):(l.take n).length<=m:=Q0 (N7 _ _) h
theorem HR{α:Type}{l:List α}(h:l.length<=m)(n:Nat):(l.drop n).length<=m:=by rw[V1];exact Q0 (M9 _ _) h
theorem IR{l:List Int}(h:l.length<=m):(l.map i0).length<=m:=by rw[j0];exact h
theorem tk3{l:List Int}(h:l.length<=3)(n:Nat):((l.map i0).take n).length<=3:=OP (IR h) n
theorem yL{l:List Int}(h:l.length<=3)(n:Nat):((l.map i0).drop n).length<=3:=HR (IR h) n
theorem HN(x z:Int):min x z=if z < x then z else x:=by rw[Int.min_def];split<;>split<;>omega
theorem IN(x z:Int):max x z=if z > x then z else x:=by rw[Int.max_def];split<;>split<;>omega
theorem lz(h:Nat.ble n 1000=true):n<=sizeLine:=zQ (K5 h)
theorem nn(t:Nat):(0:Int)<=((t:Nat):Int):=Int.natCast_nonneg t
theorem n1(t:Nat):(0:Int)<=((t:Nat):Int)+1:=Int.le_add_one (nn t)
theorem gK{a b x y:Nat}(h:x<=a)(k:y<=b)(z:a+b<=100000):x+y<=sizeLine:=BZ (by omega)
theorem wY{m:List PyData}{a b:Nat}(h:l.length<=a)(k:m.length<=b):(l++m).length<=a+b:=by rw[M0];omega
def JR:Con:=λargs Q=>∃(T:List (PQ×PyData)) (b:PQ) (i:Nat) (rest:List Int) (a c x y z u:Int),args=[.fz (iK T),.fz (iQ b.1),.fz (iQ b.2)]/\b.1.length=b.2.length/\b.2.length<=3/\i < b.2.length/\aW b=(i:Int) :: rest/\b.1[i]?=some a/\b.2[i]?=some c /\
 0 < c/\c<=120/\((b.1,b.2.set i (c - 1)),iQ [x,y])∈T/\((b.1.set i (a+2 ^ (c - 1).toNat),b.2.set i (c - 1)),iQ [z,u])∈T/\∀o,Q (.fz (iQ [min x z,max y u])) o
theorem PP:FnScope ["_law_table","_law_place","_law_powers","_law_way","_law_less","_law_further","_law_one","_law_other"] ["_law_table","_law_place","_law_powers"] (mQ (top 30)):=⟨rfl,rfl,rfl,by decide +kernel,rfl,by decide +kernel,by decide +kernel⟩
theorem JN(F:Fun K "_law_together" "_law_together" (top 30) f fd)(T:Txt mg):FnOk P w K mg base iZ 1 f fd ["_law_table","_law_place","_law_powers"] (pQ K JR):=by
 have S:=PP;refine tK F S (λcdv A outer s H E hr=>(kQ (BQ (i:=3) S.nd rfl (Or.inl rfl) (MQ rfl (wx (fX rfl (own:=["_law_at"]) (fr:=[2]) (by kernel_rfl) (FJ T.range_ (eQ (wx (xQ jX (GQ (K:=K) rfl) T.len_ PySem.boot_len (eQ (wn 2) fQ))) fQ)) (λ_ _ _ _=>(qQ (i:=0) (by decide +kernel:O2 (["_law_at","_law_powers"]:List Str)) rfl (Or.inl rfl))) (λ_ _ _ _=>sR (AX LV yV (wx (MQ rfl (wn 1) (wn 0))) (wx gQ))) (λ_ _ _ _=>(wv 0)))) (wx gQ)))
     (kQ (BQ (i:=4) S.nd rfl (Or.inl rfl) (w_bin lQ jQ (wx (w_bin lQ jQ (wx (KJ rfl (wn 2) (wn 3))) (wx (tQ (eQ (wx (w_bin RX MX (wx (MQ rfl (wn 2) (wn 3))) (wx gQ))) fQ))))) (wx (lZ rfl (wn 2) (wx (w_bin lQ jQ (wn 3) (wx gQ)))))))
     (kQ (BQ (i:=5) S.nd rfl (Or.inl rfl) (w_bin lQ jQ (wx (w_bin lQ jQ (wx (KJ rfl (wn 1) (wn 3))) (wx (tQ (eQ (wx (w_bin lQ jQ (wx (MQ rfl (wn 1) (wn 3))) (wx (w_bin Dj zz (wx gQ) (wx (MQ rfl (wn 4) (wn 3))))))) fQ))))) (wx (lZ rfl (wn 1) (wx (w_bin lQ jQ (wn 3) (wx gQ)))))))
     (kQ (BQ (i:=6) S.nd rfl (Or.inl rfl) (xK (mZ hr) (wn 0) (wx (tQ (eQ (wx (wv 1)) (eQ (wx (wv 4)) fQ))))))
     (kQ (BQ (i:=7) S.nd rfl (Or.inl rfl) (xK (mZ hr) (wn 0) (wx (tQ (eQ (wx (wv 5)) (eQ (wx (wv 4)) fQ))))))
     (rQ (RQ (tQ (eQ (wx (xQ Mu (aq rfl) T.min_ boot_min (eQ (wx (MQ rfl (wn 6) (wx gQ))) (eQ (wx (MQ rfl (wn 7) (wx gQ))) fQ)))) (eQ (wx (xQ Mu (ZD rfl) T.max_ boot_max (eQ (wx (MQ rfl (wn 6) (wx gQ))) (eQ (wx (MQ rfl (wn 7) (wx gQ))) fQ)))) fQ))))))))))) ?_ ?_
 ·rintro args Qd ⟨T',b,i,rest,a,c,x,y,z,u,rfl,_⟩;rfl
 ·rintro args Qd ⟨T',b,i,rest,a,c,x,y,z,u,rfl,hbl,h3,hi,hp,ha,hc,hc0,hc1,m1,m2,q⟩;refine ⟨yQ rfl,?_⟩;have hm:(b.2.map i0).length=b.2.length:=j0 _;have h4:b.1.length<=3:=by rw[hbl];exact h3
  have hat1:aV (b.1.map i0) (i:Int)=some (.int a):=EX (by rw[X0,ha];rfl);have hat2:aV (b.2.map i0) (i:Int)=some (.int c):=EX (by rw[X0,hc];rfl);have cut:∀(p:List Int) (v:Int),i < p.length->(p.map i0).take (i:Int).toNat++[i0 v]++(p.map i0).drop ((i:Int)+1).toNat=(p.set i v).map i0:=λp v hi=>by rw[show (i:Int).toNat=i by omega,show ((i:Int)+1).toNat=i+1 by omega,<- ED p hi v];simp[A8,List.map_drop]
  with_reducible refine NQ (λρ=>ρ=[ZA (iK T'),ZA (iQ b.1),ZA (iQ b.2),ZA (.int (i:Nat)),none,none,none,none]) ?_ ?_
  ·intro N hN;refine ⟨by rw[hm];omega,by rw[hm];omega,by rw[CQ,j0,E4,hm];exact zQ (by omega),?_⟩;refine KM (λd=>decide (0 < b.2.getD (unI d).toNat 0)) id ?_ ?_
   ·intro d hd N M hN hM;rw[CQ]at hd;obtain⟨k,hk,rfl⟩:=J0.mp hd;have hk:=u3.mp hk;rw[hm]at hk;have hk:k < b.2.length:=by omega
    have e0:(0+(k:Int))=(k:Int):=by omega
    rw[e0]at hN hM ⊢;have ek:(unI (.int (k:Int))).toNat=k:=by show (k:Int).toNat=k;omega
    simp only[ek]at hN hM;refine ⟨_,jJ hk,rZ (λh=>hN ?_) (λh=>hM (U5.mpr λz=>h ?_))⟩
    ·have h:=of_decide_eq_true h;exact decide_eq_true (by omega)
    ·have z:=of_decide_eq_true z;exact decide_eq_true (by omega)
   have e:((CQ 0 ((b.2.map i0).length:Int).toNat).filter λd=>decide (0 < b.2.getD (unI d).toNat 0)).map id=(aW b).map i0:=by
    unfold aW;rw[W6,CQ,hm,List.filter_map,show ((b.2.length:Int)).toNat=b.2.length by omega,P0];have e:(N1 b.2.length).filter ((λd=>decide (0 < b.2.getD (unI d).toNat 0)) ∘ λ(i:Nat)=>i0 (0+i))=(N1 b.2.length).filter λi=>decide (0 < b.2.getD i 0):=by refine List.filter_congr λk _=>?_;show decide (0 < b.2.getD (0+(k:Int)).toNat 0)=_;rw[show (0+(k:Int)).toNat=k by omega]
    rw[e];refine Y1 λk _=>?_;show i0 (0+(k:Int))=i0 (k:Int);rw[T8]
   rw[e,hp];exact ⟨_,EX (j:=0) rfl,hN _ rfl⟩
  rintro _ rfl;with_reducible refine NQ (λρ=>ρ=[ZA (iK T'),ZA (iQ b.1),ZA (iQ b.2),ZA (.int (i:Nat)),ZA (iQ (b.2.set i (c - 1))),none,none,none]) ?_ ?_
  ·intro N hN;have hN:=hN _ rfl;unfold iQ at hN;rw[<- cut b.2 (c - 1) hi]at hN;exact ⟨nn i,_,hat2,gK (tk3 h3 _) (u0 1) (by decide),n1 i,gK (wY (tk3 h3 _) (u0 1)) (yL h3 _) (by decide),hN⟩
  rintro _ rfl;have hat3:aV ((b.2.set i (c - 1)).map i0) (i:Int)=some (.int (c - 1)):=EX (by rw[X0,j6 hi];rfl);with_reducible refine NQ (λρ=>ρ=[ZA (iK T'),ZA (iQ b.1),ZA (iQ b.2),ZA (.int (i:Nat)),ZA (iQ (b.2.set i (c - 1))),ZA (iQ (b.1.set i (a+2 ^ (c - 1).toNat))),none,none]) ?_ ?_
  ·intro N hN;have hN:=hN _ rfl;unfold iQ at hN;rw[<- h9 (2 ^ (c - 1).toNat),<- cut b.1 _ (by omega)]at hN;refine ⟨nn i,_,hat1,_,hat3,(show iG 1 (c - 1) from ⟨by omega,by omega,by decide⟩),gK (tk3 h4 _) (u0 1) (by decide),n1 i,gK (wY (tk3 h4 _) (u0 1)) (yL h4 _) (by decide),hN⟩
  rintro _ rfl;with_reducible refine NQ (λρ=>ρ=[ZA (iK T'),ZA (iQ b.1),ZA (iQ b.2),ZA (.int (i:Nat)),ZA (iQ (b.2.set i (c - 1))),ZA (iQ (b.1.set i (a+2 ^ (c - 1).toNat))),ZA (iQ [x,y]),none]) ?_ ?_
  ·intro N hN;exact ⟨T',(b.1,b.2.set i (c - 1)),_,rfl,rfl,m1,hN _ rfl⟩
  rintro _ rfl;with_reducible refine NQ (λρ=>ρ=[ZA (iK T'),ZA (iQ b.1),ZA (iQ b.2),ZA (.int (i:Nat)),ZA (iQ (b.2.set i (c - 1))),ZA (iQ (b.1.set i (a+2 ^ (c - 1).toNat))),ZA (iQ [x,y]),ZA (iQ [z,u])]) ?_ ?_
  ·intro N hN;exact ⟨T',(b.1.set i (a+2 ^ (c - 1).toNat),b.2.set i (c - 1)),_,rfl,rfl,m2,hN _ rfl⟩
  rintro _ rfl;rw[HN,IN]at q;exact ⟨.int x,rfl,.int z,rfl,.int y,rfl,.int u,rfl,q _⟩
structure CalsWh(P:Program)(w:World)(K:n0)(mg:Str->Option Value)(base:Heap):Prop where
 law_take:Cal P w K mg base 1 "_law_take" ["_law_pen_here","_law_most"] (pQ K IH)
def Hk:Con:=λargs Q=>∃(ns:List Int) (k l m:Int),args=[.io (CZ ns k l),.fz (.int m)]/\0<=k/\0<=l/\1<=m/\m<=100000 /\
 ∀(rs:List Int) (k' l':Int) (o:Ev),(∀r∈rs,0<=r/\r < m)->rs.length<=60->0<=k'->0<=l'->Q (.ow (.list (rs.map i0))) (some (.io (CZ ns k' l')) :: o)
theorem fu:FnScope ["_law_pen_here","_law_many"] ["_law_pen_here","_law_many"] (mQ (top 34)):=⟨rfl,rfl,rfl,by decide +kernel,rfl,by decide +kernel,by decide +kernel⟩
theorem Ik(F:Fun K "_law_where" "_law_where" (top 34) f fd)(T:Txt mg)(C:CalsWh P w K mg base):FnOk P w K mg base iZ 2 f fd ["_law_pen_here","_law_many"] (pQ K Hk):=by
 have S:=fu;refine tK F S (λcdv A outer s H E hr=>(kQ (tZ (AX Nu Bz (wn 1) (wx gQ)) (rQ (RQ (pB rfl T.list_ T.range_ (eQ (wn 1) fQ)))) xX)
     (rQ (RQ (fX rfl (own:=["_law_k"]) (fr:=[0,1]) (by kernel_rfl) (FJ T.range_ (eQ (wx gQ) fQ)) (λ_ _ _ _=>(qQ (i:=0) (by decide +kernel:O2 (["_law_k","_law_pen_here","_law_many"]:List Str)) rfl (Or.inl rfl))) (λ_ _ _ _=>zW) (λ_ _ _ _=>(GZ C.law_take (hr.mono (by first|decide|omega)) (eQ (wn 1) (eQ (wn 2) fQ))))))))) ?_ ?_
 ·rintro args Qd ⟨ns,k,l,m,rfl,_⟩;rfl
 ·rintro args Qd ⟨ns,k,l,m,rfl,hk,hl,hm0,hm1,q⟩;refine ⟨yQ rfl,?_⟩;refine rZ (λh=>?_) (λh=>?_)
  ·have h:=of_decide_eq_true h;refine ⟨(show Sv 0 m from ⟨by omega,by omega⟩),by omega,?_⟩;have e:CQ 0 m.toNat=((N1 m.toNat).map λ(i:Nat)=>(i:Int)).map i0:=by
    rw[CQ,P0];exact Y1 λi _=>by show i0 (0+(i:Int))=i0 (i:Int);rw[T8]
   refine (?_:Qd (.ow (.list (CQ 0 m.toNat))) _);rw[e];refine q _ k l _ (λr hr=>?_) (by simp;omega) hk hl;obtain⟨i,hi,rfl⟩:=J0.mp hr;have:=u3.mp hi;omega
  ·refine ⟨by decide,by decide,zQ (by decide),SF (λrest acc τ=>∃(cs:List Int) (k4 l4:Int),acc=cs.map i0/\cs.length+rest.length=20/\(∀c∈cs,0<=c/\c < m)/\τ=[none,some (.io (CZ ns k4 l4)),ZA (.int m)]/\0<=k4/\0<=l4) ?_ ?_ ⟨[],k,l,rfl,rfl,λc hc=>(by cases hc),rfl,hk,hl⟩⟩
   ·rintro d ds acc τ ⟨cs,k4,l4,rfl,hlen,hB,rfl,hk4,hl4⟩ N' hN';refine ⟨ns,k4,l4,m,rfl,hk4,hl4,by omega,by omega,λx k5 l5 _ x0 x1 hk5 hl5=>?_⟩;refine hN' _ _ ⟨cs++[x],k5,l5,by simp[Sl.d],by simp at hlen ⊢;omega,λc hc=>?_,rfl,hk5,hl5⟩;rcases E1.mp hc with z|z
    ·exact hB c z
    ·rw[Z0.mp z];exact ⟨x0,x1⟩
   ·rintro acc τ ⟨cs,k4,l4,rfl,hlen,hB,rfl,hk4,hl4⟩;exact q cs k4 l4 _ hB (by simp at hlen;omega) hk4 hl4
theorem vZ:∀a b:List Int,sameAll (a.map i0) (b.map i0)=decide (a=b)
 | [],[]=>rfl
 | [],_ :: _=>by simp[sameAll]
 | _ :: _,[]=>by simp[sameAll]
 | x :: a,y :: b=>by have ih:=vZ a b;simp only[T1,sameAll,same,ih];by_cases h1:x=y<;>by_cases h2:a=b<;>simp[h1,h2]
theorem PJ:∀a b:List Int,SeqAt.noMixAll (a.map i0) (b.map i0)=true
 | [],[]=>rfl
 | [],_ :: _=>by simp[SeqAt.noMixAll]
 | _ :: _,[]=>by simp[SeqAt.noMixAll]
 | x :: a,y :: b=>by simp[SeqAt.noMixAll,SeqAt.noMix,PJ a b]
theorem Jk{a b:List Int}(h:iQ a=iQ b):a=b:=by injection h with h;exact V6 (λ_ _ z=>by injection z) |>.mp h
theorem Kk(a b:List Int):same (iQ a) (iQ b)=decide (a=b):=vZ a b
theorem FD(a b:List Int):SeqAt.noMix (iQ a) (iQ b)=true:=PJ a b
noncomputable abbrev bU(x:Int×Int):PyData:=iQ [x.1,x.2]
theorem Lk(x y:Int×Int):same (bU x) (bU y)=decide (x=y):=by unfold bU;rw[Kk];exact decide_eq_decide.mpr (by simp[Prod.ext_iff])
noncomputable def SU(V:PQ->Int×Int)(b:PQ)(i:Nat):Int×Int:=(min (V (b.1,b.2.set i (b.2.getD i 0 - 1))).1 (V (b.1.set i (b.1.getD i 0+2 ^ (b.2.getD i 0 - 1).toNat),b.2.set i (b.2.getD i 0 - 1))).1,max (V (b.1,b.2.set i (b.2.getD i 0 - 1))).2 (V (b.1.set i (b.1.getD i 0+2 ^ (b.2.getD i 0 - 1).toNat),b.2.set i (b.2.getD i 0 - 1))).2)
theorem lJ{V:PQ->Int×Int}{b:PQ}{i:Nat}{a c:Int}(ha:b.1[i]?=some a)(hc:b.2[i]?=some c):SU V b i=(min (V (b.1,b.2.set i (c - 1))).1 (V (b.1.set i (a+2 ^ (c - 1).toNat),b.2.set i (c - 1))).1,max (V (b.1,b.2.set i (c - 1))).2 (V (b.1.set i (a+2 ^ (c - 1).toNat),b.2.set i (c - 1))).2):=by
 have e1:b.1.getD i 0=a:=by rw[Y0,ha];rfl
 have e2:b.2.getD i 0=c:=by rw[Y0,hc];rfl
 unfold SU;rw[e1,e2]
noncomputable def Uq(sd cl:List Int)(V:PQ->Int×Int)(b:PQ):Bool:=if aW b=[] then decide (V b=(cK sd cl b.1,cK sd cl b.1)) else ((aW b).map λi=>decide (V b=SU V b i.toNat)).all id
noncomputable abbrev cU(sd cl:List Int)(b:PQ):Int×Int:=(tV (nZ sd cl b.1 (nJ b.1 b.2)),uV (nZ sd cl b.1 (nJ b.1 b.2)))
theorem dW{sd:List Int}{b:PQ}(hb:Pc b.1 b.2 sd)(h:aW b=[]):cU sd cl b=(cK sd cl b.1,cK sd cl b.1):=by have e:=bL (sd:=sd) (cl:=cl) (bu hb h);unfold v2 at e;simp only[List.cons.injEq,and_true]at e;exact Prod.ext e.1 e.2
theorem UW{sd:List Int}{b:PQ}(h:Pc b.1 b.2 sd){i:Nat}{x k:Int}(e1:b.1[i]?=some x)(e2:b.2[i]?=some k)(hk:0 < k):cU sd cl b=SU (cU sd cl) b i:=by have e:=Yy (cl:=cl) h e1 e2 hk;rw[lJ e1 e2];unfold v2 at e;simp only[List.cons.injEq,and_true]at e;exact Prod.ext e.1 e.2
theorem GD:∀{l:List Int}{i:Nat}{c:Int},l[i]?=some c->0 < c->((l.set i (c - 1)).map u9).sum+1=(l.map u9).sum
 | [],_,_,h,_=>by simp at h
 | x :: l,0,c,h,hc=>by simp only[o5,Option.some.injEq]at h;subst h;simp only[e8,T1,v6];omega
 | x :: l,i+1,c,h,hc=>by simp only[U2]at h;have:=GD h hc;simp only[g8,T1,v6];omega
theorem VW{sd:List Int}{V:PQ->Int×Int}(h:∀b,Pc b.1 b.2 sd->Uq sd cl V b=true):∀(n:Nat) (b:PQ),Pc b.1 b.2 sd->(b.2.map u9).sum<=n->V b=cU sd cl b
 | n,b,hb,hn=>by
  have hr:=h b hb;unfold Uq at hr;by_cases z:aW b=[]
  ·rw[if_pos z]at hr;rw[of_decide_eq_true hr,dW hb z]
  ·rw[if_neg z]at hr;obtain⟨x,rest,e⟩:=j8 z;have hbl:=oZ hb;obtain⟨i,a,c,hx,hi,ha,hc,hac⟩:=bW (b:=b) (by omega) (x:=x) (by rw[e];exact v0);have h1:V b=SU V b i:=by
    rw[e,hx]at hr;simp only[T1,y8,J1,id]at hr;exact of_decide_eq_true hr.1
   obtain⟨l1,l2,_,_,_⟩:=eK hb ha hc hac;have hs:=GD hc hac;cases n with
   | zero=>omega
   | succ n=>have i1:=VW h n (b.1,b.2.set i (c - 1)) l1 (by show ((b.2.set i (c - 1)).map u9).sum<=n;omega);have i2:=VW h n (b.1.set i (a+2 ^ (c - 1).toNat),b.2.set i (c - 1)) l2 (by show ((b.2.set i (c - 1)).map u9).sum<=n;omega);rw[h1,UW (cl:=cl) hb ha hc hac,lJ ha hc,lJ ha hc,i1,i2]
theorem fL{sd:List Int}{V:PQ->Int×Int}(h:∀b,Pc b.1 b.2 sd->V b=cU sd cl b){b:PQ}(hb:Pc b.1 b.2 sd):Uq sd cl V b=true:=by
 unfold Uq;split
 ·rename_i z;rw[h b hb,dW hb z];exact decide_eq_true rfl
 ·rw[g7];refine Y2.mpr λx hx=>?_;have hbl:=oZ hb;obtain⟨i,a,c,rfl,hi,ha,hc,hac⟩:=bW (b:=b) (by omega) hx;obtain⟨l1,l2,_,_,_⟩:=eK hb ha hc hac;refine decide_eq_true ?_;show V b=SU V b (i:Int).toNat;rw[show (i:Int).toNat=i from rfl,h b hb,UW (cl:=cl) hb ha hc hac,lJ ha hc,lJ ha hc,h _ l1,h _ l2]
theorem DB:∀{lo hi sd:List Int},Bx lo hi sd->Wi lo sd
 | [],[],[],_=>trivial
 | a :: lo,b :: hi,s :: sd,h=>⟨⟨h.1.1,by have:=h.1;omega⟩,DB h.2⟩
 | [],[],_ :: _,h=>h.elim
 | [],_ :: _,z,h=>by cases z<;>exact h.elim
 | _ :: _,[],z,h=>by cases z<;>exact h.elim
 | _ :: _,_ :: _,[],h=>h.elim
structure CalsIr(P:Program)(w:World)(K:n0)(mg:Str->Option Value)(base:Heap):Prop where
 cell_at:Cal P w K mg base 2 "cell_at" ["field","place"] (pQ K BR)
 from_lesser:Cal P w K mg base 2 "from_lesser" ["told","piece","way"] (pQ K GR)
def LR:Con:=λargs Q=>∃(sd cl:List Int) (V:PQ->Int×Int) (b:PQ),args=[.fz (zK sd cl),.fz (iK (VH sd V)),.fz (FQ b)]/\Sd sd/\cl.length=(tX sd).length/\Pc b.1 b.2 sd/\∀o,Q (.fz (.bool (Uq sd cl V b))) o
noncomputable def ZR(V:PQ->Int×Int)(b:PQ)(d:PyData):PyData:=.bool (same (bU (V b)) (bU (SU V b (unI d).toNat)))
theorem QP:FnScope ["field","told","piece","ways","cell"] ["field","told","piece"] (mQ (top 20)):=⟨rfl,rfl,rfl,by decide +kernel,rfl,by decide +kernel,by decide +kernel⟩
theorem KN(F:Fun K "is_right" "is_right" (top 20) f fd)(T:Txt mg)(C:CalsIr P w K mg base):FnOk P w K mg base iZ 3 f fd ["field","told","piece"] (pQ K LR):=by
 have S:=QP;refine tK F S (λcdv A outer s H E hr=>(kQ (AU (i:=3) S.nd rfl rfl rfl (own:=["way"]) (fr:=[2]) (by kernel_rfl) (FJ T.range_ (eQ (wx (xQ jX (GQ (K:=K) rfl) T.len_ PySem.boot_len (eQ (wx (MQ rfl (wn 2) (wx gQ))) fQ))) fQ)) (λ_ _ _ _=>(qQ (i:=0) (by decide +kernel:O2 (["way","piece"]:List Str)) rfl (Or.inl rfl))) (λ_ _ _ _=>sR (AX LV yV (wx (MQ rfl (wx (MQ rfl (wn 1) (wx gQ))) (wn 0))) (wx gQ))) (λ_ _ _ _=>(wv 0)))
     (kQ (tZ (AX DJ (wZ (K:=K) rfl hr.units) (wx (xQ jX (GQ (K:=K) rfl) T.len_ PySem.boot_len (eQ (wn 3) fQ))) (wx gQ)) (kQ (BQ (i:=4) S.nd rfl (Or.inl rfl) (lX C.cell_at (hr.mono (by first|decide|omega)) (eQ (wn 0) (eQ (wx (MQ rfl (wn 2) (wx gQ))) fQ))))
     (rQ (RQ (OK DJ (wZ (K:=K) rfl hr.units) (wx (xK (mZ hr) (wn 1) (wn 2))) (wx (tQ (eQ (wx (wv 4)) (eQ (wx (wv 4)) fQ)))))))) xX)
     (rQ (RQ (xQ xW (OZ (K:=K) rfl rfl) T.all_ boot_all (eQ (wx (fX rfl (own:=["way"]) (fr:=[1,2]) (by kernel_rfl) (bX rfl (wv 3)) (λ_ _ _ _=>(qQ (i:=0) (by decide +kernel:O2 (["way","told","piece"]:List Str)) rfl (Or.inl rfl))) (λ_ _ _ _=>zW) (λ_ _ _ _=>(OK DJ (wZ (K:=K) rfl hr.units) (wx (xK (mZ hr) (wn 1) (wn 2))) (wx (lX C.from_lesser (hr.mono (by first|decide|omega)) (eQ (wn 1) (eQ (wn 2) (eQ (wn 0) fQ))))))))) fQ))))))) ?_ ?_
 ·rintro args Qd ⟨sd,cl,V,b,rfl,_⟩;rfl
 ·rintro args Qd ⟨sd,cl,V,b,rfl,hsd,hcl,hb,q⟩;refine ⟨yQ rfl,?_⟩;have h3:=hsd.l3;have hbl:=oZ hb;with_reducible refine NQ (λρ=>ρ=[ZA (zK sd cl),ZA (iK (VH sd V)),ZA (FQ b),YA (.list ((aW b).map i0)),none]) ?_ ?_
  ·intro N hN;have hm:(b.2.map i0).length=b.2.length:=j0 _;refine ⟨_,rfl,by rw[hm];omega,by rw[hm];omega,by rw[CQ,j0,E4,hm];exact zQ (by omega),?_⟩;refine KM (λd=>decide (0 < b.2.getD (unI d).toNat 0)) id ?_ ?_
   ·intro d hd N M hN hM;rw[CQ]at hd;obtain⟨k,hk,rfl⟩:=J0.mp hd;have hk:=u3.mp hk;rw[hm]at hk;have hk:k < b.2.length:=by omega
    have e0:(0+(k:Int))=(k:Int):=by omega
    rw[e0]at hN hM ⊢;have ek:(unI (.int (k:Int))).toNat=k:=by show (k:Int).toNat=k;omega
    simp only[ek]at hN hM;refine ⟨_,rfl,_,jJ hk,rZ (λh=>hN ?_) (λh=>hM (U5.mpr λz=>h ?_))⟩
    ·have h:=of_decide_eq_true h;exact decide_eq_true (by omega)
    ·have z:=of_decide_eq_true z;exact decide_eq_true (by omega)
   have e:((CQ 0 ((b.2.map i0).length:Int).toNat).filter λd=>decide (0 < b.2.getD (unI d).toNat 0)).map id=(aW b).map i0:=by
    unfold aW;rw[W6,CQ,hm,List.filter_map,show ((b.2.length:Int)).toNat=b.2.length by omega,P0];have e:(N1 b.2.length).filter ((λd=>decide (0 < b.2.getD (unI d).toNat 0)) ∘ λ(i:Nat)=>i0 (0+i))=(N1 b.2.length).filter λi=>decide (0 < b.2.getD i 0):=by refine List.filter_congr λk _=>?_;show decide (0 < b.2.getD (0+(k:Int)).toNat 0)=_;rw[show (0+(k:Int)).toNat=k by omega]
    rw[e];refine Y1 λk _=>?_;show i0 (0+(k:Int))=i0 (k:Int);rw[T8]
   rw[e];exact hN _ rfl
  rintro _ rfl;with_reducible refine NQ (λρ=>aW b≠[]/\ρ=[ZA (zK sd cl),ZA (iK (VH sd V)),ZA (FQ b),YA (.list ((aW b).map i0)),none]) ?_ ?_
  ·intro N hN;refine rZ (λh=>?_) (λh=>?_)
   ·have h:(((aW b).map i0).length:Int)=0:=of_decide_eq_true h;have hnil:aW b=[]:=by
     rw[j0]at h;exact X6.mp (by omega)
    have er:Uq sd cl V b=decide (V b=(cK sd cl b.1,cK sd cl b.1)):=by unfold Uq;rw[if_pos hnil]
    rw[er,<- Lk]at q;refine ⟨_,rfl,sd,cl,b.1,rfl,hsd,hcl,DB (FY hb),λo=>?_⟩;refine ⟨VH sd V,b,_,rfl,rfl,cW hb,?_⟩;have nt:=Nice.tup [cK sd cl b.1,cK sd cl b.1];have nu:=Nice.tup [(V b).1,(V b).2];refine ⟨nu.p,nt.p,nu.sh (by decide),nt.sh (by decide),FD [(V b).1,(V b).2] [cK sd cl b.1,cK sd cl b.1],?_⟩;exact q _
   ·refine hN _ ⟨λz=>h ?_,rfl⟩;rw[z];exact decide_eq_true rfl
  rintro _ ⟨hne,rfl⟩;have hll:(aW b).length<=100:=by unfold aW;rw[j0];have:=List.length_filter_le (λi=>decide (0 < b.2.getD i 0)) (N1 b.2.length);rw[E4]at this;omega
  refine ⟨zQ (by rw[j0];omega),qJ (ZR V b) ?_ ?_⟩
  ·intro d hd N hN;obtain⟨x,hx,rfl⟩:=J0.mp hd;obtain⟨i,a,c,rfl,hi,ha,hc,hac⟩:=bW (by omega) hx;refine ⟨VH sd V,b,_,rfl,rfl,cW hb,?_⟩;refine ⟨sd,V,b,i,a,c,rfl,hsd,hb,by omega,ha,hc,hac,λo=>?_⟩;have hN:N (.bool (same (bU (V b)) (bU (SU V b (i:Int).toNat)))) _:=hN;rw[show (i:Int).toNat=i from rfl,lJ ha hc]at hN;exact ⟨(Nice.tup _).p,(Nice.tup _).p,(Nice.tup _).sh (by decide),(Nice.tup _).sh (by decide),FD _ _,hN⟩
  ·have er:Uq sd cl V b=((aW b).map λi=>decide (V b=SU V b i.toNat)).all id:=by unfold Uq;rw[if_neg hne]
   rw[er]at q;refine ⟨_,?_,q _⟩;rw[P0,P0];refine Y1 λx _=>?_;show W2 (same _ _)=W2 _;rw[Lk];rfl
noncomputable abbrev HD(V:PQ->Int×Int)(b:PQ):PyData:=.tuple [iQ b.1,iQ b.2,.int (V b).1,.int (V b).2]
noncomputable def xY(sd:List Int)(b:PQ):PyData->Bool
 | .tuple [x,y,z,u]=>AK sd x&&(CK sd.length y&&(KU z&&(KU u&&same (.tuple [x,y]) (FQ b))))
 | _=>false
theorem Nk{sd:List Int}{b:PQ}{xs:List PyData}(h:xs.length≠4):xY sd b (.tuple xs)=false:=by rcases xs with _|⟨a,_|⟨c,_|⟨d,_|⟨e,_|⟨f,xs⟩⟩⟩⟩⟩<;>first|rfl|simp at h
theorem ID(a b c d:List Int):same (.tuple [iQ a,iQ b]) (.tuple [iQ c,iQ d])=(decide (a=c)&&decide (b=d)):=by show (sameAll (a.map i0) (c.map i0)&&(sameAll (b.map i0) (d.map i0)&&true))=_;rw[vZ,vZ,M7]
theorem Pk(a b c d:List Int):SeqAt.noMix (.tuple [iQ a,iQ b]) (.tuple [iQ c,iQ d])=true:=by simp[SeqAt.noMix,SeqAt.noMixAll,PJ]
theorem eW(b:PQ):Nice 2 (FQ b):=.tuple λd hd=>by
 have hd:d=iQ b.1\/d=iQ b.2:=by simpa using hd
 rcases hd with rfl|rfl
 ·exact Nice.tup _
 ·exact Nice.tup _
theorem gu{sd:List Int}{b:PQ}(h:Pc b.1 b.2 sd):AK sd (iQ b.1)=true:=by obtain⟨h1,h2,h3⟩:=zB (FY h);show (decide ((b.1.map i0).length=sd.length)&&vD (b.1.map i0) sd)=true;rw[j0,h1,M7];exact decide_eq_true (oZ h).1
theorem Qk(l:List Int):CK l.length (iQ l)=true:=by show (decide ((l.map i0).length=l.length)&&(l.map i0).all KU)=true;rw[j0,decide_eq_true rfl,Bool.true_and,g7];exact Y2.mpr λx _=>rfl
theorem dU{d:PyData}(h:CK n d=true):∃ns:List Int,d=iQ ns:=by
 cases d<;>simp only[CK,J1]at h<;>first|(cases h;done)|skip
 obtain⟨ns,e⟩:=ints_of h.2;exact ⟨ns,by rw[e]⟩
theorem JD{d:PyData}(h:KU d=true):∃i:Int,d=.int i:=by cases d<;>first|exact ⟨_,rfl⟩|cases h
theorem iu{sd:List Int}{b:PQ}{d:PyData}(h:xY sd b d=true):∃x:Int×Int,d=.tuple [iQ b.1,iQ b.2,.int x.1,.int x.2]:=by
 cases d with
 | tuple xs =>
  rcases xs with _|⟨x,_|⟨y,_|⟨z,_|⟨u,_|⟨f,xs⟩⟩⟩⟩⟩<;>first|(cases h;done)|skip
  simp only[xY,J1]at h;obtain⟨h1,h2,h3,h4,h5⟩:=h;obtain⟨p,rfl,_⟩:=XV h1;obtain⟨w,rfl⟩:=dU h2;obtain⟨i,rfl⟩:=JD h3;obtain⟨j,rfl⟩:=JD h4;have h5:same (.tuple [iQ p,iQ w]) (.tuple [iQ b.1,iQ b.2])=true:=h5;rw[ID,J1]at h5;exact ⟨(i,j),by rw[of_decide_eq_true h5.1,of_decide_eq_true h5.2]⟩
 | _=>cases h
theorem Rk{sd:List Int}{b:PQ}(hb:Pc b.1 b.2 sd)(x:Int×Int):xY sd b (.tuple [iQ b.1,iQ b.2,.int x.1,.int x.2])=true:=by have e:=Qk b.2;rw[(oZ hb).2]at e;have e2:same (.tuple [iQ b.1,iQ b.2]) (FQ b)=true:=same_self _;show (AK sd (iQ b.1)&&(CK sd.length (iQ b.2)&&(true&&(true&&same (.tuple [iQ b.1,iQ b.2]) (FQ b)))))=true;rw[gu hb,e,e2];rfl
noncomputable def WU:PyData->PQ
 | .tuple [.tuple p,.tuple w]=>(p.map unI,w.map unI)
 | _=>([],[])
theorem QJ(b:PQ):WU (FQ b)=b:=by show ((b.1.map i0).map unI,(b.2.map i0).map unI)=b;rw[xD,xD]
theorem EB:∀{ls:List PQ}{ds:List PyData}{sd:List Int},ls.Nodup->ds.length=ls.length->(∀p∈ls.zip ds,xY sd p.1 p.2=true)->∃V:PQ->Int×Int,ds=ls.map (HD V)
 | [],[],_,_,_,_=>⟨λ_=>(0,0),rfl⟩
 | [],_ :: _,_,_,h,_=>by simp at h
 | _ :: _,[],_,_,h,_=>by simp at h
 | b :: ls,d :: ds,sd,hn,hl,h=>by
  have h0:xY sd b d=true:=h (b,d) (by rw[i4];exact v0);obtain⟨x,rfl⟩:=iu h0;have hn:=o6.mp hn;obtain⟨V,e⟩:=EB (ls:=ls) (ds:=ds) hn.2 (by simpa using hl) λp hp=>h p (by rw[i4];exact q0 _ hp);refine ⟨λc=>if c=b then x else V c,?_⟩;rw[T1];congr 1
  ·unfold HD;dsimp only;rw[if_pos rfl]
  ·rw[e];refine Y1 λc hc=>?_;unfold HD;dsimp only;rw[if_neg (λz:c=b=>hn.1 (z ▸ hc))]
structure CalsIe(P:Program)(w:World)(K:n0)(mg:Str->Option Value)(base:Heap):Prop where
 is_place:Cal P w K mg base 3 "is_place" ["sides","thing"] (pQ K NH)
 are_wholes:Cal P w K mg base 2 "are_wholes" ["thing","many"] (pQ K Zx)
 is_whole:Cal P w K mg base 1 "is_whole" ["thing"] (pQ K kF)
def MR:Con:=λargs Q=>∃(sd:List Int) (b:PQ) (d:PyData),args=[.fz (iQ sd),.fz (FQ b),.fz d]/\WV d=true/\Sd sd/\∀o,Q (.fz (.bool (xY sd b d))) o
theorem RP:FnScope ["sides","piece","thing"] ["sides","piece","thing"] (mQ (top 19)):=⟨rfl,rfl,rfl,by decide +kernel,rfl,by decide +kernel,by decide +kernel⟩
theorem LN(F:Fun K "is_entry" "is_entry" (top 19) f fd)(T:Txt mg)(C:CalsIe P w K mg base):FnOk P w K mg base iZ 4 f fd ["sides","piece","thing"] (pQ K MR):=by
 have S:=RP;refine tK F S (λcdv A outer s H E hr=>(kQ (tZ (vL (GG (PK (nK (rY .tup rfl T.isinstance_ T.tuple_ boot_tuple (wn 2)))) (GG (AX PF (zU (K:=K) rfl hr.units) (wx (xQ jX (GQ (K:=K) rfl) T.len_ PySem.boot_len (eQ (wn 2) fQ))) (wx gQ)) (uH (PK (nK (lX C.is_place (hr.mono (by first|decide|omega)) (eQ (wn 0) (eQ (wx (MQ rfl (wn 2) (wx gQ))) fQ))))))))) (rQ (RQ sK)) xX)
     (kQ (tZ (vL (GG (PK (nK (lX C.are_wholes (hr.mono (by first|decide|omega)) (eQ (wx (MQ rfl (wn 2) (wx gQ))) (eQ (wx (xQ jX (GQ (K:=K) rfl) T.len_ PySem.boot_len (eQ (wn 0) fQ))) fQ))))) (GG (PK (nK (lX C.is_whole (hr.mono (by first|decide|omega)) (eQ (wx (MQ rfl (wn 2) (wx gQ))) fQ)))) (uH (PK (nK (lX C.is_whole (hr.mono (by first|decide|omega)) (eQ (wx (MQ rfl (wn 2) (wx gQ))) fQ)))))))) (rQ (RQ sK)) xX)
     (rQ (RQ (OK DJ (wZ (K:=K) rfl hr.units) (wx (tQ (eQ (wx (MQ rfl (wn 2) (wx gQ))) (eQ (wx (MQ rfl (wn 2) (wx gQ))) fQ)))) (wn 1))))))) ?_ ?_
 ·rintro args Qd ⟨sd,b,d,rfl,_⟩;rfl
 ·rintro args Qd ⟨sd,b,d,rfl,hd,hsd,q⟩;refine ⟨yQ rfl,?_⟩;have h3:=hsd.l3;cases d with
  | dict es=>exact ⟨hd,q _⟩
  | int i=>exact q _
  | bool b=>exact q _
  | none=>exact q _
  | str x=>exact q _
  | list xs=>exact q _
  | tuple xs =>
   refine rZ (λh=>?_) (λh=>?_)
   ·have h:(!decide ((xs.length:Int)=4))=true:=h;rw[Nk (λz=>by rw[z]at h;cases h)]at q;exact q _
   have hl:xs.length=4:=by have h:¬(!decide ((xs.length:Int)=4))=true:=h;simp at h;omega
   obtain⟨x,y,z,u,rfl⟩:∃x y z u,xs=[x,y,z,u]:=by rcases xs with _|⟨a,_|⟨c,_|⟨d,_|⟨e,_|⟨f,xs⟩⟩⟩⟩⟩<;>first|exact ⟨_,_,_,_,rfl⟩|simp at hl
   have hd:okAll [x,y,z,u]=true:=hd;have hx:=bZ hd x (by simp);have hy:=bZ hd y (by simp);have hz:=bZ hd z (by simp);have hu:=bZ hd u (by simp);have q:∀o,Qd (.fz (.bool (AK sd x&&(CK sd.length y&&(KU z&&(KU u&&same (.tuple [x,y]) (FQ b))))))) o:=q;refine ⟨_,rfl,sd,x,rfl,hx,by omega,λo=>?_⟩;cases e1:AK sd x with
   | false=>rw[e1]at q;exact q _
   | true =>
    rw[e1]at q;refine ⟨_,rfl,y,sd.length,by show [Sl.fz y,Sl.fz (.int ((sd.map i0).length:Nat))]=_;rw[j0],hy,by omega,λo=>?_⟩;cases e2:CK sd.length y with
    | false=>rw[e2]at q;exact q _
    | true =>
     rw[e2]at q;refine ⟨_,rfl,z,rfl,hz,λo=>?_⟩;cases e3:KU z with
     | false=>rw[e3]at q;exact q _
     | true =>
      rw[e3]at q;refine ⟨_,rfl,u,rfl,hu,λo=>?_⟩;cases e4:KU u with
      | false=>rw[e4]at q;exact q _
      | true=>rw[e4]at q;obtain⟨p,rfl,_⟩:=XV e1;obtain⟨v,rfl⟩:=dU e2;have n1:=eW (p,v);have n2:=eW b;exact ⟨_,rfl,_,rfl,n1.p,n2.p,n1.sh (by decide),n2.sh (by decide),Pk _ _ _ _,q _⟩
structure CalsHp(P:Program)(w:World)(K:n0)(mg:Str->Option Value)(base:Heap):Prop where
 all_pieces:Cal P w K mg base 4 "all_pieces" ["sides"] (pQ K zR)
 is_entry:Cal P w K mg base 4 "is_entry" ["sides","piece","thing"] (pQ K MR)
 is_right:Cal P w K mg base 3 "is_right" ["field","told","piece"] (pQ K LR)
def NR:Con:=λargs Q=>∃(sd cl:List Int) (d:PyData),args=[.fz (zK sd cl),.fz d]/\WV d=true/\Sd sd/\cl.length=(tX sd).length/\∀(t:Bool) (o:Ev),(t=true ↔ d=.list ((XQ sd).map (DK sd cl)))->Q (.fz (.bool t)) o
noncomputable def aS:PyData->PyData
 | .tuple [a,b,c,d]=>.tuple [.tuple [a,b],.tuple [c,d]]
 | _=>.none
noncomputable def OR(sd:List Int):PyData->PyData
 | .tuple [x,y]=>.bool (xY sd (WU x) y)
 | _=>.none
theorem UP:FnScope ["field","thing","pieces","told"] ["field","thing"] (mQ (top 18)):=⟨rfl,rfl,rfl,by decide +kernel,rfl,by decide +kernel,by decide +kernel⟩
theorem MN(F:Fun K "holds_powers" "holds_powers" (top 18) f fd)(T:Txt mg)(C:CalsHp P w K mg base):FnOk P w K mg base iZ 5 f fd ["field","thing"] (pQ K NR):=by
 have S:=UP;refine tK F S (λcdv A outer s H E hr=>(kQ (BQ (i:=2) S.nd rfl (Or.inl rfl) (lX C.all_pieces (hr.mono (by first|decide|omega)) (eQ (wx (MQ rfl (wn 0) (wx gQ))) fQ)))
     (kQ (tZ (vL (GG (PK (nK (rY .lst rfl T.isinstance_ T.list_ boot_list (wn 1)))) (uH (AX PF (zU (K:=K) rfl hr.units) (wx (xQ jX (GQ (K:=K) rfl) T.len_ PySem.boot_len (eQ (wn 1) fQ))) (wx (xQ jX (GQ (K:=K) rfl) T.len_ PySem.boot_len (eQ (wn 2) fQ))))))) (rQ (RQ sK)) xX)
     (kQ (tZ (PK (nK (xQ xW (OZ (K:=K) rfl rfl) T.all_ boot_all (eQ (wx (fX rfl (own:=["piece","entry"]) (fr:=[0]) (by kernel_rfl) (qY rfl T.zip_ (eQ (wx (wv 2)) (eQ (wx (wv 1)) fQ))) (λ_ _ _ _=>(EJ rfl rfl (LQ (qQ (i:=0) (by decide +kernel:O2 (["piece","entry","field"]:List Str)) rfl (Or.inl rfl)) (LQ (qQ (i:=1) (by decide +kernel:O2 (["piece","entry","field"]:List Str)) rfl (Or.inl rfl)) yZ)))) (λ_ _ _ _=>zW) (λ_ _ _ _=>(lX C.is_entry (hr.mono (by first|decide|omega)) (eQ (wx (MQ rfl (wn 2) (wx gQ))) (eQ (wn 0) (eQ (wn 1) fQ))))))) fQ)))) (rQ (RQ sK)) xX)
     (kQ (BQ (i:=3) S.nd rfl (Or.inr rfl) (Ix rfl rfl (mZ hr) T.dict_ (by decide +kernel) (eQ (wx (fX rfl (own:=["entry"]) (fr:=[]) (by kernel_rfl) (bX rfl (wv 1)) (λ_ _ _ _=>(qQ (i:=0) (by decide +kernel:O2 (["entry"]:List Str)) rfl (Or.inl rfl))) (λ_ _ _ _=>zW) (λ_ _ _ _=>(tQ (eQ (wx (tQ (eQ (wx (MQ rfl (wn 0) (wx gQ))) (eQ (wx (MQ rfl (wn 0) (wx gQ))) fQ)))) (eQ (wx (tQ (eQ (wx (MQ rfl (wn 0) (wx gQ))) (eQ (wx (MQ rfl (wn 0) (wx gQ))) fQ)))) fQ)))))) fQ)))
     (rQ (RQ (xQ xW (OZ (K:=K) rfl rfl) T.all_ boot_all (eQ (wx (fX rfl (own:=["piece"]) (fr:=[0,3]) (by kernel_rfl) (bX rfl (wv 2)) (λ_ _ _ _=>(qQ (i:=0) (by decide +kernel:O2 (["piece","field","told"]:List Str)) rfl (Or.inl rfl))) (λ_ _ _ _=>zW) (λ_ _ _ _=>(lX C.is_right (hr.mono (by first|decide|omega)) (eQ (wn 1) (eQ (wn 2) (eQ (wn 0) fQ))))))) fQ))))))))) ?_ ?_
 ·rintro args Qd ⟨sd,cl,d,rfl,_⟩;rfl
 ·rintro args Qd ⟨sd,cl,d,rfl,hd,hsd,hcl,q⟩;refine ⟨yQ rfl,?_⟩;have hl:=OU hsd;with_reducible refine NQ (λρ=>ρ=[ZA (zK sd cl),ZA d,YA (.list ((XQ sd).map FQ)),none]) ?_ ?_
  ·intro N hN;exact ⟨_,rfl,sd,rfl,hsd,λo=>hN _ rfl⟩
  rintro _ rfl;with_reducible refine NQ (λρ=>∃ds,d=.list ds/\ds.length=(XQ sd).length/\ρ=[ZA (zK sd cl),ZA (.list ds),YA (.list ((XQ sd).map FQ)),none]) ?_ ?_
  ·intro N hN;have no:(∀ds,d≠.list ds)->(false=true ↔ d=.list ((XQ sd).map (DK sd cl))):=λh=>⟨λz=>(by cases z),λz=>(h _ z).elim⟩;cases d with
   | dict es=>exact ⟨hd,q false _ (no λ_ z=>by cases z)⟩
   | int i=>exact q false _ (no λ_ z=>by cases z)
   | bool b=>exact q false _ (no λ_ z=>by cases z)
   | none=>exact q false _ (no λ_ z=>by cases z)
   | str x=>exact q false _ (no λ_ z=>by cases z)
   | tuple xs=>exact q false _ (no λ_ z=>by cases z)
   | list ds =>
    refine rZ (λh=>?_) (λh=>?_)
    ·have h:(!decide ((ds.length:Int)=(((XQ sd).map FQ).length:Int)))=true:=h;refine q false _ ⟨λz=>(by cases z),λz=>?_⟩;injection z with z;rw[z,j0,j0]at h;simp at h
    ·refine hN _ ⟨ds,rfl,?_,rfl⟩;have h:¬(!decide ((ds.length:Int)=(((XQ sd).map FQ).length:Int)))=true:=h;rw[j0]at h;simp at h;omega
  rintro _ ⟨ds,rfl,hds,rfl⟩;with_reducible refine NQ (λρ=>∃V,ds=(XQ sd).map (HD V)/\ρ=[ZA (zK sd cl),ZA (.list ds),ZA (.list ((XQ sd).map FQ)),none]) ?_ ?_
  ·intro N hN;have hz:oY ((XQ sd).map FQ) ds=((XQ sd).zip ds).map λp=>B1 [FQ p.1,p.2]:=by
    unfold oY;rw[List.zip_map_left,P0];rfl
   refine ⟨by rw[hz,j0,G4];exact BZ (by omega),?_⟩;rw[hz];refine qJ (OR sd) ?_ ?_
   ·intro d' hd' N' hN';obtain⟨⟨b,e⟩,hb,rfl⟩:=J0.mp hd';have hb:=m4 hb;have hN':N' (.bool (xY sd (WU (FQ b)) e)) _:=hN';rw[QJ]at hN';exact ⟨rfl,_,rfl,sd,b,e,rfl,bZ hd e hb.2,hsd,λo=>hN'⟩
   ·have em:(((XQ sd).zip ds).map λp=>B1 [FQ p.1,p.2]).map (OR sd)=(((XQ sd).zip ds).map λp=>xY sd p.1 p.2).map W2:=by
     rw[P0,P0];refine Y1 λp _=>?_;show W2 (xY sd (WU (FQ p.1)) p.2)=_;rw[QJ];rfl
    refine ⟨_,em,?_⟩;cases ea:(((XQ sd).zip ds).map λp=>xY sd p.1 p.2).all id with
    | false =>
     refine q false _ ⟨λz=>(by cases z),λz=>?_⟩;injection z with z;exfalso;rw[z]at ea;have:(((XQ sd).zip ((XQ sd).map (DK sd cl))).map λp=>xY sd p.1 p.2).all id=true:=by
      rw[g7];refine Y2.mpr λp hp=>?_;rw[List.zip_map_right]at hp;obtain⟨⟨b,c⟩,hb,rfl⟩:=J0.mp hp;have hbc:b=c:=by
       have:∀{l:List PQ},(b,c)∈l.zip l->b=c:=by
        intro l;induction l with
        | nil=>intro h;simp at h
        | cons x l ih =>
         intro h;rw[i4]at h;rcases W0.mp h with z|z
         ·injection z with z1 z2;rw[z1,z2]
         ·exact ih z
       exact this hb
      subst hbc;exact Rk (pcs_mem.mp (m4 hb).1) (cU sd cl b)
     rw[this]at ea;cases ea
    | true =>
     obtain⟨V,e⟩:=EB (fK sd) hds λp hp=>by rw[g7]at ea;exact Y2.mp ea p hp
     exact hN _ ⟨V,e,rfl⟩
  rintro _ ⟨V,rfl,rfl⟩;with_reducible refine NQ (λρ=>ρ=[ZA (zK sd cl),ZA (.list ((XQ sd).map (HD V))),ZA (.list ((XQ sd).map FQ)),ZA (iK (VH sd V))]) ?_ ?_
  ·intro N hN;refine ⟨BZ (by rw[j0];omega),qJ aS ?_ ?_⟩
   ·intro d hd N' hN';obtain⟨b,hb,rfl⟩:=J0.mp hd;exact ⟨_,rfl,_,rfl,_,rfl,_,rfl,hN'⟩
   refine ⟨VH sd V,?_,?_,hN _ rfl⟩
   ·unfold VH;rw[P0,P0];rfl
   ·unfold VH;rw[P0];have e:((λx:PQ×PyData=>x.1) ∘ λb:PQ=>(b,iQ [(V b).1,(V b).2]))=id:=rfl;rw[e,W6];exact fK sd
  rintro _ rfl;refine ⟨BZ (by rw[j0];omega),qJ (λd=>.bool (Uq sd cl V (WU d))) ?_ ?_⟩
  ·intro d hd N' hN';obtain⟨b,hb,rfl⟩:=J0.mp hd;have hN':N' (.bool (Uq sd cl V (WU (FQ b)))) _:=hN';rw[QJ]at hN';exact ⟨sd,cl,V,b,rfl,hsd,hcl,pcs_mem.mp hb,λo=>hN'⟩
  ·refine ⟨(XQ sd).map (Uq sd cl V),?_,q _ _ ⟨λh=>?_,λh=>?_⟩⟩
   ·rw[P0,P0];refine Y1 λb _=>?_;show W2 (Uq sd cl V (WU (FQ b)))=_;rw[QJ];rfl
   ·rw[g7]at h;have h:=Y2.mp h;congr 1;refine Y1 λb hb=>?_;have e:=VW (λb hb=>h b (pcs_mem.mpr hb)) _ b (pcs_mem.mp hb) (u0 _);unfold HD;rw[e]
   ·injection h with h;rw[g7];refine Y2.mpr λb hb=>?_;refine fL (λc hc=>?_) (pcs_mem.mp hb);have:=w8.mp h c (pcs_mem.mpr hc);injection this with this;simp only[List.cons.injEq,PyData.int.injEq,true_and,and_true]at this;exact Prod.ext this.1 this.2
def Bd(y:Int×Int):Prop:=y.1.natAbs<=10 ^ 27/\y.2.natAbs<=10 ^ 27
noncomputable def tbl(V:PQ->Int×Int)(bs:List PQ):List (PQ×PyData):=bs.map λb=>(b,bU (V b))
theorem TU{V:PQ->Int×Int}{bs:List PQ}{b:PQ}(h:b∈bs):(b,bU (V b))∈tbl V bs:=J0.mpr ⟨b,h,rfl⟩
theorem ju{V:PQ->Int×Int}{bs:List PQ}{b:PQ}(h:b∉bs)(y:Int×Int):LW (tbl V bs) b (bU y)=tbl (λc=>if c=b then y else V c) (bs++[b]):=by
 have e:(tbl V bs).map (·.1)=bs:=by unfold tbl;rw[P0];exact W6 bs
 unfold LW;rw[e,if_neg h];unfold tbl;rw[v5];congr 1
 ·refine Y1 λc hc=>?_;dsimp only;rw[if_neg λz:c=b=>h (z ▸ hc)]
 ·show [(b,bU y)]=[(b,bU (if b=b then y else V b))];rw[if_pos rfl]
noncomputable abbrev NN:=Option (PQ×(Int×Int))
noncomputable def FB:NN->PyData
 | none=>.none
 | some z=>FQ z.1
noncomputable def zL:NN->PyData
 | none=>.none
 | some z=>bU z.2
def ON(sd cl:List Int)(a:NN)(b:PQ)(y:Int×Int):Prop:=Bd y/\(a=none->y=cU sd cl b)/\∀x,a=some (b,x)->y=x
theorem gL{a b:Int}(h:a.natAbs<=n)(k:b.natAbs<=n):(min a b).natAbs<=n:=by rw[Int.min_def];split<;>assumption
theorem iL{a b:Int}(h:a.natAbs<=n)(k:b.natAbs<=n):(max a b).natAbs<=n:=by rw[Int.max_def];split<;>assumption
theorem Vq{sd:List Int}{ps:List (Int×PyData)}(h:ps.Perm (((XQ sd).map λb=>b.2.sum).zip ((XQ sd).map FQ)))(hp:ps.Pairwise λp q=>p.1<=q.1):∃bs:List PQ,bs.Perm (XQ sd)/\ps.map (·.2)=bs.map FQ/\bs.Pairwise λb c=>b.2.sum<=c.2.sum:=by
 have e:((XQ sd).map λb=>b.2.sum).zip ((XQ sd).map FQ)=(XQ sd).map λb=>(b.2.sum,FQ b):=by rw[List.zip_map']
 rw[e]at h;have h2:∀p∈ps,p=((WU p.2).2.sum,FQ (WU p.2)):=λp hp=>by obtain⟨b,_,rfl⟩:=J0.mp (h.mem_iff.mp hp);show (b.2.sum,FQ b)=((WU (FQ b)).2.sum,FQ (WU (FQ b)));rw[QJ]
 refine ⟨ps.map λp=>WU p.2,?_,?_,?_⟩
 ·have:=h.map λp=>WU p.2;rw[P0]at this;have e2:(XQ sd).map ((λp:Int×PyData=>WU p.2) ∘ λb:PQ=>(b.2.sum,FQ b))=XQ sd:=by
   have:((λp:Int×PyData=>WU p.2) ∘ λb:PQ=>(b.2.sum,FQ b))=id:=by funext b;exact QJ b
   rw[this,W6]
  rw[e2]at this;exact this
 ·rw[P0];refine Y1 λp hp=>?_;exact congrArg Prod.snd (h2 p hp)
 ·rw[O3];refine hp.imp_of_mem λ{p q} hp hq hl=>?_;have e1:=congrArg Prod.fst (h2 p hp);have e2:=congrArg Prod.fst (h2 q hq);dsimp only at e1 e2;rw[<- e1,<- e2];exact hl
theorem WH:∀{l:List Int}{i:Nat}{c:Int},l[i]?=some c->(l.set i (c - 1)).sum+1=l.sum
 | [],_,_,h=>by simp at h
 | x :: l,0,c,h=>by simp only[o5,Option.some.injEq]at h;subst h;simp only[e8,v6];omega
 | x :: l,i+1,c,h=>by simp only[U2]at h;have:=WH h;simp only[g8,v6];omega
theorem PN:∀{l:List Int},(∀x∈l,0<=x)->l.sum=0->∀x∈l,x=0
 | [],_,_,x,h=>by cases h
 | y :: l,hn,hs,x,h=>by
  have h0:0<=l.sum:=by
   have:∀{l:List Int},(∀x∈l,0<=x)->0<=l.sum:=by
    intro l;induction l with
    | nil=>intro _;exact g6 _
    | cons z l ih=>intro h;have h1:=h z v0;have h2:=ih λx hx=>h x (q0 _ hx);rw[v6];omega
   exact this λx hx=>hn x (q0 _ hx)
  have hy:=hn y v0;rw[v6]at hs;rcases W0.mp h with z|z
  ·rw[z];omega
  ·exact PN (λx hx=>hn x (q0 _ hx)) (by omega) x z
theorem XH{b:PQ}(h:∀x∈b.2,x=0):aW b=[]:=by unfold aW;rw[M6,A7];intro i hi;have hi:=u3.mp hi;rw[Y0,A0 hi];have:=h _ (J4 hi);simp[this]
theorem ku{sd:List Int}{b:PQ}(hb:Pc b.1 b.2 sd)(h:b.2.sum=0):aW b=[]:=XH (PN (UH hb) h)
theorem lu{sd:List Int}{b:PQ}(hb:Pc b.1 b.2 sd)(h:aW b=[]):b.2.sum=0:=by
 have h1:=A7.mp (M6.mp h);have h2:∀k∈b.2,k=0:=λk hk=>by obtain⟨i,hi,e⟩:=E6.mp hk;have h4:=h1 i (u3.mpr hi);rw[Y0,A0 hi]at h4;simp at h4;have:=UH hb k hk;omega
 have:∀{l:List Int},(∀k∈l,k=0)->l.sum=0:=by
  intro l;induction l with
  | nil=>intro _;rfl
  | cons z l ih=>intro h;rw[v6,ih λx hx=>h x (q0 _ hx),h z v0];rfl
 exact this h2
theorem QN(a:NN)(b:PQ):Nice 2 (FB a)/\SeqAt.noMix (.tuple [iQ b.1,iQ b.2]) (FB a)=true/\(same (.tuple [iQ b.1,iQ b.2]) (FB a)=true ↔ ∃x,a=some (b,x)):=by
 cases a with
 | none=>exact ⟨Nice.none 2,rfl,λz=>(by cases z),λ⟨x,z⟩=>by cases z⟩
 | some z =>
  refine ⟨eW z.1,Pk _ _ _ _,?_⟩;show same (.tuple [iQ b.1,iQ b.2]) (.tuple [iQ z.1.1,iQ z.1.2])=true ↔ _;rw[ID,J1,decide_eq_true_eq,decide_eq_true_eq];refine ⟨λh=>⟨z.2,?_⟩,λ⟨x,h⟩=>?_⟩
  ·rw[show b=z.1 from Prod.ext h.1 h.2]
  ·injection h with h;rw[h];exact ⟨rfl,rfl⟩
theorem YH{sd:List Int}{bs done rs:List PQ}{b l:PQ}(hp:bs.Perm (XQ sd))(e:bs=done++b :: rs)(hs:bs.Pairwise λb c=>b.2.sum<=c.2.sum)(hl:Pc l.1 l.2 sd)(h:l.2.sum < b.2.sum):l∈done:=by
 have h1:l∈bs:=hp.mem_iff.mpr (pcs_mem.mpr hl);rw[e]at h1 hs;rcases E1.mp h1 with z|z
 ·exact z
 ·have h2:=(V5.mp hs).2.1;have h3:=i6.mp h2;rcases W0.mp z with y|y
  ·rw[y]at h;omega
  ·have:=h3.1 l y;omega
theorem Sk{sd p:List Int}(hp:∀c∈sd,1<=c)(hl:cl.length=(tX sd).length)(h:p∈tX sd):(p,i0 (cK sd cl p))∈DX sd cl:=by unfold DX;rw[LU hp hl,P0];exact J0.mpr ⟨p,h,rfl⟩
theorem KD{sd p:List Int}(hp:∀c∈sd,1<=c)(hl:cl.length=(tX sd).length)(h:p∈tX sd):cK sd cl p∈cl:=by
 have h1:(p,cK sd cl p)∈(tX sd).zip cl:=by rw[LU hp hl];exact J0.mpr ⟨p,h,rfl⟩
 exact (m4 h1).2
theorem sF{sd:List Int}{b:PQ}(h:Pc b.1 b.2 sd):b.1∈tX sd:=by have:=pcs_mem.mpr h;unfold XQ at this;obtain⟨p,hp,hb⟩:=K4.mp this;obtain⟨w,_,e⟩:=J0.mp hb;rw[<- e];exact hp
theorem Tk{sd:List Int}(hsd:Sd sd){b:PQ}(hb:Pc b.1 b.2 sd){i:Nat}{a c:Int}(ha:b.1[i]?=some a)(hc:b.2[i]?=some c):c<=120:=by
 have hm:=hsd.m;obtain⟨g1,s,hs,g2⟩:=qF hb (a,c) (by
   have:(b.1.zip b.2)[i]?=some (a,c):=by rw[N5];exact ⟨ha,hc⟩
   exact Q1 this);have hs2:=fZ hsd.p s hs;have hk:=Gk g2;simp only at g1 hk;omega
structure CalsMd(P:Program)(w:World)(K:n0)(mg:Str->Option Value)(base:Heap):Prop where
 law_pieces:Cal P w K mg base 2 "_law_pieces" ["_law_sides"] (pQ K EN)
 law_together:Cal P w K mg base 1 "_law_together" ["_law_table","_law_place","_law_powers"] (pQ K JR)
def GB:Con:=λargs Q=>∃(sd cl:List Int) (a:NN),args=[.fz (iQ sd),.fz (qU (DX sd cl)),.fz (FB a),.fz (zL a)]/\Sd sd/\cl.length=(tX sd).length/\(∀c∈cl,YV c)/\(∀z,a=some z->Bd z.2) /\
 ∀(V:PQ->Int×Int) (o:Ev),(∀b∈XQ sd,ON sd cl a b (V b))->Q (.ow (.list ((XQ sd).map (HD V)))) o
theorem jL:FnScope ["_law_sides","_law_known","_law_at","_law_bent","_law_table","_law_place","_law_powers"] ["_law_sides","_law_known","_law_at","_law_bent"] (mQ (top 31)):=⟨rfl,rfl,rfl,by decide +kernel,rfl,by decide +kernel,by decide +kernel⟩
theorem ou(F:Fun K "_law_made" "_law_made" (top 31) f fd)(T:Txt mg)(C:CalsMd P w K mg base)(M:Lm K "_law_made" fd):FnOk P w K mg base iZ 12 f fd ["_law_sides","_law_known","_law_at","_law_bent"] (pQ K GB):=by
 have S:=jL;obtain⟨c,P,hcd,hC,hP,hPx⟩:=M.ex;refine zP F hcd S (λA outer s H E hr=>(kQ (BQ (i:=4) S.nd rfl (Or.inr rfl) Ly)
     (kQ (JX [5,6] PassesOwn.never rfl (bX rfl (ny (k:=0) (x:="_law_made") (y:="_law_piece") rfl (hr.mono (by first|decide|omega)) T.sorted_ (lX C.law_pieces (hr.mono (by first|decide|omega)) (eQ (wn 0) fQ)) rfl (show (Str.ofString "_law_made"++Str.ofString ".<locals>.")++Str.ofString "<lambda>"=Str.ofString "_law_made"++Str.ofString ".<locals>.<lambda>" from by decide +kernel) hC hP hPx ⟨rfl,rfl,rfl,by decide +kernel,rfl,by decide +kernel,by decide +kernel⟩ (λf cdv A outer s H hr=>(xQ Ej (MV (K:=K) rfl rfl) T.sum_ boot_sum (eQ (wx (MQ rfl (wn 0) (wx gQ))) fQ))))) (EJ rfl rfl (LQ (qQ (i:=5) S.nd rfl (Or.inl rfl)) (LQ (qQ (i:=6) S.nd rfl (Or.inl rfl)) yZ))) (rQ (tZ (AX DJ (wZ (K:=K) rfl hr.units) (wx (tQ (eQ (wx (wv 5)) (eQ (wx (wv 6)) fQ)))) (wn 2)) (rQ (fF (mZ hr) (wn 4) (wx (tQ (eQ (wx (wv 5)) (eQ (wx (wv 6)) fQ)))) (wv 3))) (rQ (tZ (AX DJ (wZ (K:=K) rfl hr.units) (wx (xQ Ej (MV (K:=K) rfl rfl) T.sum_ boot_sum (eQ (wn 6) fQ))) (wx gQ)) (rQ (fF (mZ hr) (wn 4) (wx (tQ (eQ (wx (wv 5)) (eQ (wx (wv 6)) fQ)))) (w_bin WY VY (wx (tQ (eQ (wx (II (mZ hr) (wn 1) (wn 5))) fQ))) (wx gQ)))) (rQ (fF (mZ hr) (wn 4) (wx (tQ (eQ (wx (wv 5)) (eQ (wx (wv 6)) fQ)))) (lX C.law_together (hr.mono (by first|decide|omega)) (eQ (wn 4) (eQ (wn 5) (eQ (wn 6) fQ)))))))))))
     (rQ (RQ (fX rfl (own:=["_law_piece"]) (fr:=[4]) (by kernel_rfl) (bX rfl (lX C.law_pieces (hr.mono (by first|decide|omega)) (eQ (wn 0) fQ))) (λ_ _ _ _=>(qQ (i:=0) (by decide +kernel:O2 (["_law_piece","_law_table"]:List Str)) rfl (Or.inl rfl))) (λ_ _ _ _=>zW) (λ_ _ _ _=>(w_bin lQ jQ (wn 0) (wx (xK (mZ hr) (wn 1) (wn 0))))))))))) ?_ ?_
 ·rintro args Qd ⟨sd,cl,a,rfl,_⟩;rfl
 ·rintro args Qd ⟨sd,cl,a,rfl,hsd,hcl,hB,hbt,q⟩;refine ⟨yQ rfl,?_⟩;have h3:=hsd.l3;have hl:=OU hsd;with_reducible refine NQ (λρ=>ρ=[ZA (iQ sd),ZA (qU (DX sd cl)),ZA (FB a),ZA (zL a),YA (iK []),none,none]) ?_ ?_
  ·intro N hN;exact hN _ rfl
  rintro _ rfl;with_reducible refine NQ (λρ=>∃(V:PQ->Int×Int) (bs:List PQ),bs.Perm (XQ sd)/\(∀b∈XQ sd,ON sd cl a b (V b))/\ρ=[ZA (iQ sd),ZA (qU (DX sd cl)),ZA (FB a),ZA (zL a),YA (iK (tbl V bs)),none,none]) ?_ ?_
  ·intro N hN;refine ⟨sd,rfl,hsd,λo=>?_⟩;refine ⟨(XQ sd).map FQ,(XQ sd).map λb=>b.2.sum,rfl,by rw[j0,j0],?_,λps hperm hpw=>?_⟩
   ·intro i d k h1 h2;rw[X0]at h1 h2;cases e:(XQ sd)[i]? with
    | none=>rw[e]at h1;cases h1
    | some b=>rw[e]at h1 h2;cases h1;cases h2;exact ⟨_,rfl,b.2,rfl,rfl⟩
   obtain⟨bs,hbs,e,hup⟩:=Vq hperm hpw;rw[e];have hnd:bs.Nodup:=hbs.nodup_iff.mpr (fK sd);refine zX (λrest ρ=>∃(V:PQ->Int×Int) (done rs:List PQ),bs=done++rs/\rest=rs.map FQ/\(∀b∈done,ON sd cl a b (V b))/\ρ=[ZA (iQ sd),ZA (qU (DX sd cl)),ZA (FB a),ZA (zL a),YA (iK (tbl V done)),none,none]) ?_ ?_ ⟨λ_=>(0,0),[],bs,rfl,rfl,λb hb=>(by cases hb),rfl⟩
   ·rintro d ds ρ ⟨V,done,rs,eb,er,hV,rfl⟩ N' hN';cases rs with
    | nil=>cases er
    | cons b rs =>
     cases er;have hbm:b∈XQ sd:=hbs.mem_iff.mp (by rw[eb];simp);have hb:=pcs_mem.mp hbm;have hbl:=oZ hb;have hno:b∉done:=λz=>by rw[eb]at hnd;exact (List.nodup_append.mp hnd).2.2 b z b v0 rfl
     have hdl:(tbl V done).length < sizeLine:=by unfold tbl;rw[j0];have:=hbs.length_eq;rw[eb,M0,X2]at this;exact B3 (show done.length<=14400 by omega) (by decide)
     have step:∀y:Int×Int,ON sd cl a b y->N' [ZA (iQ sd),ZA (qU (DX sd cl)),ZA (FB a),ZA (zL a),YA (iK (LW (tbl V done) b (bU y))),none,none]:=λy hy=>by
      refine hN' _ ⟨λc=>if c=b then y else V c,done++[b],rs,by rw[eb,E2];rfl,rfl,λc hc=>?_,by rw[ju hno y]⟩;dsimp only;split
      ·rename_i z;rw[z];exact hy
      ·rename_i z;rcases E1.mp hc with y'|y'
       ·exact hV c y'
       ·exact absurd (Z0.mp y') z
     obtain⟨na,nm,ns⟩:=QN a b;have nb:=eW b;refine ⟨rfl,nb.p,na.p,nb.sh (by decide),na.sh (by decide),nm,rZ (λh=>?_) (λh=>?_)⟩
     ·obtain⟨x,ha⟩:=ns.mp h;have hx:=hbt _ ha;refine ⟨b,tbl V done,rfl,rfl,rfl,hdl,?_⟩;have:=step x ⟨hx,λz=>(by rw[z]at ha;cases ha),λx' h'=>(by rw[ha]at h';injection h' with h';injection h')⟩;have eb:zL a=bU x:=by rw[ha];rfl
      rw[<- eb]at this;exact this
     ·have hna:∀x,a≠some (b,x):=λx z=>h (ns.mpr ⟨x,z⟩);refine ⟨b.2,rfl,rZ (λh=>?_) (λh=>?_)⟩
      ·have hs:b.2.sum=0:=of_decide_eq_true h;have hc:=hB _ (KD hsd.p hcl (sF hb));unfold YV at hc;refine ⟨DX sd cl,b.1,.int (cK sd cl b.1),rfl,rfl,Sk hsd.p hcl (sF hb),by simp,by decide,by decide,zQ (by simp),b,tbl V done,rfl,rfl,rfl,hdl,?_⟩;exact step (cK sd cl b.1,cK sd cl b.1) ⟨⟨by show (cK sd cl b.1).natAbs<=_;omega,by show (cK sd cl b.1).natAbs<=_;omega⟩,λ_=>(dW hb (ku hb hs)).symm,λx z=>(hna x z).elim⟩
      ·have hs:¬b.2.sum=0:=λz=>h (decide_eq_true z);have hne:aW b≠[]:=λz=>hs (lu hb z);obtain⟨x,rest,ep⟩:=j8 hne;obtain⟨i,a',c',hx,hi,ha,hc,hac⟩:=bW (b:=b) (by omega) (x:=x) (by rw[ep];exact v0);rw[hx]at ep;have hc120:=Tk hsd hb ha hc;obtain⟨l1,l2,_,_,_⟩:=eK hb ha hc hac;have hss:=WH hc;have m1:=YH hbs eb hup (l:=(b.1,b.2.set i (c' - 1))) l1 (by show (b.2.set i (c' - 1)).sum < _;omega);have m2:=YH hbs eb hup (l:=(b.1.set i (a'+2 ^ (c' - 1).toNat),b.2.set i (c' - 1))) l2 (by show (b.2.set i (c' - 1)).sum < _;omega);have g1:=hV _ m1;have g2:=hV _ m2;refine ⟨tbl V done,b,i,rest,a',c',_,_,_,_,rfl,by omega,by omega,by omega,ep,ha,hc,hac,hc120,TU m1,TU m2,λo=>?_⟩;refine ⟨rfl,b,tbl V done,rfl,rfl,rfl,hdl,?_⟩;refine step (min _ _,max _ _) ⟨⟨?_,?_⟩,λz=>?_,λx z=>(hna x z).elim⟩
       ·exact gL g1.1.1 g2.1.1
       ·exact iL g1.1.2 g2.1.2
       ·rw[UW (cl:=cl) hb ha hc hac,lJ ha hc,g1.2.1 z,g2.2.1 z]
   ·rintro ρ ⟨V,done,rs,eb,er,hV,rfl⟩;cases rs with
    | cons _ _=>cases er
    | nil=>rw[K2]at eb;exact hN _ ⟨V,done,eb ▸ hbs,λb hb=>hV b (eb ▸ hbs.mem_iff.mpr hb),rfl⟩
  rintro _ ⟨V,bs,hbs,hV,rfl⟩;refine ⟨sd,rfl,hsd,λo=>?_⟩;refine ⟨BZ (by rw[j0];omega),qJ (λd=>HD V (WU d)) ?_ ?_⟩
  ·intro d hd N' hN';obtain⟨b,hb,rfl⟩:=J0.mp hd;rw[QJ]at hN';exact ⟨tbl V bs,b,_,rfl,rfl,TU (hbs.mem_iff.mpr hb),zQ (by simp),hN'⟩
  ·have em:((XQ sd).map FQ).map (λd=>HD V (WU d))=(XQ sd).map (HD V):=by
    rw[P0];refine Y1 λb _=>?_;show HD V (WU (FQ b))=_;rw[QJ]
   rw[em];exact q V _ hV
structure Slf(K:n0)(mg:Str->Option Value)(x:Str)(f:Addr)(fd:FuncData)(ps:List Str):Prop where
 m:mg x=some (.ref f)
 k:j5 K (.ref f)=true
 b:Binds K fd ps []
theorem RN{K:n0}{k:Nat}{ps:List Str}:FnOk P w K mg base iZ k f fd ps (pQ K λ_ _=>False):=⟨λvs H Q E h=>by obtain⟨_,_,_,_,_,h,_⟩:=h;exact h.elim,λA outer s H args us vs Q E _ _ _ _ h=>by obtain⟨_,_,_,_,_,h,_⟩:=h;exact h.elim⟩
noncomputable def SN:Nat->PyData->Prop
 | _,.int _=>True
 | n+1,.tuple ds=>ds.length<=4/\∀d∈ds,SN n d
 | _,_=>False
theorem Uk:∀{n:Nat}{d:PyData},SN n d->WV d=true
 | _,.int _,_=>rfl
 | n+1,.tuple ds,h=>by show okAll ds=true;exact AZ λd hd=>Uk (h.2 d hd)
 | 0,.tuple _,h=>h.elim
 | 0,.none,h=>h.elim
 | 0,.bool _,h=>h.elim
 | 0,.str _,h=>h.elim
 | 0,.list _,h=>h.elim
 | 0,.dict _,h=>h.elim
 | _+1,.none,h=>h.elim
 | _+1,.bool _,h=>h.elim
 | _+1,.str _,h=>h.elim
 | _+1,.list _,h=>h.elim
 | _+1,.dict _,h=>h.elim
noncomputable def TN:Nat->Con
 | 0=>λ_ _=>False
 | n+1=>λargs Q=>∃d:PyData,args=[.fz d]/\SN n d/\n<=3/\∀(ds:List PyData) (o:Ev),(∀e∈ds,e≠d/\WV e=true)->ds.length<=2 * 4 ^ n->Q (.ow (.list ds)) o
structure CalsBo(n:Nat)(P:Program)(w:World)(K:n0)(mg:Str->Option Value)(base:Heap):Prop where
 law_by_one:Cal P w K mg base n "_law_by_one" ["_law_thing"] (pQ K (TN n))
theorem VP:FnScope ["_law_thing","_law_found","_law_at","_law_inner"] ["_law_thing"] (mQ (top 33)):=⟨rfl,rfl,rfl,by decide +kernel,rfl,by decide +kernel,by decide +kernel⟩
theorem Vk(F:Fun K "_law_by_one" "_law_by_one" (top 33) f fd)(T:Txt mg)(C:CalsBo n P w K mg base):FnOk P w K mg base iZ (n+1) f fd ["_law_thing"] (pQ K (TN (n+1))):=by
 have S:=VP;refine tK F S (λcdv A outer s H E hr=>(kQ (tZ (nK (rY .int rfl T.isinstance_ T.int_ boot_int (wn 0))) (rQ (RQ (WQ (eQ (wx (w_bin lQ jQ (wn 0) (wx gQ))) (eQ (wx (w_bin RX MX (wn 0) (wx gQ))) fQ))))) xX)
     (kQ (BQ (i:=1) S.nd rfl (Or.inl rfl) (WQ fQ))
     (kQ (JX [2,3] PassesOwn.never rfl (lI rfl T.enumerate_ (eQ (wn 0) fQ)) (EJ rfl rfl (LQ (qQ (i:=2) S.nd rfl (Or.inr rfl)) (LQ (qQ (i:=3) S.nd rfl (Or.inl rfl)) yZ))) (rQ (jZ (Xq XJ rfl PySem.F.slot_list_extend PySem.F.type_list_extend UJ (wn 1) (eQ (wx (fX rfl (own:=["_law_one"]) (fr:=[0,2]) (by kernel_rfl) (bX rfl (lX C.law_by_one (hr.mono (by first|decide|omega)) (eQ (wn 3) fQ))) (λ_ _ _ _=>(qQ (i:=0) (by decide +kernel:O2 (["_law_one","_law_thing","_law_at"]:List Str)) rfl (Or.inl rfl))) (λ_ _ _ _=>zW) (λ_ _ _ _=>(w_bin lQ jQ (wx (w_bin lQ jQ (wx (KJ rfl (wn 1) (wn 2))) (wx (tQ (eQ (wx (wv 0)) fQ))))) (wx (lZ rfl (wn 1) (wx (w_bin lQ jQ (wn 2) (wx gQ))))))))) fQ)))))
     (rQ (GJ (wn 1))))))) ?_ ?_
 ·rintro args Qd ⟨d,rfl,_⟩;rfl
 ·rintro args Qd ⟨d,rfl,hd,hn,q⟩;refine ⟨yQ rfl,?_⟩;cases d with
  | int i =>
   refine q [.int (i+1),.int (i - 1)] _ (λe he=>?_) ?_
   ·have he:e=.int (i+1)\/e=.int (i - 1):=by simpa using he
    rcases he with rfl|rfl
    ·exact ⟨λz=>by injection z with z;omega,rfl⟩
    ·exact ⟨λz=>by injection z with z;omega,rfl⟩
   ·have:1<=4 ^ n:=Nat.one_le_pow _ _ (by decide);show 2<=2 * 4 ^ n;omega
  | tuple ds =>
   cases n with
   | zero=>exact hd.elim
   | succ n =>
    obtain⟨hl,hi⟩:=hd;have h4:4 ^ (n+1)=4 ^ n * 4:=Nat.pow_succ ..;refine zX (λrest ρ=>∃(pre rs fs:List PyData),ds=pre++rs/\rest=(rs.zipIdx pre.length).map (λp=>B1 [.int (p.2:Nat),p.1])/\(∀e∈fs,e≠.tuple ds/\WV e=true)/\fs.length<=pre.length * (2 * 4 ^ n)/\ρ=[ZA (.tuple ds),YA (.list fs),none,none]) ?_ ?_ ⟨[],ds,[],rfl,rfl,by simp,by simp,rfl⟩
    ·rintro d ds' ρ ⟨pre,rs,fs,hds,er,hfs,hfl,rfl⟩ N hN;cases rs with
     | nil=>cases er
     | cons x rs =>
      rw[F7,T1]at er;cases er;have hx:=hi x (by rw[hds];simp);have hpl:pre.length+1<=4:=by rw[hds,M0,X2]at hl;omega
      have e0:((pre.length:Nat):Int).toNat=pre.length:=rfl;have e1:(((pre.length:Nat):Int)+1).toNat=pre.length+1:=rfl;have et:ds.take pre.length=pre:=by rw[hds,List.take_left]
      have ed:ds.drop (pre.length+1)=rs:=by rw[hds,show pre++x :: rs=(pre++[x])++rs by simp];exact List.drop_left' (by simp)
      refine ⟨rfl,x,rfl,hx,by omega,λes o hes hel=>?_⟩;have p3:4 ^ n<=4 ^ 3:=Nat.pow_le_pow_right (by decide) (by omega);refine ⟨zQ (by omega),qJ (λone=>.tuple (pre++[one]++rs)) ?_ ?_⟩
      ·intro one hone N' hN';have eL:B1 (pre++[one]++rs)=.tuple (ds.take ((pre.length:Nat):Int).toNat++[one]++ds.drop (((pre.length:Nat):Int)+1).toNat):=by rw[e0,e1,et,ed]
       rw[eL]at hN';exact ⟨nn _,gK (OP hl _) (u0 1) (by decide),n1 _,gK (wY (OP hl _) (u0 1)) (HR hl _) (by decide),hN'⟩
      ·refine ⟨?_,hN _ ⟨pre++[x],rs,fs++es.map λone=>.tuple (pre++[one]++rs),by rw[hds];simp,by rw[M0];rfl,λe he=>?_,?_,rfl⟩⟩
       ·rw[j0];have:pre.length * (2 * 4 ^ n)<=4 * (2 * 4 ^ n):=m5 _ (by omega);exact zQ (by omega)
       ·rcases E1.mp he with z|z
        ·exact hfs e z
        ·obtain⟨one,ho,rfl⟩:=J0.mp z;obtain⟨k1,k2⟩:=hes one ho;refine ⟨λz=>?_,?_⟩
         ·injection z with z;rw[hds,E2]at z;have:=List.append_cancel_left z;simp at this;exact k1 this
         ·have hok:∀d∈ds,WV d=true:=λd hd=>Uk (hi d hd);refine AZ λd hd=>?_;simp only[E1,Z0]at hd;rcases hd with (hd|hd)|hd
          ·exact hok d (by rw[hds];simp[hd])
          ·rw[hd];exact k2
          ·exact hok d (by rw[hds];simp[hd])
       ·rw[M0,j0,M0,W3,Nat.add_mul];omega
    ·rintro ρ ⟨pre,rs,fs,hds,er,hfs,hfl,rfl⟩;cases rs with
     | cons x rs=>rw[F7]at er;cases er
     | nil=>rw[K2]at hds;refine q fs _ hfs ?_;have:pre.length * (2 * 4 ^ n)<=4 * (2 * 4 ^ n):=m5 _ (by rw[<- hds];exact hl);omega
  | none=>cases n<;>exact hd.elim
  | bool b=>cases n<;>exact hd.elim
  | str x=>cases n<;>exact hd.elim
  | list xs=>cases n<;>exact hd.elim
  | dict es=>cases n<;>exact hd.elim
theorem UN(F:Fun K "_law_by_one" "_law_by_one" (top 33) f fd)(T:Txt mg)(R:Slf K mg "_law_by_one" f fd ["_law_thing"]):FnOk P w K mg base iZ 3 f fd ["_law_thing"] (pQ K (TN 3)):=by
 have all:∀n,Cal P w K mg base n "_law_by_one" ["_law_thing"] (pQ K (TN n)):=λn=>by
  induction n with
  | zero=>exact ⟨⟨f,fd,RN,R.m,R.k,R.b⟩⟩
  | succ n ih=>exact ⟨⟨f,fd,Vk F T ⟨ih⟩,R.m,R.k,R.b⟩⟩
 exact Vk F T ⟨all 2⟩
structure Sh(b k:Nat)(d:PyData):Prop where
 o:WV d=true
 p:IQ d=true
 s:d.showable=true
 z:d.depth<=k
 l:d.shown.length<=b
theorem Sh.mono{b k b' k':Nat}{d:PyData}(h:Sh b k d)(hb:b<=b')(hk:k<=k'):Sh b' k' d:=⟨h.o,h.p,h.s,Q0 h.z hk,Q0 h.l hb⟩
theorem RJ:∀{l:List PyData},(∀d∈l,IQ d=true)->plainAll l=true
 | [],_=>rfl
 | x :: l,h=>by simp[plainAll,h x v0];exact RJ λd hd=>h d (q0 _ hd)
theorem yY:∀{xs:List PyData}{n:Nat},(∀d∈xs,d.depth<=n)->t6 xs<=n
 | [],_,_=>by simp[t6]
 | x :: xs,n,h=>by have h1:=h x (by simp);have h2:=yY (xs:=xs) λd hd=>h d (by simp[hd]);simp only[t6];omega
theorem Sh.tup{b k:Nat}(h:∀d∈l,Sh b k d)(hn:l.length<=n):Sh (n * (b+2)+3) (k+1) (.tuple l):=by
 refine ⟨AZ λd hd=>(h d hd).o,by simp only[IQ];exact RJ λd hd=>(h d hd).p,by simp only[X8];exact L3.showableAll_of λd hd=>(h d hd).s,?_,?_⟩
 ·have:=yY λd hd=>(h d hd).z;simp only[Z4];omega
 ·have:=xH λd hd=>(h d hd).l;have h2:=m5 (b+2) hn;omega
theorem Sh.lst{b k:Nat}(h:∀d∈l,Sh b k d)(hn:l.length<=n):Sh (n * (b+2)+3) (k+1) (.list l):=by
 refine ⟨AZ λd hd=>(h d hd).o,by simp only[IQ];exact RJ λd hd=>(h d hd).p,by simp only[X8];exact L3.showableAll_of λd hd=>(h d hd).s,?_,?_⟩
 ·have:=yY λd hd=>(h d hd).z;simp only[Z4];omega
 ·have:=NG λd hd=>(h d hd).l;have h2:=m5 (b+2) hn;omega
theorem pZ{x:Int}(h:x.natAbs < 10 ^ 29):Sh 30 0 (.int x):=⟨rfl,rfl,CU (k:=97) (V7 h (by decide)) (by decide),by simp[Z4],OV (k:=29) (by decide) h⟩
theorem mJ:Sh 30 0 .none:=⟨rfl,rfl,rfl,by simp[Z4],by decide +kernel⟩
theorem bY(b:Bool):Sh 30 0 (.bool b):=⟨rfl,rfl,rfl,by simp[Z4],by cases b<;>decide +kernel⟩
theorem Xk:Sh 30 0 (.str ""):=⟨rfl,rfl,rfl,by simp[Z4],by decide +kernel⟩
theorem kL{x:Int}(h:x.natAbs < 10 ^ 29):Sh 310 1 (.str (Str.ofString (toString x))):=by
 refine ⟨rfl,rfl,rfl,by simp[Z4],?_⟩;have h1:(Str.ofString (toString x)).length<=30:=OV (k:=29) (by decide) h;have h2:=PySem.StrLaws.reprText_len (Str.ofString (toString x)) λc hc=>by rw[Str.ofString_eq_toList]at hc;have hc:c∈(toString x).toList.map Char.toNat:=hc;obtain⟨ch,_,rfl⟩:=J0.mp hc;exact ch.val.toNat_lt
 show (reprText (Str.ofString (toString x))).length<=310;omega
theorem UX{d:PyData}(h:Sh 30 0 d):Sh 310 1 d:=h.mono (by decide) (by decide)
theorem XW(h:∀d∈l,Sh 30 0 d)(hn:l.length<=4):Sh 310 1 (.tuple l):=(Sh.tup h hn).mono (by decide) (by decide)
theorem HB(h:∀d∈l,Sh 30 0 d)(hn:l.length<=4):Sh 310 1 (.list l):=(Sh.lst h hn).mono (by decide) (by decide)
theorem LD(h:∀d∈l,Sh 310 1 d)(hn:l.length<=5):Sh 2000 2 (.tuple l):=(Sh.tup h hn).mono (by decide) (by decide)
theorem fW{l:List Int}(h:∀x∈l,x.natAbs < 10 ^ 29):∀d∈l.map i0,Sh 30 0 d:=λd hd=>by obtain⟨x,hx,rfl⟩:=J0.mp hd;exact pZ (h x hx)
structure Nop(rows:List PyData)(t:PyData):Prop where
 ne:t≠.list rows
 ok:WV t=true
 sh:GI t=true
 ss:t.showable=true
 dd:t.depth+1<=64
 ll:t.shown.length<=sizeLine
theorem qu{d:PyData}(h:IQ d=true):GI d=true:=by cases d<;>first|exact h|cases h
theorem Sh.nop{t:PyData}(h:Sh 2000000 5 t)(hn:t≠.list rows):Nop rows t:=⟨hn,h.o,qu h.p,h.s,by have:=h.z;omega,Q0 h.l (by decide)⟩
theorem hZ(h:∀d∈l,Sh 2000 2 d)(hl:l.length<=600)(hn:l≠rows):Nop rows (.list l):=((Sh.lst h hl).mono (by decide) (by decide)).nop λz=>by injection z with z;exact hn z
theorem Yk{i:Nat}{r one:PyData}(hr:rows[i]?=some r)(hne:one≠r):rows.take i++[one]++rows.drop (i+1)≠rows:=λz=>by
 have hi:i < rows.length:=(V0.mp hr).1;have e:(rows.take i++[one]++rows.drop (i+1))[i]?=some one:=by rw[E2,S1 (by rw[U1];omega),U1,show i - min i rows.length=0 by omega];rfl
 rw[z,hr]at e;injection e with e;exact hne e.symm
theorem MD{i:Nat}{r one:PyData}(h:∀d∈rows,Sh 2000 2 d)(hl:rows.length<=576)(hr:rows[i]?=some r)(h1:Sh 2000 2 one)(hne:one≠r):Nop rows (.list (rows.take i++[one]++rows.drop (i+1))):=by
 have hi:i < rows.length:=(V0.mp hr).1;refine hZ (λd hd=>?_) ?_ λz=>?_
 ·simp only[E1,Z0]at hd;rcases hd with (hd|hd)|hd
  ·exact h d (S3 hd)
  ·rw[hd];exact h1
  ·exact h d (j4 hd)
 ·simp only[M0,U1,V1,W3];omega
 ·exact Yk hr hne z
structure Og(r d:PyData):Prop where
 sh:Sh 2000 2 d
 ne:d≠r
theorem SJ{r:PyData}{ss ts:List PyData}(h:∀d∈ss,Og r d)(k:∀d∈ts,Og r d):∀d∈ss++ts,Og r d:=λd hd=>(E1.mp hd).elim (h d) (k d)
theorem xO{r d:PyData}(h:Og r d):∀x∈[d],Og r x:=λx hx=>by rw[Z0.mp hx];exact h
noncomputable abbrev lL(b:PQ)(g:Int×Int):PyData:=.tuple [iQ b.1,iQ b.2,.int g.1,.int g.2]
noncomputable abbrev rF(rows:List PyData)(i:Nat)(b:PQ)(g:Int×Int)(m:List Int)(r7 r9:Option Sl):Ev:=[ZA (.list rows),ZA (.int (i:Nat)),ZA (iQ b.1),ZA (iQ b.2),ZA (.int g.1),ZA (.int g.2),ZA (iQ m),r7,none,r9]
theorem am{p:PyData->Prop}{x:PyData}(h:p x)(t:∀d∈l,p d):∀d∈x :: l,p d:=List.forall_mem_cons.mpr ⟨h,t⟩
theorem a0{p:PyData->Prop}:∀d∈([]:List PyData),p d:=λd hd=>by cases hd
theorem tu{p:PyData->Prop}{x y z u:PyData}(hx:p x)(hy:p y)(hz:p z)(hu:p u):∀d∈[x,y,z,u],p d:=am hx (am hy (am hz (am hu a0)))
noncomputable def PR:PyData->Bool
 | .tuple _=>true
 | _=>false
noncomputable def QR:PyData->Bool
 | .list _=>true
 | _=>false
theorem AL{x:PyData}(h:PR x=false):x≠.tuple l:=λe=>by rw[e]at h;cases h
theorem yO{x:PyData}{i:Int}(h:KU x=false):x≠.int i:=λe=>by rw[e]at h;cases h
theorem neL{x:PyData}(h:QR x=false):x≠.list l:=λe=>by rw[e]at h;cases h
theorem cG{b:PQ}{x y z u:PyData}(hx:Sh 310 1 x)(hy:Sh 310 1 y)(hz:Sh 310 1 z)(hu:Sh 310 1 u)(hne:x≠iQ b.1\/y≠iQ b.2\/z≠.int g.1\/u≠.int g.2):Og (lL b g) (.tuple [x,y,z,u]):=by
 refine ⟨LD (tu hx hy hz hu) (K5 rfl),λe=>?_⟩;injection e with e;injection e with e1 e;injection e with e2 e;injection e with e3 e;injection e with e4 e;rcases hne with h|h|h|h
 ·exact h e1
 ·exact h e2
 ·exact h e3
 ·exact h e4
theorem AO{b:PQ}(h:∀d∈l,Sh 310 1 d)(hl:(Nat.ble l.length 5&&!Nat.beq l.length 4)=true):Og (lL b g) (.tuple l):=by rw[J1]at hl;refine ⟨LD h (K5 hl.1),λe=>?_⟩;injection e with e;rw[e]at hl;cases hl.2
theorem WP{b:PQ}{d:PyData}(h:Sh 310 1 d)(hn:PR d=false):Og (lL b g) d:=⟨h.mono (by decide) (by decide),AL hn⟩
theorem Zk{t:PyData}(h:Sh 310 1 t)(hn:QR t=false):Nop rows t:=(h.mono (by decide) (by decide):Sh 2000000 5 t).nop (neL hn)
theorem IB:∀{p w sd:List Int},Pc p w sd->∀x∈p,0<=x/\∃s∈sd,x < s
 | [],_,_,_,x,hx=>by cases hx
 | y :: p,k :: w,s :: sd,h,x,hx=>by
  rcases W0.mp hx with z|z
  ·rw[z];exact ⟨h.1.1,s,v0,h.1.2.1⟩
  ·obtain⟨h1,s',h2,h3⟩:=IB h.2 x z;exact ⟨h1,s',q0 _ h2,h3⟩
 | _ :: _,[],z,h,_,_=>by cases z<;>exact h.elim
 | _ :: _,_ :: _,[],h,_,_=>h.elim
theorem ND{sd:List Int}(hsd:Sd sd){b:PQ}(hb:Pc b.1 b.2 sd):∀k∈b.2,0<=k/\k<=120:=λk hk=>by
 obtain⟨i,hi,e⟩:=E6.mp hk;have hbl:=oZ hb;have hc:b.2[i]?=some k:=by rw[A0 hi,e]
 exact ⟨UH hb k hk,Tk hsd hb (A0 (show i < b.1.length by omega)) hc⟩
theorem aw{sd:List Int}(hsd:Sd sd)(h24:VQ sd<=24){b:PQ}(hb:Pc b.1 b.2 sd):∀x∈b.1,0<=x/\x < 24:=λx hx=>by obtain⟨h1,s,h2,h3⟩:=IB hb x hx;have:=fZ hsd.p s h2;omega
theorem YW{sd:List Int}(hsd:Sd sd)(h24:VQ sd<=24){b:PQ}(hb:Pc b.1 b.2 sd){x:Int×Int}(hx:Bd x):Sh 2000 2 (.tuple [iQ b.1,iQ b.2,.int x.1,.int x.2])/\Sh 310 1 (iQ b.1)/\Sh 310 1 (iQ b.2)/\Sh 30 0 (.int x.1)/\Sh 30 0 (.int x.2):=by
 have h3:=hsd.l3;have hbl:=oZ hb;have e:(10:Nat) ^ 27 < 10 ^ 29:=by decide
 have h1:Sh 310 1 (iQ b.1):=XW (fW λy hy=>by have:=aw hsd h24 hb y hy;omega) (by rw[j0];omega);have h2:Sh 310 1 (iQ b.2):=XW (fW λy hy=>by have:=ND hsd hb y hy;omega) (by rw[j0];omega);have h4:=pZ (B3 hx.1 e);have h5:=pZ (B3 hx.2 e);exact ⟨LD (tu h1 h2 (UX h4) (UX h5)) (by show 4<=5;decide),h1,h2,h4,h5⟩
theorem OD{x d:PyData}(h:d∈(A1 n [x]).flatten):d=x:=by obtain⟨l,hl,hd⟩:=List.mem_flatten.mp h;rw[(List.mem_replicate.mp hl).2]at hd;exact Z0.mp hd
theorem mL{x d:PyData}{ds:List PyData}(hd:d∈ds)(hne:d≠x):B1 (A1 n [x]).flatten≠.tuple ds:=λe=>by injection e with e;rw[<- e]at hd;exact hne (OD hd)
theorem uu(n:Nat)(x:PyData):((A1 n [x]).flatten).length=n:=by simp
theorem bw{v:Int}(hv:v.natAbs < 10 ^ 29)(hn:n<=4):Sh 310 1 (.tuple (A1 n [i0 v]).flatten):=XW (λd hd=>by rw[OD hd];exact pZ hv) (by rw[uu];exact hn)
theorem JB{v:Int}{l:List Int}(h1:1<=l.length)(h:∀x∈l,0<=x/\x < 24)(hv:v < 0\/24<=v):B1 (A1 n [.int v]).flatten≠iQ l:=by
 cases l with
 | nil=>cases h1
 | cons y l=>have:=h y v0;exact mL (d:=.int y) v0 λe=>by injection e with e;omega
theorem cw{ds es:List PyData}(h:ds.length≠es.length):B1 ds≠.tuple es:=λe=>by injection e with e;exact h (by rw[e])
theorem PD{c:Bool}{ns:List Int}(h:W2 c∈l):B1 l≠iQ ns:=λe=>by injection e with e;rw[e]at h;obtain⟨x,_,e⟩:=J0.mp h;cases e
theorem fw{ns:List Int}{k:Nat}{d:PyData}(h:∀x∈ns.map i0,Sh 30 0 x)(hd:Sh 30 0 d)(hk:k < ns.length)(hl:ns.length<=4):Sh 310 1 (.tuple ((ns.map i0).take k++[d]++(ns.map i0).drop (k+1))):=by
 refine XW (λx hx=>?_) ?_
 ·simp only[E1,Z0]at hx;rcases hx with (hx|hx)|hx
  ·exact h x (S3 hx)
  ·rw[hx];exact hd
  ·exact h x (j4 hx)
 ·simp only[M0,U1,V1,W3,j0];omega
noncomputable abbrev DZ(K:Int)(n:Nat):Nat:=if K < 0 then (K+(n:Int)).toNat else K.toNat
theorem UZ{K:Int}{k:Nat}(h:K=k):DZ K n=k:=by subst h;unfold DZ;rw[if_neg (by omega)];rfl
theorem tF{m:List PyData}(h:∀d∈l,Sh 2000 2 d)(k:∀d∈m,Sh 2000 2 d):∀d∈l++m,Sh 2000 2 d:=λd hd=>(E1.mp hd).elim (h d) (k d)
theorem QD{l:List Int}{d:PyData}(h:∀d∈l.map i0,Sh 30 0 d)(hd:Sh 30 0 d)(hl:l.length<=3):Sh 310 1 (.tuple (l.map i0++[d])):=XW (λx hx=>(E1.mp hx).elim (h x) λz=>by rw[Z0.mp z];exact hd) (by rw[M0,j0];exact O7 hl 1)
theorem RD{l:List Int}{d:PyData}:B1 (l.map i0++[d])≠iQ l:=cw (by rw[M0];exact Nat.succ_ne_self _)
theorem LB{l:List Int}{d:PyData}(h:∀d∈l.map i0,Sh 30 0 d)(hd:Sh 30 0 d)(hl:l.length<=3):Sh 310 1 (.tuple ([d]++(l.map i0).drop 1)):=XW (am hd λx hx=>h x (j4 hx)) (by simp;omega)
theorem MB{l:List Int}{v:Int}(h1:1<=l.length)(h:v≠l.getD 0 0):B1 ([.int v]++(l.map i0).drop 1)≠iQ l:=by
 cases l with
 | nil=>cases h1
 | cons y l=>exact λe=>by injection e with e;injection e with e;injection e with e;exact h e
structure Fc(b:PQ)(g:Int×Int):Prop where
 p:Sh 310 1 (iQ b.1)
 w:Sh 310 1 (iQ b.2)
 l:Sh 310 1 (.int g.1)
 h:Sh 310 1 (.int g.2)
 pi:∀d∈b.1.map i0,Sh 30 0 d
 wi:∀d∈b.2.map i0,Sh 30 0 d
 p1:1<=b.1.length
 p3:b.1.length<=3
 w1:1<=b.2.length
 w3:b.2.length<=3
 e:b.2.length=b.1.length
 pr:∀x∈b.1,0<=x/\x < 24
 w0:0<=b.2.getD 0 0/\b.2.getD 0 0<=120
 t:g.2.natAbs < 10 ^ 29
theorem NB{sd:List Int}(hsd:Sd sd)(h24:VQ sd<=24){b:PQ}(hb:Pc b.1 b.2 sd){x:Int×Int}(hx:Bd x):Fc b x:=by
 obtain⟨_,a1,a2,a3,a4⟩:=YW hsd h24 hb hx;have h1:=hsd.l1;have h3:=hsd.l3;have hbl:=oZ hb;have hp:=aw hsd h24 hb;have hw:=ND hsd hb;refine ⟨a1,a2,UX a3,UX a4,fW λy hy=>?_,fW λy hy=>?_,by omega,by omega,by omega,by omega,by omega,hp,hw _ ?_,B3 hx.2 (by decide)⟩
 ·have:=hp y hy;omega
 ·have:=hw y hy;omega
 ·rw[Y0,A0 (by omega)];exact J4 _
theorem eU(h:n<=m)(k:m<=100000):n < sizeLine:=B3 (Q0 h k) (by decide)
theorem UU(hS:∀d∈rows,Sh 2000 2 d)(hl:rows.length<=576)(hm:m<=rows.length)(h:m+(rows.length - n)≠rows.length)(h6:m+(rows.length - n)<=600):Nop rows (.list (rows.take m++rows.drop n)):=by
 refine hZ (tF (λd hd=>hS d (S3 hd)) λd hd=>hS d (j4 hd)) ?_ λe=>?_
 ·rw[M0,U1,V1];omega
 ·have:=congrArg B4 e;rw[M0,U1,V1]at this;omega
theorem nL(hnd:rows.Nodup)(h:1 < rows.length):rows.reverse≠rows/\rows.drop 1++rows.take 1≠rows:=by
 refine ⟨λe=>?_,λe=>?_⟩
 ·have e1:rows.reverse[0]?=rows[rows.length - 1]?:=by rw[List.getElem?_reverse (by omega)];rfl
  rw[e]at e1;have:=(v8 (by omega) hnd).mp e1;omega
 ·have e1:(rows.drop 1++rows.take 1)[0]?=rows[1]?:=by rw[P2 (by rw[V1];omega),Z7]
  rw[e]at e1;have:=(v8 (by omega) hnd).mp e1;omega
theorem SD{d:PyData}{r:List PyData}:d∈l++[d]++r:=T2 _ (R0 _ v0)
theorem ZH{m:List PyData}{a c:Nat}(h:l.length<=a)(k:Nat.ble (a+m.length) c=true):(l++m).length<=c:=by rw[M0];exact Q0 (O7 h _) (K5 k)
theorem gnC{i:Nat}{d:PyData}{ρ':Ev}{Q:Ev->Prop}(h:iE i d ρ Q=Q ρ')(w:Q ρ'):iE i d ρ Q:=by rw[h];exact w
noncomputable def ZP:PyData->PyData
 | .tuple ds=>.tuple (ds.take 2)
 | _=>.none
theorem wu{sd:List Int}{b c:PQ}(h:DK sd cl b=DK sd cl c):b=c:=by injection h with h;injection h with h1 h;injection h with h2 h;exact Prod.ext (Jk h1) (Jk h2)
theorem uF(sd cl:List Int):((XQ sd).map (DK sd cl)).Nodup:=by rw[i8,O3];exact (fK sd).imp λ{a b} h z=>h (wu z)
abbrev JF(rows:List PyData)(i:Nat)(b:PQ)(g:Int×Int)(m:List Int)(n:Nat):Ev->Prop:=λρ=>∃ss:List PyData,(∀d∈ss,Og (lL b g) d)/\ss.length<=n/\ρ=rF rows i b g m (YA (.list ss)) none
abbrev JG(rows:List PyData)(i:Nat)(b:PQ)(g:Int×Int)(m:List Int)(n:Nat):Ev->Prop:=λρ=>∃(fs:List PyData) (x7:Option Sl),(∀d∈fs,Nop rows d)/\fs.length<=n/\ρ=rF rows i b g m x7 (YA (.list fs))
theorem ZW{r ss ts:List PyData}(h:∀d∈ss,Nop r d)(k:∀d∈ts,Nop r d):∀d∈ss++ts,Nop r d:=λd hd=>(E1.mp hd).elim (h d) (k d)
def gw:Con:=λargs Q=>∃(sd cl:List Int) (i:Nat),args=[.fz (.list ((XQ sd).map (DK sd cl))),.fz (.int (i:Nat))]/\i < (XQ sd).length/\Sd sd/\VQ sd<=24/\(∀b∈XQ sd,Bd (cU sd cl b))/\∀(ts:List PyData) (o:Ev),(∀t∈ts,Nop ((XQ sd).map (DK sd cl)) t)->ts.length<=100->Q (.ow (.list ts)) o
theorem xu:FnScope ["_law_rows","_law_at","_law_place","_law_powers","_law_least","_law_greatest","_law_more","_law_some","_law_k","_law_found"] ["_law_rows","_law_at"] (mQ (top 32)):=⟨rfl,rfl,rfl,by decide +kernel,rfl,by decide +kernel,by decide +kernel⟩
theorem iw(F:Fun K "_law_forms" "_law_forms" (top 32) f fd)(T:Txt mg):FnOk P w K mg base iZ 1 f fd ["_law_rows","_law_at"] (pQ K gw):=by
 have S:=xu;refine tK F S (λcdv A outer s H E hr=>(kQ (IG (MQ rfl (wn 0) (wn 1)) (EJ rfl rfl (LQ (qQ (i:=2) S.nd rfl (Or.inl rfl)) (LQ (qQ (i:=3) S.nd rfl (Or.inl rfl)) (LQ (qQ (i:=4) S.nd rfl (Or.inl rfl)) (LQ (qQ (i:=5) S.nd rfl (Or.inl rfl)) yZ))))))
     (kQ (BQ (i:=6) S.nd rfl (Or.inl rfl) (w_bin lQ jQ (wx (tQ (eQ (wx (w_bin lQ jQ (wx (MQ rfl (wn 3) (wx gQ))) (wx gQ))) fQ))) (wx (lZ rfl (wn 3) (wx gQ)))))
     (kQ (BQ (i:=7) S.nd rfl (Or.inl rfl) (WQ (eQ (wx (pX WJ (XX (K:=K) rfl) T.list_ boot_list (eQ (wx (MQ rfl (wn 0) (wn 1))) fQ))) (eQ (wx (KJ rfl (wx (MQ rfl (wn 0) (wn 1))) (wx gQ))) (eQ (wx (w_bin lQ jQ (wx (MQ rfl (wn 0) (wn 1))) (wx (tQ (eQ (wx gQ) fQ))))) (eQ (wx NV) (eQ (wx gQ) (eQ (wx (tQ fQ)) (eQ (wx Pu) (eQ (wx (wv 2)) (eQ (wx (w_bin lQ jQ (wx (tQ (eQ (wx (pX WJ (XX (K:=K) rfl) T.list_ boot_list (eQ (wn 2) fQ))) fQ))) (wx (lZ rfl (wx (MQ rfl (wn 0) (wn 1))) (wx gQ))))) fQ)))))))))))
     (kQ (BQ (i:=7) S.nd rfl (Or.inl rfl) (w_bin lQ jQ (wn 7) (wx (WQ (eQ (wx (tQ (eQ (wx (wv 2)) (eQ (wx (pX WJ (XX (K:=K) rfl) T.list_ boot_list (eQ (wn 3) fQ))) (eQ (wx (wv 4)) (eQ (wx (wv 5)) fQ)))))) (eQ (wx (tQ (eQ (wx (wv 2)) (eQ (wx (wv 3)) (eQ (wx NV) (eQ (wx (wv 5)) fQ)))))) (eQ (wx (w_bin lQ jQ (wx (tQ (eQ (wx (wv 3)) fQ))) (wx (sI rfl (wx (MQ rfl (wn 0) (wn 1))) (wx gQ) (wx gQ))))) fQ)))))))
     (kQ (BQ (i:=7) S.nd rfl (Or.inl rfl) (w_bin lQ jQ (wn 7) (wx (WQ (eQ (wx (tQ (eQ (wx (wv 2)) (eQ (wx (wv 3)) (eQ (wx (wv 4)) (eQ (wx (pX Xv hU T.str_ boot_str (eQ (wn 5) fQ))) fQ)))))) (eQ (wx (w_bin lQ jQ (wx (tQ (eQ (wx (w_bin WY VY (wx (tQ (eQ (wx (Ij (wx gQ))) fQ))) (wx (xQ jX (GQ (K:=K) rfl) T.len_ PySem.boot_len (eQ (wn 2) fQ))))) fQ))) (wx (lZ rfl (wx (MQ rfl (wn 0) (wn 1))) (wx gQ))))) (eQ (wx (tQ (eQ (wx (wv 2)) (eQ (wx (wv 6)) (eQ (wx gQ) (eQ (wx gQ) fQ)))))) fQ)))))))
     (kQ (BQ (i:=7) S.nd rfl (Or.inl rfl) (w_bin lQ jQ (wn 7) (wx (WQ (eQ (wx (w_bin lQ jQ (wx (tQ (eQ (wx (w_bin WY VY (wx (tQ (eQ (wx gQ) fQ))) (wx (xQ jX (GQ (K:=K) rfl) T.len_ PySem.boot_len (eQ (wn 2) fQ))))) fQ))) (wx (lZ rfl (wx (MQ rfl (wn 0) (wn 1))) (wx gQ))))) (eQ (wx (tQ (eQ (wx (wv 2)) (eQ (wx (w_bin lQ jQ (wn 3) (wx (tQ (eQ (wx gQ) fQ))))) (eQ (wx (wv 4)) (eQ (wx (wv 5)) fQ)))))) (eQ (wx (w_bin WY VY (wx (tQ (eQ (wx NV) fQ))) (wx gQ))) fQ)))))))
     (kQ (BQ (i:=7) S.nd rfl (Or.inl rfl) (w_bin lQ jQ (wn 7) (wx (WQ (eQ (wx (tQ (eQ (wx (wv 2)) (eQ (wx (w_bin lQ jQ (wx (tQ (eQ (wx (Ij (wx gQ))) fQ))) (wx (lZ rfl (wn 3) (wx gQ))))) (eQ (wx (wv 4)) (eQ (wx (wv 5)) fQ)))))) (eQ (wx (w_bin lQ jQ (wx (tQ (eQ (wx (w_bin lQ jQ (wn 2) (wx (tQ (eQ (wx gQ) fQ))))) fQ))) (wx (lZ rfl (wx (MQ rfl (wn 0) (wn 1))) (wx gQ))))) (eQ (wx (tQ (eQ (wx (wv 2)) (eQ (wx gQ) (eQ (wx gQ) (eQ (wx gQ) fQ)))))) fQ)))))))
     (kQ (JX [8] PassesOwn.never rfl (FJ T.range_ (eQ (wx (xQ jX (GQ (K:=K) rfl) T.len_ PySem.boot_len (eQ (wn 2) fQ))) fQ)) (qQ (i:=8) S.nd rfl (Or.inl rfl)) (kQ (tZ (cD rfl (wx (MQ rfl (wn 3) (wn 8))) (wx (tQ (eQ (wx gQ) (eQ (wx gQ) fQ))))) (rQ (jZ (Xq IX rfl PySem.F.slot_list_append PySem.F.type_list_append GX (wn 7) (eQ (wx (tQ (eQ (wx (wv 2)) (eQ (wx (w_bin lQ jQ (wx (w_bin lQ jQ (wx (KJ rfl (wn 3) (wn 8))) (wx (tQ (eQ (wx (OK DJ (wZ (K:=K) rfl hr.units) (wx (MQ rfl (wn 3) (wn 8))) (wx gQ))) fQ))))) (wx (lZ rfl (wn 3) (wx (w_bin lQ jQ (wn 8) (wx gQ))))))) (eQ (wx (wv 4)) (eQ (wx (wv 5)) fQ)))))) fQ)))) xX)
     (rQ (tZ (cD rfl (wx (MQ rfl (wn 2) (wn 8))) (wx (tQ (eQ (wx gQ) (eQ (wx gQ) fQ))))) (rQ (jZ (Xq IX rfl PySem.F.slot_list_append PySem.F.type_list_append GX (wn 7) (eQ (wx (tQ (eQ (wx (w_bin lQ jQ (wx (w_bin lQ jQ (wx (KJ rfl (wn 2) (wn 8))) (wx (tQ (eQ (wx (OK DJ (wZ (K:=K) rfl hr.units) (wx (MQ rfl (wn 2) (wn 8))) (wx gQ))) fQ))))) (wx (lZ rfl (wn 2) (wx (w_bin lQ jQ (wn 8) (wx gQ))))))) (eQ (wx (wv 3)) (eQ (wx (wv 4)) (eQ (wx (wv 5)) fQ)))))) fQ)))) xX))))
     (kQ (tZ (cD rfl (wn 4) (wx (tQ (eQ (wx gQ) (eQ (wx gQ) fQ))))) (rQ (jZ (Xq IX rfl PySem.F.slot_list_append PySem.F.type_list_append GX (wn 7) (eQ (wx (tQ (eQ (wx (wv 2)) (eQ (wx (wv 3)) (eQ (wx (OK DJ (wZ (K:=K) rfl hr.units) (wn 4) (wx gQ))) (eQ (wx (wv 5)) fQ)))))) fQ)))) xX)
     (kQ (tZ (cD rfl (wn 5) (wx (tQ (eQ (wx gQ) (eQ (wx gQ) fQ))))) (rQ (jZ (Xq IX rfl PySem.F.slot_list_append PySem.F.type_list_append GX (wn 7) (eQ (wx (tQ (eQ (wx (wv 2)) (eQ (wx (wv 3)) (eQ (wx (wv 4)) (eQ (wx (OK DJ (wZ (K:=K) rfl hr.units) (wn 5) (wx gQ))) fQ)))))) fQ)))) xX)
     (kQ (AU (i:=9) S.nd rfl rfl rfl (own:=["_law_one"]) (fr:=[0,1]) (by kernel_rfl) (bX rfl (wv 7)) (λ_ _ _ _=>(qQ (i:=0) (by decide +kernel:O2 (["_law_one","_law_rows","_law_at"]:List Str)) rfl (Or.inl rfl))) (λ_ _ _ _=>zW) (λ_ _ _ _=>(w_bin lQ jQ (wx (w_bin lQ jQ (wx (HZ rfl (wn 1) (wn 2))) (wx (WQ (eQ (wx (wv 0)) fQ))))) (wx (IZ rfl (wn 1) (wx (w_bin lQ jQ (wn 2) (wx gQ))))))))
     (kQ (BQ (i:=9) S.nd rfl (Or.inl rfl) (w_bin lQ jQ (wn 9) (wx (WQ (eQ (wx (pX QZ (HX (K:=K) rfl) T.tuple_ boot_tuple (eQ (wn 0) fQ))) (eQ (wx (w_bin lQ jQ (wx (HZ rfl (wn 0) (wn 1))) (wx (IZ rfl (wn 0) (wx (w_bin lQ jQ (wn 1) (wx gQ))))))) (eQ (wx (w_bin lQ jQ (wn 0) (wx (uI rfl (wn 0) (wn 1) (wx (w_bin lQ jQ (wn 1) (wx gQ))))))) (eQ (wx (w_bin lQ jQ (wx (HZ rfl (wn 0) (wx (w_bin lQ jQ (wn 1) (wx gQ))))) (wx (IZ rfl (wn 0) (wn 1))))) fQ))))))))
     (kQ (tZ (AX LV yV (wx (xQ jX (GQ (K:=K) rfl) T.len_ PySem.boot_len (eQ (wn 0) fQ))) (wx gQ)) (rQ (BQ (i:=9) S.nd rfl (Or.inl rfl) (w_bin lQ jQ (wn 9) (wx (WQ (eQ (wx (mI rfl (wn 0) (wx (Ij (wx gQ))))) (eQ (wx (w_bin lQ jQ (wx (IZ rfl (wn 0) (wx gQ))) (wx (HZ rfl (wn 0) (wx gQ))))) fQ))))))) xX)
     (rQ (RQ (w_bin lQ jQ (wn 9) (wx (WQ (eQ (wx NV) (eQ (wx gQ) (eQ (wx sK) (eQ (wx Pu) (eQ (wx QE) (eQ (wx (WQ fQ)) (eQ (wx (tQ fQ)) (eQ (wx (WQ (eQ (wx (wv 0)) fQ))) (eQ (wx (fX rfl (own:=["_law_row"]) (fr:=[]) (by kernel_rfl) (bX rfl (wv 0)) (λ_ _ _ _=>(qQ (i:=0) (by decide +kernel:O2 (["_law_row"]:List Str)) rfl (Or.inl rfl))) (λ_ _ _ _=>zW) (λ_ _ _ _=>(KJ rfl (wn 0) (wx gQ))))) fQ)))))))))))))))))))))))))))) ?_ ?_
 ·rintro args Qd ⟨sd,cl,i,rfl,_⟩;rfl
 ·rintro args Qd ⟨sd,cl,i,rfl,hi,hsd,h24,hBd,q⟩;refine ⟨yQ rfl,?_⟩;obtain⟨b,hb0⟩:∃b,(XQ sd)[i]?=some b:=⟨_,A0 hi⟩;have hbm:=Q1 hb0;have C:=NB hsd h24 (pcs_mem.mp hbm) (hBd b hbm);have hS:∀d∈(XQ sd).map (DK sd cl),Sh 2000 2 d:=λd hd=>by
   obtain⟨c,hc,rfl⟩:=J0.mp hd;exact (YW hsd h24 (pcs_mem.mp hc) (hBd c hc)).1
  have hT:∀d∈(XQ sd).map (DK sd cl),Sh 2000 2 (ZP d)/\∃x y z u,d=.tuple [x,y,z,u]:=λd hd=>by obtain⟨c,hc,rfl⟩:=J0.mp hd;have C:=NB hsd h24 (pcs_mem.mp hc) (hBd c hc);exact ⟨LD (l:=[iQ c.1,iQ c.2]) (am C.p (am C.w a0)) (K5 rfl),_,_,_,_,rfl⟩
  have hr:((XQ sd).map (DK sd cl))[i]?=some (lL b (cU sd cl b)):=by rw[X0,hb0];rfl
  have hrl:((XQ sd).map (DK sd cl)).length<=576:=by rw[j0];exact RU hsd h24
  have hil:i < ((XQ sd).map (DK sd cl)).length:=by rw[j0];exact hi
  have hnd:=uF sd cl;generalize cU sd cl b=g at C hr;generalize (XQ sd).map (DK sd cl)=rows at q hr hS hT hrl hil hnd ⊢;clear hBd hbm hb0 hi hsd h24;have hat:aV rows ((i:Nat):Int)=some (lL b g):=EX hr;with_reducible refine NQ (λρ=>ρ=[ZA (.list rows),ZA (.int (i:Nat)),ZA (iQ b.1),ZA (iQ b.2),ZA (.int g.1),ZA (.int g.2),none,none,none,none]) ?_ ?_
  ·intro N hN;exact ⟨_,hat,rfl,hN _ rfl⟩
  rintro _ rfl;have s0:Sh 310 1 (.int 0):=UX (pZ (by decide));have hq1:(1:Int)<=((b.1.map i0).length:Nat):=by rw[j0];have:=C.p1;omega
  have hq3:(b.1.map i0).length<=3:=by rw[j0];exact C.p3
  have hq4:((b.1.map i0).length:Int).toNat<=4:=by omega
  have hq2:((b.1.map i0).length:Int) < 2 ^ 63:=by omega
  have hq5:∀d:PyData,[d].length * ((b.1.map i0).length:Int).toNat<=sizeLine:=λd=>zQ (by rw[W3,Nat.one_mul];omega);have hw4:(b.2.map i0).length<=3:=by rw[j0];exact C.w3
  with_reducible refine NQ (λρ=>∃m:List Int,Sh 310 1 (iQ m)/\iQ m≠iQ b.2/\ρ=rF rows i b g m none none) ?_ ?_
  ·intro N hN;obtain⟨w0,ws,hw⟩:∃w0 ws,b.2=w0 :: ws:=by
    cases e:b.2 with
    | nil=>have:=C.w1;rw[e]at this;cases this
    | cons x l=>exact ⟨x,l,rfl⟩
   have h0:=C.w0;have sh:=LB (d:=.int (w0+1)) C.wi (pZ (by rw[hw]at h0;change 0<=w0/\w0<=120 at h0;omega)) C.w3;have ne:=MB (v:=w0+1) C.w1 (by rw[hw];show w0+1≠w0;omega);have e1:B1 ([.int (w0+1)]++(b.2.map i0).drop 1)=iQ ((w0+1) :: ws):=by rw[hw];rfl
   have hN:=hN (rF rows i b g ((w0+1) :: ws) none none) ⟨_,e1 ▸ sh,e1 ▸ ne,rfl⟩;unfold rF at hN;rw[hw]at hN hw4 ⊢;exact ⟨_,EX (j:=0) rfl,by decide,gK (u0 1) (yL (l:=w0 :: ws) (hw ▸ C.w3) 1) (by decide),hN⟩
  rintro _ ⟨m,hm1,hm2,rfl⟩;with_reducible refine NQ (JF rows i b g m 9) ?_ ?_
  ·intro N hN;refine ⟨_,hat,_,hat,by decide,_,hat,lz rfl,_,hat,by decide,lz rfl,hN _ ⟨_,?_,?_,rfl⟩⟩
   ·refine am (x:=.list _) ⟨(Sh.lst (tu C.p C.w C.l C.h) (n:=4) (u0 4)).mono (by decide) (by decide),AL rfl⟩ ?_;refine am (AO (l:=[iQ b.1,iQ b.2,.int g.1]) (am C.p (am C.w (am C.l a0))) rfl) ?_;refine am (AO (l:=[iQ b.1,iQ b.2,.int g.1,.int g.2,.int 0]) (am C.p (am C.w (am C.l (am C.h (am s0 a0))))) rfl) ?_;refine am (WP (UX mJ) rfl) (am (WP (UX (pZ (x:=7) (by decide))) rfl) (am (AO (l:=[]) a0 rfl) (am (WP (UX Xk) rfl) ?_)));exact am (x:=iQ b.1) ⟨C.p.mono (by decide) (by decide),cw λz=>absurd (show 4<=3 from Q0 (T9 z.symm) hq3) (by decide)⟩ (am (cG (x:=.list _) (HB C.pi (P4 hq3)) C.w C.l C.h (.inl (AL rfl))) a0)
   ·exact u0 9
  rintro _ ⟨ss,hss,hsl,rfl⟩;with_reducible refine NQ (JF rows i b g m 12) ?_ ?_
  ·intro N hN;exact ⟨_,hat,by decide,by decide,lz rfl,gK hsl (u0 3) (by decide),hN _ ⟨_,SJ hss (am (cG (y:=.list _) C.p (HB C.wi (P4 hw4)) C.l C.h (.inr (.inl (AL rfl)))) (am (cG C.p C.w (UX mJ) C.h (.inr (.inr (.inl (yO rfl)))))
     (am (AO (l:=[iQ b.2,iQ b.2,.int g.1]) (am C.w (am C.w (am C.l a0))) rfl) a0))),ZH hsl rfl,rfl⟩⟩
  rintro _ ⟨ss,hss,hsl,rfl⟩;with_reducible refine NQ (JF rows i b g m 15) ?_ ?_
  ·intro N hN;exact ⟨of_decide_eq_true (pZ C.t).s,M8 _ _,hq1,hq2,hq5 _,_,hat,by decide,lz rfl,gK hsl (u0 3) (by decide),hN _ ⟨_,SJ hss (am (cG (u:=.str _) C.p C.w C.l (kL C.t) (.inr (.inr (.inr (yO rfl))))) (am (cG (bw (v:=-1) (by decide) hq4) C.w C.l C.h (.inl (JB C.p1 C.pr (.inl (by decide)))))
     (am (cG C.p hm1 s0 s0 (.inr (.inl hm2))) a0))),ZH hsl rfl,rfl⟩⟩
  rintro _ ⟨ss,hss,hsl,rfl⟩;with_reducible refine NQ (JF rows i b g m 18) ?_ ?_
  ·intro N hN;exact ⟨M8 _ _,hq1,hq2,hq5 _,_,hat,by decide,lz rfl,gK hw4 (u0 1) (by decide),M8 _ _,by decide,by decide,lz rfl,gK hsl (u0 3) (by decide),hN _ ⟨_,SJ hss (am (cG (bw (v:=99) (by decide) hq4) C.w C.l C.h (.inl (JB C.p1 C.pr (.inr (by decide))))) (am (cG C.p (QD C.wi (pZ (x:=0) (by decide)) C.w3) C.l C.h (.inr (.inl RD)))
     (am (cG (x:=.none) (y:=.none) (z:=.none) (u:=.none) (UX mJ) (UX mJ) (UX mJ) (UX mJ) (.inl (AL rfl))) a0))),ZH hsl rfl,rfl⟩⟩
  rintro _ ⟨ss,hss,hsl,rfl⟩;with_reducible refine NQ (JF rows i b g m 21) ?_ ?_
  ·intro N hN;exact ⟨by decide,gK (u0 1) (yL C.w3 _) (by decide),gK hq3 (u0 1) (by decide),_,hat,by decide,lz rfl,gK hsl (u0 3) (by decide),hN _ ⟨_,SJ hss (am (cG C.p (LB C.wi (pZ (x:=-1) (by decide)) C.w3) C.l C.h (.inr (.inl (MB C.w1 (λe=>by have:=C.w0;rw[<- e]at this;exact absurd this.1 (by decide)))))) (am (cG (QD C.pi (pZ (x:=0) (by decide)) C.p3) C.w C.l C.h (.inl RD))
     (am (cG C.p s0 s0 s0 (.inr (.inl (AL rfl)))) a0))),ZH hsl rfl,rfl⟩⟩
  rintro _ ⟨ss,hss,hsl,rfl⟩;with_reducible refine NQ (JF rows i b g m 27) ?_ ?_
  ·intro N hN;refine ⟨by omega,by omega,?_⟩;refine zX (λrest ρ=>∃t k:Nat,t+k=b.1.length/\rest=(List.range' t k).map (λi:Nat=>i0 (0+i))/\JF rows i b g m (21+2 * t) ρ) ?_ ?_ ⟨0,b.1.length,e7 _,by rw[CQ,j0,List.range_eq_range'];rfl,ss,hss,hsl,rfl⟩
   ·rintro d ds ρ ⟨t,k,hk,e1,ss,hss,hsl,rfl⟩ N hN;cases k with
    | zero=>cases e1
    | succ k =>
     rw[List.range'_succ,T1]at e1;cases e1;rw[show (0:Int)+(t:Int)=((t:Nat):Int) from T8 _];have ht1:t < b.1.length:=by omega
     have ht2:t < b.2.length:=by rw[C.e];exact ht1
     have ht3:22+2 * t<=100000:=by have:=C.p3;omega
     refine gnC (ρ':=[ZA (.list rows),ZA (.int (i:Nat)),ZA (iQ b.1),ZA (iQ b.2),ZA (.int g.1),ZA (.int g.2),ZA (iQ m),YA (.list ss),ZA (.int (t:Nat)),none]) rfl ?_;with_reducible refine NQ (λρ=>∃ss':List PyData,(∀d∈ss',Og (lL b g) d)/\ss'.length<=22+2 * t/\ρ=[ZA (.list rows),ZA (.int (i:Nat)),ZA (iQ b.1),ZA (iQ b.2),ZA (.int g.1),ZA (.int g.2),ZA (iQ m),YA (.list ss'),ZA (.int (t:Nat)),none]) ?_ ?_
     ·intro N' hN';refine ⟨_,jJ ht2,[0,1],rfl,rZ (λ_=>?_) (λ_=>hN' _ ⟨ss,hss,by omega,rfl⟩)⟩;refine ⟨nn t,_,jJ ht2,gK (tk3 C.w3 _) (u0 1) (by decide),n1 t,gK (wY (tk3 C.w3 _) (u0 1)) (yL C.w3 _) (by decide),eU hsl (by omega),hN' _ ⟨_,SJ hss (xO ?_),Q0 (wY hsl (u0 1)) (by omega),rfl⟩⟩;exact cG C.p (fw (k:=t) C.wi (bY (decide (b.2.getD t 0=1))) ht2 (P4 C.w3)) C.l C.h (.inr (.inl (PD SD)))
     rintro _ ⟨ss',hss',hsl',rfl⟩;refine ⟨_,jJ ht1,[0,1],rfl,rZ (λ_=>?_) (λ_=>hN _ ⟨t+1,k,by omega,rfl,ss',hss',by omega,rfl⟩)⟩;refine ⟨nn t,_,jJ ht1,gK (tk3 C.p3 _) (u0 1) (by decide),n1 t,gK (wY (tk3 C.p3 _) (u0 1)) (yL C.p3 _) (by decide),eU hsl' ht3,hN _ ⟨t+1,k,by omega,rfl,_,SJ hss' (xO ?_),Q0 (wY hsl' (u0 1)) (by omega),rfl⟩⟩;exact cG (fw (k:=t) C.pi (bY (decide (b.1.getD t 0=1))) ht1 (P4 C.p3)) C.w C.l C.h (.inl (PD SD))
   ·rintro ρ ⟨t,k,hk,e1,ss,hss,hsl,rfl⟩;exact hN _ ⟨ss,hss,by have:=C.p3;omega,rfl⟩
  rintro _ ⟨ss,hss,hsl,rfl⟩;with_reducible refine NQ (JF rows i b g m 28) ?_ ?_
  ·intro N hN;exact ⟨[0,1],rfl,rZ (λ_=>⟨eU hsl (by decide),hN _ ⟨_,SJ hss (xO (cG (z:=.bool _) C.p C.w (UX (bY _)) C.h (.inr (.inr (.inl (yO rfl)))))),ZH hsl rfl,rfl⟩⟩) (λ_=>hN _ ⟨ss,hss,P4 hsl,rfl⟩)⟩
  rintro _ ⟨ss,hss,hsl,rfl⟩;with_reducible refine NQ (JF rows i b g m 29) ?_ ?_
  ·intro N hN;exact ⟨[0,1],rfl,rZ (λ_=>⟨eU hsl (by decide),hN _ ⟨_,SJ hss (xO (cG (u:=.bool _) C.p C.w C.l (UX (bY _)) (.inr (.inr (.inr (yO rfl)))))),ZH hsl rfl,rfl⟩⟩) (λ_=>hN _ ⟨ss,hss,P4 hsl,rfl⟩)⟩
  rintro _ ⟨ss,hss,hsl,rfl⟩;have c1:DZ ((i:Nat):Int) rows.length=i:=UZ rfl;have c2:DZ (((i:Nat):Int)+1) rows.length=i+1:=UZ rfl;have htk:∀n:Nat,(rows.take n).length<=576:=λn=>Q0 (N7 _ _) hrl;have hdp:∀n:Nat,(rows.drop n).length<=576:=λn=>by rw[V1];exact Q0 (M9 _ _) hrl
  with_reducible refine NQ (JG rows i b g m 29) ?_ ?_
  ·intro N hN;refine ⟨Q0 hsl (by decide),qJ (λone=>.list (rows.take (DZ ((i:Nat):Int) rows.length)++[one]++rows.drop (DZ (((i:Nat):Int)+1) rows.length))) ?_ ?_⟩
   ·intro d hd N' hN';exact ⟨gK (htk _) (u0 1) (by decide),gK (wY (htk _) (u0 1)) (hdp _) (by decide),hN'⟩
   ·refine hN _ ⟨_,_,λd hd=>?_,by rw[j0];exact hsl,rfl⟩;obtain⟨one,ho,rfl⟩:=J0.mp hd;rw[c1,c2];exact MD hS hrl hr (hss one ho).sh (hss one ho).ne
  rintro _ ⟨fs,x7,hfs,hfl,rfl⟩;with_reducible refine NQ (JG rows i b g m 33) ?_ ?_
  ·intro N hN;refine ⟨gK (htk _) (hdp _) (by decide),nn i,n1 i,gK (b:=576) hrl (by rw[V1];exact Q0 (M9 _ _) (htk _)) (by decide),gK (htk _) (hdp _) (by decide),gK hfl (u0 4) (by decide),hN _ ⟨_,_,ZW hfs (am ?_ (am ?_ (am ?_ (am ?_ a0)))),ZH hfl rfl,rfl⟩⟩
   ·exact ((Sh.tup hS (n:=600) (Q0 hrl (by decide))).mono (by decide) (by decide):Sh 2000000 5 (.tuple rows)).nop (neL rfl)
   ·exact UU (m:=DZ ((i:Nat):Int) rows.length) (n:=DZ (((i:Nat):Int)+1) rows.length) hS hrl (by rw[c1];omega) (by rw[c1,c2];omega) (by rw[c1,c2];omega)
   ·refine hZ (tF hS λd hd=>hS d (S3 (j4 hd))) (wY hrl (b:=24) ?_) λe=>?_
    ·show ((rows.take (i+1)).drop i).length<=24;rw[V1,U1];omega
    ·have e:rows++(rows.take (i+1)).drop i=rows:=e;have:=congrArg B4 e;rw[M0,V1,U1]at this;omega
   ·exact UU (m:=DZ (((i:Nat):Int)+1) rows.length) (n:=DZ ((i:Nat):Int) rows.length) hS hrl (by rw[c2];omega) (by rw[c1,c2];omega) (by rw[c1,c2];omega)
  rintro _ ⟨fs,x7,hfs,hfl,rfl⟩;with_reducible refine NQ (JG rows i b g m 35) ?_ ?_
  ·intro N hN;refine rZ (λh=>?_) (λ_=>hN _ ⟨fs,_,hfs,Q0 hfl (by decide),rfl⟩);have h2:(1:Int) < (rows.length:Int):=of_decide_eq_true h;obtain⟨r1,r2⟩:=nL hnd (by omega);exact ⟨rfl,gK (hdp _) (htk _) (by decide),gK hfl (u0 2) (by decide),hN _ ⟨_,_,ZW hfs (am (hZ (λd hd=>hS d (J8.mp hd)) (by rw[A9];exact Q0 hrl (by decide)) r1) (am (hZ (tF (λd hd=>hS d (j4 hd)) λd hd=>hS d (S3 hd)) (by rw[M0,V1,U1];omega) r2) a0)),ZH hfl rfl,rfl⟩⟩
  rintro _ ⟨fs,x7,hfs,hfl,rfl⟩;have h0:rows≠[]:=λe=>by rw[e]at hil;cases hil
  refine ⟨Q0 hrl (by decide),qJ ZP ?_ ?_⟩
  ·intro d hd N' hN';obtain⟨_,x,y,z,u,rfl⟩:=hT d hd;exact ⟨by decide,hN'⟩
  refine ⟨gK hfl (u0 9) (by decide),q _ _ (ZW hfs (am (Zk (UX mJ) rfl) (am (Zk (UX (pZ (x:=7) (by decide))) rfl) (am (Zk (UX (bY true)) rfl) (am (Zk (UX Xk) rfl) (am ⟨neL rfl,rfl,rfl,rfl,by decide,by decide +kernel⟩ (am (hZ (l:=[]) a0 (by decide) λe=>h0 e.symm) (am (Zk (XW (l:=[]) a0 (by decide)) rfl) (am ?_ (am ?_ a0)))))))))) (Q0 (wY hfl (u0 9)) (by decide))⟩
  ·have s1:Sh 1300000 3 (.list rows):=(Sh.lst hS (n:=600) (Q0 hrl (by decide))).mono (by decide) (by decide);refine ((Sh.lst (l:=[.list rows]) (n:=1) (am s1 a0) (u0 1)).mono (by decide) (by decide):Sh 2000000 5 (.list [.list rows])).nop λe=>?_;injection e with e;obtain⟨_,x,y,z,u,e2⟩:=hT (.list rows) (by rw[<- e];exact Z0.mpr (by rw[e]));cases e2
  ·refine hZ (l:=rows.map ZP) (λd hd=>?_) (by rw[j0];exact Q0 hrl (by decide)) λe=>?_
   ·obtain⟨r,hr',rfl⟩:=J0.mp hd;exact (hT r hr').1
   ·cases rows with
    | nil=>exact h0 rfl
    | cons r rs=>obtain⟨_,x,y,z,u,e2⟩:=hT r v0;rw[e2]at e;injection e with e;injection e with e;injection e with _ e;injection e with _ e;cases e
theorem cY:∀{p sd:List Int},Wi p sd->Pc p (p.map λ_=>0) sd
 | [],[],_=>trivial
 | x :: p,s :: sd,h=>⟨⟨h.1.1,h.1.2,g6 0,by have:=h.1;show (1:Int)<=s - x;omega⟩,cY h.2⟩
 | [],_ :: _,h=>h.elim
 | _ :: _,[],h=>h.elim
theorem pL{p sd:List Int}(h:Wi p sd):p∈tX sd:=sF (b:=(p,p.map λ_=>0)) (cY h)
theorem aG{sd p:List Int}(h:Wi p sd):cU sd cl (p,p.map λ_=>0)=(cK sd cl p,cK sd cl p):=by refine dW (b:=(p,p.map λ_=>0)) (cY h) (XH λx hx=>?_);obtain⟨_,_,rfl⟩:=J0.mp hx;rfl
theorem yu{sd:List Int}(hsd:Sd sd)(hcl:cl.length=(tX sd).length)(hB:∀c∈cl,YV c){b:PQ}(hb:Pc b.1 b.2 sd):YV (cU sd cl b).1/\YV (cU sd cl b).2:=by
 have hne:=aY (cl:=cl) (FY hb);have all:∀c∈nZ sd cl b.1 (nJ b.1 b.2),YV c:=λc hc=>by unfold nZ at hc;obtain⟨p,hp,rfl⟩:=J0.mp hc;exact hB _ (KD hsd.p hcl (pL (jk (FY hb) hp)))
 exact ⟨all _ (MJ hne).1,all _ (NJ hne).1⟩
theorem qL{x:Int×Int}(h:YV x.1/\YV x.2):Bd x:=by obtain⟨⟨h1,h2⟩,h3,h4⟩:=h;exact ⟨by omega,by omega⟩
theorem vF{sd cl cl':List Int}(hsd:Sd sd)(hcl:cl.length=(tX sd).length){r:Nat}(hr:r < cl.length)(e:cl'=cl.set r (cl.getD r 0+1)):G3 ((XQ sd).map (DK sd cl))≠.list ((XQ sd).map (DK sd cl')):=λh=>by
 injection h with h;have hcl':cl'.length=(tX sd).length:=by rw[e,o4];exact hcl
 obtain⟨p,hp⟩:∃p,(tX sd)[r]?=some p:=⟨_,A0 (by omega)⟩;have hw:=iJ (Q1 hp);have cat:∀{cl:List Int},cl.length=(tX sd).length->r < cl.length->cK sd cl p=cl.getD r 0:=λ{cl} hl hr=>by
  have h1:((tX sd).zip cl)[r]?=some (p,cl.getD r 0):=by rw[N5];exact ⟨hp,by rw[Y0,A0 hr];rfl⟩
  rw[LU hsd.p hl,X0,hp]at h1;injection h1 with h1;injection h1
 have h2:=w8.mp h (p,p.map λ_=>0) (pcs_mem.mpr (cY hw));injection h2 with h2;simp only[List.cons.injEq,PyData.int.injEq,true_and,and_true]at h2;have e1:=congrArg Prod.fst (aG (cl:=cl) hw);have e2:=congrArg Prod.fst (aG (cl:=cl') hw);dsimp only at e1 e2;have e3:cK sd cl p=cK sd cl' p:=by rw[<- e1,<- e2];exact h2.1
 rw[cat hcl hr,cat hcl' (by rw[e,o4];exact hr),e]at e3;rw[Y0,Y0,j6 hr]at e3;have e4:cl[r]?.getD 0=cl[r]?.getD 0+1:=e3;omega
theorem jw{sd cl:List Int}(hsd:Sd sd)(h24:VQ sd<=24){V:PQ->Int×Int}{b:PQ}{x:Int×Int}(hb:b∈XQ sd)(hx:x≠cU sd cl b)(hV:∀c∈XQ sd,ON sd cl (some (b,x)) c (V c)):Nop ((XQ sd).map (DK sd cl)) (.list ((XQ sd).map (HD V))):=by
 refine hZ (λd hd=>?_) (by rw[j0];exact Q0 (RU hsd h24) (by decide)) λe=>?_
 ·obtain⟨c,hc,rfl⟩:=J0.mp hd;exact (YW hsd h24 (pcs_mem.mp hc) (hV c hc).1).1
 ·have h:=w8.mp e b hb;injection h with h;simp only[List.cons.injEq,PyData.int.injEq,true_and,and_true]at h;have h2:=(hV b hb).2.2 x rfl;exact hx (by rw[<- h2];exact Prod.ext h.1 h.2)
theorem rL(b:PQ)(g:Int×Int)(h1:b.1.length<=4)(h2:b.2.length<=4):SN 2 (.tuple [iQ b.1,iQ b.2,.int g.1,.int g.2]):=by have ii:∀l:List Int,l.length<=4->SN 1 (iQ l):=λl hl=>⟨by rw[j0];exact hl,λd hd=>by obtain⟨x,_,rfl⟩:=J0.mp hd;trivial⟩;exact ⟨u0 4,tu (ii _ h1) (ii _ h2) trivial trivial⟩
theorem kw(h:YV g.1/\YV g.2){a:Int}(e:a=g.1+1\/a=g.1 - 1):(a,g.2)≠g/\Bd (a,g.2):=by
 obtain⟨⟨g1,g2⟩,g3,g4⟩:=h;refine ⟨λz=>?_,?_,?_⟩
 ·have:=congrArg Prod.fst z;dsimp only at this;omega
 ·dsimp only;omega
 ·dsimp only;omega
theorem OB(h:YV g.1/\YV g.2){a:Int}(e:a=g.2+1\/a=g.2 - 1):(g.1,a)≠g/\Bd (g.1,a):=by obtain⟨h1,h2⟩:=kw (g:=(g.2,g.1)) ⟨h.2,h.1⟩ e;exact ⟨λz=>h1 (by rw[<- z]),h2.2,h2.1⟩
theorem VN{ks:List Nat}{ti:tG}{g:rJ}{tb:VJ}{E:DE}(ds:List PyData)(ρ':Ev)(h:∀Q:List PyData->Ev->Prop,Q ds ρ'->ti ρ Q)(w:xZ ks g tb E ds (clean ks ρ')):QF ks ti g tb E ρ:=h _ w
noncomputable abbrev dG(ns:List Int)(k l:Int)(sd cl:List Int)(r5 r6 r8 r14 r15 r16 r17:Option Sl):Ev:=[ZA (bJ ns),YA (CZ ns k l),ZA (zK sd cl),ZA (qU (DX sd cl)),ZA (iQ sd),r5,r6,none,r8,none,none,none,none,none,r14,r15,r16,r17]
structure CalsL(P:Program)(w:World)(K:n0)(mg:Str->Option Value)(base:Heap):Prop where
 law_pen:Cal P w K mg base 1 "_law_pen" ["_law_script"] (pQ K qN)
 law_take:Cal P w K mg base 1 "_law_take" ["_law_pen_here","_law_most"] (pQ K IH)
 law_small:Cal P w K mg base 3 "_law_small" ["_law_pen_here"] (pQ K Ek)
 law_made:Cal P w K mg base 12 "_law_made" ["_law_sides","_law_known","_law_at","_law_bent"] (pQ K GB)
 law_forms:Cal P w K mg base 1 "_law_forms" ["_law_rows","_law_at"] (pQ K gw)
 law_where:Cal P w K mg base 2 "_law_where" ["_law_pen_here","_law_many"] (pQ K Hk)
 law_by_one:Cal P w K mg base 3 "_law_by_one" ["_law_thing"] (pQ K (TN 3))
 holds_powers:Cal P w K mg base 5 "holds_powers" ["field","thing"] (pQ K NR)
def cLaw:Con:=λargs Q=>∃ns:List Int,args=[.fz (bJ ns)]/\ns.length<=63/\∀o,Q (.fz (.bool true)) o
theorem cLaw_at(ns:List Int)(h:ns.length<=63):cLaw [.fz (bJ ns)] λr _=>r=.fz (.bool true):=⟨ns,rfl,h,λ_=>rfl⟩
theorem WN:FnScope ["_law_script","_law_pen_here","_law_field","_law_known","_law_sides","_law_rows","_law_wrong","_law_k","_law_at","_law_place","_law_powers","_law_least","_law_greatest","_law_other","_law_thing","_law_kept","_law_some","_law_cells"] ["_law_script"] (mQ (top 35)):=⟨rfl,rfl,rfl,by decide +kernel,rfl,by decide +kernel,by decide +kernel⟩
theorem sL(F:Fun K "law" "law" (top 35) f fd)(T:Txt mg)(C:CalsL P w K mg base):FnOk P w K mg base iZ 13 f fd ["_law_script"] (pQ K cLaw):=by
 have S:=WN;refine tK F S (λcdv A outer s H E hr=>(kQ (BQ (i:=1) S.nd rfl (Or.inl rfl) (lX C.law_pen (hr.mono (by first|decide|omega)) (eQ (wn 0) fQ)))
     (kQ (IG (GZ C.law_small (hr.mono (by first|decide|omega)) (eQ (wn 1) fQ)) (EJ rfl rfl (LQ (qQ (i:=2) S.nd rfl (Or.inl rfl)) (LQ (qQ (i:=3) S.nd rfl (Or.inl rfl)) yZ))))
     (kQ (BQ (i:=4) S.nd rfl (Or.inl rfl) (MQ rfl (wn 2) (wx gQ)))
     (kQ (BQ (i:=5) S.nd rfl (Or.inr rfl) (lX C.law_made (hr.mono (by first|decide|omega)) (eQ (wn 4) (eQ (wn 3) (eQ (wx NV) (eQ (wx NV) fQ))))))
     (kQ (tZ (AX BU sY (wx (lX C.holds_powers (hr.mono (by first|decide|omega)) (eQ (wn 2) (eQ (wx (pX WJ (XX (K:=K) rfl) T.list_ boot_list (eQ (wn 5) fQ))) fQ)))) (wx sK)) (rQ (RQ sK)) xX)
     (kQ (BQ (i:=6) S.nd rfl (Or.inl rfl) (lX C.law_forms (hr.mono (by first|decide|omega)) (eQ (wx (wv 5)) (eQ (wx (GZ C.law_take (hr.mono (by first|decide|omega)) (eQ (wn 1) (eQ (wx (xQ jX (GQ (K:=K) rfl) T.len_ PySem.boot_len (eQ (wn 5) fQ))) fQ)))) fQ))))
     (kQ (JX [7,8,13,9,10,11,12] PassesOwn.never rfl (FJ T.range_ (eQ (wx gQ) fQ)) (qQ (i:=7) S.nd rfl (Or.inl rfl)) (kQ (BQ (i:=8) S.nd rfl (Or.inr rfl) (GZ C.law_take (hr.mono (by first|decide|omega)) (eQ (wn 1) (eQ (wx (xQ jX (GQ (K:=K) rfl) T.len_ PySem.boot_len (eQ (wn 5) fQ))) fQ))))
     (kQ (IG (MQ rfl (wn 5) (wn 8)) (EJ rfl rfl (LQ (qQ (i:=9) S.nd rfl (Or.inl rfl)) (LQ (qQ (i:=10) S.nd rfl (Or.inl rfl)) (LQ (qQ (i:=11) S.nd rfl (Or.inl rfl)) (LQ (qQ (i:=12) S.nd rfl (Or.inl rfl)) yZ))))))
     (rQ (JX [13] PassesOwn.never rfl (bX rfl (WQ (eQ (wx (tQ (eQ (wx (w_bin lQ jQ (wn 11) (wx gQ))) (eQ (wx (wv 12)) fQ)))) (eQ (wx (tQ (eQ (wx (w_bin RX MX (wn 11) (wx gQ))) (eQ (wx (wv 12)) fQ)))) (eQ (wx (tQ (eQ (wx (wv 11)) (eQ (wx (w_bin lQ jQ (wn 12) (wx gQ))) fQ)))) (eQ (wx (tQ (eQ (wx (wv 11)) (eQ (wx (w_bin RX MX (wn 12) (wx gQ))) fQ)))) fQ)))))) (qQ (i:=13) S.nd rfl (Or.inl rfl)) (kQ (jZ (Xq IX rfl PySem.F.slot_list_append PySem.F.type_list_append GX (wn 6) (eQ (wx (w_bin lQ jQ (wx (w_bin lQ jQ (wx (HZ rfl (wn 5) (wn 8))) (wx (WQ (eQ (wx (w_bin lQ jQ (wx (tQ (eQ (wx (wv 9)) (eQ (wx (wv 10)) fQ)))) (wn 13))) fQ))))) (wx (IZ rfl (wn 5) (wx (w_bin lQ jQ (wn 8) (wx gQ))))))) fQ)))
     (rQ (jZ (Xq IX rfl PySem.F.slot_list_append PySem.F.type_list_append GX (wn 6) (eQ (wx (lX C.law_made (hr.mono (by first|decide|omega)) (eQ (wn 4) (eQ (wn 3) (eQ (wx (tQ (eQ (wx (wv 9)) (eQ (wx (wv 10)) fQ)))) (eQ (wn 13) fQ)))))) fQ))))))))))
     (kQ (JX [14,15] PassesOwn.never rfl (bX rfl (wv 6)) (qQ (i:=14) S.nd rfl (Or.inl rfl)) (kQ (BQ (i:=15) S.nd rfl (Or.inl rfl) (xQ HH (MW (K:=K) rfl hr) T.repr_ boot_repr (eQ (wn 14) fQ)))
     (rQ (tZ (vL (GG (AX BU sY (wx (lX C.holds_powers (hr.mono (by first|decide|omega)) (eQ (wn 2) (eQ (wn 14) fQ)))) (wx sK)) (uH (AX PF (zU (K:=K) rfl hr.units) (wx (xQ HH (MW (K:=K) rfl hr) T.repr_ boot_repr (eQ (wn 14) fQ))) (wn 15))))) (rQ (RQ sK)) xX))))
     (kQ (JX [16,14] PassesOwn.never rfl (bX rfl (GZ C.law_where (hr.mono (by first|decide|omega)) (eQ (wn 1) (eQ (wx (xQ jX (GQ (K:=K) rfl) T.len_ PySem.boot_len (eQ (wn 5) fQ))) fQ)))) (qQ (i:=8) S.nd rfl (Or.inr rfl)) (kQ (AU (i:=16) S.nd rfl rfl rfl (own:=["_law_one"]) (fr:=[5,8]) (by kernel_rfl) (bX rfl (lX C.law_by_one (hr.mono (by first|decide|omega)) (eQ (wx (MQ rfl (wn 5) (wn 8))) fQ))) (λ_ _ _ _=>(qQ (i:=0) (by decide +kernel:O2 (["_law_one","_law_rows","_law_at"]:List Str)) rfl (Or.inl rfl))) (λ_ _ _ _=>zW) (λ_ _ _ _=>(w_bin lQ jQ (wx (w_bin lQ jQ (wx (HZ rfl (wn 1) (wn 2))) (wx (WQ (eQ (wx (wv 0)) fQ))))) (wx (IZ rfl (wn 1) (wx (w_bin lQ jQ (wn 2) (wx gQ))))))))
     (rQ (JX [14] PassesOwn.never rfl (bX rfl (w_bin lQ jQ (wn 16) (wx (WQ (eQ (wx (w_bin lQ jQ (wx (HZ rfl (wn 5) (wn 8))) (wx (IZ rfl (wn 5) (wx (w_bin lQ jQ (wn 8) (wx gQ))))))) (eQ (wx (w_bin lQ jQ (wx (HZ rfl (wn 5) (wx (w_bin lQ jQ (wn 8) (wx gQ))))) (wx (IZ rfl (wn 5) (wn 8))))) fQ)))))) (qQ (i:=14) S.nd rfl (Or.inl rfl)) (rQ (tZ (AX BU sY (wx (lX C.holds_powers (hr.mono (by first|decide|omega)) (eQ (wn 2) (eQ (wn 14) fQ)))) (wx sK)) (rQ (RQ sK)) xX))))))
     (kQ (BQ (i:=17) S.nd rfl (Or.inl rfl) (pX WJ (XX (K:=K) rfl) T.list_ boot_list (eQ (wx (MQ rfl (wn 2) (wx gQ))) fQ)))
     (kQ (Oy (wn 17) (wx (GZ C.law_take (hr.mono (by first|decide|omega)) (eQ (wn 1) (eQ (wx (xQ jX (GQ (K:=K) rfl) T.len_ PySem.boot_len (eQ (wn 17) fQ))) fQ)))))
     (rQ (RQ (Ru (OK Mj Lj (wx (lX C.holds_powers (hr.mono (by first|decide|omega)) (eQ (wx (tQ (eQ (wx (wv 4)) (eQ (wx (pX QZ (HX (K:=K) rfl) T.tuple_ boot_tuple (eQ (wn 17) fQ))) fQ)))) (eQ (wx (pX WJ (XX (K:=K) rfl) T.list_ boot_list (eQ (wn 5) fQ))) fQ)))) (wx sK)) (Qu (OK Mj Lj (wx (lX C.holds_powers (hr.mono (by first|decide|omega)) (eQ (wn 2) (eQ (wn 5) fQ)))) (wx sK)))))))))))))))))) ?_ ?_
 ·rintro args Qd ⟨ns,rfl,_⟩;rfl
 ·rintro args Qd ⟨ns,rfl,hn,q⟩;refine ⟨yQ rfl,?_⟩;with_reducible refine NQ (λρ=>ρ=[ZA (bJ ns),YA (CZ ns 0 0),none,none,none,none,none,none,none,none,none,none,none,none,none,none,none,none]) ?_ ?_
  ·intro N hN;exact ⟨ns,rfl,λo=>hN _ rfl⟩
  rintro _ rfl;with_reducible refine NQ (λρ=>∃(sd cl:List Int) (k l:Int),Sd sd/\VQ sd<=24/\cl.length=(tX sd).length/\(∀c∈cl,YV c)/\0<=k/\0<=l/\ρ=[ZA (bJ ns),YA (CZ ns k l),ZA (zK sd cl),ZA (qU (DX sd cl)),none,none,none,none,none,none,none,none,none,none,none,none,none,none]) ?_ ?_
  ·intro N hN;refine ⟨ns,0,0,rfl,by decide,by decide,λsd cl k l o hsd h24 hcl hB hk hl=>?_⟩;exact ⟨rfl,hN _ ⟨sd,cl,k,l,hsd,h24,hcl,hB,hk,hl,rfl⟩⟩
  rintro _ ⟨sd,cl,k,l,hsd,h24,hcl,hB,hk,hl,rfl⟩;with_reducible refine NQ (λρ=>ρ=dG ns k l sd cl none none none none none none none) ?_ ?_
  ·intro N hN;exact ⟨_,rfl,hN _ rfl⟩
  rintro _ rfl;have h576:=RU hsd h24;have hbig:∀b∈XQ sd,YV (cU sd cl b).1/\YV (cU sd cl b).2:=λb hb=>yu hsd hcl hB (pcs_mem.mp hb);have hBd:∀b∈XQ sd,Bd (cU sd cl b):=λb hb=>qL (hbig b hb);have hS:∀d∈(XQ sd).map (DK sd cl),Sh 2000 2 d:=λd hd=>by obtain⟨c,hc,rfl⟩:=J0.mp hd;exact (YW hsd h24 (pcs_mem.mp hc) (hBd c hc)).1
  have hrl:((XQ sd).map (DK sd cl)).length=(XQ sd).length:=j0 ..;have hpos:1<=(XQ sd).length:=by have h1:=bK hsd.p;have h2:=TZ hsd.p;obtain⟨p,hp⟩:∃p,(tX sd)[0]?=some p:=⟨_,A0 (by omega)⟩;exact List.length_pos_of_mem (pcs_mem.mpr (show Pc (p,p.map λ_=>(0:Int)).1 (p,p.map λ_=>(0:Int)).2 sd from cY (iJ (Q1 hp))))
  have hat:∀i:Nat,i < (XQ sd).length->∃b,b∈XQ sd/\((XQ sd).map (DK sd cl))[i]?=some (.tuple [iQ b.1,iQ b.2,.int (cU sd cl b).1,.int (cU sd cl b).2]):=λi hi=>by obtain⟨b,hb⟩:∃b,(XQ sd)[i]?=some b:=⟨_,A0 hi⟩;exact ⟨b,Q1 hb,by rw[X0,hb];rfl⟩
  have hok:WV (.list ((XQ sd).map (DK sd cl)))=true:=AZ λd hd=>(hS d hd).o;have hr0:((XQ sd).map (DK sd cl)).length<=576:=by rw[hrl];exact h576
  have htk:∀n:Nat,(((XQ sd).map (DK sd cl)).take n).length<=576:=λn=>Q0 (N7 _ _) hr0;have hdp:∀n:Nat,(((XQ sd).map (DK sd cl)).drop n).length<=576:=λn=>by rw[V1];exact Q0 (M9 _ _) hr0
  have hStk:∀n,∀d∈((XQ sd).map (DK sd cl)).take n,Sh 2000 2 d:=λn d hd=>hS d (S3 hd);have hSdr:∀n,∀d∈((XQ sd).map (DK sd cl)).drop n,Sh 2000 2 d:=λn d hd=>hS d (j4 hd);have hother:=@vF sd cl;have hmade:=@jw sd cl hsd h24;with_reducible refine NQ (λρ=>ρ=dG ns k l sd cl (YA (.list ((XQ sd).map (DK sd cl)))) none none none none none none) ?_ ?_
  ·intro N hN;refine ⟨sd,cl,none,rfl,hsd,hcl,hB,λz h=>(by cases h),λV o hV=>?_⟩;have e:(XQ sd).map (HD V)=(XQ sd).map (DK sd cl):=Y1 λb hb=>by
    have:=(hV b hb).2.1 rfl;unfold HD;rw[this]
   rw[e];exact hN _ rfl
  rintro _ rfl;with_reducible refine NQ (λρ=>ρ=dG ns k l sd cl (YA (.list ((XQ sd).map (DK sd cl)))) none none none none none none) ?_ ?_
  ·intro N hN;refine ⟨sd,cl,_,rfl,hok,hsd,hcl,λt o ht=>?_⟩;rw[ht.mpr rfl];exact hN _ rfl
  rintro _ rfl;generalize hrows:(XQ sd).map (DK sd cl)=rows at *;have hr1:(1:Int)<=(rows.length:Nat):=by rw[hrl];exact W9.mpr hpos
  have hr2:(rows.length:Int) < 1000000:=Int.lt_of_le_of_lt (W9.mpr hr0) (by decide);have hr3:(rows.length:Int)<=100000:=Int.le_of_lt (Int.lt_of_le_of_lt (W9.mpr hr0) (by decide));with_reducible refine NQ (λρ=>∃(ws:List PyData) (k l:Int),(∀d∈ws,Nop rows d)/\ws.length<=100/\0<=k/\0<=l/\ρ=dG ns k l sd cl (ZA (.list rows)) (YA (.list ws)) none none none none none) ?_ ?_
  ·intro N hN;refine ⟨ns,k,l,_,rfl,hk,hl,hr1,hr2,λr k1 l1 o r0 r1 hk1 hl1=>?_⟩;obtain⟨i,rfl⟩:=O4 r0;rw[hrl]at r1;refine ⟨sd,cl,i,by rw[hrows];rfl,X9.mp r1,hsd,h24,hBd,λts o hts htl=>?_⟩;rw[hrows]at hts;exact hN _ ⟨ts,k1,l1,hts,htl,hk1,hl1,rfl⟩
  rintro _ ⟨ws,k,l,hws,hwl,hk,hl,rfl⟩;with_reducible refine NQ (λρ=>∃(ws:List PyData) (k l:Int),(∀d∈ws,Nop rows d)/\ws.length<=200/\0<=k/\0<=l/\ρ=dG ns k l sd cl (ZA (.list rows)) (YA (.list ws)) none none none none none) ?_ ?_
  ·intro N hN;refine ⟨by decide,by decide,?_⟩;have hL:(CQ 0 (4:Int).toNat).length=4:=by rw[CQ,j0,E4];rfl
   generalize CQ 0 (4:Int).toNat=L at hL ⊢;refine zX (λrest ρ=>∃(ws:List PyData) (k l:Int),(∀d∈ws,Nop rows d)/\ws.length+8 * rest.length<=132/\0<=k/\0<=l/\ρ=dG ns k l sd cl (ZA (.list rows)) (YA (.list ws)) none none none none none) ?_ ?_ ⟨ws,k,l,hws,by omega,hk,hl,rfl⟩
   ·rintro d ds ρ ⟨ws,k,l,hws,hwl,hk,hl,rfl⟩ N' hN';rw[X2]at hwl;refine ⟨ns,k,l,_,rfl,hk,hl,hr1,hr2,λr k1 l1 o r0 r1 hk1 hl1=>?_⟩;obtain⟨i,rfl⟩:=O4 r0;rw[hrl]at r1;obtain⟨b,hb,hr⟩:=hat i (X9.mp r1);have hbg:=hbig b hb;generalize hg:cU sd cl b=g at hr hbg;have c1:DZ ((i:Nat):Int) rows.length=i:=UZ rfl;have c2:DZ (((i:Nat):Int)+1) rows.length=i+1:=UZ rfl;refine ⟨_,EX hr,rfl,?_⟩;with_reducible refine ER (ρ':=[ZA (bJ ns),YA (CZ ns k1 l1),ZA (zK sd cl),ZA (qU (DX sd cl)),ZA (iQ sd),ZA (.list rows),YA (.list ws),ZA d,ZA (.int (i:Nat)),ZA (iQ b.1),ZA (iQ b.2),ZA (.int g.1),ZA (.int g.2),none,none,none,none,none]) rfl ?_
    with_reducible refine VN [bU (g.1+1,g.2),bU (g.1 - 1,g.2),bU (g.1,g.2+1),bU (g.1,g.2 - 1)] [ZA (bJ ns),YA (CZ ns k1 l1),ZA (zK sd cl),ZA (qU (DX sd cl)),ZA (iQ sd),ZA (.list rows),YA (.list ws),ZA d,ZA (.int (i:Nat)),ZA (iQ b.1),ZA (iQ b.2),ZA (.int g.1),ZA (.int g.2),none,none,none,none,none] ?_ ?_
    ·exact λQ h=>h
    with_reducible refine zX (λrest ρ=>∃ws':List PyData,(∀d∈rest,∃x:Int×Int,d=bU x/\x≠g/\Bd x)/\(∀d∈ws',Nop rows d)/\ws'.length+2 * rest.length<=ws.length+8/\ρ=[ZA (bJ ns),YA (CZ ns k1 l1),ZA (zK sd cl),ZA (qU (DX sd cl)),ZA (iQ sd),ZA (.list rows),YA (.list ws'),ZA d,ZA (.int (i:Nat)),ZA (iQ b.1),ZA (iQ b.2),ZA (.int g.1),ZA (.int g.2),none,none,none,none,none]) ?_ ?_ ⟨ws,?_,hws,?_,rfl⟩
    ·rintro d' ds' ρ ⟨ws',hx,hws',hwl',rfl⟩ N2 hN2;rw[X2]at hwl';obtain⟨x,rfl,hne,hbx⟩:=hx d' v0;have hl1:ws'.length<=200:=by omega
     refine ⟨lz rfl,gK (htk _) (u0 1) (by decide),gK (wY (htk _) (u0 1)) (hdp _) (by decide),eU hl1 (by decide),?_⟩;refine ⟨sd,cl,some (b,x),rfl,hsd,hcl,hB,λz h=>(by cases h;exact hbx),λV o hV=>?_⟩;have n1:Nop rows (.list (rows.take (DZ ((i:Nat):Int) rows.length)++[.tuple [iQ b.1,iQ b.2,.int x.1,.int x.2]]++rows.drop (DZ (((i:Nat):Int)+1) rows.length))):=by rw[c1,c2];refine MD hS hr0 hr (YW hsd h24 (pcs_mem.mp hb) hbx).1 λe=>hne ?_;injection e with e;simp only[List.cons.injEq,PyData.int.injEq,true_and,and_true]at e;exact Prod.ext e.1 e.2
     have n2:=hmade hb (by rw[hg];exact hne) hV;refine ⟨eU (wY hl1 (u0 1)) (by decide),?_⟩;refine hN2 _ ⟨(ws'++[_])++[_],λd hd=>hx d (q0 _ hd),ZW (ZW hws' (am n1 a0)) (am n2 a0),?_,rfl⟩;rw[M0,M0];show ws'.length+1+1+_<=_;omega
    ·rintro ρ ⟨ws',_,hws',hwl',rfl⟩;exact hN' _ ⟨ws',k1,l1,hws',Q0 (O7 (Q0 (Q2 _ _) hwl') _) (by omega),hk1,hl1,rfl⟩
    ·exact am ⟨(g.1+1,g.2),rfl,kw hbg (.inl rfl)⟩ (am ⟨(g.1 - 1,g.2),rfl,kw hbg (.inr rfl)⟩ (am ⟨(g.1,g.2+1),rfl,OB hbg (.inl rfl)⟩ (am ⟨(g.1,g.2 - 1),rfl,OB hbg (.inr rfl)⟩ a0)))
    ·exact u0 _
   ·rintro ρ ⟨ws,k,l,hws,hwl,hk,hl,rfl⟩;exact hN _ ⟨ws,k,l,hws,by omega,hk,hl,rfl⟩
  rintro _ ⟨ws,k,l,hws,hwl,hk,hl,rfl⟩;with_reducible refine NQ (λρ=>ρ=dG ns k l sd cl (ZA (.list rows)) (ZA (.list ws)) none none none none none) ?_ ?_
  ·intro N hN;refine zX (λrest ρ=>(∀d∈rest,Nop rows d)/\ρ=dG ns k l sd cl (ZA (.list rows)) (ZA (.list ws)) none none none none none) ?_ ?_ ⟨hws,rfl⟩
   ·rintro d ds ρ ⟨hd,rfl⟩ N' hN';have hd0:=hd d v0;refine ⟨hd0.sh,hd0.ss,hd0.dd,hd0.ll,?_⟩;refine ⟨sd,cl,d,rfl,hd0.ok,hsd,hcl,λt o ht=>?_⟩;have et:t=false:=U5.mpr λz=>hd0.ne (by rw[<- hrows];exact ht.mp z);rw[et];refine ⟨hd0.sh,hd0.ss,hd0.dd,hd0.ll,rZ (λh=>?_) (λh=>hN' _ ⟨λd hd'=>hd d (q0 _ hd'),rfl⟩)⟩;exfalso;have h:(!decide (d.shown=d.shown))=true:=h;simp at h
   ·rintro ρ ⟨_,rfl⟩;exact hN _ rfl
  rintro _ rfl;with_reducible refine NQ (λρ=>∃(k l:Int) (x8:Option Sl),0<=k/\0<=l/\ρ=dG ns k l sd cl (ZA (.list rows)) (ZA (.list ws)) x8 none none none none) ?_ ?_
  ·intro N hN;refine ⟨ns,k,l,_,rfl,hk,hl,hr1,hr3,λrs k1 l1 o hrs hrn hk1 hl1=>?_⟩;rw[hrl]at hrs;refine zX (λrest ρ=>∃(rs:List Int) (x8:Option Sl),rest=rs.map i0/\(∀r∈rs,0<=r/\r < ((XQ sd).length:Int))/\(x8=none\/∃d,x8=ZA d)/\ρ=dG ns k1 l1 sd cl (ZA (.list rows)) (ZA (.list ws)) x8 none none none none) ?_ ?_ ⟨rs,none,rfl,hrs,.inl rfl,rfl⟩
   ·rintro d ds ρ ⟨rs,x8,er,hrs,hx8,rfl⟩ N' hN';cases rs with
    | nil=>cases er
    | cons r rs =>
     cases er;obtain⟨r0,r1⟩:=hrs r v0;obtain⟨i,rfl⟩:=O4 r0;obtain⟨b,hb,hr⟩:=hat i (X9.mp r1);have hbl:=oZ (pcs_mem.mp hb);have h3:=hsd.l3;have c1:DZ ((i:Nat):Int) rows.length=i:=UZ rfl;have c2:DZ (((i:Nat):Int)+1) rows.length=i+1:=UZ rfl;with_reducible refine gnC (ρ':=dG ns k1 l1 sd cl (ZA (.list rows)) (ZA (.list ws)) (ZA (.int (i:Nat))) none none none none) ?_ ?_
     ·rcases hx8 with rfl|⟨d,rfl⟩<;>rfl
     with_reducible refine NQ (λρ=>∃ss:List PyData,(∀d∈ss,d≠.list rows/\WV d=true)/\ss.length<=32/\ρ=dG ns k1 l1 sd cl (ZA (.list rows)) (ZA (.list ws)) (ZA (.int (i:Nat))) none none (YA (.list ss)) none) ?_ ?_
     ·intro N2 hN2;refine ⟨_,EX hr,_,rfl,rL b _ (by omega) (by omega),by decide,λes o hes hel=>?_⟩;have hel:es.length<=32:=hel;refine ⟨zQ (by omega),qJ (λone=>.list (rows.take (DZ ((i:Nat):Int) rows.length)++[one]++rows.drop (DZ (((i:Nat):Int)+1) rows.length))) ?_ ?_⟩
      ·intro one ho N3 hN3;exact ⟨gK (htk _) (u0 1) (by decide),gK (wY (htk _) (u0 1)) (hdp _) (by decide),hN3⟩
      ·refine hN2 _ ⟨_,λd hd=>?_,by rw[j0];exact hel,rfl⟩;obtain⟨one,ho,rfl⟩:=J0.mp hd;obtain⟨h1,h2⟩:=hes one ho;rw[c1,c2];exact ⟨λe=>Yk hr h1 (by injection e),AZ λd hd=>(E1.mp hd).elim (λz=>(E1.mp z).elim (λy=>(hStk _ d y).o) λy=>by rw[Z0.mp y];exact h2) λz=>(hSdr _ d z).o⟩
     rintro _ ⟨ss,hss,hsl,rfl⟩;with_reducible refine VN (ss++[.list (rows.take (DZ ((i:Nat):Int) rows.length)++rows.drop (DZ (((i:Nat):Int)+1) rows.length)),.list (rows.take (DZ (((i:Nat):Int)+1) rows.length)++rows.drop (DZ ((i:Nat):Int) rows.length))]) (dG ns k1 l1 sd cl (ZA (.list rows)) (ZA (.list ws)) (ZA (.int (i:Nat))) none none (YA (.list ss)) none) ?_ ?_
     ·exact λQ h=>⟨gK (htk _) (hdp _) (by decide),gK (htk _) (hdp _) (by decide),gK hsl (u0 2) (by decide),h⟩
     with_reducible refine zX (λrest ρ=>(∀d∈rest,d≠.list rows/\WV d=true)/\ρ=dG ns k1 l1 sd cl (ZA (.list rows)) (ZA (.list ws)) (ZA (.int (i:Nat))) none none (YA (.list ss)) none) ?_ ?_ ⟨?_,rfl⟩
     ·rintro d ds ρ ⟨hd,rfl⟩ N2 hN2;obtain⟨d1,d2⟩:=hd d v0;refine ⟨sd,cl,d,rfl,d2,hsd,hcl,λt o ht=>?_⟩;have et:t=false:=U5.mpr λz=>d1 (by rw[<- hrows];exact ht.mp z);rw[et];exact hN2 _ ⟨λd hd'=>hd d (q0 _ hd'),rfl⟩
     ·rintro ρ ⟨_,rfl⟩;exact hN' _ ⟨rs,ZA (.int (i:Nat)),rfl,λr hr=>hrs r (q0 _ hr),.inr ⟨_,rfl⟩,rfl⟩
     ·intro d hd;rcases E1.mp hd with z|z
      ·exact hss d z
      ·rw[c1,c2]at z;have two:∀m n:Nat,m+(rows.length - n)≠rows.length->m<=rows.length->m+(rows.length - n)<=600->G3 (rows.take m++rows.drop n)≠.list rows/\WV (.list (rows.take m++rows.drop n))=true:=λm n h1 h2 h3=>⟨(UU hS hr0 h2 h1 h3).ne,(UU hS hr0 h2 h1 h3).ok⟩;exact am (p:=λd=>d≠.list rows/\WV d=true) (two i (i+1) (by omega) (by omega) (by omega)) (am (two (i+1) i (by omega) (by omega) (by omega)) a0) d z
   ·rintro ρ ⟨rs,x8,_,_,_,rfl⟩;exact hN _ ⟨k1,l1,x8,hk1,hl1,rfl⟩
  rintro _ ⟨k,l,x8,hk,hl,rfl⟩;have hcm:(cl.map i0).length=cl.length:=j0 ..;have hc1:1<=cl.length:=by have h1:=bK hsd.p;have h2:=TZ hsd.p;omega
  have hc2:cl.length<=120:=by rw[hcl];exact ZY hsd
  with_reducible refine NQ (λρ=>ρ=dG ns k l sd cl (ZA (.list rows)) (ZA (.list ws)) x8 none none none (YA (.list (cl.map i0)))) ?_ ?_
  ·intro N hN;exact ⟨_,rfl,hN _ rfl⟩
  rintro _ rfl;with_reducible refine NQ (λρ=>∃(k l:Int) (r:Nat),r < cl.length/\ρ=dG ns k l sd cl (ZA (.list rows)) (ZA (.list ws)) x8 none none none (YA (.list ((cl.set r (cl.getD r 0+1)).map i0)))) ?_ ?_
  ·intro N hN;refine ⟨ns,k,l,_,rfl,hk,hl,by rw[hcm];omega,by rw[hcm];omega,λr k1 l1 o r0 r1 hk1 hl1=>?_⟩;obtain⟨i,rfl⟩:=O4 r0;rw[hcm]at r1;refine ⟨cl.getD i 0,r0,?_,?_⟩
   ·show (cl.map i0)[i]?=_;rw[X0,A0 (by omega),Y0,A0 (by omega)];rfl
   ·refine hN _ ⟨k1,l1,i,by omega,?_⟩;rw[List.map_set];rfl
  rintro _ ⟨k,l,r,hr,rfl⟩;refine ⟨sd,cl.set r (cl.getD r 0+1),.list rows,rfl,hok,hsd,by rw[o4];exact hcl,λt o ht=>?_⟩;have et:t=false:=U5.mpr λz=>hother hsd hcl hr rfl (ht.mp z);rw[et];refine ⟨sd,cl,.list rows,rfl,hok,hsd,hcl,λt o ht=>?_⟩;rw[ht.mpr (by rw[hrows])];exact q _
theorem aR(h:p []):∀us:List Value,us.length=0->p us:=λus e=>by
 cases us with
 | nil=>exact h
 | cons x us=>cases e
theorem len1(h:∀x0,p [x0]):∀us:List Value,us.length=1->p us:=λus e=>by
 cases us with
 | nil=>cases e
 | cons x us=>exact aR (p:=λl=>p (x :: l)) (h x) us (U8 e)
theorem len2(h:∀x0 x1,p [x0,x1]):∀us:List Value,us.length=2->p us:=λus e=>by
 cases us with
 | nil=>cases e
 | cons x us=>exact len1 (p:=λl=>p (x :: l)) (λx1=>h x x1) us (U8 e)
theorem Wq(h:∀x0 x1 x2,p [x0,x1,x2]):∀us:List Value,us.length=3->p us:=λus e=>by
 cases us with
 | nil=>cases e
 | cons x us=>exact len2 (p:=λl=>p (x :: l)) (λx1 x2=>h x x1 x2) us (U8 e)
theorem bR(h:∀x0 x1 x2 x3,p [x0,x1,x2,x3]):∀us:List Value,us.length=4->p us:=λus e=>by
 cases us with
 | nil=>cases e
 | cons x us=>exact Wq (p:=λl=>p (x :: l)) (λx1 x2 x3=>h x x1 x2 x3) us (U8 e)
structure Df(K:n0)(mg:Str->Option Value)(x:Str)(st:Stmt)(f:Addr)(d:FuncData):Prop where
 F:Fun K x x st f d
 m:mg x=some (.ref f)
 k:j5 K (.ref f)=true
section
variable {K:n0}
theorem df_mk(X:K.In h)(G:h.Ns mainGlobals mg){x:Str}{st:Stmt}{f:Addr}{oc:Value}{od an:Option Addr}{osl:Array (Option Value)}{kV doc pm cdv ct:Value}(a:m3 K mainGlobals x=some (some (.ref f)))(l:K.lookup f=some ⟨oc,od,.func (Q5 x x (YZ st) (NX st) (mQ st) .none kV doc pm an cdv ct),osl⟩)(c:W7 K cdv x=true)(k:j5 K (.ref f)=true):Df K mg x st f (Q5 x x (YZ st) (NX st) (mQ st) .none kV doc pm an cdv ct):=⟨OC l c k,PySem.W.mg_of X G a,k⟩
theorem FX(P:Program)(w:World)(base:Heap){k:Nat}{x:Str}{ps:List Str}{sp:Sp}{st:Stmt}{f:Addr}{d:FuncData}(D:Df K mg x st f d)(h:FnOk P w K mg base iZ k f d ps sp)(b:∀(kV doc pm:Value) (an:Option Addr) (cdv ct:Value) (us:List Value),us.length=ps.length->bindArgs (Q5 x x (YZ st) (NX st) (mQ st) .none kV doc pm an cdv ct) ⟨us,[]⟩=pure (ps.zip us)):Cal P w K mg base k x ps sp:=⟨⟨f,d,h,D.m,D.k,D.F.binds b⟩⟩
end
theorem all_mk{l:Y8}{K:n0}{fa f0 f1 f2 f3 f4 f5 f6 f7 f8 f9 f10 f11 f12 f13 f14 f15 f16 f17 f18 f19 f20 f21 f22 f23 f24 f25 f26 f27 f28 f29 f30 f31:Addr}{d0 d1 d2 d3 d4 d5 d6 d7 d8 d9 d10 d11 d12 d13 d14 d15 d16 d17 d18 d19 d20 d21 d22 d23 d24 d25 d26 d27 d28 d29 d30 d31:FuncData}(X:K.In h)(G:h.Ns mainGlobals mg)(hfa:mg "law"=some (.ref fa))(D0:Df K mg "_law_pen" (top 23) f0 d0) (D1:Df K mg "_law_take" (top 24) f1 d1) (D2:Df K mg "_law_places" (top 26) f2 d2) (D3:Df K mg "_law_number" (top 25) f3 d3) (D4:Df K mg "_law_small" (top 27) f4 d4) (D5:Df K mg "_law_most_power" (top 28) f5 d5) (D6:Df K mg "_law_pieces" (top 29) f6 d6) (D7:Df K mg "_law_together" (top 30) f7 d7) (D8:Df K mg "_law_made" (top 31) f8 d8) (D9:Df K mg "_law_forms" (top 32) f9 d9) (D10:Df K mg "_law_where" (top 34) f10 d10) (D11:Df K mg "_law_by_one" (top 33) f11 d11) (D12:Df K mg "one_of_each" (top 3) f12 d12) (D13:Df K mg "places_between" (top 4) f13 d13) (D14:Df K mg "first_place" (top 9) f14 d14) (D15:Df K mg "last_place" (top 10) f15 d15) (D16:Df K mg "all_places" (top 12) f16 d16) (D17:Df K mg "greatest_power" (top 15) f17 d17) (D18:Df K mg "all_pieces" (top 16) f18 d18) (D19:Df K mg "is_whole" (top 1) f19 d19) (D20:Df K mg "are_wholes" (top 2) f20 d20) (D21:Df K mg "is_place" (top 8) f21 d21) (D22:Df K mg "is_entry" (top 19) f22 d22) (D23:Df K mg "index_of" (top 5) f23 d23) (D24:Df K mg "cell_at" (top 11) f24 d24) (D25:Df K mg "replaced" (top 6) f25 d25) (D26:Df K mg "two_to" (top 14) f26 d26) (D27:Df K mg "put_together" (top 17) f27 d27) (D28:Df K mg "from_lesser" (top 21) f28 d28) (D29:Df K mg "is_right" (top 20) f29 d29) (D30:Df K mg "holds_powers" (top 18) f30 d30) (D31:Df K mg "law" (top 35) f31 d31)(z0:m3 K mainGlobals "len"=some none) (z1:m3 K mainGlobals "abs"=some none) (z2:m3 K mainGlobals "max"=some none) (z3:m3 K mainGlobals "min"=some none) (z4:m3 K mainGlobals "zip"=some none) (z5:m3 K mainGlobals "int"=some none) (z6:m3 K mainGlobals "bool"=some none) (z7:m3 K mainGlobals "range"=some none) (z8:m3 K mainGlobals "repr"=some none) (z9:m3 K mainGlobals "sorted"=some none) (z10:m3 K mainGlobals "isinstance"=some none) (z11:m3 K mainGlobals "list"=some none) (z12:m3 K mainGlobals "tuple"=some none) (z13:m3 K mainGlobals "all"=some none) (z14:m3 K mainGlobals "sum"=some none) (z15:m3 K mainGlobals "dict"=some none) (z16:m3 K mainGlobals "enumerate"=some none) (z17:m3 K mainGlobals "str"=some none) (e0:eI K "_law_made" d8=true):∃fd:FuncData,(∀(s:Shared) (v:Value),BindsTo s fd ⟨[v],[]⟩ [("_law_script",v)])/\∀base:Heap,K.In base->base.Ns mainGlobals mg->FnOk l.prog w K mg base iZ 13 fa fd ["_law_script"] (pQ K cLaw):=by
 cases hfa.symm.trans D31.m;have T:Txt mg:=⟨O1 X G z0,O1 X G z1,O1 X G z2,O1 X G z3,O1 X G z4,O1 X G z5,O1 X G z6,O1 X G z7,O1 X G z8,O1 X G z9,O1 X G z10,O1 X G z11,O1 X G z12,O1 X G z13,O1 X G z14,O1 X G z15,O1 X G z16,O1 X G z17⟩;obtain⟨oc,od,kV,doc,pm,an,cdv,ct,osl,e,lk,hcd⟩:=D31.F.ex;refine ⟨d31,λs v=>by subst e;exact .of_eq rfl,λb _ _=>?_⟩;have C0:=FX l.prog w b D0 (JI D0.F) λ_ _ _ _ _ _=>len1 λ_=>rfl;have C1:=FX l.prog w b D1 (Ty D1.F T) λ_ _ _ _ _ _=>len2 λ_ _=>rfl;have C2:=FX l.prog w b D2 (Tq D2.F T) λ_ _ _ _ _ _=>len1 λ_=>rfl;have C3:=FX l.prog w b D3 (Qq D3.F T ⟨C1⟩) λ_ _ _ _ _ _=>len1 λ_=>rfl;have C4:=FX l.prog w b D4 (Fk D4.F T ⟨C1,C2,C3⟩) λ_ _ _ _ _ _=>len1 λ_=>rfl;have C5:=FX l.prog w b D5 (cL D5.F) λ_ _ _ _ _ _=>len1 λ_=>rfl;have C6:=FX l.prog w b D6 (dL D6.F T ⟨C2,C5⟩) λ_ _ _ _ _ _=>len1 λ_=>rfl;have C7:=FX l.prog w b D7 (JN D7.F T) λ_ _ _ _ _ _=>Wq λ_ _ _=>rfl;have C8:=FX l.prog w b D8 (ou D8.F T ⟨C6,C7⟩ (eN e0)) λ_ _ _ _ _ _=>bR λ_ _ _ _=>rfl;have C9:=FX l.prog w b D9 (iw D9.F T) λ_ _ _ _ _ _=>len2 λ_ _=>rfl;have C10:=FX l.prog w b D10 (Ik D10.F T ⟨C1⟩) λ_ _ _ _ _ _=>len2 λ_ _=>rfl;have C11:=FX l.prog w b D11 (UN D11.F T ⟨D11.m,D11.k,D11.F.binds λ_ _ _ _ _ _=>len1 λ_=>rfl⟩) λ_ _ _ _ _ _=>len1 λ_=>rfl;have C12:=FX l.prog w b D12 (Wy D12.F) λ_ _ _ _ _ _=>len1 λ_=>rfl;have C13:=FX l.prog w b D13 (QI D13.F T ⟨C12⟩) λ_ _ _ _ _ _=>len2 λ_ _=>rfl;have C14:=FX l.prog w b D14 (zk D14.F T) λ_ _ _ _ _ _=>len1 λ_=>rfl;have C15:=FX l.prog w b D15 (au D15.F T) λ_ _ _ _ _ _=>len1 λ_=>rfl;have C16:=FX l.prog w b D16 (PU D16.F ⟨C13,C14,C15⟩) λ_ _ _ _ _ _=>len1 λ_=>rfl;have C17:=FX l.prog w b D17 (xN D17.F) λ_ _ _ _ _ _=>len1 λ_=>rfl;have C18:=FX l.prog w b D18 (yN D18.F T ⟨C16,C17,C12⟩) λ_ _ _ _ _ _=>len1 λ_=>rfl;have C19:=FX l.prog w b D19 (Yx D19.F T) λ_ _ _ _ _ _=>len1 λ_=>rfl;have C20:=FX l.prog w b D20 (Vy D20.F T ⟨C19⟩) λ_ _ _ _ _ _=>len2 λ_ _=>rfl;have C21:=FX l.prog w b D21 (lF D21.F T ⟨C20⟩) λ_ _ _ _ _ _=>len2 λ_ _=>rfl;have C22:=FX l.prog w b D22 (LN D22.F T ⟨C21,C20,C19⟩) λ_ _ _ _ _ _=>Wq λ_ _ _=>rfl;have C23:=FX l.prog w b D23 (gk D23.F T) λ_ _ _ _ _ _=>len2 λ_ _=>rfl;have C24:=FX l.prog w b D24 (AN D24.F ⟨C23⟩) λ_ _ _ _ _ _=>len2 λ_ _=>rfl;have C25:=FX l.prog w b D25 (zN D25.F) λ_ _ _ _ _ _=>Wq λ_ _ _=>rfl;have C26:=FX l.prog w b D26 (wN D26.F T) λ_ _ _ _ _ _=>len1 λ_=>rfl;have C27:=FX l.prog w b D27 (BN D27.F T) λ_ _ _ _ _ _=>len1 λ_=>rfl;have C28:=FX l.prog w b D28 (GN D28.F T ⟨C25,C26,C27⟩) λ_ _ _ _ _ _=>Wq λ_ _ _=>rfl;have C29:=FX l.prog w b D29 (KN D29.F T ⟨C24,C28⟩) λ_ _ _ _ _ _=>Wq λ_ _ _=>rfl;have C30:=FX l.prog w b D30 (MN D30.F T ⟨C18,C22,C29⟩) λ_ _ _ _ _ _=>len2 λ_ _=>rfl;exact sL D31.F T ⟨C0,C1,C4,C8,C9,C10,C11,C30⟩
end
end R21
open PySem.W
namespace PySem.W.Fast
def tw8956655559102730287:Unit:=()
def tw11645455795637052330:Unit:=()
def tw13653169359819493540:Unit:=()
def tw8168345747631233901:Unit:=()
def tw1552291371721196916:Unit:=()
def tw8910341639740734383:Unit:=()
def tw12590322422098724079:Unit:=()
def tw12158688548558851187:Unit:=()
def tw9059505316057424878:Unit:=()
def tw10360923640171611528:Unit:=()
def tw13857753492720013501:Unit:=()
def tw3215798824208200160:Unit:=()
def tw16882089866690980837:Unit:=()
def tw16057736213040701168:Unit:=()
def tw3082770464994677697:Unit:=()
def tw5270912440230031719:Unit:=()
def tw9566716981735023046:Unit:=()
def tw7262174815275938779:Unit:=()
def tw15641968790612373602:Unit:=()
def tw15600904892679827938:Unit:=()
def tw16608258073892943415:Unit:=()
def tw3566411510437361772:Unit:=()
def tw12643873694602046216:Unit:=()
def tw13338713485141627613:Unit:=()
def tw12490465516665129244:Unit:=()
def tw6183600802838270013:Unit:=()
def tw2061515233411616036:Unit:=()
def tw10154797118178160055:Unit:=()
def tw15769287263228700737:Unit:=()
def tw10484705112459908666:Unit:=()
def tw17314728406431290505:Unit:=()
def tw4710282321468547406:Unit:=()
def tw4909395212541681587:Unit:=()
def tw860339737222226355:Unit:=()
def tw6279604699925348799:Unit:=()
def tw4930405629751230636:Unit:=()
def tw15691260406208154585:Unit:=()
def tw12409790643216566700:Unit:=()
def tw11866779971184449301:Unit:=()
def tw15199381335048347394:Unit:=()
def tw4521811430813379363:Unit:=()
def tw6748236431927250841:Unit:=()
def tw16196412771577196434:Unit:=()
def tw13810081736480848973:Unit:=()
def tw9784436850034941931:Unit:=()
def tw5613379513926579768:Unit:=()
def tw14171768301056968708:Unit:=()
def tw13672476956727026078:Unit:=()
def tw6950643605660642033:Unit:=()
def tw11823468804693825344:Unit:=()
def tw17887980538697844363:Unit:=()
def tw13777025889729919395:Unit:=()
def tw13253120483162069568:Unit:=()
def tw13282147709546183302:Unit:=()
def tw9447269496477987616:Unit:=()
def tw9097478370411766469:Unit:=()
def tw5673371897383978932:Unit:=()
def tw643658204030035740:Unit:=()
def tw730459627630715427:Unit:=()
def tw6985947065486761138:Unit:=()
def tw10691166767868144370:Unit:=()
def tw4852226284781318362:Unit:=()
def tw17804307651105463073:Unit:=()
def tw16273908159440244545:Unit:=()
def tw2160200197837876985:Unit:=()
def tw2985445346476189723:Unit:=()
def tw13148280295325588246:Unit:=()
def tw4135872769541687570:Unit:=()
def tw6290191213273851159:Unit:=()
def tw8691275266716183999:Unit:=()
def tw15492566410167215939:Unit:=()
def tw2341359262795182970:Unit:=()
def tw4644670299703771393:Unit:=()
def tw153108660929965328:Unit:=()
def tw12695587927665241056:Unit:=()
def tw15982106662601478601:Unit:=()
def tw5362089677782580159:Unit:=()
def tw17277597173074309048:Unit:=()
def tw15845472131258914566:Unit:=()
def tw10608072011750812713:Unit:=()
def tw9723988439458395103:Unit:=()
def tw8926930036871178264:Unit:=()
def tw9269421123696058753:Unit:=()
def tw16551399736572272430:Unit:=()
def tw7784325015858063105:Unit:=()
def tw253244729113539307:Unit:=()
def tw10416775395237863527:Unit:=()
def tw2054665182801498605:Unit:=()
def tw17309543703183608232:Unit:=()
def tw14783579039025577322:Unit:=()
def tw6744683524042258927:Unit:=()
def tw15835404291865734597:Unit:=()
def tw7659017118168555769:Unit:=()
def tw16946151876469079677:Unit:=()
def tw13470909767320957399:Unit:=()
def tw13632769931346041116:Unit:=()
def tw12124838024494813998:Unit:=()
def tw5002336090845106152:Unit:=()
def tw6559947140035320114:Unit:=()
def tw13007749429286028633:Unit:=()
def tw8130656598104162703:Unit:=()
def tw6067536881676051481:Unit:=()
def tw4840732449405011949:Unit:=()
def tw16833587849090448740:Unit:=()
def tw14207692786907336648:Unit:=()
def tw9396957985352191893:Unit:=()
def tw4716347320947033611:Unit:=()
def tw3224337394037139922:Unit:=()
def tw6490819378892559367:Unit:=()
def tw7344945160796447897:Unit:=()
def tw14108679373597673746:Unit:=()
def tw4742808714534207609:Unit:=()
def tw8256254517319955880:Unit:=()
def tw16542679054609048763:Unit:=()
end PySem.W.Fast
set_option maxRecDepth 100000 in
set_option maxHeartbeats 0 in
theorem PySem.Challenge.cw_boxsums_k21_what_is_no_powers_holds : PySem.Challenge.rw_boxsums_k21_what_is_no_powers.Holds := by
 w_on;o_law;k_head;(case hw=>w_witness2)
 k_fill
 refine L3.walkT (l:=PySem.Challenge.rw_boxsums_k21_what_is_no_powers) (k:=13) (x:="_law_script") R21.cLaw_at ⟨rfl,by decide,by decide,rfl⟩ rfl rfl (λw h Y=>⟨PySem.W.km_in_of Y,PySem.W.km_tabs_of Y⟩) (λw=>by kernel_rfl) ?F
 case F =>
  intro w mg fa h KX G hmg
  refine' R21.all_mk KX G hmg (R21.df_mk KX G ?a0 ?l0 ?c0 ?k0) (R21.df_mk KX G ?a1 ?l1 ?c1 ?k1) (R21.df_mk KX G ?a2 ?l2 ?c2 ?k2) (R21.df_mk KX G ?a3 ?l3 ?c3 ?k3) (R21.df_mk KX G ?a4 ?l4 ?c4 ?k4) (R21.df_mk KX G ?a5 ?l5 ?c5 ?k5) (R21.df_mk KX G ?a6 ?l6 ?c6 ?k6) (R21.df_mk KX G ?a7 ?l7 ?c7 ?k7) (R21.df_mk KX G ?a8 ?l8 ?c8 ?k8) (R21.df_mk KX G ?a9 ?l9 ?c9 ?k9) (R21.df_mk KX G ?a10 ?l10 ?c10 ?k10) (R21.df_mk KX G ?a11 ?l11 ?c11 ?k11) (R21.df_mk KX G ?a12 ?l12 ?c12 ?k12) (R21.df_mk KX G ?a13 ?l13 ?c13 ?k13) (R21.df_mk KX G ?a14 ?l14 ?c14 ?k14) (R21.df_mk KX G ?a15 ?l15 ?c15 ?k15) (R21.df_mk KX G ?a16 ?l16 ?c16 ?k16) (R21.df_mk KX G ?a17 ?l17 ?c17 ?k17) (R21.df_mk KX G ?a18 ?l18 ?c18 ?k18) (R21.df_mk KX G ?a19 ?l19 ?c19 ?k19) (R21.df_mk KX G ?a20 ?l20 ?c20 ?k20) (R21.df_mk KX G ?a21 ?l21 ?c21 ?k21) (R21.df_mk KX G ?a22 ?l22 ?c22 ?k22) (R21.df_mk KX G ?a23 ?l23 ?c23 ?k23) (R21.df_mk KX G ?a24 ?l24 ?c24 ?k24) (R21.df_mk KX G ?a25 ?l25 ?c25 ?k25) (R21.df_mk KX G ?a26 ?l26 ?c26 ?k26) (R21.df_mk KX G ?a27 ?l27 ?c27 ?k27) (R21.df_mk KX G ?a28 ?l28 ?c28 ?k28) (R21.df_mk KX G ?a29 ?l29 ?c29 ?k29) (R21.df_mk KX G ?a30 ?l30 ?c30 ?k30) (R21.df_mk KX G ?a31 ?l31 ?c31 ?k31) ?z0 ?z1 ?z2 ?z3 ?z4 ?z5 ?z6 ?z7 ?z8 ?z9 ?z10 ?z11 ?z12 ?z13 ?z14 ?z15 ?z16 ?z17 ?e0
  case a0|l0|c0|k0|a1|l1|c1|k1|a2|l2|c2|k2|a3|l3|c3|k3|a4|l4|c4|k4|a5|l5|c5|k5|a6|l6|c6|k6|a7|l7|c7|k7|a8|l8|c8|k8|a9|l9|c9|k9|a10|l10|c10|k10|a11|l11|c11|k11|a12|l12|c12|k12|a13|l13|c13|k13|a14|l14|c14|k14|a15|l15|c15|k15|a16|l16|c16|k16|a17|l17|c17|k17|a18|l18|c18|k18|a19|l19|c19|k19|a20|l20|c20|k20|a21|l21|c21|k21|a22|l22|c22|k22|a23|l23|c23|k23|a24|l24|c24|k24|a25|l25|c25|k25|a26|l26|c26|k26|a27|l27|c27|k27|a28|l28|c28|k28|a29|l29|c29|k29|a30|l30|c30|k30|a31|l31|c31|k31|z0|z1|z2|z3|z4|z5|z6|z7|z8|z9|z10|z11|z12|z13|z14|z15|z16|z17=>k_is
  case e0=>kernel_rfl
