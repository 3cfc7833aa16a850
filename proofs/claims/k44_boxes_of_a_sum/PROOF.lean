import PyProof.Rows.All
import Wide.All
import OpenK.AllK
import Wide.FinOn
import Lean
import PyProof.EqAt
import PyProof.EqKinds
import PyProof.TupleCall
import KE.KSortTup
import PyProof.Rows.SortRuns
import PyProof.Draws
import PyProof.EnumMake
import KE.KDictLaws
import PySem.Challenge.RW_boxsums_k44_boxes_of_a_sum
set_option Elab.async false
set_option linter.all false
set_option maxRecDepth 100000
set_option maxHeartbeats 4000000
open PySem.Heap renaming get?_push_of_some → g0,lt_size → D0,get?_push_size → J0,size_push → B2,get?_update_self → Y2,get?_update_other → V3,SameBut → q5,get?_push_ne → U6,size_update → n8,get?_update_ne → h9,ExtBut → L9
open List renaming length_map → n0,mem_cons_of_mem → u0,mem_cons_self → B0,length_append → K0,getElem?_eq_getElem → L0,mem_map → M0,range → O0,getElem?_set_ne → P0,size_toArray → Q0,map_map → R0,getElem?_map → D1,map_cons → E1,getElem?_eq_some_iff → J1,getD_eq_getElem?_getD → L1,length_cons → P1,length_singleton → Q1,getElem?_append_right → T1,mem_cons → U1,flatMap_cons → V1,mem_append_right → W1,append_nil → X1,replicate → Z1,getElem?_append_left → E2,Nodup → G2,append_assoc → K2,mem_singleton → P2,mem_append → Q2,map_append → S2,map_congr_left → W2,extract_eq_take_drop → j3,mem_of_getElem? → v3,mem_range → D3,length_range → G3,mem_flatMap → K3,flatMap_append → M3,length_filter_le → N3,foldl_cons → P3,length_take → S3,lookup_cons → U3,pairwise_iff_getElem → X3,replicate_succ → Y3,take_append_drop → o4,mem_filter → u4,find?_cons → v4,range_succ → A4,pairwise_cons → D4,length → E4,map → M4,getElem_of_mem → O4,length_set → P4,getElem?_eq_none_iff → Q4,drop_eq_getElem_cons → S4,pairwise_reverse → T4,map_nil → W4,pairwise_map → X4,getElem?_cons_succ → Y4,filter_cons_of_pos → Z4,filter_cons_of_neg → d5,nodup_cons → i5,of_mem_zip → j5,take_of_length_le → u5,getElem_mem → A5,getElem?_zip_eq_some → K5,forIn_cons → M5,length_zip → O5,flatten_cons → Q5,pairwise_append → T5,sum_cons → V5,forIn_nil → Y5,length_drop → Z5,flatMap_map → j6,pairwise_singleton → m6,flatMap_singleton → t6,pairwise_flatMap → v6,length_nil → E6,zip_cons_cons → G6,filter_append → K6,drop_sublist → T6,getElem?_set_self → W6,mem_iff_getElem? → Z6,perm_append_comm → d7,zipIdx_cons → g7,all_eq_true → i7,countP_cons → m7,ext_getElem → o7,flatMap_nil → t7,mem_append_left → y7,zipIdx_nil → A7,filterMap_cons → G7,mem_map_of_mem → J7,perm_ext_iff_of_nodup → S7,lookup → T7,reverse_perm → X7,any_cons → Z7,getElem?_take_of_lt → h8,mem_reverse → m8,map_flatMap → o8,not_mem_nil → r8,getElem?_replicate → u8,zip_map → y8,drop_of_length_le → D8,nil_append → J8,filter_map → N8,length_replicate → O8,eq_nil_or_concat → P8,getElem?_eq_none → Q8,drop_drop → S8,mem_iff_getElem → U8,mem_of_mem_take → V8,mem_of_mem_drop → W8,getElem?_zipIdx → X8,length_reverse → g9,getElem?_range → i9,mem_filterMap → m9,getElem?_drop → q9,forIn_toArray → t9,getElem_range → v9,map_id → M9,foldl → P9
open PySem.PyData renaming int → q0,tuple → J2,list → X2,shown → O6,shownAll → B7,canLayAll0 → W7,depthAll → L8,canLay0 → R8,showableAll → u9,depth → y9,hasDictAll → G9
open PySem.W renaming Frag → A0,nsIn → T0,keepIn → X0,codeIn → Y0,fnOf → B1,mg_of → G1,mg_none_of → Y1,findIn → Q6,methodObj → V7,cellsFrom_some → B8,OpenLaw → K8,specialIn → E9,instObj → N9
open Nat renaming le_refl → G0,lt_of_lt_of_le → N0,ne_of_lt → W0,le_trans → A1,ne_of_gt → O1,lt_irrefl → B3,le_add_right → E3,lt_of_le_of_lt → J3,add_sub_cancel_left → O3,mul_comm → Q3,zero_le → i4,le_of_lt → o5,mod_eq_of_lt → B5,zero_add → P5,le_of_succ_le → S5,mul_le_mul_right → U5,div_eq_of_lt → i6,add_zero → A6,add_mul → L6,one_mul → M6,succ_mul → N6,lt_succ_of_lt → V6,mul_assoc → u7,div_add_mod → D7,lt_trans → L7,sub_zero → M7,zero_mul → N7,mod_lt → O7,le_of_not_lt → j8,le_mul_of_pos_right → v8,length_repr_le_iff → G8,mul_le_mul → T8,div_lt_of_lt_mul → Y8,pow_le_pow_right → Z8,add_le_add_left → d9,add_comm → x9,lt_or_ge → A9,le_succ → K9
open PySem.Builtin.SmallTypes renaming nextOf → U0,ownedTupleIsFree → Z0,ownedTupleHandOut → Z3
open Array renaming length_toList → V0,toList_append → V2,getElem_toList → A3,toList_extract → J4,perm_iff_toList_perm → E5,getElem?_toList → G5,getElem?_eq_getElem → L5,toList_reverse → x6,size_extract → J6,toList_push → S6,toList_map → j7
open Bool renaming false_ne_true → K1,false_eq_true → B4,and_eq_true → U4,beq_eq_decide_eq → u6,eq_iff_iff → D6,false_and → P6,eq_false_iff → Y7,true_and → d8,not_true → j9
open Ne renaming symm → S1
open Option.some renaming inj → D2
open PyProof.Rows renaming callWith_type1 → O2,slot_tuple_getitem → X6
open PySem.Value renaming ref → T2,none → o6,type → w6,bool → O9
open PySem.Obj renaming mapSeq → U2,data_mapFields → D5,isFreed_of_fields → Y6
open Int renaming mul_le_mul_of_nonneg_left → Z2,toNat_natCast → j4,one_mul → G4,eq_ofNat_of_zero_le → K4,mul_assoc → L4,mul_le_mul_of_nonneg_right → V4,mul_one → v7,natCast_mul → E7,toNat_of_nonneg → K7,emod_lt_of_pos → P7,le_refl → U7,mul_comm → w8,zero_add → x8,zero_mul → A8,emod_nonneg → M8,mul_zero → B9
open Option renaming getD_some → T3,map_eq_some_iff → W3,map_some → N5,isSome_iff_exists → g8,isSome_some → o9
open PySem.Heap.SameBut renaming update → N4
open PySem.Builtin.List renaming listExtendWith → v5,listTooLong → X5,listFitsIndex → R7,listSameRef → i8,listItems → E8
open PySem.Builtin.Slice renaming slicePlaces → J5,sliceAdjust → B6,sliceApplied → Q7
open PySem.Builtin.Tuple renaming tupleExact → W5
open PySem.Builtin.Range renaming rangeSize → t8
open Nat.succ renaming inj → D9
open PySem.Heap.ExtBut renaming push → J9
namespace L2
open PySem PySem.Spec PyProof.Rows
noncomputable abbrev IQ:=Sum Int Str
noncomputable def eV:IQ->Value->Bool
 | .inl k,v=>Value.isInt k v
 | .inr x,v=>Value.isStrOf x v
noncomputable def nO(w:World):IQ->Int
 | .inl k=>hashInt k
 | .inr x=>hashStr w x
theorem YQ:∀{k:IQ}{v:Value},eV k v=true->(∃i t,k=Sum.inl i/\v=Value.int i t)\/(∃x t,k=Sum.inr x/\v=Value.str x t)
 | .inl i,v,h=>by
  obtain⟨t,e⟩:=Value.isInt_shape (k:=i) (v:=v) h
  exact .inl ⟨i,t,rfl,e⟩
 | .inr x,v,h=>by
  obtain⟨t,e⟩:=Value.isStrOf_shape (x:=x) (v:=v) h
  exact .inr ⟨x,t,rfl,e⟩
theorem Iz(i:Int)(t:Tok):eV (.inl i) (.int i t)=true:=by simp[eV,Value.isInt]
theorem Jz(x:Str)(t:Tok):eV (.inr x) (.str x t)=true:=by simp[eV,Value.isStrOf]
theorem oC(a b:Int):decide ((Sum.inl a:IQ)=Sum.inl b)=(a==b):=by
 by_cases e:a=b
 ·subst e;simp
 ·have h:¬(Sum.inl a:IQ)=Sum.inl b:=λq=>e (Sum.inl.inj q)
  rw[decide_eq_false h]
  exact (beq_eq_false_iff_ne.mpr e).symm
theorem pC(a b:Str):decide ((Sum.inr a:IQ)=Sum.inr b)=decide (a=b):=by
 by_cases e:a=b
 ·subst e;simp
 ·have h:¬(Sum.inr a:IQ)=Sum.inr b:=λq=>e (Sum.inr.inj q)
  rw[decide_eq_false h,decide_eq_false e]
theorem qC(a:Int)(b:Str):decide ((Sum.inl a:IQ)=Sum.inr b)=false:=decide_eq_false (λq=>nomatch q)
theorem rC(a:Str)(b:Int):decide ((Sum.inr a:IQ)=Sum.inl b)=false:=decide_eq_false (λq=>nomatch q)
noncomputable def WQ(prog:Program)(w:World):PySem.KeyKind prog w IQ where
 is:=eV
 hash:=nO w
 inj:=λv a b ha hb=>by
  rcases YQ ha with⟨i,t,rfl,rfl⟩|⟨x,t,rfl,rfl⟩
  ·rcases YQ hb with⟨j,u,rfl,e⟩|⟨y,u,rfl,e⟩
   ·injection e with e1 _;rw[e1]
   ·exact nomatch e
  ·rcases YQ hb with⟨j,u,rfl,e⟩|⟨y,u,rfl,e⟩
   ·exact nomatch e
   ·injection e with e1 _;rw[e1]
 byValue:=λk v h=>by
  rcases YQ h with⟨i,t,rfl,rfl⟩|⟨x,t,rfl,rfl⟩<;>rfl
 pyHash:=λhv h=>by
  rcases YQ hv with⟨i,t,rfl,rfl⟩|⟨x,t,rfl,rfl⟩
  ·exact wpAny_pyHash_int h
  ·exact wpAny_pyHash_str h
 eqBool:=λhu hv h=>by
  rcases YQ hu with⟨i,t,rfl,rfl⟩|⟨x,t,rfl,rfl⟩
  ·rcases YQ hv with⟨j,u,rfl,rfl⟩|⟨y,u,rfl,rfl⟩
   ·rw[oC]at h;exact wpAny_eqBool_int h
   ·rw[qC]at h;exact SeqAt.EqAt.int_str i t y u _ _ _ _ h
  ·rcases YQ hv with⟨j,u,rfl,rfl⟩|⟨y,u,rfl,rfl⟩
   ·rw[rC]at h;exact SeqAt.EqAt.str_int x t j u _ _ _ _ h
   ·rw[pC]at h;exact wpAny_eqBool_str h
 «strs»:=λk x t v h=>by
  rcases YQ h with⟨i,u,rfl,e⟩|⟨y,u,rfl,e⟩
  ·exact nomatch e
  ·injection e with e1 _
   subst e1
   cases v<;>rfl
theorem kG(prog:Program)(w:World)(i:Int)(t:Tok):(WQ prog w).is (.inl i) (.int i t)=true:=Iz i t
theorem lG(prog:Program)(w:World)(x:Str)(t:Tok):(WQ prog w).is (.inr x) (.str x t)=true:=Jz x t
inductive V where
 | non|bl (b:Bool)|int (i:Int)|str (x:Str)|byt (b:Array UInt8)|flt (b:UInt64)|ref (a:Addr)|ty (n:String)
 deriving DecidableEq
noncomputable def RelV:V->Value->Prop
 | .non,u=>u=o6
 | .bl b,u=>u=O9 b
 | .int i,u=>∃t,u=Value.int i t
 | .str x,u=>∃t,u=Value.str x t
 | .byt b,u=>∃t,u=Value.bytes b t
 | .flt b,u=>∃t,u=Value.float b t
 | .ref a,u=>u=T2 a
 | .ty n,u=>u=w6 n
noncomputable abbrev Vals:List V->List Value->Prop:=Paired RelV
theorem Vals.length{xs:List V}{us:List Value}(r:Vals xs us):xs.length=us.length:=Paired.length r
theorem Vals.get:∀{xs:List V}{us:List Value}{i:Nat}{x:V},Vals xs us->xs[i]?=some x->∃u,us[i]?=some u/\RelV x u
 | _,_,_,_,.nil,e=>by simp at e
 | _,_,0,_,.cons r _,e=>by simp at e;subst e;exact ⟨_,rfl,r⟩
 | _,_,i+1,x,.cons _ t,e=>by
  obtain⟨u,h1,h2⟩:=Vals.get (i:=i) (x:=x) t (by simpa using e)
  exact ⟨u,by simpa using h1,h2⟩
theorem Vals.set{x:V}{u:Value}(r:RelV x u):∀{xs:List V}{us:List Value} (i:Nat),Vals xs us->Vals (xs.set i x) (us.set i u)
 | _,_,_,.nil=>.nil
 | _,_,0,.cons _ t=>.cons r t
 | _,_,i+1,.cons q t=>.cons q (Vals.set r i t)
theorem Vals.append:∀{xs ys:List V}{us ws:List Value},Vals xs us->Vals ys ws->Vals (xs++ys) (us++ws)
 | _,_,_,_,.nil,s=>s
 | _,_,_,_,.cons r t,s=>.cons r (Vals.append t s)
theorem Vals.take:∀{xs:List V}{us:List Value} (n:Nat),Vals xs us->Vals (xs.take n) (us.take n)
 | _,_,0,_=>.nil
 | _,_,_+1,.nil=>.nil
 | _,_,n+1,.cons r t=>.cons r (Vals.take n t)
theorem Vals.drop:∀{xs:List V}{us:List Value} (n:Nat),Vals xs us->Vals (xs.drop n) (us.drop n)
 | _,_,0,r=>r
 | _,_,_+1,.nil=>.nil
 | _,_,n+1,.cons _ t=>Vals.drop n t
theorem Vals.none_of:∀{xs:List V}{us:List Value}{i:Nat},Vals xs us->xs[i]?=none->us[i]?=none:=λ{xs us i} r e=>by
 have h1:=r.length
 have h2:xs.length<=i:=Q4.mp e
 exact Q4.mpr (by omega)
noncomputable def RelO:Option V->Option Value->Prop
 | some v,some u=>RelV v u
 | none,none=>True
 | _,_=>False
noncomputable def KV{κ:Type}:List (κ×V)->List (κ×Value)->Prop:=Paired λ(p:κ×V) (q:κ×Value)=>p.1=q.1/\RelV p.2 q.2
noncomputable def kV:IQ->V
 | .inl i=>.int i
 | .inr x=>.str x
inductive HO where
 | lst (xs:List V)
 | tup (xs:List V)
 | dK (kvs:List (IQ×V))|dT (kvs:List (List IQ×V))
 | set (S:Int->Bool) (n:Nat)
 | ins (C dx:Addr) (fs:List (Str×V))
 | own (x:Addr)
 | xd (fs:List (Str×V))
 | met (f x:Addr)
 | rng (lo hi:Int)
 | frz (o:Obj) (u:HO)
 | tbl (ps:Array Value)
 | ext (φ:Heap->Prop)
noncomputable abbrev Hp:=Addr->Option HO
noncomputable def OQ(H:Hp)(a:Addr)(o:HO):Hp:=λb=>if b=a then some o else H b
theorem jQ{H:Hp}{a:Addr}{o:HO}:OQ H a o a=some o:=by unfold OQ;rw[if_pos rfl]
theorem dQ{H:Hp}{a b:Addr}{o:HO}(h:b≠a):OQ H a o b=H b:=by unfold OQ;rw[if_neg h]
theorem ay{H:Hp}{a:Addr}{o u:HO}:OQ (OQ H a o) a u=OQ H a u:=by
 funext b;unfold OQ;split<;>rfl
theorem AL{H:Hp}{a b:Addr}{o u:HO}(h:H a=some o)(h':H b=some u)(d:o≠u):a≠b:=by
 intro e;subst e;rw[h]at h';exact d (D2 h')
theorem gQ{H:Hp}{a b:Addr}{o:HO}(h:H a=some o)(h':H b=none):a≠b:=by
 intro e;subst e;rw[h]at h';cases h'
noncomputable def IsTupD(h:Heap)(a:Addr)(items:Array Value):Prop:=∃o,h.get? a=some o/\o.cls=.type "tuple"/\∃n,o.data=.seq items n/\o.dict=none
theorem IsTupD.t{h:Heap}{a:Addr}{items:Array Value}:IsTupD h a items->IsTup h a items:=λ⟨o,e,c,n,d,_⟩=>⟨o,e,c,n,d⟩
theorem IsTupD.new(h:Heap)(items:Array Value):IsTupD (h.push { cls:=.type "tuple",data:=.seq items }) h.objs.size items:=⟨_,J0 _ rfl,rfl,_,rfl,rfl⟩
section
variable (P:Program)(w:World)
noncomputable def ObjOk(H:Hp)(h:Heap)(a:Addr):HO->Prop
 | .lst xs=>xs.length<=sizeLine/\∃(its:List Value) (n:Nat),Vals xs its/\h.get? a=some { cls:=.type "list",data:=.seq its.toArray n }
 | .tup xs=>xs.length<=sizeLine/\∃its:List Value,Vals xs its/\IsTupD h a its.toArray
 | .dK kvs=>kvs.length<=sizeLine/\(a==sysModules)=false/\∃vs,KV kvs vs/\h.DictOf (WQ P w) a vs
 | .dT kvs=>kvs.length<=sizeLine/\(a==sysModules)=false/\∃xs:List (List IQ×Addr×Value),
   Paired (λ(p:List IQ×V) (q:List IQ×Addr×Value)=>p.1=q.1/\H q.2.1=some (.tup (p.1.map kV))/\RelV p.2 q.2.2) kvs xs /\
   ∃o es ep,h.get? a=some o/\o.ExactDict/\o.data=.dict es ep/\es.toList=xs.map (entryOfKey (tupleKind (WQ P w)))/\(xs.map (·.1)).Nodup
 | .set S n=>h.SetOf (intKind P w) a S n
 | .ins C dx fs=>H dx=some (.own a)/\fs.length<=1000/\dx≠a/\h.get? a=some (N9 C dx) /\
   ∃mA,h.Ns1 dx mA/\(∀f,RelO (fs.lookup f) (mA f))/\PySem.Within mA (fs.map (·.1))
 | .own _=>∃o,h.get? a=some o
 | .xd fs=>∃mA,h.Ns1 a mA/\∀f,RelO (fs.lookup f) (mA f)
 | .rng lo hi=>∃t u v,h.get? a=some { cls:=.type "range",data:=.fields #[.int lo t,.int hi u,.int 1 v] }
 | .frz o u=>h.get? a=some o/\ObjOk H h a u
 | .tbl ps=>h.get? a=some { cls:=.none,data:=.fields ps }
 | .met f x=>h.get? a=some (V7 (.ref f) (.ref x))
 | .ext φ=>φ h/\(∃o,h.get? a=some o)/\∀h1 h2:Heap,φ h1->(∀o,h1.get? a=some o->h2.get? a=some o)->φ h2
noncomputable def HOk(H:Hp)(h:Heap):Prop:=∀a o,H a=some o->ObjOk P w H h a o
end
section
variable {P:Program}{w:World}{H H':Hp}{h h':Heap}{a:Addr}{o:HO}
theorem ObjOk.lt(x:ObjOk P w H h a o):a < h.objs.size:=by
 cases o with
 | lst xs=>obtain⟨_,_,_,_,e⟩:=x;exact D0 e
 | tup xs=>obtain⟨_,_,_,p⟩:=x;exact p.t.lt
 | dK kvs=>obtain⟨_,_,_,_,o,_,_,e,_⟩:=x;exact D0 e
 | dT kvs=>obtain⟨_,_,_,_,o,_,_,e,_⟩:=x;exact D0 e
 | set S n=>obtain⟨o,_,_,_,e,_⟩:=x;exact D0 e
 | ins C dx fs=>obtain⟨_,_,_,e,_⟩:=x;exact D0 e
 | own y=>obtain⟨_,e⟩:=x;exact D0 e
 | xd fs=>obtain⟨_,⟨_,_,_,e,_⟩,_⟩:=x;exact D0 e
 | rng lo hi=>obtain⟨_,_,_,e⟩:=x;exact D0 e
 | frz ob u=>obtain⟨e,_⟩:=x;exact D0 e
 | tbl ps=>exact D0 (show h.get? a=some _ from x)
 | met f y=>exact D0 (show h.get? a=some _ from x)
 | ext φ=>obtain⟨_,⟨_,e⟩,_⟩:=x;exact D0 e
theorem Paired.mapP{α β:Type}{F G:α->β->Prop}:∀{l₁:List α}{l₂:List β},Paired F l₁ l₂->(∀a b,F a b->G a b)->Paired G l₁ l₂
 | _,_,.nil,_=>.nil
 | _,_,.cons r t,f=>.cons (f _ _ r) (Paired.mapP t f)
theorem ObjOk.stay(x:ObjOk P w H h a o)(k:∀b u,(b=a\/H b=some (.own a))->h.get? b=some u->h'.get? b=some u)
  (ho:∀b,H b=some (.own a)->H' b=some (.own a)) (ht:∀b xs,H b=some (.tup xs)->H' b=some (.tup xs)):ObjOk P w H' h' a o:=by
 induction o with
 | lst xs=>obtain⟨z,its,n,r,e⟩:=x;exact ⟨z,its,n,r,k _ _ (.inl rfl) e⟩
 | tup xs=>obtain⟨z,its,r,ob,e,c⟩:=x;exact ⟨z,its,r,ob,k _ _ (.inl rfl) e,c⟩
 | dK kvs=>obtain⟨z,y,vs,r,ob,es,ep,e,c⟩:=x;exact ⟨z,y,vs,r,ob,es,ep,k _ _ (.inl rfl) e,c⟩
 | dT kvs =>
  obtain⟨z,y,xs,r,ob,es,ep,e,c⟩:=x
  exact ⟨z,y,xs,Paired.mapP r λp q z=>⟨z.1,ht _ _ z.2.1,z.2.2⟩,ob,es,ep,k _ _ (.inl rfl) e,c⟩
 | set S n=>obtain⟨ob,es,ep,t,e,c⟩:=x;exact ⟨ob,es,ep,t,k _ _ (.inl rfl) e,c⟩
 | ins C dx fs =>
  obtain⟨d,z,ne,e,mA,⟨od,es,ep,e2,c⟩,r⟩:=x
  exact ⟨ho _ d,z,ne,k _ _ (.inl rfl) e,mA,⟨od,es,ep,k _ _ (.inr d) e2,c⟩,r⟩
 | own y=>obtain⟨ob,e⟩:=x;exact ⟨ob,k _ _ (.inl rfl) e⟩
 | xd fs=>obtain⟨mA,⟨od,es,ep,e,c⟩,r⟩:=x;exact ⟨mA,⟨od,es,ep,k _ _ (.inl rfl) e,c⟩,r⟩
 | rng lo hi=>obtain⟨t,u,v,e⟩:=x;exact ⟨t,u,v,k _ _ (.inl rfl) e⟩
 | frz ob u ih=>obtain⟨e,q⟩:=x;exact ⟨k _ _ (.inl rfl) e,ih q⟩
 | tbl ps =>
  have e:h.get? a=some { cls:=.none,data:=.fields ps }:=x
  show h'.get? a=some { cls:=.none,data:=.fields ps }
  exact k a _ (.inl rfl) e
 | met f y =>
  have e:h.get? a=some (V7 (.ref f) (.ref y)):=x
  show h'.get? a=some (V7 (.ref f) (.ref y))
  exact k a _ (.inl rfl) e
 | ext φ=>obtain⟨p,⟨o,e⟩,st⟩:=x;exact ⟨st _ _ p λo q=>k _ _ (.inl rfl) q,⟨o,k _ _ (.inl rfl) e⟩,st⟩
theorem HOk.lt(x:HOk P w H h)(e:H a=some o):a < h.objs.size:=(x a o e).lt
theorem HOk.fresh(x:HOk P w H h)(e:h.objs.size<=a):H a=none:=by
 cases q:H a with
 | none=>rfl
 | some u=>exact absurd (N0 (x.lt q) e) (B3 _)
theorem HOk.kept(x:HOk P w H h)(k:∀b u,h.get? b=some u->h'.get? b=some u):HOk P w H h':=λa o e =>
 (x a o e).stay (λb u _ q=>k b u q) (λ_ q=>q) λ_ _ q=>q
theorem HOk.laid(x:HOk P w H h)(k:∀b u,h.get? b=some u->h'.get? b=some u)(hp:h.objs.size<=a)(new:ObjOk P w (OQ H a o) h' a o):HOk P w (OQ H a o) h':=λb u e=>by
 have hn:=x.fresh hp
 by_cases hb:b=a
 ·subst hb;rw[jQ]at e;cases e;exact new
 ·rw[dQ hb]at e
  exact (x b u e).stay (λc v _ q=>k c v q) (λc q=>by rw[dQ (gQ q hn)];exact q) λc xs q=>by rw[dQ (gQ q hn)];exact q
end
noncomputable def Rd(H:Hp)(a:Addr)(u:HO):Prop:=H a=some u\/∃o,H a=some (.frz o u)
theorem Rd.ok{P:Program}{w:World}{H:Hp}{h:Heap}{a:Addr}{u:HO}(r:Rd H a u)(x:HOk P w H h):ObjOk P w H h a u:=by
 rcases r with r|⟨o,r⟩
 ·exact x a u r
 ·obtain⟨_,q⟩:=x a _ r
  exact q
noncomputable def BL:Option HO->Prop
 | some (.lst _)=>True
 | some (.dK _)=>True
 | some (.dT _)=>True
 | some (.set _ _)=>True
 | some (.ins _ _ _)=>True
 | some (.ext _)=>True
 | _=>False
section
variable {P:Program}{w:World}{H:Hp}{h h':Heap}{x e:Addr}{o':HO}
theorem HOk.write(ok:HOk P w H h)(mu:BL (H x))(he:e=x\/H e=some (.own x))(k:∀b u,b≠e->h.get? b=some u->h'.get? b=some u)(heo:∃u,h'.get? e=some u)
  (new:ObjOk P w (OQ H x o') h' x o'):HOk P w (OQ H x o') h':=λb u q=>by
 have nown:∀c y,H c=some (.own y)->c≠x:=λc y r z=>by subst z;rw[r]at mu;exact mu
 have ntup:∀c xs,H c=some (.tup xs)->c≠x:=λc xs r z=>by subst z;rw[r]at mu;exact mu
 by_cases hb:b=x
 ·subst hb;rw[jQ]at q;cases q;exact new
 ·rw[dQ hb]at q
  by_cases hbe:b=e
  ·have q':H b=some (.own x):=by
    rcases he with z|z
    ·exact absurd (hbe.trans z) hb
    ·rw[hbe];exact z
   rw[q]at q';cases q'
   obtain⟨v,hv⟩:=heo
   exact ⟨v,by rw[hbe];exact hv⟩
  ·refine (ok b u q).stay (λc v hc r=>k c v ?_ r) (λc r=>by rw[dQ (nown c b r)];exact r) λc xs r=>by rw[dQ (ntup c xs r)];exact r
   rcases hc with rfl|hc
   ·exact hbe
   ·rintro rfl
    rcases he with z|z
    ·exact nown c b hc z
    ·rw[hc]at z;cases z;exact hb rfl
end
structure Un(fs ex:List Addr)(H H':Hp)(h h':Heap):Prop where
 keep:∀b o,h.get? b=some o->H b=none->b∉fs->b∉ex->h'.get? b=some o
 slot:∀b o,h.get? b=some o->H b=none->b∈fs->b∉ex->∃sl,h'.get? b=some { o with slots:=sl }
 free:∀b o,h.get? b=some o->H b=none->b∉ex->H' b=none
 there:∀b o,h.get? b=some o->b∉ex->∃o',h'.get? b=some o'
 tups:∀b xs,H b=some (.tup xs)->H' b=some (.tup xs)
 frzs:∀b o u,H b=some (.frz o u)->H' b=some (.frz o u)
 tbls:∀b ps,H b=some (.tbl ps)->∃more,H' b=some (.tbl (ps++more))
section
variable {fs fs' ex ex':List Addr}{H H1 H2:Hp}{h h1 h2 h':Heap}{a x e:Addr}{o:HO}
theorem Un.any(u:Un fs ex H H1 h h1){b:Addr}{ob:Obj}(q:h.get? b=some ob)(n:H b=none)(hx:b∉ex):∃sl,h1.get? b=some { ob with slots:=sl }:=by
 by_cases hb:b∈fs
 ·exact u.slot b ob q n hb hx
 ·exact ⟨ob.slots,u.keep b ob q n hb hx⟩
theorem Un.kept(k:∀b u,h.get? b=some u->h'.get? b=some u):Un fs ex H H h h' :=
 ⟨λb ob q _ _ _=>k b ob q,λb ob q _ _ _=>⟨ob.slots,k b ob q⟩,λ_ _ _ n _=>n,λb ob q _=>⟨ob,k b ob q⟩,λ_ _ q=>q,λ_ _ _ q=>q,λ_ ps q=>⟨#[],by rw[q];simp⟩⟩
theorem Un.refl:Un fs ex H H h h:=Un.kept λ_ _ q=>q
theorem Un.laid(k:∀b u,h.get? b=some u->h'.get? b=some u)(hp:h.objs.size<=a)(hn:H a=none):Un fs ex H (OQ H a o) h h' where
 keep:=λb u q _ _ _=>k b u q
 slot:=λb u q _ _ _=>⟨u.slots,k b u q⟩
 free:=λb u q n _=>by rw[dQ (W0 (N0 (D0 q) hp))];exact n
 there:=λb u q _=>⟨u,k b u q⟩
 tups:=λb xs q=>by rw[dQ (gQ q hn)];exact q
 frzs:=λb u xs q=>by rw[dQ (gQ q hn)];exact q
 tbls:=λb ps q=>⟨#[],by rw[dQ (gQ q hn),q];simp⟩
theorem Un.write(mu:BL (H x))(he:e=x\/H e=some (.own x))(k:∀b u,b≠e->h.get? b=some u->h'.get? b=some u)(heo:∃u,h'.get? e=some u):Un fs ex H (OQ H x o) h h':=by
 have hx:∀b,H b=none->b≠x:=λb n z=>by subst z;rw[n]at mu;exact mu
 have hb:∀b,H b=none->b≠e:=λb n z=>by
  subst z
  rcases he with r|r
  ·exact hx b n r
  ·rw[n]at r;cases r
 have hm:∀b u,H b=some u->¬BL (some u)->b≠x:=λb u q nm z=>by subst z;rw[q]at mu;exact nm mu
 refine ⟨λb u q n _ _=>k b u (hb b n) q,λb u q n _ _=>⟨u.slots,k b u (hb b n) q⟩,λb u q n _=>by rw[dQ (hx b n)];exact n,λb u q _=>?_,
   λb xs q=>by rw[dQ (hm b _ q λz=>z)];exact q,λb u xs q=>by rw[dQ (hm b _ q λz=>z)];exact q,λb ps q=>⟨#[],by rw[dQ (hm b _ q λz=>z),q];simp⟩⟩
 by_cases hbe:b=e
 ·subst hbe;exact heo
 ·exact ⟨u,k b u hbe q⟩
end
noncomputable def GN(h:Heap)(H:Hp):List Addr:=(O0 h.objs.size).filter λa=>(H a).isSome
noncomputable def SV(h:Heap)(H:Hp):Heap:=PySem.W.hideAll h (GN h H)
theorem Kz(h:Heap)(H:Hp):(SV h H).objs.size=h.objs.size:=PySem.W.hideAll_size _ _
theorem Yj{h:Heap}{H:Hp}{b:Addr}{o:Obj}(e:h.get? b=some o)(n:H b=none):(SV h H).get? b=some o :=
 PySem.W.hideAll_get _ e λhm=>by
  have q:(H b).isSome=true:=(u4.mp hm).2
  rw[n]at q;simp at q
theorem cy{h:Heap}{H:Hp}{b:Addr}{o:Obj}(e:(SV h H).get? b=some o):h.get? b=some o/\H b=none:=by
 have e':h.get? b=some o:=PySem.W.of_hideAll (GN h H) e
 refine ⟨e',?_⟩
 cases q:H b with
 | none=>rfl
 | some x =>
  have hm:b∈GN h H:=u4.mpr ⟨D3.mpr (D0 e'),by simp[q]⟩
  have z:(SV h H).get? b=none:=PySem.W.hideAll_none (GN h H) hm
  rw[z]at e;cases e
noncomputable def dy(g h:Heap)(L:Addr):List (Addr×Obj):=(O0 h.objs.size).filterMap λa=>if a=L\/(g.get? a).isSome=true then none else (h.get? a).map λo=>(a,o)
noncomputable def rest(g h:Heap)(L d:Addr):List (Addr×Obj):=(dy g h L).filter λp=>decide (p.1≠d)
structure Mod(K:A0)(mg:Str->Option Value)(base:Heap):Prop where
 kin:K.In base
 glob:base.Ns mainGlobals mg
 blt:∃mb,base.Ns builtinsNs mb/\∀x:Str,x ≠ "__name__"->mb x=bootBuiltins x
 nolimit:base.NoLimit
structure Cx where
 prog:Program
 w:World
 K:A0
 mg:Str->Option Value
 base:Heap
 A:Around
 N:List Str
 s₀:Shared
 H₀:Hp
 env:Env
 outer:List Env
 stack:List Env
 ex:List Addr
 fn:Str->Bool
 calm:Bool
 pn:List (Addr×Obj)
 xe:Value->Shared->Prop
noncomputable def nq(l:List Env):List Addr:=l.filterMap (·.frame)
noncomputable abbrev Cx.fs(X:Cx):List Addr:=nq X.outer
noncomputable def tL(sc:Scope)(x:Str):Prop:=sc.names.lookup x=some .local\/sc.names.lookup x=some .cell\/sc.names.lookup x=some .free
noncomputable def sC(sc:Scope)(x:Str):Prop:=sc.names.lookup x=some .local\/sc.names.lookup x=some .cell
noncomputable def oO(env:Env)(h:Heap)(m:Str->Option Value)(x:Str)(u:Value):Prop :=
 (env.kindOf x=some .local/\m x=some u)\/((env.kindOf x=some .cell\/env.kindOf x=some .free)/\∃c,env.cells.lookup x=some c/\h.IsCell c (some u))
structure Cx.Ok(X:Cx):Prop where
 mod:Mod X.K X.mg X.base
 kind:X.env.scope.kind=.function
 glob:X.env.globals=mainGlobals
 blt:X.env.builtins=builtinsNs
 above:X.s₀.heap.objs.size<=X.env.locals
 inj:∀x y c,X.env.cells.lookup x=some c->X.env.cells.lookup y=some c->x=y
 has:∀x,(X.env.kindOf x=some .cell\/X.env.kindOf x=some .free)->∃c,X.env.cells.lookup x=some c
 cab:∀x c,X.fn x=true->X.env.cells.lookup x=some c->X.s₀.heap.objs.size<=c
 hd:X.calm=true->X.A.handled=none
 frames:X.A.frames=some X.stack
 stk:X.stack=X.outer\/(X.stack=X.env :: X.outer/\X.env.frame=some X.env.locals)
 exf:∀b∈X.ex,b≠X.env.locals/\∀x c,X.env.cells.lookup x=some c->c≠b
 bs:∀b o,X.base.get? b=some o->X.s₀.heap.get? b=some o/\X.H₀ b=none
 bsz:X.base.objs.size<=X.s₀.heap.objs.size
 noex:∀b o,X.base.get? b=some o->b∉X.ex
 exfs:∀b∈X.ex,b∉X.fs
 funs:X.s₀.heap.FunFrames X.base X.outer
 frf:∀b∈X.fs,X.H₀ b=none
structure Inv(X:Cx)(pins:List (Addr×Obj))(σ:List (Option V))(H:Hp)(s:Shared):Prop where
 ok:X.Ok
 os:s.os=X.s₀.os
 bare:AllBare s.gens
 base:Un X.fs X.ex X.H₀ H X.s₀.heap s.heap
 loc:∃m,s.heap.Ns X.env.locals m/\∀(i:Nat) (x:Str) (v:V),X.N[i]?=some x->σ[i]?=some (some v)->tL X.env.scope x->∃u,RelV v u/\oO X.env s.heap m x u
 cell:∀x c,X.env.cells.lookup x=some c->∃v,s.heap.IsCell c v
 free:H X.env.locals=none
 freeC:∀x c,X.env.cells.lookup x=some c->H c=none
 pin:∀p∈X.pn++pins,s.heap.get? p.1=some p.2/\H p.1=none/\p.1≠X.env.locals/\p.1∉X.fs/\∀v,p.2.data≠.cell v
 hok:HOk X.prog X.w H s.heap
 len:σ.length=X.N.length
section
variable {X:Cx}{pins:List (Addr×Obj)}{σ:List (Option V)}{H H':Hp}{s:Shared}{h':Heap}
theorem Cx.Ok.nofr(ok:X.Ok){b:Addr}{o:Obj}(e:X.base.get? b=some o):b∉X.fs:=λhb=>by
 have:=(ok.funs.mem hb).1
 rw[e]at this;cases this
theorem Inv.bs(I:Inv X pins σ H s):∀b o,X.base.get? b=some o->s.heap.get? b=some o/\H b=none:=λb o e =>
 ⟨I.base.keep b o (I.ok.bs b o e).1 (I.ok.bs b o e).2 (I.ok.nofr e) (I.ok.noex b o e),I.base.free b o (I.ok.bs b o e).1 (I.ok.bs b o e).2 (I.ok.noex b o e)⟩
theorem Inv.bk(I:Inv X pins σ H s):∀b o,X.base.get? b=some o->s.heap.get? b=some o:=λb o e=>(I.bs b o e).1
theorem Inv.mod(I:Inv X pins σ H s):Mod X.K X.mg X.base:=I.ok.mod
theorem Inv.kIn(I:Inv X pins σ H s):X.K.In s.heap:=I.ok.mod.kin.keeps I.bk
theorem Inv.lt(I:Inv X pins σ H s):X.env.locals < s.heap.objs.size:=let ⟨_,hn,_⟩:=I.loc;hn.lt
theorem Inv.sz(I:Inv X pins σ H s):X.s₀.heap.objs.size<=s.heap.objs.size:=A1 I.ok.above (o5 I.lt)
theorem Inv.nofs(I:Inv X pins σ H s){a:Addr}(h:s.heap.objs.size<=a):a∉X.fs:=λhb=>by
 obtain⟨_,o,ho,_⟩:=I.ok.funs.mem hb
 exact absurd (N0 (D0 ho) (A1 I.sz h)) (B3 _)
theorem Inv.cne(I:Inv X pins σ H s):∀x c,X.env.cells.lookup x=some c->c≠X.env.locals:=λx c e z=>by
 obtain⟨v,o,ho,hd⟩:=I.cell x c e
 obtain⟨m,⟨o',es,ep,ho',hd',_⟩,_⟩:=I.loc
 rw[z,ho']at ho;cases ho;rw[hd']at hd;cases hd
theorem Inv.funs(I:Inv X pins σ H s):s.heap.FunFrames X.base X.outer:=by
 have all:∀(l:List Env),(∀b∈nq l,b∈X.fs)->X.s₀.heap.FunFrames X.base l->s.heap.FunFrames X.base l:=by
  intro l
  induction l with
  | nil=>intro _ _;trivial
  | cons env r ih =>
   intro hs hl
   obtain⟨hk,⟨L,o,hf,hn,ho,hd⟩,hr⟩:=hl
   have hL:L∈X.fs:=hs L (by unfold nq;rw[G7,hf];exact B0)
   obtain⟨sl,e⟩:=I.base.slot L o ho (I.ok.frf L hL) hL λz=>I.ok.exfs L z hL
   exact ⟨hk,⟨L,_,hf,hn,e,hd⟩,ih (λb hb=>hs b (by unfold nq;rw[G7,hf];exact u0 _ hb)) hr⟩
 exact all X.outer (λ_ hb=>hb) I.ok.funs
theorem Inv.stack(I:Inv X pins σ H s):s.heap.FunFrames X.base X.stack:=by
 rcases I.ok.stk with e|⟨e,hf⟩
 ·rw[e];exact I.funs
 ·rw[e]
  obtain⟨m,hn,_⟩:=I.loc
  refine .cons (by rw[I.ok.kind];decide) hf hn ?_ I.funs
  exact Heap.get?_none_of_le (A1 I.ok.bsz I.ok.above)
theorem Inv.stkSub(I:Inv X pins σ H s):∀b∈nq X.stack,b∈X.env.locals :: X.fs:=λb hb=>by
 rcases I.ok.stk with e|⟨e,hf⟩
 ·rw[e]at hb;exact u0 _ hb
 ·rw[e]at hb
  unfold nq at hb
  rw[G7,hf]at hb
  exact hb
theorem Inv.stkFree(I:Inv X pins σ H s):∀b∈nq X.stack,H b=none:=λb hb=>by
 rcases U1.mp (I.stkSub b hb) with e|hb
 ·rw[e];exact I.free
 ·obtain⟨_,o,ho,_⟩:=I.ok.funs.mem hb
  exact I.base.free b o ho (I.ok.frf b hb) λz=>I.ok.exfs b z hb
theorem Inv.step{g':Array GenState}{t':Nat}{d':Drawn}{ch:List Addr}(I:Inv X pins σ H s)
  (hch:∀b∈ch,(b∈X.ex\/X.s₀.heap.objs.size<=b)/\b≠X.env.locals/\(∀x c,X.env.cells.lookup x=some c->c≠b)/\∀p∈X.pn++pins,p.1≠b)
  (keep:∀b o,b≠X.env.locals->b∉X.fs->b∉ch->s.heap.get? b=some o->H b=none->h'.get? b=some o)
  (slot:∀b o,b≠X.env.locals->b∈X.fs->b∉ch->s.heap.get? b=some o->H b=none->∃sl,h'.get? b=some { o with slots:=sl }) (free:∀b o,b∉ch->s.heap.get? b=some o->H b=none->H' b=none)
  (there:∀b o,b∉ch->s.heap.get? b=some o->∃o',h'.get? b=some o')
  (tups:∀b xs,H b=some (.tup xs)->H' b=some (.tup xs)) (frzs:∀b o u,H b=some (.frz o u)->H' b=some (.frz o u)) (tbls:∀b ps,H b=some (.tbl ps)->∃more,H' b=some (.tbl (ps++more)))
  (ns:∀m,s.heap.Ns X.env.locals m->h'.Ns X.env.locals m) (hok:HOk X.prog X.w H' h') (hg:AllBare g') :
  Inv X pins σ H' { s with heap:=h',gens:=g',drawn:=d',toks:=t' }:=by
 have neL:∀b o,X.s₀.heap.get? b=some o->b≠X.env.locals:=λb o e=>W0 (N0 (D0 e) I.ok.above)
 have neC:∀b o,X.s₀.heap.get? b=some o->b∉X.ex->b∉ch:=λb o e hx hb=>by
  rcases (hch b hb).1 with z|z
  ·exact hx z
  ·exact absurd (N0 (D0 e) z) (B3 _)
 have cellK:∀x c,X.env.cells.lookup x=some c->∀v,s.heap.IsCell c v->h'.IsCell c v:=λx c e v ⟨o,ho,hd⟩=>by
  have nch:c∉ch:=λz=>(hch c z).2.2.1 x c e rfl
  by_cases hc:c∈X.fs
  ·obtain⟨sl,q⟩:=slot c o (I.cne x c e) hc nch ho (I.freeC x c e)
   exact ⟨_,q,hd⟩
  ·exact ⟨o,keep c o (I.cne x c e) hc nch ho (I.freeC x c e),hd⟩
 refine ⟨I.ok,I.os,hg,⟨λb o e n hb hx=>?_,λb o e n hb hx=>?_,λb o e n hx=>?_,λb o e hx=>?_,λb xs e=>tups b xs (I.base.tups b xs e),λb o xs e=>frzs b o xs (I.base.frzs b o xs e),λb ps e=>?_⟩,?_,λx c e=>?_,?_,λx c e=>?_,λp hp=>?_,hok,I.len⟩
 ·exact keep b o (neL b o e) hb (neC b o e hx) (I.base.keep b o e n hb hx) (I.base.free b o e n hx)
 ·obtain⟨sl,e1⟩:=I.base.slot b o e n hb hx
  obtain⟨sl',e2⟩:=slot b _ (neL b o e) hb (neC b o e hx) e1 (I.base.free b o e n hx)
  exact ⟨sl',e2⟩
 ·obtain⟨o',e1⟩:=I.base.there b o e hx
  exact free b o' (neC b o e hx) e1 (I.base.free b o e n hx)
 ·obtain⟨o',e1⟩:=I.base.there b o e hx
  exact there b o' (neC b o e hx) e1
 ·obtain⟨m1,e1⟩:=I.base.tbls b ps e
  obtain⟨m2,e2⟩:=tbls b _ e1
  exact ⟨m1++m2,by rw[e2,Array.append_assoc]⟩
 ·obtain⟨m,hn,hl⟩:=I.loc
  refine ⟨m,ns m hn,λi x v e1 e2 e3=>?_⟩
  obtain⟨u,r,l⟩:=hl i x v e1 e2 e3
  refine ⟨u,r,?_⟩
  rcases l with l|⟨k,c,e,z⟩
  ·exact .inl l
  ·exact .inr ⟨k,c,e,cellK x c e _ z⟩
 ·obtain⟨v,z⟩:=I.cell x c e
  exact ⟨v,cellK x c e v z⟩
 ·obtain⟨m,⟨o,_,_,ho,_⟩,_⟩:=I.loc
  exact free _ o (λz=>(hch _ z).2.1 rfl) ho I.free
 ·obtain⟨v,o,ho,hd⟩:=I.cell x c e
  exact free c o (λz=>(hch c z).2.2.1 x c e rfl) ho (I.freeC x c e)
 ·obtain⟨e,n,ne,nf,d⟩:=I.pin p hp
  have nch:p.1∉ch:=λz=>(hch p.1 z).2.2.2 p hp rfl
  exact ⟨keep p.1 p.2 ne nf nch e n,free p.1 p.2 nch e n,ne,nf,d⟩
theorem Inv.un{t':Nat}(I:Inv X pins σ H s)(u:Un X.fs [] H H' s.heap h')(hok:HOk X.prog X.w H' h'):Inv X pins σ H' { s with heap:=h',toks:=t' }:=by
 obtain⟨m,⟨o,es,ep,ho,r⟩,_⟩:=id I.loc
 obtain⟨sl,hL⟩:=u.any ho I.free (by simp)
 exact I.step (g':=s.gens) (d':=s.drawn) (ch:=[]) (λ_ z=>nomatch z) (λb o _ hb _ e n=>u.keep b o e n hb (by simp)) (λb o _ hb _ e n=>u.slot b o e n hb (by simp)) (λb o _ e n=>u.free b o e n (by simp)) (λb o _ e=>u.there b o e (by simp)) u.tups u.frzs u.tbls (λm' hm=>by
   obtain⟨o',es',ep',ho',r'⟩:=hm
   rw[ho]at ho';cases ho'
   exact ⟨_,es',ep',hL,r'⟩) hok I.bare
theorem Inv.call{g':Array GenState}{t':Nat}{d':Drawn}{ch:List Addr}(I:Inv X pins σ H s)(u:Un (nq X.stack) ch H H' s.heap h')(hok:HOk X.prog X.w H' h')(hg:AllBare g')
  (hch:∀b∈ch,(b∈X.ex\/X.s₀.heap.objs.size<=b)/\b≠X.env.locals/\(∀x c,X.env.cells.lookup x=some c->c≠b)/\∀p∈X.pn++pins,p.1≠b) :
  Inv X pins σ H' { s with heap:=h',gens:=g',drawn:=d',toks:=t' }:=by
 obtain⟨m,⟨o,es,ep,ho,r⟩,_⟩:=id I.loc
 obtain⟨sl,hL⟩:=u.any ho I.free λz=>(hch _ z).2.1 rfl
 exact I.step (ch:=ch) hch (λb o hL hb hc e n=>u.keep b o e n (λz=>(U1.mp (I.stkSub b z)).elim hL hb) hc) (λb o _ _ hc e n=>u.any e n hc) (λb o hc e n=>u.free b o e n hc) (λb o hc e=>u.there b o e hc) u.tups u.frzs u.tbls (λm' hm=>by
   obtain⟨o',es',ep',ho',r'⟩:=hm
   rw[ho]at ho';cases ho'
   exact ⟨_,es',ep',hL,r'⟩) hok hg
theorem Inv.turned{t':Nat}{it:Addr}(I:Inv X pins σ H s)(k:∀b o,b≠it->s.heap.get? b=some o->h'.get? b=some o)(hn:H it=none)(hL:it≠X.env.locals)
  (h1:it∈X.ex\/X.s₀.heap.objs.size<=it) (h2:∀x c,X.env.cells.lookup x=some c->c≠it) (h3:∀p∈X.pn++pins,p.1≠it):Inv X pins σ H { s with heap:=h',toks:=t' }:=by
 have nit:∀b u,H b=some u->b≠it:=λb u e z=>by rw[z,hn]at e;cases e
 refine I.step (g':=s.gens) (d':=s.drawn) (ch:=[it]) (λb hb=>?_) (λb o _ _ hc e _=>k b o (λz=>hc (by simp[z])) e) (λb o _ _ hc e _=>⟨o.slots,k b o (λz=>hc (by simp[z])) e⟩) (λ_ _ _ _ n=>n)
  (λb o hc e=>⟨o,k b o (λz=>hc (by simp[z])) e⟩) (λ_ _ e=>e) (λ_ _ _ e=>e) (λb ps e=>⟨#[],by rw[e];simp⟩) (λm hm=>?_) (λb u e=>?_) I.bare
 ·have e:b=it:=by simpa using hb
  subst e
  exact ⟨h1,hL,h2,h3⟩
 ·obtain⟨o,es,ep,ho,r⟩:=hm
  exact ⟨o,es,ep,k _ o (S1 hL) ho,r⟩
 ·refine (I.hok b u e).stay (λc v hc q=>k c v ?_ q) (λ_ q=>q) λ_ _ q=>q
  rcases hc with z|z
  ·rw[z];exact nit b u e
  ·exact nit c _ z
theorem Inv.tok(I:Inv X pins σ H s)(t:Nat):Inv X pins σ H { s with toks:=t }:=I.un (h':=s.heap) (t':=t) Un.refl I.hok
theorem Inv.kept{t':Nat}(I:Inv X pins σ H s)(k:∀b u,s.heap.get? b=some u->h'.get? b=some u):Inv X pins σ H { s with heap:=h',toks:=t' }:=I.un (Un.kept k) (I.hok.kept k)
theorem Inv.laid{a:Addr}{o:HO}{t':Nat}(I:Inv X pins σ H s)(k:∀b u,s.heap.get? b=some u->h'.get? b=some u)(hp:s.heap.objs.size<=a)(new:ObjOk X.prog X.w (OQ H a o) h' a o) :
  Inv X pins σ (OQ H a o) { s with heap:=h',toks:=t' }:=I.un (Un.laid k hp (I.hok.fresh hp)) (I.hok.laid k hp new)
theorem Inv.write{x e:Addr}{o:HO}{t':Nat}(I:Inv X pins σ H s)(mu:BL (H x))(he:e=x\/H e=some (.own x))(k:∀b u,b≠e->s.heap.get? b=some u->h'.get? b=some u)(heo:∃u,h'.get? e=some u)
  (new:ObjOk X.prog X.w (OQ H x o) h' x o):Inv X pins σ (OQ H x o) { s with heap:=h',toks:=t' }:=I.un (Un.write mu he k heo) (I.hok.write mu he k heo new)
theorem Inv.pins_of{pins':List (Addr×Obj)}(I:Inv X pins σ H s)(h:∀p∈pins',s.heap.get? p.1=some p.2/\H p.1=none/\p.1≠X.env.locals/\p.1∉X.fs/\∀v,p.2.data≠.cell v):Inv X pins' σ H s :=
 ⟨I.ok,I.os,I.bare,I.base,I.loc,I.cell,I.free,I.freeC,λp hp=>(Q2.mp hp).elim (λz=>I.pin p (y7 _ z)) (h p),I.hok,I.len⟩
theorem mG{N:List Str}(hN:N.Nodup){i j:Nat}{x:Str}(a:N[i]?=some x)(b:N[j]?=some x):i=j:=by
 obtain⟨h1,e1⟩:=J1.mp a
 obtain⟨h2,e2⟩:=J1.mp b
 exact (List.getElem_inj hN).mp (e1.trans e2.symm)
theorem fV{M:Model}{A:Around}{E:Value->Shared->Prop}{i:Nat}{x:Str}{v:V}{u:Value}{Q:Unit->Shared->Prop}(I:Inv X pins σ H s)(hN:X.N.Nodup)(hi:X.N[i]?=some x)(hx:sC X.env.scope x)(r:RelV v u)
  (h:∀s',Inv X pins (σ.set i (some v)) H s'->(∃a,q5 a s.heap s'.heap/\(a=X.env.locals\/X.env.cells.lookup x=some a))->Q () s') (hf:X.fn x=true\/X.env.scope.names.lookup x=some .local:=by first|exact .inl rfl|exact .inr rfl|assumption):wpAny M A (storeName X.env x u) Q E s:=by
 obtain⟨m,hn,hl⟩:=id I.loc
 have hcls:(X.env.scope.kind==.class||(X.env.scope.kind==.module&&X.env.locals != X.env.globals))=false:=by rw[I.ok.kind];rfl
 have hiσ:i < σ.length:=by rw[I.len];exact (J1.mp hi).1
 have cne:=I.cne
 have tracked:∀{a:Addr}{h':Heap},(∃o,s.heap.get? a=some o/\H a=none)->q5 a s.heap h'->HOk X.prog X.w H h':=λ{a h'} ha hs b ob e=>by
  obtain⟨_,_,hfree⟩:=ha
  refine (I.hok b ob e).stay (λc w' hc q=>(hs.2 c ?_).trans q) (λ_ q=>q) λ_ _ q=>q
  rintro rfl
  rcases hc with rfl|hc
  ·rw[hfree]at e;cases e
  ·rw[hfree]at hc;cases hc
 rcases hx with hk|hk
 ·refine wpAny_storeName_local hk hn (λh' hn' hs=>?_) hcls
  obtain⟨oL,_,_,hoL,_⟩:=id hn
  refine h _ ⟨I.ok,I.os,I.bare,⟨λb o e n hb hx=>?_,λb o e n hb hx=>?_,I.base.free,λb o e hx=>?_,I.base.tups,I.base.frzs,I.base.tbls⟩,⟨_,hn',λj y v' e1 e2 e3=>?_⟩,λy c e=>?_,I.free,I.freeC,λp hp=>?_,tracked ⟨oL,hoL,I.free⟩ hs,by simpa using I.len⟩ ⟨_,hs,.inl rfl⟩
  ·exact (hs.2 b (W0 (N0 (D0 e) I.ok.above))).trans (I.base.keep b o e n hb hx)
  ·obtain⟨sl,e1⟩:=I.base.slot b o e n hb hx
   exact ⟨sl,(hs.2 b (W0 (N0 (D0 e) I.ok.above))).trans e1⟩
  ·obtain⟨o',e1⟩:=I.base.there b o e hx
   exact ⟨o',(hs.2 b (W0 (N0 (D0 e) I.ok.above))).trans e1⟩
  ·by_cases hj:j=i
   ·subst hj
    rw[hi]at e1;cases e1
    rw[W6 hiσ]at e2
    cases e2
    exact ⟨u,r,.inl ⟨hk,by simp⟩⟩
   ·rw[P0 (S1 hj)]at e2
    obtain⟨u',r',q⟩:=hl j y v' e1 e2 e3
    refine ⟨u',r',?_⟩
    rcases q with⟨k,e⟩|⟨k,c,e,z⟩
    ·refine .inl ⟨k,?_⟩
     have:y≠x:=λe=>hj (mG hN e1 (e ▸ hi))
     simp[this,e]
    ·exact .inr ⟨k,c,e,z.sameBut hs (cne y c e)⟩
  ·obtain⟨w',z⟩:=I.cell y c e
   exact ⟨w',z.sameBut hs (cne y c e)⟩
  ·obtain⟨e,n,ne,nf,d⟩:=I.pin p hp
   exact ⟨(hs.2 p.1 ne).trans e,n,ne,nf,d⟩
 ·have hfn:X.fn x=true:=by
   rcases hf with z|z
   ·exact z
   ·rw[z]at hk;cases hk
  obtain⟨c,hc⟩:=I.ok.has x (.inl hk)
  obtain⟨w',z⟩:=I.cell x c hc
  refine wpAny_storeName_cell I.ok.kind hk hc z (λh' hc' hs=>?_)
  obtain⟨oc,hoc,hocd⟩:=id z
  refine h { s with heap:=h' } ⟨I.ok,I.os,I.bare,⟨λb o e n hb hx=>?_,λb o e n hb hx=>?_,I.base.free,λb o e hx=>?_,I.base.tups,I.base.frzs,I.base.tbls⟩,⟨m,hn.sameBut hs (S1 (cne x c hc)),λj y v' e1 e2 e3=>?_⟩,λy c' e=>?_,I.free,I.freeC,λp hp=>?_,tracked ⟨oc,hoc,I.freeC x c hc⟩ hs,by simpa using I.len⟩ ⟨c,hs,.inr hc⟩
  ·exact (hs.2 b (W0 (N0 (D0 e) (I.ok.cab x c hfn hc)))).trans (I.base.keep b o e n hb hx)
  ·obtain⟨sl,e1⟩:=I.base.slot b o e n hb hx
   exact ⟨sl,(hs.2 b (W0 (N0 (D0 e) (I.ok.cab x c hfn hc)))).trans e1⟩
  ·obtain⟨o',e1⟩:=I.base.there b o e hx
   exact ⟨o',(hs.2 b (W0 (N0 (D0 e) (I.ok.cab x c hfn hc)))).trans e1⟩
  ·by_cases hj:j=i
   ·subst hj
    rw[hi]at e1;cases e1
    rw[W6 hiσ]at e2
    cases e2
    exact ⟨u,r,.inr ⟨.inl hk,c,hc,hc'⟩⟩
   ·rw[P0 (S1 hj)]at e2
    obtain⟨u',r',q⟩:=hl j y v' e1 e2 e3
    refine ⟨u',r',?_⟩
    rcases q with q|⟨k,c',e,z'⟩
    ·exact .inl q
    ·refine .inr ⟨k,c',e,z'.sameBut hs ?_⟩
     rintro rfl
     exact hj (mG hN e1 (I.ok.inj _ _ _ e hc ▸ hi))
  ·by_cases hcc:c'=c
   ·subst hcc;exact ⟨_,hc'⟩
   ·obtain⟨w2,z2⟩:=I.cell y c' e
    exact ⟨w2,z2.sameBut hs hcc⟩
  ·obtain⟨e,n,ne,nf,d⟩:=I.pin p hp
   refine ⟨(hs.2 p.1 ?_).trans e,n,ne,nf,d⟩
   intro q
   rw[q,hoc]at e
   have q':oc=p.2:=D2 e
   exact d w' (by rw[<- q'];exact hocd)
theorem nG{M:Model}{A:Around}{E:Value->Shared->Prop}{i:Nat}{x:Str}{v:V}{u:Value}{Q:Unit->Shared->Prop}(I:Inv X pins σ H s)(hN:X.N.Nodup)(hi:X.N[i]?=some x)(hx:sC X.env.scope x)(r:RelV v u)
  (h:∀s',Inv X pins (σ.set i (some v)) H s'->Q () s') (hf:X.fn x=true\/X.env.scope.names.lookup x=some .local:=by first|exact .inl rfl|exact .inr rfl|assumption):wpAny M A (storeName X.env x u) Q E s :=
 fV I hN hi hx r (λs' I' _=>h s' I') hf
theorem Inv.call'{s':Shared}{ch:List Addr}(I:Inv X pins σ H s)(ho:s'.os=s.os)(u:Un (nq X.stack) ch H H' s.heap s'.heap)(hok:HOk X.prog X.w H' s'.heap)(hg:AllBare s'.gens)
  (hch:∀b∈ch,(b∈X.ex\/X.s₀.heap.objs.size<=b)/\b≠X.env.locals/\(∀x c,X.env.cells.lookup x=some c->c≠b)/\∀p∈X.pn++pins,p.1≠b):Inv X pins σ H' s':=by
 obtain⟨h',g',d',t',o'⟩:=s'
 have e:o'=s.os:=ho
 subst e
 exact I.call (g':=g') (t':=t') (d':=d') u hok hg hch
end
noncomputable abbrev XK:=Value->Option Addr->Hp->Prop
noncomputable abbrev St:=List (Option V)
noncomputable abbrev VK:=V->Hp->Prop
noncomputable abbrev TE:=St->Hp->VK->Prop
noncomputable abbrev TT:=St->Hp->(Bool->Hp->Prop)->Prop
noncomputable abbrev TA:=St->Hp->(List V->Hp->Prop)->Prop
structure Ends where
 nx:St->Hp->Prop
 rt:VK
 bk:St->Hp->Prop:=λ_ _=>False
 ct:St->Hp->Prop:=λ_ _=>False
noncomputable abbrev TS:=Ends->St->Hp->Prop
noncomputable def EP(X:Cx)(pins:List (Addr×Obj))(σ:St)(Q:VK)(u:Value)(s':Shared):Prop:=∃v H',Inv X pins σ H' s'/\RelV v u/\Q v H'
noncomputable def TP(X:Cx)(pins:List (Addr×Obj))(σ:St)(Q:Bool->Hp->Prop)(b:Bool)(s':Shared):Prop:=∃H',Inv X pins σ H' s'/\Q b H'
noncomputable def AP(X:Cx)(pins:List (Addr×Obj))(σ:St)(Q:List V->Hp->Prop)(us:List Value)(s':Shared):Prop:=∃vs H',Inv X pins σ H' s'/\Vals vs us/\Q vs H'
noncomputable def SP(X:Cx)(pins:List (Addr×Obj))(D:Ends)(f:Flow)(s':Shared):Prop :=
 match f with
 | .next=>∃σ' H',Inv X pins σ' H' s'/\D.nx σ' H'
 | .brk=>∃σ' H',Inv X pins σ' H' s'/\D.bk σ' H'
 | .cont=>∃σ' H',Inv X pins σ' H' s'/\D.ct σ' H'
 | .ret u=>∃v σ' H',Inv X pins σ' H' s'/\RelV v u/\D.rt v H'
noncomputable def PE(X:Cx)(e:Expr)(t:TE):Prop :=
 ∀(pins:List (Addr×Obj)) (s:Shared) (σ:St) (H:Hp) (Q:VK),Inv X pins σ H s->t σ H Q->wpAny (model X.prog X.w) X.A (eval e X.env) (EP X pins σ Q) X.xe s
noncomputable def PT(X:Cx)(e:Expr)(t:TT):Prop :=
 ∀(pins:List (Addr×Obj)) (s:Shared) (σ:St) (H:Hp) (Q:Bool->Hp->Prop),Inv X pins σ H s->t σ H Q->wpAny (model X.prog X.w) X.A (isTrue e X.env (eval e X.env)) (TP X pins σ Q) X.xe s
noncomputable def PW(X:Cx)(e:Expr)(t:TT):Prop :=
 ∀(whole:Sem Value) (pins:List (Addr×Obj)) (s:Shared) (σ:St) (H:Hp) (Q:Bool->Hp->Prop),Inv X pins σ H s->t σ H Q->wpAny (model X.prog X.w) X.A (isTrue e X.env whole) (TP X pins σ Q) X.xe s
theorem PW.pt{X:Cx}{e:Expr}{t:TT}(h:PW X e t):PT X e t:=h _
noncomputable def PA(X:Cx)(es:List Expr)(t:TA):Prop :=
 ∀(pos:Pos) (pins:List (Addr×Obj)) (s:Shared) (σ:St) (H:Hp) (Q:List V->Hp->Prop),Inv X pins σ H s->t σ H Q->wpAny (model X.prog X.w) X.A (spliced (backTo pos (starEach es X.env))) (AP X pins σ Q) X.xe s
noncomputable def PS(X:Cx)(st:Stmt)(t:TS):Prop :=
 ∀(pins:List (Addr×Obj)) (s:Shared) (σ:St) (H:Hp) (D:Ends),Inv X pins σ H s->t D σ H->wpAny (model X.prog X.w) X.A (exec st X.env) (SP X pins D) X.xe s
noncomputable def PSs(X:Cx)(st:List Stmt)(t:TS):Prop :=
 ∀(pins:List (Addr×Obj)) (s:Shared) (σ:St) (H:Hp) (D:Ends),Inv X pins σ H s->t D σ H->wpAny (model X.prog X.w) X.A (execs st X.env) (SP X pins D) X.xe s
theorem fX{α:Type}{t:Sem α}{Q Q':α->Shared->Prop}{M:Model}{A:Around}{E:Value->Shared->Prop}{s:Shared}(h:wpAny M A t Q E s)(hQ:∀a s,Q a s->Q' a s):wpAny M A t Q' E s:=wpAny_mono h hQ λ_ _ x=>x
section
variable {X:Cx}
noncomputable def aZ(i:Nat):TE:=λσ H Q=>∃v,σ[i]?=some (some v)/\Q v H
noncomputable def tC(v:V):TE:=λ_ H Q=>Q v H
theorem UF{i:Nat}{x:Str}{pos:Pos}(hN:X.N[i]?=some x)(hv:tL X.env.scope x)(hd:(x==("__debug__":Str))=false:=by decide)(hcd:(x==("__classdict__":Str))=false:=by decide):PE X (.Name x pos) (aZ i):=by
 intro pins s σ H Q I h
 obtain⟨v,e,h⟩:=h
 obtain⟨m,hn,hl⟩:=I.loc
 obtain⟨u,r,l⟩:=hl i x v hN e hv
 have fin:EP X pins σ Q u s:=⟨v,H,I,r,h⟩
 rcases l with⟨hk,hm⟩|⟨hk,c,hc,hcell⟩
 ·exact wpAny_Name (wpAny_loadName_local I.ok.kind hk hn hm fin) hd
 ·rcases hk with hk|hk
  ·exact wpAny_Name (wpAny_loadName_cell I.ok.kind hk hc hcell fin) hd
  ·exact wpAny_Name (wpAny_loadName_free I.ok.kind hk hc hcell fin hcd) hd
theorem EJ{i j pos}:PE X (.Constant (.int i) j pos) (tC (.int i)):=λ_ _ _ H _ I h=>wpAny_Constant_int ⟨.int i,H,I.tok _,⟨_,rfl⟩,h⟩
theorem CL{b j pos}:PE X (.Constant (.bool b) j pos) (tC (.bl b)):=λ_ _ _ H _ I h=>Constant_bool ⟨.bl b,H,I,rfl,h⟩
theorem TV{x j pos}:PE X (.Constant (.str x) j pos) (tC (.str x)):=λ_ _ _ H _ I h=>Calls.Constant_str ⟨.str x,H,I.tok _,⟨_,rfl⟩,h⟩
noncomputable def Gl(X:Cx)(x:Str):Prop:=X.env.kindOf x=some .globalImplicit
theorem fy{E:Value->Shared->Prop}{pins:List (Addr×Obj)}{s:Shared}{σ:St}{H:Hp}{x:Str}{u:Value}{pos:Pos}{Q:Value->Shared->Prop}(I:Inv X pins σ H s)(hg:Gl X x)(hm:X.mg x=some u)(h:Q u s)
  (hd:(x==("__debug__":Str))=false:=by decide):wpAny (model X.prog X.w) X.A (eval (.Name x pos) X.env) Q E s :=
 Calls.Name_function_global I.ok.kind hg (Calls.loadGlobal_global (by rw[I.ok.glob];exact I.mod.glob.keeps I.bk) hm h) hd
theorem fZ{E:Value->Shared->Prop}{pins:List (Addr×Obj)}{s:Shared}{σ:St}{H:Hp}{x:Str}{u:Value}{pos:Pos}{Q:Value->Shared->Prop}(I:Inv X pins σ H s)(hg:Gl X x)(hm:X.mg x=none)(hv:bootBuiltins x=some u)(h:Q u s)
  (hn:x ≠ "__name__":=by decide) (hd:(x==("__debug__":Str))=false:=by decide):wpAny (model X.prog X.w) X.A (eval (.Name x pos) X.env) Q E s:=by
 obtain⟨mb,h1,h2⟩:=I.mod.blt
 exact Calls.Name_function_global I.ok.kind hg (Calls.loadGlobal_builtin (by rw[I.ok.glob];exact I.mod.glob.keeps I.bk) hm (by rw[I.ok.blt];exact h1.keeps I.bk) ((h2 x hn).trans hv) h) hd
theorem gy{x:Str}{v:V}{u:Value}{pos:Pos}(hg:Gl X x)(hm:X.mg x=none)(hv:bootBuiltins x=some u)(r:RelV v u)(hn:x ≠ "__name__":=by decide)(hd:(x==("__debug__":Str))=false:=by decide):PE X (.Name x pos) (tC v) :=
 λ_ _ _ H _ I h=>fZ I hg hm hv ⟨v,H,I,r,h⟩ hn hd
variable {a b:Expr}{ta tb:TE}{pos:Pos}
noncomputable def tB(t:TE):TT:=λσ H Q=>t σ H λx H1=>∃c,x=.bl c/\Q c H1
theorem uC{e:Expr}{t:TE}(h:PE X e t)(he:∀whole,isTrue e X.env whole=(do let v<-whole;standAt e.pos;holding [v] (truthy v)):=by intro _;rfl):PT X e (tB t):=by
 intro pins s σ H Q I hw
 refine isTrue_plain (fX (h pins s σ H _ I hw) λv s1 ⟨x,H1,I1,r1,q1⟩=>?_) (he _)
 obtain⟨d,rfl,q⟩:=q1
 cases r1
 exact wpAny_truthy_bool ⟨H1,I1,q⟩
variable {tA tB':TT}{rest:List Expr}
noncomputable def vC(t u:TT):TT:=λσ H Q=>t σ H λc H1=>if c=true then u σ H1 Q else Q false H1
noncomputable def pO(t u:TT):TT:=λσ H Q=>t σ H λc H1=>if c=true then Q true H1 else u σ H1 Q
noncomputable def wC(t:TT):TT:=λσ H Q=>t σ H λc H1=>Q (!c) H1
theorem iy(ha:PT X a tA):PW X (.BoolOp .And [a] pos) tA:=by
 intro wh pins s σ H Q I h
 refine isTrue_and (fX (ha pins s σ H Q I h) λc s1 e=>?_)
 cases c with
 | true=>exact isTrue_and_nil e
 | false=>exact e
theorem xC(ha:PT X a tA):PW X (.BoolOp .Or [a] pos) tA:=by
 intro wh pins s σ H Q I h
 refine isTrue_or (fX (ha pins s σ H Q I h) λc s1 e=>?_)
 cases c with
 | false=>exact isTrue_or_nil e
 | true=>exact e
theorem yC(ha:PT X a tA)(hb:PW X (.BoolOp .And (b :: rest) pos) tB'):PW X (.BoolOp .And (a :: b :: rest) pos) (vC tA tB'):=by
 intro wh pins s σ H Q I h
 refine isTrue_and (fX (ha pins s σ H _ I h) λc s1 ⟨H1,I1,q1⟩=>?_)
 cases c with
 | true=>exact hb wh pins s1 σ H1 Q I1 q1
 | false=>exact ⟨H1,I1,q1⟩
theorem DL(ha:PT X a tA)(hb:PW X (.BoolOp .Or (b :: rest) pos) tB'):PW X (.BoolOp .Or (a :: b :: rest) pos) (pO tA tB'):=by
 intro wh pins s σ H Q I h
 refine isTrue_or (fX (ha pins s σ H _ I h) λc s1 ⟨H1,I1,q1⟩=>?_)
 cases c with
 | true=>exact ⟨H1,I1,q1⟩
 | false=>exact hb wh pins s1 σ H1 Q I1 q1
theorem zC(ha:PT X a tA):PT X (.UnaryOp .Not a pos) (wC tA):=by
 intro pins s σ H Q I h
 exact isTrue_not (ha pins s σ H (λc H1=>Q (!c) H1) I h)
noncomputable def Zj(ta tb:TE):TE:=λσ H Q=>ta σ H λx H1=>∃c,x=.bl c/\if c=true then tb σ H1 Q else Q (.bl false) H1
noncomputable def ax(ta:TE):TE:=λσ H Q=>ta σ H λx H1=>∃c,x=.bl c/\Q (.bl (!c)) H1
theorem AC{op}{t:TE}(h:PE X a t):PE X (.BoolOp op [a] pos) t:=λpins s σ H Q I hw=>BoolOp_one (h pins s σ H Q I hw)
theorem BC(ha:PE X a ta)(hb:PE X (.BoolOp .And (b :: rest) pos) tb):PE X (.BoolOp .And (a :: b :: rest) pos) (Zj ta tb):=by
 intro pins s σ H Q I h
 refine BoolOp_and (fX (ha pins s σ H _ I h) λv s1 ⟨x,H1,I1,r1,q1⟩=>?_)
 obtain⟨c,rfl,q1⟩:=q1
 cases r1
 refine wpAny_truthy_bool ?_
 cases c with
 | true=>exact hb pins s1 σ H1 Q I1 q1
 | false=>exact ⟨.bl false,H1,I1,rfl,q1⟩
theorem CC(ha:PE X a ta):PE X (.UnaryOp .Not a pos) (ax ta):=by
 intro pins s σ H Q I h
 refine UnaryOp_ (fX (ha pins s σ H _ I h) λv s1 ⟨x,H1,I1,r1,q1⟩=>?_)
 obtain⟨c,rfl,q1⟩:=q1
 cases r1
 exact not_of (wpAny_truthy_bool ⟨.bl (!c),H1,I1,rfl,q1⟩)
end
noncomputable def SqL(K:A0)(H:Hp)(a:Addr)(xs:List V):Prop :=
 Rd H a (.lst xs) \/
  ∃(o:Obj) (its:Array Value) (n:Nat),K.lookup a=some o/\o.cls=.type "list"/\o.dict=none/\o.data=.seq its n/\its.size<=sizeLine/\Vals xs its.toList
noncomputable def SqT(K:A0)(H:Hp)(a:Addr)(xs:List V):Prop :=
 Rd H a (.tup xs) \/
  ∃(o:Obj) (its:Array Value) (n:Nat),K.lookup a=some o/\o.cls=.type "tuple"/\o.data=.seq its n/\its.size<=sizeLine/\Vals xs its.toList
noncomputable def qO:Value->Option V
 | .none=>some .non
 | .bool b=>some (.bl b)
 | .int i _=>some (.int i)
 | .str x _=>some (.str x)
 | .bytes b _=>some (.byt b)
 | .float b _=>some (.flt b)
 | .ref a=>some (.ref a)
 | .type n=>some (.ty n)
 | _=>none
theorem RelV.abs{x:V}{u:Value}(r:RelV x u):qO u=some x:=by
 cases x with
 | non=>cases r;rfl
 | bl _=>cases r;rfl
 | int _=>obtain⟨t,rfl⟩:=r;rfl
 | str _=>obtain⟨t,rfl⟩:=r;rfl
 | byt _=>obtain⟨t,rfl⟩:=r;rfl
 | flt _=>obtain⟨t,rfl⟩:=r;rfl
 | ref _=>cases r;rfl
 | ty _=>cases r;rfl
theorem RelV.inj{x y:V}{u:Value}(r:RelV x u)(q:RelV y u):x=y:=D2 (r.abs.symm.trans q.abs)
theorem Vals.inj:∀{xs ys:List V}{us:List Value},Vals xs us->Vals ys us->xs=ys
 | _,_,_,.nil,.nil=>rfl
 | _,_,_,.cons r t,.cons r' t'=>by rw[r.inj r',Vals.inj t t']
section
variable {X:Cx}{pins:List (Addr×Obj)}{σ:St}{H:Hp}{s:Shared}{a:Addr}{xs ys:List V}
theorem SqL.of{K:A0}(h:H a=some (.lst xs)):SqL K H a xs:=.inl (.inl h)
theorem SqT.of{K:A0}(h:H a=some (.tup xs)):SqT K H a xs:=.inl (.inl h)
theorem Inv.list(I:Inv X pins σ H s)(h:SqL X.K H a xs):∃its:List Value,Vals xs its/\PlainL s.heap a its.toArray/\xs.length<=sizeLine:=by
 rcases h with h|⟨o,its,n,hk,hc,hd,hs,hz,r⟩
 ·obtain⟨z,its,n,r,e⟩:=h.ok I.hok
  exact ⟨its,r,⟨_,n,e,rfl,rfl,rfl⟩,z⟩
 ·refine ⟨its.toList,r,⟨o,n,I.kIn a o hk,hc,hd,by simpa using hs⟩,?_⟩
  have e:=r.length
  simp only[V0]at e
  omega
theorem Inv.tuple(I:Inv X pins σ H s)(h:SqT X.K H a xs):∃its:List Value,Vals xs its/\IsTup s.heap a its.toArray/\xs.length<=sizeLine:=by
 rcases h with h|⟨o,its,n,hk,hc,hs,hz,r⟩
 ·obtain⟨z,its,r,p⟩:=h.ok I.hok
  exact ⟨its,r,p.t,z⟩
 ·refine ⟨its.toList,r,⟨o,I.kIn a o hk,hc,n,by simpa using hs⟩,?_⟩
  have e:=r.length
  simp only[V0]at e
  omega
theorem Inv.list_inj(I:Inv X pins σ H s)(h:SqL X.K H a xs)(h':SqL X.K H a ys):xs=ys:=by
 obtain⟨its,r,⟨o,n,e,_,_,d⟩,_⟩:=I.list h
 obtain⟨its',r',⟨o',n',e',_,_,d'⟩,_⟩:=I.list h'
 rw[e]at e';cases e'
 rw[d]at d'
 injection d' with d1 _
 have:its=its':=by simpa using congrArg Array.toList d1
 subst this
 exact r.inj r'
theorem Inv.tuple_inj(I:Inv X pins σ H s)(h:SqT X.K H a xs)(h':SqT X.K H a ys):xs=ys:=by
 obtain⟨its,r,⟨o,e,_,n,d⟩,_⟩:=I.tuple h
 obtain⟨its',r',⟨o',e',_,n',d'⟩,_⟩:=I.tuple h'
 rw[e]at e';cases e'
 rw[d]at d'
 injection d' with d1 _
 have:its=its':=by simpa using congrArg Array.toList d1
 subst this
 exact r.inj r'
end
noncomputable abbrev Cx.wish(X:Cx)(E:Value->Shared->Prop):Cx:={ X with xe:=E }
noncomputable abbrev Cx.nox(X:Cx):Cx:=X.wish λ_ _=>False
theorem Cx.Ok.wish{X:Cx}(ok:X.Ok)(E:Value->Shared->Prop):(X.wish E).Ok :=
 ⟨ok.mod,ok.kind,ok.glob,ok.blt,ok.above,ok.inj,ok.has,ok.cab,ok.hd,ok.frames,ok.stk,ok.exf,ok.bs,ok.bsz,ok.noex,ok.exfs,ok.funs,ok.frf⟩
theorem Cx.Ok.unwish{X:Cx}{E:Value->Shared->Prop}(ok:(X.wish E).Ok):X.Ok :=
 ⟨ok.mod,ok.kind,ok.glob,ok.blt,ok.above,ok.inj,ok.has,ok.cab,ok.hd,ok.frames,ok.stk,ok.exf,ok.bs,ok.bsz,ok.noex,ok.exfs,ok.funs,ok.frf⟩
section
variable {X:Cx}{pins:List (Addr×Obj)}{σ:St}{H:Hp}{s:Shared}{E:Value->Shared->Prop}
theorem Inv.wish(I:Inv X pins σ H s)(E:Value->Shared->Prop):Inv (X.wish E) pins σ H s:=⟨I.ok.wish E,I.os,I.bare,I.base,I.loc,I.cell,I.free,I.freeC,I.pin,I.hok,I.len⟩
theorem Inv.unwish(I:Inv (X.wish E) pins σ H s):Inv X pins σ H s:=⟨I.ok.unwish,I.os,I.bare,I.base,I.loc,I.cell,I.free,I.freeC,I.pin,I.hok,I.len⟩
theorem SP.unwish{D:Ends}{f:Flow}{s':Shared}(h:SP (X.wish E) pins D f s'):SP X pins D f s':=by
 cases f with
 | next=>obtain⟨σ',H',I,q⟩:=h;exact ⟨σ',H',I.unwish,q⟩
 | brk=>obtain⟨σ',H',I,q⟩:=h;exact ⟨σ',H',I.unwish,q⟩
 | cont=>obtain⟨σ',H',I,q⟩:=h;exact ⟨σ',H',I.unwish,q⟩
 | ret u=>obtain⟨v,σ',H',I,r,q⟩:=h;exact ⟨v,σ',H',I.unwish,r,q⟩
theorem PSs.nox{st:List Stmt}{t:TS}(h:PSs X.nox st t):PSs X st t:=λpins s σ H D I hw =>
 wpAny_mono (h pins s σ H D (I.wish _) hw) (λ_ _ q=>q.unwish) λ_ _ z=>False.elim z
end
section
variable {X:Cx}{st:Stmt}{rest:List Stmt}{t u:TS}{e:Expr}{te:TE}{pos:Pos}
noncomputable def bx:TS:=λD σ H=>D.nx σ H
noncomputable def LW(t u:TS):TS:=λD σ H=>t { D with nx:=u D } σ H
theorem jy:PSs X [] bx:=λ_ _ σ H _ I h=>wpAny_execs_nil ⟨σ,H,I,h⟩
theorem hZ(h1:PS X st t)(h2:PSs X rest u):PSs X (st :: rest) (LW t u):=by
 intro pins s σ H D I h
 refine wpAny_execs_cons (fX (h1 pins s σ H { D with nx:=u D } I h) λf s1 q=>?_)
 cases f with
 | next =>
  obtain⟨σ',H',I',q⟩:=q
  exact h2 pins s1 σ' H' D I' q
 | ret v=>exact q
 | brk=>exact q
 | cont=>exact q
theorem UV(h1:PS X st t):PSs X [st] t:=by
 intro pins s σ H D I h
 refine wpAny_execs_cons (fX (h1 pins s σ H D I h) λf s1 q=>?_)
 cases f with
 | next=>exact wpAny_execs_nil q
 | ret v=>exact q
 | brk=>exact q
 | cont=>exact q
theorem Inv.quiet{pins:List (Addr×Obj)}{σ:St}{H:Hp}{s:Shared}(I:Inv X pins σ H s):interactive X.env=false:=by simp[interactive,I.ok.kind]
noncomputable def QK(te:TE):TS:=λD σ H=>te σ H λ_ H1=>D.nx σ H1
theorem WV(he:PE X e te)(hs:swapsWith e none pos.line X.env=pure false:=by rfl):PS X (.Expr e pos) (QK te):=by
 intro pins s σ H D I h
 exact wpAny_Expr_any (fX (he pins s σ H _ I h) λv s1 ⟨x,H1,I1,r1,q1⟩=>⟨σ,H1,I1,q1⟩) I.quiet hs
noncomputable def Lz(te:TE):TS:=λD σ H=>te σ H D.rt
theorem VF(he:PE X e te):PS X (.Return (some e) pos) (Lz te):=by
 intro pins s σ H D I h
 exact wpAny_Return_some (fX (he pins s σ H _ I h) λv s1 ⟨x,H1,I1,r1,q1⟩=>⟨x,σ,H1,I1,r1,q1⟩)
noncomputable def DC(c:TT)(t u:TS):TS:=λD σ H=>c σ H λb H1=>if b=true then t D σ H1 else u D σ H1
theorem EL{c:Expr}{a b:List Stmt}{tc:TT}(hc:PT X c tc)(ha:PSs X a t)(hb:PSs X b u):PS X (.If c a b pos) (DC tc t u):=by
 intro pins s σ H D I h
 refine wpAny_If (fX (hc pins s σ H _ I h) λd s1 ⟨H1,I1,q1⟩=>?_)
 cases d with
 | true=>exact ha pins s1 σ H1 D I1 q1
 | false=>exact hb pins s1 σ H1 D I1 q1
end
noncomputable abbrev TG:=V->St->Hp->(St->Hp->Prop)->Prop
noncomputable abbrev Xv:=List V->St->Hp->(St->Hp->Prop)->Prop
noncomputable def PG(X:Cx)(target:Expr)(t:TG):Prop :=
 ∀(pins:List (Addr×Obj)) (s:Shared) (σ:St) (H:Hp) (v:V) (u:Value) (Q:St->Hp->Prop),Inv X pins σ H s->RelV v u->t v σ H Q ->
  wpAny (model X.prog X.w) X.A (assign target X.env u) (λ_ s'=>∃σ' H',Inv X pins σ' H' s'/\Q σ' H') X.xe s
noncomputable def BB(X:Cx)(ts:List Expr)(t:Xv):Prop :=
 ∀(pins:List (Addr×Obj)) (s:Shared) (σ:St) (H:Hp) (vs:List V) (us:List Value) (Q:St->Hp->Prop),Inv X pins σ H s->Vals vs us->t vs σ H Q ->
  wpAny (model X.prog X.w) X.A (assignInOrder ((assignEach ts X.env).map (·.2)) us) (λ_ s'=>∃σ' H',Inv X pins σ' H' s'/\Q σ' H') X.xe s
noncomputable abbrev EC:=V->V->V->Hp->(Hp->Prop)->Prop
noncomputable def FL(X:Cx)(t:EC):Prop :=
 ∀(pins:List (Addr×Obj)) (s:Shared) (σ:St) (H:Hp) (o i v:V) (ov iv u:Value) (Q:Hp->Prop),Inv X pins σ H s->RelV o ov->RelV i iv->RelV v u->t o i v H Q ->
  wpAny (model X.prog X.w) X.A (setItem ov iv u) (λ_ s'=>∃H',Inv X pins σ H' s'/\Q H') X.xe s
section
variable {X:Cx}{pos:Pos}
noncomputable def HX(i:Nat):TG:=λv σ H Q=>Q (σ.set i (some v)) H
theorem XV{i:Nat}{x:Str}(hN:X.N.Nodup)(hi:X.N[i]?=some x)(hx:sC X.env.scope x)(hf:X.fn x=true\/X.env.scope.names.lookup x=some .local:=by first|exact .inl rfl|exact .inr rfl|assumption):PG X (.Name x pos) (HX i):=by
 intro pins s σ H v u Q I r h
 exact wpAny_assign_Name (nG I hN hi hx r (λs' I'=>⟨_,H,I',h⟩) hf)
noncomputable def ly:Xv:=λvs σ H Q=>vs=[]/\Q σ H
noncomputable def iV(t:TG)(u:Xv):Xv:=λvs σ H Q=>∃v r,vs=v :: r/\t v σ H λσ' H'=>u r σ' H' Q
theorem oq:BB X [] ly:=by
 intro pins s σ H vs us Q I r h
 obtain⟨e,h⟩:=h
 subst e
 cases r
 exact assignInOrder_nil ⟨σ,H,I,h⟩
theorem FY{e:Expr}{es:List Expr}{t:TG}{u:Xv}(h1:PG X e t)(h2:BB X es u)
  (hs:(assignEach (e :: es) X.env).map (·.2)=assign e X.env :: (assignEach es X.env).map (·.2):=by rfl):BB X (e :: es) (iV t u):=by
 intro pins s σ H vs us Q I r h
 obtain⟨v,vr,e1,h⟩:=h
 subst e1
 cases r with
 | cons r rr =>
  rw[hs]
  refine assignInOrder_cons (fX (h1 pins s σ H _ _ _ I r h) λ_ s1 ⟨σ1,H1,I1,q1⟩=>?_)
  exact h2 pins s1 σ1 H1 _ _ Q I1 rr q1
noncomputable def Mz(K:A0)(n:Nat)(t:Xv):TG:=λv σ H Q=>∃a xs,v=.ref a/\SqT K H a xs/\xs.length=n/\t xs σ H Q
theorem FC{es:List Expr}{k:Nat}{t:Xv}{n:Nat}(hc:X.calm=true)(h:BB X es t)
  (hn:(assignEach es X.env).length=n:=by rfl) (hst:(assignEach es X.env).findIdx? (·.1)=none:=by rfl):PG X (.Tuple es k pos) (Mz X.K n t):=by
 intro pins s σ H v u Q I r hw
 obtain⟨a,xs,e1,hq,hl,hw⟩:=hw
 subst e1
 cases r
 obtain⟨its,rv,ht,hz⟩:=I.tuple hq
 refine assign_Tuple_tuple (I.ok.hd hc) ht (by simp[hn,<- hl,rv.length]) hst λh' hx=>?_
 have I1:Inv X pins σ H { s with heap:=h' }:=I.kept (t':=s.toks) λb o e=>hx b o (W0 (D0 e)) e
 exact h pins _ σ H xs _ Q I1 (by simpa using rv) hw
noncomputable def GC(to ti:TE)(t:EC):TG:=λv σ H Q=>to σ H λo H1=>ti σ H1 λi H2=>t o i v H2 λH3=>Q σ H3
theorem HC{o i:Expr}{to ti:TE}{t:EC}(ho:PE X o to)(hi:PE X i ti)(hs:FL X t)
  (ha:∀v,assign (.Subscript o i pos) X.env v=(do
    let ov<-holding [v] (eval o X.env)
    let iv<-holding [v,ov] (eval i X.env)
    standAt pos
    holding [v,ov,iv] (setItem ov iv v)
    release [v,ov,iv] []):=by intro _;rfl):PG X (.Subscript o i pos) (GC to ti t):=by
 intro pins s σ H v u Q I r h
 rw[ha]
 refine wpAny_bind (wpAny_holding (fX (ho pins s σ H _ I h) λov s1 ⟨x,H1,I1,r1,q1⟩=>?_))
 refine wpAny_bind (wpAny_holding (fX (hi pins s1 σ H1 _ I1 q1) λiv s2 ⟨y,H2,I2,r2,q2⟩=>?_))
 refine wpAny_bind (wpAny_standAt (wpAny_bind (wpAny_holding (fX (hs pins s2 σ H2 x y v ov iv u _ I2 r1 r2 r q2) λ_ s3 ⟨H3,I3,q3⟩=>?_))))
 exact wpAny_release ⟨σ,H3,I3,q3⟩
noncomputable def UZ(te:TE)(g:TG):TS:=λD σ H=>te σ H λx H1=>g x σ H1 D.nx
theorem cx{tg e:Expr}{te:TE}{g:TG}(he:PE X e te)(hg:PG X tg g)(hs:swapsWithSole [tg] e pos.line X.env=pure false:=by rfl)(hw:swappedStores [tg] e X.env=pure none:=by rfl)
  (h1:(assignEach [tg] X.env).map (·.2)=[assign tg X.env]:=by rfl):PS X (.Assign [tg] e pos) (UZ te g):=by
 intro pins s σ H D I h
 refine wpAny_Assign_stores (fX (he pins s σ H _ I h) λv s1 ⟨x,H1,I1,r1,q1⟩=>?_) hs hw
 rw[h1]
 exact fX (hg pins s1 σ H1 x v _ I1 r1 q1) λ_ s2 q=>q
theorem AK{i:Nat}{x:Str}{e:Expr}{te:TE}{pos':Pos}(hN:X.N.Nodup)(hi:X.N[i]?=some x)(hx:sC X.env.scope x)(he:PE X e te)(hs:swapsWith e (some (.Name x pos')) pos.line X.env=pure false:=by rfl)(hf:X.fn x=true\/X.env.scope.names.lookup x=some .local:=by first|exact .inl rfl|exact .inr rfl|assumption) :
  PS X (.Assign [.Name x pos'] e pos) (UZ te (HX i)):=by
 intro pins s σ H D I h
 refine wpAny_Assign_Name (fX (he pins s σ H _ I h) λv s1 ⟨y,H1,I1,r1,q1⟩=>?_) hs
 exact nG I1 hN hi hx r1 (λs2 I2=>⟨_,H1,I2,q1⟩) hf
end
section
variable {X:Cx}{pos:Pos}
end
structure It where
 go:Nat->Hp->Prop
 yld:Nat->Hp->V->Hp->Prop
 stop:Nat->Hp->Prop
noncomputable def cY(X:Cx)(pins:List (Addr×Obj))(H:Hp)(b:Addr):Prop :=
 H b=none/\b≠X.env.locals/\b∉X.fs/\(b∈X.ex\/X.s₀.heap.objs.size<=b)/\(∀x c,X.env.cells.lookup x=some c->c≠b)/\∀p∈X.pn++pins,p.1≠b
theorem Inv.fpOk{X:Cx}{pins:List (Addr×Obj)}{σ:St}{H H':Hp}{s:Shared}{b:Addr}(I:Inv X pins σ H s)(hb:s.heap.objs.size<=b)(hn:H' b=none):cY X pins H' b:=by
 refine ⟨hn,O1 (N0 I.lt hb),I.nofs hb,.inr (A1 I.sz hb),λx c e z=>?_,λp hp z=>?_⟩
 ·obtain⟨v,q⟩:=I.cell x c e
  exact absurd (N0 q.lt (by rw[z];exact hb)) (B3 _)
 ·exact absurd (N0 (D0 (I.pin p hp).1) (by rw[z];exact hb)) (B3 _)
structure Turn(P:Program)(w:World)(K:A0)(tg:Expr)(J:It)(fp:List Addr)(it:Addr)(tn:Nat->Heap->Prop):Prop where
 mem:it∈fp
 obj:∀i h,tn i h->∀b∈fp,∃o,h.get? b=some o/\∀v,o.data≠.cell v
 keep:∀i h h',tn i h->(∀b∈fp,∀o,h.get? b=some o->h'.get? b=some o)->tn i h'
 item:∀(X:Cx),X.prog=P->X.w=w->X.K=K->X.calm=true->∀(i:Nat) (pins:List (Addr×Obj)) (s:Shared) (σ:St) (H:Hp) (E:Value->Shared->Prop),Inv X pins σ H s->(∀b∈fp,cY X pins H b)->tn i s.heap->J.go i H ->
  wpAny (model P w) X.A (pyNext (.ref it)) (λr s1=>∃u,r=some u /\
    wpAny (model P w) X.A (letOwnedTupleGo tg (.ref it) u) (λ_ s2=>∃x H',Inv X pins σ H' s2/\RelV x u/\J.yld i H x H'/\tn (i+1) s2.heap/\∀b∈fp,H' b=none) E s1) E s
 done:∀(X:Cx),X.prog=P->X.w=w->X.K=K->X.calm=true->∀(i:Nat) (pins:List (Addr×Obj)) (s:Shared) (σ:St) (H:Hp) (E:Value->Shared->Prop),Inv X pins σ H s->(∀b∈fp,cY X pins H b)->tn i s.heap->J.stop i H ->
  wpAny (model P w) X.A (pyNext (.ref it)) (λr s1=>r=none/\Inv X pins σ H s1) E s
 self:∀(A:Around) (i:Nat) (s:Shared) (Q:Value->Shared->Prop) (E:Value->Shared->Prop),tn i s.heap->Q (.ref it) s->wpAny (model P w) A (pyIter (.ref it)) Q E s
noncomputable abbrev TI:=St->Hp->(It->Hp->Prop)->Prop
noncomputable def wP(X:Cx)(pins:List (Addr×Obj))(σ:St)(tg:Expr)(R:It->Hp->Prop)(itv:Value)(s2:Shared):Prop :=
 ∃(it:Addr) (fp:List Addr) (tn:Nat->Heap->Prop) (J:It) (H':Hp),itv=.ref it/\Inv X pins σ H' s2/\Turn X.prog X.w X.K tg J fp it tn/\tn 0 s2.heap/\(∀b∈fp,cY X pins H' b)/\R J H'
noncomputable def PI(X:Cx)(tg iter:Expr)(wi:TI):Prop :=
 ∀(pins:List (Addr×Obj)) (s:Shared) (σ:St) (H:Hp) (R:It->Hp->Prop),Inv X pins σ H s->wi σ H R ->
  wpAny (model X.prog X.w) X.A (eval iter X.env) (λv s1=>wpAny (model X.prog X.w) X.A (pyIter v) (wP X pins σ tg R) X.xe s1) X.xe s
theorem rq{M:Model}{A:Around}{E:Value->Shared->Prop}{s:Shared}{tg:Expr}{it:Addr}{u:Value}{o:Obj}{n:String}{vs:Array Value}{Q:Unit->Shared->Prop}(ho:s.heap.get? it=some o)(hc:o.cls=.type n)(hd:o.data=.fields vs)
  (hn:["enumerate","zip","dict_itemiterator","dict_reverseitemiterator","odict_iterator","itertools.zip_longest","itertools.pairwise"].contains n=false) (hQ:Q () s):wpAny M A (letOwnedTupleGo tg (.ref it) u) Q E s:=by
 unfold letOwnedTupleGo
 cases tg<;>first
  | exact wpAny_pure hQ
  | (cases u<;>first
      | exact wpAny_pure hQ
      | (refine wpAny_bind (wpAny_load ho ?_)
         rw[hc,hd]
         show wpAny M A (if (["enumerate","zip","dict_itemiterator","dict_reverseitemiterator","odict_iterator","itertools.zip_longest","itertools.pairwise"].contains n&&vs[0]?==some (rawInt _))=true then _ else _) Q E s
         rw[if_neg (by intro h;rw[hn,P6]at h;cases h)]
         exact wpAny_pure hQ))
noncomputable def rO(K:A0)(a:Addr):It :=
 ⟨λi H=>∃xs x,SqL K H a xs/\xs[i]?=some x,λi H x H'=>H'=H/\∀xs,SqL K H a xs->xs[i]?=some x,λi H=>∃xs,SqL K H a xs/\xs.length<=i⟩
noncomputable def sO(K:A0)(a:Addr):It :=
 ⟨λi H=>∃xs x,SqT K H a xs/\xs[i]?=some x,λi H x H'=>H'=H/\∀xs,SqT K H a xs->xs[i]?=some x,λi H=>∃xs,SqT K H a xs/\xs.length<=i⟩
noncomputable def GL(lo:Int)(n:Nat):It:=⟨λi _=>i < n,λi H x H'=>H'=H/\x=.int (lo+i),λi _=>n<=i⟩
theorem Nz{P:Program}{w:World}{K:A0}{tg:Expr}(a it:Addr):Turn P w K tg (rO K a) [it] it (λi h=>h.IsListIter it a i) where
 mem:=by simp
 obj:=λi h st b hb=>by
  have e:b=it:=by simpa using hb
  subst e
  obtain⟨o,e,c,d⟩:=st
  exact ⟨o,e,λv z=>by rw[d]at z;cases z⟩
 keep:=λi h h' st k=>st.at λo e=>k it (by simp) o e
 item:=by
  intro X hP hw hK hc i pins s σ H E I hf st hg
  subst hP hw hK
  obtain⟨xs,x,hq,hx⟩:=hg
  obtain⟨its,rv,p,hz⟩:=I.list hq
  obtain⟨u,hu,ru⟩:=rv.get hx
  obtain⟨f0,f1,f2,f3,f4,f5⟩:=hf it (by simp)
  refine wpAny_pyNext_list_item st p.isList (x:=u) (by simpa using hu) λh' st' sb=>?_
  have I1:Inv X pins σ H { s with heap:=h' }:=I.turned (t':=s.toks) (λb o hb e=>(sb.2 b hb).trans e) f0 f1 f3 f4 f5
  obtain⟨o,e,c,d⟩:=id st'
  exact ⟨u,rfl,rq (s:={ s with heap:=h' }) e c d (by decide) ⟨x,H,I1,ru,⟨rfl,λys hy=>by rw[I.list_inj hy hq];exact hx⟩,st',λb hb=>(hf b hb).1⟩⟩
 done:=by
  intro X hP hw hK hc i pins s σ H E I hf st hg
  subst hP hw hK
  obtain⟨xs,hq,hx⟩:=hg
  obtain⟨its,rv,p,hz⟩:=I.list hq
  obtain⟨f0,f1,f2,f3,f4,f5⟩:=hf it (by simp)
  have hl:=rv.length
  exact wpAny_pyNext_list_end (I.ok.hd hc) st p.isList (by simp;omega) λh' eb=>⟨rfl,I.turned (t':=s.toks) (λb o hb e=>eb b o hb e) f0 f1 f3 f4 f5⟩
 self:=λ_ _ _ _ _ st h=>wpAny_pyIter_listiter st h
theorem WF{P:Program}{w:World}{K:A0}{tg:Expr}(a it:Addr):Turn P w K tg (sO K a) [it] it (λi h=>h.IsTupleIter it a i) where
 mem:=by simp
 obj:=λi h st b hb=>by
  have e:b=it:=by simpa using hb
  subst e
  obtain⟨o,e,c,d⟩:=st
  exact ⟨o,e,λv z=>by rw[d]at z;cases z⟩
 keep:=λi h h' st k=>st.at λo e=>k it (by simp) o e
 item:=by
  intro X hP hw hK hc i pins s σ H E I hf st hg
  subst hP hw hK
  obtain⟨xs,x,hq,hx⟩:=hg
  obtain⟨its,rv,p,hz⟩:=I.tuple hq
  obtain⟨u,hu,ru⟩:=rv.get hx
  obtain⟨f0,f1,f2,f3,f4,f5⟩:=hf it (by simp)
  refine wpAny_pyNext_tuple_item st (show s.heap.IsTuple a its.toArray from p) (x:=u) (by simpa using hu) λh' st' sb=>?_
  have I1:Inv X pins σ H { s with heap:=h' }:=I.turned (t':=s.toks) (λb o hb e=>(sb.2 b hb).trans e) f0 f1 f3 f4 f5
  obtain⟨o,e,c,d⟩:=id st'
  exact ⟨u,rfl,rq (s:={ s with heap:=h' }) e c d (by decide) ⟨x,H,I1,ru,⟨rfl,λys hy=>by rw[I.tuple_inj hy hq];exact hx⟩,st',λb hb=>(hf b hb).1⟩⟩
 done:=by
  intro X hP hw hK hc i pins s σ H E I hf st hg
  subst hP hw hK
  obtain⟨xs,hq,hx⟩:=hg
  obtain⟨its,rv,p,hz⟩:=I.tuple hq
  obtain⟨f0,f1,f2,f3,f4,f5⟩:=hf it (by simp)
  have hl:=rv.length
  exact wpAny_pyNext_tuple_end (I.ok.hd hc) st (show s.heap.IsTuple a its.toArray from p) (by simp;omega) λh' eb=>⟨rfl,I.turned (t':=s.toks) (λb o hb e=>eb b o hb e) f0 f1 f3 f4 f5⟩
 self:=λ_ _ _ _ _ st h=>wpAny_pyIter_tupleiter st h
theorem XF{P:Program}{w:World}{K:A0}{tg:Expr}(it:Addr)(lo:Int)(n:Nat):Turn P w K tg (GL lo n) [it] it (λi h=>IsRangeIter h it (lo+(i:Nat) * 1) ((n:Int) - (i:Nat)) 1) where
 mem:=by simp
 obj:=λi h st b hb=>by
  have e:b=it:=by simpa using hb
  subst e
  exact ⟨_,st,λv z=>by
    have z':Data.fields _=Data.cell v:=z
    cases z'⟩
 keep:=λi h h' st k=>k it (by simp) _ st
 item:=by
  intro X hP hw hK hc i pins s σ H E I hf st hg
  subst hP hw hK
  obtain⟨f0,f1,f2,f3,f4,f5⟩:=hf it (by simp)
  have W:=Walks.range (prog:=X.prog) (w:=X.w) (I.ok.hd hc) it lo 1 n
  refine W.item i s _ _ hg st λv h' tk hv st' kk=>?_
  obtain⟨t,rfl⟩:=hv
  have I1:Inv X pins σ H { s with heap:=h',toks:=tk }:=I.turned (λb o hb e=>kk b o (by simpa using hb) e) f0 f1 f3 f4 f5
  refine ⟨_,rfl,rq (s:={ s with heap:=h',toks:=tk }) (n:="range_iterator") st' rfl rfl (by decide) ⟨.int (lo+i),H,I1,⟨t,?_⟩,⟨rfl,rfl⟩,st',λb hb=>(hf b hb).1⟩⟩
  rw[v7]
 done:=by
  intro X hP hw hK hc i pins s σ H E I hf st hg
  subst hP hw hK
  obtain⟨f0,f1,f2,f3,f4,f5⟩:=hf it (by simp)
  exact wpAny_pyNext_range_end (I.ok.hd hc) st (by have:n<=i:=hg;omega) λh' eb=>⟨rfl,I.turned (t':=s.toks) (λb o hb e=>eb b o hb e) f0 f1 f3 f4 f5⟩
 self:=λ_ _ _ _ _ st h=>wpAny_pyIter_rangeiter st h
section
variable {X:Cx}{tg:Expr}
theorem oG{pins:List (Addr×Obj)}{σ:St}{H:Hp}{s:Shared}{R:It->Hp->Prop}{E:Value->Shared->Prop}{lo hi:Int}{t u v:Tok}{tk:Nat}(I:Inv X pins σ H s)(h1:-(2 ^ 62)<=lo)(h2:lo < 2 ^ 62)(h3:-(2 ^ 62)<=hi)(h4:hi < 2 ^ 62)
  (q:R (GL lo (hi - lo).toNat) H):wpAny (model X.prog X.w) X.A (pyIter (.ref s.heap.objs.size)) (wP X pins σ tg R) E { s with heap:=s.heap.push { cls:=.type "range",data:=.fields #[.int lo t,.int hi u,.int 1 v] },toks:=tk }:=by
 refine wpAny_pyIter_range (IsRange.new ..) (small_one h1 h2 h3 h4) ?_
 have I1:Inv X pins σ H { s with heap:=s.heap.push { cls:=.type "range",data:=.fields #[.int lo t,.int hi u,.int 1 v] },toks:=tk }:=I.kept λb o e=>g0 _ e
 refine ⟨(s.heap.push { cls:=.type "range",data:=.fields #[.int lo t,.int hi u,.int 1 v] }).objs.size,[(s.heap.push { cls:=.type "range",data:=.fields #[.int lo t,.int hi u,.int 1 v] }).objs.size],_,_,H,rfl,
   I1.kept (t':=tk) λb o e=>g0 _ e,XF _ lo (hi - lo).toNat,?_,λb hb=>?_,q⟩
 ·have e1:lo+((0:Nat):Int) * 1=lo:=by simp
  have e2:(((hi - lo).toNat:Nat):Int) - ((0:Nat):Int)=t8 lo hi 1:=by rw[rangeSize_one];split<;>omega
  show IsRangeIter _ _ (lo+((0:Nat):Int) * 1) ((((hi - lo).toNat:Nat):Int) - ((0:Nat):Int)) 1
  rw[e1,e2]
  exact J0 _ rfl
 ·have e:b=(s.heap.push { cls:=.type "range",data:=.fields #[.int lo t,.int hi u,.int 1 v] }).objs.size:=by simpa using hb
  subst e
  exact I1.fpOk (G0 _) (I1.hok.fresh (G0 _))
noncomputable def fx(ta:TA):TI:=λσ H R=>ta σ H λvs H1=>∃j:Int,vs=[.int j]/\-(2 ^ 62)<=j/\j < 2 ^ 62/\R (GL 0 j.toNat) H1
noncomputable def gx(ta:TA):TI:=λσ H R=>ta σ H λvs H1=>∃i j:Int,vs=[.int i,.int j]/\(-(2 ^ 62)<=i/\i < 2 ^ 62/\-(2 ^ 62)<=j/\j < 2 ^ 62)/\R (GL i (j - i).toNat) H1
theorem Oz{a:Expr}{ta:TA}{p pos:Pos}(hg:Gl X "range")(hm:X.mg "range"=none)(ha:PA X [a] ta)(hs:starEach [a] X.env=[(false,eval a X.env)]:=by rfl):PI X tg (.Call (.Name "range" p) [a] [] pos) (fx ta):=by
 intro pins s σ H R I h
 refine Call_ (fZ I hg hm boot_range (O2 (fX (ha pos pins s σ H _ I h) λus s1 ⟨vs,H1,I1,r1,q1⟩=>?_) hs rfl))
 obtain⟨j,e,q1,q2,q⟩:=q1
 subst e
 cases r1 with
 | cons r rr =>
  cases rr
  obtain⟨t,rfl⟩:=r
  exact call_range_1 (oG I1 (by omega) (by omega) q1 q2 (by simpa using q))
theorem Pz{a b:Expr}{ta:TA}{p pos:Pos}(hg:Gl X "range")(hm:X.mg "range"=none)(ha:PA X [a,b] ta)(hs:starEach [a,b] X.env=[(false,eval a X.env),(false,eval b X.env)]:=by rfl)(hs2:starEach [b] X.env=[(false,eval b X.env)]:=by rfl) :
  PI X tg (.Call (.Name "range" p) [a,b] [] pos) (gx ta):=by
 intro pins s σ H R I h
 refine Call_ (fZ I hg hm boot_range (O2 (fX (ha pos pins s σ H _ I h) λus s1 ⟨vs,H1,I1,r1,q1⟩=>?_) (by rw[hs,hs2]) (by rw[hs2];rfl)))
 obtain⟨i,j,e,⟨q1,q2,q3,q4⟩,q⟩:=q1
 subst e
 cases r1 with
 | cons r rr =>
  cases rr with
  | cons r' rr =>
   cases rr
   obtain⟨t,rfl⟩:=r
   obtain⟨t',rfl⟩:=r'
   exact call_range_2 (oG I1 q1 q2 q3 q4 q)
noncomputable def Qz(wi:TI)(g:TG)(tb:TS):TS:=λD σ H=>wi σ H λJ H1=>∃W:Nat->Nat->St->Hp->Prop,(∃m,W 0 m σ H1)/\∀i m σ H,W i m σ H ->
 (J.stop i H/\D.nx σ H)\/(J.go i H/\∃N:St->Hp->Prop,(∀σ' H',N σ' H'->∃m',m' < m/\W (i+1) m' σ' H')/\∀x H',J.yld i H x H'->g x σ H' λσ2 H2=>tb { D with nx:=N,ct:=N,bk:=D.nx } σ2 H2)
noncomputable def BK(fp:List Addr)(h:Heap):List (Addr×Obj):=fp.filterMap λb=>(h.get? b).map λo=>(b,o)
theorem GZ{fp:List Addr}{h:Heap}{b:Addr}{o:Obj}(hb:b∈fp)(e:h.get? b=some o):(b,o)∈BK fp h:=m9.mpr ⟨b,hb,by rw[e];rfl⟩
theorem jV{fp:List Addr}{h:Heap}{p:Addr×Obj}(hp:p∈BK fp h):p.1∈fp/\h.get? p.1=some p.2:=by
 obtain⟨b,hb,e⟩:=m9.mp hp
 cases q:h.get? b with
 | none=>rw[q]at e;cases e
 | some o =>
  rw[q]at e
  have e':(b,o)=p:=D2 e
  subst e'
  exact ⟨hb,q⟩
theorem Inv.pinned{pins:List (Addr×Obj)}{σ:St}{H:Hp}{s:Shared}{fp:List Addr}(I:Inv X pins σ H s)(hf:∀b∈fp,cY X pins H b)(ho:∀b∈fp,∃o,s.heap.get? b=some o/\∀v,o.data≠.cell v):Inv X (pins++BK fp s.heap) σ H s :=
 I.pins_of λp hp=>(Q2.mp hp).elim (λz=>I.pin p (W1 _ z)) λz=>by
  obtain⟨hb,e⟩:=jV z
  obtain⟨f0,f1,f2,_⟩:=hf p.1 hb
  obtain⟨o,e',d⟩:=ho p.1 hb
  rw[e]at e';cases e'
  exact ⟨e,f0,f1,f2,d⟩
theorem Inv.unpinned{pins pl:List (Addr×Obj)}{σ:St}{H:Hp}{s:Shared}(I:Inv X (pins++pl) σ H s):Inv X pins σ H s:=I.pins_of λp hp=>I.pin p (W1 _ (y7 _ hp))
theorem ix{iter:Expr}{body:List Stmt}{wi:TI}{g:TG}{tb:TS}{pos:Pos}(hp:PassesOwn (model X.prog X.w) X.A X.env X.xe)(hc:X.calm=true)(hi:PI X tg iter wi)(hg:PG X tg g)(hb:PSs X body tb)
  (hs:∀x,foldedSetIterable iter X.env x=pure x:=by intro _;rfl):PS X (.For tg iter body [] pos) (Qz wi g tb):=by
 intro pins s σ H D I h
 refine wpAny_For (fX (hi pins s σ H _ I h) λv s1 h1=>fX h1 λitv s2 h2=>?_) hs
 obtain⟨it,fp,tn,J,H2,e,I2,T,st2,f2,W,⟨m0,w0⟩,turn⟩:=h2
 subst e
 have stat:∀{H':Hp},(∀b∈fp,H' b=none)->∀b∈fp,cY X pins H' b:=λhn b hb=>⟨hn b hb,(f2 b hb).2⟩
 refine codeAny_forLoop_any (λn s'=>∃i σ' H',Inv X pins σ' H' s'/\tn i s'.heap/\(∀b∈fp,H' b=none)/\W i n σ' H') ?_ m0 ⟨0,σ,H2,I2,st2,λb hb=>(f2 b hb).1,w0⟩
 rintro n s3 ⟨i,σ3,H3,I3,st3,fr3,w3⟩
 rcases turn i n σ3 H3 w3 with⟨stop,qn⟩|⟨go,N,hN,step⟩
 ·refine wpAny_passesOwn hp (fX (T.done X rfl rfl rfl hc i pins s3 σ3 H3 X.xe I3 (stat fr3) st3 stop) λr s4 ⟨hr,I4⟩=>?_)
  subst hr
  exact wpAny_execs_nil ⟨σ3,H3,I4,qn⟩
 ·refine wpAny_passesOwn hp (fX (T.item X rfl rfl rfl hc i pins s3 σ3 H3 X.xe I3 (stat fr3) st3 go) λr s4 ⟨u,hr,h4⟩=>?_)
  subst hr
  refine wpAny_passesOwn hp (fX h4 λ_ s5 ⟨x,H5,I5,r5,y5,st5,fr5⟩=>?_)
  have I5':=I5.pinned (stat fr5) (T.obj _ _ st5)
  refine wpAny_passesOwn hp (fX (hg _ s5 σ3 H5 x u _ I5' r5 (step x H5 y5)) λ_ s6 ⟨σ6,H6,I6,q6⟩=>?_)
  refine wpAny_passesOwn hp (fX (hb _ s6 σ6 H6 _ I6 q6) λf s7 q7=>?_)
  have again:∀{σ7:St}{H7:Hp},Inv X (pins++BK fp s5.heap) σ7 H7 s7->N σ7 H7->∃m,m < n/\∃i σ' H',Inv X pins σ' H' s7/\tn i s7.heap/\(∀b∈fp,H' b=none)/\W i m σ' H':=λ{σ7 H7} I7 n7=>by
   obtain⟨m',hm,w7⟩:=hN σ7 H7 n7
   refine ⟨m',hm,i+1,σ7,H7,I7.unpinned,T.keep _ _ _ st5 λb hb o e=>(I7.pin (b,o) (W1 _ (W1 _ (GZ hb e)))).1,λb hb=>?_,w7⟩
   obtain⟨o,e,d⟩:=T.obj _ _ st5 b hb
   exact (I7.pin (b,o) (W1 _ (W1 _ (GZ hb e)))).2.1
  cases f with
  | next=>obtain⟨σ7,H7,I7,n7⟩:=q7;exact again I7 n7
  | cont=>obtain⟨σ7,H7,I7,n7⟩:=q7;exact again I7 n7
  | brk=>obtain⟨σ7,H7,I7,q7⟩:=q7;exact ⟨σ7,H7,I7.unpinned,q7⟩
  | ret v=>obtain⟨x7,σ7,H7,I7,r7,q7⟩:=q7;exact ⟨x7,σ7,H7,I7.unpinned,r7,q7⟩
end
noncomputable abbrev R2:=V->V->Hp->VK->Prop
noncomputable def OpR(X:Cx)(f:Value->Value->Sem Value)(r:R2):Prop :=
 ∀(pins:List (Addr×Obj)) (s:Shared) (σ:St) (H:Hp) (x y:V) (v u:Value) (Q:VK),Inv X pins σ H s->RelV x v->RelV y u->r x y H Q ->
  wpAny (model X.prog X.w) X.A (f v u) (EP X pins σ Q) X.xe s
noncomputable def tO(X:Cx)(f:Value->Sem Value)(r:V->Hp->VK->Prop):Prop :=
 ∀(pins:List (Addr×Obj)) (s:Shared) (σ:St) (H:Hp) (x:V) (v:Value) (Q:VK),Inv X pins σ H s->RelV x v->r x H Q ->
  wpAny (model X.prog X.w) X.A (f v) (EP X pins σ Q) X.xe s
noncomputable def oX(X:Cx)(f:Value)(r:List V->Hp->VK->Prop):Prop :=
 ∀(pins:List (Addr×Obj)) (s:Shared) (σ:St) (H:Hp) (xs:List V) (us:List Value) (Q:VK),Inv X pins σ H s->Vals xs us->r xs H Q ->
  wpAny (model X.prog X.w) X.A (call f us) (EP X pins σ Q) X.xe s
noncomputable def IC(r:R2)(ta tb:TE):TE:=λσ H Q=>ta σ H λx H1=>tb σ H1 λy H2=>r x y H2 Q
noncomputable def xP(r:V->Hp->VK->Prop)(ta:TE):TE:=λσ H Q=>ta σ H λx H1=>r x H1 Q
noncomputable def rI(C:Int->Int->Prop)(g:Int->Int->V):R2:=λx y H Q=>∃i j,x=.int i/\y=.int j/\C i j/\Q (g i j) H
noncomputable def RK(g:Int->Int->V):R2:=λx y H Q=>∃i j,x=.int i/\y=.int j/\Q (g i j) H
noncomputable def rU(g:Int->V):V->Hp->VK->Prop:=λx H Q=>∃i,x=.int i/\Q (g i) H
section
variable {X:Cx}{a b c:Expr}{ta tb tc:TE}{pos:Pos}
theorem JC(ha:PE X a ta)(hb:PE X b tb){pins:List (Addr×Obj)}{s:Shared}{σ:St}{H:Hp}{R:V->V->Hp->Prop}(I:Inv X pins σ H s)
  (h:ta σ H λx H1=>tb σ H1 λy H2=>R x y H2) {Q:Value->Shared->Prop}{f:Value->Value->Sem Value}
  (hf:∀v u s2 x y H2,Inv X pins σ H2 s2->RelV x v->RelV y u->R x y H2->wpAny (model X.prog X.w) X.A (f v u) Q X.xe s2) :
  wpAny (model X.prog X.w) X.A (eval a X.env) (λv s₁=>wpAny (model X.prog X.w) X.A (eval b X.env) (λu s₂=>wpAny (model X.prog X.w) X.A (f v u) Q X.xe s₂) X.xe s₁) X.xe s:=by
 refine fX (ha pins s σ H _ I h) λv s1 ⟨x,H1,I1,r1,q1⟩=>?_
 refine fX (hb pins s1 σ H1 _ I1 q1) λu s2 ⟨y,H2,I2,r2,q2⟩=>?_
 exact hf v u s2 x y H2 I2 r1 r2 q2
theorem jx{op:Operator}{r:R2}(ho:OpR X (binaryOp op) r)(ha:PE X a ta)(hb:PE X b tb):PE X (.BinOp a op b pos) (IC r ta tb):=by
 intro pins s σ H Q I h
 exact wpAny_BinOp (JC ha hb I h λv u s2 x y H2 I2 rx ry q=>ho pins s2 σ H2 x y v u Q I2 rx ry q)
theorem HL{op:UnaryOp}{r:V->Hp->VK->Prop}(ho:tO X (unaryOp op) r)(ha:PE X a ta):PE X (.UnaryOp op a pos) (xP r ta):=by
 intro pins s σ H Q I h
 exact UnaryOp_ (fX (ha pins s σ H _ I h) λv s1 ⟨x,H1,I1,r1,q1⟩=>ho pins s1 σ H1 x v Q I1 r1 q1)
theorem HN{f:Value->Value->Sem Value}{C:Int->Int->Prop}{g:Int->Int->Int}
  (rule:∀(i j:Int) (t u:Tok) (s:Shared) (Q:Value->Shared->Prop) (E:Value->Shared->Prop),C i j->Q (.int (g i j) s.toks) { s with toks:=s.toks+1 }->wpAny (model X.prog X.w) X.A (f (.int i t) (.int j u)) Q E s) :
  OpR X f (rI C λi j=>.int (g i j)):=by
 intro pins s σ H x y v u Q I rx ry h
 obtain⟨i,j,rfl,rfl,hc,q⟩:=h
 obtain⟨t,rfl⟩:=rx
 obtain⟨t',rfl⟩:=ry
 exact rule i j t t' s _ _ hc ⟨.int (g i j),H,I.tok _,⟨_,rfl⟩,q⟩
theorem IL{f:Value->Value->Sem Value}{g:Int->Int->Int}
  (rule:∀(i j:Int) (t u:Tok) (s:Shared) (Q:Value->Shared->Prop) (E:Value->Shared->Prop),Q (.int (g i j) s.toks) { s with toks:=s.toks+1 }->wpAny (model X.prog X.w) X.A (f (.int i t) (.int j u)) Q E s) :
  OpR X f (RK λi j=>.int (g i j)):=by
 intro pins s σ H x y v u Q I rx ry h
 obtain⟨i,j,rfl,rfl,q⟩:=h
 obtain⟨t,rfl⟩:=rx
 obtain⟨t',rfl⟩:=ry
 exact rule i j t t' s _ _ ⟨.int (g i j),H,I.tok _,⟨_,rfl⟩,q⟩
theorem my{f:Value->Value->Sem Value}{g:Int->Int->Bool}
  (rule:∀(i j:Int) (t u:Tok) (s:Shared) (Q:Value->Shared->Prop) (E:Value->Shared->Prop),Q (.bool (g i j)) s->wpAny (model X.prog X.w) X.A (f (.int i t) (.int j u)) Q E s) :
  OpR X f (RK λi j=>.bl (g i j)):=by
 intro pins s σ H x y v u Q I rx ry h
 obtain⟨i,j,rfl,rfl,q⟩:=h
 obtain⟨t,rfl⟩:=rx
 obtain⟨t',rfl⟩:=ry
 exact rule i j t t' s _ _ ⟨.bl (g i j),H,I,rfl,q⟩
noncomputable def kx(i j:Int):Prop:=0 < j/\j < 1073741824
noncomputable def ny(i j:Int):Prop:=0<=j/\j<=1000000/\i.natAbs < 2 ^ 64
noncomputable def CMul(i j:Int):Prop:=(-(2 ^ 64) < i/\i < 2 ^ 64)\/(-(2 ^ 64) < j/\j < 2 ^ 64)
theorem CMul.ok{i j:Int}(h:CMul i j):IntMulOk i j:=by
 rcases h with⟨h1,h2⟩|⟨h1,h2⟩
 ·exact .of_left (intBits_le_64 h1 h2)
 ·exact .of_right (intBits_le_64 h1 h2)
theorem op_add:OpR X (binaryOp .Add) (RK λi j=>.int (i+j)):=IL λ_ _ _ _ _ _ _ q=>add_int q
theorem iZ:OpR X (binaryOp .Sub) (RK λi j=>.int (i - j)):=IL λ_ _ _ _ _ _ _ q=>sub_int q
theorem op_mul:OpR X (binaryOp .Mult) (rI CMul λi j=>.int (i * j)):=HN λ_ _ _ _ _ _ _ hc q=>mul_int q hc.ok
theorem jY:OpR X (binaryOp .FloorDiv) (rI kx λi j=>.int (i / j)):=HN λi j _ _ _ _ _ hc q=>by
 have h1:(0:Int) < j:=hc.1
 have h2:j < 1073741824:=hc.2
 exact floordiv_int (by omega) (by rw[Int.fdiv_eq_ediv_of_nonneg i (by omega)];exact q) (.inl (PyProof.noPylong_small (by omega)))
theorem VZ:OpR X (binaryOp .Mod) (rI (λ_ j=>0 < j) λi j=>.int (i % j)):=HN λi j _ _ _ _ _ hc q=>by
 have h1:(0:Int) < j:=hc
 exact mod_int' (by omega) (by rw[Int.fmod_eq_emod_of_nonneg i (by omega)];exact q)
theorem lx:OpR X (binaryOp .Pow) (rI ny λi j=>.int (i ^ j.toNat)):=HN λ_ _ _ _ _ _ _ hc q=>pow_int_small hc.1 hc.2.1 hc.2.2 q
theorem unI{f:Value->Sem Value}{g:Int->Int}
  (rule:∀(i:Int) (t:Tok) (s:Shared) (Q:Value->Shared->Prop) (E:Value->Shared->Prop),Q (.int (g i) s.toks) { s with toks:=s.toks+1 }->wpAny (model X.prog X.w) X.A (f (.int i t)) Q E s) :
  tO X f (rU λi=>.int (g i)):=by
 intro pins s σ H x v Q I rx h
 obtain⟨i,rfl,q⟩:=h
 obtain⟨t,rfl⟩:=rx
 exact rule i t s _ _ ⟨.int (g i),H,I.tok _,⟨_,rfl⟩,q⟩
theorem KC:tO X (unaryOp .USub) (rU λi=>.int (-i)):=unI λ_ _ _ _ _ q=>neg_int q
end
noncomputable def JL:V->V->Bool
 | .non,.non=>true | .non,.int _=>true | .int _,.non=>true | .non,.bl _=>true | .bl _,.non=>true | .non,.str _=>true | .str _,.non=>true
 | .int _,.int _=>true | .bl _,.bl _=>true | .str _,.str _=>true | .byt _,.byt _=>true
 | .int _,.str _=>true | .str _,.int _=>true | .bl _,.str _=>true | .str _,.bl _=>true
 | _,_=>false
noncomputable def IN:R2:=λx y H Q=>JL x y=true/\Q (.bl (decide (x=y))) H
noncomputable def JN:R2:=λx y H Q=>JL x y=true/\Q (.bl (!decide (x=y))) H
theorem kY{i j:Int}:decide (V.int i=V.int j)=(i==j):=by
 rw[D6]
 simp
theorem ox{i j:Bool}:decide (V.bl i=V.bl j)=(i==j):=by
 rw[D6]
 simp
theorem lY{i j:Str}:decide (V.str i=V.str j)=(i==j):=by
 rw[D6]
 simp
theorem tq{i j:Array UInt8}:decide (V.byt i=V.byt j)=(i.toList==j.toList):=by
 rw[D6]
 cases i
 cases j
 simp
section
variable {X:Cx}{a b c:Expr}{ta tb tc:TE}{pos:Pos}
theorem GQ{pins:List (Addr×Obj)}{σ:St}{H:Hp}{s:Shared}{Q:VK}{k k':Bool}(I:Inv X pins σ H s)(q:Q (.bl k) H)(e:k=k'):EP X pins σ Q (.bool k') s:=by
 subst e
 exact ⟨.bl k,H,I,rfl,q⟩
theorem op_eq:OpR X (compareOp .Eq) IN:=by
 intro pins s σ H x y v u Q I rx ry h
 obtain⟨hs,q⟩:=h
 cases x with
 | non =>
  cases rx
  cases y with
  | non=>cases ry;exact PySem.EqNone.eq_none_none (GQ I q (by simp))
  | bl j=>cases ry;exact PySem.EqNone.eq_none_bool (GQ I q (by simp))
  | int j=>obtain⟨t',rfl⟩:=ry;exact PySem.EqNone.eq_none_int (GQ I q (by simp))
  | str j=>obtain⟨t',rfl⟩:=ry;exact PySem.EqNone.eq_none_str (GQ I q (by simp))
  | _=>exact absurd (show false=true from hs) K1
 | bl i =>
  cases rx
  cases y with
  | non=>cases ry;exact PySem.EqNone.eq_bool_none (GQ I q (by simp))
  | bl j=>cases ry;exact eq_bool (GQ I q ox)
  | str j=>obtain⟨t',rfl⟩:=ry;exact PySem.EqMixed.eq_bool_str (GQ I q (by simp))
  | _=>exact absurd (show false=true from hs) K1
 | int i =>
  obtain⟨t,rfl⟩:=rx
  cases y with
  | non=>cases ry;exact PySem.EqNone.eq_int_none (GQ I q (by simp))
  | int j=>obtain⟨t',rfl⟩:=ry;exact eq_int (GQ I q kY)
  | str j=>obtain⟨t',rfl⟩:=ry;exact PySem.EqMixed.eq_int_str (GQ I q (by simp))
  | _=>exact absurd (show false=true from hs) K1
 | str i =>
  obtain⟨t,rfl⟩:=rx
  cases y with
  | non=>cases ry;exact PySem.EqNone.eq_str_none (GQ I q (by simp))
  | bl j=>cases ry;exact PySem.EqMixed.eq_str_bool (GQ I q (by simp))
  | int j=>obtain⟨t',rfl⟩:=ry;exact PySem.EqMixed.eq_str_int (GQ I q (by simp))
  | str j=>obtain⟨t',rfl⟩:=ry;exact eq_str (GQ I q lY)
  | _=>exact absurd (show false=true from hs) K1
 | byt i =>
  obtain⟨t,rfl⟩:=rx
  cases y with
  | byt j=>obtain⟨t',rfl⟩:=ry;exact PySem.W.eq_bytes (GQ I q tq)
  | _=>exact absurd (show false=true from hs) K1
 | _=>cases y<;>exact absurd (show false=true from hs) K1
theorem op_ne:OpR X (compareOp .NotEq) JN:=by
 intro pins s σ H x y v u Q I rx ry h
 obtain⟨hs,q⟩:=h
 cases x with
 | non =>
  cases rx
  cases y with
  | non=>cases ry;exact PySem.EqNone.ne_none_none (GQ I q (by simp))
  | bl j=>cases ry;exact PySem.EqNone.ne_none_bool (GQ I q (by simp))
  | int j=>obtain⟨t',rfl⟩:=ry;exact PySem.EqNone.ne_none_int (GQ I q (by simp))
  | str j=>obtain⟨t',rfl⟩:=ry;exact PySem.EqNone.ne_none_str (GQ I q (by simp))
  | _=>exact absurd (show false=true from hs) K1
 | bl i =>
  cases rx
  cases y with
  | non=>cases ry;exact PySem.EqNone.ne_bool_none (GQ I q (by simp))
  | bl j=>cases ry;exact ne_bool (GQ I q (congrArg not ox))
  | str j=>obtain⟨t',rfl⟩:=ry;exact PySem.EqMixed.ne_bool_str (GQ I q (by simp))
  | _=>exact absurd (show false=true from hs) K1
 | int i =>
  obtain⟨t,rfl⟩:=rx
  cases y with
  | non=>cases ry;exact PySem.EqNone.ne_int_none (GQ I q (by simp))
  | int j=>obtain⟨t',rfl⟩:=ry;exact ne_int (GQ I q (congrArg not kY))
  | str j=>obtain⟨t',rfl⟩:=ry;exact PySem.EqMixed.ne_int_str (GQ I q (by simp))
  | _=>exact absurd (show false=true from hs) K1
 | str i =>
  obtain⟨t,rfl⟩:=rx
  cases y with
  | non=>cases ry;exact PySem.EqNone.ne_str_none (GQ I q (by simp))
  | bl j=>cases ry;exact PySem.EqMixed.ne_str_bool (GQ I q (by simp))
  | int j=>obtain⟨t',rfl⟩:=ry;exact PySem.EqMixed.ne_str_int (GQ I q (by simp))
  | str j=>obtain⟨t',rfl⟩:=ry;exact ne_str (GQ I q (congrArg not lY))
  | _=>exact absurd (show false=true from hs) K1
 | byt i =>
  obtain⟨t,rfl⟩:=rx
  cases y with
  | byt j=>obtain⟨t',rfl⟩:=ry;exact PySem.W.ne_bytes (GQ I q (congrArg not tq))
  | _=>exact absurd (show false=true from hs) K1
 | _=>cases y<;>exact absurd (show false=true from hs) K1
theorem pG:OpR X (compareOp .Lt) (RK λi j=>.bl (decide (i < j))):=my λ_ _ _ _ _ _ _ q=>lt_int q
theorem qx:OpR X (compareOp .LtE) (RK λi j=>.bl (decide (i<=j))):=my λ_ _ _ _ _ _ _ q=>le_int q
theorem CB:OpR X (compareOp .Gt) (RK λi j=>.bl (decide (j < i))):=my λ_ _ _ _ _ _ _ q=>gt_int q
theorem KL:OpR X (compareOp .GtE) (RK λi j=>.bl (decide (j<=i))):=my λ_ _ _ _ _ _ _ q=>ge_int q
theorem OpR.or{f:Value->Value->Sem Value}{r r':R2}(h:OpR X f r)(h':OpR X f r'):OpR X f (λx y H Q=>r x y H Q\/r' x y H Q):=by
 intro pins s σ H x y v u Q I rx ry q
 rcases q with q|q
 ·exact h pins s σ H x y v u Q I rx ry q
 ·exact h' pins s σ H x y v u Q I rx ry q
theorem sx(b:Expr){op:CmpOp}(h:op≠.In:=by decide)(h2:op≠.NotIn:=by decide):behindInMarks op b=false:=by
 have e1:(op==CmpOp.In)=false:=by cases op<;>first|rfl|exact absurd rfl h
 have e2:(op==CmpOp.NotIn)=false:=by cases op<;>first|rfl|exact absurd rfl h2
 cases b<;>simp[behindInMarks,e1,e2]
theorem oy{op:CmpOp}{r:R2}(ho:OpR X (compareOp op) r)(ha:PE X a ta)(hb:PE X b tb)(hm:behindInMarks op b=false):PE X (.Compare a [op] [b] pos) (IC r ta tb):=by
 intro pins s σ H Q I h
 exact wpAny_Compare1 (JC ha hb I h λv u s2 x y H2 I2 rx ry q=>ho pins s2 σ H2 x y v u Q I2 rx ry q) hm
noncomputable def ux(t:TE):TT:=λσ H Q=>t σ H λx H'=>∃k,x=.bl k/\Q k H'
theorem qy{op:CmpOp}{r:R2}(ho:OpR X (compareOp op) r)(ha:PE X a ta)(hb:PE X b tb)(hm:behindInMarks op b=false):PT X (.Compare a [op] [b] pos) (ux (IC r ta tb)):=by
 intro pins s σ H Q I h
 refine wpAny_isTrue_Compare1 (fX (ha pins s σ H _ I h) λv s1 ⟨x,H1,I1,r1,q1⟩=>fX (hb pins s1 σ H1 _ I1 q1) λu s2 ⟨y,H2,I2,r2,q2⟩ =>
   fX (ho pins s2 σ H2 x y v u _ I2 r1 r2 q2) λc s3 ⟨z,H3,I3,r3,k,e,q3⟩=>?_) hm
 subst e
 cases r3
 exact wpAny_truthy_bool ⟨H3,I3,q3⟩
noncomputable def YF(r r':R2)(ta tb tc:TE):TE:=λσ H Q=>ta σ H λx H1=>tb σ H1 λy H2=>r x y H2 λz H3=>∃k,z=.bl k /\
 (if k=true then tc σ H3 λw' H4=>r' y w' H4 Q else Q (.bl false) H3)
theorem vx{op op':CmpOp}{r r':R2}(ho:OpR X (compareOp op) r)(ho':OpR X (compareOp op') r')(ha:PE X a ta)(hb:PE X b tb)(hc:PE X c tc)
  (hm:lastMarks [op,op'] [b,c]=false:=by with_unfolding_all rfl):PE X (.Compare a [op,op'] [b,c] pos) (YF r r' ta tb tc):=by
 intro pins s σ H Q I h
 refine Compare_chain (fX (ha pins s σ H _ I h) λv s1 ⟨x,H1,I1,r1,q1⟩=>chain_link (fX (hb pins s1 σ H1 _ I1 q1) λu s2 ⟨y,H2,I2,r2,q2⟩ =>
   fX (ho pins s2 σ H2 x y v u _ I2 r1 r2 q2) λd s3 ⟨z,H3,I3,r3,k,e,q3⟩=>?_)) hm
 subst e
 cases r3
 refine wpAny_truthy_bool ?_
 cases k with
 | false=>exact ite_ff ⟨.bl false,H3,I3,rfl,q3⟩
 | true=>exact ite_tt (chain_last (fX (hc pins s3 σ H3 _ I3 q3) λw' s4 ⟨z',H4,I4,r4,q4⟩=>ho' pins s4 σ H4 y z' u w' Q I4 r2 r4 q4))
theorem YV:(sizeLine:Nat) < 2 ^ 63:=by rw[sizeLine_eq];decide
theorem PZ{x:V}{us:List Value}(r:Vals [x] us):∃u,us=[u]/\RelV x u:=by
 cases r with
 | cons r1 r2=>cases r2;exact ⟨_,rfl,r1⟩
theorem GY{x y:V}{us:List Value}(r:Vals [x,y] us):∃u w',us=[u,w']/\RelV x u/\RelV y w':=by
 cases r with
 | cons r1 r2 =>
  cases r2 with
  | cons r3 r4=>cases r4;exact ⟨_,_,rfl,r1,r3⟩
theorem qG:oX X (.builtin "abs") (λxs H Q=>∃i,xs=[.int i]/\Q (.int (if i < 0 then -i else i)) H):=by
 intro pins s σ H xs us Q I r h
 obtain⟨i,rfl,q⟩:=h
 obtain⟨u,rfl,t,rfl⟩:=PZ r
 exact call_abs_int λu tk=>⟨.int (if i < 0 then -i else i),H,I.tok _,⟨_,rfl⟩,q⟩
theorem Rz(hc:X.calm=true):oX X (.builtin "min") (λxs H Q=>∃i j,xs=[.int i,.int j]/\Q (.int (if j < i then j else i)) H):=by
 intro pins s σ H xs us Q I r h
 obtain⟨i,j,rfl,q⟩:=h
 obtain⟨u,w',rfl,⟨t,rfl⟩,⟨t',rfl⟩⟩:=GY r
 refine min_two_ints (I.ok.hd hc) λh' tk k=>⟨_,H,I.kept k,?_,q⟩
 by_cases hj:j < i
 ·rw[if_pos hj,if_pos hj];exact ⟨_,rfl⟩
 ·rw[if_neg hj,if_neg hj];exact ⟨_,rfl⟩
end
structure ObjM(h:Heap)(x dx C:Addr)(mA:Str->Option Value):Prop where
 obj:h.get? x=some (N9 C dx)
 ns:h.Ns1 dx mA
 ne:dx≠x
section
variable {prog:Program}{w:World}{A:Around}{E:Value->Shared->Prop}{s:Shared}{K:A0}{x dx C f:Addr}{mA:Str->Option Value}{name:Str}{v:Value}
end
theorem RelO.some_of{v:V}{o:Option Value}(r:RelO (some v) o):∃u,o=some u/\RelV v u:=by
 cases o with
 | none=>exact (show False from r).elim
 | some u=>exact ⟨u,rfl,r⟩
section
variable {P:Program}{w:World}{H H':Hp}{h h':Heap}{a C dx:Addr}{fs fs':List (Str×V)}
end
structure Cls(K:A0)(C:Addr):Prop where
 pg:PySem.W.plainGet K C Str.empty=true
 hd:PySem.W.hasDictIn K C=true
 po:PySem.W.plainOver K C=true
 sa:Q6 K (.ref C) "__setattr__"=some (some (.builtin "object.__setattr__"))
structure Con(K:A0)(C:Addr)(f:Str)(v:V)(u:Value):Prop where
 at_:Q6 K (.ref C) f=some (some u)
 rel:RelV v u
 get:E9 K u "__get__"=some none
 cp:PySem.W.copiedNames.contains f=false
structure Meth(K:A0)(C:Addr)(m:Str)(f:Addr):Prop where
 at_:Q6 K (.ref C) m=some (some (.ref f))
 fn:PySem.W.isFn K (.ref f)=true
 kp:X0 K (.ref f)=true
section
variable {X:Cx}{pins:List (Addr×Obj)}{σ:St}{H:Hp}{s:Shared}{a C dx:Addr}{fs:List (Str×V)}{f:Str}{v:V}{A:Around}{E:Value->Shared->Prop}
end
section
variable {X:Cx}{o e value:Expr}{f:Str}{pos pos' tpos:Pos}{ta tv:TE}
end
section
variable {X:Cx}{pins:List (Addr×Obj)}{σ:St}{H:Hp}{s:Shared}{A:Around}{E:Value->Shared->Prop}{Q:Value->Shared->Prop}{c:Value}{b:Bool}
inductive TyOf (K:A0) (H:Hp):V->Value->Prop where
 | non:TyOf K H .non (.type "NoneType")
 | bl (x:Bool):TyOf K H (.bl x) (.type "bool")
 | int (i:Int):TyOf K H (.int i) (.type "int")
 | str (x:Str):TyOf K H (.str x) (.type "str")
 | flt (x:UInt64):TyOf K H (.flt x) (.type "float")
 | lst {a:Addr}{xs:List V} (e:H a=some (.lst xs)):TyOf K H (.ref a) (.type "list")
 | frz {a:Addr}{o:Obj}{xs:List V} (e:H a=some (.frz o (.lst xs))):TyOf K H (.ref a) (.type "list")
 | tup {a:Addr}{xs:List V} (e:H a=some (.tup xs)):TyOf K H (.ref a) (.type "tuple")
 | dK {a:Addr}{kvs:List (IQ×V)} (e:H a=some (.dK kvs)):TyOf K H (.ref a) (.type "dict")
 | dT {a:Addr}{kvs:List (List IQ×V)} (e:H a=some (.dT kvs)):TyOf K H (.ref a) (.type "dict")
 | ins {a C dx:Addr}{fs:List (Str×V)} (e:H a=some (.ins C dx fs)) (cl:Cls K C) (ha:Q6 K (.ref C) "__class__"=some (some (.builtin "object.__class__")))
   (hn:E9 K (.builtin "object.__class__") "__get__"=some (some (.builtin "getset_descriptor.__get__"))) (htk:PySem.W.takesIn K (.builtin "object.__class__")=some true)
   (hm:PySem.W.mroIn K C (.type "object")=some true):TyOf K H (.ref a) (.ref C)
end
structure Room(k:Nat)(A:Around):Prop where
 hd:A.handled=none
 dp:A.depth+3 * k+5 < recursionLimit
 un:A.units+16 * k+200 < cLine
 gd:A.guards=some []
theorem Room.mono{j k:Nat}{A:Around}(r:Room k A)(h:j<=k):Room j A:=⟨r.hd,by have:=r.dp;omega,by have:=r.un;omega,r.gd⟩
theorem Room.deeper{k:Nat}{A:Around}(r:Room (k+1) A)(env:Env):Room k (A.deeper env) :=
 ⟨r.hd,by have:=r.dp;show A.depth+1+3 * k+5 < _;omega,by have:=r.un;show A.units+3+16 * k+200 < _;omega,r.gd⟩
theorem Room.depth{k:Nat}{A:Around}(r:Room k A):A.depth < recursionLimit:=by have:=r.dp;omega
theorem Room.units{k:Nat}{A:Around}(r:Room k A):A.units+64 < cLine:=by have:=r.un;omega
noncomputable def HY:TA:=λ_ H Q=>Q [] H
noncomputable def SK(ta:TE)(tr:TA):TA:=λσ H Q=>ta σ H λx H1=>tr σ H1 λxs H2=>Q (x :: xs) H2
section
variable {X:Cx}{e:Expr}{es:List Expr}{te:TE}{t:TA}{pos:Pos}
theorem WZ:PA X [] HY:=λ_ _ _ _ H Q I h=>Calls.spliced_nil ⟨[],H,I,.nil,h⟩
theorem tJ(ha:PE X e te)(hr:PA X es t)(hs:starEach (e :: es) X.env=(false,eval e X.env) :: starEach es X.env:=by rfl):PA X (e :: es) (SK te t):=by
 intro pos pins s σ H Q I h
 rw[hs]
 show wpAny _ _ (spliced ((false,eval e X.env) :: backTo pos (starEach es X.env))) _ _ s
 refine Calls.spliced_cons (fX (ha pins s σ H _ I h) λu s1 ⟨x,H1,I1,r1,q1⟩=>?_)
 exact fX (hr pos pins s1 σ H1 _ I1 q1) λus s2 ⟨xs,H2,I2,r2,q2⟩=>⟨x :: xs,H2,I2,.cons r1 r2,q2⟩
noncomputable def LC(t:TA):TE:=λσ H Q=>t σ H λxs H1=>xs.length<=sizeLine/\∀p,H1 p=none->Q (.ref p) (OQ H1 p (.tup xs))
noncomputable def rG(t:TA):TE:=λσ H Q=>t σ H λxs H1=>xs.length<=sizeLine/\∀p,H1 p=none->Q (.ref p) (OQ H1 p (.lst xs))
theorem MC{x1}(h:PA X es t):PE X (.Tuple es x1 pos) (LC t):=by
 intro pins s σ H Q I hq
 refine wpAny_Tuple_spliced (fX (h pos pins s σ H _ I hq) λus s1 ⟨xs,H1,I1,r,z,q⟩=>⟨by rw[<- r.length];exact z,?_⟩)
 have hf:H1 s1.heap.objs.size=none:=I1.hok.fresh (G0 _)
 refine ⟨.ref s1.heap.objs.size,OQ H1 s1.heap.objs.size (.tup xs),I1.laid (t':=s1.toks) (λb u e=>g0 _ e) (G0 _) ?_,rfl,q _ hf⟩
 exact ⟨z,us,r,⟨_,J0 _ rfl,rfl,_,rfl,rfl⟩⟩
theorem IY(h:PA X es t):PE X (.List es pos) (rG t):=by
 intro pins s σ H Q I hq
 refine wpAny_List_spliced (fX (h pos pins s σ H _ I hq) λus s1 ⟨xs,H1,I1,r,z,q⟩=>⟨by rw[<- r.length];exact z,?_⟩)
 have hf:H1 s1.heap.objs.size=none:=I1.hok.fresh (G0 _)
 refine ⟨.ref s1.heap.objs.size,OQ H1 s1.heap.objs.size (.lst xs),I1.laid (t':=s1.toks) (λb u e=>g0 _ e) (G0 _) ?_,rfl,q _ hf⟩
 exact ⟨z,us,0,r,J0 _ rfl⟩
end
noncomputable abbrev Sp:=List V->Hp->VK->XK->Prop
noncomputable abbrev xx:=List Env->Hp->Shared->XK->Value->Shared->Prop
structure Env0(P:Program)(w:World)(K:A0)(mg:Str->Option Value)(base:Heap)(A:Around)(outer:List Env)(s:Shared)(H:Hp):Prop where
 frames:A.frames=some outer
 mod:Mod K mg base
 bs:∀b o,base.get? b=some o->s.heap.get? b=some o/\H b=none
 bsz:base.objs.size<=s.heap.objs.size
 funs:s.heap.FunFrames base outer
 frf:∀b∈nq outer,H b=none
 hok:HOk P w H s.heap
 bare:AllBare s.gens
noncomputable def CE(outer:List Env)(P:Program)(w:World)(H:Hp)(s:Shared)(Q:VK)(u:Value)(s':Shared):Prop :=
 ∃v H',s'.os=s.os/\AllBare s'.gens/\Un (nq outer) [] H H' s.heap s'.heap/\HOk P w H' s'.heap/\RelV v u/\Q v H'
noncomputable def CR(CX:xx)(outer:List Env)(P:Program)(w:World)(H:Hp)(s:Shared)(Q:VK)(E:XK)(r:Result)(s':Shared):Prop :=
 match r with
 | .ok (.ret u)=>CE outer P w H s Q u s'
 | .ok _=>False
 | .error e=>CX outer H s E e s'
structure FnOk(P:Program)(w:World)(K:A0)(mg:Str->Option Value)(base:Heap)(CX:xx)(k:Nat)(f:Addr)(fd:FuncData)(ps:List Str)(sp:Sp):Prop where
 len:∀vs H Q E,sp vs H Q E->vs.length=ps.length
 run:∀(A:Around) (outer:List Env) (s:Shared) (H:Hp) (args:Args) (us:List Value) (vs:List V) (Q:VK) (E:XK),Room k A->Env0 P w K mg base A outer s H->BindsTo s fd args (ps.zip us)->Vals vs us->sp vs H Q E ->
  codeAny (model P w) A (.call (.ref f) args) (CR CX outer P w H s Q E) s
section
variable {X:Cx}{pins:List (Addr×Obj)}{σ:St}{H:Hp}{s s':Shared}
theorem Inv.env0(I:Inv X pins σ H s):Env0 X.prog X.w X.K X.mg X.base X.A X.stack s H :=
 ⟨I.ok.frames,I.ok.mod,I.bs,A1 I.ok.bsz I.sz,I.stack,I.stkFree,I.hok,I.bare⟩
theorem Inv.after{Q:VK}{u:Value}(I:Inv X pins σ H s)(h:CE X.stack X.prog X.w H s Q u s'):EP X pins σ Q u s':=by
 obtain⟨v,H',os,bare,un,hok,r,q⟩:=h
 obtain⟨hh,g,d,t,os'⟩:=s'
 obtain rfl:os'=s.os:=os
 exact ⟨v,H',I.call (h':=hh) (g':=g) (d':=d) (t':=t) (ch:=[]) un hok bare (λb z=>absurd z (by simp)),r,q⟩
end
noncomputable def JY(sp:Sp)(dvs:List V)(E:XK)(t:TA):TE:=λσ H Q=>t σ H λvs H1=>sp (vs++dvs) H1 Q E
noncomputable def Binds(K:A0)(fd:FuncData)(ps:List Str)(ds:List Value):Prop :=
 ∀(s:Shared) (us:List Value),K.In s.heap->(us++ds).length=ps.length->BindsTo s fd ⟨us,[]⟩ (ps.zip (us++ds))
theorem Binds.all{K:A0}{fd:FuncData}{ps:List Str}(h:∀us:List Value,us.length=ps.length->bindArgs fd ⟨us,[]⟩=pure (ps.zip us)):Binds K fd ps []:=λs us _ hl=>by
 rw[X1]at hl ⊢
 exact .of_eq (h us hl)
noncomputable def ZF(CX:xx)(X:Cx)(E:XK):Prop:=∀(pins:List (Addr×Obj)) (σ:St) (H:Hp) (s:Shared) (e:Value) (s':Shared),Inv X pins σ H s->CX X.stack H s E e s'->X.xe e s'
section
variable {X:Cx}{CX:xx}{k:Nat}{f C:Addr}{fd:FuncData}{ps:List Str}{sp:Sp}{dvs:List V}{ds:List Value}{E:XK}{x m:Str}{p pos apos:Pos}{e o:Expr}{es:List Expr}{ta:TE}{t:TA}
theorem NC{pins:List (Addr×Obj)}{σ:St}{H:Hp}{s:Shared}{Q:VK}{us:List Value}{vs:List V}(F:FnOk X.prog X.w X.K X.mg X.base CX k f fd ps sp)(hr:Room k X.A)(hb:Binds X.K fd ps ds)(hd:Vals dvs ds)(hx:ZF CX X E)
  (I:Inv X pins σ H s) (r:Vals vs us) (h:sp (vs++dvs) H Q E):wpAny (model X.prog X.w) X.A (call (.ref f) us) (EP X pins σ Q) X.xe s:=by
 have r2:Vals (vs++dvs) (us++ds):=r.append hd
 have hl:(us++ds).length=ps.length:=by rw[<- r2.length];exact F.len _ _ _ _ h
 refine wpAny_call (codeAny_mono (F.run X.A X.stack s H ⟨us,[]⟩ (us++ds) (vs++dvs) Q E hr I.env0 (hb s us I.kIn hl) r2 h) λr s' hq=>?_)
 cases r with
 | error e=>exact hx pins σ H s e s' I hq
 | ok fl =>
  cases fl with
  | ret u=>exact I.after hq
  | next=>exact False.elim hq
  | brk=>exact False.elim hq
  | cont=>exact False.elim hq
theorem sy(F:FnOk X.prog X.w X.K X.mg X.base CX k f fd ps sp)(hr:Room k X.A)(hg:Gl X x)(hm:X.mg x=some (.ref f))(hk:X0 X.K (.ref f)=true)(hb:Binds X.K fd ps ds)(hd:Vals dvs ds)(hx:ZF CX X E)
  (ha:PA X (e :: es) t) (hdb:(x==("__debug__":Str))=false:=by decide) (he:starEach (e :: es) X.env=(false,eval e X.env) :: starEach es X.env:=by rfl) (hpl:(backTo pos (starEach es X.env)).any (·.1)=false:=by rfl) :
  PE X (.Call (.Name x p) (e :: es) [] pos) (JY sp dvs E t):=by
 intro pins s σ H Q I h
 refine wpAny_Call_Name_kw (fy I hg hm ?_ hdb)
 refine PySem.W.callWith_K (h₀:=X.base) I.ok.mod.kin hk (fX (ha pos pins s σ H _ I h) λus s1 ⟨vs,H1,I1,r,q⟩=>⟨I1.kIn,?_⟩) he hpl
 exact NC F hr hb hd hx I1 r q
structure Mk(K:A0)(C f:Addr):Prop where
 makes:PySem.W.makesIn K C=true
 init:Q6 K (.ref C) "__init__"=some (some (.ref f))
 fn:PySem.W.isFn K (.ref f)=true
 kp:X0 K (.ref C)=true
end
section
variable {X:Cx}{CX:xx}{k:Nat}{f C:Addr}{fd:FuncData}{ps ks:List Str}{sp:Sp}{E:XK}{x m:Str}{p pos apos kpos:Pos}{e o:Expr}{es:List Expr}{kws:List Keyword}{te ta:TE}{t tk:TA}{nm:Option Str}
structure KBinds(K:A0)(fd:FuncData)(ps ks:List Str)(g:List Value->List Value->List Value)(gV:List V->List V->List V):Prop where
 to:∀(s:Shared) (us ws:List Value),K.In s.heap->(g us ws).length=ps.length->BindsTo s fd ⟨us,ks.zip ws⟩ (ps.zip (g us ws))
 rel:∀{vs:List V}{us:List Value}{zs:List V}{ws:List Value},Vals vs us->Vals zs ws->Vals (gV vs zs) (g us ws)
variable {g:List Value->List Value->List Value}{gV:List V->List V->List V}
end
structure FnScope(N P:List Str)(sc:Scope):Prop where
 kind:sc.kind=.function
 co:sc.isCoroutine=false
 gen:sc.isGenerator=false
 nd:N.Nodup
 pre:N.take P.length=P
 par:∀x∈P,sc.names.lookup x=some .local\/sc.names.lookup x=some .cell
 nofree:∀y∈sc.names,y.2≠.free
theorem lV{kindOf:Str->Option NameKind}{x:Str}:∀{binds:List (Str×Value)}{m:Str->Option Value},(∀v,(x,v)∉binds)->bindL kindOf binds m x=m x
 | [],_,_=>rfl
 | (n,v) :: r,m,h=>by
  unfold bindL
  rw[lV λw hw=>h w (u0 _ hw)]
  split
  ·have:x≠n:=by rintro rfl;exact h v B0
   simp[this]
  ·rfl
theorem mV{kindOf:Str->Option NameKind}{x:Str}:∀{binds:List (Str×Value)}{m:Str->Option Value},(∀v,(x,v)∉binds)->bindC kindOf binds m x=m x
 | [],_,_=>rfl
 | (n,v) :: r,m,h=>by
  unfold bindC
  rw[mV λw hw=>h w (u0 _ hw)]
  split
  ·rfl
  ·have:x≠n:=by rintro rfl;exact h v B0
   simp[this]
theorem nV{kindOf:Str->Option NameKind}{x:Str}{v:Value}:∀{P:List Str}{vs:List Value}{i:Nat}{m:Str->Option Value},P.Nodup->P[i]?=some x->vs[i]?=some v->kindOf x=some .local ->
  bindL kindOf (P.zip vs) m x=some v
 | [],_,_,_,_,h,_,_=>by simp at h
 | _ :: _,[],_,_,_,_,h,_=>by simp at h
 | p :: P,w :: vs,0,m,nd,h1,h2,hk=>by
  simp at h1 h2;subst h1;subst h2
  show bindL kindOf ((p,w) :: P.zip vs) m p=_
  unfold bindL
  rw[lV λv hv=>(i5.mp nd).1 (j5 hv).1,if_pos hk]
  simp
 | p :: P,w :: vs,i+1,m,nd,h1,h2,hk=>by
  show bindL kindOf ((p,w) :: P.zip vs) m x=_
  unfold bindL
  exact nV (i:=i) (i5.mp nd).2 (by simpa using h1) (by simpa using h2) hk
theorem oV{kindOf:Str->Option NameKind}{x:Str}{v:Value}:∀{P:List Str}{vs:List Value}{i:Nat}{m:Str->Option Value},P.Nodup->P[i]?=some x->vs[i]?=some v->kindOf x≠some .local ->
  bindC kindOf (P.zip vs) m x=some v
 | [],_,_,_,_,h,_,_=>by simp at h
 | _ :: _,[],_,_,_,_,h,_=>by simp at h
 | p :: P,w :: vs,0,m,nd,h1,h2,hk=>by
  simp at h1 h2;subst h1;subst h2
  show bindC kindOf ((p,w) :: P.zip vs) m p=_
  unfold bindC
  rw[mV λv hv=>(i5.mp nd).1 (j5 hv).1,if_neg hk]
  simp
 | p :: P,w :: vs,i+1,m,nd,h1,h2,hk=>by
  show bindC kindOf ((p,w) :: P.zip vs) m x=_
  unfold bindC
  exact oV (i:=i) (i5.mp nd).2 (by simpa using h1) (by simpa using h2) hk
noncomputable def start(N:List Str)(vs:List V):St:=vs.map some++Z1 (N.length - vs.length) none
noncomputable def sG(CX:xx)(P:Program)(w:World)(K:A0)(mg:Str->Option Value)(base:Heap)(N:List Str)(qual:Str)(scope:Scope)(f:Addr)(cd:Value)(A:Around)(outer:List Env)(s:Shared)(H:Hp)(E:XK):Cx where
 prog:=P
 w:=w
 K:=K
 mg:=mg
 base:=base
 A:=A.deeper (envOfC qual scope s.heap.objs.size f cd)
 N:=N
 s₀:=s
 H₀:=H
 env:=envOfC qual scope s.heap.objs.size f cd
 outer:=outer
 stack:=envOfC qual scope s.heap.objs.size f cd :: outer
 ex:=[]
 calm:=true
 fn:=λ_=>true
 pn:=[]
 xe:=λe s'=>wpAny (model P w) (A.deeper (envOfC qual scope s.heap.objs.size f cd)) (leaving (envOfC qual scope s.heap.objs.size f cd) e) (λ_ s''=>CX outer H s E e s'') (λe' s''=>CX outer H s E e' s'') s'
theorem UJ{sc:Scope}{n:Nat}{x:Str}(h:sc.names.lookup x=some .cell):∃c,(cellsFrom n sc.names []).lookup x=some c:=by
 have q:=B8 sc.names n [] (.inl h)
 exact g8.mp q
theorem Sz{CX:xx}{P:Program}{w:World}{K:A0}{mg:Str->Option Value}{base:Heap}{N ps:List Str}{qual:Str}{scope:Scope}{f:Addr}{cd:Value}{A:Around}{outer:List Env}{s s1:Shared}{H:Hp}{E:XK}{us:List Value}{vs:List V}
  (S:FnScope N ps scope) (hd:A.handled=none) (e0:Env0 P w K mg base A outer s H) (hl:vs.length=ps.length) (r:Vals vs us)
  (x:InCallC s s.heap.objs.size (bindL (envOfC qual scope s.heap.objs.size f cd).kindOf (ps.zip us) λ_=>none) (cellsFrom (s.heap.objs.size+1) scope.names []) (bindC (envOfC qual scope s.heap.objs.size f cd).kindOf (ps.zip us) λ_=>none) s1) :
  Inv (sG CX P w K mg base N qual scope f cd A outer s H E) [] (start N vs) H s1:=by
 have hpl:ps.length<=N.length:=by have:=congrArg E4 S.pre;rw[S3]at this;omega
 obtain⟨h1,tk,rfl,hk⟩:=x.done
 have noA:∀b:Addr,b∉(sG CX P w K mg base N qual scope f cd A outer s H E).ex:=λb z=>absurd (show b∈([]:List Addr) from z) (by simp)
 refine ⟨⟨e0.mod,S.kind,rfl,rfl,G0 _,λy z c h1 h2=>?_,λy hy=>?_,λy c _ h=>?_,λ_=>hd,Around.frames_deeper e0.frames,.inr ⟨rfl,rfl⟩,λb z=>absurd z (noA b),e0.bs,e0.bsz,λb _ _=>noA b,λb z=>absurd z (noA b),e0.funs,e0.frf⟩,
   rfl,e0.bare,Un.kept hk,⟨_,x.toInCall.ns,λi y v h1 h2 h3=>?_⟩,λy c h=>⟨_,x.cell y c h⟩,e0.hok.fresh (G0 _),λy c h=>?_,λp hp=>absurd (show p∈([]:List (Addr×Obj)) from hp) (by simp),e0.hok.kept hk,?_⟩
 ·exact name_of_addr x.apart (PySem.mem_of_lookup h1) (PySem.mem_of_lookup h2)
 ·have hy:scope.names.lookup y=some .cell\/scope.names.lookup y=some .free:=hy
  rcases hy with hy|hy
  ·exact UJ hy
  ·exact absurd rfl (S.nofree _ (PySem.mem_of_lookup hy))
 ·exact o5 (x.above y c (PySem.mem_of_lookup h))
 ·have hi:i < vs.length:=by
   unfold start at h2
   by_cases hi:i < vs.length
   ·exact hi
   ·rw[T1 (by simpa using hi)]at h2
    rw[u8]at h2
    split at h2<;>cases h2
  have ha:vs[i]?=some v:=by
   unfold start at h2
   rw[E2 (by simpa using hi),D1]at h2
   cases e:vs[i]? with
   | none=>rw[e]at h2;cases h2
   | some a=>rw[e]at h2;cases h2;rfl
  obtain⟨u,hu,rv⟩:=r.get ha
  have hp:ps[i]?=some y:=by
   rw[<- S.pre,h8 (by omega)];exact h1
  have ndP:ps.Nodup:=by rw[<- S.pre];exact S.nd.sublist (List.take_sublist _ _)
  refine ⟨u,rv,?_⟩
  rcases S.par y (v3 hp) with k|k
  ·exact .inl ⟨k,nV ndP hp hu k⟩
  ·obtain⟨c,e⟩:=UJ (n:=s.heap.objs.size+1) k
   refine .inr ⟨.inl k,c,e,?_⟩
   have q:=x.cell y c e
   rw[oV ndP hp hu (by show scope.names.lookup y≠_;rw[k];decide)]at q
   exact q
 ·exact e0.hok.fresh (o5 (x.above y c (PySem.mem_of_lookup h)))
 ·unfold start
  show _=N.length
  rw[K0,n0,O8]
  omega
theorem LL{CX:xx}{P:Program}{w:World}{K:A0}{mg:Str->Option Value}{base:Heap}{k:Nat}{f:Addr}{name qual:Str}{params:Arguments}{body:List Stmt}{scope:Scope}{dV kV doc pm cdv ct oc:Value}{an od:Option Addr}
  {osl:Array (Option Value)}{N ps:List Str}{sp:Sp} (lk:K.lookup f=some ⟨oc,od,.func (B1 name qual params body scope dV kV doc pm an cdv ct),osl⟩) (hcd:Y0 K cdv qual=true) (S:FnScope N ps scope)
  (len:∀vs H Q E,sp vs H Q E->vs.length=ps.length)
  (hbody:∀(A:Around) (outer:List Env) (s:Shared) (H:Hp) (vs:List V) (Q:VK) (E:XK),Room k (A.deeper (envOfC qual scope s.heap.objs.size f cdv))->sp vs H Q E ->
    ∃t,PSs (sG CX P w K mg base N qual scope f cdv A outer s H E) body t/\t { nx:=λ_ H'=>Q .non H',rt:=Q } (start N vs) H) :
  FnOk P w K mg base CX (k+1) f (B1 name qual params body scope dV kV doc pm an cdv ct) ps sp:=by
 refine ⟨len,λA outer s H args us vs Q E hr e0 hb r hsp=>?_⟩
 have hl:=len _ _ _ _ hsp
 have KX:K.In s.heap:=e0.mod.kin.keeps λb o e=>(e0.bs b o e).1
 have lim:s.heap.NoLimit:=e0.mod.nolimit.keeps λb o e=>(e0.bs b o e).1
 have hkind:∀y∈ps.zip us,scope.names.lookup y.1=some .local\/(scope.names.lookup y.1=some .cell/\((cellsFrom (s.heap.objs.size+1) scope.names []).lookup y.1).isSome=true):=λ⟨n,v⟩ hy=>by
  rcases S.par n (j5 hy).1 with q|q
  ·exact .inl q
  ·exact .inr ⟨q,B8 _ _ _ (.inl q)⟩
 refine codeAny_call_function hr.depth (KX _ _ lk) rfl S.co S.gen rfl (PySem.W.codeRec_of KX hcd) (hb _ _ _ _ ?_)
 refine wpAny_newFunctionEnv_cells S.kind hkind λenv he s1 x=>?_
 subst he
 refine ⟨lim.keeps x.toInCall.keep,codeAny_func ?_⟩
 obtain⟨t,ht,hq⟩:=hbody A outer s H vs Q E (hr.deeper _) hsp
 have I:Inv (sG CX P w K mg base N qual scope f cdv A outer s H E) [] (start N vs) H s1:=Sz S hr.hd e0 hl r x
 refine wpAny_mono (ht [] s1 (start N vs) H _ I hq) (λfl s' hs=>?_) λe s' hs=>hs
 have fin:∀{σ':St}{H':Hp}{v:V}{u:Value},Inv (sG CX P w K mg base N qual scope f cdv A outer s H E) [] σ' H' s'->RelV v u->Q v H'->CE outer P w H s Q u s' :=
  λ{σ' H' v u} J rv q=>⟨v,H',J.os,J.bare,J.base,J.hok,rv,q⟩
 cases fl with
 | ret u =>
  obtain⟨v,σ',H',J,rv,q⟩:=hs
  exact fin J rv q
 | next =>
  obtain⟨σ',H',J,q⟩:=hs
  exact fin (v:=V.non) (u:=o6) J rfl q
 | brk =>
  obtain⟨_,_,_,q⟩:=hs
  exact False.elim q
 | cont =>
  obtain⟨_,_,_,q⟩:=hs
  exact False.elim q
section
variable {X:Cx}{x:Str}{p pos:Pos}{e:Expr}{es:List Expr}{t:TA}{id T:String}{r:List V->Hp->VK->Prop}
noncomputable def uL(r:List V->Hp->VK->Prop)(t:TA):TE:=λσ H Q=>t σ H λvs H1=>r vs H1 Q
theorem tG(hc:oX X (.builtin id) r)(hg:Gl X x)(hm:X.mg x=none)(hv:bootBuiltins x=some (.builtin id))(ha:PA X (e :: es) t)(hn:x ≠ "__name__":=by decide)(hdb:(x==("__debug__":Str))=false:=by decide)
  (he:starEach (e :: es) X.env=(false,eval e X.env) :: starEach es X.env:=by rfl) (hpl:(backTo pos (starEach es X.env)).any (·.1)=false:=by rfl):PE X (.Call (.Name x p) (e :: es) [] pos) (uL r t):=by
 intro pins s σ H Q I h
 refine wpAny_Call_Name_kw (fZ I hg hm hv ?_ hn hdb)
 exact PyProof.Rows.callWith_builtin1 (fX (ha pos pins s σ H _ I h) λus s1 ⟨vs,H1,I1,r1,q1⟩=>hc pins s1 σ H1 vs us Q I1 r1 q1) he hpl
theorem CK(hc:oX X (.type T) r)(hg:Gl X x)(hm:X.mg x=none)(hv:bootBuiltins x=some (.type T))(ha:PA X (e :: es) t)(hn:x ≠ "__name__":=by decide)(hdb:(x==("__debug__":Str))=false:=by decide)
  (he:starEach (e :: es) X.env=(false,eval e X.env) :: starEach es X.env:=by rfl) (hpl:(backTo pos (starEach es X.env)).any (·.1)=false:=by rfl):PE X (.Call (.Name x p) (e :: es) [] pos) (uL r t):=by
 intro pins s σ H Q I h
 refine wpAny_Call_Name_kw (fZ I hg hm hv ?_ hn hdb)
 exact O2 (fX (ha pos pins s σ H _ I h) λus s1 ⟨vs,H1,I1,r1,q1⟩=>hc pins s1 σ H1 vs us Q I1 r1 q1) he hpl
end
end L2
namespace HT
open PySem PyProof.Rows
noncomputable def lexLt:List Int->List Int->Bool
 | [],[]=>false
 | [],_ :: _=>true
 | _ :: _,[]=>false
 | x :: xs,y :: ys=>if x=y then lexLt xs ys else decide (x < y)
theorem lexLt_cons(x y:Int)(xs ys:List Int):lexLt (x :: xs) (y :: ys)=if x=y then lexLt xs ys else decide (x < y):=rfl
theorem MW:lexLt [] []=false:=rfl
theorem KY(y:Int)(ys:List Int):lexLt [] (y :: ys)=true:=rfl
theorem LY(x:Int)(xs:List Int):lexLt (x :: xs) []=false:=rfl
theorem yx(A:Around)(s:Shared)(a:Int)(t:Tok)(c:Int)(u:Tok):∃e,SeqAt.EqAt A s (.int a t) (.int c u) e/\(e=true ↔ a=c) :=
 ⟨(a==c),SeqAt.EqAt.int_int a t c u,by simp⟩
theorem zx(A:Around)(s:Shared)(a:Int)(t:Tok)(c:Int)(u:Tok)(prog:Program)(w:World)(E:Value->Shared->Prop)(Q:Value->Shared->Prop)(h:Q (.bool (decide (a < c))) s) :
  wpAny (model prog w) A (richCompare .Lt (.int a t) (.int c u)) Q E s :=
 (PyProof.Rows.lt_int h:wpAny (model prog w) A (compareOp .Lt (.int a t) (.int c u)) Q E s)
section
open PySem.SeqAt
open PySem.AutoSeq1 (wpAny_loadPart')
open PySem.MeetsSeq PySem.MeetsSeq2 PySem.MeetsSeq3
theorem NW(l b:Addr)(items items2:Array Value)(n n2:Nat)(dd dd2:Option Addr)(sl sl2:Array (Option Value))(ns ms:List Int)(hi:IntsAre items.toList ns)(hj:IntsAre items2.toList ms) :
  Meets (Builtin.«tuple.__lt__» ⟨[.ref l,.ref b],[]⟩)
   (λ_ R s=>s.heap.get? l=some { cls:=.type "tuple",dict:=dd,data:=.seq items n,slots:=sl }/\s.heap.get? b=some { cls:=.type "tuple",dict:=dd2,data:=.seq items2 n2,slots:=sl2 } /\
     R (.ok (.ret (.bool (lexLt ns ms)))) s) :=
 .of_wp λprog w A R s h=>by
  obtain⟨hp,g,d,tk,os⟩:=s;obtain⟨hl,hb,h⟩:=h
  have f2:=AutoSeq1.sub_tuple_tuple
  have z1:items.size=ns.length:=by rw[<- hi.length];simp
  have z2:items2.size=ms.length:=by rw[<- hj.length];simp
  wp_walk using wpAny_loadPart' hl,wpAny_loadPart' hb,wpAny_forIn_list _ (λrest b s'=>b.1=none/\s'=⟨hp,g,d,tk,os⟩/\∃(vs ws:List Value) (ns' ms':List Int),rest=vs.zip ws /\
    IntsAre vs ns'/\IntsAre ws ms'/\ns'.length+items2.size=ms'.length+items.size/\R (.ok (.ret (.bool (lexLt ns' ms')))) ⟨hp,g,d,tk,os⟩) _
  case turn =>
   rintro⟨y,x⟩ rest b s' ⟨hb',rfl,vs,ws,ns',ms',hz,hvi,hwi,hlen,hR⟩
   cases hvi with
   | nil=>rw[List.zip_nil_left]at hz;cases hz
   | cons a t hvi' =>
    cases hwi with
    | nil=>rw[List.zip_nil_right]at hz;cases hz
    | cons c u hwi' =>
     rw[G6]at hz
     injection hz with hyx hrest
     injection hyx with hy hx
     subst hy hx
     rw[lexLt_cons]at hR
     simp only[P1]at hlen
     obtain⟨e,he,hiff⟩:=yx A.in1 ⟨hp,g,d,tk,os⟩ a t c u
     refine wpAny_bind (he prog w _ _ ?_)
     cases e with
     | true =>
      rw[if_pos (hiff.mp rfl)]at hR
      wp_walk
      exact ⟨rfl,rfl,_,_,_,_,hrest,hvi',hwi',by omega,hR⟩
     | false =>
      rw[if_neg (λq=>absurd (hiff.mpr q) K1)]at hR
      have hri:=zx A.in1 ⟨hp,g,d,tk,os⟩ a t c u prog w
      wp_walk using hri
      exact ⟨_,rfl,by simpa using hR⟩
  case fin =>
   rintro⟨b1,b2⟩ s' ⟨hb',rfl,vs,ws,ns',ms',hz,hvi,hwi,hlen,hR⟩
   simp only at hb'
   subst hb'
   have hv:lexLt ns' ms'=decide (items.size < items2.size):=by
    cases hvi with
    | nil =>
     cases hwi with
     | nil =>
      simp only[E6]at hlen
      rw[MW]
      exact (decide_eq_false (by omega)).symm
     | cons c u hw =>
      simp only[E6,P1]at hlen
      rw[KY]
      exact (decide_eq_true (by omega)).symm
    | cons a t hv =>
     cases hwi with
     | nil =>
      simp only[E6,P1]at hlen
      rw[LY]
      exact (decide_eq_false (by omega)).symm
     | cons c u hw =>
      rw[G6]at hz
      cases hz
   rw[hv]at hR
   wp_walk
   exact ⟨_,rfl,by simpa [Builtin.Tuple.tupleCompareSizes]using hR⟩
  case h =>
   exact ⟨rfl,rfl,items.toList,items2.toList,ns,ms,rfl,hi,hj,by omega,h⟩
end
section
variable {prog:Program}{w:World}{A:Around}{E:Value->Shared->Prop}{s:Shared}
theorem lt_tupInts{l b:Addr}{items items2:Array Value}{ns ms:List Int}{Q:Value->Shared->Prop}(hl:IsTup s.heap l items)(hb:IsTup s.heap b items2)(hi:IntsAre items.toList ns)(hj:IntsAre items2.toList ms)
  (hu:A.units < cLine) (h:Q (.bool (lexLt ns ms)) s):wpAny (model prog w) A (compareOp .Lt (.ref l) (.ref b)) Q E s:=by
 obtain⟨⟨cls,dd,data,sl⟩,ho,hc,n,hd⟩:=id hl
 obtain⟨⟨cls2,dd2,data2,sl2⟩,ho2,hc2,n2,hd2⟩:=id hb
 simp only at hc hd hc2 hd2
 subst hc hd hc2 hd2
 exact richCompare_meets_room (op:=.Lt) ⟨_,ho,rfl⟩ ⟨_,ho2,rfl⟩ PySem.F.slot_tuple_lt PySem.F.entry_tuple_lt (PySem.F.args_tuple_lt_2 _ _) (NW l b items items2 n n2 dd dd2 sl sl2 ns ms hi hj)
  ⟨ho,ho2,show O9 (lexLt ns ms)≠Value.notImplemented/\Q (.bool (lexLt ns ms)) s from ⟨(λx=>nomatch x),h⟩⟩ hu
theorem cat_tup{t b:Addr}{vs ws:List Value}{Q:Value->Shared->Prop}(ht:IsTup s.heap t vs.toArray)(hb:IsTup s.heap b ws.toArray)(hv:vs≠[])
  (h1:ws=[]->Q (.ref t) s) (h2:ws≠[]->Q (.ref s.heap.objs.size) { s with heap:=s.heap.push { cls:=.type "tuple",data:=.seq (vs++ws).toArray } })
  (hsz:vs.length+ws.length<=sizeLine):wpAny (model prog w) A (binaryOp .Add (.ref t) (.ref b)) Q E s:=by
 obtain⟨⟨cls,dd,data,sl⟩,ho,hc,n,hd⟩:=id ht
 obtain⟨⟨cls2,dd2,data2,sl2⟩,ho2,hc2,n2,hd2⟩:=id hb
 simp only at hc hd hc2 hd2
 subst hc hd hc2 hd2
 have e:vs.toArray++ws.toArray=(vs++ws).toArray:=by simp
 by_cases hw:ws=[]
 ·exact concat_meets ⟨_,ho,rfl⟩ ⟨_,ho2,rfl⟩ noFill_tuple_add seq_tuple_add PySem.F.slot_tuple_add PySem.F.entry_tuple_add (PySem.F.args_tuple_add_2 _ _)
   (tuple_addW1 t b vs.toArray ws.toArray n n2 dd dd2 sl sl2 (by simpa using hv) (by simp[hw])) ⟨ho,ho2,h1 hw⟩
 ·refine concat_meets ⟨_,ho,rfl⟩ ⟨_,ho2,rfl⟩ noFill_tuple_add seq_tuple_add PySem.F.slot_tuple_add PySem.F.entry_tuple_add (PySem.F.args_tuple_add_2 _ _)
   (tuple_addW2 t b vs.toArray ws.toArray n n2 dd dd2 sl sl2 (by simpa using hv) (by simpa using hw) (by rw[Q0,Q0];exact hsz)) ⟨ho,ho2,?_⟩
  rw[e]
  exact h2 hw
noncomputable def sIx(n d:Nat):Option Int->Nat
 | none=>d
 | some v=>if v < 0 then (v+(n:Int)).toNat else min v.toNat n
theorem OC(n d:Nat)(hd:d<=n)(o:Option Int):sIx n d o<=n:=by
 cases o with
 | none=>exact hd
 | some v =>
  show (if v < 0 then (v+(n:Int)).toNat else min v.toNat n)<=n
  by_cases hv:v < 0
  ·rw[if_pos hv];omega
  ·rw[if_neg hv];exact Nat.min_le_right _ _
theorem uq(v:Int)(n d:Nat):(if v < 0 then max (v+(n:Int)) 0 else min v (n:Int))=((sIx n d (some v):Nat):Int):=by
 show (if v < 0 then max (v+(n:Int)) 0 else min v (n:Int))=(((if v < 0 then (v+(n:Int)).toNat else min v.toNat n):Nat):Int)
 by_cases hv:v < 0
 ·simp only[if_pos hv];omega
 ·simp only[if_neg hv];omega
theorem aD(lo hi:Option Int)(n:Nat):B6 lo hi 1 (n:Int)=(((sIx n 0 lo:Nat):Int),((sIx n n hi:Nat):Int)):=by
 have h1:¬((1:Int) < 0):=by omega
 unfold B6
 simp only[h1,if_false]
 refine Prod.ext ?_ ?_
 ·cases lo with
  | none=>rfl
  | some v=>exact uq v n 0
 ·cases hi with
  | none=>rfl
  | some v=>exact uq v n n
theorem bD(i j:Nat):J5 (i:Int) (j:Int) 1=j - i:=by
 unfold J5
 have h1:(1:Int) > 0:=by omega
 simp only[h1,if_true,Int.ediv_one]
 split<;>omega
theorem MY{v:Value}{o:Option Int}{Q:Option Int->Shared->Prop}(p:IsPart v o)(h:Q o s):wpAny (model prog w) A (Builtin.Slice.slicePartIndex v) Q E s:=by
 cases p with
 | none=>exact slicePart_none h
 | int i t=>exact slicePart_int h
theorem DK{sl:Addr}{vl vu:Value}{lo hi:Option Int}{n:Nat}{Q:Int×Int×Nat->Shared->Prop}(hs:s.heap.IsSliceOf sl vl vu .none)(pl:IsPart vl lo)(pu:IsPart vu hi)
  (h:Q (((sIx n 0 lo:Nat):Int),1,sIx n n hi - sIx n 0 lo) s):wpAny (model prog w) A (Q7 (.ref sl) (pure (n:Int))) Q E s:=by
 obtain⟨os,hos,hcs,hds⟩:=id hs
 unfold Q7 Builtin.Slice.sliceFields
 refine wpAny_bind (wpAny_bind (wpAny_field hos hds (x:=vl) rfl (wpAny_bind (wpAny_field hos hds (x:=vu) rfl (wpAny_bind (wpAny_field hos hds (x:=.none) rfl (wpAny_pure ?_)))))))
 refine wpAny_bind (slicePart_none ?_)
 show wpAny _ _ (if ((1:Int)==0)=true then _ else _) _ _ s
 rw[if_neg (by decide)]
 refine wpAny_bind (MY pl (wpAny_bind (MY pu (wpAny_bind (wpAny_pure ?_)))))
 show wpAny _ _ (match B6 lo hi 1 (n:Int) with|(lo,hi)=>pure (lo,(1:Int),J5 lo hi 1)) _ _ s
 rw[aD lo hi n]
 show wpAny _ _ (pure (((sIx n 0 lo:Nat):Int),(1:Int),J5 ((sIx n 0 lo:Nat):Int) ((sIx n n hi:Nat):Int) 1)) _ _ s
 rw[bD]
 exact wpAny_pure h
theorem Ax(xs:Array Value)(i k:Nat):((O0 k).filterMap λ(m:Nat)=>xs[((i:Int)+(m:Int) * 1).toNat]?).toArray=((xs.toList.drop i).take k).toArray:=by
 have e:(λ(m:Nat)=>xs[((i:Int)+(m:Int) * 1).toNat]?)=λm=>xs[i+m]?:=by
  funext m
  have:((i:Int)+(m:Int) * 1).toNat=i+m:=by omega
  rw[this]
 rw[e]
 have:=pick_run xs i k
 rw[List.filterMap_map]at this
 have e2:((λx=>xs[x]?) ∘ λx=>i+x)=λm=>xs[i+m]?:=rfl
 rw[e2]at this
 rw[this]
theorem getItem_tuple_cut{t sl:Addr}{items:Array Value}{vl vu:Value}{lo hi:Option Int}{Q:Value->Shared->Prop}(ht:IsTup s.heap t items)(hs:s.heap.IsSliceOf sl vl vu .none)(pl:IsPart vl lo)(pu:IsPart vu hi)
  (hw:¬(sIx items.size 0 lo=0/\sIx items.size items.size hi=items.size))
  (h:Q (.ref s.heap.objs.size) { s with heap:=s.heap.push { cls:=.type "tuple",data:=.seq ((items.toList.drop (sIx items.size 0 lo)).take (sIx items.size items.size hi - sIx items.size 0 lo)).toArray } })
  (hsz:items.size<=sizeLine):wpAny (model prog w) A (getItem (.ref t) (.ref sl)) Q E s:=by
 have htake:sizeOk (.seq ((items.toList.drop (sIx items.size 0 lo)).take (sIx items.size items.size hi - sIx items.size 0 lo)).toArray):=by
  show ((items.toList.drop (sIx items.size 0 lo)).take (sIx items.size items.size hi - sIx items.size 0 lo)).toArray.size<=sizeLine
  rw[Q0,S3,Z5,V0]
  omega
 have hj:sIx items.size items.size hi<=items.size:=OC _ _ (G0 _) hi
 obtain⟨os,hos,hcs,hds⟩:=id hs
 have hTs:s.TypeIs (.ref sl) "slice":=⟨os,hos,hcs⟩
 unfold getItem
 try with_reducible refine wpAny_holding ?_
 first|refine wpAny_bind (wpAny_pure ?_)|skip
 refine wpAny_bind (wpAny_sequenceKey ht.typeIs (by decide) ?_)
 refine wpAny_bind (wpAny_callSpecial?_slot (name:=Str.ofString "__getitem__") ht.typeIs X6
   (wpAny_call_entry X6 ht.typeIs entry_tuple_getitem ?_ (args_tuple_getitem _ _)))
 show wpAny _ _ (Builtin.Tuple.tupleItemsOf (.ref t) >>= _) _ _ s
 refine wpAny_bind (tupleItemsOf_ ht ?_)
 refine wpAny_bind (wpAny_typeOf hTs ?_)
 rw[if_pos (by decide)]
 refine wpAny_bind (DK hs pl pu ?_)
 have hno:¬((((sIx items.size 0 lo:Nat):Int)==0&&(1:Int)==1&&(sIx items.size items.size hi - sIx items.size 0 lo)==items.size)=true):=by
  intro q
  rw[U4,U4]at q
  have q1:((sIx items.size 0 lo:Nat):Int)=0:=eq_of_beq q.1.1
  have q2:sIx items.size items.size hi - sIx items.size 0 lo=items.size:=eq_of_beq q.2
  exact hw ⟨by omega,by omega⟩
 show wpAny _ _ (if (((sIx items.size 0 lo:Nat):Int)==0&&(1:Int)==1&&(sIx items.size items.size hi - sIx items.size 0 lo)==items.size)=true then _ else _) _ _ s
 rw[if_neg hno,Ax]
 first
  | exact wpAny_bind (m:=W5 _) (wpAny_newObj_type (wpAny_pure ⟨_,rfl,wpAny_pure h⟩) htake)
  | exact wpAny_bind (m:=W5 _) (wpAny_newObj_type (wpAny_bind (wpAny_pure (wpAny_pure ⟨_,rfl,wpAny_pure h⟩))) htake)
  | exact wpAny_bind (wpAny_bind (m:=W5 _) (wpAny_newObj_type (wpAny_pure (wpAny_pure ⟨_,rfl,wpAny_pure h⟩)) htake))
  | exact wpAny_bind (wpAny_bind (m:=W5 _) (wpAny_newObj_type (wpAny_pure ⟨_,rfl,wpAny_pure h⟩) htake))
end
end HT
namespace L2
open PySem PySem.Spec PyProof.Rows
noncomputable abbrev TO:=St->Hp->(Option Int->Hp->Prop)->Prop
noncomputable def PO(X:Cx)(e:Option Expr)(t:TO):Prop :=
 ∀(pins:List (Addr×Obj)) (s:Shared) (σ:St) (H:Hp) (Q:Option Int->Hp->Prop),Inv X pins σ H s->t σ H Q ->
  wpAny (model X.prog X.w) X.A (evalPart e X.env) (λu s'=>∃o H',Inv X pins σ H' s'/\IsPart u o/\Q o H') X.xe s
noncomputable def uy:TO:=λ_ H Q=>Q none H
noncomputable def ML(t:TE):TO:=λσ H Q=>t σ H λx H1=>∃i,x=.int i/\Q (some i) H1
theorem AX{ns:List Int}:∀{us:List Value},Vals (ns.map V.int) us->IntsAre us ns:=by
 induction ns with
 | nil=>intro us r;rw[W4]at r;cases r;exact .nil
 | cons n ns ih =>
  intro us r
  rw[E1]at r
  cases r with
  | cons r1 r2 =>
   obtain⟨t,e⟩:=r1
   subst e
   exact .cons n t (ih r2)
section
variable {X:Cx}{e:Expr}{te:TE}{lo hi:Option Expr}{tl th:TO}{pos p2:Pos}
theorem vy:PO X none uy:=by
 intro pins s σ H Q I h
 rw[evalPart_none]
 exact wpAny_pure ⟨none,H,I,.none,h⟩
theorem wy(h:PE X e te):PO X (some e) (ML te):=by
 intro pins s σ H Q I hw
 rw[evalPart_some]
 refine fX (h pins s σ H _ I hw) λu s1 ⟨x,H1,I1,r1,q1⟩=>?_
 obtain⟨i,rfl,q⟩:=q1
 obtain⟨t,rfl⟩:=r1
 exact ⟨some i,H1,I1,.int i t,q⟩
noncomputable def yP(X:Cx)(r:V->Option Int->Option Int->Hp->VK->Prop):Prop :=
 ∀(pins:List (Addr×Obj)) (s:Shared) (σ:St) (H:Hp) (x:V) (v vl vu:Value) (lo hi:Option Int) (sl:Addr) (Q:VK),Inv X pins σ H s->RelV x v->s.heap.IsSliceOf sl vl vu .none->IsPart vl lo->IsPart vu hi->r x lo hi H Q ->
  ∃T id,typeLookup (.type T) "__getitem__"=pure (some (.builtin id))/\s.TypeIs v T/\wpAny (model X.prog X.w) X.A (getItem v (.ref sl)) (EP X pins σ Q) X.xe s
noncomputable def UP(r:V->Option Int->Option Int->Hp->VK->Prop)(te:TE)(tl th:TO):TE:=λσ H Q=>te σ H λx H1=>tl σ H1 λl H2=>th σ H2 λu H3=>r x l u H3 Q
theorem Dx{r:V->Option Int->Option Int->Hp->VK->Prop}(hr:yP X r)(he:PE X e te)(hl:PO X lo tl)(hu:PO X hi th):PE X (.Subscript e (.Slice lo hi none p2) pos) (UP r te tl th):=by
 intro pins s σ H Q I h
 refine Subscript_ (fX (he pins s σ H _ I h) λv s1 ⟨x,H1,I1,r1,q1⟩=>?_)
 refine wpAny_Slice (fX (hl pins s1 σ H1 _ I1 q1) λvl s2 ⟨l,H2,I2,pl,q2⟩=>fX (hu pins s2 σ H2 _ I2 q2) λvu s3 ⟨u,H3,I3,pu,q3⟩=>?_)
 rw[evalPart_none]
 refine wpAny_pure ?_
 have I4:Inv X pins σ H3 { s3 with heap:=s3.heap.push { cls:=.type "slice",data:=.fields #[vl,vu,.none] } }:=I3.kept (t':=s3.toks) λb ob q=>g0 _ q
 obtain⟨T,id,hT,ht,hg⟩:=hr pins { s3 with heap:=s3.heap.push { cls:=.type "slice",data:=.fields #[vl,vu,.none] } } σ H3 x v vl vu l u s3.heap.objs.size Q I4 r1 (Heap.IsSliceOf.new ..) pl pu q3
 show wpAny (model X.prog X.w) X.A (subscriptTail e (.Slice lo hi none p2) v (.ref s3.heap.objs.size)) (EP X pins σ Q) X.xe { s3 with heap:=s3.heap.push { cls:=.type "slice",data:=.fields #[vl,vu,.none] } }
 exact tail_any (ops:=[.ref s3.heap.objs.size,v]) ht hT hg (by with_unfolding_all rfl)
noncomputable def Tz(xs:List V)(lo hi:Option Int):List V:=(xs.drop (HT.sIx xs.length 0 lo)).take (HT.sIx xs.length xs.length hi - HT.sIx xs.length 0 lo)
theorem uG(xs:List V)(lo hi:Option Int):(Tz xs lo hi).length<=xs.length:=by
 unfold Tz
 rw[S3,Z5]
 omega
noncomputable def NL(K:A0):V->Option Int->Option Int->Hp->VK->Prop:=λx lo hi H Q=>∃a xs,x=.ref a/\SqT K H a xs /\
 ¬(HT.sIx xs.length 0 lo=0/\HT.sIx xs.length xs.length hi=xs.length)/\∀p,H p=none->Q (.ref p) (OQ H p (.tup (Tz xs lo hi)))
theorem PC:yP X (NL X.K):=by
 intro pins s σ H x v vl vu lo hi sl Q I rx hs pl pu h
 obtain⟨a,xs,rfl,hx,hw,q⟩:=h
 cases rx
 obtain⟨its,r,ht,hz⟩:=I.tuple hx
 have hlen:its.toArray.size=xs.length:=by rw[Q0];exact r.length.symm
 refine ⟨"tuple",_,X6.lookup,ht.typeIs,?_⟩
 refine HT.getItem_tuple_cut ht hs pl pu (by rw[hlen];exact hw) ?_ (by rw[hlen];exact hz)
 rw[hlen]
 refine ⟨.ref s.heap.objs.size,_,I.laid (t':=s.toks) (o:=.tup (Tz xs lo hi)) (λb ob q=>g0 _ q) (G0 _) ?_,rfl,q _ (I.hok.fresh (G0 _))⟩
 exact ⟨A1 (uG xs lo hi) hz,_,(r.drop (HT.sIx xs.length 0 lo)).take (HT.sIx xs.length xs.length hi - HT.sIx xs.length 0 lo),IsTupD.new _ _⟩
noncomputable def OL(K:A0):R2:=λx y H Q=>∃a b xs ys,x=.ref a/\y=.ref b/\SqT K H a xs/\SqT K H b ys/\xs≠[]/\xs.length+ys.length<=sizeLine /\
 (ys=[]->Q (.ref a) H)/\(ys≠[]->∀p,H p=none->Q (.ref p) (OQ H p (.tup (xs++ys))))
theorem Vals.nil_iff{xs:List V}{us:List Value}(r:Vals xs us):us=[] ↔ xs=[]:=by
 cases r with
 | nil=>simp
 | cons _ _=>simp
theorem yy:OpR X (binaryOp .Add) (OL X.K):=by
 intro pins s σ H x y v u Q I rx ry h
 obtain⟨a,b,xs,ys,rfl,rfl,ha,hb,hx,hz,q1,q2⟩:=h
 cases rx
 cases ry
 obtain⟨its,r1,p1,_⟩:=I.tuple ha
 obtain⟨its2,r2,p2,_⟩:=I.tuple hb
 refine HT.cat_tup p1 p2 (λz=>hx (r1.nil_iff.mp z)) (λz=>⟨.ref a,H,I,rfl,q1 (r2.nil_iff.mp z)⟩) (λz=>?_) (by rw[<- r1.length,<- r2.length];exact hz)
 refine ⟨.ref s.heap.objs.size,_,I.laid (t':=s.toks) (o:=.tup (xs++ys)) (λb ob q=>g0 _ q) (G0 _) ?_,rfl,q2 (λw=>z (r2.nil_iff.mpr w)) _ (I.hok.fresh (G0 _))⟩
 exact ⟨by rw[K0];exact hz,_,r1.append r2,IsTupD.new _ _⟩
end
noncomputable def SF(n:Nat)(i:Int):Option Nat:=if 0<=i then (if i < n then some i.toNat else none) else if -(n:Int)<=i then some (i+n).toNat else none
noncomputable def SJ{α:Type}(xs:List α)(i:Int):Option α:=(SF xs.length i).bind λj=>xs[j]?
theorem vq{n:Nat}{i:Int}{j:Nat}(h:SF n i=some j):seqIndex? i n=some j/\j < n/\-(n:Int)<=i/\i < n:=by
 unfold SF at h
 by_cases h0:0<=i
 ·rw[if_pos h0]at h
  by_cases h1:i < n
  ·rw[if_pos h1]at h
   have e:i.toNat=j:=D2 h
   exact ⟨by rw[seqIndex_of h0 h1,e],by omega,by omega,h1⟩
  ·rw[if_neg h1]at h;cases h
 ·rw[if_neg h0]at h
  by_cases h1:-(n:Int)<=i
  ·rw[if_pos h1]at h
   have e:(i+n).toNat=j:=D2 h
   exact ⟨by rw[seqIndex_neg (by omega) h1,e],by omega,h1,by omega⟩
  ·rw[if_neg h1]at h;cases h
theorem wq{α:Type}{xs:List α}{i:Int}{v:α}(h:SJ xs i=some v):∃j,seqIndex? i xs.length=some j/\xs[j]?=some v/\j < xs.length/\-(xs.length:Int)<=i/\i < xs.length:=by
 unfold SJ at h
 cases e:SF xs.length i with
 | none=>rw[e]at h;cases h
 | some j =>
  rw[e]at h
  obtain⟨h1,h2,h3,h4⟩:=vq e
  exact ⟨j,h1,h,h2,h3,h4⟩
theorem mY{α:Type}{xs:List α}{j:Nat}{v:α}(h:xs[j]?=some v):SJ xs (j:Int)=some v:=by
 have hj:j < xs.length:=(J1.mp h).1
 have e:SF xs.length (j:Int)=some j:=by
  unfold SF
  rw[if_pos (by omega),if_pos (by omega)];simp
 unfold SJ;rw[e];exact h
noncomputable def xq(b:Expr):Prop:=∀o i,subscripted b false o i=operate [o,i] (getItem o i)
noncomputable def IxR(X:Cx)(r:R2):Prop :=
 ∀(value slice:Expr) (pins:List (Addr×Obj)) (s:Shared) (σ:St) (H:Hp) (x y:V) (v u:Value) (Q:VK),Inv X pins σ H s->RelV x v->RelV y u->r x y H Q ->
  subscripted slice false v u=operate [v,u] (getItem v u)->wpAny (model X.prog X.w) X.A (subscriptTail value slice v u) (EP X pins σ Q) X.xe s
noncomputable def KN(X:Cx)(id:String)(r:V->List V->Hp->VK->Prop):Prop :=
 ∀(pins:List (Addr×Obj)) (s:Shared) (σ:St) (H:Hp) (x:V) (xs:List V) (v:Value) (us:List Value) (Q:VK),Inv X pins σ H s->RelV x v->Vals xs us->r x xs H Q ->
  wpAny (model X.prog X.w) X.A (call (.builtin id) (v :: us)) (EP X pins σ Q) X.xe s
section
variable {X:Cx}{a b:Expr}{ta tb:TE}{pos:Pos}
theorem IxR.or{r r':R2}(h:IxR X r)(h':IxR X r'):IxR X (λx y H Q=>r x y H Q\/r' x y H Q):=by
 intro value slice pins s σ H x y v u Q I rx ry q hs
 rcases q with q|q
 ·exact h value slice pins s σ H x y v u Q I rx ry q hs
 ·exact h' value slice pins s σ H x y v u Q I rx ry q hs
theorem PL{r:R2}(hr:IxR X r)(ha:PE X a ta)(hb:PE X b tb)(hs:xq b):PE X (.Subscript a b pos) (IC r ta tb):=by
 intro pins s σ H Q I h
 exact Subscript_ (JC ha hb I h λv u s2 x y H2 I2 rx ry q=>hr a b pins s2 σ H2 x y v u Q I2 rx ry q (hs _ _))
noncomputable def zy(K:A0):R2:=λx y H Q=>∃p xs i v,x=.ref p/\y=.int i/\SqL K H p xs/\SJ xs i=some v/\Q v H
noncomputable def Ay(K:A0):R2:=λx y H Q=>∃p xs i v,x=.ref p/\y=.int i/\SqT K H p xs/\SJ xs i=some v/\Q v H
theorem By:IxR X (zy X.K):=by
 intro value slice pins s σ H x y v u Q I rx ry h hs
 obtain⟨p,xs,i,z,rfl,rfl,hq,he,q⟩:=h
 cases rx
 obtain⟨t,rfl⟩:=ry
 obtain⟨its,r,pl,hz⟩:=I.list hq
 obtain⟨j,h1,h2,h3,h4,h5⟩:=wq he
 obtain⟨w,ew,rw'⟩:=r.get h2
 have hl:=r.length
 have hn:=YV
 have fin:EP X pins σ Q w s:=⟨z,H,I,rw',q⟩
 by_cases h0:0<=i
 ·have hj:i.toNat=j:=by
   rw[seqIndex_of h0 h5]at h1
   exact D2 h1
  exact item_listR pl.isList h0 (by omega) (by rw[hj];simpa using ew) fin hs
 ·have hj:(i+(its.toArray.size:Int)).toNat=j:=by
   rw[seqIndex_neg (by omega) h4]at h1
   rw[Q0,<- hl]
   exact D2 h1
  exact subscriptTail_builtinR (x:=w) pl.isList.typeIs slot_list_getitem.lookup
   (wpAny_getItem_list_neg (Q:=λr s'=>r=w/\EP X pins σ Q r s') pl.isList (by omega) (by rw[Q0]<;>omega) (by omega) (by rw[hj];simpa using ew) ⟨rfl,fin⟩) hs
theorem QC:IxR X (Ay X.K):=by
 intro value slice pins s σ H x y v u Q I rx ry h hs
 obtain⟨p,xs,i,z,rfl,rfl,hq,he,q⟩:=h
 cases rx
 obtain⟨t,rfl⟩:=ry
 obtain⟨its,r,pl,hz⟩:=I.tuple hq
 obtain⟨j,h1,h2,h3,h4,h5⟩:=wq he
 obtain⟨w,ew,rw'⟩:=r.get h2
 have hl:=r.length
 have hn:=YV
 have fin:EP X pins σ Q w s:=⟨z,H,I,rw',q⟩
 exact subscriptTail_builtinR (x:=w) pl.typeIs slot_tuple_getitem.lookup
  (getItem_tuple (j:=j) (Q:=λr s'=>r=w/\EP X pins σ Q r s') pl (by omega) (by omega) (by rw[Q0,<- hl];exact h1) (by simpa using ew) ⟨rfl,fin⟩) hs
theorem cD(its:List Value)(n j:Nat)(u:Value):U2 (·.setIfInBounds j u) { cls:=.type "list",data:=.seq its.toArray n }={ cls:=.type "list",data:=.seq (its.set j u).toArray n }:=by
 simp[U2]
theorem Inv.lst{pins:List (Addr×Obj)}{σ:St}{H:Hp}{s:Shared}{p:Addr}{xs:List V}(I:Inv X pins σ H s)(h:H p=some (.lst xs)) :
  ∃(its:List Value) (n:Nat),Vals xs its/\s.heap.get? p=some { cls:=.type "list",data:=.seq its.toArray n }/\xs.length<=sizeLine:=by
 obtain⟨z,its,n,r,e⟩:=I.hok p _ h
 exact ⟨its,n,r,e,z⟩
theorem Inv.lstUpd{pins:List (Addr×Obj)}{σ:St}{H:Hp}{s:Shared}{p:Addr}{xs ys:List V}{its its':List Value}{n n':Nat}{f:Obj->Obj}(I:Inv X pins σ H s)(h:H p=some (.lst xs))
  (ho:s.heap.get? p=some { cls:=.type "list",data:=.seq its.toArray n }) (hf:f { cls:=.type "list",data:=.seq its.toArray n }={ cls:=.type "list",data:=.seq its'.toArray n' }) (r:Vals ys its') (hz:ys.length<=sizeLine) (t:Nat) :
  Inv X pins σ (OQ H p (.lst ys)) { s with heap:=s.heap.update p f,toks:=t }:=by
 have e:(s.heap.update p f).get? p=some { cls:=.type "list",data:=.seq its'.toArray n' }:=by
  rw[Y2 f ho (by rw[hf]<;>rfl),hf]
 refine I.write (x:=p) (e:=p) (by rw[h];trivial) (.inl rfl) (λb u hb q=>(V3 _ _ (S1 hb)).trans q) ⟨_,e⟩ ?_
 exact ⟨hz,its',n',r,e⟩
noncomputable def yq:V->V->V->Hp->(Hp->Prop)->Prop:=λo i v H Q=>∃p xs k j,o=.ref p/\i=.int k/\H p=some (.lst xs)/\SF xs.length k=some j/\Q (OQ H p (.lst (xs.set j v)))
theorem Ex:FL X yq:=by
 intro pins s σ H o i v ov iv u Q I ro ri rv h
 obtain⟨p,xs,k,j,rfl,rfl,hp,hj,q⟩:=h
 cases ro
 obtain⟨t,rfl⟩:=ri
 obtain⟨its,n,r,ho,hz⟩:=I.lst hp
 obtain⟨h1,h2,h3,h4⟩:=vq hj
 have hl:=r.length
 have hn:=YV
 have I':Inv X pins σ (OQ H p (.lst (xs.set j v))) { s with heap:=s.heap.update p (U2 (·.setIfInBounds j u)) } :=
  I.lstUpd hp ho (cD its n j u) (r.set rv j) (by rw[P4];exact hz) s.toks
 by_cases h0:0<=k
 ·have hk:k.toNat=j:=by
   rw[seqIndex_of h0 h4]at h1
   exact D2 h1
  exact PySem.W.ki_setAt ho h0 (by omega) (by rw[Q0,<- hl];exact h4) (by rw[hk];exact ⟨_,I',q⟩)
 ·have hk:(k+(its.toArray.size:Int)).toNat=j:=by
   rw[seqIndex_neg (by omega) h3]at h1
   rw[Q0,<- hl]
   exact D2 h1
  exact PySem.W.ki_setBack ho (by omega) (by rw[Q0,<- hl];exact h3) (by omega) (by rw[hk];exact ⟨_,I',q⟩)
theorem ZV:oX X (.builtin "len") (λxs H Q=>∃p ys,xs=[.ref p]/\(SqL X.K H p ys\/SqT X.K H p ys)/\Q (.int ys.length) H):=by
 intro pins s σ H xs us Q I r h
 obtain⟨p,ys,rfl,hq,q⟩:=h
 obtain⟨u,rfl,rx⟩:=PZ r
 cases rx
 have hn:=YV
 rcases hq with hq|hq
 ·obtain⟨its,r',pl,hz⟩:=I.list hq
  have hlen:=r'.length
  exact Calls.call_len_list pl.isList (by simp only[Q0]<;>omega) ⟨.int ys.length,H,I.tok _,⟨s.toks+1,by rw[Q0,hlen]⟩,q⟩
 ·obtain⟨its,r',pl,hz⟩:=I.tuple hq
  have hlen:=r'.length
  exact len_tuple pl (by simp only[Q0]<;>omega) ⟨.int ys.length,H,I.tok _,⟨s.toks+1,by rw[Q0,hlen]⟩,q⟩
theorem aU:oX X (.type "list") (λxs H Q=>∃p ys,xs=[.ref p]/\(SqL X.K H p ys\/SqT X.K H p ys)/\∀l,H l=none->Q (.ref l) (OQ H l (.lst ys))):=by
 intro pins s σ H xs us Q I r h
 obtain⟨p,ys,rfl,hq,q⟩:=h
 obtain⟨u,rfl,rx⟩:=PZ r
 cases rx
 have fin:∀(its:List Value),Vals ys its->ys.length<=sizeLine->∀(h':Heap) (c':Nat),(∀b o',s.heap.get? b=some o'->h'.get? b=some o') ->
   h'.get? s.heap.objs.size=some { cls:=.type "list",dict:=none,data:=.seq its.toArray c',slots:=#[] }->EP X pins σ Q (.ref s.heap.objs.size) { s with heap:=h' }:=λits r' hz h' c' kp e =>
  ⟨.ref s.heap.objs.size,_,I.laid (t':=s.toks) kp (G0 _) (show ObjOk X.prog X.w _ h' _ (.lst ys) from ⟨hz,its,c',r',e⟩),rfl,q _ (I.hok.fresh (G0 _))⟩
 rcases hq with hq|hq
 ·obtain⟨its,r',pl,hz⟩:=I.list hq
  have hlen:=r'.length
  obtain⟨o,ho,hc,n,hd⟩:=pl.isList
  exact call_list_seq p (.inl rfl) ho hc hd (λh' c' kp e=>fin its r' hz h' c' kp e) (by simp only[Q0]<;>omega)
 ·obtain⟨its,r',pl,hz⟩:=I.tuple hq
  have hlen:=r'.length
  obtain⟨o,ho,hc,n,hd⟩:=pl
  exact call_list_seq p (.inr rfl) ho hc hd (λh' c' kp e=>fin its r' hz h' c' kp e) (by simp only[Q0]<;>omega)
theorem OW:oX X (.type "tuple") (λxs H Q=>∃p ys,xs=[.ref p]/\((SqL X.K H p ys/\∀l,H l=none->Q (.ref l) (OQ H l (.tup ys)))\/(SqT X.K H p ys/\Q (.ref p) H))):=by
 intro pins s σ H xs us Q I r h
 obtain⟨p,ys,rfl,h⟩:=h
 obtain⟨u,rfl,rx⟩:=PZ r
 cases rx
 rcases h with⟨hq,q⟩|⟨hq,q⟩
 ·obtain⟨its,r',pl,hz⟩:=I.list hq
  have hlen:=r'.length
  refine call_tuple_list pl.isList (λh' kp=>?_) (by simp only[Q0]<;>omega)
  have I1:Inv X pins σ H { s with heap:=h' }:=I.kept (t':=s.toks) kp
  have I2:Inv X pins σ (OQ H h'.objs.size (.tup ys)) { s with heap:=h'.push { cls:=.type "tuple",data:=.seq its.toArray } } :=
   I1.laid (t':=s.toks) (λb o e=>g0 _ e) (G0 _) (show ObjOk X.prog X.w _ _ _ (.tup ys) from ⟨hz,its,r',IsTupD.new _ _⟩)
  exact ⟨.ref h'.objs.size,_,I2,rfl,q _ (I1.hok.fresh (G0 _))⟩
 ·obtain⟨its,r',pl,hz⟩:=I.tuple hq
  exact call_tuple_same pl ⟨.ref p,H,I,rfl,q⟩
noncomputable def uO(K:A0)(T:String)(x:V)(H:Hp):Prop:=match x with
 | .str _=>T = "str"
 | .int _=>T = "int"
 | .ref p=>(T = "list"/\∃xs,SqL K H p xs)\/(T = "tuple"/\∃o,K.lookup p=some o/\o.cls=.type "tuple"/\o.dict=none) \/
   (T = "dict"/\((∃kvs,H p=some (.dK kvs))\/∃kvs,H p=some (.dT kvs)))\/(T = "set"/\∃S n,H p=some (.set S n))
 | _=>False
theorem Fx{pins:List (Addr×Obj)}{σ:St}{H:Hp}{s:Shared}{T:String}{x:V}{v:Value}(I:Inv X pins σ H s)(r:RelV x v)(ty:uO X.K T x H) :
  s.TypeIs v T/\∀a,v=.ref a->∃ob,s.heap.get? a=some ob/\ob.dict=none:=by
 cases x with
 | str z =>
  obtain⟨t,rfl⟩:=r
  cases (show T = "str" from ty)
  exact ⟨typeIs_str s z t,λ_ e=>nomatch e⟩
 | int i =>
  obtain⟨t,rfl⟩:=r
  cases (show T = "int" from ty)
  exact ⟨typeIs_int s i t,λ_ e=>nomatch e⟩
 | ref p =>
  cases r
  rcases ty with⟨rfl,xs,hq⟩|⟨rfl,o,hk,hc,hd⟩|⟨rfl,hk⟩|⟨rfl,S,n,hk⟩
  ·obtain⟨its,_,pl,_⟩:=I.list hq
   refine ⟨pl.isList.typeIs,λa e=>?_⟩
   cases e
   obtain⟨o,n,e,c,hd,_⟩:=pl
   exact ⟨o,e,hd⟩
  ·refine ⟨⟨o,I.kIn p o hk,hc⟩,λa e=>?_⟩
   cases e
   exact ⟨o,I.kIn _ o hk,hd⟩
  ·have z:∃o,s.heap.get? p=some o/\o.ExactDict:=by
    rcases hk with⟨kvs,hk⟩|⟨kvs,hk⟩
    ·obtain⟨_,_,_,_,o,_,_,e,ex,_⟩:=I.hok p _ hk
     exact ⟨o,e,ex⟩
    ·obtain⟨_,_,_,_,o,_,_,e,ex,_⟩:=I.hok p _ hk
     exact ⟨o,e,ex⟩
   obtain⟨o,e,ex⟩:=z
   refine ⟨⟨o,e,ex.1⟩,λa e2=>?_⟩
   cases e2
   exact ⟨o,e,ex.2.1⟩
  ·obtain⟨o,_,_,_,e,ex,_⟩:=I.hok p _ hk
   refine ⟨⟨o,e,ex.1⟩,λa e2=>?_⟩
   cases e2
   exact ⟨o,e,ex.2.1⟩
 | _=>exact False.elim ty
noncomputable def QL(K:A0)(T:String)(r:V->List V->Hp->VK->Prop)(to:TE):TE:=λσ H Q=>to σ H λx H1=>uO K T x H1/\r x [] H1 Q
noncomputable def LN(K:A0)(T:String)(r:V->List V->Hp->VK->Prop)(to:TE)(t:TA):TE:=λσ H Q=>to σ H λx H1=>uO K T x H1/\t σ H1 λxs H2=>r x xs H2 Q
variable {o e:Expr}{es:List Expr}{to:TE}{t:TA}{name:Str}{apos cpos:Pos}{T id:String}{r:V->List V->Hp->VK->Prop}
theorem RC(pa:PlainAttrs T)(slot:Slot T name id)(hty:typeOf (.builtin id)=pure (.type "method_descriptor"))(hm:KN X id r)(ho:PE X o to)
  (hbase:attributeBase o name X.env (eval o X.env)=eval o X.env:=by rfl) (hline:(apos.endLine==cpos.line)=true:=by rfl):PE X (.Call (.Attribute o name apos) [] [] cpos) (QL X.K T r to):=by
 intro pins s σ H Q I h
 refine wpAny_Call_method0_late hbase hline (fX (ho pins s σ H _ I h) λv s1 ⟨x,H1,I1,r1,ty,q1⟩=>?_)
 obtain⟨h1,h2⟩:=Fx I1 r1 ty
 exact ⟨T,id,pa,slot,hty,h1,h2,Calls.callWith_builtin rfl (PySem.evalArgs_none (hm pins s1 σ H1 x [] v [] Q I1 r1 .nil q1))⟩
theorem DB(pa:PlainAttrs T)(slot:Slot T name id)(hty:typeOf (.builtin id)=pure (.type "method_descriptor"))(hm:KN X id r)(ho:PE X o to)(ha:PA X (e :: es) t)
  (hbase:attributeBase o name X.env (eval o X.env)=eval o X.env:=by rfl)
  (hfew:((backTo cpos (starEach (e :: es) X.env)).all (λx=>!x.1)&&(backToKw cpos (keywordEach [] X.env)).all (λx=>x.1.isSome)
    && decide ((e :: es).length+([]:List Keyword).length+(if ([]:List Keyword).isEmpty then 0 else 1) < 30))=true:=by rfl)
  (hline:(apos.endLine==cpos.line)=true:=by rfl) (hs:starEach (e :: es) X.env=(false,eval e X.env) :: starEach es X.env:=by rfl) (hplain:(backTo cpos (starEach es X.env)).any (·.1)=false:=by rfl) :
  PE X (.Call (.Attribute o name apos) (e :: es) [] cpos) (LN X.K T r to t):=by
 intro pins s σ H Q I h
 refine wpAny_Call_method_late hbase hfew hline rfl (fX (ho pins s σ H _ I h) λv s1 ⟨x,H1,I1,r1,ty,q1⟩=>?_)
 obtain⟨h1,h2⟩:=Fx I1 r1 ty
 refine ⟨T,id,pa,slot,hty,h1,h2,?_⟩
 have hA:=ha cpos pins s1 σ H1 _ I1 q1
 rw[hs]at hA ⊢
 refine Calls.callWith_builtin (by show (false||(backTo cpos (starEach es X.env)).any (·.1))=false;rw[hplain]<;>rfl) (Calls.evalArgs_plain ?_)
 exact fX hA λus s2 ⟨vs,H2,I2,r2,q2⟩=>hm pins s2 σ H2 x vs v us Q I2 r1 r2 q2
end
noncomputable def MN(X:Cx)(id:String)(r:V->List V->Hp->VK->Prop):Prop :=
 ∀(pins:List (Addr×Obj)) (s:Shared) (σ:St) (H:Hp) (x:V) (xs:List V) (v:Value) (us:List Value) (Q:VK),Inv X pins σ H s->RelV x v->Vals xs us->r x xs H Q ->
  wpAny (model X.prog X.w) X.A (call (.builtin id) (v :: us)) (EP X pins σ Q) X.xe s
theorem Vals.one:∀{x:V}{us:List Value},Vals [x] us->∃u,us=[u]/\RelV x u
 | _,_,.cons r .nil=>⟨_,rfl,r⟩
theorem Vals.zero:∀{us:List Value},Vals [] us->us=[]
 | _,.nil=>rfl
theorem Vals.rep{xs:List V}{us:List Value}(h:Vals xs us):∀k:Nat,Vals (Z1 k xs).flatten (Z1 k us).flatten
 | 0=>.nil
 | k+1=>by
  rw[Y3,Y3,Q5,Q5]
  exact Vals.append h (Vals.rep h k)
theorem pV(its:List Value):∀(k:Nat) (acc:List Value),
  P9 (λx1 x2=>x1++x2) acc.toArray (Z1 k its.toArray)=(acc++(Z1 k its).flatten).toArray
 | 0,acc=>by simp
 | k+1,acc=>by
  have e:acc.toArray++its.toArray=(acc++its).toArray:=by simp
  have e2:(acc++its)++(Z1 k its).flatten=acc++(Z1 (k+1) its).flatten:=by
   rw[Y3,Q5,K2]
  rw[<- e2,<- pV its k (acc++its),<- e,Y3,P3]
section
variable {X:Cx}{pins:List (Addr×Obj)}{σ:St}{H:Hp}{s:Shared}{l b:Addr}{xs ys zs:List V}
theorem Inv.lset{its its':List Value}{n:Nat}{f:Array Value->Array Value}{t':Nat}(I:Inv X pins σ H s)(hH:H l=some (.lst xs))
  (e:s.heap.get? l=some { cls:=.type "list",data:=.seq its.toArray n }) (hf:f its.toArray=its'.toArray) (hv:Vals ys its') (hz:ys.length<=sizeLine) :
  Inv X pins σ (OQ H l (.lst ys)) { s with heap:=s.heap.update l (U2 f),toks:=t' }:=by
 have q:=PySem.IsL.update e f
 rw[hf]at q
 refine I.write (x:=l) (e:=l) (by rw[hH];exact trivial) (.inl rfl) (λb' u hb hu=>(V3 s.heap (U2 f) (S1 hb)).trans hu) ⟨_,q⟩ ?_
 exact ⟨hz,its',_,hv,q⟩
theorem Inv.lnew{its:List Value}{t':Nat}(I:Inv X pins σ H s)(hv:Vals ys its)(hz:ys.length<=sizeLine) :
  Inv X pins σ (OQ H s.heap.objs.size (.lst ys)) { s with heap:=s.heap.push { cls:=.type "list",data:=.seq its.toArray },toks:=t' } :=
 I.laid (λ_ _ q=>g0 _ q) (G0 _) ⟨hz,its,0,hv,J0 _ rfl⟩
theorem Inv.fresh(I:Inv X pins σ H s):H s.heap.objs.size=none:=I.hok.fresh (G0 _)
theorem Inv.lstM(I:Inv X pins σ H s)(hH:H l=some (.lst xs)):xs.length<=sizeLine/\∃(its:List Value) (n:Nat),Vals xs its/\xs.length=its.length/\s.heap.get? l=some { cls:=.type "list",data:=.seq its.toArray n }:=by
 obtain⟨z,its,n,r,e⟩:=I.hok l _ hH
 exact ⟨z,its,n,r,r.length,e⟩
theorem vG{n:Nat}(h:n<=sizeLine):X5 n=false:=by
 unfold X5
 exact decide_eq_false (by omega)
end
section
variable {X:Cx}
noncomputable def nY:V->List V->Hp->VK->Prop:=λx vs H Q=>∃l xs y,x=.ref l/\vs=[y]/\H l=some (.lst xs)/\xs.length < sizeLine/\Q .non (OQ H l (.lst (xs++[y])))
theorem eZ:MN X "list.append" nY:=by
 intro pins s σ H x vs v us Q I rx rv h
 obtain⟨l,xs,y,rfl,rfl,hH,hz,q⟩:=h
 cases rx
 obtain⟨u,rfl,ru⟩:=rv.one
 obtain⟨z,its,n,r,hl,e⟩:=I.lstM hH
 refine call_meets F.slot_list_append ⟨_,e,rfl⟩ F.entry_list_append (F.args_list_append_2 _ _) (PySem.list_append l its.toArray n u (by rw[Q0];omega)) ⟨e,?_⟩
 refine ⟨.non,_,I.lset (its':=its++[u]) hH e (by simp) (r.append (.cons ru .nil)) ?_,rfl,q⟩
 rw[K0,Q1]
 omega
noncomputable def zq:V->List V->Hp->VK->Prop:=λx vs H Q=>∃l b xs zs,x=.ref l/\vs=[.ref b]/\H l=some (.lst xs)/\H b=some (.lst zs)/\xs.length+zs.length<=sizeLine/\Q .non (OQ H l (.lst (xs++zs)))
theorem Uz:MN X "list.extend" zq:=by
 intro pins s σ H x vs v us Q I rx rv h
 obtain⟨l,b,xs,zs,rfl,rfl,hH,hB,hz,q⟩:=h
 cases rx
 obtain⟨u,rfl,ru⟩:=rv.one
 cases ru
 obtain⟨z,its,n,r,hl,e⟩:=I.lstM hH
 obtain⟨z2,its2,n2,r2,hl2,e2⟩:=I.lstM hB
 have hsz:its.toArray.size+its2.toArray.size<=sizeLine:=by rw[Q0,Q0];omega
 have hlong:¬(!its.toArray.isEmpty&&X5 (its.toArray.size+its2.toArray.size))=true:=by
  rw[vG hsz,Bool.and_false]
  exact K1
 refine call_meets F.slot_list_extend ⟨_,e,rfl⟩ F.entry_list_extend (F.args_list_extend_2 _ _)
  (AutoSeq1.list_extend_list_list_0 l its.toArray n b its2.toArray n2 hlong (by rw[Q0];omega) (by omega)) ⟨e,e2,?_⟩
 refine ⟨.non,_,I.lset (its':=its++its2) hH e (by simp) (r.append r2) ?_,rfl,q⟩
 rw[K0]
 omega
noncomputable def Gx:V->List V->Hp->VK->Prop:=λx vs H Q=>∃l xs,x=.ref l/\vs=[]/\H l=some (.lst xs)/\Q .non (OQ H l (.lst []))
theorem Hx:MN X "list.clear" Gx:=by
 intro pins s σ H x vs v us Q I rx rv h
 obtain⟨l,xs,rfl,rfl,hH,q⟩:=h
 cases rx
 have hus:=rv.zero
 subst hus
 obtain⟨z,its,n,r,hl,e⟩:=I.lstM hH
 refine call_meets F.slot_list_clear ⟨_,e,rfl⟩ F.entry_list_clear (F.args_list_clear_1 _) (AutoSeq1.list_clear_list_0 l its.toArray n (by rw[Q0];omega)) ⟨e,?_⟩
 exact ⟨.non,_,I.lset (its':=[]) (ys:=[]) hH e rfl .nil (i4 _),rfl,q⟩
noncomputable def SC:R2:=λx y H Q=>∃l b xs zs,x=.ref l/\y=.ref b/\H l=some (.lst xs)/\H b=some (.lst zs)/\xs.length+zs.length<=sizeLine/\∀p,H p=none->Q (.ref p) (OQ H p (.lst (xs++zs)))
theorem TC:OpR X (binaryOp .Add) SC:=by
 intro pins s σ H x y v u Q I rx ry h
 obtain⟨l,b,xs,zs,rfl,rfl,hH,hB,hz,q⟩:=h
 cases rx
 cases ry
 obtain⟨z,its,n,r,hl,e⟩:=I.lstM hH
 obtain⟨z2,its2,n2,r2,hl2,e2⟩:=I.lstM hB
 refine PySem.P.add_list e e2 ?_ (by rw[Q0,Q0];omega)
 have ea:its.toArray++its2.toArray=(its++its2).toArray:=by simp
 rw[ea]
 exact ⟨.ref _,_,I.lnew (t':=s.toks) (r.append r2) (by rw[K0];omega),rfl,q _ I.fresh⟩
noncomputable def UC:R2:=λx y H Q=>∃l k xs,x=.ref l/\y=.int k/\H l=some (.lst xs)/\-(2 ^ 63)<=k/\k < 2 ^ 63/\xs.length * k.toNat<=sizeLine /\
 ∀p,H p=none->Q (.ref p) (OQ H p (.lst (Z1 k.toNat xs).flatten))
theorem Cy{α:Type}(xs:List α)(k:Nat):(Z1 k xs).flatten.length=k * xs.length:=by
 induction k with
 | zero=>simp
 | succ k ih=>rw[Y3,Q5,K0,ih,N6,x9]
theorem VC:OpR X (binaryOp .Mult) UC:=by
 intro pins s σ H x y v u Q I rx ry h
 obtain⟨l,k,xs,rfl,rfl,hH,h1,h2,hz,q⟩:=h
 cases rx
 obtain⟨t,rfl⟩:=ry
 obtain⟨z,its,n,r,hl,e⟩:=I.lstM hH
 have hlen:its.toArray.size * k.toNat<=sizeLine:=by rw[Q0,<- hl];exact hz
 have hcap:¬its.toArray.size * k.toNat > (2 ^ 63 - 1) / 8:=by
  have:(sizeLine:Nat)<=(2 ^ 63 - 1) / 8:=by decide
  omega
 have hfit:¬(!Builtin.List.listFitsIndex k)=true:=by
  rw[fitsIndex_both h1 h2]
  exact K1
 have hlong:¬X5 (its.toArray.size * k.toNat)=true:=by
  rw[vG hlen]
  exact K1
 have hnew:P9 (λx1 x2=>x1++x2) #[] (Z1 (if its.toArray.isEmpty=true then 0 else k.toNat) its.toArray)=(Z1 k.toNat its).flatten.toArray:=by
  have f0:∀m:Nat,P9 (λx1 x2=>x1++x2) #[] (Z1 m its.toArray)=(Z1 m its).flatten.toArray:=λm=>by
   have:=pV its m []
   rw[J8]at this
   exact this
  rw[f0]
  cases its with
  | nil=>simp
  | cons a r'=>rw[if_neg (by simp)]
 refine wpAny_binaryOp_repeat_ref (T:="list") (U:="int") (by decide) ⟨_,e,rfl⟩ (λs'=>typeIs_int s' k t) noFill_list_mul F.fills_int_mul F.slot_int_rmul repeat_list F.slot_int_index.lookup
  (call_meets F.slot_int_rmul (typeIs_int s k t) F.entry_int_rmul (F.args_int_rmul_2 _ _) (int___rmul___int_list k t l its.toArray n)
    ⟨e,rfl,⟨_,e,rfl⟩,call_meets F.slot_list_mul ⟨_,e,rfl⟩ F.entry_list_mul (F.args_list_mul_2 _ _) (AutoListH.list___mul___list_int_3 l its.toArray n k t hfit hcap hlong) ⟨e,?_⟩⟩)
 rw[hnew]
 exact ⟨.ref _,_,I.lnew (t':=s.toks) (r.rep k.toNat) (by rw[Cy,Q3];exact hz),rfl,q _ I.fresh⟩
end
section
variable {prog:Program}{w:World}{A:Around}{E:Value->Shared->Prop}{s:Shared}
set_option maxRecDepth 100000 in
end
section
variable {X:Cx}
end
section
variable {κ:Type}[DecidableEq κ]
noncomputable def xX(kvs:List (κ×V))(k:κ):Option V:=(kvs.find? λkv=>decide (kv.1=k)).map (·.2)
noncomputable def TX(kvs:List (κ×V))(k:κ)(v:V):List (κ×V) :=
 if (kvs.any λkv=>decide (kv.1=k))=true then kvs.map (λkv=>if kv.1=k then (kv.1,v) else kv) else kvs++[(k,v)]
theorem UX{p:κ×V}{r:List (κ×V)}{k:κ}(e:p.1=k):xX (p :: r) k=some p.2:=by simp[xX,v4,e]
theorem VX{p:κ×V}{r:List (κ×V)}{k:κ}(e:¬p.1=k):xX (p :: r) k=xX r k:=by simp[xX,v4,e]
theorem NY(k:κ):∀kvs:List (κ×V),(kvs.any λkv=>decide (kv.1=k))=(xX kvs k).isSome
 | []=>rfl
 | p :: r=>by
  rw[Z7]
  by_cases e:p.1=k
  ·simp only[UX e,decide_eq_true e,Bool.true_or,o9]
  ·rw[VX e,decide_eq_false e,Bool.false_or];exact NY k r
theorem sZ(kvs:List (κ×V))(k:κ)(v:V):(TX kvs k v).length<=kvs.length+1:=by
 unfold TX
 split
 ·rw[n0];omega
 ·rw[K0,P1,E6];omega
theorem wG{kvs:List (κ×V)}{k:κ}(v:V)(h:xX kvs k=none):TX kvs k v=kvs++[(k,v)]:=by
 unfold TX
 rw[NY,h]
 exact if_neg (by decide)
theorem RelO.isSome_eq{o:Option V}{u:Option Value}(r:RelO o u):o.isSome=u.isSome:=by
 cases o with
 | none=>cases u with
  | none=>rfl
  | some _=>exact (show False from r).elim
 | some _=>cases u with
  | none=>exact (show False from r).elim
  | some _=>rfl
theorem RelO.getD{o:Option V}{u:Option Value}{d:V}{d':Value}(r:RelO o u)(rd:RelV d d'):RelV (o.getD d) (u.getD d'):=by
 cases o with
 | none=>cases u with
  | none=>exact rd
  | some _=>exact (show False from r).elim
 | some _=>cases u with
  | none=>exact (show False from r).elim
  | some _=>exact r
theorem KV.val{kvs:List (κ×V)}{vs:List (κ×Value)}(r:KV kvs vs)(k:κ):RelO (xX kvs k) (valueAt vs k):=by
 unfold KV at r
 induction r with
 | nil=>exact True.intro
 | @cons p q ps qs h t ih =>
  obtain⟨h1,h2⟩:=h
  by_cases e:p.1=k
  ·have e':q.1=k:=h1.symm.trans e
   have b:valueAt (q :: qs) k=some q.2:=by simp[valueAt,v4,e']
   rw[UX e,b];exact h2
  ·have e':¬q.1=k:=λz=>e (h1.trans z)
   have b:valueAt (q :: qs) k=valueAt qs k:=by simp[valueAt,v4,e']
   rw[VX e,b];exact ih
theorem KV.any{kvs:List (κ×V)}{vs:List (κ×Value)}(r:KV kvs vs)(k:κ):(kvs.any λkv=>decide (kv.1=k))=vs.any λkv=>decide (kv.1=k):=by
 unfold KV at r
 induction r with
 | nil=>rfl
 | cons h t ih=>rw[Z7,Z7,ih,h.1]
theorem KV.repl{kvs:List (κ×V)}{vs:List (κ×Value)}(r:KV kvs vs)(k:κ){y:V}{u:Value}(ry:RelV y u) :
  KV (kvs.map λkv=>if kv.1=k then (kv.1,y) else kv) (vs.map λkv=>if kv.1=k then (kv.1,u) else kv):=by
 unfold KV at r ⊢
 induction r with
 | nil=>exact .nil
 | @cons p q ps qs h t ih =>
  rw[E1,E1]
  refine .cons ?_ ih
  obtain⟨h1,h2⟩:=h
  by_cases e:p.1=k
  ·rw[if_pos e,if_pos (h1.symm.trans e)];exact ⟨h1,ry⟩
  ·rw[if_neg e,if_neg (λz=>e (h1.trans z))];exact ⟨h1,h2⟩
theorem KV.put{kvs:List (κ×V)}{vs:List (κ×Value)}(r:KV kvs vs)(k:κ){y:V}{u:Value}(ry:RelV y u):KV (TX kvs k y) (stored vs k u):=by
 unfold TX stored
 rw[r.any k]
 by_cases e:(vs.any λkv=>decide (kv.1=k))=true
 ·rw[if_pos e,if_pos e];exact r.repl k ry
 ·rw[if_neg e,if_neg e];exact Paired.snoc r ⟨rfl,ry⟩
theorem KV.length{kvs:List (κ×V)}{vs:List (κ×Value)}(r:KV kvs vs):kvs.length=vs.length:=Paired.length r
end
theorem qV{P:Program}{w:World}{k:IQ}{u:Value}(r:RelV (kV k) u):(WQ P w).is k u=true:=by
 cases k with
 | inl i=>obtain⟨t,e⟩:=(show ∃t,u=Value.int i t from r);subst e;exact kG P w i t
 | inr x=>obtain⟨t,e⟩:=(show ∃t,u=Value.str x t from r);subst e;exact lG P w x t
theorem rV{P:Program}{w:World}:∀{ks:List IQ}{us:List Value},Vals (ks.map kV) us->ItemsAre (WQ P w) ks us
 | [],_,r=>by rw[W4]at r;cases r;exact .nil
 | k :: ks,_,r=>by
  rw[E1]at r
  cases r with
  | cons h t=>exact .cons (qV h) (rV t)
noncomputable abbrev KT(H:Hp):List (List IQ×V)->List (List IQ×Addr×Value)->Prop:=Paired λp q=>p.1=q.1/\H q.2.1=some (.tup (p.1.map kV))/\RelV p.2 q.2.2
theorem KT.val{H:Hp}{kvs:List (List IQ×V)}{xs:List (List IQ×Addr×Value)}(r:KT H kvs xs)(k:List IQ):RelO (xX kvs k) ((atKey xs k).map (·.2)):=by
 induction r with
 | nil=>exact True.intro
 | @cons p q ps qs h t ih =>
  obtain⟨h1,_,h2⟩:=h
  by_cases e:p.1=k
  ·have e':q.1=k:=h1.symm.trans e
   have b:atKey (q :: qs) k=some q.2:=by simp[atKey,v4,e']
   rw[UX e,b];exact h2
  ·have e':¬q.1=k:=λz=>e (h1.trans z)
   have b:atKey (q :: qs) k=atKey qs k:=by simp[atKey,v4,e']
   rw[VX e,b];exact ih
theorem KT.repl{H:Hp}{kvs:List (List IQ×V)}{xs:List (List IQ×Addr×Value)}(r:KT H kvs xs)(k:List IQ){y:V}{u:Value}(ry:RelV y u) :
  KT H (kvs.map λkv=>if kv.1=k then (kv.1,y) else kv) (xs.map (putAt k u)):=by
 induction r with
 | nil=>exact .nil
 | @cons p q ps qs h t ih =>
  rw[E1,E1]
  refine .cons ?_ ih
  obtain⟨h1,h2,h3⟩:=h
  unfold putAt
  by_cases e:p.1=k
  ·rw[if_pos e,if_pos (h1.symm.trans e)];exact ⟨h1,h2,ry⟩
  ·rw[if_neg e,if_neg (λz=>e (h1.trans z))];exact ⟨h1,h2,h3⟩
theorem KT.put{H:Hp}{kvs:List (List IQ×V)}{xs:List (List IQ×Addr×Value)}(r:KT H kvs xs)(k:List IQ){b:Addr}{y:V}{u:Value}(hb:H b=some (.tup (k.map kV)))(ry:RelV y u) :
  KT H (TX kvs k y) (storedH xs k b u):=by
 have e:(kvs.any λkv=>decide (kv.1=k))=(atKey xs k).isSome:=by
  rw[NY,(r.val k).isSome_eq,Option.isSome_map]
 unfold TX storedH
 rw[e]
 by_cases q:(atKey xs k).isSome=true
 ·rw[if_pos q,if_pos q];exact r.repl k ry
 ·rw[if_neg q,if_neg q];exact Paired.snoc r ⟨rfl,hb,ry⟩
theorem KT.keeps{H H':Hp}{kvs:List (List IQ×V)}{xs:List (List IQ×Addr×Value)}(r:KT H kvs xs)(ht:∀b ys,H b=some (.tup ys)->H' b=some (.tup ys)):KT H' kvs xs :=
 Paired.mapP r λ_ _ z=>⟨z.1,ht _ _ z.2.1,z.2.2⟩
section
variable {P:Program}{w:World}{H:Hp}{h:Heap}{a:Addr}
theorem EB{u:HO}(ok:HOk P w H h)(e:Rd H a u):ObjOk P w H h a u:=e.ok ok
theorem xG{kvs:List (IQ×V)}(ok:HOk P w H h)(e:Rd H a (.dK kvs)):kvs.length<=sizeLine/\(a==sysModules)=false/\∃vs,KV kvs vs/\h.DictOf (WQ P w) a vs :=
 show ObjOk P w H h a (.dK kvs) from EB ok e
theorem Ix{kvs:List (IQ×V)}(ok:HOk P w H h)(e:H a=some (.dK kvs)):kvs.length<=sizeLine/\(a==sysModules)=false/\∃vs,KV kvs vs/\h.DictOf (WQ P w) a vs:=xG ok (.inl e)
theorem bU{ks:List IQ}(ok:HOk P w H h)(e:H a=some (.tup (ks.map kV))):(tupleKind (WQ P w)).is h ks a:=by
 obtain⟨_,its,r,o,h1,h2,n,h3,_⟩:=(show ObjOk P w H h a (.tup (ks.map kV)) from ok a _ e)
 exact ⟨o,its.toArray,n,h1,h2,h3,by simpa using rV r⟩
theorem yG{kvs:List (List IQ×V)}(ok:HOk P w H h)(e:Rd H a (.dT kvs)):kvs.length<=sizeLine/\(a==sysModules)=false /\
  ∃xs,KT H kvs xs/\h.DictOfH (tupleKind (WQ P w)) a xs:=by
 obtain⟨z,y,xs,r,o,es,ep,h1,h2,h3,h4,h5⟩:=(show ObjOk P w H h a (.dT kvs) from EB ok e)
 refine ⟨z,y,xs,r,o,es,ep,h1,h2,h3,h4,λx hx=>?_,h5⟩
 have all:∀{l:List (List IQ×V)}{m:List (List IQ×Addr×Value)},KT H l m->∀x∈m,(tupleKind (WQ P w)).is h x.1 x.2.1:=by
  intro l m q
  induction q with
  | nil=>intro x hx;exact nomatch hx
  | @cons p q ps qs hq t ih =>
   intro x hx
   rcases U1.mp hx with e|hx
   ·subst e
    exact bU ok (by rw[<- hq.1];exact hq.2.1)
   ·exact ih x hx
 exact all r x hx
theorem RL{kvs:List (List IQ×V)}(ok:HOk P w H h)(e:H a=some (.dT kvs)):kvs.length<=sizeLine/\(a==sysModules)=false /\
  ∃xs,KT H kvs xs/\h.DictOfH (tupleKind (WQ P w)) a xs:=yG ok (.inl e)
end
noncomputable def dD(H:Hp)(a:Addr)(y:V)(r:Option V):Prop :=
 (∃kvs k,Rd H a (.dK kvs)/\y=kV k/\r=xX kvs k)\/∃kvs k b,Rd H a (.dT kvs)/\y=.ref b/\H b=some (.tup (k.map kV))/\r=xX kvs k
noncomputable def WC(H:Hp)(a:Addr)(y v:V)(H':Hp):Prop :=
 (∃kvs k,H a=some (.dK kvs)/\y=kV k/\kvs.length < sizeLine/\H'=OQ H a (.dK (TX kvs k v))) \/
 ∃kvs k b,H a=some (.dT kvs)/\y=.ref b/\H b=some (.tup (k.map kV))/\kvs.length < sizeLine/\H'=OQ H a (.dT (TX kvs k v))
section
variable {X:Cx}{pins:List (Addr×Obj)}{σ:St}{H:Hp}{s:Shared}{a:Addr}{y v:V}{u r:Value}{o:Option V}{A:Around}{E:Value->Shared->Prop}
theorem Inv.big(I:Inv X pins σ H s):sysModules < s.heap.objs.size:=by
 have h:mainGlobals < s.heap.objs.size:=(I.mod.glob.keeps I.bk).lt
 exact L7 (by decide) h
theorem Vz{Q:Value->Shared->Prop}(hu:A.units+1 < cLine)(I:Inv X pins σ H s)(g:dD H a y (some v))(ry:RelV y u)(h:∀w' s',Inv X pins σ H s'->RelV v w'->Q w' s') :
  wpAny (model X.prog X.w) A (getItem (.ref a) u) Q E s:=by
 rcases g with⟨kvs,k,e,ey,l⟩|⟨kvs,k,b,e,ey,eb,l⟩
 ·subst ey
  obtain⟨z,hd,vs,rel,dd⟩:=xG I.hok e
  obtain⟨w',hw,rw'⟩:=RelO.some_of (v:=v) (o:=valueAt vs k) (by rw[l];exact rel.val k)
  exact wpAny_getItem_of (qV ry) dd.mapOf hw (h w' _ (I.tok _) rw')
 ·subst ey
  cases (show u=T2 b from ry)
  obtain⟨z,hd,xs,rel,dd⟩:=yG I.hok e
  obtain⟨w',hw,rw'⟩:=RelO.some_of (v:=v) (o:=(atKey xs k).map (·.2)) (by rw[l];exact rel.val k)
  obtain⟨p,hp,hp2⟩:=W3.mp hw
  refine wpAny_getItem_heap (tupleKind_room_in1 hu) (bU I.hok eb) dd hp ?_
  rw[hp2]
  exact h w' _ (I.tok _) rw'
theorem oY{h':Heap}{t':Nat}{ob:HO}(I:Inv X pins σ H s)(mu:BL (H a))(hs:q5 a s.heap h')(he:∃q,h'.get? a=some q)(new:ObjOk X.prog X.w (OQ H a ob) h' a ob) :
  Inv X pins σ (OQ H a ob) { s with heap:=h',toks:=t' } :=
 I.write (x:=a) (e:=a) mu (.inl rfl) (λb q hb z=>(hs.2 b hb).trans z) he new
theorem eD{P:Program}{w:World}{H':Hp}{h':Heap}{kvs:List (IQ×V)}{vs:List (IQ×Value)}(z:kvs.length<=sizeLine)(hd:(a==sysModules)=false)(rel:KV kvs vs)(dd:h'.DictOf (WQ P w) a vs) :
  ObjOk P w H' h' a (.dK kvs):=⟨z,hd,vs,rel,dd⟩
theorem Wz{H':Hp}{Q:Unit->Shared->Prop}(hu:A.units+1 < cLine)(I:Inv X pins σ H s)(g:WC H a y v H')(ry:RelV y u)(rv:RelV v r)(h:∀s',Inv X pins σ H' s'->Q () s') :
  wpAny (model X.prog X.w) A (setItem (.ref a) u r) Q E s:=by
 rcases g with⟨kvs,k,e,ey,l,eH⟩|⟨kvs,k,b,e,ey,eb,l,eH⟩
 ·subst ey eH
  obtain⟨z,hd,vs,rel,dd⟩:=Ix I.hok e
  have hz:vs.length<=sizeLine:=by rw[<- rel.length];exact z
  have hl:(TX kvs k v).length<=sizeLine:=by have:=sZ kvs k v;omega
  refine wpAny_setItem_pairs (hsz:=hz) (qV ry) dd λh' dd' hs=>h _ ?_
  have he:∃q,h'.get? a=some q:=let ⟨q,_,_,hq,_⟩:=dd';⟨q,hq⟩
  exact oY I (by rw[e];exact True.intro) hs he (eD hl hd (rel.put k rv) dd')
 ·subst ey eH
  cases (show u=T2 b from ry)
  obtain⟨z,hd,xs,rel,dd⟩:=RL I.hok e
  have hz:xs.length<=sizeLine:=by rw[<- Paired.length rel];exact z
  have hl:(TX kvs k v).length<=sizeLine:=by have:=sZ kvs k v;omega
  refine wpAny_setItem_heap (hsz:=hz) (tupleKind_room_in1 hu) (bU I.hok eb) dd λh' dd' hs=>h _ ?_
  obtain⟨q,es,ep,hq,h2,h3,h4,_,h5⟩:=dd'
  refine oY I (by rw[e];exact True.intro) hs ⟨q,hq⟩ ⟨hl,hd,_,(rel.put k eb rv).keeps λc ys ec=>?_,q,es,ep,hq,h2,h3,h4,h5⟩
  rw[dQ (AL ec e (λz=>nomatch z))]
  exact ec
end
section
variable {X:Cx}{pins:List (Addr×Obj)}{σ:St}{H:Hp}{s:Shared}{a:Addr}{kvs:List (IQ×V)}{k:IQ}{u:Value}{A:Around}{E:Value->Shared->Prop}
end
noncomputable def XC(i:Expr):Prop:=∀ov iv,subscripted i false ov iv=operate [ov,iv] (getItem ov iv)
theorem Dy{prog:Program}{w:World}{A:Around}{E:Value->Shared->Prop}{s:Shared}{env:Env}{value slice:Expr}{pos:Pos}{T id:String}{Q:Value->Shared->Prop}
  (hl:typeLookup (.type T) "__getitem__"=pure (some (.builtin id))) (hs:XC slice)
  (h:wpAny (model prog w) A (eval value env) (λo s₁=>wpAny (model prog w) A (eval slice env) (λi s₂=>s₂.TypeIs o T/\wpAny (model prog w) A (getItem o i) Q E s₂) E s₁) E s) :
  wpAny (model prog w) A (eval (.Subscript value slice pos) env) Q E s:=by
 refine Subscript_ (wpAny_mono h (λo s₁ h₁=>wpAny_mono h₁ (λi s₂ h₂=>?_) λ_ _ x=>x) λ_ _ x=>x)
 obtain⟨hT,h₂⟩:=h₂
 unfold subscriptTail
 refine wpAny_bind ?_
 rw[getitemInPython_of_ne hT.not_modules]
 refine wpAny_bind (wpAny_specialOf hT hl ?_)
 have fin:wpAny (model prog w) A (subscripted slice false o i) (λr s₃=>wpAny (model prog w) A (letTemporaryGo value o r >>= λ_=>pure r) Q E s₃) E s₂:=by
  rw[hs o i]
  exact wpAny_operating (wpAny_mono h₂ (λr s₃ h₃=>wpAny_bind (wpAny_letTemporaryGo (wpAny_pure h₃))) λ_ _ x=>x)
 first
  | exact wpAny_pure (wpAny_bind fin)
  | exact wpAny_bind (wpAny_pure (wpAny_bind fin))
  | exact wpAny_bind fin
theorem zG{X:Cx}{pins:List (Addr×Obj)}{σ:St}{H:Hp}{s:Shared}{a:Addr}{y:V}{o:Option V}(I:Inv X pins σ H s)(g:dD H a y o):s.TypeIs (.ref a) "dict":=by
 rcases g with⟨kvs,k,e,_,_⟩|⟨kvs,k,b,e,_,_,_⟩
 ·obtain⟨_,_,vs,_,dd⟩:=xG I.hok e
  exact dd.typeIs
 ·obtain⟨_,_,xs,_,dd⟩:=yG I.hok e
  exact dd.typeIs
noncomputable def SL(td ty:TE):TE:=λσ H Q=>td σ H λx H1=>ty σ H1 λy H2=>∃a v,x=.ref a/\dD H2 a y (some v)/\Q v H2
noncomputable def Jx(td ty tv:TE):TS:=λD σ H=>tv σ H λv H1=>td σ H1 λx H2=>ty σ H2 λy H3=>∃a H4,x=.ref a/\WC H3 a y v H4/\D.nx σ H4
section
variable {X:Cx}{o i e value:Expr}{pos pos' tpos:Pos}{td ty tv:TE}
theorem Ey(hu:X.A.units+1 < cLine)(ho:PE X o td)(hi:PE X i ty)(hs:XC i):PE X (.Subscript o i pos) (SL td ty):=by
 intro pins s σ H Q I h
 refine Dy PySem.F.slot_dict_getitem.lookup hs (fX (ho pins s σ H _ I h) λu s1 ⟨x,H1,I1,rx,q1⟩=>fX (hi pins s1 σ H1 _ I1 q1) λiv s2 ⟨y,H2,I2,ry,a,v,ex,g,q2⟩=>?_)
 subst ex
 obtain rfl:u=T2 a:=rx
 exact ⟨zG I2 g,Vz hu I2 g ry λw' s3 I3 rw'=>⟨v,H2,I3,rw',q2⟩⟩
theorem Fy(hu:X.A.units+1 < cLine)(ho:PE X o td)(hi:PE X i ty)(hv:PE X value tv)(hs:swapsWith value (some (.Subscript o i pos')) pos.line X.env=pure false) :
  PS X (.Assign [.Subscript o i pos'] value pos) (Jx td ty tv):=by
 intro pins s σ H D I h
 refine wpAny_Assign_Subscript (fX (hv pins s σ H _ I h) λr s1 ⟨v,H1,I1,rv,q1⟩=>fX (ho pins s1 σ H1 _ I1 q1) λu s2 ⟨x,H2,I2,rx,q2⟩=>fX (hi pins s2 σ H2 _ I2 q2) λiv s3 ⟨y,H3,I3,ry,a,H4,ex,g,q3⟩=>?_) hs
 subst ex
 obtain rfl:u=T2 a:=rx
 exact Wz hu I3 g ry rv λs4 I4=>⟨σ,H4,I4,q3⟩
end
theorem Kx{P:Program}{w:World}{H:Hp}(h:Heap)(hb:sysModules < h.objs.size):ObjOk P w H (h.push { cls:=.type "dict",data:=.dict #[] }) h.objs.size (.dK []) :=
 ⟨i4 _,beq_eq_false_iff_ne.mpr (S1 (W0 hb)),[],.nil,Heap.DictOf.new h⟩
section
variable {X:Cx}{pos:Pos}
end
noncomputable def cU:List (TE×TE)->St->Hp->(List (V×V)->Hp->Prop)->Prop
 | [],_,H,Q=>Q [] H
 | (tk,tv) :: r,σ,H,Q=>tk σ H λx H1=>tv σ H1 λy H2=>cU r σ H2 λps H3=>Q ((x,y) :: ps) H3
noncomputable abbrev VV:List (V×V)->List (Value×Value)->Prop:=Paired λp q=>RelV p.1 q.1/\RelV p.2 q.2
noncomputable def NN(X:Cx)(pos:Pos)(keys:List (Option Expr))(values:List Expr)(trs:List (TE×TE)):Prop :=
 ∀(pins:List (Addr×Obj)) (s:Shared) (σ:St) (H:Hp) (Q:List (V×V)->Hp->Prop),Inv X pins σ H s->cU trs σ H Q ->
  wpAny (model X.prog X.w) X.A (evalPairs (pairTrees keys values X.env pos)) (λvs s'=>∃ps H',Inv X pins σ H' s'/\VV ps vs/\Q ps H') X.xe s
theorem Aq{X:Cx}{pos:Pos}:NN X pos [] [] []:=λpins s σ H Q I h=>pairTrees_nil_walk ⟨[],H,I,.nil,h⟩
theorem VJ{X:Cx}{pos:Pos}{k v:Expr}{ks:List (Option Expr)}{vs:List Expr}{tk tv:TE}{trs:List (TE×TE)}(hk:PE X k tk)(hv:PE X v tv)(hr:NN X pos ks vs trs) :
  NN X pos (some k :: ks) (v :: vs) ((tk,tv) :: trs):=λpins s σ H Q I h =>
 pairTrees_cons_walk (fX (hk pins s σ H _ I h) λu s1 ⟨x,H1,I1,rx,q1⟩=>fX (hv pins s1 σ H1 _ I1 q1) λw2 s2 ⟨y,H2,I2,ry,q2⟩ =>
   fX (hr pins s2 σ H2 _ I2 q2) λws s3 ⟨ps,H3,I3,rel,q3⟩=>⟨(x,y) :: ps,H3,I3,.cons ⟨rx,ry⟩ rel,q3⟩)
noncomputable def HZ(kvs more:List (IQ×V)):List (IQ×V):=more.foldl (λacc kv=>TX acc kv.1 kv.2) kvs
theorem KV.merge:∀{more:List (IQ×V)}{rs:List (IQ×Value)}{kvs:List (IQ×V)}{vs:List (IQ×Value)},KV more rs->KV kvs vs->KV (HZ kvs more) (merged vs rs):=by
 intro more rs kvs vs r
 unfold KV at r
 induction r generalizing kvs vs with
 | nil=>intro q;exact q
 | @cons p q ps qs h t ih =>
  intro r0
  have e:KV (TX kvs p.1 p.2) (stored vs q.1 q.2):=by
   have:=r0.put p.1 h.2
   rw[<- h.1];exact this
  exact ih e
theorem AJ:∀(more kvs:List (IQ×V)),(HZ kvs more).length<=kvs.length+more.length
 | [],kvs=>by show kvs.length<=kvs.length+0;omega
 | p :: r,kvs=>by
  have h1:=AJ r (TX kvs p.1 p.2)
  have h2:=sZ kvs p.1 p.2
  show (HZ (TX kvs p.1 p.2) r).length<=_
  rw[P1];omega
theorem OY{P:Program}{w:World}:∀{kvs:List (IQ×V)}{ws:List (Value×Value)},VV (kvs.map λkv=>(kV kv.1,kv.2)) ws->∃rs,Carries (WQ P w) ws rs/\KV kvs rs
 | [],_,r=>by rw[W4]at r;cases r;exact ⟨[],True.intro,.nil⟩
 | p :: kvs,_,r=>by
  rw[E1]at r
  cases r with
  | @cons a b as bs h t =>
   obtain⟨rs,c,q⟩:=OY (P:=P) (w:=w) t
   obtain⟨b1,b2⟩:=b
   exact ⟨(p.1,b2) :: rs,⟨qV h.1,rfl,c⟩,.cons ⟨rfl,h.2⟩ q⟩
noncomputable def Bq(trs:List (TE×TE)):TE:=λσ H Q=>∀p,H p=none->cU trs σ (OQ H p (.dK [])) λps H2=>H2 p=some (.dK [])/\∃kvs:List (IQ×V),ps=kvs.map (λkv=>(kV kv.1,kv.2))/\kvs.length<=15/\Q (.ref p) (OQ H2 p (.dK (HZ [] kvs)))
theorem Cq{X:Cx}{pos:Pos}{keys:List (Option Expr)}{values:List Expr}{trs:List (TE×TE)}(h:NN X pos keys values trs)(hall:keys.all (·.isSome)=true)(hl:keys.length=values.length)(h0:keys≠[])
  (h15:keys.length<=15):PE X (.Dict keys values pos) (Bq trs):=by
 intro pins s σ H Q I q
 have hn:=I.hok.fresh (G0 s.heap.objs.size)
 have I1:=I.laid (a:=s.heap.objs.size) (o:=.dK []) (h':=s.heap.push { cls:=.type "dict",data:=.dict #[] }) (t':=s.toks) (λ_ _ q=>g0 _ q) (G0 _) (Kx s.heap I.big)
 refine wpAny_Dict_walk (knd:=WQ X.prog X.w) hall hl h0 h15 (fX (h pins _ σ _ _ I1 (q _ hn)) λws s2 ⟨ps,H2,I2,rel,e,kvs,ep,lk,q2⟩=>?_)
 subst ep
 obtain⟨rs,c,rk⟩:=OY (P:=X.prog) (w:=X.w) rel
 obtain⟨z,hd,vs0,r0,dd⟩:=Ix I2.hok e
 cases r0
 refine ⟨rs,c,dd,λh' dd' hs=>⟨.ref s.heap.objs.size,_,?_,rfl,q2⟩⟩
 have hz:(HZ [] kvs).length<=sizeLine:=by
  have h1:=AJ kvs []
  rw[E6]at h1
  rw[sizeLine_eq];omega
 have he:∃q,h'.get? s.heap.objs.size=some q:=let ⟨q,_,_,hq,_⟩:=dd';⟨q,hq⟩
 exact oY I2 (by rw[e];exact True.intro) hs he (eD hz hd (rk.merge .nil) dd')
structure M1(X:Cx)(o:Expr)(m:Str)(apos:Pos)(e:Expr)(cpos:Pos):Prop where
 base:attributeBase o m X.env (eval o X.env)=eval o X.env
 few:((backTo cpos (starEach [e] X.env)).all (λx=>!x.1)&&(backToKw cpos (keywordEach [] X.env)).all (λx=>x.1.isSome)
   && decide (([e]:List Expr).length+([]:List Keyword).length+(if ([]:List Keyword).isEmpty then 0 else 1) < 30))=true
 line:(apos.endLine==cpos.line)=true
 trees:backTo cpos (starEach [e] X.env)=[(false,eval e X.env)]
structure M2(X:Cx)(o:Expr)(m:Str)(apos:Pos)(e f:Expr)(cpos:Pos):Prop where
 base:attributeBase o m X.env (eval o X.env)=eval o X.env
 few:((backTo cpos (starEach [e,f] X.env)).all (λx=>!x.1)&&(backToKw cpos (keywordEach [] X.env)).all (λx=>x.1.isSome)
   && decide (([e,f]:List Expr).length+([]:List Keyword).length+(if ([]:List Keyword).isEmpty then 0 else 1) < 30))=true
 line:(apos.endLine==cpos.line)=true
 trees:backTo cpos (starEach [e,f] X.env)=[(false,eval e X.env),(false,eval f X.env)]
noncomputable def vO(H:Hp)(a:Addr):Prop:=(∃kvs,Rd H a (.dK kvs))\/∃kvs,Rd H a (.dT kvs)
theorem Lx{X:Cx}{pins:List (Addr×Obj)}{σ:St}{H:Hp}{s:Shared}{a:Addr}(I:Inv X pins σ H s)(d:vO H a) :
  s.TypeIs (.ref a) "dict"/\(∀b,T2 a=.ref b->∃ob,s.heap.get? b=some ob/\ob.dict=none)/\(a==sysModules)=false:=by
 rcases d with⟨kvs,e⟩|⟨kvs,e⟩
 ·obtain⟨_,hd,vs,_,dd⟩:=xG I.hok e
  refine ⟨dd.typeIs,λb q=>?_,hd⟩
  cases q
  obtain⟨ob,_,_,h1,h2,_⟩:=dd
  exact ⟨ob,h1,h2.2.1⟩
 ·obtain⟨_,hd,xs,_,dd⟩:=yG I.hok e
  refine ⟨dd.typeIs,λb q=>?_,hd⟩
  cases q
  obtain⟨ob,_,_,h1,h2,_⟩:=dd
  exact ⟨ob,h1,h2.2.1⟩
section
variable {X:Cx}{pins:List (Addr×Obj)}{σ:St}{H:Hp}{s:Shared}{a:Addr}{y d:V}{u r:Value}{o:Option V}{A:Around}{E:Value->Shared->Prop}
theorem YC{Q:Value->Shared->Prop}(hu:A.units+1 < cLine)(I:Inv X pins σ H s)(g:dD H a y o)(ry:RelV y u)(rd:RelV d r)(h:∀w' s',Inv X pins σ H s'->RelV (o.getD d) w'->Q w' s') :
  wpAny (model X.prog X.w) A (call (.builtin "dict.get") [.ref a,u,r]) Q E s:=by
 rcases g with⟨kvs,k,e,ey,l⟩|⟨kvs,k,b,e,ey,eb,l⟩
 ·subst ey
  obtain⟨z,hd,vs,rel,dd⟩:=xG I.hok e
  refine call_meetsIn PySem.F.slot_dict_get dd.typeIs PySem.F.entry_dict_get (PySem.F.args_dict_get_3 _ _ _) (meets_dict_get_default (WQ X.prog X.w) a (qV ry) hd r) ⟨_,dd.mapOf,h _ _ (I.tok _) ?_⟩
  rw[l]
  exact (rel.val k).getD rd
 ·subst ey
  cases (show u=T2 b from ry)
  obtain⟨z,hd,xs,rel,dd⟩:=yG I.hok e
  refine call_meetsIn PySem.F.slot_dict_get dd.typeIs PySem.F.entry_dict_get (PySem.F.args_dict_get_3 _ _ _) (meetsH_dict_get_default (tupleKind (WQ X.prog X.w)) a b hd r) ⟨tupleKind_room_in1 hu,k,xs,bU I.hok eb,dd,h _ _ (I.tok _) ?_⟩
  rw[l]
  exact (rel.val k).getD rd
end
noncomputable def Mx(td ty tx:TE):TE:=λσ H Q=>td σ H λx H1=>∃a,x=.ref a/\vO H1 a/\ty σ H1 λy H2=>tx σ H2 λz H3=>∃o,dD H3 a y o/\Q (o.getD z) H3
section
variable {X:Cx}{o e f:Expr}{apos cpos:Pos}{td ty tx:TE}
theorem Nx(hu:X.A.units+1 < cLine)(ho:PE X o td)(he:PE X e ty)(hf:PE X f tx)(m:M2 X o "get" apos e f cpos):PE X (.Call (.Attribute o "get" apos) [e,f] [] cpos) (Mx td ty tx):=by
 intro pins s σ H Q I h
 refine wpAny_Call_method m.base m.few m.line PySem.F.plainAttrs_dict PySem.F.slot_dict_get PySem.F.type_dict_get (fX (ho pins s σ H _ I h) λu s1 ⟨x,H1,I1,rx,a,ex,d,q1⟩=>?_)
 subst ex
 obtain rfl:u=T2 a:=rx
 obtain⟨t1,t2,_⟩:=Lx I1 d
 refine ⟨t1,t2,?_⟩
 rw[m.trees]
 refine Calls.callWith_builtin rfl (Calls.evalArgs_plain (Calls.spliced_cons (fX (he pins s1 σ H1 _ I1 q1) λiv s2 ⟨y,H2,I2,ry,q2⟩ =>
   Calls.spliced_cons (fX (hf pins s2 σ H2 _ I2 q2) λfv s3 ⟨z,H3,I3,rz,ov,g,q3⟩=>Calls.spliced_nil ?_))))
 exact YC hu I3 g ry rz λw' s4 I4 rw'=>⟨_,H3,I4,rw',q3⟩
end
section
variable {X:Cx}{pins:List (Addr×Obj)}{σ:St}{H:Hp}{s:Shared}{a:Addr}{kvs:List (IQ×V)}{A:Around}{E:Value->Shared->Prop}
end
section
variable {X:Cx}{pins:List (Addr×Obj)}{σ:St}{H:Hp}{s:Shared}{a:Addr}{y:V}{u:Value}{A:Around}{E:Value->Shared->Prop}
end
end L2
namespace Att
open PySem PySem.W PySem.Calls PyProof.Rows
theorem dY{P:Params}{h:Heap}:∀(ns:List Int) (vs:List Value),WellAll P h vs (ns.map WData.int)->IntsAre vs ns:=by
 intro ns
 induction ns with
 | nil =>
  intro vs w
  rw[W4]at w
  cases w
  exact .nil
 | cons n ns ih =>
  intro vs w
  rw[E1]at w
  cases w with
  | cons a b =>
   cases a
   exact .cons _ _ (ih _ b)
theorem Xz{l:OpenLaw}{n:Nat}(hn:l.most=some n){P:Params}{h:Heap}{args:List WData}{vals:List Value}
  (hpre:l.row.toRowW.claim.pre args=true) (hwl:WellAll P h vals args) :
  ∃a vs ns,vals=[T2 a]/\args=[WData.list (ns.map WData.int)]/\h.get? a=some { cls:=.type "list",data:=.seq vs.toArray }/\IntsAre vs ns/\ns.length<=n:=by
 have hsh:WShape.hasAll [] args [.list .int]=true:=(pre_splitW hpre).1
 have hc:l.pre.holds [] { args:=args }=true:=(pre_splitW hpre).2
 obtain⟨d,r,rfl,h1,h2⟩:=hasAllW_cons hsh
 obtain rfl:=hasAllW_nil h2
 obtain⟨xs,rfl,h3⟩:=hasW_list h1
 obtain⟨ns,rfl⟩:=items_int h3
 have hlen:ns.length<=n:=by
  unfold OpenLaw.pre at hc
  have h4:(WTm.not (.lt (.lit (.int (n:Int))) (.len (.arg 0)))).holds [] { args:=[.list (ns.map .int)] }=true:=by
   have h4:=(holds_andW hc).1
   rw[hn]at h4
   exact h4
  have h5:=condW_of h4 (w_not (w_lt w_lit (w_len_list (w_arg rfl))))
  rw[n0]at h5
  refine j8 λq=>?_
  have q':(n:Int) < ((ns.length:Nat):Int):=by omega
  first
   | (rw[decide_eq_true q']at h5;exact absurd h5 (by decide))
   | (simp at h5;omega)
 cases hwl with
 | cons w1 w2 =>
  cases w2
  cases w1 with
  | list ho hall=>exact ⟨_,_,ns,rfl,rfl,ho,dY ns _ hall,hlen⟩
theorem Yz(l:OpenLaw)(args:List WData):l.row.toRowW.claim.post args (.bool true) args=true :=
 postW_of (r:=l.row.toRowW) (X:=(true==true))
  (show WShape.has [] (.bool true) .bool=true by first|rfl|decide|simp[WShape.has,WShape.arms,WShape.armsAll])
  (show (WTm.eq .res (.lit (.bool true))).value [] { args:=args,res:=some (.bool true),after:=args }=some (.bool (true==true)) from w_eq_bool (w_res rfl) w_lit) rfl
theorem attach_call{l:OpenLaw}{n:Nat}{q:Program}{loose:List Str}{XP:(Str->Option Value)->Heap->Prop}{YP:World->Heap->Prop}{d:DefRec}
  (hn:l.most=some n) (hdf:d.params.defaults=[])
  (call:∀(w:World) (s₀ s₁:Shared) (mg mb:Str->Option Value) (fa:Addr) (o:Obj) (pm cd doc:Value) (a:Addr) (vs:List Value) (ns:List Int),
    Ground q loose [] XP w s₀ mg mb s₁.heap->YP w s₁.heap ->
    s₁.heap.get? fa=some o->o.data=.func (docDef d.name d.params d.body d.scope pm cd doc)->s₁.heap.CodeRec cd d.name->mg d.name=some (.ref fa) ->
    s₁.heap.get? a=some { cls:=.type "list",data:=.seq vs.toArray }->IntsAre vs ns->ns.length<=n->s₁.gens=#[] ->
    codeAny (model l.prog w) callerA (.call (.ref fa) ⟨[.ref a],[]⟩) (λr s'=>r=.ok (.ret (.bool true))/\OldK s₁.heap s'.heap/\s'.os=s₁.os/\AllBare s'.gens) s₁) :
  WalkO q loose XP YP l.row.toRowW d [] (λf vs=>PySem.call f vs):=by
 intro w s₀ s₁ mg mb G Y fa o pm cd doc dV kV ho hd hcd hD hmg hg args vals as hpre hlay hrd hwl hlo
 obtain rfl:dV=.none:=Dflts.none hD hdf
 obtain rfl:kV=.none:=Dflts.noKw hD
 obtain⟨a,vs,ns,rfl,rfl,hobj,hints,hlen⟩:=Xz hn hpre hwl
 refine enter_call (codeAny_mono (call w s₀ s₁ mg mb fa o pm cd doc a vs ns G Y ho (fd_plain hd) hcd hmg hobj hints hlen hg) λr s' hq=>?_)
 obtain⟨rfl,h2,h3,h4⟩:=hq
 exact ⟨.inl ⟨.bool true,.bool true,[],rfl,λ_=>rfl,.bool true,Yz l _,λ_=>⟨List.Pairwise.nil,λ_ hm=>(nomatch hm)⟩⟩,h2,h3,h4⟩
section
variable {prog:Program}{w:World}{A:Around}{E:Value->Shared->Prop}{s:Shared}{K:Frag}
end
end Att
namespace L2
open PySem PySem.Spec PyProof.Rows
theorem sV:∀{vs:List Value}{ns:List Int},IntsAre vs ns->Vals (ns.map V.int) vs
 | _,_,.nil=>.nil
 | _,_,.cons n t h=>.cons ⟨t,rfl⟩ (sV h)
noncomputable def ZC(H:Hp):Prop:=∀b,H b=none\/∃o xs,H b=some (.frz o (.lst xs))
theorem Ox{P:Program}{w:World}{K:A0}{mg mb:Str->Option Value}{CX:xx}{k:Nat}{fa a:Addr}{fd:FuncData}{x:Str}{sp:Sp}{s₁:Shared}{vs:List Value}{ns:List Int}
  (KX:K.In s₁.heap) (hns:s₁.heap.Ns mainGlobals mg) (hb:s₁.heap.Ns builtinsNs mb) (hbb:∀x:Str,x ≠ "__name__"->mb x=bootBuiltins x) (hlim:s₁.heap.NoLimit) (hg:s₁.gens=#[])
  (ha:s₁.heap.get? a=some { cls:=.type "list",data:=.seq vs.toArray }) (hi:IntsAre vs ns) (hl:ns.length<=sizeLine) (hr:Room k callerA)
  (F:∀base:Heap,K.In base->base.Ns mainGlobals mg->FnOk P w K mg base CX k fa fd [x] sp) (hbind:∀(s:Shared) (u:Value),BindsTo s fd ⟨[u],[]⟩ [(x,u)])
  (hsp:∀H:Hp,ZC H->SqL K H a (ns.map V.int)->sp [.ref a] H (λv _=>v=.bl true) λ_ _ _=>False)
  (hCX:∀H e s',CX [] H s₁ (λ_ _ _=>False) e s'->False) :
  codeAny (model P w) callerA (.call (.ref fa) ⟨[.ref a],[]⟩) (λr s'=>r=.ok (.ret (.bool true))/\OldK s₁.heap s'.heap/\s'.os=s₁.os/\AllBare s'.gens) s₁:=by
 have rv:=sV hi
 have lenV:=hi.length
 have core:∀H:Hp,ZC H->SqL K H a (ns.map V.int)->HOk P w H s₁.heap->(∀b,H b≠none->b=a)->(H a≠none->K.lookup a=none) ->
   codeAny (model P w) callerA (.call (.ref fa) ⟨[.ref a],[]⟩) (λr s'=>r=.ok (.ret (.bool true))/\OldK s₁.heap s'.heap/\s'.os=s₁.os/\AllBare s'.gens) s₁:=by
  intro H hO hS hok hA hK
  have base_of:∀{b:Addr}{o:Obj},s₁.heap.get? b=some o->H b=none->(SV s₁.heap H).get? b=some o:=λe n=>Yj e n
  have noA:∀{b:Addr}{o:Obj}{es:Array DictEntry}{ep:Nat},s₁.heap.get? b=some o->o.data=.dict es ep->H b=none:=λ{b o es ep} e d=>by
   cases q:H b with
   | none=>rfl
   | some u =>
    have e':b=a:=hA b (by rw[q];simp)
    subst e'
    rw[ha]at e;cases e
    have d':Data.seq vs.toArray _=Data.dict es ep:=d
    cases d'
  have nsK:∀{b:Addr}{m:Str->Option Value},s₁.heap.Ns b m->(SV s₁.heap H).Ns b m:=λ{b m} ⟨o,es,ep,e,d,r⟩=>⟨o,es,ep,base_of e (noA e d),d,r⟩
  have hKb:K.In (SV s₁.heap H):=λb o e=>base_of (KX b o e) (by
    cases q:H b with
    | none=>rfl
    | some u =>
      have e':b=a:=hA b (by rw[q];simp)
      subst e'
      rw[hK (by rw[q];simp)]at e;cases e)
  have hM:Mod K mg (SV s₁.heap H):=⟨hKb,nsK hns,⟨mb,nsK hb,hbb⟩,let ⟨mc,h1,h2⟩:=hlim;⟨mc,nsK h1,h2⟩⟩
  have e0:Env0 P w K mg (SV s₁.heap H) callerA [] s₁ H:=⟨rfl,hM,λb o e=>cy e,Nat.le_of_eq (Kz _ _),trivial,λb hb=>absurd (show b∈([]:List Addr) from hb) (by simp),hok,.of_eq hg⟩
  refine codeAny_mono ((F _ hKb (nsK hns)).run callerA [] s₁ H ⟨[.ref a],[]⟩ [.ref a] [.ref a] _ _ hr e0 (hbind s₁ (.ref a)) (.cons rfl .nil) (hsp H hO hS)) λr s' h=>?_
  cases r with
  | error e=>exact (hCX H e s' h).elim
  | ok fl =>
   cases fl with
   | next=>exact False.elim h
   | brk=>exact False.elim h
   | cont=>exact False.elim h
   | ret u =>
    obtain⟨v,H',os,bare,un,hok',r',q⟩:=h
    have q':v=.bl true:=q
    subst q'
    obtain rfl:u=O9 true:=r'
    refine ⟨rfl,OldK.of_keep λb o e=>?_,os,bare⟩
    cases q:H b with
    | none=>exact un.keep b o e q (by intro z;exact absurd (show b∈([]:List Addr) from z) (by simp)) (by simp)
    | some u =>
     rcases hO b with z|⟨ob,xs,z⟩
     ·rw[q]at z;cases z
     ·have z2:=un.frzs b ob _ z
      obtain⟨e1,_⟩:=hok b _ z
      obtain⟨e2,_⟩:=hok' b _ z2
      rw[e]at e1;cases e1
      exact e2
 cases hk:K.lookup a with
 | some o =>
  have e:=KX a o hk
  rw[ha]at e
  cases e
  refine core (λ_=>none) (λ_=>.inl rfl) (.inr ⟨_,vs.toArray,_,hk,rfl,rfl,rfl,by rw[Q0,lenV];exact hl,by simpa using rv⟩) (λb u z=>by have z':(none:Option HO)=some u:=z;cases z') (λb z=>absurd rfl z) λz=>absurd rfl z
 | none =>
  refine core (λb=>if b=a then some (.frz { cls:=.type "list",data:=.seq vs.toArray } (.lst (ns.map V.int))) else none) (λb=>?_) (.inl (.inr ⟨{ cls:=.type "list",data:=.seq vs.toArray },if_pos rfl⟩)) (λb u z=>?_) (λb z=>?_) λ_=>hk
  ·by_cases hb:b=a
   ·exact .inr ⟨_,_,if_pos hb⟩
   ·exact .inl (if_neg hb)
  ·by_cases hb:b=a
   ·have z':=(if_pos hb).symm.trans z
    cases z'
    subst hb
    exact ⟨ha,by rw[n0];exact hl,vs,_,rv,ha⟩
   ·have z':=(if_neg hb).symm.trans z
    cases z'
  ·by_cases hb:b=a
   ·exact hb
   ·exact absurd (if_neg hb) z
theorem walk_of{l:K8}{n k:Nat}{q:Program}{loose:List Str}{XP:(Str->Option Value)->Heap->Prop}{YP:World->Heap->Prop}{d:DefRec}{K:Params->A0}{CX:World->xx}{sp:World->Sp}{x:Str}
  (hn:l.most=some n) (hn2:n<=sizeLine) (hdf:d.params.defaults=[]) (hr:Room k callerA)
  (hY:∀(w:World) (h:Heap),YP w h->(K w.params).In h)
  (F:∀(w:World) (mg:Str->Option Value) (fa:Addr) (h:Heap),(K w.params).In h->h.Ns mainGlobals mg->mg d.name=some (.ref fa) ->
    ∃fd:FuncData,(∀(s:Shared) (u:Value),BindsTo s fd ⟨[u],[]⟩ [(x,u)]) /\
      ∀base:Heap,(K w.params).In base->base.Ns mainGlobals mg->FnOk l.prog w (K w.params) mg base (CX w) k fa fd [x] (sp w))
  (hsp:∀(w:World) (H:Hp) (a:Addr) (ns:List Int),ns.length<=n->ZC H->SqL (K w.params) H a (ns.map V.int)->sp w [.ref a] H (λv _=>v=.bl true) λ_ _ _=>False)
  (hCX:∀(w:World) (H:Hp) (s:Shared) (e:Value) (s':Shared),CX w [] H s (λ_ _ _=>False) e s'->False) :
  PySem.W.WalkO q loose XP YP l.row.toRowW d [] (λf vs=>PySem.call f vs):=by
 refine Att.attach_call hn hdf λw s₀ s₁ mg mb fa o pm cd doc a vs ns G Y ho hd hcd hmg hobj hints hlen hg=>?_
 have KX:=hY w _ Y
 obtain⟨fd,hb,hF⟩:=F w mg fa _ KX G.T.g hmg
 exact Ox KX G.T.g G.T.b G.T.builtins G.T.nolimit hg hobj hints (A1 hlen hn2) hr hF hb (λH hO hS=>hsp w H a ns hlen hO hS) λH e s'=>hCX w H s₁ e s'
noncomputable def sQ(s:Stmt):Arguments:=match s with
 | .FunctionDef _ a _ _ _ _ _ _ _ _=>a
 | _=>{ posonlyargs:=[],args:=[],vararg:=none,kwonlyargs:=[],kw_defaults:=[],kwarg:=none,defaults:=[] }
noncomputable def pQ(s:Stmt):List Stmt:=match s with
 | .FunctionDef _ _ b _ _ _ _ _ _ _=>b
 | _=>[]
noncomputable def cQ(s:Stmt):Scope:=match s with
 | .FunctionDef _ _ _ _ _ _ sc _ _ _=>sc
 | _=>{ kind:=.function,names:=[],isGenerator:=false,isCoroutine:=false }
noncomputable abbrev BZ:xx:=λ_ _ _ _ _ _=>False
noncomputable abbrev E0:XK:=λ_ _ _=>False
theorem UL{X:Cx}:ZF BZ X E0:=λ_ _ _ _ _ _ _ h=>h.elim
structure Fun(K:A0)(x qual:Str)(st:Stmt)(f:Addr)(fd:FuncData):Prop where
 ex:∃(oc:Value) (od:Option Addr) (kV doc pm:Value) (an:Option Addr) (cdv ct:Value) (osl:Array (Option Value)),
  fd=B1 x qual (sQ st) (pQ st) (cQ st) .none kV doc pm an cdv ct/\K.lookup f=some ⟨oc,od,.func fd,osl⟩/\Y0 K cdv qual=true
 kp:X0 K (.ref f)=true
section
variable {P:Program}{w:World}{K:A0}{mg:Str->Option Value}{base:Heap}
theorem Fun.ok{x qual:Str}{st:Stmt}{f:Addr}{fd:FuncData}{N ps:List Str}{k:Nat}{sp:Sp}(F:Fun K x qual st f fd)(S:FnScope N ps (cQ st))(len:∀vs H Q E,sp vs H Q E->vs.length=ps.length)
  (hbody:∀(cdv:Value) (A:Around) (outer:List Env) (s:Shared) (H:Hp) (vs:List V) (Q:VK) (E:XK),Room k (A.deeper (envOfC qual (cQ st) s.heap.objs.size f cdv))->sp vs H Q E ->
    ∃t,PSs (sG BZ P w K mg base N qual (cQ st) f cdv A outer s H E).nox (pQ st) t/\t { nx:=λ_ H'=>Q .non H',rt:=Q } (start N vs) H):FnOk P w K mg base BZ (k+1) f fd ps sp:=by
 obtain⟨oc,od,kV,doc,pm,an,cdv,ct,osl,rfl,lk,hcd⟩:=F.ex
 refine LL lk hcd S len λA outer s H vs Q E hr hsp=>?_
 obtain⟨t,h,q⟩:=hbody cdv A outer s H vs Q E hr hsp
 exact ⟨t,h.nox,q⟩
theorem Fun.binds{x qual:Str}{st:Stmt}{f:Addr}{fd:FuncData}{ps:List Str}(F:Fun K x qual st f fd)
  (h:∀(kV doc pm:Value) (an:Option Addr) (cdv ct:Value) (us:List Value),us.length=ps.length->bindArgs (B1 x qual (sQ st) (pQ st) (cQ st) .none kV doc pm an cdv ct) ⟨us,[]⟩=pure (ps.zip us)):Binds K fd ps []:=by
 obtain⟨oc,od,kV,doc,pm,an,cdv,ct,osl,rfl,lk,hcd⟩:=F.ex
 exact .all (h kV doc pm an cdv ct)
theorem HQ{x qual:Str}{st:Stmt}{f:Addr}{oc:Value}{od an:Option Addr}{osl:Array (Option Value)}{kV doc pm cdv ct:Value}(l:K.lookup f=some ⟨oc,od,.func (B1 x qual (sQ st) (pQ st) (cQ st) .none kV doc pm an cdv ct),osl⟩)
  (c:Y0 K cdv qual=true) (k:X0 K (.ref f)=true):Fun K x qual st f (B1 x qual (sQ st) (pQ st) (cQ st) .none kV doc pm an cdv ct):=⟨⟨oc,od,kV,doc,pm,an,cdv,ct,osl,rfl,l,c⟩,k⟩
end
theorem WJ{A:Around}{k:Nat}(hr:Room k A):A.units+1 < cLine:=J3 (d9 (by decide:1<=64) _) hr.units
section
variable {X:Cx}
theorem pv(i:Nat){x:Str}{pos:Pos}(hN:X.N[i]?=some x:=by rfl)(hv:tL X.env.scope x:=by first|exact Or.inl rfl|exact Or.inr (Or.inl rfl)|exact Or.inr (Or.inr rfl))(hd:(x==("__debug__":Str))=false:=by decide)
  (hcd:(x==("__classdict__":Str))=false:=by decide):PE X (.Name x pos) (aZ i):=UF hN hv hd hcd
end
theorem wZ{c A B:Prop}[Decidable c](h1:c->A)(h2:¬c->B):if c then A else B:=by
 by_cases h:c
 ·rw[if_pos h]
  exact h1 h
 ·rw[if_neg h]
  exact h2 h
section
variable {κ:Type}[DecidableEq κ]
end
noncomputable def IZ(cells:List (Str×Addr)):List (Str×NameKind)->List (Str×Addr)->List (Str×Addr)
 | [],acc=>acc
 | (n,k) :: r,acc=>IZ cells r (if k==.free then (n,(cells.lookup n).getD 0) :: acc else acc)
theorem PY{env:Env}{sc:Scope}(h:∀y∈sc.names,y.2=.free->∃c,env.cells.lookup y.1=some c):closureFor sc env=pure (IZ env.cells sc.names []):=by
 have go:∀(l:List (Str×NameKind)) (acc:List (Str×Addr)),(∀y∈l,y.2=.free->∃c,env.cells.lookup y.1=some c) ->
   (forIn l acc λ(x:Str×NameKind) r=>(if (x.2==NameKind.free)=true then (do let a<-cellOf env x.1;pure (ForInStep.yield ((x.1,a) :: r))) else pure (ForInStep.yield r):Sem (ForInStep (List (Str×Addr)))))=pure (IZ env.cells l acc):=by
  intro l
  induction l with
  | nil=>intro acc _;rfl
  | cons y r ih =>
   intro acc hl
   obtain⟨n,k⟩:=y
   rw[M5]
   by_cases hk:(k==NameKind.free)=true
   ·obtain⟨c,hc⟩:=hl (n,k) B0 (by simpa using hk)
    have hc:env.cells.lookup n=some c:=hc
    simp only[hk,if_true,cellOf,hc,pure_bind,IZ,T3]
    exact ih _ λy hy=>hl y (u0 _ hy)
   ·simp only[hk,if_false,pure_bind,IZ]
    exact ih _ λy hy=>hl y (u0 _ hy)
 have e:=go sc.names [] h
 unfold closureFor
 show (forIn sc.names [] _ >>= λcs=>pure cs)=_
 rw[show (forIn sc.names ([]:List (Str×Addr)) λ(x:Str×NameKind) r=>(match x with|(name,kind)=>if (kind==NameKind.free)=true then (do let a<-cellOf env name;pure (ForInStep.yield ((name,a) :: r))) else pure (ForInStep.yield r):Sem (ForInStep (List (Str×Addr)))))=pure (IZ env.cells sc.names []) from e]
 rfl
theorem XZ{cells:List (Str×Addr)}{x:Str}{c:Addr}:∀{l:List (Str×NameKind)}{acc:List (Str×Addr)},(∀y∈l,y.2=.free->∃c,cells.lookup y.1=some c)->(IZ cells l acc).lookup x=some c ->
  acc.lookup x=some c\/cells.lookup x=some c
 | [],acc,_,h=>.inl h
 | (n,k) :: r,acc,hl,h=>by
  have ih:=XZ (l:=r) (λy hy=>hl y (u0 _ hy)) h
  rcases ih with ih|ih
  ·by_cases hk:(k==NameKind.free)=true
   ·rw[if_pos hk,U3]at ih
    obtain⟨c',hc⟩:=hl (n,k) B0 (by simpa using hk)
    have hc:cells.lookup n=some c':=hc
    cases e:x==n with
    | true =>
     rw[e]at ih
     have:x=n:=by simpa using e
     subst this
     simp only[hc,T3,Option.some.injEq]at ih
     subst ih
     exact .inr hc
    | false=>rw[e]at ih;exact .inl ih
   ·rw[if_neg hk]at ih;exact .inl ih
  ·exact .inr ih
theorem QY{cells:List (Str×Addr)}{x:Str}:∀{l:List (Str×NameKind)}{acc:List (Str×Addr)},((∃c,acc.lookup x=some c)\/l.lookup x=some .free)->∃c,(IZ cells l acc).lookup x=some c
 | [],acc,h=>by
  rcases h with h|h
  ·exact h
  ·simp at h
 | (n,k) :: r,acc,h=>by
  refine QY (l:=r) ?_
  rcases h with⟨c,h⟩|h
  ·left
   by_cases hk:(k==NameKind.free)=true
   ·rw[if_pos hk,U3]
    cases x==n with
    | true=>exact ⟨_,rfl⟩
    | false=>exact ⟨c,h⟩
   ·rw[if_neg hk];exact ⟨c,h⟩
  ·rw[U3]at h
   cases e:x==n with
   | true =>
    rw[e]at h
    have hk:k=.free:=D2 h
    left
    subst hk
    rw[if_pos (by decide),U3,e]
    exact ⟨_,rfl⟩
   | false=>rw[e]at h;exact .inr h
theorem YZ{env:Env}{x:Str}:∀{names:List (Str×NameKind)},
  (names.map λ(n,k)=>if (k==NameKind.free&&env.scope.kind==.function&&env.kindOf n==some .cell) then (n,NameKind.cell) else (n,k)).lookup x =
   (names.lookup x).map λk=>if (k==NameKind.free&&env.scope.kind==.function&&env.kindOf x==some .cell) then .cell else k
 | []=>rfl
 | (n,k) :: r=>by
  have ih:=@YZ env x r
  rw[E1]
  show T7 x ((if (k==NameKind.free&&env.scope.kind==.function&&env.kindOf n==some .cell)=true then (n,NameKind.cell) else (n,k)) :: _)=_
  cases hx:x==n with
  | true =>
   have e:x=n:=by simpa using hx
   subst e
   by_cases hc:(k==NameKind.free&&env.scope.kind==.function&&env.kindOf x==some .cell)=true
   ·rw[if_pos hc];simp only[U3,hx,N5];rw[if_pos hc]
   ·rw[if_neg hc];simp only[U3,hx,N5];rw[if_neg hc]
  | false =>
   by_cases hc:(k==NameKind.free&&env.scope.kind==.function&&env.kindOf n==some .cell)=true
   ·rw[if_pos hc];simp only[U3,hx];exact ih
   ·rw[if_neg hc];simp only[U3,hx];exact ih
theorem ZZ(sc:Scope)(env:Env)(x:Str):(relabel sc env).names.lookup x=(sc.names.lookup x).map λk=>if (k==NameKind.free&&env.scope.kind==.function&&env.kindOf x==some .cell) then .cell else k:=YZ
theorem JZ:∀(names:List (Str×NameKind)) (n:Nat) (acc:List (Str×Addr)),cellsFrom n names acc=cellsFrom n names []++acc
 | [],_,_=>rfl
 | (x,k) :: r,n,acc=>by
  unfold cellsFrom
  split
  ·rw[JZ r (n+1) ((x,n) :: acc),JZ r (n+1) [(x,n)],K2];rfl
  ·exact JZ r n acc
theorem RY{x:Str}{c:Addr}:∀(names:List (Str×NameKind)) (n:Nat),(x,c)∈cellsFrom n names []->(x,NameKind.cell)∈names/\n<=c
 | [],_,h=>by cases h
 | (y,k) :: r,n,h=>by
  unfold cellsFrom at h
  split at h
  ·rename_i hk
   have hk:k=.cell:=by simpa using hk
   rw[JZ,Q2]at h
   rcases h with h|h
   ·have:=RY r (n+1) h
    exact ⟨u0 _ this.1,by omega⟩
   ·have h:(x,c)=(y,n):=by simpa using h
    cases h
    subst hk
    exact ⟨B0,G0 _⟩
  ·have:=RY r n h
   exact ⟨u0 _ this.1,this.2⟩
theorem NX{α:Type}{x:Str}:∀{l m:List (Str×α)},(l++m).lookup x=(l.lookup x).or (m.lookup x)
 | [],_=>rfl
 | (y,v) :: l,m=>by
  rw[List.cons_append,U3,U3]
  cases x==y with
  | true=>rfl
  | false=>exact NX
theorem EK{M:Model}{A:Around}{E:Value->Shared->Prop}{s:Shared}{scope:Scope}{globals:Addr}{closure:List (Str×Addr)}{qual:Str}{env:Env}{Q:Env->Shared->Prop}
  (hQ:Q (newEnv scope s.heap.objs.size globals (cellsFrom (s.heap.objs.size+1) scope.names closure) qual none .none (some env) builtinsNs) { s with heap:=pushCells (s.heap.push { cls:=.type "dict",data:=.dict #[] }) scope.names }) :
  wpAny M A (newFunctionEnv scope globals closure [] qual none .none (some env)) Q E s:=by
 simp only[newFunctionEnv,o9,if_true]
 refine wpAny_bind (wpAny_alloc ?_)
 refine wpAny_bind (wpAny_layCells _ (λname kind cells=>by cases hkc:kind==NameKind.cell<;>simp[hkc]) _ _ _ _ ?_)
 rw[show ({ s with heap:=s.heap.push { cls:=.type "dict",data:=.dict #[] } }:Shared).heap.objs.size=s.heap.objs.size+1 from B2 ..]
 refine wpAny_bind ?_
 rw[Y5]
 exact wpAny_pure (wpAny_pure hQ)
noncomputable def VL(N:List Str)(fr:List Nat):List Str:=fr.map λi=>N.getD i Str.empty
noncomputable def vL(σ:St)(fr:List Nat):St:=fr.map λi=>(σ[i]?).getD none
noncomputable def BQ(X:Cx)(own:List Str)(fr:List Nat)(sc:Scope)(C:Addr)(s:Shared)(H:Hp)(ex:List Addr):Cx where
 prog:=X.prog
 w:=X.w
 K:=X.K
 mg:=X.mg
 base:=X.base
 A:=X.A
 N:=own++VL X.N fr
 s₀:=s
 H₀:=H
 env:=compEnvC sc (cellsFrom (C+1) sc.names (IZ X.env.cells sc.names [])) C X.env
 outer:=X.stack
 stack:=X.stack
 ex:=ex
 fn:=λx=>sc.names.lookup x==some .cell
 calm:=X.calm
 pn:=[]
 xe:=λ_ _=>False
noncomputable def aE(own:List Str)(σ:St)(fr:List Nat):St:=own.map (λ_=>none)++vL σ fr
structure CompSc(X:Cx)(own:List Str)(fr:List Nat)(sc:Scope):Prop where
 kind:sc.kind=.function
 cells:∀y∈sc.names,y.2=.cell->sc.names.lookup y.1=some .cell
 loc:∀y∈sc.names,y.2=.local->sc.names.lookup y.1=some .local
 free:∀y∈sc.names,y.2=.free->X.env.kindOf y.1=some .cell\/X.env.kindOf y.1=some .free
 fr:∀i∈fr,∃x,X.N[i]?=some x/\sc.names.lookup x=some .free
theorem fD{X:Cx}{own:List Str}{fr:List Nat}{sc:Scope}{pins:List (Addr×Obj)}{σ:St}{H:Hp}{s:Shared}{fp:List Addr}{C D:Addr}{h1:Heap}{tk:Nat}{oD:Obj}
  (S:CompSc X own fr sc) (I:Inv X pins σ H s) (hf:∀b∈fp,cY X pins H b) (hfo:∀b∈fp,∃o,s.heap.get? b=some o) (hC:s.heap.objs.size<=C) (hD:s.heap.objs.size<=D) (hDC:D≠C) (hn:h1.Ns C λx=>([]:List (Str×Value)).reverse.lookup x)
  (hk:∀b o,s.heap.get? b=some o->h1.get? b=some o) (hcl:∀x c,(x,c)∈cellsFrom (C+1) sc.names []->h1.IsCell c none) (hap:(cellsFrom (C+1) sc.names []).Pairwise λx y=>x.2≠y.2) (hoD:h1.get? D=some oD) (hdD:∀v,oD.data≠.cell v) :
  Inv (BQ X own fr sc C s H fp) [(D,oD)] (aE own σ fr) H { s with heap:=h1,toks:=tk }:=by
 have hfree:∀y∈sc.names,y.2=.free->∃c,X.env.cells.lookup y.1=some c:=λy hy e=>I.ok.has y.1 (S.free y hy e)
 have cl1:∀x c,(IZ X.env.cells sc.names []).lookup x=some c->X.env.cells.lookup x=some c:=λx c e=>by
  rcases XZ hfree e with z|z
  ·simp at z
  ·exact z
 have cl2:∀x c,(cellsFrom (C+1) sc.names (IZ X.env.cells sc.names [])).lookup x=some c->(x,c)∈cellsFrom (C+1) sc.names []\/X.env.cells.lookup x=some c:=λx c e=>by
  rw[JZ,NX]at e
  cases q:(cellsFrom (C+1) sc.names []).lookup x with
  | none=>rw[q]at e;exact .inr (cl1 x c e)
  | some c'=>rw[q]at e;cases e;exact .inl (PySem.mem_of_lookup q)
 have new:∀x c,(x,c)∈cellsFrom (C+1) sc.names []->C+1<=c:=λx c h=>(RY _ _ h).2
 have oldc:∀x c,X.env.cells.lookup x=some c->c < s.heap.objs.size:=λx c e=>by
  obtain⟨v,q⟩:=I.cell x c e
  exact q.lt
 have kin:∀x k,(relabel sc X.env).names.lookup x=some k->k=.cell\/k=.free->sc.names.lookup x=some .free\/sc.names.lookup x=some .cell:=λx k e hk=>by
  rw[ZZ]at e
  cases q:sc.names.lookup x with
  | none=>rw[q]at e;cases e
  | some j =>
   rw[q,N5,Option.some.injEq]at e
   by_cases hj:j=.free
   ·rw[hj];exact .inl rfl
   ·have hne:(j==NameKind.free)=false:=by simpa using hj
    rw[hne,P6,P6,if_neg (by simp)]at e
    subst e
    rcases hk with z|z
    ·rw[z];exact .inr rfl
    ·exact absurd z hj
 have kout:∀x,sc.names.lookup x=some .free->((relabel sc X.env).names.lookup x=some .cell\/(relabel sc X.env).names.lookup x=some .free):=λx e=>by
  rw[ZZ,e,N5]
  by_cases h:(NameKind.free==NameKind.free&&X.env.scope.kind==.function&&X.env.kindOf x==some .cell)=true
  ·rw[if_pos h];exact .inl rfl
  ·rw[if_neg h];exact .inr rfl
 have okc:∀b∈fp,b < s.heap.objs.size:=λb hb=>by obtain⟨o,e⟩:=hfo b hb;exact D0 e
 have fresh:∀{a:Addr},s.heap.objs.size<=a->H a=none:=λh=>I.hok.fresh h
 have ok:(BQ X own fr sc C s H fp).Ok:={
   mod:=I.ok.mod
   kind:=S.kind
   glob:=I.ok.glob
   blt:=I.ok.blt
   above:=hC
   inj:=λx y c h1 h2=>by
     have hC:s.heap.objs.size<=C:=hC
     rcases cl2 x c h1 with a|a<;>rcases cl2 y c h2 with b|b
     · exact name_of_addr hap a b
     · have:=new x c a;have:=oldc y c b;exact absurd (N0 (oldc y c b) (A1 hC (S5 (new x c a)))) (B3 _)
     · exact absurd (N0 (oldc x c a) (A1 hC (S5 (new y c b)))) (B3 _)
     · exact I.ok.inj x y c a b
   has:=λx hx=>by
     have hx:sc.names.lookup x=some .free\/sc.names.lookup x=some .cell:=by
       rcases hx with hx|hx
       · exact kin x _ hx (.inl rfl)
       · exact kin x _ hx (.inr rfl)
     show ∃c,(cellsFrom (C+1) sc.names (IZ X.env.cells sc.names [])).lookup x=some c
     rw[JZ,NX]
     rcases hx with hx|hx
     · obtain⟨c,e⟩:=QY (cells:=X.env.cells) (x:=x) (l:=sc.names) (acc:=[]) (.inr hx)
       rw[e]
       cases (cellsFrom (C+1) sc.names []).lookup x with
       | none=>exact ⟨c,rfl⟩
       | some c'=>exact ⟨c',rfl⟩
     · obtain⟨c,e⟩:=UJ (n:=C+1) hx
       rw[e]
       exact ⟨c,rfl⟩
   cab:=λx c h e=>by
     have h:sc.names.lookup x=some .cell:=by simpa [BQ]using h
     have e:(cellsFrom (C+1) sc.names (IZ X.env.cells sc.names [])).lookup x=some c:=e
     obtain⟨c',q⟩:=UJ (n:=C+1) h
     rw[JZ,NX,q]at e
     cases e
     exact A1 hC (S5 (new x _ (PySem.mem_of_lookup q)))
   hd:=I.ok.hd
   frames:=I.ok.frames
   stk:=.inl rfl
   exf:=λb hb=>⟨W0 (N0 (okc b hb) hC),λx c e=>by
     rcases cl2 x c e with z|z
     · exact O1 (N0 (okc b hb) (A1 hC (S5 (new x c z))))
     · exact (hf b hb).2.2.2.2.1 x c z⟩
   bs:=I.bs
   bsz:=A1 I.ok.bsz I.sz
   noex:=λb o e hb=>by
     rcases (hf b hb).2.2.2.1 with z|z
     · exact I.ok.noex b o e z
     · exact absurd (N0 (D0 e) (A1 I.ok.bsz z)) (B3 _)
   exfs:=λb hb hm=>by
     rcases U1.mp (I.stkSub b hm) with z|z
     · exact (hf b hb).2.1 z
     · exact (hf b hb).2.2.1 z
   funs:=I.stack
   frf:=I.stkFree }
 refine ⟨ok,rfl,I.bare,Un.kept hk,⟨_,hn,λi x v e1 e2 e3=>?_⟩,λx c e=>?_,fresh hC,λx c e=>?_,λp hp=>?_,I.hok.kept hk,?_⟩
 ·have e1:(own++VL X.N fr)[i]?=some x:=e1
  have e2:(own.map (λ_=>(none:Option V))++vL σ fr)[i]?=some (some v):=e2
  by_cases hi:i < own.length
  ·rw[E2 (by simpa using hi),D1]at e2
   cases q:own[i]? with
   | none=>rw[q]at e2;cases e2
   | some z=>rw[q]at e2;cases e2
  ·rw[T1 (by omega)]at e1
   rw[T1 (by simpa using hi),n0]at e2
   unfold VL at e1
   unfold vL at e2
   rw[D1]at e1 e2
   cases q:fr[i - own.length]? with
   | none=>rw[q]at e1;cases e1
   | some j =>
    rw[q,N5,Option.some.injEq]at e1 e2
    obtain⟨y,hy,hyf⟩:=S.fr j (v3 q)
    rw[L1,hy,T3]at e1
    subst e1
    have e2':σ[j]?=some (some v):=by
     cases r:σ[j]? with
     | none=>rw[r]at e2;cases e2
     | some z=>rw[r,T3]at e2;rw[e2]
    have hkf:X.env.kindOf y=some .cell\/X.env.kindOf y=some .free:=S.free (y,.free) (PySem.mem_of_lookup hyf) rfl
    obtain⟨m,hm,hl⟩:=I.loc
    have vis:tL X.env.scope y:=by
     rcases hkf with z|z
     ·exact .inr (.inl z)
     ·exact .inr (.inr z)
    obtain⟨u,r,l⟩:=hl j y v hy e2' vis
    refine ⟨u,r,?_⟩
    rcases l with⟨k,_⟩|⟨k,c,hc,z⟩
    ·rcases hkf with k'|k'<;>rw[k]at k'<;>cases k'
    ·refine .inr ⟨kout y hyf,?_⟩
     obtain⟨c',hc'⟩:∃c',(IZ X.env.cells sc.names []).lookup y=some c':=QY (.inr hyf)
     have:c'=c:=D2 ((cl1 y c' hc').symm.trans hc)
     subst this
     obtain⟨o,ho,hd⟩:=z
     refine ⟨c',?_,o,hk _ _ ho,hd⟩
     show (cellsFrom (C+1) sc.names (IZ X.env.cells sc.names [])).lookup y=some c'
     rw[JZ,NX,hc']
     cases q:(cellsFrom (C+1) sc.names []).lookup y with
     | none=>rfl
     | some c2 =>
      have:=S.cells _ (RY _ _ (PySem.mem_of_lookup q)).1 rfl
      rw[hyf]at this
      cases this
 ·rcases cl2 x c e with z|z
  ·exact ⟨_,hcl x c z⟩
  ·obtain⟨v,o,ho,hd⟩:=I.cell x c z
   exact ⟨v,o,hk _ _ ho,hd⟩
 ·rcases cl2 x c e with z|z
  ·exact fresh (A1 hC (S5 (new x c z)))
  ·exact I.freeC x c z
 ·have e:p=(D,oD):=by
   have:p∈([]:List (Addr×Obj))++[(D,oD)]:=hp
   simpa using this
  subst e
  refine ⟨hoD,fresh hD,hDC,λhm=>?_,hdD⟩
  have hm:D∈nq X.stack:=hm
  obtain⟨_,o,ho,_⟩:=I.stack.mem hm
  exact absurd (N0 (D0 ho) hD) (B3 _)
 ·show (own.map (λ_=>(none:Option V))++vL σ fr).length=(own++VL X.N fr).length
  simp[vL,VL]
theorem Px{X:Cx}{own:List Str}{fr:List Nat}{sc:Scope}{pins:List (Addr×Obj)}{σ σ':St}{H H':Hp}{s s':Shared}{fp:List Addr}{C D:Addr}{oD:Obj}{ys:List V}{us:List Value}{n:Nat}
  (I:Inv X pins σ H s) (hf:∀b∈fp,cY X pins H b) (hC:s.heap.objs.size<=C) (hD:s.heap.objs.size<=D) (hDC:D≠C)
  (J:Inv (BQ X own fr sc C s H fp) [(D,oD)] σ' H' s') (ho:oD={ cls:=.type "list",data:=.seq us.toArray n }) (r:Vals ys us) (hz:ys.length<=sizeLine) :
  Inv X pins σ (OQ H' D (.lst ys)) s'/\(∃m,s'.heap.Ns C m)/\cY X pins (OQ H' D (.lst ys)) C:=by
 have pD:=J.pin (D,oD) (by simp[BQ])
 have hHD:H' D=none:=pD.2.1
 have u:Un (nq X.stack) fp H H' s.heap s'.heap:=J.base
 have lt:∀b o,s.heap.get? b=some o->b≠D:=λb o e=>W0 (N0 (D0 e) hD)
 have u2:Un (nq X.stack) fp H (OQ H' D (.lst ys)) s.heap s'.heap :=
  ⟨u.keep,u.slot,λb o e n hx=>by rw[dQ (lt b o e)];exact u.free b o e n hx,u.there,λb xs e=>by rw[dQ (gQ (u.tups b xs e) hHD)];exact u.tups b xs e,
    λb o x e=>by rw[dQ (gQ (u.frzs b o x e) hHD)];exact u.frzs b o x e,λb ps e=>by
      obtain⟨more,q⟩:=u.tbls b ps e
      exact ⟨more,by rw[dQ (gQ q hHD)];exact q⟩⟩
 have hok:HOk X.prog X.w (OQ H' D (.lst ys)) s'.heap:=λb o e=>by
  by_cases hb:b=D
  ·subst hb
   rw[jQ]at e
   cases e
   exact ⟨hz,us,n,r,by rw[<- ho];exact pD.1⟩
  ·rw[dQ hb]at e
   exact (J.hok b o e).stay (λ_ _ _ q=>q) (λc q=>by rw[dQ (gQ q hHD)];exact q) λc xs q=>by rw[dQ (gQ q hHD)];exact q
 refine ⟨I.call' (ch:=fp) J.os u2 hok J.bare λb hb=>?_,?_,?_⟩
 ·obtain⟨f0,f1,f2,f3,f4,f5⟩:=hf b hb
  exact ⟨f3,f1,f4,f5⟩
 ·obtain⟨m,hm,_⟩:=J.loc
  exact ⟨m,hm⟩
 ·have hfree:H' C=none:=J.free
  refine ⟨by rw[dQ (S1 hDC)];exact hfree,?_⟩
  exact (I.fpOk hC (I.hok.fresh hC)).2
theorem aJ{prog:Program}{w:World}{A:Around}{R:Result->Shared->Prop}{s:Shared}{elt target iter:Expr}{ifs:List Expr}{scope:Scope}{pos:Pos}{it acc:Value}{env:Env}(I:Nat->Shared->Prop)
  (turn:∀n s,I n s->wpAny (model prog w) A (pyNext it) (λr s₁=>match r with
    | none=>R (.ok .next) s₁
    | some v=>wpAny (model prog w) A (letOwnedTupleGo target it v) (λ_ s₁'=>wpAny (model prog w) A (assign target env v) (λ_ s₂ =>
        wpAny (model prog w) A (forIn ifs true λc r=>if r=true then do let ok<-isTrue c env (eval c env);pure (ForInStep.yield ok) else pure (ForInStep.yield r)) (λok s₃ =>
          if ok=true then wpAny (model prog w) A (eval elt env) (λx s₄ =>
            wpAny (model prog w) A (call (.builtin "list.append") [acc,x]) (λ_ s₅=>∃m,m < n/\I m s₅) (λ_ _=>False) s₄) (λ_ _=>False) s₃
          else ∃m,m < n/\I m s₃) (λ_ _=>False) s₂) (λ_ _=>False) s₁') (λ_ _=>False) s₁) (λ_ _=>False) s)
  (n:Nat) (h:I n s) :
  codeAny (model prog w) A (.compLoop (.ListComp elt [⟨target,iter,ifs,0⟩] scope pos) 0 it acc env) R s:=by
 refine codeAny_loop rfl I (λn s hI=>?_) n h
 show wpAny _ A ((compTurn (.ListComp elt [⟨target,iter,ifs,0⟩] scope pos) 0 it acc env).onRaise (λx=>do noteFrame x env;theTreesLotGoes x)) _ _ s
 refine wpAny_noted ?_
 rw[compTurn_list]
 refine wpAny_bind (wpAny_standAt (wpAny_bind (wpAny_mono (turn n s hI) (λr s₁ h₁=>?_) λ_ _ h'=>h'.elim)))
 cases r with
 | none=>exact wpAny_pure h₁
 | some v =>
  refine wpAny_bind (wpAny_mono h₁ (λ_ s₁' h₁'=>?_) λ_ _ h'=>h'.elim)
  refine wpAny_bind (wpAny_mono h₁' (λ_ s₂ h₂=>wpAny_bind (wpAny_mono h₂ (λok s₃ h₃=>?_) λ_ _ h'=>h'.elim)) λ_ _ h'=>h'.elim)
  cases ok with
  | false=>exact wpAny_pure ⟨rfl,h₃⟩
  | true =>
   exact wpAny_bind (wpAny_bind (wpAny_mono h₃ (λx s₄ h₄=>wpAny_bind (wpAny_mono h₄ (λ_ s₅ h₅=>wpAny_pure (wpAny_pure ⟨rfl,h₅⟩)) λ_ _ h'=>h'.elim)) λ_ _ h'=>h'.elim))
noncomputable def Qx(X:Cx)(ifs:List Expr)(t:TT):Prop :=
 ∀(pins:List (Addr×Obj)) (s:Shared) (σ:St) (H:Hp) (Q:Bool->Hp->Prop),Inv X pins σ H s->t σ H Q ->
  wpAny (model X.prog X.w) X.A (forIn ifs true λc r=>if r=true then do let ok<-isTrue c X.env (eval c X.env);pure (ForInStep.yield ok) else pure (ForInStep.yield r)) (TP X pins σ Q) X.xe s
noncomputable def WL:TT:=λ_ H Q=>Q true H
theorem bE{X:Cx}:Qx X [] WL:=λ_ _ _ H _ I h=>wpAny_tests_nil ⟨H,I,h⟩
theorem cE{X:Cx}{c:Expr}{t:TT}(h:PT X c t):Qx X [c] t:=λpins s σ H Q I hw=>wpAny_tests_one (h pins s σ H Q I hw)
noncomputable def FB(wi:TI)(own:List Str)(fr:List Nat)(g:TG)(tc:TT)(te:TE):TE:=λσ H Q=>wi σ H λJ H1=>∃W:Nat->Nat->List V->St->Hp->Prop,(∃m,W 0 m [] (aE own σ fr) H1)/\∀i m ys τ H,W i m ys τ H ->
 (J.stop i H/\∀D,H D=none->Q (.ref D) (OQ H D (.lst ys))) \/
 (J.go i H/\ys.length < sizeLine/\∃N:List V->St->Hp->Prop,(∀ys' τ' H',N ys' τ' H'->∃m',m' < m/\W (i+1) m' ys' τ' H')/\∀x H',J.yld i H x H'->g x τ H' λτ2 H2 =>
   tc τ2 H2 λb H3=>if b=true then te τ2 H3 λy H4=>N (ys++[y]) τ2 H4 else N ys τ2 H3)
theorem Zz{X:Cx}{D:Addr}{us:List Value}{k:Nat}{pl:List (Addr×Obj)}{σ:St}{H:Hp}{s:Shared}{u:Value}{Q:Value->Shared->Prop}{E:Value->Shared->Prop}
  (I:Inv X ([(D,{ cls:=.type "list",data:=.seq us.toArray k })]++pl) σ H s) (h1:X.s₀.heap.objs.size<=D) (h2:∀x c,X.env.cells.lookup x=some c->c≠D) (h3:∀p∈X.pn++pl,p.1≠D) (hz:us.length < sizeLine)
  (h:∀k' s',Inv X ([(D,{ cls:=.type "list",data:=.seq (us++[u]).toArray k' })]++pl) σ H s'->Q .none s'):wpAny (model X.prog X.w) X.A (call (.builtin "list.append") [.ref D,u]) Q E s:=by
 obtain⟨e,hn,hL,hF,_⟩:=I.pin (D,{ cls:=.type "list",data:=.seq us.toArray k }) (W1 _ (y7 _ (P2.mpr rfl)))
 dsimp only at e hn hL hF
 have I0:Inv X pl σ H s:=I.pins_of λp hp=>I.pin p (W1 _ (W1 _ hp))
 refine call_meets F.slot_list_append ⟨_,e,rfl⟩ F.entry_list_append (F.args_list_append_2 _ _) (PySem.list_append D us.toArray k u (by rw[Q0];omega)) ⟨e,?_⟩
 have q:=PySem.IsL.update e λxs=>xs.push u
 rw[show us.toArray.push u=(us++[u]).toArray by simp]at q
 have I1:Inv X pl σ H { s with heap:=s.heap.update D (U2 λxs=>xs.push u),toks:=s.toks } :=
  I0.turned (it:=D) (λb o hb ho=>(V3 s.heap (U2 λxs=>xs.push u) (S1 hb)).trans ho) hn hL (.inr h1) h2 h3
 obtain⟨k',q⟩:∃k',(s.heap.update D (U2 λxs=>xs.push u)).get? D=some { cls:=.type "list",data:=.seq (us++[u]).toArray k' }:=⟨_,q⟩
 refine h k' _ (I1.pins_of (pins':=[(D,{ cls:=.type "list",data:=.seq (us++[u]).toArray k' })]++pl) λp hp=>?_)
 rcases Q2.mp hp with z|z
 ·have z:p=_:=P2.mp z
  subst z
  exact ⟨q,hn,hL,hF,λv z=>by cases z⟩
 ·exact I1.pin p (W1 _ z)
theorem SY{X:Cx}{tg iter elt:Expr}{ifs:List Expr}{sc:Scope}{pos:Pos}{own:List Str}{fr:List Nat}{g:TG}{tc:TT}{te:TE}{pins:List (Addr×Obj)}{σ:St}{H2:Hp}{s2:Shared}{it:Addr}{fp:List Addr}{tn:Nat->Heap->Prop}{J:It}{Q:VK}{E:Value->Shared->Prop}
  {RR:Value->Addr->Result->Shared->Prop}
  (hc:X.calm=true) (S:CompSc X own fr sc) (I2:Inv X pins σ H2 s2) (T:Turn X.prog X.w X.K tg J fp it tn) (st2:tn 0 s2.heap) (f2:∀b∈fp,cY X pins H2 b)
  (hg:∀C ex,PG (BQ X own fr sc C s2 H2 ex) tg g) (hif:∀C ex,Qx (BQ X own fr sc C s2 H2 ex) ifs tc) (he:∀C ex,PE (BQ X own fr sc C s2 H2 ex) elt te)
  (W:Nat->Nat->List V->St->Hp->Prop) (m0:Nat) (w0:W 0 m0 [] (aE own σ fr) H2)
  (turn:∀i m ys τ H,W i m ys τ H->(J.stop i H/\∀D,H D=none->Q (.ref D) (OQ H D (.lst ys))) \/
    (J.go i H/\ys.length < sizeLine/\∃N:List V->St->Hp->Prop,(∀ys' τ' H',N ys' τ' H'->∃m',m' < m/\W (i+1) m' ys' τ' H')/\∀x H',J.yld i H x H'->g x τ H' λτ2 H2 =>
      tc τ2 H2 λb H3=>if b=true then te τ2 H3 λy H4=>N (ys++[y]) τ2 H4 else N ys τ2 H3))
  (hRR:∀D C H s',Inv X pins σ H s'->Q (.ref D) H->(∃m,s'.heap.Ns C m)->cY X pins H C->RR (.ref D) C (.ok .next) s') :
  wpAny (model X.prog X.w) X.A (newList []) (λacc s₃=>wpAny (model X.prog X.w) X.A (newFunctionEnv sc X.env.globals (IZ X.env.cells sc.names []) [] X.env.qual none .none (some X.env)) (λcenv s₄ =>
    codeAny (model X.prog X.w) X.A (.compStart (.ListComp elt [⟨tg,iter,ifs,0⟩] sc pos) 0 (.ref it) acc { cenv with scope:=relabel sc X.env }) (RR acc cenv.locals) s₄) E s₃) E s2:=by
 refine wpAny_newObj_type (EK ?_)
 dsimp only
 generalize hH2:s2.heap.push { cls:=.type "list",dict:=none,data:=.seq ([]:List Value).toArray }=G
 generalize hh1:pushCells (G.push { cls:=.type "dict",data:=.dict #[] }) sc.names=h₁
 have kp:∀b o,(G.push { cls:=.type "dict",data:=.dict #[] }).get? b=some o->h₁.get? b=some o:=λb o e=>hh1 ▸ pushCells_keeps _ _ b o e
 have hns₁:h₁.Ns G.objs.size λx=>([]:List (Str×Value)).reverse.lookup x:=(Heap.Ns.new G (.type "dict")).keeps kp
 have cok:CellsOk h₁ (G.objs.size+1) (cellsFrom (G.objs.size+1) sc.names []):=by
  have:=cellsFrom_ok sc.names (G.push { cls:=.type "dict",data:=.dict #[] }) (G.objs.size+1) [] ⟨λ_ _ hm=>(nomatch hm),List.Pairwise.nil⟩ (by rw[B2];exact G0 _)
  rw[B2,hh1]at this
  exact this
 have hC:G.objs.size=s2.heap.objs.size+1:=by rw[<- hH2,B2]
 have hCle:s2.heap.objs.size<=G.objs.size:=by rw[hC];exact K9 _
 have hDC:s2.heap.objs.size≠G.objs.size:=by rw[hC];exact W0 (Nat.lt_succ_self _)
 have old:∀b o,s2.heap.get? b=some o->h₁.get? b=some o:=λb o e=>kp b o (g0 _ (hH2 ▸ g0 _ e))
 have hacc:h₁.get? s2.heap.objs.size=some { cls:=.type "list",data:=.seq ([]:List Value).toArray }:=kp _ _ (g0 _ (hH2 ▸ J0 _ rfl))
 have st0':tn 0 h₁:=T.keep _ _ _ st2 λb hb o e=>old b o e
 have fo:∀b∈fp,∃o,s2.heap.get? b=some o:=λb hb=>let ⟨o,e,_⟩:=T.obj _ _ st2 b hb;⟨o,e⟩
 have flt:∀b∈fp,b < s2.heap.objs.size:=λb hb=>by obtain⟨o,e⟩:=fo b hb;exact D0 e
 have clb:∀x c,(IZ X.env.cells sc.names []).lookup x=some c->X.env.cells.lookup x=some c:=λx c e=>by
  rcases XZ (λy hy e=>I2.ok.has y.1 (S.free y hy e)) e with z|z
  ·simp at z
  ·exact z
 have clb2:∀(C':Addr) x c,(cellsFrom (C'+1) sc.names (IZ X.env.cells sc.names [])).lookup x=some c->C'+1<=c\/X.env.cells.lookup x=some c:=λC' x c e=>by
  rw[JZ,NX]at e
  cases q:(cellsFrom (C'+1) sc.names []).lookup x with
  | none=>rw[q]at e;exact .inr (clb x c e)
  | some c'=>rw[q]at e;cases e;exact .inl (RY _ _ (PySem.mem_of_lookup q)).2
 have stt:∀C':Addr,s2.heap.objs.size<=C'->∀{H':Hp}{pl:List (Addr×Obj)},(∀b∈fp,H' b=none)->(∀p∈pl,s2.heap.objs.size<=p.1)->∀b∈fp,cY (BQ X own fr sc C' s2 H2 fp) pl H' b:=λC' hC' H' pl hn hp b hb=>by
  have I0:=f2 b hb
  refine ⟨hn b hb,W0 (N0 (flt b hb) hC'),λhm=>?_,.inl hb,λx c e=>by
      rcases clb2 C' x c e with z|z
      · exact O1 (N0 (flt b hb) (A1 hC' (S5 z)))
      · exact I0.2.2.2.2.1 x c z,λp hp'=>?_⟩
  ·rcases U1.mp (I2.stkSub b hm) with z|z
   ·exact I0.2.1 z
   ·exact I0.2.2.1 z
  ·have hp':p∈pl:=by
    have:p∈([]:List (Addr×Obj))++pl:=hp'
    simpa using this
   exact O1 (N0 (flt b hb) (hp p hp'))
 have loop:∀s₃:Shared,s₃={ s2 with heap:=h₁,toks:=s2.toks } ->
   codeAny (model X.prog X.w) X.A (.compLoop (.ListComp elt [⟨tg,iter,ifs,0⟩] sc pos) 0 (.ref it) (.ref s2.heap.objs.size) (compEnvC sc (cellsFrom (G.objs.size+1) sc.names (IZ X.env.cells sc.names [])) G.objs.size X.env))
    (RR (.ref s2.heap.objs.size) G.objs.size) s₃:=by
  rintro s₃ rfl
  have I3:=fD (own:=own) (fr:=fr) (tk:=s2.toks) S I2 f2 fo hCle (G0 _) hDC hns₁ old (λx c h=>(cok.empty x c h).1) cok.apart hacc (λv z=>by cases z)
  refine aJ (λn s'=>∃i H' ys us k τ,Inv (BQ X own fr sc G.objs.size s2 H2 fp) [(s2.heap.objs.size,{ cls:=.type "list",data:=.seq us.toArray k })] τ H' s'/\tn i s'.heap/\(∀b∈fp,H' b=none)/\Vals ys us/\ys.length<=sizeLine/\W i n ys τ H') ?_ m0
   ⟨0,H2,[],[],0,_,I3,st0',λb hb=>(f2 b hb).1,.nil,i4 _,w0⟩
  rintro n s4 ⟨i,H4,ys,us,k,τ,I4,st4,fr4,rv4,hz4,w4⟩
  have hp4:∀p∈[(s2.heap.objs.size,({ cls:=.type "list",data:=.seq us.toArray k }:Obj))],s2.heap.objs.size<=p.1:=λp hp=>by
   rw[P2.mp hp]
   exact G0 _
  rcases turn i n ys τ H4 w4 with⟨stop,qn⟩|⟨go,hlt,N,hN,step⟩
  ·refine fX (T.done (BQ X own fr sc G.objs.size s2 H2 fp) rfl rfl rfl hc i _ s4 _ H4 (λ_ _=>False) I4 (stt _ hCle fr4 hp4) st4 stop) λr s5 ⟨hr,I5⟩=>?_
   subst hr
   obtain⟨a1,a2,a3⟩:=Px I2 f2 hCle (G0 _) hDC I5 rfl rv4 hz4
   exact hRR _ _ _ s5 a1 (qn _ (I5.pin _ (W1 _ (P2.mpr rfl))).2.1) a2 a3
  ·refine fX (T.item (BQ X own fr sc G.objs.size s2 H2 fp) rfl rfl rfl hc i _ s4 _ H4 (λ_ _=>False) I4 (stt _ hCle fr4 hp4) st4 go) λr s5 ⟨u,hr,h5⟩=>?_
   subst hr
   refine fX h5 λ_ s6 ⟨x,H6,I6,r6,y6,st6,fr6⟩=>?_
   have I6':=I6.pinned (stt _ hCle fr6 hp4) (T.obj _ _ st6)
   refine fX (hg G.objs.size fp _ s6 _ H6 x u _ I6' r6 (step x H6 y6)) λ_ s7 ⟨σ7,H7,I7,q7⟩=>?_
   refine fX (hif G.objs.size fp _ s7 σ7 H7 _ I7 q7) λb s8 ⟨H8,I8,q8⟩=>?_
   have again:∀{s9:Shared}{H9:Hp}{ys':List V}{us':List Value}{k':Nat},Inv (BQ X own fr sc G.objs.size s2 H2 fp) ([(s2.heap.objs.size,{ cls:=.type "list",data:=.seq us'.toArray k' })]++BK fp s6.heap) σ7 H9 s9->Vals ys' us'->ys'.length<=sizeLine->N ys' σ7 H9 ->
     ∃m,m < n/\∃i H' ys us k τ,Inv (BQ X own fr sc G.objs.size s2 H2 fp) [(s2.heap.objs.size,{ cls:=.type "list",data:=.seq us.toArray k })] τ H' s9/\tn i s9.heap/\(∀b∈fp,H' b=none)/\Vals ys us/\ys.length<=sizeLine/\W i m ys τ H':=λ{s9 H9 ys' us' k'} I9 rv9 hz9 n9=>by
    obtain⟨m',hm,w9⟩:=hN ys' σ7 H9 n9
    refine ⟨m',hm,i+1,H9,ys',us',k',σ7,I9.unpinned,T.keep _ _ _ st6 λb hb o e=>(I9.pin (b,o) (W1 _ (W1 _ (GZ hb e)))).1,λb hb=>?_,rv9,hz9,w9⟩
    obtain⟨o,e,d⟩:=T.obj _ _ st6 b hb
    exact (I9.pin (b,o) (W1 _ (W1 _ (GZ hb e)))).2.1
   cases b with
   | false =>
    rw[if_neg K1]at q8 ⊢
    exact again I8 rv4 hz4 q8
   | true =>
    rw[if_pos rfl]at q8 ⊢
    refine fX (he G.objs.size fp _ s8 σ7 H8 _ I8 q8) λy s9 ⟨yv,H9,I9,r9,n9⟩=>?_
    refine Zz (X:=BQ X own fr sc G.objs.size s2 H2 fp) I9 (G0 _) (λx c e z=>?_) (λp hp z=>?_) (by rw[<- rv4.length];exact hlt) λk' s10 I10=>?_
    ·rcases clb2 _ x c e with y|y
     ·rw[z]at y
      exact absurd (N0 (Nat.lt_succ_of_le hCle) y) (B3 _)
     ·obtain⟨v,q⟩:=I2.cell x c y
      exact absurd (N0 q.lt (by rw[z];exact G0 _)) (B3 _)
    ·have hp:p∈([]:List (Addr×Obj))++BK fp s6.heap:=hp
     rw[J8]at hp
     have:=flt _ (jV hp).1
     rw[z]at this
     exact absurd this (B3 _)
    ·exact again I10 (rv4.append (.cons r9 .nil)) (by rw[K0,Q1];omega) n9
 exact codeAny_compStart_list (loop _ rfl) (T.self _ 0 _ _ _ st0' (loop _ rfl))
theorem Gy{X:Cx}{tg iter elt:Expr}{ifs:List Expr}{sc:Scope}{pos:Pos}{own:List Str}{fr:List Nat}{wi:TI}{g:TG}{tc:TT}{te:TE}(hc:X.calm=true)(S:CompSc X own fr sc)(hi:PI X tg iter wi)
  (hg:∀C s H ex,PG (BQ X own fr sc C s H ex) tg g) (hif:∀C s H ex,Qx (BQ X own fr sc C s H ex) ifs tc) (he:∀C s H ex,PE (BQ X own fr sc C s H ex) elt te)
  (hs:∀x,foldedSetIterable iter X.env x=pure x:=by intro _;rfl):PE X (.ListComp elt [⟨tg,iter,ifs,0⟩] sc pos) (FB wi own fr g tc te):=by
 intro pins s σ H Q I h
 rw[eval_ListComp]
 refine wpAny_comprehension_free (use:=none) rfl hs (PY λy hy e=>I.ok.has y.1 (S.free y hy e)) S.kind S.loc (fX (hi pins s σ H _ I h) λv s1 h1=>fX h1 λitv s2 h2=>?_)
 obtain⟨it,fp,tn,J,H2,e,I2,T,st2,f2,W,⟨m0,w0⟩,turn⟩:=h2
 subst e
 refine SY (Q:=Q) (RR:=λacc C=>compPost (model X.prog X.w) X.A X.xe none (EP X pins σ Q) acc C) hc S I2 T st2 f2 (λC ex=>hg C s2 H2 ex) (λC ex=>hif C s2 H2 ex) (λC ex=>he C s2 H2 ex) W m0 w0 turn ?_
 intro D C H' s' I' q ⟨m,hm⟩ fC
 refine ⟨m,hm,λh' sb=>⟨.ref D,H',?_,rfl,q⟩⟩
 obtain⟨f0,f1,f2,f3,f4,f5⟩:=fC
 exact I'.turned (t':=s'.toks) (λb o hb e=>(sb.2 b hb).trans e) f0 f1 f3 f4 f5
theorem gD{X:Cx}{tg iter elt:Expr}{ifs:List Expr}{sc:Scope}{pos spos py:Pos}{i:Nat}{y:Str}{own:List Str}{fr:List Nat}{wi:TI}{g:TG}{tc:TT}{te:TE}(hN:X.N.Nodup)(hy:X.N[i]?=some y)(hl:X.env.scope.names.lookup y=some .local)(hc:X.calm=true)(S:CompSc X own fr sc)(hi:PI X tg iter wi)
  (hg:∀C s H ex,PG (BQ X own fr sc C s H ex) tg g) (hif:∀C s H ex,Qx (BQ X own fr sc C s H ex) ifs tc) (he:∀C s H ex,PE (BQ X own fr sc C s H ex) elt te)
  (hsw:swapsWith (.ListComp elt [⟨tg,iter,ifs,0⟩] sc pos) (some (.Name y py)) spos.line X.env=pure true:=by rfl)
  (hs:∀x,foldedSetIterable iter X.env x=pure x:=by intro _;rfl):PS X (.Assign [.Name y py] (.ListComp elt [⟨tg,iter,ifs,0⟩] sc pos) spos) (UZ (FB wi own fr g tc te) (HX i)):=by
 intro pins s σ H D I h
 rw[exec_Assign_Name_used _ _ _ _ hsw]
 refine wpAny_bind (wpAny_standAt ?_)
 show wpAny _ _ (evalThenUse (.ListComp elt [⟨tg,iter,ifs,0⟩] sc pos) X.env _ >>= _) _ _ s
 refine wpAny_bind ?_
 unfold evalThenUse
 refine wpAny_bind ?_
 refine wpAny_comprehension_free rfl hs (PY λy hy e=>I.ok.has y.1 (S.free y hy e)) S.kind S.loc (fX (hi pins s σ H _ I h) λv s1 h1=>fX h1 λitv s2 h2=>?_)
 obtain⟨it,fp,tn,J,H2,e,I2,T,st2,f2,W,⟨m0,w0⟩,turn⟩:=h2
 subst e
 refine SY (Q:=λv H1=>D.nx (σ.set i (some v)) H1) hc S I2 T st2 f2 (λC ex=>hg C s2 H2 ex) (λC ex=>hif C s2 H2 ex) (λC ex=>he C s2 H2 ex) W m0 w0 turn ?_
 intro D' C H' s' I' q ⟨m,hm⟩ fC
 obtain⟨f0,f1,f2,f3,f4,f5⟩:=fC
 show wpAny (model X.prog X.w) X.A (assign (.Name y py) X.env (.ref D')) (λ_ s''=>∃m,s''.heap.Ns C m/\∀h',q5 C s''.heap h'->_) X.xe s'
 refine wpAny_assign_Name (fV I' hN hy (.inl hl) (v:=.ref D') rfl (λs'' I'' hsb=>?_) (.inr hl))
 obtain⟨a,hsb,ha⟩:=hsb
 have hCa:C≠a:=by
  rcases ha with z|z
  ·rw[z];exact f1
  ·exact λe=>f4 y a z e.symm
 obtain⟨m',hm'⟩:∃m',s''.heap.Ns C m':=⟨m,hm.sameBut hsb hCa⟩
 refine ⟨m',hm',λh' sb=>wpAny_pure (wpAny_pure ⟨_,H',?_,q⟩)⟩
 exact I''.turned (t':=s''.toks) (λb o hb e=>(sb.2 b hb).trans e) f0 f1 f3 f4 f5
inductive Kd where|l|t
noncomputable def ItAt(k:Kd)(h:Heap)(it a:Addr)(i:Nat):Prop:=match k with | .l=>h.IsListIter it a i | .t=>h.IsTupleIter it a i
noncomputable def SqAt(k:Kd)(h:Heap)(a:Addr)(xs:Array Value):Prop:=match k with | .l=>h.IsList a xs | .t=>h.IsTuple a xs
noncomputable def MQ(k:Kd)(a:Addr):Obj:=match k with | .l=>{ cls:=.type "list_iterator",data:=.fields #[.ref a,.int 0 0] } | .t=>{ cls:=.type "tuple_iterator",data:=.fields #[.ref a,.int 0 0] }
theorem ItAt.at{k:Kd}{h h':Heap}{it a:Addr}{i:Nat}(x:ItAt k h it a i)(f:∀o,h.get? it=some o->h'.get? it=some o):ItAt k h' it a i:=by
 cases k with
 | l=>exact Heap.IsListIter.at x f
 | t=>exact Heap.IsTupleIter.at x f
theorem SqAt.at{k:Kd}{h h':Heap}{a:Addr}{xs:Array Value}(x:SqAt k h a xs)(f:∀o,h.get? a=some o->h'.get? a=some o):SqAt k h' a xs:=by
 cases k with
 | l=>exact Heap.IsList.at x f
 | t=>obtain⟨o,e,r⟩:=x;exact ⟨o,f o e,r⟩
theorem ItAt.obj{k:Kd}{h:Heap}{it a:Addr}{i:Nat}(x:ItAt k h it a i):∃o,h.get? it=some o/\∀v,o.data≠.cell v:=by
 cases k with
 | l=>obtain⟨o,e,c,d⟩:=x;exact ⟨o,e,λv z=>by rw[d]at z;cases z⟩
 | t=>obtain⟨o,e,c,d⟩:=x;exact ⟨o,e,λv z=>by rw[d]at z;cases z⟩
theorem ItAt.new(k:Kd){h:Heap}{it a:Addr}(e:h.get? it=some (MQ k a)):ItAt k h it a 0:=by
 cases k with
 | l=>exact ⟨_,e,rfl,rfl⟩
 | t=>exact ⟨_,e,rfl,rfl⟩
section
variable {prog:Program}{w:World}{A:Around}{E:Value->Shared->Prop}{s:Shared}
theorem tZ{k:Kd}{a:Addr}{xs:Array Value}{Q:Value->Shared->Prop}(hl:SqAt k s.heap a xs)(h:Q (.ref s.heap.objs.size) { s with heap:=s.heap.push (MQ k a) }):wpAny (model prog w) A (pyIter (.ref a)) Q E s:=by
 cases k with
 | l=>exact wpAny_pyIter_list hl h
 | t=>exact wpAny_pyIter_tuple hl h
theorem XJ{it t:Addr}{i:Nat}{items}{x:Value}{Q:Value->Shared->Prop}(hit:s.heap.IsTupleIter it t i)(ht:s.heap.IsTuple t items)(hx:items[i]?=some x)
  (hQ:∀h',h'.IsTupleIter it t (i+1)->q5 it s.heap h'->Q x { s with heap:=h' }):wpAny (model prog w) A (U0 (.ref it)) Q E s:=by
 obtain⟨o,ho,hc,hd⟩:=id hit
 obtain⟨ol,hol,_,nl,hdl⟩:=ht
 unfold U0
 refine wpAny_bind (wpAny_callSpecial?_slot (name:=Str.ofString "__next__") hit.typeIs F.slot_tuple_iterator_next
   (wpAny_call_entry F.slot_tuple_iterator_next hit.typeIs F.entry_tuple_iterator_next ?_ (F.args_tuple_iterator_next_1 _)))
 show wpAny _ _ (field (.ref it) 0 >>= _) _ _ s
 refine wpAny_bind (wpAny_field ho hd (x:=.ref t) rfl ?_)
 show wpAny _ _ (if (T2 t==o6)=true then _ else _) _ _ s
 rw[if_neg (show ¬((T2 t==o6)=true) from K1)]
 show wpAny _ _ (field (.ref it) 1 >>= _) _ _ s
 refine wpAny_bind (wpAny_field ho hd (x:=.int i 0) rfl ?_)
 show wpAny _ _ (seqItems? (.ref t) >>= _) _ _ s
 refine wpAny_bind (wpAny_seqItems hol hdl ?_)
 simp only[j4,hx]
 refine wpAny_bind (wpAny_setField ho hd (by simp) (wpAny_pure ⟨x,rfl,wpAny_pure (hQ _ ?_ (N4 ..))⟩))
 exact ⟨_,Y2 _ ho (Y6 (D5 hd _)),(Obj.cls_mapFields ..).trans hc,by
   rw[D5 hd];simp[rawInt]⟩
theorem FK{it l:Addr}{i:Nat}{items}{Q:Value->Shared->Prop}(hh:A.handled=none)
  (hit:s.heap.IsTupleIter it l i) (hl:s.heap.IsTuple l items) (hx:items[i]?=none)
  (hE:∀h' e,L9 it s.heap h'->(∃o,h'.get? e=some o/\o.cls=.type "StopIteration")->E (.ref e) { s with heap:=h' }) :
  wpAny (model prog w) A (U0 (.ref it)) Q E s:=by
 obtain⟨o,ho,hc,hd⟩:=id hit
 obtain⟨ol,hol,_,nl,hdl⟩:=hl
 unfold U0
 refine wpAny_bind (wpAny_callSpecial?_slot (name:=Str.ofString "__next__") hit.typeIs F.slot_tuple_iterator_next
   (wpAny_call_entry F.slot_tuple_iterator_next hit.typeIs F.entry_tuple_iterator_next ?_ (F.args_tuple_iterator_next_1 _)))
 show wpAny _ _ (field (.ref it) 0 >>= _) _ _ s
 refine wpAny_bind (wpAny_field ho hd (x:=.ref l) rfl ?_)
 show wpAny _ _ (if (T2 l==o6)=true then _ else _) _ _ s
 rw[if_neg (show ¬((T2 l==o6)=true) from K1)]
 show wpAny _ _ (field (.ref it) 1 >>= _) _ _ s
 refine wpAny_bind (wpAny_field ho hd (x:=.int i 0) rfl ?_)
 show wpAny _ _ (seqItems? (.ref l) >>= _) _ _ s
 refine wpAny_bind (wpAny_seqItems hol hdl ?_)
 simp only[j4,hx]
 refine wpAny_bind (wpAny_rule (wpAny_bind (wpAny_setField ho hd (by simp) ?_)))
 show wpAny _ _ (newExc (.type "StopIteration") [] >>= _) _ _ _
 refine wpAny_bind ?_
 simp only[newExc,newTuple]
 refine wpAny_bind (wpAny_newObj_type ?_ (by size_fits))
 refine wpAny_bind (m:=firstArgMember _ _) (wpAny_of_eq (a:=o6) (by first|rfl|(simp only[firstArgMember];rfl)) ?_)
 refine wpAny_newObj_type ?_ (by size_fits)
 simp only[raiseNew]
 refine wpAny_bind (wpAny_handled ?_)
 first|rw[show A.in1.handled=none from hh]|rw[hh]
 refine wpAny_bind (wpAny_pure (wpAny_throw ?_))
 exact hE _ _ (((N4 ..).extBut.push _).push _) ⟨_,J0 _ rfl,rfl⟩
theorem KQ{k:Kd}{it a:Addr}{i:Nat}{xs:Array Value}{x:Value}{Q:Value->Shared->Prop}(hit:ItAt k s.heap it a i)(hl:SqAt k s.heap a xs)(hx:xs[i]?=some x)
  (hQ:∀h',ItAt k h' it a (i+1)->q5 it s.heap h'->Q x { s with heap:=h' }):wpAny (model prog w) A (U0 (.ref it)) Q E s:=by
 cases k with
 | l=>exact wpAny_nextOf_list_item hit hl hx hQ
 | t=>exact XJ hit hl hx hQ
theorem iX{k:Kd}{it a:Addr}{i:Nat}{xs:Array Value}{Q:Value->Shared->Prop}(hh:A.handled=none)(hit:ItAt k s.heap it a i)(hl:SqAt k s.heap a xs)(hx:xs[i]?=none)
  (hE:∀h' e,L9 it s.heap h'->(∃o,h'.get? e=some o/\o.cls=.type "StopIteration")->E (.ref e) { s with heap:=h' }):wpAny (model prog w) A (U0 (.ref it)) Q E s:=by
 cases k with
 | l=>exact wpAny_nextOf_list_end hh hit hl hx hE
 | t=>exact FK hh hit hl hx hE
end
noncomputable abbrev yQ(h:Heap)(T:Addr)(a1 a2:Value):Prop:=h.get? T=some { cls:=.type "tuple",data:=.seq #[a1,a2] }
structure ZAp2(z TI TO i1 i2 l1 l2:Addr):Prop where
 TIz:TI≠z
 TOz:TO≠z
 i1z:i1≠z
 i2z:i2≠z
 TOTI:TO≠TI
 i1TI:i1≠TI
 i2TI:i2≠TI
 i1TO:i1≠TO
 i2TO:i2≠TO
 i2i1:i2≠i1
 l1z:l1≠z
 l1TO:l1≠TO
 l1i1:l1≠i1
 l1i2:l1≠i2
 l2z:l2≠z
 l2TO:l2≠TO
 l2i1:l2≠i1
 l2i2:l2≠i2
theorem XL(n l1 l2:Nat)(h1:l1 < n)(h2:l2 < n):ZAp2 (n+4) (n+2) (n+3) n (n+1) l1 l2:=by constructor<;>(show ¬(@Eq Nat _ _))<;>omega
section
variable {prog:Program}{w:World}{A:Around}{E:Value->Shared->Prop}{s:Shared}
theorem iD{T:Addr}{a1 a2 x:Value}{k:Nat}{Q:Unit->Shared->Prop}(hT:yQ s.heap T a1 a2)
  (h:∀h',h'.get? T=some { cls:=.type "tuple",data:=.seq ((#[a1,a2]:Array Value).setIfInBounds k x) }->q5 T s.heap h'->Q () { s with heap:=h' }) :
  wpAny (model prog w) A (updateSeq T (·.setIfInBounds k x)) Q E s:=by
 refine wpAny_updateSeq hT rfl (h _ ?_ (N4 ..))
 rw[Y2 _ hT rfl]
 simp[U2]
theorem jD{z TI TO i1 i2 l1 l2:Addr}{k:Nat}{k1:Kd}{k2:Kd}{xs1 xs2:Array Value}{a1 a2:Value}{x1 x2:Value}{Q:Value->Shared->Prop}(D:ZAp2 z TI TO i1 i2 l1 l2)
  (hz:IsZip s.heap z TI TO .none) (hTI:yQ s.heap TI (.ref i1) (.ref i2)) (hTO:yQ s.heap TO a1 a2)
  (h1:ItAt k1 s.heap i1 l1 k) (h2:ItAt k2 s.heap i2 l2 k) (hl1:SqAt k1 s.heap l1 xs1) (hl2:SqAt k2 s.heap l2 xs2) (hx1:xs1[k]?=some x1) (hx2:xs2[k]?=some x2)
  (hQ:∀h',IsZip h' z TI TO (rawInt s.heap.objs.size)->yQ h' TO x1 x2->ItAt k1 h' i1 l1 (k+1)->ItAt k2 h' i2 l2 (k+1)->yQ h' s.heap.objs.size x1 x2->h'.objs.size=s.heap.objs.size+1 ->
    (∀c o,c≠z->c≠TO->c≠i1->c≠i2->s.heap.get? c=some o->h'.get? c=some o)->Q (.ref s.heap.objs.size) { s with heap:=h' }) :
  wpAny (model prog w) A (Builtin.«zip.__next__» ⟨[.ref z],[]⟩) (λfin s'=>∃v,fin=.done (.ret v)/\Q v s') E s:=by
 show wpAny _ _ (field (.ref z) 2 >>= _) _ _ _
 refine wpAny_bind (wpAny_field hz rfl (x:=.bool false) rfl ?_)
 show wpAny _ _ (field (.ref z) 3 >>= _) _ _ _
 refine wpAny_bind (wpAny_field hz rfl (x:=.ref TI) rfl ?_)
 refine wpAny_bind (wpAny_seqItems hTI rfl ?_)
 show wpAny _ _ (Z0 (.ref z) >>= _) _ _ _
 refine wpAny_bind ?_
 unfold Z0
 refine wpAny_bind (wpAny_field hz rfl (x:=.none) rfl (wpAny_pure ?_))
 simp only[if_true]
 refine wpAny_bind (wpAny_rule ?_)
 refine wpAny_bind (wpAny_field hz rfl (x:=.ref TO) rfl ?_)
 refine wpAny_bind (wpAny_setField_rec hz (by simp) λh₁ hz₁ hs₁=>?_)
 replace hz₁:IsZip h₁ z TI TO .ellipsis:=hz₁
 refine wpAny_bind ?_
 simp only[g7,A7,M5,Y5]
 have up₁:∀c o,c≠z->s.heap.get? c=some o->h₁.get? c=some o:=λc o c1 e=>hs₁.extBut _ _ c1 e
 refine wpAny_bind (wpAny_bind (wpAny_onRaise ?_))
 show wpAny _ _ (U0 (.ref i1) >>= _) _ _ _
 refine wpAny_bind (KQ (h1.at λo e=>hs₁.extBut _ o D.i1z e) (hl1.at λo e=>hs₁.extBut _ o D.l1z e) hx1 λha1 hi1 hsa1=>wpAny_pure ?_)
 have hTOa1:yQ ha1 TO a1 a2:=hsa1.extBut _ _ D.i1TO.symm (hs₁.extBut _ _ D.TOz hTO)
 refine wpAny_bind (wpAny_seqItems hTOa1 rfl ?_)
 refine wpAny_bind (iD hTOa1 λhb1 hTOb1 hsb1=>?_)
 replace hTOb1:yQ hb1 TO x1 a2:=hTOb1
 refine wpAny_bind (wpAny_letGo (wpAny_pure ?_))
 refine wpAny_bind (wpAny_bind (wpAny_onRaise ?_))
 show wpAny _ _ (U0 (.ref i2) >>= _) _ _ _
 refine wpAny_bind (KQ (((h2.at λo e=>hs₁.extBut _ o D.i2z e).at λo e=>hsa1.extBut _ o D.i2i1 e).at λo e=>hsb1.extBut _ o D.i2TO e) (((hl2.at λo e=>hs₁.extBut _ o D.l2z e).at λo e=>hsa1.extBut _ o D.l2i1 e).at λo e=>hsb1.extBut _ o D.l2TO e) hx2 λha2 hi2 hsa2=>wpAny_pure ?_)
 have hTOa2:yQ ha2 TO x1 a2:=hsa2.extBut _ _ D.i2TO.symm hTOb1
 refine wpAny_bind (wpAny_seqItems hTOa2 rfl ?_)
 refine wpAny_bind (iD hTOa2 λhb2 hTOb2 hsb2=>?_)
 replace hTOb2:yQ hb2 TO x1 x2:=hTOb2
 refine wpAny_bind (wpAny_letGo (wpAny_pure (wpAny_pure ?_)))
 refine wpAny_bind (wpAny_seqItems hTOb2 rfl ?_)
 refine wpAny_bind (wpAny_newTuple ?_)
 have hsz:hb2.objs.size=s.heap.objs.size:=by rw[hsb2.1,hsa2.1,hsb1.1,hsa1.1,hs₁.1]
 have hzG:IsZip hb2 z TI TO .ellipsis:=(hsb2.extBut _ _ D.TOz.symm (hsa2.extBut _ _ D.i2z.symm (hsb1.extBut _ _ D.TOz.symm (hsa1.extBut _ _ D.i1z.symm hz₁))))
 have hkG:∀c o,c≠z->c≠TO->c≠i1->c≠i2->s.heap.get? c=some o->hb2.get? c=some o:=λc o c1 c2 d1 d2 e=>(hsb2.extBut _ _ c2 (hsa2.extBut _ _ d2 (hsb1.extBut _ _ c2 (hsa1.extBut _ _ d1 (hs₁.extBut _ _ c1 e)))))
 have hiG1:ItAt k1 hb2 i1 l1 (k+1):=(((hi1.at λo e=>hsb1.extBut _ o D.i1TO e).at λo e=>hsa2.extBut _ o D.i2i1.symm e).at λo e=>hsb2.extBut _ o D.i1TO e)
 have hiG2:ItAt k2 hb2 i2 l2 (k+1):=(hi2.at λo e=>hsb2.extBut _ o D.i2TO e)
 have hzlt:z < hb2.objs.size:=D0 hzG
 show wpAny _ _ (Z3 (.ref z) (.ref hb2.objs.size) >>= _) _ _ _
 refine wpAny_bind ?_
 unfold Z3
 have hz₆:IsZip (hb2.push { cls:=.type "tuple",data:=.seq #[x1,x2] }) z TI TO .ellipsis:=g0 _ hzG
 refine wpAny_bind (wpAny_setField_rec hz₆ (by simp) λh₇ hz₇ hs₇=>?_)
 replace hz₇:IsZip h₇ z TI TO (rawInt hb2.objs.size):=hz₇
 refine wpAny_setField_rec hz₇ (by simp) λh₈ hz₈ hs₈=>?_
 replace hz₈:IsZip h₈ z TI TO (rawInt hb2.objs.size):=hz₈
 have up:∀c o,c≠z->hb2.get? c=some o->h₈.get? c=some o:=λc o c1 e=>hs₈.extBut _ _ c1 (hs₇.extBut _ _ c1 (g0 _ e))
 have hT₈:yQ h₈ hb2.objs.size x1 x2:=hs₈.extBut _ _ (O1 hzlt) (hs₇.extBut _ _ (O1 hzlt) (J0 _ rfl))
 have hz8:h₈.objs.size=hb2.objs.size+1:=by rw[hs₈.1,hs₇.1,B2]
 rw[hsz]at hz₈ hT₈ hz8
 refine wpAny_pure ⟨_,rfl,?_⟩
 show Q (.ref hb2.objs.size) _
 rw[hsz]
 exact hQ h₈ hz₈ (up _ _ D.TOz hTOb2) (hiG1.at λo e=>up _ o D.i1z e) (hiG2.at λo e=>up _ o D.i2z e) hT₈ hz8 λc o c1 c2 d1 d2 e=>up c o c1 (hkG c o c1 c2 d1 d2 e)
theorem aj{z TI TO i1 i2 l1 l2:Addr}{k:Nat}{k1:Kd}{k2:Kd}{xs1 xs2:Array Value}{a1 a2:Value}{Q:Fin->Shared->Prop}(hh:A.handled=none)(D:ZAp2 z TI TO i1 i2 l1 l2)
  (hz:IsZip s.heap z TI TO .none) (hTI:yQ s.heap TI (.ref i1) (.ref i2)) (hTO:yQ s.heap TO a1 a2)
  (h1:ItAt k1 s.heap i1 l1 k) (h2:ItAt k2 s.heap i2 l2 k) (hl1:SqAt k1 s.heap l1 xs1) (hl2:SqAt k2 s.heap l2 xs2) (hend:xs1[k]?=none\/xs2[k]?=none)
  (hE:∀h' e,(∀c o,c≠z->c≠TO->c≠i1->c≠i2->s.heap.get? c=some o->h'.get? c=some o)->(∃o,h'.get? e=some o/\o.cls=.type "StopIteration")->E (.ref e) { s with heap:=h' }) :
  wpAny (model prog w) A (Builtin.«zip.__next__» ⟨[.ref z],[]⟩) Q E s:=by
 show wpAny _ _ (field (.ref z) 2 >>= _) _ _ _
 refine wpAny_bind (wpAny_field hz rfl (x:=.bool false) rfl ?_)
 show wpAny _ _ (field (.ref z) 3 >>= _) _ _ _
 refine wpAny_bind (wpAny_field hz rfl (x:=.ref TI) rfl ?_)
 refine wpAny_bind (wpAny_seqItems hTI rfl ?_)
 show wpAny _ _ (Z0 (.ref z) >>= _) _ _ _
 refine wpAny_bind ?_
 unfold Z0
 refine wpAny_bind (wpAny_field hz rfl (x:=.none) rfl (wpAny_pure ?_))
 simp only[if_true]
 refine wpAny_bind (wpAny_rule ?_)
 refine wpAny_bind (wpAny_field hz rfl (x:=.ref TO) rfl ?_)
 refine wpAny_bind (wpAny_setField_rec hz (by simp) λh₁ hz₁ hs₁=>?_)
 replace hz₁:IsZip h₁ z TI TO .ellipsis:=hz₁
 refine wpAny_bind ?_
 simp only[g7,A7,M5,Y5]
 refine wpAny_bind (wpAny_bind (wpAny_onRaise ?_))
 show wpAny _ _ (U0 (.ref i1) >>= _) _ _ _
 cases hx1:xs1[k]? with
 | none =>
  refine wpAny_bind (iX hh (h1.at λo e=>hs₁.extBut _ o D.i1z e) (hl1.at λo e=>hs₁.extBut _ o D.l1z e) hx1 λhq e hsq he=>?_)
  obtain⟨oe,hoe,hce⟩:=he
  have hzq:IsZip hq z TI TO .ellipsis:=hsq _ _ D.i1z.symm hz₁
  have hez:e≠z:=λx=>by subst x;rw[hzq]at hoe;cases hoe;simp at hce
  refine wpAny_setField_rec hzq (by simp) λh₉ _ hs₉=>hE h₉ e (λc o c1 c2 d1 d2 x=>hs₉.extBut _ _ c1 (hsq _ _ d1 (hs₁.extBut _ _ c1 x))) ⟨oe,hs₉.extBut _ _ hez hoe,hce⟩
 | some x1 =>
  refine wpAny_bind (KQ (h1.at λo e=>hs₁.extBut _ o D.i1z e) (hl1.at λo e=>hs₁.extBut _ o D.l1z e) hx1 λha1 hi1 hsa1=>wpAny_pure ?_)
  have hTOa1:yQ ha1 TO a1 a2:=hsa1.extBut _ _ D.i1TO.symm (hs₁.extBut _ _ D.TOz hTO)
  refine wpAny_bind (wpAny_seqItems hTOa1 rfl ?_)
  refine wpAny_bind (iD hTOa1 λhb1 hTOb1 hsb1=>?_)
  replace hTOb1:yQ hb1 TO x1 a2:=hTOb1
  refine wpAny_bind (wpAny_letGo (wpAny_pure ?_))
  refine wpAny_bind (wpAny_bind (wpAny_onRaise ?_))
  show wpAny _ _ (U0 (.ref i2) >>= _) _ _ _
  have hx2:xs2[k]?=none:=by
   rcases hend with h|h
   ·rw[hx1]at h;cases h
   ·exact h
  refine wpAny_bind (iX hh (((h2.at λo e=>hs₁.extBut _ o D.i2z e).at λo e=>hsa1.extBut _ o D.i2i1 e).at λo e=>hsb1.extBut _ o D.i2TO e) (((hl2.at λo e=>hs₁.extBut _ o D.l2z e).at λo e=>hsa1.extBut _ o D.l2i1 e).at λo e=>hsb1.extBut _ o D.l2TO e) hx2 λhq e hsq he=>?_)
  obtain⟨oe,hoe,hce⟩:=he
  have hzq:IsZip hq z TI TO .ellipsis:=hsq _ _ D.i2z.symm (hsb1.extBut _ _ D.TOz.symm (hsa1.extBut _ _ D.i1z.symm hz₁))
  have hez:e≠z:=λx=>by subst x;rw[hzq]at hoe;cases hoe;simp at hce
  refine wpAny_setField_rec hzq (by simp) λh₉ _ hs₉=>hE h₉ e (λc o c1 c2 d1 d2 x=>hs₉.extBut _ _ c1 (hsq _ _ d2 (hsb1.extBut _ _ c2 (hsa1.extBut _ _ d1 (hs₁.extBut _ _ c1 x))))) ⟨oe,hs₉.extBut _ _ hez hoe,hce⟩
theorem bJ{z TI TO i1 i2 l1 l2:Addr}{k:Nat}{k1:Kd}{k2:Kd}{xs1 xs2:Array Value}{a1 a2:Value}{x1 x2:Value}{Q:Option Value->Shared->Prop}(D:ZAp2 z TI TO i1 i2 l1 l2)
  (hz:IsZip s.heap z TI TO .none) (hTI:yQ s.heap TI (.ref i1) (.ref i2)) (hTO:yQ s.heap TO a1 a2)
  (h1:ItAt k1 s.heap i1 l1 k) (h2:ItAt k2 s.heap i2 l2 k) (hl1:SqAt k1 s.heap l1 xs1) (hl2:SqAt k2 s.heap l2 xs2) (hx1:xs1[k]?=some x1) (hx2:xs2[k]?=some x2)
  (hQ:∀h',IsZip h' z TI TO (rawInt s.heap.objs.size)->yQ h' TO x1 x2->ItAt k1 h' i1 l1 (k+1)->ItAt k2 h' i2 l2 (k+1)->yQ h' s.heap.objs.size x1 x2->h'.objs.size=s.heap.objs.size+1 ->
    (∀c o,c≠z->c≠TO->c≠i1->c≠i2->s.heap.get? c=some o->h'.get? c=some o)->Q (some (.ref s.heap.objs.size)) { s with heap:=h' }) :
  wpAny (model prog w) A (pyNext (.ref z)) Q E s:=by
 have hT:s.TypeIs (.ref z) "zip":=⟨_,hz,rfl⟩
 unfold pyNext
 exact wpAny_bind (wpAny_attempt (wpAny_callSpecial?_slot (name:=Str.ofString "__next__") hT F.slot_zip_next
   (wpAny_call_entry F.slot_zip_next hT F.entry_zip_next
     (jD D hz hTI hTO h1 h2 hl1 hl2 hx1 hx2 λh' a1 a2 b1 b2 a5 a6 a7=>wpAny_pure (hQ h' a1 a2 b1 b2 a5 a6 a7)) (F.args_zip_next_1 _))))
theorem BJ{z TI TO i1 i2 l1 l2:Addr}{k:Nat}{k1:Kd}{k2:Kd}{xs1 xs2:Array Value}{a1 a2:Value}{Q:Option Value->Shared->Prop}(hh:A.handled=none)(D:ZAp2 z TI TO i1 i2 l1 l2)
  (hz:IsZip s.heap z TI TO .none) (hTI:yQ s.heap TI (.ref i1) (.ref i2)) (hTO:yQ s.heap TO a1 a2)
  (h1:ItAt k1 s.heap i1 l1 k) (h2:ItAt k2 s.heap i2 l2 k) (hl1:SqAt k1 s.heap l1 xs1) (hl2:SqAt k2 s.heap l2 xs2) (hend:xs1[k]?=none\/xs2[k]?=none)
  (hQ:∀h',(∀c o,c≠z->c≠TO->c≠i1->c≠i2->s.heap.get? c=some o->h'.get? c=some o)->Q none { s with heap:=h' }):wpAny (model prog w) A (pyNext (.ref z)) Q E s:=by
 have hT:s.TypeIs (.ref z) "zip":=⟨_,hz,rfl⟩
 unfold pyNext
 refine wpAny_bind (wpAny_attempt (wpAny_callSpecial?_slot (name:=Str.ofString "__next__") hT F.slot_zip_next
   (wpAny_call_entry F.slot_zip_next hT F.entry_zip_next (aj hh D hz hTI hTO h1 h2 hl1 hl2 hend λh' e hk he=>?_) (F.args_zip_next_1 _))))
 obtain⟨o,ho,hc⟩:=he
 refine wpAny_bind (wpAny_isInstance (T:="StopIteration") (b:=true) ⟨o,ho,hc⟩ isSubtype_stop ?_)
 exact wpAny_pure (hQ _ hk)
end
noncomputable abbrev bj(h:Heap)(k1:Kd)(k2:Kd)(l1 l2:Addr):Heap:=((h.push (MQ k1 l1)).push (MQ k2 l2))
noncomputable abbrev cj(h:Heap)(k1:Kd)(k2:Kd)(l1 l2:Addr):Heap:=(bj h k1 k2 l1 l2).push { cls:=.type "tuple",data:=.seq #[.ref h.objs.size,.ref (h.push (MQ k1 l1)).objs.size] }
noncomputable abbrev dj(h:Heap)(k1:Kd)(k2:Kd)(l1 l2:Addr):Heap:=(cj h k1 k2 l1 l2).push { cls:=.type "tuple",data:=.seq #[.none,.none] }
noncomputable abbrev SZ(h:Heap)(k1:Kd)(k2:Kd)(l1 l2:Addr):Heap:=(dj h k1 k2 l1 l2).push { cls:=.type "zip",data:=.fields #[.none,.bool false,.bool false,.ref (bj h k1 k2 l1 l2).objs.size,.ref (cj h k1 k2 l1 l2).objs.size] }
theorem AG(k1:Kd)(k2:Kd)(l1 l2:Addr)(xs1 xs2:Array Value) :
  Meets (Builtin.«zip.__new__» ⟨[.type "zip",.ref l1,.ref l2],[]⟩) (λ_ R s=>SqAt k1 s.heap l1 xs1/\SqAt k2 s.heap l2 xs2 /\
    R (.ok (.ret (.ref (dj s.heap k1 k2 l1 l2).objs.size))) { s with heap:=SZ s.heap k1 k2 l1 l2 }) :=
 .of_wp λprog w A R s h=>by
  obtain⟨hp,g,d,tk,os⟩:=s;obtain⟨hl1,hl2,h⟩:=h
  have hsub:=sub_zip
  have hL1:SqAt k1 (Shared.heap ⟨hp,g,d,tk,os⟩) l1 xs1:=hl1
  have hL2:SqAt k2 (Shared.heap ⟨(hp.push (MQ k1 l1)),g,d,tk,os⟩) l2 xs2:=(SqAt.at hl2 λo e=>g0 _ e)
  wp_walk using tZ hL1,tZ hL2
  exact ⟨_,rfl,h⟩
noncomputable abbrev LQ(h:Heap)(T:Addr)(a1 a2 a3:Value):Prop:=h.get? T=some { cls:=.type "tuple",data:=.seq #[a1,a2,a3] }
structure ZAp3(z TI TO i1 i2 i3 l1 l2 l3:Addr):Prop where
 TIz:TI≠z
 TOz:TO≠z
 i1z:i1≠z
 i2z:i2≠z
 i3z:i3≠z
 TOTI:TO≠TI
 i1TI:i1≠TI
 i2TI:i2≠TI
 i3TI:i3≠TI
 i1TO:i1≠TO
 i2TO:i2≠TO
 i3TO:i3≠TO
 i2i1:i2≠i1
 i3i1:i3≠i1
 i3i2:i3≠i2
 l1z:l1≠z
 l1TO:l1≠TO
 l1i1:l1≠i1
 l1i2:l1≠i2
 l1i3:l1≠i3
 l2z:l2≠z
 l2TO:l2≠TO
 l2i1:l2≠i1
 l2i2:l2≠i2
 l2i3:l2≠i3
 l3z:l3≠z
 l3TO:l3≠TO
 l3i1:l3≠i1
 l3i2:l3≠i2
 l3i3:l3≠i3
theorem wO(n l1 l2 l3:Nat)(h1:l1 < n)(h2:l2 < n)(h3:l3 < n):ZAp3 (n+5) (n+3) (n+4) n (n+1) (n+2) l1 l2 l3:=by constructor<;>(show ¬(@Eq Nat _ _))<;>omega
section
variable {prog:Program}{w:World}{A:Around}{E:Value->Shared->Prop}{s:Shared}
theorem TY{T:Addr}{a1 a2 a3 x:Value}{k:Nat}{Q:Unit->Shared->Prop}(hT:LQ s.heap T a1 a2 a3)
  (h:∀h',h'.get? T=some { cls:=.type "tuple",data:=.seq ((#[a1,a2,a3]:Array Value).setIfInBounds k x) }->q5 T s.heap h'->Q () { s with heap:=h' }) :
  wpAny (model prog w) A (updateSeq T (·.setIfInBounds k x)) Q E s:=by
 refine wpAny_updateSeq hT rfl (h _ ?_ (N4 ..))
 rw[Y2 _ hT rfl]
 simp[U2]
theorem kD{z TI TO i1 i2 i3 l1 l2 l3:Addr}{k:Nat}{k1:Kd}{k2:Kd}{k3:Kd}{xs1 xs2 xs3:Array Value}{a1 a2 a3:Value}{x1 x2 x3:Value}{Q:Value->Shared->Prop}(D:ZAp3 z TI TO i1 i2 i3 l1 l2 l3)
  (hz:IsZip s.heap z TI TO .none) (hTI:LQ s.heap TI (.ref i1) (.ref i2) (.ref i3)) (hTO:LQ s.heap TO a1 a2 a3)
  (h1:ItAt k1 s.heap i1 l1 k) (h2:ItAt k2 s.heap i2 l2 k) (h3:ItAt k3 s.heap i3 l3 k) (hl1:SqAt k1 s.heap l1 xs1) (hl2:SqAt k2 s.heap l2 xs2) (hl3:SqAt k3 s.heap l3 xs3) (hx1:xs1[k]?=some x1) (hx2:xs2[k]?=some x2) (hx3:xs3[k]?=some x3)
  (hQ:∀h',IsZip h' z TI TO (rawInt s.heap.objs.size)->LQ h' TO x1 x2 x3->ItAt k1 h' i1 l1 (k+1)->ItAt k2 h' i2 l2 (k+1)->ItAt k3 h' i3 l3 (k+1)->LQ h' s.heap.objs.size x1 x2 x3->h'.objs.size=s.heap.objs.size+1 ->
    (∀c o,c≠z->c≠TO->c≠i1->c≠i2->c≠i3->s.heap.get? c=some o->h'.get? c=some o)->Q (.ref s.heap.objs.size) { s with heap:=h' }) :
  wpAny (model prog w) A (Builtin.«zip.__next__» ⟨[.ref z],[]⟩) (λfin s'=>∃v,fin=.done (.ret v)/\Q v s') E s:=by
 show wpAny _ _ (field (.ref z) 2 >>= _) _ _ _
 refine wpAny_bind (wpAny_field hz rfl (x:=.bool false) rfl ?_)
 show wpAny _ _ (field (.ref z) 3 >>= _) _ _ _
 refine wpAny_bind (wpAny_field hz rfl (x:=.ref TI) rfl ?_)
 refine wpAny_bind (wpAny_seqItems hTI rfl ?_)
 show wpAny _ _ (Z0 (.ref z) >>= _) _ _ _
 refine wpAny_bind ?_
 unfold Z0
 refine wpAny_bind (wpAny_field hz rfl (x:=.none) rfl (wpAny_pure ?_))
 simp only[if_true]
 refine wpAny_bind (wpAny_rule ?_)
 refine wpAny_bind (wpAny_field hz rfl (x:=.ref TO) rfl ?_)
 refine wpAny_bind (wpAny_setField_rec hz (by simp) λh₁ hz₁ hs₁=>?_)
 replace hz₁:IsZip h₁ z TI TO .ellipsis:=hz₁
 refine wpAny_bind ?_
 simp only[g7,A7,M5,Y5]
 have up₁:∀c o,c≠z->s.heap.get? c=some o->h₁.get? c=some o:=λc o c1 e=>hs₁.extBut _ _ c1 e
 refine wpAny_bind (wpAny_bind (wpAny_onRaise ?_))
 show wpAny _ _ (U0 (.ref i1) >>= _) _ _ _
 refine wpAny_bind (KQ (h1.at λo e=>hs₁.extBut _ o D.i1z e) (hl1.at λo e=>hs₁.extBut _ o D.l1z e) hx1 λha1 hi1 hsa1=>wpAny_pure ?_)
 have hTOa1:LQ ha1 TO a1 a2 a3:=hsa1.extBut _ _ D.i1TO.symm (hs₁.extBut _ _ D.TOz hTO)
 refine wpAny_bind (wpAny_seqItems hTOa1 rfl ?_)
 refine wpAny_bind (TY hTOa1 λhb1 hTOb1 hsb1=>?_)
 replace hTOb1:LQ hb1 TO x1 a2 a3:=hTOb1
 refine wpAny_bind (wpAny_letGo (wpAny_pure ?_))
 refine wpAny_bind (wpAny_bind (wpAny_onRaise ?_))
 show wpAny _ _ (U0 (.ref i2) >>= _) _ _ _
 refine wpAny_bind (KQ (((h2.at λo e=>hs₁.extBut _ o D.i2z e).at λo e=>hsa1.extBut _ o D.i2i1 e).at λo e=>hsb1.extBut _ o D.i2TO e) (((hl2.at λo e=>hs₁.extBut _ o D.l2z e).at λo e=>hsa1.extBut _ o D.l2i1 e).at λo e=>hsb1.extBut _ o D.l2TO e) hx2 λha2 hi2 hsa2=>wpAny_pure ?_)
 have hTOa2:LQ ha2 TO x1 a2 a3:=hsa2.extBut _ _ D.i2TO.symm hTOb1
 refine wpAny_bind (wpAny_seqItems hTOa2 rfl ?_)
 refine wpAny_bind (TY hTOa2 λhb2 hTOb2 hsb2=>?_)
 replace hTOb2:LQ hb2 TO x1 x2 a3:=hTOb2
 refine wpAny_bind (wpAny_letGo (wpAny_pure ?_))
 refine wpAny_bind (wpAny_bind (wpAny_onRaise ?_))
 show wpAny _ _ (U0 (.ref i3) >>= _) _ _ _
 refine wpAny_bind (KQ (((((h3.at λo e=>hs₁.extBut _ o D.i3z e).at λo e=>hsa1.extBut _ o D.i3i1 e).at λo e=>hsb1.extBut _ o D.i3TO e).at λo e=>hsa2.extBut _ o D.i3i2 e).at λo e=>hsb2.extBut _ o D.i3TO e) (((((hl3.at λo e=>hs₁.extBut _ o D.l3z e).at λo e=>hsa1.extBut _ o D.l3i1 e).at λo e=>hsb1.extBut _ o D.l3TO e).at λo e=>hsa2.extBut _ o D.l3i2 e).at λo e=>hsb2.extBut _ o D.l3TO e) hx3 λha3 hi3 hsa3=>wpAny_pure ?_)
 have hTOa3:LQ ha3 TO x1 x2 a3:=hsa3.extBut _ _ D.i3TO.symm hTOb2
 refine wpAny_bind (wpAny_seqItems hTOa3 rfl ?_)
 refine wpAny_bind (TY hTOa3 λhb3 hTOb3 hsb3=>?_)
 replace hTOb3:LQ hb3 TO x1 x2 x3:=hTOb3
 refine wpAny_bind (wpAny_letGo (wpAny_pure (wpAny_pure ?_)))
 refine wpAny_bind (wpAny_seqItems hTOb3 rfl ?_)
 refine wpAny_bind (wpAny_newTuple ?_)
 have hsz:hb3.objs.size=s.heap.objs.size:=by rw[hsb3.1,hsa3.1,hsb2.1,hsa2.1,hsb1.1,hsa1.1,hs₁.1]
 have hzG:IsZip hb3 z TI TO .ellipsis:=(hsb3.extBut _ _ D.TOz.symm (hsa3.extBut _ _ D.i3z.symm (hsb2.extBut _ _ D.TOz.symm (hsa2.extBut _ _ D.i2z.symm (hsb1.extBut _ _ D.TOz.symm (hsa1.extBut _ _ D.i1z.symm hz₁))))))
 have hkG:∀c o,c≠z->c≠TO->c≠i1->c≠i2->c≠i3->s.heap.get? c=some o->hb3.get? c=some o:=λc o c1 c2 d1 d2 d3 e=>(hsb3.extBut _ _ c2 (hsa3.extBut _ _ d3 (hsb2.extBut _ _ c2 (hsa2.extBut _ _ d2 (hsb1.extBut _ _ c2 (hsa1.extBut _ _ d1 (hs₁.extBut _ _ c1 e)))))))
 have hiG1:ItAt k1 hb3 i1 l1 (k+1):=(((((hi1.at λo e=>hsb1.extBut _ o D.i1TO e).at λo e=>hsa2.extBut _ o D.i2i1.symm e).at λo e=>hsb2.extBut _ o D.i1TO e).at λo e=>hsa3.extBut _ o D.i3i1.symm e).at λo e=>hsb3.extBut _ o D.i1TO e)
 have hiG2:ItAt k2 hb3 i2 l2 (k+1):=(((hi2.at λo e=>hsb2.extBut _ o D.i2TO e).at λo e=>hsa3.extBut _ o D.i3i2.symm e).at λo e=>hsb3.extBut _ o D.i2TO e)
 have hiG3:ItAt k3 hb3 i3 l3 (k+1):=(hi3.at λo e=>hsb3.extBut _ o D.i3TO e)
 have hzlt:z < hb3.objs.size:=D0 hzG
 show wpAny _ _ (Z3 (.ref z) (.ref hb3.objs.size) >>= _) _ _ _
 refine wpAny_bind ?_
 unfold Z3
 have hz₆:IsZip (hb3.push { cls:=.type "tuple",data:=.seq #[x1,x2,x3] }) z TI TO .ellipsis:=g0 _ hzG
 refine wpAny_bind (wpAny_setField_rec hz₆ (by simp) λh₇ hz₇ hs₇=>?_)
 replace hz₇:IsZip h₇ z TI TO (rawInt hb3.objs.size):=hz₇
 refine wpAny_setField_rec hz₇ (by simp) λh₈ hz₈ hs₈=>?_
 replace hz₈:IsZip h₈ z TI TO (rawInt hb3.objs.size):=hz₈
 have up:∀c o,c≠z->hb3.get? c=some o->h₈.get? c=some o:=λc o c1 e=>hs₈.extBut _ _ c1 (hs₇.extBut _ _ c1 (g0 _ e))
 have hT₈:LQ h₈ hb3.objs.size x1 x2 x3:=hs₈.extBut _ _ (O1 hzlt) (hs₇.extBut _ _ (O1 hzlt) (J0 _ rfl))
 have hz8:h₈.objs.size=hb3.objs.size+1:=by rw[hs₈.1,hs₇.1,B2]
 rw[hsz]at hz₈ hT₈ hz8
 refine wpAny_pure ⟨_,rfl,?_⟩
 show Q (.ref hb3.objs.size) _
 rw[hsz]
 exact hQ h₈ hz₈ (up _ _ D.TOz hTOb3) (hiG1.at λo e=>up _ o D.i1z e) (hiG2.at λo e=>up _ o D.i2z e) (hiG3.at λo e=>up _ o D.i3z e) hT₈ hz8 λc o c1 c2 d1 d2 d3 e=>up c o c1 (hkG c o c1 c2 d1 d2 d3 e)
theorem fj{z TI TO i1 i2 i3 l1 l2 l3:Addr}{k:Nat}{k1:Kd}{k2:Kd}{k3:Kd}{xs1 xs2 xs3:Array Value}{a1 a2 a3:Value}{Q:Fin->Shared->Prop}(hh:A.handled=none)(D:ZAp3 z TI TO i1 i2 i3 l1 l2 l3)
  (hz:IsZip s.heap z TI TO .none) (hTI:LQ s.heap TI (.ref i1) (.ref i2) (.ref i3)) (hTO:LQ s.heap TO a1 a2 a3)
  (h1:ItAt k1 s.heap i1 l1 k) (h2:ItAt k2 s.heap i2 l2 k) (h3:ItAt k3 s.heap i3 l3 k) (hl1:SqAt k1 s.heap l1 xs1) (hl2:SqAt k2 s.heap l2 xs2) (hl3:SqAt k3 s.heap l3 xs3) (hend:xs1[k]?=none\/xs2[k]?=none\/xs3[k]?=none)
  (hE:∀h' e,(∀c o,c≠z->c≠TO->c≠i1->c≠i2->c≠i3->s.heap.get? c=some o->h'.get? c=some o)->(∃o,h'.get? e=some o/\o.cls=.type "StopIteration")->E (.ref e) { s with heap:=h' }) :
  wpAny (model prog w) A (Builtin.«zip.__next__» ⟨[.ref z],[]⟩) Q E s:=by
 show wpAny _ _ (field (.ref z) 2 >>= _) _ _ _
 refine wpAny_bind (wpAny_field hz rfl (x:=.bool false) rfl ?_)
 show wpAny _ _ (field (.ref z) 3 >>= _) _ _ _
 refine wpAny_bind (wpAny_field hz rfl (x:=.ref TI) rfl ?_)
 refine wpAny_bind (wpAny_seqItems hTI rfl ?_)
 show wpAny _ _ (Z0 (.ref z) >>= _) _ _ _
 refine wpAny_bind ?_
 unfold Z0
 refine wpAny_bind (wpAny_field hz rfl (x:=.none) rfl (wpAny_pure ?_))
 simp only[if_true]
 refine wpAny_bind (wpAny_rule ?_)
 refine wpAny_bind (wpAny_field hz rfl (x:=.ref TO) rfl ?_)
 refine wpAny_bind (wpAny_setField_rec hz (by simp) λh₁ hz₁ hs₁=>?_)
 replace hz₁:IsZip h₁ z TI TO .ellipsis:=hz₁
 refine wpAny_bind ?_
 simp only[g7,A7,M5,Y5]
 refine wpAny_bind (wpAny_bind (wpAny_onRaise ?_))
 show wpAny _ _ (U0 (.ref i1) >>= _) _ _ _
 cases hx1:xs1[k]? with
 | none =>
  refine wpAny_bind (iX hh (h1.at λo e=>hs₁.extBut _ o D.i1z e) (hl1.at λo e=>hs₁.extBut _ o D.l1z e) hx1 λhq e hsq he=>?_)
  obtain⟨oe,hoe,hce⟩:=he
  have hzq:IsZip hq z TI TO .ellipsis:=hsq _ _ D.i1z.symm hz₁
  have hez:e≠z:=λx=>by subst x;rw[hzq]at hoe;cases hoe;simp at hce
  refine wpAny_setField_rec hzq (by simp) λh₉ _ hs₉=>hE h₉ e (λc o c1 c2 d1 d2 d3 x=>hs₉.extBut _ _ c1 (hsq _ _ d1 (hs₁.extBut _ _ c1 x))) ⟨oe,hs₉.extBut _ _ hez hoe,hce⟩
 | some x1 =>
  refine wpAny_bind (KQ (h1.at λo e=>hs₁.extBut _ o D.i1z e) (hl1.at λo e=>hs₁.extBut _ o D.l1z e) hx1 λha1 hi1 hsa1=>wpAny_pure ?_)
  have hTOa1:LQ ha1 TO a1 a2 a3:=hsa1.extBut _ _ D.i1TO.symm (hs₁.extBut _ _ D.TOz hTO)
  refine wpAny_bind (wpAny_seqItems hTOa1 rfl ?_)
  refine wpAny_bind (TY hTOa1 λhb1 hTOb1 hsb1=>?_)
  replace hTOb1:LQ hb1 TO x1 a2 a3:=hTOb1
  refine wpAny_bind (wpAny_letGo (wpAny_pure ?_))
  refine wpAny_bind (wpAny_bind (wpAny_onRaise ?_))
  show wpAny _ _ (U0 (.ref i2) >>= _) _ _ _
  cases hx2:xs2[k]? with
  | none =>
   refine wpAny_bind (iX hh (((h2.at λo e=>hs₁.extBut _ o D.i2z e).at λo e=>hsa1.extBut _ o D.i2i1 e).at λo e=>hsb1.extBut _ o D.i2TO e) (((hl2.at λo e=>hs₁.extBut _ o D.l2z e).at λo e=>hsa1.extBut _ o D.l2i1 e).at λo e=>hsb1.extBut _ o D.l2TO e) hx2 λhq e hsq he=>?_)
   obtain⟨oe,hoe,hce⟩:=he
   have hzq:IsZip hq z TI TO .ellipsis:=hsq _ _ D.i2z.symm (hsb1.extBut _ _ D.TOz.symm (hsa1.extBut _ _ D.i1z.symm hz₁))
   have hez:e≠z:=λx=>by subst x;rw[hzq]at hoe;cases hoe;simp at hce
   refine wpAny_setField_rec hzq (by simp) λh₉ _ hs₉=>hE h₉ e (λc o c1 c2 d1 d2 d3 x=>hs₉.extBut _ _ c1 (hsq _ _ d2 (hsb1.extBut _ _ c2 (hsa1.extBut _ _ d1 (hs₁.extBut _ _ c1 x))))) ⟨oe,hs₉.extBut _ _ hez hoe,hce⟩
  | some x2 =>
   refine wpAny_bind (KQ (((h2.at λo e=>hs₁.extBut _ o D.i2z e).at λo e=>hsa1.extBut _ o D.i2i1 e).at λo e=>hsb1.extBut _ o D.i2TO e) (((hl2.at λo e=>hs₁.extBut _ o D.l2z e).at λo e=>hsa1.extBut _ o D.l2i1 e).at λo e=>hsb1.extBut _ o D.l2TO e) hx2 λha2 hi2 hsa2=>wpAny_pure ?_)
   have hTOa2:LQ ha2 TO x1 a2 a3:=hsa2.extBut _ _ D.i2TO.symm hTOb1
   refine wpAny_bind (wpAny_seqItems hTOa2 rfl ?_)
   refine wpAny_bind (TY hTOa2 λhb2 hTOb2 hsb2=>?_)
   replace hTOb2:LQ hb2 TO x1 x2 a3:=hTOb2
   refine wpAny_bind (wpAny_letGo (wpAny_pure ?_))
   refine wpAny_bind (wpAny_bind (wpAny_onRaise ?_))
   show wpAny _ _ (U0 (.ref i3) >>= _) _ _ _
   have hx3:xs3[k]?=none:=by
    rcases hend with h|h|h
    ·rw[hx1]at h;cases h
    ·rw[hx2]at h;cases h
    ·exact h
   refine wpAny_bind (iX hh (((((h3.at λo e=>hs₁.extBut _ o D.i3z e).at λo e=>hsa1.extBut _ o D.i3i1 e).at λo e=>hsb1.extBut _ o D.i3TO e).at λo e=>hsa2.extBut _ o D.i3i2 e).at λo e=>hsb2.extBut _ o D.i3TO e) (((((hl3.at λo e=>hs₁.extBut _ o D.l3z e).at λo e=>hsa1.extBut _ o D.l3i1 e).at λo e=>hsb1.extBut _ o D.l3TO e).at λo e=>hsa2.extBut _ o D.l3i2 e).at λo e=>hsb2.extBut _ o D.l3TO e) hx3 λhq e hsq he=>?_)
   obtain⟨oe,hoe,hce⟩:=he
   have hzq:IsZip hq z TI TO .ellipsis:=hsq _ _ D.i3z.symm (hsb2.extBut _ _ D.TOz.symm (hsa2.extBut _ _ D.i2z.symm (hsb1.extBut _ _ D.TOz.symm (hsa1.extBut _ _ D.i1z.symm hz₁))))
   have hez:e≠z:=λx=>by subst x;rw[hzq]at hoe;cases hoe;simp at hce
   refine wpAny_setField_rec hzq (by simp) λh₉ _ hs₉=>hE h₉ e (λc o c1 c2 d1 d2 d3 x=>hs₉.extBut _ _ c1 (hsq _ _ d3 (hsb2.extBut _ _ c2 (hsa2.extBut _ _ d2 (hsb1.extBut _ _ c2 (hsa1.extBut _ _ d1 (hs₁.extBut _ _ c1 x))))))) ⟨oe,hs₉.extBut _ _ hez hoe,hce⟩
theorem UY{z TI TO i1 i2 i3 l1 l2 l3:Addr}{k:Nat}{k1:Kd}{k2:Kd}{k3:Kd}{xs1 xs2 xs3:Array Value}{a1 a2 a3:Value}{x1 x2 x3:Value}{Q:Option Value->Shared->Prop}(D:ZAp3 z TI TO i1 i2 i3 l1 l2 l3)
  (hz:IsZip s.heap z TI TO .none) (hTI:LQ s.heap TI (.ref i1) (.ref i2) (.ref i3)) (hTO:LQ s.heap TO a1 a2 a3)
  (h1:ItAt k1 s.heap i1 l1 k) (h2:ItAt k2 s.heap i2 l2 k) (h3:ItAt k3 s.heap i3 l3 k) (hl1:SqAt k1 s.heap l1 xs1) (hl2:SqAt k2 s.heap l2 xs2) (hl3:SqAt k3 s.heap l3 xs3) (hx1:xs1[k]?=some x1) (hx2:xs2[k]?=some x2) (hx3:xs3[k]?=some x3)
  (hQ:∀h',IsZip h' z TI TO (rawInt s.heap.objs.size)->LQ h' TO x1 x2 x3->ItAt k1 h' i1 l1 (k+1)->ItAt k2 h' i2 l2 (k+1)->ItAt k3 h' i3 l3 (k+1)->LQ h' s.heap.objs.size x1 x2 x3->h'.objs.size=s.heap.objs.size+1 ->
    (∀c o,c≠z->c≠TO->c≠i1->c≠i2->c≠i3->s.heap.get? c=some o->h'.get? c=some o)->Q (some (.ref s.heap.objs.size)) { s with heap:=h' }) :
  wpAny (model prog w) A (pyNext (.ref z)) Q E s:=by
 have hT:s.TypeIs (.ref z) "zip":=⟨_,hz,rfl⟩
 unfold pyNext
 exact wpAny_bind (wpAny_attempt (wpAny_callSpecial?_slot (name:=Str.ofString "__next__") hT F.slot_zip_next
   (wpAny_call_entry F.slot_zip_next hT F.entry_zip_next
     (kD D hz hTI hTO h1 h2 h3 hl1 hl2 hl3 hx1 hx2 hx3 λh' a1 a2 b1 b2 b3 a5 a6 a7=>wpAny_pure (hQ h' a1 a2 b1 b2 b3 a5 a6 a7)) (F.args_zip_next_1 _))))
theorem QW{z TI TO i1 i2 i3 l1 l2 l3:Addr}{k:Nat}{k1:Kd}{k2:Kd}{k3:Kd}{xs1 xs2 xs3:Array Value}{a1 a2 a3:Value}{Q:Option Value->Shared->Prop}(hh:A.handled=none)(D:ZAp3 z TI TO i1 i2 i3 l1 l2 l3)
  (hz:IsZip s.heap z TI TO .none) (hTI:LQ s.heap TI (.ref i1) (.ref i2) (.ref i3)) (hTO:LQ s.heap TO a1 a2 a3)
  (h1:ItAt k1 s.heap i1 l1 k) (h2:ItAt k2 s.heap i2 l2 k) (h3:ItAt k3 s.heap i3 l3 k) (hl1:SqAt k1 s.heap l1 xs1) (hl2:SqAt k2 s.heap l2 xs2) (hl3:SqAt k3 s.heap l3 xs3) (hend:xs1[k]?=none\/xs2[k]?=none\/xs3[k]?=none)
  (hQ:∀h',(∀c o,c≠z->c≠TO->c≠i1->c≠i2->c≠i3->s.heap.get? c=some o->h'.get? c=some o)->Q none { s with heap:=h' }):wpAny (model prog w) A (pyNext (.ref z)) Q E s:=by
 have hT:s.TypeIs (.ref z) "zip":=⟨_,hz,rfl⟩
 unfold pyNext
 refine wpAny_bind (wpAny_attempt (wpAny_callSpecial?_slot (name:=Str.ofString "__next__") hT F.slot_zip_next
   (wpAny_call_entry F.slot_zip_next hT F.entry_zip_next (fj hh D hz hTI hTO h1 h2 h3 hl1 hl2 hl3 hend λh' e hk he=>?_) (F.args_zip_next_1 _))))
 obtain⟨o,ho,hc⟩:=he
 refine wpAny_bind (wpAny_isInstance (T:="StopIteration") (b:=true) ⟨o,ho,hc⟩ isSubtype_stop ?_)
 exact wpAny_pure (hQ _ hk)
end
noncomputable abbrev Iy(h:Heap)(k1:Kd)(k2:Kd)(k3:Kd)(l1 l2 l3:Addr):Heap:=(((h.push (MQ k1 l1)).push (MQ k2 l2)).push (MQ k3 l3))
noncomputable abbrev Jy(h:Heap)(k1:Kd)(k2:Kd)(k3:Kd)(l1 l2 l3:Addr):Heap:=(Iy h k1 k2 k3 l1 l2 l3).push { cls:=.type "tuple",data:=.seq #[.ref h.objs.size,.ref (h.push (MQ k1 l1)).objs.size,.ref ((h.push (MQ k1 l1)).push (MQ k2 l2)).objs.size] }
noncomputable abbrev Ky(h:Heap)(k1:Kd)(k2:Kd)(k3:Kd)(l1 l2 l3:Addr):Heap:=(Jy h k1 k2 k3 l1 l2 l3).push { cls:=.type "tuple",data:=.seq #[.none,.none,.none] }
noncomputable abbrev dU(h:Heap)(k1:Kd)(k2:Kd)(k3:Kd)(l1 l2 l3:Addr):Heap:=(Ky h k1 k2 k3 l1 l2 l3).push { cls:=.type "zip",data:=.fields #[.none,.bool false,.bool false,.ref (Iy h k1 k2 k3 l1 l2 l3).objs.size,.ref (Jy h k1 k2 k3 l1 l2 l3).objs.size] }
theorem Rx(k1:Kd)(k2:Kd)(k3:Kd)(l1 l2 l3:Addr)(xs1 xs2 xs3:Array Value) :
  Meets (Builtin.«zip.__new__» ⟨[.type "zip",.ref l1,.ref l2,.ref l3],[]⟩) (λ_ R s=>SqAt k1 s.heap l1 xs1/\SqAt k2 s.heap l2 xs2/\SqAt k3 s.heap l3 xs3 /\
    R (.ok (.ret (.ref (Ky s.heap k1 k2 k3 l1 l2 l3).objs.size))) { s with heap:=dU s.heap k1 k2 k3 l1 l2 l3 }) :=
 .of_wp λprog w A R s h=>by
  obtain⟨hp,g,d,tk,os⟩:=s;obtain⟨hl1,hl2,hl3,h⟩:=h
  have hsub:=sub_zip
  have hL1:SqAt k1 (Shared.heap ⟨hp,g,d,tk,os⟩) l1 xs1:=hl1
  have hL2:SqAt k2 (Shared.heap ⟨(hp.push (MQ k1 l1)),g,d,tk,os⟩) l2 xs2:=(SqAt.at hl2 λo e=>g0 _ e)
  have hL3:SqAt k3 (Shared.heap ⟨((hp.push (MQ k1 l1)).push (MQ k2 l2)),g,d,tk,os⟩) l3 xs3:=(SqAt.at (SqAt.at hl3 λo e=>g0 _ e) λo e=>g0 _ e)
  wp_walk using tZ hL1,tZ hL2,tZ hL3
  exact ⟨_,rfl,h⟩
inductive Ki where|non|bl|int|str|lst|tup|dct
 deriving DecidableEq
noncomputable def Ki.nm:Ki->String
 | .non=>"NoneType" | .bl=>"bool" | .int=>"int" | .str=>"str" | .lst=>"list" | .tup=>"tuple" | .dct=>"dict"
noncomputable def KiOf(K:A0)(H:Hp):V->Ki->Prop
 | .non,k=>k=.non
 | .bl _,k=>k=.bl
 | .int _,k=>k=.int
 | .str _,k=>k=.str
 | .ref a,k=>(k=.lst/\∃xs,SqL K H a xs)\/(k=.tup/\∃xs,SqT K H a xs)\/(k=.dct/\((∃kvs,H a=some (.dK kvs))\/∃kvs,H a=some (.dT kvs)))
 | _,_=>False
noncomputable def Ki.sub:Ki->Ki->Bool
 | .bl,.int=>true
 | a,b=>decide (a=b)
theorem KiOf.typeIs{X:Cx}{pins:List (Addr×Obj)}{σ:St}{H:Hp}{s:Shared}{x:V}{u:Value}{k:Ki}(I:Inv X pins σ H s)(h:KiOf X.K H x k)(r:RelV x u):s.TypeIs u k.nm:=by
 cases x with
 | non=>cases h;cases r;rfl
 | bl b=>cases h;cases r;rfl
 | int i=>cases h;obtain⟨t,rfl⟩:=r;rfl
 | str i=>cases h;obtain⟨t,rfl⟩:=r;rfl
 | ref a =>
  cases r
  rcases h with⟨rfl,xs,hq⟩|⟨rfl,xs,hq⟩|⟨rfl,⟨kvs,hq⟩|⟨kvs,hq⟩⟩
  ·obtain⟨its,_,⟨o,n,e,c,_⟩,_⟩:=I.list hq
   exact ⟨o,e,c⟩
  ·obtain⟨its,_,⟨o,e,c,_⟩,_⟩:=I.tuple hq
   exact ⟨o,e,c⟩
  ·obtain⟨_,_,_,_,o,es,ep,e,c,_⟩:=I.hok a _ hq
   exact ⟨o,e,c.1⟩
  ·obtain⟨_,_,_,_,o,es,ep,e,c,_⟩:=I.hok a _ hq
   exact ⟨o,e,c.1⟩
 | byt _=>cases h
 | flt _=>cases h
 | ty _=>cases h
theorem uZ(T:Ki):typeOf (.type T.nm)=pure (.type "type"):=by
 cases T
 ·exact F.isi_meta_NoneType
 ·exact F.isi_meta_bool
 ·exact F.isi_meta_int
 ·exact F.isi_meta_str
 ·exact F.isi_meta_list
 ·exact F.isi_meta_tuple
 ·exact F.isi_meta_dict
theorem Ux(k T:Ki):isSubtype (.type k.nm) (.type T.nm)=pure (k.sub T):=by
 cases k<;>cases T<;>(show isSubtype (.type _) (.type _)=pure _;rw[isSubtype_type];kernel_rfl)
theorem YL(k T:Ki)(h:k.sub T=false):(w6 k.nm==w6 T.nm)=false:=by
 cases k<;>cases T<;>first|(exfalso;revert h;decide)|decide +kernel
noncomputable def gj(K:A0):List V->Hp->VK->Prop:=λxs H Q=>∃(x:V) (k:Ki) (T:Ki),xs=[x,.ty T.nm]/\KiOf K H x k/\Q (.bl (k.sub T)) H
theorem Vx{X:Cx}:oX X (.builtin "isinstance") (gj X.K):=by
 intro pins s σ H xs us Q I r h
 obtain⟨x,k,T,rfl,hk,q⟩:=h
 obtain⟨u,w',rfl,ru,rw'⟩:=GY r
 obtain rfl:w'=.type T.nm:=rw'
 have ht:=hk.typeIs I ru
 cases hs:k.sub T with
 | true =>
  rw[hs]at q
  exact call_isinstance (isinstance_true (Tx:=k.nm) (uZ T) (by rw[Ux,hs])) ⟨ht,.bl true,H,I,rfl,q⟩
 | false =>
  rw[hs]at q
  have hsub:isSubtype (.type k.nm) (.type T.nm)=pure false:=by rw[Ux,hs]
  have hne:=YL k T hs
  have fin:EP X pins σ Q (.bool false) { s with toks:=s.toks+1 }:=⟨.bl false,H,I.tok _,rfl,q⟩
  cases x with
  | non=>cases hk;cases ru;exact call_isinstance (isinstance_false_none hne (uZ T) hsub) fin
  | bl b=>cases hk;cases ru;exact call_isinstance (isinstance_false_bool hne (uZ T) hsub) fin
  | int i=>cases hk;obtain⟨t,rfl⟩:=ru;exact call_isinstance (isinstance_false_int hne (uZ T) hsub) fin
  | str i=>cases hk;obtain⟨t,rfl⟩:=ru;exact call_isinstance (isinstance_false_str hne (uZ T) hsub) fin
  | ref a =>
   cases ru
   rcases hk with⟨rfl,_⟩|⟨rfl,_⟩|⟨rfl,_⟩
   ·exact call_isinstance (isinstance_false_list hne (uZ T) hsub) ⟨ht,fin⟩
   ·exact call_isinstance (isinstance_false_tuple hne (uZ T) hsub) ⟨ht,fin⟩
   ·exact call_isinstance (isinstance_false_dict hne (uZ T) hsub) ⟨ht,fin⟩
  | byt _=>cases hk
  | flt _=>cases hk
  | ty _=>cases hk
noncomputable def dE(K:A0):List V->Hp->VK->Prop:=λxs H Q=>∃(a:Addr) (bs:List Bool),xs=[.ref a]/\SqL K H a (bs.map V.bl)/\Q (.bl (bs.all id)) H
theorem BG{bs:List Bool}{us:List Value}(r:Vals (bs.map V.bl) us)(i:Nat)(v:Value)(h:us[i]?=some v):∃b,bs[i]?=some b/\v=.bool b:=by
 cases e:bs[i]? with
 | none =>
  have h1:(bs.map V.bl)[i]?=none:=by rw[D1,e];rfl
  rw[r.none_of h1]at h
  cases h
 | some b =>
  obtain⟨u,hu,ru⟩:=r.get (i:=i) (x:=.bl b) (by rw[D1,e];rfl)
  rw[hu]at h
  cases h
  exact ⟨b,rfl,ru⟩
theorem eU(bs:List Bool):((O0 bs.length).all λi=>(bs[i]?).getD true)=bs.all id:=by
 rw[D6,i7,i7]
 constructor
 ·intro h b hb
  obtain⟨i,hi,e⟩:=U8.mp hb
  have:=h i (D3.mpr hi)
  rw[L0 hi,T3,e]at this
  exact this
 ·intro h i hi
  have hi:=D3.mp hi
  rw[L0 hi,T3]
  exact h _ (A5 hi)
theorem Wx{X:Cx}(hc:X.calm=true):oX X (.builtin "all") (dE X.K):=by
 intro pins s σ H xs us Q I r h
 obtain⟨a,bs,rfl,hq,q⟩:=h
 obtain⟨u,rfl,ru⟩:=PZ r
 cases ru
 obtain⟨its,rv,p,hz⟩:=I.list hq
 have hl:=p.isList
 have hlt:a < s.heap.objs.size:=by obtain⟨_,e,_⟩:=hl;exact D0 e
 refine call_all_walk (wpAny_pyIter_list hl ?_)
 refine ⟨s.heap.objs.size,[s.heap.objs.size,a],[s.heap.objs.size],its.toArray.size,_,_,λi=>(bs[i]?).getD true,rfl,Walks.list (A:=X.A.in1) (I.ok.hd hc) _ a (W0 hlt) its.toArray,
   ⟨⟨_,J0 _ rfl,rfl,rfl⟩,hl.push _⟩,λi v s' Q' E' hP hQ=>?_,λh' tk hk=>?_⟩
 ·obtain⟨b,e,rfl⟩:=BG rv i v (by simpa using hP)
  simp only[e,T3]at hQ
  exact wpAny_truthy_bool hQ
 ·have e:((O0 its.toArray.size).all λi=>(bs[i]?).getD true)=bs.all id:=by
   have hl2:=rv.length
   rw[n0]at hl2
   rw[Q0,<- hl2];exact eU bs
  rw[e]
  refine ⟨.bl (bs.all id),H,I.kept (h':=h') (t':=tk) λb o eo=>hk b o (λhm=>?_) (g0 _ eo),rfl,q⟩
  rw[P2.mp hm]at eo
  exact B3 _ (D0 eo)
noncomputable def Sq(k:Kd)(K:A0)(H:Hp)(a:Addr)(xs:List V):Prop:=match k with | .l=>SqL K H a xs | .t=>SqT K H a xs
theorem Inv.sq{X:Cx}{pins:List (Addr×Obj)}{σ:St}{H:Hp}{s:Shared}{k:Kd}{a:Addr}{xs:List V}(I:Inv X pins σ H s)(h:Sq k X.K H a xs):∃its:List Value,Vals xs its/\SqAt k s.heap a its.toArray/\xs.length<=sizeLine:=by
 cases k with
 | l=>obtain⟨its,r,p,z⟩:=I.list h;exact ⟨its,r,p.isList,z⟩
 | t=>obtain⟨its,r,p,z⟩:=I.tuple h;exact ⟨its,r,p,z⟩
theorem Inv.sq_inj{X:Cx}{pins:List (Addr×Obj)}{σ:St}{H:Hp}{s:Shared}{k:Kd}{a:Addr}{xs ys:List V}(I:Inv X pins σ H s)(h:Sq k X.K H a xs)(h':Sq k X.K H a ys):xs=ys:=by
 cases k with
 | l=>exact I.list_inj h h'
 | t=>exact I.tuple_inj h h'
noncomputable def eE(K:A0)(k1:Kd)(k2:Kd)(l1 l2:Addr):It :=
 ⟨λi H=>∃ys1 x1 ys2 x2,Sq k1 K H l1 ys1/\Sq k2 K H l2 ys2/\ys1[i]?=some x1/\ys2[i]?=some x2,
  λi H x H'=>∃T x1 x2,H T=none/\x=.ref T/\H'=OQ H T (.tup [x1,x2])/\(∀ys,Sq k1 K H l1 ys->ys[i]?=some x1)/\(∀ys,Sq k2 K H l2 ys->ys[i]?=some x2),
  λi H=>∃ys1 ys2,Sq k1 K H l1 ys1/\Sq k2 K H l2 ys2/\(ys1.length<=i\/ys2.length<=i)⟩
theorem ij{P:Program}{w:World}{K:A0}{es:List Expr}{kk:Nat}{pos:Pos}(k1:Kd)(k2:Kd)(z TI TO i1 i2 l1 l2:Addr)(D:ZAp2 z TI TO i1 i2 l1 l2):Turn P w K (.Tuple es kk pos) (eE K k1 k2 l1 l2) [z,TI,TO,i1,i2] z
  (λi h=>IsZip h z TI TO .none/\yQ h TI (.ref i1) (.ref i2)/\(∃a1 a2,yQ h TO a1 a2)/\ItAt k1 h i1 l1 i/\ItAt k2 h i2 l2 i) where
 mem:=by simp
 obj:=λi h st b hb=>by
  obtain⟨hz,hTI,⟨a1,a2,hTO⟩,t1,t2⟩:=st
  have hb:b=z\/b=TI\/b=TO\/b=i1\/b=i2:=by simpa using hb
  rcases hb with rfl|rfl|rfl|rfl|rfl
  ·exact ⟨_,hz,λv e=>by cases e⟩
  ·exact ⟨_,hTI,λv e=>by cases e⟩
  ·exact ⟨_,hTO,λv e=>by cases e⟩
  ·exact t1.obj
  ·exact t2.obj
 keep:=λi h h' st k=>by
  obtain⟨hz,hTI,⟨a1,a2,hTO⟩,t1,t2⟩:=st
  exact ⟨k _ (by simp) _ hz,k _ (by simp) _ hTI,⟨a1,a2,k _ (by simp) _ hTO⟩,t1.at λo e=>k _ (by simp) _ e,t2.at λo e=>k _ (by simp) _ e⟩
 item:=by
  intro X hP hw hK hc i pins s σ H E I hf st hg
  subst hP hw hK
  obtain⟨hz,hTI,⟨a1,a2,hTO⟩,t1,t2⟩:=st
  obtain⟨ys1,x1,ys2,x2,q1,q2,e1,e2⟩:=hg
  obtain⟨its1,rv1,p1,z1⟩:=I.sq q1
  obtain⟨u1,hu1,ru1⟩:=rv1.get e1
  obtain⟨its2,rv2,p2,z2⟩:=I.sq q2
  obtain⟨u2,hu2,ru2⟩:=rv2.get e2
  refine bJ D hz hTI hTO t1 t2 p1 p2 (show its1.toArray[i]?=some u1 by simpa using hu1) (show its2.toArray[i]?=some u2 by simpa using hu2) λh' b1 b2 c1 c2 b5 b6 b7=>?_
  have hTn:s.heap.objs.size≠z:=O1 (D0 hz)
  refine ⟨_,rfl,wpAny_letOwnedTupleGo_zip (s:={ s with heap:=h' }) b1 λh2 hz2 hs2=>?_⟩
  have kp:∀b o,b∉[z,TI,TO,i1,i2]->s.heap.get? b=some o->h2.get? b=some o:=λb o hb e=>by
   have hb:b≠z/\b≠TI/\b≠TO/\b≠i1/\b≠i2:=by simpa using hb
   obtain⟨g1,g2,g3,f1,f2⟩:=hb
   exact hs2.extBut _ _ g1 (b7 b o g1 g3 f1 f2 e)
  have hTI2:yQ h2 TI (.ref i1) (.ref i2):=hs2.extBut _ _ D.TIz (b7 TI _ D.TIz (S1 D.TOTI) (S1 D.i1TI) (S1 D.i2TI) hTI)
  have hT2:yQ h2 s.heap.objs.size u1 u2:=hs2.extBut _ _ hTn b5
  have hfr:H s.heap.objs.size=none:=I.hok.fresh (G0 _)
  have I2:Inv X pins σ (OQ H s.heap.objs.size (.tup [x1,x2])) { s with heap:=h2 }:=by
   have nfp:∀b u,H b=some u->b∉[z,TI,TO,i1,i2]:=λb u e hb=>by have:=(hf b hb).1;rw[e]at this;cases this
   refine I.step (g':=s.gens) (d':=s.drawn) (ch:=[z,TI,TO,i1,i2]) (λb hb=>?_) (λb o _ _ hc' e _=>kp b o hc' e) (λb o _ _ hc' e _=>⟨o.slots,kp b o hc' e⟩) (λb o _ e n=>?_)
    (λb o hc' e=>⟨o,kp b o hc' e⟩) (λb xs e=>?_) (λb o xs e=>?_) (λb ps e=>⟨#[],?_⟩) (λm hm=>?_) (λb o e=>?_) I.bare
   ·obtain⟨f0,f1,f2,f3,f4,f5⟩:=hf b hb
    exact ⟨f3,f1,f4,f5⟩
   ·rw[dQ (W0 (D0 e))];exact n
   ·rw[dQ (gQ e hfr)];exact e
   ·rw[dQ (gQ e hfr)];exact e
   ·rw[dQ (gQ e hfr),e];simp
   ·obtain⟨o,es',ep,ho,r⟩:=hm
    exact ⟨o,es',ep,kp _ o (λhb=>(hf _ hb).2.1 rfl) ho,r⟩
   ·by_cases hb:b=s.heap.objs.size
    ·subst hb
     rw[jQ]at e
     cases e
     exact ⟨by show 2<=sizeLine;decide,[u1,u2],.cons ru1 (.cons ru2 .nil),_,hT2,rfl,_,rfl,rfl⟩
    ·rw[dQ hb]at e
     refine (I.hok b o e).stay (λc v hc' q=>kp c v ?_ q) (λc q=>by rw[dQ (gQ q hfr)];exact q) λc xs q=>by rw[dQ (gQ q hfr)];exact q
     rcases hc' with rfl|hc'
     ·exact nfp _ _ e
     ·exact nfp _ _ hc'
  refine ⟨.ref s.heap.objs.size,_,I2,rfl,⟨_,x1,x2,hfr,rfl,rfl,(λys hy=>by rw[I.sq_inj hy q1];exact e1),(λys hy=>by rw[I.sq_inj hy q2];exact e2)⟩,⟨hz2,hTI2,⟨u1,u2,hs2.extBut _ _ D.TOz b2⟩,c1.at λo e=>hs2.extBut _ _ D.i1z e,c2.at λo e=>hs2.extBut _ _ D.i2z e⟩,λb hb=>?_⟩
  rw[dQ ?_]
  ·exact (hf b hb).1
  ·intro e
   subst e
   have hb:s.heap.objs.size=z\/s.heap.objs.size=TI\/s.heap.objs.size=TO\/s.heap.objs.size=i1\/s.heap.objs.size=i2:=by simpa using hb
   rcases hb with e|e|e|e|e
   ·exact hTn e
   ·exact O1 (D0 hTI) e
   ·exact O1 (D0 hTO) e
   ·obtain⟨o,eo,_⟩:=t1.obj
    exact O1 (D0 eo) e
   ·obtain⟨o,eo,_⟩:=t2.obj
    exact O1 (D0 eo) e
 done:=by
  intro X hP hw hK hc i pins s σ H E I hf st hg
  subst hP hw hK
  obtain⟨hz,hTI,⟨a1,a2,hTO⟩,t1,t2⟩:=st
  obtain⟨ys1,ys2,q1,q2,hend⟩:=hg
  obtain⟨its1,rv1,p1,z1⟩:=I.sq q1
  have len1:=rv1.length
  obtain⟨its2,rv2,p2,z2⟩:=I.sq q2
  have len2:=rv2.length
  refine BJ (I.ok.hd hc) D hz hTI hTO t1 t2 p1 p2 ?_ λh' kp=>⟨rfl,?_⟩
  ·rcases hend with h|h
   ·exact .inl (by simp;omega)
   ·exact .inr (by simp;omega)
  ·have nfp:∀b u,H b=some u->b∉[z,TI,TO,i1,i2]:=λb u e hb=>by have:=(hf b hb).1;rw[e]at this;cases this
   have kp':∀b o,b∉[z,TI,TO,i1,i2]->s.heap.get? b=some o->h'.get? b=some o:=λb o hb e=>by
    have hb:b≠z/\b≠TI/\b≠TO/\b≠i1/\b≠i2:=by simpa using hb
    obtain⟨g1,g2,g3,f1,f2⟩:=hb
    exact kp b o g1 g3 f1 f2 e
   refine I.step (g':=s.gens) (d':=s.drawn) (ch:=[z,TI,TO,i1,i2]) (λb hb=>?_) (λb o _ _ hc' e _=>kp' b o hc' e) (λb o _ _ hc' e _=>⟨o.slots,kp' b o hc' e⟩) (λb o _ e n=>n)
    (λb o hc' e=>⟨o,kp' b o hc' e⟩) (λb xs e=>e) (λb o xs e=>e) (λb ps e=>⟨#[],by rw[e];simp⟩) (λm hm=>?_) (λb o e=>?_) I.bare
   ·obtain⟨f0,f1,f2,f3,f4,f5⟩:=hf b hb
    exact ⟨f3,f1,f4,f5⟩
   ·obtain⟨o,es',ep,ho,r⟩:=hm
    exact ⟨o,es',ep,kp' _ o (λhb=>(hf _ hb).2.1 rfl) ho,r⟩
   ·refine (I.hok b o e).stay (λc v hc' q=>kp' c v ?_ q) (λ_ q=>q) λ_ _ q=>q
    rcases hc' with rfl|hc'
    ·exact nfp _ _ e
    ·exact nfp _ _ hc'
 self:=λ_ _ _ _ _ st h=>wpAny_pyIter_zip st.1 h
noncomputable def fE(K:A0)(k1:Kd)(k2:Kd)(k3:Kd)(l1 l2 l3:Addr):It :=
 ⟨λi H=>∃ys1 x1 ys2 x2 ys3 x3,Sq k1 K H l1 ys1/\Sq k2 K H l2 ys2/\Sq k3 K H l3 ys3/\ys1[i]?=some x1/\ys2[i]?=some x2/\ys3[i]?=some x3,
  λi H x H'=>∃T x1 x2 x3,H T=none/\x=.ref T/\H'=OQ H T (.tup [x1,x2,x3])/\(∀ys,Sq k1 K H l1 ys->ys[i]?=some x1)/\(∀ys,Sq k2 K H l2 ys->ys[i]?=some x2)/\(∀ys,Sq k3 K H l3 ys->ys[i]?=some x3),
  λi H=>∃ys1 ys2 ys3,Sq k1 K H l1 ys1/\Sq k2 K H l2 ys2/\Sq k3 K H l3 ys3/\(ys1.length<=i\/ys2.length<=i\/ys3.length<=i)⟩
theorem kj{P:Program}{w:World}{K:A0}{es:List Expr}{kk:Nat}{pos:Pos}(k1:Kd)(k2:Kd)(k3:Kd)(z TI TO i1 i2 i3 l1 l2 l3:Addr)(D:ZAp3 z TI TO i1 i2 i3 l1 l2 l3):Turn P w K (.Tuple es kk pos) (fE K k1 k2 k3 l1 l2 l3) [z,TI,TO,i1,i2,i3] z
  (λi h=>IsZip h z TI TO .none/\LQ h TI (.ref i1) (.ref i2) (.ref i3)/\(∃a1 a2 a3,LQ h TO a1 a2 a3)/\ItAt k1 h i1 l1 i/\ItAt k2 h i2 l2 i/\ItAt k3 h i3 l3 i) where
 mem:=by simp
 obj:=λi h st b hb=>by
  obtain⟨hz,hTI,⟨a1,a2,a3,hTO⟩,t1,t2,t3⟩:=st
  have hb:b=z\/b=TI\/b=TO\/b=i1\/b=i2\/b=i3:=by simpa using hb
  rcases hb with rfl|rfl|rfl|rfl|rfl|rfl
  ·exact ⟨_,hz,λv e=>by cases e⟩
  ·exact ⟨_,hTI,λv e=>by cases e⟩
  ·exact ⟨_,hTO,λv e=>by cases e⟩
  ·exact t1.obj
  ·exact t2.obj
  ·exact t3.obj
 keep:=λi h h' st k=>by
  obtain⟨hz,hTI,⟨a1,a2,a3,hTO⟩,t1,t2,t3⟩:=st
  exact ⟨k _ (by simp) _ hz,k _ (by simp) _ hTI,⟨a1,a2,a3,k _ (by simp) _ hTO⟩,t1.at λo e=>k _ (by simp) _ e,t2.at λo e=>k _ (by simp) _ e,t3.at λo e=>k _ (by simp) _ e⟩
 item:=by
  intro X hP hw hK hc i pins s σ H E I hf st hg
  subst hP hw hK
  obtain⟨hz,hTI,⟨a1,a2,a3,hTO⟩,t1,t2,t3⟩:=st
  obtain⟨ys1,x1,ys2,x2,ys3,x3,q1,q2,q3,e1,e2,e3⟩:=hg
  obtain⟨its1,rv1,p1,z1⟩:=I.sq q1
  obtain⟨u1,hu1,ru1⟩:=rv1.get e1
  obtain⟨its2,rv2,p2,z2⟩:=I.sq q2
  obtain⟨u2,hu2,ru2⟩:=rv2.get e2
  obtain⟨its3,rv3,p3,z3⟩:=I.sq q3
  obtain⟨u3,hu3,ru3⟩:=rv3.get e3
  refine UY D hz hTI hTO t1 t2 t3 p1 p2 p3 (show its1.toArray[i]?=some u1 by simpa using hu1) (show its2.toArray[i]?=some u2 by simpa using hu2) (show its3.toArray[i]?=some u3 by simpa using hu3) λh' b1 b2 c1 c2 c3 b5 b6 b7=>?_
  have hTn:s.heap.objs.size≠z:=O1 (D0 hz)
  refine ⟨_,rfl,wpAny_letOwnedTupleGo_zip (s:={ s with heap:=h' }) b1 λh2 hz2 hs2=>?_⟩
  have kp:∀b o,b∉[z,TI,TO,i1,i2,i3]->s.heap.get? b=some o->h2.get? b=some o:=λb o hb e=>by
   have hb:b≠z/\b≠TI/\b≠TO/\b≠i1/\b≠i2/\b≠i3:=by simpa using hb
   obtain⟨g1,g2,g3,f1,f2,f3⟩:=hb
   exact hs2.extBut _ _ g1 (b7 b o g1 g3 f1 f2 f3 e)
  have hTI2:LQ h2 TI (.ref i1) (.ref i2) (.ref i3):=hs2.extBut _ _ D.TIz (b7 TI _ D.TIz (S1 D.TOTI) (S1 D.i1TI) (S1 D.i2TI) (S1 D.i3TI) hTI)
  have hT2:LQ h2 s.heap.objs.size u1 u2 u3:=hs2.extBut _ _ hTn b5
  have hfr:H s.heap.objs.size=none:=I.hok.fresh (G0 _)
  have I2:Inv X pins σ (OQ H s.heap.objs.size (.tup [x1,x2,x3])) { s with heap:=h2 }:=by
   have nfp:∀b u,H b=some u->b∉[z,TI,TO,i1,i2,i3]:=λb u e hb=>by have:=(hf b hb).1;rw[e]at this;cases this
   refine I.step (g':=s.gens) (d':=s.drawn) (ch:=[z,TI,TO,i1,i2,i3]) (λb hb=>?_) (λb o _ _ hc' e _=>kp b o hc' e) (λb o _ _ hc' e _=>⟨o.slots,kp b o hc' e⟩) (λb o _ e n=>?_)
    (λb o hc' e=>⟨o,kp b o hc' e⟩) (λb xs e=>?_) (λb o xs e=>?_) (λb ps e=>⟨#[],?_⟩) (λm hm=>?_) (λb o e=>?_) I.bare
   ·obtain⟨f0,f1,f2,f3,f4,f5⟩:=hf b hb
    exact ⟨f3,f1,f4,f5⟩
   ·rw[dQ (W0 (D0 e))];exact n
   ·rw[dQ (gQ e hfr)];exact e
   ·rw[dQ (gQ e hfr)];exact e
   ·rw[dQ (gQ e hfr),e];simp
   ·obtain⟨o,es',ep,ho,r⟩:=hm
    exact ⟨o,es',ep,kp _ o (λhb=>(hf _ hb).2.1 rfl) ho,r⟩
   ·by_cases hb:b=s.heap.objs.size
    ·subst hb
     rw[jQ]at e
     cases e
     exact ⟨by show 3<=sizeLine;decide,[u1,u2,u3],.cons ru1 (.cons ru2 (.cons ru3 .nil)),_,hT2,rfl,_,rfl,rfl⟩
    ·rw[dQ hb]at e
     refine (I.hok b o e).stay (λc v hc' q=>kp c v ?_ q) (λc q=>by rw[dQ (gQ q hfr)];exact q) λc xs q=>by rw[dQ (gQ q hfr)];exact q
     rcases hc' with rfl|hc'
     ·exact nfp _ _ e
     ·exact nfp _ _ hc'
  refine ⟨.ref s.heap.objs.size,_,I2,rfl,⟨_,x1,x2,x3,hfr,rfl,rfl,(λys hy=>by rw[I.sq_inj hy q1];exact e1),(λys hy=>by rw[I.sq_inj hy q2];exact e2),(λys hy=>by rw[I.sq_inj hy q3];exact e3)⟩,⟨hz2,hTI2,⟨u1,u2,u3,hs2.extBut _ _ D.TOz b2⟩,c1.at λo e=>hs2.extBut _ _ D.i1z e,c2.at λo e=>hs2.extBut _ _ D.i2z e,c3.at λo e=>hs2.extBut _ _ D.i3z e⟩,λb hb=>?_⟩
  rw[dQ ?_]
  ·exact (hf b hb).1
  ·intro e
   subst e
   have hb:s.heap.objs.size=z\/s.heap.objs.size=TI\/s.heap.objs.size=TO\/s.heap.objs.size=i1\/s.heap.objs.size=i2\/s.heap.objs.size=i3:=by simpa using hb
   rcases hb with e|e|e|e|e|e
   ·exact hTn e
   ·exact O1 (D0 hTI) e
   ·exact O1 (D0 hTO) e
   ·obtain⟨o,eo,_⟩:=t1.obj
    exact O1 (D0 eo) e
   ·obtain⟨o,eo,_⟩:=t2.obj
    exact O1 (D0 eo) e
   ·obtain⟨o,eo,_⟩:=t3.obj
    exact O1 (D0 eo) e
 done:=by
  intro X hP hw hK hc i pins s σ H E I hf st hg
  subst hP hw hK
  obtain⟨hz,hTI,⟨a1,a2,a3,hTO⟩,t1,t2,t3⟩:=st
  obtain⟨ys1,ys2,ys3,q1,q2,q3,hend⟩:=hg
  obtain⟨its1,rv1,p1,z1⟩:=I.sq q1
  have len1:=rv1.length
  obtain⟨its2,rv2,p2,z2⟩:=I.sq q2
  have len2:=rv2.length
  obtain⟨its3,rv3,p3,z3⟩:=I.sq q3
  have len3:=rv3.length
  refine QW (I.ok.hd hc) D hz hTI hTO t1 t2 t3 p1 p2 p3 ?_ λh' kp=>⟨rfl,?_⟩
  ·rcases hend with h|h|h
   ·exact .inl (by simp;omega)
   ·exact .inr (.inl (by simp;omega))
   ·exact .inr (.inr (by simp;omega))
  ·have nfp:∀b u,H b=some u->b∉[z,TI,TO,i1,i2,i3]:=λb u e hb=>by have:=(hf b hb).1;rw[e]at this;cases this
   have kp':∀b o,b∉[z,TI,TO,i1,i2,i3]->s.heap.get? b=some o->h'.get? b=some o:=λb o hb e=>by
    have hb:b≠z/\b≠TI/\b≠TO/\b≠i1/\b≠i2/\b≠i3:=by simpa using hb
    obtain⟨g1,g2,g3,f1,f2,f3⟩:=hb
    exact kp b o g1 g3 f1 f2 f3 e
   refine I.step (g':=s.gens) (d':=s.drawn) (ch:=[z,TI,TO,i1,i2,i3]) (λb hb=>?_) (λb o _ _ hc' e _=>kp' b o hc' e) (λb o _ _ hc' e _=>⟨o.slots,kp' b o hc' e⟩) (λb o _ e n=>n)
    (λb o hc' e=>⟨o,kp' b o hc' e⟩) (λb xs e=>e) (λb o xs e=>e) (λb ps e=>⟨#[],by rw[e];simp⟩) (λm hm=>?_) (λb o e=>?_) I.bare
   ·obtain⟨f0,f1,f2,f3,f4,f5⟩:=hf b hb
    exact ⟨f3,f1,f4,f5⟩
   ·obtain⟨o,es',ep,ho,r⟩:=hm
    exact ⟨o,es',ep,kp' _ o (λhb=>(hf _ hb).2.1 rfl) ho,r⟩
   ·refine (I.hok b o e).stay (λc v hc' q=>kp' c v ?_ q) (λ_ q=>q) λ_ _ q=>q
    rcases hc' with rfl|hc'
    ·exact nfp _ _ e
    ·exact nfp _ _ hc'
 self:=λ_ _ _ _ _ st h=>wpAny_pyIter_zip st.1 h
noncomputable def Dq(K:A0)(ta:TA):TI:=λσ H R=>ta σ H λvs H1=>∃(k1:Kd) (l1:Addr) (ys1:List V) (k2:Kd) (l2:Addr) (ys2:List V),vs=[.ref l1,.ref l2]/\Sq k1 K H1 l1 ys1/\Sq k2 K H1 l2 ys2/\R (eE K k1 k2 l1 l2) H1
theorem Ly{X:Cx}{es:List Expr}{kk:Nat}{tpos:Pos}{a b:Expr}{ta:TA}{p pos:Pos}(hg:Gl X "zip")(hm:X.mg "zip"=none)(ha:PA X [a,b] ta)(hs:starEach [a,b] X.env=(false,eval a X.env) :: starEach [b] X.env:=by rfl)(hpl:(backTo pos (starEach [b] X.env)).any (·.1)=false:=by rfl) :
  PI X (.Tuple es kk tpos) (.Call (.Name "zip" p) [a,b] [] pos) (Dq X.K ta):=by
 intro pins s σ H R I h
 refine Call_ (fZ I hg hm boot_zip (O2 (fX (ha pos pins s σ H _ I h) λus s1 ⟨vs,H1,I1,r1,q1⟩=>?_) hs hpl))
 obtain⟨k1,l1,ys1,k2,l2,ys2,e,q1,q2,q⟩:=q1
 subst e
 obtain rfl:us=[.ref l1,.ref l2]:=by
  cases r1 with|cons r rr=>cases r;cases rr with|cons r rr=>cases r;cases rr;rfl
 obtain⟨its1,rv1,p1,z1⟩:=I1.sq q1
 obtain⟨its2,rv2,p2,z2⟩:=I1.sq q2
 have lt:∀{k:Kd}{l:Addr}{xs:Array Value},SqAt k s1.heap l xs->l < s1.heap.objs.size:=λ{k l xs} p=>by
  cases k with
  | l=>obtain⟨o,e,_⟩:=p;exact D0 e
  | t=>obtain⟨o,e,_⟩:=p;exact D0 e
 refine callType_new F.called_zip (by decide) (F.typeCall_zip_2 _ _) (F.newCall_zip_2 _ _) (λobj=>F.args_object_init_3 obj _ _) F.entry_zip_new (AG k1 k2 l1 l2 its1.toArray its2.toArray) ⟨p1,p2,?_⟩
 have zI:(bj s1.heap k1 k2 l1 l2).objs.size=s1.heap.objs.size+2:=by simp[B2]
 have zT:(cj s1.heap k1 k2 l1 l2).objs.size=s1.heap.objs.size+3:=by simp[B2]
 have zO:(dj s1.heap k1 k2 l1 l2).objs.size=s1.heap.objs.size+4:=by simp[B2]
 have gZ:(SZ s1.heap k1 k2 l1 l2).get? (dj s1.heap k1 k2 l1 l2).objs.size=some _:=J0 _ rfl
 have gO:(SZ s1.heap k1 k2 l1 l2).get? (cj s1.heap k1 k2 l1 l2).objs.size=some _:=g0 _ (J0 _ rfl)
 have gT:(SZ s1.heap k1 k2 l1 l2).get? (bj s1.heap k1 k2 l1 l2).objs.size=some _:=g0 _ (g0 _ (J0 _ rfl))
 have g1:(SZ s1.heap k1 k2 l1 l2).get? s1.heap.objs.size=some (MQ k1 l1):=g0 _ (g0 _ (g0 _ (g0 _ (J0 _ (by cases k1<;>rfl)))))
 have g2:(SZ s1.heap k1 k2 l1 l2).get? (s1.heap.push (MQ k1 l1)).objs.size=some (MQ k2 l2):=g0 _ (g0 _ (g0 _ (J0 _ (by cases k2<;>rfl))))
 have zz2:(s1.heap.push (MQ k1 l1)).objs.size=s1.heap.objs.size+1:=by simp[B2]
 rw[zO,zT,zI]at gZ
 rw[zI,zz2]at gT
 rw[zT]at gO
 rw[zz2]at g2
 show _/\_
 rw[zO]
 have kp:∀b o,s1.heap.get? b=some o->(SZ s1.heap k1 k2 l1 l2).get? b=some o:=λb o e=>g0 _ (g0 _ (g0 _ (g0 _ (g0 _ (e)))))
 refine ⟨⟨_,gZ,rfl⟩,wpAny_pyIter_zip (s:={ s1 with heap:=SZ s1.heap k1 k2 l1 l2 }) gZ ?_⟩
 refine ⟨_,[s1.heap.objs.size+4,s1.heap.objs.size+2,s1.heap.objs.size+3,s1.heap.objs.size,s1.heap.objs.size+1],_,_,H1,rfl,I1.kept (t':=s1.toks) kp,ij k1 k2 _ _ _ _ _ l1 l2 (XL _ l1 l2 (lt p1) (lt p2)),⟨gZ,gT,⟨_,_,gO⟩,ItAt.new k1 g1,ItAt.new k2 g2⟩,λb hb=>?_,q⟩
 have hb:s1.heap.objs.size<=b:=by
  have hb:b=s1.heap.objs.size+4\/b=s1.heap.objs.size+2\/b=s1.heap.objs.size+3\/b=s1.heap.objs.size\/b=s1.heap.objs.size+1:=by simpa using hb
  rcases hb with rfl|rfl|rfl|rfl|rfl
  all_goals first|exact E3 _ _|exact G0 _
 exact I1.fpOk hb (I1.hok.fresh hb)
noncomputable def Fq(K:A0)(ta:TA):TI:=λσ H R=>ta σ H λvs H1=>∃(k1:Kd) (l1:Addr) (ys1:List V) (k2:Kd) (l2:Addr) (ys2:List V) (k3:Kd) (l3:Addr) (ys3:List V),vs=[.ref l1,.ref l2,.ref l3]/\Sq k1 K H1 l1 ys1/\Sq k2 K H1 l2 ys2/\Sq k3 K H1 l3 ys3/\R (fE K k1 k2 k3 l1 l2 l3) H1
theorem VY(a b c:Value):checkTypeCall "zip" ⟨[a,b,c],[]⟩=pure ():=by kernel_rfl
theorem RW(a b c:Value):checkBuiltinCall "zip.__new__" ⟨[.type "zip",a,b,c],[]⟩=pure ():=by kernel_rfl
theorem FJ(a b c d:Value):argsOk "object.__init__" ⟨[a,b,c,d],[]⟩:=by
 unfold argsOk;rw[signature?_of (id:="object.__init__") (n:=['_','_','t','i','n','i','_','_']) (o:=['t','c','e','j','b','o']) (by kernel_rfl) F.owner_object];kernel_rfl
theorem My{X:Cx}{es:List Expr}{kk:Nat}{tpos:Pos}{a b c:Expr}{ta:TA}{p pos:Pos}(hg:Gl X "zip")(hm:X.mg "zip"=none)(ha:PA X [a,b,c] ta)(hs:starEach [a,b,c] X.env=(false,eval a X.env) :: starEach [b,c] X.env:=by rfl)(hpl:(backTo pos (starEach [b,c] X.env)).any (·.1)=false:=by rfl) :
  PI X (.Tuple es kk tpos) (.Call (.Name "zip" p) [a,b,c] [] pos) (Fq X.K ta):=by
 intro pins s σ H R I h
 refine Call_ (fZ I hg hm boot_zip (O2 (fX (ha pos pins s σ H _ I h) λus s1 ⟨vs,H1,I1,r1,q1⟩=>?_) hs hpl))
 obtain⟨k1,l1,ys1,k2,l2,ys2,k3,l3,ys3,e,q1,q2,q3,q⟩:=q1
 subst e
 obtain rfl:us=[.ref l1,.ref l2,.ref l3]:=by
  cases r1 with|cons r rr=>cases r;cases rr with|cons r rr=>cases r;cases rr with|cons r rr=>cases r;cases rr;rfl
 obtain⟨its1,rv1,p1,z1⟩:=I1.sq q1
 obtain⟨its2,rv2,p2,z2⟩:=I1.sq q2
 obtain⟨its3,rv3,p3,z3⟩:=I1.sq q3
 have lt:∀{k:Kd}{l:Addr}{xs:Array Value},SqAt k s1.heap l xs->l < s1.heap.objs.size:=λ{k l xs} p=>by
  cases k with
  | l=>obtain⟨o,e,_⟩:=p;exact D0 e
  | t=>obtain⟨o,e,_⟩:=p;exact D0 e
 refine callType_new F.called_zip (by decide) (VY _ _ _) (RW _ _ _) (λobj=>FJ obj _ _ _) F.entry_zip_new (Rx k1 k2 k3 l1 l2 l3 its1.toArray its2.toArray its3.toArray) ⟨p1,p2,p3,?_⟩
 have zI:(Iy s1.heap k1 k2 k3 l1 l2 l3).objs.size=s1.heap.objs.size+3:=by simp[B2]
 have zT:(Jy s1.heap k1 k2 k3 l1 l2 l3).objs.size=s1.heap.objs.size+4:=by simp[B2]
 have zO:(Ky s1.heap k1 k2 k3 l1 l2 l3).objs.size=s1.heap.objs.size+5:=by simp[B2]
 have gZ:(dU s1.heap k1 k2 k3 l1 l2 l3).get? (Ky s1.heap k1 k2 k3 l1 l2 l3).objs.size=some _:=J0 _ rfl
 have gO:(dU s1.heap k1 k2 k3 l1 l2 l3).get? (Jy s1.heap k1 k2 k3 l1 l2 l3).objs.size=some _:=g0 _ (J0 _ rfl)
 have gT:(dU s1.heap k1 k2 k3 l1 l2 l3).get? (Iy s1.heap k1 k2 k3 l1 l2 l3).objs.size=some _:=g0 _ (g0 _ (J0 _ rfl))
 have g1:(dU s1.heap k1 k2 k3 l1 l2 l3).get? s1.heap.objs.size=some (MQ k1 l1):=g0 _ (g0 _ (g0 _ (g0 _ (g0 _ (J0 _ (by cases k1<;>rfl))))))
 have g2:(dU s1.heap k1 k2 k3 l1 l2 l3).get? (s1.heap.push (MQ k1 l1)).objs.size=some (MQ k2 l2):=g0 _ (g0 _ (g0 _ (g0 _ (J0 _ (by cases k2<;>rfl)))))
 have zz2:(s1.heap.push (MQ k1 l1)).objs.size=s1.heap.objs.size+1:=by simp[B2]
 have g3:(dU s1.heap k1 k2 k3 l1 l2 l3).get? ((s1.heap.push (MQ k1 l1)).push (MQ k2 l2)).objs.size=some (MQ k3 l3):=g0 _ (g0 _ (g0 _ (J0 _ (by cases k3<;>rfl))))
 have zz3:((s1.heap.push (MQ k1 l1)).push (MQ k2 l2)).objs.size=s1.heap.objs.size+2:=by simp[B2]
 rw[zO,zT,zI]at gZ
 rw[zI,zz2,zz3]at gT
 rw[zT]at gO
 rw[zz2]at g2
 rw[zz3]at g3
 show _/\_
 rw[zO]
 have kp:∀b o,s1.heap.get? b=some o->(dU s1.heap k1 k2 k3 l1 l2 l3).get? b=some o:=λb o e=>g0 _ (g0 _ (g0 _ (g0 _ (g0 _ (g0 _ (e))))))
 refine ⟨⟨_,gZ,rfl⟩,wpAny_pyIter_zip (s:={ s1 with heap:=dU s1.heap k1 k2 k3 l1 l2 l3 }) gZ ?_⟩
 refine ⟨_,[s1.heap.objs.size+5,s1.heap.objs.size+3,s1.heap.objs.size+4,s1.heap.objs.size,s1.heap.objs.size+1,s1.heap.objs.size+2],_,_,H1,rfl,I1.kept (t':=s1.toks) kp,kj k1 k2 k3 _ _ _ _ _ _ l1 l2 l3 (wO _ l1 l2 l3 (lt p1) (lt p2) (lt p3)),⟨gZ,gT,⟨_,_,_,gO⟩,ItAt.new k1 g1,ItAt.new k2 g2,ItAt.new k3 g3⟩,λb hb=>?_,q⟩
 have hb:s1.heap.objs.size<=b:=by
  have hb:b=s1.heap.objs.size+5\/b=s1.heap.objs.size+3\/b=s1.heap.objs.size+4\/b=s1.heap.objs.size\/b=s1.heap.objs.size+1\/b=s1.heap.objs.size+2:=by simpa using hb
  rcases hb with rfl|rfl|rfl|rfl|rfl|rfl
  all_goals first|exact E3 _ _|exact G0 _
 exact I1.fpOk hb (I1.hok.fresh hb)
noncomputable def Gq:V->List V->Hp->VK->Prop:=λx vs H Q=>∃(l:Addr) (xs:List V) (i:Int) (y:V),x=.ref l/\vs=[.int i,y]/\H l=some (.lst xs)/\xs.length < sizeLine/\0<=i/\i<=xs.length/\Q .non (OQ H l (.lst (xs.take i.toNat++y :: xs.drop i.toNat)))
theorem lj{X:Cx}:MN X "list.insert" Gq:=by
 intro pins s σ H x vs v us Q I rx rv h
 obtain⟨l,xs,i,y,rfl,rfl,hH,hz,h0,h1,q⟩:=h
 cases rx
 obtain⟨u,w',rfl,ru,rw'⟩:=GY rv
 obtain⟨t,rfl⟩:=ru
 obtain⟨z,its,n,r,hl,e⟩:=I.lstM hH
 have hs:xs.length<=16777216:=z
 have hf:¬(!Builtin.List.listFitsIndex i)=true:=by
  have:R7 i=true:=by
   unfold R7
   simp only[decide_eq_true_eq,U4]
   constructor<;>omega
  rw[this];decide
 refine call_meets F.slot_list_insert ⟨_,e,rfl⟩ F.entry_list_insert (F.args_list_insert_3 _ _ _) (AutoSeq1.list_insert_list_int_val_1 l its.toArray n i t w' hf (by rw[Q0];omega)) ⟨e,?_⟩
 refine ⟨.non,_,I.lset (its':=its.take i.toNat++w' :: its.drop i.toNat) hH e ?_ ((r.take _).append (.cons rw' (r.drop _))) ?_,rfl,q⟩
 ·have hi:¬i < 0:=by omega
  have hm:min i.toNat its.length=i.toNat:=by omega
  simp only[hi,if_false,Q0,hm]
  apply Array.ext'
  simp[j3]
  rw[u5 (by simp)]
 ·rw[K0,P1,S3,Z5]
  omega
mutual
inductive Is (K:A0) (H:Hp):V->PyData->Prop
 | non:Is K H .non .none
 | bl (b):Is K H (.bl b) (.bool b)
 | int (i):Is K H (.int i) (.int i)
 | str (x):Is K H (.str x) (.str x)
 | lst {a xs ds}:SqL K H a xs->IsAll K H xs ds->Is K H (.ref a) (.list ds)
 | tup {a xs ds}:SqT K H a xs->IsAll K H xs ds->Is K H (.ref a) (.tuple ds)
inductive IsAll (K:A0) (H:Hp):List V->List PyData->Prop
 | nil:IsAll K H [] []
 | cons {x xs d ds}:Is K H x d->IsAll K H xs ds->IsAll K H (x :: xs) (d :: ds)
end
section
variable {X:Cx}{pins:List (Addr×Obj)}{σ:St}{H:Hp}{s:Shared}
mutual
theorem Is.reads(I:Inv X pins σ H s):∀{x:V}{d:PyData}{u:Value},Is X.K H x d->RelV x u->∃as,Reads s.heap u d as
 | _,_,_,.non,r=>by cases r;exact ⟨_,.none⟩
 | _,_,_,.bl b,r=>by cases r;exact ⟨_,.bool b⟩
 | _,_,_,.int i,r=>by obtain⟨t,rfl⟩:=r;exact ⟨_,.int i t⟩
 | _,_,_,.str x,r=>by obtain⟨t,rfl⟩:=r;exact ⟨_,.str x t⟩
 | _,_,_,.lst hq ha,r=>by
  cases r
  obtain⟨its,rv,⟨o,n,e,c,d,q⟩,z⟩:=I.list hq
  obtain⟨as,hr⟩:=IsAll.reads I ha rv
  exact ⟨_,.list e c q (by simpa using hr)⟩
 | _,_,_,.tup hq ha,r=>by
  cases r
  obtain⟨its,rv,⟨o,e,c,n,q⟩,z⟩:=I.tuple hq
  obtain⟨as,hr⟩:=IsAll.reads I ha rv
  exact ⟨_,.tuple e c q (by simpa using hr)⟩
theorem IsAll.reads(I:Inv X pins σ H s):∀{xs:List V}{ds:List PyData}{us:List Value},IsAll X.K H xs ds->Vals xs us->∃as,ReadsAll s.heap us ds as
 | _,_,_,.nil,.nil=>⟨_,.nil⟩
 | _,_,_,.cons h t,.cons r rr=>by
  obtain⟨as,a⟩:=Is.reads I h r
  obtain⟨bs,b⟩:=IsAll.reads I t rr
  exact ⟨_,.cons a b⟩
end
end
open PySem.SeqAt in
noncomputable def SW(K:A0)(neg:Bool):R2:=λx y H Q=>∃d e:PyData,Is K H x d/\Is K H y e/\shaped d=true/\shaped e=true/\noMix d e=true/\Q (.bl (if neg then !same d e else same d e)) H
theorem iE{X:Cx}(hu:X.A.units+64 < cLine):OpR X (compareOp .Eq) (SW X.K false):=by
 intro pins s σ H x y v u Q I r1 r2 h
 obtain⟨d,e,i1,i2,s1,s2,nm,q⟩:=h
 obtain⟨as,a⟩:=i1.reads I r1
 obtain⟨bs,b⟩:=i2.reads I r2
 exact eq_dataH_same a b s1 s2 hu nm ⟨.bl _,H,I,rfl,q⟩
theorem jE{X:Cx}(hu:X.A.units+64 < cLine):OpR X (compareOp .NotEq) (SW X.K true):=by
 intro pins s σ H x y v u Q I r1 r2 h
 obtain⟨d,e,i1,i2,s1,s2,nm,q⟩:=h
 obtain⟨as,a⟩:=i1.reads I r1
 obtain⟨bs,b⟩:=i2.reads I r2
 exact ne_dataH_same a b s1 s2 hu nm ⟨.bl _,H,I,rfl,q⟩
structure Cal(P:Program)(w:World)(K:A0)(mg:Str->Option Value)(base:Heap)(k:Nat)(x:Str)(ps:List Str)(sp:Sp):Prop where
 ex:∃(f:Addr) (fd:FuncData),FnOk P w K mg base BZ k f fd ps sp/\mg x=some (.ref f)/\X0 K (.ref f)=true/\Binds K fd ps []
theorem Xx{X:Cx}{k:Nat}{x:Str}{ps:List Str}{sp:Sp}{p pos:Pos}{e:Expr}{es:List Expr}{t:TA}(C:Cal X.prog X.w X.K X.mg X.base k x ps sp)(hr:Room k X.A)(ha:PA X (e :: es) t)(hg:Gl X x:=by rfl)
  (hdb:(x==("__debug__":Str))=false:=by decide) (he:starEach (e :: es) X.env=(false,eval e X.env) :: starEach es X.env:=by rfl) (hpl:(backTo pos (starEach es X.env)).any (·.1)=false:=by rfl) :
  PE X (.Call (.Name x p) (e :: es) [] pos) (JY sp [] E0 t):=by
 obtain⟨f,fd,F,hm,hk,hb⟩:=C.ex
 exact sy F hr hg hm hk hb .nil UL ha hdb he hpl
noncomputable def fU(ds:Scope)(N:List Str)(fr:List Nat)(sc:Scope):Bool :=
 decide (sc.kind=.function)&&(sc.names.all λy=>!decide (y.2=.cell)||decide (sc.names.lookup y.1=some .cell))&&(sc.names.all λy=>!decide (y.2=.local)||decide (sc.names.lookup y.1=some .local)) &&
 (sc.names.all λy=>!decide (y.2=.free)||(decide (ds.names.lookup y.1=some .cell)||decide (ds.names.lookup y.1=some .free))) &&
 (fr.all λi=>match N[i]? with|some x=>decide (sc.names.lookup x=some .free)|none=>false)
theorem tV{X:Cx}{own:List Str}{fr:List Nat}{sc:Scope}(h:fU X.env.scope X.N fr sc=true):CompSc X own fr sc:=by
 unfold fU at h
 simp only[U4,decide_eq_true_eq,i7,Bool.or_eq_true,Bool.not_eq_true',decide_eq_false_iff_not]at h
 obtain⟨⟨⟨⟨h1,h2⟩,h3⟩,h4⟩,h5⟩:=h
 refine ⟨h1,λy hy e=>?_,λy hy e=>?_,λy hy e=>?_,λi hi=>?_⟩
 ·rcases h2 y hy with z|z
  ·exact absurd e z
  ·exact z
 ·rcases h3 y hy with z|z
  ·exact absurd e z
  ·exact z
 ·rcases h4 y hy with z|z
  ·exact absurd e z
  ·exact z
 ·have:=h5 i hi
  cases q:X.N[i]? with
  | none=>rw[q]at this;cases this
  | some x=>rw[q]at this;exact ⟨x,rfl,of_decide_eq_true this⟩
noncomputable def ZL(J:It)(own:List Str)(fr:List Nat)(g:TG)(tc:TT)(te:TE)(σ:St)(H:Hp)(Q:VK):Prop :=
 ∃W:Nat->Nat->List V->St->Hp->Prop,(∃m,W 0 m [] (aE own σ fr) H)/\∀i m ys τ H,W i m ys τ H ->
   (J.stop i H/\∀D,H D=none->Q (.ref D) (OQ H D (.lst ys))) \/
   (J.go i H/\ys.length < sizeLine/\∃N:List V->St->Hp->Prop,(∀ys' τ' H',N ys' τ' H'->∃m',m' < m/\W (i+1) m' ys' τ' H')/\∀x H',J.yld i H x H'->g x τ H' λτ2 H2 =>
     tc τ2 H2 λb H3=>if b=true then te τ2 H3 λy H4=>N (ys++[y]) τ2 H4 else N ys τ2 H3)
noncomputable def WY(wi:TI)(own:List Str)(fr:List Nat)(g:TG)(tc:TT)(te:TE):TE:=λσ H Q=>wi σ H λJ H1=>ZL J own fr g tc te σ H1 Q
theorem Yx{X:Cx}{tg iter elt:Expr}{ifs:List Expr}{sc:Scope}{pos:Pos}{own:List Str}{fr:List Nat}{wi:TI}{g:TG}{tc:TT}{te:TE}(hc:X.calm=true)(S:CompSc X own fr sc)(hi:PI X tg iter wi)
  (hg:∀C s H ex,PG (BQ X own fr sc C s H ex) tg g) (hif:∀C s H ex,Qx (BQ X own fr sc C s H ex) ifs tc) (he:∀C s H ex,PE (BQ X own fr sc C s H ex) elt te)
  (hs:∀x,foldedSetIterable iter X.env x=pure x:=by intro _;rfl):PE X (.ListComp elt [⟨tg,iter,ifs,0⟩] sc pos) (WY wi own fr g tc te):=Gy hc S hi hg hif he hs
theorem CG{X:Cx}{tg iter elt:Expr}{ifs:List Expr}{sc:Scope}{pos spos py:Pos}{i:Nat}{y:Str}{own:List Str}{fr:List Nat}{wi:TI}{g:TG}{tc:TT}{te:TE}(hN:X.N.Nodup)(hy:X.N[i]?=some y)(hl:X.env.scope.names.lookup y=some .local)(hc:X.calm=true)(S:CompSc X own fr sc)(hi:PI X tg iter wi)
  (hg:∀C s H ex,PG (BQ X own fr sc C s H ex) tg g) (hif:∀C s H ex,Qx (BQ X own fr sc C s H ex) ifs tc) (he:∀C s H ex,PE (BQ X own fr sc C s H ex) elt te)
  (hsw:swapsWith (.ListComp elt [⟨tg,iter,ifs,0⟩] sc pos) (some (.Name y py)) spos.line X.env=pure true:=by rfl)
  (hs:∀x,foldedSetIterable iter X.env x=pure x:=by intro _;rfl):PS X (.Assign [.Name y py] (.ListComp elt [⟨tg,iter,ifs,0⟩] sc pos) spos) (UZ (WY wi own fr g tc te) (HX i)):=gD hN hy hl hc S hi hg hif he hsw hs
section
variable {X:Cx}{K:A0}
theorem Zx(h:X.K=K):IxR X (zy K):=by subst h;exact By
theorem Ny(h:X.K=K):IxR X (Ay K):=by subst h;exact QC
noncomputable def aM(K:A0):List V->Hp->VK->Prop:=λxs H Q=>∃(p:Addr) (ys:List V),xs=[.ref p]/\(SqL K H p ys\/SqT K H p ys)/\Q (.int ys.length) H
theorem SQ(h:X.K=K):oX X (.builtin "len") (aM K):=by subst h;exact ZV
noncomputable def Hq(K:A0):List V->Hp->VK->Prop:=λxs H Q=>∃(p:Addr) (ys:List V),xs=[.ref p]/\(SqL K H p ys\/SqT K H p ys)/\∀l,H l=none->Q (.ref l) (OQ H l (.lst ys))
theorem lD(h:X.K=K):oX X (.type "list") (Hq K):=by subst h;exact aU
noncomputable def DG(K:A0):List V->Hp->VK->Prop:=λxs H Q=>∃(p:Addr) (ys:List V),xs=[.ref p]/\((SqL K H p ys/\∀l,H l=none->Q (.ref l) (OQ H l (.tup ys)))\/(SqT K H p ys/\Q (.ref p) H))
theorem rX(h:X.K=K):oX X (.type "tuple") (DG K):=by subst h;exact OW
theorem mj(h:X.K=K):oX X (.builtin "isinstance") (gj K):=by subst h;exact Vx
theorem uV(h:X.K=K)(hc:X.calm=true):oX X (.builtin "all") (dE K):=by subst h;exact Wx hc
theorem Oy(h:X.K=K)(hu:X.A.units+64 < cLine):OpR X (compareOp .Eq) (SW K false):=by subst h;exact iE hu
theorem Py(h:X.K=K)(hu:X.A.units+64 < cLine):OpR X (compareOp .NotEq) (SW K true):=by subst h;exact jE hu
theorem ck{es:List Expr}{kk:Nat}{tpos:Pos}{a b:Expr}{ta:TA}{p pos:Pos}(h:X.K=K)(hg:Gl X "zip")(hm:X.mg "zip"=none)(ha:PA X [a,b] ta)(hs:starEach [a,b] X.env=(false,eval a X.env) :: starEach [b] X.env:=by rfl)(hpl:(backTo pos (starEach [b] X.env)).any (·.1)=false:=by rfl) :
  PI X (.Tuple es kk tpos) (.Call (.Name "zip" p) [a,b] [] pos) (Dq K ta):=by subst h;exact Ly hg hm ha hs hpl
theorem fk{es:List Expr}{kk:Nat}{tpos:Pos}{a b c:Expr}{ta:TA}{p pos:Pos}(h:X.K=K)(hg:Gl X "zip")(hm:X.mg "zip"=none)(ha:PA X [a,b,c] ta)(hs:starEach [a,b,c] X.env=(false,eval a X.env) :: starEach [b,c] X.env:=by rfl)(hpl:(backTo pos (starEach [b,c] X.env)).any (·.1)=false:=by rfl) :
  PI X (.Tuple es kk tpos) (.Call (.Name "zip" p) [a,b,c] [] pos) (Fq K ta):=by subst h;exact My hg hm ha hs hpl
theorem Iq{es:List Expr}{k:Nat}{t:Xv}{n:Nat}{pos:Pos}(h:X.K=K)(hc:X.calm=true)(hh:BB X es t)(hn:(assignEach es X.env).length=n:=by rfl)(hst:(assignEach es X.env).findIdx? (·.1)=none:=by rfl):PG X (.Tuple es k pos) (Mz K n t):=by subst h;exact FC hc hh hn hst
end
theorem gk{prog:Program}{w:World}{A:Around}{E:Value->Shared->Prop}{s:Shared}{t b:Addr}{ws:List Value}{Q:Value->Shared->Prop}(ht:IsTup s.heap t ([]:List Value).toArray)(hb:IsTup s.heap b ws.toArray)(h:Q (.ref b) s):wpAny (model prog w) A (binaryOp .Add (.ref t) (.ref b)) Q E s:=by
 obtain⟨⟨cls,dd,data,sl⟩,ho,hc,n,hd⟩:=id ht
 obtain⟨⟨cls2,dd2,data2,sl2⟩,ho2,hc2,n2,hd2⟩:=id hb
 simp only at hc hd hc2 hd2
 subst hc hd hc2 hd2
 exact concat_meets ⟨_,ho,rfl⟩ ⟨_,ho2,rfl⟩ noFill_tuple_add seq_tuple_add PySem.F.slot_tuple_add PySem.F.entry_tuple_add (PySem.F.args_tuple_add_2 _ _) (tuple_addW0 t b _ ws.toArray n n2 dd dd2 sl sl2 rfl) ⟨ho,ho2,h⟩
theorem slot_rev_next:Slot "reversed" "__next__" "reversed.__next__" :=
 .of (owner:="reversed") (n:="__next__") (by rw[typeLookup_type,builtinLookup_eq_fast];kernel_rfl) (by decide +kernel) (by decide +kernel) (by decide +kernel)
  (by first|exact .inl (by decide +kernel)|exact .inr (by decide +kernel)) (by rw[isSubtype_type];kernel_rfl)
theorem CJ:Slot "reversed" "__iter__" "reversed.__iter__" :=
 .of (owner:="reversed") (n:="__iter__") (by rw[typeLookup_type,builtinLookup_eq_fast];kernel_rfl) (by decide +kernel) (by decide +kernel) (by decide +kernel)
  (by first|exact .inl (by decide +kernel)|exact .inr (by decide +kernel)) (by rw[isSubtype_type];kernel_rfl)
theorem TW:Slot "reversed" "__init__" "object.__init__" :=
 .of (owner:="object") (n:="__init__") (by rw[typeLookup_type,builtinLookup_eq_fast];kernel_rfl) (by decide +kernel) (by decide +kernel) (by decide +kernel)
  (by first|exact .inl (by decide +kernel)|exact .inr (by decide +kernel)) (by rw[isSubtype_type];kernel_rfl)
theorem cJ:entryFor table "reversed.__next__"=some Builtin.«reversed.__next__»:=entryFor_of_tree (by kernel_rfl)
theorem XY:entryFor table "reversed.__iter__"=some Builtin.«dict_keyiterator.__iter__» :=
 entryFor_alias (id':="dict_keyiterator.__iter__") (by kernel_rfl) (by first|rfl|decide +kernel|(unfold String.splitOn;simp +decide [String.splitOnAux])) (by decide +kernel) (by kernel_rfl)
theorem vV:Manifest.owners.lookup (String.ofList ['d','e','s','r','e','v','e','r'].reverse)=some Manifest.sig_reversed:=by kernel_rfl
theorem DJ(a:Value):argsOk "reversed.__next__" ⟨[a],[]⟩:=by
 unfold argsOk;rw[signature?_of (id:="reversed.__next__") (n:=['_','_','t','x','e','n','_','_']) (o:=['d','e','s','r','e','v','e','r']) (by kernel_rfl) vV];kernel_rfl
theorem UW(a:Value):argsOk "reversed.__iter__" ⟨[a],[]⟩:=by
 unfold argsOk;rw[signature?_of (id:="reversed.__iter__") (n:=['_','_','r','e','t','i','_','_']) (o:=['d','e','s','r','e','v','e','r']) (by kernel_rfl) vV];kernel_rfl
theorem zJ(a b:Value):argsOk "object.__init__" ⟨[a,b],[]⟩:=by
 unfold argsOk;rw[signature?_of (id:="object.__init__") (n:=['_','_','t','i','n','i','_','_']) (o:=['t','c','e','j','b','o']) (by kernel_rfl) F.owner_object];kernel_rfl
theorem mD:TypeCalled "reversed" "reversed.__new__" "object.__init__" :=
 ⟨by decide +kernel,by decide +kernel,⟨_,_,F.mro_reversed⟩,F.made_reversed,by decide +kernel,F.sub_reversed_self,TW⟩
theorem nj:typeLookup (.type "tuple") "__reversed__"=pure none:=by rw[typeLookup_type,builtinLookup_eq_fast];kernel_rfl
theorem gU(a:Value):Builtin.SmallTypes.newClass "reversed" ⟨[.type "reversed",a],[]⟩=pure (.type "reversed",[a]):=PySem.newClass_reversed a
noncomputable def ik(l:Addr)(i:Int):Obj:={ cls:=.type "reversed",data:=.fields #[.ref l,rawInt i] }
theorem Qy(l:Addr)(items:Array Value):Meets (Builtin.«reversed.__new__» ⟨[.type "reversed",.ref l],[]⟩) (λ_ R s=>s.heap.IsTuple l items/\(items.size:Int) < 2 ^ 62/\∀tk,R (.ok (.ret (.ref s.heap.objs.size))) { s with heap:=s.heap.push (ik l ((items.size:Int) - 1)),toks:=tk }) :=
 .of_wp λprog w A R s h=>by
  obtain⟨ht,hsz,h⟩:=h
  unfold Builtin.«reversed.__new__»
  refine wpAny_bind (wpAny_of_eq (gU _) ?_)
  try dsimp only
  refine wpAny_bind (wpAny_of_eq (a:=()) (by first|rfl|kernel_rfl) ?_)
  refine wpAny_bind (wpAny_of_eq (a:=()) (by first|rfl|kernel_rfl) ?_)
  try dsimp only
  refine wpAny_bind (wpAny_specialOf ht.typeIs nj ?_)
  try dsimp only
  refine wpAny_bind ?_
  show wpAny _ _ (isInstance (T2 l) (w6 "dict") >>= _) _ _ _
  refine wpAny_bind (wpAny_isInstance ht.typeIs PySem.F.sub_tuple_dict ?_)
  show wpAny _ _ (specialOf (T2 l) "__getitem__" >>= _) _ _ _
  refine wpAny_bind (wpAny_specialOf ht.typeIs PySem.F.slot_tuple_getitem.lookup ?_)
  refine wpAny_pure ?_
  show wpAny _ _ (call (.builtin "len") [.ref l] >>= _) _ _ _
  refine wpAny_bind (PyProof.Rows.len_tuple ht (by omega) ?_)
  refine wpAny_bind (wpAny_pure ?_)
  show wpAny _ _ (newObj (.type "reversed") (.fields #[T2 l,rawInt ((items.size:Int) - 1)]) >>= _) _ _ _
  exact wpAny_bind (wpAny_newObj_type (wpAny_pure ⟨_,rfl,h _⟩))
section
variable {prog:Program}{w:World}{A:Around}{E:Value->Shared->Prop}{s:Shared}
noncomputable def IsRevT(h:Heap)(it l:Addr)(i:Int):Prop:=∃o,h.get? it=some o/\o.cls=.type "reversed"/\o.data=.fields #[.ref l,rawInt i]
theorem IsRevT.typeIs{it l:Addr}{i:Int}(x:IsRevT s.heap it l i):s.TypeIs (.ref it) "reversed":=let ⟨o,ho,hc,_⟩:=x;⟨o,ho,hc⟩
theorem IsRevT.at{h h':Heap}{it l:Addr}{i:Int}(x:IsRevT h it l i)(e:∀o,h.get? it=some o->h'.get? it=some o):IsRevT h' it l i:=let ⟨o,ho,r⟩:=x;⟨o,e _ ho,r⟩
theorem jk{it l:Addr}{i:Nat}{items:Array Value}{x:Value}{Q:Option Value->Shared->Prop}(hit:IsRevT s.heap it l (i:Int))(hl:s.heap.IsTuple l items)(hx:items[i]?=some x)(hi:(i:Int) < 2 ^ 62)
  (hQ:∀h' tk,IsRevT h' it l ((i:Int) - 1)->q5 it s.heap h'->Q (some x) { s with heap:=h',toks:=tk }):wpAny (model prog w) A (pyNext (.ref it)) Q E s:=by
 obtain⟨o,ho,hc,hd⟩:=id hit
 unfold pyNext
 refine wpAny_bind (wpAny_attempt (wpAny_callSpecial?_slot (name:=Str.ofString "__next__") hit.typeIs slot_rev_next
   (wpAny_call_entry slot_rev_next hit.typeIs cJ ?_ (DJ _))))
 unfold Builtin.«reversed.__next__»
 refine wpAny_bind (wpAny_of_eq (a:=(T2 it,[])) rfl ?_)
 try dsimp only
 refine wpAny_bind (wpAny_field ho hd (x:=.ref l) rfl ?_)
 refine wpAny_bind (wpAny_field ho hd (x:=rawInt (i:Int)) rfl ?_)
 show wpAny _ _ (if (i:Int) < 0 then _ else _) _ _ s
 rw[if_neg (by omega)]
 show wpAny _ _ (specialOf (T2 l) "__getitem__" >>= _) _ _ s
 refine wpAny_bind (wpAny_specialOf hl.typeIs PySem.F.slot_tuple_getitem.lookup ?_)
 show wpAny _ _ (mkInt (i:Int) >>= _) _ _ s
 refine wpAny_bind (wpAny_mkInt ?_)
 have hlt:i < items.size:=by
  have:=Array.getElem?_eq_some_iff.mp hx
  exact this.1
 refine wpAny_bind (wpAny_attempt (PyProof.Rows.getItem_tuple (s:={ s with toks:=s.toks+1 }) hl (by omega) (by omega) (j:=i) (by unfold seqIndex?;simp;omega) hx ?_))
 show wpAny _ _ (field (.ref it) 1 >>= _) _ _ _
 refine wpAny_bind (wpAny_field (s:={ s with toks:=s.toks+1 }) ho hd (x:=rawInt (i:Int)) rfl ?_)
 show wpAny _ _ (setField (.ref it) 1 (rawInt ((i:Int) - 1)) >>= _) _ _ _
 refine wpAny_bind (wpAny_setField (s:={ s with toks:=s.toks+1 }) ho hd (by simp) (wpAny_pure ⟨x,rfl,wpAny_pure (hQ _ _ ?_ (N4 ..))⟩))
 exact ⟨_,Y2 _ ho (Y6 (D5 hd _)),(Obj.cls_mapFields ..).trans hc,by
   rw[D5 hd];simp⟩
theorem Ry{it l:Addr}{Q:Option Value->Shared->Prop}(hh:A.handled=none)(hit:IsRevT s.heap it l (-1))
  (hQ:∀h',L9 it s.heap h'->Q none { s with heap:=h' }):wpAny (model prog w) A (pyNext (.ref it)) Q E s:=by
 obtain⟨o,ho,hc,hd⟩:=id hit
 unfold pyNext
 refine wpAny_bind (wpAny_attempt (wpAny_callSpecial?_slot (name:=Str.ofString "__next__") hit.typeIs slot_rev_next
   (wpAny_call_entry slot_rev_next hit.typeIs cJ ?_ (DJ _))))
 unfold Builtin.«reversed.__next__»
 refine wpAny_bind (wpAny_of_eq (a:=(T2 it,[])) rfl ?_)
 try dsimp only
 refine wpAny_bind (wpAny_field ho hd (x:=.ref l) rfl ?_)
 refine wpAny_bind (wpAny_field ho hd (x:=rawInt (-1)) rfl ?_)
 show wpAny _ _ (if (-1:Int) < 0 then _ else _) _ _ s
 rw[if_pos (by decide)]
 refine wpAny_bind (wpAny_rule ?_)
 refine wpAny_bind ?_
 show wpAny _ _ (setField (.ref it) 1 (rawInt (-1)) >>= λ_=>setField (.ref it) 0 .none) _ _ _
 refine wpAny_bind (wpAny_setField ho hd (by simp) ?_)
 refine wpAny_setField (Y2 _ ho (Y6 (D5 hd _))) (D5 hd _) (by simp) ?_
 refine wpAny_bind ?_
 show wpAny _ _ (newExc (.type "StopIteration") [] >>= _) _ _ _
 refine wpAny_bind ?_
 simp only[newExc,newTuple]
 refine wpAny_bind (wpAny_newObj_type ?_ (by size_fits))
 refine wpAny_bind (m:=firstArgMember _ _) (wpAny_of_eq (a:=o6) (by first|rfl|(simp only[firstArgMember];rfl)) ?_)
 refine wpAny_newObj_type ?_ (by size_fits)
 simp only[raiseNew]
 refine wpAny_bind (wpAny_handled ?_)
 first|rw[show A.in1.handled=none from hh]|rw[hh]
 refine wpAny_bind (wpAny_pure (wpAny_throw ?_))
 refine wpAny_bind (wpAny_isInstance (T:="StopIteration") (b:=true) ⟨_,J0 _ rfl,rfl⟩ isSubtype_stop ?_)
 refine wpAny_pure (hQ _ ?_)
 refine J9 (J9 ?_ _) _
 exact λb o hb e=>(N4 ..).extBut b o hb ((N4 ..).extBut b o hb e)
theorem EG{it l:Addr}{i:Int}{Q:Value->Shared->Prop}(hit:IsRevT s.heap it l i)(h:Q (.ref it) s):wpAny (model prog w) A (pyIter (.ref it)) Q E s:=by
 refine wpAny_pyIter_slot hit.typeIs CJ (wpAny_call_entry CJ hit.typeIs XY ?_ (UW _))
 show wpAny _ _ (ret (.ref it)) _ _ s
 exact wpAny_pure ⟨_,rfl,"reversed",_,hit.typeIs,slot_rev_next.lookup,h⟩
end
noncomputable def zP(K:A0)(a:Addr)(n:Nat):It :=
 ⟨λi H=>∃xs x,SqT K H a xs/\xs.length=n/\i < n/\xs[n - 1 - i]?=some x,λi H x H'=>H'=H/\∀xs,SqT K H a xs->xs[n - 1 - i]?=some x,λi H=>i=n⟩
theorem mk{P:Program}{w:World}{K:A0}{tg:Expr}(a it:Addr)(n:Nat)(hn:n < 2 ^ 62):Turn P w K tg (zP K a n) [it] it (λi h=>IsRevT h it a ((n:Int) - 1 - i)) where
 mem:=by simp
 obj:=λi h st b hb=>by
  have e:b=it:=by simpa using hb
  subst e
  obtain⟨o,e,c,d⟩:=st
  exact ⟨o,e,λv z=>by rw[d]at z;cases z⟩
 keep:=λi h h' st k=>st.at λo e=>k it (by simp) o e
 item:=by
  intro X hP hw hK hc i pins s σ H E I hf st hg
  subst hP hw hK
  obtain⟨xs,x,hq,hl,hi,hx⟩:=hg
  obtain⟨its,rv,p,hz⟩:=I.tuple hq
  obtain⟨u,hu,ru⟩:=rv.get hx
  obtain⟨f0,f1,f2,f3,f4,f5⟩:=hf it (by simp)
  have e1:(n:Int) - 1 - i=((n - 1 - i:Nat):Int):=by omega
  rw[e1]at st
  refine jk st (show s.heap.IsTuple a its.toArray from p) (x:=u) (by simpa using hu) (by omega) λh' tk st' sb=>?_
  have I1:Inv X pins σ H { s with heap:=h',toks:=tk }:=I.turned (λb o hb e=>(sb.2 b hb).trans e) f0 f1 f3 f4 f5
  obtain⟨o,e,c,d⟩:=id st'
  refine ⟨u,rfl,rq (s:={ s with heap:=h',toks:=tk }) e c d (by decide) ⟨x,H,I1,ru,⟨rfl,λys hy=>by rw[I.tuple_inj hy hq];exact hx⟩,?_,λb hb=>(hf b hb).1⟩⟩
  have e2:(n:Int) - 1 - ((i+1:Nat):Int)=((n - 1 - i:Nat):Int) - 1:=by omega
  show IsRevT h' it a ((n:Int) - 1 - ((i+1:Nat):Int))
  rw[e2];exact st'
 done:=by
  intro X hP hw hK hc i pins s σ H E I hf st hg
  subst hP hw hK
  obtain⟨f0,f1,f2,f3,f4,f5⟩:=hf it (by simp)
  have e1:(n:Int) - 1 - i=-1:=by have:i=n:=hg;omega
  rw[e1]at st
  exact Ry (I.ok.hd hc) st λh' eb=>⟨rfl,I.turned (t':=s.toks) (λb o hb e=>eb b o hb e) f0 f1 f3 f4 f5⟩
 self:=λ_ _ _ _ _ st h=>EG st h
noncomputable def kE(K:A0)(ta:TA):TI:=λσ H R=>ta σ H λvs H1=>∃(a:Addr) (xs:List V),vs=[.ref a]/\SqT K H1 a xs/\R (zP K a xs.length) H1
theorem nk:bootBuiltins "reversed"=some (.type "reversed"):=by decide +kernel
theorem lE{X:Cx}{K:A0}{tg a:Expr}{ta:TA}{p pos:Pos}(h:X.K=K)(hg:Gl X "reversed")(hm:X.mg "reversed"=none)(ha:PA X [a] ta)(hs:starEach [a] X.env=[(false,eval a X.env)]:=by rfl):PI X tg (.Call (.Name "reversed" p) [a] [] pos) (kE K ta):=by
 subst h
 intro pins s σ H R I h
 refine Call_ (fZ I hg hm nk (O2 (fX (ha pos pins s σ H _ I h) λus s1 ⟨vs,H1,I1,r1,q1⟩=>?_) hs rfl))
 obtain⟨l,xs,e,hq,q⟩:=q1
 subst e
 obtain⟨u,rfl,ru⟩:=PZ r1
 cases ru
 obtain⟨its,rv,pt,hz⟩:=I1.tuple hq
 have hlen:=rv.length
 have hzz:xs.length<=16777216:=hz
 refine callType_new mD (by decide) (F.typeCall_reversed_1 _) (F.newCall_reversed_1 _) (λobj=>zJ obj _) F.entry_reversed_new (Qy l its.toArray) ⟨pt,by rw[Q0];omega,λtk=>?_⟩
 show _/\_
 have gt:(s1.heap.push (ik l ((its.toArray.size:Int) - 1))).get? s1.heap.objs.size=some (ik l ((its.toArray.size:Int) - 1)):=J0 _ rfl
 have ge:IsRevT (s1.heap.push (ik l ((its.toArray.size:Int) - 1))) s1.heap.objs.size l ((xs.length:Int) - 1 - (0:Nat)):=⟨_,gt,rfl,by
   have:(xs.length:Int) - 1 - (0:Nat)=(its.toArray.size:Int) - 1:=by rw[Q0];omega
   rw[this];rfl⟩
 refine ⟨⟨_,gt,rfl⟩,EG (s:={ s1 with heap:=s1.heap.push (ik l ((its.toArray.size:Int) - 1)),toks:=tk }) ge ?_⟩
 refine ⟨s1.heap.objs.size,[s1.heap.objs.size],_,_,H1,rfl,I1.kept λb o e=>g0 _ e,mk l _ xs.length (by omega),ge,λb hb=>?_,q⟩
 have e:b=s1.heap.objs.size:=by simpa using hb
 subst e
 exact I1.fpOk (G0 _) (I1.hok.fresh (G0 _))
open PySem PySem.Spec
noncomputable abbrev xO(a C:Addr):HO:=.ext λh=>∃o vs,h.get? a=some o/\o.cls=.ref C/\o.data=.fields vs
end L2
namespace L3
open PySem PySem.Spec L2
noncomputable abbrev D:=PyData
noncomputable abbrev Fg:=A0
noncomputable def Sub(F H:Hp):Prop:=∀a o,F a=some o->H a=some o
theorem Sub.refl(H:Hp):Sub H H:=λ_ _ h=>h
theorem Sub.trans{A B C:Hp}(h:Sub A B)(k:Sub B C):Sub A C:=λa o e=>k a o (h a o e)
theorem Sub.new{F:Hp}{a:Addr}{o:HO}(h:F a=none):Sub F (OQ F a o):=λb u e=>by rw[dQ (gQ e h)];exact e
theorem Sub.rd{F H:Hp}{a:Addr}{u:HO}(s:Sub F H):Rd F a u->Rd H a u
 | .inl h=>.inl (s _ _ h)
 | .inr ⟨o,h⟩=>.inr ⟨o,s _ _ h⟩
theorem Sub.sql{K:Fg}{F H:Hp}{a:Addr}{xs:List V}(s:Sub F H):SqL K F a xs->SqL K H a xs
 | .inl h=>.inl (s.rd h)
 | .inr h=>.inr h
noncomputable def GK:IQ->D
 | .inl i=>.int i
 | .inr x=>.str x
noncomputable abbrev YJ(ns:List Int):D:=.dict [(.none,.list (ns.map q0))]
noncomputable abbrev bM(C:Addr):D:=.dict [(.bool true,.int (C:Nat))]
mutual
inductive Da (K:Fg) (F:Hp):V->D->Prop
 | non:Da K F .non .none
 | bl (b):Da K F (.bl b) (.bool b)
 | int (i):Da K F (.int i) (.int i)
 | str (x):Da K F (.str x) (.str x)
 | lst {a xs ds}:F a=some (.lst xs)->DaAll K F xs ds->Da K F (.ref a) (.list ds)
 | tup {a xs ds}:F a=some (.tup xs)->DaAll K F xs ds->Da K F (.ref a) (.tuple ds)
 | dk {a kvs es}:Rd F a (.dK kvs)->DaKV K F kvs es->Da K F (.ref a) (.dict es)
 | dt {a kvs es}:Rd F a (.dT kvs)->DaKT K F kvs es->Da K F (.ref a) (.dict es)
 | scr {a ns}:SqL K F a (ns.map V.int)->Da K F (.ref a) (YJ ns)
 | exc {a C}:F a=some (xO a C)->Da K F (.ref a) (bM C)
inductive DaAll (K:Fg) (F:Hp):List V->List D->Prop
 | nil:DaAll K F [] []
 | cons {x xs d ds}:Da K F x d->DaAll K F xs ds->DaAll K F (x :: xs) (d :: ds)
inductive DaKV (K:Fg) (F:Hp):List (IQ×V)->List (D×D)->Prop
 | nil:DaKV K F [] []
 | cons {k v d kvs es}:Da K F v d->DaKV K F kvs es->DaKV K F ((k,v) :: kvs) ((GK k,d) :: es)
inductive DaKT (K:Fg) (F:Hp):List (List IQ×V)->List (D×D)->Prop
 | nil:DaKT K F [] []
 | cons {ks v d kvs es}:Da K F v d->DaKT K F kvs es->DaKT K F ((ks,v) :: kvs) ((.tuple (ks.map GK),d) :: es)
end
section
variable {K:Fg}{F F':Hp}
mutual
theorem Da.mono(s:Sub F F'):∀{v:V}{d:D},Da K F v d->Da K F' v d
 | _,_,.non=>.non
 | _,_,.bl b=>.bl b
 | _,_,.int i=>.int i
 | _,_,.str x=>.str x
 | _,_,.lst h t=>.lst (s _ _ h) (DaAll.mono s t)
 | _,_,.tup h t=>.tup (s _ _ h) (DaAll.mono s t)
 | _,_,.dk h t=>.dk (s.rd h) (DaKV.mono s t)
 | _,_,.dt h t=>.dt (s.rd h) (DaKT.mono s t)
 | _,_,.scr h=>.scr (s.sql h)
 | _,_,.exc h=>.exc (s _ _ h)
theorem DaAll.mono(s:Sub F F'):∀{xs:List V}{ds:List D},DaAll K F xs ds->DaAll K F' xs ds
 | _,_,.nil=>.nil
 | _,_,.cons h t=>.cons (Da.mono s h) (DaAll.mono s t)
theorem DaKV.mono(s:Sub F F'):∀{xs:List (IQ×V)}{ds:List (D×D)},DaKV K F xs ds->DaKV K F' xs ds
 | _,_,.nil=>.nil
 | _,_,.cons h t=>.cons (Da.mono s h) (DaKV.mono s t)
theorem DaKT.mono(s:Sub F F'):∀{xs:List (List IQ×V)}{ds:List (D×D)},DaKT K F xs ds->DaKT K F' xs ds
 | _,_,.nil=>.nil
 | _,_,.cons h t=>.cons (Da.mono s h) (DaKT.mono s t)
end
theorem DaAll.length:∀{xs:List V}{ds:List D},DaAll K F xs ds->xs.length=ds.length
 | _,_,.nil=>rfl
 | _,_,.cons _ t=>by simp[DaAll.length t]
theorem DaAll.get:∀{xs:List V}{ds:List D}{i:Nat}{d:D},DaAll K F xs ds->ds[i]?=some d->∃v,xs[i]?=some v/\Da K F v d
 | _,_,_,_,.nil,e=>by simp at e
 | _,_,0,_,.cons h _,e=>by simp at e;subst e;exact ⟨_,rfl,h⟩
 | _,_,i+1,_,.cons _ t,e=>by
  obtain⟨v,a,b⟩:=DaAll.get (i:=i) t (by simpa using e)
  exact ⟨v,by simpa using a,b⟩
theorem DaAll.append:∀{xs ys:List V}{ds es:List D},DaAll K F xs ds->DaAll K F ys es->DaAll K F (xs++ys) (ds++es)
 | _,_,_,_,.nil,s=>s
 | _,_,_,_,.cons h t,s=>.cons h (DaAll.append t s)
theorem DaAll.set{v:V}{d:D}(h:Da K F v d):∀{xs:List V}{ds:List D} (i:Nat),DaAll K F xs ds->DaAll K F (xs.set i v) (ds.set i d)
 | _,_,_,.nil=>.nil
 | _,_,0,.cons _ t=>.cons h t
 | _,_,i+1,.cons q t=>.cons q (DaAll.set h i t)
theorem DaAll.take:∀{xs:List V}{ds:List D} (n:Nat),DaAll K F xs ds->DaAll K F (xs.take n) (ds.take n)
 | _,_,0,_=>.nil
 | _,_,_+1,.nil=>.nil
 | _,_,n+1,.cons h t=>.cons h (DaAll.take n t)
theorem DaAll.drop:∀{xs:List V}{ds:List D} (n:Nat),DaAll K F xs ds->DaAll K F (xs.drop n) (ds.drop n)
 | _,_,0,r=>r
 | _,_,_+1,.nil=>.nil
 | _,_,n+1,.cons _ t=>DaAll.drop n t
theorem DaAll.rep{xs:List V}{ds:List D}(h:DaAll K F xs ds):∀k:Nat,DaAll K F (Z1 k xs).flatten (Z1 k ds).flatten
 | 0=>.nil
 | k+1=>by rw[Y3,Y3,Q5,Q5];exact h.append (DaAll.rep h k)
theorem DaAll.ints:∀ns:List Int,DaAll K F (ns.map V.int) (ns.map q0)
 | []=>.nil
 | n :: ns=>.cons (.int n) (DaAll.ints ns)
end
inductive Sl where
 | fz (d:D)|ow (d:D)|io (d:D)
noncomputable def Sl.d:Sl->D
 | .fz d=>d
 | .ow d=>d
 | .io d=>d
noncomputable def PQ:Sl->Bool
 | .fz _=>false
 | .ow _=>true
 | .io _=>true
noncomputable abbrev Ev:=List (Option Sl)
noncomputable def Own1(K:Fg)(F:Hp):HO->D->Prop
 | .lst xs,.list ds=>DaAll K F xs ds
 | .dK kvs,.dict es=>DaKV K F kvs es
 | .dT kvs,.dict es=>DaKT K F kvs es
 | _,_=>False
section
variable {K:Fg}{F F':Hp}{o:HO}{d:D}{a:Addr}
theorem Own1.mono(s:Sub F F')(h:Own1 K F o d):Own1 K F' o d:=by
 cases o<;>cases d<;>first|exact DaAll.mono s h|exact DaKV.mono s h|exact DaKT.mono s h|exact h.elim
theorem Own1.da(h:Own1 K F o d)(e:F a=some o):Da K F (.ref a) d:=by
 cases o<;>cases d<;>first|exact .lst e h|exact .dk (.inl e) h|exact .dt (.inl e) h|exact h.elim
end
structure Gh where
 H0:Hp
 F0:Hp
 io:Nat->Option Addr
structure Rel(K:Fg)(G:Gh)(F:Hp)(σ:St)(H:Hp)(ρ:Ev):Prop where
 len:σ.length=ρ.length
 sub:Sub F H
 sub0:Sub G.F0 F
 fn:∀a o,F a=some o->G.F0 a=some o\/G.H0 a=none
 keep:∀a o,G.H0 a=some o->(∀i,G.io i≠some a)->H a=some o
 fz:∀(i:Nat) (d:D),ρ[i]?=some (some (Sl.fz d))->∃v,σ[i]?=some (some v)/\Da K F v d
 ow:∀(i:Nat) (s:Sl),ρ[i]?=some (some s)->PQ s=true->∃a o,σ[i]?=some (some (V.ref a))/\F a=none/\H a=some o/\Own1 K F o s.d
 new:∀(i:Nat) (d:D) (a:Addr),ρ[i]?=some (some (Sl.ow d))->σ[i]?=some (some (V.ref a))->G.H0 a=none
 io:∀(i:Nat) (a:Addr),G.io i=some a->∃d,ρ[i]?=some (some (Sl.io d))/\σ[i]?=some (some (V.ref a))
 ioi:∀(i:Nat) (d:D),ρ[i]?=some (some (Sl.io d))->∃a,G.io i=some a
 ap:∀(i j:Nat) (s t:Sl) (a:Addr),ρ[i]?=some (some s)->PQ s=true->ρ[j]?=some (some t)->PQ t=true->σ[i]?=some (some (V.ref a))->σ[j]?=some (some (V.ref a))->i=j
noncomputable def Res(K:Fg)(G:Gh)(F H:Hp)(σ:St)(ρ:Ev)(v:V):Sl->Prop
 | .fz d=>Da K F v d
 | .ow d=>∃a o,v=.ref a/\F a=none/\H a=some o/\Own1 K F o d/\G.H0 a=none/\∀(i:Nat) (s:Sl),ρ[i]?=some (some s)->PQ s=true->σ[i]?≠some (some (V.ref a))
 | .io _=>False
section
variable {K:Fg}{G:Gh}{F F' H:Hp}{σ:St}{ρ:Ev}{a:Addr}{o:HO}{d:D}{v:V}{s:Sl}
theorem Rel.bound(R:Rel K G F σ H ρ){i:Nat}(h:ρ[i]?=some (some s)):∃v,σ[i]?=some (some v):=by
 cases s with
 | fz d=>obtain⟨v,e,_⟩:=R.fz i d h;exact ⟨v,e⟩
 | ow d=>obtain⟨a,o,e,_⟩:=R.ow i _ h rfl;exact ⟨_,e⟩
 | io d=>obtain⟨a,o,e,_⟩:=R.ow i _ h rfl;exact ⟨_,e⟩
theorem Rel.h0(R:Rel K G F σ H ρ)(h:H a=none):G.H0 a=none:=by
 cases e:G.H0 a with
 | none=>rfl
 | some o =>
  by_cases q:∃i,G.io i=some a
  ·obtain⟨i,q⟩:=q
   obtain⟨d,h1,h2⟩:=R.io i a q
   obtain⟨a',o',h3,_,h4,_⟩:=R.ow i _ h1 rfl
   rw[h2]at h3
   cases h3
   rw[h]at h4;cases h4
  ·have:=R.keep a o e λi z=>q ⟨i,z⟩
   rw[h]at this;cases this
theorem Rel.f0(R:Rel K G F σ H ρ)(h:H a=none):F a=none:=by
 cases e:F a with
 | none=>rfl
 | some o=>rw[R.sub a o e]at h;cases h
theorem Rel.laid(R:Rel K G F σ H ρ)(h:H a=none):Rel K G F σ (OQ H a o) ρ where
 len:=R.len
 sub:=λb u e=>by rw[dQ (gQ (R.sub b u e) h)];exact R.sub b u e
 sub0:=R.sub0
 fn:=R.fn
 keep:=λb u e n=>by rw[dQ (gQ (R.keep b u e n) h)];exact R.keep b u e n
 fz:=R.fz
 ow:=λi s e w=>by
  obtain⟨a',o',h1,h2,h3,h4⟩:=R.ow i s e w
  exact ⟨a',o',h1,h2,by rw[dQ (gQ h3 h)];exact h3,h4⟩
 new:=R.new
 io:=R.io
 ioi:=R.ioi
 ap:=R.ap
theorem Rel.grow(R:Rel K G F σ H ρ)(h0:G.H0 a=none)(h:H a=some o)(hn:∀(i:Nat) (s:Sl),ρ[i]?=some (some s)->PQ s=true->σ[i]?≠some (some (V.ref a))):Sub F (OQ F a o)/\Rel K G (OQ F a o) σ H ρ:=by
 have sb:Sub F (OQ F a o):=λb u e=>by
  by_cases z:b=a
  ·subst z;rw[jQ,<- h];exact R.sub _ _ e
  ·rw[dQ z];exact e
 refine ⟨sb,R.len,λb u e=>?_,R.sub0.trans sb,λb u e=>?_,R.keep,λi d e=>?_,λi s e w=>?_,R.new,R.io,R.ioi,R.ap⟩
 ·by_cases z:b=a
  ·subst z;rw[jQ]at e;rw[h];exact e
  ·rw[dQ z]at e;exact R.sub _ _ e
 ·by_cases z:b=a
  ·subst z;exact .inr h0
  ·rw[dQ z]at e;exact R.fn _ _ e
 ·obtain⟨v,h1,h2⟩:=R.fz i d e
  exact ⟨v,h1,h2.mono sb⟩
 ·obtain⟨a',o',h1,h2,h3,h4⟩:=R.ow i s e w
  have z:a'≠a:=λz=>hn i s e w (by rw[h1,z])
  exact ⟨a',o',h1,by rw[dQ z];exact h2,h3,h4.mono sb⟩
theorem Res.frz(R:Rel K G F σ H ρ)(r:Res K G F H σ ρ v s):∃F',Sub F F'/\Rel K G F' σ H ρ/\Da K F' v s.d:=by
 cases s with
 | fz d=>exact ⟨F,Sub.refl _,R,r⟩
 | ow d =>
  obtain⟨a,o,rfl,h1,h2,h3,h4,h5⟩:=r
  obtain⟨sb,R'⟩:=R.grow h4 h2 h5
  exact ⟨_,sb,R',(h3.mono sb).da jQ⟩
 | io d=>exact r.elim
theorem Rel.newOw(R:Rel K G F σ H ρ)(h:H a=none)(w:Own1 K F o d):Rel K G F σ (OQ H a o) ρ/\Res K G F (OQ H a o) σ ρ (.ref a) (.ow d):=by
 refine ⟨R.laid h,a,o,rfl,R.f0 h,jQ,w,R.h0 h,λi s e w z=>?_⟩
 obtain⟨a',o',h1,h2,h3,h4⟩:=R.ow i s e w
 rw[z]at h1
 cases h1
 rw[h]at h3;cases h3
theorem Rel.newTup(R:Rel K G F σ H ρ){xs:List V}{ds:List D}(h:H a=none)(w:DaAll K F xs ds) :
  Sub F (OQ F a (.tup xs))/\Rel K G (OQ F a (.tup xs)) σ (OQ H a (.tup xs)) ρ/\Da K (OQ F a (.tup xs)) (.ref a) (.tuple ds):=by
 have R1:Rel K G F σ (OQ H a (.tup xs)) ρ:=R.laid h
 obtain⟨sb,R2⟩:=R1.grow (a:=a) (o:=.tup xs) (R.h0 h) jQ λi s e w z=>by
  obtain⟨a',o',h1,h2,h3,h4⟩:=R.ow i s e w
  rw[z]at h1
  cases h1
  rw[h]at h3;cases h3
 exact ⟨sb,R2,.tup jQ (w.mono sb)⟩
noncomputable def Sl.put:Sl->D->Sl
 | .fz _,d=>.fz d
 | .ow _,d=>.ow d
 | .io _,d=>.io d
theorem mQ{α:Type}{l:List α}{i j:Nat}{x y:α}(h:(l.set i x)[j]?=some y):(j=i/\y=x)\/(j≠i/\l[j]?=some y):=by
 by_cases z:i=j
 ·subst z
  rw[List.getElem?_set]at h
  simp at h
  exact .inl ⟨rfl,h.2.symm⟩
 ·rw[P0 z]at h
  exact .inr ⟨λq=>z q.symm,h⟩
theorem bZ{α:Type}{l:List α}{i:Nat}{x:α}(h:i < l.length):(l.set i x)[i]?=some x:=by simp[h]
theorem mX{α:Type}{l:List α}{i:Nat}{x:α}(h:l[i]?=some x):i < l.length:=(J1.mp h).1
theorem Rel.change(R:Rel K G F σ H ρ){i:Nat}{o':HO}{d':D}(h:ρ[i]?=some (some s))(w:PQ s=true)(ha:σ[i]?=some (some (V.ref a)))(q:Own1 K F o' d') :
  Rel K G F σ (OQ H a o') (ρ.set i (some (s.put d'))):=by
 obtain⟨a0,o0,h1,h2,h3,h4⟩:=R.ow i s h w
 rw[ha]at h1;cases h1
 have sw:PQ (s.put d')=true:=by cases s<;>first|rfl|cases w
 have hl:=mX h
 refine ⟨by rw[P4];exact R.len,λb u e=>?_,R.sub0,R.fn,λb u e n=>?_,λj d e=>?_,λj t e wt=>?_,λj d b e eb=>?_,λj b e=>?_,λj d e=>?_,λj k t u b e1 w1 e2 w2 e3 e4=>?_⟩
 ·have z:b≠a:=λz=>by subst z;rw[h2]at e;cases e
  rw[dQ z];exact R.sub _ _ e
 ·by_cases z:b=a
  ·subst z
   cases s with
   | fz d=>cases w
   | ow d=>rw[R.new i d b h ha]at e;cases e
   | io d =>
    obtain⟨a',e'⟩:=R.ioi i d h
    obtain⟨d',_,e2⟩:=R.io i a' e'
    rw[ha]at e2;cases e2
    exact absurd e' (n i)
  ·rw[dQ z];exact R.keep _ _ e n
 ·rcases mQ e with⟨rfl,z⟩|⟨n,z⟩
  ·cases s<;>simp[Sl.put,PQ]at z w
  ·exact R.fz j d z
 ·rcases mQ e with⟨rfl,z⟩|⟨n,z⟩
  ·cases z
   exact ⟨a,o',ha,h2,jQ,by cases s<;>first|exact q|cases w⟩
  ·obtain⟨b,u,g1,g2,g3,g4⟩:=R.ow j t z wt
   have nb:b≠a:=λx=>n (R.ap j i t s a z wt h w (by rw[g1,x]) ha)
   exact ⟨b,u,g1,g2,by rw[dQ nb];exact g3,g4⟩
 ·rcases mQ e with⟨rfl,z⟩|⟨n,z⟩
  ·cases s with
   | fz d=>cases w
   | ow d0=>exact R.new j d0 b h eb
   | io d=>cases z
  ·exact R.new j d b z eb
 ·obtain⟨d,e1,e2⟩:=R.io j b e
  by_cases z:j=i
  ·subst z
   rw[h]at e1
   cases e1
   exact ⟨d',by rw[bZ hl];rfl,e2⟩
  ·exact ⟨d,by rw[P0 (S1 z)];exact e1,e2⟩
 ·rcases mQ e with⟨rfl,z⟩|⟨n,z⟩
  ·cases s with
   | fz d=>cases w
   | ow d0=>cases z
   | io d0=>exact R.ioi j d0 h
  ·exact R.ioi j d z
 ·have f:∀(j:Nat) (t:Sl),(ρ.set i (some (s.put d')))[j]?=some (some t)->PQ t=true->∃t',ρ[j]?=some (some t')/\PQ t'=true:=λj t e wt=>by
   rcases mQ e with⟨rfl,z⟩|⟨n,z⟩
   ·exact ⟨s,h,w⟩
   ·exact ⟨t,z,wt⟩
  obtain⟨t',e1',w1'⟩:=f j t e1 w1
  obtain⟨u',e2',w2'⟩:=f k u e2 w2
  exact R.ap j k t' u' b e1' w1' e2' w2' e3 e4
theorem Rel.forget(R:Rel K G F σ H ρ){i:Nat}(h:ρ[i]?=some (some (Sl.ow d))):Rel K G F σ H (ρ.set i none):=by
 refine ⟨by rw[P4];exact R.len,R.sub,R.sub0,R.fn,R.keep,λj d e=>?_,λj t e wt=>?_,λj d b e eb=>?_,λj b e=>?_,λj d e=>?_,λj k t u b e1 w1 e2 w2 e3 e4=>?_⟩
 ·rcases mQ e with⟨rfl,z⟩|⟨n,z⟩
  ·cases z
  ·exact R.fz j d z
 ·rcases mQ e with⟨rfl,z⟩|⟨n,z⟩
  ·cases z
  ·exact R.ow j t z wt
 ·rcases mQ e with⟨rfl,z⟩|⟨n,z⟩
  ·cases z
  ·exact R.new j d b z eb
 ·obtain⟨d',e1,e2⟩:=R.io j b e
  have n:i≠j:=λz=>by subst z;rw[h]at e1;cases e1
  exact ⟨d',by rw[P0 n];exact e1,e2⟩
 ·rcases mQ e with⟨rfl,z⟩|⟨n,z⟩
  ·cases z
  ·exact R.ioi j d z
 ·rcases mQ e1 with⟨rfl,z⟩|⟨n,z⟩
  ·cases z
  ·rcases mQ e2 with⟨rfl,z'⟩|⟨n',z'⟩
   ·cases z'
   ·exact R.ap j k t u b z w1 z' w2 e3 e4
theorem Rel.freeze(R:Rel K G F σ H ρ){i:Nat}(h:ρ[i]?=some (some (Sl.ow d))):∃F' v,Sub F F'/\Rel K G F' σ H (ρ.set i (some (Sl.fz d)))/\σ[i]?=some (some v)/\Da K F' v d:=by
 obtain⟨a,o,h1,h2,h3,h4⟩:=R.ow i _ h rfl
 have hl:=mX h
 have R1:=R.forget h
 have hn:∀(j:Nat) (s:Sl),(ρ.set i none)[j]?=some (some s)->PQ s=true->σ[j]?≠some (some (V.ref a)):=λj s e w z=>by
  rcases mQ e with⟨rfl,q⟩|⟨n,q⟩
  ·cases q
  ·exact n (R.ap j i s _ a q w h rfl z h1)
 obtain⟨sb,R2⟩:=R1.grow (R.new i d a h h1) h3 hn
 have dd:Da K (OQ F a o) (.ref a) d:=(h4.mono sb).da jQ
 refine ⟨_,_,sb,?_,h1,dd⟩
 refine ⟨by rw[P4];exact R.len,R2.sub,R2.sub0,R2.fn,R2.keep,λj d' e=>?_,λj t e wt=>?_,λj d b e eb=>?_,λj b e=>?_,λj d e=>?_,λj k t u b e1 w1 e2 w2 e3 e4=>?_⟩
 ·rcases mQ e with⟨rfl,z⟩|⟨n,z⟩
  ·cases z;exact ⟨_,h1,dd⟩
  ·exact R2.fz j d' (by rw[P0 (S1 n)];exact z)
 ·rcases mQ e with⟨rfl,z⟩|⟨n,z⟩
  ·cases z;cases wt
  ·exact R2.ow j t (by rw[P0 (S1 n)];exact z) wt
 ·rcases mQ e with⟨rfl,z⟩|⟨n,z⟩
  ·cases z
  ·exact R.new j d b z eb
 ·obtain⟨d',e1,e2⟩:=R.io j b e
  have n:i≠j:=λz=>by subst z;rw[h]at e1;cases e1
  exact ⟨d',by rw[P0 n];exact e1,e2⟩
 ·rcases mQ e with⟨rfl,z⟩|⟨n,z⟩
  ·cases z
  ·exact R.ioi j d z
 ·rcases mQ e1 with⟨rfl,z⟩|⟨n,z⟩
  ·cases z;cases w1
  ·rcases mQ e2 with⟨rfl,z'⟩|⟨n',z'⟩
   ·cases z';cases w2
   ·exact R.ap j k t u b z w1 z' w2 e3 e4
theorem Rel.forgetRes(R:Rel K G F σ H ρ){i:Nat}(h:ρ[i]?=some (some (Sl.ow d))):∃v,σ[i]?=some (some v)/\Res K G F H σ (ρ.set i none) v (.ow d):=by
 obtain⟨a,o,h1,h2,h3,h4⟩:=R.ow i _ h rfl
 refine ⟨_,h1,a,o,rfl,h2,h3,h4,R.new i d a h h1,λj s e w z=>?_⟩
 rcases mQ e with⟨rfl,q⟩|⟨n,q⟩
 ·cases q
 ·exact n (R.ap j i s _ a q w h rfl z h1)
noncomputable def hU(ρ:Ev)(i:Nat):Prop:=match ρ[i]? with
 | some (some (Sl.io _))=>False
 | some _=>True
 | none=>False
theorem Rel.asg(R:Rel K G F σ H ρ){i:Nat}(hi:hU ρ i)(r:Res K G F H σ ρ v s):Rel K G F (σ.set i (some v)) H (ρ.set i (some s)):=by
 have hl:i < ρ.length:=by
  cases e:ρ[i]? with
  | none=>unfold hU at hi;rw[e]at hi;exact hi.elim
  | some x=>exact mX e
 have hl':i < σ.length:=by rw[R.len];exact hl
 have ni:∀d,ρ[i]?≠some (some (Sl.io d)):=λd e=>by unfold hU at hi;rw[e]at hi;exact hi
 refine ⟨by rw[P4,P4];exact R.len,R.sub,R.sub0,R.fn,R.keep,λj d e=>?_,λj t e wt=>?_,λj d b e eb=>?_,λj b e=>?_,λj d e=>?_,λj k t u b e1 w1 e2 w2 e3 e4=>?_⟩
 ·rcases mQ e with⟨rfl,z⟩|⟨n,z⟩
  ·cases z;exact ⟨v,bZ hl',r⟩
  ·rw[P0 (S1 n)];exact R.fz j d z
 ·rcases mQ e with⟨rfl,z⟩|⟨n,z⟩
  ·cases z
   cases s with
   | fz d=>cases wt
   | ow d =>
    obtain⟨a,o,rfl,h1,h2,h3,_⟩:=r
    exact ⟨a,o,bZ hl',h1,h2,h3⟩
   | io d=>exact r.elim
  ·rw[P0 (S1 n)];exact R.ow j t z wt
 ·rcases mQ e with⟨rfl,z⟩|⟨n,z⟩
  ·cases z
   obtain⟨a,o,rfl,h1,h2,h3,h4,_⟩:=r
   rw[bZ hl']at eb;cases eb
   exact h4
  ·rw[P0 (S1 n)]at eb;exact R.new j d b z eb
 ·obtain⟨d,e1,e2⟩:=R.io j b e
  have n:i≠j:=λz=>by subst z;exact ni d e1
  exact ⟨d,by rw[P0 n];exact e1,by rw[P0 n];exact e2⟩
 ·rcases mQ e with⟨rfl,z⟩|⟨n,z⟩
  ·cases z;exact r.elim
  ·exact R.ioi j d z
 ·have own:∀(j:Nat) (t:Sl),j≠i->ρ[j]?=some (some t)->PQ t=true->(σ.set i (some v))[j]?=some (some (V.ref b))->s.d=s.d->PQ s=true->v=.ref b->False:=λj t n e w eb _ ws ev=>by
   subst ev
   cases s with
   | fz d=>cases ws
   | io d=>exact r
   | ow d =>
    obtain⟨a,o,z,h1,h2,h3,h4,h5⟩:=r
    cases z
    rw[P0 (S1 n)]at eb
    exact h5 j t e w eb
  rcases mQ e1 with⟨rfl,z⟩|⟨n,z⟩
  ·rcases mQ e2 with⟨rfl,z'⟩|⟨n',z'⟩
   ·rfl
   ·rw[bZ hl']at e3;cases e3
    cases z
    exact (own k u n' z' w2 e4 rfl w1 rfl).elim
  ·rcases mQ e2 with⟨rfl,z'⟩|⟨n',z'⟩
   ·rw[bZ hl']at e4;cases e4
    cases z'
    exact (own j t n z w1 e3 rfl w2 rfl).elim
   ·rw[P0 (S1 n)]at e3
    rw[P0 (S1 n')]at e4
    exact R.ap j k t u b z w1 z' w2 e3 e4
end
noncomputable abbrev TD:=Ev->(Sl->Ev->Prop)->Prop
noncomputable abbrev pY:=Ev->(Bool->Ev->Prop)->Prop
noncomputable abbrev iU:=Sum Nat D
noncomputable abbrev AD:=Sum Nat TD
noncomputable def lift(K:Fg)(td:TD):TE:=λσ H Q=>∃(G:Gh) (F:Hp) (ρ:Ev) (Qd:Sl->Ev->Prop),Rel K G F σ H ρ/\td ρ Qd /\
 ∀v H' F' r ρ',Sub F F'->Rel K G F' σ H' ρ'->Res K G F' H' σ ρ' v r->Qd r ρ'->Q v H'
noncomputable def AQ(K:Fg)(tc:pY):TT:=λσ H Q=>∃(G:Gh) (F:Hp) (ρ:Ev) (Qd:Bool->Ev->Prop),Rel K G F σ H ρ/\tc ρ Qd /\
 ∀b H' F' ρ',Sub F F'->Rel K G F' σ H' ρ'->Qd b ρ'->Q b H'
noncomputable def nQ(K:Fg):AD->TE
 | .inl i=>aZ i
 | .inr td=>lift K td
noncomputable def wQ:List TE->TA
 | []=>HY
 | t :: ts=>SK t (wQ ts)
theorem HK{K:Fg}{a:AD}{σ:St}{H:Hp}{Q Q':VK}(m:∀v H,Q v H->Q' v H)(h:nQ K a σ H Q):nQ K a σ H Q':=by
 cases a with
 | inl i=>obtain⟨v,e,q⟩:=h;exact ⟨v,e,m _ _ q⟩
 | inr td =>
  obtain⟨G,F,ρ,Qd,R,w,k⟩:=h
  exact ⟨G,F,ρ,Qd,R,w,λv H' F' r ρ' s R' r' q=>m _ _ (k v H' F' r ρ' s R' r' q)⟩
theorem pk{K:Fg}{a:AD}{σ:St}{H:Hp}{P:VK}(h:wQ ([a].map (nQ K)) σ H λvs H2=>∃x,vs=[x]/\P x H2):nQ K a σ H P :=
 HK (λv H q=>by obtain⟨x,e,q⟩:=q;cases e;exact q) h
theorem Ty{K:Fg}{a b:AD}{σ:St}{H:Hp}{P:V->V->Hp->Prop}(h:wQ ([a,b].map (nQ K)) σ H λvs H2=>∃x y,vs=[x,y]/\P x y H2):nQ K a σ H λx H1=>nQ K b σ H1 λy H2=>P x y H2 :=
 HK (λv H q=>HK (λu H q=>by obtain⟨x,y,e,q⟩:=q;cases e;exact q) q) h
noncomputable def FG(i:Nat):TD:=λρ Q=>match ρ[i]? with
 | some (some (.fz d))=>Q (.fz d) ρ
 | some (some (.ow d))=>Q (.fz d) (ρ.set i (some (.fz d)))
 | _=>False
noncomputable def dC(d:D):TD:=λρ Q=>Q (.fz d) ρ
section
variable {K:Fg}{σ:St}{H:Hp}{Q:VK}
theorem cM{i:Nat}(h:lift K (FG i) σ H Q):aZ i σ H Q:=by
 obtain⟨G,F,ρ,Qd,R,w,k⟩:=h
 unfold FG at w
 split at w
 ·rename_i d e
  obtain⟨v,e1,h1⟩:=R.fz i d e
  exact ⟨v,e1,k v H F (.fz d) ρ (Sub.refl _) R h1 w⟩
 ·rename_i d e
  obtain⟨F',v,sb,R',e1,h1⟩:=R.freeze e
  exact ⟨v,e1,k v H F' (.fz d) _ sb R' h1 w⟩
 ·exact w.elim
theorem VP{v:V}{d:D}(hv:∀F,Da K F v d)(h:lift K (dC d) σ H Q):tC v σ H Q:=by
 obtain⟨G,F,ρ,Qd,R,w,k⟩:=h
 exact k v H F (.fz d) ρ (Sub.refl _) R (hv F) w
end
noncomputable def dM(K:Fg)(F:Hp)(σ:St)(v:V):iU->Prop
 | .inl i=>σ[i]?=some (some v)
 | .inr d=>Da K F v d
inductive OpdsAt (K:Fg) (F:Hp) (σ:St):List V->List iU->Prop
 | nil:OpdsAt K F σ [] []
 | cons {v x vs xs}:dM K F σ v x->OpdsAt K F σ vs xs->OpdsAt K F σ (v :: vs) (x :: xs)
noncomputable def yX:List AD->Ev->(List iU->Ev->Prop)->Prop
 | [],ρ,Q=>Q [] ρ
 | .inl i :: as,ρ,Q=>match ρ[i]? with
  | some (some _)=>yX as ρ λxs ρ'=>Q (.inl i :: xs) ρ'
  | _=>False
 | .inr td :: as,ρ,Q=>td ρ λr ρ1=>yX as ρ1 λxs ρ2=>Q (.inr r.d :: xs) ρ2
theorem dJ{K:Fg}{G:Gh}{σ:St}:∀{as:List AD}{F H:Hp}{ρ:Ev}{Qd:List iU->Ev->Prop}{Qv:List V->Hp->Prop},Rel K G F σ H ρ->yX as ρ Qd ->
  (∀vs H' F' xs ρ',Sub F F'->Rel K G F' σ H' ρ'->OpdsAt K F' σ vs xs->vs.length=as.length->Qd xs ρ'->Qv vs H')->wQ (as.map (nQ K)) σ H Qv
 | [],F,H,ρ,Qd,Qv,R,w,k=>k [] H F [] ρ (Sub.refl _) R .nil rfl w
 | .inl i :: as,F,H,ρ,Qd,Qv,R,w,k=>by
  unfold yX at w
  split at w
  ·rename_i s e
   obtain⟨v,ev⟩:=R.bound e
   refine ⟨v,ev,dJ (as:=as) R w λvs H' F' xs ρ' sb R' o hl q=>?_⟩
   exact k (v :: vs) H' F' (.inl i :: xs) ρ' sb R' (.cons ev o) (by simp[hl]) q
  ·exact w.elim
 | .inr td :: as,F,H,ρ,Qd,Qv,R,w,k=>by
  refine ⟨G,F,ρ,_,R,w,λv H1 F1 r ρ1 s1 R1 r1 w1=>?_⟩
  obtain⟨F2,s2,R2,d2⟩:=r1.frz R1
  refine dJ (as:=as) R2 w1 λvs H' F' xs ρ' sb R' o hl q=>?_
  exact k (v :: vs) H' F' (.inr r.d :: xs) ρ' (s1.trans (s2.trans sb)) R' (.cons (d2.mono sb) o) (by simp[hl]) q
theorem jX{K:Fg}{G:Gh}{σ:St}{as:List AD}{F H:Hp}{ρ:Ev}{Qd:List iU->Ev->Prop}{Qv:List V->Hp->Prop}(R:Rel K G F σ H ρ)(w:yX as ρ Qd)
  (k:∀vs H' F' xs ρ',Sub F F'->Rel K G F' σ H' ρ'->OpdsAt K F' σ vs xs->Qd xs ρ'->Qv vs H'):wQ (as.map (nQ K)) σ H Qv:=dJ R w λvs H' F' xs ρ' s R' o _ q=>k vs H' F' xs ρ' s R' o q
noncomputable def At(K:Fg)(F H:Hp)(v:V)(d:D):Prop:=Da K F v d\/∃a o,v=.ref a/\F a=none/\H a=some o/\Own1 K F o d
inductive AtAll (K:Fg) (F H:Hp):List V->List D->Prop
 | nil:AtAll K F H [] []
 | cons {v d vs ds}:At K F H v d->AtAll K F H vs ds->AtAll K F H (v :: vs) (d :: ds)
noncomputable def look(ρ:Ev):iU->Option D
 | .inl i=>match ρ[i]? with
  | some (some s)=>some s.d
  | _=>none
 | .inr d=>some d
noncomputable def RQ(ρ:Ev):List iU->(List D->Prop)->Prop
 | [],k=>k []
 | .inr d :: xs,k=>RQ ρ xs λds=>k (d :: ds)
 | .inl i :: xs,k=>match ρ[i]? with
  | some (some s)=>RQ ρ xs λds=>k (s.d :: ds)
  | _=>False
section
variable {K:Fg}{G:Gh}{F H:Hp}{σ:St}{ρ:Ev}
theorem Rel.at(R:Rel K G F σ H ρ){i:Nat}{s:Sl}{v:V}(e:ρ[i]?=some (some s))(ev:σ[i]?=some (some v)):At K F H v s.d:=by
 cases s with
 | fz d =>
  obtain⟨v',e1,h1⟩:=R.fz i d e
  rw[ev]at e1;cases e1
  exact .inl h1
 | ow d =>
  obtain⟨a,o,h1,h2,h3,h4⟩:=R.ow i _ e rfl
  rw[ev]at h1;cases h1
  exact .inr ⟨a,o,rfl,h2,h3,h4⟩
 | io d =>
  obtain⟨a,o,h1,h2,h3,h4⟩:=R.ow i _ e rfl
  rw[ev]at h1;cases h1
  exact .inr ⟨a,o,rfl,h2,h3,h4⟩
theorem jZ(R:Rel K G F σ H ρ){xs:List iU}{vs:List V}{k:List D->Prop}(o:OpdsAt K F σ vs xs)(h:RQ ρ xs k):∃ds,AtAll K F H vs ds/\k ds:=by
 induction o generalizing k with
 | nil=>exact ⟨[],.nil,h⟩
 | @cons v x vs xs o t ih =>
  cases x with
  | inr d =>
   obtain⟨ds,a,q⟩:=ih (k:=λds=>k (d :: ds)) h
   exact ⟨d :: ds,.cons (.inl o) a,q⟩
  | inl i =>
   unfold RQ at h
   split at h
   ·rename_i s e
    obtain⟨ds,a,q⟩:=ih (k:=λds=>k (s.d :: ds)) h
    exact ⟨s.d :: ds,.cons (R.at e o) a,q⟩
   ·exact h.elim
end
noncomputable def QZ(as:List AD)(f:List D->(Sl->Prop)->Prop):TD:=λρ Q=>yX as ρ λxs ρ1=>RQ ρ1 xs λds=>f ds λr=>Q r ρ1
noncomputable def cX(K:Fg)(r:List V->Hp->VK->Prop)(f:List D->(Sl->Prop)->Prop):Prop :=
 ∀(G:Gh) (F:Hp) (σ:St) (H:Hp) (ρ:Ev) (vs:List V) (ds:List D) (Q:VK) (Qd:Sl->Prop),Rel K G F σ H ρ->AtAll K F H vs ds->f ds Qd ->
  (∀v H' F' s,Sub F F'->Rel K G F' σ H' ρ->Res K G F' H' σ ρ v s->Qd s->Q v H')->r vs H Q
theorem GG{K:Fg}{as:List AD}{r:List V->Hp->VK->Prop}{f:List D->(Sl->Prop)->Prop}(ok:cX K r f){σ:St}{H:Hp}{Q:VK}(h:lift K (QZ as f) σ H Q):wQ (as.map (nQ K)) σ H λvs H1=>r vs H1 Q:=by
 obtain⟨G,F,ρ,Qd,R,w,k⟩:=h
 refine jX R w λvs H' F' xs ρ' sb R' o q=>?_
 obtain⟨ds,ha,q⟩:=jZ R' o q
 exact ok G F' σ H' ρ' vs ds Q _ R' ha q λv H2 F2 s s2 R2 r2 q2=>k v H2 F2 s ρ' (sb.trans s2) R2 r2 q2
noncomputable def o1(f:D->(Sl->Prop)->Prop):List D->(Sl->Prop)->Prop
 | [x],Q=>f x Q
 | _,_=>False
noncomputable def o2(f:D->D->(Sl->Prop)->Prop):List D->(Sl->Prop)->Prop
 | [x,y],Q=>f x y Q
 | _,_=>False
noncomputable def o3(f:D->D->D->(Sl->Prop)->Prop):List D->(Sl->Prop)->Prop
 | [x,y,z],Q=>f x y z Q
 | _,_=>False
noncomputable def nD(td:TD):pY:=λρ Q=>td ρ λr ρ'=>match r with
 | .fz (.bool b)=>Q b ρ'
 | _=>False
noncomputable def mE(c:pY):pY:=λρ Q=>c ρ λb ρ'=>Q (!b) ρ'
noncomputable def nE(c e:pY):pY:=λρ Q=>c ρ λb ρ'=>if b=true then e ρ' Q else Q false ρ'
noncomputable def ON(c e:pY):pY:=λρ Q=>c ρ λb ρ'=>if b=true then Q true ρ' else e ρ' Q
noncomputable def HG:pY:=λρ Q=>Q true ρ
section
variable {K:Fg}{σ:St}{H:Hp}
theorem GB{td:TD}{t:TE}(ht:∀{σ H Q},lift K td σ H Q->t σ H Q){Q:Bool->Hp->Prop}(h:AQ K (nD td) σ H Q):ux t σ H Q:=by
 obtain⟨G,F,ρ,Qd,R,w,k⟩:=h
 refine ht ⟨G,F,ρ,_,R,w,λv H' F' r ρ' sb R' r' q=>?_⟩
 split at q
 ·rename_i b
  cases r'
  exact ⟨b,rfl,k b H' F' ρ' sb R' q⟩
 ·exact q.elim
theorem eM{c:pY}{Q:Bool->Hp->Prop}(h:AQ K (mE c) σ H Q):wC (AQ K c) σ H Q:=by
 obtain⟨G,F,ρ,Qd,R,w,k⟩:=h
 exact ⟨G,F,ρ,_,R,w,λb H' F' ρ' sb R' q=>k (!b) H' F' ρ' sb R' q⟩
theorem fM{c e:pY}{Q:Bool->Hp->Prop}(h:AQ K (nE c e) σ H Q):vC (AQ K c) (AQ K e) σ H Q:=by
 obtain⟨G,F,ρ,Qd,R,w,k⟩:=h
 refine ⟨G,F,ρ,_,R,w,λb H' F' ρ' sb R' q=>?_⟩
 cases b with
 | true=>exact ⟨G,F',ρ',Qd,R',q,λb H2 F2 ρ2 s2 R2 q2=>k b H2 F2 ρ2 (sb.trans s2) R2 q2⟩
 | false=>exact k false H' F' ρ' sb R' q
theorem yO{c e:pY}{Q:Bool->Hp->Prop}(h:AQ K (ON c e) σ H Q):pO (AQ K c) (AQ K e) σ H Q:=by
 obtain⟨G,F,ρ,Qd,R,w,k⟩:=h
 refine ⟨G,F,ρ,_,R,w,λb H' F' ρ' sb R' q=>?_⟩
 cases b with
 | true=>exact k true H' F' ρ' sb R' q
 | false=>exact ⟨G,F',ρ',Qd,R',q,λb H2 F2 ρ2 s2 R2 q2=>k b H2 F2 ρ2 (sb.trans s2) R2 q2⟩
theorem gM{Q:Bool->Hp->Prop}(h:AQ K HG σ H Q):WL σ H Q:=by
 obtain⟨G,F,ρ,Qd,R,w,k⟩:=h
 exact k true H F ρ (Sub.refl _) R w
end
noncomputable def qk(a b:TD):TD:=λρ Q=>a ρ λr ρ'=>match r with
 | .fz (.bool c)=>if c=true then b ρ' Q else Q (.fz (.bool false)) ρ'
 | _=>False
noncomputable def sk(a:TD):TD:=λρ Q=>a ρ λr ρ'=>match r with
 | .fz (.bool c)=>Q (.fz (.bool (!c))) ρ'
 | _=>False
section
variable {K:Fg}{σ:St}{H:Hp}{Q:VK}{a b:TD}{c:pY}
theorem oE(h:lift K (qk a b) σ H Q):Zj (lift K a) (lift K b) σ H Q:=by
 obtain⟨G,F,ρ,Qd,R,w,k⟩:=h
 refine ⟨G,F,ρ,_,R,w,λv H' F' r ρ' sb R' r' q=>?_⟩
 split at q
 ·rename_i c
  cases r'
  refine ⟨c,rfl,?_⟩
  cases c with
  | true=>exact ⟨G,F',ρ',Qd,R',q,λv H2 F2 r ρ2 s2 R2 r2 q2=>k v H2 F2 r ρ2 (sb.trans s2) R2 r2 q2⟩
  | false=>exact k _ H' F' (.fz (.bool false)) ρ' sb R' (Da.bl false) q
 ·exact q.elim
theorem pE(h:lift K (sk a) σ H Q):ax (lift K a) σ H Q:=by
 obtain⟨G,F,ρ,Qd,R,w,k⟩:=h
 refine ⟨G,F,ρ,_,R,w,λv H' F' r ρ' sb R' r' q=>?_⟩
 split at q
 ·rename_i c
  cases r'
  exact ⟨c,rfl,k _ H' F' (.fz (.bool (!c))) ρ' sb R' (Da.bl (!c)) q⟩
 ·exact q.elim
end
theorem qY{ρ:Ev}{i:Nat}{P:Prop}(h:match ρ[i]? with|some (some (.io _))=>False|some _=>P|none=>False):hU ρ i/\P:=by
 unfold hU
 cases e:ρ[i]? with
 | none=>rw[e]at h;exact h.elim
 | some x =>
  rw[e]at h
  cases x with
  | none=>exact ⟨trivial,h⟩
  | some s=>cases s with
   | fz d=>exact ⟨trivial,h⟩
   | ow d=>exact ⟨trivial,h⟩
   | io d=>exact h.elim
structure DE where
 nx:Ev->Prop
 rt:Sl->Ev->Prop
 bk:Ev->Prop
 ct:Ev->Prop
noncomputable abbrev ZJ:=DE->Ev->Prop
noncomputable def tQ(K:Fg)(ts:ZJ):TS:=λD σ H=>∃(G:Gh) (F:Hp) (ρ:Ev) (E:DE),Rel K G F σ H ρ/\ts E ρ /\
 (∀σ' H' F' ρ',Sub F F'->Rel K G F' σ' H' ρ'->E.nx ρ'->D.nx σ' H') /\
 (∀v σ' H' F' r ρ',Sub F F'->Rel K G F' σ' H' ρ'->Res K G F' H' σ' ρ' v r->E.rt r ρ'->D.rt v H') /\
 (∀σ' H' F' ρ',Sub F F'->Rel K G F' σ' H' ρ'->E.bk ρ'->D.bk σ' H') /\
 (∀σ' H' F' ρ',Sub F F'->Rel K G F' σ' H' ρ'->E.ct ρ'->D.ct σ' H')
noncomputable def Jq:ZJ:=λE ρ=>E.nx ρ
noncomputable def YY(t u:ZJ):ZJ:=λE ρ=>t { nx:=λρ'=>u E ρ',rt:=E.rt,bk:=E.bk,ct:=E.ct } ρ
noncomputable def uk(a:TD):ZJ:=λE ρ=>a ρ E.rt
noncomputable def vk(a:TD):ZJ:=λE ρ=>a ρ λ_ ρ'=>E.nx ρ'
noncomputable def Uy(c:pY)(t u:ZJ):ZJ:=λE ρ=>c ρ λb ρ'=>if b=true then t E ρ' else u E ρ'
noncomputable def jU(i:Nat)(a:TD):ZJ:=λE ρ=>a ρ λr ρ'=>match ρ'[i]? with
 | some (some (.io _))=>False
 | some _=>E.nx (ρ'.set i (some r))
 | none=>False
section
variable {K:Fg}{σ:St}{H:Hp}{E:Ends}{t u:ZJ}{a:TD}{c:pY}
theorem qE(h:tQ K Jq E σ H):bx E σ H:=by
 obtain⟨G,F,ρ,D,R,w,n,r,b,c⟩:=h
 exact n σ H F ρ (Sub.refl _) R w
theorem later{G:Gh}{F F1 H1:Hp}{ρ1:Ev}{σ1:St}{D:DE}{ts:ZJ}(s:Sub F F1)(R:Rel K G F1 σ1 H1 ρ1)(w:ts D ρ1)
  (n:∀σ' H' F' ρ',Sub F F'->Rel K G F' σ' H' ρ'->D.nx ρ'->E.nx σ' H')
  (r:∀v σ' H' F' r ρ',Sub F F'->Rel K G F' σ' H' ρ'->Res K G F' H' σ' ρ' v r->D.rt r ρ'->E.rt v H')
  (b:∀σ' H' F' ρ',Sub F F'->Rel K G F' σ' H' ρ'->D.bk ρ'->E.bk σ' H')
  (c:∀σ' H' F' ρ',Sub F F'->Rel K G F' σ' H' ρ'->D.ct ρ'->E.ct σ' H'):tQ K ts E σ1 H1 :=
 ⟨G,F1,ρ1,D,R,w,λ_ _ _ _ s' R' q=>n _ _ _ _ (s.trans s') R' q,λ_ _ _ _ _ _ s' R' r' q=>r _ _ _ _ _ _ (s.trans s') R' r' q,
   λ_ _ _ _ s' R' q=>b _ _ _ _ (s.trans s') R' q,λ_ _ _ _ s' R' q=>c _ _ _ _ (s.trans s') R' q⟩
theorem iM(h:tQ K (YY t u) E σ H):LW (tQ K t) (tQ K u) E σ H:=by
 obtain⟨G,F,ρ,D,R,w,n,r,b,c⟩:=h
 exact ⟨G,F,ρ,_,R,w,λσ' H' F' ρ' s R' q=>later s R' q n r b c,r,b,c⟩
theorem jM(h:tQ K (uk a) E σ H):Lz (lift K a) E σ H:=by
 obtain⟨G,F,ρ,D,R,w,n,r,b,c⟩:=h
 exact ⟨G,F,ρ,_,R,w,λv H' F' x ρ' s R' r' q=>r v σ H' F' x ρ' s R' r' q⟩
theorem rE(h:tQ K (vk a) E σ H):QK (lift K a) E σ H:=by
 obtain⟨G,F,ρ,D,R,w,n,r,b,c⟩:=h
 exact ⟨G,F,ρ,_,R,w,λv H' F' x ρ' s R' r' q=>n σ H' F' ρ' s R' q⟩
theorem kM(h:tQ K (Uy c t u) E σ H):DC (AQ K c) (tQ K t) (tQ K u) E σ H:=by
 obtain⟨G,F,ρ,D,R,w,n,r,b,c⟩:=h
 refine ⟨G,F,ρ,_,R,w,λx H' F' ρ' s R' q=>?_⟩
 cases x with
 | true=>exact later s R' q n r b c
 | false=>exact later s R' q n r b c
theorem HB{i:Nat}(h:tQ K (jU i a) E σ H):UZ (lift K a) (HX i) E σ H:=by
 obtain⟨G,F,ρ,D,R,w,n,r,b,c⟩:=h
 refine ⟨G,F,ρ,_,R,w,λv H' F' x ρ' s R' r' q=>?_⟩
 have hn:=qY q
 exact n _ H' F' _ s (R'.asg hn.1 r') hn.2
end
noncomputable def wV(i:Nat):ZJ:=λE ρ=>match ρ[i]? with
 | some (some (.fz d))=>E.rt (.fz d) ρ
 | some (some (.ow d))=>E.rt (.ow d) (ρ.set i none)
 | _=>False
noncomputable def IG(i j:Nat):ZJ:=λE ρ=>match ρ[j]? with
 | some (some (.fz d))=>(match ρ[i]? with
   | some (some (.io _))=>False
   | some _=>E.nx (ρ.set i (some (.fz d)))
   | none=>False)
 | some (some (.ow d))=>(match (ρ.set j none)[i]? with
   | some (some (.io _))=>False
   | some _=>E.nx ((ρ.set j none).set i (some (.ow d)))
   | none=>False)
 | _=>False
section
variable {K:Fg}{σ:St}{H:Hp}{E:Ends}
theorem sE{i:Nat}(h:tQ K (wV i) E σ H):Lz (aZ i) E σ H:=by
 obtain⟨G,F,ρ,D,R,w,n,r,b,c⟩:=h
 unfold wV at w
 split at w
 ·rename_i d e
  obtain⟨v,e1,h1⟩:=R.fz i d e
  exact ⟨v,e1,r v σ H F (.fz d) ρ (Sub.refl _) R h1 w⟩
 ·rename_i d e
  obtain⟨v,e1,h1⟩:=R.forgetRes e
  exact ⟨v,e1,r v σ H F (.ow d) _ (Sub.refl _) (R.forget e) h1 w⟩
 ·exact w.elim
theorem tE{i j:Nat}(h:tQ K (IG i j) E σ H):UZ (aZ j) (HX i) E σ H:=by
 obtain⟨G,F,ρ,D,R,w,n,r,b,c⟩:=h
 unfold IG at w
 split at w
 ·rename_i d e
  obtain⟨v,e1,h1⟩:=R.fz j d e
  obtain⟨hn,w⟩:=qY w
  exact ⟨v,e1,n _ H F _ (Sub.refl _) (R.asg (s:=.fz d) hn h1) w⟩
 ·rename_i d e
  obtain⟨v,e1,h1⟩:=R.forgetRes e
  obtain⟨hn,w⟩:=qY w
  exact ⟨v,e1,n _ H F _ (Sub.refl _) ((R.forget e).asg (s:=.ow d) hn h1) w⟩
 ·exact w.elim
end
noncomputable abbrev uJ:=D->Ev->(Ev->Prop)->Prop
noncomputable def dX(K:Fg)(g:uJ):TG:=λv σ H Q=>∃(G:Gh) (F:Hp) (ρ:Ev) (d:D) (Qd:Ev->Prop),Rel K G F σ H ρ/\Da K F v d/\g d ρ Qd/\∀σ' ρ',Rel K G F σ' H ρ'->Qd ρ'->Q σ' H
noncomputable def Vy(i:Nat):uJ:=λd ρ Q=>match ρ[i]? with
 | some (some (.io _))=>False
 | some _=>Q (ρ.set i (some (.fz d)))
 | none=>False
noncomputable def AO:List uJ->List D->Ev->(Ev->Prop)->Prop
 | [],[],ρ,Q=>Q ρ
 | g :: gs,d :: ds,ρ,Q=>g d ρ λρ'=>AO gs ds ρ' Q
 | _,_,_,_=>False
noncomputable def PN(gs:List uJ):uJ:=λd ρ Q=>match d with
 | .tuple ds=>ds.length=gs.length/\AO gs ds ρ Q
 | _=>False
noncomputable def VW:List TG->Xv
 | []=>ly
 | g :: gs=>iV g (VW gs)
section
variable {K:Fg}{σ:St}{H:Hp}{v:V}{Q:St->Hp->Prop}
theorem BO{i:Nat}(h:dX K (Vy i) v σ H Q):HX i v σ H Q:=by
 obtain⟨G,F,ρ,d,Qd,R,hd,w,k⟩:=h
 obtain⟨hn,w⟩:=qY w
 exact k _ _ (R.asg (s:=.fz d) hn hd) w
theorem lM{G:Gh}{F:Hp}:∀{gs:List uJ}{ds:List D}{vs:List V}{σ:St}{ρ:Ev}{Qd:Ev->Prop},Rel K G F σ H ρ->DaAll K F vs ds->AO gs ds ρ Qd->(∀σ' ρ',Rel K G F σ' H ρ'->Qd ρ'->Q σ' H)->VW (gs.map (dX K)) vs σ H Q
 | [],[],_,σ,ρ,Qd,R,.nil,w,k=>⟨rfl,k σ ρ R w⟩
 | g :: gs,d :: ds,_,σ,ρ,Qd,R,.cons h t,w,k=>⟨_,_,rfl,G,F,ρ,d,_,R,h,w,λσ' ρ' R' w'=>lM (gs:=gs) R' t w' k⟩
 | [],_ :: _,_,σ,ρ,Qd,R,_,w,k=>by exact w.elim
 | _ :: _,[],_,σ,ρ,Qd,R,_,w,k=>by exact w.elim
theorem CO{gs:List uJ}{n:Nat}(hn:gs.length=n)(h:dX K (PN gs) v σ H Q):Mz K n (VW (gs.map (dX K))) v σ H Q:=by
 obtain⟨G,F,ρ,d,Qd,R,hd,w,k⟩:=h
 unfold PN at w
 split at w
 ·cases hd with
  | tup e t=>exact ⟨_,_,rfl,SqT.of (R.sub _ _ e),by rw[t.length,w.1,hn],lM R t w.2 k⟩
 ·exact w.elim
end
noncomputable def Walks(K:Fg)(J:It)(F:Hp)(ds:List D):Prop:=∀(i:Nat) (H F1:Hp),Sub F F1->Sub F1 H ->
 (∀d,ds[i]?=some d->J.go i H/\∀x H',J.yld i H x H'->∃F2,Sub F1 F2/\(∀b o,F2 b=some o->F1 b=some o\/H b=none)/\Sub F2 H'/\Sub H H'/\Da K F2 x d)/\(ds.length=i->J.stop i H)
noncomputable abbrev JG:=Ev->(List D->Ev->Prop)->Prop
noncomputable def XQ(K:Fg)(ti:JG):TI:=λσ H R=>∃(G:Gh) (F:Hp) (ρ:Ev) (Qd:List D->Ev->Prop),Rel K G F σ H ρ/\ti ρ Qd /\
 ∀J H' F' ds ρ',Sub F F'->Rel K G F' σ H' ρ'->Walks K J F' ds->Qd ds ρ'->R J H'
theorem Rel.turn{K:Fg}{G:Gh}{F F2 H H':Hp}{σ:St}{ρ:Ev}(R:Rel K G F σ H ρ)(s:Sub F F2)(n:∀b o,F2 b=some o->F b=some o\/H b=none)(s2:Sub F2 H')(s3:Sub H H'):Rel K G F2 σ H' ρ where
 len:=R.len
 sub:=s2
 sub0:=R.sub0.trans s
 fn:=λb o e=>by
  rcases n b o e with q|q
  ·exact R.fn b o q
  ·exact .inr (R.h0 q)
 keep:=λa o e m=>s3 _ _ (R.keep a o e m)
 fz:=λi d e=>by
  obtain⟨v,h1,h2⟩:=R.fz i d e
  exact ⟨v,h1,h2.mono s⟩
 ow:=λi t e w=>by
  obtain⟨a,o,h1,h2,h3,h4⟩:=R.ow i t e w
  refine ⟨a,o,h1,?_,s3 _ _ h3,h4.mono s⟩
  cases q:F2 a with
  | none=>rfl
  | some u =>
   rcases n a u q with z|z
   ·rw[h2]at z;cases z
   ·rw[h3]at z;cases z
 new:=R.new
 io:=R.io
 ioi:=R.ioi
 ap:=R.ap
theorem KG{α:Type}{l:List α}{i:Nat}{x:α}(h:l[i]?=some x):l.drop i=x :: l.drop (i+1):=by
 obtain⟨hl,rfl⟩:=J1.mp h
 exact S4 hl
noncomputable def Wy:Option Sl->Option Sl
 | some (.ow d)=>some (.io d)
 | x=>x
noncomputable def ZY(own:List Str)(fr:List Nat)(ρ:Ev):Ev:=own.map (λ_=>none)++fr.map λi=>Wy ((ρ[i]?).getD none)
noncomputable def Xy:Option Sl->Option (Option Sl)->Option Sl
 | some (.ow d),some (some (.io d'))=>some (.ow d')
 | some (.io d),some (some (.io d'))=>some (.io d')
 | x,_=>x
noncomputable def IK(fr:List Nat)(τ:Ev):Nat->Ev->Ev
 | _,[]=>[]
 | j,x :: ρ=>Xy x ((fr.zip τ).lookup j) :: IK fr τ (j+1) ρ
theorem aW(fr:List Nat)(τ:Ev):∀(ρ:Ev) (j i:Nat),(IK fr τ j ρ)[i]?=(ρ[i]?).map λx=>Xy x ((fr.zip τ).lookup (j+i))
 | [],j,i=>by simp[IK]
 | x :: ρ,j,0=>by simp[IK]
 | x :: ρ,j,i+1=>by
  have:=aW fr τ ρ (j+1) i
  simp only[IK,Y4]
  rw[this,show j+1+i=j+(i+1) by omega]
theorem LG(fr:List Nat)(τ:Ev):∀(ρ:Ev) (j:Nat),(IK fr τ j ρ).length=ρ.length
 | [],_=>rfl
 | x :: ρ,j=>by simp[IK,LG fr τ ρ (j+1)]
theorem bW:∀{fr:List Nat}{τ:Ev}{k i:Nat}{x:Option Sl},fr.Nodup->fr[k]?=some i->τ[k]?=some x->(fr.zip τ).lookup i=some x
 | [],_,_,_,_,_,e,_=>by simp at e
 | j :: fr,[],_,_,_,_,_,e=>by simp at e
 | j :: fr,y :: τ,0,i,x,_,e,e'=>by simp at e e';subst e e';simp[T7]
 | j :: fr,y :: τ,k+1,i,x,nd,e,e'=>by
  have nd':=i5.mp nd
  simp at e e'
  have hm:i∈fr:=v3 e
  have ne:(i==j)=false:=by simp;intro z;subst z;exact nd'.1 hm
  simp[T7,ne]
  exact bW nd'.2 e e'
theorem eJ:∀{fr:List Nat}{τ:Ev}{i:Nat}{x:Option Sl},(fr.zip τ).lookup i=some x->∃k:Nat,fr[k]?=some i/\τ[k]?=some x
 | [],_,_,_,e=>by simp at e
 | j :: fr,[],_,_,e=>by simp at e
 | j :: fr,y :: τ,i,x,e=>by
  by_cases z:i=j
  ·subst z;simp[T7]at e;subst e;exact ⟨0,by simp,by simp⟩
  ·have ne:(i==j)=false:=by simp[z]
   simp[T7,ne]at e
   obtain⟨k,h1,h2⟩:=eJ e
   exact ⟨k+1,by simpa using h1,by simpa using h2⟩
noncomputable def xk(σ:St)(ρ:Ev)(i:Nat):Option Addr:=match ρ[i]?,σ[i]? with
 | some (some s),some (some (.ref a))=>if PQ s=true then some a else none
 | _,_=>none
theorem oj{σ:St}{ρ:Ev}{i:Nat}{a:Addr}(h:xk σ ρ i=some a):∃s,ρ[i]?=some (some s)/\PQ s=true/\σ[i]?=some (some (V.ref a)):=by
 unfold xk at h
 split at h
 ·rename_i s b e1 e2
  split at h
  ·rename_i w;cases h;exact ⟨s,e1,w,e2⟩
  ·cases h
 ·cases h
theorem Yy{σ:St}{ρ:Ev}{i:Nat}{a:Addr}{s:Sl}(h1:ρ[i]?=some (some s))(h2:PQ s=true)(h3:σ[i]?=some (some (V.ref a))):xk σ ρ i=some a:=by
 unfold xk;rw[h1,h3];simp[h2]
noncomputable def Yv(own:List Str)(fr:List Nat)(F H:Hp)(σ:St)(ρ:Ev):Gh:=⟨H,F,λj=>if own.length<=j then (match fr[j - own.length]? with|some i=>xk σ ρ i|none=>none) else none⟩
theorem qD{own:List Str}{fr:List Nat}{F H:Hp}{σ:St}{ρ:Ev}{j:Nat}{a:Addr}(h:(Yv own fr F H σ ρ).io j=some a):∃k i s,j=own.length+k/\fr[k]?=some i/\ρ[i]?=some (some s)/\PQ s=true/\σ[i]?=some (some (V.ref a)):=by
 unfold Yv at h
 simp only at h
 split at h
 ·rename_i hl
  split at h
  ·rename_i i e
   obtain⟨s,h1,h2,h3⟩:=oj h
   exact ⟨j - own.length,i,s,by omega,e,h1,h2,h3⟩
  ·cases h
 ·cases h
theorem rD{own:List Str}{fr:List Nat}{F H:Hp}{σ:St}{ρ:Ev}{k i:Nat}{a:Addr}{s:Sl}(h0:fr[k]?=some i)(h1:ρ[i]?=some (some s))(h2:PQ s=true)(h3:σ[i]?=some (some (V.ref a))):(Yv own fr F H σ ρ).io (own.length+k)=some a:=by
 unfold Yv
 simp only
 rw[if_pos (E3 _ _),O3,h0]
 exact Yy h1 h2 h3
theorem qj{α:Type}{own:List Str}{fr:List Nat}{f:Nat->Option α}{j:Nat}{x:α}(h:(own.map (λ_=>(none:Option α))++fr.map f)[j]?=some (some x)):∃k i,j=own.length+k/\fr[k]?=some i/\f i=some x:=by
 by_cases hl:j < own.length
 ·rw[E2 (by simpa using hl)]at h
  simp at h
 ·rw[T1 (by simpa using j8 hl)]at h
  simp at h
  obtain⟨i,h1,h2⟩:=h
  exact ⟨j - own.length,i,by omega,h1,h2⟩
theorem MG{α:Type}{own:List Str}{fr:List Nat}{f:Nat->Option α}{k i:Nat}(h:fr[k]?=some i):(own.map (λ_=>(none:Option α))++fr.map f)[own.length+k]?=some (f i):=by
 rw[T1 (by simp)]
 simp[h]
theorem yk{x:Option Sl}{s:Sl}(h:Wy x=some s):∃s0,x=some s0/\((∃d,s0=.fz d/\s=.fz d)\/(PQ s0=true/\s=.io s0.d)):=by
 cases x with
 | none=>cases h
 | some s0 =>
  cases s0 with
  | fz d=>cases h;exact ⟨_,rfl,.inl ⟨d,rfl,rfl⟩⟩
  | ow d=>cases h;exact ⟨_,rfl,.inr ⟨rfl,rfl⟩⟩
  | io d=>cases h;exact ⟨_,rfl,.inr ⟨rfl,rfl⟩⟩
theorem getD_some{α:Type}{o:Option (Option α)}{x:α}(h:o.getD none=some x):o=some (some x):=by
 cases o with
 | none=>cases h
 | some y=>simp at h;rw[h]
section
variable {K:Fg}{G:Gh}{F F' H H':Hp}{σ τ:St}{ρ μ:Ev}{own:List Str}{fr:List Nat}
theorem OX{j:Nat}{s:Sl}(h:(ZY own fr ρ)[j]?=some (some s)):∃k i s0,j=own.length+k/\fr[k]?=some i/\ρ[i]?=some (some s0)/\((∃d,s0=.fz d/\s=.fz d)\/(PQ s0=true/\s=.io s0.d)):=by
 obtain⟨k,i,h1,h2,h3⟩:=qj h
 obtain⟨s0,h4,h5⟩:=yk h3
 exact ⟨k,i,s0,h1,h2,getD_some h4,h5⟩
theorem cW{k i:Nat}(h:fr[k]?=some i):(aE own σ fr)[own.length+k]?=some ((σ[i]?).getD none):=MG (f:=λi=>(σ[i]?).getD none) h
theorem rj{k i:Nat}(h:fr[k]?=some i):(ZY own fr ρ)[own.length+k]?=some (Wy ((ρ[i]?).getD none)):=MG (f:=λi=>Wy ((ρ[i]?).getD none)) h
theorem zk{fr:List Nat}(nd:fr.Nodup){k l i:Nat}(a:fr[k]?=some i)(b:fr[l]?=some i):k=l:=by
 obtain⟨h1,e1⟩:=J1.mp a
 obtain⟨h2,e2⟩:=J1.mp b
 exact (List.getElem_inj nd).mp (e1.trans e2.symm)
theorem Rel.inner(R:Rel K G F σ H ρ)(nd:fr.Nodup):Rel K (Yv own fr F H σ ρ) F (aE own σ fr) H (ZY own fr ρ) where
 len:=by simp[aE,vL,ZY]
 sub:=R.sub
 sub0:=Sub.refl _
 fn:=λ_ _ e=>.inl e
 keep:=λ_ _ e _=>e
 fz:=λj d e=>by
  obtain⟨k,i,s0,rfl,h2,h3,h4⟩:=OX e
  rcases h4 with⟨d0,rfl,z⟩|⟨_,z⟩
  ·cases z
   obtain⟨v,e1,e2⟩:=R.fz i d h3
   exact ⟨v,by rw[cW h2,e1];rfl,e2⟩
  ·cases z
 ow:=λj s e w=>by
  obtain⟨k,i,s0,rfl,h2,h3,h4⟩:=OX e
  rcases h4 with⟨d0,rfl,z⟩|⟨w0,z⟩
  ·cases z;cases w
  ·cases z
   obtain⟨a,o,e1,e2,e3,e4⟩:=R.ow i s0 h3 w0
   exact ⟨a,o,by rw[cW h2,e1];rfl,e2,e3,e4⟩
 new:=λj d a e _=>by
  obtain⟨k,i,s0,rfl,h2,h3,h4⟩:=OX e
  rcases h4 with⟨d0,rfl,z⟩|⟨w0,z⟩<;>cases z
 io:=λj a e=>by
  obtain⟨k,i,s,rfl,h1,h2,h3,h4⟩:=qD e
  refine ⟨s.d,?_,by rw[cW h1,h4];rfl⟩
  rw[rj h1,h2]
  cases s<;>first|rfl|cases h3
 ioi:=λj d e=>by
  obtain⟨k,i,s0,rfl,h2,h3,h4⟩:=OX e
  rcases h4 with⟨d0,rfl,z⟩|⟨w0,z⟩
  ·cases z
  ·obtain⟨a,o,e1,_⟩:=R.ow i s0 h3 w0
   exact ⟨a,rD h2 h3 w0 e1⟩
 ap:=λj l s t a e1 w1 e2 w2 e3 e4=>by
  obtain⟨k,i,s0,rfl,h2,h3,h4⟩:=OX e1
  obtain⟨k',i',s0',rfl,h2',h3',h4'⟩:=OX e2
  have p1:PQ s0=true:=by
   rcases h4 with⟨d0,rfl,z⟩|⟨w0,z⟩
   ·subst z;cases w1
   ·exact w0
  have p2:PQ s0'=true:=by
   rcases h4' with⟨d0,rfl,z⟩|⟨w0,z⟩
   ·subst z;cases w2
   ·exact w0
  rw[cW h2]at e3
  rw[cW h2']at e4
  have q:=R.ap i i' s0 s0' a h3 p1 h3' p2 (getD_some (D2 e3)) (getD_some (D2 e4))
  subst q
  rw[zk nd h2 h2']
theorem fJ(R:Rel K G F σ H ρ)(R':Rel K (Yv own fr F H σ ρ) F' τ H' μ)(nd:fr.Nodup){i:Nat}{s:Sl}(h:(IK fr (μ.drop own.length) 0 ρ)[i]?=some (some s)) :
  ∃s0,ρ[i]?=some (some s0)/\((s=s0/\(PQ s0=true->i∉fr))\/(PQ s0=true/\∃k d',fr[k]?=some i/\μ[own.length+k]?=some (some (Sl.io d'))/\s=s0.put d')):=by
 rw[aW]at h
 cases e:ρ[i]? with
 | none=>rw[e]at h;cases h
 | some x =>
  rw[e]at h
  simp only[N5,P5]at h
  have h:=D2 h
  cases x with
  | none=>simp[Xy]at h
  | some s0 =>
   refine ⟨s0,rfl,?_⟩
   by_cases w0:PQ s0=true
   ·by_cases hm:i∈fr
    ·obtain⟨k,hk⟩:=Z6.mp hm
     obtain⟨a,o,e1,_⟩:=R.ow i s0 e w0
     obtain⟨d',g1,g2⟩:=R'.io _ _ (rD (own:=own) (F:=F) (H:=H) hk e w0 e1)
     have z:=bW (τ:=μ.drop own.length) nd hk (by rw[q9];exact g1)
     rw[z]at h
     refine .inr ⟨w0,k,d',hk,g1,?_⟩
     cases s0 with
     | fz d=>cases w0
     | ow d=>simp[Xy]at h;exact h.symm
     | io d=>simp[Xy]at h;exact h.symm
    ·refine .inl ⟨?_,λ_=>hm⟩
     have z:(fr.zip (μ.drop own.length)).lookup i=none:=by
      cases q:(fr.zip (μ.drop own.length)).lookup i with
      | none=>rfl
      | some y =>
       obtain⟨k,h1,_⟩:=eJ q
       exact (hm (v3 h1)).elim
     rw[z]at h
     cases s0 with
     | fz d=>cases w0
     | ow d=>simp[Xy]at h;exact h.symm
     | io d=>simp[Xy]at h;exact h.symm
   ·refine .inl ⟨?_,λz=>(w0 z).elim⟩
    cases s0 with
    | fz d=>simp[Xy]at h;exact h.symm
    | ow d=>exact (w0 rfl).elim
    | io d=>exact (w0 rfl).elim
theorem uE{d:D}(x:Option (Option Sl)):∃d',Xy (some (.io d)) x=some (.io d'):=by
 rcases x with _|_|(d'|d'|d')
 ·exact ⟨d,rfl⟩
 ·exact ⟨d,rfl⟩
 ·exact ⟨d,rfl⟩
 ·exact ⟨d,rfl⟩
 ·exact ⟨d',rfl⟩
theorem Rel.outer(R:Rel K G F σ H ρ)(R':Rel K (Yv own fr F H σ ρ) F' τ H' μ)(nd:fr.Nodup):Rel K G F' σ H' (IK fr (μ.drop own.length) 0 ρ):=by
 have sb:Sub F F':=R'.sub0
 have owns:∀{i:Nat}{s:Sl},(IK fr (μ.drop own.length) 0 ρ)[i]?=some (some s)->PQ s=true->∃s0,ρ[i]?=some (some s0)/\PQ s0=true:=λ{i s} e w=>by
  obtain⟨s0,h1,h2⟩:=fJ R R' nd e
  rcases h2 with⟨rfl,_⟩|⟨w0,_⟩
  ·exact ⟨s,h1,w⟩
  ·exact ⟨s0,h1,w0⟩
 refine ⟨by rw[LG];exact R.len,R'.sub,R.sub0.trans sb,λa o e=>?_,λa o e n=>?_,λi d e=>?_,λi s e w=>?_,λi d a e ea=>?_,λi a e=>?_,λi d e=>?_,λi j s t a e1 w1 e2 w2 e3 e4=>?_⟩
 ·rcases R'.fn a o e with q|q
  ·exact R.fn a o q
  ·exact .inr (R.h0 q)
 ·refine R'.keep a o (R.keep a o e n) λj z=>?_
  obtain⟨k,i,s,rfl,h1,h2,h3,h4⟩:=qD z
  cases s with
  | fz d=>cases h3
  | ow d=>rw[R.new i d a h2 h4]at e;cases e
  | io d =>
   obtain⟨a',g⟩:=R.ioi i d h2
   obtain⟨_,_,g2⟩:=R.io i a' g
   rw[h4]at g2;cases g2
   exact n i g
 ·obtain⟨s0,h1,h2⟩:=fJ R R' nd e
  rcases h2 with⟨rfl,_⟩|⟨w0,k,d',_,_,z⟩
  ·obtain⟨v,g1,g2⟩:=R.fz i d h1
   exact ⟨v,g1,g2.mono sb⟩
  ·cases s0<;>simp[Sl.put,PQ]at z w0
 ·obtain⟨s0,h1,h2⟩:=fJ R R' nd e
  rcases h2 with⟨rfl,hm⟩|⟨w0,k,d',hk,hd,rfl⟩
  ·obtain⟨a,o,g1,g2,g3,g4⟩:=R.ow i s h1 w
   have nio:∀j,(Yv own fr F H σ ρ).io j≠some a:=λj z=>by
    obtain⟨k,i',s',rfl,q1,q2,q3,q4⟩:=qD z
    have:=R.ap i i' s s' a h1 w q2 q3 g1 q4
    subst this
    exact hm w (v3 q1)
   refine ⟨a,o,g1,?_,R'.keep a o g3 nio,g4.mono sb⟩
   cases q:F' a with
   | none=>rfl
   | some u =>
    rcases R'.fn a u q with z|z
    ·have z:F a=some u:=z
     rw[g2]at z;cases z
    ·have z:H a=none:=z
     rw[g3]at z;cases z
  ·obtain⟨a,o,g1,g2,g3,g4⟩:=R.ow i s0 h1 w0
   obtain⟨d2,q1,q2⟩:=R'.io _ _ (rD (own:=own) (F:=F) (H:=H) hk h1 w0 g1)
   obtain⟨a',o',p1,p2,p3,p4⟩:=R'.ow _ _ hd rfl
   rw[q2]at p1;cases p1
   exact ⟨a,o',g1,p2,p3,by cases s0<;>first|exact p4|cases w0⟩
 ·obtain⟨s0,h1,h2⟩:=fJ R R' nd e
  rcases h2 with⟨rfl,_⟩|⟨w0,k,d',_,_,z⟩
  ·exact R.new i d a h1 ea
  ·cases s0 with
   | fz d=>cases w0
   | ow d0=>exact R.new i d0 a h1 ea
   | io d0=>cases z
 ·obtain⟨d,h1,h2⟩:=R.io i a e
  obtain⟨d',hd⟩:=uE (d:=d) ((fr.zip (μ.drop own.length)).lookup i)
  exact ⟨d',by rw[aW,h1];simp only[N5,P5];rw[hd],h2⟩
 ·obtain⟨s0,h1,h2⟩:=fJ R R' nd e
  rcases h2 with⟨rfl,_⟩|⟨w0,k,d',_,_,z⟩
  ·exact R.ioi i d h1
  ·cases s0 with
   | fz d=>cases w0
   | ow d0=>cases z
   | io d0=>exact R.ioi i d0 h1
 ·obtain⟨s0,g1,g2⟩:=owns e1 w1
  obtain⟨t0,g3,g4⟩:=owns e2 w2
  exact R.ap i j s0 t0 a g1 g2 g3 g4 e3 e4
end
noncomputable abbrev Con:=List Sl->(Sl->Ev->Prop)->Prop
noncomputable def eQ(K:Fg)(con:Con):Sp:=λvs H Q _=>∃(G:Gh) (F:Hp) (args:List Sl) (Qd:Sl->Ev->Prop),Rel K G F (vs.map some) H (args.map some)/\con args Qd /\
 ∀v H' F' r ρ',Sub F F'->Rel K G F' (vs.map some) H' ρ'->Res K G F' H' (vs.map some) ρ' v r->Qd r ρ'->Q v H'
mutual
noncomputable def noMut:D->Bool
 | .none=>true
 | .bool _=>true
 | .int _=>true
 | .str _=>true
 | .tuple xs=>noMutAll xs
 | .list _=>false
 | .dict _=>false
noncomputable def noMutAll:List D->Bool
 | []=>true
 | x :: xs=>noMut x&&noMutAll xs
end
section
variable {K:Fg}{F F':Hp}
mutual
theorem Da.noMut(h:∀b xs,F b=some (.tup xs)->F' b=some (.tup xs)):∀{v:V}{d:D},Da K F v d->noMut d=true->Da K F' v d
 | _,_,.non,_=>.non
 | _,_,.bl b,_=>.bl b
 | _,_,.int i,_=>.int i
 | _,_,.str x,_=>.str x
 | _,_,.lst _ _,z=>by simp[L3.noMut]at z
 | _,_,.tup e t,z=>.tup (h _ _ e) (DaAll.noMut h t (by simpa [L3.noMut]using z))
 | _,_,.dk _ _,z=>by simp[L3.noMut]at z
 | _,_,.dt _ _,z=>by simp[L3.noMut]at z
 | _,_,.scr _,z=>by simp[L3.noMut,YJ]at z
theorem DaAll.noMut(h:∀b xs,F b=some (.tup xs)->F' b=some (.tup xs)):∀{xs:List V}{ds:List D},DaAll K F xs ds->noMutAll ds=true->DaAll K F' xs ds
 | _,_,.nil,_=>.nil
 | _,_,.cons a t,z=>by
  simp[noMutAll]at z
  exact .cons (Da.noMut h a z.1) (DaAll.noMut h t z.2)
end
end
noncomputable def ZQ(ρ:Ev):List iU->Bool
 | []=>false
 | .inr _ :: xs=>ZQ ρ xs
 | .inl i :: xs=>(match ρ[i]? with|some (some s)=>PQ s|_=>false)||ZQ ρ xs
noncomputable def NG(con:Con)(as:List AD):TD:=λρ Q=>yX as ρ λxs ρ1=>RQ ρ1 xs λds=>con (ds.map Sl.fz) λr _=>match ZQ ρ1 xs with
 | false=>Q r ρ1
 | true=>noMut r.d=true/\Q r ρ1
noncomputable def Ak(con:Con)(i:Nat)(xs:List iU)(ρ1:Ev)(Q:Sl->Ev->Prop):Prop:=match ρ1[i]? with
 | some (some s)=>match PQ s,ZQ ρ1 xs with
  | true,false=>RQ ρ1 xs λds=>con (.io s.d :: ds.map Sl.fz) λr outs=>match outs with
   | some (.io d') :: _=>Q r (ρ1.set i (some (s.put d')))
   | _=>False
  | _,_=>False
 | _=>False
noncomputable def kU(con:Con)(i:Nat)(as:List AD):TD:=λρ Q=>yX (.inl i :: as) ρ λxs ρ1=>Ak con i xs.tail ρ1 Q
noncomputable def LentA(σ:St)(ρ:Ev)(xs:List iU)(a:Addr):Prop:=∃(i:Nat) (s:Sl),Sum.inl i∈xs/\ρ[i]?=some (some s)/\PQ s=true/\σ[i]?=some (some (V.ref a))
theorem GJ{σ:St}{ρ:Ev}:∀{xs:List iU}{a:Addr},LentA σ ρ xs a->ZQ ρ xs=true
 | [],a,⟨i,s,h,_⟩=>by cases h
 | .inr d :: xs,a,⟨i,s,h,h1,h2,h3⟩=>by
  rcases U1.mp h with h|h
  ·cases h
  ·exact GJ (xs:=xs) ⟨i,s,h,h1,h2,h3⟩
 | .inl j :: xs,a,⟨i,s,h,h1,h2,h3⟩=>by
  unfold ZQ
  rcases U1.mp h with h|h
  ·cases h;rw[h1];simp[h2]
  ·rw[GJ (xs:=xs) ⟨i,s,h,h1,h2,h3⟩];simp
open Classical in
noncomputable def gJ(σ:St)(ρ:Ev)(xs:List iU)(F H:Hp):Hp:=λb=>if LentA σ ρ xs b then H b else F b
open Classical in
noncomputable def IX(σ:St)(ρ:Ev)(xs:List iU)(F:Hp):Hp:=λb=>if LentA σ ρ xs b then none else F b
section
variable {K:Fg}{G:Gh}{F F' H H':Hp}{σ:St}{ρ:Ev}{xs:List iU}
theorem aK{b:Addr}(h:¬LentA σ ρ xs b):gJ σ ρ xs F H b=F b:=by unfold gJ;rw[if_neg h]
theorem rY{b:Addr}(h:LentA σ ρ xs b):gJ σ ρ xs F H b=H b:=by unfold gJ;rw[if_pos h]
theorem PX{b:Addr}(h:¬LentA σ ρ xs b):IX σ ρ xs F b=F b:=by unfold IX;rw[if_neg h]
theorem sj{b:Addr}(h:LentA σ ρ xs b):IX σ ρ xs F b=none:=by unfold IX;rw[if_pos h]
theorem LentA.own(R:Rel K G F σ H ρ){b:Addr}(h:LentA σ ρ xs b):∃(i:Nat) (s:Sl) (o:HO),ρ[i]?=some (some s)/\PQ s=true/\σ[i]?=some (some (V.ref b))/\F b=none/\H b=some o/\Own1 K F o s.d:=by
 obtain⟨i,s,_,h1,h2,h3⟩:=h
 obtain⟨a,o,g1,g2,g3,g4⟩:=R.ow i s h1 h2
 rw[h3]at g1;cases g1
 exact ⟨i,s,o,h1,h2,h3,g2,g3,g4⟩
theorem bK(R:Rel K G F σ H ρ):Sub F (gJ σ ρ xs F H):=λb o e=>by
 have n:¬LentA σ ρ xs b:=λz=>by
  obtain⟨_,_,_,_,_,_,h,_⟩:=z.own R
  rw[h]at e;cases e
 rw[aK n];exact e
theorem Kq(R:Rel K G F σ H ρ):Sub (gJ σ ρ xs F H) H:=λb o e=>by
 by_cases z:LentA σ ρ xs b
 ·rw[rY z]at e;exact e
 ·rw[aK z]at e;exact R.sub _ _ e
theorem dW(R:Rel K G F σ H ρ){ys:List iU}{vs:List V}{k:List D->Prop}(m:∀y∈ys,y∈xs)(o:OpdsAt K F σ vs ys)(h:RQ ρ ys k):∃ds,DaAll K (gJ σ ρ xs F H) vs ds/\k ds:=by
 induction o generalizing k with
 | nil=>exact ⟨[],.nil,h⟩
 | @cons v x vs ys o t ih =>
  cases x with
  | inr d =>
   obtain⟨ds,a,q⟩:=ih (k:=λds=>k (d :: ds)) (λy hy=>m y (u0 _ hy)) h
   exact ⟨d :: ds,.cons (Da.mono (bK R) o) a,q⟩
  | inl i =>
   unfold RQ at h
   split at h
   ·rename_i s e
    obtain⟨ds,a,q⟩:=ih (k:=λds=>k (s.d :: ds)) (λy hy=>m y (u0 _ hy)) h
    refine ⟨s.d :: ds,.cons ?_ a,q⟩
    have o:σ[i]?=some (some v):=o
    have own:PQ s=true->Da K (gJ σ ρ xs F H) v s.d:=λw=>by
     obtain⟨b,u,h1,h2,h3,h4⟩:=R.ow i s e w
     rw[o]at h1;cases h1
     have l:LentA σ ρ xs b:=⟨i,s,m _ B0,e,w,o⟩
     exact (h4.mono (bK R)).da (by rw[rY l];exact h3)
    cases s with
    | fz d =>
     obtain⟨v,e1,e2⟩:=R.fz i d e
     rw[o]at e1;cases e1
     exact e2.mono (bK R)
    | ow d=>exact own rfl
    | io d=>exact own rfl
   ·exact h.elim
theorem tj{o:HO}{d:D}(h:Own1 K F o d):noMut d=false:=by
 cases o<;>cases d<;>first|rfl|exact h.elim
theorem xZ{ds:List D}{i:Nat}{s:Sl}(h:((ds.map Sl.fz).map some)[i]?=some (some s)):∃d,ds[i]?=some d/\s=.fz d:=by
 rw[R0,D1]at h
 cases e:ds[i]? with
 | none=>rw[e]at h;cases h
 | some d=>rw[e]at h;cases h;exact ⟨d,rfl,rfl⟩
theorem vE{vs:List V}{i:Nat}{v:V}(h:vs[i]?=some v):(vs.map some)[i]?=some (some v):=by rw[D1,h];rfl
theorem OG{vs:List V}{ds:List D}(s:Sub F H)(da:DaAll K F vs ds):Rel K ⟨H,F,λ_=>none⟩ F (vs.map some) H ((ds.map Sl.fz).map some) where
 len:=by simp[da.length]
 sub:=s
 sub0:=Sub.refl _
 fn:=λ_ _ e=>.inl e
 keep:=λ_ _ e _=>e
 fz:=λi d e=>by
  obtain⟨d',e1,e2⟩:=xZ e
  cases e2
  obtain⟨v,h1,h2⟩:=da.get e1
  exact ⟨v,vE h1,h2⟩
 ow:=λi s e w=>by obtain⟨d',e1,rfl⟩:=xZ e;cases w
 new:=λi d a e _=>by obtain⟨d',e1,e2⟩:=xZ e;cases e2
 io:=λi a e=>by cases e
 ioi:=λi d e=>by obtain⟨d',e1,e2⟩:=xZ e;cases e2
 ap:=λi j s t a e w _ _ _ _=>by obtain⟨d',e1,rfl⟩:=xZ e;cases w
theorem Rel.called(R:Rel K G F σ H ρ){σ1:St}{ρ1:Ev}(R':Rel K ⟨H,gJ σ ρ xs F H,λ_=>none⟩ F' σ1 H' ρ1):Sub F (IX σ ρ xs F')/\Rel K G (IX σ ρ xs F') σ H' ρ:=by
 have nl:∀{b:Addr}{o:HO},F b=some o->¬LentA σ ρ xs b:=λ{b o} e z=>by
  obtain⟨_,_,_,_,_,_,h,_⟩:=z.own R
  rw[h]at e;cases e
 have sb:Sub F (IX σ ρ xs F'):=λb o e=>by
  rw[PX (nl e)]
  exact R'.sub0 _ _ (bK R _ _ e)
 have ul:∀{b:Addr}{o:HO},IX σ ρ xs F' b=some o->¬LentA σ ρ xs b/\F' b=some o:=λ{b o} e=>by
  by_cases z:LentA σ ρ xs b
  ·rw[sj z]at e;cases e
  ·rw[PX z]at e;exact ⟨z,e⟩
 have kp:∀{b:Addr}{o:HO},H b=some o->H' b=some o:=λ{b o} e=>R'.keep b o e λi z=>by cases z
 refine ⟨sb,R.len,λb o e=>R'.sub _ _ (ul e).2,R.sub0.trans sb,λb o e=>?_,λa o e n=>kp (R.keep a o e n),λi d e=>?_,λi s e w=>?_,R.new,R.io,R.ioi,R.ap⟩
 ·obtain⟨n,e⟩:=ul e
  rcases R'.fn b o e with q|q
  ·have q:gJ σ ρ xs F H b=some o:=q
   rw[aK n]at q
   exact R.fn b o q
  ·exact .inr (R.h0 q)
 ·obtain⟨v,h1,h2⟩:=R.fz i d e
  exact ⟨v,h1,h2.mono sb⟩
 ·obtain⟨a,o,h1,h2,h3,h4⟩:=R.ow i s e w
  refine ⟨a,o,h1,?_,kp h3,h4.mono sb⟩
  cases q:IX σ ρ xs F' a with
  | none=>rfl
  | some u =>
   obtain⟨n,q⟩:=ul q
   rcases R'.fn a u q with z|z
   ·have z:gJ σ ρ xs F H a=some u:=z
    rw[aK n,h2]at z;cases z
   ·have z:H a=none:=z
    rw[h3]at z;cases z
theorem Res.called(R:Rel K G F σ H ρ){σ1:St}{ρ1:Ev}{v:V}{r:Sl}(R':Rel K ⟨H,gJ σ ρ xs F H,λ_=>none⟩ F' σ1 H' ρ1)(q:Res K ⟨H,gJ σ ρ xs F H,λ_=>none⟩ F' H' σ1 ρ1 v r)
  (hl:ZQ ρ xs=true->noMut r.d=true):Res K G (IX σ ρ xs F') H' σ ρ v r:=by
 have tp:∀b ys,F' b=some (.tup ys)->IX σ ρ xs F' b=some (.tup ys):=λb ys e=>by
  have n:¬LentA σ ρ xs b:=λz=>by
   obtain⟨_,_,o,_,_,_,_,h,w⟩:=z.own R
   have e2:=R'.sub0 b o (by show gJ σ ρ xs F H b=some o;rw[rY z];exact h)
   rw[e]at e2;cases e2
   exact w
  rw[PX n];exact e
 by_cases l:ZQ ρ xs=true
 ·cases r with
  | fz d=>exact Da.noMut tp q (hl l)
  | ow d =>
   obtain⟨a,o,_,_,_,w,_⟩:=q
   have:=hl l
   rw[show (Sl.ow d).d=d from rfl,tj w]at this;cases this
  | io d=>exact q.elim
 ·have e:IX σ ρ xs F'=F':=funext λb=>PX λz=>l (GJ z)
  rw[e]
  cases r with
  | fz d=>exact q
  | io d=>exact q.elim
  | ow d =>
   obtain⟨a,o,h1,h2,h3,h4,h5,_⟩:=q
   refine ⟨a,o,h1,h2,h3,h4,R.h0 h5,λi s es w z=>?_⟩
   obtain⟨a',o',g1,_,g3,_⟩:=R.ow i s es w
   rw[z]at g1;cases g1
   have h5:H a=none:=h5
   rw[h5]at g3;cases g3
theorem wE{con:Con}{as:List AD}{E:XK}{Q:VK}(h:lift K (NG con as) σ H Q):JY (eQ K con) [] E (wQ (as.map (nQ K))) σ H Q:=by
 obtain⟨G,F,ρ,Qd,R,w,k⟩:=h
 refine jX R w λvs H1 F1 xs ρ1 s1 R1 o w1=>?_
 obtain⟨ds,da,w1⟩:=dW (xs:=xs) R1 (λy hy=>hy) o w1
 rw[X1]
 refine ⟨_,_,ds.map Sl.fz,_,OG (Kq R1) da,w1,λv H' F' r ρ' s' R' r' q=>?_⟩
 obtain⟨sb,R2⟩:=R1.called R'
 have hq:(ZQ ρ1 xs=true->noMut r.d=true)/\Qd r ρ1:=by
  split at q
  ·rename_i e;exact ⟨λz=>(by rw[e]at z;cases z),q⟩
  ·exact ⟨λ_=>q.1,q.2⟩
 exact k v H' _ r ρ1 (s1.trans sb) R2 (Res.called R1 R' r' hq.1) hq.2
end
section
variable {K:Fg}{G:Gh}{F F' H H':Hp}{σ:St}{ρ:Ev}{xs:List iU}
noncomputable def QN(a:Addr):Nat->Option Addr:=λj=>if j=0 then some a else none
theorem QG{a b:Addr}{j:Nat}(h:QN a j=some b):j=0/\b=a:=by
 unfold QN at h
 split at h
 ·rename_i z;cases h;exact ⟨z,rfl⟩
 ·cases h
theorem uj{vs:List V}{ds:List D}{a:Addr}{o:HO}{d:D}(s:Sub F H)(h1:F a=none)(h2:H a=some o)(h3:Own1 K F o d)(da:DaAll K F vs ds) :
  Rel K ⟨H,F,QN a⟩ F ((V.ref a :: vs).map some) H ((Sl.io d :: ds.map Sl.fz).map some) where
 len:=by simp[da.length]
 sub:=s
 sub0:=Sub.refl _
 fn:=λ_ _ e=>.inl e
 keep:=λ_ _ e _=>e
 fz:=λi d' e=>by
  cases i with
  | zero=>simp at e
  | succ i =>
   have e:((ds.map Sl.fz).map some)[i]?=some (some (Sl.fz d')):=by simpa using e
   obtain⟨d2,e1,e2⟩:=xZ e
   cases e2
   obtain⟨v,g1,g2⟩:=da.get e1
   exact ⟨v,by simpa using g1,g2⟩
 ow:=λi s e w=>by
  cases i with
  | zero=>simp at e;subst e;exact ⟨a,o,by simp,h1,h2,h3⟩
  | succ i =>
   have e:((ds.map Sl.fz).map some)[i]?=some (some s):=by simpa using e
   obtain⟨d2,e1,rfl⟩:=xZ e
   cases w
 new:=λi d' b e _=>by
  cases i with
  | zero=>simp at e
  | succ i =>
   have e:((ds.map Sl.fz).map some)[i]?=some (some (Sl.ow d')):=by simpa using e
   obtain⟨d2,e1,e2⟩:=xZ e
   cases e2
 io:=λi b e=>by
  obtain⟨rfl,rfl⟩:=QG e
  exact ⟨d,by simp,by simp⟩
 ioi:=λi d' e=>by
  cases i with
  | zero=>exact ⟨a,rfl⟩
  | succ i =>
   have e:((ds.map Sl.fz).map some)[i]?=some (some (Sl.io d')):=by simpa using e
   obtain⟨d2,e1,e2⟩:=xZ e
   cases e2
 ap:=λi j s t b e1 w1 e2 w2 _ _=>by
  have f:∀{i:Nat}{s:Sl},((Sl.io d :: ds.map Sl.fz).map some)[i]?=some (some s)->PQ s=true->i=0:=λ{i s} e w=>by
   cases i with
   | zero=>rfl
   | succ i =>
    have e:((ds.map Sl.fz).map some)[i]?=some (some s):=by simpa using e
    obtain⟨d2,e1,rfl⟩:=xZ e
    cases w
  rw[f e1 w1,f e2 w2]
theorem Rel.calledI(R:Rel K G F σ H ρ){i:Nat}{s:Sl}{a:Addr}{d':D}{σ1:St}{ρ1:Ev}(e:ρ[i]?=some (some s))(w:PQ s=true)(ea:σ[i]?=some (some (V.ref a)))
  (R':Rel K ⟨H,F,QN a⟩ F' (some (V.ref a) :: σ1) H' (some (Sl.io d') :: ρ1)):Rel K G F' σ H' (ρ.set i (some (s.put d'))):=by
 obtain⟨a0,o0,g1,g2,g3,g4⟩:=R.ow i s e w
 rw[ea]at g1;cases g1
 have sb:Sub F F':=R'.sub0
 have hl:=mX e
 have kp:∀{b:Addr}{o:HO},b≠a->H b=some o->H' b=some o:=λ{b o} n q=>R'.keep b o q λj z=>n (QG z).2
 have ow':∀{j:Nat}{t:Sl},j≠i->ρ[j]?=some (some t)->PQ t=true->∃b o,σ[j]?=some (some (V.ref b))/\F' b=none/\H' b=some o/\Own1 K F' o t.d:=λ{j t} n q wt=>by
  obtain⟨b,o,q1,q2,q3,q4⟩:=R.ow j t q wt
  have nb:b≠a:=λz=>n (R.ap j i t s a q wt e w (by rw[q1,z]) ea)
  refine ⟨b,o,q1,?_,kp nb q3,q4.mono sb⟩
  cases z:F' b with
  | none=>rfl
  | some u =>
   rcases R'.fn b u z with y|y
   ·have y:F b=some u:=y
    rw[q2]at y;cases y
   ·have y:H b=none:=y
    rw[q3]at y;cases y
 refine ⟨by rw[P4];exact R.len,R'.sub,R.sub0.trans sb,λb o q=>?_,λb o q n=>?_,λj d q=>?_,λj t q wt=>?_,λj d b q eb=>?_,λj b q=>?_,λj d q=>?_,λj k t u b e1 w1 e2 w2 e3 e4=>?_⟩
 ·rcases R'.fn b o q with y|y
  ·exact R.fn b o y
  ·exact .inr (R.h0 y)
 ·refine kp (λz=>?_) (R.keep b o q n)
  subst z
  cases s with
  | fz d=>cases w
  | ow d=>rw[R.new i d b e ea]at q;cases q
  | io d =>
   obtain⟨a',y⟩:=R.ioi i d e
   obtain⟨_,_,y2⟩:=R.io i a' y
   rw[ea]at y2;cases y2
   exact n i y
 ·rcases mQ q with⟨rfl,z⟩|⟨n,z⟩
  ·cases s<;>simp[Sl.put,PQ]at z w
  ·obtain⟨v,y1,y2⟩:=R.fz j d z
   exact ⟨v,y1,y2.mono sb⟩
 ·rcases mQ q with⟨rfl,z⟩|⟨n,z⟩
  ·cases z
   obtain⟨b,o,y1,y2,y3,y4⟩:=R'.ow 0 (.io d') (by simp) rfl
   simp at y1;subst y1
   exact ⟨a,o,ea,y2,y3,by cases s<;>first|exact y4|cases w⟩
  ·exact ow' n z wt
 ·rcases mQ q with⟨rfl,z⟩|⟨n,z⟩
  ·cases s with
   | fz d=>cases w
   | ow d0=>exact R.new j d0 b e eb
   | io d0=>cases z
  ·exact R.new j d b z eb
 ·obtain⟨d,y1,y2⟩:=R.io j b q
  by_cases z:j=i
  ·subst z
   rw[e]at y1;cases y1
   exact ⟨d',by rw[bZ hl];rfl,y2⟩
  ·exact ⟨d,by rw[P0 (S1 z)];exact y1,y2⟩
 ·rcases mQ q with⟨rfl,z⟩|⟨n,z⟩
  ·cases s with
   | fz d=>cases w
   | ow d0=>cases z
   | io d0=>exact R.ioi j d0 e
  ·exact R.ioi j d z
 ·have f:∀(j:Nat) (t:Sl),(ρ.set i (some (s.put d')))[j]?=some (some t)->PQ t=true->∃t',ρ[j]?=some (some t')/\PQ t'=true:=λj t q wt=>by
   rcases mQ q with⟨rfl,z⟩|⟨n,z⟩
   ·exact ⟨s,e,w⟩
   ·exact ⟨t,z,wt⟩
  obtain⟨t',e1',w1'⟩:=f j t e1 w1
  obtain⟨u',e2',w2'⟩:=f k u e2 w2
  exact R.ap j k t' u' b e1' w1' e2' w2' e3 e4
theorem aX(R:Rel K G F σ H ρ){ys:List iU}{vs:List V}{k:List D->Prop}(m:ZQ ρ ys=false)(o:OpdsAt K F σ vs ys)(h:RQ ρ ys k):∃ds,DaAll K F vs ds/\k ds:=by
 induction o generalizing k with
 | nil=>exact ⟨[],.nil,h⟩
 | @cons v x vs ys o t ih =>
  cases x with
  | inr d =>
   obtain⟨ds,a,q⟩:=ih (k:=λds=>k (d :: ds)) m h
   exact ⟨d :: ds,.cons o a,q⟩
  | inl i =>
   unfold RQ at h
   unfold ZQ at m
   simp only[Bool.or_eq_false_iff]at m
   split at h
   ·rename_i s e
    obtain⟨ds,a,q⟩:=ih (k:=λds=>k (s.d :: ds)) m.2 h
    refine ⟨s.d :: ds,.cons ?_ a,q⟩
    have m1:=m.1
    rw[e]at m1
    cases s with
    | fz d =>
     obtain⟨v',e1,e2⟩:=R.fz i d e
     have o:σ[i]?=some (some v):=o
     rw[o]at e1;cases e1
     exact e2
    | ow d=>cases m1
    | io d=>cases m1
   ·exact h.elim
theorem Zy{con:Con}{i:Nat}{as:List AD}{E:XK}{Q:VK}(h:lift K (kU con i as) σ H Q):JY (eQ K con) [] E (wQ ((.inl i :: as).map (nQ K))) σ H Q:=by
 obtain⟨G,F,ρ,Qd,R,w,k⟩:=h
 unfold kU yX at w
 split at w
 ·rename_i s0 e0
  obtain⟨v,ev⟩:=R.bound e0
  refine ⟨v,ev,jX R w λvs H1 F1 xs ρ1 s1 R1 o w1=>?_⟩
  show eQ K con (v :: vs++[]) H1 Q E
  rw[X1]
  have w1:Ak con i xs ρ1 Qd:=w1
  unfold Ak at w1
  split at w1
  ·rename_i s e
   split at w1
   ·rename_i p1 p2
    obtain⟨a,o',g1,g2,g3,g4⟩:=R1.ow i s e p1
    rw[ev]at g1;cases g1
    obtain⟨ds,da,w1⟩:=aX R1 p2 o w1
    refine ⟨_,F1,.io s.d :: ds.map Sl.fz,_,uj R1.sub g2 g3 g4 da,w1,λv H' F' r ρ' s' R' r' q=>?_⟩
    split at q
    ·rename_i d' ρ2
     have R2:=R1.calledI e p1 ev R'
     refine k v H' F' r _ (s1.trans s') R2 ?_ q
     cases r with
     | fz d=>exact r'
     | io d=>exact r'.elim
     | ow d =>
      obtain⟨b,u,h1,h2,h3,h4,h5,_⟩:=r'
      have h5:H1 b=none:=h5
      refine ⟨b,u,h1,h2,h3,h4,R1.h0 h5,λj t es w z=>?_⟩
      have own:∃t',ρ1[j]?=some (some t')/\PQ t'=true:=by
       rcases mQ es with⟨rfl,y⟩|⟨n,y⟩
       ·exact ⟨s,e,p1⟩
       ·exact ⟨t,y,w⟩
      obtain⟨t',y1,y2⟩:=own
      obtain⟨a',o',q1,_,q3,_⟩:=R1.ow j t' y1 y2
      rw[z]at q1;cases q1
      rw[h5]at q3;cases q3
    ·exact q.elim
   ·exact w1.elim
  ·exact w1.elim
 ·exact w.elim
noncomputable def eW(n:Nat)(args:List Sl):Ev:=args.map some++Z1 (n - args.length) none
noncomputable def outs:List Sl->Ev->Ev
 | [],_=>[]
 | .io _ :: as,ρ=>(ρ.headD none) :: outs as ρ.tail
 | .fz d :: as,ρ=>some (.fz d) :: outs as ρ.tail
 | .ow d :: as,ρ=>some (.ow d) :: outs as ρ.tail
theorem JX{α:Type}{l:List (Option α)}{n i:Nat}{x:α}(h:(l++Z1 n none)[i]?=some (some x)):l[i]?=some (some x):=by
 by_cases z:i < l.length
 ·rw[E2 z]at h;exact h
 ·rw[T1 (j8 z),u8]at h
  split at h<;>cases h
theorem cK{α:Type}{l m:List α}{i:Nat}{x:α}(h:l[i]?=some x):(l++m)[i]?=some x:=by rw[E2 (mX h)];exact h
theorem Rel.start{vs:List V}{args:List Sl}{N:List Str}(R:Rel K G F (vs.map some) H (args.map some)):Rel K G F (L2.start N vs) H (eW N.length args) where
 len:=by have:=R.len;simp[L2.start,eW]at this ⊢;omega
 sub:=R.sub
 sub0:=R.sub0
 fn:=R.fn
 keep:=R.keep
 fz:=λi d e=>by
  obtain⟨v,h1,h2⟩:=R.fz i d (JX e)
  exact ⟨v,cK h1,h2⟩
 ow:=λi s e w=>by
  obtain⟨a,o,h1,h2⟩:=R.ow i s (JX e) w
  exact ⟨a,o,cK h1,h2⟩
 new:=λi d a e ea=>R.new i d a (JX e) (JX ea)
 io:=λi a e=>by
  obtain⟨d,h1,h2⟩:=R.io i a e
  exact ⟨d,cK h1,cK h2⟩
 ioi:=λi d e=>R.ioi i d (JX e)
 ap:=λi j s t a e1 w1 e2 w2 e3 e4=>R.ap i j s t a (JX e1) w1 (JX e2) w2 (JX e3) (JX e4)
theorem CZ:∀{args:List Sl}{ρ:Ev}{i:Nat}{s:Sl},(outs args ρ)[i]?=some (some s)->(∃d,args[i]?=some (.io d)/\ρ[i]?=some (some s))\/(args[i]?=some s/\∀d,s≠.io d)
 | [],ρ,i,s,h=>by simp[outs]at h
 | .io d :: as,ρ,0,s,h=>by
  simp[outs]at h
  cases ρ with
  | nil=>simp at h
  | cons x ρ=>simp at h;exact .inl ⟨d,by simp,by simp[h]⟩
 | .fz d :: as,ρ,0,s,h=>by simp[outs]at h;subst h;exact .inr ⟨by simp,λd z=>by cases z⟩
 | .ow d :: as,ρ,0,s,h=>by simp[outs]at h;subst h;exact .inr ⟨by simp,λd z=>by cases z⟩
 | .io d :: as,ρ,i+1,s,h=>by
  simp only[outs,Y4]at h
  rcases CZ h with⟨d,h1,h2⟩|⟨h1,h2⟩
  ·exact .inl ⟨d,by simpa using h1,by cases ρ with|nil=>simp at h2|cons x ρ=>simpa using h2⟩
  ·exact .inr ⟨by simpa using h1,h2⟩
 | .fz d :: as,ρ,i+1,s,h=>by
  simp only[outs,Y4]at h
  rcases CZ h with⟨d,h1,h2⟩|⟨h1,h2⟩
  ·exact .inl ⟨d,by simpa using h1,by cases ρ with|nil=>simp at h2|cons x ρ=>simpa using h2⟩
  ·exact .inr ⟨by simpa using h1,h2⟩
 | .ow d :: as,ρ,i+1,s,h=>by
  simp only[outs,Y4]at h
  rcases CZ h with⟨d,h1,h2⟩|⟨h1,h2⟩
  ·exact .inl ⟨d,by simpa using h1,by cases ρ with|nil=>simp at h2|cons x ρ=>simpa using h2⟩
  ·exact .inr ⟨by simpa using h1,h2⟩
theorem Lq:∀{args:List Sl}{ρ:Ev}{i:Nat}{d:D}{x:Option Sl},args[i]?=some (.io d)->ρ[i]?=some x->(outs args ρ)[i]?=some x
 | [],_,_,_,_,h,_=>by simp at h
 | _ :: _,[],_,_,_,_,h=>by simp at h
 | s :: as,y :: ρ,0,d,x,h,h'=>by simp at h h';subst h h';simp[outs]
 | s :: as,y :: ρ,i+1,d,x,h,h'=>by
  have:=Lq (args:=as) (ρ:=ρ) (i:=i) (by simpa using h) (by simpa using h')
  cases s<;>simpa [outs]using this
theorem RG:∀(args:List Sl) (ρ:Ev),(outs args ρ).length=args.length
 | [],_=>rfl
 | s :: as,ρ=>by cases s<;>simp[outs,RG as]
theorem Bk{args:List Sl}{i:Nat}{s:Sl}(h:(args.map some)[i]?=some (some s)):args[i]?=some s:=by
 rw[D1]at h
 cases e:args[i]? with
 | none=>rw[e]at h;cases h
 | some x=>rw[e]at h;cases h;rfl
theorem eK{args:List Sl}{i:Nat}{s:Sl}(h:args[i]?=some s):(args.map some)[i]?=some (some s):=by rw[D1,h];rfl
theorem Rel.ret{vs:List V}{args:List Sl}{σ':St}{ρ':Ev}(hn:∀s∈args,∀d,s≠.ow d)(R:Rel K G F (vs.map some) H (args.map some))(sb:Sub F F')(R':Rel K G F' σ' H' ρ'):Rel K G F' (vs.map some) H' (outs args ρ'):=by
 have own:∀{i:Nat}{s:Sl},(outs args ρ')[i]?=some (some s)->PQ s=true->∃d a,args[i]?=some (.io d)/\ρ'[i]?=some (some s)/\G.io i=some a/\(vs.map some)[i]?=some (some (V.ref a))/\σ'[i]?=some (some (V.ref a)):=λ{i s} e w=>by
  rcases CZ e with⟨d,h1,h2⟩|⟨h1,h2⟩
  ·obtain⟨a,h3⟩:=R.ioi i d (eK h1)
   obtain⟨_,_,h4⟩:=R.io i a h3
   obtain⟨_,_,h5⟩:=R'.io i a h3
   exact ⟨d,a,h1,h2,h3,h4,h5⟩
  ·cases s with
   | fz d=>cases w
   | ow d=>exact (hn _ (v3 h1) d rfl).elim
   | io d=>exact (h2 d rfl).elim
 refine ⟨by rw[RG];simpa using R.len,R'.sub,R'.sub0,R'.fn,R'.keep,λi d e=>?_,λi s e w=>?_,λi d a e ea=>?_,λi a e=>?_,λi d e=>?_,λi j s t a e1 w1 e2 w2 e3 e4=>?_⟩
 ·rcases CZ e with⟨d',h1,h2⟩|⟨h1,h2⟩
  ·obtain⟨a,h3⟩:=R.ioi i d' (eK h1)
   obtain⟨d2,h4,_⟩:=R'.io i a h3
   rw[h2]at h4;cases h4
  ·obtain⟨v,h3,h4⟩:=R.fz i d (eK h1)
   exact ⟨v,h3,h4.mono sb⟩
 ·obtain⟨d,a,h1,h2,h3,h4,h5⟩:=own e w
  obtain⟨b,o,g1,g2⟩:=R'.ow i s h2 w
  rw[h5]at g1;cases g1
  exact ⟨a,o,h4,g2⟩
 ·obtain⟨d',b,h1,h2,h3,h4,h5⟩:=own e rfl
  rw[h4]at ea;cases ea
  exact R'.new i d _ h2 h5
 ·obtain⟨d,h1,h2⟩:=R.io i a e
  obtain⟨d',h3,h4⟩:=R'.io i a e
  exact ⟨d',Lq (Bk h1) h3,h2⟩
 ·obtain⟨d',a,h1,h2,h3,h4,h5⟩:=own e rfl
  exact ⟨a,h3⟩
 ·obtain⟨_,a1,_,h2,_,h4,h5⟩:=own e1 w1
  obtain⟨_,a2,_,g2,_,g4,g5⟩:=own e2 w2
  rw[h4]at e3;cases e3
  rw[g4]at e4;cases e4
  exact R'.ap i j s t a h2 w1 g2 w2 h5 g5
theorem Res.ret{vs:List V}{args:List Sl}{σ':St}{ρ':Ev}{v:V}{r:Sl}(hn:∀s∈args,∀d,s≠.ow d)(R:Rel K G F (vs.map some) H (args.map some))(R':Rel K G F' σ' H' ρ')(q:Res K G F' H' σ' ρ' v r):Res K G F' H' (vs.map some) (outs args ρ') v r:=by
 cases r with
 | fz d=>exact q
 | io d=>exact q.elim
 | ow d =>
  obtain⟨a,o,h1,h2,h3,h4,h5,h6⟩:=q
  refine ⟨a,o,h1,h2,h3,h4,h5,λi s e w z=>?_⟩
  rcases CZ e with⟨d',g1,g2⟩|⟨g1,g2⟩
  ·obtain⟨b,g3⟩:=R.ioi i d' (eK g1)
   obtain⟨_,_,g4⟩:=R.io i b g3
   obtain⟨_,_,g5⟩:=R'.io i b g3
   rw[g4]at z;cases z
   exact h6 i s g2 w g5
  ·cases s with
   | fz d=>cases w
   | ow d=>exact (hn _ (v3 g1) d rfl).elim
   | io d=>exact (g2 d rfl).elim
noncomputable def KZ(args:List Sl)(Qd:Sl->Ev->Prop):DE:={ nx:=λρ=>Qd (.fz .none) (outs args ρ),rt:=λr ρ=>Qd r (outs args ρ),bk:=λ_=>False,ct:=λ_=>False }
theorem mM{N:List Str}{con:Con}{ts:ZJ}{vs:List V}{Q:VK}{E:XK}(hc:∀args Qd,con args Qd->(∀s∈args,∀d,s≠.ow d)/\ts (KZ args Qd) (eW N.length args))(h:eQ K con vs H Q E):tQ K ts { nx:=λ_ H'=>Q .non H',rt:=Q } (L2.start N vs) H:=by
 obtain⟨G,F,args,Qd,R,w,k⟩:=h
 obtain⟨hn,w⟩:=hc args Qd w
 refine ⟨G,F,_,_,R.start,w,λσ' H' F' ρ' s R' q=>?_,λv σ' H' F' r ρ' s R' r' q=>?_,λ_ _ _ _ _ _ q=>q.elim,λ_ _ _ _ _ _ q=>q.elim⟩
 ·exact k .non H' F' (.fz .none) _ s (R.ret hn s R') Da.non q
 ·exact k v H' F' r _ s (R.ret hn s R') (r'.ret hn R R') q
end
section
variable {K:Fg}{F H:Hp}{v:V}
theorem At.int{i:Int}(h:At K F H v (.int i)):v=.int i:=by
 rcases h with h|⟨a,o,rfl,_,_,h⟩
 ·cases h;rfl
 ·cases o<;>exact h.elim
theorem At.bool{b:Bool}(h:At K F H v (.bool b)):v=.bl b:=by
 rcases h with h|⟨a,o,rfl,_,_,h⟩
 ·cases h;rfl
 ·cases o<;>exact h.elim
theorem At.str{x:Str}(h:At K F H v (.str x)):v=.str x:=by
 rcases h with h|⟨a,o,rfl,_,_,h⟩
 ·cases h;rfl
 ·cases o<;>exact h.elim
theorem At.none(h:At K F H v .none):v=.non:=by
 rcases h with h|⟨a,o,rfl,_,_,h⟩
 ·cases h;rfl
 ·cases o<;>exact h.elim
theorem At.list{ds:List D}(s:Sub F H)(h:At K F H v (.list ds)):∃a xs,v=.ref a/\H a=some (.lst xs)/\DaAll K F xs ds:=by
 rcases h with h|⟨a,o,rfl,_,e,h⟩
 ·cases h with
  | lst e t=>exact ⟨_,_,rfl,s _ _ e,t⟩
 ·cases o<;>first|exact h.elim|exact ⟨_,_,rfl,e,h⟩
theorem At.tuple{ds:List D}(s:Sub F H)(h:At K F H v (.tuple ds)):∃a xs,v=.ref a/\F a=some (.tup xs)/\H a=some (.tup xs)/\DaAll K F xs ds:=by
 rcases h with h|⟨a,o,rfl,_,e,h⟩
 ·cases h with
  | tup e t=>exact ⟨_,_,rfl,e,s _ _ e,t⟩
 ·cases o<;>exact h.elim
theorem Mq(k:IQ):GK k≠.none:=by cases k<;>(intro z;cases z)
theorem Da.scr_inv{ns:List Int}:∀{d:D},Da K F v d->d=YJ ns->∃a,v=.ref a/\SqL K F a (ns.map V.int)
 | _,.non,e=>by cases e
 | _,.bl _,e=>by cases e
 | _,.int _,e=>by cases e
 | _,.str _,e=>by cases e
 | _,.lst _ _,e=>by cases e
 | _,.tup _ _,e=>by cases e
 | _,.dk _ t,e=>by
  cases t with
  | nil=>injection e with e;cases e
  | cons _ _ =>
   injection e with e
   injection e with e _
   injection e with e _
   exact (Mq _ e).elim
 | _,.dt _ t,e=>by
  cases t with
  | nil=>injection e with e;cases e
  | cons _ _ =>
   injection e with e
   injection e with e _
   injection e with e _
   cases e
 | _,.scr (ns:=ns') q,e=>by
  injection e with e
  injection e with e _
  injection e with _ e
  injection e with e2
  have:∀(l m:List Int),l.map q0=m.map q0->l=m:=by
   intro l
   induction l with
   | nil=>intro m e;cases m with|nil=>rfl|cons=>simp at e
   | cons a l ih=>intro m e;cases m with|nil=>simp at e|cons b m=>simp at e;rw[e.1,ih m e.2]
  rw[<- this _ _ e2]
  exact ⟨_,rfl,q⟩
theorem At.scr{ns:List Int}(s:Sub F H)(h:At K F H v (YJ ns)):∃a,v=.ref a/\SqL K H a (ns.map V.int):=by
 rcases h with h|⟨a,o,rfl,_,e,h⟩
 ·obtain⟨a,h1,h2⟩:=h.scr_inv rfl
  exact ⟨a,h1,s.sql h2⟩
 ·exfalso
  cases o<;>first|exact h.elim|skip
  ·rename_i kvs
   have h:DaKV K F kvs [(.none,.list (ns.map q0))]:=h
   generalize q:[(PyData.none,X2 (ns.map q0))]=es at h
   cases h with
   | nil=>cases q
   | cons _ _ =>
    injection q with q _
    injection q with q _
    exact Mq _ q.symm
  ·rename_i kvs
   have h:DaKT K F kvs [(.none,.list (ns.map q0))]:=h
   cases h
theorem AtAll.one{vs:List V}{d:D}(h:AtAll K F H vs [d]):∃v,vs=[v]/\At K F H v d:=by
 cases h with|cons a t=>cases t;exact ⟨_,rfl,a⟩
theorem AtAll.two{vs:List V}{d e:D}(h:AtAll K F H vs [d,e]):∃v u,vs=[v,u]/\At K F H v d/\At K F H u e:=by
 cases h with|cons a t=>cases t with|cons b t=>cases t;exact ⟨_,_,rfl,a,b⟩
end
noncomputable def fW(r:R2):List V->Hp->VK->Prop:=λvs H Q=>∃x y,vs=[x,y]/\r x y H Q
noncomputable def BP(r:V->Hp->VK->Prop):List V->Hp->VK->Prop:=λvs H Q=>∃x,vs=[x]/\r x H Q
theorem au{K:Fg}{r:R2}{f:D->D->(Sl->Prop)->Prop}(h:∀(G:Gh) (F:Hp) (σ:St) (H:Hp) (ρ:Ev) (x y:V) (d e:D) (Q:VK) (Qd:Sl->Prop),Rel K G F σ H ρ->At K F H x d->At K F H y e->f d e Qd ->
    (∀v H' F' s,Sub F F'->Rel K G F' σ H' ρ->Res K G F' H' σ ρ v s->Qd s->Q v H')->r x y H Q):cX K (fW r) (o2 f):=by
 intro G F σ H ρ vs ds Q Qd R a w k
 match ds,a,w with
 | [d,e],a,w =>
  obtain⟨v,u,rfl,h1,h2⟩:=a.two
  exact ⟨v,u,rfl,h G F σ H ρ v u d e Q Qd R h1 h2 w k⟩
theorem Ck{K:Fg}{r:List V->Hp->VK->Prop}{f:D->(Sl->Prop)->Prop}(h:∀(G:Gh) (F:Hp) (σ:St) (H:Hp) (ρ:Ev) (x:V) (d:D) (Q:VK) (Qd:Sl->Prop),Rel K G F σ H ρ->At K F H x d->f d Qd ->
    (∀v H' F' s,Sub F F'->Rel K G F' σ H' ρ->Res K G F' H' σ ρ v s->Qd s->Q v H')->r [x] H Q):cX K r (o1 f):=by
 intro G F σ H ρ vs ds Q Qd R a w k
 match ds,a,w with
 | [d],a,w =>
  obtain⟨v,rfl,h1⟩:=a.one
  exact h G F σ H ρ v d Q Qd R h1 w k
noncomputable def fI(C:Int->Int->Prop)(g:Int->Int->D):D->D->(Sl->Prop)->Prop
 | .int i,.int j,Q=>C i j/\Q (.fz (g i j))
 | _,_,_=>False
noncomputable def Xj(g:Int->Int->D):D->D->(Sl->Prop)->Prop
 | .int i,.int j,Q=>Q (.fz (g i j))
 | _,_,_=>False
theorem xE{K:Fg}{C:Int->Int->Prop}{g:Int->Int->V}{g':Int->Int->D}(hg:∀F i j,Da K F (g i j) (g' i j)):cX K (fW (rI C g)) (o2 (fI C g')):=au λG F σ H ρ x y d e Q Qd R h1 h2 w k=>by
 cases d<;>first|exact w.elim|skip
 cases e<;>first|exact w.elim|skip
 case int.int i j =>
  cases h1.int
  cases h2.int
  exact ⟨i,j,rfl,rfl,w.1,k _ H F (.fz _) (Sub.refl _) R (hg F i j) w.2⟩
theorem UG{K:Fg}{g:Int->Int->V}{g':Int->Int->D}(hg:∀F i j,Da K F (g i j) (g' i j)):cX K (fW (RK g)) (o2 (Xj g')):=au λG F σ H ρ x y d e Q Qd R h1 h2 w k=>by
 cases d<;>first|exact w.elim|skip
 cases e<;>first|exact w.elim|skip
 case int.int i j =>
  cases h1.int
  cases h2.int
  exact ⟨i,j,rfl,rfl,k _ H F (.fz _) (Sub.refl _) R (hg F i j) w⟩
noncomputable def fK(r r':R2):R2:=λx y H Q=>r x y H Q\/r' x y H Q
noncomputable def Dk:R2:=λx y H Q=>∃(a b:Addr) (xs ys:List V),x=.ref a/\y=.ref b/\H a=some (.tup xs)/\H b=some (.tup ys)/\xs.length+ys.length<=sizeLine /\
 (xs=[]->Q (.ref b) H)/\(xs≠[]->ys=[]->Q (.ref a) H)/\(xs≠[]->ys≠[]->∀p,H p=none->Q (.ref p) (OQ H p (.tup (xs++ys))))
noncomputable def yE:D->D->(Sl->Prop)->Prop
 | .int i,.int j,Q=>Q (.fz (.int (i+j)))
 | .tuple xs,.tuple ys,Q=>xs.length+ys.length<=sizeLine/\Q (.fz (.tuple (xs++ys)))
 | .list xs,.list ys,Q=>xs.length+ys.length<=sizeLine/\Q (.ow (.list (xs++ys)))
 | _,_,_=>False
theorem DaAll.nil_of{K:Fg}{F:Hp}{ds:List D}(h:DaAll K F [] ds):ds=[]:=by cases h;rfl
theorem QQ{K:Fg}:cX K (fW (fK (RK λi j=>.int (i+j)) (fK Dk SC))) (o2 yE):=au λG F σ H ρ x y d e Q Qd R h1 h2 w k=>by
 cases d<;>first|exact w.elim|(cases e<;>first|exact w.elim|skip)
 case int.int i j =>
  cases h1.int
  cases h2.int
  exact .inl ⟨i,j,rfl,rfl,k _ H F (.fz _) (Sub.refl _) R (Da.int _) w⟩
 case tuple.tuple xs ys =>
  obtain⟨a,us,rfl,f1,e1,d1⟩:=h1.tuple R.sub
  obtain⟨b,ws,rfl,f2,e2,d2⟩:=h2.tuple R.sub
  refine .inr (.inl ⟨a,b,us,ws,rfl,rfl,e1,e2,by rw[d1.length,d2.length];exact w.1,λz=>?_,λ_ z=>?_,λ_ _ p hp=>?_⟩)
  ·subst z
   have:=d1.nil_of
   subst this
   exact k _ H F (.fz _) (Sub.refl _) R (Da.tup f2 d2) w.2
  ·subst z
   have:=d2.nil_of
   subst this
   refine k _ H F (.fz _) (Sub.refl _) R (Da.tup f1 d1) ?_
   have:=w.2
   rw[X1]at this
   exact this
  ·obtain⟨sb,R',dd⟩:=R.newTup hp (d1.append d2)
   exact k _ _ _ (.fz _) sb R' dd w.2
 case list.list xs ys =>
  obtain⟨a,us,rfl,e1,d1⟩:=h1.list R.sub
  obtain⟨b,ws,rfl,e2,d2⟩:=h2.list R.sub
  refine .inr (.inr ⟨a,b,us,ws,rfl,rfl,e1,e2,by rw[d1.length,d2.length];exact w.1,λp hp=>?_⟩)
  obtain⟨R',r'⟩:=R.newOw (o:=.lst (us++ws)) (d:=.list (xs++ys)) hp (d1.append d2)
  exact k _ _ F _ (Sub.refl _) R' r' w.2
noncomputable def DO:D->D->(Sl->Prop)->Prop
 | .int i,.int j,Q=>CMul i j/\Q (.fz (.int (i * j)))
 | .list xs,.int k,Q=>-(2 ^ 63)<=k/\k < 2 ^ 63/\xs.length * k.toNat<=sizeLine/\Q (.ow (.list (Z1 k.toNat xs).flatten))
 | _,_,_=>False
theorem LX{K:Fg}:cX K (fW (fK (rI CMul λi j=>.int (i * j)) UC)) (o2 DO):=au λG F σ H ρ x y d e Q Qd R h1 h2 w k=>by
 cases d<;>first|exact w.elim|(cases e<;>first|exact w.elim|skip)
 case int.int i j =>
  cases h1.int
  cases h2.int
  exact .inl ⟨i,j,rfl,rfl,w.1,k _ H F (.fz _) (Sub.refl _) R (Da.int _) w.2⟩
 case list.int xs j =>
  cases h2.int
  obtain⟨a,us,rfl,e1,d1⟩:=h1.list R.sub
  refine .inr ⟨a,j,us,rfl,rfl,e1,w.1,w.2.1,by rw[d1.length];exact w.2.2.1,λp hp=>?_⟩
  obtain⟨R',r'⟩:=R.newOw (o:=.lst (Z1 j.toNat us).flatten) (d:=.list (Z1 j.toNat xs).flatten) hp (d1.rep _)
  exact k _ _ F _ (Sub.refl _) R' r' w.2.2.2
noncomputable def nM:D->(Sl->Prop)->Prop
 | .list ds,Q=>Q (.fz (.int ds.length))
 | .tuple ds,Q=>Q (.fz (.int ds.length))
 | .dict [(.none,.list ds)],Q=>∃ns:List Int,ds=ns.map q0/\Q (.fz (.int ns.length))
 | _,_=>False
theorem QX{K:Fg}:cX K (aM K) (o1 nM):=Ck λG F σ H ρ x d Q Qd R h1 w k=>by
 cases d<;>first|exact w.elim|skip
 case list ds =>
  obtain⟨a,us,rfl,e1,d1⟩:=h1.list R.sub
  exact ⟨a,us,rfl,.inl (SqL.of e1),k _ H F (.fz _) (Sub.refl _) R (Da.int _) (by rw[d1.length];exact w)⟩
 case tuple ds =>
  obtain⟨a,us,rfl,_,e1,d1⟩:=h1.tuple R.sub
  exact ⟨a,us,rfl,.inr (SqT.of e1),k _ H F (.fz _) (Sub.refl _) R (Da.int _) (by rw[d1.length];exact w)⟩
 case dict es =>
  rcases es with _|⟨⟨c1,c2⟩,_|⟨c3,c4⟩⟩
  ·exact w.elim
  ·cases c1<;>first|exact w.elim|skip
   cases c2<;>first|exact w.elim|skip
   obtain⟨ns,rfl,w⟩:=w
   obtain⟨a,rfl,q⟩:=h1.scr R.sub
   exact ⟨a,_,rfl,.inl q,k _ H F (.fz _) (Sub.refl _) R (Da.int _) (by rw[n0];exact w)⟩
  ·cases c1<;>first|exact w.elim|(cases c2<;>exact w.elim)
noncomputable def CP:D->D->(Sl->Prop)->Prop
 | .list ds,.int i,Q=>∃d,SJ ds i=some d/\Q (.fz d)
 | .tuple ds,.int i,Q=>∃d,SJ ds i=some d/\Q (.fz d)
 | .dict [(.none,.list ds)],.int i,Q=>∃(ns:List Int) (n:Int),ds=ns.map q0/\SJ ns i=some n/\Q (.fz (.int n))
 | _,_,_=>False
theorem DaAll.at{K:Fg}{F:Hp}{xs:List V}{ds:List D}{i:Int}{d:D}(h:DaAll K F xs ds)(e:SJ ds i=some d):∃v,SJ xs i=some v/\Da K F v d:=by
 unfold SJ at e ⊢
 rw[h.length]
 cases q:SF ds.length i with
 | none=>rw[q]at e;cases e
 | some j=>rw[q]at e;exact h.get e
theorem Nq{α β:Type}(f:α->β){l:List α}{i:Int}{x:α}(h:SJ l i=some x):SJ (l.map f) i=some (f x):=by
 unfold SJ at h ⊢
 rw[n0]
 cases q:SF l.length i with
 | none=>rw[q]at h;cases h
 | some j=>rw[q]at h;simp at h ⊢;exact ⟨x,h,rfl⟩
theorem oM{K:Fg}:cX K (fW (fK (zy K) (Ay K))) (o2 CP):=au λG F σ H ρ x y d e Q Qd R h1 h2 w k=>by
 cases d<;>first|exact w.elim|skip
 case list ds =>
  cases e<;>first|exact w.elim|skip
  rename_i i
  obtain⟨d,w1,w2⟩:=w
  cases h2.int
  obtain⟨a,us,rfl,e1,d1⟩:=h1.list R.sub
  obtain⟨v,g1,g2⟩:=d1.at w1
  exact .inl ⟨a,us,i,v,rfl,rfl,SqL.of e1,g1,k _ H F (.fz _) (Sub.refl _) R g2 w2⟩
 case tuple ds =>
  cases e<;>first|exact w.elim|skip
  rename_i i
  obtain⟨d,w1,w2⟩:=w
  cases h2.int
  obtain⟨a,us,rfl,_,e1,d1⟩:=h1.tuple R.sub
  obtain⟨v,g1,g2⟩:=d1.at w1
  exact .inr ⟨a,us,i,v,rfl,rfl,SqT.of e1,g1,k _ H F (.fz _) (Sub.refl _) R g2 w2⟩
 case dict es =>
  rcases es with _|⟨⟨c1,c2⟩,_|⟨c3,c4⟩⟩
  ·exact w.elim
  ·cases c1<;>first|exact w.elim|skip
   cases c2<;>first|exact w.elim|skip
   cases e<;>first|exact w.elim|skip
   rename_i i
   obtain⟨ns,n,e,w1,w2⟩:=w
   subst e
   cases h2.int
   obtain⟨a,rfl,q⟩:=h1.scr R.sub
   exact .inl ⟨a,_,i,_,rfl,rfl,q,Nq V.int w1,k _ H F (.fz _) (Sub.refl _) R (Da.int _) w2⟩
  ·cases c1<;>first|exact w.elim|(cases c2<;>exact w.elim)
noncomputable def pM:D->(Sl->Prop)->Prop
 | .list ds,Q=>Q (.ow (.list ds))
 | .tuple ds,Q=>Q (.ow (.list ds))
 | _,_=>False
theorem bu{K:Fg}:cX K (Hq K) (o1 pM):=Ck λG F σ H ρ x d Q Qd R h1 w k=>by
 match d,h1,w with
 | .list ds,h1,w =>
  obtain⟨a,us,rfl,e1,d1⟩:=h1.list R.sub
  refine ⟨a,us,rfl,.inl (SqL.of e1),λp hp=>?_⟩
  obtain⟨R',r'⟩:=R.newOw (o:=.lst us) (d:=.list ds) hp d1
  exact k _ _ F _ (Sub.refl _) R' r' w
 | .tuple ds,h1,w =>
  obtain⟨a,us,rfl,_,e1,d1⟩:=h1.tuple R.sub
  refine ⟨a,us,rfl,.inr (SqT.of e1),λp hp=>?_⟩
  obtain⟨R',r'⟩:=R.newOw (o:=.lst us) (d:=.list ds) hp d1
  exact k _ _ F _ (Sub.refl _) R' r' w
noncomputable def zE:D->(Sl->Prop)->Prop
 | .list ds,Q=>Q (.fz (.tuple ds))
 | .tuple ds,Q=>Q (.fz (.tuple ds))
 | _,_=>False
theorem kZ{K:Fg}:cX K (DG K) (o1 zE):=Ck λG F σ H ρ x d Q Qd R h1 w k=>by
 match d,h1,w with
 | .list ds,h1,w =>
  obtain⟨a,us,rfl,e1,d1⟩:=h1.list R.sub
  refine ⟨a,us,rfl,.inl ⟨SqL.of e1,λp hp=>?_⟩⟩
  obtain⟨sb,R',dd⟩:=R.newTup hp d1
  exact k _ _ _ (.fz _) sb R' dd w
 | .tuple ds,h1,w =>
  obtain⟨a,us,rfl,f1,e1,d1⟩:=h1.tuple R.sub
  exact ⟨a,us,rfl,.inr ⟨SqT.of e1,k _ H F (.fz _) (Sub.refl _) R (Da.tup f1 d1) w⟩⟩
noncomputable def EO:D->(Sl->Prop)->Prop
 | .list ds,Q=>∃bs:List Bool,ds=bs.map PyData.bool/\Q (.fz (.bool (bs.all id)))
 | _,_=>False
theorem DaAll.bools{K:Fg}{F:Hp}:∀{xs:List V}{bs:List Bool},DaAll K F xs (bs.map PyData.bool)->xs=bs.map V.bl
 | [],[],_=>rfl
 | x :: xs,b :: bs,.cons h t=>by cases h;simp[DaAll.bools t]
theorem Ek{K:Fg}:cX K (dE K) (o1 EO):=Ck λG F σ H ρ x d Q Qd R h1 w k=>by
 match d,h1,w with
 | .list ds,h1,⟨bs,e,w⟩ =>
  subst e
  obtain⟨a,us,rfl,e1,d1⟩:=h1.list R.sub
  have:=d1.bools
  subst this
  exact ⟨a,bs,rfl,SqL.of e1,k _ H F (.fz _) (Sub.refl _) R (Da.bl _) w⟩
noncomputable def WP:D->Ki
 | .none=>.non
 | .bool _=>.bl
 | .int _=>.int
 | .str _=>.str
 | .list _=>.lst
 | .tuple _=>.tup
 | .dict ((.none,_) :: _)=>.lst
 | .dict _=>.dct
noncomputable def AE(T:Ki):D->(Sl->Prop)->Prop
 | .dict _,_=>False
 | d,Q=>Q (.fz (.bool ((WP d).sub T)))
theorem BE{K:Fg}{T:Ki}:cX K (λvs H Q=>∃x,vs=[x]/\gj K [x,.ty T.nm] H Q) (o1 (AE T)):=Ck λG F σ H ρ x d Q Qd R h1 w k=>by
 have go:∀(ki:Ki),KiOf K H x ki->Qd (.fz (.bool (ki.sub T)))->∃x',[x]=[x']/\gj K [x',.ty T.nm] H Q:=λki h w=>⟨x,rfl,x,ki,T,rfl,h,k _ H F (.fz _) (Sub.refl _) R (Da.bl _) w⟩
 match d,h1,w with
 | .none,h1,w=>cases h1.none;exact go .non rfl w
 | .bool b,h1,w=>cases h1.bool;exact go .bl rfl w
 | .int i,h1,w=>cases h1.int;exact go .int rfl w
 | .str z,h1,w=>cases h1.str;exact go .str rfl w
 | .list ds,h1,w =>
  obtain⟨a,us,rfl,e1,d1⟩:=h1.list R.sub
  exact go .lst (.inl ⟨rfl,us,SqL.of e1⟩) w
 | .tuple ds,h1,w =>
  obtain⟨a,us,rfl,_,e1,d1⟩:=h1.tuple R.sub
  exact go .tup (.inr (.inl ⟨rfl,us,SqT.of e1⟩)) w
noncomputable def EE:D->(Sl->Prop)->Prop
 | .int i,Q=>Q (.fz (.int (if i < 0 then -i else i)))
 | _,_=>False
theorem Fk{K:Fg}:cX K (λxs H Q=>∃i,xs=[V.int i]/\Q (V.int (if i < 0 then -i else i)) H) (o1 EE):=Ck λG F σ H ρ x d Q Qd R h1 w k=>by
 match d,h1,w with
 | .int i,h1,w=>cases h1.int;exact ⟨i,rfl,k _ H F (.fz _) (Sub.refl _) R (Da.int _) w⟩
theorem qM{K:Fg}{g:Int->Int->Int}:cX K (λxs H Q=>∃i j,xs=[V.int i,V.int j]/\Q (V.int (g i j)) H) (o2 (Xj λi j=>.int (g i j))):=by
 intro G F σ H ρ vs ds Q Qd R a w k
 match ds,a,w with
 | [d,e],a,w =>
  obtain⟨v,u,rfl,h1,h2⟩:=a.two
  have w:Xj (λi j=>.int (g i j)) d e Qd:=w
  unfold Xj at w
  split at w
  rotate_left
  ·exact w.elim
  rename_i i j w
  cases h1.int
  cases h2.int
  exact ⟨i,j,rfl,k _ H F (.fz _) (Sub.refl _) R (Da.int _) w⟩
noncomputable def rM:D->(Sl->Prop)->Prop
 | .int i,Q=>Q (.fz (.int (-i)))
 | _,_=>False
theorem FE{K:Fg}:cX K (BP (rU λi=>.int (-i))) (o1 rM):=Ck λG F σ H ρ x d Q Qd R h1 w k=>by
 match d,h1,w with
 | .int i,h1,w=>cases h1.int;exact ⟨_,rfl,i,rfl,k _ H F (.fz _) (Sub.refl _) R (Da.int _) w⟩
noncomputable def lU(as:List AD)(f:List D->(Sl->Prop)->Prop):TD:=λρ Q=>yX as ρ λxs ρ1=>match ZQ ρ1 xs with
 | false=>RQ ρ1 xs λds=>f ds λr=>Q r ρ1
 | true=>False
noncomputable def VG(ds:List D)(Q:Sl->Prop):Prop:=Q (.fz (.tuple ds))
noncomputable def Oq(ds:List D)(Q:Sl->Prop):Prop:=Q (.ow (.list ds))
theorem FQ{n:Nat}(h:n<=1000):n<=sizeLine:=A1 h (by decide)
theorem sM{K:Fg}{as:List AD}(hl:as.length<=1000){σ:St}{H:Hp}{Q:VK}(h:lift K (lU as VG) σ H Q):LC (wQ (as.map (nQ K))) σ H Q:=by
 obtain⟨G,F,ρ,Qd,R,w,k⟩:=h
 refine dJ R w λvs H' F' xs ρ' sb R' o hn q=>?_
 split at q
 ·rename_i e
  obtain⟨ds,da,q⟩:=aX R' e o q
  refine ⟨FQ (by omega),λp hp=>?_⟩
  obtain⟨s2,R2,dd⟩:=R'.newTup hp da
  exact k _ _ _ (.fz _) _ (sb.trans s2) R2 dd q
 ·exact q.elim
theorem tM{K:Fg}{as:List AD}(hl:as.length<=1000){σ:St}{H:Hp}{Q:VK}(h:lift K (lU as Oq) σ H Q):rG (wQ (as.map (nQ K))) σ H Q:=by
 obtain⟨G,F,ρ,Qd,R,w,k⟩:=h
 refine dJ R w λvs H' F' xs ρ' sb R' o hn q=>?_
 split at q
 ·rename_i e
  obtain⟨ds,da,q⟩:=aX R' e o q
  refine ⟨FQ (by omega),λp hp=>?_⟩
  obtain⟨R2,r2⟩:=R'.newOw (o:=.lst vs) (d:=.list ds) hp da
  exact k _ _ _ _ _ sb R2 r2 q
 ·exact q.elim
noncomputable def sD(p q:Int->Int->Bool)(a b c:AD):TD:=λρ Q=>yX [a,b] ρ λxs ρ1=>RQ ρ1 xs λds=>match ds with
 | [.int i,.int j]=>if p i j=true then yX [c] ρ1 λys ρ2=>RQ ρ2 ys λes=>match es with
   | [.int k]=>Q (.fz (.bool (q j k))) ρ2
   | _=>False
  else Q (.fz (.bool false)) ρ1
 | _=>False
theorem cu{K:Fg}{p q:Int->Int->Bool}{a b c:AD}{σ:St}{H:Hp}{Q:VK}(h:lift K (sD p q a b c) σ H Q) :
  YF (RK λi j=>.bl (p i j)) (RK λi j=>.bl (q i j)) (nQ K a) (nQ K b) (nQ K c) σ H Q:=by
 obtain⟨G,F,ρ,Qd,R,w,k⟩:=h
 have main:wQ ([a,b].map (nQ K)) σ H λvs H2=>∃x y,vs=[x,y]/\(RK λi j=>V.bl (p i j)) x y H2 λz H3=>∃k,z=.bl k /\
   (if k=true then nQ K c σ H3 λw' H4=>(RK λi j=>V.bl (q i j)) y w' H4 Q else Q (.bl false) H3):=by
  refine jX R w λvs H' F' xs ρ' sb R' o w1=>?_
  obtain⟨ds,ha,w1⟩:=jZ R' o w1
  split at w1
  ·rename_i i j
   obtain⟨v,u,rfl,h1,h2⟩:=ha.two
   cases h1.int
   cases h2.int
   refine ⟨_,_,rfl,i,j,rfl,rfl,p i j,rfl,?_⟩
   by_cases e:p i j=true
   ·rw[if_pos e]at w1 ⊢
    have:=jX (as:=[c]) (Qv:=λvs H4=>∃w',vs=[w']/\(RK λi j=>V.bl (q i j)) (V.int j) w' H4 Q) R' w1 λvs H2 F2 ys ρ2 s2 R2 o2 w2=>by
     obtain⟨es,hb,w2⟩:=jZ R2 o2 w2
     split at w2
     ·rename_i k'
      obtain⟨v,rfl,h3⟩:=hb.one
      cases h3.int
      exact ⟨_,rfl,j,k',rfl,rfl,k _ H2 F2 (.fz _) ρ2 (sb.trans s2) R2 (Da.bl _) w2⟩
     ·exact w2.elim
    exact pk this
   ·rw[if_neg e]at w1 ⊢
    exact k _ H' F' (.fz _) ρ' sb R' (Da.bl _) w1
  ·exact w1.elim
 exact Ty main
noncomputable def gW(i:Nat)(as:List AD)(f:List D->List D->(D->D->Prop)->Prop):TD:=λρ Q=>match ρ[i]? with
 | some (some s0)=>match s0.d,PQ s0 with
  | .list _,true=>yX as ρ λxs ρ1=>match ρ1[i]?,ZQ ρ1 xs with
   | some (some s),false=>match s.d,PQ s with
    | .list es,true=>RQ ρ1 xs λds=>f es ds λd' r=>Q (.fz r) (ρ1.set i (some (s.put d')))
    | _,_=>False
   | _,_=>False
  | _,_=>False
 | _=>False
noncomputable def du(K:Fg)(r:V->List V->Hp->VK->Prop)(f:List D->List D->(D->D->Prop)->Prop):Prop :=
 ∀(F H:Hp) (a:Addr) (xs:List V) (es:List D) (vs:List V) (ds:List D) (Q:VK) (k:D->D->Prop),Sub F H->H a=some (.lst xs)->DaAll K F xs es->DaAll K F vs ds->f es ds k ->
  (∀v o' d' res,Own1 K F o' d'->Da K F v res->k d' res->Q v (OQ H a o'))->r (.ref a) vs H Q
theorem Gk{K:Fg}{i:Nat}{as:List AD}{r:V->List V->Hp->VK->Prop}{f:List D->List D->(D->D->Prop)->Prop}(ok:du K r f){σ:St}{H:Hp}{Q:VK}(h:lift K (gW i as f) σ H Q) :
  ∃a xs,σ[i]?=some (some (V.ref a))/\SqL K H a xs/\wQ (as.map (nQ K)) σ H λvs H2=>r (.ref a) vs H2 Q:=by
 obtain⟨G,F,ρ,Qd,R,w,k⟩:=h
 unfold gW at w
 split at w
 ·rename_i s0 e0
  split at w
  ·rename_i es0 p1 p2
   obtain⟨a,o,g1,g2,g3,g4⟩:=R.ow i s0 e0 p2
   have gl:∃xs,H a=some (.lst xs):=by
    rw[p1]at g4
    cases o<;>first|exact g4.elim|exact ⟨_,g3⟩
   obtain⟨xs0,gl⟩:=gl
   refine ⟨a,xs0,g1,SqL.of gl,jX R w λvs H1 F1 xs ρ1 s1 R1 o1 w1=>?_⟩
   split at w1
   ·rename_i s e en
    split at w1
    ·rename_i es q1 q2
     obtain⟨ds,da,w1⟩:=aX R1 en o1 w1
     obtain⟨a',o',h1,h2,h3,h4⟩:=R1.ow i s e q2
     rw[g1]at h1;cases h1
     rw[q1]at h4
     have hl:∃us,o'=.lst us/\DaAll K F1 us es:=by cases o'<;>first|exact h4.elim|exact ⟨_,rfl,h4⟩
     obtain⟨us,rfl,h4⟩:=hl
     refine ok F1 H1 a us es vs ds Q _ R1.sub h3 h4 da w1 λv o2 d2 res ho hv hk=>?_
     have R2:=R1.change (o':=o2) (d':=d2) e q2 g1 ho
     exact k v _ F1 (.fz res) _ s1 R2 hv hk
    ·exact w1.elim
   ·exact w1.elim
  ·exact w.elim
 ·exact w.elim
noncomputable def fu:List D->List D->(D->D->Prop)->Prop
 | es,[x],k=>es.length < sizeLine/\k (.list (es++[x])) .none
 | _,_,_=>False
theorem DZ{K:Fg}:du K nY fu:=by
 intro F H a xs es vs ds Q k s e d1 d2 w q
 match ds,d2,w with
 | [x],.cons h .nil,w=>exact ⟨a,xs,_,rfl,rfl,e,by rw[d1.length];exact w.1,q _ (.lst (xs++[_])) (.list (es++[x])) _ (d1.append (.cons h .nil)) .non w.2⟩
noncomputable def Pq:List D->List D->(D->D->Prop)->Prop
 | es,[.list ys],k=>es.length+ys.length<=sizeLine/\k (.list (es++ys)) .none
 | _,_,_=>False
theorem vj{K:Fg}:du K zq Pq:=by
 intro F H a xs es vs ds Q k s e d1 d2 w q
 match ds,d2,w with
 | [.list ys],.cons h .nil,w =>
  cases h with
  | lst e2 t=>exact ⟨a,_,xs,_,rfl,rfl,e,s _ _ e2,by rw[d1.length,t.length];exact w.1,q _ (.lst (xs++_)) (.list (es++ys)) _ (d1.append t) .non w.2⟩
noncomputable def ZP:List D->List D->(D->D->Prop)->Prop
 | es,[],k=>∃d,es[es.length - 1]?=some d/\k (.list es.dropLast) d
 | _,_,_=>False
noncomputable def GE:List D->List D->(D->D->Prop)->Prop
 | _,[],k=>k (.list []) .none
 | _,_,_=>False
theorem Hk{K:Fg}:du K Gx GE:=by
 intro F H a xs es vs ds Q k s e d1 d2 w q
 match ds,d2,w with
 | [],.nil,w=>exact ⟨a,xs,rfl,rfl,e,q .non (.lst []) (.list []) .none DaAll.nil .non w⟩
noncomputable def gu:List D->List D->(D->D->Prop)->Prop
 | es,[.int i,x],k=>es.length < sizeLine/\0<=i/\i<=es.length/\k (.list (es.take i.toNat++x :: es.drop i.toNat)) .none
 | _,_,_=>False
theorem wj{K:Fg}:du K Gq gu:=by
 intro F H a xs es vs ds Q k s e d1 d2 w q
 rcases ds with _|⟨d,_|⟨x,_|⟨e3,ds⟩⟩⟩<;>first|exact w.elim|(cases d<;>first|exact w.elim|skip)
 ·rename_i i
  cases d2 with|cons h t=>?_
  cases t with|cons h' t=>?_
  cases t
  cases h
  exact ⟨a,xs,i,_,rfl,rfl,e,by rw[d1.length];exact w.1,w.2.1,by rw[d1.length];exact w.2.2.1,q .non (.lst (xs.take i.toNat++_ :: xs.drop i.toNat)) (.list _) .none ((d1.take _).append (.cons h' (d1.drop _))) .non w.2.2.2⟩
noncomputable def tD(j:Nat)(ai:AD)(te:TD):ZJ:=λE ρ=>te ρ λr ρ1=>match ρ1[j]? with
 | some (some _)=>yX [ai] ρ1 λxs ρ2=>RQ ρ2 xs λds=>match ds,ρ2[j]? with
  | [.int k],some (some s)=>match s.d,PQ s with
   | .list es,true=>∃n,SF es.length k=some n/\E.nx (ρ2.set j (some (s.put (.list (es.set n r.d)))))
   | _,_=>False
  | _,_=>False
 | _=>False
theorem iu{K:Fg}{j:Nat}{ai:AD}{te:TD}{σ:St}{H:Hp}{E:Ends}(h:tQ K (tD j ai te) E σ H):UZ (lift K te) (GC (aZ j) (nQ K ai) yq) E σ H:=by
 obtain⟨G,F,ρ,D,R,w,n,r,b,c⟩:=h
 refine ⟨G,F,ρ,_,R,w,λv H1 F1 x ρ1 s1 R1 r1 w1=>?_⟩
 obtain⟨F2,s2,R2,d2⟩:=r1.frz R1
 split at w1
 ·rename_i s0 e0
  obtain⟨u,eu⟩:=R2.bound e0
  refine ⟨u,eu,pk (P:=λi H2=>yq u i v H2 λH3=>E.nx σ H3) (jX R2 w1 λvs H3 F3 xs ρ3 s3 R3 o3 w3=>?_)⟩
  obtain⟨ds,ha,w3⟩:=jZ R3 o3 w3
  split at w3
  ·rename_i k s e
   obtain⟨iv,rfl,hi⟩:=ha.one
   cases hi.int
   split at w3
   ·rename_i es p1 p2
    obtain⟨m,w4,w5⟩:=w3
    obtain⟨a,o,g1,g2,g3,g4⟩:=R3.ow j s e p2
    rw[eu]at g1;cases g1
    rw[p1]at g4
    have hl:∃us,o=.lst us/\DaAll K F3 us es:=by cases o<;>first|exact g4.elim|exact ⟨_,rfl,g4⟩
    obtain⟨us,rfl,g4⟩:=hl
    refine ⟨_,rfl,a,us,k,m,rfl,rfl,g3,by rw[g4.length];exact w4,?_⟩
    have R4:=R3.change (o':=.lst (us.set m v)) (d':=.list (es.set m x.d)) e p2 eu (g4.set (d2.mono s3) m)
    exact n σ _ F3 _ (s1.trans (s2.trans s3)) R4 w5
   ·exact w3.elim
  ·exact w3.elim
 ·exact w1.elim
noncomputable def uM(K:Fg)(tl:TE):TI:=λσ H R=>tl σ H λx H1=>∃a,x=.ref a/\(((∃xs,SqL K H1 a xs)/\R (rO K a) H1)\/((∃xs,SqT K H1 a xs)/\R (sO K a) H1))
noncomputable def XG(a:TD):JG:=λρ Q=>a ρ λr ρ1=>match r.d with
 | .list ds=>Q ds ρ1
 | .tuple ds=>Q ds ρ1
 | _=>False
theorem uD{K:Fg}{F:Hp}{a:Addr}{xs:List V}{ds:List D}(e:F a=some (.lst xs))(h:DaAll K F xs ds):Walks K (rO K a) F ds:=λi H F1 s1 s2=>by
 have q:=SqL.of (K:=K) (s2 _ _ (s1 _ _ e))
 refine ⟨λd ed=>?_,λhl=>⟨xs,q,by rw[h.length];omega⟩⟩
 obtain⟨v,h1,h2⟩:=h.get ed
 refine ⟨⟨xs,v,q,h1⟩,λx H' ⟨e1,e2⟩=>?_⟩
 subst e1
 have:=e2 xs q
 rw[h1]at this;cases this
 exact ⟨F1,Sub.refl _,λ_ _ z=>.inl z,s2,Sub.refl _,h2.mono s1⟩
theorem xj{K:Fg}{F:Hp}{a:Addr}{xs:List V}{ds:List D}(e:F a=some (.tup xs))(h:DaAll K F xs ds):Walks K (sO K a) F ds:=λi H F1 s1 s2=>by
 have q:=SqT.of (K:=K) (s2 _ _ (s1 _ _ e))
 refine ⟨λd ed=>?_,λhl=>⟨xs,q,by rw[h.length];omega⟩⟩
 obtain⟨v,h1,h2⟩:=h.get ed
 refine ⟨⟨xs,v,q,h1⟩,λx H' ⟨e1,e2⟩=>?_⟩
 subst e1
 have:=e2 xs q
 rw[h1]at this;cases this
 exact ⟨F1,Sub.refl _,λ_ _ z=>.inl z,s2,Sub.refl _,h2.mono s1⟩
theorem HE{K:Fg}{a:TD}{σ:St}{H:Hp}{R:It->Hp->Prop}(h:XQ K (XG a) σ H R):uM K (lift K a) σ H R:=by
 obtain⟨G,F,ρ,Qd,Rl,w,k⟩:=h
 refine ⟨G,F,ρ,_,Rl,w,λv H1 F1 r ρ1 s1 R1 r1 w1=>?_⟩
 obtain⟨F2,s2,R2,d2⟩:=r1.frz R1
 split at w1
 ·rename_i ds e
  rw[e]at d2
  cases d2 with
  | lst q t=>exact ⟨_,rfl,.inl ⟨⟨_,SqL.of (R2.sub _ _ q)⟩,k _ H1 F2 ds ρ1 (s1.trans s2) R2 (uD q t) w1⟩⟩
 ·rename_i ds e
  rw[e]at d2
  cases d2 with
  | tup q t=>exact ⟨_,rfl,.inr ⟨⟨_,SqT.of (R2.sub _ _ q)⟩,k _ H1 F2 ds ρ1 (s1.trans s2) R2 (xj q t) w1⟩⟩
 ·exact w1.elim
noncomputable def vQ(lo:Int)(n:Nat):List D:=(O0 n).map λ(i:Nat)=>q0 (lo+i)
theorem TK{K:Fg}{F:Hp}{lo:Int}{n:Nat}:Walks K (GL lo n) F (vQ lo n):=λi H F1 s1 s2=>by
 have hl:(vQ lo n).length=n:=by simp[vQ]
 refine ⟨λd ed=>?_,λh=>by rw[hl]at h;exact Nat.le_of_eq h⟩
 have hi:i < n:=by have:=mX ed;rw[hl]at this;exact this
 have e:(vQ lo n)[i]?=some (.int (lo+i)):=by simp[vQ,hi]
 rw[e]at ed;cases ed
 refine ⟨hi,λx H' ⟨e1,e2⟩=>?_⟩
 subst e1 e2
 exact ⟨F1,Sub.refl _,λ_ _ z=>.inl z,s2,Sub.refl _,.int _⟩
noncomputable def mU(a:AD):JG:=λρ Q=>yX [a] ρ λxs ρ1=>RQ ρ1 xs λds=>match ds with
 | [.int j]=>-(2 ^ 62)<=j/\j < 2 ^ 62/\Q (vQ 0 j.toNat) ρ1
 | _=>False
noncomputable def vD(a b:AD):JG:=λρ Q=>yX [a,b] ρ λxs ρ1=>RQ ρ1 xs λds=>match ds with
 | [.int i,.int j]=>(-(2 ^ 62)<=i/\i < 2 ^ 62/\-(2 ^ 62)<=j/\j < 2 ^ 62)/\Q (vQ i (j - i).toNat) ρ1
 | _=>False
theorem IE{K:Fg}{a:AD}{σ:St}{H:Hp}{R:It->Hp->Prop}(h:XQ K (mU a) σ H R):fx (wQ ([a].map (nQ K))) σ H R:=by
 obtain⟨G,F,ρ,Qd,Rl,w,k⟩:=h
 refine jX Rl w λvs H' F' xs ρ' sb R' o w1=>?_
 obtain⟨ds,ha,w1⟩:=jZ R' o w1
 split at w1
 ·rename_i j
  obtain⟨v,rfl,h1⟩:=ha.one
  cases h1.int
  exact ⟨j,rfl,w1.1,w1.2.1,k _ H' F' _ ρ' sb R' TK w1.2.2⟩
 ·exact w1.elim
theorem JE{K:Fg}{a b:AD}{σ:St}{H:Hp}{R:It->Hp->Prop}(h:XQ K (vD a b) σ H R):gx (wQ ([a,b].map (nQ K))) σ H R:=by
 obtain⟨G,F,ρ,Qd,Rl,w,k⟩:=h
 refine jX Rl w λvs H' F' xs ρ' sb R' o w1=>?_
 obtain⟨ds,ha,w1⟩:=jZ R' o w1
 split at w1
 ·rename_i i j
  obtain⟨v,u,rfl,h1,h2⟩:=ha.two
  cases h1.int
  cases h2.int
  exact ⟨i,j,rfl,w1.1,k _ H' F' _ ρ' sb R' TK w1.2⟩
 ·exact w1.elim
noncomputable def aR(K:Fg)(F:Hp)(v:V)(ds:List D):Prop:=∃k a xs,v=.ref a/\(F a=some (match k with|Kd.l=>HO.lst xs|Kd.t=>HO.tup xs))/\DaAll K F xs ds
theorem RZ{K:Fg}{H:Hp}{a:Addr}{xs:List V}{k:Kd}(e:H a=some (match k with|Kd.l=>HO.lst xs|Kd.t=>HO.tup xs)):Sq k K H a xs:=by
 cases k with
 | l=>exact SqL.of e
 | t=>exact SqT.of e
noncomputable def wD:D->Option (List D)
 | .list ds=>some ds
 | .tuple ds=>some ds
 | _=>none
theorem vJ{K:Fg}{F:Hp}{v:V}{d:D}{ds:List D}(h:Da K F v d)(e:wD d=some ds):∃k a xs,v=.ref a/\(F a=some (match k with|Kd.l=>HO.lst xs|Kd.t=>HO.tup xs))/\DaAll K F xs ds:=by
 cases h with
 | lst q t=>cases e;exact ⟨.l,_,_,rfl,q,t⟩
 | tup q t=>cases e;exact ⟨.t,_,_,rfl,q,t⟩
 | non=>cases e
 | bl=>cases e
 | int=>cases e
 | str=>cases e
 | dk _ _=>cases e
 | dt _ _=>cases e
 | scr _=>cases e
 | exc _=>cases e
noncomputable def eY(ds es:List D):List D:=(ds.zip es).map λp=>J2 [p.1,p.2]
noncomputable def xV(ds es fs:List D):List D:=(ds.zip (es.zip fs)).map λp=>J2 [p.1,p.2.1,p.2.2]
noncomputable def xD(a b:AD):JG:=λρ Q=>yX [a,b] ρ λxs ρ1=>match ZQ ρ1 xs with
 | false=>RQ ρ1 xs λds=>match ds with
  | [x,y]=>match wD x,wD y with
   | some us,some ws=>Q (eY us ws) ρ1
   | _,_=>False
  | _=>False
 | true=>False
theorem yD{K:Fg}{F:Hp}{a b:Addr}{k1 k2:Kd}{xs ys:List V}{ds es:List D}(e1:F a=some (match k1 with|Kd.l=>HO.lst xs|Kd.t=>HO.tup xs))(h1:DaAll K F xs ds)
  (e2:F b=some (match k2 with|Kd.l=>HO.lst ys|Kd.t=>HO.tup ys)) (h2:DaAll K F ys es):Walks K (eE K k1 k2 a b) F (eY ds es):=λi H F1 s1 s2=>by
 have q1:Sq k1 K H a xs:=RZ (s2 _ _ (s1 _ _ e1))
 have q2:Sq k2 K H b ys:=RZ (s2 _ _ (s1 _ _ e2))
 refine ⟨λd ed=>?_,λhl=>⟨xs,ys,q1,q2,?_⟩⟩
 ·simp only[eY,D1,W3]at ed
  obtain⟨⟨x,y⟩,ez,rfl⟩:=ed
  rw[K5]at ez
  obtain⟨v,g1,g2⟩:=h1.get ez.1
  obtain⟨u,g3,g4⟩:=h2.get ez.2
  refine ⟨⟨xs,v,ys,u,q1,q2,g1,g3⟩,λz H' ⟨T,x1,x2,hT,ex,eH,f1,f2⟩=>?_⟩
  subst ex eH
  have f1:=f1 xs q1
  have f2:=f2 ys q2
  rw[g1]at f1;cases f1
  rw[g3]at f2;cases f2
  have fT:F1 T=none:=by
   cases z:F1 T with
   | none=>rfl
   | some o=>rw[s2 _ _ z]at hT;cases hT
  refine ⟨OQ F1 T (.tup [v,u]),Sub.new fT,λc o ec=>?_,λc o ec=>?_,Sub.new hT,.tup jQ (.cons (g2.mono (s1.trans (Sub.new fT))) (.cons (g4.mono (s1.trans (Sub.new fT))) .nil))⟩
  ·by_cases z:c=T
   ·subst z;exact .inr hT
   ·rw[dQ z]at ec;exact .inl ec
  ·by_cases z:c=T
   ·subst z;rw[jQ]at ec ⊢;exact ec
   ·rw[dQ z]at ec ⊢;exact s2 _ _ ec
 ·simp only[eY,n0,O5]at hl
  rw[h1.length,h2.length]
  omega
theorem LE{K:Fg}{a b:AD}{σ:St}{H:Hp}{R:It->Hp->Prop}(h:XQ K (xD a b) σ H R):Dq K (wQ ([a,b].map (nQ K))) σ H R:=by
 obtain⟨G,F,ρ,Qd,Rl,w,k⟩:=h
 refine jX Rl w λvs H' F' xs ρ' sb R' o w1=>?_
 split at w1
 ·rename_i e
  obtain⟨ds,da,w1⟩:=aX R' e o w1
  split at w1
  ·rename_i x y
   split at w1
   ·rename_i us ws p1 p2
    cases da with
    | cons d1 t =>
     cases t with
     | cons d2 t =>
      cases t
      obtain⟨k1,a1,us',rfl,e1,g1⟩:=vJ d1 p1
      obtain⟨k2,a2,ws',rfl,e2,g2⟩:=vJ d2 p2
      exact ⟨k1,a1,us',k2,a2,ws',rfl,RZ (R'.sub _ _ e1),RZ (R'.sub _ _ e2),k _ H' F' _ ρ' sb R' (yD e1 g1 e2 g2) w1⟩
   ·exact w1.elim
  ·exact w1.elim
 ·exact w1.elim
noncomputable def zD(a b c:AD):JG:=λρ Q=>yX [a,b,c] ρ λxs ρ1=>match ZQ ρ1 xs with
 | false=>RQ ρ1 xs λds=>match ds with
  | [x,y,z]=>match wD x,wD y,wD z with
   | some us,some ws,some ts=>Q (xV us ws ts) ρ1
   | _,_,_=>False
  | _=>False
 | true=>False
theorem BD{K:Fg}{F:Hp}{a b c:Addr}{k1 k2 k3:Kd}{xs ys zs:List V}{ds es fs:List D}(e1:F a=some (match k1 with|Kd.l=>HO.lst xs|Kd.t=>HO.tup xs))(h1:DaAll K F xs ds)
  (e2:F b=some (match k2 with|Kd.l=>HO.lst ys|Kd.t=>HO.tup ys)) (h2:DaAll K F ys es) (e3:F c=some (match k3 with|Kd.l=>HO.lst zs|Kd.t=>HO.tup zs)) (h3:DaAll K F zs fs):Walks K (fE K k1 k2 k3 a b c) F (xV ds es fs):=λi H F1 s1 s2=>by
 have q1:Sq k1 K H a xs:=RZ (s2 _ _ (s1 _ _ e1))
 have q2:Sq k2 K H b ys:=RZ (s2 _ _ (s1 _ _ e2))
 have q3:Sq k3 K H c zs:=RZ (s2 _ _ (s1 _ _ e3))
 refine ⟨λd ed=>?_,λhl=>⟨xs,ys,zs,q1,q2,q3,?_⟩⟩
 ·simp only[xV,D1,W3]at ed
  obtain⟨⟨x,y,t⟩,ez,rfl⟩:=ed
  rw[K5,K5]at ez
  obtain⟨v,g1,g2⟩:=h1.get ez.1
  obtain⟨u,g3,g4⟩:=h2.get ez.2.1
  obtain⟨w,g5,g6⟩:=h3.get ez.2.2
  refine ⟨⟨xs,v,ys,u,zs,w,q1,q2,q3,g1,g3,g5⟩,λz H' ⟨T,x1,x2,x3,hT,ex,eH,f1,f2,f3⟩=>?_⟩
  subst ex eH
  have f1:=f1 xs q1
  have f2:=f2 ys q2
  have f3:=f3 zs q3
  rw[g1]at f1;cases f1
  rw[g3]at f2;cases f2
  rw[g5]at f3;cases f3
  have fT:F1 T=none:=by
   cases z:F1 T with
   | none=>rfl
   | some o=>rw[s2 _ _ z]at hT;cases hT
  have sn:=s1.trans (Sub.new (o:=.tup [v,u,w]) fT)
  refine ⟨OQ F1 T (.tup [v,u,w]),Sub.new fT,λc o ec=>?_,λc o ec=>?_,Sub.new hT,.tup jQ (.cons (g2.mono sn) (.cons (g4.mono sn) (.cons (g6.mono sn) .nil)))⟩
  ·by_cases z:c=T
   ·subst z;exact .inr hT
   ·rw[dQ z]at ec;exact .inl ec
  ·by_cases z:c=T
   ·subst z;rw[jQ]at ec ⊢;exact ec
   ·rw[dQ z]at ec ⊢;exact s2 _ _ ec
 ·simp only[xV,n0,O5]at hl
  rw[h1.length,h2.length,h3.length]
  omega
theorem ME{K:Fg}{a b c:AD}{σ:St}{H:Hp}{R:It->Hp->Prop}(h:XQ K (zD a b c) σ H R):Fq K (wQ ([a,b,c].map (nQ K))) σ H R:=by
 obtain⟨G,F,ρ,Qd,Rl,w,k⟩:=h
 refine jX Rl w λvs H' F' xs ρ' sb R' o w1=>?_
 split at w1
 ·rename_i e
  obtain⟨ds,da,w1⟩:=aX R' e o w1
  split at w1
  ·rename_i x y z
   split at w1
   ·rename_i us ws ts p1 p2 p3
    cases da with
    | cons d1 t =>
     cases t with
     | cons d2 t =>
      cases t with
      | cons d3 t =>
       cases t
       obtain⟨k1,a1,us',rfl,e1,g1⟩:=vJ d1 p1
       obtain⟨k2,a2,ws',rfl,e2,g2⟩:=vJ d2 p2
       obtain⟨k3,a3,ts',rfl,e3,g3⟩:=vJ d3 p3
       exact ⟨k1,a1,us',k2,a2,ws',k3,a3,ts',rfl,RZ (R'.sub _ _ e1),RZ (R'.sub _ _ e2),RZ (R'.sub _ _ e3),k _ H' F' _ ρ' sb R' (BD e1 g1 e2 g2 e3 g3) w1⟩
   ·exact w1.elim
  ·exact w1.elim
 ·exact w1.elim
noncomputable def Ik(a:AD):JG:=λρ Q=>yX [a] ρ λxs ρ1=>match ZQ ρ1 xs with
 | false=>RQ ρ1 xs λds=>match ds with
  | [.tuple us]=>Q us.reverse ρ1
  | _=>False
 | true=>False
theorem vM{K:Fg}{a:AD}{σ:St}{H:Hp}{R:It->Hp->Prop}(h:XQ K (Ik a) σ H R):kE K (wQ ([a].map (nQ K))) σ H R:=by
 obtain⟨G,F,ρ,Qd,Rl,w,k⟩:=h
 refine jX Rl w λvs H' F' xs ρ' sb R' o w1=>?_
 split at w1
 ·rename_i e
  obtain⟨ds,da,w1⟩:=aX R' e o w1
  split at w1
  ·rename_i us
   cases da with
   | cons d1 t =>
    cases t
    cases d1 with
    | tup q t =>
     rename_i a1 us'
     refine ⟨a1,us',rfl,SqT.of (R'.sub _ _ q),k _ H' F' _ ρ' sb R' (λi H F1 s1 s2=>?_) w1⟩
     have qq:=SqT.of (K:=K) (s2 _ _ (s1 _ _ q))
     refine ⟨λd ed=>?_,λhl=>?_⟩
     ·have hi:=mX ed
      rw[g9]at hi
      rw[List.getElem?_reverse hi]at ed
      obtain⟨v,g1,g2⟩:=t.get ed
      rw[<- t.length]at g1 hi
      refine ⟨⟨us',v,qq,rfl,hi,g1⟩,λx H' ⟨e1,e2⟩=>?_⟩
      subst e1
      have:=e2 us' qq
      rw[g1]at this;cases this
      exact ⟨F1,Sub.refl _,λ_ _ z=>.inl z,s2,Sub.refl _,g2.mono s1⟩
     ·rw[g9,<- t.length]at hl;exact hl.symm
  ·exact w1.elim
 ·exact w1.elim
noncomputable def CD:D->Option IQ
 | .int i=>some (.inl i)
 | .str x=>some (.inr x)
 | _=>none
theorem sY(k:IQ):CD (GK k)=some k:=by cases k<;>rfl
theorem Qq{d:D}{k:IQ}(h:CD d=some k):d=GK k:=by
 cases d<;>first|(cases h;rfl)|cases h
noncomputable def yj:List D->Option (List IQ)
 | []=>some []
 | d :: ds=>match CD d,yj ds with
  | some k,some ks=>some (k :: ks)
  | _,_=>none
theorem YG:∀ks:List IQ,yj (ks.map GK)=some ks
 | []=>rfl
 | k :: ks=>by simp[yj,sY,YG ks]
theorem aF:∀{ds:List D}{ks:List IQ},yj ds=some ks->ds=ks.map GK
 | [],ks,h=>by cases h;rfl
 | d :: ds,ks,h=>by
  unfold yj at h
  split at h
  ·rename_i k ks' e1 e2
   cases h
   rw[Qq e1,aF e2];rfl
  ·cases h
noncomputable def fY(es:List (D×D))(k:IQ):Option D:=(es.find? λe=>decide (CD e.1=some k)).map (·.2)
noncomputable def bF:D->Option (List IQ)
 | .tuple ds=>yj ds
 | _=>none
noncomputable def nU(es:List (D×D))(k:List IQ):Option D:=(es.find? λe=>decide (bF e.1=some k)).map (·.2)
noncomputable def yV(es:List (D×D))(k:IQ)(d:D):List (D×D):=if (es.any λe=>decide (CD e.1=some k))=true then es.map (λe=>if CD e.1=some k then (e.1,d) else e) else es++[(GK k,d)]
section
variable {K:Fg}{F H:Hp}
theorem DaKV.val(k:IQ):∀{kvs:List (IQ×V)}{es:List (D×D)},DaKV K F kvs es->match fY es k,xX kvs k with|some d,some v=>Da K F v d|none,none=>True|_,_=>False
 | _,_,.nil=>trivial
 | _,_,.cons (k:=k') (v:=v) (d:=d) (kvs:=kvs) (es:=es) h t=>by
  have ih:=DaKV.val k t
  unfold fY xX at ih ⊢
  simp only[v4,sY,Option.some.injEq]
  by_cases e:k'=k
  ·subst e;simp;exact h
  ·have e':decide (k'=k)=false:=decide_eq_false e
   simp only[e']
   exact ih
theorem DaKT.val(k:List IQ):∀{kvs:List (List IQ×V)}{es:List (D×D)},DaKT K F kvs es->match nU es k,xX kvs k with|some d,some v=>Da K F v d|none,none=>True|_,_=>False
 | _,_,.nil=>trivial
 | _,_,.cons (ks:=k') (v:=v) (d:=d) (kvs:=kvs) (es:=es) h t=>by
  have ih:=DaKT.val k t
  unfold nU xX at ih ⊢
  simp only[v4,bF,YG,Option.some.injEq]
  by_cases e:k'=k
  ·subst e;simp;exact h
  ·have e':decide (k'=k)=false:=decide_eq_false e
   simp only[e']
   exact ih
theorem DaKV.repl{k:IQ}{v:V}{d:D}(hv:Da K F v d):∀{kvs:List (IQ×V)}{es:List (D×D)},DaKV K F kvs es->DaKV K F (kvs.map λkv=>if kv.1=k then (kv.1,v) else kv) (es.map λe=>if CD e.1=some k then (e.1,d) else e)
 | _,_,.nil=>.nil
 | _,_,.cons (k:=k') h t=>by
  simp only[E1,sY,Option.some.injEq]
  by_cases e:k'=k
  ·rw[if_pos e,if_pos e];exact .cons hv (DaKV.repl hv t)
  ·rw[if_neg e,if_neg e];exact .cons h (DaKV.repl hv t)
theorem DaKV.snoc{k:IQ}{v:V}{d:D}(hv:Da K F v d):∀{kvs:List (IQ×V)}{es:List (D×D)},DaKV K F kvs es->DaKV K F (kvs++[(k,v)]) (es++[(GK k,d)])
 | _,_,.nil=>.cons hv .nil
 | _,_,.cons h t=>.cons h (DaKV.snoc hv t)
theorem DaKV.any(k:IQ):∀{kvs:List (IQ×V)}{es:List (D×D)},DaKV K F kvs es->(kvs.any λkv=>decide (kv.1=k))=es.any λe=>decide (CD e.1=some k)
 | _,_,.nil=>rfl
 | _,_,.cons (k:=k') h t=>by simp only[Z7,sY,Option.some.injEq];rw[DaKV.any k t]
theorem DaKV.put{k:IQ}{v:V}{d:D}{kvs:List (IQ×V)}{es:List (D×D)}(h:DaKV K F kvs es)(hv:Da K F v d):DaKV K F (TX kvs k v) (yV es k d):=by
 unfold TX yV
 rw[h.any k]
 split
 ·exact h.repl hv
 ·exact h.snoc hv
theorem DaKV.length:∀{kvs:List (IQ×V)}{es:List (D×D)},DaKV K F kvs es->kvs.length=es.length
 | _,_,.nil=>rfl
 | _,_,.cons _ t=>by simp[DaKV.length t]
theorem At.dict{v:V}{es:List (D×D)}(s:Sub F H)(h:At K F H v (.dict es)):∃a,v=.ref a/\((∃kvs,Rd H a (.dK kvs)/\DaKV K F kvs es)\/(∃kvs,Rd H a (.dT kvs)/\DaKT K F kvs es)\/∃k0 d0,es=[(k0,d0)]/\CD k0=Option.none/\bF k0=Option.none):=by
 rcases h with h|⟨a,o,rfl,_,e,h⟩
 ·cases h with
  | dk q t=>exact ⟨_,rfl,.inl ⟨_,s.rd q,t⟩⟩
  | dt q t=>exact ⟨_,rfl,.inr (.inl ⟨_,s.rd q,t⟩)⟩
  | scr q=>exact ⟨_,rfl,.inr (.inr ⟨_,_,rfl,rfl,rfl⟩)⟩
  | exc q=>exact ⟨_,rfl,.inr (.inr ⟨_,_,rfl,rfl,rfl⟩)⟩
 ·cases o<;>first|exact h.elim|exact ⟨_,rfl,.inl ⟨_,.inl e,h⟩⟩|exact ⟨_,rfl,.inr (.inl ⟨_,.inl e,h⟩)⟩
theorem DaAll.keys:∀{xs:List V}{ks:List IQ},DaAll K F xs (ks.map GK)->xs=ks.map kV
 | [],[],_=>rfl
 | x :: xs,k :: ks,.cons h t=>by
  have e:x=kV k:=by cases k<;>(cases h;rfl)
  rw[e,DaAll.keys t];rfl
theorem At.key{v:V}{d:D}{k:IQ}(h:At K F H v d)(e:CD d=some k):v=kV k:=by
 have:=Qq e
 subst this
 cases k with
 | inl i=>exact h.int
 | inr x=>exact h.str
theorem At.keyTup{v:V}{d:D}{k:List IQ}(s:Sub F H)(h:At K F H v d)(e:bF d=some k):∃b,v=.ref b/\H b=some (.tup (k.map kV)):=by
 cases d<;>first|cases e|skip
 rename_i ds
 have:=aF e
 subst this
 obtain⟨a,xs,rfl,_,e1,d1⟩:=h.tuple s
 have:=d1.keys
 subst this
 exact ⟨a,rfl,e1⟩
theorem ju{es:List (D×D)}{k0:D}(e:∃d0,es=[(k0,d0)]/\CD k0=none/\bF k0=none)(k:IQ):fY es k=none:=by obtain⟨d0,rfl,e,_⟩:=e;simp[fY,e]
theorem ku{es:List (D×D)}{k0:D}(e:∃d0,es=[(k0,d0)]/\CD k0=none/\bF k0=none)(k:List IQ):nU es k=none:=by obtain⟨d0,rfl,_,e⟩:=e;simp[nU,e]
theorem zj(e:D×D)(es:List (D×D))(k:IQ)(h:CD e.1=none):fY (e :: es) k=fY es k:=by simp[fY,v4,h]
theorem Aj(e:D×D)(es:List (D×D))(k:List IQ)(h:bF e.1=none):nU (e :: es) k=nU es k:=by simp[nU,v4,h]
theorem DD(k:IQ):∀{kvs:List (List IQ×V)}{es:List (D×D)},DaKT K F kvs es->fY es k=none
 | _,_,.nil=>rfl
 | _,_,.cons h t=>by rw[zj _ _ _ rfl];exact DD k t
theorem Jk(k:List IQ):∀{kvs:List (IQ×V)}{es:List (D×D)},DaKV K F kvs es->nU es k=none
 | _,_,.nil=>rfl
 | _,_,.cons (k:=k') h t=>by rw[Aj _ _ _ (by cases k'<;>rfl)];exact Jk k t
end
noncomputable def Bj(es:List (D×D))(k:D):Option D:=match CD k with
 | some k=>fY es k
 | none=>match bF k with
  | some ks=>nU es ks
  | none=>none
noncomputable def zV:D->D->(Sl->Prop)->Prop
 | .dict es,k,Q=>∃d,Bj es k=some d/\Q (.fz d)
 | _,_,_=>False
theorem Cj{K:Fg}{F H:Hp}{x y:V}{es:List (D×D)}{k d:D}(s:Sub F H)(h1:At K F H x (.dict es))(h2:At K F H y k)(e:Bj es k=some d):∃a v,x=.ref a/\dD H a y (some v)/\Da K F v d:=by
 obtain⟨a,rfl,h⟩:=h1.dict s
 unfold Bj at e
 split at e
 ·rename_i k' ek
  have hy:=h2.key ek
  subst hy
  rcases h with⟨kvs,q,t⟩|⟨kvs,q,t⟩|⟨ns,q⟩
  ·have:=t.val k'
   rw[e]at this
   cases ev:xX kvs k' with
   | none=>rw[ev]at this;exact this.elim
   | some v=>rw[ev]at this;exact ⟨a,v,rfl,.inl ⟨kvs,k',q,rfl,ev.symm⟩,this⟩
  ·rw[DD _ t]at e;cases e
  ·rw[ju q]at e;cases e
 ·split at e
  ·rename_i ks ek
   obtain⟨b,rfl,hb⟩:=h2.keyTup s ek
   rcases h with⟨kvs,q,t⟩|⟨kvs,q,t⟩|⟨ns,q⟩
   ·rw[Jk _ t]at e;cases e
   ·have:=t.val ks
    rw[e]at this
    cases ev:xX kvs ks with
    | none=>rw[ev]at this;exact this.elim
    | some v=>rw[ev]at this;exact ⟨a,v,rfl,.inr ⟨kvs,ks,b,q,rfl,hb,ev.symm⟩,this⟩
   ·rw[ku q]at e;cases e
  ·cases e
noncomputable def wM:R2:=λx y H Q=>∃a v,x=.ref a/\dD H a y (some v)/\Q v H
theorem lu{K:Fg}:cX K (fW wM) (o2 zV):=au λG F σ H ρ x y d e Q Qd R h1 h2 w k=>by
 match d,h1,w with
 | .dict es,h1,⟨d',w1,w2⟩ =>
  obtain⟨a,v,rfl,g,dv⟩:=Cj R.sub h1 h2 w1
  exact ⟨a,v,rfl,g,k _ H F (.fz _) (Sub.refl _) R dv w2⟩
noncomputable def wJ(j:Nat)(ak:AD)(te:TD):ZJ:=λE ρ=>te ρ λr ρ1=>match ρ1[j]? with
 | some (some _)=>yX [ak] ρ1 λxs ρ2=>RQ ρ2 xs λds=>match ds,ρ2[j]? with
  | [kd],some (some s)=>match s.d,PQ s,CD kd with
   | .dict es,true,some k=>es.length < sizeLine/\(fY es k).isSome=true/\E.nx (ρ2.set j (some (s.put (.dict (yV es k r.d)))))
   | _,_,_=>False
  | _,_=>False
 | _=>False
theorem Kk{K:Fg}{j:Nat}{ak:AD}{te:TD}{σ:St}{H:Hp}{E:Ends}(h:tQ K (wJ j ak te) E σ H):Jx (aZ j) (nQ K ak) (lift K te) E σ H:=by
 obtain⟨G,F,ρ,D,R,w,n,r,b,c⟩:=h
 refine ⟨G,F,ρ,_,R,w,λv H1 F1 x ρ1 s1 R1 r1 w1=>?_⟩
 obtain⟨F2,s2,R2,d2⟩:=r1.frz R1
 split at w1
 ·rename_i s0 e0
  obtain⟨u,eu⟩:=R2.bound e0
  refine ⟨u,eu,pk (P:=λy H3=>∃a H4,u=.ref a/\WC H3 a y v H4/\E.nx σ H4) (jX R2 w1 λvs H3 F3 xs ρ3 s3 R3 o3 w3=>?_)⟩
  obtain⟨ds,ha,w3⟩:=jZ R3 o3 w3
  split at w3
  ·rename_i kd s e
   obtain⟨kv,rfl,hk⟩:=ha.one
   split at w3
   ·rename_i es k p1 p2 p3
    obtain⟨a,o,g1,g2,g3,g4⟩:=R3.ow j s e p2
    rw[eu]at g1;cases g1
    rw[p1]at g4
    have:=hk.key p3
    subst this
    refine ⟨_,rfl,a,?_⟩
    cases o with
    | dK kvs =>
     have g4:DaKV K F3 kvs es:=g4
     refine ⟨_,rfl,.inl ⟨kvs,k,g3,rfl,by rw[g4.length];exact w3.1,rfl⟩,?_⟩
     have R4:=R3.change (o':=.dK (TX kvs k v)) (d':=.dict (yV es k x.d)) e p2 eu (g4.put (d2.mono s3))
     exact n σ _ F3 _ (s1.trans (s2.trans s3)) R4 w3.2.2
    | dT kvs =>
     have g4:DaKT K F3 kvs es:=g4
     rw[DD _ g4]at w3
     exact absurd w3.2.1 (by simp)
    | _=>exact g4.elim
   ·exact w3.elim
  ·exact w3.elim
 ·exact w1.elim
open PySem PySem.Spec PyProof.Rows L2
noncomputable def xQ:Expr->Bool
 | .Starred _ _=>false
 | _=>true
theorem kQ{e:Expr}{es:List Expr}{env:Env}(h:xQ e=true):starEach (e :: es) env=(false,eval e env) :: starEach es env:=by
 cases e<;>first|rfl|cases h
theorem gX{env:Env}{pos:Pos}:∀{es:List Expr},es.all xQ=true->(backTo pos (starEach es env)).any (·.1)=false:=by
 intro es
 induction es with
 | nil=>intro _;rfl
 | cons e es ih =>
  intro h
  simp only[List.all_cons,U4]at h
  rw[kQ h.1]
  have:=ih h.2
  simp[backTo]at this ⊢
  exact this
noncomputable def oU:Expr->Bool
 | .Set _ _ _=>false
 | _=>true
theorem JK{e:Expr}{env:Env}(h:oU e=true)(x:Value):foldedSetIterable e env x=pure x:=by
 cases e<;>first|rfl|cases h
noncomputable def gK:Expr->Bool
 | .ListComp _ _ _ _=>false
 | .SetComp _ _ _ _=>false
 | .DictComp _ _ _ _ _=>false
 | _=>true
theorem iK{e:Expr}{t:Option Expr}{n:Nat}{env:Env}(h:gK e=true):swapsWith e t n env=pure false:=by
 cases e<;>first|rfl|cases h
section
variable {X:Cx}{K:Fg}
theorem KW{e:Expr}{t t':TE}(h:PE X e t)(m:∀{σ H Q},t' σ H Q->t σ H Q):PE X e t':=λpins s σ H Q I w=>h pins s σ H Q I (m w)
theorem FO{e:Expr}{t t':TT}(h:PT X e t)(m:∀{σ H Q},t' σ H Q->t σ H Q):PT X e t':=λpins s σ H Q I w=>h pins s σ H Q I (m w)
theorem DP{e:Expr}{t t':TT}(h:PW X e t)(m:∀{σ H Q},t' σ H Q->t σ H Q):PW X e t':=λwh pins s σ H Q I w=>h wh pins s σ H Q I (m w)
theorem Lk{e:Stmt}{t t':TS}(h:PS X e t)(m:∀{D σ H},t' D σ H->t D σ H):PS X e t':=λpins s σ H D I w=>h pins s σ H D I (m w)
theorem NE{e:List Stmt}{t t':TS}(h:PSs X e t)(m:∀{D σ H},t' D σ H->t D σ H):PSs X e t':=λpins s σ H D I w=>h pins s σ H D I (m w)
theorem FP{e:Expr}{t t':TG}(h:PG X e t)(m:∀{v σ H Q},t' v σ H Q->t v σ H Q):PG X e t':=by
 unfold PG at h ⊢
 intros
 exact h _ _ _ _ _ _ _ (by assumption) (by assumption) (m (by assumption))
theorem OE{g e:Expr}{t t':TI}(h:PI X g e t)(m:∀{σ H R},t' σ H R->t σ H R):PI X g e t':=λpins s σ H R I w=>h pins s σ H R I (m w)
theorem GO{es:List Expr}{t t':TT}(h:Qx X es t)(m:∀{σ H Q},t' σ H Q->t σ H Q):Qx X es t':=λpins s σ H Q I w=>h pins s σ H Q I (m w)
theorem ou{e:Expr}{es:List Expr}{a:AD}{as:List AD}(ha:PE X e (nQ K a))(hr:PA X es (wQ (as.map (nQ K))))(hs:starEach (e :: es) X.env=(false,eval e X.env) :: starEach es X.env:=by exact kQ rfl):PA X (e :: es) (wQ ((a :: as).map (nQ K))):=tJ ha hr hs
variable {e:Expr}{a b c:AD}{as:List AD}{td te:TD}{tc td':pY}
theorem QE{i:Nat}(h:PE X e (aZ i)):PE X e (lift K (FG i)):=KW h cM
theorem RE{v:V}{d:D}(hv:∀F,Da K F v d)(h:PE X e (tC v)):PE X e (lift K (dC d)):=KW h (VP hv)
theorem RN{r:R2}{f:D->D->(Sl->Prop)->Prop}(ok:cX K (fW r) (o2 f))(h:PE X e (IC r (nQ K a) (nQ K b))):PE X e (lift K (QZ [a,b] (o2 f))):=KW h λq=>Ty (GG ok q)
theorem bR{r:V->Hp->VK->Prop}{f:D->(Sl->Prop)->Prop}(ok:cX K (BP r) (o1 f))(h:PE X e (xP r (nQ K a))):PE X e (lift K (QZ [a] (o1 f))):=KW h λq=>pk (GG ok q)
theorem GP{r:List V->Hp->VK->Prop}{f:List D->(Sl->Prop)->Prop}(ok:cX K r f)(h:PE X e (uL r (wQ (as.map (nQ K))))):PE X e (lift K (QZ as f)):=KW h λq=>GG ok q
theorem SE(T:Ki)(h:PE X e (uL (gj K) (SK (nQ K a) (SK (tC (.ty T.nm)) HY)))):PE X e (lift K (QZ [a] (o1 (AE T)))):=KW h λq=>pk (P:=λx H1=>gj K [x,.ty T.nm] H1 _) (GG BE q)
theorem UE(hl:as.length<=1000)(h:PE X e (LC (wQ (as.map (nQ K))))):PE X e (lift K (lU as VG)):=KW h (sM hl)
theorem VE(hl:as.length<=1000)(h:PE X e (rG (wQ (as.map (nQ K))))):PE X e (lift K (lU as Oq)):=KW h (tM hl)
theorem Nk{p q:Int->Int->Bool}(h:PE X e (YF (RK λi j=>.bl (p i j)) (RK λi j=>.bl (q i j)) (nQ K a) (nQ K b) (nQ K c))):PE X e (lift K (sD p q a b c)):=KW h cu
theorem XE(h:PE X e (Zj (lift K td) (lift K te))):PE X e (lift K (qk td te)):=KW h oE
theorem YE(h:PE X e (ax (lift K td))):PE X e (lift K (sk td)):=KW h pE
theorem xM{con:Con}{E:XK}(h:PE X e (JY (eQ K con) [] E (wQ (as.map (nQ K))))):PE X e (lift K (NG con as)):=KW h wE
theorem ZE{con:Con}{E:XK}{i:Nat}(h:PE X e (JY (eQ K con) [] E (wQ ((Sum.inl i :: as).map (nQ K))))):PE X e (lift K (kU con i as)):=KW h Zy
theorem JO{i:Nat}{r:V->List V->Hp->VK->Prop}{f:List D->List D->(D->D->Prop)->Prop}(ok:du K r f)(h:PE X e (LN K "list" r (aZ i) (wQ (as.map (nQ K))))):PE X e (lift K (gW i as f)):=KW h λq=>by
 obtain⟨a,xs,e1,sq,w⟩:=Gk ok q
 exact ⟨_,e1,.inl ⟨rfl,xs,sq⟩,w⟩
theorem yM{i:Nat}{r:V->List V->Hp->VK->Prop}{f:List D->List D->(D->D->Prop)->Prop}(ok:du K r f)(h:PE X e (QL K "list" r (aZ i))):PE X e (lift K (gW i [] f)):=KW h λq=>by
 obtain⟨a,xs,e1,sq,w⟩:=Gk ok q
 exact ⟨_,e1,.inl ⟨rfl,xs,sq⟩,w⟩
theorem ct2{r:R2}{f:D->D->(Sl->Prop)->Prop}(ok:cX K (fW r) (o2 f))(h:PT X e (ux (IC r (nQ K a) (nQ K b)))):PT X e (AQ K (nD (QZ [a,b] (o2 f)))):=FO h λq=>GB (λz=>Ty (GG ok z)) q
theorem aI(h:PT X e (tB (lift K td))):PT X e (AQ K (nD td)):=FO h λq=>GB (λz=>z) q
theorem bI(h:PT X e (wC (AQ K tc))):PT X e (AQ K (mE tc)):=FO h eM
theorem cI(h:PW X e (vC (AQ K tc) (AQ K td'))):PW X e (AQ K (nE tc td')):=DP h fM
theorem zM(h:PW X e (pO (AQ K tc) (AQ K td'))):PW X e (AQ K (ON tc td')):=DP h yO
variable {st:Stmt}{sts:List Stmt}{t u:ZJ}
theorem qu(h:PSs X sts bx):PSs X sts (tQ K Jq):=NE h qE
theorem dI(h:PSs X sts (LW (tQ K t) (tQ K u))):PSs X sts (tQ K (YY t u)):=NE h iM
theorem eI(h:PS X st (Lz (lift K td))):PS X st (tQ K (uk td)):=Lk h jM
theorem su{i:Nat}(h:PS X st (Lz (aZ i))):PS X st (tQ K (wV i)):=Lk h sE
theorem tu{i j:Nat}(h:PS X st (UZ (aZ j) (HX i))):PS X st (tQ K (IG i j)):=Lk h tE
theorem uu(h:PS X st (QK (lift K td))):PS X st (tQ K (vk td)):=Lk h rE
theorem AM(h:PS X st (DC (AQ K tc) (tQ K t) (tQ K u))):PS X st (tQ K (Uy tc t u)):=Lk h kM
theorem gI{i:Nat}(h:PS X st (UZ (lift K td) (HX i))):PS X st (tQ K (jU i td)):=Lk h HB
theorem BM{j:Nat}(h:PS X st (UZ (lift K td) (GC (aZ j) (nQ K a) yq))):PS X st (tQ K (tD j a td)):=Lk h iu
theorem iI{j:Nat}(h:PS X st (Jx (aZ j) (nQ K a) (lift K td))):PS X st (tQ K (wJ j a td)):=Lk h Kk
noncomputable def Pk(g:uJ)(a:TD):ZJ:=λE ρ=>a ρ λr ρ'=>g r.d ρ' E.nx
theorem jI{g:uJ}{E:Ends}{σ:L2.St}{H:Hp}(h:tQ K (Pk g td) E σ H):UZ (lift K td) (dX K g) E σ H:=by
 obtain⟨G,F,ρ,D,R,w,n,r,b,c⟩:=h
 refine ⟨G,F,ρ,_,R,w,λv H' F' x ρ' s R' r' q=>?_⟩
 obtain⟨F2,s2,R2,d2⟩:=r'.frz R'
 exact ⟨G,F2,ρ',x.d,_,R2,d2,q,λσ3 ρ3 R3 w3=>n σ3 H' F2 ρ3 (s.trans s2) R3 w3⟩
theorem wu{g:uJ}(h:PS X st (UZ (lift K td) (dX K g))):PS X st (tQ K (Pk g td)):=Lk h jI
theorem xu{i:Nat}(h:PG X e (HX i)):PG X e (dX K (Vy i)):=FP h BO
theorem kI{n:Nat}{gs:List uJ}(h:PG X e (Mz K n (VW (gs.map (dX K)))))(hn:gs.length=n:=by rfl):PG X e (dX K (PN gs)):=FP h (CO hn)
theorem Qk{es:List Expr}{g:uJ}{gs:List uJ}(h1:PG X e (dX K g))(h2:BB X es (VW (gs.map (dX K))))(hs:(assignEach (e :: es) X.env).map (·.2)=assign e X.env :: (assignEach es X.env).map (·.2):=by rfl):BB X (e :: es) (VW ((g :: gs).map (dX K))):=FY h1 h2 hs
theorem yu:Qx X [] (AQ K HG):=GO bE gM
variable {tg:Expr}
theorem zu{l:Expr}{tl:TE}(hK:X.K=K)(hl:PE X l tl):PI X tg l (uM K tl):=by
 subst hK
 intro pins s σ H R I h
 refine fX (hl pins s σ H _ I h) λv s1 ⟨x,H1,I1,r1,q1⟩=>?_
 obtain⟨a,e,q1⟩:=q1
 subst e
 cases r1
 rcases q1 with⟨⟨xs,hq⟩,q⟩|⟨⟨xs,hq⟩,q⟩
 ·obtain⟨its,rv,p,hz⟩:=I1.list hq
  refine wpAny_pyIter_list p.isList ?_
  refine ⟨s1.heap.objs.size,[s1.heap.objs.size],_,_,H1,rfl,I1.kept (t':=s1.toks) λb o e=>g0 _ e,Nz a _,⟨_,J0 _ rfl,rfl,rfl⟩,λb hb=>?_,q⟩
  have e:b=s1.heap.objs.size:=by simpa using hb
  subst e
  exact I1.fpOk (G0 _) (I1.hok.fresh (G0 _))
 ·obtain⟨its,rv,p,hz⟩:=I1.tuple hq
  refine wpAny_pyIter_tuple (show s1.heap.IsTuple a its.toArray from p) ?_
  refine ⟨s1.heap.objs.size,[s1.heap.objs.size],_,_,H1,rfl,I1.kept (t':=s1.toks) λb o e=>g0 _ e,WF a _,⟨_,J0 _ rfl,rfl,rfl⟩,λb hb=>?_,q⟩
  have e:b=s1.heap.objs.size:=by simpa using hb
  subst e
  exact I1.fpOk (G0 _) (I1.hok.fresh (G0 _))
theorem lI{l:Expr}(hK:X.K=K)(hl:PE X l (lift K td)):PI X tg l (XQ K (XG td)):=OE (zu hK hl) HE
theorem Au{l:Expr}(h:PI X tg l (fx (wQ ([a].map (nQ K))))):PI X tg l (XQ K (mU a)):=OE h IE
theorem Bu{l:Expr}(h:PI X tg l (gx (wQ ([a,b].map (nQ K))))):PI X tg l (XQ K (vD a b)):=OE h JE
theorem Cu{l:Expr}(h:PI X tg l (Dq K (wQ ([a,b].map (nQ K))))):PI X tg l (XQ K (xD a b)):=OE h LE
theorem Du{l:Expr}(h:PI X tg l (Fq K (wQ ([a,b,c].map (nQ K))))):PI X tg l (XQ K (zD a b c)):=OE h ME
theorem mI{l:Expr}(h:PI X tg l (kE K (wQ ([a].map (nQ K))))):PI X tg l (XQ K (Ik a)):=OE h vM
noncomputable def Dj(_ j:Int):Prop:=0 < j
theorem op_catB:OpR X (binaryOp .Add) Dk:=by
 intro pins s σ H x y v u Q I rx ry h
 obtain⟨a,b,xs,ys,rfl,rfl,ha,hb,hz,q1,q2,q3⟩:=h
 have ha':SqT X.K H a xs:=SqT.of ha
 have hb':SqT X.K H b ys:=SqT.of hb
 by_cases hx:xs=[]
 ·subst hx
  cases rx
  cases ry
  obtain⟨its,r1,p1,_⟩:=I.tuple ha'
  obtain⟨its2,r2,p2,_⟩:=I.tuple hb'
  cases r1
  exact gk p1 p2 ⟨.ref b,H,I,rfl,q1 rfl⟩
 ·exact yy pins s σ H (.ref a) (.ref b) v u Q I rx ry ⟨a,b,xs,ys,rfl,rfl,ha',hb',hx,hz,λe=>q2 hx e,λe p hp=>q3 hx e p hp⟩
theorem EQ:OpR X (binaryOp .Add) (fK (RK λi j=>.int (i+j)) (fK Dk SC)):=op_add.or (op_catB.or TC)
theorem pX:OpR X (binaryOp .Mult) (fK (rI CMul λi j=>.int (i * j)) UC):=op_mul.or VC
theorem lZ:cX K (fW (RK λi j=>.int (i - j))) (o2 (Xj λi j=>.int (i - j))):=UG λ_ _ _=>.int _
theorem tY:cX K (fW (rI kx λi j=>.int (i / j))) (o2 (fI kx λi j=>.int (i / j))):=xE λ_ _ _=>.int _
theorem iJ:cX K (fW (rI (λ_ j=>0 < j) λi j=>.int (i % j))) (o2 (fI Dj λi j=>.int (i % j))):=xE (C:=Dj) λ_ _ _=>.int _
theorem Rk:cX K (fW (rI ny λi j=>.int (i ^ j.toNat))) (o2 (fI ny λi j=>.int (i ^ j.toNat))):=xE λ_ _ _=>.int _
theorem cF:cX K (fW (RK λi j=>.bl (decide (i < j)))) (o2 (Xj λi j=>.bool (decide (i < j)))):=UG λ_ _ _=>.bl _
theorem CM:cX K (fW (RK λi j=>.bl (decide (i<=j)))) (o2 (Xj λi j=>.bool (decide (i<=j)))):=UG λ_ _ _=>.bl _
theorem IB:cX K (fW (RK λi j=>.bl (decide (j < i)))) (o2 (Xj λi j=>.bool (decide (j < i)))):=UG λ_ _ _=>.bl _
theorem DM:cX K (fW (RK λi j=>.bl (decide (j<=i)))) (o2 (Xj λi j=>.bool (decide (j<=i)))):=UG λ_ _ _=>.bl _
theorem Eu(hK:X.K=K):IxR X (fK (zy K) (Ay K)):=(Zx hK).or (Ny hK)
end
mutual
noncomputable def NQ:D->Bool
 | .none=>true
 | .bool _=>true
 | .int _=>true
 | .str _=>true
 | .list xs=>plainAll xs
 | .tuple xs=>plainAll xs
 | .dict _=>false
noncomputable def plainAll:List D->Bool
 | []=>true
 | x :: xs=>NQ x&&plainAll xs
end
section
variable {K:Fg}{F H:Hp}
mutual
theorem Da.is(s:Sub F H):∀{v:V}{d:D},Da K F v d->NQ d=true->Is K H v d
 | _,_,.non,_=>.non
 | _,_,.bl b,_=>.bl b
 | _,_,.int i,_=>.int i
 | _,_,.str x,_=>.str x
 | _,_,.lst e t,z=>.lst (SqL.of (s _ _ e)) (DaAll.is s t (by simpa [NQ]using z))
 | _,_,.tup e t,z=>.tup (SqT.of (s _ _ e)) (DaAll.is s t (by simpa [NQ]using z))
 | _,_,.dk _ _,z=>by simp[NQ]at z
 | _,_,.dt _ _,z=>by simp[NQ]at z
 | _,_,.scr _,z=>by simp[NQ,YJ]at z
 | _,_,.exc _,z=>by simp[NQ,bM]at z
theorem DaAll.is(s:Sub F H):∀{xs:List V}{ds:List D},DaAll K F xs ds->plainAll ds=true->IsAll K H xs ds
 | _,_,.nil,_=>.nil
 | _,_,.cons a t,z=>by
  simp[plainAll]at z
  exact .cons (Da.is s a z.1) (DaAll.is s t z.2)
end
theorem At.is{v:V}{d:D}(s:Sub F H)(h:At K F H v d)(p:NQ d=true):Is K H v d:=by
 rcases h with h|⟨a,o,rfl,_,e,h⟩
 ·exact h.is s p
 ·cases o<;>cases d<;>first|exact h.elim|(simp[NQ]at p)|skip
  ·rename_i xs ds
   exact .lst (SqL.of e) (DaAll.is s h (by simpa [NQ]using p))
end
noncomputable def Fu(x y:D)(Q:Sl->Prop):Prop:=NQ x=true/\NQ y=true/\SeqAt.shaped x=true/\SeqAt.shaped y=true/\SeqAt.noMix x y=true/\Q (.fz (.bool (same x y)))
noncomputable def Gu(x y:D)(Q:Sl->Prop):Prop:=NQ x=true/\NQ y=true/\SeqAt.shaped x=true/\SeqAt.shaped y=true/\SeqAt.noMix x y=true/\Q (.fz (.bool (!same x y)))
noncomputable def HP:D->D->(Sl->Prop)->Prop
 | .int i,.int j,Q=>Q (.fz (.bool (decide (i=j))))
 | .list xs,y,Q=>Fu (.list xs) y Q
 | .tuple xs,y,Q=>Fu (.tuple xs) y Q
 | .str x,.str y,Q=>Q (.fz (.bool (decide (x=y))))
 | x,y,Q=>Fu x y Q
noncomputable def IP:D->D->(Sl->Prop)->Prop
 | .int i,.int j,Q=>Q (.fz (.bool (!decide (i=j))))
 | .list xs,y,Q=>Gu (.list xs) y Q
 | .tuple xs,y,Q=>Gu (.tuple xs) y Q
 | .str x,.str y,Q=>Q (.fz (.bool (!decide (x=y))))
 | x,y,Q=>Gu x y Q
theorem UK{K:Fg}:cX K (fW (fK IN (SW K false))) (o2 HP):=au λG F σ H ρ x y d e Q Qd R h1 h2 w k=>by
 have gen:Fu d e Qd->fK IN (SW K false) x y H Q:=λ⟨p1,p2,p3,p4,p5,w⟩=>.inr ⟨d,e,h1.is R.sub p1,h2.is R.sub p2,p3,p4,p5,k _ H F (.fz _) (Sub.refl _) R (Da.bl _) w⟩
 unfold HP at w
 split at w
 ·rename_i i j
  cases h1.int
  cases h2.int
  refine .inl ⟨rfl,k _ H F (.fz _) (Sub.refl _) R (Da.bl _) ?_⟩
  have e:decide (V.int i=V.int j)=decide (i=j):=by rw[kY,u6]
  rw[e];exact w
 ·exact gen w
 ·exact gen w
 ·rename_i i j
  cases h1.str
  cases h2.str
  refine .inl ⟨rfl,k _ H F (.fz _) (Sub.refl _) R (Da.bl _) ?_⟩
  have e:decide (V.str i=V.str j)=decide (i=j):=by rw[lY,u6]
  rw[e];exact w
 ·exact gen w
theorem JB{K:Fg}:cX K (fW (fK JN (SW K true))) (o2 IP):=au λG F σ H ρ x y d e Q Qd R h1 h2 w k=>by
 have gen:Gu d e Qd->fK JN (SW K true) x y H Q:=λ⟨p1,p2,p3,p4,p5,w⟩=>.inr ⟨d,e,h1.is R.sub p1,h2.is R.sub p2,p3,p4,p5,k _ H F (.fz _) (Sub.refl _) R (Da.bl _) w⟩
 unfold IP at w
 split at w
 ·rename_i i j
  cases h1.int
  cases h2.int
  refine .inl ⟨rfl,k _ H F (.fz _) (Sub.refl _) R (Da.bl _) ?_⟩
  have e:decide (V.int i=V.int j)=decide (i=j):=by rw[kY,u6]
  rw[e];exact w
 ·exact gen w
 ·exact gen w
 ·rename_i i j
  cases h1.str
  cases h2.str
  refine .inl ⟨rfl,k _ H F (.fz _) (Sub.refl _) R (Da.bl _) ?_⟩
  have e:decide (V.str i=V.str j)=decide (i=j):=by rw[lY,u6]
  rw[e];exact w
 ·exact gen w
theorem jJ{X:Cx}{K:Fg}(hK:X.K=K)(hu:X.A.units+64 < cLine):OpR X (compareOp .Eq) (fK IN (SW K false)):=op_eq.or (Oy hK hu)
theorem Sk{X:Cx}{K:Fg}(hK:X.K=K)(hu:X.A.units+64 < cLine):OpR X (compareOp .NotEq) (fK JN (SW K true)):=op_ne.or (Py hK hu)
section
variable {P:Program}{w:World}{K:Fg}{mg:Str->Option Value}{base:Heap}
theorem cR{x qual:Str}{st:Stmt}{f:Addr}{fd:FuncData}{N ps:List Str}{k:Nat}{con:Con}{ts:ZJ}(F:Fun K x qual st f fd)(S:FnScope N ps (cQ st))
  (hb:∀(cdv:Value) (A:Around) (outer:List Env) (s:Shared) (H:Hp) (E:XK),Room k (A.deeper (envOfC qual (cQ st) s.heap.objs.size f cdv))->PSs (sG BZ P w K mg base N qual (cQ st) f cdv A outer s H E).nox (pQ st) (tQ K ts))
  (hl:∀args Qd,con args Qd->args.length=ps.length) (hc:∀args Qd,con args Qd->(∀s∈args,∀d,s≠.ow d)/\ts (KZ args Qd) (eW N.length args)):FnOk P w K mg base BZ (k+1) f fd ps (eQ K con):=by
 refine F.ok S (λvs H Q E h=>?_) (λcdv A outer s H vs Q E hr h=>⟨_,hb cdv A outer s H E hr,mM hc h⟩)
 obtain⟨G,F',args,Qd,R,w',_⟩:=h
 have h1:=hl args Qd w'
 have h2:=R.len
 rw[n0,n0]at h2
 rw[h2,h1]
end
noncomputable def EM:List Sl->Bool
 | []=>true
 | .ow _ :: _=>false
 | _ :: as=>EM as
theorem uQ:∀{as:List Sl},EM as=true->∀s∈as,∀d,s≠.ow d
 | .fz _ :: as,h,s,hs,d,z=>by
  rcases U1.mp hs with e|e
  ·subst e;cases z
  ·exact uQ (as:=as) h s e d z
 | .io _ :: as,h,s,hs,d,z=>by
  rcases U1.mp hs with e|e
  ·subst e;cases z
  ·exact uQ (as:=as) h s e d z
noncomputable def FM(K:Fg):List V->Hp->VK->Prop:=λxs H Q=>∃(a:Addr) (ns:List Int),xs=[.ref a]/\(SqL K H a (ns.map V.int)\/SqT K H a (ns.map V.int))/\Q (.int ns.sum) H
theorem AV{X:Cx}{K:Fg}(hK:X.K=K)(hc:X.calm=true):oX X (.builtin "sum") (FM K):=by
 subst hK
 intro pins s σ H xs us Q I r h
 obtain⟨a,ns,rfl,hq,q⟩:=h
 obtain⟨u,rfl,ru⟩:=PZ r
 cases ru
 have hh:=I.ok.hd hc
 rcases hq with hq|hq
 ·obtain⟨its,rv,p,hz⟩:=I.list hq
  have hi:IntsAre its ns:=AX rv
  obtain⟨zs,hx⟩:=hi.allInts.items
  have hl':s.heap.IsList a (intItems zs):=hx ▸ p.isList
  refine sum_intListG hh hl' λh' tk t' hk=>?_
  have e1:ns=zs.toList.map (·.1):=by
   rw[<- nums_intItems,<- hx]
   exact (show numsOf its.toArray.toList=ns from hi.numsOf).symm
  have e2:preSum (numAt zs) zs.size=ns.sum:=by
   rw[preSum_eq,u5 (by simp),e1]
  rw[e2]
  exact ⟨.int ns.sum,H,I.kept hk,⟨t',rfl⟩,q⟩
 ·obtain⟨its,rv,p,hz⟩:=I.tuple hq
  have hi:IntsAre its ns:=AX rv
  obtain⟨zs,hx⟩:=hi.allInts.items
  have hl':s.heap.IsTuple a (intItems zs):=hx ▸ p
  refine PySem.W.ktm_sumG hh hl' λh' tk t' hk=>?_
  have e1:ns=zs.toList.map (·.1):=by
   rw[<- nums_intItems,<- hx]
   exact (show numsOf its.toArray.toList=ns from hi.numsOf).symm
  have e2:preSum (numAt zs) zs.size=ns.sum:=by
   rw[preSum_eq,u5 (by simp),e1]
  rw[e2]
  exact ⟨.int ns.sum,H,I.kept hk,⟨t',rfl⟩,q⟩
noncomputable def KO:D->(Sl->Prop)->Prop
 | .list ds,Q=>∃ns:List Int,ds=ns.map q0/\Q (.fz (.int ns.sum))
 | .tuple ds,Q=>∃ns:List Int,ds=ns.map q0/\Q (.fz (.int ns.sum))
 | _,_=>False
theorem DaAll.intsV{K:Fg}{F:Hp}:∀{xs:List V}{ns:List Int},DaAll K F xs (ns.map q0)->xs=ns.map V.int
 | [],[],_=>rfl
 | x :: xs,b :: bs,.cons h t=>by cases h;simp[DaAll.intsV t]
theorem Tk{K:Fg}:cX K (FM K) (o1 KO):=Ck λG F σ H ρ x d Q Qd R h1 w k=>by
 match d,h1,w with
 | .list ds,h1,⟨ns,e,w⟩ =>
  subst e
  obtain⟨a,us,rfl,e1,d1⟩:=h1.list R.sub
  have:=d1.intsV
  subst this
  exact ⟨a,ns,rfl,.inl (SqL.of e1),k _ H F (.fz _) (Sub.refl _) R (Da.int _) w⟩
 | .tuple ds,h1,⟨ns,e,w⟩ =>
  subst e
  obtain⟨a,us,rfl,_,e1,d1⟩:=h1.tuple R.sub
  have:=d1.intsV
  subst this
  exact ⟨a,ns,rfl,.inr (SqT.of e1),k _ H F (.fz _) (Sub.refl _) R (Da.int _) w⟩
noncomputable def GM(i j:Int):Prop:=-(2 ^ 62)<=i/\i < 2 ^ 62/\-(2 ^ 62)<=j/\j < 2 ^ 62
noncomputable def nI:List V->Hp->VK->Prop:=λxs H Q=>∃i j:Int,(xs=[.int i,.int j]\/(xs=[.int j]/\i=0))/\∀p,H p=none->Q (.ref p) (OQ H p (.rng i j))
theorem Uk{X:Cx}:oX X (.type "range") nI:=by
 intro pins s σ H xs us Q I r h
 obtain⟨i,j,hx,q⟩:=h
 have lay:∀(t u v:Tok) (tk:Nat),EP X pins σ Q (.ref s.heap.objs.size) { s with heap:=s.heap.push { cls:=.type "range",data:=.fields #[.int i t,.int j u,.int 1 v] },toks:=tk }:=λt u v tk =>
  ⟨.ref s.heap.objs.size,_,I.laid (t':=tk) (o:=.rng i j) (λb o e=>g0 _ e) (G0 _) ⟨t,u,v,J0 _ rfl⟩,rfl,q _ (I.hok.fresh (G0 _))⟩
 rcases hx with rfl|⟨rfl,rfl⟩
 ·obtain⟨u,w,rfl,ru,rw'⟩:=GY r
  obtain⟨t,rfl⟩:=ru
  obtain⟨t',rfl⟩:=rw'
  exact call_range_2 (lay _ _ _ _)
 ·obtain⟨u,rfl,ru⟩:=PZ r
  obtain⟨t,rfl⟩:=ru
  exact call_range_1 (lay _ _ _ _)
noncomputable def pU:List V->Hp->VK->Prop:=λxs H Q=>∃(p:Addr) (i j:Int),xs=[.ref p]/\H p=some (.rng i j)/\GM i j/\(j - i).toNat<=2 ^ 24/\∀l,H l=none->Q (.ref l) (OQ H l (.lst ((O0 (j - i).toNat).map λ(n:Nat)=>V.int (i+n))))
theorem dF{X:Cx}(hc:X.calm=true):oX X (.type "list") pU:=by
 intro pins s σ H xs us Q I r h
 obtain⟨p,i,j,rfl,hp,⟨b1,b2,b3,b4⟩,hz,q⟩:=h
 obtain⟨u,rfl,ru⟩:=PZ r
 cases ru
 obtain⟨t,u,v,e⟩:=I.hok p _ hp
 have hn:t8 i j 1=((j - i).toNat:Int):=by rw[rangeSize_one];split<;>omega
 refine call_list_range (I.ok.hd hc) e (small_one b1 b2 b3 b4) hn hz λh' tk acc' c' hk hS hacc=>?_
 refine ⟨.ref s.heap.objs.size,_,I.laid (t':=tk) (o:=.lst ((O0 (j - i).toNat).map λ(n:Nat)=>V.int (i+n))) hk (G0 _) ?_,rfl,q _ (I.hok.fresh (G0 _))⟩
 refine ⟨by rw[n0,G3];exact hz,acc'.toList,c',?_,by simpa using hS⟩
 have gen:∀(n:Nat) (ys:List Value),ys.length=n->(∀(k:Nat) (y:Value),ys[k]?=some y->∃t,y=.int (i+k * 1) t)->Vals ((O0 n).map λ(n:Nat)=>V.int (i+n)) ys:=by
  intro n
  induction n with
  | zero=>intro ys hl _;cases ys with|nil=>exact .nil|cons=>simp at hl
  | succ n ih =>
   intro ys hl hy
   rcases P8 ys with rfl|⟨zs,z,rfl⟩
   ·simp at hl
   ·rw[List.concat_eq_append]at hl hy ⊢
    have hl':zs.length=n:=by simpa using hl
    rw[A4,S2]
    refine Vals.append (ih zs hl' λk y e=>hy k y (by rw[E2 (mX e)];exact e)) ?_
    obtain⟨t,rfl⟩:=hy n z (by rw[<- hl'];simp)
    exact .cons ⟨t,by simp⟩ .nil
 refine gen _ _ (by rw[V0];exact hacc.1) λk y e=>?_
 exact hacc.2 k y (by simpa using e)
noncomputable def HM:D->D->(Sl->Prop)->Prop
 | .int i,.int j,Q=>GM i j/\(j - i).toNat<=2 ^ 24/\Q (.ow (.list (vQ i (j - i).toNat)))
 | _,_,_=>False
theorem IM{K:Fg}:cX K (λvs H Q=>nI vs H λv H1=>pU [v] H1 Q) (o2 HM):=by
 intro G F σ H ρ vs ds Q Qd R a w k
 match ds,a,w with
 | [d,e],a,w =>
  obtain⟨v,u,rfl,h1,h2⟩:=a.two
  have w:HM d e Qd:=w
  unfold HM at w
  split at w
  rotate_left
  ·exact w.elim
  rename_i i j w
  cases h1.int
  cases h2.int
  refine ⟨i,j,.inl rfl,λp hp=>⟨p,i,j,rfl,jQ,w.1,w.2.1,λl hl=>?_⟩⟩
  have R1:Rel K G F σ (OQ H p (.rng i j)) ρ:=R.laid hp
  have da:DaAll K F ((O0 (j - i).toNat).map λ(n:Nat)=>V.int (i+n)) (vQ i (j - i).toNat):=by
   have:=DaAll.ints (K:=K) (F:=F) ((O0 (j - i).toNat).map λ(n:Nat)=>i+(n:Int))
   simpa [vQ,R0,Function.comp_def]using this
  obtain⟨R',r'⟩:=R1.newOw (o:=.lst _) (d:=.list (vQ i (j - i).toNat)) hl da
  exact k _ _ F _ (Sub.refl _) R' r' w.2.2
section
variable {X:Cx}{K:Fg}{e:Expr}{a b:AD}
theorem JM(h:PE X e (uL pU (SK (uL nI (wQ ([a,b].map (nQ K)))) HY))):PE X e (lift K (QZ [a,b] (o2 HM))):=KW h λq=>GG IM q
end
noncomputable def iW(ρ:Ev):List (IQ×Sum Nat D)->(List (D×D)->Prop)->Prop
 | [],k=>k []
 | (c,.inr d) :: r,k=>iW ρ r λes=>k ((GK c,d) :: es)
 | (c,.inl i) :: r,k=>match ρ[i]? with
  | some (some (.fz d))=>iW ρ r λes=>k ((GK c,d) :: es)
  | _=>False
noncomputable def KB(its:List (IQ×Sum Nat D)):TD:=λρ Q=>iW ρ its λes=>Q (.ow (.dict es)) ρ
noncomputable def LO:Sum Nat D->TE
 | .inl i=>aZ i
 | .inr (.int n)=>tC (.int n)
 | .inr _=>λ_ _ _=>False
theorem qU{K:Fg}{G:Gh}{F H H1:Hp}{σ:L2.St}{ρ:Ev}(R:Rel K G F σ H ρ):∀{its:List (IQ×Sum Nat D)}{kk:List (D×D)->Prop}{Qp:List (V×V)->Hp->Prop},(∀p∈its,∀d,p.2=.inr d->∃n,d=.int n)->iW ρ its kk ->
  (∀kvs es,DaKV K F kvs es->kvs.map (·.1)=its.map (·.1)->kk es->Qp (kvs.map λkv=>(kV kv.1,kv.2)) H1)->cU (its.map λp=>(tC (kV p.1),LO p.2)) σ H1 Qp
 | [],kk,Qp,_,w,k=>k [] [] .nil rfl w
 | (c,.inr d) :: r,kk,Qp,hc,w,k=>by
  obtain⟨n,rfl⟩:=hc (c,.inr d) B0 d rfl
  refine qU R (its:=r) (λp hp=>hc p (u0 _ hp)) w λkvs es da e q=>?_
  exact k ((c,.int n) :: kvs) _ (.cons (.int n) da) (by simp[e]) q
 | (c,.inl i) :: r,kk,Qp,hc,w,k=>by
  unfold iW at w
  split at w
  ·rename_i d ed
   obtain⟨v,ev,dv⟩:=R.fz i d ed
   refine ⟨v,ev,qU R (its:=r) (λp hp=>hc p (u0 _ hp)) w λkvs es da e q=>?_⟩
   exact k ((c,v) :: kvs) _ (.cons dv da) (by simp[e]) q
  ·exact w.elim
theorem jK:∀(kvs acc:List (IQ×V)),((acc++kvs).map (·.1)).Nodup->HZ acc kvs=acc++kvs
 | [],acc,_=>by simp[HZ]
 | (c,v) :: r,acc,h=>by
  have hn:xX acc c=none:=by
   unfold xX
   rw[List.find?_eq_none.mpr ?_];rfl
   intro x hx
   simp only[decide_eq_true_eq]
   intro z
   simp only[S2,E1,List.nodup_append]at h
   exact h.2.2 x.1 (J7 hx) c B0 z
  have e:TX acc c v=acc++[(c,v)]:=wG v hn
  show HZ (TX acc c v) r=_
  rw[e,jK r (acc++[(c,v)]) (by simpa using h)]
  simp
theorem Hu{X:Cx}{K:Fg}{e:Expr}(its:List (IQ×Sum Nat D))(hn:(its.map (·.1)).Nodup)(hl:its.length<=15)(hc:∀p∈its,∀d,p.2=.inr d->∃n,d=.int n)(h:PE X e (Bq (its.map λp=>(tC (kV p.1),LO p.2)))):PE X e (lift K (KB its)):=KW h λ{σ H Q} q=>by
 obtain⟨G,F,ρ,Qd,R,w,k⟩:=q
 intro p hp
 refine qU R hc w λkvs es da ek q=>⟨jQ,kvs,rfl,?_,?_⟩
 ·have:=congrArg E4 ek;simp at this;omega
 ·rw[jK kvs [] (by simpa [ek]using hn),ay]
  obtain⟨R',r'⟩:=R.newOw (o:=.dK ([]++kvs)) (d:=.dict es) hp (by rw[J8];exact da)
  exact k _ _ F _ ρ (Sub.refl _) R' r' q
noncomputable def clean1(ρ:Ev)(i:Nat):Ev:=match ρ[i]? with
 | some (some (.io _))=>ρ
 | some _=>ρ.set i none
 | none=>ρ
noncomputable def clean(ks:List Nat)(ρ:Ev):Ev:=match ks with
 | []=>ρ
 | i :: r=>clean r (clean1 ρ i)
section
variable {K:Fg}{G:Gh}{F H:Hp}{σ:L2.St}{ρ:Ev}
theorem Rel.drop(R:Rel K G F σ H ρ){i:Nat}(hn:∀d,ρ[i]?≠some (some (Sl.io d))):Rel K G F σ H (ρ.set i none):=by
 refine ⟨by rw[P4];exact R.len,R.sub,R.sub0,R.fn,R.keep,λj d e=>?_,λj t e wt=>?_,λj d b e eb=>?_,λj b e=>?_,λj d e=>?_,λj k t u b e1 w1 e2 w2 e3 e4=>?_⟩
 ·rcases mQ e with⟨rfl,z⟩|⟨n,z⟩
  ·cases z
  ·exact R.fz j d z
 ·rcases mQ e with⟨rfl,z⟩|⟨n,z⟩
  ·cases z
  ·exact R.ow j t z wt
 ·rcases mQ e with⟨rfl,z⟩|⟨n,z⟩
  ·cases z
  ·exact R.new j d b z eb
 ·obtain⟨d',e1,e2⟩:=R.io j b e
  have n:i≠j:=λz=>by subst z;exact hn _ e1
  exact ⟨d',by rw[P0 n];exact e1,e2⟩
 ·rcases mQ e with⟨rfl,z⟩|⟨n,z⟩
  ·cases z
  ·exact R.ioi j d z
 ·rcases mQ e1 with⟨rfl,z⟩|⟨n,z⟩
  ·cases z
  ·rcases mQ e2 with⟨rfl,z'⟩|⟨n',z'⟩
   ·cases z'
   ·exact R.ap j k t u b z w1 z' w2 e3 e4
theorem Rel.clean1(R:Rel K G F σ H ρ)(i:Nat):Rel K G F σ H (clean1 ρ i):=by
 unfold L3.clean1
 split
 ·exact R
 ·rename_i e1 e2
  exact R.drop λd z=>by rw[e2]at z;cases z;exact e1 _ rfl
 ·exact R
theorem Rel.clean(ks:List Nat):∀{ρ:Ev},Rel K G F σ H ρ->Rel K G F σ H (clean ks ρ):=by
 induction ks with
 | nil=>intro ρ R;exact R
 | cons i r ih=>intro ρ R;exact ih (R.clean1 i)
end
noncomputable def LZ(ks:List Nat)(g:uJ)(tb:ZJ)(E:DE):List D->Ev->Prop
 | [],ρ=>E.nx ρ
 | d :: ds,ρ=>g d ρ λρ'=>tb { nx:=λρ2=>LZ ks g tb E ds (clean ks ρ2),rt:=E.rt,bk:=λρ2=>E.nx (clean ks ρ2),ct:=λρ2=>LZ ks g tb E ds (clean ks ρ2) } ρ'
noncomputable def Rq(ks:List Nat)(ti:JG)(g:uJ)(tb:ZJ):ZJ:=λE ρ=>ti ρ λds ρ'=>LZ ks g tb E ds (clean ks ρ')
theorem oI{K:Fg}{ks:List Nat}{ti:JG}{g:uJ}{tb:ZJ}{E:Ends}{σ:L2.St}{H:Hp}(h:tQ K (Rq ks ti g tb) E σ H):Qz (XQ K ti) (dX K g) (tQ K tb) E σ H:=by
 obtain⟨G,F,ρ,D,R,w,n,r,b,c⟩:=h
 refine ⟨G,F,ρ,_,R,w,λJ H1 F1 ds ρ1 s1 R1 wk w1=>?_⟩
 refine ⟨λi m σ H=>m=ds.length - i/\i<=ds.length/\∃F' ρ',Sub F1 F'/\Rel K G F' σ H ρ'/\LZ ks g tb D (ds.drop i) ρ',⟨ds.length,rfl,i4 _,F1,_,Sub.refl _,R1.clean ks,w1⟩,?_⟩
 rintro i m σ H ⟨rfl,hi,F',ρ',s',R',w'⟩
 obtain⟨hgo,hst⟩:=wk i H F' s' R'.sub
 cases e:ds[i]? with
 | none =>
  have hl:ds.length<=i:=Q4.mp e
  refine .inl ⟨hst (by omega),?_⟩
  rw[D8 hl]at w'
  exact n σ H F' ρ' (s1.trans s') R' w'
 | some d =>
  obtain⟨go,yl⟩:=hgo d e
  have hl:=mX e
  rw[KG e]at w'
  refine .inr ⟨go,λσ2 H2=>∃F2 ρ2,Sub F1 F2/\Rel K G F2 σ2 H2 ρ2/\LZ ks g tb D (ds.drop (i+1)) ρ2,λσ2 H2 ⟨F2,ρ2,z1,z2,z3⟩=>⟨ds.length - (i+1),by omega,rfl,hl,F2,ρ2,z1,z2,z3⟩,λx H2 y=>?_⟩
  obtain⟨F2,t1,t2,t3,t4,t5⟩:=yl x H2 y
  have R2:=R'.turn t1 t2 t3 t4
  refine ⟨G,F2,ρ',d,_,R2,t5,w',λσ3 ρ3 R3 w3=>?_⟩
  refine ⟨G,F2,ρ3,_,R3,w3,λσ4 H4 F4 ρ4 s4 R4 q=>?_,λv σ4 H4 F4 x4 ρ4 s4 R4 r4 q=>?_,λσ4 H4 F4 ρ4 s4 R4 q=>?_,λσ4 H4 F4 ρ4 s4 R4 q=>?_⟩
  ·exact ⟨F4,_,s'.trans (t1.trans s4),R4.clean ks,q⟩
  ·exact r v σ4 H4 F4 x4 ρ4 (s1.trans (s'.trans (t1.trans s4))) R4 r4 q
  ·exact n σ4 H4 F4 _ (s1.trans (s'.trans (t1.trans s4))) (R4.clean ks) q
  ·exact ⟨F4,_,s'.trans (t1.trans s4),R4.clean ks,q⟩
theorem Iu{X:Cx}{K:Fg}{st:Stmt}{t:ZJ}(ks:List Nat){ti:JG}{g:uJ}(h:PS X st (Qz (XQ K ti) (dX K g) (tQ K t))):PS X st (tQ K (Rq ks ti g t)):=Lk h oI
theorem BX{ks:List Nat}{g:uJ}{tb:ZJ}{E:DE}(J:List D->Ev->Prop)
  (hs:∀d ds ρ,J (d :: ds) ρ->∀N:Ev->Prop,(∀ρ2,J ds ρ2->N ρ2)->g d ρ λρ'=>tb { nx:=λρ2=>N (clean ks ρ2),rt:=E.rt,bk:=λρ2=>E.nx (clean ks ρ2),ct:=λρ2=>N (clean ks ρ2) } ρ')
  (hd:∀ρ,J [] ρ->E.nx ρ):∀{ds:List D}{ρ:Ev},J ds ρ->LZ ks g tb E ds ρ
 | [],ρ,h=>hd ρ h
 | d :: ds,ρ,h=>hs d ds ρ h _ λρ2 h2=>BX J hs hd h2
noncomputable def cZ(n:Nat)(g:uJ)(tc:pY)(te:TD):List D->List D->Ev->(List D->Ev->Prop)->Prop
 | [],acc,τ,Q=>Q acc τ
 | d :: ds,acc,τ,Q=>g d τ λτ1=>tc τ1 λb τ2=>if b=true then te τ2 λr τ3=>cZ n g tc te ds (acc++[r.d]) (clean (O0 n) τ3) Q else cZ n g tc te ds acc (clean (O0 n) τ2) Q
noncomputable def HJ(ti:JG)(own:List Str)(fr:List Nat)(g:uJ)(tc:pY)(te:TD):TD:=λρ Q=>ti ρ λds ρ1=>ds.length<=sizeLine/\cZ own.length g tc te ds [] (ZY own fr ρ1) λys τ=>Q (.ow (.list ys)) (IK fr (τ.drop own.length) 0 ρ1)
theorem Tq{K:Fg}{ti:JG}{own:List Str}{fr:List Nat}{g:uJ}{tc:pY}{te:TD}(nd:fr.Nodup){σ:L2.St}{H:Hp}{Q:VK}(h:lift K (HJ ti own fr g tc te) σ H Q):WY (XQ K ti) own fr (dX K g) (AQ K tc) (lift K te) σ H Q:=by
 obtain⟨G,F,ρ,Qd,R,w,k⟩:=h
 refine ⟨G,F,ρ,_,R,w,λJ H1 F1 ds ρ1 s1 R1 wk ⟨hz,w1⟩=>?_⟩
 have Ri:=R1.inner (own:=own) nd
 refine ⟨λi m ys τ H=>m=ds.length - i/\i<=ds.length/\∃F' ρ' acc,Rel K (Yv own fr F1 H1 σ ρ1) F' τ H ρ'/\DaAll K F' ys acc/\acc.length<=i/\cZ own.length g tc te (ds.drop i) acc ρ' (λys τ=>Qd (.ow (.list ys)) (IK fr (τ.drop own.length) 0 ρ1)),
   ⟨ds.length,rfl,i4 _,F1,_,[],Ri,.nil,i4 _,w1⟩,?_⟩
 rintro i m ys τ H' ⟨rfl,hi,F',ρ',acc,R',da,hl,w'⟩
 obtain⟨hgo,hst⟩:=wk i H' F' R'.sub0 R'.sub
 cases e:ds[i]? with
 | none =>
  have hl':ds.length<=i:=Q4.mp e
  refine .inl ⟨hst (by omega),λDd hD=>?_⟩
  rw[D8 hl']at w'
  have Ro:=R1.outer R' nd
  obtain⟨Rn,rn⟩:=Ro.newOw (o:=.lst ys) (d:=.list acc) hD da
  exact k _ _ F' _ _ (s1.trans R'.sub0) Rn rn w'
 | some d =>
  obtain⟨go,yl⟩:=hgo d e
  have hlt:=mX e
  rw[KG e]at w'
  refine .inr ⟨go,by rw[da.length];omega,λys2 τ2 H2=>∃F2 ρ2 acc2,Rel K (Yv own fr F1 H1 σ ρ1) F2 τ2 H2 ρ2/\DaAll K F2 ys2 acc2/\acc2.length<=i+1/\cZ own.length g tc te (ds.drop (i+1)) acc2 ρ2 (λys τ=>Qd (.ow (.list ys)) (IK fr (τ.drop own.length) 0 ρ1)),
    λys2 τ2 H2 ⟨F2,ρ2,acc2,z1,z2,z3,z4⟩=>⟨ds.length - (i+1),by omega,rfl,hlt,F2,ρ2,acc2,z1,z2,z3,z4⟩,λx H2 y=>?_⟩
  obtain⟨F2,t1,t2,t3,t4,t5⟩:=yl x H2 y
  have R2:=R'.turn t1 t2 t3 t4
  refine ⟨_,F2,ρ',d,_,R2,t5,w',λτ3 ρ3 R3 w3=>?_⟩
  refine ⟨_,F2,ρ3,_,R3,w3,λb H4 F4 ρ4 s4 R4 w4=>?_⟩
  cases b with
  | false=>exact ⟨F4,_,acc,R4.clean _,da.mono (t1.trans s4),by omega,w4⟩
  | true =>
   refine ⟨_,F4,ρ4,_,R4,w4,λv H5 F5 r ρ5 s5 R5 r5 w5=>?_⟩
   obtain⟨F6,s6,R6,d6⟩:=r5.frz R5
   exact ⟨F6,_,acc++[r.d],R6.clean _,(da.mono (t1.trans (s4.trans (s5.trans s6)))).append (.cons d6 .nil),by simp;omega,w5⟩
section
variable {X:Cx}{K:Fg}{e:Expr}{st:Stmt}{ti:JG}{own:List Str}{fr:List Nat}{g:uJ}{tc:pY}{te:TD}
theorem Vk(nd:fr.Nodup)(h:PE X e (WY (XQ K ti) own fr (dX K g) (AQ K tc) (lift K te))):PE X e (lift K (HJ ti own fr g tc te)):=KW h (Tq nd)
theorem Xk{i:Nat}(nd:fr.Nodup)(h:PS X st (UZ (WY (XQ K ti) own fr (dX K g) (AQ K tc) (lift K te)) (HX i))):PS X st (tQ K (jU i (HJ ti own fr g tc te))):=Lk h λq=>Tq nd (HB q)
end
theorem Yk{n:Nat}{g:uJ}{tc:pY}{te:TD}{Q:List D->Ev->Prop}(J:List D->List D->Ev->Prop)
  (hs:∀d ds acc τ,J (d :: ds) acc τ->∀N:List D->Ev->Prop,(∀acc2 τ2,J ds acc2 τ2->N acc2 τ2)->g d τ λτ1=>tc τ1 λb τ2=>if b=true then te τ2 λr τ3=>N (acc++[r.d]) (clean (O0 n) τ3) else N acc (clean (O0 n) τ2))
  (hd:∀acc τ,J [] acc τ->Q acc τ):∀{ds acc:List D}{τ:Ev},J ds acc τ->cZ n g tc te ds acc τ Q
 | [],acc,τ,h=>hd acc τ h
 | d :: ds,acc,τ,h=>hs d ds acc τ h _ λacc2 τ2 h2=>Yk J hs hd h2
theorem fF{n:Nat}{g:uJ}{te:TD}{Q:List D->Ev->Prop}(J:List D->List D->Ev->Prop)
  (hs:∀d ds acc τ,J (d :: ds) acc τ->∀N:List D->Ev->Prop,(∀acc2 τ2,J ds acc2 τ2->N acc2 τ2)->g d τ λτ1=>te τ1 λr τ3=>N (acc++[r.d]) (clean (O0 n) τ3))
  (hd:∀acc τ,J [] acc τ->Q acc τ) {ds acc:List D}{τ:Ev} (h:J ds acc τ):cZ n g HG te ds acc τ Q :=
 Yk J (λd ds acc τ h N hN=>by
   have q:=hs d ds acc τ h N hN
   have e:(λτ1=>te τ1 λr τ3=>N (acc++[r.d]) (clean (O0 n) τ3))=λτ1=>HG τ1 λb τ2=>if b=true then te τ2 (λr τ3=>N (acc++[r.d]) (clean (O0 n) τ3)) else N acc (clean (O0 n) τ2):=by
     funext τ1
     show _=(if true=true then te τ1 (λr τ3=>N (acc++[r.d]) (clean (O0 n) τ3)) else N acc (clean (O0 n) τ1))
     rw[if_pos rfl]
   rw[<- e]
   exact q) hd h
theorem kK{n:Nat}{g:uJ}{te:TD}{Q:List D->Ev->Prop}(f:D->D){τ:Ev}{ds:List D}
  (hs:∀d∈ds,∀N:D->Ev->Prop,N (f d) τ->g d τ λτ1=>te τ1 λr τ3=>N r.d (clean (O0 n) τ3))
  (hd:Q (ds.map f) τ):cZ n g HG te ds [] τ Q:=by
 refine fF (λrest acc τ'=>τ'=τ/\∃pre,ds=pre++rest/\acc=pre.map f) ?_ ?_ ⟨rfl,[],rfl,rfl⟩
 ·rintro d ds' acc τ' ⟨rfl,pre,e,rfl⟩ N hN
  exact hs d (by rw[e];simp) (λx τ3=>N (pre.map f++[x]) τ3) (hN _ _ ⟨rfl,pre++[d],by rw[e];simp,by simp⟩)
 ·rintro acc τ' ⟨rfl,pre,e,rfl⟩
  rw[X1]at e
  subst e
  exact hd
theorem KM{n:Nat}{g:uJ}{tc:pY}{te:TD}{Q:List D->Ev->Prop}(p:D->Bool)(f:D->D){τ:Ev}{ds:List D}
  (hs:∀d∈ds,∀(N:D->Ev->Prop) (M:Ev->Prop),(p d=true->N (f d) τ)->(p d=false->M τ)->g d τ λτ1=>tc τ1 λb τ2=>if b=true then te τ2 λr τ3=>N r.d (clean (O0 n) τ3) else M (clean (O0 n) τ2))
  (hd:Q ((ds.filter p).map f) τ):cZ n g tc te ds [] τ Q:=by
 refine Yk (λrest acc τ'=>τ'=τ/\∃pre,ds=pre++rest/\acc=(pre.filter p).map f) ?_ ?_ ⟨rfl,[],rfl,rfl⟩
 ·rintro d ds' acc τ' ⟨rfl,pre,e,rfl⟩ N hN
  exact hs d (by rw[e];simp) (λx τ3=>N ((pre.filter p).map f++[x]) τ3) (λτ3=>N ((pre.filter p).map f) τ3) (λhp=>hN _ _ ⟨rfl,pre++[d],by rw[e];simp,by simp[hp]⟩)
   (λhp=>hN _ _ ⟨rfl,pre++[d],by rw[e];simp,by simp[hp]⟩)
 ·rintro acc τ' ⟨rfl,pre,e,rfl⟩
  rw[X1]at e
  subst e
  exact hd
noncomputable def LB(K:Fg):List V->Hp->VK->Prop:=λxs H Q=>∃(x:V) (d:PyData),xs=[x]/\Is K H x d/\d.showable=true/\d.hasDict=false/\d.depth+1<=64/\d.shown.length<=sizeLine/\Q (.str d.shown) H
theorem MZ{X:Cx}{K:Fg}{k:Nat}(hK:X.K=K)(hr:Room k X.A):oX X (.builtin "repr") (LB K):=by
 subst hK
 intro pins s σ H xs us Q I r h
 obtain⟨x,d,rfl,hd,hs,hn,hz,hl,q⟩:=h
 obtain⟨u,rfl,ru⟩:=PZ r
 obtain⟨as,ra⟩:=hd.reads I ru
 have hu:=hr.units
 cases hd with
 | non=>cases ru;exact PySem.P.repr_of_none ⟨.str _,H,I.tok _,⟨_,rfl⟩,q⟩
 | bl b=>cases ru;exact PySem.P.repr_of_bool ⟨.str _,H,I.tok _,⟨_,rfl⟩,by cases b<;>exact q⟩
 | int i =>
  obtain⟨t,rfl⟩:=ru
  exact PySem.P.repr_of_int (by simpa [PyData.showable]using hs) ⟨.str _,H,I.tok _,⟨_,rfl⟩,q⟩
 | str x =>
  obtain⟨t,rfl⟩:=ru
  exact PySem.P.repr_of_str ⟨.str _,H,I.tok _,⟨_,rfl⟩,q⟩ hl
 | lst _ _ =>
  cases ru
  exact repr_of_reads' ra hs (λz=>by rw[hn]at z;cases z) hr.gd (by omega) (λ_ _ e=>e) (λh' u tk hk=>⟨.str _,H,I.kept hk,⟨u,rfl⟩,q⟩) hl
 | tup _ _ =>
  cases ru
  exact repr_of_reads' ra hs (λz=>by rw[hn]at z;cases z) hr.gd (by omega) (λ_ _ e=>e) (λh' u tk hk=>⟨.str _,H,I.kept hk,⟨u,rfl⟩,q⟩) hl
noncomputable def LM(d:D)(Q:Sl->Prop):Prop:=NQ d=true/\d.showable=true/\d.depth+1<=64/\d.shown.length<=sizeLine/\Q (.fz (.str d.shown))
mutual
theorem lK:∀{d:D},NQ d=true->d.hasDict=false
 | .none,_=>rfl
 | .bool _,_=>rfl
 | .int _,_=>rfl
 | .str _,_=>rfl
 | .list xs,h=>by
  have:=plainAll_noDict (xs:=xs) (by simpa [NQ]using h)
  simpa [PyData.hasDict]using this
 | .tuple xs,h=>by
  have:=plainAll_noDict (xs:=xs) (by simpa [NQ]using h)
  simpa [PyData.hasDict]using this
 | .dict _,h=>by simp[NQ]at h
theorem plainAll_noDict:∀{xs:List D},plainAll xs=true->G9 xs=false
 | [],_=>rfl
 | x :: xs,h=>by
  simp[plainAll]at h
  simp[G9,lK h.1,plainAll_noDict h.2]
end
theorem uY{K:Fg}:cX K (LB K) (o1 LM):=Ck λG F σ H ρ x d Q Qd R h1 w k=>by
 obtain⟨p1,p2,p3,p4,w⟩:=w
 exact ⟨x,d,rfl,h1.is R.sub p1,p2,lK p1,p3,p4,k _ H F (.fz _) (Sub.refl _) R (Da.str _) w⟩
structure WE(X:Cx)(e:Expr)(t:TE):Prop where
 h:PE X e t
structure WA(X:Cx)(es:List Expr)(t:TA):Prop where
 h:PA X es t
structure WT(X:Cx)(e:Expr)(t:TT):Prop where
 h:PT X e t
structure WW(X:Cx)(e:Expr)(t:TT):Prop where
 h:PW X e t
structure WS(X:Cx)(s:Stmt)(t:TS):Prop where
 h:PS X s t
structure WSs(X:Cx)(s:List Stmt)(t:TS):Prop where
 h:PSs X s t
structure WG(X:Cx)(e:Expr)(t:TG):Prop where
 h:PG X e t
structure WGs(X:Cx)(es:List Expr)(t:Xv):Prop where
 h:BB X es t
structure WI(X:Cx)(g e:Expr)(t:TI):Prop where
 h:PI X g e t
structure WIf(X:Cx)(es:List Expr)(t:TT):Prop where
 h:Qx X es t
section
variable {X:Cx}{K:Fg}{e e1 e2 e3:Expr}{es:List Expr}{a b c:AD}{as:List AD}{td te tf:TD}{tc tc':pY}{st:Stmt}{sts:List Stmt}{t u:ZJ}{p pos pos' p2 apos cpos tpos:Pos}{x:Str}{tg:Expr}
theorem wn(i:Nat)(hN:X.N[i]?=some x:=by rfl)(hv:tL X.env.scope x:=by first|exact Or.inl rfl|exact Or.inr (Or.inl rfl)|exact Or.inr (Or.inr rfl))(hd:(x==("__debug__":Str))=false:=by decide)
  (hcd:(x==("__classdict__":Str))=false:=by decide):WE X (.Name x pos) (nQ K (.inl i)):=⟨UF hN hv hd hcd⟩
theorem wv(i:Nat)(hN:X.N[i]?=some x:=by rfl)(hv:tL X.env.scope x:=by first|exact Or.inl rfl|exact Or.inr (Or.inl rfl)|exact Or.inr (Or.inr rfl))(hd:(x==("__debug__":Str))=false:=by decide)
  (hcd:(x==("__classdict__":Str))=false:=by decide):WE X (.Name x pos) (lift K (FG i)):=⟨QE (UF hN hv hd hcd)⟩
theorem wx(h:WE X e (lift K td)):WE X e (nQ K (.inr td)):=⟨h.h⟩
theorem bQ:WA X [] (wQ (([]:List AD).map (nQ K))):=⟨WZ⟩
theorem aQ(ha:WE X e (nQ K a))(hr:WA X es (wQ (as.map (nQ K))))(hs:xQ e=true:=by rfl):WA X (e :: es) (wQ ((a :: as).map (nQ K))):=⟨ou ha.h hr.h (kQ hs)⟩
theorem iQ{i:Int}{k:Nat}:WE X (.Constant (.int i) k pos) (lift K (dC (.int i))):=⟨RE (λ_=>.int _) EJ⟩
theorem Ju{b:Bool}{k:Nat}:WE X (.Constant (.bool b) k pos) (lift K (dC (.bool b))):=⟨RE (λ_=>.bl _) CL⟩
theorem WK{z:Str}{k:Nat}:WE X (.Constant (.str z) k pos) (lift K (dC (.str z))):=⟨RE (λ_=>.str _) TV⟩
theorem w_bin{op:Operator}{r:R2}{f:D->D->(Sl->Prop)->Prop}(ok:cX K (fW r) (o2 f))(ho:OpR X (binaryOp op) r)(ha:WE X e1 (nQ K a))(hb:WE X e2 (nQ K b)):WE X (.BinOp e1 op e2 pos) (lift K (QZ [a,b] (o2 f))):=⟨RN ok (jx ho ha.h hb.h)⟩
theorem Zk(ha:WE X e1 (nQ K a)):WE X (.UnaryOp .USub e1 pos) (lift K (QZ [a] (o1 rM))):=⟨bR FE (HL KC ha.h)⟩
theorem aw{op:CmpOp}{r:R2}{f:D->D->(Sl->Prop)->Prop}(ok:cX K (fW r) (o2 f))(ho:OpR X (compareOp op) r)(ha:WE X e1 (nQ K a))(hb:WE X e2 (nQ K b))(hm:op≠.In:=by decide)(hm2:op≠.NotIn:=by decide):WE X (.Compare e1 [op] [e2] pos) (lift K (QZ [a,b] (o2 f))):=⟨RN ok (oy ho ha.h hb.h (sx _ hm hm2))⟩
theorem Ku{op op':CmpOp}{p q:Int->Int->Bool}(ho:OpR X (compareOp op) (RK λi j=>.bl (p i j)))(ho':OpR X (compareOp op') (RK λi j=>.bl (q i j)))(ha:WE X e1 (nQ K a))(hb:WE X e2 (nQ K b))(hc:WE X e3 (nQ K c))
  (hm:lastMarks [op,op'] [e2,e3]=false:=by with_unfolding_all rfl):WE X (.Compare e1 [op,op'] [e2,e3] pos) (lift K (sD p q a b c)):=⟨Nk (vx ho ho' ha.h hb.h hc.h hm)⟩
theorem MB{op:BoolOp}{tr:TE}(h:WE X e tr):WE X (.BoolOp op [e] pos) tr:=⟨AC h.h⟩
theorem NB{rest:List Expr}(ha:WE X e1 (lift K td))(hb:WE X (.BoolOp .And (e2 :: rest) pos) (lift K te)):WE X (.BoolOp .And (e1 :: e2 :: rest) pos) (lift K (qk td te)):=⟨XE (BC ha.h hb.h)⟩
theorem w_not(ha:WE X e1 (lift K td)):WE X (.UnaryOp .Not e1 pos) (lift K (sk td)):=⟨YE (CC ha.h)⟩
theorem GX{k:Nat}{ps:List Str}{con:Con}(C:Cal X.prog X.w X.K X.mg X.base k x ps (eQ K con))(hr:Room k X.A)(ha:WA X (e :: es) (wQ (as.map (nQ K))))(hg:Gl X x:=by rfl)(hdb:(x==("__debug__":Str))=false:=by decide)
  (he:xQ e=true:=by rfl) (hpl:es.all xQ=true:=by rfl):WE X (.Call (.Name x p) (e :: es) [] pos) (lift K (NG con as)):=⟨xM (Xx C hr ha.h hg hdb (kQ he) (gX hpl))⟩
theorem bX{k i:Nat}{ps:List Str}{con:Con}(C:Cal X.prog X.w X.K X.mg X.base k x ps (eQ K con))(hr:Room k X.A)(ha:WA X (e :: es) (wQ ((Sum.inl i :: as).map (nQ K))))(hg:Gl X x:=by rfl)(hdb:(x==("__debug__":Str))=false:=by decide)
  (he:xQ e=true:=by rfl) (hpl:es.all xQ=true:=by rfl):WE X (.Call (.Name x p) (e :: es) [] pos) (lift K (kU con i as)):=⟨ZE (Xx C hr ha.h hg hdb (kQ he) (gX hpl))⟩
theorem CQ{id:String}{r:List V->Hp->VK->Prop}{f:List D->(Sl->Prop)->Prop}(ok:cX K r f)(hc:oX X (.builtin id) r)(hm:X.mg x=none)(hv:bootBuiltins x=some (.builtin id))(ha:WA X (e :: es) (wQ (as.map (nQ K))))(hg:Gl X x:=by rfl)(hn:x ≠ "__name__":=by decide)(hdb:(x==("__debug__":Str))=false:=by decide)
  (he:xQ e=true:=by rfl) (hpl:es.all xQ=true:=by rfl):WE X (.Call (.Name x p) (e :: es) [] pos) (lift K (QZ as f)):=⟨GP ok (tG hc hg hm hv ha.h hn hdb (kQ he) (gX hpl))⟩
theorem vZ{T:String}{r:List V->Hp->VK->Prop}{f:List D->(Sl->Prop)->Prop}(ok:cX K r f)(hc:oX X (.type T) r)(hm:X.mg x=none)(hv:bootBuiltins x=some (.type T))(ha:WA X (e :: es) (wQ (as.map (nQ K))))(hg:Gl X x:=by rfl)(hn:x ≠ "__name__":=by decide)(hdb:(x==("__debug__":Str))=false:=by decide)
  (he:xQ e=true:=by rfl) (hpl:es.all xQ=true:=by rfl):WE X (.Call (.Name x p) (e :: es) [] pos) (lift K (QZ as f)):=⟨GP ok (CK hc hg hm hv ha.h hn hdb (kQ he) (gX hpl))⟩
theorem bw(T:Ki)(hK:X.K=K)(hm:X.mg "isinstance"=none){y:Str}(hm2:X.mg y=none)(hv2:bootBuiltins y=some (.type T.nm))(ha:WE X e1 (nQ K a))(hg:Gl X "isinstance":=by rfl)(hg2:Gl X y:=by rfl)(hy:y ≠ "__name__":=by decide)(hy2:(y==("__debug__":Str))=false:=by decide)(he:xQ e1=true:=by rfl) :
  WE X (.Call (.Name "isinstance" p) [e1,.Name y p2] [] pos) (lift K (QZ [a] (o1 (AE T)))):=⟨SE T (tG (mj hK) hg hm boot_isinstance (tJ ha.h (tJ (gy hg2 hm2 hv2 (v:=.ty T.nm) rfl hy hy2) WZ (kQ rfl)) (kQ he)) (by decide) (by decide) (kQ he) (gX rfl))⟩
theorem MO(hc:X.calm=true)(hm:X.mg "list"=none)(hm2:X.mg "range"=none)(ha:WA X [e1,e2] (wQ ([a,b].map (nQ K))))(hg:Gl X "list":=by rfl)(hg2:Gl X "range":=by rfl)(he:xQ e1=true:=by rfl)(he2:xQ e2=true:=by rfl) :
  WE X (.Call (.Name "list" p) [.Call (.Name "range" p2) [e1,e2] [] pos'] [] pos) (lift K (QZ [a,b] (o2 HM))) :=
 ⟨JM (CK (dF hc) hg hm boot_list (tJ (CK Uk hg2 hm2 boot_range ha.h (by decide) (by decide) (kQ he) (gX (by simp[he2]))) WZ (kQ rfl)) (by decide) (by decide) (kQ rfl) (gX rfl))⟩
theorem WX(hK:X.K=K)(ha:WE X e1 (nQ K a))(hb:WE X e2 (nQ K b))(hs:xq e2:=by exact λ_ _=>rfl):WE X (.Subscript e1 e2 pos) (lift K (QZ [a,b] (o2 CP))):=⟨RN oM (PL (Eu hK) ha.h hb.h hs)⟩
theorem jW(hu:X.A.units+1 < cLine)(ha:WE X e1 (nQ K a))(hb:WE X e2 (nQ K b))(hs:XC e2:=by exact λ_ _=>rfl):WE X (.Subscript e1 e2 pos) (lift K (QZ [a,b] (o2 zV))):=⟨RN lu (Ey hu ha.h hb.h hs)⟩
theorem lX{k:Nat}(h:WA X es (wQ (as.map (nQ K))))(hl:as.length<=1000:=by decide):WE X (.Tuple es k pos) (lift K (lU as VG)):=⟨UE hl (MC h.h)⟩
theorem tX(h:WA X es (wQ (as.map (nQ K))))(hl:as.length<=1000:=by decide):WE X (.List es pos) (lift K (lU as Oq)):=⟨VE hl (IY h.h)⟩
theorem pI(its:List (IQ×Sum Nat D))(hn:(its.map (·.1)).Nodup)(hl:its.length<=15)(hc:∀p∈its,∀d,p.2=.inr d->∃n,d=.int n)(h:PE X e (Bq (its.map λp=>(tC (kV p.1),LO p.2)))):WE X e (lift K (KB its)):=⟨Hu its hn hl hc h⟩
theorem zX{elt iter:Expr}{ifs:List Expr}{sc:Scope}{own:List Str}{fr:List Nat}{ti:JG}{g:uJ}(hc:X.calm=true)(S:fU X.env.scope X.N fr sc=true)(hi:WI X tg iter (XQ K ti))(hg:∀C s H ex,WG (BQ X own fr sc C s H ex) tg (dX K g))
  (hif:∀C s H ex,WIf (BQ X own fr sc C s H ex) ifs (AQ K tc)) (he:∀C s H ex,WE (BQ X own fr sc C s H ex) elt (lift K te)) (nd:fr.Nodup:=by decide) (hs:oU iter=true:=by rfl):WE X (.ListComp elt [⟨tg,iter,ifs,0⟩] sc pos) (lift K (HJ ti own fr g tc te)) :=
 ⟨Vk nd (Yx hc (tV S) hi.h (λC s H ex=>(hg C s H ex).h) (λC s H ex=>(hif C s H ex).h) (λC s H ex=>(he C s H ex).h) (JK hs))⟩
theorem qI{name:Str}{id:String}{i:Nat}{r:V->List V->Hp->VK->Prop}{f:List D->List D->(D->D->Prop)->Prop}(ok:du K r f)(hK:X.K=K)(slot:Slot "list" name id)(hty:typeOf (.builtin id)=pure (.type "method_descriptor"))(hm:KN X id r)(ho:WE X (.Name x p) (nQ K (.inl i)))(ha:WA X (e :: es) (wQ (as.map (nQ K))))
  (hbase:attributeBase (.Name x p) name X.env (eval (.Name x p) X.env)=eval (.Name x p) X.env:=by rfl)
  (hfew:((backTo cpos (starEach (e :: es) X.env)).all (λx=>!x.1)&&(backToKw cpos (keywordEach [] X.env)).all (λx=>x.1.isSome)&&decide ((e :: es).length+([]:List Keyword).length+(if ([]:List Keyword).isEmpty then 0 else 1) < 30))=true:=by rfl)
  (hline:(apos.endLine==cpos.line)=true:=by rfl) (he:xQ e=true:=by rfl) (hpl:es.all xQ=true:=by rfl):WE X (.Call (.Attribute (.Name x p) name apos) (e :: es) [] cpos) (lift K (gW i as f)):=by
 subst hK
 exact ⟨JO ok (DB PySem.F.plainAttrs_list slot hty hm ho.h ha.h hbase hfew hline (kQ he) (gX hpl))⟩
theorem NO{name:Str}{id:String}{i:Nat}{r:V->List V->Hp->VK->Prop}{f:List D->List D->(D->D->Prop)->Prop}(ok:du K r f)(hK:X.K=K)(slot:Slot "list" name id)(hty:typeOf (.builtin id)=pure (.type "method_descriptor"))(hm:KN X id r)(ho:WE X (.Name x p) (nQ K (.inl i)))
  (hbase:attributeBase (.Name x p) name X.env (eval (.Name x p) X.env)=eval (.Name x p) X.env:=by rfl) (hline:(apos.endLine==cpos.line)=true:=by rfl):WE X (.Call (.Attribute (.Name x p) name apos) [] [] cpos) (lift K (gW i [] f)):=by
 subst hK
 exact ⟨yM ok (RC PySem.F.plainAttrs_list slot hty hm ho.h hbase hline)⟩
theorem YX{op:CmpOp}{r:R2}{f:D->D->(Sl->Prop)->Prop}(ok:cX K (fW r) (o2 f))(ho:OpR X (compareOp op) r)(ha:WE X e1 (nQ K a))(hb:WE X e2 (nQ K b))(hm:op≠.In:=by decide)(hm2:op≠.NotIn:=by decide):WT X (.Compare e1 [op] [e2] pos) (AQ K (nD (QZ [a,b] (o2 f)))):=⟨ct2 ok (qy ho ha.h hb.h (sx _ hm hm2))⟩
theorem cw(h:WT X e (AQ K tc)):WT X (.UnaryOp .Not e pos) (AQ K (mE tc)):=⟨bI (zC h.h)⟩
theorem sI(h:WT X e (AQ K tc)):WW X (.BoolOp .And [e] pos) (AQ K tc):=⟨iy h.h⟩
theorem dw(h:WT X e (AQ K tc)):WW X (.BoolOp .Or [e] pos) (AQ K tc):=⟨xC h.h⟩
theorem MM{rest:List Expr}(ha:WT X e1 (AQ K tc))(hb:WW X (.BoolOp .And (e2 :: rest) pos) (AQ K tc')):WW X (.BoolOp .And (e1 :: e2 :: rest) pos) (AQ K (nE tc tc')):=⟨cI (yC ha.h hb.h)⟩
theorem tI{rest:List Expr}(ha:WT X e1 (AQ K tc))(hb:WW X (.BoolOp .Or (e2 :: rest) pos) (AQ K tc')):WW X (.BoolOp .Or (e1 :: e2 :: rest) pos) (AQ K (ON tc tc')):=⟨zM (DL ha.h hb.h)⟩
theorem SN{tt:TT}(h:WW X e tt):WT X e tt:=⟨h.h.pt⟩
theorem gF(h:WE X e (lift K td))(he:∀whole,isTrue e X.env whole=(do let v<-whole;standAt e.pos;holding [v] (truthy v)):=by intro _;rfl):WT X e (AQ K (nD td)):=⟨aI (uC h.h he)⟩
theorem lQ{i:Nat}(hN:X.N.Nodup)(hi:X.N[i]?=some x)(hx:sC X.env.scope x)(hf:X.fn x=true\/X.env.scope.names.lookup x=some .local:=by first|exact .inl rfl|exact .inr rfl|assumption):WG X (.Name x pos) (dX K (Vy i)):=⟨xu (XV hN hi hx hf)⟩
theorem mZ:WGs X [] (VW (([]:List uJ).map (dX K))):=⟨oq⟩
theorem JQ{g:uJ}{gs:List uJ}(h1:WG X e (dX K g))(h2:WGs X es (VW (gs.map (dX K))))(hs:(assignEach (e :: es) X.env).map (·.2)=assign e X.env :: (assignEach es X.env).map (·.2):=by rfl):WGs X (e :: es) (VW ((g :: gs).map (dX K))):=⟨Qk h1.h h2.h hs⟩
theorem kJ{gs:List uJ}{k:Nat}(hK:X.K=K)(hc:X.calm=true)(hh:WGs X es (VW (gs.map (dX K))))(hn:(assignEach es X.env).length=gs.length:=by rfl)(hst:(assignEach es X.env).findIdx? (·.1)=none:=by rfl):WG X (.Tuple es k pos) (dX K (PN gs)):=⟨kI (Iq hK hc hh.h hn hst) rfl⟩
theorem uH:WIf X [] (AQ K HG):=⟨yu⟩
theorem JP(h:WT X e (AQ K tc)):WIf X [e] (AQ K tc):=⟨cE h.h⟩
theorem qX(hK:X.K=K)(hl:WE X e (lift K td)):WI X tg e (XQ K (XG td)):=⟨lI hK hl.h⟩
theorem IJ(hm:X.mg "range"=none)(ha:WA X [e1] (wQ ([a].map (nQ K))))(hg:Gl X "range":=by rfl)(he:xQ e1=true:=by rfl):WI X tg (.Call (.Name "range" p) [e1] [] pos) (XQ K (mU a)):=⟨Au (Oz hg hm ha.h (by rw[kQ he];rfl))⟩
theorem fw(hm:X.mg "range"=none)(ha:WA X [e1,e2] (wQ ([a,b].map (nQ K))))(hg:Gl X "range":=by rfl)(he:xQ e1=true:=by rfl)(he2:xQ e2=true:=by rfl):WI X tg (.Call (.Name "range" p) [e1,e2] [] pos) (XQ K (vD a b)):=⟨Bu (Pz hg hm ha.h (by rw[kQ he,kQ he2];rfl) (by rw[kQ he2];rfl))⟩
theorem sU{ts:List Expr}{kk:Nat}(hK:X.K=K)(hm:X.mg "zip"=none)(ha:WA X [e1,e2] (wQ ([a,b].map (nQ K))))(hg:Gl X "zip":=by rfl)(he:xQ e1=true:=by rfl)(hpl:[e2].all xQ=true:=by rfl):WI X (.Tuple ts kk tpos) (.Call (.Name "zip" p) [e1,e2] [] pos) (XQ K (xD a b)):=⟨Cu (ck hK hg hm ha.h (kQ he) (gX hpl))⟩
theorem uI{ts:List Expr}{kk:Nat}(hK:X.K=K)(hm:X.mg "zip"=none)(ha:WA X [e1,e2,e3] (wQ ([a,b,c].map (nQ K))))(hg:Gl X "zip":=by rfl)(he:xQ e1=true:=by rfl)(hpl:[e2,e3].all xQ=true:=by rfl):WI X (.Tuple ts kk tpos) (.Call (.Name "zip" p) [e1,e2,e3] [] pos) (XQ K (zD a b c)):=⟨Du (fk hK hg hm ha.h (kQ he) (gX hpl))⟩
theorem NM(hK:X.K=K)(hm:X.mg "reversed"=none)(ha:WA X [e1] (wQ ([a].map (nQ K))))(hg:Gl X "reversed":=by rfl)(he:xQ e1=true:=by rfl):WI X tg (.Call (.Name "reversed" p) [e1] [] pos) (XQ K (Ik a)):=⟨mI (lE hK hg hm ha.h (by rw[kQ he];rfl))⟩
theorem nZ:WSs X [] (tQ K Jq):=⟨qu jy⟩
theorem qQ{tr:TS}(h:WS X st tr):WSs X [st] tr:=⟨UV h.h⟩
theorem fQ(h:WS X st (tQ K t))(h2:WSs X sts (tQ K u)):WSs X (st :: sts) (tQ K (YY t u)):=⟨dI (hZ h.h h2.h)⟩
theorem TQ(h:WE X e (lift K td)):WS X (.Return (some e) pos) (tQ K (uk td)):=⟨eI (VF h.h)⟩
theorem JJ{i:Nat}(h:WE X e (nQ K (.inl i))):WS X (.Return (some e) pos) (tQ K (wV i)):=⟨su (VF h.h)⟩
theorem lJ(h:WE X e (lift K td))(hs:gK e=true:=by rfl):WS X (.Expr e pos) (tQ K (vk td)):=⟨uu (WV h.h (iK hs))⟩
theorem KJ{sa sb:List Stmt}(hc:WT X e (AQ K tc))(ha:WSs X sa (tQ K t))(hb:WSs X sb (tQ K u)):WS X (.If e sa sb pos) (tQ K (Uy tc t u)):=⟨AM (EL hc.h ha.h hb.h)⟩
theorem MX{iter:Expr}{body:List Stmt}(ks:List Nat){ti:JG}{g:uJ}(hp:PassesOwn (model X.prog X.w) X.A X.env X.xe)(hc:X.calm=true)(hi:WI X tg iter (XQ K ti))(hg:WG X tg (dX K g))(hb:WSs X body (tQ K t))(hs:oU iter=true:=by rfl):WS X (.For tg iter body [] pos) (tQ K (Rq ks ti g t)):=⟨Iu ks (ix hp hc hi.h hg.h hb.h (JK hs))⟩
theorem zQ{i:Nat}(hN:X.N.Nodup)(hi:X.N[i]?=some x)(hx:sC X.env.scope x)(he:WE X e (lift K td))(hs:gK e=true:=by rfl)(hf:X.fn x=true\/X.env.scope.names.lookup x=some .local:=by first|exact .inl rfl|exact .inr rfl|assumption):WS X (.Assign [.Name x pos'] e pos) (tQ K (jU i td)):=⟨gI (AK hN hi hx he.h (iK hs) hf)⟩
theorem gw{i j:Nat}(hN:X.N.Nodup)(hi:X.N[i]?=some x)(hx:sC X.env.scope x)(he:WE X e (nQ K (.inl j)))(hs:gK e=true:=by rfl)(hf:X.fn x=true\/X.env.scope.names.lookup x=some .local:=by first|exact .inl rfl|exact .inr rfl|assumption):WS X (.Assign [.Name x pos'] e pos) (tQ K (IG i j)):=⟨tu (AK hN hi hx he.h (iK hs) hf)⟩
theorem tU{elt iter:Expr}{ifs:List Expr}{sc:Scope}{own:List Str}{fr:List Nat}{ti:JG}{g:uJ}{i:Nat}(hN:X.N.Nodup)(hy:X.N[i]?=some x)(hl:X.env.scope.names.lookup x=some .local)(hc:X.calm=true)(S:fU X.env.scope X.N fr sc=true)(hi:WI X tg iter (XQ K ti))(hg:∀C s H ex,WG (BQ X own fr sc C s H ex) tg (dX K g))
  (hif:∀C s H ex,WIf (BQ X own fr sc C s H ex) ifs (AQ K tc)) (he:∀C s H ex,WE (BQ X own fr sc C s H ex) elt (lift K te)) (nd:fr.Nodup:=by decide) (hs:oU iter=true:=by rfl) (hsw:swapsWith (.ListComp elt [⟨tg,iter,ifs,0⟩] sc p) (some (.Name x pos')) pos.line X.env=pure true:=by rfl) :
  WS X (.Assign [.Name x pos'] (.ListComp elt [⟨tg,iter,ifs,0⟩] sc p) pos) (tQ K (jU i (HJ ti own fr g tc te))) :=
 ⟨Xk nd (CG hN hy hl hc (tV S) hi.h (λC s H ex=>(hg C s H ex).h) (λC s H ex=>(hif C s H ex).h) (λC s H ex=>(he C s H ex).h) hsw (JK hs))⟩
theorem OO{j:Nat}(he:WE X e (lift K td))(ho:WE X e1 (nQ K (.inl j)))(hi:WE X e2 (nQ K a))(hs:swapsWithSole [.Subscript e1 e2 pos'] e pos.line X.env=pure false:=by rfl)(hw:swappedStores [.Subscript e1 e2 pos'] e X.env=pure none:=by rfl)
  (ha:∀v,assign (.Subscript e1 e2 pos') X.env v=(do
    let ov<-holding [v] (eval e1 X.env)
    let iv<-holding [v,ov] (eval e2 X.env)
    standAt pos'
    holding [v,ov,iv] (setItem ov iv v)
    release [v,ov,iv] []):=by intro _;rfl) (h1:(assignEach [.Subscript e1 e2 pos'] X.env).map (·.2)=[assign (.Subscript e1 e2 pos') X.env]:=by rfl):WS X (.Assign [.Subscript e1 e2 pos'] e pos) (tQ K (tD j a td)):=⟨BM (cx he.h (HC ho.h hi.h Ex ha) hs hw h1)⟩
theorem iw{j:Nat}(hu:X.A.units+1 < cLine)(ho:WE X e1 (nQ K (.inl j)))(hi:WE X e2 (nQ K a))(hv:WE X e (lift K td))(hs:gK e=true:=by rfl):WS X (.Assign [.Subscript e1 e2 pos'] e pos) (tQ K (wJ j a td)):=⟨iI (Fy hu ho.h hi.h hv.h (iK hs))⟩
theorem vI{g:uJ}(he:WE X e (lift K td))(hg:WG X tg (dX K g))(hs:swapsWithSole [tg] e pos.line X.env=pure false:=by rfl)(hw:swappedStores [tg] e X.env=pure none:=by rfl)(h1:(assignEach [tg] X.env).map (·.2)=[assign tg X.env]:=by rfl):WS X (.Assign [tg] e pos) (tQ K (Pk g td)):=⟨wu (cx he.h hg.h hs hw h1)⟩
end
section
variable {P:Program}{w:World}{K:Fg}{mg:Str->Option Value}{base:Heap}
theorem TJ{x qual:Str}{st:Stmt}{f:Addr}{fd:FuncData}{N ps:List Str}{k:Nat}{con:Con}{ts:ZJ}(F:Fun K x qual st f fd)(S:FnScope N ps (cQ st))
  (hb:∀(cdv:Value) (A:Around) (outer:List Env) (s:Shared) (H:Hp) (E:XK),Room k (A.deeper (envOfC qual (cQ st) s.heap.objs.size f cdv))->WSs (sG BZ P w K mg base N qual (cQ st) f cdv A outer s H E).nox (pQ st) (tQ K ts))
  (hl:∀args Qd,con args Qd->args.length=ps.length) (hc:∀args Qd,con args Qd->(∀s∈args,∀d,s≠.ow d)/\ts (KZ args Qd) (eW N.length args)):FnOk P w K mg base BZ (k+1) f fd ps (eQ K con) :=
 cR F S (λcdv A outer s H E hr=>(hb cdv A outer s H E hr).h) hl hc
end
end L3
namespace L2
open PySem PySem.Spec PyProof.Rows
theorem Vals.getV:∀{xs:List V}{us:List Value}{i:Nat}{u:Value},Vals xs us->us[i]?=some u->∃x,xs[i]?=some x/\RelV x u
 | _,_,0,_,.cons r _,e=>⟨_,rfl,by cases e;exact r⟩
 | _,_,i+1,_,.cons _ t,e=>Vals.getV (i:=i) t e
section
variable {X:Cx}
end
noncomputable abbrev LJ(h:Heap)(z TI TO T:Addr)(fl:Bool):Prop :=
 h.get? z=some { cls:=.type "zip",dict:=none,data:=.fields #[rawInt T,.bool fl,.bool false,.ref TI,.ref TO],slots:=#[] }
section
variable {prog:Program}{w:World}{A:Around}{E:Value->Shared->Prop}{s:Shared}
theorem OM{a:Addr}{o:Obj}{Q:Option Obj->Shared->Prop}(ho:s.heap.get? a=some o)(h:Q (some o) s):wpAny (model prog w) A (loadIfAlive a) Q E s:=λΓ p _=>by
 show Sem.wp _ Γ (.loadIfAlive a λx=>.pure x) _ _ p s
 rw[Sem.wp_loadIfAlive,ho]
 exact h
theorem Uq{z TI TO T:Addr}{fl:Bool}{ot:Obj}{Q:Bool->Shared->Prop}(hz:LJ s.heap z TI TO T fl)(hT:s.heap.get? T=some ot)
  (h:∀h₁,LJ h₁ z TI TO T true->q5 z s.heap h₁->Q false { s with heap:=h₁ }):wpAny (model prog w) A (Z0 (.ref z)) Q E s:=by
 unfold Z0
 refine wpAny_bind (wpAny_field hz rfl (x:=rawInt T) rfl ?_)
 show wpAny _ _ (loadIfAlive T >>= _) _ _ _
 refine wpAny_bind (OM hT ?_)
 rw[if_neg (show ¬((some ot).isNone=true) from K1)]
 refine wpAny_bind (wpAny_field hz rfl (x:=.bool fl) rfl ?_)
 cases fl with
 | true =>
  rw[if_neg (by decide)]
  exact wpAny_pure (h s.heap hz ⟨rfl,λ_ _=>rfl⟩)
 | false =>
  rw[if_pos (by decide)]
  exact wpAny_bind (wpAny_setField_rec hz (by simp) λh₁ hz₁ hs₁=>wpAny_pure (h h₁ hz₁ hs₁))
theorem ED{z TI TO T i1 i2 l1 l2:Addr}{fl:Bool}{k:Nat}{k1:Kd}{k2:Kd}{xs1 xs2:Array Value}{ot:Obj}{x1 x2:Value}{Q:Value->Shared->Prop}(D:ZAp2 z TI TO i1 i2 l1 l2)
  (hz:LJ s.heap z TI TO T fl) (hTI:yQ s.heap TI (.ref i1) (.ref i2)) (hT:s.heap.get? T=some ot)
  (h1:ItAt k1 s.heap i1 l1 k) (h2:ItAt k2 s.heap i2 l2 k) (hl1:SqAt k1 s.heap l1 xs1) (hl2:SqAt k2 s.heap l2 xs2) (hx1:xs1[k]?=some x1) (hx2:xs2[k]?=some x2)
  (hQ:∀h',LJ h' z TI TO T true->ItAt k1 h' i1 l1 (k+1)->ItAt k2 h' i2 l2 (k+1)->yQ h' s.heap.objs.size x1 x2->h'.objs.size=s.heap.objs.size+1 ->
    (∀c o,c≠z->c≠i1->c≠i2->s.heap.get? c=some o->h'.get? c=some o)->Q (.ref s.heap.objs.size) { s with heap:=h' }) :
  wpAny (model prog w) A (Builtin.«zip.__next__» ⟨[.ref z],[]⟩) (λfin s'=>∃v,fin=.done (.ret v)/\Q v s') E s:=by
 show wpAny _ _ (field (.ref z) 2 >>= _) _ _ _
 refine wpAny_bind (wpAny_field hz rfl (x:=.bool false) rfl ?_)
 show wpAny _ _ (field (.ref z) 3 >>= _) _ _ _
 refine wpAny_bind (wpAny_field hz rfl (x:=.ref TI) rfl ?_)
 refine wpAny_bind (wpAny_seqItems hTI rfl ?_)
 show wpAny _ _ (Z0 (.ref z) >>= _) _ _ _
 refine wpAny_bind (Uq hz hT λh₁ hz₁ hs₁=>?_)
 simp only[B4,if_false]
 rw[t9]
 simp only[M5,Y5]
 refine wpAny_bind (wpAny_bind (wpAny_bind (wpAny_holding ?_)))
 show wpAny _ _ (U0 (.ref i1) >>= _) _ _ _
 refine wpAny_bind (KQ (h1.at λo e=>hs₁.extBut _ o D.i1z e) (hl1.at λo e=>hs₁.extBut _ o D.l1z e) hx1 λha1 hi1 hsa1=>wpAny_pure (wpAny_pure ?_))
 refine wpAny_bind (wpAny_bind (wpAny_holding ?_))
 show wpAny _ _ (U0 (.ref i2) >>= _) _ _ _
 refine wpAny_bind (KQ ((h2.at λo e=>hs₁.extBut _ o D.i2z e).at λo e=>hsa1.extBut _ o D.i2i1 e) ((hl2.at λo e=>hs₁.extBut _ o D.l2z e).at λo e=>hsa1.extBut _ o D.l2i1 e) hx2 λha2 hi2 hsa2=>wpAny_pure (wpAny_pure (wpAny_pure ?_)))
 refine wpAny_bind (wpAny_newTuple (hsz:=by show 2<=sizeLine;decide) ?_)
 have hsz:ha2.objs.size=s.heap.objs.size:=by rw[hsa2.1,hsa1.1,hs₁.1]
 have hzG:LJ ha2 z TI TO T true:=hsa2.extBut _ _ D.i2z.symm (hsa1.extBut _ _ D.i1z.symm hz₁)
 refine wpAny_pure ⟨_,rfl,?_⟩
 show Q (.ref ha2.objs.size) _
 rw[hsz]
 refine hQ _ (g0 _ hzG) ((hi1.at λo e=>hsa2.extBut _ o D.i2i1.symm e).at λo e=>g0 _ e) (hi2.at λo e=>g0 _ e) ?_ ?_ λc o c1 d1 d2 e=>g0 _ (hsa2.extBut _ _ d2 (hsa1.extBut _ _ d1 (hs₁.extBut _ _ c1 e)))
 ·rw[<- hsz];exact J0 _ rfl
 ·rw[B2,hsz]
theorem XW{z TI TO T i1 i2 l1 l2:Addr}{fl:Bool}{k:Nat}{k1:Kd}{k2:Kd}{xs1 xs2:Array Value}{ot:Obj}{Q:Fin->Shared->Prop}(hh:A.handled=none)(D:ZAp2 z TI TO i1 i2 l1 l2)
  (hz:LJ s.heap z TI TO T fl) (hTI:yQ s.heap TI (.ref i1) (.ref i2)) (hT:s.heap.get? T=some ot)
  (h1:ItAt k1 s.heap i1 l1 k) (h2:ItAt k2 s.heap i2 l2 k) (hl1:SqAt k1 s.heap l1 xs1) (hl2:SqAt k2 s.heap l2 xs2) (hend:xs1[k]?=none\/xs2[k]?=none)
  (hE:∀h' e,(∀c o,c≠z->c≠i1->c≠i2->s.heap.get? c=some o->h'.get? c=some o)->(∃o,h'.get? e=some o/\o.cls=.type "StopIteration")->E (.ref e) { s with heap:=h' }) :
  wpAny (model prog w) A (Builtin.«zip.__next__» ⟨[.ref z],[]⟩) Q E s:=by
 show wpAny _ _ (field (.ref z) 2 >>= _) _ _ _
 refine wpAny_bind (wpAny_field hz rfl (x:=.bool false) rfl ?_)
 show wpAny _ _ (field (.ref z) 3 >>= _) _ _ _
 refine wpAny_bind (wpAny_field hz rfl (x:=.ref TI) rfl ?_)
 refine wpAny_bind (wpAny_seqItems hTI rfl ?_)
 show wpAny _ _ (Z0 (.ref z) >>= _) _ _ _
 refine wpAny_bind (Uq hz hT λh₁ hz₁ hs₁=>?_)
 simp only[B4,if_false]
 rw[t9]
 simp only[M5,Y5]
 refine wpAny_bind (wpAny_bind (wpAny_bind (wpAny_holding ?_)))
 show wpAny _ _ (U0 (.ref i1) >>= _) _ _ _
 cases hx1:xs1[k]? with
 | none =>
  exact wpAny_bind (iX hh (h1.at λo e=>hs₁.extBut _ o D.i1z e) (hl1.at λo e=>hs₁.extBut _ o D.l1z e) hx1 λhq e hsq he=>hE hq e (λc o c1 d1 d2 x=>hsq _ _ d1 (hs₁.extBut _ _ c1 x)) he)
 | some x1 =>
  have hx2:xs2[k]?=none:=by
   rcases hend with h|h
   ·rw[hx1]at h;cases h
   ·exact h
  refine wpAny_bind (KQ (h1.at λo e=>hs₁.extBut _ o D.i1z e) (hl1.at λo e=>hs₁.extBut _ o D.l1z e) hx1 λha1 hi1 hsa1=>wpAny_pure (wpAny_pure ?_))
  refine wpAny_bind (wpAny_bind (wpAny_holding ?_))
  show wpAny _ _ (U0 (.ref i2) >>= _) _ _ _
  exact wpAny_bind (iX hh ((h2.at λo e=>hs₁.extBut _ o D.i2z e).at λo e=>hsa1.extBut _ o D.i2i1 e) ((hl2.at λo e=>hs₁.extBut _ o D.l2z e).at λo e=>hsa1.extBut _ o D.l2i1 e) hx2 λhq e hsq he=>hE hq e (λc o c1 d1 d2 x=>hsq _ _ d2 (hsa1.extBut _ _ d1 (hs₁.extBut _ _ c1 x))) he)
end
section
variable {prog:Program}{w:World}{A:Around}{E:Value->Shared->Prop}{s:Shared}
noncomputable def ZSt(h:Heap)(z TI TO S i1 i2 l1 l2:Addr)(k1 k2:Kd)(i:Nat):Prop :=
 yQ h TI (.ref i1) (.ref i2)/\ItAt k1 h i1 l1 i/\ItAt k2 h i2 l2 i /\
  ((IsZip h z TI TO .none/\∃a1 a2,yQ h TO a1 a2)\/∃T fl ot,LJ h z TI TO T fl/\h.get? T=some ot/\T≠z/\T≠i1/\T≠i2/\T≠S)
theorem FD{z TI TO S i1 i2 l1 l2:Addr}{k:Nat}{k1 k2:Kd}{xs1 xs2:Array Value}{x1 x2:Value}{Q:Option Value->Shared->Prop}(D:ZAp2 z TI TO i1 i2 l1 l2)(hS:S < s.heap.objs.size)
  (st:ZSt s.heap z TI TO S i1 i2 l1 l2 k1 k2 k) (hl1:SqAt k1 s.heap l1 xs1) (hl2:SqAt k2 s.heap l2 xs2) (hx1:xs1[k]?=some x1) (hx2:xs2[k]?=some x2)
  (hQ:∀h',ZSt h' z TI TO S i1 i2 l1 l2 k1 k2 (k+1)->yQ h' s.heap.objs.size x1 x2->h'.objs.size=s.heap.objs.size+1 ->
    (∀c o,c≠z->c≠TO->c≠i1->c≠i2->s.heap.get? c=some o->h'.get? c=some o)->Q (some (.ref s.heap.objs.size)) { s with heap:=h' }) :
  wpAny (model prog w) A (pyNext (.ref z)) Q E s:=by
 obtain⟨hTI,h1,h2,hz⟩:=st
 have gz:∀{b:Addr}{o:Obj},s.heap.get? b=some o->s.heap.objs.size≠b:=λe=>O1 (D0 e)
 obtain⟨o1,g1,_⟩:=h1.obj
 obtain⟨o2,g2,_⟩:=h2.obj
 rcases hz with⟨hz,a1,a2,hTO⟩|⟨T,fl,ot,hz,hT,t1,t2,t3,t4⟩
 ·refine bJ D hz hTI hTO h1 h2 hl1 hl2 hx1 hx2 λh' b1 b2 c1 c2 b5 b6 b7=>hQ h' ⟨b7 TI _ D.TIz (S1 D.TOTI) (S1 D.i1TI) (S1 D.i2TI) hTI,c1,c2,.inr ⟨s.heap.objs.size,false,_,b1,b5,gz hz,gz g1,gz g2,O1 hS⟩⟩ b5 b6 b7
 ·have hTy:s.TypeIs (.ref z) "zip":=⟨_,hz,rfl⟩
  unfold pyNext
  exact wpAny_bind (wpAny_attempt (wpAny_callSpecial?_slot (name:=Str.ofString "__next__") hTy F.slot_zip_next
    (wpAny_call_entry F.slot_zip_next hTy F.entry_zip_next (wpAny_mono (ED (Q:=λv s'=>Q (some v) s') D hz hTI hT h1 h2 hl1 hl2 hx1 hx2 λh' b1 c1 c2 b5 b6 b7=>hQ h' ⟨b7 TI _ D.TIz (S1 D.i1TI) (S1 D.i2TI) hTI,c1,c2,.inr ⟨T,true,ot,b1,b7 T _ t1 t2 t3 hT,t1,t2,t3,t4⟩⟩ b5 b6 λc o d1 _ d3 d4 e=>b7 c o d1 d3 d4 e) (λfin s' z=>by obtain⟨v,rfl,z⟩:=z;exact ⟨_,rfl,wpAny_pure z⟩) λ_ _ z=>z) (F.args_zip_next_1 _))))
theorem YW{z TI TO S i1 i2 l1 l2:Addr}{k:Nat}{k1 k2:Kd}{xs1 xs2:Array Value}{Q:Option Value->Shared->Prop}(hh:A.handled=none)(D:ZAp2 z TI TO i1 i2 l1 l2)
  (st:ZSt s.heap z TI TO S i1 i2 l1 l2 k1 k2 k) (hl1:SqAt k1 s.heap l1 xs1) (hl2:SqAt k2 s.heap l2 xs2) (hend:xs1[k]?=none\/xs2[k]?=none)
  (hQ:∀h',(∀c o,c≠z->c≠TO->c≠i1->c≠i2->s.heap.get? c=some o->h'.get? c=some o)->Q none { s with heap:=h' }):wpAny (model prog w) A (pyNext (.ref z)) Q E s:=by
 obtain⟨hTI,h1,h2,hz⟩:=st
 rcases hz with⟨hz,a1,a2,hTO⟩|⟨T,fl,ot,hz,hT,t1,t2,t3,t4⟩
 ·exact BJ hh D hz hTI hTO h1 h2 hl1 hl2 hend hQ
 ·have hTy:s.TypeIs (.ref z) "zip":=⟨_,hz,rfl⟩
  unfold pyNext
  refine wpAny_bind (wpAny_attempt (wpAny_callSpecial?_slot (name:=Str.ofString "__next__") hTy F.slot_zip_next
    (wpAny_call_entry F.slot_zip_next hTy F.entry_zip_next (XW hh D hz hTI hT h1 h2 hl1 hl2 hend λh' e hk he=>?_) (F.args_zip_next_1 _))))
  obtain⟨o,ho,hc⟩:=he
  refine wpAny_bind (wpAny_isInstance (T:="StopIteration") (b:=true) ⟨o,ho,hc⟩ isSubtype_stop ?_)
  exact wpAny_pure (hQ _ λc o d1 _ d3 d4 e=>hk c o d1 d3 d4 e)
theorem ZSt.keep{h h':Heap}{z TI TO S i1 i2 l1 l2:Addr}{k1 k2:Kd}{i:Nat}(x:ZSt h z TI TO S i1 i2 l1 l2 k1 k2 i)(hk:∀b o,b≠S->h.get? b=some o->h'.get? b=some o)(n1:z≠S)(n2:TI≠S)(n3:TO≠S)(n4:i1≠S)(n5:i2≠S) :
  ZSt h' z TI TO S i1 i2 l1 l2 k1 k2 i:=by
 obtain⟨hTI,h1,h2,hz⟩:=x
 refine ⟨hk _ _ n2 hTI,h1.at λo e=>hk _ _ n4 e,h2.at λo e=>hk _ _ n5 e,?_⟩
 rcases hz with⟨hz,a1,a2,hTO⟩|⟨T,fl,ot,hz,hT,t1,t2,t3,t4⟩
 ·exact .inl ⟨hk _ _ n1 hz,a1,a2,hk _ _ n3 hTO⟩
 ·exact .inr ⟨T,fl,ot,hk _ _ n1 hz,hk _ _ t4 hT,t1,t2,t3,t4⟩
end
structure ZG(xs1 xs2:Array Value)(lo:Addr)(h:Heap)(as:List Addr):Prop where
 rise:as.Pairwise (· < ·)
 above:∀a∈as,lo < a
 pairs:∀(j:Nat) (a:Addr),as[j]?=some a->∃x y,xs1[j]?=some x/\xs2[j]?=some y/\yQ h a x y
theorem ZG.there{xs1 xs2:Array Value}{lo:Addr}{h:Heap}{as:List Addr}(g:ZG xs1 xs2 lo h as){a:Addr}(ha:a∈as):a < h.objs.size:=by
 obtain⟨j,hj⟩:=Z6.mp ha
 obtain⟨_,_,_,_,e⟩:=g.pairs j a hj
 exact D0 e
section
variable {prog:Program}{w:World}{A:Around}{s:Shared}{R:Result->Shared->Prop}
theorem jw{z TI TO S i1 i2 l1 l2:Addr}{k1 k2:Kd}{xs1 xs2:Array Value}{n:Nat}(hh:A.handled=none)(D:ZAp2 z TI TO i1 i2 l1 l2)(n1:z < S)(n2:TI < S)(n3:TO < S)(n4:i1 < S)(n5:i2 < S)(n6:l1≠S)(n7:l2≠S)
  (hn1:n<=xs1.size) (hn2:n<=xs2.size) (hend:xs1[n]?=none\/xs2[n]?=none) (hn:n<=sizeLine) (res:Value) {h₁:Heap}
  (hR:∀h' tk acc c as,(∀b o,b≠S->b≠z->b≠TO->b≠i1->b≠i2->h₁.get? b=some o->h'.get? b=some o)->h'.get? S=some { cls:=.type "list",dict:=none,data:=.seq acc c,slots:=#[] }->as.length=n->ZG xs1 xs2 S h' as ->
    acc.toList=as.map T2->R (.ok (.ret res)) { s with heap:=h',toks:=tk }) :
  ∀(k i:Nat) (h:Heap) (tk c:Nat) (acc:Array Value) (as:List Addr),n - i=k->i<=n->ZSt h z TI TO S i1 i2 l1 l2 k1 k2 i->SqAt k1 h l1 xs1->SqAt k2 h l2 xs2->(∀b o,b≠S->b≠z->b≠TO->b≠i1->b≠i2->h₁.get? b=some o->h.get? b=some o) ->
   h.get? S=some { cls:=.type "list",dict:=none,data:=.seq acc c,slots:=#[] }->acc.toList=as.map T2->as.length=i->ZG xs1 xs2 S h as ->
   codeAny (model prog w) A (.builtin "list.extend.loop" ⟨[.ref S,.ref z,res],[]⟩) R { s with heap:=h,toks:=tk }:=by
 have m1:z≠S:=W0 n1
 have m2:TI≠S:=W0 n2
 have m3:TO≠S:=W0 n3
 have m4:i1≠S:=W0 n4
 have m5:i2≠S:=W0 n5
 have far:∀{a:Addr},S < a->a≠S/\a≠z/\a≠TO/\a≠i1/\a≠i2:=λh=>⟨O1 h,O1 (L7 n1 h),O1 (L7 n3 h),O1 (L7 n4 h),O1 (L7 n5 h)⟩
 intro k
 induction k with
 | zero =>
  intro i h tk c acc as hk hi hst q1 q2 hkeep hS hacc hal hG
  have hin:i=n:=by omega
  subst hin
  refine codeAny_builtin PySem.F.entry_extend_loop ?_
  rw[Around.under_plainId PySem.F.plain_extend_loop _]
  show wpAny _ A.in1 (pyNext (.ref z) >>= _) _ _ _
  refine wpAny_bind (YW (s:={ s with heap:=h,toks:=tk }) (A:=A.in1) hh D hst q1 q2 hend λh' he=>?_)
  refine wpAny_pure (hR h' tk acc c as (λb o c1 c2 c3 c4 c5 e=>he b o c2 c3 c4 c5 (hkeep b o c1 c2 c3 c4 c5 e)) (he S _ (S1 m1) (S1 m3) (S1 m4) (S1 m5) hS) hal ⟨hG.rise,hG.above,λj a hj=>?_⟩ hacc)
  obtain⟨x,y,e1,e2,e3⟩:=hG.pairs j a hj
  obtain⟨_,f2,f3,f4,f5⟩:=far (hG.above a (v3 hj))
  exact ⟨x,y,e1,e2,he a _ f2 f3 f4 f5 e3⟩
 | succ k ih =>
  intro i h tk c acc as hk hi hst q1 q2 hkeep hS hacc hal hG
  have hlt:i < n:=by omega
  obtain⟨x,hx⟩:∃p,xs1[i]?=some p:=⟨xs1[i],L5 (by omega)⟩
  obtain⟨y,hy⟩:∃p,xs2[i]?=some p:=⟨xs2[i],L5 (by omega)⟩
  have hsz:acc.size=i:=by rw[<- V0,hacc,n0,hal]
  have hSl:S < h.objs.size:=D0 hS
  refine codeAny_builtin PySem.F.entry_extend_loop ?_
  rw[Around.under_plainId PySem.F.plain_extend_loop _]
  show wpAny _ A.in1 (pyNext (.ref z) >>= _) _ _ _
  refine wpAny_bind (FD (s:={ s with heap:=h,toks:=tk }) (S:=S) D hSl hst q1 q2 hx hy λh' hst' ht hz hkp=>?_)
  dsimp only at ht hz hkp ⊢
  have hS':=hkp S _ (S1 m1) (S1 m3) (S1 m4) (S1 m5) hS
  have up:∀b o,b≠S->h'.get? b=some o->(h'.update S (U2 (·.push (T2 h.objs.size)))).get? b=some o:=λb o hb e=>(V3 _ _ (S1 hb)).trans e
  show wpAny _ A.in1 (updateSeq S (·.push (T2 h.objs.size)) >>= _) _ _ _
  refine wpAny_bind ?_
  refine wpAny_updateSeq hS' rfl (wpAny_pure ⟨plainId_quiet PySem.F.plain_extend_loop _,ih (i+1) _ tk _ (acc.push (T2 h.objs.size)) (as++[h.objs.size]) (by omega) hlt (hst'.keep up m1 m2 m3 m4 m5)
    (q1.at λo e=>up _ o n6 (hkp _ o D.l1z D.l1TO D.l1i1 D.l1i2 e)) (q2.at λo e=>up _ o n7 (hkp _ o D.l2z D.l2TO D.l2i1 D.l2i2 e))
    (λb o c1 c2 c3 c4 c5 e=>up b o c1 (hkp b o c2 c3 c4 c5 (hkeep b o c1 c2 c3 c4 c5 e))) (Y2 _ hS' rfl) (by rw[S6,hacc,S2];rfl) (by rw[K0,hal];rfl) ⟨?_,?_,?_⟩⟩) (by rw[hsz];omega) (by show (acc.push (T2 h.objs.size)).size<=sizeLine+1;rw[Array.size_push,hsz];omega)
  ·refine T5.mpr ⟨hG.rise,m6 _ _,λa ha b hb=>?_⟩
   rw[P2.mp hb]
   exact hG.there ha
  ·intro a ha
   rcases Q2.mp ha with ha|ha
   ·exact hG.above a ha
   ·rw[P2.mp ha];exact hSl
  ·intro j b hj
   rcases Nat.lt_trichotomy j as.length with g|g|g
   ·rw[E2 g]at hj
    obtain⟨x',y',e1,e2,e3⟩:=hG.pairs j b hj
    obtain⟨f1,f2,f3,f4,f5⟩:=far (hG.above b (v3 hj))
    exact ⟨x',y',e1,e2,up b _ f1 (hkp b _ f2 f3 f4 f5 e3)⟩
   ·subst g
    have hb:h.objs.size=b:=by simpa using hj
    subst hb
    exact ⟨x,y,by rw[hal];exact hx,by rw[hal];exact hy,up _ _ (O1 hSl) ht⟩
   ·have hnone:(as++[h.objs.size])[j]?=none:=Q8 (by rw[K0,Q1];omega)
    rw[hnone]at hj;cases hj
end
theorem GD:typeLookup (.type "zip") "__len__"=pure none:=by rw[typeLookup_type,builtinLookup_eq_fast];kernel_rfl
theorem iF:typeLookup (.type "zip") "__length_hint__"=pure none:=by rw[typeLookup_type,builtinLookup_eq_fast];kernel_rfl
section
variable {prog:Program}{w:World}{A:Around}{s:Shared}{R:Result->Shared->Prop}
theorem HD{z TI TO S i1 i2 l1 l2:Addr}{k1 k2:Kd}{xs1 xs2:Array Value}{n:Nat}(hh:A.handled=none)(D:ZAp2 z TI TO i1 i2 l1 l2)(n1:z < S)(n2:TI < S)(n3:TO < S)(n4:i1 < S)(n5:i2 < S)(n6:l1≠S)(n7:l2≠S)
  (hn1:n<=xs1.size) (hn2:n<=xs2.size) (hend:xs1[n]?=none\/xs2[n]?=none) (hn:n<=sizeLine) (res:Value) (c₀:Nat) {a1 a2:Value}
  (hz:IsZip s.heap z TI TO .none) (hTI:yQ s.heap TI (.ref i1) (.ref i2)) (hTO:yQ s.heap TO a1 a2) (h1:ItAt k1 s.heap i1 l1 0) (h2:ItAt k2 s.heap i2 l2 0) (hl1:SqAt k1 s.heap l1 xs1) (hl2:SqAt k2 s.heap l2 xs2)
  (hS:s.heap.get? S=some { cls:=.type "list",data:=.seq #[] c₀ })
  (hR:∀h' tk acc c as,(∀b o,b≠S->b≠z->b≠TO->b≠i1->b≠i2->s.heap.get? b=some o->h'.get? b=some o)->h'.get? S=some { cls:=.type "list",dict:=none,data:=.seq acc c,slots:=#[] }->as.length=n->ZG xs1 xs2 S h' as ->
    acc.toList=as.map T2->R (.ok (.ret res)) { s with heap:=h',toks:=tk }) :
  wpAny (model prog w) A.in1 (v5 (.ref S) (.ref z) res)
   (λfin s'=>match fin with | .done f=>R (.ok f) s' | .again c'=>c'.quiet=true/\codeAny (model prog w) A c' R s') (λe s'=>R (.error e) s') s:=by
 have m1:z≠S:=W0 n1
 have hTy:s.TypeIs (.ref z) "zip":=⟨_,hz,rfl⟩
 unfold v5
 refine wpAny_bind (wpAny_typeOf hTy ?_)
 have e1:i8 (.ref S) (.ref z)=false:=by simp[i8,S1 m1]
 have e2:(w6 "zip"==w6 "list")=false:=by decide
 have e3:(w6 "zip"==w6 "tuple")=false:=by decide
 simp only[e1,e2,e3,Bool.or_false,B4,if_false]
 refine wpAny_bind (wpAny_pyIter_zip hz ?_)
 refine wpAny_bind (wpAny_holding ?_)
 unfold Builtin.List.listLengthHint
 refine wpAny_bind (wpAny_specialOf hTy GD ?_)
 show wpAny _ A.in1 (specialOf (T2 z) (Str.ofString "__length_hint__") >>= _) _ _ _
 refine wpAny_bind (wpAny_specialOf hTy iF ?_)
 refine wpAny_pure ?_
 show wpAny _ A.in1 (rule "list.extend.makes-room" >>= λ_=>Builtin.List.listTouch (.ref S) >>= λ_ =>
   again (.builtin "list.extend.loop" ⟨[.ref S,.ref z,res],[]⟩)) _ _ _
 refine wpAny_bind (wpAny_rule ?_)
 refine wpAny_bind ?_
 show wpAny _ A.in1 (updateSeq S (·.push .none) >>= λ_=>updateSeq S (·.pop)) _ _ _
 refine wpAny_bind (wpAny_updateSeq hS rfl ?_)
 have hS₂:=Y2 (U2 (·.push o6)) hS rfl
 refine wpAny_updateSeq (hz:=by seq_fits) hS₂ rfl ?_
 have hS₃:=Y2 (U2 (·.pop)) hS₂ rfl
 have oth:∀b o,b≠S->s.heap.get? b=some o->((s.heap.update S (U2 (·.push o6))).update S (U2 (·.pop))).get? b=some o :=
  λb o hb e=>(V3 _ _ (S1 hb)).trans ((V3 _ _ (S1 hb)).trans e)
 refine wpAny_pure ⟨plainId_quiet F.plain_extend_loop _,jw (s:=s) (h₁:=s.heap) hh D n1 n2 n3 n4 n5 n6 n7 hn1 hn2 hend hn res hR n 0 _ s.toks _ #[] [] rfl (i4 _)
   ⟨oth _ _ (W0 n2) hTI,h1.at λo e=>oth _ _ (W0 n4) e,h2.at λo e=>oth _ _ (W0 n5) e,.inl ⟨oth _ _ m1 hz,a1,a2,oth _ _ (W0 n3) hTO⟩⟩
   (hl1.at λo e=>oth _ _ n6 e) (hl2.at λo e=>oth _ _ n7 e) (λb o c1 _ _ _ _ e=>oth b o c1 e) hS₃ rfl rfl ⟨List.Pairwise.nil,(λ_ ha=>nomatch ha),(λj a hj=>by simp at hj)⟩⟩
end
section
variable {prog:Program}{w:World}{A:Around}{E:Value->Shared->Prop}{s:Shared}
theorem kW{z TI TO i1 i2 l1 l2:Addr}{k1 k2:Kd}{xs1 xs2:Array Value}{n:Nat}{Q:Value->Shared->Prop}(hh:A.handled=none)(D:ZAp2 z TI TO i1 i2 l1 l2)
  (hn1:n<=xs1.size) (hn2:n<=xs2.size) (hend:xs1[n]?=none\/xs2[n]?=none) (hn:n<=sizeLine) {a1 a2:Value}
  (hz:IsZip s.heap z TI TO .none) (hTI:yQ s.heap TI (.ref i1) (.ref i2)) (hTO:yQ s.heap TO a1 a2) (h1:ItAt k1 s.heap i1 l1 0) (h2:ItAt k2 s.heap i2 l2 0) (hl1:SqAt k1 s.heap l1 xs1) (hl2:SqAt k2 s.heap l2 xs2)
  (b1:l1 < s.heap.objs.size) (b2:l2 < s.heap.objs.size)
  (hQ:∀h' tk acc c as,(∀b o,b≠z->b≠TO->b≠i1->b≠i2->s.heap.get? b=some o->h'.get? b=some o)->h'.get? s.heap.objs.size=some { cls:=.type "list",dict:=none,data:=.seq acc c,slots:=#[] }->as.length=n->ZG xs1 xs2 s.heap.objs.size h' as ->
    acc.toList=as.map T2->Q (.ref s.heap.objs.size) { s with heap:=h',toks:=tk }) :
  wpAny (model prog w) A (call (.type "list") [.ref z]) Q E s:=by
 refine callType_codes (Q₁:=λobj s₁=>obj=.ref s.heap.objs.size/\s₁={ s with heap:=s.heap.push { cls:=.type "list",data:=.seq #[] } }) PySem.F.called_list (PySem.F.typeCall_list_1 _) PySem.F.entry_list_init
  (code_list_new _ ⟨rfl,rfl⟩) λobj s₁ h₁=>?_
 obtain⟨rfl,rfl⟩:=h₁
 have hS:(s.heap.push { cls:=.type "list",data:=.seq #[] }).get? s.heap.objs.size=some { cls:=.type "list",data:=.seq #[] }:=J0 _ rfl
 refine ⟨⟨_,hS,rfl⟩,PySem.F.args_list_init_2 _ _,?_⟩
 show wpAny _ _ (do let old<-E8 (.ref s.heap.objs.size);Builtin.List.listUpdate (.ref s.heap.objs.size) (λ_=>#[]);letGo old.toList.reverse;v5 (.ref s.heap.objs.size) (.ref z) .none) _ _ _
 refine wpAny_bind ?_
 unfold E8
 refine wpAny_bind (wpAny_seqItems hS rfl (wpAny_pure ?_))
 show wpAny _ _ (updateSeq s.heap.objs.size (λ_=>#[]) >>= λ_=>letGo (#[]:Array Value).toList.reverse >>= λ_=>v5 (.ref s.heap.objs.size) (.ref z) .none) _ _ _
 refine wpAny_bind (wpAny_updateSeq hS rfl ?_)
 have hS₂:=Y2 (U2 (λ_=>(#[]:Array Value))) hS rfl
 have oth:∀b o,s.heap.get? b=some o->((s.heap.push { cls:=.type "list",data:=.seq #[] }).update s.heap.objs.size (U2 (λ_=>(#[]:Array Value)))).get? b=some o :=
  λb o e=>(V3 _ _ (O1 (D0 e))).trans (g0 _ e)
 refine wpAny_bind (wpAny_letGo ?_)
 obtain⟨o1,g1,_⟩:=h1.obj
 obtain⟨o2,g2,_⟩:=h2.obj
 refine HD (A:=A.in1) hh D (D0 hz) (D0 hTI) (D0 hTO) (D0 g1) (D0 g2) (W0 b1) (W0 b2) hn1 hn2 hend hn .none _ (oth _ _ hz) (oth _ _ hTI) (oth _ _ hTO) (h1.at λo e=>oth _ _ e) (h2.at λo e=>oth _ _ e) (hl1.at λo e=>oth _ _ e) (hl2.at λo e=>oth _ _ e) hS₂ λh' tk acc c as hk hS' hl hG hacc=>?_
 exact ⟨rfl,hQ h' tk acc c as (λb o c2 c3 c4 c5 e=>hk b o (W0 (D0 e)) c2 c3 c4 c5 (oth b o e)) hS' hl hG hacc⟩
end
noncomputable def gY:Hp->List (Addr×List V)->Hp
 | H,[]=>H
 | H,(a,xs) :: r=>gY (OQ H a (.tup xs)) r
theorem jF:∀{ps:List (Addr×List V)}{H:Hp}{b:Addr}{o:HO},(ps.map (·.1)).Nodup->(∀p∈ps,H p.1=none)->H b=some o->gY H ps b=some o
 | [],_,_,_,_,_,e=>e
 | (a,xs) :: r,H,b,o,nd,hn,e=>by
  have nd:=i5.mp nd
  show gY (OQ H a (.tup xs)) r b=some o
  refine jF nd.2 (λp hp=>?_) ?_
  ·rw[dQ (λq=>nd.1 (M0.mpr ⟨p,hp,q⟩))]
   exact hn p (u0 _ hp)
  ·rw[dQ (gQ e (hn _ (.head _)))];exact e
theorem mK:∀{ps:List (Addr×List V)}{H:Hp}{b:Addr}{o:HO},gY H ps b=some o->H b=some o\/∃xs,(b,xs)∈ps/\o=.tup xs
 | [],_,_,_,e=>.inl e
 | (a,xs) :: r,H,b,o,e=>by
  rcases mK (ps:=r) e with e|⟨ys,m,q⟩
  ·by_cases hb:b=a
   ·subst hb
    rw[jQ]at e
    cases e
    exact .inr ⟨xs,.head _,rfl⟩
   ·rw[dQ hb]at e
    exact .inl e
  ·exact .inr ⟨ys,u0 _ m,q⟩
section
variable {X:Cx}{pins:List (Addr×Obj)}{σ:St}{H H':Hp}{s:Shared}{h':Heap}
theorem Inv.lays{t':Nat}(I:Inv X pins σ H s)(k:∀b u,s.heap.get? b=some u->h'.get? b=some u)(sub:∀b o,H b=some o->H' b=some o)
  (new:∀b o,H' b=some o->H b=some o\/(s.heap.objs.size<=b/\ObjOk X.prog X.w H' h' b o)):Inv X pins σ H' { s with heap:=h',toks:=t' }:=by
 refine I.un ⟨λb u q _ _ _=>k b u q,λb u q _ _ _=>⟨u.slots,k b u q⟩,λb u q n _=>?_,λb u q _=>⟨u,k b u q⟩,λb xs q=>sub _ _ q,λb u xs q=>sub _ _ q,λb ps q=>⟨#[],by rw[sub _ _ q];simp⟩⟩ λb o e=>?_
 ·cases e:H' b with
  | none=>rfl
  | some o =>
   rcases new b o e with z|⟨z,_⟩
   ·rw[n]at z;cases z
   ·exact absurd (N0 (D0 q) z) (B3 _)
 ·rcases new b o e with z|⟨_,z⟩
  ·exact (I.hok b o z).stay (λc v _ q=>k c v q) (λc q=>sub _ _ q) λc xs q=>sub _ _ q
  ·exact z
end
noncomputable def eX:List V->List V->List (List V)
 | x :: xs,y :: ys=>[x,y] :: eX xs ys
 | _,_=>[]
theorem BV:∀(xs ys:List V),(eX xs ys).length=min xs.length ys.length
 | [],_=>by simp[eX]
 | _ :: _,[]=>by simp[eX]
 | _ :: xs,_ :: ys=>by simp only[eX,P1,BV xs ys];omega
theorem CV:∀{xs ys:List V}{j:Nat}{x y:V},xs[j]?=some x->ys[j]?=some y->(eX xs ys)[j]?=some [x,y]
 | _ :: _,_ :: _,0,_,_,e,q=>by cases e;cases q;rfl
 | _ :: xs,_ :: ys,j+1,_,_,e,q=>CV (xs:=xs) (ys:=ys) (j:=j) e q
 | [],_,_,_,_,e,_=>by simp at e
 | _ :: _,[],_,_,_,_,q=>by simp at q
noncomputable def dR(K:A0)(ta:TA):TE:=λσ H Q=>ta σ H λvs H1=>∃(k1:Kd) (l1:Addr) (ys1:List V) (k2:Kd) (l2:Addr) (ys2:List V),vs=[.ref l1,.ref l2]/\Sq k1 K H1 l1 ys1/\Sq k2 K H1 l2 ys2 /\
 ∀(ps:List (Addr×List V)) (S:Addr),(ps.map (·.1)).Nodup->(∀p∈ps,H1 p.1=none)->H1 S=none->S∉ps.map (·.1)->ps.map (·.2)=eX ys1 ys2->Q (.ref S) (OQ (gY H1 ps) S (.lst (ps.map λp=>V.ref p.1)))
theorem PM{X:Cx}{a b:Expr}{ta:TA}{p pos p0 pos0:Pos}(hcm:X.calm=true)(hg0:Gl X "list")(hm0:X.mg "list"=none)(hg:Gl X "zip")(hm:X.mg "zip"=none)(ha:PA X [a,b] ta)
  (hs:starEach [a,b] X.env=(false,eval a X.env) :: starEach [b] X.env:=by rfl) (hpl:(backTo pos (starEach [b] X.env)).any (·.1)=false:=by rfl)
  (hs0:starEach [.Call (.Name "zip" p) [a,b] [] pos] X.env=(false,eval (.Call (.Name "zip" p) [a,b] [] pos) X.env) :: starEach [] X.env:=by rfl) (hpl0:(backTo pos0 (starEach [] X.env)).any (·.1)=false:=by rfl) :
  PE X (.Call (.Name "list" p0) [.Call (.Name "zip" p) [a,b] [] pos] [] pos0) (dR X.K ta):=by
 intro pins s σ H Q I h
 refine wpAny_Call_Name_kw (fZ I hg0 hm0 boot_list ?_ (by decide) (by decide))
 refine O2 ?_ hs0 hpl0
 rw[hs0]
 show wpAny _ _ (spliced ((false,eval (.Call (.Name "zip" p) [a,b] [] pos) X.env) :: backTo pos0 (starEach [] X.env))) _ _ s
 refine Calls.spliced_cons ?_
 refine Call_ (fZ I hg hm boot_zip (O2 (fX (ha pos pins s σ H _ I h) λus s1 ⟨vs,H1,I1,r1,q1⟩=>?_) hs hpl))
 obtain⟨k1,l1,ys1,k2,l2,ys2,e,q1,q2,q⟩:=q1
 subst e
 obtain rfl:us=[.ref l1,.ref l2]:=by
  cases r1 with|cons r rr=>cases r;cases rr with|cons r rr=>cases r;cases rr;rfl
 obtain⟨its1,rv1,p1,z1⟩:=I1.sq q1
 obtain⟨its2,rv2,p2,z2⟩:=I1.sq q2
 have lt:∀{k:Kd}{l:Addr}{xs:Array Value},SqAt k s1.heap l xs->l < s1.heap.objs.size:=λ{k l xs} p=>by
  cases k with
  | l=>obtain⟨o,e,_⟩:=p;exact D0 e
  | t=>obtain⟨o,e,_⟩:=p;exact D0 e
 refine callType_new F.called_zip (by decide) (F.typeCall_zip_2 _ _) (F.newCall_zip_2 _ _) (λobj=>F.args_object_init_3 obj _ _) F.entry_zip_new (AG k1 k2 l1 l2 its1.toArray its2.toArray) ⟨p1,p2,?_⟩
 have zI:(bj s1.heap k1 k2 l1 l2).objs.size=s1.heap.objs.size+2:=by simp[B2]
 have zT:(cj s1.heap k1 k2 l1 l2).objs.size=s1.heap.objs.size+3:=by simp[B2]
 have zO:(dj s1.heap k1 k2 l1 l2).objs.size=s1.heap.objs.size+4:=by simp[B2]
 have zZ:(SZ s1.heap k1 k2 l1 l2).objs.size=s1.heap.objs.size+5:=by simp[B2]
 have gZ:(SZ s1.heap k1 k2 l1 l2).get? (dj s1.heap k1 k2 l1 l2).objs.size=some _:=J0 _ rfl
 have gO:(SZ s1.heap k1 k2 l1 l2).get? (cj s1.heap k1 k2 l1 l2).objs.size=some _:=g0 _ (J0 _ rfl)
 have gT:(SZ s1.heap k1 k2 l1 l2).get? (bj s1.heap k1 k2 l1 l2).objs.size=some _:=g0 _ (g0 _ (J0 _ rfl))
 have g1:(SZ s1.heap k1 k2 l1 l2).get? s1.heap.objs.size=some (MQ k1 l1):=g0 _ (g0 _ (g0 _ (g0 _ (J0 _ (by cases k1<;>rfl)))))
 have g2:(SZ s1.heap k1 k2 l1 l2).get? (s1.heap.push (MQ k1 l1)).objs.size=some (MQ k2 l2):=g0 _ (g0 _ (g0 _ (J0 _ (by cases k2<;>rfl))))
 have zz2:(s1.heap.push (MQ k1 l1)).objs.size=s1.heap.objs.size+1:=by simp[B2]
 rw[zO,zT,zI]at gZ
 rw[zI,zz2]at gT
 rw[zT]at gO
 rw[zz2]at g2
 show _/\_
 rw[zO]
 have kp:∀b o,s1.heap.get? b=some o->(SZ s1.heap k1 k2 l1 l2).get? b=some o:=λb o e=>g0 _ (g0 _ (g0 _ (g0 _ (g0 _ (e)))))
 refine ⟨⟨_,gZ,rfl⟩,Calls.spliced_nil ?_⟩
 have len1:=rv1.length
 have len2:=rv2.length
 have D:=XL s1.heap.objs.size l1 l2 (lt p1) (lt p2)
 refine kW (s:={ s1 with heap:=SZ s1.heap k1 k2 l1 l2 }) (xs1:=its1.toArray) (xs2:=its2.toArray) (n:=min ys1.length ys2.length) (I1.ok.hd hcm) D (by simp only[Q0];omega) (by simp only[Q0];omega) ?_ (by omega) gZ gT gO (ItAt.new k1 g1) (ItAt.new k2 g2)
  (p1.at λo e=>kp _ _ e) (p2.at λo e=>kp _ _ e) (by show l1 < (SZ s1.heap k1 k2 l1 l2).objs.size;rw[zZ];exact N0 (lt p1) (E3 _ _)) (by show l2 < (SZ s1.heap k1 k2 l1 l2).objs.size;rw[zZ];exact N0 (lt p2) (E3 _ _)) ?_
 ·rcases Nat.le_total ys1.length ys2.length with g|g
  ·exact .inl (by rw[Nat.min_eq_left g];simp;omega)
  ·exact .inr (by rw[Nat.min_eq_right g];simp;omega)
 intro h' tk acc c as hk hS hl hG hacc
 dsimp only at hk hS hG ⊢
 rw[zZ]at hS hG ⊢
 have hk':∀b o,s1.heap.get? b=some o->h'.get? b=some o:=λb o e=>by
  have hb:=D0 e
  exact hk b o (W0 (N0 hb (E3 _ _))) (W0 (N0 hb (E3 _ _))) (W0 hb) (W0 (N0 hb (E3 _ _))) (kp b o e)
 have hps:as.length=(eX ys1 ys2).length:=by rw[BV];exact hl
 have ps1:(as.zip (eX ys1 ys2)).map (·.1)=as:=List.map_fst_zip (by omega)
 have ps2:(as.zip (eX ys1 ys2)).map (·.2)=eX ys1 ys2:=List.map_snd_zip (by omega)
 have nd:as.Nodup:=hG.rise.imp λh=>W0 h
 have ab:∀a∈as,s1.heap.objs.size<=a:=λa m=>o5 (J3 (E3 _ 5) (hG.above a m))
 have hn:∀p∈as.zip (eX ys1 ys2),H1 p.1=none:=λp m=>I1.hok.fresh (ab _ (j5 (a:=p.1) (b:=p.2) m).1)
 have nd':((as.zip (eX ys1 ys2)).map (·.1)).Nodup:=by rw[ps1];exact nd
 have hSn:H1 (s1.heap.objs.size+5)=none:=I1.hok.fresh (E3 _ _)
 have hSa:s1.heap.objs.size+5∉(as.zip (eX ys1 ys2)).map (·.1):=by rw[ps1];exact λm=>B3 _ (hG.above _ m)
 refine ⟨.ref (s1.heap.objs.size+5),_,?_,rfl,q (as.zip (eX ys1 ys2)) _ nd' hn hSn hSa ps2⟩
 have hLS:gY H1 (as.zip (eX ys1 ys2)) (s1.heap.objs.size+5)=none:=by
  cases e:gY H1 (as.zip (eX ys1 ys2)) (s1.heap.objs.size+5) with
  | none=>rfl
  | some o =>
   rcases mK e with z|⟨xs,m,_⟩
   ·rw[hSn]at z;cases z
   ·exact absurd (M0.mpr ⟨_,m,rfl⟩) hSa
 have sub:∀b o,H1 b=some o->OQ (gY H1 (as.zip (eX ys1 ys2))) (s1.heap.objs.size+5) (.lst ((as.zip (eX ys1 ys2)).map λp=>V.ref p.1)) b=some o:=λb o e=>by
  rw[dQ (gQ e hSn)]
  exact jF nd' hn e
 refine I1.lays (t':=tk) hk' sub λb o e=>?_
 by_cases hb:b=s1.heap.objs.size+5
 ·subst hb
  rw[jQ]at e
  cases e
  refine .inr ⟨E3 _ _,?_,acc.toList,c,?_,by simpa using hS⟩
  ·rw[n0,<- n0 (f:=(·.1)),ps1];omega
  ·have hV:((as.zip (eX ys1 ys2)).map λp=>V.ref p.1)=as.map V.ref:=by
    have e:((as.zip (eX ys1 ys2)).map λp=>V.ref p.1)=((as.zip (eX ys1 ys2)).map (·.1)).map V.ref:=by rw[R0];rfl
    rw[e,ps1]
   rw[hacc,hV]
   have:∀l:List Addr,Vals (l.map V.ref) (l.map T2):=λl=>by
    induction l with
    | nil=>exact .nil
    | cons a l ih=>exact .cons rfl ih
   exact this as
 ·rw[dQ hb]at e
  rcases mK e with z|⟨xs,m,rfl⟩
  ·exact .inl z
  ·obtain⟨j,hj⟩:=Z6.mp m
   obtain⟨ha',hp'⟩:=K5.mp hj
   obtain⟨x,y,e1,e2,e3⟩:=hG.pairs j b ha'
   obtain⟨x',f1,r1'⟩:=rv1.getV (by simpa using e1)
   obtain⟨y',f2,r2'⟩:=rv2.getV (by simpa using e2)
   have:=CV f1 f2
   rw[hp']at this
   cases this
   exact .inr ⟨ab _ (v3 ha'),by show 2<=sizeLine;decide,[x,y],.cons r1' (.cons r2' .nil),_,e3,rfl,_,rfl,rfl⟩
end L2
namespace L3
open PySem PySem.Spec L2
theorem wI{A:Around}{k:Nat}(hr:Room k A):A.units+2 < cLine:=J3 (d9 (by decide:2<=64) _) hr.units
noncomputable def QO:D->Option (List D)
 | .list ds=>some ds
 | .tuple ds=>some ds
 | _=>none
section
variable {K:Fg}{F H:Hp}
theorem At.seq{v:V}{d:D}{ds:List D}(s:Sub F H)(h:At K F H v d)(e:QO d=some ds):∃k a xs,v=.ref a/\Sq k K H a xs/\DaAll K F xs ds:=by
 cases d<;>first|cases e|skip
 ·obtain⟨a,xs,rfl,e1,d1⟩:=h.list s
  exact ⟨.l,a,xs,rfl,SqL.of e1,d1⟩
 ·obtain⟨a,xs,rfl,_,e1,d1⟩:=h.tuple s
  exact ⟨.t,a,xs,rfl,SqT.of e1,d1⟩
theorem kF{G:Gh}{σ:St}{ρ:Ev}:∀{ps:List (Addr×List V)}{ys1 ys2:List V}{ds es:List D}{F H:Hp},Rel K G F σ H ρ->(ps.map (·.1)).Nodup->(∀p∈ps,H p.1=none)->ps.map (·.2)=eX ys1 ys2->DaAll K F ys1 ds->DaAll K F ys2 es ->
  ∃F',Sub F F'/\Rel K G F' σ (gY H ps) ρ/\DaAll K F' (ps.map λp=>V.ref p.1) ((ds.zip es).map λp=>J2 [p.1,p.2])
 | [],ys1,ys2,ds,es,F,H,R,_,_,e,d1,d2=>by
  refine ⟨F,Sub.refl _,R,?_⟩
  have:(ds.zip es)=[]:=by
   cases d1 with
   | nil=>rfl
   | cons _ _=>cases d2 with
    | nil=>simp
    | cons _ _=>simp[eX]at e
  rw[this]
  exact .nil
 | (a,xs) :: r,ys1,ys2,ds,es,F,H,R,nd,hn,e,d1,d2=>by
  cases d1 with
  | nil=>simp[eX]at e
  | @cons x ys1 d ds h1 t1 =>
   cases d2 with
   | nil=>simp[eX]at e
   | @cons y ys2 d' es h2 t2 =>
    simp only[eX,E1,List.cons.injEq]at e
    obtain⟨e0,e⟩:=e
    have e0:xs=[x,y]:=e0
    subst e0
    have nd:=i5.mp nd
    obtain⟨sb,R1,da⟩:=R.newTup (a:=a) (xs:=[x,y]) (ds:=[d,d']) (hn _ (.head _)) (.cons h1 (.cons h2 .nil))
    obtain⟨F',sb',R',da'⟩:=kF (ps:=r) R1 nd.2 (λp hp=>by
      rw[dQ (λq=>nd.1 (M0.mpr ⟨p,hp,q⟩))]
      exact hn p (u0 _ hp)) e (t1.mono sb) (t2.mono sb)
    exact ⟨F',sb.trans sb',R',.cons (da.mono sb') da'⟩
end
noncomputable def eR(K:Fg):List V->Hp->VK->Prop:=λvs H1 Q=>∃(k1:Kd) (l1:Addr) (ys1:List V) (k2:Kd) (l2:Addr) (ys2:List V),vs=[.ref l1,.ref l2]/\Sq k1 K H1 l1 ys1/\Sq k2 K H1 l2 ys2 /\
 ∀(ps:List (Addr×List V)) (S:Addr),(ps.map (·.1)).Nodup->(∀p∈ps,H1 p.1=none)->H1 S=none->S∉ps.map (·.1)->ps.map (·.2)=eX ys1 ys2->Q (.ref S) (OQ (gY H1 ps) S (.lst (ps.map λp=>V.ref p.1)))
noncomputable def KP:D->D->(Sl->Prop)->Prop:=λd e Q=>∃ds es,QO d=some ds/\QO e=some es/\Q (.ow (.list ((ds.zip es).map λp=>J2 [p.1,p.2])))
theorem QM{K:Fg}:cX K (eR K) (o2 KP):=by
 intro G F σ H ρ vs ds Q Qd R ha w k
 rcases ds with _|⟨d,_|⟨e,_|⟨e3,ds⟩⟩⟩<;>first|exact w.elim|skip
 ·obtain⟨v1,v2,rfl,h1,h2⟩:=ha.two
  obtain⟨ds,es,e1,e2,w⟩:=w
  obtain⟨k1,l1,ys1,rfl,q1,d1⟩:=h1.seq R.sub e1
  obtain⟨k2,l2,ys2,rfl,q2,d2⟩:=h2.seq R.sub e2
  refine ⟨k1,l1,ys1,k2,l2,ys2,rfl,q1,q2,λps S nd hn hS hSp hp=>?_⟩
  obtain⟨F',sb,R',da⟩:=kF R nd hn hp d1 d2
  have hS':gY H ps S=none:=by
   cases e:gY H ps S with
   | none=>rfl
   | some o =>
    rcases mK e with z|⟨xs,m,_⟩
    ·rw[hS]at z;cases z
    ·exact absurd (M0.mpr ⟨_,m,rfl⟩) hSp
  obtain⟨R2,r2⟩:=R'.newOw (o:=.lst _) (d:=.list _) hS' da
  exact k _ _ F' _ sb R2 r2 w
section
variable {X:Cx}{K:Fg}{e e1 e2:Expr}{a b:AD}{p pos pos' p2:Pos}
theorem RO(hK:X.K=K)(hc:X.calm=true)(hm:X.mg "list"=none)(hm2:X.mg "zip"=none)(ha:WA X [e1,e2] (wQ ([a,b].map (nQ K))))(hg:Gl X "list":=by rfl)(hg2:Gl X "zip":=by rfl)(he:xQ e1=true:=by rfl)(he2:xQ e2=true:=by rfl) :
  WE X (.Call (.Name "list" p) [.Call (.Name "zip" p2) [e1,e2] [] pos'] [] pos) (lift K (QZ [a,b] (o2 KP))):=by
 subst hK
 exact ⟨KW (PM hc hg hm hg2 hm2 ha.h (kQ he) (gX (by simp[he2])) (kQ rfl) (gX rfl)) λq=>GG QM q⟩
end
mutual
theorem ID:∀d:D,NQ d=true->SeqAt.noMix d d=true
 | .none,_=>by simp[SeqAt.noMix]
 | .bool _,_=>by simp[SeqAt.noMix]
 | .int _,_=>by simp[SeqAt.noMix]
 | .str _,_=>by simp[SeqAt.noMix]
 | .list xs,h=>by simp[SeqAt.noMix];exact noMixAll_self xs (by simpa [NQ]using h)
 | .tuple xs,h=>by simp[SeqAt.noMix];exact noMixAll_self xs (by simpa [NQ]using h)
 | .dict _,h=>by simp[NQ]at h
theorem noMixAll_self:∀xs:List D,plainAll xs=true->SeqAt.noMixAll xs xs=true
 | [],_=>by simp[SeqAt.noMixAll]
 | x :: xs,h=>by
  simp[plainAll]at h
  simp[SeqAt.noMixAll]
  exact ⟨ID x h.1,noMixAll_self xs h.2⟩
end
structure Nice(n:Nat)(d:D):Prop where
 p:NQ d=true
 c:d.canLay0=true
 d:d.depth<=n
theorem Nice.int(n:Nat)(i:Int):Nice n (.int i):=⟨rfl,by simp[R8],by simp[y9]⟩
theorem lW{n:Nat}:∀{l:List D},(∀d∈l,Nice n d)->plainAll l=true/\W7 l=true/\L8 l<=n
 | [],_=>⟨rfl,by simp[W7],by simp[L8]⟩
 | x :: l,h=>by
  have h1:=h x B0
  have h2:=lW (l:=l) λd hd=>h d (u0 _ hd)
  refine ⟨by simp[plainAll,h1.p,h2.1],by simp[W7,h1.c,h2.2.1],?_⟩
  have:=h1.d
  have:=h2.2.2
  simp[L8]
  omega
theorem Nice.list{n:Nat}{l:List D}(h:∀d∈l,Nice n d):Nice (n+1) (.list l):=by
 obtain⟨a,b,c⟩:=lW h
 exact ⟨by simp[NQ,a],by simp[R8,b],by simp[y9];omega⟩
theorem Nice.tuple{n:Nat}{l:List D}(h:∀d∈l,Nice n d):Nice (n+1) (.tuple l):=by
 obtain⟨a,b,c⟩:=lW h
 exact ⟨by simp[NQ,a],by simp[R8,b],by simp[y9];omega⟩
theorem Nice.tup(l:List Int):Nice 1 (.tuple (l.map q0)):=.tuple λd hd=>by
 obtain⟨i,_,rfl⟩:=M0.mp hd
 exact .int 0 i
end L3
namespace L2
open PySem PySem.Spec PyProof.Rows
inductive PrsT (H:Hp):List (V×V)->List (List IQ×V)->Prop
 | nil:PrsT H [] []
 | cons {b ks v ps kvs}:H b=some (.tup (ks.map kV))->PrsT H ps kvs->PrsT H ((.ref b,v) :: ps) ((ks,v) :: kvs)
section
variable {X:Cx}{pins:List (Addr×Obj)}{σ:St}{a:Addr}{E:Value->Shared->Prop}
end
end L2
namespace L3
open PySem PySem.Spec PyProof.Rows L2
noncomputable def OB(K:Fg):R2:=λx y H Q=>∃j,y=.int j/\NL K x none (some j) H Q
noncomputable def PB:D->D->(Sl->Prop)->Prop
 | .tuple ds,.int j,Q=>(if j < 0 then 1<=ds.length else j < ds.length)/\Q (.fz (.tuple (ds.take (if j < 0 then (j+ds.length).toNat else j.toNat))))
 | _,_,_=>False
theorem Lu{K:Fg}:cX K (fW (OB K)) (o2 PB):=au λG F σ H ρ x y d e Q Qd R h1 h2 w k=>by
 match d,e,h1,h2,w with
 | .tuple ds,.int j,h1,h2,w =>
  cases h2.int
  obtain⟨a,us,rfl,f1,e1,d1⟩:=h1.tuple R.sub
  have hl:=d1.length
  have hs:HT.sIx us.length us.length (some j)=if j < 0 then (j+ds.length).toNat else j.toNat:=by
   show (if j < 0 then (j+(us.length:Int)).toNat else min j.toNat us.length)=_
   have:=w.1
   split at this<;>split<;>omega
  refine ⟨j,rfl,a,us,rfl,SqT.of e1,λz=>?_,λp hp=>?_⟩
  ·have z2:=z.2
   rw[hs]at z2
   have:=w.1
   split at this<;>split at z2<;>omega
  ·have e3:Tz us none (some j)=us.take (if j < 0 then (j+ds.length).toNat else j.toNat):=by
    unfold Tz
    rw[hs]
    rfl
   rw[e3]
   obtain⟨sb,R',dd⟩:=R.newTup hp (d1.take (if j < 0 then (j+ds.length).toNat else j.toNat))
   exact k _ _ _ (.fz _) sb R' dd w.2
section
variable {X:Cx}{K:Fg}{e e1 e2:Expr}{a b:AD}{ta tb:TD}{st:Stmt}{p pos p2 pos' px py pt:Pos}{x y:Str}
theorem xI(hK:X.K=K)(ha:WE X e1 (nQ K a))(hb:WE X e2 (nQ K b)):WE X (.Subscript e1 (.Slice none (some e2) none p2) pos) (lift K (QZ [a,b] (o2 PB))):=by
 subst hK
 exact ⟨KW (Dx PC ha.h vy (wy hb.h)) λq=>Ty (P:=λx y H=>OB X.K x y H _) (GG Lu q)⟩
end
theorem kX(s:String):(Str.ofString s).length=s.length:=by
 rw[Str.ofString_eq_toList]
 simp only[Str.length,Q0,n0]
 first|rfl|exact String.length_toList|exact String.length_toList _|simp
theorem Ej{i:Int}{k:Nat}(hk:0 < k)(h:i.natAbs < 10 ^ k):(q0 i).shown.length<=k+1:=by
 show (Str.ofString (toString i)).length<=k+1
 rw[kX]
 cases i with
 | ofNat n =>
  show (Nat.repr n).length<=k+1
  have:=(G8 (n:=n) hk).mpr h
  omega
 | negSucc m =>
  show ("-"++Nat.repr (m+1)).length<=k+1
  have h1:m+1 < 10 ^ k:=by simpa using h
  have:=(G8 (n:=m+1) hk).mpr h1
  rw[String.length_append]
  have e:("-":String).length=1:=by decide
  omega
theorem lF(sep:Str)(b:Nat):∀ts:List Str,(∀t∈ts,t.length<=b)->(Str.join sep ts).length<=ts.length * (b+sep.length)
 | [],_=>by simp[Str.join,Str.length,Str.empty]
 | [x],h=>by
  have:=h x B0
  show x.length<=_
  simp
  omega
 | x :: y :: r,h=>by
  have h1:=h x B0
  have h2:=lF sep b (y :: r) λt ht=>h t (u0 _ ht)
  show (x++sep++Str.join sep (y :: r)).length<=_
  rw[Str.length_append,Str.length_append,P1,N6]
  omega
theorem NZ:∀l:List D,B7 l=l.map O6
 | []=>rfl
 | x :: l=>by simp[B7,NZ l]
theorem YK{b:Nat}{l:List D}(h:∀d∈l,d.shown.length<=b):(J2 l).shown.length<=l.length * (b+2)+3:=by
 show (tupleText (B7 l)).length<=_
 rw[NZ]
 have hj:=lF (Str.ofString ", ") b (l.map O6) λt ht=>by
  obtain⟨d,hd,rfl⟩:=M0.mp ht
  exact h d hd
 rw[n0,kX]at hj
 have e2:(", ":String).length=2:=by decide
 rw[e2]at hj
 unfold tupleText
 rw[Str.length_append,Str.length_append,kX,kX]
 have e1:("(":String).length=1:=by decide
 have e3:(if (((l.map O6).length==1)=true) then ",)" else ")":String).length<=2:=by split<;>decide
 omega
theorem JD{b:Nat}{l:List D}(h:∀d∈l,d.shown.length<=b):(X2 l).shown.length<=l.length * (b+2)+3:=by
 have gen:∀(ts:List Str) (k:Nat) (acc:Str),(∀t∈ts,t.length<=b)->(textFrom k acc ts).length<=acc.length+ts.length * (b+2):=by
  intro ts
  induction ts with
  | nil=>intro k acc _;simp[textFrom]
  | cons t ts ih =>
   intro k acc ht
   have h1:=ht t B0
   have h2:=ih (k+1) (acc++Str.ofString (if k > 0 then ", " else "")++t) λx hx=>ht x (u0 _ hx)
   rw[Str.length_append,Str.length_append,kX]at h2
   have e3:(if k > 0 then ", " else "":String).length<=2:=by split<;>decide
   show (textFrom (k+1) (acc++Str.ofString (if k > 0 then ", " else "")++t) ts).length<=_
   rw[P1,N6]
   omega
 show (listText (B7 l)).length<=_
 rw[NZ]
 have hg:=gen (l.map O6) 0 (Str.ofString "[") λt ht=>by
  obtain⟨d,hd,rfl⟩:=M0.mp ht
  exact h d hd
 unfold listText
 rw[Str.length_append,kX]
 rw[kX,n0]at hg
 have e1:("[":String).length=1:=by decide
 have e2:("]":String).length=1:=by decide
 omega
theorem showableAll_of:∀{l:List D},(∀d∈l,d.showable=true)->u9 l=true
 | [],_=>rfl
 | x :: l,h=>by
  simp[u9,h x B0]
  exact showableAll_of λd hd=>h d (u0 _ hd)
theorem uU{i:Int}{k:Nat}(h:i.natAbs < 2 ^ k)(hk:k<=1920):(q0 i).showable=true:=by
 show decide (i.natAbs.log2 < 1920)=true
 refine decide_eq_true ?_
 by_cases h0:i.natAbs=0
 ·rw[h0];decide
 ·exact N0 ((Nat.log2_lt h0).mpr h) hk
end L3
namespace L2
open PySem PySem.Spec PyProof.Rows
noncomputable def SO:V->Int
 | .int i=>i
 | _=>0
theorem mW(l:List Int):(l.map V.int).map SO=l:=by rw[R0];exact M9 l
theorem kw{l m:List Int}(e:l.map V.int=m.map V.int):l=m:=by rw[<- mW l,<- mW m,e]
noncomputable def kR(H:Hp)(p:List Int)(y:Value):Bool:=@decide (∃c,y=.ref c/\H c=some (.tup (p.map V.int))) (Classical.propDecidable _)
theorem ZK{ns:List Int}{us:List Value}(r:Vals (ns.map V.int) us){k:Nat}(h:k < us.length):∃t,us[k]=.int (ns.getD k 0) t:=by
 have hl:=r.length
 rw[n0]at hl
 have hk:k < ns.length:=by omega
 obtain⟨u,hu,ru⟩:=r.get (i:=k) (x:=.int ns[k]) (by rw[D1,L0 hk];rfl)
 obtain⟨t,e⟩:=ru
 rw[L0 h]at hu
 have hu:=D2 hu
 refine ⟨t,?_⟩
 rw[hu,e,L1,L0 hk]
 rfl
end L2
namespace L3
open PySem PySem.Spec PyProof.Rows L2
theorem DaAll.ints_of{K:Fg}{F:Hp}{ys:List V}{p:List Int}(h:DaAll K F ys (p.map q0)):ys=p.map V.int:=by
 have e:p.map q0=(p.map λn=>(.inl n:IQ)).map GK:=by rw[R0];rfl
 rw[e]at h
 have:=h.keys
 rw[this,R0];rfl
end L3
namespace L2
open PySem PySem.Spec PyProof.Rows
section
variable {prog:Program}{w:World}{A:Around}{E:Value->Shared->Prop}{s:Shared}
theorem lw{l:Addr}{xs:Array (Int×Tok)}{Q:Value->Shared->Prop}(hh:A.handled=none)(ht:s.heap.IsTuple l (intItems xs))(hne:0 < xs.size)
  (h:∀v h' tk,(intItems xs)[argBest (λi j=>decide (numAt xs i > numAt xs j)) (xs.size - 1)]?=some v->(∀b o,s.heap.get? b=some o->h'.get? b=some o)->Q v { s with heap:=h',toks:=tk }) :
  wpAny (model prog w) A (call (.builtin "max") [.ref l]) Q E s:=by
 obtain⟨o,ho,hc,n,hd⟩:=id ht
 have hn:l≠s.heap.objs.size:=W0 (D0 ho)
 refine call_max_walk (wpAny_pyIter_tuple ht ?_)
 refine ⟨s.heap.objs.size,_,_,_,_,_,_,rfl,Walks.tuple (A:=A.in1) hh _ l hn (intItems xs),⟨⟨_,J0 _ rfl,rfl,rfl⟩,ht.push _⟩,λb hb=>?_,by simpa [intItems]using hne,CmpOf.ints_gt (numAt xs) (λ_ _=>intItems_at),λv h' tk hP hk=>?_⟩
 ·rcases U1.mp hb with rfl|hb
  ·exact D0 (J0 _ rfl)
  ·obtain rfl:=P2.mp hb
   exact D0 (g0 _ ho)
 ·exact h v h' tk (by simpa [intItems]using hP) λb o e=>hk b o (λhb=>absurd (D0 e) ((P2.mp hb) ▸ B3 _)) (g0 _ e)
end
noncomputable def SM(K:A0):List V->Hp->VK->Prop:=λxs H Q=>∃(a:Addr) (ns:List Int),xs=[.ref a]/\(SqL K H a (ns.map V.int)\/SqT K H a (ns.map V.int))/\0 < ns.length/\∀M,M∈ns->(∀y∈ns,y<=M)->Q (.int M) H
theorem mw{X:Cx}{K:A0}(hK:X.K=K)(hc:X.calm=true):oX X (.builtin "max") (SM K):=by
 subst hK
 intro pins s σ H xs us Q I r h
 obtain⟨a,ns,rfl,hq,hp,q⟩:=h
 obtain⟨u,rfl,ru⟩:=PZ r
 cases ru
 have hh:=I.ok.hd hc
 have fin:∀{its:List Value}{zs:Array (Int×Tok)},Vals (ns.map V.int) its->its.toArray=intItems zs->0 < zs.size/\∀(v:Value) (h':Heap) (tk:Nat),(intItems zs)[argBest (λi j=>decide (numAt zs i > numAt zs j)) (zs.size - 1)]?=some v->(∀b o,s.heap.get? b=some o->h'.get? b=some o)->EP X pins σ Q v { s with heap:=h',toks:=tk }:=by
  intro its zs rv e
  have hi:IntsAre its ns:=AX rv
  have hns:ns=zs.toList.map (·.1):=by rw[<- nums_intItems,<- e];exact (show numsOf its.toArray.toList=ns from hi.numsOf).symm
  have hsz:0 < zs.size:=by have h3:=hp;rw[hns,n0,V0]at h3;exact h3
  refine ⟨hsz,λv h' tk hv hk=>?_⟩
  obtain⟨t,rfl⟩:=intItems_at hv
  obtain⟨h1,h2⟩:=argBest_gt (numAt zs) (zs.size - 1)
  refine ⟨.int _,H,I.kept hk,⟨t,rfl⟩,q _ ?_ λy hy=>?_⟩
  ·rw[hns,numAt_eq];exact getD_mem (by rw[n0,V0];omega)
  ·rw[hns]at hy
   obtain⟨j,hj,rfl⟩:=mem_getD hy
   rw[n0,V0]at hj
   rw[<- numAt_eq];exact h2 j (by omega)
 rcases hq with hq|hq
 ·obtain⟨its,rv,p,hz⟩:=I.list hq
  obtain⟨zs,hx⟩:=(AX rv).allInts.items
  obtain⟨hs,f⟩:=fin rv hx
  exact max_intList hh (hx ▸ p.isList) hs f
 ·obtain⟨its,rv,p,hz⟩:=I.tuple hq
  obtain⟨zs,hx⟩:=(AX rv).allInts.items
  obtain⟨hs,f⟩:=fin rv hx
  exact lw hh (show s.heap.IsTuple a (intItems zs) from hx ▸ p) hs f
end L2
namespace L3
open PySem PySem.Spec PyProof.Rows L2
section
variable {K:Fg}{σ:L2.St}{H:Hp}{v:V}{Q:L2.St->Hp->Prop}
end
noncomputable def fR:D->(Sl->Prop)->Prop
 | .list ds,Q=>∃ns:List Int,ds=ns.map q0/\0 < ns.length/\∀M,M∈ns->(∀y∈ns,M<=y)->Q (.fz (.int M))
 | .tuple ds,Q=>∃ns:List Int,ds=ns.map q0/\0 < ns.length/\∀M,M∈ns->(∀y∈ns,M<=y)->Q (.fz (.int M))
 | _,_=>False
noncomputable def UO:D->(Sl->Prop)->Prop
 | .list ds,Q=>∃ns:List Int,ds=ns.map q0/\0 < ns.length/\∀M,M∈ns->(∀y∈ns,y<=M)->Q (.fz (.int M))
 | .tuple ds,Q=>∃ns:List Int,ds=ns.map q0/\0 < ns.length/\∀M,M∈ns->(∀y∈ns,y<=M)->Q (.fz (.int M))
 | _,_=>False
theorem yI{K:Fg}:cX K (SM K) (o1 UO):=Ck λG F σ H ρ x d Q Qd R h1 w k=>by
 match d,h1,w with
 | .list ds,h1,⟨ns,e,hp,w⟩ =>
  subst e
  obtain⟨a,us,rfl,e1,d1⟩:=h1.list R.sub
  have:=d1.intsV
  subst this
  exact ⟨a,ns,rfl,.inl (SqL.of e1),hp,λM m1 m2=>k _ H F (.fz _) (Sub.refl _) R (Da.int _) (w M m1 m2)⟩
 | .tuple ds,h1,⟨ns,e,hp,w⟩ =>
  subst e
  obtain⟨a,us,rfl,_,e1,d1⟩:=h1.tuple R.sub
  have:=d1.intsV
  subst this
  exact ⟨a,ns,rfl,.inr (SqT.of e1),hp,λM m1 m2=>k _ H F (.fz _) (Sub.refl _) R (Da.int _) (w M m1 m2)⟩
open PySem PySem.Spec L2
section
variable {K:Fg}{G:Gh}{F F' H H':Hp}{σ:L2.St}{ρ:Ev}
noncomputable def nw:Sl->Bool
 | .fz d=>noMut d
 | .ow (.list ds)=>noMutAll ds
 | _=>false
noncomputable def qw(con:Con)(as:List AD):TD:=λρ Q=>yX as ρ λxs ρ1=>RQ ρ1 xs λds=>con (ds.map Sl.fz) λr _=>nw r=true/\Q r ρ1
theorem Res.calledL{xs:List iU}(R:Rel K G F σ H ρ){σ1:L2.St}{ρ1:Ev}{v:V}{r:Sl}(R':Rel K ⟨H,gJ σ ρ xs F H,λ_=>none⟩ F' σ1 H' ρ1)(q:Res K ⟨H,gJ σ ρ xs F H,λ_=>none⟩ F' H' σ1 ρ1 v r)
  (hl:nw r=true):Res K G (IX σ ρ xs F') H' σ ρ v r:=by
 have tp:∀b ys,F' b=some (.tup ys)->IX σ ρ xs F' b=some (.tup ys):=λb ys e=>by
  have n:¬LentA σ ρ xs b:=λz=>by
   obtain⟨_,_,o,_,_,_,_,h,w⟩:=z.own R
   have e2:=R'.sub0 b o (by show gJ σ ρ xs F H b=some o;rw[rY z];exact h)
   rw[e]at e2;cases e2
   exact w
  rw[PX n];exact e
 cases r with
 | fz d=>exact Da.noMut tp q hl
 | io d=>exact q.elim
 | ow d =>
  obtain⟨a,o,h1,h2,h3,h4,h5,_⟩:=q
  have h5:H a=none:=h5
  have nl:¬LentA σ ρ xs a:=λz=>by
   obtain⟨_,_,o,_,_,_,_,h,w⟩:=z.own R
   rw[h5]at h;cases h
  refine ⟨a,o,h1,by rw[PX nl];exact h2,h3,?_,R.h0 h5,λi s es w z=>?_⟩
  ·cases d with
   | list ds =>
    cases o with
    | lst ys=>exact DaAll.noMut tp h4 hl
    | _=>exact h4.elim
   | _=>cases hl
  ·obtain⟨a',o',g1,_,g3,_⟩:=R.ow i s es w
   rw[z]at g1;cases g1
   rw[h5]at g3;cases g3
theorem Mu{con:Con}{as:List AD}{E:XK}{Q:VK}(h:lift K (qw con as) σ H Q):JY (eQ K con) [] E (wQ (as.map (nQ K))) σ H Q:=by
 obtain⟨G,F,ρ,Qd,R,w,k⟩:=h
 refine jX R w λvs H1 F1 xs ρ1 s1 R1 o w1=>?_
 obtain⟨ds,da,w1⟩:=dW (xs:=xs) R1 (λy hy=>hy) o w1
 rw[X1]
 refine ⟨_,_,ds.map Sl.fz,_,OG (Kq R1) da,w1,λv H' F' r ρ' s' R' r' q=>?_⟩
 obtain⟨sb,R2⟩:=R1.called R'
 exact k v H' _ r ρ1 (s1.trans sb) R2 (Res.calledL R1 R' r' q.1) q.2
end
section
variable {X:Cx}{K:Fg}{e:Expr}{es:List Expr}{as:List AD}{x:Str}{p pos:Pos}
theorem TM{k:Nat}{ps:List Str}{con:Con}(C:Cal X.prog X.w X.K X.mg X.base k x ps (eQ K con))(hr:Room k X.A)(ha:WA X (e :: es) (wQ (as.map (nQ K))))(hg:Gl X x:=by rfl)(hdb:(x==("__debug__":Str))=false:=by decide)
  (he:xQ e=true:=by rfl) (hpl:es.all xQ=true:=by rfl):WE X (.Call (.Name x p) (e :: es) [] pos) (lift K (qw con as)):=⟨KW (Xx C hr ha.h hg hdb (kQ he) (gX hpl)) Mu⟩
end
end L3
namespace L2
open PySem PySem.Spec PyProof.Rows PySem.W
section
variable {prog:Program}{w:World}{A:Around}{E:Value->Shared->Prop}{s:Shared}{κ:SortKind}{vs:List Value}
end
end L2
namespace L3
open PySem PySem.Spec PyProof.Rows L2
end L3
namespace SG
open PySem PyProof.Rows
noncomputable def Fj:Bool->Keyed->Array Keyed->Nat->Nat->Nat->StateT SortSt Sem (Option Nat):=sortPriv% PySem.Builtin.gallop
noncomputable def TN:Array Keyed->Array Keyed->StateT SortSt Sem (Array Keyed):=sortPriv% PySem.Builtin.mergeLo
noncomputable def UN:Array Keyed->Array Keyed->StateT SortSt Sem (Array Keyed):=sortPriv% PySem.Builtin.mergeHi
noncomputable abbrev nK(z:SortSt)(g:Nat):SortSt:=SortSt.mk' (kindOf z) (arrOf z) (pendingOf z) g (failedOf z)
theorem AI(lf:Bool)(ky:Keyed)(xs:Array Keyed)(bs n ht:Nat):Fj lf ky xs bs n ht=(do
    let ov (i:Nat):StateT SortSt Sem (Option Bool):=do
      let z<-elem' xs (bs+i)
      if lf then lt' z ky else return (<- lt' ky z).map (!·)
    let mut la:=0
    let mut o:=1
    let mut l:=0
    let mut h:=0
    let some rt<-ov ht|return none
    if rt then
      let mx:=n - ht
      for _ in [0:n] do
        if o ≥ mx then break
        let some mo<-ov (ht+o)|return none
        if !mo then break
        la:=o
        o:=2 * o+1
      l:=ht+la+1
      h:=ht+min o mx
    else
      let mx:=ht+1
      for _ in [0:n] do
        if o ≥ mx then break
        let some fo<-ov (ht - o)|return none
        if fo then break
        la:=o
        o:=2 * o+1
      l:=ht+1 - min o mx
      h:=ht - la
    for _ in [0:n] do
      if l ≥ h then break
      let m:=l+(h - l) / 2
      let some mo<-ov m|return none
      if mo then l:=m+1 else h:=m
    return some h):=rfl
section
variable {prog:Program}{w:World}{A:Around}{E:Value->Shared->Prop}{s:Shared}{κ:SortKind}{rk:Keyed->Nat}{S:Keyed->Prop}
noncomputable def dZ(prog:Program)(w:World)(A:Around)(s:Shared)(κ:SortKind)(rk:Keyed->Nat)(S:Keyed->Prop):Prop :=
 ∀x y:Keyed,S x->S y->∀Q:Bool->Shared->Prop,Q (decide (rk x < rk y)) s->wpAny (model prog w) A (keyLt' κ x.1 y.1) Q (λ_ _=>False) s
theorem w_lt(q:dZ prog w A s κ rk S){x y:Keyed}{st:SortSt}{Q:Option Bool->SortSt->Prop}(hk:kindOf st=κ)(hx:S x)(hy:S y)(h:Q (some (decide (rk x < rk y))) st) :
  wpS (model prog w) A E s (lt' x y) Q st:=by
 rw[lt'_eq]
 refine wpS_bind (wpS_get ?_)
 rw[hk]
 refine wpS_bind (wpS_lift (wpAny_attempt (wpAny_mono (q x y hx hy (λb s'=>b=decide (rk x < rk y)/\s'=s) ⟨rfl,rfl⟩) (λb s' e=>?_) λ_ _ e=>e.elim)))
 obtain⟨rfl,rfl⟩:=e
 exact ⟨rfl,wpS_pure h⟩
theorem UQ{xs:Array Keyed}{i:Nat}{st:SortSt}{Q:Keyed->SortSt->Prop}(hi:i < xs.size)(h:Q xs[i] st):wpS (model prog w) A E s (elem' xs i) Q st:=by
 rw[elem'_eq,getElem?_pos xs i hi]
 exact wpS_pure h
noncomputable def Ov(prog:Program)(w:World)(A:Around)(E:Value->Shared->Prop)(s:Shared)(n:Nat)(b:Nat->Bool)(st:SortSt)(ov:Nat->StateT SortSt Sem (Option Bool)):Prop :=
 ∀i,i < n->∀Q:Option Bool->SortSt->Prop,Q (some (b i)) st->wpS (model prog w) A E s (ov i) Q st
noncomputable def UM(ov:Nat->StateT SortSt Sem (Option Bool))(n l₀ h₀:Nat):StateT SortSt Sem (Option Nat):=do
 let mut l:=l₀
 let mut h:=h₀
 for _ in [0:n] do
  if l ≥ h then break
  let m:=l+(h - l) / 2
  let some mo<-ov m|return none
  if mo then l:=m+1 else h:=m
 return some h
theorem w_bin{ov:Nat->StateT SortSt Sem (Option Bool)}{n l h':Nat}{b:Nat->Bool}{st:SortSt}{Q:Option Nat->SortSt->Prop}(hO:Ov prog w A E s n b st ov)
  (hm:∀i j,i<=j->j < n->b j=true->b i=true) (h1:l<=h') (h2:h'<=n) (h3:∀i,i < l->b i=true) (h4:∀i,h'<=i->i < n->b i=false)
  (h:∀k,k<=n->(∀i,i < k->b i=true)->(∀i,k<=i->i < n->b i=false)->Q (some k) st):wpS (model prog w) A E s (UM ov n l h') Q st:=by
 unfold UM
 refine wpS_bind (wpS_mono (wpS_forRange (I:=λx c st'=>st'=st/\∃l h',c=(none,l,h')/\l<=h'/\h'<=n/\h' - l<=n - x/\(∀i,i < l->b i=true)/\∀i,h'<=i->i < n->b i=false)
   (Q:=λc st'=>st'=st/\∃k,c=(none,k,k)/\k<=n/\(∀i,i < k->b i=true)/\∀i,k<=i->i < n->b i=false) ?step ?fin ⟨rfl,l,h',rfl,h1,h2,by omega,h3,h4⟩) ?post)
 case fin =>
  rintro c st' ⟨rfl,l,h',rfl,a1,a2,a3,a4,a5⟩
  have:l=h':=by omega
  subst this
  exact ⟨rfl,l,rfl,a2,a4,a5⟩
 case post =>
  rintro c st' ⟨rfl,k,rfl,a1,a2,a3⟩
  exact wpS_pure (h k a1 a2 a3)
 case step =>
  rintro x c st' _ hx ⟨rfl,l,h',rfl,a1,a2,a3,a4,a5⟩
  dsimp only
  by_cases hge:l ≥ h'
  ·rw[if_pos hge]
   have:l=h':=by omega
   subst this
   exact wpS_pure ⟨rfl,l,rfl,a2,a4,a5⟩
  ·rw[if_neg hge]
   refine wpS_bind (hO _ (by omega) _ ?_)
   cases hb:b (l+(h' - l) / 2) with
   | true =>
    refine wpS_pure ⟨rfl,_,_,rfl,by omega,a2,by omega,λi hi=>hm _ _ (by omega) (by omega) hb,a5⟩
   | false =>
    refine wpS_pure ⟨rfl,_,_,rfl,by omega,by omega,by omega,a4,λi i1 i2=>?_⟩
    cases hbi:b i with
    | false=>rfl
    | true=>rw[hm _ _ i1 i2 hbi]at hb;cases hb
theorem VM{lf:Bool}{ky:Keyed}{xs:Array Keyed}{bs n ht:Nat}{st:SortSt}{Q:Option Nat->SortSt->Prop}{b:Nat->Bool}
  (hO:Ov prog w A E s n b st (λi=>do
    let z<-elem' xs (bs+i)
    if lf then lt' z ky else return (<- lt' ky z).map (!·)))
  (hm:∀i j,i<=j->j < n->b j=true->b i=true) (hh:ht < n)
  (h:∀k,k<=n->(∀i,i < k->b i=true)->(∀i,k<=i->i < n->b i=false)->Q (some k) st):wpS (model prog w) A E s (Fj lf ky xs bs n ht) Q st:=by
 rw[AI]
 generalize hov:(λi=>(do
     let z<-elem' xs (bs+i)
     if lf then lt' z ky else return (<- lt' ky z).map (!·):StateT SortSt Sem (Option Bool)))=ov at hO
 dsimp only
 clear hov
 refine wpS_bind (hO ht hh _ ?_)
 cases hb:b ht with
 | true =>
  dsimp only
  rw[if_pos rfl]
  refine wpS_bind (wpS_mono (wpS_forRange (I:=λx c st'=>st'=st/\∃la o:Nat,c=(none,la,o)/\la < o/\x+1<=o/\ht+la < n/\b (ht+la)=true)
    (Q:=λc st'=>st'=st/\∃la o:Nat,c=(none,la,o)/\la < o/\ht+la < n/\b (ht+la)=true/\(n - ht<=o\/b (ht+o)=false)) ?step ?fin ⟨rfl,0,1,rfl,by omega,by omega,by omega,hb⟩) ?post)
  case fin =>
   rintro c st' ⟨rfl,la,o,rfl,a1,a2,a3,a4⟩
   exact ⟨rfl,la,o,rfl,a1,a3,a4,.inl (by omega)⟩
  case step =>
   rintro x c st' _ hx ⟨rfl,la,o,rfl,a1,a2,a3,a4⟩
   dsimp only
   by_cases hge:o ≥ n - ht
   ·rw[if_pos hge]
    exact wpS_pure ⟨rfl,la,o,rfl,a1,a3,a4,.inl hge⟩
   ·rw[if_neg hge]
    refine wpS_bind (hO _ (by omega) _ ?_)
    cases hbo:b (ht+o) with
    | true=>exact wpS_pure ⟨rfl,o,2 * o+1,rfl,by omega,by omega,by omega,hbo⟩
    | false=>exact wpS_pure ⟨rfl,la,o,rfl,a1,a3,a4,.inr hbo⟩
  case post =>
   rintro c st' ⟨rfl,la,o,rfl,a1,a3,a4,a5⟩
   refine w_bin hO hm (l:=ht+la+1) (h':=ht+min o (n - ht)) (by omega) (by omega) (λi hi=>hm _ _ (by omega) a3 a4) (λi i1 i2=>?_) h
   rcases a5 with a5|a5
   ·omega
   ·cases hbi:b i with
    | false=>rfl
    | true=>rw[hm (ht+o) i (by omega) i2 hbi]at a5;cases a5
 | false =>
  dsimp only
  rw[if_neg (by decide)]
  refine wpS_bind (wpS_mono (wpS_forRange (I:=λx c st'=>st'=st/\∃la o:Nat,c=(none,la,o)/\la < o/\x+1<=o/\la<=ht/\b (ht - la)=false)
    (Q:=λc st'=>st'=st/\∃la o:Nat,c=(none,la,o)/\la < o/\la<=ht/\b (ht - la)=false/\(ht+1<=o\/b (ht - o)=true)) ?step2 ?fin2 ⟨rfl,0,1,rfl,by omega,by omega,by omega,hb⟩) ?post2)
  case fin2 =>
   rintro c st' ⟨rfl,la,o,rfl,a1,a2,a3,a4⟩
   exact ⟨rfl,la,o,rfl,a1,a3,a4,.inl (by omega)⟩
  case step2 =>
   rintro x c st' _ hx ⟨rfl,la,o,rfl,a1,a2,a3,a4⟩
   dsimp only
   by_cases hge:o ≥ ht+1
   ·rw[if_pos hge]
    exact wpS_pure ⟨rfl,la,o,rfl,a1,a3,a4,.inl hge⟩
   ·rw[if_neg hge]
    refine wpS_bind (hO _ (by omega) _ ?_)
    cases hbo:b (ht - o) with
    | false=>exact wpS_pure ⟨rfl,o,2 * o+1,rfl,by omega,by omega,by omega,hbo⟩
    | true=>exact wpS_pure ⟨rfl,la,o,rfl,a1,a3,a4,.inr hbo⟩
  case post2 =>
   rintro c st' ⟨rfl,la,o,rfl,a1,a3,a4,a5⟩
   have up:∀i,ht - la<=i->i < n->b i=false:=λi i1 i2=>by
    cases hbi:b i with
    | false=>rfl
    | true=>rw[hm (ht - la) i i1 i2 hbi]at a4;cases a4
   refine w_bin hO hm (l:=ht+1 - min o (ht+1)) (h':=ht - la) (by omega) (by omega) (λi hi=>?_) up h
   rcases a5 with a5|a5
   ·omega
   ·exact hm _ (ht - o) (by omega) (by omega) a5
theorem EZ(q:dZ prog w A s κ rk S){lf:Bool}{ky:Keyed}{xs:Array Keyed}{bs n ht:Nat}{st:SortSt}{Q:Option Nat->SortSt->Prop}(hk:kindOf st=κ)(hy:S ky)(hS:∀i (h:i < xs.size),S xs[i])
  (hn:bs+n<=xs.size) (hs:∀i j (h:j < xs.size) (h2:i<=j),bs<=i->j < bs+n->rk (xs[i]'(by omega))<=rk xs[j]) (hh:ht < n)
  (h:∀k,k<=n->(∀i (h:i < xs.size),bs<=i->i < bs+k->if lf=true then rk xs[i] < rk ky else rk xs[i]<=rk ky)->(∀i (h:i < xs.size),bs+k<=i->i < bs+n->if lf=true then rk ky<=rk xs[i] else rk ky < rk xs[i])->Q (some k) st) :
  wpS (model prog w) A E s (Fj lf ky xs bs n ht) Q st:=by
 refine VM (b:=λi=>if hi:bs+i < xs.size then (if lf=true then decide (rk xs[bs+i] < rk ky) else !decide (rk ky < rk xs[bs+i])) else false) ?_ ?_ hh ?_
 ·intro i hi Q hQ
  have hi':bs+i < xs.size:=by omega
  simp only[dif_pos hi']at hQ
  refine wpS_bind (UQ hi' ?_)
  cases lf with
  | true=>exact w_lt q hk (hS _ _) hy hQ
  | false=>exact wpS_bind (w_lt q hk hy (hS _ _) (wpS_pure hQ))
 ·intro i j hij hj hb
  have hj':bs+j < xs.size:=by omega
  have hi':bs+i < xs.size:=by omega
  have hle:=hs (bs+i) (bs+j) hj' (by omega) (by omega) (by omega)
  simp only[dif_pos hj']at hb
  simp only[dif_pos hi']
  cases lf with
  | true=>simp at hb ⊢;omega
  | false=>simp at hb ⊢;omega
 ·intro k hk h1 h2
  refine h k hk (λi hi i1 i2=>?_) (λi hi i1 i2=>?_)
  ·have:=h1 (i - bs) (by omega)
   have e:bs+(i - bs)=i:=by omega
   simp only[e,dif_pos hi]at this
   cases lf with
   | true=>simpa using this
   | false=>simpa using this
  ·have:=h2 (i - bs) (by omega) (by omega)
   have e:bs+(i - bs)=i:=by omega
   simp only[e,dif_pos hi]at this
   cases lf with
   | true=>simpa using this
   | false=>simpa using this
end
section
variable {α:Type}{le:α->α->Prop}{a b out:List α}{i j:Nat}
structure Mg(le:α->α->Prop)(a b out:List α)(i j:Nat):Prop where
 perm:out.Perm (a.take i++b.take j)
 srt:out.Pairwise le
 la:∀x∈out,∀y∈a.drop i,le x y
 lb:∀x∈out,∀y∈b.drop j,le x y
theorem Mg.comm(h:Mg le a b out i j):Mg le b a out j i:=⟨h.perm.trans d7,h.srt,h.lb,h.la⟩
theorem Mg.takeA(h:Mg le a b out i j)(ha:a.Pairwise le)(k:Nat)(hk:∀x∈(a.drop i).take k,∀y∈b.drop j,le x y):Mg le a b (out++(a.drop i).take k) (i+k) j where
 perm:=by
  rw[List.take_add]
  refine (h.perm.append_right _).trans ?_
  rw[K2,K2]
  exact List.Perm.append_left _ d7
 srt:=T5.mpr ⟨h.srt,(ha.sublist (T6 _ _)).sublist (List.take_sublist _ _),λx hx y hy=>h.la x hx y (V8 hy)⟩
 la:=λx hx y hy=>by
  rw[<- S8]at hy
  rcases Q2.mp hx with hx|hx
  ·exact h.la x hx y (W8 hy)
  ·have p:=ha.sublist (T6 i _)
   rw[<- o4 k (a.drop i)]at p
   exact (T5.mp p).2.2 x hx y hy
 lb:=λx hx y hy=>by
  rcases Q2.mp hx with hx|hx
  ·exact h.lb x hx y hy
  ·exact hk x hx y hy
theorem Mg.oneA(h:Mg le a b out i j)(ha:a.Pairwise le)(hi:i < a.length)(hk:∀y∈b.drop j,le a[i] y):Mg le a b (out++[a[i]]) (i+1) j:=by
 have e:(a.drop i).take 1=[a[i]]:=by rw[S4 hi];rfl
 have:=h.takeA ha 1 (by rw[e];simpa using hk)
 rwa [e]at this
theorem Mg.fin(h:Mg le a b out i j)(ha:a.Pairwise le)(hb:b.Pairwise le)(hx:∀x∈a.drop i,∀y∈b.drop j,le x y):(out++a.drop i++b.drop j).Perm (a++b)/\(out++a.drop i++b.drop j).Pairwise le:=by
 constructor
 ·have e:(a.take i++b.take j++a.drop i++b.drop j).Perm (a.take i++a.drop i++(b.take j++b.drop j)):=by
   simp only[K2]
   refine List.Perm.append_left _ ?_
   rw[<- K2,<- K2]
   exact d7.append_right _
  rw[o4,o4]at e
  exact ((h.perm.append_right _).append_right _).trans e
 ·rw[K2]
  refine T5.mpr ⟨h.srt,T5.mpr ⟨ha.sublist (T6 _ _),hb.sublist (T6 _ _),hx⟩,λx hx y hy=>?_⟩
  rcases Q2.mp hy with hy|hy
  ·exact h.la x hx y hy
  ·exact h.lb x hx y hy
theorem Mg.finC(h:Mg le a b out i j)(ha:a.Pairwise le)(hb:b.Pairwise le)(hx:∀x∈b.drop j,∀y∈a.drop i,le x y):(out++b.drop j++a.drop i).Perm (a++b)/\(out++b.drop j++a.drop i).Pairwise le:=by
 obtain⟨h1,h2⟩:=h.comm.fin hb ha hx
 exact ⟨h1.trans d7,h2⟩
end
noncomputable abbrev Nu:=Option (Array Keyed)×Array Keyed×Nat×Nat×Nat×Nat×Nat
noncomputable abbrev VN:=Option (Array Keyed)×Array Keyed×Nat×Nat×Nat×Nat
noncomputable abbrev WN:=Option (Array Keyed)×Array Keyed×Nat×Nat×Nat
section
variable (x y:Array Keyed)
noncomputable def dn(o:Array Keyed)(i j:Nat):Array Keyed:=o++x.extract i x.size++y.extract j y.size
noncomputable def ls(o:Array Keyed)(i j:Nat):Array Keyed:=o++y.extract j y.size++x.extract i x.size
noncomputable def XN(o:Array Keyed)(i j g ac bc:Nat):StateT SortSt Sem (ForInStep Nu):=do
 let z<-elem' x i
 if (i+1+1==x.size)=true then pure (.done (some (ls x y (o.push z) (i+1) j),o.push z,i+1,j,g,ac,bc))
 else if (decide (ac < 7)&&decide (bc < 7))=true then pure (.done (none,o.push z,i+1,j,g,ac,bc))
 else pure (.yield (none,o.push z,i+1,j,g,ac,bc))
noncomputable def YN(o:Array Keyed)(i j g ac bc:Nat):StateT SortSt Sem (ForInStep Nu):=do
 let z<-elem' y j
 if (j+1==y.size)=true then pure (.done (some (dn x y (o.push z) i (j+1)),o.push z,i,j+1,g,ac,bc))
 else do
  let u<-elem' x i
  let some k<-Fj true u y (j+1) (y.size - (j+1)) 0|pure (.done (some (dn x y (o.push z) i (j+1)),o.push z,i,j+1,g,ac,bc))
  if k > 0 then
   if (j+1+k==y.size)=true then pure (.done (some (dn x y (o.push z++y.extract (j+1) (j+1+k)) i (j+1+k)),o.push z++y.extract (j+1) (j+1+k),i,j+1+k,g,ac,k))
   else XN x y (o.push z++y.extract (j+1) (j+1+k)) i (j+1+k) g ac k
  else XN x y (o.push z) i (j+1) g ac k
noncomputable def ZN(o:Array Keyed)(i j g ac bc:Nat):StateT SortSt Sem (ForInStep Nu):=do
 modify λv=>nK v g
 let z<-elem' y j
 let some k<-Fj false z x i (x.size - i) 0|pure (.done (some (dn x y o i j),o,i,j,g,ac,bc))
 if k > 0 then
   if (i+k+1==x.size)=true then pure (.done (some (ls x y (o++x.extract i (i+k)) (i+k) j),o++x.extract i (i+k),i+k,j,g,k,bc))
   else if (i+k==x.size)=true then pure (.done (some (dn x y (o++x.extract i (i+k)) (i+k) j),o++x.extract i (i+k),i+k,j,g,k,bc))
   else YN x y (o++x.extract i (i+k)) (i+k) j g k bc
 else YN x y o i j g k bc
noncomputable def VO(t:Nu):StateT SortSt Sem (ForInStep Nu) :=
 if t.2.2.2.2.1 > 1 then ZN x y t.2.1 t.2.2.1 t.2.2.2.1 (t.2.2.2.2.1 - 1) t.2.2.2.2.2.1 t.2.2.2.2.2.2
 else ZN x y t.2.1 t.2.2.1 t.2.2.2.1 t.2.2.2.2.1 t.2.2.2.2.2.1 t.2.2.2.2.2.2
noncomputable def WO(g:Nat)(t:VN):StateT SortSt Sem (ForInStep VN):=do
 let z<-elem' y t.2.2.2.1
 let u<-elem' x t.2.2.1
 let some yw<-lt' z u|pure (.done (some (dn x y t.2.1 t.2.2.1 t.2.2.2.1),t.2.1,t.2.2.1,t.2.2.2.1,t.2.2.2.2.1,t.2.2.2.2.2))
 if yw=true then do
   let z<-elem' y t.2.2.2.1
   if (t.2.2.2.1+1==y.size)=true then pure (.done (some (dn x y (t.2.1.push z) t.2.2.1 (t.2.2.2.1+1)),t.2.1.push z,t.2.2.1,t.2.2.2.1+1,0,t.2.2.2.2.2+1))
   else if t.2.2.2.2.2+1 ≥ g then pure (.done (none,t.2.1.push z,t.2.2.1,t.2.2.2.1+1,0,t.2.2.2.2.2+1))
   else pure (.yield (none,t.2.1.push z,t.2.2.1,t.2.2.2.1+1,0,t.2.2.2.2.2+1))
 else do
   let z<-elem' x t.2.2.1
   if (t.2.2.1+1+1==x.size)=true then pure (.done (some (ls x y (t.2.1.push z) (t.2.2.1+1) t.2.2.2.1),t.2.1.push z,t.2.2.1+1,t.2.2.2.1,t.2.2.2.2.1+1,0))
   else if t.2.2.2.2.1+1 ≥ g then pure (.done (none,t.2.1.push z,t.2.2.1+1,t.2.2.2.1,t.2.2.2.2.1+1,0))
   else pure (.yield (none,t.2.1.push z,t.2.2.1+1,t.2.2.2.1,t.2.2.2.2.1+1,0))
noncomputable def aO(t:WN):StateT SortSt Sem (ForInStep WN):=do
 let v<-forIn [:x.size+y.size] ((none,t.2.1,t.2.2.1,t.2.2.2.1,0,0):VN) λ_ v=>WO x y t.2.2.2.2 v
 match v.1 with
 | some r=>pure (.done (some r,v.2.1,v.2.2.1,v.2.2.2.1,t.2.2.2.2))
 | none=>do
  liftM (rule "list.sort.gallop")
  let u<-forIn [:x.size+y.size] ((none,v.2.1,v.2.2.1,v.2.2.2.1,t.2.2.2.2+1,v.2.2.2.2.1,v.2.2.2.2.2):Nu) λ_ u=>VO x y u
  match u.1 with
  | some r=>pure (.done (some r,u.2.1,u.2.2.1,u.2.2.2.1,u.2.2.2.2.1))
  | none=>do
   modify λz=>nK z (u.2.2.2.2.1+1)
   pure (.yield (none,u.2.1,u.2.2.1,u.2.2.2.1,u.2.2.2.2.1+1))
end
theorem Ou(x y:Array Keyed):TN x y=(do
    rule "list.sort.merge-lo"
    let tt:=x.size+y.size
    let dn (o:Array Keyed) (i j:Nat):=o++x.extract i x.size++y.extract j y.size
    let ls (o:Array Keyed) (i j:Nat):=o++y.extract j y.size++x.extract i x.size
    let mut o:Array Keyed:=#[<- elem' y 0]
    let mut i:=0
    let mut j:=1
    if j==y.size then return dn o i j
    if i+1==x.size then return ls o i j
    let mut g:=gallopOf (<- get)
    for _ in [0:tt] do
      let mut ac:=0
      let mut bc:=0
      for _ in [0:tt] do
        let some yw<-lt' (<- elem' y j) (<- elem' x i)|return dn o i j
        if yw then
          o:=o.push (<- elem' y j);j:=j+1;bc:=bc+1;ac:=0
          if j==y.size then return dn o i j
          if bc ≥ g then break
        else
          o:=o.push (<- elem' x i);i:=i+1;ac:=ac+1;bc:=0
          if i+1==x.size then return ls o i j
          if ac ≥ g then break
      rule "list.sort.gallop"
      g:=g+1
      for _ in [0:tt] do
        if g > 1 then g:=g - 1
        modify (nK · g)
        let some k<-Fj false (<- elem' y j) x i (x.size - i) 0|return dn o i j
        ac:=k
        if k > 0 then
          o:=o++x.extract i (i+k);i:=i+k
          if i+1==x.size then return ls o i j
          if i==x.size then return dn o i j
        o:=o.push (<- elem' y j);j:=j+1
        if j==y.size then return dn o i j
        let some k<-Fj true (<- elem' x i) y j (y.size - j) 0|return dn o i j
        bc:=k
        if k > 0 then
          o:=o++y.extract j (j+k);j:=j+k
          if j==y.size then return dn o i j
        o:=o.push (<- elem' x i);i:=i+1
        if i+1==x.size then return ls o i j
        if ac < 7&&bc < 7 then break
      g:=g+1
      modify (nK · g)
    unsupported "internal:list.sort.merge-bound"):=rfl
theorem BI(x y:Array Keyed):TN x y=(do
    liftM (rule "list.sort.merge-lo")
    let z<-elem' y 0
    if (1==y.size)=true then pure (dn x y #[z] 0 1)
    else if (0+1==x.size)=true then pure (ls x y #[z] 0 1)
    else do
      let s<-get
      let v<-forIn [:x.size+y.size] ((none,#[z],0,1,gallopOf s):WN) λ_ v=>aO x y v
      match v.1 with
      | some r=>pure r
      | none=>unsupported "internal:list.sort.merge-bound"):=by
 rw[Ou]
 dsimp only
 refine congrArg (bind _) (funext λ_=>?_)
 refine congrArg (bind _) (funext λz=>?_)
 refine congr (congrArg _ rfl) ?_
 refine congr (congrArg _ rfl) ?_
 refine congrArg (bind _) (funext λs=>?_)
 refine congr (congrArg bind ?A) (funext λv=>by obtain⟨r,v⟩:=v;cases r<;>rfl)
 refine congrArg _ (funext λ_=>funext λv=>?_)
 unfold aO
 refine congr (congrArg bind rfl) (funext λv=>?_)
 obtain⟨r,v⟩:=v
 cases r with
 | some r=>rfl
 | none =>
  refine congrArg (bind _) (funext λ_=>?_)
  refine congr (congrArg bind ?A2) (funext λv=>by obtain⟨r,v⟩:=v;cases r<;>rfl)
  rfl
section
variable {α:Type}{x y o:Array α}{i j k:Nat}
theorem vY:(x.extract i x.size).toList=x.toList.drop i:=by
 rw[J4,j3,u5 (by simp)]
theorem QB:(x.extract i (i+k)).toList=(x.toList.drop i).take k:=by
 rw[J4,j3,O3]
theorem DX{v:α}(h:v∈x.toList.drop i):∃(n:Nat) (hn:n < x.size),i<=n/\v=x[n]:=by
 obtain⟨n,hn,e⟩:=O4 h
 rw[Z5,V0]at hn
 refine ⟨i+n,by omega,by omega,?_⟩
 rw[<- e,List.getElem_drop,A3]
theorem MJ{v:α}(h:v∈(x.toList.drop i).take k):∃(n:Nat) (hn:n < x.size),i<=n/\n < i+k/\v=x[n]:=by
 obtain⟨n,hn,e⟩:=O4 h
 rw[S3,Z5,V0]at hn
 refine ⟨i+n,by omega,by omega,by omega,?_⟩
 rw[<- e,List.getElem_take,List.getElem_drop,A3]
end
theorem Pu(x y o:Array Keyed)(i j:Nat):(dn x y o i j).toList=o.toList++x.toList.drop i++y.toList.drop j:=by
 unfold dn
 rw[V2,V2,vY,vY]
theorem Qu(x y o:Array Keyed)(i j:Nat):(ls x y o i j).toList=o.toList++y.toList.drop j++x.toList.drop i:=by
 unfold ls
 rw[V2,V2,vY,vY]
section
variable {prog:Program}{w:World}{A:Around}{E:Value->Shared->Prop}{s:Shared}{κ:SortKind}{rk:Keyed->Nat}{S:Keyed->Prop}{x y:Array Keyed}
noncomputable abbrev ZW(rk:Keyed->Nat):Keyed->Keyed->Prop:=λa b=>rk a<=rk b
structure Hy(rk:Keyed->Nat)(S:Keyed->Prop)(x y:Array Keyed):Prop where
 hx:x.toList.Pairwise (ZW rk)
 hy:y.toList.Pairwise (ZW rk)
 Sx:∀i (h:i < x.size),S x[i]
 Sy:∀i (h:i < y.size),S y[i]
 x0:0 < x.size
 y0:0 < y.size
 hl:∀i (h:i < y.size),rk y[i]<=rk x[x.size - 1]
 hf:∀i (h:i < x.size),rk y[0]<=rk x[i]
theorem XX{x:Array Keyed}(h:x.toList.Pairwise (ZW rk)){i j:Nat}(hj:j < x.size)(hij:i<=j):rk (x[i]'(by omega))<=rk x[j]:=by
 rcases A9 i j with h1|h1
 ·have:=X3.mp h i j (by simpa using (by omega:i < x.size)) (by simpa using hj) h1
  simpa using this
 ·have:i=j:=by omega
  subst this
  exact G0 _
noncomputable def Po(rk:Keyed->Nat)(x y r:Array Keyed):Prop:=r.toList.Perm (x.toList++y.toList)/\r.toList.Pairwise (ZW rk)
theorem mF(H:Hy rk S x y){o:Array Keyed}{i j:Nat}(m:Mg (ZW rk) x.toList y.toList o.toList i j)(h:y.size<=j\/x.size<=i):Po rk x y (dn x y o i j):=by
 unfold Po
 rw[Pu]
 refine m.fin H.hx H.hy λv hv u hu=>?_
 obtain⟨n,hn,n1,_⟩:=DX hv
 obtain⟨k,hk,k1,_⟩:=DX hu
 omega
theorem Vq(H:Hy rk S x y){o:Array Keyed}{i j:Nat}(m:Mg (ZW rk) x.toList y.toList o.toList i j)(h:i+1=x.size):Po rk x y (ls x y o i j):=by
 unfold Po
 rw[Qu]
 refine m.finC H.hx H.hy λv hv u hu=>?_
 obtain⟨n,hn,n1,rfl⟩:=DX hv
 obtain⟨k,hk,k1,rfl⟩:=DX hu
 have:k=x.size - 1:=by omega
 subst this
 exact H.hl n hn
theorem DV{α:Type}(o:Array α)(z:α):(o.push z).toList=o.toList++[z]:=S6
structure J(rk:Keyed->Nat)(x y:Array Keyed)(N:Nat)(o:Array Keyed)(i j:Nat):Prop where
 m:Mg (ZW rk) x.toList y.toList o.toList i j
 hi:i+1 < x.size
 hj:j < y.size
 hN:N<=i+j
theorem J.pushX(H:Hy rk S x y){N:Nat}{o:Array Keyed}{i j:Nat}(m:Mg (ZW rk) x.toList y.toList o.toList i j)(hi:i < x.size)(h:∀n (hn:n < y.size),j<=n->rk x[i]<=rk y[n]):Mg (ZW rk) x.toList y.toList (o.push x[i]).toList (i+1) j:=by
 rw[DV]
 have:=m.oneA H.hx (by simpa using hi) λv hv=>by
  obtain⟨n,hn,n1,rfl⟩:=DX hv
  simpa using h n hn n1
 simpa using this
theorem J.pushY(H:Hy rk S x y){N:Nat}{o:Array Keyed}{i j:Nat}(m:Mg (ZW rk) x.toList y.toList o.toList i j)(hj:j < y.size)(h:∀n (hn:n < x.size),i<=n->rk y[j]<=rk x[n]):Mg (ZW rk) x.toList y.toList (o.push y[j]).toList i (j+1):=by
 rw[DV]
 have:=m.comm.oneA H.hy (by simpa using hj) λv hv=>by
  obtain⟨n,hn,n1,rfl⟩:=DX hv
  simpa using h n hn n1
 have:=this.comm
 simpa using this
noncomputable def RT(rk:Keyed->Nat)(x y:Array Keyed)(N:Nat)(c:Nu):Prop:=(∃t,c.1=some t/\Po rk x y t)\/(c.1=none/\J rk x y N c.2.1 c.2.2.1 c.2.2.2.1)
noncomputable def Gs(z z':SortSt):Prop:=∃g,z'=nK z g
theorem Gs.refl(z:SortSt):Gs z z:=⟨gallopOf z,rfl⟩
theorem Gs.set{z z':SortSt}(h:Gs z z')(g:Nat):Gs z (nK z' g):=by obtain⟨_,rfl⟩:=h;exact ⟨g,rfl⟩
theorem Gs.kind{z z':SortSt}(h:Gs z z'):kindOf z'=kindOf z:=by obtain⟨_,rfl⟩:=h;rfl
noncomputable def bO(rk:Keyed->Nat)(x y:Array Keyed)(N:Nat)(st:SortSt)(r:ForInStep Nu)(st':SortSt):Prop :=
 Gs st st'/\match r with
  | .done c=>RT rk x y N c
  | .yield c=>c.1=none/\J rk x y N c.2.1 c.2.2.1 c.2.2.2.1
theorem RB(H:Hy rk S x y){N:Nat}{o:Array Keyed}{i j g ac bc:Nat}{st st':SortSt}(hg:Gs st st')(m:Mg (ZW rk) x.toList y.toList o.toList i j)(hi:i+1 < x.size)(hj:j < y.size)(hN:N<=i+j+1)
  (h:∀n (hn:n < y.size),j<=n->rk (x[i]'(by omega))<=rk y[n]):wpS (model prog w) A E s (XN x y o i j g ac bc) (bO rk x y N st) st':=by
 unfold XN
 have m':=J.pushX H (N:=N) m (by omega) h
 refine wpS_bind (UQ (by omega) ?_)
 by_cases h1:i+1+1=x.size
 ·rw[if_pos (by simpa using h1)]
  exact wpS_pure ⟨hg,.inl ⟨_,rfl,Vq H m' h1⟩⟩
 ·rw[if_neg (by simpa using h1)]
  have jj:J rk x y N (o.push (x[i]'(by omega))) (i+1) j:=⟨m',by omega,hj,by omega⟩
  by_cases h2:(decide (ac < 7)&&decide (bc < 7))=true
  ·rw[if_pos h2]
   exact wpS_pure ⟨hg,.inr ⟨rfl,jj⟩⟩
  ·rw[if_neg h2]
   exact wpS_pure ⟨hg,rfl,jj⟩
theorem SB(q:dZ prog w A s κ rk S)(H:Hy rk S x y){N:Nat}{o:Array Keyed}{i j g ac bc:Nat}{st st':SortSt}(hk:kindOf st=κ)(hg:Gs st st')(m:Mg (ZW rk) x.toList y.toList o.toList i j)(hi:i+1 < x.size)(hj:j < y.size)(hN:N<=i+j+1)
  (h:∀n (hn:n < x.size),i<=n->rk (y[j]'(by omega))<=rk x[n]):wpS (model prog w) A E s (YN x y o i j g ac bc) (bO rk x y N st) st':=by
 unfold YN
 have m':=J.pushY H (N:=N) m hj h
 refine wpS_bind (UQ hj ?_)
 by_cases h1:j+1=y.size
 ·rw[if_pos (by simpa using h1)]
  exact wpS_pure ⟨hg,.inl ⟨_,rfl,mF H m' (.inl (by omega))⟩⟩
 ·rw[if_neg (by simpa using h1)]
  refine wpS_bind (UQ (by omega) ?_)
  refine wpS_bind (EZ q (hg.kind.trans hk) (H.Sx _ _) H.Sy (by omega) (λa b hb hab _ _=>XX H.hy hb hab) (by omega) λk kn k1 k2=>?_)
  dsimp only
  by_cases hk0:k > 0
  ·rw[if_pos hk0]
   have m2:Mg (ZW rk) x.toList y.toList (o.push (y[j]'hj)++y.extract (j+1) (j+1+k)).toList i (j+1+k):=by
    rw[V2,QB]
    refine (m'.comm.takeA H.hy k λv hv u hu=>?_).comm
    obtain⟨n,hn,n1,n2,rfl⟩:=MJ hv
    obtain⟨p,hp,p1,rfl⟩:=DX hu
    have:=k1 n hn n1 n2
    rw[if_pos rfl]at this
    have:=XX H.hx hp p1
    show rk _<=rk _
    omega
   by_cases h2:j+1+k=y.size
   ·rw[if_pos (by simpa using h2)]
    exact wpS_pure ⟨hg,.inl ⟨_,rfl,mF H m2 (.inl (by omega))⟩⟩
   ·rw[if_neg (by simpa using h2)]
    refine RB H hg m2 hi (by omega) (by omega) λn hn n1=>?_
    have:=k2 n hn (by omega) (by omega)
    rw[if_pos rfl]at this
    exact this
  ·rw[if_neg hk0]
   refine RB H hg m' hi (by omega) (by omega) λn hn n1=>?_
   have:=k2 n hn (by omega) (by omega)
   rw[if_pos rfl]at this
   exact this
theorem TB(q:dZ prog w A s κ rk S)(H:Hy rk S x y){N:Nat}{o:Array Keyed}{i j g ac bc:Nat}{st st':SortSt}(hk:kindOf st=κ)(hg:Gs st st')(m:Mg (ZW rk) x.toList y.toList o.toList i j)(hi:i+1 < x.size)(hj:j < y.size)(hN:N<=i+j+1) :
  wpS (model prog w) A E s (ZN x y o i j g ac bc) (bO rk x y N st) st':=by
 unfold ZN
 refine wpS_bind (wpS_modify ?_)
 have hg':=hg.set g
 refine wpS_bind (UQ hj ?_)
 refine wpS_bind (EZ q (hg'.kind.trans hk) (H.Sy _ _) H.Sx (by omega) (λa b hb hab _ _=>XX H.hx hb hab) (by omega) λk kn k1 k2=>?_)
 dsimp only
 by_cases hk0:k > 0
 ·rw[if_pos hk0]
  have m2:Mg (ZW rk) x.toList y.toList (o++x.extract i (i+k)).toList (i+k) j:=by
   rw[V2,QB]
   refine m.takeA H.hx k λv hv u hu=>?_
   obtain⟨n,hn,n1,n2,rfl⟩:=MJ hv
   obtain⟨p,hp,p1,rfl⟩:=DX hu
   have:=k1 n hn n1 n2
   rw[if_neg (by decide)]at this
   have:=XX H.hy hp p1
   show rk _<=rk _
   omega
  by_cases h2:i+k+1=x.size
  ·rw[if_pos (by simpa using h2)]
   exact wpS_pure ⟨hg',.inl ⟨_,rfl,Vq H m2 h2⟩⟩
  ·rw[if_neg (by simpa using h2)]
   by_cases h3:i+k=x.size
   ·rw[if_pos (by simpa using h3)]
    exact wpS_pure ⟨hg',.inl ⟨_,rfl,mF H m2 (.inr (by omega))⟩⟩
   ·rw[if_neg (by simpa using h3)]
    refine SB q H hk hg' m2 (by omega) hj (by omega) λn hn n1=>?_
    have:=k2 n hn (by omega) (by omega)
    rw[if_neg (by decide)]at this
    omega
 ·rw[if_neg hk0]
  refine SB q H hk hg' m hi hj (by omega) λn hn n1=>?_
  have:=k2 n hn (by omega) (by omega)
  rw[if_neg (by decide)]at this
  omega
theorem WM(q:dZ prog w A s κ rk S)(H:Hy rk S x y){N:Nat}{c:Nu}{st st':SortSt}(hk:kindOf st=κ)(hg:Gs st st')(hJ:J rk x y N c.2.1 c.2.2.1 c.2.2.2.1) :
  wpS (model prog w) A E s (VO x y c) (bO rk x y (N+1) st) st':=by
 unfold VO
 have:=hJ.hN
 split
 ·exact TB q H hk hg hJ.m hJ.hi hJ.hj (by omega)
 ·exact TB q H hk hg hJ.m hJ.hi hJ.hj (by omega)
theorem XM(q:dZ prog w A s κ rk S)(H:Hy rk S x y){N g:Nat}{c:VN}{st:SortSt}(hk:kindOf st=κ)(hJ:J rk x y N c.2.1 c.2.2.1 c.2.2.2.1) :
  wpS (model prog w) A E s (WO x y g c) (λr st'=>st'=st/\match r with
    | .done c=>(∃t,c.1=some t/\Po rk x y t)\/(c.1=none/\J rk x y (N+1) c.2.1 c.2.2.1 c.2.2.2.1)
    | .yield c=>c.1=none/\J rk x y (N+1) c.2.1 c.2.2.1 c.2.2.2.1) st:=by
 unfold WO
 obtain⟨m,hi,hj,hN⟩:=hJ
 refine wpS_bind (UQ hj ?_)
 refine wpS_bind (UQ (by omega) ?_)
 refine wpS_bind (w_lt q hk (H.Sy _ _) (H.Sx _ _) ?_)
 dsimp only
 by_cases hlt:rk (y[c.2.2.2.1]'hj) < rk (x[c.2.2.1]'(by omega))
 ·rw[if_pos (by simpa using hlt)]
  have m':=J.pushY H (N:=N) m hj λn hn n1=>by have:=XX H.hx hn n1;omega
  refine wpS_bind (UQ hj ?_)
  by_cases h1:c.2.2.2.1+1=y.size
  ·rw[if_pos (by simpa using h1)]
   exact wpS_pure ⟨rfl,.inl ⟨_,rfl,mF H m' (.inl (by omega))⟩⟩
  ·rw[if_neg (by simpa using h1)]
   have jj:J rk x y (N+1) (c.2.1.push (y[c.2.2.2.1]'hj)) c.2.2.1 (c.2.2.2.1+1):=⟨m',hi,by omega,by omega⟩
   split
   ·exact wpS_pure ⟨rfl,.inr ⟨rfl,jj⟩⟩
   ·exact wpS_pure ⟨rfl,rfl,jj⟩
 ·rw[if_neg (by simpa using hlt)]
  have m':=J.pushX H (N:=N) m (by omega) λn hn n1=>by have:=XX H.hy hn n1;omega
  refine wpS_bind (UQ (by omega) ?_)
  by_cases h1:c.2.2.1+1+1=x.size
  ·rw[if_pos (by simpa using h1)]
   exact wpS_pure ⟨rfl,.inl ⟨_,rfl,Vq H m' h1⟩⟩
  ·rw[if_neg (by simpa using h1)]
   have jj:J rk x y (N+1) (c.2.1.push (x[c.2.2.1]'(by omega))) (c.2.2.1+1) c.2.2.2.1:=⟨m',by omega,hj,by omega⟩
   split
   ·exact wpS_pure ⟨rfl,.inr ⟨rfl,jj⟩⟩
   ·exact wpS_pure ⟨rfl,rfl,jj⟩
theorem YM(q:dZ prog w A s κ rk S)(H:Hy rk S x y){N:Nat}{c:WN}{st st':SortSt}(hk:kindOf st=κ)(hg:Gs st st')(hJ:J rk x y N c.2.1 c.2.2.1 c.2.2.2.1) :
  wpS (model prog w) A E s (aO x y c) (λr st'=>Gs st st'/\match r with
    | .done c=>∃t,c.1=some t/\Po rk x y t
    | .yield c=>c.1=none/\J rk x y (N+1) c.2.1 c.2.2.1 c.2.2.2.1) st':=by
 unfold aO
 refine wpS_bind (wpS_mono (wpS_forRange (I:=λn c st''=>st''=st'/\c.1=none/\J rk x y (N+n) c.2.1 c.2.2.1 c.2.2.2.1)
   (Q:=λc st''=>st''=st'/\((∃t,c.1=some t/\Po rk x y t)\/(c.1=none/\J rk x y N c.2.1 c.2.2.1 c.2.2.2.1))) ?step ?fin ⟨rfl,rfl,hJ⟩) ?post)
 case fin =>
  rintro c st'' ⟨rfl,_,h⟩
  have h1:=h.hi
  have h2:=h.hj
  have h3:=h.hN
  omega
 case step =>
  rintro n c st'' _ _ ⟨rfl,_,h⟩
  refine wpS_mono (XM q H (hg.kind.trans hk) h) ?_
  rintro r st3 ⟨rfl,h⟩
  cases r with
  | done c =>
   refine ⟨rfl,h.imp id λh=>⟨h.1,h.2.m,h.2.hi,h.2.hj,?_⟩⟩
   have:=h.2.hN
   omega
  | yield c=>exact ⟨rfl,h.1,h.2⟩
 case post =>
  rintro c st'' ⟨rfl,h⟩
  obtain⟨r,c⟩:=c
  rcases h with⟨t,e,h⟩|⟨e,h⟩
  ·cases e
   exact wpS_pure ⟨hg,_,rfl,h⟩
  ·cases e
   dsimp only
   refine wpS_bind (wpS_lift (wpAny_rule ⟨rfl,?_⟩))
   refine wpS_bind (wpS_mono (wpS_forRange (I:=λn c st''=>Gs st st''/\c.1=none/\J rk x y (N+n) c.2.1 c.2.2.1 c.2.2.2.1)
     (Q:=λc st''=>Gs st st''/\RT rk x y (N+1) c) ?step2 ?fin2 ⟨hg,rfl,h⟩) ?post2)
   case fin2 =>
    rintro c st'' ⟨_,_,h⟩
    have h1:=h.hi
    have h2:=h.hj
    have h3:=h.hN
    omega
   case step2 =>
    rintro n c st'' _ _ ⟨hg2,_,h⟩
    refine wpS_mono (WM q H hk hg2 h) ?_
    rintro r st3 ⟨hg3,h⟩
    cases r with
    | done c =>
     refine ⟨hg3,Or.imp id (λh=>⟨h.1,h.2.m,h.2.hi,h.2.hj,?_⟩) h⟩
     have:=h.2.hN
     omega
    | yield c=>exact ⟨hg3,h.1,h.2⟩
   case post2 =>
    rintro c st'' ⟨hg2,h⟩
    obtain⟨r,c⟩:=c
    rcases h with⟨t,e,h⟩|⟨e,h⟩
    ·cases e
     exact wpS_pure ⟨hg2,_,rfl,h⟩
    ·cases e
     exact wpS_bind (wpS_modify (wpS_pure ⟨hg2.set _,rfl,h⟩))
theorem ZM(q:dZ prog w A s κ rk S)(H:Hy rk S x y){st:SortSt}{Q:Array Keyed->SortSt->Prop}(hk:kindOf st=κ)(h:∀r st',Gs st st'->Po rk x y r->Q r st'):wpS (model prog w) A E s (TN x y) Q st:=by
 rw[BI]
 refine wpS_bind (wpS_lift (wpAny_rule ⟨rfl,?_⟩))
 refine wpS_bind (UQ H.y0 ?_)
 have m0:Mg (ZW rk) x.toList y.toList (#[]:Array Keyed).toList 0 0:=⟨by simp,by simp,by simp,by simp⟩
 have m1:=J.pushY H (N:=0) m0 H.y0 λn hn _=>H.hf n hn
 have e1:(#[]:Array Keyed).push (y[0]'H.y0)=#[y[0]'H.y0]:=rfl
 rw[e1]at m1
 have hy0:=H.y0
 have hx0:=H.x0
 by_cases h1:1=y.size
 ·rw[if_pos (by simpa using h1)]
  exact wpS_pure (h _ _ (Gs.refl _) (mF H m1 (.inl (by omega))))
 ·rw[if_neg (by simpa using h1)]
  by_cases h2:0+1=x.size
  ·rw[if_pos (by simpa using h2)]
   exact wpS_pure (h _ _ (Gs.refl _) (Vq H m1 h2))
  ·rw[if_neg (by simpa using h2)]
   refine wpS_bind (wpS_get ?_)
   refine wpS_bind (wpS_mono (wpS_forRange (I:=λn c st''=>Gs st st''/\c.1=none/\J rk x y n c.2.1 c.2.2.1 c.2.2.2.1)
     (Q:=λc st''=>Gs st st''/\∃t,c.1=some t/\Po rk x y t) ?step ?fin ⟨Gs.refl _,rfl,m1,by show 0+1 < x.size;omega,by show 1 < y.size;omega,by omega⟩) ?post)
   case fin =>
    rintro c st'' ⟨_,_,h⟩
    have h1:=h.hi
    have h2:=h.hj
    have h3:=h.hN
    omega
   case step =>
    rintro n c st'' _ _ ⟨hg2,_,h⟩
    refine wpS_mono (YM q H hk hg2 h) ?_
    rintro r st3 ⟨hg3,h⟩
    cases r with
    | done c=>exact ⟨hg3,h⟩
    | yield c=>exact ⟨hg3,h⟩
   case post =>
    rintro c st'' ⟨hg2,t,e,hP⟩
    obtain⟨r,c⟩:=c
    cases e
    exact wpS_pure (h _ _ hg2 hP)
end
noncomputable abbrev Ru:=Option (Array Keyed)×Nat×Nat×Array Keyed×Nat×Nat×Nat
noncomputable abbrev cO:=Option (Array Keyed)×Nat×Nat×Array Keyed×Nat×Nat
noncomputable abbrev dO:=Option (Array Keyed)×Nat×Nat×Array Keyed×Nat
section
variable (x y:Array Keyed)
noncomputable def Zv(o:Array Keyed)(i j:Nat):Array Keyed:=x.extract 0 i++y.extract 0 j++o.reverse
noncomputable def wL(o:Array Keyed)(i j:Nat):Array Keyed:=y.extract 0 j++x.extract 0 i++o.reverse
noncomputable def hi2(i j:Nat)(o:Array Keyed)(g ac bc:Nat):StateT SortSt Sem (ForInStep Ru):=do
 let z<-elem' x (i - 1)
 if (i - 1==0)=true then pure (.done (some (Zv x y (o.push z) (i - 1) j),i - 1,j,o.push z,g,ac,bc))
 else if (decide (ac < 7)&&decide (bc < 7))=true then pure (.done (none,i - 1,j,o.push z,g,ac,bc))
 else pure (.yield (none,i - 1,j,o.push z,g,ac,bc))
noncomputable def hi1(i j:Nat)(o:Array Keyed)(g ac bc:Nat):StateT SortSt Sem (ForInStep Ru):=do
 let z<-elem' y (j - 1)
 if (j - 1==1)=true then pure (.done (some (wL x y (o.push z) i (j - 1)),i,j - 1,o.push z,g,ac,bc))
 else do
  let u<-elem' x (i - 1)
  let some p<-Fj true u y 0 (j - 1) (j - 1 - 1)|pure (.done (some (Zv x y (o.push z) i (j - 1)),i,j - 1,o.push z,g,ac,bc))
  if j - 1 - p > 0 then
   if (p==1)=true then pure (.done (some (wL x y (o.push z++(y.extract p (j - 1)).reverse) i p),i,p,o.push z++(y.extract p (j - 1)).reverse,g,ac,j - 1 - p))
   else if (p==0)=true then pure (.done (some (Zv x y (o.push z++(y.extract p (j - 1)).reverse) i p),i,p,o.push z++(y.extract p (j - 1)).reverse,g,ac,j - 1 - p))
   else hi2 x y i p (o.push z++(y.extract p (j - 1)).reverse) g ac (j - 1 - p)
  else hi2 x y i (j - 1) (o.push z) g ac (j - 1 - p)
noncomputable def eO(i j:Nat)(o:Array Keyed)(g ac bc:Nat):StateT SortSt Sem (ForInStep Ru):=do
 modify λv=>nK v g
 let z<-elem' y (j - 1)
 let some p<-Fj false z x 0 i (i - 1)|pure (.done (some (Zv x y o i j),i,j,o,g,ac,bc))
 if i - p > 0 then
   if (p==0)=true then pure (.done (some (Zv x y (o++(x.extract p i).reverse) p j),p,j,o++(x.extract p i).reverse,g,i - p,bc))
   else hi1 x y p j (o++(x.extract p i).reverse) g (i - p) bc
 else hi1 x y i j o g (i - p) bc
noncomputable def XO(t:Ru):StateT SortSt Sem (ForInStep Ru) :=
 if t.2.2.2.2.1 > 1 then eO x y t.2.1 t.2.2.1 t.2.2.2.1 (t.2.2.2.2.1 - 1) t.2.2.2.2.2.1 t.2.2.2.2.2.2
 else eO x y t.2.1 t.2.2.1 t.2.2.2.1 t.2.2.2.2.1 t.2.2.2.2.2.1 t.2.2.2.2.2.2
noncomputable def YO(g:Nat)(t:cO):StateT SortSt Sem (ForInStep cO):=do
 let z<-elem' y (t.2.2.1 - 1)
 let u<-elem' x (t.2.1 - 1)
 let some xw<-lt' z u|pure (.done (some (Zv x y t.2.2.2.1 t.2.1 t.2.2.1),t.2.1,t.2.2.1,t.2.2.2.1,t.2.2.2.2.1,t.2.2.2.2.2))
 if xw=true then do
   let z<-elem' x (t.2.1 - 1)
   if (t.2.1 - 1==0)=true then pure (.done (some (Zv x y (t.2.2.2.1.push z) (t.2.1 - 1) t.2.2.1),t.2.1 - 1,t.2.2.1,t.2.2.2.1.push z,t.2.2.2.2.1+1,0))
   else if t.2.2.2.2.1+1 ≥ g then pure (.done (none,t.2.1 - 1,t.2.2.1,t.2.2.2.1.push z,t.2.2.2.2.1+1,0))
   else pure (.yield (none,t.2.1 - 1,t.2.2.1,t.2.2.2.1.push z,t.2.2.2.2.1+1,0))
 else do
   let z<-elem' y (t.2.2.1 - 1)
   if (t.2.2.1 - 1==1)=true then pure (.done (some (wL x y (t.2.2.2.1.push z) t.2.1 (t.2.2.1 - 1)),t.2.1,t.2.2.1 - 1,t.2.2.2.1.push z,0,t.2.2.2.2.2+1))
   else if t.2.2.2.2.2+1 ≥ g then pure (.done (none,t.2.1,t.2.2.1 - 1,t.2.2.2.1.push z,0,t.2.2.2.2.2+1))
   else pure (.yield (none,t.2.1,t.2.2.1 - 1,t.2.2.2.1.push z,0,t.2.2.2.2.2+1))
noncomputable def fO(t:dO):StateT SortSt Sem (ForInStep dO):=do
 let v<-forIn [:x.size+y.size] ((none,t.2.1,t.2.2.1,t.2.2.2.1,0,0):cO) λ_ v=>YO x y t.2.2.2.2 v
 match v.1 with
 | some r=>pure (.done (some r,v.2.1,v.2.2.1,v.2.2.2.1,t.2.2.2.2))
 | none=>do
  liftM (rule "list.sort.gallop")
  let u<-forIn [:x.size+y.size] ((none,v.2.1,v.2.2.1,v.2.2.2.1,t.2.2.2.2+1,v.2.2.2.2.1,v.2.2.2.2.2):Ru) λ_ u=>XO x y u
  match u.1 with
  | some r=>pure (.done (some r,u.2.1,u.2.2.1,u.2.2.2.1,u.2.2.2.2.1))
  | none=>do
   modify λz=>nK z (u.2.2.2.2.1+1)
   pure (.yield (none,u.2.1,u.2.2.1,u.2.2.2.1,u.2.2.2.2.1+1))
end
theorem Su(x y:Array Keyed):UN x y=(do
    rule "list.sort.merge-hi"
    let tt:=x.size+y.size
    let dn (o:Array Keyed) (i j:Nat):=x.extract 0 i++y.extract 0 j++o.reverse
    let fs (o:Array Keyed) (i j:Nat):=y.extract 0 j++x.extract 0 i++o.reverse
    let mut i:=x.size - 1
    let mut j:=y.size
    let mut o:Array Keyed:=#[<- elem' x i]
    if i==0 then return dn o i j
    if j==1 then return fs o i j
    let mut g:=gallopOf (<- get)
    for _ in [0:tt] do
      let mut ac:=0
      let mut bc:=0
      for _ in [0:tt] do
        let some xw<-lt' (<- elem' y (j - 1)) (<- elem' x (i - 1))|return dn o i j
        if xw then
          i:=i - 1;o:=o.push (<- elem' x i);ac:=ac+1;bc:=0
          if i==0 then return dn o i j
          if ac ≥ g then break
        else
          j:=j - 1;o:=o.push (<- elem' y j);bc:=bc+1;ac:=0
          if j==1 then return fs o i j
          if bc ≥ g then break
      rule "list.sort.gallop"
      g:=g+1
      for _ in [0:tt] do
        if g > 1 then g:=g - 1
        modify (nK · g)
        let some p<-Fj false (<- elem' y (j - 1)) x 0 i (i - 1)|return dn o i j
        let k:=i - p
        ac:=k
        if k > 0 then
          o:=o++(x.extract p i).reverse;i:=p
          if i==0 then return dn o i j
        j:=j - 1;o:=o.push (<- elem' y j)
        if j==1 then return fs o i j
        let some p<-Fj true (<- elem' x (i - 1)) y 0 j (j - 1)|return dn o i j
        let k:=j - p
        bc:=k
        if k > 0 then
          o:=o++(y.extract p j).reverse;j:=p
          if j==1 then return fs o i j
          if j==0 then return dn o i j
        i:=i - 1;o:=o.push (<- elem' x i)
        if i==0 then return dn o i j
        if ac < 7&&bc < 7 then break
      g:=g+1
      modify (nK · g)
    unsupported "internal:list.sort.merge-bound"):=rfl
theorem CI(x y:Array Keyed):UN x y=(do
    liftM (rule "list.sort.merge-hi")
    let z<-elem' x (x.size - 1)
    if (x.size - 1==0)=true then pure (Zv x y #[z] (x.size - 1) y.size)
    else if (y.size==1)=true then pure (wL x y #[z] (x.size - 1) y.size)
    else do
      let s<-get
      let v<-forIn [:x.size+y.size] ((none,x.size - 1,y.size,#[z],gallopOf s):dO) λ_ v=>fO x y v
      match v.1 with
      | some r=>pure r
      | none=>unsupported "internal:list.sort.merge-bound"):=by
 rw[Su]
 dsimp only
 refine congrArg (bind _) (funext λ_=>?_)
 refine congrArg (bind _) (funext λz=>?_)
 refine congr (congrArg _ rfl) ?_
 refine congr (congrArg _ rfl) ?_
 refine congrArg (bind _) (funext λs=>?_)
 refine congr (congrArg bind ?A) (funext λv=>by obtain⟨r,v⟩:=v;cases r<;>rfl)
 refine congrArg _ (funext λ_=>funext λv=>?_)
 unfold fO
 refine congr (congrArg bind rfl) (funext λv=>?_)
 obtain⟨r,v⟩:=v
 cases r with
 | some r=>rfl
 | none =>
  refine congrArg (bind _) (funext λ_=>?_)
  refine congr (congrArg bind ?A2) (funext λv=>by obtain⟨r,v⟩:=v;cases r<;>rfl)
  rfl
section
variable {α:Type}{x:Array α}{i j k:Nat}
theorem FZ(hi:i<=x.size):x.toList.reverse.drop (x.size - i)=(x.toList.take i).reverse:=by
 rw[List.drop_reverse,V0,Nat.sub_sub_self hi]
theorem mJ{v:α}(hi:i<=x.size)(h:v∈x.toList.reverse.drop (x.size - i)):∃(n:Nat) (hn:n < x.size),n < i/\v=x[n]:=by
 rw[FZ hi,m8]at h
 obtain⟨n,hn,e⟩:=O4 h
 rw[S3,V0]at hn
 refine ⟨n,by omega,by omega,?_⟩
 rw[<- e,List.getElem_take,A3]
theorem vU(hk:k<=i)(hi:i<=x.size):(x.extract k i).reverse.toList=(x.toList.reverse.drop (x.size - i)).take (i - k):=by
 rw[x6,J4,j3,FZ hi,List.take_reverse,S3,V0,Nat.min_eq_left hi,Nat.sub_sub_self hk,List.drop_take]
theorem Wq:(x.extract 0 i).toList=x.toList.take i:=by
 rw[J4,j3,List.drop_zero,M7]
end
section
variable {prog:Program}{w:World}{A:Around}{E:Value->Shared->Prop}{s:Shared}{κ:SortKind}{rk:Keyed->Nat}{S:Keyed->Prop}{x y:Array Keyed}
noncomputable abbrev LP(rk:Keyed->Nat):Keyed->Keyed->Prop:=λa b=>rk b<=rk a
structure MH(rk:Keyed->Nat)(x y:Array Keyed)(o:Array Keyed)(i j:Nat):Prop where
 m:Mg (LP rk) x.toList.reverse y.toList.reverse o.toList (x.size - i) (y.size - j)
 hi:i<=x.size
 hj:j<=y.size
theorem MH.comm{o:Array Keyed}{i j:Nat}(h:MH rk x y o i j):MH rk y x o j i:=⟨h.m.comm,h.hj,h.hi⟩
theorem MH.chunk(hx:x.toList.Pairwise (ZW rk)){o:Array Keyed}{i j p:Nat}(h:MH rk x y o i j)(hp:p<=i)(hk:∀n (hn:n < x.size) k (hk:k < y.size),p<=n->n < i->k < j->rk y[k]<=rk x[n]) :
  MH rk x y (o++(x.extract p i).reverse) p j:=by
 have hi:=h.hi
 refine ⟨?_,by omega,h.hj⟩
 rw[V2,vU hp hi]
 have e:x.size - p=x.size - i+(i - p):=by omega
 rw[e]
 refine h.m.takeA (T4.mpr hx) (i - p) λv hv u hu=>?_
 obtain⟨k,hk1,hk2,rfl⟩:=mJ h.hj hu
 rw[<- vU hp hi,x6,m8,J4,j3]at hv
 obtain⟨n,hn,n1,n2,rfl⟩:=MJ hv
 exact hk n hn k hk1 n1 (by omega) hk2
theorem MH.push(hx:x.toList.Pairwise (ZW rk)){o:Array Keyed}{i j:Nat}(h:MH rk x y o i j)(h0:0 < i)(hk:∀k (hk:k < y.size),k < j->rk y[k]<=rk (x[i - 1]'(by have:=h.hi;omega))) :
  MH rk x y (o.push (x[i - 1]'(by have:=h.hi;omega))) (i - 1) j:=by
 have hi:=h.hi
 have e:o.push (x[i - 1]'(by omega))=o++(x.extract (i - 1) i).reverse:=by
  apply Array.toList_inj.mp
  rw[S6,V2,vU (by omega) hi,show i - (i - 1)=1 by omega,S4 (by simp;omega)]
  simp only[List.take_succ_cons,List.take_zero,List.getElem_reverse,A3,V0]
  congr 3
  omega
 rw[e]
 refine h.chunk hx (by omega) λn hn k hk1 n1 n2 k2=>?_
 have:n=i - 1:=by omega
 subst this
 exact hk k hk1 k2
theorem Xq{a b o r:List Keyed}(h:(o++a++b).Perm (x.toList.reverse++y.toList.reverse)/\(o++a++b).Pairwise (LP rk))(e:r=(o++a++b).reverse):r.Perm (x.toList++y.toList)/\r.Pairwise (ZW rk):=by
 subst e
 exact ⟨((X7 _).trans h.1).trans ((X7 _).append (X7 _)),T4.mpr h.2⟩
theorem nW(H:Hy rk S x y){o:Array Keyed}{i j:Nat}(m:MH rk x y o i j)(h:i=0\/j=0):Po rk x y (Zv x y o i j):=by
 refine Xq (m.m.finC (T4.mpr H.hx) (T4.mpr H.hy) λv hv u hu=>?_) ?_
 ·obtain⟨n,hn,n1,_⟩:=mJ m.hj hv
  obtain⟨k,hk,k1,_⟩:=mJ m.hi hu
  omega
 ·unfold Zv
  rw[V2,V2,Wq,Wq,FZ m.hi,FZ m.hj,x6]
  simp
theorem wU(H:Hy rk S x y){o:Array Keyed}{i j:Nat}(m:MH rk x y o i j)(h:j=1):Po rk x y (wL x y o i j):=by
 refine Xq (m.m.fin (T4.mpr H.hx) (T4.mpr H.hy) λv hv u hu=>?_) ?_
 ·obtain⟨n,hn,n1,rfl⟩:=mJ m.hi hv
  obtain⟨k,hk,k1,rfl⟩:=mJ m.hj hu
  have:k=0:=by omega
  subst this
  exact H.hf n hn
 ·unfold wL
  rw[V2,V2,Wq,Wq,FZ m.hi,FZ m.hj,x6]
  simp
structure JH(rk:Keyed->Nat)(x y:Array Keyed)(N:Nat)(i j:Nat)(o:Array Keyed):Prop where
 m:MH rk x y o i j
 hi:1<=i
 hj:2<=j
 hN:N+i+j<=x.size+y.size
noncomputable def RH(rk:Keyed->Nat)(x y:Array Keyed)(N:Nat)(c:Ru):Prop:=(∃t,c.1=some t/\Po rk x y t)\/(c.1=none/\JH rk x y N c.2.1 c.2.2.1 c.2.2.2.1)
noncomputable def iO(rk:Keyed->Nat)(x y:Array Keyed)(N:Nat)(st:SortSt)(r:ForInStep Ru)(st':SortSt):Prop :=
 Gs st st'/\match r with
  | .done c=>RH rk x y N c
  | .yield c=>c.1=none/\JH rk x y N c.2.1 c.2.2.1 c.2.2.2.1
theorem UB(H:Hy rk S x y){N:Nat}{o:Array Keyed}{i j g ac bc:Nat}{st st':SortSt}(hg:Gs st st')(m:MH rk x y o i j)(hi:1<=i)(hj:2<=j)(hN:N+i+j<=x.size+y.size+1)
  (h:∀n (hn:n < y.size),n < j->rk y[n]<=rk (x[i - 1]'(by have:=m.hi;omega))):wpS (model prog w) A E s (hi2 x y i j o g ac bc) (iO rk x y N st) st':=by
 unfold hi2
 have hi':=m.hi
 have m':=m.push H.hx hi h
 refine wpS_bind (UQ (by omega) ?_)
 by_cases h1:i - 1=0
 ·rw[if_pos (by simpa using h1)]
  exact wpS_pure ⟨hg,.inl ⟨_,rfl,nW H m' (.inl h1)⟩⟩
 ·rw[if_neg (by simpa using h1)]
  have jj:JH rk x y N (i - 1) j (o.push (x[i - 1]'(by omega))):=⟨m',by omega,hj,by omega⟩
  by_cases h2:(decide (ac < 7)&&decide (bc < 7))=true
  ·rw[if_pos h2]
   exact wpS_pure ⟨hg,.inr ⟨rfl,jj⟩⟩
  ·rw[if_neg h2]
   exact wpS_pure ⟨hg,rfl,jj⟩
theorem VB(q:dZ prog w A s κ rk S)(H:Hy rk S x y){N:Nat}{o:Array Keyed}{i j g ac bc:Nat}{st st':SortSt}(hk:kindOf st=κ)(hg:Gs st st')(m:MH rk x y o i j)(hi:1<=i)(hj:2<=j)(hN:N+i+j<=x.size+y.size+1)
  (h:∀n (hn:n < x.size),n < i->rk x[n]<=rk (y[j - 1]'(by have:=m.hj;omega))):wpS (model prog w) A E s (hi1 x y i j o g ac bc) (iO rk x y N st) st':=by
 unfold hi1
 have hi':=m.hi
 have hj':=m.hj
 have m':=(m.comm.push H.hy (by omega) h).comm
 refine wpS_bind (UQ (by omega) ?_)
 by_cases h1:j - 1=1
 ·rw[if_pos (by simpa using h1)]
  exact wpS_pure ⟨hg,.inl ⟨_,rfl,wU H m' h1⟩⟩
 ·rw[if_neg (by simpa using h1)]
  refine wpS_bind (UQ (by omega) ?_)
  refine wpS_bind (EZ q (hg.kind.trans hk) (H.Sx _ _) H.Sy (by omega) (λa b hb hab _ _=>XX H.hy hb hab) (by omega) λp pn k1 k2=>?_)
  dsimp only
  have k1':∀n (hn:n < y.size),n < p->rk y[n] < rk (x[i - 1]'(by omega)):=λn hn hp=>by
   have:=k1 n hn (i4 _) (by omega)
   rw[if_pos rfl]at this
   exact this
  by_cases hk0:j - 1 - p > 0
  ·rw[if_pos hk0]
   have m2:=(m'.comm.chunk H.hy (p:=p) pn λn hn k hk1 n1 n2 n3=>by
     have:=k2 n hn (by omega) (by omega)
     rw[if_pos rfl]at this
     have:=XX H.hx (i:=k) (j:=i - 1) (by omega) (by omega)
     omega).comm
   by_cases h2:p=1
   ·rw[if_pos (by simpa using h2)]
    exact wpS_pure ⟨hg,.inl ⟨_,rfl,wU H m2 h2⟩⟩
   ·rw[if_neg (by simpa using h2)]
    by_cases h3:p=0
    ·rw[if_pos (by simpa using h3)]
     exact wpS_pure ⟨hg,.inl ⟨_,rfl,nW H m2 (.inr h3)⟩⟩
    ·rw[if_neg (by simpa using h3)]
     exact UB H hg m2 hi (by omega) (by omega) λn hn n1=>o5 (k1' n hn n1)
  ·rw[if_neg hk0]
   exact UB H hg m' hi (by omega) (by omega) λn hn n1=>o5 (k1' n hn (by omega))
theorem WB(q:dZ prog w A s κ rk S)(H:Hy rk S x y){N:Nat}{o:Array Keyed}{i j g ac bc:Nat}{st st':SortSt}(hk:kindOf st=κ)(hg:Gs st st')(m:MH rk x y o i j)(hi:1<=i)(hj:2<=j)(hN:N+i+j<=x.size+y.size+1) :
  wpS (model prog w) A E s (eO x y i j o g ac bc) (iO rk x y N st) st':=by
 unfold eO
 have hi':=m.hi
 have hj':=m.hj
 refine wpS_bind (wpS_modify ?_)
 have hg':=hg.set g
 refine wpS_bind (UQ (by omega) ?_)
 refine wpS_bind (EZ q (hg'.kind.trans hk) (H.Sy _ _) H.Sx (by omega) (λa b hb hab _ _=>XX H.hx hb hab) (by omega) λp pn k1 k2=>?_)
 dsimp only
 have k1':∀n (hn:n < x.size),n < p->rk x[n]<=rk (y[j - 1]'(by omega)):=λn hn hp=>by
  have:=k1 n hn (i4 _) (by omega)
  rw[if_neg (by decide)]at this
  exact this
 by_cases hk0:i - p > 0
 ·rw[if_pos hk0]
  have m2:=m.chunk H.hx (p:=p) pn λn hn k hk1 n1 n2 n3=>by
   have:=k2 n hn (by omega) (by omega)
   rw[if_neg (by decide)]at this
   have:=XX H.hy (i:=k) (j:=j - 1) (by omega) (by omega)
   omega
  by_cases h3:p=0
  ·rw[if_pos (by simpa using h3)]
   exact wpS_pure ⟨hg',.inl ⟨_,rfl,nW H m2 (.inl h3)⟩⟩
  ·rw[if_neg (by simpa using h3)]
   exact VB q H hk hg' m2 (by omega) hj (by omega) k1'
 ·rw[if_neg hk0]
  exact VB q H hk hg' m hi hj (by omega) λn hn n1=>k1' n hn (by omega)
theorem aN(q:dZ prog w A s κ rk S)(H:Hy rk S x y){N:Nat}{c:Ru}{st st':SortSt}(hk:kindOf st=κ)(hg:Gs st st')(hJ:JH rk x y N c.2.1 c.2.2.1 c.2.2.2.1) :
  wpS (model prog w) A E s (XO x y c) (iO rk x y (N+1) st) st':=by
 unfold XO
 have:=hJ.hN
 split
 ·exact WB q H hk hg hJ.m hJ.hi hJ.hj (by omega)
 ·exact WB q H hk hg hJ.m hJ.hi hJ.hj (by omega)
theorem bN(q:dZ prog w A s κ rk S)(H:Hy rk S x y){N g:Nat}{c:cO}{st:SortSt}(hk:kindOf st=κ)(hJ:JH rk x y N c.2.1 c.2.2.1 c.2.2.2.1) :
  wpS (model prog w) A E s (YO x y g c) (λr st'=>st'=st/\match r with
    | .done c=>(∃t,c.1=some t/\Po rk x y t)\/(c.1=none/\JH rk x y (N+1) c.2.1 c.2.2.1 c.2.2.2.1)
    | .yield c=>c.1=none/\JH rk x y (N+1) c.2.1 c.2.2.1 c.2.2.2.1) st:=by
 unfold YO
 obtain⟨m,hi,hj,hN⟩:=hJ
 have hi':=m.hi
 have hj':=m.hj
 refine wpS_bind (UQ (by omega) ?_)
 refine wpS_bind (UQ (by omega) ?_)
 refine wpS_bind (w_lt q hk (H.Sy _ _) (H.Sx _ _) ?_)
 dsimp only
 by_cases hlt:rk (y[c.2.2.1 - 1]'(by omega)) < rk (x[c.2.1 - 1]'(by omega))
 ·rw[if_pos (by simpa using hlt)]
  have m':=m.push H.hx hi λn hn n1=>by have:=XX H.hy (i:=n) (j:=c.2.2.1 - 1) (by omega) (by omega);omega
  refine wpS_bind (UQ (by omega) ?_)
  by_cases h1:c.2.1 - 1=0
  ·rw[if_pos (by simpa using h1)]
   exact wpS_pure ⟨rfl,.inl ⟨_,rfl,nW H m' (.inl h1)⟩⟩
  ·rw[if_neg (by simpa using h1)]
   have jj:JH rk x y (N+1) (c.2.1 - 1) c.2.2.1 (c.2.2.2.1.push (x[c.2.1 - 1]'(by omega))):=⟨m',by omega,hj,by omega⟩
   split
   ·exact wpS_pure ⟨rfl,.inr ⟨rfl,jj⟩⟩
   ·exact wpS_pure ⟨rfl,rfl,jj⟩
 ·rw[if_neg (by simpa using hlt)]
  have m':=(m.comm.push H.hy (by omega) λn hn n1=>by have:=XX H.hx (i:=n) (j:=c.2.1 - 1) (by omega) (by omega);omega).comm
  refine wpS_bind (UQ (by omega) ?_)
  by_cases h1:c.2.2.1 - 1=1
  ·rw[if_pos (by simpa using h1)]
   exact wpS_pure ⟨rfl,.inl ⟨_,rfl,wU H m' h1⟩⟩
  ·rw[if_neg (by simpa using h1)]
   have jj:JH rk x y (N+1) c.2.1 (c.2.2.1 - 1) (c.2.2.2.1.push (y[c.2.2.1 - 1]'(by omega))):=⟨m',by omega,by omega,by omega⟩
   split
   ·exact wpS_pure ⟨rfl,.inr ⟨rfl,jj⟩⟩
   ·exact wpS_pure ⟨rfl,rfl,jj⟩
theorem JH.false{N i j:Nat}{o:Array Keyed}(h:JH rk x y N i j o)(hN:x.size+y.size<=N):False:=by
 have h1:=h.hi
 have h2:=h.hj
 have h3:=h.hN
 omega
theorem cN(q:dZ prog w A s κ rk S)(H:Hy rk S x y){N:Nat}{c:dO}{st st':SortSt}(hk:kindOf st=κ)(hg:Gs st st')(hJ:JH rk x y N c.2.1 c.2.2.1 c.2.2.2.1) :
  wpS (model prog w) A E s (fO x y c) (λr st'=>Gs st st'/\match r with
    | .done c=>∃t,c.1=some t/\Po rk x y t
    | .yield c=>c.1=none/\JH rk x y (N+1) c.2.1 c.2.2.1 c.2.2.2.1) st':=by
 unfold fO
 refine wpS_bind (wpS_mono (wpS_forRange (I:=λn c st''=>st''=st'/\c.1=none/\JH rk x y (N+n) c.2.1 c.2.2.1 c.2.2.2.1)
   (Q:=λc st''=>st''=st'/\((∃t,c.1=some t/\Po rk x y t)\/(c.1=none/\JH rk x y N c.2.1 c.2.2.1 c.2.2.2.1))) ?step ?fin ⟨rfl,rfl,hJ⟩) ?post)
 case fin =>
  rintro c st'' ⟨rfl,_,h⟩
  exact (h.false (by omega)).elim
 case step =>
  rintro n c st'' _ _ ⟨rfl,_,h⟩
  refine wpS_mono (bN q H (hg.kind.trans hk) h) ?_
  rintro r st3 ⟨rfl,h⟩
  cases r with
  | done c =>
   refine ⟨rfl,h.imp id λh=>⟨h.1,h.2.m,h.2.hi,h.2.hj,?_⟩⟩
   have:=h.2.hN
   omega
  | yield c=>exact ⟨rfl,h.1,h.2⟩
 case post =>
  rintro c st'' ⟨rfl,h⟩
  obtain⟨r,c⟩:=c
  rcases h with⟨t,e,h⟩|⟨e,h⟩
  ·cases e
   exact wpS_pure ⟨hg,_,rfl,h⟩
  ·cases e
   dsimp only
   refine wpS_bind (wpS_lift (wpAny_rule ⟨rfl,?_⟩))
   refine wpS_bind (wpS_mono (wpS_forRange (I:=λn c st''=>Gs st st''/\c.1=none/\JH rk x y (N+n) c.2.1 c.2.2.1 c.2.2.2.1)
     (Q:=λc st''=>Gs st st''/\RH rk x y (N+1) c) ?step2 ?fin2 ⟨hg,rfl,h⟩) ?post2)
   case fin2 =>
    rintro c st'' ⟨_,_,h⟩
    exact (h.false (by omega)).elim
   case step2 =>
    rintro n c st'' _ _ ⟨hg2,_,h⟩
    refine wpS_mono (aN q H hk hg2 h) ?_
    rintro r st3 ⟨hg3,h⟩
    cases r with
    | done c =>
     refine ⟨hg3,Or.imp id (λh=>⟨h.1,h.2.m,h.2.hi,h.2.hj,?_⟩) h⟩
     have:=h.2.hN
     omega
    | yield c=>exact ⟨hg3,h.1,h.2⟩
   case post2 =>
    rintro c st'' ⟨hg2,h⟩
    obtain⟨r,c⟩:=c
    rcases h with⟨t,e,h⟩|⟨e,h⟩
    ·cases e
     exact wpS_pure ⟨hg2,_,rfl,h⟩
    ·cases e
     exact wpS_bind (wpS_modify (wpS_pure ⟨hg2.set _,rfl,h⟩))
theorem dN(q:dZ prog w A s κ rk S)(H:Hy rk S x y){st:SortSt}{Q:Array Keyed->SortSt->Prop}(hk:kindOf st=κ)(h:∀r st',Gs st st'->Po rk x y r->Q r st'):wpS (model prog w) A E s (UN x y) Q st:=by
 rw[CI]
 have hy0:=H.y0
 have hx0:=H.x0
 refine wpS_bind (wpS_lift (wpAny_rule ⟨rfl,?_⟩))
 refine wpS_bind (UQ (by omega) ?_)
 have m0:MH rk x y #[] x.size y.size:=⟨⟨by simp,by simp,by simp,by simp⟩,G0 _,G0 _⟩
 have m1:=m0.push H.hx hx0 λn hn _=>H.hl n hn
 have e1:(#[]:Array Keyed).push (x[x.size - 1]'(by omega))=#[x[x.size - 1]'(by omega)]:=rfl
 rw[e1]at m1
 by_cases h1:x.size - 1=0
 ·rw[if_pos (by simpa using h1)]
  exact wpS_pure (h _ _ (Gs.refl _) (nW H m1 (.inl h1)))
 ·rw[if_neg (by simpa using h1)]
  by_cases h2:y.size=1
  ·rw[if_pos (by simpa using h2)]
   exact wpS_pure (h _ _ (Gs.refl _) (wU H m1 h2))
  ·rw[if_neg (by simpa using h2)]
   refine wpS_bind (wpS_get ?_)
   refine wpS_bind (wpS_mono (wpS_forRange (I:=λn c st''=>Gs st st''/\c.1=none/\JH rk x y n c.2.1 c.2.2.1 c.2.2.2.1)
     (Q:=λc st''=>Gs st st''/\∃t,c.1=some t/\Po rk x y t) ?step ?fin ⟨Gs.refl _,rfl,m1,by show 1<=x.size - 1;omega,by show 2<=y.size;omega,by show 0+(x.size - 1)+y.size<=_;omega⟩) ?post)
   case fin =>
    rintro c st'' ⟨_,_,h⟩
    exact (h.false (by omega)).elim
   case step =>
    rintro n c st'' _ _ ⟨hg2,_,h⟩
    refine wpS_mono (cN q H hk hg2 h) ?_
    rintro r st3 ⟨hg3,h⟩
    cases r with
    | done c=>exact ⟨hg3,h⟩
    | yield c=>exact ⟨hg3,h⟩
   case post =>
    rintro c st'' ⟨hg2,t,e,hP⟩
    obtain⟨r,c⟩:=c
    cases e
    exact wpS_pure (h _ _ hg2 hP)
end
noncomputable def KR(rk:Keyed->Nat)(xs:Array Keyed)(i:Nat):Nat:=match xs[i]? with
 | some p=>rk p
 | none=>0
theorem KR_at{rk:Keyed->Nat}{xs:Array Keyed}{i:Nat}(h:i < xs.size):KR rk xs i=rk xs[i]:=by
 unfold KR;rw[getElem?_pos xs i h]
theorem uX{rk:Keyed->Nat}{xs ys:Array Keyed}{i j:Nat}(h:xs[i]?=ys[j]?):KR rk xs i=KR rk ys j:=by unfold KR;rw[h]
theorem KK{rk:Keyed->Nat}{xs:Array Keyed}{i j:Nat}(hj:j<=xs.size)(k:Nat) :
  KR rk (mirror xs i j ((j - i) / 2)) k=if i<=k/\k < j then KR rk xs (i+j - 1 - k) else KR rk xs k:=by
 have e:=getElem?_mirror_all (i:=i) hj k
 split
 ·rename_i h1;rw[if_pos h1]at e;exact uX e
 ·rename_i h1;rw[if_neg h1]at e;exact uX e
theorem EV{rk:Keyed->Nat}{xs:Array Keyed}{c d:Nat}(hs:c < xs.size)(hd:d<=c)(k:Nat) :
  KR rk (bubble xs c d) k=if k=c - d then KR rk xs c else if c - d < k/\k<=c then KR rk xs (k - 1) else KR rk xs k:=by
 have e:=getElem?_bubble hs d hd k
 split
 ·rename_i h1;rw[if_pos h1]at e;exact uX e
 ·rename_i h1
  rw[if_neg h1]at e
  split
  ·rename_i h2;rw[if_pos h2]at e;exact uX e
  ·rename_i h2;rw[if_neg h2]at e;exact uX e
noncomputable def Sg(rk:Keyed->Nat)(xs:Array Keyed)(lo n:Nat):Prop:=∀i j,lo<=i->i<=j->j < lo+n->KR rk xs i<=KR rk xs j
noncomputable def Dg(rk:Keyed->Nat)(xs:Array Keyed)(lo n:Nat):Prop:=∀i j,lo<=i->i<=j->j < lo+n->KR rk xs j<=KR rk xs i
structure Bs(κ:SortKind)(st:SortSt)(lo n:Nat)(st':SortSt):Prop where
 perm:(arrOf st').Perm (arrOf st)
 kind:kindOf st'=κ
 failed:failedOf st'=none
 pend:pendingOf st'=pendingOf st
 keep:∀i,i < lo\/lo+n<=i->(arrOf st')[i]?=(arrOf st)[i]?
theorem Bs.size{κ:SortKind}{st st':SortSt}{lo n:Nat}(h:Bs κ st lo n st'):(arrOf st').size=(arrOf st).size:=h.perm.size_eq
theorem Bs.mir{κ:SortKind}{st st':SortSt}{lo n i j:Nat}(h:Bs κ st lo n st')(hj:j<=(arrOf st).size)(h1:lo<=i)(h2:j<=lo+n):Bs κ st lo n (setArr st' (mirror (arrOf st') i j ((j - i) / 2))) :=
 ⟨(mirror_perm _ _ _ _).trans h.perm,h.kind,h.failed,h.pend,λk hk=>by
   show (mirror (arrOf st') i j ((j - i) / 2))[k]?=_
   rw[getElem?_mirror_all (by rw[h.size];exact hj),if_neg (by omega)]
   exact h.keep k hk⟩
section
variable {prog:Program}{w:World}{A:Around}{E:Value->Shared->Prop}{s:Shared}{κ:SortKind}{rk:Keyed->Nat}{S:Keyed->Prop}{st:SortSt}
noncomputable abbrev AllS(S:Keyed->Prop)(xs:Array Keyed):Prop:=∀p,p∈xs.toList->S p
theorem Bs.inS{st':SortSt}{lo n:Nat}(hS:AllS S (arrOf st))(h:Bs κ st lo n st'){i:Nat}(hi:i < (arrOf st').size):S (arrOf st')[i] :=
 hS _ ((E5.mp h.perm).mem_iff.mp (by simp))
theorem oW(q:dZ prog w A s κ rk S){st':SortSt}{lo n i j:Nat}{Q:Option Bool->SortSt->Prop}(hS:AllS S (arrOf st))(hB:Bs κ st lo n st')(hi:i < (arrOf st).size)(hj:j < (arrOf st).size)
  (h:Q (some (decide (KR rk (arrOf st') i < KR rk (arrOf st') j))) st'):wpS (model prog w) A E s (ltAt' i j) Q st':=by
 have hi':i < (arrOf st').size:=by rw[hB.size];exact hi
 have hj':j < (arrOf st').size:=by rw[hB.size];exact hj
 rw[ltAt'_eq]
 refine wpS_bind (wpS_get ?_)
 refine wpS_bind (UQ hi' (wpS_bind (UQ hj' ?_)))
 refine w_lt q hB.kind (hB.inS hS _) (hB.inS hS _) ?_
 rw[KR_at hi',KR_at hj']at h
 exact h
noncomputable def Gj(lo a nrem:Nat):StateT SortSt Sem AscSt :=
 forIn [a:nrem] ((none,a):AscSt) λ_ z=>do
  let some sm<-ltAt' (lo+z.2) (lo+z.2 - 1)|pure (.done (some none,z.2))
  if sm=true then pure (.done (none,z.2)) else pure (.yield (none,z.2+1))
noncomputable def xL(lo n nrem:Nat):StateT SortSt Sem (Option Nat):=do
 reverseSlice' lo (lo+n)
 let z<-Gj lo n nrem
 match z.1 with
 | some r=>pure r
 | none=>pure (some z.2)
noncomputable def Yq(lo n nrem:Nat):StateT SortSt Sem DescSt :=
 forIn [n:nrem] ((none,n,0):DescSt) λ_ z=>do
  let some sm<-ltAt' (lo+z.2.1) (lo+z.2.1 - 1)|pure (.done (some none,z.2.1,z.2.2))
  if sm=true then
   if z.2.2 > 0 then do
    reverseSlice' (lo+z.2.1 - (z.2.2+1)) (lo+z.2.1)
    pure (.yield (none,z.2.1+1,0))
   else pure (.yield (none,z.2.1+1,0))
  else do
   let some la<-ltAt' (lo+z.2.1 - 1) (lo+z.2.1)|pure (.done (some none,z.2.1,z.2.2))
   if la=true then pure (.done (none,z.2.1,z.2.2)) else pure (.yield (none,z.2.1+1,z.2.2+1))
noncomputable def eN(lo n nrem:Nat):StateT SortSt Sem (Option Nat):=do
 liftM (rule "list.sort.descending-run")
 let z<-Yq lo (n+1) nrem
 match z.1 with
 | some r=>pure r
 | none =>
  if z.2.2 > 0 then do
   reverseSlice' (lo+z.2.1 - (z.2.2+1)) (lo+z.2.1)
   xL lo z.2.1 nrem
  else xL lo z.2.1 nrem
theorem DI(lo nrem:Nat):countRun' lo nrem=(do
    let z<-Gj lo 1 nrem
    match z.1 with
    | some r=>pure r
    | none =>
      if (z.2==nrem)=true then pure (some z.2)
      else if z.2 > 1 then do
        let some ro<-ltAt' lo (lo+z.2 - 1)|pure none
        if ro=true then pure (some z.2) else do
          reverseSlice' lo (lo+z.2)
          eN lo z.2 nrem
      else eN lo z.2 nrem):=by
 have te:∀m,(do
     reverseSlice' lo (lo+m)
     let z<-Gj lo m nrem
     match z.1 with
     | some r=>pure r
     | none=>pure (some z.2))=xL lo m nrem:=λm=>rfl
 rw[countRun'_eq]
 unfold eN xL Yq Gj
 refine congr (congrArg bind rfl) (funext λz=>?_)
 obtain⟨r,n⟩:=z
 cases r with
 | some r=>rfl
 | none =>
  dsimp only
  have tl:∀z:AscSt,(match z.1 with|some r=>pure r|none=>pure (some z.2):StateT SortSt Sem (Option Nat))=match z.1 with|some r=>pure r|none=>pure (some z.2):=λz=>rfl
  split
  ·rfl
  ·split
   ·congr 1
    funext x
    cases x with
    | none=>rfl
    | some ro =>
     dsimp only
     split
     ·rfl
     ·congr 1
      funext _
      congr 1
      funext _
      congr 1
      funext z
      obtain⟨r,m,q⟩:=z
      cases r with
      | some r=>rfl
      | none =>
       dsimp only
       split
       ·congr 1;funext _;congr 1;funext _;congr 1;funext z;obtain⟨r,k⟩:=z;cases r<;>rfl
       ·congr 1;funext _;congr 1;funext z;obtain⟨r,k⟩:=z;cases r<;>rfl
   ·congr 1
    funext _
    congr 1
    funext z
    obtain⟨r,m,q⟩:=z
    cases r with
    | some r=>rfl
    | none =>
     dsimp only
     split
     ·congr 1;funext _;congr 1;funext _;congr 1;funext z;obtain⟨r,k⟩:=z;cases r<;>rfl
     ·congr 1;funext _;congr 1;funext z;obtain⟨r,k⟩:=z;cases r<;>rfl
theorem Zq{i j:Nat}{st':SortSt}{Q:Unit->SortSt->Prop}(h:Q () (setArr st' (mirror (arrOf st') i j ((j - i) / 2)))):wpS (model prog w) A E s (reverseSlice' i j) Q st':=by
 rw[reverseSlice'_eq]
 exact wpS_modify h
theorem XB(q:dZ prog w A s κ rk S){st':SortSt}{lo N a nrem:Nat}{Q:AscSt->SortSt->Prop}(hS:AllS S (arrOf st))(hn:lo+nrem<=(arrOf st).size)(ha:1<=a)(han:a<=nrem)(hB:Bs κ st lo N st')(hs:Sg rk (arrOf st') lo a)
  (h:∀n,a<=n->n<=nrem->Sg rk (arrOf st') lo n->(n=nrem\/KR rk (arrOf st') (lo+n) < KR rk (arrOf st') (lo+n - 1))->Q (none,n) st'):wpS (model prog w) A E s (Gj lo a nrem) Q st':=by
 unfold Gj
 refine wpS_forRange (I:=λx c z=>z=st'/\c=(none,x)/\Sg rk (arrOf st') lo x) ?step ?fin ⟨rfl,rfl,hs⟩
 case fin =>
  rintro c z ⟨rfl,rfl,h1⟩
  rw[show max a nrem=nrem by omega]at h1 ⊢
  exact h nrem han (G0 _) h1 (.inl rfl)
 case step =>
  rintro x c z hax hxn ⟨rfl,rfl,h1⟩
  dsimp only
  refine wpS_bind (oW q hS hB (by omega) (by omega) ?_)
  dsimp only
  by_cases hl:KR rk (arrOf z) (lo+x) < KR rk (arrOf z) (lo+x - 1)
  ·rw[if_pos (by simpa using hl)]
   exact wpS_pure (h x hax (by omega) h1 (.inr hl))
  ·rw[if_neg (by simpa using hl)]
   refine wpS_pure ⟨rfl,rfl,λi j hi hij hj=>?_⟩
   by_cases hjx:j < lo+x
   ·exact h1 i j hi hij hjx
   ·have:j=lo+x:=by omega
    subst this
    by_cases hi':i=lo+x
    ·subst hi';exact G0 _
    ·have:=h1 i (lo+x - 1) hi (by omega) (by omega)
     omega
theorem fN(q:dZ prog w A s κ rk S){st':SortSt}{lo n nrem:Nat}{Q:Option Nat->SortSt->Prop}(hS:AllS S (arrOf st))(hn:lo+nrem<=(arrOf st).size)(h1:1<=n)(hnn:n<=nrem)(hB:Bs κ st lo nrem st')(hs:Dg rk (arrOf st') lo n)
  (h:∀m z,Bs κ st lo nrem z->1<=m->m<=nrem->Sg rk (arrOf z) lo m->Q (some m) z):wpS (model prog w) A E s (xL lo n nrem) Q st':=by
 unfold xL
 refine wpS_bind (Zq ?_)
 have hz:lo+n<=(arrOf st').size:=by rw[hB.size];omega
 have hB':=hB.mir (i:=lo) (j:=lo+n) (by omega) (G0 _) (by omega)
 refine wpS_bind (XB q hS hn h1 hnn hB' (λi j hi hij hj=>?_) λm m1 m2 hm _=>wpS_pure (h m _ hB' (by omega) m2 hm))
 show KR rk (mirror _ _ _ _) i<=KR rk (mirror _ _ _ _) j
 rw[KK hz,KK hz,if_pos (by omega),if_pos (by omega)]
 exact hs _ _ (by omega) (by omega) (by omega)
theorem nJ{xs:Array Keyed}{i j:Nat}(hj:j<=xs.size)(he:∀k,i<=k->k < j->KR rk xs k=KR rk xs (j - 1))(k:Nat):KR rk (mirror xs i j ((j - i) / 2)) k=KR rk xs k:=by
 rw[KK hj]
 split
 ·rw[he _ (by omega) (by omega),he k (by omega) (by omega)]
 ·rfl
theorem EI(q:dZ prog w A s κ rk S){st':SortSt}{lo n nrem:Nat}{Q:DescSt->SortSt->Prop}(hS:AllS S (arrOf st))(hn:lo+nrem<=(arrOf st).size)(h1:1<=n)(hnn:n<=nrem)(hB:Bs κ st lo nrem st')(hs:Dg rk (arrOf st') lo n)
  (h:∀m e z,Bs κ st lo nrem z->n<=m->m<=nrem->Dg rk (arrOf z) lo m->e+1<=m->(∀i,lo+m - (e+1)<=i->i < lo+m->KR rk (arrOf z) i=KR rk (arrOf z) (lo+m - 1))->Q (none,m,e) z) :
  wpS (model prog w) A E s (Yq lo n nrem) Q st':=by
 unfold Yq
 refine wpS_forRange (I:=λx c z=>∃e,c=(none,x,e)/\Bs κ st lo nrem z/\Dg rk (arrOf z) lo x/\e+1<=x/\∀i,lo+x - (e+1)<=i->i < lo+x->KR rk (arrOf z) i=KR rk (arrOf z) (lo+x - 1)) ?step ?fin
  ⟨0,rfl,hB,hs,by omega,λi i1 i2=>by congr 1;omega⟩
 case fin =>
  rintro c z ⟨e,rfl,b,d,e1,e2⟩
  rw[show max n nrem=nrem by omega]at d e1 e2 ⊢
  exact h nrem e z b hnn (G0 _) d e1 e2
 case step =>
  rintro x c z hax hxn ⟨e,rfl,b,d,e1,e2⟩
  dsimp only
  have hz:lo+x<=(arrOf z).size:=by rw[b.size];omega
  refine wpS_bind (oW q hS b (by omega) (by omega) ?_)
  dsimp only
  by_cases hl:KR rk (arrOf z) (lo+x) < KR rk (arrOf z) (lo+x - 1)
  ·rw[if_pos (by simpa using hl)]
   have st1:∀xs:Array Keyed,(∀k,KR rk xs k=KR rk (arrOf z) k)->Dg rk xs lo (x+1):=λxs hk i j hi hij hj=>by
    rw[hk,hk]
    by_cases hjx:j < lo+x
    ·exact d i j hi hij hjx
    ·have:j=lo+x:=by omega
     subst this
     by_cases hi':i=lo+x
     ·subst hi';exact G0 _
     ·have:=d i (lo+x - 1) hi (by omega) (by omega)
      omega
   by_cases he:e > 0
   ·rw[if_pos he]
    exact wpS_bind (Zq (wpS_pure ⟨0,rfl,b.mir (by omega) (by omega) (by omega),st1 _ (nJ hz e2),by omega,λi i1 i2=>by congr 1;omega⟩))
   ·rw[if_neg he]
    exact wpS_pure ⟨0,rfl,b,st1 _ (λ_=>rfl),by omega,λi i1 i2=>by congr 1;omega⟩
  ·rw[if_neg (by simpa using hl)]
   refine wpS_bind (oW q hS b (by omega) (by omega) ?_)
   dsimp only
   by_cases hg:KR rk (arrOf z) (lo+x - 1) < KR rk (arrOf z) (lo+x)
   ·rw[if_pos (by simpa using hg)]
    exact wpS_pure (h x e z b hax (by omega) d e1 e2)
   ·rw[if_neg (by simpa using hg)]
    refine wpS_pure ⟨e+1,rfl,b,λi j hi hij hj=>?_,by omega,λi i1 i2=>?_⟩
    ·by_cases hjx:j < lo+x
     ·exact d i j hi hij hjx
     ·have:j=lo+x:=by omega
      subst this
      by_cases hi':i=lo+x
      ·subst hi';exact G0 _
      ·have:=d i (lo+x - 1) hi (by omega) (by omega)
       omega
    ·rw[show lo+(x+1) - 1=lo+x by omega]
     by_cases hix:i=lo+x
     ·subst hix;rfl
     ·have:=e2 i (by omega) (by omega)
      omega
theorem gN(q:dZ prog w A s κ rk S){st':SortSt}{lo n nrem:Nat}{Q:Option Nat->SortSt->Prop}(hS:AllS S (arrOf st))(hn:lo+nrem<=(arrOf st).size)(hnn:n+1<=nrem)(hB:Bs κ st lo nrem st')(hs:Dg rk (arrOf st') lo (n+1))
  (h:∀m z,Bs κ st lo nrem z->1<=m->m<=nrem->Sg rk (arrOf z) lo m->Q (some m) z):wpS (model prog w) A E s (eN lo n nrem) Q st':=by
 unfold eN
 refine wpS_bind (wpS_lift (wpAny_rule ⟨rfl,?_⟩))
 refine wpS_bind (EI q hS hn (by omega) hnn hB hs λm e z b m1 m2 d e1 e2=>?_)
 dsimp only
 have hz:lo+m<=(arrOf z).size:=by rw[b.size];omega
 by_cases he:e > 0
 ·rw[if_pos he]
  refine wpS_bind (Zq (fN q hS hn (by omega) m2 (b.mir (by omega) (by omega) (by omega)) (λi j hi hij hj=>?_) h))
  show KR rk (mirror _ _ _ _) j<=KR rk (mirror _ _ _ _) i
  rw[nJ hz e2,nJ hz e2]
  exact d i j hi hij hj
 ·rw[if_neg he]
  exact fN q hS hn (by omega) m2 b d h
theorem ZO(q:dZ prog w A s κ rk S){lo nrem:Nat}{Q:Option Nat->SortSt->Prop}(hS:AllS S (arrOf st))(hn:lo+nrem<=(arrOf st).size)(h1:1<=nrem)(hB:Bs κ st lo nrem st)
  (h:∀m z,Bs κ st lo nrem z->1<=m->m<=nrem->Sg rk (arrOf z) lo m->Q (some m) z):wpS (model prog w) A E s (countRun' lo nrem) Q st:=by
 rw[DI]
 refine wpS_bind (XB q hS hn (G0 1) h1 hB (λi j hi hij hj=>by have:i=j:=(by omega);subst this;exact G0 _) λn n1 n2 sn hor=>?_)
 dsimp only
 by_cases hnn:n=nrem
 ·rw[if_pos (by simpa using hnn)]
  exact wpS_pure (h n st hB n1 n2 sn)
 ·rw[if_neg (by simpa using hnn)]
  have hlt:=hor.resolve_left hnn
  by_cases hgt:n > 1
  ·rw[if_pos hgt]
   refine wpS_bind (oW q hS hB (by omega) (by omega) ?_)
   dsimp only
   by_cases hr:KR rk (arrOf st) lo < KR rk (arrOf st) (lo+n - 1)
   ·rw[if_pos (by simpa using hr)]
    exact wpS_pure (h n st hB n1 n2 sn)
   ·rw[if_neg (by simpa using hr)]
    have hz:lo+n<=(arrOf st).size:=by omega
    have all:∀k,lo<=k->k < lo+n->KR rk (arrOf st) k=KR rk (arrOf st) (lo+n - 1):=λk k1 k2=>by
     have a1:=sn lo k (by omega) k1 k2
     have a2:=sn k (lo+n - 1) k1 (by omega) (by omega)
     omega
    refine wpS_bind (Zq (gN q hS hn (by omega) (hB.mir (by omega) (by omega) (by omega)) (λi j hi hij hj=>?_) h))
    show KR rk (mirror _ _ _ _) j<=KR rk (mirror _ _ _ _) i
    rw[nJ hz all,nJ hz all]
    by_cases hjn:j < lo+n
    ·have:=all i hi (by omega)
     have:=all j (by omega) hjn
     omega
    ·have:j=lo+n:=by omega
     subst this
     by_cases hi':i=lo+n
     ·subst hi';exact G0 _
     ·have:=all i hi (by omega)
      omega
  ·rw[if_neg hgt]
   have:n=1:=by omega
   subst this
   refine gN q hS hn (by omega) hB (λi j hi hij hj=>?_) h
   by_cases hi':i=j
   ·subst hi';exact G0 _
   ·have e1:i=lo:=by omega
    have e2:j=lo+1:=by omega
    subst e1;subst e2
    exact o5 hlt
theorem FI(q:dZ prog w A s κ rk S){st':SortSt}{lo N n ok:Nat}{Q:Bool->SortSt->Prop}(hS:AllS S (arrOf st))(hn:lo+n<=(arrOf st).size)(hnN:n<=N)(hok:ok<=n)(hB:Bs κ st lo N st')(hs:Sg rk (arrOf st') lo ok)
  (h:∀z,Bs κ st lo N z->Sg rk (arrOf z) lo n->Q true z):wpS (model prog w) A E s (binarySort' lo n ok) Q st':=by
 rw[binarySort'_eq]
 refine wpS_bind (wpS_mono (wpS_forRange (I:=λk c z=>c=(none,())/\Bs κ st lo N z/\Sg rk (arrOf z) lo (min k n)) (Q:=λc z=>c=(none,())/\Bs κ st lo N z/\Sg rk (arrOf z) lo n) ?step ?fin ?init) ?post)
 case post =>
  rintro c z ⟨rfl,b,hs'⟩
  exact wpS_pure (h z b hs')
 case init =>
  refine ⟨rfl,hB,λi j hi hij hj=>?_⟩
  by_cases h1:ok=0
  ·have:i=j:=by omega
   subst this;exact G0 _
  ·exact hs i j hi hij (by omega)
 case fin =>
  rintro c z ⟨hc,b,hs'⟩
  refine ⟨hc,b,?_⟩
  rwa [show min (max (max ok 1) n) n=n by omega]at hs'
 case step =>
  rintro k c z hak hkn ⟨rfl,b,hs'⟩
  rw[show min k n=k by omega]at hs'
  refine wpS_bind (wpS_mono (wpS_forRange (I:=λx c z'=>z'=z/\∃l r,c=(none,l,r)/\l<=r/\r<=k/\r - l<=k - x/\(∀i,i < l->KR rk (arrOf z) (lo+i)<=KR rk (arrOf z) (lo+k))/\(∀i,r<=i->i < k->KR rk (arrOf z) (lo+k) < KR rk (arrOf z) (lo+i)))
    (Q:=λc z'=>z'=z/\∃l r,c=(none,l,r)/\l<=k/\(∀i,i < l->KR rk (arrOf z) (lo+i)<=KR rk (arrOf z) (lo+k))/\(∀i,l<=i->i < k->KR rk (arrOf z) (lo+k) < KR rk (arrOf z) (lo+i))) ?istep ?ifin ?iinit) ?ipost)
  case iinit=>exact ⟨rfl,0,k,rfl,by omega,by omega,by omega,λi hi=>by omega,λi h1 h2=>by omega⟩
  case ifin =>
   rintro c z' ⟨rfl,l,r,rfl,hlr,hrk,hm,hlo,hhi⟩
   have:l=r:=by omega
   subst this
   exact ⟨rfl,l,l,rfl,hrk,hlo,hhi⟩
  case istep =>
   rintro x c z' _ hxk ⟨rfl,l,r,rfl,hlr,hrk,hm,hlo,hhi⟩
   dsimp only
   by_cases hge:l ≥ r
   ·rw[if_pos hge]
    have:l=r:=by omega
    subst this
    exact wpS_pure ⟨rfl,l,l,rfl,hrk,hlo,hhi⟩
   ·rw[if_neg hge]
    refine wpS_bind (oW q hS b (by omega) (by omega) ?_)
    dsimp only
    by_cases hl:KR rk (arrOf z') (lo+k) < KR rk (arrOf z') (lo+(l+r) / 2)
    ·rw[if_pos (by simpa using hl)]
     refine wpS_pure ⟨rfl,l,(l+r) / 2,rfl,by omega,by omega,by omega,hlo,λi h1 h2=>?_⟩
     have:=hs' (lo+(l+r) / 2) (lo+i) (by omega) (by omega) (by omega)
     omega
    ·rw[if_neg (by simpa using hl)]
     refine wpS_pure ⟨rfl,(l+r) / 2+1,r,rfl,by omega,by omega,by omega,λi h1=>?_,hhi⟩
     have:=hs' (lo+i) (lo+(l+r) / 2) (by omega) (by omega) (by omega)
     omega
  case ipost =>
   rintro c z' ⟨rfl,l,r,rfl,hlk,hlo,hhi⟩
   show wpS _ _ _ _ (do moveDown' (lo+k) (lo+l);pure (ForInStep.yield (none,()))) _ _
   rw[moveDown'_eq]
   have hks:lo+k < (arrOf z').size:=by rw[b.size];omega
   refine wpS_bind (wpS_modify (wpS_pure ⟨rfl,⟨(bubble_perm _ _ _).trans b.perm,b.kind,b.failed,b.pend,λi hi=>?_⟩,?_⟩))
   ·show (bubble (arrOf z') _ _)[i]?=_
    rw[getElem?_bubble hks _ (by omega),if_neg (by omega),if_neg (by omega)]
    exact b.keep i hi
   ·rw[show min (k+1) n=k+1 by omega]
    intro i j hi hij hj
    show KR rk (bubble (arrOf z') (lo+k) (lo+k - (lo+l))) i<=KR rk (bubble (arrOf z') (lo+k) (lo+k - (lo+l))) j
    rw[EV hks (by omega),EV hks (by omega),show lo+k - (lo+k - (lo+l))=lo+l by omega]
    have hlo':∀i,lo<=i->i < lo+l->KR rk (arrOf z') i<=KR rk (arrOf z') (lo+k):=λi h1 h2=>by
     have:=hlo (i - lo) (by omega)
     rwa [show lo+(i - lo)=i by omega]at this
    have hhi':∀i,lo+l<=i->i < lo+k->KR rk (arrOf z') (lo+k) < KR rk (arrOf z') i:=λi h1 h2=>by
     have:=hhi (i - lo) (by omega) (by omega)
     rwa [show lo+(i - lo)=i by omega]at this
    repeat' split
    all_goals first
     | (exfalso;omega)
     | exact G0 _
     | exact hlo' _ (by omega) (by omega)
     | exact o5 (hhi' _ (by omega) (by omega))
     | exact hs' _ _ (by omega) (by omega) (by omega)
end
noncomputable def wb(xs:Array Keyed)(c:Nat)(m:List Keyed)(n:Nat):Array Keyed:=(m.zipIdx n).foldl (λa pj=>a.setIfInBounds (c+pj.2) pj.1) xs
theorem GI(i:Nat):mergeAt' i=(do
    let z<-get
    let (some (sa,na,pw),some (sb,nb,_)):=((pendingOf z)[i]?,(pendingOf z)[i+1]?)|unsupported "internal:list.sort.pending"
    set (setPending z (((pendingOf z).setIfInBounds i (sa,na+nb,pw)).eraseIdxIfInBounds (i+1)))
    let some k<-Fj false (<- elem' (arrOf z) sb) (arrOf z) sa na 0|return false
    let (sa,na):=(sa+k,na - k)
    if na==0 then return true
    let some nb<-Fj true (<- elem' (arrOf z) (sa+na - 1)) (arrOf z) sb nb (nb - 1)|return false
    if nb==0 then return true
    let x:=(arrOf z).extract sa sb
    let y:=(arrOf z).extract sb (sb+nb)
    let r<-if na<=nb then TN x y else UN x y
    modify λv=>setArr v (wb (arrOf v) sa r.toList 0)
    return (failedOf (<- get)).isNone):=rfl
theorem KD:∀(m:List Keyed) (n c:Nat) (xs:Array Keyed),c+n+m.length<=xs.size->∀k,(wb xs c m n)[k]?=if c+n<=k/\k < c+n+m.length then m[k - (c+n)]? else xs[k]?
 | [],n,c,xs,_,k=>by
  show xs[k]?=_
  rw[if_neg (by simp)]
 | p :: m,n,c,xs,h,k=>by
  have hl:(p :: m).length=m.length+1:=rfl
  show (wb (xs.setIfInBounds (c+n) p) c m (n+1))[k]?=_
  rw[KD m (n+1) c _ (by rw[Array.size_setIfInBounds];omega),Array.getElem?_setIfInBounds]
  by_cases h1:c+n=k
  ·subst h1
   rw[if_neg (by omega),if_pos rfl,if_pos (by omega),if_pos (by omega)]
   simp
  ·by_cases h2:c+(n+1)<=k/\k < c+(n+1)+m.length
   ·rw[if_pos h2,if_pos (by omega)]
    have e:k - (c+n)=(k - (c+(n+1)))+1:=by omega
    rw[e,Y4]
   ·rw[if_neg h2,if_neg h1,if_neg (by omega)]
theorem Tu{xs:Array Keyed}{c:Nat}{m:List Keyed}(h:c+m.length<=xs.size):(wb xs c m 0).toList=xs.toList.take c++m++xs.toList.drop (c+m.length):=by
 apply List.ext_getElem?
 intro k
 rw[G5,KD m 0 c xs (by omega)]
 have hl:(xs.toList.take c).length=c:=by rw[S3,V0];omega
 rw[K2]
 by_cases h1:k < c
 ·rw[if_neg (by omega),E2 (by omega),h8 h1,G5]
 ·rw[T1 (by omega),hl]
  by_cases h2:k - c < m.length
  ·rw[if_pos (by omega),E2 h2]
   rfl
  ·rw[if_neg (by omega),T1 (by omega),q9,G5]
   congr 1
   omega
section
variable {prog:Program}{w:World}{A:Around}{E:Value->Shared->Prop}{s:Shared}{κ:SortKind}{rk:Keyed->Nat}{S:Keyed->Prop}{st:SortSt}
theorem yZ{xs:Array Keyed}{a b i:Nat}(hb:b<=xs.size)(hi:i < (xs.extract a b).size):(xs.extract a b)[i]=xs[a+i]'(by rw[J6]at hi;omega):=by
 rw[Array.getElem_extract]
theorem tw{xs:Array Keyed}{a b:Nat}(hb:b<=xs.size)(h:∀i j,a<=i->i<=j->j < b->KR rk xs i<=KR rk xs j):(xs.extract a b).toList.Pairwise (ZW rk):=by
 rw[X3]
 intro i j hi hj hij
 rw[V0]at hi hj
 rw[A3,A3,yZ hb,yZ hb]
 have hz:(xs.extract a b).size=b - a:=by rw[J6];omega
 have:=h (a+i) (a+j) (by omega) (by omega) (by omega)
 rwa [KR_at (by omega),KR_at (by omega)]at this
structure Mt(κ:SortKind)(rk:Keyed->Nat)(st:SortSt)(i sa na nb pw:Nat)(st':SortSt):Prop where
 perm:(arrOf st').Perm (arrOf st)
 kind:kindOf st'=κ
 failed:failedOf st'=none
 pend:pendingOf st'=((pendingOf st).setIfInBounds i (sa,na+nb,pw)).eraseIdxIfInBounds (i+1)
 keep:∀j,j < sa\/sa+(na+nb)<=j->(arrOf st')[j]?=(arrOf st)[j]?
 sg:Sg rk (arrOf st') sa (na+nb)
theorem iN(q:dZ prog w A s κ rk S){i sa na nb pw pw':Nat}{Q:Bool->SortSt->Prop}(hS:AllS S (arrOf st))(hk:kindOf st=κ)(hF:failedOf st=none)(p1:(pendingOf st)[i]?=some (sa,na,pw))(p2:(pendingOf st)[i+1]?=some (sa+na,nb,pw'))
  (hz:sa+na+nb<=(arrOf st).size) (n1:1<=na) (n2:1<=nb) (s1:Sg rk (arrOf st) sa na) (s2:Sg rk (arrOf st) (sa+na) nb) (h:∀st',Mt κ rk st i sa na nb pw st'->Q true st') :
  wpS (model prog w) A E s (mergeAt' i) Q st:=by
 rw[GI]
 refine wpS_bind (wpS_get ?_)
 rw[p1,p2]
 dsimp only
 refine wpS_bind (wpS_modify (f:=λ_=>setPending st (((pendingOf st).setIfInBounds i (sa,na+nb,pw)).eraseIdxIfInBounds (i+1))) ?_)
 generalize hst1:setPending st (((pendingOf st).setIfInBounds i (sa,na+nb,pw)).eraseIdxIfInBounds (i+1))=st1
 have hk1:kindOf st1=κ:=by rw[<- hst1];exact hk
 have hF1:failedOf st1=none:=by rw[<- hst1];exact hF
 have hA1:arrOf st1=arrOf st:=by rw[<- hst1]
 have hP1:pendingOf st1=((pendingOf st).setIfInBounds i (sa,na+nb,pw)).eraseIdxIfInBounds (i+1):=by rw[<- hst1]
 have hSi:∀j (hj:j < (arrOf st).size),S (arrOf st)[j]:=λj hj=>hS _ (by simp)
 have s1':∀a b,sa<=a->a<=b->b < sa+na->KR rk (arrOf st) a<=KR rk (arrOf st) b:=s1
 have s2':∀a b,sa+na<=a->a<=b->b < sa+na+nb->KR rk (arrOf st) a<=KR rk (arrOf st) b:=s2
 refine wpS_bind (UQ (by omega) ?_)
 refine wpS_bind (EZ q hk1 (hSi _ _) hSi (by omega) (λa b hb hab h1 h2=>by
   have:=s1' a b h1 hab h2
   rwa [KR_at (by omega),KR_at hb]at this) (by omega) λk kn k1 k2=>?_)
 dsimp only
 have k1':∀a,sa<=a->a < sa+k->KR rk (arrOf st) a<=KR rk (arrOf st) (sa+na):=λa h1 h2=>by
  have:=k1 a (by omega) h1 h2
  rw[if_neg (by decide)]at this
  rwa [KR_at (by omega),KR_at (by omega)]
 have k2':∀a,sa+k<=a->a < sa+na->KR rk (arrOf st) (sa+na) < KR rk (arrOf st) a:=λa h1 h2=>by
  have:=k2 a (by omega) h1 h2
  rw[if_neg (by decide)]at this
  rwa [KR_at (by omega),KR_at (by omega)]
 by_cases h0:na - k=0
 ·rw[if_pos (by simpa using h0)]
  refine wpS_pure (h st1 ⟨by rw[hA1],hk1,hF1,hP1,λj _=>by rw[hA1],λa b h1 h2 h3=>?_⟩)
  rw[hA1]
  by_cases hb:b < sa+na
  ·exact s1' a b h1 h2 hb
  ·by_cases ha:a < sa+na
   ·exact A1 (k1' a h1 (by omega)) (s2' (sa+na) b (by omega) (by omega) (by omega))
   ·exact s2' a b (by omega) h2 (by omega)
 ·rw[if_neg (by simpa using h0)]
  refine wpS_bind (UQ (by omega) ?_)
  refine wpS_bind (EZ q hk1 (hSi _ _) hSi (by omega) (λa b hb hab h1 h2=>by
    have:=s2' a b h1 hab h2
    rwa [KR_at (by omega),KR_at hb]at this) (by omega) λl ln l1 l2=>?_)
  dsimp only
  have l1':∀a,sa+na<=a->a < sa+na+l->KR rk (arrOf st) a < KR rk (arrOf st) (sa+k+(na - k) - 1):=λa h1 h2=>by
   have:=l1 a (by omega) h1 h2
   rw[if_pos rfl]at this
   rwa [KR_at (by omega),KR_at (by omega)]
  have l2':∀a,sa+na+l<=a->a < sa+na+nb->KR rk (arrOf st) (sa+k+(na - k) - 1)<=KR rk (arrOf st) a:=λa h1 h2=>by
   have:=l2 a (by omega) h1 h2
   rw[if_pos rfl]at this
   rwa [KR_at (by omega),KR_at (by omega)]
  have el:sa+k+(na - k) - 1=sa+na - 1:=by omega
  rw[el]at l1' l2'
  by_cases hl0:l=0
  ·rw[if_pos (by simpa using hl0)]
   refine wpS_pure (h st1 ⟨by rw[hA1],hk1,hF1,hP1,λj _=>by rw[hA1],λa b h1 h2 h3=>?_⟩)
   rw[hA1]
   by_cases hb:b < sa+na
   ·exact s1' a b h1 h2 hb
   ·by_cases ha:a < sa+na
    ·exact A1 (s1' a (sa+na - 1) h1 (by omega) (by omega)) (l2' b (by omega) (by omega))
    ·exact s2' a b (by omega) h2 (by omega)
  ·rw[if_neg (by simpa using hl0)]
   have hxz:((arrOf st).extract (sa+k) (sa+na)).size=na - k:=by rw[J6];omega
   have hyz:((arrOf st).extract (sa+na) (sa+na+l)).size=l:=by rw[J6];omega
   have H:Hy rk S ((arrOf st).extract (sa+k) (sa+na)) ((arrOf st).extract (sa+na) (sa+na+l)):=by
    refine ⟨tw (by omega) λa b h1 h2 h3=>s1' a b (by omega) h2 h3,tw (by omega) λa b h1 h2 h3=>s2' a b h1 h2 (by omega),λj hj=>?_,λj hj=>?_,by omega,by omega,λj hj=>?_,λj hj=>?_⟩
    ·rw[yZ (by omega)];exact hSi _ _
    ·rw[yZ (by omega)];exact hSi _ _
    ·rw[yZ (by omega),yZ (by omega)]
     have:=l1' (sa+na+j) (by omega) (by omega)
     rw[KR_at (by omega),KR_at (by omega)]at this
     simp only[hxz]
     have e2:sa+k+(na - k - 1)=sa+na - 1:=by omega
     simp only[e2]
     exact o5 this
    ·rw[yZ (by omega),yZ (by omega)]
     have:=k2' (sa+k+j) (by omega) (by omega)
     rw[KR_at (by omega),KR_at (by omega)]at this
     simp only[A6]
     exact o5 this
   have go:∀(r:Array Keyed) (st2:SortSt),Gs st1 st2->Po rk ((arrOf st).extract (sa+k) (sa+na)) ((arrOf st).extract (sa+na) (sa+na+l)) r->wpS (model prog w) A E s (do
       modify λv=>setArr v (wb (arrOf v) (sa+k) r.toList 0)
       let v<-get
       pure (failedOf v).isNone) Q st2:=by
    rintro r st2 ⟨g,rfl⟩ ⟨hp,hw⟩
    refine wpS_bind (wpS_modify (wpS_bind (wpS_get ?_)))
    have hlen:r.toList.length=na - k+l:=by rw[hp.length_eq,K0,V0,V0,hxz,hyz]
    have hb:sa+k+r.toList.length<=(arrOf st).size:=by omega
    have eA:arrOf (setArr (nK st1 g) (wb (arrOf (nK st1 g)) (sa+k) r.toList 0))=wb (arrOf st) (sa+k) r.toList 0:=by
     show wb (arrOf st1) _ _ _=_
     rw[hA1]
    have eF:failedOf (setArr (nK st1 g) (wb (arrOf (nK st1 g)) (sa+k) r.toList 0))=none:=hF1
    rw[eF]
    have gt:∀j,(wb (arrOf st) (sa+k) r.toList 0)[j]?=if sa+k<=j/\j < sa+k+r.toList.length then r.toList[j - (sa+k)]? else (arrOf st)[j]?:=λj=>KD r.toList 0 (sa+k) (arrOf st) hb j
    have mid:∀j,sa+k<=j->j < sa+na+l->∃n,sa+k<=n/\n < sa+na+l/\KR rk (wb (arrOf st) (sa+k) r.toList 0) j=KR rk (arrOf st) n:=λj j1 j2=>by
     have hj:j - (sa+k) < r.toList.length:=by omega
     have e:KR rk (wb (arrOf st) (sa+k) r.toList 0) j=rk (r.toList[j - (sa+k)]'hj):=by
      unfold KR
      rw[gt,if_pos (by omega),L0 hj]
     have hm:=hp.mem_iff.mp (A5 hj)
     rw[e]
     rcases Q2.mp hm with hm|hm
     ·obtain⟨n,hn,en⟩:=O4 hm
      rw[V0]at hn
      rw[A3,yZ (by omega)]at en
      refine ⟨sa+k+n,by omega,by omega,?_⟩
      rw[<- en,KR_at (by omega)]
     ·obtain⟨n,hn,en⟩:=O4 hm
      rw[V0]at hn
      rw[A3,yZ (by omega)]at en
      refine ⟨sa+na+n,by omega,by omega,?_⟩
      rw[<- en,KR_at (by omega)]
    have out:∀j,j < sa+k\/sa+na+l<=j->(wb (arrOf st) (sa+k) r.toList 0)[j]?=(arrOf st)[j]?:=λj hj=>by rw[gt,if_neg (by omega)]
    refine wpS_pure (h _ ⟨?_,hk1,hF1,hP1,?_,?_⟩)
    ·rw[eA,E5,Tu hb]
     have e:(arrOf st).toList=(arrOf st).toList.take (sa+k)++(((arrOf st).extract (sa+k) (sa+na)).toList++((arrOf st).extract (sa+na) (sa+na+l)).toList)++(arrOf st).toList.drop (sa+k+r.toList.length):=by
      rw[J4,J4,j3,j3]
      have e1:(arrOf st).toList.drop (sa+na)=((arrOf st).toList.drop (sa+k)).drop (na - k):=by rw[S8];congr 1;omega
      rw[e1,show sa+na - (sa+k)=na - k by omega,show sa+na+l - (sa+na)=l by omega,<- List.take_add,hlen]
      have e2:(arrOf st).toList.drop (sa+k+(na - k+l))=((arrOf st).toList.drop (sa+k)).drop (na - k+l):=by rw[S8]
      rw[e2,K2,o4,o4]
     conv=>rhs;rw[e]
     exact (hp.append_left _).append_right _
    ·intro j hj
     rw[eA]
     exact out j (by omega)
    ·rw[eA]
     intro a b h1 h2 h3
     have kA:∀a,a < sa+k->KR rk (wb (arrOf st) (sa+k) r.toList 0) a=KR rk (arrOf st) a:=λa ha=>uX (out a (.inl ha))
     have kB:∀a,sa+na+l<=a->KR rk (wb (arrOf st) (sa+k) r.toList 0) a=KR rk (arrOf st) a:=λa ha=>uX (out a (.inr ha))
     by_cases ha:a < sa+k
     ·rw[kA a ha]
      by_cases hb1:b < sa+k
      ·rw[kA b hb1];exact s1' a b h1 h2 (by omega)
      ·by_cases hb2:b < sa+na+l
       ·obtain⟨n,m1,m2,en⟩:=mid b (by omega) hb2
        rw[en]
        by_cases hn:n < sa+na
        ·exact s1' a n h1 (by omega) hn
        ·exact A1 (k1' a h1 ha) (s2' (sa+na) n (by omega) (by omega) (by omega))
       ·rw[kB b (by omega)]
        exact A1 (k1' a h1 ha) (s2' (sa+na) b (by omega) (by omega) (by omega))
     ·by_cases ha2:a < sa+na+l
      ·by_cases hb2:b < sa+na+l
       ·have ha':a - (sa+k) < r.toList.length:=by omega
        have hb':b - (sa+k) < r.toList.length:=by omega
        have ea:KR rk (wb (arrOf st) (sa+k) r.toList 0) a=rk (r.toList[a - (sa+k)]'ha'):=by
         unfold KR
         rw[gt,if_pos (by omega),L0 ha']
        have eb:KR rk (wb (arrOf st) (sa+k) r.toList 0) b=rk (r.toList[b - (sa+k)]'hb'):=by
         unfold KR
         rw[gt,if_pos (by omega),L0 hb']
        rw[ea,eb]
        rcases A9 a b with hab|hab
        ·exact X3.mp hw _ _ ha' hb' (by omega)
        ·have:a=b:=by omega
         subst this
         exact G0 _
       ·obtain⟨n,m1,m2,en⟩:=mid a (by omega) ha2
        rw[en,kB b (by omega)]
        by_cases hn:n < sa+na
        ·exact A1 (s1' n (sa+na - 1) (by omega) (by omega) (by omega)) (l2' b (by omega) (by omega))
        ·exact s2' n b (by omega) (by omega) (by omega)
      ·rw[kB a (by omega),kB b (by omega)]
       exact s2' a b (by omega) h2 (by omega)
   by_cases hle:na - k<=l
   ·simp only[if_pos hle]
    exact wpS_bind (ZM q H hk1 λr st2 hg hP=>go r st2 hg hP)
   ·simp only[if_neg hle]
    exact wpS_bind (dN q H hk1 λr st2 hg hP=>go r st2 hg hP)
end
noncomputable def Ch(rk:Keyed->Nat)(xs:Array Keyed):List (Nat×Nat×Nat)->Nat->Nat->Prop
 | [],b,e=>b=e
 | p :: l,b,e=>p.1=b/\1<=p.2.1/\Sg rk xs b p.2.1/\Ch rk xs l (b+p.2.1) e
theorem Ch.len{rk:Keyed->Nat}{xs:Array Keyed}:∀{l:List (Nat×Nat×Nat)}{b e:Nat},Ch rk xs l b e->b+l.length<=e
 | [],b,e,h=>by cases h;simp
 | p :: l,b,e,h=>by
  have:=h.2.2.2.len
  have:=h.2.1
  rw[P1]
  omega
theorem Ch.append{rk:Keyed->Nat}{xs:Array Keyed}:∀{l l':List (Nat×Nat×Nat)}{b e:Nat},Ch rk xs (l++l') b e ↔ ∃m,Ch rk xs l b m/\Ch rk xs l' m e
 | [],l',b,e=>⟨λh=>⟨b,rfl,h⟩,λ⟨m,h1,h2⟩=>by cases h1;exact h2⟩
 | p :: l,l',b,e=>⟨λ⟨h1,h2,h3,h4⟩=>by
     obtain⟨m,h5,h6⟩:=Ch.append.mp h4
     exact ⟨m,⟨h1,h2,h3,h5⟩,h6⟩,λ⟨m,⟨h1,h2,h3,h5⟩,h6⟩=>⟨h1,h2,h3,Ch.append.mpr ⟨m,h5,h6⟩⟩⟩
theorem Ch.congr{rk:Keyed->Nat}{xs ys:Array Keyed}:∀{l:List (Nat×Nat×Nat)}{b e:Nat},(∀i,b<=i->i < e->ys[i]?=xs[i]?)->Ch rk xs l b e->Ch rk ys l b e
 | [],_,_,_,h=>h
 | p :: l,b,e,k,⟨h1,h2,h3,h4⟩=>by
  have:=h4.len
  refine ⟨h1,h2,λi j hi hij hj=>?_,h4.congr λi hi he=>k i (by omega) he⟩
  rw[uX (k i hi (by omega)),uX (k j (by omega) (by omega))]
  exact h3 i j hi hij hj
structure In(κ:SortKind)(rk:Keyed->Nat)(st:SortSt)(lo:Nat)(st':SortSt):Prop where
 perm:(arrOf st').Perm (arrOf st)
 kind:kindOf st'=κ
 failed:failedOf st'=none
 ch:Ch rk (arrOf st') (pendingOf st').toList 0 lo
theorem In.size{κ:SortKind}{rk:Keyed->Nat}{st st':SortSt}{lo:Nat}(h:In κ rk st lo st'):(arrOf st').size=(arrOf st).size:=h.perm.size_eq
section
variable {prog:Program}{w:World}{A:Around}{E:Value->Shared->Prop}{s:Shared}{κ:SortKind}{rk:Keyed->Nat}{S:Keyed->Prop}{st:SortSt}
theorem AllS.perm{xs ys:Array Keyed}(h:AllS S xs)(p:ys.Perm xs):AllS S ys:=λq hq=>h q ((E5.mp p).mem_iff.mp hq)
theorem YB(q:dZ prog w A s κ rk S){i lo:Nat}{st':SortSt}{Q:Bool->SortSt->Prop}(hS:AllS S (arrOf st))(hI:In κ rk st lo st')(hlo:lo<=(arrOf st).size)(hi:i+1 < (pendingOf st').size)
  (h:∀st'',In κ rk st lo st''->(pendingOf st'').size+1=(pendingOf st').size->(∀j,lo<=j->(arrOf st'')[j]?=(arrOf st')[j]?)->Q true st''):wpS (model prog w) A E s (mergeAt' i) Q st':=by
 obtain⟨perm,kind,failed,ch⟩:=hI
 have hl:(pendingOf st').toList.length=(pendingOf st').size:=V0
 obtain⟨pre,p,p',post,e,ep⟩:∃pre p p' post,(pendingOf st').toList=pre++p :: p' :: post/\pre.length=i:=by
  refine ⟨(pendingOf st').toList.take i,(pendingOf st').toList[i]'(by omega),(pendingOf st').toList[i+1]'(by omega),(pendingOf st').toList.drop (i+2),?_,by rw[S3];omega⟩
  have e1:=S4 (l:=(pendingOf st').toList) (i:=i) (by omega)
  have e2:=S4 (l:=(pendingOf st').toList) (i:=i+1) (by omega)
  rw[<- e2,<- e1,o4]
 rw[e]at ch
 obtain⟨m,c1,c2⟩:=Ch.append.mp ch
 obtain⟨sa,na,pw⟩:=p
 obtain⟨sb,nb,pw'⟩:=p'
 obtain⟨f1,f2,f3,g1,g2,g3,c3⟩:=c2
 dsimp only at f1 f2 f3 g1 g2 g3 c3
 subst f1
 subst g1
 have hlen:=c3.len
 have q1:(pendingOf st')[i]?=some (sa,na,pw):=by rw[<- G5,e,T1 (by omega),ep,Nat.sub_self];rfl
 have q2:(pendingOf st')[i+1]?=some (sa+na,nb,pw'):=by rw[<- G5,e,T1 (by omega),ep,O3];rfl
 have hz:=perm.size_eq
 refine iN q (hS.perm perm) kind failed q1 q2 (by omega) f2 g2 f3 g3 λst'' M=>?_
 have el:(pendingOf st'').toList=pre++(sa,na+nb,pw) :: post:=by
  rw[M.pend,Array.toList_eraseIdxIfInBounds,Array.toList_setIfInBounds,e,<- ep,List.set_append_right _ _ (G0 _),Nat.sub_self,List.eraseIdx_append_of_length_le (by omega),O3]
  rfl
 refine h st'' ⟨M.perm.trans perm,M.kind,M.failed,?_⟩ ?_ λj hj=>M.keep j (.inr (by omega))
 ·rw[el]
  refine Ch.append.mpr ⟨sa,c1.congr λj _ hj=>M.keep j (.inl hj),rfl,by show 1<=na+nb;omega,M.sg,?_⟩
  show Ch rk _ post (sa+(na+nb)) lo
  rw[<- Nat.add_assoc]
  exact c3.congr λj hj _=>M.keep j (.inr (by omega))
 ·have e1:=congrArg E4 el
  have e2:=congrArg E4 e
  rw[V0]at e1 e2
  simp only[K0,P1]at e1 e2
  omega
theorem Ch.modify{xs:Array Keyed}(pw:Nat):∀{l:List (Nat×Nat×Nat)}{i b e:Nat},Ch rk xs l b e->Ch rk xs (l.modify i λx=>(x.1,x.2.1,pw)) b e
 | [],i,_,_,h=>by cases i<;>exact h
 | p :: l,0,_,_,h=>h
 | p :: l,i+1,_,_,⟨h1,h2,h3,h4⟩=>⟨h1,h2,h3,h4.modify pw (i:=i)⟩
theorem In.put{lo n pw:Nat}{z:SortSt}(h:In κ rk st lo z):In κ rk st lo (setPending z ((pendingOf z).modify ((pendingOf z).size - 1) λx=>(x.1,x.2.1,pw))) :=
 ⟨h.perm,h.kind,h.failed,by
   show Ch rk (arrOf z) ((pendingOf z).modify ((pendingOf z).size - 1) λx=>(x.1,x.2.1,pw)).toList 0 lo
   rw[Array.toList_modify]
   exact h.ch.modify pw⟩
theorem In.push{lo n:Nat}{z:SortSt}(h:In κ rk st lo z)(hn:1<=n)(hs:Sg rk (arrOf z) lo n):In κ rk st (lo+n) (setPending z ((pendingOf z).push (lo,n,0))) :=
 ⟨h.perm,h.kind,h.failed,by
   show Ch rk (arrOf z) ((pendingOf z).push (lo,n,0)).toList 0 (lo+n)
   rw[S6]
   exact Ch.append.mpr ⟨lo,h.ch,rfl,hn,hs,rfl⟩⟩
theorem In.run{lo n:Nat}{z z':SortSt}(h:In κ rk st lo z)(b:Bs κ z lo n z'):In κ rk st lo z' :=
 ⟨b.perm.trans h.perm,b.kind,b.failed,by
   rw[b.pend]
   exact h.ch.congr λi _ hi=>b.keep i (.inl hi)⟩
theorem Sg.congr{xs ys:Array Keyed}{lo n:Nat}(h:Sg rk xs lo n)(k:∀j,lo<=j->ys[j]?=xs[j]?):Sg rk ys lo n:=λi j hi hij hj=>by
 rw[uX (k i hi),uX (k j (by omega))]
 exact h i j hi hij hj
theorem w_sort(q:dZ prog w A s κ rk S){Q:Unit->SortSt->Prop}(hS:AllS S (arrOf st))(hk:kindOf st=κ)(hF:failedOf st=none)(hP:pendingOf st=#[])
  (h:∀st',(arrOf st').Perm (arrOf st)->failedOf st'=none->Sg rk (arrOf st') 0 (arrOf st).size->Q () st'):wpS (model prog w) A E s sortRuns' Q st:=by
 rw[sortRuns'_eq]
 refine wpS_bind (wpS_get ?_)
 dsimp only
 have I0:In κ rk st 0 st:=⟨Array.Perm.refl _,hk,hF,by rw[hP];rfl⟩
 refine wpS_bind (wpS_mono (wpS_forRange (I:=λx c z=>∃lo,c=(none,lo)/\In κ rk st lo z/\lo<=(arrOf st).size/\(x<=lo\/lo=(arrOf st).size)) (Q:=λc z=>c=(none,(arrOf st).size)/\In κ rk st (arrOf st).size z) ?step ?fin ⟨0,rfl,I0,i4 _,.inl (G0 _)⟩) ?post)
 case fin =>
  rintro c z ⟨lo,rfl,hI,h1,h2⟩
  have:lo=(arrOf st).size:=by omega
  subst this
  exact ⟨rfl,hI⟩
 case step =>
  rintro x c z _ hx ⟨lo,rfl,hI,h1,h2⟩
  dsimp only
  by_cases hge:lo ≥ (arrOf st).size
  ·rw[if_pos hge]
   have:lo=(arrOf st).size:=by omega
   subst this
   exact wpS_pure ⟨rfl,hI⟩
  ·rw[if_neg hge]
   have hz:=hI.size
   have hS':AllS S (arrOf z):=AllS.perm hS hI.perm
   refine wpS_bind (ZO q hS' (by omega) (by omega) ⟨Array.Perm.refl _,hI.kind,hI.failed,rfl,λ_ _=>rfl⟩ λn z1 b1 n1 n2 g1=>?_)
   dsimp only
   have rest:∀(n:Nat) (z1:SortSt),In κ rk st lo z1->1<=n->lo+n<=(arrOf st).size->Sg rk (arrOf z1) lo n->∃c,c=n/\In κ rk st lo z1/\Sg rk (arrOf z1) lo c/\1<=c/\lo+c<=(arrOf st).size:=λn z1 a b c d=>⟨n,rfl,a,d,b,c⟩
   by_cases hlt:n < minRun' (arrOf st).size (arrOf st).size 0
   case' pos =>
    rw[if_pos hlt]
    refine wpS_bind (wpS_lift (wpAny_rule ⟨rfl,?_⟩))
    refine wpS_bind (FI (N:=(arrOf st).size - lo) q hS' (n:=min ((arrOf st).size - lo) (minRun' (arrOf st).size (arrOf st).size 0)) (by omega) (by omega) (by omega) b1 g1 λz2 b2 g2=>?_)
    simp only[j9,B4,if_false]
    have hI2:=hI.run b2
    have m1:1<=min ((arrOf st).size - lo) (minRun' (arrOf st).size (arrOf st).size 0):=by omega
    have m2:lo+min ((arrOf st).size - lo) (minRun' (arrOf st).size (arrOf st).size 0)<=(arrOf st).size:=by omega
    clear b2 b1 g1
    generalize min ((arrOf st).size - lo) (minRun' (arrOf st).size (arrOf st).size 0)=m at *
   case' neg =>
    rw[if_neg hlt]
    have hI2:=hI.run b1
    have m1:=n1
    have m2:lo+n<=(arrOf st).size:=by omega
    have g2:=g1
    clear b1 g1 n1 n2 hlt
    generalize n=m at *
    generalize z1=z2 at *
   all_goals
    refine wpS_bind (wpS_get ?_)
    cases hb:(pendingOf z2).back? with
    | none=>exact wpS_bind (wpS_modify (wpS_pure ⟨lo+m,rfl,hI2.push m1 g2,m2,.inl (by omega)⟩))
    | some pb =>
     obtain⟨s1,n1,pv⟩:=pb
     dsimp only
     refine wpS_bind (wpS_mono (wpS_forRange (I:=λ_ c z=>c=(none,())/\In κ rk st lo z/\∀j,lo<=j->(arrOf z)[j]?=(arrOf z2)[j]?) (Q:=λc z=>c=(none,())/\In κ rk st lo z/\∀j,lo<=j->(arrOf z)[j]?=(arrOf z2)[j]?) ?_ (λ_ _ hh=>hh) ⟨rfl,hI2,λ_ _=>rfl⟩) ?_)
     ·rintro y c z _ _ ⟨rfl,hI3,k3⟩
      refine wpS_bind (wpS_get ?_)
      by_cases hp:(pendingOf z).size > 1
      ·rw[if_pos hp]
       cases hq:(pendingOf z)[(pendingOf z).size - 2]? with
       | none=>exact wpS_pure ⟨rfl,hI3,k3⟩
       | some pq =>
        obtain⟨u1,u2,older⟩:=pq
        dsimp only
        split
        ·exact wpS_pure ⟨rfl,hI3,k3⟩
        ·refine wpS_bind (YB q hS hI3 (by omega) (by omega) λz4 hI4 _ k4=>?_)
         simp only[j9,B4,if_false]
         exact wpS_pure ⟨rfl,hI4,λj hj=>(k4 j hj).trans (k3 j hj)⟩
      ·rw[if_neg hp]
       exact wpS_pure ⟨rfl,hI3,k3⟩
     ·rintro c z ⟨rfl,hI3,k3⟩
      exact wpS_bind (wpS_modify (wpS_bind (wpS_modify (wpS_pure ⟨lo+m,rfl,(hI3.put (n:=0)).push m1 (g2.congr k3),m2,.inl (by omega)⟩))))
 case post =>
  rintro c z ⟨rfl,hI⟩
  dsimp only
  refine wpS_bind (wpS_mono (wpS_forRange (I:=λx c z=>c=(none,())/\In κ rk st (arrOf st).size z/\(pendingOf z).size+x<=(arrOf st).size) (Q:=λc z=>c=(none,())/\In κ rk st (arrOf st).size z/\(pendingOf z).size<=1) ?_ ?_ ⟨rfl,hI,?_⟩) ?_)
  ·rintro x c z _ hx ⟨rfl,hI,hx2⟩
   refine wpS_bind (wpS_get ?_)
   by_cases hp:(pendingOf z).size<=1
   ·rw[if_pos hp]
    exact wpS_pure ⟨rfl,hI,hp⟩
   ·rw[if_neg hp]
    refine wpS_bind (YB q hS hI (G0 _) (by (repeat' split)<;>omega) λz4 hI4 hs4 _=>?_)
    simp only[j9,B4,if_false]
    exact wpS_pure ⟨rfl,hI4,by omega⟩
  ·rintro c z ⟨rfl,hI,hx2⟩
   exact ⟨rfl,hI,by omega⟩
  ·have:=hI.ch.len
   rw[V0]at this
   omega
  ·rintro c z ⟨rfl,hI,hp⟩
   refine wpS_pure (h z hI.perm hI.failed ?_)
   have hc:=hI.ch
   have hl:(pendingOf z).toList.length<=1:=by rw[V0];exact hp
   match (pendingOf z).toList,hc,hl with
   | [],hc,_ =>
    have:0=(arrOf st).size:=hc
    intro i j _ _ hj
    omega
   | [p],⟨h1,h2,h3,h4⟩,_ =>
    have h4:0+p.2.1=(arrOf st).size:=h4
    rw[P5]at h4
    rw[h4]at h3
    exact h3
end
end SG
namespace L2
open PySem PySem.Spec PyProof.Rows PySem.W
section
variable {prog:Program}{w:World}{A:Around}{E:Value->Shared->Prop}{s:Shared}{κ:SortKind}{vs:List Value}{rk:Value->Nat}
theorem FV{p:Keyed}(h:p∈(pairsOf vs).toList):p.1=p.2/\p.2∈vs:=by
 have h:p∈(vs.toArray.zip vs.toArray).toList:=h
 rw[Array.toList_zip]at h
 obtain⟨i,hi,e⟩:=O4 h
 rw[List.getElem_zip]at e
 subst e
 exact ⟨rfl,A5 _⟩
theorem xU{a:Addr}{n:Nat}{P:Fin->Shared->Prop}(ho:s.heap.get? a=some (seqObj "list" vs.toArray n))(hz:vs.length<=sizeLine)
  (hk:2<=vs.length->∀s':Shared,(∀b o,b≠a->s.heap.get? b=some o->s'.heap.get? b=some o)->∀Q':SortKind->Shared->Prop,Q' κ s'->wpAny (model prog w) A (keyKind' vs.toArray) Q' E s')
  (hlt:∀s':Shared,(∀b o,b≠a->s.heap.get? b=some o->s'.heap.get? b=some o)->∀x y,x∈vs->y∈vs->∀Q':Bool->Shared->Prop,Q' (decide (rk x < rk y)) s'->wpAny (model prog w) A (keyLt' κ x y) Q' (λ_ _=>False) s')
  (h:∀out:List Value,out.Perm vs->out.Pairwise (λx y=>rk x<=rk y)->P (.done (.ret .none)) { s with heap:=sortedHeap s.heap a vs out.toArray }) :
  wpAny (model prog w) A (Builtin.«list.sort» ⟨[.ref a],[]⟩) P E s:=by
 rw[list_sort_plain]
 have ha:a < s.heap.objs.size:=D0 ho
 refine wpAny_bind (listItems_at ho rfl ?_)
 refine wpAny_bind (listUpdate_at ho rfl ?_)
 obtain⟨e1,ho1⟩:∃e1,(s.heap.update a (U2 λ_=>#[])).get? a=some (seqObj "list" #[] e1):=⟨_,get?_update_seq ho (λ_=>#[])⟩
 refine wpAny_bind (seqEpoch_at ho1 rfl ?_)
 refine wpAny_bind (wpAny_newTuple ?_)
 refine wpAny_bind (wpAny_newList ?_)
 refine wpAny_holding ?_
 have ho6:(((s.heap.update a (U2 λ_=>#[])).push (seqObj "tuple" vs.toArray 0)).push (seqObj "list" #[] 0)).get? a=some (seqObj "list" #[] e1):=by
  rw[U6 _ _ _ (by rw[size_push',n8];exact W0 (V6 ha)),U6 _ _ _ (by rw[n8];exact W0 ha)]
  exact ho1
 have kp:∀b o,b≠a->s.heap.get? b=some o->(((s.heap.update a (U2 λ_=>#[])).push (seqObj "tuple" vs.toArray 0)).push (seqObj "list" #[] 0)).get? b=some o:=λb o hb e=>by
  refine g0 _ (g0 _ ?_)
  rw[h9 _ _ _ _ hb]
  exact e
 show wpAny (model prog w) A _ P E { s with heap:=((s.heap.update a (U2 λ_=>#[])).push (seqObj "tuple" vs.toArray 0)).push (seqObj "list" #[] 0) }
 dsimp only
 have hsz:vs.toArray.size=vs.length:=by simp
 have out0:((pairsOf vs).map (·.2))=vs.toArray:=by
  apply Array.toList_inj.mp
  rw[j7]
  show (vs.toArray.zip vs.toArray).toList.map (·.2)=_
  simp only[Array.toList_zip]
  exact List.map_snd_zip (G0 _)
 by_cases h2:vs.toArray.size < 2
 ·rw[if_pos h2,if_pos h2]
  refine wpAny_bind (wpAny_pure ?_)
  rw[StateT.run_pure]
  refine wpAny_bind (wpAny_pure ?_)
  dsimp only
  refine wpAny_bind (seqEpoch_at ho6 rfl ?_)
  refine wpAny_bind (listUpdate_at ho6 rfl ?_ (hsz2:=by rw[Array.size_map];show (pairsOf vs).size<=_;rw[pairsOf_size];exact Nat.le_succ_of_le hz))
  simp only[bne_self_eq_false,B4,if_false]
  have h':=h vs (List.Perm.refl _) (by
    match vs,h2 with
    | [],_=>exact .nil
    | [x],_=>exact m6 _ _
    | x :: y :: z,h2=>simp at h2;omega)
  rw[<- out0]at h'
  exact wpAny_pure h'
 ·rw[if_neg h2,if_neg h2]
  have h2':2<=vs.length:=by omega
  refine wpAny_bind (hk h2' _ kp _ ?_)
  have run:=SG.w_sort (prog:=prog) (w:=w) (A:=A) (E:=E) (κ:=κ) (rk:=λp=>rk p.1) (S:=λp=>p.1∈vs) (st:=SortSt.mk' κ (pairsOf vs) #[] 7 none)
   (s:={ s with heap:=((s.heap.update a (U2 λ_=>#[])).push (seqObj "tuple" vs.toArray 0)).push (seqObj "list" #[] 0) })
   (Q:=λ_ st'=>(arrOf st').Perm (pairsOf vs)/\failedOf st'=none/\SG.Sg (λp=>rk p.1) (arrOf st') 0 (pairsOf vs).size)
   (λx y hx hy Q' hQ'=>hlt _ kp _ _ hx hy Q' hQ') (λp hp=>by have:=FV hp;show p.1∈vs;rw[this.1];exact this.2) rfl rfl rfl λst' p1 p2 p3=>⟨p1,p2,p3⟩
  refine wpAny_bind (wpAny_mono run ?_ λ_ _ e=>e)
  rintro⟨⟨⟩,st'⟩ s' ⟨rfl,hp,hf,hs⟩
  dsimp only at hp hf hs ⊢
  refine wpAny_bind (seqEpoch_at ho6 rfl ?_)
  have hpl:=E5.mp hp
  have eq12:∀p∈(arrOf st').toList,p.1=p.2:=λp h=>(FV (hpl.mem_iff.mp h)).1
  have hO:((arrOf st').map (·.2)).toList.Perm vs:=by
   rw[j7]
   have e:(pairsOf vs).toList.map (·.2)=vs:=by rw[<- j7,out0]
   have:=hpl.map (·.2)
   rw[e]at this
   exact this
  have hL:((arrOf st').map (·.2)).toList.length=vs.length:=hO.length_eq
  rw[V0]at hL
  refine wpAny_bind (listUpdate_at ho6 rfl ?_ (hsz2:=by rw[hL];exact Nat.le_succ_of_le hz))
  rw[hf]
  simp only[bne_self_eq_false,B4,if_false]
  refine wpAny_pure ?_
  have:=h ((arrOf st').map (·.2)).toList hO (by
    rw[j7,X4,X3]
    intro i j hi hj hij
    rw[V0]at hi hj
    have hz2:(arrOf st').size=(pairsOf vs).size:=hp.size_eq
    have:=hs i j (i4 _) (by omega) (by omega)
    rw[SG.KR_at hi,SG.KR_at hj]at this
    rw[A3,A3,<- eq12 _ (by simp),<- eq12 _ (by simp)]
    exact this)
  rw[Array.toArray_toList]at this
  exact this
theorem Hj{l:Addr}{Q:Value->Shared->Prop}(hl:s.heap.IsList l vs.toArray)(hz:vs.length<=sizeLine)
  (hk:2<=vs.length->∀s':Shared,(∀b o,s.heap.get? b=some o->s'.heap.get? b=some o)->∀(E:Value->Shared->Prop) (Q':SortKind->Shared->Prop),Q' κ s'->wpAny (model prog w) A.in1.in1 (keyKind' vs.toArray) Q' E s')
  (hlt:∀s':Shared,(∀b o,s.heap.get? b=some o->s'.heap.get? b=some o)->∀x y,x∈vs->y∈vs->∀Q':Bool->Shared->Prop,Q' (decide (rk x < rk y)) s'->wpAny (model prog w) A.in1.in1 (keyLt' κ x y) Q' (λ_ _=>False) s')
  (h:∀out:List Value,out.Perm vs->out.Pairwise (λx y=>rk x<=rk y)->Q (.ref (s.heap.objs.size+1)) { s with heap:=sortedAll s.heap vs out.toArray }) :
  wpAny (model prog w) A (call (.builtin "sorted") [.ref l]) Q E s:=by
 refine Calls.call_function_entry kind_sorted plain_sorted entry_sorted (args_sorted1 _) ?_
 unfold Builtin.«sorted»
 refine wpAny_bind (m:=checkCount "sorted" 1 1 _) (wpAny_pure ?_)
 refine wpAny_bind (collect_list hl ?_ (hsz:=hz))
 refine wpAny_bind (wpAny_newList ?_ hz)
 have hsz:((s.heap.push (seqObj "list" #[] 0)).update s.heap.objs.size (U2 (·++vs.toArray))).objs.size=s.heap.objs.size+1:=by
  rw[n8,size_push']
 have hoL:(((s.heap.push (seqObj "list" #[] 0)).update s.heap.objs.size (U2 (·++vs.toArray))).push (seqObj "list" vs.toArray 0)).get? (s.heap.objs.size+1)=some (seqObj "list" vs.toArray 0):=by
  rw[<- hsz];exact J0 _ rfl
 have keep:∀b o,s.heap.get? b=some o->b≠s.heap.objs.size+1/\(((s.heap.push (seqObj "list" #[] 0)).update s.heap.objs.size (U2 (·++vs.toArray))).push (seqObj "list" vs.toArray 0)).get? b=some o:=λb o q=>by
  have hlt:b < s.heap.objs.size:=D0 q
  refine ⟨W0 (V6 hlt),?_⟩
  rw[U6 _ _ _ (by rw[hsz];exact W0 (V6 hlt)),h9 _ _ _ _ (W0 hlt),U6 _ _ _ (W0 hlt)]
  exact q
 show wpAny _ _ _ _ _ { s with heap:=((s.heap.push (seqObj "list" #[] 0)).update s.heap.objs.size (U2 (·++vs.toArray))).push (seqObj "list" vs.toArray 0) }
 rw[hsz]
 refine wpAny_bind (wpAny_holding (wpAny_call_entry slot_list_sort ⟨_,hoL,rfl⟩ entry_list_sort (xU (κ:=κ) (rk:=rk) hoL hz (λh2 s' k Q' q=>hk h2 s' (λb o e=>k b o (keep b o e).1 (keep b o e).2) _ Q' q)
   (λs' k x y hx hy Q' q=>hlt s' (λb o e=>k b o (keep b o e).1 (keep b o e).2) x y hx hy Q' q) λout o1 o2=>⟨_,rfl,?_⟩) (args_list_sort _)))
 exact wpAny_pure ⟨_,rfl,h out o1 o2⟩
end
end L2
namespace SG
structure Wk{α:Type}(lt:α->α->Bool):Prop where
 irr:∀a,lt a a=false
 tr:∀a b c,lt a b=true->lt b c=true->lt a c=true
 nt:∀a b c,lt a b=false->lt b c=false->lt a c=false
theorem LD{α:Type}{p q:α->Bool}:∀{l:List α},(∀a∈l,p a=true->q a=true)->l.countP p<=l.countP q
 | [],_=>G0 _
 | a :: l,h=>by
  have ih:=LD (l:=l) λx hx=>h x (u0 _ hx)
  rw[m7,m7]
  have:=h a B0
  cases hp:p a
  ·simp;omega
  ·rw[this hp];simp;omega
theorem uw{α:Type}{p q:α->Bool}:∀{l:List α},(∀a∈l,p a=true->q a=true)->(∃a∈l,p a=false/\q a=true)->l.countP p < l.countP q
 | [],_,⟨_,h,_⟩=>by simp at h
 | a :: l,h,⟨x,hx,h1,h2⟩=>by
  rw[m7,m7]
  rcases U1.mp hx with rfl|hx
  ·have:=LD (l:=l) λx hx=>h x (u0 _ hx)
   rw[h1,h2]
   simp
   omega
  ·have ih:=uw (l:=l) (λx hx=>h x (u0 _ hx)) ⟨x,hx,h1,h2⟩
   have:=h a B0
   cases hp:p a
   ·simp;omega
   ·rw[this hp];simp;omega
theorem rank{α:Type}{lt:α->α->Bool}(W:Wk lt){l:List α}{x y:α}(hx:x∈l)(hy:y∈l):decide (l.countP (λa=>lt a x) < l.countP (λa=>lt a y))=lt x y:=by
 cases h:lt x y
 ·rw[decide_eq_false_iff_not,Nat.not_lt]
  refine LD λa _ ha=>?_
  cases h2:lt a x
  ·rw[W.nt a x y h2 h]at ha;cases ha
  ·rfl
 ·rw[decide_eq_true_eq]
  exact uw (λa _ ha=>W.tr a x y ha h) ⟨x,hx,W.irr x,h⟩
theorem lex_wk:Wk HT.lexLt:=by
 refine ⟨λa=>?_,λa=>?_,λa=>?_⟩
 ·induction a with
  | nil=>rfl
  | cons x a ih=>rw[HT.lexLt_cons,if_pos rfl];exact ih
 ·induction a with
  | nil =>
   intro b c h1 h2
   cases c with
   | nil=>cases b<;>cases h2
   | cons z c=>rfl
  | cons x a ih =>
   intro b c h1 h2
   cases b with
   | nil=>cases h1
   | cons y b =>
    cases c with
    | nil=>cases h2
    | cons z c =>
     rw[HT.lexLt_cons]at h1 h2 ⊢
     by_cases e1:x=y
     ·subst e1
      rw[if_pos rfl]at h1
      by_cases e2:x=z
      ·subst e2
       rw[if_pos rfl]at h2 ⊢
       exact ih b c h1 h2
      ·rw[if_neg e2]at h2 ⊢;exact h2
     ·rw[if_neg e1]at h1
      have h1:=of_decide_eq_true h1
      by_cases e2:y=z
      ·subst e2
       rw[if_neg e1]
       exact decide_eq_true h1
      ·rw[if_neg e2]at h2
       have h2:=of_decide_eq_true h2
       rw[if_neg (by omega)]
       exact decide_eq_true (by omega)
 ·induction a with
  | nil =>
   intro b c h1 h2
   cases b with
   | nil=>exact h2
   | cons y b=>cases h1
  | cons x a ih =>
   intro b c h1 h2
   cases c with
   | nil=>rfl
   | cons z c =>
    cases b with
    | nil=>cases h2
    | cons y b =>
     rw[HT.lexLt_cons]at h1 h2 ⊢
     by_cases e1:x=y
     ·subst e1
      rw[if_pos rfl]at h1
      by_cases e2:x=z
      ·subst e2
       rw[if_pos rfl]at h2 ⊢
       exact ih b c h1 h2
      ·rw[if_neg e2]at h2 ⊢;exact h2
     ·rw[if_neg e1]at h1
      have h1:=of_decide_eq_false h1
      by_cases e2:y=z
      ·subst e2
       rw[if_neg e1]
       exact decide_eq_false h1
      ·rw[if_neg e2]at h2
       have h2:=of_decide_eq_false h2
       rw[if_neg (by omega)]
       exact decide_eq_false (by omega)
theorem lex_eq:∀{a b:List Int},HT.lexLt a b=false->HT.lexLt b a=false->a=b
 | [],[],_,_=>rfl
 | [],_ :: _,h,_=>by cases h
 | _ :: _,[],_,h=>by cases h
 | x :: a,y :: b,h1,h2=>by
  rw[HT.lexLt_cons]at h1 h2
  by_cases e:x=y
  ·subst e
   rw[if_pos rfl]at h1 h2
   rw[lex_eq h1 h2]
  ·rw[if_neg e]at h1
   rw[if_neg (λz=>e z.symm)]at h2
   have h1:=of_decide_eq_false h1
   have h2:=of_decide_eq_false h2
   omega
theorem sorted_uniq{α:Type}{lt:α->α->Bool}(an:∀a b,lt a b=false->lt b a=false->a=b):∀{l m:List α},l.Perm m->l.Pairwise (λa b=>lt b a=false)->m.Pairwise (λa b=>lt b a=false)->l=m
 | [],m,p,_,_=>by rw[List.nil_perm.mp p]
 | x :: l,[],p,_,_=>by simp at p
 | x :: l,y :: m,p,h1,h2=>by
  have e:x=y:=by
   have hx:x∈y :: m:=p.mem_iff.mp B0
   have hy:y∈x :: l:=p.mem_iff.mpr B0
   rcases U1.mp hx with e|hx
   ·exact e
   ·rcases U1.mp hy with e|hy
    ·exact e.symm
    ·exact an x y ((D4.mp h2).1 x hx) ((D4.mp h1).1 y hy)
  subst e
  rw[sorted_uniq an (List.perm_cons x |>.mp p) (D4.mp h1).2 (D4.mp h2).2]
end SG
namespace L2
open PySem PySem.Spec PyProof.Rows PySem.W
section
variable {X:Cx}{α:Type}[Inhabited α]
noncomputable def yU(K:A0)(Rep:Hp->Addr->α->Prop)(fn:Hp->V->α)(lt:α->α->Bool):List V->Hp->VK->Prop:=λxs H Q=>∃(a:Addr) (us:List V),xs=[.ref a]/\SqL K H a us/\us.length<=sizeLine /\
 (∀v∈us,∃c x,v=.ref c/\Rep H c x)/\∀(p:Addr) (us':List V),H p=none->us'.Perm us->(us'.map (fn H)).Pairwise (λa b=>lt b a=false)->Q (.ref p) (OQ H p (.lst us'))
theorem Ij{us:List V}{its:List Value}:∀{out:List Value},out.Perm its->Vals us its->∃us':List V,us'.Perm us/\Vals us' out:=by
 intro out p
 induction p generalizing us with
 | nil=>intro h;exact ⟨us,List.Perm.refl _,h⟩
 | cons x _ ih =>
  intro h
  cases h with
  | cons h t =>
   obtain⟨us',p,r⟩:=ih t
   exact ⟨_,p.cons _,.cons h r⟩
 | swap x y l =>
  intro h
  cases h with
  | cons h1 t=>cases t with|cons h2 t=>exact ⟨_,List.Perm.swap _ _ _,.cons h2 (.cons h1 t)⟩
 | trans _ _ ih1 ih2 =>
  intro h
  obtain⟨u2,p2,r2⟩:=ih2 h
  obtain⟨u1,p1,r1⟩:=ih1 r2
  exact ⟨u1,p1.trans p2,r1⟩
end
section
variable {X:Cx}{α:Type}[Inhabited α]{Rep:Hp->Addr->α->Prop}{fn:Hp->V->α}{lt:α->α->Bool}{κ:SortKind}
theorem nF{c:Addr}{u:Value}(h:RelV (.ref c) u):u=.ref c:=h
noncomputable def oJ(fn:Hp->V->α)(H:Hp):Value->α
 | .ref c=>fn H (.ref c)
 | _=>default
theorem MD(W:SG.Wk lt)(hf:∀H c a,Rep H c a->fn H (.ref c)=a)
  (hkind:∀{pins:List (Addr×Obj)}{s:Shared}{σ:St}{H:Hp},Inv X pins σ H s->∀its:List Value,2<=its.length->(∀u∈its,∃c x,u=.ref c/\Rep H c x)->∀(s':Shared),(∀b o,s.heap.get? b=some o->s'.heap.get? b=some o)->∀(E:Value->Shared->Prop) (Q':SortKind->Shared->Prop),Q' κ s'->wpAny (model X.prog X.w) X.A.in1.in1 (keyKind' its.toArray) Q' E s')
  (hcmp:∀{pins:List (Addr×Obj)}{s:Shared}{σ:St}{H:Hp},Inv X pins σ H s->∀(c d:Addr) (x y:α),Rep H c x->Rep H d y->∀(s':Shared),(∀b o,s.heap.get? b=some o->s'.heap.get? b=some o)->∀Q':Bool->Shared->Prop,Q' (lt x y) s'->wpAny (model X.prog X.w) X.A.in1.in1 (keyLt' κ (.ref c) (.ref d)) Q' (λ_ _=>False) s') :
  oX X (.builtin "sorted") (yU X.K Rep fn lt):=by
 intro pins s σ H xs us Q I r h
 obtain⟨a,vs,rfl,hs,hz,hrep,q⟩:=h
 obtain⟨u,rfl,ru⟩:=PZ r
 cases ru
 obtain⟨its,rv,⟨o,n,e,c,d1,d2⟩,hz'⟩:=I.list hs
 have hl:=rv.length
 have at':∀u∈its,∃c x,u=.ref c/\Rep H c x:=λu hu=>by
  obtain⟨i,hi,rfl⟩:=O4 hu
  have hi2:i < vs.length:=by omega
  obtain⟨c,x,hv,hr⟩:=hrep _ (A5 hi2)
  obtain⟨u,hu,ru⟩:=rv.get (L0 hi2)
  rw[hv]at ru
  rw[L0 hi]at hu
  have:its[i]=u:=D2 hu
  rw[this]
  exact ⟨c,x,nF ru,hr⟩
 have key:∀x∈its,∀y∈its,decide ((its.map (oJ fn H)).countP (λa=>lt a (oJ fn H x)) < (its.map (oJ fn H)).countP (λa=>lt a (oJ fn H y)))=lt (oJ fn H x) (oJ fn H y):=λx hx y hy =>
  SG.rank W (J7 hx) (J7 hy)
 refine Hj (κ:=κ) (rk:=λv=>(its.map (oJ fn H)).countP (λa=>lt a (oJ fn H v))) (vs:=its) ⟨o,e,c,n,by first|exact d2|exact d1⟩ (by omega) (λh2 s' k E' Q' q'=>?_) (λs' k x y hx hy Q' q'=>?_) (λout o1 o2=>?_)
 ·exact hkind I its h2 at' s' k E' Q' q'
 ·rw[key x hx y hy]at q'
  obtain⟨c,x',rfl,hx'⟩:=at' x hx
  obtain⟨d,y',rfl,hy'⟩:=at' y hy
  refine hcmp I c d x' y' hx' hy' s' k Q' ?_
  have e1:oJ fn H (.ref c)=x':=hf H c x' hx'
  have e2:oJ fn H (.ref d)=y':=hf H d y' hy'
  rw[e1,e2]at q'
  exact q'
 ·obtain⟨ep,he⟩:=sortedAll_at s.heap its out.toArray
  have hn:H (s.heap.objs.size+1)=none:=I.hok.fresh (K9 _)
  obtain⟨us',p',r'⟩:=Ij o1 rv
  refine ⟨.ref (s.heap.objs.size+1),OQ H (s.heap.objs.size+1) (.lst us'),I.laid (t':=s.toks) (λb u e=>sortedAll_old e) (K9 _) ?_,rfl,q _ us' hn p' ?_⟩
  ·exact ⟨by rw[p'.length_eq];exact hz,out,ep,r',by rw[he]⟩
  ·rw[X4,X3]
   intro i j hi hj hij
   have hl':=r'.length
   have o3:=X3.mp o2 i j (by omega) (by omega) hij
   have hxm:out[i]'(by omega)∈its:=o1.mem_iff.mp (A5 _)
   have hym:out[j]'(by omega)∈its:=o1.mem_iff.mp (A5 _)
   have k2:=key _ hym _ hxm
   rw[decide_eq_false (Nat.not_lt.mpr o3)]at k2
   have ev:∀(m:Nat) (hm:m < us'.length),fn H us'[m]=oJ fn H (out[m]'(by omega)):=λm hm=>by
    obtain⟨c,x,hv,hr⟩:=hrep _ (p'.mem_iff.mp (A5 hm))
    obtain⟨u,hu,ru⟩:=r'.get (L0 hm)
    rw[L0 (by omega)]at hu
    have hu:out[m]'(by omega)=u:=D2 hu
    rw[hv]at ru ⊢
    rw[hu,nF ru]
    rfl
   rw[ev i hi,ev j hj]
   exact k2.symm
end
section
variable {prog:Program}{w:World}{A:Around}{s:Shared}
end
noncomputable def HI(H:Hp):V->List Int
 | .ref c=>match H c with
  | some (.tup xs)=>xs.map SO
  | _=>[]
 | _=>[]
end L2
namespace L3
open PySem PySem.Spec PyProof.Rows L2
theorem DaAll.mem{K:Fg}{F:Hp}:∀{us:List V}{ds:List D},DaAll K F us ds->∀v∈us,∃d∈ds,Da K F v d
 | _,_,.nil,v,h=>by simp at h
 | _,_,.cons a t,v,h=>by
  rcases U1.mp h with rfl|h
  ·exact ⟨_,B0,a⟩
  ·obtain⟨d,h1,h2⟩:=DaAll.mem t v h
   exact ⟨d,u0 _ h1,h2⟩
theorem DaAll.map_of{K:Fg}{F:Hp}{f:V->D}:∀{us:List V},(∀v∈us,Da K F v (f v))->DaAll K F us (us.map f)
 | [],_=>.nil
 | v :: us,h=>.cons (h v B0) (DaAll.map_of λx hx=>h x (u0 _ hx))
theorem DaAll.map_eq{K:Fg}{F:Hp}{α:Type}{g:α->D}{f:V->α}(hg:∀v a,Da K F v (g a)->f v=a):∀{us:List V}{as:List α},DaAll K F us (as.map g)->us.map f=as
 | [],[],_=>rfl
 | _ :: _,[],h=>by cases h
 | [],_ :: _,h=>by cases h
 | v :: us,a :: as,h=>by
  cases h with
  | cons h t=>rw[E1,hg v a h,DaAll.map_eq hg t]
theorem vw{K:Fg}{F:Hp}{v:V}{r:List Int}(h:Da K F v (.tuple (r.map q0))):∃c,v=.ref c/\F c=some (.tup (r.map V.int)):=by
 cases h with
 | tup h t =>
  have:=t.ints_of
  subst this
  exact ⟨_,rfl,h⟩
end L3
namespace L2
open PySem PySem.Spec PyProof.Rows
theorem zw{P:Program}{w:World}{A:Around}(hh:A.handled=none){k:Kd}{it l:Addr}(ne:l≠it){xs:Array Value} :
  Draws P w A it [it,l] xs.size (λi x=>xs[i]?=some x) (λi h=>ItAt k h it l i/\SqAt k h l xs) where
 live:=λi h st=>by obtain⟨o,e,_⟩:=st.1.obj;exact ⟨o,e⟩
 frame:=λi h h' st kp=>⟨st.1.at λo e=>kp it (by simp) o e,st.2.at λo e=>kp l (by simp) o e⟩
 item:=λi s Q E hi st hQ=>by
  refine KQ st.1 st.2 (L5 hi) λh' t' s'=>?_
  exact hQ _ h' s.toks (L5 hi) ⟨t',st.2.at λo e=>(s'.2 l ne).trans e⟩ s'
 done:=λs Q E st hE=>iX hh st.1 st.2 (by simp) hE
noncomputable def aP(K:A0)(k:Kd)(l:Addr):It :=
 ⟨λi H=>∃ys x,Sq k K H l ys/\ys[i]?=some x,
  λi H x H'=>∃T y,H T=none/\x=.ref T/\H'=OQ H T (.tup [.int (i:Nat),y])/\∀ys,Sq k K H l ys->ys[i]?=some y,
  λi H=>∃ys,Sq k K H l ys/\ys.length<=i⟩
theorem Jj{P:Program}{w:World}{K:A0}{es:List Expr}{kk:Nat}{pos:Pos}(k:Kd)(e it l:Addr)(ne:e≠it)(nl:l≠it)(nel:e≠l):Turn P w K (.Tuple es kk pos) (aP K k l) [e,it] e
  (λi h=>(∃old,IsEnum h e it (i:Nat) old)/\ItAt k h it l i) where
 mem:=by simp
 obj:=λi h st b hb=>by
  obtain⟨⟨old,he⟩,t⟩:=st
  have hb:b=e\/b=it:=by simpa using hb
  rcases hb with rfl|rfl
  ·exact ⟨_,he,λv e=>by cases e⟩
  ·exact t.obj
 keep:=λi h h' st kp=>by
  obtain⟨⟨old,he⟩,t⟩:=st
  exact ⟨⟨old,kp _ (by simp) _ he⟩,t.at λo e=>kp _ (by simp) _ e⟩
 item:=by
  intro X hP hw hK hc i pins s σ H E I hf st hg
  subst hP hw hK
  obtain⟨⟨old,he⟩,t⟩:=st
  obtain⟨ys,y,q1,e1⟩:=hg
  obtain⟨its,rv,p1,z1⟩:=I.sq q1
  obtain⟨u,hu,ru⟩:=rv.get e1
  have hh:X.A.in1.handled=none:=I.ok.hd hc
  have hlt:i < its.toArray.size:=by
   have:=(J1.mp hu).1
   simpa using this
  refine wpAny_pyNext_enum_itemD (zw hh nl (k:=k) (xs:=its.toArray)) he ⟨t,p1⟩ hlt ne (by simp[ne,nel]) λx h' tk hx b1 b2 b3 b4 b5=>?_
  have hx:x=u:=by
   rw[show its.toArray[i]?=some u by simpa using hu]at hx
   exact (D2 hx).symm
  subst hx
  have hTn:s.heap.objs.size≠e:=O1 (D0 he)
  refine ⟨_,rfl,wpAny_letOwnedTupleGo_enum (s:={ s with heap:=h',toks:=tk+1 }) b1 λh2 he2 hs2=>?_⟩
  have kp:∀b o,b∉[e,it]->s.heap.get? b=some o->h2.get? b=some o:=λb o hb eb=>by
   have hb:b≠e/\b≠it:=by simpa using hb
   exact hs2.extBut _ _ hb.1 (b5 b o hb.1 hb.2 eb)
  have hT2:yQ h2 s.heap.objs.size (.int (i:Nat) tk) x:=hs2.extBut _ _ hTn b3
  have hfr:H s.heap.objs.size=none:=I.hok.fresh (G0 _)
  have I2:Inv X pins σ (OQ H s.heap.objs.size (.tup [.int (i:Nat),y])) { s with heap:=h2 }:=by
   have nfp:∀b u,H b=some u->b∉[e,it]:=λb u eb hb=>by have:=(hf b hb).1;rw[eb]at this;cases this
   refine I.step (g':=s.gens) (d':=s.drawn) (ch:=[e,it]) (λb hb=>?_) (λb o _ _ hc' eb _=>kp b o hc' eb) (λb o _ _ hc' eb _=>⟨o.slots,kp b o hc' eb⟩) (λb o _ eb n=>?_)
    (λb o hc' eb=>⟨o,kp b o hc' eb⟩) (λb xs eb=>?_) (λb o xs eb=>?_) (λb ps eb=>⟨#[],?_⟩) (λm hm=>?_) (λb o eb=>?_) I.bare
   ·obtain⟨f0,f1,f2,f3,f4,f5⟩:=hf b hb
    exact ⟨f3,f1,f4,f5⟩
   ·rw[dQ (W0 (D0 eb))];exact n
   ·rw[dQ (gQ eb hfr)];exact eb
   ·rw[dQ (gQ eb hfr)];exact eb
   ·rw[dQ (gQ eb hfr),eb];simp
   ·obtain⟨o,es',ep,ho,r⟩:=hm
    exact ⟨o,es',ep,kp _ o (λhb=>(hf _ hb).2.1 rfl) ho,r⟩
   ·by_cases hb:b=s.heap.objs.size
    ·subst hb
     rw[jQ]at eb
     cases eb
     exact ⟨by show 2<=sizeLine;decide,[.int (i:Nat) tk,x],.cons ⟨tk,rfl⟩ (.cons ru .nil),_,hT2,rfl,_,rfl,rfl⟩
    ·rw[dQ hb]at eb
     refine (I.hok b o eb).stay (λc v hc' q=>kp c v ?_ q) (λc q=>by rw[dQ (gQ q hfr)];exact q) λc xs q=>by rw[dQ (gQ q hfr)];exact q
     rcases hc' with rfl|hc'
     ·exact nfp _ _ eb
     ·exact nfp _ _ hc'
  refine ⟨.ref s.heap.objs.size,_,I2.tok (tk+1),rfl,⟨_,y,hfr,rfl,rfl,λys' hy=>by rw[I.sq_inj hy q1];exact e1⟩,⟨⟨x,by simpa using he2⟩,b2.1.at λo eo=>hs2.extBut _ _ (S1 ne) eo⟩,λb hb=>?_⟩
  rw[dQ ?_]
  ·exact (hf b hb).1
  ·intro z
   subst z
   have hb:s.heap.objs.size=e\/s.heap.objs.size=it:=by simpa using hb
   rcases hb with z|z
   ·exact hTn z
   ·obtain⟨o,eo,_⟩:=t.obj
    exact O1 (D0 eo) z
 done:=by
  intro X hP hw hK hc i pins s σ H E I hf st hg
  subst hP hw hK
  obtain⟨⟨old,he⟩,t⟩:=st
  obtain⟨ys,q1,hend⟩:=hg
  obtain⟨its,rv,p1,z1⟩:=I.sq q1
  have hlen:=rv.length
  have hh:X.A.in1.handled=none:=I.ok.hd hc
  have hT:s.TypeIs (.ref e) "enumerate":=⟨_,he,rfl⟩
  unfold pyNext
  refine wpAny_bind (wpAny_attempt (wpAny_callSpecial?_slot (name:=Str.ofString "__next__") hT F.slot_enumerate_next (wpAny_call_entry F.slot_enumerate_next hT F.entry_enumerate_next ?_ (F.args_enumerate_next_1 _))))
  show wpAny _ _ (field (.ref e) 2 >>= _) _ _ _
  refine wpAny_bind (wpAny_field he rfl (x:=.ref it) rfl ?_)
  refine wpAny_bind (iX hh t p1 (by simp;omega) λh' x kp hx'=>?_)
  obtain⟨o,ho,hcl⟩:=hx'
  refine wpAny_bind (wpAny_isInstance (T:="StopIteration") (b:=true) ⟨o,ho,hcl⟩ isSubtype_stop ?_)
  refine wpAny_pure ⟨rfl,?_⟩
  have nfp:∀b u,H b=some u->b∉[e,it]:=λb u eb hb=>by have:=(hf b hb).1;rw[eb]at this;cases this
  have kp':∀b o,b∉[e,it]->s.heap.get? b=some o->h'.get? b=some o:=λb o hb eb=>by
   have hb:b≠e/\b≠it:=by simpa using hb
   exact kp b o hb.2 eb
  refine I.step (g':=s.gens) (d':=s.drawn) (ch:=[e,it]) (λb hb=>?_) (λb o _ _ hc' eb _=>kp' b o hc' eb) (λb o _ _ hc' eb _=>⟨o.slots,kp' b o hc' eb⟩) (λb o _ eb n=>n)
   (λb o hc' eb=>⟨o,kp' b o hc' eb⟩) (λb xs eb=>eb) (λb o xs eb=>eb) (λb ps eb=>⟨#[],by rw[eb];simp⟩) (λm hm=>?_) (λb o eb=>?_) I.bare
  ·obtain⟨f0,f1,f2,f3,f4,f5⟩:=hf b hb
   exact ⟨f3,f1,f4,f5⟩
  ·obtain⟨o,es',ep,ho,r⟩:=hm
   exact ⟨o,es',ep,kp' _ o (λhb=>(hf _ hb).2.1 rfl) ho,r⟩
  ·refine (I.hok b o eb).stay (λc v hc' q=>kp' c v ?_ q) (λ_ q=>q) λ_ _ q=>q
   rcases hc' with rfl|hc'
   ·exact nfp _ _ eb
   ·exact nfp _ _ hc'
 self:=λ_ _ _ _ _ st h=>by obtain⟨⟨old,he⟩,_⟩:=st;exact wpAny_pyIter_enum he h
noncomputable abbrev jN(h:Heap)(k:Kd)(l:Addr):Heap:=(h.push (MQ k l)).push { cls:=.type "enumerate",data:=.fields #[.none,.bool false,.ref h.objs.size,rawInt 0,.none,.none] }
theorem Aw(k:Kd)(l:Addr)(xs:Array Value) :
  Meets (Builtin.«enumerate.__new__» ⟨[.type "enumerate",.ref l],[]⟩) (λ_ R s=>SqAt k s.heap l xs/\R (.ok (.ret (.ref (s.heap.push (MQ k l)).objs.size))) { s with heap:=jN s.heap k l }) :=
 .of_wp λprog w A R s h=>by
  obtain⟨hp,g,d,tk,os⟩:=s;obtain⟨hl,h⟩:=h
  have hsub:=sub_enumerate
  have hL:SqAt k (Shared.heap ⟨hp,g,d,tk,os⟩) l xs:=hl
  obtain⟨o,ho⟩:∃o,hp.get? l=some o:=by cases k<;>(obtain⟨o,eo,_⟩:=hl;exact ⟨o,eo⟩)
  wp_walk using AutoSeq1.wpAny_loadPart' ho
  refine wpAny_stack_any λst=>wpAny_pure ?_
  split
  ·rename_i c _ _ _ _ _
   cases (c==w6 "enumerate")
   ·wp_walk using AutoSeq1.wpAny_loadPart' ho,tZ hL
    exact ⟨_,rfl,h⟩
   ·wp_walk using AutoSeq1.wpAny_loadPart' ho,tZ hL
    exact ⟨_,rfl,h⟩
  ·wp_walk using AutoSeq1.wpAny_loadPart' ho,tZ hL
   exact ⟨_,rfl,h⟩
noncomputable def ZB(K:A0)(ta:TA):TI:=λσ H R=>ta σ H λvs H1=>∃(k:Kd) (l:Addr) (ys:List V),vs=[.ref l]/\Sq k K H1 l ys/\R (aP K k l) H1
theorem Uu{X:Cx}{es:List Expr}{kk:Nat}{tpos:Pos}{a:Expr}{ta:TA}{p pos:Pos}(hg:Gl X "enumerate")(hm:X.mg "enumerate"=none)(ha:PA X [a] ta)(hs:starEach [a] X.env=(false,eval a X.env) :: starEach [] X.env:=by rfl)(hpl:(backTo pos (starEach [] X.env)).any (·.1)=false:=by rfl) :
  PI X (.Tuple es kk tpos) (.Call (.Name "enumerate" p) [a] [] pos) (ZB X.K ta):=by
 intro pins s σ H R I h
 refine Call_ (fZ I hg hm boot_enumerate (O2 (fX (ha pos pins s σ H _ I h) λus s1 ⟨vs,H1,I1,r1,q1⟩=>?_) hs hpl))
 obtain⟨k,l,ys,e,q1,q⟩:=q1
 subst e
 obtain rfl:us=[.ref l]:=by cases r1 with|cons r rr=>cases r;cases rr;rfl
 obtain⟨its,rv,p1,z1⟩:=I1.sq q1
 have lt:l < s1.heap.objs.size:=by
  cases k with
  | l=>obtain⟨o,e,_⟩:=p1;exact D0 e
  | t=>obtain⟨o,e,_⟩:=p1;exact D0 e
 refine callType_new F.called_enumerate (by decide) (F.typeCall_enumerate_1 _) (F.newCall_enumerate_1 _) (λobj=>F.args_object_init_2 obj _) F.entry_enumerate_new (Aw k l its.toArray) ⟨p1,?_⟩
 have zI:(s1.heap.push (MQ k l)).objs.size=s1.heap.objs.size+1:=by simp[B2]
 have gE:(jN s1.heap k l).get? (s1.heap.push (MQ k l)).objs.size=some _:=J0 _ rfl
 have g1:(jN s1.heap k l).get? s1.heap.objs.size=some (MQ k l):=g0 _ (J0 _ (by cases k<;>rfl))
 rw[zI]at gE
 show _/\_
 rw[zI]
 have kp:∀b o,s1.heap.get? b=some o->(jN s1.heap k l).get? b=some o:=λb o e=>g0 _ (g0 _ e)
 refine ⟨⟨_,gE,rfl⟩,wpAny_pyIter_enum (s:={ s1 with heap:=jN s1.heap k l }) gE ?_⟩
 have n1:(s1.heap.objs.size+1:Nat)≠s1.heap.objs.size:=by omega
 have n2:l≠s1.heap.objs.size:=W0 lt
 have n3:(s1.heap.objs.size+1:Nat)≠l:=O1 (V6 lt)
 refine ⟨_,[s1.heap.objs.size+1,s1.heap.objs.size],_,_,H1,rfl,I1.kept (t':=s1.toks) kp,Jj k _ _ l n1 n2 n3,⟨⟨_,gE⟩,ItAt.new k g1⟩,λb hb=>?_,q⟩
 have hb:s1.heap.objs.size<=b:=by
  have hb:b=s1.heap.objs.size+1\/b=s1.heap.objs.size:=by simpa using hb
  rcases hb with rfl|rfl
  ·exact E3 _ _
  ·exact G0 _
 exact I1.fpOk hb (I1.hok.fresh hb)
end L2
namespace L3
open PySem PySem.Spec PyProof.Rows L2
noncomputable def oK(ds:List D):List D:=ds.zipIdx.map λp=>J2 [.int (p.2:Nat),p.1]
noncomputable def zU(a:AD):JG:=λρ Q=>yX [a] ρ λxs ρ1=>match ZQ ρ1 xs with
 | false=>RQ ρ1 xs λds=>match ds with
  | [x]=>match wD x with
   | some us=>Q (oK us) ρ1
   | _=>False
  | _=>False
 | true=>False
theorem ND{K:Fg}{F:Hp}{a:Addr}{k1:Kd}{xs:List V}{ds:List D}(e1:F a=some (match k1 with|Kd.l=>HO.lst xs|Kd.t=>HO.tup xs))(h1:DaAll K F xs ds):Walks K (aP K k1 a) F (oK ds):=λi H F1 s1 s2=>by
 have q1:Sq k1 K H a xs:=RZ (s2 _ _ (s1 _ _ e1))
 refine ⟨λd ed=>?_,λhl=>⟨xs,q1,?_⟩⟩
 ·simp only[oK,D1,W3]at ed
  obtain⟨⟨x,j⟩,ez,rfl⟩:=ed
  rw[X8,W3]at ez
  obtain⟨x',ex,ep⟩:=ez
  cases ep
  obtain⟨v,g1,g2⟩:=h1.get ex
  refine ⟨⟨xs,v,q1,g1⟩,λz H' ⟨T,y,hT,ex,eH,f1⟩=>?_⟩
  subst ex eH
  have f1:=f1 xs q1
  rw[g1]at f1;cases f1
  have fT:F1 T=none:=by
   cases z:F1 T with
   | none=>rfl
   | some o=>rw[s2 _ _ z]at hT;cases hT
  refine ⟨OQ F1 T (.tup [.int (i:Nat),v]),Sub.new fT,λc o ec=>?_,λc o ec=>?_,Sub.new hT,.tup jQ (.cons (by rw[P5];exact .int _) (.cons (g2.mono (s1.trans (Sub.new fT))) .nil))⟩
  ·by_cases z:c=T
   ·subst z;exact .inr hT
   ·rw[dQ z]at ec;exact .inl ec
  ·by_cases z:c=T
   ·subst z;rw[jQ]at ec ⊢;exact ec
   ·rw[dQ z]at ec ⊢;exact s2 _ _ ec
 ·simp only[oK,n0,List.length_zipIdx]at hl
  rw[h1.length]
  omega
theorem II{K:Fg}{a:AD}{σ:L2.St}{H:Hp}{R:It->Hp->Prop}(h:XQ K (zU a) σ H R):ZB K (wQ ([a].map (nQ K))) σ H R:=by
 obtain⟨G,F,ρ,Qd,Rl,w,k⟩:=h
 refine jX Rl w λvs H' F' xs ρ' sb R' o w1=>?_
 split at w1
 ·rename_i e
  obtain⟨ds,da,w1⟩:=aX R' e o w1
  split at w1
  ·rename_i x
   split at w1
   ·rename_i us p1
    cases da with
    | cons d1 t =>
     cases t
     obtain⟨k1,a1,us',rfl,e1,g1⟩:=vJ d1 p1
     exact ⟨k1,a1,us',rfl,RZ (R'.sub _ _ e1),k _ H' F' _ ρ' sb R' (ND e1 g1) w1⟩
   ·exact w1.elim
  ·exact w1.elim
 ·exact w1.elim
section
variable {X:Cx}{K:Fg}{e1:Expr}{a:AD}{p pos tpos:Pos}
theorem JI{ts:List Expr}{kk:Nat}(hK:X.K=K)(hm:X.mg "enumerate"=none)(ha:WA X [e1] (wQ ([a].map (nQ K))))(hg:Gl X "enumerate":=by rfl)(he:xQ e1=true:=by rfl):WI X (.Tuple ts kk tpos) (.Call (.Name "enumerate" p) [e1] [] pos) (XQ K (zU a)):=by
 subst hK
 exact ⟨OE (Uu hg hm ha.h (kQ he) (by rfl)) II⟩
end
noncomputable def frz(ρ:Ev):Ev:=ρ.map λx=>x.map λs=>Sl.fz s.d
section
variable {K:Fg}{G:Gh}{F H H':Hp}{σ:L2.St}{ρ:Ev}{a:Addr}{o:HO}{d:D}{v:V}
theorem Rel.scrap(R:Rel K G F σ H ρ)(h1:F a=none)(h2:G.H0 a=none)(h3:∀(i:Nat) (s:Sl),ρ[i]?=some (some s)->PQ s=true->σ[i]?≠some (some (V.ref a))):Rel K G F σ (OQ H a o) ρ where
 len:=R.len
 sub:=λb u e=>by
  have:b≠a:=λz=>by subst z;rw[h1]at e;cases e
  rw[dQ this];exact R.sub b u e
 sub0:=R.sub0
 fn:=R.fn
 keep:=λb u e n=>by
  have:b≠a:=λz=>by subst z;rw[h2]at e;cases e
  rw[dQ this];exact R.keep b u e n
 fz:=R.fz
 ow:=λi s e w=>by
  obtain⟨b,u,g1,g2,g3,g4⟩:=R.ow i s e w
  have:b≠a:=λz=>h3 i s e w (by rw[g1,z])
  exact ⟨b,u,g1,g2,by rw[dQ this];exact g3,g4⟩
 new:=R.new
 io:=R.io
 ioi:=R.ioi
 ap:=R.ap
theorem Rel.nobody(R:Rel K G F σ H ρ)(h:H a=none):∀(i:Nat) (s:Sl),ρ[i]?=some (some s)->PQ s=true->σ[i]?≠some (some (V.ref a)):=λi s e w z=>by
 obtain⟨b,u,g1,g2,g3,g4⟩:=R.ow i s e w
 rw[z]at g1
 cases g1
 rw[h]at g3;cases g3
theorem Rel.blank(R:Rel K G F σ H ρ){i:Nat}(hi:hU ρ i):Rel K G F (σ.set i (some v)) H (ρ.set i none):=by
 have ni:∀d,ρ[i]?≠some (some (Sl.io d)):=λd e=>by unfold hU at hi;rw[e]at hi;exact hi
 have R':=R.drop ni
 have no:∀{j:Nat}{s:Sl},(ρ.set i none)[j]?=some (some s)->j≠i:=λ{j s} e z=>by
  subst z
  rcases mQ e with⟨_,q⟩|⟨n,_⟩
  ·cases q
  ·exact n rfl
 refine ⟨by rw[P4];exact R'.len,R'.sub,R'.sub0,R'.fn,R'.keep,λj d e=>?_,λj t e wt=>?_,λj d b e eb=>?_,λj b e=>?_,R'.ioi,λj k t u b e1 w1 e2 w2 e3 e4=>?_⟩
 ·obtain⟨v',h1,h2⟩:=R'.fz j d e
  exact ⟨v',by rw[P0 (S1 (no e))];exact h1,h2⟩
 ·obtain⟨b,u,g1,g2,g3,g4⟩:=R'.ow j t e wt
  exact ⟨b,u,by rw[P0 (S1 (no e))];exact g1,g2,g3,g4⟩
 ·rw[P0 (S1 (no e))]at eb
  exact R'.new j d b e eb
 ·obtain⟨d,g1,g2⟩:=R'.io j b e
  exact ⟨d,g1,by rw[P0 (S1 (no g1))];exact g2⟩
 ·rw[P0 (S1 (no e1))]at e3
  rw[P0 (S1 (no e2))]at e4
  exact R'.ap j k t u b e1 w1 e2 w2 e3 e4
end
noncomputable def only(a:Addr)(o:HO):Hp:=λb=>if b=a then some o else none
section
variable {X:Cx}{K:Fg}{ec:Expr}{p p1 p2 p3 p4 p5 p6 p7 p8 p9 pa pb pc pd pe pf pg ph pi' pj:Pos}{x y a b:Str}{tc:pY}
end
end L3
namespace L2
open PySem PySem.Spec PyProof.Rows PySem.W
noncomputable abbrev az:=List Int×List Int
noncomputable def aV(x y:az):Bool:=if x.1=y.1 then HT.lexLt x.2 y.2 else HT.lexLt x.1 y.1
theorem ltB_wk:SG.Wk aV:=by
 have W:=SG.lex_wk
 refine ⟨λa=>?_,λa b c h1 h2=>?_,λa b c h1 h2=>?_⟩
 ·unfold aV;rw[if_pos rfl];exact W.irr _
 ·unfold aV at h1 h2 ⊢
  by_cases e1:a.1=b.1
  ·rw[if_pos e1]at h1
   by_cases e2:b.1=c.1
   ·rw[if_pos e2]at h2
    rw[if_pos (e1.trans e2)]
    exact W.tr _ _ _ h1 h2
   ·rw[if_neg e2]at h2
    rw[if_neg (by rw[e1];exact e2),e1]
    exact h2
  ·rw[if_neg e1]at h1
   by_cases e2:b.1=c.1
   ·rw[if_neg (by rw[<- e2];exact e1),<- e2]
    exact h1
   ·rw[if_neg e2]at h2
    have h3:=W.tr _ _ _ h1 h2
    rw[if_neg (λz=>by rw[z,W.irr]at h3;cases h3)]
    exact h3
 ·unfold aV at h1 h2 ⊢
  by_cases e1:a.1=b.1
  ·rw[if_pos e1]at h1
   by_cases e2:b.1=c.1
   ·rw[if_pos e2]at h2
    rw[if_pos (e1.trans e2)]
    exact W.nt _ _ _ h1 h2
   ·rw[if_neg e2]at h2
    rw[if_neg (by rw[e1];exact e2),e1]
    exact h2
  ·rw[if_neg e1]at h1
   by_cases e2:b.1=c.1
   ·rw[if_neg (by rw[<- e2];exact e1),<- e2]
    exact h1
   ·rw[if_neg e2]at h2
    have h3:=W.nt _ _ _ h1 h2
    by_cases e3:a.1=c.1
    ·exfalso
     rw[<- e3]at h2
     exact e1 (SG.lex_eq h1 h2)
    ·rw[if_neg e3];exact h3
theorem KI{a b:az}(h1:aV a b=false)(h2:aV b a=false):a=b:=by
 unfold aV at h1 h2
 by_cases e:a.1=b.1
 ·rw[if_pos e]at h1
  rw[if_pos e.symm]at h2
  have:=SG.lex_eq h1 h2
  cases a;cases b;cases e;cases this;rfl
 ·rw[if_neg e]at h1
  rw[if_neg (λz=>e z.symm)]at h2
  exact absurd (SG.lex_eq h1 h2) e
noncomputable def bV(H:Hp)(c:Addr)(x:az):Prop:=∃a b,H c=some (.tup [.ref a,.ref b])/\H a=some (.tup (x.1.map V.int))/\H b=some (.tup (x.2.map V.int))
noncomputable def Bw(H:Hp):V->az
 | .ref c=>match H c with
  | some (.tup [x,y])=>(HI H x,HI H y)
  | _=>([],[])
 | _=>([],[])
theorem Cw{H:Hp}{c:Addr}{r:List Int}(h:H c=some (.tup (r.map V.int))):HI H (.ref c)=r:=by
 show (match H c with|some (.tup xs)=>xs.map SO|_=>[])=r
 rw[h]
 exact mW r
theorem pW(H:Hp)(c:Addr)(x:az)(h:bV H c x):Bw H (.ref c)=x:=by
 obtain⟨a,b,h1,h2,h3⟩:=h
 show (match H c with|some (.tup [x,y])=>(HI H x,HI H y)|_=>([],[]))=x
 rw[h1]
 show (HI H (.ref a),HI H (.ref b))=x
 rw[Cw h2,Cw h3]
theorem Dw{X:Cx}{pins:List (Addr×Obj)}{σ:St}{H:Hp}{s:Shared}{a b:Addr}{x y:List Int}{A:Around}(I:Inv X pins σ H s)(hu:A.units < cLine)(ha:H a=some (.tup (x.map V.int)))(hb:H b=some (.tup (y.map V.int))){s':Shared}(k:∀b o,s.heap.get? b=some o->s'.heap.get? b=some o) :
  SeqAt.EqAt A s' (.ref a) (.ref b) (decide (x=y)):=by
 by_cases e:a=b
 ·subst e
  rw[ha]at hb
  injection hb with hb;injection hb with hb
  rw[kw hb,decide_eq_true rfl]
  exact SeqAt.EqAt.same _
 ·have I':Inv X pins σ H { s with heap:=s'.heap }:=I.kept (t':=s.toks) k
  obtain⟨_,ia,ra,ta⟩:=(show ObjOk X.prog X.w H s'.heap a (.tup (x.map V.int)) from I'.hok a _ ha)
  obtain⟨_,ib,rb,tb⟩:=(show ObjOk X.prog X.w H s'.heap b (.tup (y.map V.int)) from I'.hok b _ hb)
  have la:=ra.length
  have lb:=rb.length
  rw[n0]at la lb
  have h:=SeqAt.RcAt.tuples (A:=A) (s:=s') (e:=λk=>x.getD k 0==y.getD k 0) ta.t tb.t hu λj h1 h2=>by
   obtain⟨t1,e1⟩:=ZK ra (k:=j) (by simpa using h1)
   obtain⟨t2,e2⟩:=ZK rb (k:=j) (by simpa using h2)
   simp only[List.getElem_toArray]
   rw[e1,e2]
   exact SeqAt.EqAt.int_int _ _ _ _
  have hv:((O0 (min ia.toArray.size ib.toArray.size)).all (λk=>x.getD k 0==y.getD k 0)&&ia.toArray.size==ib.toArray.size)=decide (x=y):=by
   simp only[Q0,<- la,<- lb]
   by_cases z:x=y
   ·subst z
    rw[decide_eq_true rfl]
    simp
   ·rw[decide_eq_false z,Y7]
    intro hb
    rw[U4,i7,beq_iff_eq]at hb
    refine z (o7 hb.2 λk k1 k2=>?_)
    have:=hb.1 k (D3.mpr (by omega))
    rw[beq_iff_eq,L1,L1,L0 k1,L0 k2]at this
    exact this
  rw[<- hv]
  exact SeqAt.EqAt.of_refs e h
theorem OD{X:Cx}(hu:X.A.units+2 < cLine):oX X (.builtin "sorted") (yU X.K bV Bw aV):=by
 have hu1:X.A.in1.in1.units < cLine:=by show X.A.units+2 < cLine;exact hu
 refine MD (κ:=tuples' false) ltB_wk pW (λ{pins s σ H} I its h2 at' s' k E' Q' q'=>?_) (λ{pins s σ H} I c d x y hx hy s' k Q' q'=>?_)
 ·have gen:∀(l:List Value),(∀v∈l,∃(c:Addr) (r:az),v=.ref c/\bV H c r)->∃fs:List Value,KatTups s'.heap l fs/\fs.length=l.length/\∀v∈fs,Looks (model X.prog X.w) s'.heap (typeOf v) (.type "tuple"):=by
   intro l
   induction l with
   | nil=>intro _;exact ⟨[],.nil,rfl,λv hv=>by simp at hv⟩
   | cons v l ih =>
    intro hl
    obtain⟨fs,f1,f2,f3⟩:=ih λx hx=>hl x (u0 _ hx)
    obtain⟨c,r,rfl,a,b,hc,ha,hb⟩:=hl v B0
    obtain⟨_,itc,rc,ob,e1,e2,m,e3,_⟩:=(show ObjOk X.prog X.w H s.heap c (.tup [.ref a,.ref b]) from I.hok c _ hc)
    obtain⟨u1,u2,rfl,r1,r2⟩:=GY rc
    cases r1
    obtain⟨_,itb,rb,oa,g1,g2,_⟩:=(show ObjOk X.prog X.w H s.heap a (.tup (r.1.map V.int)) from I.hok a _ ha)
    refine ⟨.ref a :: fs,.cons (k _ _ e1) e2 e3 rfl f1,by simp[f2],λv hv=>?_⟩
    rcases U1.mp hv with rfl|hv
    ·have:=(show Looks (model X.prog X.w) s'.heap (typeOf (.ref a)) oa.cls from (Looks.ld (k _ _ g1)).andThen .now)
     rw[g2]at this
     exact this
    ·exact f3 v hv
  obtain⟨fs,f1,f2,f3⟩:=gen its at'
  exact kat_kind (T:=.type "tuple") f1 (by omega) f3 (by decide) q'
 ·obtain⟨a1,b1,hc1,ha1,hb1⟩:=hx
  obtain⟨a2,b2,hc2,ha2,hb2⟩:=hy
  obtain⟨_,ic,rc,oc,c1,c2,m1,c3,_⟩:=(show ObjOk X.prog X.w H s.heap c (.tup [.ref a1,.ref b1]) from I.hok c _ hc1)
  obtain⟨_,id',rd,od,d1,d2,m2,d3,_⟩:=(show ObjOk X.prog X.w H s.heap d (.tup [.ref a2,.ref b2]) from I.hok d _ hc2)
  obtain⟨u1,u2,rfl,r1,r2⟩:=GY rc
  cases r1;cases r2
  obtain⟨w1,w2,rfl,r3,r4⟩:=GY rd
  cases r3;cases r4
  have I':Inv X pins σ H { s with heap:=s'.heap }:=I.kept (t':=s.toks) k
  have lt1:∀{a b:Addr}{x y:List Int}{Q:Bool->Shared->Prop},H a=some (.tup (x.map V.int))->H b=some (.tup (y.map V.int))->Q (HT.lexLt x y) s'->wpAny (model X.prog X.w) X.A.in1.in1 (oneLt' false (.ref a) (.ref b)) Q (λ_ _=>False) s':=λ{a b x y Q} ha hb hq=>by
   obtain⟨_,ia,ra,ta⟩:=(show ObjOk X.prog X.w H s'.heap a (.tup (x.map V.int)) from I'.hok a _ ha)
   obtain⟨_,ib,rb,tb⟩:=(show ObjOk X.prog X.w H s'.heap b (.tup (y.map V.int)) from I'.hok b _ hb)
   exact kat_one _ _ (HT.lt_tupInts ta.t tb.t (AX ra) (AX rb) hu1 hq)
  refine kat_lt (k _ _ c1) c3 (k _ _ d1) d3 (kat_cons ?_)
  refine Dw I hu1 ha1 ha2 k _ _ _ _ ?_
  unfold aV at q'
  refine kat_go (λq=>kat_yes (kat_cons ?_)) (λq=>kat_no ?_)
  ·have q:=of_decide_eq_true q
   rw[if_pos q]at q'
   refine Dw I hu1 hb1 hb2 k _ _ _ _ ?_
   refine kat_go (λz=>kat_yes ?_) (λz=>kat_no ?_)
   ·have z:=of_decide_eq_true z
    rw[z,SG.lex_wk.irr]at q'
    exact q'
   ·exact lt1 hb1 hb2 q'
  ·have q:=of_decide_eq_false q
   rw[if_neg q]at q'
   exact lt1 ha1 ha2 q'
end L2
namespace L3
open PySem PySem.Spec PyProof.Rows L2
noncomputable abbrev PD(b:az):D:=.tuple [.tuple (b.1.map q0),.tuple (b.2.map q0)]
noncomputable def LI:D->(Sl->Prop)->Prop
 | .list ds,Q=>∃rows:List az,ds=rows.map PD/\rows.length<=sizeLine/\∀rows':List az,rows'.Perm rows->rows'.Pairwise (λa b=>aV b a=false)->Q (.ow (.list (rows'.map PD)))
 | _,_=>False
theorem Ew{K:Fg}{F:Hp}{v:V}{r:az}(h:Da K F v (PD r)):∃c,v=.ref c/\bV F c r:=by
 cases h with
 | tup h t =>
  cases t with
  | cons h1 t =>
   cases t with
   | cons h2 t =>
    cases t
    obtain⟨a,rfl,ha⟩:=vw h1
    obtain⟨b,rfl,hb⟩:=vw h2
    exact ⟨_,rfl,a,b,h,ha,hb⟩
theorem Vu{K:Fg}{F:Hp}{c:Addr}{r:az}(h:bV F c r):Da K F (.ref c) (PD r):=by
 obtain⟨a,b,h1,h2,h3⟩:=h
 exact .tup h1 (.cons (.tup h2 (DaAll.ints _)) (.cons (.tup h3 (DaAll.ints _)) .nil))
theorem Fw{K:Fg}:cX K (yU K bV Bw aV) (o1 LI):=Ck λG F σ H ρ x d Q Qd R h1 w k=>by
 cases d<;>first|exact w.elim|skip
 case list ds =>
  obtain⟨rows,e,hz,w⟩:=w
  subst e
  obtain⟨a,us,rfl,e1,d1⟩:=h1.list R.sub
  have hl:=d1.length
  rw[n0]at hl
  have hrep:∀v∈us,∃c r,v=.ref c/\bV F c r/\r∈rows:=λv hv=>by
   obtain⟨d,hd,dv⟩:=d1.mem v hv
   obtain⟨r,hr,rfl⟩:=M0.mp hd
   obtain⟨c,rfl,hc⟩:=Ew dv
   exact ⟨c,r,rfl,hc,hr⟩
  have up:∀{c:Addr}{r:az},bV F c r->bV H c r:=λ{c r} ⟨a,b,h1,h2,h3⟩=>⟨a,b,R.sub _ _ h1,R.sub _ _ h2,R.sub _ _ h3⟩
  have hfe:∀v∈us,Bw H v=Bw F v:=λv hv=>by
   obtain⟨c,r,rfl,hc,_⟩:=hrep v hv
   rw[pW F c r hc,pW H c r (up hc)]
  refine ⟨a,us,rfl,SqL.of e1,by omega,λv hv=>?_,λp us' hp p' o'=>?_⟩
  ·obtain⟨c,r,rfl,hc,_⟩:=hrep v hv
   exact ⟨c,r,rfl,up hc⟩
  ·have em:us.map (Bw F)=rows:=by
    refine DaAll.map_eq (K:=K) (F:=F) (g:=PD) (λv a h=>?_) d1
    obtain⟨c,rfl,hc⟩:=Ew h
    exact pW F c a hc
   have ee:us'.map (Bw H)=us'.map (Bw F):=W2 λv hv=>hfe v (p'.mem_iff.mp hv)
   rw[ee]at o'
   have dall:DaAll K F us' ((us'.map (Bw F)).map PD):=by
    rw[R0]
    refine DaAll.map_of λv hv=>?_
    obtain⟨c,r,rfl,hc,_⟩:=hrep v (p'.mem_iff.mp hv)
    show Da K F (.ref c) (PD (Bw F (.ref c)))
    rw[pW F c r hc]
    exact Vu hc
   obtain⟨R',r'⟩:=R.newOw (o:=.lst us') (d:=.list _) hp dall
   exact k _ _ F _ (Sub.refl _) R' r' (w _ (by rw[<- em];exact p'.map _) o')
theorem oF{X:Cx}{K:Fg}(h:X.K=K)(hu:X.A.units+2 < cLine):oX X (.builtin "sorted") (yU K bV Bw aV):=by subst h;exact OD hu
end L3
namespace L2
open PySem PySem.Spec PyProof.Rows PySem.W
noncomputable def QD(td ty tx:TE):TE:=λσ H Q=>td σ H λx H1=>∃a,x=.ref a/\vO H1 a/\ty σ H1 λy H2=>tx σ H2 λz H3=>∃kvs k,H3 a=some (.dK kvs)/\y=kV k/\kvs.length < sizeLine /\
 (∀v,xX kvs k=some v->Q v H3)/\(xX kvs k=none->Q z (OQ H3 a (.dK (TX kvs k z))))
section
variable {X:Cx}{o e f:Expr}{apos cpos:Pos}{td ty tx:TE}
theorem Gw(ho:PE X o td)(he:PE X e ty)(hf:PE X f tx)(m:M2 X o "setdefault" apos e f cpos):PE X (.Call (.Attribute o "setdefault" apos) [e,f] [] cpos) (QD td ty tx):=by
 intro pins s σ H Q I h
 refine wpAny_Call_method m.base m.few m.line PySem.F.plainAttrs_dict PySem.F.slot_dict_setdefault PySem.F.type_dict_setdefault (fX (ho pins s σ H _ I h) λu s1 ⟨x,H1,I1,rx,a,ex,d,q1⟩=>?_)
 subst ex
 obtain rfl:u=T2 a:=rx
 obtain⟨t1,t2,_⟩:=Lx I1 d
 refine ⟨t1,t2,?_⟩
 rw[m.trees]
 refine Calls.callWith_builtin rfl (Calls.evalArgs_plain (Calls.spliced_cons (fX (he pins s1 σ H1 _ I1 q1) λiv s2 ⟨y,H2,I2,ry,q2⟩ =>
   Calls.spliced_cons (fX (hf pins s2 σ H2 _ I2 q2) λfv s3 ⟨z,H3,I3,rz,kvs,k,ea,ey,hz,q3,q4⟩=>Calls.spliced_nil ?_))))
 subst ey
 obtain⟨zz,hd,vs,rel,dd⟩:=Ix I3.hok ea
 have hv:=rel.val k
 refine call_meetsIn PySem.F.slot_dict_setdefault dd.typeIs PySem.F.entry_dict_setdefault (PySem.F.args_dict_setdefault_3 _ _ _) (kt_meets_setdefault (WQ X.prog X.w) a (qV ry) hd fv) ⟨vs,dd,by rw[<- rel.length];exact zz,λv ev=>?_,λev h' dd' hs=>?_⟩
 ·rw[ev]at hv
  cases l:xX kvs k with
  | none=>rw[l]at hv;exact hv.elim
  | some w =>
   rw[l]at hv
   exact ⟨w,H3,I3.tok _,hv,q3 w l⟩
 ·rw[ev]at hv
  cases l:xX kvs k with
  | some w=>rw[l]at hv;exact hv.elim
  | none =>
   have hl:(TX kvs k z).length<=sizeLine:=by have:=sZ kvs k z;omega
   have he:∃q,h'.get? a=some q:=let ⟨q,_,_,hq,_⟩:=dd';⟨q,hq⟩
   exact ⟨z,_,oY I3 (by rw[ea];exact True.intro) hs he (eD hl hd (rel.put k rz) dd'),rz,q4 l⟩
end
end L2
namespace L3
open PySem PySem.Spec PyProof.Rows L2
noncomputable abbrev Tb:=List (Int×List Int)
noncomputable def rQ:Tb->Int->List Int
 | [],_=>[]
 | t :: r,k=>if t.1=k then t.2 else rQ r k
noncomputable def gR:V->Addr
 | .ref b=>b
 | _=>0
noncomputable def bz(kvs:List (IQ×V)):List Addr:=kvs.map λkv=>gR kv.2
inductive TL (X:Hp):List (IQ×V)->Tb->Prop
 | nil:TL X [] []
 | cons {k:Int}{b:Addr}{l:List Int}{kvs:List (IQ×V)}{tb:Tb}:X b=some (.lst (l.map V.int))->TL X kvs tb->TL X ((.inl k,.ref b) :: kvs) ((k,l) :: tb)
theorem TL.mono{X X':Hp}:∀{kvs:List (IQ×V)}{tb:Tb},(∀b∈bz kvs,X' b=X b)->TL X kvs tb->TL X' kvs tb
 | _,_,_,.nil=>.nil
 | _,_,h,.cons e t=>.cons ((h _ B0).trans e) (TL.mono (λb hb=>h b (u0 _ hb)) t)
theorem TL.len{X:Hp}:∀{kvs:List (IQ×V)}{tb:Tb},TL X kvs tb->kvs.length=tb.length
 | _,_,.nil=>rfl
 | _,_,.cons _ t=>by rw[P1,P1,TL.len t]
theorem TL.none{X:Hp}{k:Int}:∀{kvs:List (IQ×V)}{tb:Tb},TL X kvs tb->xX kvs (.inl k)=Option.none->rQ tb k=[]
 | _,_,.nil,_=>rfl
 | _,_,.cons (k:=k0) e t,h=>by
  by_cases z:k0=k
  ·subst z;rw[UX rfl]at h;cases h
  ·rw[VX (by intro q;cases q;exact z rfl)]at h
   unfold rQ
   rw[if_neg z]
   exact TL.none t h
theorem TL.some{X:Hp}{k:Int}{v:V}:∀{kvs:List (IQ×V)}{tb:Tb},TL X kvs tb->xX kvs (.inl k)=Option.some v->∃b,v=.ref b/\b∈bz kvs/\X b=Option.some (.lst ((rQ tb k).map V.int))
 | _,_,.nil,h=>by cases h
 | _,_,.cons (k:=k0) (b:=b0) e t,h=>by
  by_cases z:k0=k
  ·subst z
   rw[UX rfl]at h
   cases h
   unfold rQ
   rw[if_pos rfl]
   exact ⟨b0,rfl,B0,e⟩
  ·rw[VX (by intro q;cases q;exact z rfl)]at h
   obtain⟨b,h1,h2,h3⟩:=TL.some t h
   unfold rQ
   rw[if_neg z]
   exact ⟨b,h1,u0 _ h2,h3⟩
theorem TL.app{X:Hp}{k j:Int}{b:Addr}:∀{kvs:List (IQ×V)}{tb:Tb},TL X kvs tb->(bz kvs).Nodup->xX kvs (.inl k)=Option.some (.ref b) ->
  ∃tb':Tb,TL (OQ X b (.lst ((rQ tb k++[j]).map V.int))) kvs tb'/\(∀t,rQ tb' t=if t=k then rQ tb k++[j] else rQ tb t)/\tb'.length=tb.length
 | _,_,.nil,_,h=>by cases h
 | _,_,.cons (k:=k0) (b:=b0) (l:=l0) (kvs:=kvs) (tb:=tb) e t,nd,h=>by
  have nd':b0∉bz kvs/\(bz kvs).Nodup:=i5.mp nd
  by_cases z:k0=k
  ·subst z
   rw[UX rfl]at h
   have h:b0=b:=by injection h with h;injection h
   subst h
   refine ⟨(k0,l0++[j]) :: tb,.cons ?_ (t.mono λb hb=>?_),λt'=>?_,by simp⟩
   ·show OQ X b0 (.lst ((rQ ((k0,l0) :: tb) k0++[j]).map V.int)) b0=_
    unfold rQ
    rw[if_pos rfl,jQ]
   ·exact dQ λq=>nd'.1 (by rw[<- q];exact hb)
   ·unfold rQ
    rw[if_pos rfl]
    by_cases q:k0=t'
    ·rw[if_pos q,if_pos q.symm]
    ·rw[if_neg q,if_neg (λy=>q y.symm),if_neg q]
  ·rw[VX (by intro q;cases q;exact z rfl)]at h
   obtain⟨tb',h1,h2,h3⟩:=TL.app (j:=j) t nd'.2 h
   have el:rQ ((k0,l0) :: tb) k=rQ tb k:=by show (if k0=k then l0 else rQ tb k)=_;rw[if_neg z]
   obtain⟨b1,e1,hb1,_⟩:=t.some h
   have e1:b=b1:=by injection e1
   subst e1
   rw[el]
   refine ⟨(k0,l0) :: tb',.cons ?_ h1,λt'=>?_,by simp[h3]⟩
   ·rw[dQ λq=>nd'.1 (by rw[q];exact hb1)];exact e
   ·show (if k0=t' then l0 else rQ tb' t')=if t'=k then rQ tb k++[j] else (if k0=t' then l0 else rQ tb t')
    rw[h2 t']
    by_cases q:k0=t'
    ·rw[if_pos q,if_neg (λy=>z (q.trans y)),if_pos q]
    ·rw[if_neg q,if_neg q]
theorem qW(k:IQ)(p:Addr)(kvs:List (IQ×V)):bz (kvs++[(k,.ref p)])=bz kvs++[p]:=by unfold bz;rw[S2];rfl
structure DLs(X:Hp)(d:Addr)(tb:Tb):Prop where
 ex:∃kvs:List (IQ×V),X d=some (.dK kvs)/\TL X kvs tb/\(bz kvs).Nodup/\d∉bz kvs/\∀a o,X a=some o->a=d\/a∈bz kvs
 ne:tb≠[]
noncomputable abbrev MI(tb:Tb):D:=.dict (tb.map λt=>(.int t.1,.list (t.2.map q0)))
theorem TL.da{K:Fg}{X:Hp}:∀{kvs:List (IQ×V)}{tb:Tb},TL X kvs tb->DaKV K X kvs (tb.map λt=>(.int t.1,.list (t.2.map q0)))
 | _,_,.nil=>.nil
 | _,_,.cons e t=>.cons (k:=.inl _) (.lst e (DaAll.ints _)) (TL.da t)
theorem DLs.da{K:Fg}{X:Hp}{d:Addr}{tb:Tb}(h:DLs X d tb):Da K X (.ref d) (MI tb):=by
 obtain⟨kvs,h1,h2,_⟩:=h.ex
 exact .dk (.inl h1) h2.da
theorem TL.lst{X:Hp}:∀{kvs:List (IQ×V)}{tb:Tb},TL X kvs tb->∀a∈bz kvs,∃xs,X a=Option.some (.lst xs)
 | _,_,.nil,_,h=>by cases h
 | _,_,.cons e t,a,h=>by
  rcases U1.mp h with rfl|h
  ·exact ⟨_,e⟩
  ·exact t.lst a h
theorem DLs.kind{X:Hp}{d:Addr}{tb:Tb}(h:DLs X d tb){a:Addr}{xs:List V}:X a≠some (.tup xs):=λe=>by
 obtain⟨kvs,h1,h2,_,_,h5⟩:=h.ex
 rcases h5 a _ e with rfl|z
 ·rw[h1]at e;cases e
 ·obtain⟨ys,e2⟩:=h2.lst a z
  rw[e2]at e;cases e
theorem DLs.app{X:Hp}{d b:Addr}{tb:Tb}{kvs:List (IQ×V)}{k j:Int}(h:DLs X d tb)(e:X d=some (.dK kvs))(v:xX kvs (.inl k)=some (.ref b)) :
  X b=some (.lst ((rQ tb k).map V.int))/\∃tb':Tb,DLs (OQ X b (.lst ((rQ tb k++[j]).map V.int))) d tb'/\(∀t,rQ tb' t=if t=k then rQ tb k++[j] else rQ tb t)/\tb'.length<=tb.length+1:=by
 obtain⟨kvs',h1,h2,h3,h4,h5⟩:=h.ex
 have:kvs'=kvs:=by rw[h1]at e;cases e;rfl
 subst this
 obtain⟨b1,e1,m1,l1⟩:=h2.some v
 have e1:b=b1:=by injection e1
 subst e1
 obtain⟨tb',a1,a2,a3⟩:=h2.app (j:=j) h3 v
 have hbd:d≠b:=λz=>h4 (by rw[z];exact m1)
 refine ⟨l1,tb',⟨⟨kvs',by rw[dQ hbd];exact h1,a1,h3,h4,λa o ea=>?_⟩,λz=>?_⟩,a2,by omega⟩
 ·by_cases q:a=b
  ·exact .inr (by rw[q];exact m1)
  ·rw[dQ q]at ea;exact h5 a o ea
 ·subst z
  have:=h.ne
  cases tb with
  | nil=>exact this rfl
  | cons _ _=>cases a3
theorem rW{k j:Int}:∀{tb:Tb},rQ tb k=[]->(∀t∈tb,t.1≠k)->∀t,rQ (tb++[(k,[j])]) t=if t=k then rQ tb k++[j] else rQ tb t
 | [],_,_,t=>by
  show (if k=t then [j] else [])=_
  by_cases q:k=t
  ·rw[if_pos q,if_pos q.symm];rfl
  ·rw[if_neg q,if_neg (λy=>q y.symm)];rfl
 | p :: tb,h,hn,t=>by
  have hp:=hn p B0
  have h':rQ tb k=[]:=by
   have:(if p.1=k then p.2 else rQ tb k)=[]:=h
   rw[if_neg hp]at this
   exact this
  have ih:=rW (j:=j) h' (λt ht=>hn t (u0 _ ht)) t
  show (if p.1=t then p.2 else rQ (tb++[(k,[j])]) t)=if t=k then (if p.1=k then p.2 else rQ tb k)++[j] else (if p.1=t then p.2 else rQ tb t)
  rw[ih,if_neg hp]
  by_cases q:p.1=t
  ·rw[if_pos q,if_neg (λy=>hp (q.trans y)),if_pos q]
  ·rw[if_neg q,if_neg q]
theorem TL.keys{X:Hp}{k:Int}:∀{kvs:List (IQ×V)}{tb:Tb},TL X kvs tb->xX kvs (.inl k)=Option.none->∀t∈tb,t.1≠k
 | _,_,.nil,_,t,h=>by cases h
 | _,_,.cons (k:=k0) e t,h,u,hu=>by
  by_cases z:k0=k
  ·subst z;rw[UX rfl]at h;cases h
  ·rw[VX (by intro q;cases q;exact z rfl)]at h
   rcases U1.mp hu with rfl|hu
   ·exact z
   ·exact t.keys h u hu
theorem TL.snoc{X:Hp}{k:Int}{p:Addr}{l:List Int}(hp:X p=Option.some (HO.lst (l.map V.int))):∀{kvs:List (IQ×V)}{tb:Tb},TL X kvs tb->TL X (kvs++[(.inl k,.ref p)]) (tb++[(k,l)])
 | _,_,.nil=>.cons hp .nil
 | _,_,.cons e t=>.cons e (t.snoc hp)
theorem DLs.put{X:Hp}{d p:Addr}{tb:Tb}{kvs:List (IQ×V)}{k j:Int}(h:DLs X d tb)(e:X d=some (.dK kvs))(v:xX kvs (.inl k)=none)(hp:X p=none) :
  ∃tb':Tb,DLs (OQ (OQ X d (.dK (TX kvs (.inl k) (.ref p)))) p (.lst [V.int j])) d tb'/\(∀t,rQ tb' t=if t=k then rQ tb k++[j] else rQ tb t)/\tb'.length<=tb.length+1:=by
 obtain⟨kvs',h1,h2,h3,h4,h5⟩:=h.ex
 have:kvs'=kvs:=by rw[h1]at e;cases e;rfl
 subst this
 have hpd:d≠p:=λz=>by subst z;rw[h1]at hp;cases hp
 have hpa:p∉bz kvs':=λz=>by obtain⟨xs,ex⟩:=h2.lst p z;rw[ex]at hp;cases hp
 rw[wG _ v]
 refine ⟨tb++[(k,[j])],⟨⟨_,by rw[dQ hpd];exact jQ,?_,?_,?_,λa o ea=>?_⟩,by simp⟩,rW (h2.none v) (h2.keys v),by simp⟩
 ·refine TL.snoc (l:=[j]) jQ (h2.mono λb hb=>?_)
  rw[dQ λz=>hpa (by rw[<- z];exact hb),dQ λz=>h4 (by rw[<- z];exact hb)]
 ·rw[qW,List.nodup_append]
  exact ⟨h3,by simp,λa ha b hb z=>hpa (by rw[<- P2.mp hb,<- z];exact ha)⟩
 ·rw[qW,Q2]
  rintro (z|z)
  ·exact h4 z
  ·exact hpd (P2.mp z)
 ·rw[qW,Q2]
  by_cases q:a=p
  ·exact .inr (.inr (by rw[q];simp))
  ·rw[dQ q]at ea
   by_cases q2:a=d
   ·exact .inl q2
   ·rw[dQ q2]at ea
    rcases h5 a o ea with z|z
    ·exact .inl z
    ·exact .inr (.inl z)
structure Xt(G:Gh)(F:Hp)(σ:L2.St)(ρ:Ev)(H X:Hp):Prop where
 sub:Sub X H
 off:∀a o,X a=some o->F a=none/\G.H0 a=none/\∀(i:Nat) (s:Sl),ρ[i]?=some (some s)->PQ s=true->σ[i]?≠some (some (V.ref a))
noncomputable def join(A B:Hp):Hp:=λa=>match A a with
 | some o=>some o
 | none=>B a
theorem NJ{A B:Hp}{a:Addr}{o:HO}(h:A a=some o):join A B a=some o:=by unfold join;rw[h]
theorem LK{A B:Hp}{a:Addr}(h:A a=none):join A B a=B a:=by unfold join;rw[h]
theorem wY{A B:Hp}{a:Addr}{o:HO}(h:join A B a=some o):A a=some o\/(A a=none/\B a=some o):=by
 unfold join at h
 cases e:A a with
 | some u=>rw[e]at h;exact .inl h
 | none=>rw[e]at h;exact .inr ⟨rfl,h⟩
theorem xY{A B:Hp}{a:Addr}(h1:A a=none)(h2:B a=none):join A B a=none:=by rw[LK h1];exact h2
section
variable {K:Fg}{G:Gh}{F F' H H' X:Hp}{σ:L2.St}{ρ ρ':Ev}{a:Addr}{o:HO}{d:D}{v:V}
theorem Rel.withX(R:Rel K G F σ H ρ)(x:Xt G F σ ρ H X)(hio:∀i,G.io i=none):Rel K ⟨join G.H0 X,G.F0,G.io⟩ F σ H ρ where
 len:=R.len
 sub:=R.sub
 sub0:=R.sub0
 fn:=λa o e=>by
  rcases R.fn a o e with z|z
  ·exact .inl z
  ·refine .inr (xY z ?_)
   cases q:X a with
   | none=>rfl
   | some u=>have:=(x.off a u q).1;rw[this]at e;cases e
 keep:=λa o e n=>by
  rcases wY e with z|⟨_,z⟩
  ·exact R.keep a o z n
  ·exact x.sub a o z
 fz:=R.fz
 ow:=R.ow
 new:=λi d a e ea=>xY (R.new i d a e ea) (by
   cases q:X a with
   | none=>rfl
   | some u=>exact absurd ea ((x.off a u q).2.2 i _ e rfl))
 io:=R.io
 ioi:=R.ioi
 ap:=R.ap
theorem Rel.offX(R:Rel K G F σ H ρ)(x:Xt G F σ ρ H X)(hio:∀i,G.io i=none)(R':Rel K ⟨join G.H0 X,G.F0,G.io⟩ F' σ H' ρ'):Rel K G F' σ H' ρ'/\Xt G F' σ ρ' H' X:=by
 have hx0:∀{a u},X a=some u->G.H0 a=none:=λ{a u} q=>(x.off a u q).2.1
 refine ⟨⟨R'.len,R'.sub,R'.sub0,λa o e=>?_,λa o e n=>R'.keep a o (NJ e) n,R'.fz,R'.ow,λi d a e ea=>?_,R'.io,R'.ioi,R'.ap⟩,λa o e=>?_,λa o e=>⟨?_,hx0 e,λi s es w z=>?_⟩⟩
 ·rcases R'.fn a o e with z|z
  ·exact .inl z
  ·refine .inr ?_
   have z:join G.H0 X a=none:=z
   cases q:G.H0 a with
   | none=>rfl
   | some u=>rw[NJ q]at z;cases z
 ·have z:join G.H0 X a=none:=R'.new i d a e ea
  cases q:G.H0 a with
  | none=>rfl
  | some u=>rw[NJ q]at z;cases z
 ·exact R'.keep a o (by show join G.H0 X a=_;rw[LK (hx0 e)];exact e) λi=>by show G.io i≠_;rw[hio i];exact λz=>nomatch z
 ·cases q:F' a with
  | none=>rfl
  | some u =>
   exfalso
   rcases R'.fn a u q with z|z
   ·have:=R.sub0 a u z
    rw[(x.off a o e).1]at this
    cases this
   ·have z:join G.H0 X a=none:=z
    rw[LK (hx0 e),e]at z
    cases z
 ·cases s with
  | fz d=>cases w
  | ow d =>
   have q:join G.H0 X a=none:=R'.new i d a es z
   rw[LK (hx0 e),e]at q
   cases q
  | io d =>
   obtain⟨b,hb⟩:=R'.ioi i d es
   have hb:G.io i=some b:=hb
   rw[hio i]at hb
   cases hb
theorem Xt.asg(x:Xt G F σ ρ H X)(i:Nat)(v:V)(d:D):Xt G F (σ.set i (some v)) (ρ.set i (some (.fz d))) H X:=⟨x.sub,λa o e=>⟨(x.off a o e).1,(x.off a o e).2.1,λj s es w z=>by
  rcases mQ es with⟨rfl,q⟩|⟨n,q⟩
  · cases q;cases w
  · rw[P0 (S1 n)]at z
    exact (x.off a o e).2.2 j s q w z⟩⟩
theorem Xt.drop(x:Xt G F σ ρ H X)(i:Nat):Xt G F σ (ρ.set i none) H X:=⟨x.sub,λa o e=>⟨(x.off a o e).1,(x.off a o e).2.1,λj s es w z=>by
  rcases mQ es with⟨rfl,q⟩|⟨n,q⟩
  · cases q
  · exact (x.off a o e).2.2 j s q w z⟩⟩
end
noncomputable def Hw(i:Nat)(tk:TD):TD:=λρ Q=>∃tb:Tb,tb≠[]/\ρ[i]?=some (some (.fz (MI tb)))/\tk ρ λr ρ1=>∃k:Int,r=.fz (.int k)/\Q (.fz (.list ((rQ tb k).map q0))) ρ1
theorem cz{K:Fg}{F:Hp}{k:Int}:∀{kvs:List (IQ×V)}{tb:Tb},DaKV K F kvs (tb.map λt=>(.int t.1,.list (t.2.map q0)))->(xX kvs (.inl k)=none/\rQ tb k=[])\/∃v,xX kvs (.inl k)=some v/\Da K F v (.list ((rQ tb k).map q0))
 | [],[],_=>.inl ⟨rfl,rfl⟩
 | [],_ :: _,h=>by cases h
 | _ :: _,[],h=>by cases h
 | (k0,v0) :: kvs,t :: tb,h=>by
  generalize e:((t :: tb).map λt=>((.int t.1,.list (t.2.map q0)):D×D))=es at h
  cases h with
  | cons hv hr =>
   injection e with e1 e2
   injection e1 with e1 e3
   subst e2
   subst e3
   cases k0 with
   | inr x=>cases e1
   | inl j =>
    have ej:t.1=j:=by injection e1
    subst ej
    by_cases z:t.1=k
    ·refine .inr ⟨v0,by rw[<- z];exact UX rfl,?_⟩
     show Da K F v0 (.list ((if t.1=k then t.2 else rQ tb k).map q0))
     rw[if_pos z]
     exact hv
    ·have ev:xX ((Sum.inl t.1,v0) :: kvs:List (IQ×V)) (Sum.inl k)=xX kvs (Sum.inl k):=VX λq=>z (by injection q)
     have el:rQ (t :: tb) k=rQ tb k:=by show (if t.1=k then t.2 else rQ tb k)=_;rw[if_neg z]
     rw[ev,el]
     exact cz hr
theorem kN{K:Fg}{F:Hp}{v:V}{tb:Tb}(ne:tb≠[])(h:Da K F v (MI tb)):∃a kvs,v=.ref a/\Rd F a (.dK kvs)/\DaKV K F kvs (tb.map λt=>(.int t.1,.list (t.2.map q0))):=by
 cases tb with
 | nil=>exact absurd rfl ne
 | cons t tb =>
  generalize e:MI (t :: tb)=d at h
  cases h with
  | dk h1 h2 =>
   injection e with e
   rw[e]
   exact ⟨_,_,rfl,h1,h2⟩
  | dt h1 h2 =>
   injection e with e
   cases h2 with
   | nil=>cases e
   | cons _ _=>injection e with e _;injection e with e _;cases e
  | scr h1 =>
   injection e with e
   injection e with e _
   injection e with e _
   cases e
  | exc h1 =>
   injection e with e
   injection e with e _
   injection e with e _
   cases e
  | _=>cases e
theorem NI{K:Fg}{i:Nat}{tk:TD}{σ:L2.St}{H:Hp}{Q:VK}(h:lift K (Hw i tk) σ H Q):Mx (aZ i) (lift K tk) (rG HY) σ H Q:=by
 obtain⟨G,F,ρ,Qd,R,⟨tb,ne,ei,w⟩,q⟩:=h
 obtain⟨v,hv,dv⟩:=R.fz i _ ei
 obtain⟨a,kvs,rfl,hr,hk⟩:=kN ne dv
 refine ⟨_,hv,a,rfl,.inl ⟨kvs,R.sub.rd hr⟩,G,F,ρ,_,R,w,λv' H' F' r ρ' s' R' res ⟨k,er,qd⟩=>?_⟩
 subst er
 have res:Da K F' v' (.int k):=res
 cases res
 refine ⟨i4 _,λp hp=>⟨xX kvs (.inl k),.inl ⟨kvs,.inl k,?_,rfl,rfl⟩,?_⟩⟩
 ·have h1:Rd H' a (.dK kvs):=R'.sub.rd (s'.rd hr)
  exact (Sub.new hp).rd h1
 ·have hp':H' p=none:=hp
  have R1:Rel K G F' σ (OQ H' p (.lst [])) ρ':=R'.laid hp'
  rcases cz (k:=k) hk with⟨e1,e2⟩|⟨v,e1,e2⟩
  ·rw[e1]
   obtain⟨s2,R2⟩:=R1.grow (a:=p) (o:=.lst []) (R'.h0 hp') jQ (R'.nobody hp')
   rw[e2]at qd
   exact q (.ref p) _ _ (.fz (.list [])) ρ' (s'.trans s2) R2 (show Da K _ (.ref p) (.list []) from .lst jQ .nil) qd
  ·rw[e1]
   exact q v _ F' (.fz (.list ((rQ tb k).map q0))) ρ' s' R1 (show Da K F' v _ from e2.mono s') qd
theorem OI{X:Cx}{K:Fg}{i:Nat}{tk:TD}{x:Str}{e:Expr}{p apos lp cpos:Pos}(hu:X.A.units+1 < cLine)(hv:WE X (.Name x p) (nQ K (.inl i)))(he:WE X e (lift K tk))(m:M2 X (.Name x p) "get" apos e (.List [] lp) cpos) :
  WE X (.Call (.Attribute (.Name x p) "get" apos) [e,.List [] lp] [] cpos) (lift K (Hw i tk)):=⟨KW (Nx hu hv.h he.h (IY WZ) m) NI⟩
noncomputable def Sm(r:List Int)(j:Nat):Int:=(r.take j).sum
noncomputable def QI(r:List Int)(n:Int)(l:Nat):List (Nat×Nat):=((O0 (l+1)).filter λj=>decide (Sm r j=Sm r (l+1) - n)).map λj=>(j,l)
noncomputable def pK(r:List Int)(n:Int)(i:Nat):List (Nat×Nat):=(O0 i).flatMap (QI r n)
noncomputable abbrev Kj(p:Nat×Nat):D:=.tuple [.int (p.1:Nat),.int (p.2:Nat)]
theorem pF(r:List Int)(n:Int)(i:Nat):pK r n (i+1)=pK r n i++QI r n i:=by unfold pK;rw[A4,M3];simp
theorem Wu(r:List Int)(n:Int)(l:Nat):(QI r n l).length<=l+1:=by
 unfold QI
 rw[n0]
 have:=N3 (λj=>decide (Sm r j=Sm r (l+1) - n)) (O0 (l+1))
 rw[G3]at this
 exact this
theorem dz(r:List Int)(n:Int):∀i:Nat,i<=120->(pK r n i).length<=i * 121
 | 0,_=>G0 _
 | i+1,h=>by
  have:=dz r n i (by omega)
  have:=Wu r n i
  rw[pF,K0]
  omega
theorem AU{r:List Int}{i:Nat}{x:Int}(h:r[i]?=some x):Sm r (i+1)=Sm r i+x:=by
 unfold Sm
 have hi:=(J1.mp h).1
 rw[List.take_succ,List.sum_append,h]
 simp
noncomputable abbrev iR:TD:=QZ [.inl 3,.inl 1] (o2 (Xj λi j=>.int (i - j)))
noncomputable abbrev bP:TD:=gW 4 [.inr (HJ (XG (Hw 2 iR)) ["first"] [5] (Vy 0) HG (lU [.inr (FG 0),.inr (FG 1)] VG))] Pq
noncomputable abbrev Iw(i:Nat)(t:TE):TE:=IC (RK λi j=>.int (i+j)) (aZ i) t
noncomputable def Jw(K:Fg):TS:=LW (UZ (Iw 3 (aZ 6)) (HX 3)) (LW (QK (lift K bP)) (QK (LN K "list" nY (QD (aZ 2) (aZ 3) (rG HY)) (SK (Iw 5 (tC (.int 1))) HY))))
noncomputable def aC(K:Fg):TS:=LW (UZ (Bq [(tC (.int 0),rG (SK (tC (.int 0)) HY))]) (HX 2)) (LW (UZ (tC (.int 0)) (HX 3)) (LW (UZ (rG HY) (HX 4))
  (LW (Qz (XQ K (zU (.inl 0))) (Mz K 2 (iV (HX 5) (iV (HX 6) ly))) (Jw K)) (Lz (aZ 4)))))
noncomputable def bC:ZJ:=λE ρ=>∃(r:List Int) (n:Int),r.length<=120/\ρ=[some (.fz (.list (r.map q0))),some (.fz (.int n)),none,none,none,none,none]/\∀ρ',E.rt (.ow (.list ((pK r n r.length).map Kj))) ρ'
noncomputable abbrev iY(r:List Int)(n t:Int)(ps:List (Nat×Nat))(y z:Option Sl):Ev:=[some (.fz (.list (r.map q0))),some (.fz (.int n)),none,some (.fz (.int t)),some (.ow (.list (ps.map Kj))),y,z]
structure St(K:Fg)(G:Gh)(F1:Hp)(r:List Int)(n:Int)(i:Nat)(σ:L2.St)(H:Hp):Prop where
 ex:∃(F X:Hp) (d:Addr) (tb:Tb),Sub F1 F/\Rel K G F σ H (iY r n (Sm r i) (pK r n i) none none)/\Xt G F σ (iY r n (Sm r i) (pK r n i) none none) H X/\σ[2]?=some (some (.ref d))/\DLs X d tb/\tb.length<=i+1/\∀t,rQ tb t=((O0 (i+1)).filter λj=>decide (Sm r j=t)).map λ(j:Nat)=>(j:Int)
theorem Da.int_of{K:Fg}{F:Hp}{v:V}{i:Int}(h:Da K F v (.int i)):v=.int i:=by cases h;rfl
theorem qK{K:Fg}{G:Gh}{F H:Hp}{σ:L2.St}{ρ:Ev}{j:Nat}{i:Int}(R:Rel K G F σ H ρ)(e:ρ[j]?=some (some (.fz (.int i)))):σ[j]?=some (some (.int i)):=by
 obtain⟨v,hv,dv⟩:=R.fz j _ e
 rw[dv.int_of]at hv
 exact hv
theorem Kw{K:Fg}{G:Gh}{F H X:Hp}{σ:L2.St}{d:Addr}{tb:Tb}{r:List Int}{n t:Int}{ps:List (Nat×Nat)}{i one:Int}(R:Rel K G F σ H (iY r n t ps (some (.fz (.int i))) (some (.fz (.int one)))))(hio:∀i,G.io i=none)
  (x:Xt G F σ (iY r n t ps (some (.fz (.int i))) (some (.fz (.int one)))) H X) (hd:σ[2]?=some (some (.ref d))) (D:DLs X d tb) :
  Rel K ⟨join G.H0 X,join F X,λ_=>none⟩ (join F X) σ H [some (.fz (.list (r.map q0))),some (.fz (.int n)),some (.fz (MI tb)),some (.fz (.int t)),some (.ow (.list (ps.map Kj))),some (.fz (.int i)),some (.fz (.int one))]:=by
 have sF:Sub F (join F X):=λa o e=>NJ e
 have sX:Sub X (join F X):=λa o e=>by rw[LK (x.off a o e).1];exact e
 refine ⟨R.len,λa o e=>?_,Sub.refl _,λ_ _ e=>.inl e,λa o e _=>?_,λj dd e=>?_,λj s e w=>?_,λj dd a e ea=>?_,λj a e=>(by cases e),λj dd e=>?_,λj k s u a e1 w1 e2 w2 h1 h2=>?_⟩
 ·rcases wY e with z|⟨_,z⟩
  ·exact R.sub a o z
  ·exact x.sub a o z
 ·rcases wY e with z|⟨_,z⟩
  ·exact R.keep a o z λi=>by rw[hio i];exact λz=>nomatch z
  ·exact x.sub a o z
 ·match j,e with
  | 0,e=>cases e;obtain⟨v,h1,h2⟩:=R.fz 0 _ rfl;exact ⟨v,h1,h2.mono sF⟩
  | 1,e=>cases e;obtain⟨v,h1,h2⟩:=R.fz 1 _ rfl;exact ⟨v,h1,h2.mono sF⟩
  | 2,e=>cases e;exact ⟨_,hd,D.da.mono sX⟩
  | 3,e=>cases e;obtain⟨v,h1,h2⟩:=R.fz 3 _ rfl;exact ⟨v,h1,h2.mono sF⟩
  | 4,e=>cases e
  | 5,e=>cases e;obtain⟨v,h1,h2⟩:=R.fz 5 _ rfl;exact ⟨v,h1,h2.mono sF⟩
  | 6,e=>cases e;obtain⟨v,h1,h2⟩:=R.fz 6 _ rfl;exact ⟨v,h1,h2.mono sF⟩
  | j+7,e=>simp at e
 ·match j,e with
  | 0,e=>cases e;cases w
  | 1,e=>cases e;cases w
  | 2,e=>cases e;cases w
  | 3,e=>cases e;cases w
  | 4,e =>
   cases e
   obtain⟨a,o,h1,h2,h3,h4⟩:=R.ow 4 _ rfl rfl
   refine ⟨a,o,h1,xY h2 ?_,h3,h4.mono sF⟩
   cases q:X a with
   | none=>rfl
   | some u=>exact absurd h1 ((x.off a u q).2.2 4 _ rfl rfl)
  | 5,e=>cases e;cases w
  | 6,e=>cases e;cases w
  | j+7,e=>simp at e
 ·match j,e with
  | 0,e=>cases e
  | 1,e=>cases e
  | 2,e=>cases e
  | 3,e=>cases e
  | 4,e =>
   refine xY (R.new 4 _ a rfl ea) ?_
   cases q:X a with
   | none=>rfl
   | some u=>exact absurd ea ((x.off a u q).2.2 4 _ rfl rfl)
  | 5,e=>cases e
  | 6,e=>cases e
  | j+7,e=>simp at e
 ·match j,e with
  | 0,e=>cases e
  | 1,e=>cases e
  | 2,e=>cases e
  | 3,e=>cases e
  | 4,e=>cases e
  | 5,e=>cases e
  | 6,e=>cases e
  | j+7,e=>simp at e
 ·have own:∀{j:Nat}{s:Sl},([some (.fz (.list (r.map q0))),some (.fz (.int n)),some (.fz (MI tb)),some (.fz (.int t)),some (.ow (.list (ps.map Kj))),some (.fz (.int i)),some (.fz (.int one))]:Ev)[j]?=some (some s)->PQ s=true->j=4:=λ{j s} e w=>by
   match j,e with
   | 0,e=>cases e;cases w
   | 1,e=>cases e;cases w
   | 2,e=>cases e;cases w
   | 3,e=>cases e;cases w
   | 4,e=>rfl
   | 5,e=>cases e;cases w
   | 6,e=>cases e;cases w
   | j+7,e=>simp at e
  rw[own e1 w1,own e2 w2]
noncomputable abbrev jO(r:List Int)(n t:Int)(tb:Tb)(ps:List (Nat×Nat))(i one:Int):Ev:=[some (.fz (.list (r.map q0))),some (.fz (.int n)),some (.fz (MI tb)),some (.fz (.int t)),some (.ow (.list (ps.map Kj))),some (.fz (.int i)),some (.fz (.int one))]
theorem aY:∀ps:List (Nat×Nat),noMutAll (ps.map Kj)=true
 | []=>rfl
 | p :: ps=>by show (true&&noMutAll (ps.map Kj))=true;rw[aY ps];rfl
theorem Lj{K:Fg}{G:Gh}{F F2 H H2 X:Hp}{σ:L2.St}{d:Addr}{tb:Tb}{r:List Int}{n t:Int}{ps qs:List (Nat×Nat)}{i one:Int}(R:Rel K G F σ H (iY r n t ps (some (.fz (.int i))) (some (.fz (.int one)))))(hio:∀i,G.io i=none)
  (x:Xt G F σ (iY r n t ps (some (.fz (.int i))) (some (.fz (.int one)))) H X) (D:DLs X d tb) (R2:Rel K ⟨join G.H0 X,join F X,λ_=>none⟩ F2 σ H2 (jO r n t tb qs i one)) :
  ∃F3,Sub F F3/\Rel K G F3 σ H2 (iY r n t qs (some (.fz (.int i))) (some (.fz (.int one))))/\Xt G F3 σ (iY r n t qs (some (.fz (.int i))) (some (.fz (.int one)))) H2 X:=by
 have sX2:Sub X F2:=λa o e=>R2.sub0 a o (by show join F X a=_;rw[LK (x.off a o e).1];exact e)
 have cut:∀a o,(λa=>match X a with|some _=>none|none=>F2 a:Hp) a=some o->X a=none/\F2 a=some o:=λa o e=>by
  have e:(match X a with|some _=>none|none=>F2 a:Option HO)=some o:=e
  cases q:X a with
  | some u=>rw[q]at e;cases e
  | none=>rw[q]at e;exact ⟨rfl,e⟩
 have cut2:∀{a o},X a=none->F2 a=some o->(λa=>match X a with|some _=>none|none=>F2 a:Hp) a=some o:=λ{a o} q e=>by
  show (match X a with|some _=>none|none=>F2 a:Option HO)=some o
  rw[q];exact e
 have cut3:∀{a o},X a=some o->(λa=>match X a with|some _=>none|none=>F2 a:Hp) a=none:=λ{a o} q=>by
  show (match X a with|some _=>none|none=>F2 a:Option HO)=none
  rw[q]
 have xn:∀{a o},F a=some o->X a=none:=λ{a o} e=>by
  cases q:X a with
  | none=>rfl
  | some u=>rw[(x.off a u q).1]at e;cases e
 have sF:Sub F (λa=>match X a with|some _=>none|none=>F2 a:Hp):=λa o e=>cut2 (xn e) (R2.sub0 a o (NJ e))
 have mv:∀{v dd},Da K F v dd->Da K (λa=>match X a with|some _=>none|none=>F2 a:Hp) v dd:=λ{v dd} h=>h.mono sF
 refine ⟨_,sF,⟨R2.len,λa o e=>R2.sub a o (cut a o e).2,λa o e=>sF a o (R.sub0 a o e),λa o e=>?_,λa o e m=>?_,λj dd e=>?_,λj s e w=>?_,λj dd a e ea=>?_,λj a e=>?_,λj dd e=>?_,λj k s u a e1 w1 e2 w2 h1 h2=>?_⟩,⟨λa o e=>R2.sub a o (sX2 a o e),λa o e=>⟨cut3 e,(x.off a o e).2.1,λj s es w z=>?_⟩⟩⟩
 ·obtain⟨q1,q2⟩:=cut a o e
  rcases R2.fn a o q2 with z|z
  ·have z:join F X a=some o:=z
   rcases wY z with z|⟨_,z⟩
   ·exact R.fn a o z
   ·rw[q1]at z;cases z
  ·have z:join G.H0 X a=none:=z
   cases q:G.H0 a with
   | none=>exact .inr rfl
   | some u=>rw[NJ q]at z;cases z
 ·exact R2.keep a o (NJ e) λi=>(λz=>nomatch z)
 ·match j,e with
  | 0,e=>cases e;obtain⟨v,h1,h2⟩:=R.fz 0 _ rfl;exact ⟨v,h1,mv h2⟩
  | 1,e=>cases e;obtain⟨v,h1,h2⟩:=R.fz 1 _ rfl;exact ⟨v,h1,mv h2⟩
  | 2,e=>cases e
  | 3,e=>cases e;obtain⟨v,h1,h2⟩:=R.fz 3 _ rfl;exact ⟨v,h1,mv h2⟩
  | 4,e=>cases e
  | 5,e=>cases e;obtain⟨v,h1,h2⟩:=R.fz 5 _ rfl;exact ⟨v,h1,mv h2⟩
  | 6,e=>cases e;obtain⟨v,h1,h2⟩:=R.fz 6 _ rfl;exact ⟨v,h1,mv h2⟩
  | j+7,e=>simp at e
 ·match j,e with
  | 0,e=>cases e;cases w
  | 1,e=>cases e;cases w
  | 2,e=>cases e
  | 3,e=>cases e;cases w
  | 4,e =>
   cases e
   obtain⟨a,o,h1,h2,h3,h4⟩:=R2.ow 4 _ rfl rfl
   cases o with
   | lst us =>
    have h4:DaAll K F2 us (qs.map Kj):=h4
    refine ⟨a,_,h1,?_,h3,(h4.noMut (λb xs eb=>cut2 ?_ eb) (aY qs):DaAll K _ us (qs.map Kj))⟩
    ·cases q:X a with
     | some u=>rfl
     | none=>exact h2
    ·cases q:X b with
     | none=>rfl
     | some u =>
      have:=sX2 b u q
      rw[eb]at this
      have:HO.tup xs=u:=by injection this
      subst this
      exact absurd q D.kind
   | _=>exact (h4:False).elim
  | 5,e=>cases e;cases w
  | 6,e=>cases e;cases w
  | j+7,e=>simp at e
 ·match j,e with
  | 0,e=>cases e
  | 1,e=>cases e
  | 2,e=>cases e
  | 3,e=>cases e
  | 4,e=>exact R.new 4 _ a rfl ea
  | 5,e=>cases e
  | 6,e=>cases e
  | j+7,e=>simp at e
 ·rw[hio j]at e;cases e
 ·match j,e with
  | 0,e=>cases e
  | 1,e=>cases e
  | 2,e=>cases e
  | 3,e=>cases e
  | 4,e=>cases e
  | 5,e=>cases e
  | 6,e=>cases e
  | j+7,e=>simp at e
 ·have own:∀{j:Nat}{s:Sl},(iY r n t qs (some (.fz (.int i))) (some (.fz (.int one))))[j]?=some (some s)->PQ s=true->j=4:=λ{j s} e w=>by
   match j,e with
   | 0,e=>cases e;cases w
   | 1,e=>cases e;cases w
   | 2,e=>cases e
   | 3,e=>cases e;cases w
   | 4,e=>rfl
   | 5,e=>cases e;cases w
   | 6,e=>cases e;cases w
   | j+7,e=>simp at e
  rw[own e1 w1,own e2 w2]
 ·match j,es with
  | 0,es=>cases es;cases w
  | 1,es=>cases es;cases w
  | 2,es=>cases es
  | 3,es=>cases es;cases w
  | 4,es=>exact (x.off a o e).2.2 4 _ rfl rfl z
  | 5,es=>cases es;cases w
  | 6,es=>cases es;cases w
  | j+7,es=>simp at es
theorem lN{r:List Int}{n t:Int}{tb:Tb}{ps:List (Nat×Nat)}{i:Nat}{one:Int}(ne:tb≠[])(hl:rQ tb (t - n)=((O0 (i+1)).filter λj=>decide (Sm r j=t - n)).map λ(j:Nat)=>(j:Int))(hz:ps.length+(i+1)<=20000)(hi:i<=1000)
  {Q:Sl->Ev->Prop} (q:∀v,Q v (jO r n t tb (ps++((O0 (i+1)).filter λj=>decide (Sm r j=t - n)).map λj=>(j,i)) i one)):bP (jO r n t tb ps i one) Q:=by
 refine ⟨tb,ne,rfl,t - n,rfl,?_⟩
 have hfl:=N3 (λj=>decide (Sm r j=t - n)) (O0 (i+1))
 rw[G3]at hfl
 rw[hl]
 refine ⟨by rw[n0,n0];exact A1 hfl (A1 (show i+1<=1001 by omega) (by decide)),kK (λd=>.tuple [d,.int i]) (λd hd N hN=>hN) ?_⟩
 refine ⟨by rw[n0,n0,n0,n0];exact A1 (show ps.length+((O0 (i+1)).filter λj=>decide (Sm r j=t - n)).length<=20000 by omega) (by decide),?_⟩
 have e:ps.map Kj++((((O0 (i+1)).filter λj=>decide (Sm r j=t - n)).map λ(j:Nat)=>(j:Int)).map q0).map (λd=>J2 [d,.int i])=(ps++((O0 (i+1)).filter λj=>decide (Sm r j=t - n)).map λj=>(j,i)).map Kj:=by
  rw[S2,R0,R0,R0]
  rfl
 rw[e]
 exact q (.fz .none)
theorem GV{r:List Int}{tb tb':Tb}{i:Nat}(h:∀t,rQ tb t=((O0 (i+1)).filter λj=>decide (Sm r j=t)).map λ(j:Nat)=>(j:Int))
  (h':∀t,rQ tb' t=if t=Sm r (i+1) then rQ tb (Sm r (i+1))++[((i:Int)+1)] else rQ tb t) (t:Int):rQ tb' t=((O0 (i+1+1)).filter λj=>decide (Sm r j=t)).map λ(j:Nat)=>(j:Int):=by
 rw[h' t,A4,K6,S2]
 by_cases q:t=Sm r (i+1)
 ·subst q
  rw[if_pos rfl,h,Z4 (by simp)]
  rfl
 ·rw[if_neg q,h,d5 (by simpa using λz=>q z.symm)]
  simp
theorem Xu{K:Fg}{G:Gh}{F F1 H X:Hp}{σ:L2.St}{d:Addr}{tb:Tb}{r:List Int}{n:Int}{i:Nat}{one:Int}{D:Ends}(hio:∀i,G.io i=none)(hr:r.length<=120)(hi:r[i]?=some one)(s1:Sub F1 F)
  (R:Rel K G F σ H (iY r n (Sm r i) (pK r n i) none none)) (x:Xt G F σ (iY r n (Sm r i) (pK r n i) none none) H X) (hd:σ[2]?=some (some (.ref d))) (dl:DLs X d tb) (hlen:tb.length<=i+1)
  (hl:∀t,rQ tb t=((O0 (i+1)).filter λj=>decide (Sm r j=t)).map λ(j:Nat)=>(j:Int)) (nx:∀σ' H',St K G F1 r n (i+1) σ' H'->D.nx σ' H') :
  Jw K D ((σ.set 5 (some (.int (i:Int)))).set 6 (some (.int one))) H:=by
 have hir:=(J1.mp hi).1
 have es:=AU hi
 have hlen7:σ.length=7:=R.len
 have Ra:Rel K G F _ H (iY r n (Sm r i) (pK r n i) (some (.fz (.int i))) (some (.fz (.int one)))):=(R.asg (i:=5) (v:=.int i) (s:=.fz (.int i)) trivial (Da.int _)).asg (i:=6) (v:=.int one) (s:=.fz (.int one)) trivial (Da.int _)
 have xa:Xt G F _ (iY r n (Sm r i) (pK r n i) (some (.fz (.int i))) (some (.fz (.int one)))) H X:=(x.asg 5 (.int i) (.int i)).asg 6 (.int one) (.int one)
 have hd2:((σ.set 5 (some (.int (i:Int)))).set 6 (some (.int one)))[2]?=some (some (.ref d)):=by rw[P0 (by decide),P0 (by decide)];exact hd
 generalize (σ.set 5 (some (V.int (i:Int)))).set 6 (some (V.int one))=σa at Ra xa hd2
 have h3:=qK Ra (j:=3) rfl
 have h6:=qK Ra (j:=6) rfl
 refine ⟨_,h3,_,h6,_,_,rfl,rfl,?_⟩
 suffices hs:LW (QK (lift K bP)) (QK (LN K "list" nY (QD (aZ 2) (aZ 3) (rG HY)) (SK (Iw 5 (tC (.int 1))) HY))) D (σa.set 3 (some (V.int (Sm r (i+1))))) H by
  rw[es]at hs
  exact hs
 have Rb:Rel K G F (σa.set 3 (some (V.int (Sm r (i+1))))) H (iY r n (Sm r (i+1)) (pK r n i) (some (.fz (.int i))) (some (.fz (.int one)))):=by
  have:=Ra.asg (i:=3) (v:=.int (Sm r i+one)) (s:=.fz (.int (Sm r i+one))) trivial (Da.int _)
  rw[<- es]at this
  exact this
 have xb:Xt G F (σa.set 3 (some (V.int (Sm r (i+1))))) (iY r n (Sm r (i+1)) (pK r n i) (some (.fz (.int i))) (some (.fz (.int one)))) H X:=by
  have:=xa.asg 3 (.int (Sm r i+one)) (.int (Sm r i+one))
  rw[<- es]at this
  exact this
 have hd3:(σa.set 3 (some (.int (Sm r (i+1)))))[2]?=some (some (.ref d)):=by rw[P0 (by decide)];exact hd2
 generalize σa.set 3 (some (V.int (Sm r (i+1))))=σb at Rb xb hd3
 have hps:=dz r n i (by omega)
 refine ⟨_,_,_,λv ρ2=>ρ2=jO r n (Sm r (i+1)) tb (pK r n (i+1)) i one,Kw Rb hio xb hd3 dl,lN dl.ne (hl _) (by omega) (by omega) (λv=>?_),λv H2 F2 rr ρ2 s2 R2 res q=>?_⟩
 ·rw[pF]
  rfl
 ·subst q
  obtain⟨F3,s3,R3,x3⟩:=Lj Rb hio xb dl R2
  obtain⟨kvs,k1,k2,k3,k4,k5⟩:=dl.ex
  have kd:H2 d=some (.dK kvs):=x3.sub _ _ k1
  have g3:=qK R3 (j:=3) rfl
  have g5:=qK R3 (j:=5) rfl
  have kl:kvs.length<=121:=by rw[k2.len];omega
  refine ⟨_,hd3,d,rfl,.inl ⟨kvs,.inl kd⟩,_,g3,i4 _,λp hp=>⟨kvs,.inl (Sm r (i+1)),?_,rfl,J3 kl (by decide),λv ev=>?_,λev=>?_⟩⟩
  ·rw[dQ (gQ kd hp)];exact kd
  ·obtain⟨b,rfl,mb,lb⟩:=k2.some ev
   obtain⟨lb2,tb',d',t',l'⟩:=dl.app (j:=(i:Int)+1) k1 ev
   have hb2:H2 b=some (.lst ((rQ tb (Sm r (i+1))).map V.int)):=x3.sub _ _ lb
   have hbp:b≠p:=gQ hb2 hp
   have hb3:OQ H2 p (.lst []) b=some (.lst ((rQ tb (Sm r (i+1))).map V.int)):=by rw[dQ hbp];exact hb2
   have ll:(rQ tb (Sm r (i+1))).length<=121:=by
    rw[hl,n0]
    have:=N3 (λj=>decide (Sm r j=Sm r (i+1))) (O0 (i+1))
    rw[G3]at this
    omega
   refine ⟨.inl ⟨rfl,_,SqL.of hb3⟩,_,g5,_,_,rfl,rfl,b,_,_,rfl,rfl,hb3,by rw[n0];exact J3 ll (by decide),?_⟩
   have ob:=x3.off b _ lb
   have R4:=(R3.laid (o:=.lst []) hp).scrap (a:=b) (o:=.lst ((rQ tb (Sm r (i+1))++[(i:Int)+1]).map V.int)) ob.1 ob.2.1 ob.2.2
   have R5:Rel K G F3 σb _ (iY r n (Sm r (i+1)) (pK r n (i+1)) none none):=(R4.drop (i:=5) (λdd z=>nomatch z)).drop (i:=6) (λdd z=>nomatch z)
   have x5:Xt G F3 σb (iY r n (Sm r (i+1)) (pK r n (i+1)) none none) (OQ (OQ H2 p (.lst [])) b (.lst ((rQ tb (Sm r (i+1))++[(i:Int)+1]).map V.int))) (OQ X b (.lst ((rQ tb (Sm r (i+1))++[(i:Int)+1]).map V.int))):=by
    have x4:=(x3.drop 5).drop 6
    refine ⟨λa o e=>?_,λa o e=>?_⟩
    ·by_cases q:a=b
     ·subst q;rw[jQ]at e ⊢;exact e
     ·rw[dQ q]at e ⊢
      have ha:=x4.sub a o e
      rw[dQ (gQ ha hp)]
      exact ha
    ·by_cases q:a=b
     ·subst q;exact x4.off a _ lb
     ·rw[dQ q]at e;exact x4.off a o e
   refine nx _ _ ⟨F3,_,d,tb',s1.trans s3,?_,?_,hd3,d',by omega,GV hl t'⟩
   ·have e:(rQ tb (Sm r (i+1))).map V.int++[V.int ((i:Int)+1)]=(rQ tb (Sm r (i+1))++[(i:Int)+1]).map V.int:=by simp
    rw[e]
    exact R5
   ·have e:(rQ tb (Sm r (i+1))).map V.int++[V.int ((i:Int)+1)]=(rQ tb (Sm r (i+1))++[(i:Int)+1]).map V.int:=by simp
    rw[e]
    exact x5
  ·have hXp:X p=none:=by
    cases q:X p with
    | none=>rfl
    | some u=>rw[x3.sub p u q]at hp;cases hp
   obtain⟨tb',d',t',l'⟩:=dl.put (p:=p) (j:=(i:Int)+1) k1 ev hXp
   have hdp:d≠p:=gQ kd hp
   have hp3:OQ (OQ H2 p (.lst [])) d (.dK (TX kvs (.inl (Sm r (i+1))) (.ref p))) p=some (.lst []):=by rw[dQ (S1 hdp)];exact jQ
   refine ⟨.inl ⟨rfl,_,SqL.of hp3⟩,_,g5,_,_,rfl,rfl,p,_,_,rfl,rfl,hp3,by decide,?_⟩
   have od:=x3.off d _ k1
   have R4:=((R3.laid (o:=.lst []) hp).scrap (a:=d) (o:=.dK (TX kvs (.inl (Sm r (i+1))) (.ref p))) od.1 od.2.1 od.2.2).scrap (a:=p) (o:=.lst [V.int ((i:Int)+1)]) (R3.f0 hp) (R3.h0 hp) (R3.nobody hp)
   have R5:Rel K G F3 σb _ (iY r n (Sm r (i+1)) (pK r n (i+1)) none none):=(R4.drop (i:=5) (λdd z=>nomatch z)).drop (i:=6) (λdd z=>nomatch z)
   refine nx _ _ ⟨F3,_,d,tb',s1.trans s3,R5,?_,hd3,d',by omega,GV hl t'⟩
   have x4:=(x3.drop 5).drop 6
   have np:=(R3.drop (i:=5) (λdd z=>nomatch z)).drop (i:=6) (λdd z=>nomatch z)
   refine ⟨λa o e=>?_,λa o e=>?_⟩
   ·by_cases q:a=p
    ·subst q
     rw[jQ]at e ⊢
     exact e
    ·rw[dQ q]at e ⊢
     by_cases q2:a=d
     ·subst q2;rw[jQ]at e ⊢;exact e
     ·rw[dQ q2]at e ⊢
      rw[dQ q]
      exact x4.sub a o e
   ·by_cases q:a=p
    ·subst q
     exact ⟨np.f0 hp,np.h0 hp,np.nobody hp⟩
    ·rw[dQ q]at e
     by_cases q2:a=d
     ·subst q2;exact x4.off a _ k1
     ·rw[dQ q2]at e;exact x4.off a o e
noncomputable def cP:Hp:=λ_=>none
theorem Yu{r:List Int}{i:Nat}{one:Int}(h:r[i]?=some one):(oK (r.map q0))[i]?=some (.tuple [.int (i:Nat),.int one]):=by
 unfold oK
 rw[D1,X8,D1,h]
 simp
theorem Lw(r:List Int):(oK (r.map q0)).length=r.length:=by simp[oK]
theorem Mw{p b:Addr}(h:p≠b):DLs (OQ (OQ cP b (.lst [.int 0])) p (.dK [(.inl 0,.ref b)])) p [(0,[0])]:=by
 refine ⟨⟨[(.inl 0,.ref b)],jQ,.cons (l:=[0]) ?_ .nil,by simp[bz],?_,λa o e=>?_⟩,by simp⟩
 ·rw[dQ (S1 h)];exact jQ
 ·show p∉[b]
  simpa using h
 ·by_cases q:a=p
  ·exact .inl q
  ·rw[dQ q]at e
   by_cases q2:a=b
   ·exact .inr (by rw[q2];show b∈[b];simp)
   ·rw[dQ q2]at e;cases e
theorem RD(r:List Int)(t:Int):rQ [(0,[0])] t=((O0 (0+1)).filter λj=>decide (Sm r j=t)).map λ(j:Nat)=>(j:Int):=by
 have e:Sm r 0=0:=rfl
 show (if (0:Int)=t then [0] else [])=(([0]:List Nat).filter λj=>decide (Sm r j=t)).map λ(j:Nat)=>(j:Int)
 by_cases q:(0:Int)=t
 ·rw[if_pos q,Z4 (by rw[e];exact decide_eq_true q)];rfl
 ·rw[if_neg q,d5 (by rw[e,decide_eq_false q];decide)];rfl
theorem Zu{K:Fg}{G:Gh}{F H X:Hp}{σ:L2.St}{d:Addr}{r:List Int}{n:Int}{D:Ends}(hio:∀i,G.io i=none)(hr:r.length<=120)
  (R:Rel K G F σ H (iY r n 0 [] none none)) (x:Xt G F σ (iY r n 0 [] none none) H X) (hd:σ[2]?=some (some (.ref d))) (dl:DLs X d [(0,[0])])
  (nx:∀F1,Sub F F1->∀σ' H',St K G F1 r n r.length σ' H'->D.nx σ' H'):Qz (XQ K (zU (.inl 0))) (Mz K 2 (iV (HX 5) (iV (HX 6) ly))) (Jw K) D σ H:=by
 refine ⟨_,F,iY r n 0 [] none none,λds ρ2=>ds=oK (r.map q0)/\ρ2=iY r n 0 [] none none,R.withX x hio,⟨rfl,rfl⟩,λJ H' F' ds ρ' s' R' wk qd=>?_⟩
 obtain⟨rfl,rfl⟩:=qd
 obtain⟨R1,x1⟩:=R.offX x hio R'
 refine ⟨λi m σ H=>m=r.length - i/\i<=r.length/\St K G F' r n i σ H,⟨_,rfl,i4 _,⟨F',X,d,_,Sub.refl _,R1,x1,hd,dl,by simp,RD r⟩⟩,?_⟩
 rintro i m σ2 H2 ⟨rfl,hi,⟨Fc,Xc,dc,tb,s,Rc,xc,hdc,dlc,hl1,hl2⟩⟩
 obtain⟨hgo,hst⟩:=wk i H2 Fc s Rc.sub
 cases e:r[i]? with
 | none =>
  have hl:r.length<=i:=Q4.mp e
  have hi:i=r.length:=by omega
  subst hi
  exact .inl ⟨hst (Lw r),nx F' s' _ _ ⟨Fc,Xc,dc,tb,s,Rc,xc,hdc,dlc,hl1,hl2⟩⟩
 | some one =>
  have hl:=(J1.mp e).1
  obtain⟨go,yl⟩:=hgo _ (Yu e)
  refine .inr ⟨go,λσ' H'=>St K G F' r n (i+1) σ' H',λσ' H' S=>⟨r.length - (i+1),by omega,rfl,hl,S⟩,λxv H3 y=>?_⟩
  obtain⟨F2,t1,t2,t3,t4,t5⟩:=yl xv H3 y
  have R2:=Rc.turn t1 t2 t3 t4
  have x2:Xt G F2 σ2 (iY r n (Sm r i) (pK r n i) none none) H3 Xc:=⟨λa o ea=>t4 a o (xc.sub a o ea),λa o ea=>⟨(by
    cases q:F2 a with
    | none=>rfl
    | some u =>
      exfalso
      rcases t2 a u q with z|z
      · rw[(xc.off a o ea).1]at z;cases z
      · rw[xc.sub a o ea]at z;cases z),(xc.off a o ea).2⟩⟩
  cases t5 with
  | tup ha hds =>
   rename_i a xs
   cases hds with
   | cons h1 hds =>
    cases hds with
    | cons h2 hds =>
     cases hds
     have h1:=h1.int_of
     have h2:=h2.int_of
     subst h1
     subst h2
     refine ⟨a,_,rfl,SqT.of (t3 _ _ ha),rfl,_,_,rfl,_,_,rfl,rfl,?_⟩
     exact Xu hio hr e (s.trans t1) R2 x2 hdc dlc hl1 hl2 λσ' H' S=>S
theorem RI{K:Fg}{E:Ends}{σ:L2.St}{H:Hp}(h:tQ K bC E σ H):aC K E σ H:=by
 obtain⟨G,F,ρ,D,R,⟨r,n,hr,rfl,q⟩,nx,rt,bk,ct⟩:=h
 have hio:∀i,G.io i=none:=λi=>by
  cases e:G.io i with
  | none=>rfl
  | some a =>
   obtain⟨dd,h1,_⟩:=R.io i a e
   match i,h1 with
   | 0,h1=>cases h1
   | 1,h1=>cases h1
   | 2,h1=>cases h1
   | 3,h1=>cases h1
   | 4,h1=>cases h1
   | 5,h1=>cases h1
   | 6,h1=>cases h1
   | j+7,h1=>simp at h1
 intro p hp
 refine ⟨by show 1<=sizeLine;decide,λb hb=>?_⟩
 have hbp:b≠p:=λz=>by subst z;rw[jQ]at hb;cases hb
 have hbH:H b=none:=by rw[dQ hbp]at hb;exact hb
 refine ⟨by rw[dQ (S1 hbp)];exact jQ,[(.inl 0,.ref b)],rfl,by simp,?_⟩
 have em:HZ [] [((.inl 0:IQ),V.ref b)]=[(.inl 0,.ref b)]:=rfl
 rw[em]
 have R1:=(((R.laid (o:=.dK []) hp).laid (o:=.lst [.int 0]) hb).scrap (a:=p) (o:=.dK [(.inl 0,.ref b)]) (R.f0 hp) (R.h0 hp) (R.nobody hp)).blank (i:=2) (v:=.ref p) trivial
 have R2:=R1.asg (i:=3) (v:=.int 0) (s:=.fz (.int 0)) trivial (Da.int _)
 refine ⟨i4 _,λf hf=>?_⟩
 obtain⟨R3,res⟩:=R2.newOw (a:=f) (o:=.lst []) (d:=.list []) hf .nil
 have R4:Rel K G F _ _ (iY r n 0 [] none none):=R3.asg (i:=4) trivial res
 have hfp:f≠p:=λz=>by subst z;rw[jQ]at hf;cases hf
 have hfb:f≠b:=λz=>by subst z;rw[dQ hbp,jQ]at hf;cases hf
 have hl7:σ.length=7:=R.len
 refine Zu (d:=p) (X:=OQ (OQ cP b (.lst [.int 0])) p (.dK [(.inl 0,.ref b)])) hio hr R4 ?_ ?_ (Mw (S1 hbp)) λF1 s1 σ' H' S=>?_
 ·have two:∀{a o},OQ (OQ cP b (.lst [.int 0])) p (.dK [(.inl 0,.ref b)]) a=some o->(a=p/\o=.dK [(.inl 0,.ref b)])\/(a=b/\o=.lst [.int 0]):=λ{a o} e=>by
   by_cases q1:a=p
   ·subst q1;rw[jQ]at e;exact .inl ⟨rfl,by injection e with e;exact e.symm⟩
   ·rw[dQ q1]at e
    by_cases q2:a=b
    ·subst q2;rw[jQ]at e;exact .inr ⟨rfl,by injection e with e;exact e.symm⟩
    ·rw[dQ q2]at e;cases e
  have offs:∀{a:Addr},a≠f->H a=none->F a=none/\G.H0 a=none/\∀(i:Nat) (s:Sl),(iY r n 0 [] none none)[i]?=some (some s)->PQ s=true->(((σ.set 2 (some (V.ref p))).set 3 (some (V.int 0))).set 4 (some (V.ref f)))[i]?≠some (some (V.ref a)):=λ{a} haf ha=>by
   refine ⟨R.f0 ha,R.h0 ha,λi s e w z=>?_⟩
   match i,e with
   | 0,e=>cases e;cases w
   | 1,e=>cases e;cases w
   | 2,e=>cases e
   | 3,e=>cases e;cases w
   | 4,e =>
    rw[bZ (by simp[hl7])]at z
    injection z with z;injection z with z;injection z with z
    exact haf z.symm
   | 5,e=>cases e
   | 6,e=>cases e
   | j+7,e=>simp at e
  refine ⟨λa o e=>?_,λa o e=>?_⟩
  ·rcases two e with⟨rfl,rfl⟩|⟨rfl,rfl⟩
   ·rw[dQ (S1 hfp)];exact jQ
   ·rw[dQ (S1 hfb),dQ hbp];exact jQ
  ·rcases two e with⟨rfl,rfl⟩|⟨rfl,rfl⟩
   ·exact offs (S1 hfp) hp
   ·exact offs (S1 hfb) hbH
 ·rw[P0 (by decide),P0 (by decide)]
  exact bZ (by omega)
 ·obtain⟨Fc,Xc,dc,tb,s,Rc,xc,hdc,dlc,hl1,hl2⟩:=S.ex
  obtain⟨v,hv,res⟩:=Rc.forgetRes (i:=4) rfl
  exact ⟨v,hv,rt v σ' H' Fc _ _ (s1.trans s) (Rc.forget (i:=4) rfl) res (q _)⟩
theorem Nw{X:Cx}{K:Fg}{sts:List Stmt}(h:PSs X sts (aC K)):WSs X sts (tQ K bC):=⟨NE h RI⟩
end L3
namespace RM
noncomputable def VQ:Nat->(Nat->Int)->Int
 | 0,g=>g 0
 | n+1,g=>VQ n g+g (n+1)
theorem vX:∀(n:Nat) {g h:Nat->Int},(∀i,i<=n->g i=h i)->VQ n g=VQ n h
 | 0,g,h,e=>e 0 (G0 _)
 | n+1,g,h,e=>by
  show VQ n g+g (n+1)=VQ n h+h (n+1)
  rw[vX n λi hi=>e i (by omega),e (n+1) (G0 _)]
noncomputable def prodN:List Int->Nat
 | []=>1
 | a :: r=>a.toNat * prodN r
theorem prodN_pos:∀{l:List Int},(∀c∈l,1<=c)->1<=prodN l
 | [],_=>G0 _
 | a :: r,h=>by
  have h1:=h a B0
  have h2:=prodN_pos (l:=r) λc hc=>h c (u0 _ hc)
  exact T8 (show 1<=a.toNat by omega) h2
noncomputable def pre:List Int->(Nat->Int)->Nat->Int
 | [],f,k=>f k
 | _ :: r,f,k=>VQ (k / prodN r) λi=>pre r (λk'=>f (i * prodN r+k')) (k % prodN r)
noncomputable def dif:List Int->(Nat->Int)->Nat->Int
 | [],f,k=>f k
 | _ :: r,f,k=>dif r (λk'=>f (k / prodN r * prodN r+k')) (k % prodN r) - (if k / prodN r=0 then 0 else dif r (λk'=>f ((k / prodN r - 1) * prodN r+k')) (k % prodN r))
theorem dif_congr:∀(sd:List Int),(∀c∈sd,1<=c)->∀{f g:Nat->Int} (k:Nat),k < prodN sd->(∀i,i < prodN sd->f i=g i)->dif sd f k=dif sd g k
 | [],_,f,g,k,hk,e=>e k hk
 | a :: r,hp,f,g,k,hk,e=>by
  have hr:∀c∈r,1<=c:=λc hc=>hp c (u0 _ hc)
  have hR:=prodN_pos hr
  have hk2:k < a.toNat * prodN r:=hk
  have hq:k / prodN r < a.toNat:=Y8 (by rw[Q3];exact hk2)
  have row:∀i,i < a.toNat->∀k',k' < prodN r->i * prodN r+k' < a.toNat * prodN r:=λi hi k' hk'=>by
   have:(i+1) * prodN r<=a.toNat * prodN r:=U5 _ (by omega)
   rw[N6]at this
   omega
  have h1:=dif_congr r hr (f:=λk'=>f (k / prodN r * prodN r+k')) (g:=λk'=>g (k / prodN r * prodN r+k')) (k % prodN r) (O7 _ (by omega)) λk' hk'=>e _ (row _ hq _ hk')
  have h2:=dif_congr r hr (f:=λk'=>f ((k / prodN r - 1) * prodN r+k')) (g:=λk'=>g ((k / prodN r - 1) * prodN r+k')) (k % prodN r) (O7 _ (by omega)) λk' hk'=>e _ (row _ (J3 (Nat.sub_le _ _) hq) _ hk')
  show dif r _ _ - _=dif r _ _ - _
  rw[h1,h2]
theorem BU:∀(sd:List Int) (f g:Nat->Int) (k:Nat),dif sd (λi=>f i+g i) k=dif sd f k+dif sd g k
 | [],f,g,k=>rfl
 | a :: r,f,g,k=>by
  show dif r (λk'=>f (k / prodN r * prodN r+k')+g (k / prodN r * prodN r+k')) _ - (if k / prodN r=0 then 0 else dif r (λk'=>f ((k / prodN r - 1) * prodN r+k')+g ((k / prodN r - 1) * prodN r+k')) _)=(dif r _ _ - _)+(dif r _ _ - _)
  rw[BU r,BU r]
  split<;>omega
theorem HV(sd:List Int):∀(n:Nat) (f:Nat->Nat->Int) (k:Nat),dif sd (λi=>VQ n λj=>f j i) k=VQ n λj=>dif sd (f j) k
 | 0,f,k=>rfl
 | n+1,f,k=>by
  show dif sd (λi=>VQ n (λj=>f j i)+f (n+1) i) k=_
  rw[BU,HV sd n]
  rfl
theorem dif_pre:∀(sd:List Int),(∀c∈sd,1<=c)->∀(f:Nat->Int) (k:Nat),k < prodN sd->dif sd (pre sd f) k=f k
 | [],_,f,k,_=>rfl
 | a :: r,hp,f,k,hk=>by
  have hr:∀c∈r,1<=c:=λc hc=>hp c (u0 _ hc)
  have hR:=prodN_pos hr
  have row:∀i k',k' < prodN r->pre (a :: r) f (i * prodN r+k')=VQ i λj=>pre r (λk''=>f (j * prodN r+k'')) k':=λi k' hk'=>by
   show VQ ((i * prodN r+k') / prodN r) (λj=>pre r _ ((i * prodN r+k') % prodN r))=_
   rw[Q3 i,Nat.mul_add_div (by omega),i6 hk',Nat.mul_add_mod,B5 hk',A6]
  have hm:=O7 k (show 0 < prodN r by omega)
  have val:∀i,dif r (λk'=>pre (a :: r) f (i * prodN r+k')) (k % prodN r)=VQ i λj=>f (j * prodN r+k % prodN r):=λi=>by
   rw[dif_congr r hr (g:=λk'=>VQ i λj=>pre r (λk''=>f (j * prodN r+k'')) k') _ hm λk' hk'=>row i k' hk',HV]
   refine vX _ λj _=>?_
   exact dif_pre r hr (λk''=>f (j * prodN r+k'')) _ hm
  show dif r _ _ - _=f k
  rw[val,val]
  have hkk:k / prodN r * prodN r+k % prodN r=k:=by rw[Q3];exact D7 k (prodN r)
  cases hq:k / prodN r with
  | zero =>
   rw[hq]at hkk
   rw[if_pos rfl]
   show f (0 * prodN r+k % prodN r) - 0=f k
   rw[hkk];omega
  | succ q =>
   rw[hq]at hkk
   rw[if_neg (by omega),Nat.add_sub_cancel]
   show VQ q _+f ((q+1) * prodN r+k % prodN r) - VQ q _=f k
   rw[hkk];omega
noncomputable def prodI:List Int->Int
 | []=>1
 | a :: r=>a * prodI r
theorem prodI_append(l r:List Int):prodI (l++r)=prodI l * prodI r:=by
 induction l with
 | nil=>show prodI r=1 * prodI r;rw[G4]
 | cons a l ih=>show a * prodI (l++r)=a * prodI l * prodI r;rw[ih,L4]
theorem prodI_rev:∀l:List Int,prodI l.reverse=prodI l
 | []=>rfl
 | a :: r=>by
  rw[List.reverse_cons,prodI_append,prodI_rev r]
  show prodI r * (a * 1)=a * prodI r
  rw[v7,w8]
noncomputable def rowP(pl:List Int)(n:Nat):List (List Int):=(O0 n).map λi:Nat=>pl++[(i:Int)]
noncomputable def stepP(found:List (List Int))(n:Int):List (List Int):=found.flatMap λpl=>rowP pl n.toNat
noncomputable def placesOf(sd:List Int):List (List Int):=sd.foldl stepP [[]]
theorem Ow(pl:List Int)(n:Nat):(rowP pl n).length=n:=by simp[rowP]
theorem Mj(found:List (List Int))(n:Int):(stepP found n).length=found.length * n.toNat:=by
 induction found with
 | nil=>simp[stepP]
 | cons a r ih =>
  have:stepP (a :: r) n=rowP a n.toNat++stepP r n:=by simp[stepP]
  rw[this,K0,ih,Ow,P1,L6];omega
theorem IV:∀(sd:List Int) (f:List (List Int)),(∀c∈sd,1<=c)->((sd.foldl stepP f).length:Int)=f.length * prodI sd
 | [],f,_=>by show (f.length:Int)=f.length * 1;omega
 | a :: r,f,h=>by
  have h1:=h a B0
  rw[P3,IV r _ λc hc=>h c (u0 _ hc),Mj]
  show ((f.length * a.toNat:Nat):Int) * prodI r=f.length * (a * prodI r)
  rw[E7,K7 (by omega),L4]
noncomputable def leqs(p:List Int)(o:List Int):List Bool:=(o.zip p).map λab=>decide (ab.1<=ab.2)
noncomputable def leq(p:List Int)(o:List Int):Bool:=(leqs p o).all id
noncomputable def tot(p:List Int)(pc:List (List Int×Int)):Int:=pc.foldl (λacc oc=>if leq p oc.1=true then acc+oc.2 else acc) 0
noncomputable def runOf(sd cs:List Int):List Int:=(placesOf sd).map λp=>tot p ((placesOf sd).zip cs)
noncomputable def addT(side step:Int)(xs:List Int)(i:Nat):List Int:=if 0 < (i:Int) / step % side then xs.set i (xs.getD i 0+xs.getD (i - step.toNat) 0) else xs
noncomputable def addN(side step:Int)(xs:List Int):Nat->List Int
 | 0=>xs
 | j+1=>addT side step (addN side step xs j) (step.toNat+j)
theorem Pw(side step:Int)(xs:List Int)(i:Nat):(addT side step xs i).length=xs.length:=by unfold addT;split<;>simp
theorem addN_len(side step:Int)(xs:List Int):∀j,(addN side step xs j).length=xs.length
 | 0=>rfl
 | j+1=>by show (addT _ _ _ _).length=_;rw[Pw,addN_len side step xs j]
noncomputable def addAlong(side step:Int)(xs:List Int):List Int:=addN side step xs (xs.length - step.toNat)
noncomputable def runProg:List Int->Int->List Int->List Int
 | [],_,xs=>xs
 | a :: r,st,xs=>runProg r (st * a) (addAlong a st xs)
theorem addAlong_len(a st:Int)(xs:List Int):(addAlong a st xs).length=xs.length:=addN_len _ _ _ _
theorem runProg_len:∀(l:List Int) (st:Int) (xs:List Int),(runProg l st xs).length=xs.length
 | [],_,_=>rfl
 | a :: r,st,xs=>by show (runProg r _ _).length=_;rw[runProg_len r,addAlong_len]
theorem rK:∀(l:List Int) (a st:Int) (xs:List Int),runProg (l++[a]) st xs=addAlong a (st * prodI l) (runProg l st xs)
 | [],a,st,xs=>by show addAlong a st xs=addAlong a (st * 1) xs;rw[v7]
 | b :: r,a,st,xs=>by
  show runProg (r++[a]) (st * b) (addAlong b st xs)=_
  rw[rK r a (st * b) (addAlong b st xs)]
  show _=addAlong a (st * (b * prodI r)) (runProg r (st * b) (addAlong b st xs))
  rw[L4]
theorem OJ:∀(n:Nat) (g:Nat->Int),VQ (n+1) g=g 0+VQ n λt=>g (t+1)
 | 0,g=>rfl
 | n+1,g=>by
  show VQ (n+1) g+g (n+1+1)=g 0+(VQ n (λt=>g (t+1))+g (n+1+1))
  rw[OJ n g];omega
theorem JV:∀(n:Nat) (g:Nat->Int),VQ n (λt=>g (n - t))=VQ n g
 | 0,g=>rfl
 | n+1,g=>by
  rw[OJ]
  have e:VQ n (λt=>g (n+1 - (t+1)))=VQ n (λt=>g (n - t)):=vX n λi _=>by rw[Nat.add_sub_add_right]
  rw[e,JV n g]
  show g (n+1 - 0)+VQ n g=VQ n g+g (n+1)
  rw[M7];omega
theorem prodN_I:∀{l:List Int},(∀c∈l,1<=c)->prodI l=(prodN l:Int)
 | [],_=>rfl
 | a :: r,h=>by
  have h1:=h a B0
  show a * prodI r=((a.toNat * prodN r:Nat):Int)
  rw[prodN_I λc hc=>h c (u0 _ hc),E7,K7 (by omega)]
theorem pre_congrU:∀(sd:List Int) {f g:Nat->Int} (k:Nat),(∀i,f i=g i)->pre sd f k=pre sd g k
 | [],f,g,k,e=>e k
 | a :: r,f,g,k,e=>vX _ λi _=>pre_congrU r _ λk'=>e _
theorem qF{side st:Nat}(hs:1<=side)(ht:1<=st)(xs:List Int):∀(j:Nat),j<=xs.length - st->∀k,k < xs.length ->
  (addN (side:Int) (st:Int) xs j).getD k 0=if k < st+j then VQ (k / st % side) (λt=>xs.getD (k - t * st) 0) else xs.getD k 0
 | 0,_,k,hk=>by
  show xs.getD k 0=_
  split
  ·rename_i h
   rw[i6 (by omega),Nat.zero_mod]
   show _=xs.getD (k - 0 * st) 0
   rw[N7,M7]
  ·rfl
 | j+1,hj,k,hk=>by
  have ih:=qF hs ht xs j (by omega)
  have hlen:=addN_len (side:Int) (st:Int) xs j
  have hi:st+j < xs.length:=by omega
  show (addT (side:Int) (st:Int) (addN (side:Int) (st:Int) xs j) ((st:Int).toNat+j)).getD k 0=_
  rw[j4]
  have hcond:((st+j:Nat):Int) / (st:Int) % (side:Int)=(((st+j) / st % side:Nat):Int):=by
   rw[Int.natCast_emod,Int.natCast_ediv]
  have hdiv:(st+j) / st=j / st+1:=by rw[x9,Nat.add_div_right _ (by omega)]
  unfold addT
  rw[hcond,j4,O3]
  by_cases hk1:k=st+j
  ·subst hk1
   rw[if_pos (by omega:st+j < st+(j+1))]
   by_cases hq:0 < (st+j) / st % side
   ·rw[if_pos (by omega),L1,W6 (by omega),T3,ih _ hi,if_neg (by omega),ih j (by omega),if_pos (by omega)]
    obtain⟨q,hq'⟩:∃q,(st+j) / st % side=q+1:=⟨(st+j) / st % side - 1,by omega⟩
    have hq2:j / st % side=q:=by
     rw[hdiv]at hq'
     have h1:=O7 (j / st) (show 0 < side by omega)
     rw[Nat.add_mod]at hq'
     by_cases hs1:side=1
     ·subst hs1;rw[Nat.mod_one]at hq';omega
     ·rw[B5 (show 1 < side by omega)]at hq'
      by_cases h2:j / st % side+1 < side
      ·rw[B5 h2]at hq';omega
      ·have:j / st % side+1=side:=by omega
       rw[this,Nat.mod_self]at hq';omega
    rw[hq',hq2,OJ]
    show _=xs.getD (st+j - 0 * st) 0+_
    rw[N7,M7]
    congr 1
    refine vX q λi _=>?_
    congr 1
    rw[L6];omega
   ·rw[if_neg (by omega),ih _ hi,if_neg (by omega)]
    have:(st+j) / st % side=0:=by omega
    rw[this]
    show _=xs.getD (st+j - 0 * st) 0
    rw[N7,M7]
  ·have e:(if 0 < (((st+j) / st % side:Nat):Int) then (addN (side:Int) (st:Int) xs j).set (st+j) ((addN (side:Int) (st:Int) xs j).getD (st+j) 0+(addN (side:Int) (st:Int) xs j).getD j 0) else addN (side:Int) (st:Int) xs j).getD k 0=(addN (side:Int) (st:Int) xs j).getD k 0:=by
    split
    ·rw[L1,P0 (S1 hk1),<- L1]
    ·rfl
   rw[e,ih k hk]
   by_cases h1:k < st+j
   ·rw[if_pos h1,if_pos (by omega)]
   ·rw[if_neg h1,if_neg (by omega)]
theorem Q9{side st:Nat}(hs:1<=side)(ht:1<=st)(xs:List Int)(k:Nat)(hk:k < xs.length):(addAlong (side:Int) (st:Int) xs).getD k 0=VQ (k / st % side) (λt=>xs.getD (k - t * st) 0):=by
 unfold addAlong
 rw[j4,qF hs ht xs _ (G0 _) k hk]
 by_cases h:k < st+(xs.length - st)
 ·rw[if_pos h]
 ·omega
theorem prog_val:∀(sd:List Int),(∀c∈sd,1<=c)->∀(cs:List Int) (q:Nat),cs.length=q * prodN sd->∀k,k < cs.length ->
  (runProg sd.reverse 1 cs).getD k 0=pre sd (λk'=>cs.getD (k / prodN sd * prodN sd+k') 0) (k % prodN sd)
 | [],_,cs,q,hl,k,hk=>by
  show cs.getD k 0=cs.getD (k / 1 * 1+k % 1) 0
  rw[Nat.div_one,Nat.mul_one,Nat.mod_one,A6]
 | a :: r,h,cs,q,hl,k,hk=>by
  have h1:=h a B0
  have hr:∀c∈r,1<=c:=λc hc=>h c (u0 _ hc)
  have hm:=prodN_pos hr
  obtain⟨an,rfl⟩:∃an:Nat,a=(an:Int):=⟨a.toNat,by omega⟩
  have han:1<=an:=by omega
  have hn:prodN ((an:Int) :: r)=an * prodN r:=by show (an:Int).toNat * prodN r=_;rw[j4]
  rw[hn]at hl ⊢
  rw[List.reverse_cons,rK,G4,prodI_rev,prodN_I hr]
  have ih:=prog_val r hr cs (q * an) (by rw[hl,u7])
  rw[Q9 han hm _ k (by rw[runProg_len];exact hk)]
  show _=VQ (k % (an * prodN r) / prodN r) λi=>pre r (λk'=>cs.getD (k / (an * prodN r) * (an * prodN r)+(i * prodN r+k')) 0) (k % (an * prodN r) % prodN r)
  generalize prodN r=m at *
  have e1:k % (an * m) / m=k / m % an:=by rw[Q3 an m,Nat.mod_mul_right_div_self]
  have e2:k % (an * m) % m=k % m:=Nat.mod_mul_left_mod k an m
  have e3:k / (an * m)=k / m / an:=by rw[Q3 an m,Nat.div_div_eq_div_mul]
  rw[e1,e2,e3,<- JV]
  refine vX _ λt htq=>?_
  have hq:k / m % an<=k / m:=Nat.mod_le _ _
  have e6:=D7 (k / m) an
  rw[Q3 an]at e6
  obtain⟨u,hu⟩:∃u,u=k / m % an - t:=⟨_,rfl⟩
  rw[<- hu]
  have htm:u * m<=k:=A1 (U5 m (show u<=k / m by omega)) (Nat.div_mul_le_self k m)
  rw[ih (k - u * m) (by omega)]
  have e8:k=(k / m - u) * m+k % m+u * m:=by
   have h1:=D7 k m
   rw[Q3]at h1
   have h2:k / m * m=(k / m - u) * m+u * m:=by rw[<- L6,Nat.sub_add_cancel (by omega)]
   omega
  have e9:k - u * m=k % m+m * (k / m - u):=by rw[Q3 m];omega
  have hlt:=O7 k (show 0 < m by omega)
  have e4:(k - u * m) / m=k / m - u:=by rw[e9,Nat.add_mul_div_left _ _ (by omega),i6 hlt,P5]
  have e5:(k - u * m) % m=k % m:=by rw[e9,Nat.add_mul_mod_self_left,B5 hlt]
  rw[e4,e5]
  refine pre_congrU r _ λk'=>?_
  congr 1
  have e7:k / m - u=k / m / an * an+t:=by omega
  rw[e7,L6,u7];omega
noncomputable def T(p:List Int):List (List Int)->(Nat->Int)->Nat->Int
 | [],_,_=>0
 | o :: os,f,s=>(if leq p o=true then f s else 0)+T p os f (s+1)
theorem rF(p:List Int)(f:Nat->Int):∀(xs ys:List (List Int)) (s:Nat),T p (xs++ys) f s=T p xs f s+T p ys f (s+xs.length)
 | [],ys,s=>by show T p ys f s=0+T p ys f (s+0);rw[A6];omega
 | o :: os,ys,s=>by
  show _+T p (os++ys) f (s+1)=_+T p os f (s+1)+T p ys f (s+(os.length+1))
  rw[rF p f os ys (s+1),show s+1+os.length=s+(os.length+1) by omega];omega
theorem iz(p:List Int)(f:Nat->Int):∀(xs:List (List Int)) (s d:Nat),T p xs f (d+s)=T p xs (λk=>f (d+k)) s
 | [],_,_=>rfl
 | o :: os,s,d=>by
  show (if leq p o=true then f (d+s) else 0)+T p os f (d+s+1)=(if leq p o=true then f (d+s) else 0)+T p os _ (s+1)
  rw[show d+s+1=d+(s+1) by omega,iz p f os (s+1) d]
theorem cC(p:List Int):∀(ps:List (List Int)) (cs:List Int) (f:Nat->Int) (s:Nat) (acc:Int),ps.length=cs.length->(∀i,i < cs.length->f (s+i)=cs.getD i 0) ->
  (ps.zip cs).foldl (λacc oc=>if leq p oc.1=true then acc+oc.2 else acc) acc=acc+T p ps f s
 | [],_,f,s,acc,_,_=>by show acc=acc+0;omega
 | o :: os,[],f,s,acc,h,_=>by simp at h
 | o :: os,c :: cs,f,s,acc,h,hf=>by
  show (os.zip cs).foldl _ (if leq p o=true then acc+c else acc)=acc+((if leq p o=true then f s else 0)+T p os f (s+1))
  have h0:=hf 0 (by simp)
  rw[A6]at h0
  have h0:f s=c:=h0
  rw[cC p os cs f (s+1) _ (by simpa using h) λi hi=>by
    have:=hf (i+1) (by simp;omega)
    rw[show s+1+i=s+(i+1) by omega,this];rfl]
  rw[h0]
  split<;>omega
theorem sK:∀(sd:List Int) (f g:List (List Int)),sd.foldl stepP (f++g)=sd.foldl stepP f++sd.foldl stepP g
 | [],f,g=>rfl
 | a :: r,f,g=>by
  rw[P3,P3,P3,show stepP (f++g) a=stepP f a++stepP g a by simp[stepP],sK r]
theorem sW(c:Int):∀(sd:List Int) (f:List (List Int)),sd.foldl stepP (f.map (c :: ·))=(sd.foldl stepP f).map (c :: ·)
 | [],f=>rfl
 | a :: r,f=>by
  rw[P3,P3,<- sW c r]
  congr 1
  simp[stepP,rowP,j6,o8]
  rfl
theorem LV:∀sd:List Int,sd.foldl stepP []=[]
 | []=>rfl
 | a :: r=>by rw[P3];exact LV r
theorem tF(a:Int)(r:List Int):placesOf (a :: r)=(O0 a.toNat).flatMap λi:Nat=>(placesOf r).map ((i:Int) :: ·):=by
 have go:∀is:List Nat,r.foldl stepP (is.map λi:Nat=>[(i:Int)])=is.flatMap λi:Nat=>(placesOf r).map ((i:Int) :: ·):=by
  intro is
  induction is with
  | nil=>exact LV r
  | cons i is ih =>
   rw[E1,V1,<- ih]
   have:r.foldl stepP ([(i:Int)] :: is.map λi:Nat=>[(i:Int)])=r.foldl stepP ([[(i:Int)]]++is.map λi:Nat=>[(i:Int)]):=rfl
   rw[this,sK]
   congr 1
   exact sW (i:Int) r [[]]
 have e:stepP [[]] a=(O0 a.toNat).map λi:Nat=>[(i:Int)]:=by simp[stepP,rowP]
 show r.foldl stepP (stepP [[]] a)=_
 rw[e,go]
theorem leq_cons(i i':Int)(p o:List Int):leq (i :: p) (i' :: o)=(decide (i'<=i)&&leq p o):=rfl
theorem eC(i:Int)(i':Int)(p:List Int)(f:Nat->Int):∀(xs:List (List Int)) (s:Nat),T (i :: p) (xs.map (i' :: ·)) f s=if i'<=i then T p xs f s else 0
 | [],s=>by simp[T]
 | o :: os,s=>by
  show (if leq (i :: p) (i' :: o)=true then f s else 0)+T (i :: p) (os.map (i' :: ·)) f (s+1)=_
  rw[leq_cons,eC i i' p f os (s+1)]
  by_cases h:i'<=i
  ·rw[if_pos h,if_pos h];simp[h,T]
  ·rw[if_neg h,if_neg h];simp[h]
theorem Qw(i:Nat)(p:List Int)(f:Nat->Int)(xs:List (List Int)):∀A:Nat,T ((i:Int) :: p) ((O0 A).flatMap λj:Nat=>xs.map ((j:Int) :: ·)) f 0 =
  if A=0 then 0 else VQ (min i (A - 1)) λj=>T p xs (λk=>f (j * xs.length+k)) 0
 | 0=>by simp[T]
 | A+1=>by
  rw[A4,M3,rF,Qw i p f xs A,t6,eC]
  have hlen:((O0 A).flatMap λj:Nat=>xs.map ((j:Int) :: ·)).length=A * xs.length:=by
   induction A with
   | zero=>simp
   | succ A ih=>rw[A4,M3,K0,ih,t6,n0,L6];omega
  rw[hlen,P5,if_neg (by omega:¬A+1=0)]
  have e:=iz p f xs 0 (A * xs.length)
  rw[A6]at e
  by_cases hA:A=0
  ·subst hA
   rw[if_pos rfl,if_pos (by omega),show min i (0+1 - 1)=0 by omega]
   show 0+T p xs f (0 * xs.length)=T p xs (λk=>f (0 * xs.length+k)) 0
   rw[<- e];omega
  ·rw[if_neg hA]
   by_cases hi:A<=i
   ·rw[if_pos (by omega),show min i (A+1 - 1)=(A - 1)+1 by omega,show min i (A - 1)=A - 1 by omega]
    show _+T p xs f (A * xs.length)=VQ (A - 1) _+T p xs (λk=>f ((A - 1+1) * xs.length+k)) 0
    rw[show A - 1+1=A by omega,<- e]
   ·rw[if_neg (by omega),show min i (A+1 - 1)=i by omega,show min i (A - 1)=i by omega];omega
theorem PJ{sd:List Int}(h:∀c∈sd,1<=c):(placesOf sd).length=prodN sd:=by
 have h1:=IV sd [[]] h
 rw[prodN_I h]at h1
 have h6:(([[]]:List (List Int)).length:Int)=1:=rfl
 rw[h6]at h1
 unfold placesOf;omega
theorem uF{xs:List (List Int)}{i j:Nat}(hj:j < xs.length):∀A:Nat,i < A->((O0 A).flatMap λt:Nat=>xs.map ((t:Int) :: ·))[i * xs.length+j]?=some ((i:Int) :: xs[j])
 | 0,h=>by omega
 | A+1,h=>by
  have hlen:((O0 A).flatMap λj:Nat=>xs.map ((j:Int) :: ·)).length=A * xs.length:=by
   clear h
   induction A with
   | zero=>simp
   | succ A ih=>rw[A4,M3,K0,ih,t6,n0,L6];omega
  rw[A4,M3,t6]
  by_cases hi:i < A
  ·rw[E2,uF hj A hi]
   rw[hlen]
   have:=U5 xs.length (show i+1<=A by omega)
   rw[L6]at this;omega
  ·have:i=A:=by omega
   subst this
   rw[T1 (by rw[hlen];omega),hlen,O3,D1,L0 hj];rfl
theorem jz:∀(sd:List Int),(∀c∈sd,1<=c)->∀(f:Nat->Int) (k:Nat) (p:List Int),(placesOf sd)[k]?=some p->T p (placesOf sd) f 0=pre sd f k
 | [],_,f,k,p,hp=>by
  have hp:([[]]:List (List Int))[k]?=some p:=hp
  cases k with
  | zero =>
   have:[]=p:=by simpa using hp
   subst this
   show (if leq [] []=true then f 0 else 0)+0=f 0
   rw[if_pos (show leq [] []=true from rfl)];omega
  | succ k=>simp at hp
 | a :: r,h,f,k,p,hp=>by
  have h1:=h a B0
  have hr:∀c∈r,1<=c:=λc hc=>h c (u0 _ hc)
  have hm:=prodN_pos hr
  have hl:=PJ hr
  have hk:k < (placesOf (a :: r)).length:=(J1.mp hp).1
  rw[PJ h]at hk
  have hk:k < a.toNat * prodN r:=hk
  have hi:k / prodN r < a.toNat:=Y8 (by rw[Q3];exact hk)
  have hj:k % prodN r < (placesOf r).length:=by rw[hl];exact O7 _ (by omega)
  have ek:k=k / prodN r * (placesOf r).length+k % prodN r:=by rw[hl,Q3];exact (D7 k _).symm
  rw[tF]at hp ⊢
  have hg:=uF (i:=k / prodN r) hj a.toNat hi
  rw[<- ek,hp]at hg
  have hg:=D2 hg
  subst hg
  rw[Qw,if_neg (by omega),show min (k / prodN r) (a.toNat - 1)=k / prodN r by omega]
  show _=VQ (k / prodN r) λi=>pre r (λk'=>f (i * prodN r+k')) (k % prodN r)
  refine vX _ λi _=>?_
  rw[hl]
  exact jz r hr _ _ _ (L0 hj)
theorem runEq{sd cs:List Int}(hp:∀c∈sd,1<=c)(hc:cs.length=(placesOf sd).length):runProg sd.reverse 1 cs=runOf sd cs:=by
 have hl:=PJ hp
 have hm:=prodN_pos hp
 have l1:(runProg sd.reverse 1 cs).length=cs.length:=runProg_len _ _ _
 have l2:(runOf sd cs).length=cs.length:=by unfold runOf;rw[n0,hc]
 refine o7 (by rw[l1,l2]) λk k1 k2=>?_
 have hk:k < cs.length:=by omega
 have hkn:k < prodN sd:=by omega
 have e1:=prog_val sd hp cs 1 (by rw[hc,hl,M6]) k hk
 rw[L1,L0 k1,T3,i6 hkn,B5 hkn]at e1
 rw[e1]
 have hkp:k < (placesOf sd).length:=by omega
 have e2:(runOf sd cs)[k]=tot (placesOf sd)[k] ((placesOf sd).zip cs):=by simp[runOf]
 rw[e2]
 have e3:=cC (placesOf sd)[k] (placesOf sd) cs (λi=>cs.getD i 0) 0 0 hc.symm λi _=>by rw[P5]
 unfold tot
 rw[e3,jz sd hp _ k _ (L0 hkp),x8]
 exact pre_congrU sd k λi=>by rw[N7,P5]
end RM
namespace R44
open PySem L2 L3 PyProof.Rows
noncomputable def top(i:Nat):Stmt:=PySem.Challenge.pw_boxsums_k44_boxes_of_a_sum.main.body.getD i (.Pass ⟨0,0,0,0⟩)
structure Txt(mg:Str->Option Value):Prop where
 len_:mg "len"=none
 isinstance_:mg "isinstance"=none
 int_:mg "int"=none
 bool_:mg "bool"=none
 list_:mg "list"=none
 tuple_:mg "tuple"=none
 range_:mg "range"=none
 zip_:mg "zip"=none
 all_:mg "all"=none
 sum_:mg "sum"=none
 repr_:mg "repr"=none
 sorted_:mg "sorted"=none
 max_:mg "max"=none
 enumerate_:mg "enumerate"=none
 reversed_:mg "reversed"=none
 min_:mg "min"=none
 abs_:mg "abs"=none
local macro_rules | `(tactic| walk_at "po")=>`(tactic| first | (show (0:Int) < _; decide) | (show (0:Int) < _; omega) | exact ⟨by decide,by decide⟩ | exact Or.inl ⟨by decide,by decide⟩ | exact Or.inr ⟨by decide,by decide⟩ | exact ⟨by omega,by omega⟩ | exact Or.inl ⟨by omega,by omega⟩ | exact Or.inr ⟨by omega,by omega⟩ | decide | omega | assumption)
section
variable {P:Program}{w:World}{K:A0}{mg:Str->Option Value}{base:Heap}
noncomputable abbrev tW(ns:List Int)(k l:Int):List (PyData×PyData):=[(.str "script",YJ ns),(.str "at",.int k),(.str "left",.int l)]
noncomputable abbrev nX(ns:List Int)(k l:Int):PyData:=.dict (tW ns k l)
theorem Sw(ns:List Int)(k l:Int):Bj (tW ns k l) (.str "script")=some (YJ ns):=by rfl
theorem dP(ns:List Int)(k l:Int):Bj (tW ns k l) (.str "at")=some (.int k):=by rfl
theorem SD(ns:List Int)(k l:Int):Bj (tW ns k l) (.str "left")=some (.int l):=by rfl
theorem jR(ns:List Int)(k l k':Int):yV (tW ns k l) (.inr "at") (.int k')=tW ns k' l:=by rfl
theorem eP(ns:List Int)(k l l':Int):yV (tW ns k l) (.inr "left") (.int l')=tW ns k l':=by rfl
theorem fP(ns:List Int)(k l:Int):(fY (tW ns k l) (.inr "at")).isSome=true:=by rfl
theorem Tw(ns:List Int)(k l:Int):(fY (tW ns k l) (.inr "left")).isSome=true:=by rfl
theorem z3(ns:List Int)(k l:Int):(tW ns k l).length < sizeLine:=by show 3 < sizeLine;decide
noncomputable def UD:Con:=λargs Q=>∃ns:List Int,args=[.fz (YJ ns)]/\∀o,Q (.ow (nX ns 0 0)) o
theorem R9:FnScope ["_law_script"] ["_law_script"] (cQ (top 22)):=⟨rfl,rfl,rfl,by decide +kernel,rfl,by decide +kernel,by decide +kernel⟩
theorem Uw{f:Addr}{fd:FuncData}(F:Fun K "_law_begin" "_law_begin" (top 22) f fd):FnOk P w K mg base BZ 1 f fd ["_law_script"] (eQ K UD):=by
 have S:=R9
 refine TJ F S (λcdv A outer s H E hr=>(qQ (TQ (pI [(.inr "script",.inl 0),(.inr "at",.inr (.int 0)),(.inr "left",.inr (.int 0))] (by decide +kernel) (by decide) (by simp) (Cq (VJ TV (pv 0) (VJ TV EJ (VJ TV EJ Aq))) rfl rfl (by simp) (by simp)))))) ?_ ?_
 ·rintro args Qd ⟨ns,rfl,_⟩;rfl
 ·rintro args Qd ⟨ns,rfl,q⟩
  exact ⟨uQ rfl,q _⟩
noncomputable def uW:Con:=λargs Q=>∃a k:Int,args=[.fz (.int a),.fz (.int k)]/\∀r o,0<=r->Q (.fz (.int r)) o
theorem S9:FnScope ["_law_cell","_law_k","_law_one","_law_two"] ["_law_cell","_law_k"] (cQ (top 23)):=⟨rfl,rfl,rfl,by decide +kernel,rfl,by decide +kernel,by decide +kernel⟩
theorem Vw{f:Addr}{fd:FuncData}(F:Fun K "_law_mixed" "_law_mixed" (top 23) f fd):FnOk P w K mg base BZ 1 f fd ["_law_cell","_law_k"] (eQ K uW):=by
 have S:=S9
 refine TJ F S (λcdv A outer s H E hr=>(fQ (zQ (i:=2) S.nd rfl (Or.inl rfl) (w_bin iJ VZ (wx (w_bin LX pX (wx (w_bin QQ EQ (wx (w_bin QQ EQ (wx (w_bin iJ VZ (wn 0) (wx iQ))) (wx (w_bin LX pX (wx iQ) (wn 1))))) (wx iQ))) (wx iQ))) (wx iQ)))
     (fQ (zQ (i:=3) S.nd rfl (Or.inl rfl) (w_bin iJ VZ (wx (w_bin QQ EQ (wx (w_bin QQ EQ (wx (w_bin LX pX (wn 2) (wn 2))) (wx (w_bin LX pX (wx iQ) (wn 2))))) (wn 1))) (wx iQ)))
     (qQ (TQ (w_bin tY jY (wx (w_bin iJ VZ (wx (w_bin QQ EQ (wx (w_bin QQ EQ (wx (w_bin LX pX (wn 3) (wn 3))) (wx (w_bin LX pX (wx iQ) (wn 3))))) (wx (w_bin LX pX (wx iQ) (wn 1))))) (wx iQ))) (wx iQ))))))) ?_ ?_
 ·rintro args Qd ⟨a,k,rfl,_⟩;rfl
 ·rintro args Qd ⟨a,k,rfl,q⟩
  refine ⟨uQ rfl,?_⟩
  refine ⟨by walk_at "po",.inl ⟨by decide,by decide⟩,.inr ⟨by decide,by decide⟩,by walk_at "po",?_⟩
  refine ⟨.inl ⟨by omega,by omega⟩,.inl ⟨by decide,by decide⟩,by walk_at "po",?_⟩
  refine ⟨.inl ⟨by omega,by omega⟩,.inl ⟨by decide,by decide⟩,.inl ⟨by decide,by decide⟩,by walk_at "po",⟨by decide,by decide⟩,?_⟩
  exact q _ _ (by omega)
structure CalsA(P:Program)(w:World)(K:A0)(mg:Str->Option Value)(base:Heap):Prop where
 law_mixed:Cal P w K mg base 1 "_law_mixed" ["_law_cell","_law_k"] (eQ K uW)
noncomputable def vW:Con:=λargs Q=>∃(ns:List Int) (k l m:Int),args=[.io (nX ns k l),.fz (.int m)]/\0<=k/\0<=l/\0 < m/\m < 1000000 /\
 ∀(r k' l':Int) (o:Ev),0<=r->r < m->0<=k'->0<=l'->Q (.fz (.int r)) (some (.io (nX ns k' l')) :: o)
theorem SI:FnScope ["_law_state","_law_most","_law_k","_law_script","_law_cell","_law_found"] ["_law_state","_law_most"] (cQ (top 24)):=⟨rfl,rfl,rfl,by decide +kernel,rfl,by decide +kernel,by decide +kernel⟩
theorem T9{f:Addr}{fd:FuncData}(F:Fun K "_law_take" "_law_take" (top 24) f fd)(T:Txt mg)(C:CalsA P w K mg base):FnOk P w K mg base BZ 2 f fd ["_law_state","_law_most"] (eQ K vW):=by
 have S:=SI
 refine TJ F S (λcdv A outer s H E hr=>(fQ (zQ (i:=2) S.nd rfl (Or.inl rfl) (jW (WJ hr) (wn 0) (wx WK)))
     (fQ (zQ (i:=3) S.nd rfl (Or.inl rfl) (jW (WJ hr) (wn 0) (wx WK)))
     (fQ (KJ (YX UK (jJ (K:=K) rfl hr.units) (wx (jW (WJ hr) (wn 0) (wx WK))) (wx iQ)) (fQ (iw (WJ hr) (wn 0) (wx WK) (w_bin QQ EQ (wn 2) (wx iQ)))
     (fQ (zQ (i:=4) S.nd rfl (Or.inl rfl) iQ)
     (fQ (KJ (YX IB CB (wx (CQ QX (SQ (K:=K) rfl) T.len_ PySem.boot_len (aQ (wn 3) bQ))) (wx iQ)) (qQ (zQ (i:=4) S.nd rfl (Or.inl rfl) (WX rfl (wn 3) (wx (w_bin iJ VZ (wn 2) (wx (CQ QX (SQ (K:=K) rfl) T.len_ PySem.boot_len (aQ (wn 3) bQ)))))))) nZ)
     (fQ (KJ (SN (tI (YX DM KL (wn 2) (wx (CQ QX (SQ (K:=K) rfl) T.len_ PySem.boot_len (aQ (wn 3) bQ)))) (dw (YX cF pG (wx (CQ Fk qG T.abs_ boot_abs (aQ (wn 4) bQ))) (wx (w_bin Rk lx (wx iQ) (wx iQ))))))) (qQ (TQ (w_bin iJ VZ (wx (GX C.law_mixed (hr.mono (by first|decide|omega)) (aQ (wn 4) (aQ (wn 2) bQ)))) (wn 1)))) nZ)
     (qQ (iw (WJ hr) (wn 0) (wx WK) (CQ Fk qG T.abs_ boot_abs (aQ (wn 4) bQ)))))))) nZ)
     (fQ (zQ (i:=5) S.nd rfl (Or.inl rfl) (w_bin iJ VZ (wx (jW (WJ hr) (wn 0) (wx WK))) (wn 1)))
     (fQ (iw (WJ hr) (wn 0) (wx WK) (w_bin tY jY (wx (jW (WJ hr) (wn 0) (wx WK))) (wn 1)))
     (qQ (JJ (wn 5))))))))) ?_ ?_
 ·rintro args Qd ⟨ns,k,l,m,rfl,_⟩;rfl
 ·rintro args Qd ⟨ns,k,l,m,rfl,hk,hl,m0,m1,q⟩
  refine ⟨uQ rfl,?_⟩
  have fin:∀(k1 l1:Int) (c:Option Sl),0<=k1->0<=l1->YY (jU 5 (QZ [Sum.inr (QZ [Sum.inl 0,Sum.inr (dC (.str "left"))] (o2 zV)),Sum.inl 1] (o2 (fI Dj λi j=>.int (i % j)))))
    (YY (wJ 0 (Sum.inr (dC (.str "left"))) (QZ [Sum.inr (QZ [Sum.inl 0,Sum.inr (dC (.str "left"))] (o2 zV)),Sum.inl 1] (o2 (fI kx λi j=>.int (i / j))))) (wV 5))
    (KZ [Sl.io (nX ns k l),Sl.fz (.int m)] Qd) [some (.io (nX ns k1 l1)),some (.fz (.int m)),some (.fz (.int k)),some (.fz (YJ ns)),c,none]:=λk1 l1 c hk1 hl1 =>
   ⟨_,SD ns k1 l1,m0,_,SD ns k1 l1,⟨m0,by omega⟩,z3 ns k1 l1,Tw ns k1 l1,q _ _ _ _ (M8 _ (by omega)) (P7 _ m0) hk1 (Int.ediv_nonneg hl1 (by omega))⟩
  refine ⟨_,dP ns k l,?_⟩
  refine ⟨_,Sw ns k l,?_⟩
  refine ⟨_,SD ns k l,?_⟩
  refine wZ (λh1=>?_) (λh1=>?_)
  ·refine ⟨z3 ns k l,fP ns k l,?_⟩
   have tail:∀c:Int,YY (Uy (ON (nD (QZ [Sum.inl 2,Sum.inr (QZ [Sum.inl 3] (o1 nM))] (o2 (Xj λi j=>.bool (decide (j<=i)))))) (nD (QZ [Sum.inr (QZ [Sum.inl 4] (o1 EE)),Sum.inr (QZ [Sum.inr (dC (.int 10)),Sum.inr (dC (.int 18))] (o2 (fI ny λi j=>.int (i ^ j.toNat))))] (o2 (Xj λi j=>.bool (decide (i < j)))))))
         (uk (QZ [Sum.inr (NG uW [Sum.inl 4,Sum.inl 2]),Sum.inl 1] (o2 (fI Dj λi j=>.int (i % j))))) Jq) (wJ 0 (Sum.inr (dC (.str "left"))) (QZ [Sum.inl 4] (o1 EE)))
      { nx:=λρ'=>YY (jU 5 (QZ [Sum.inr (QZ [Sum.inl 0,Sum.inr (dC (.str "left"))] (o2 zV)),Sum.inl 1] (o2 (fI Dj λi j=>.int (i % j)))))
          (YY (wJ 0 (Sum.inr (dC (.str "left"))) (QZ [Sum.inr (QZ [Sum.inl 0,Sum.inr (dC (.str "left"))] (o2 zV)),Sum.inl 1] (o2 (fI kx λi j=>.int (i / j))))) (wV 5)) (KZ [Sl.io (nX ns k l),Sl.fz (.int m)] Qd) ρ',
        rt:=(KZ [Sl.io (nX ns k l),Sl.fz (.int m)] Qd).rt,bk:=(KZ [Sl.io (nX ns k l),Sl.fz (.int m)] Qd).bk,ct:=(KZ [Sl.io (nX ns k l),Sl.fz (.int m)] Qd).ct }
      [some (.io (nX ns (k+1) l)),some (.fz (.int m)),some (.fz (.int k)),some (.fz (YJ ns)),some (.fz (.int c)),none]:=λc=>by
    have done:uk (QZ [Sum.inr (NG uW [Sum.inl 4,Sum.inl 2]),Sum.inl 1] (o2 (fI Dj λi j=>.int (i % j)))) (KZ [Sl.io (nX ns k l),Sl.fz (.int m)] Qd)
      [some (.io (nX ns (k+1) l)),some (.fz (.int m)),some (.fz (.int k)),some (.fz (YJ ns)),some (.fz (.int c)),none] :=
     ⟨c,k,rfl,λr _ hr=>⟨m0,q _ _ _ _ (M8 _ (by omega)) (P7 _ m0) (by omega) hl⟩⟩
    refine ⟨ns,rfl,?_⟩
    refine wZ (λh3=>?_) (λh3=>?_)
    ·exact done
    ·refine ⟨⟨by decide,by decide,by decide⟩,?_⟩
     refine wZ (λh4=>?_) (λh4=>?_)
     ·exact done
     ·refine ⟨z3 ns (k+1) l,Tw ns (k+1) l,?_⟩
      exact fin (k+1) _ _ (by omega) (by split<;>omega)
   refine ⟨ns,rfl,?_⟩
   refine wZ (λh2=>?_) (λh2=>?_)
   ·have hpos:(0:Int) < (ns.length:Int):=of_decide_eq_true h2
    have hb:=P7 k hpos
    have ha:=M8 k (show (ns.length:Int)≠0 by omega)
    obtain⟨j,hj⟩:=K4 ha
    have hjl:j < ns.length:=by omega
    refine ⟨ns,rfl,hpos,ns,ns[j],rfl,?_,?_⟩
    ·rw[hj];exact mY (L0 hjl)
    ·exact tail _
   ·exact tail 0
  ·exact fin k l none hk hl
structure CalsB(P:Program)(w:World)(K:A0)(mg:Str->Option Value)(base:Heap):Prop where
 law_take:Cal P w K mg base 2 "_law_take" ["_law_state","_law_most"] (eQ K vW)
noncomputable def yY:Con:=λargs Q=>∃(ns:List Int) (k l:Int),args=[.io (nX ns k l)]/\0<=k/\0<=l/\∀(r k' l':Int) (o:Ev),0<=k'->0<=l'->-(10 ^ 30) < r->r < 10 ^ 30->Q (.fz (.int r)) (some (.io (nX ns k' l')) :: o)
theorem Ww:FnScope ["_law_state","_law_way"] ["_law_state"] (cQ (top 26)):=⟨rfl,rfl,rfl,by decide +kernel,rfl,by decide +kernel,by decide +kernel⟩
theorem Nj{f:Addr}{fd:FuncData}(F:Fun K "_law_number" "_law_number" (top 26) f fd)(C:CalsB P w K mg base):FnOk P w K mg base BZ 3 f fd ["_law_state"] (eQ K yY):=by
 have S:=Ww
 refine TJ F S (λcdv A outer s H E hr=>(fQ (zQ (i:=1) S.nd rfl (Or.inl rfl) (bX C.law_take (hr.mono (by first|decide|omega)) (aQ (wn 0) (aQ (wx iQ) bQ))))
     (fQ (KJ (YX cF pG (wn 1) (wx iQ)) (qQ (TQ (w_bin lZ iZ (wx (bX C.law_take (hr.mono (by first|decide|omega)) (aQ (wn 0) (aQ (wx iQ) bQ)))) (wx iQ)))) nZ)
     (fQ (KJ (YX cF pG (wn 1) (wx iQ)) (qQ (TQ iQ)) nZ)
     (fQ (KJ (YX cF pG (wn 1) (wx iQ)) (qQ (TQ (w_bin lZ iZ (wx (bX C.law_take (hr.mono (by first|decide|omega)) (aQ (wn 0) (aQ (wx iQ) bQ)))) (wx iQ)))) nZ)
     (qQ (TQ (w_bin LX pX (wx (w_bin lZ iZ (wx iQ) (wx (w_bin LX pX (wx iQ) (wx (bX C.law_take (hr.mono (by first|decide|omega)) (aQ (wn 0) (aQ (wx iQ) bQ)))))))) (wx (w_bin lZ iZ (wx (w_bin lZ iZ (wx (w_bin Rk lx (wx iQ) (wx iQ))) (wx iQ))) (wx (bX C.law_take (hr.mono (by first|decide|omega)) (aQ (wn 0) (aQ (wx iQ) bQ)))))))))))))) ?_ ?_
 ·rintro args Qd ⟨ns,k,l,rfl,_⟩;rfl
 ·rintro args Qd ⟨ns,k,l,rfl,hk,hl,q⟩
  refine ⟨uQ rfl,?_⟩
  refine ⟨ns,k,l,_,rfl,hk,hl,by decide,by decide,λway k1 l1 _ w0 w1 hk1 hl1=>?_⟩
  refine wZ (λ_=>?_) (λ_=>?_)
  ·exact ⟨ns,k1,l1,_,rfl,hk1,hl1,by decide,by decide,λr k2 l2 _ r0 r1 hk2 hl2=>q _ _ _ _ hk2 hl2 (by omega) (by omega)⟩
  refine wZ (λ_=>?_) (λ_=>?_)
  ·exact q _ _ _ _ hk1 hl1 (by decide) (by decide)
  refine wZ (λ_=>?_) (λ_=>?_)
  ·exact ⟨ns,k1,l1,_,rfl,hk1,hl1,by decide,by decide,λr k2 l2 _ r0 r1 hk2 hl2=>q _ _ _ _ hk2 hl2 (by omega) (by omega)⟩
  ·refine ⟨ns,k1,l1,_,rfl,hk1,hl1,by decide,by decide,λr k2 l2 _ r0 r1 hk2 hl2=>?_⟩
   refine ⟨.inl ⟨by decide,by decide⟩,⟨by decide,by decide,by decide⟩,ns,k2,l2,_,rfl,hk2,hl2,by decide,by decide,λr' k3 l3 _ r0' r1' hk3 hl3=>?_⟩
   have e:r=0\/r=1:=by omega
   refine ⟨.inl ⟨by omega,by omega⟩,q _ _ _ _ hk3 hl3 ?_ ?_⟩
   ·rcases e with rfl|rfl
    ·show -(10 ^ 30:Int) < (1 - 2 * 0) * (10 ^ 30 - 1 - r');omega
    ·show -(10 ^ 30:Int) < (1 - 2 * 1) * (10 ^ 30 - 1 - r');omega
   ·rcases e with rfl|rfl
    ·show (1 - 2 * 0) * (10 ^ 30 - 1 - r') < (10 ^ 30:Int);omega
    ·show (1 - 2 * 1) * (10 ^ 30 - 1 - r') < (10 ^ 30:Int);omega
end
section
variable {P:Program}{w:World}{K:A0}{mg:Str->Option Value}{base:Heap}
structure CalsC(P:Program)(w:World)(K:A0)(mg:Str->Option Value)(base:Heap):Prop where
 law_take:Cal P w K mg base 2 "_law_take" ["_law_state","_law_most"] (eQ K vW)
 law_number:Cal P w K mg base 3 "_law_number" ["_law_state"] (eQ K yY)
noncomputable def kO(c:Int):Prop:=-(10 ^ 30) < c/\c < 10 ^ 30
noncomputable def VD:Con:=λargs Q=>∃(ns:List Int) (k l:Int) (n:Nat),args=[.io (nX ns k l),.fz (.int n)]/\0<=k/\0<=l/\n<=1000 /\
 ∀(cs:List Int) (k' l':Int) (o:Ev),cs.length=n->(∀c∈cs,kO c)->0<=k'->0<=l'->Q (.ow (.list (cs.map q0))) (some (.io (nX ns k' l')) :: o)
theorem U9:FnScope ["_law_state","_law_many","_law_some"] ["_law_state","_law_many"] (cQ (top 27)):=⟨rfl,rfl,rfl,by decide +kernel,rfl,by decide +kernel,by decide +kernel⟩
theorem Xw{f:Addr}{fd:FuncData}(F:Fun K "_law_cells" "_law_cells" (top 27) f fd)(T:Txt mg)(C:CalsC P w K mg base):FnOk P w K mg base BZ 4 f fd ["_law_state","_law_many"] (eQ K VD):=by
 have S:=U9
 refine TJ F S (λcdv A outer s H E hr=>(fQ (zQ (i:=2) S.nd rfl (Or.inr rfl) (tX (aQ (wx (bX C.law_number (hr.mono (by first|decide|omega)) (aQ (wn 0) bQ))) (aQ (wx (bX C.law_number (hr.mono (by first|decide|omega)) (aQ (wn 0) bQ))) bQ))))
     (fQ (KJ (YX UK (jJ (K:=K) rfl hr.units) (wx (bX C.law_take (hr.mono (by first|decide|omega)) (aQ (wn 0) (aQ (wx iQ) bQ)))) (wx iQ)) (qQ (TQ (zX rfl (own:=["_law_k"]) (fr:=[2,0]) (by kernel_rfl) (IJ T.range_ (aQ (wn 1) bQ)) (λ_ _ _ _=>(lQ (i:=0) (by decide +kernel:G2 (["_law_k","_law_some","_law_state"]:List Str)) rfl (Or.inl rfl))) (λ_ _ _ _=>uH) (λ_ _ _ _=>(WX rfl (wn 1) (wx (bX C.law_take (hr.mono (by first|decide|omega)) (aQ (wn 2) (aQ (wx iQ) bQ))))))))) nZ)
     (qQ (TQ (zX rfl (own:=["_law_k"]) (fr:=[0]) (by kernel_rfl) (IJ T.range_ (aQ (wn 1) bQ)) (λ_ _ _ _=>(lQ (i:=0) (by decide +kernel:G2 (["_law_k","_law_state"]:List Str)) rfl (Or.inl rfl))) (λ_ _ _ _=>uH) (λ_ _ _ _=>(bX C.law_number (hr.mono (by first|decide|omega)) (aQ (wn 1) bQ))))))))) ?_ ?_
 ·rintro args Qd ⟨ns,k,l,n,rfl,_⟩;rfl
 ·rintro args Qd ⟨ns,k,l,n,rfl,hk,hl,hn,q⟩
  refine ⟨uQ rfl,?_⟩
  refine ⟨ns,k,l,rfl,hk,hl,λa k1 l1 _ hk1 hl1 a0 a1=>?_⟩
  refine ⟨ns,k1,l1,rfl,hk1,hl1,λb k2 l2 _ hk2 hl2 b0 b1=>?_⟩
  refine ⟨ns,k2,l2,_,rfl,hk2,hl2,by decide,by decide,λr k3 l3 _ r0 r1 hk3 hl3=>?_⟩
  have hrl:(vQ 0 (n:Int).toNat).length<=sizeLine:=by rw[vQ,n0,G3];exact FQ (by omega)
  have hb:∀c∈[a,b],kO c:=λc hc=>by simp at hc;rcases hc with rfl|rfl;exact ⟨a0,a1⟩;exact ⟨b0,b1⟩
  refine wZ (λ_=>?_) (λ_=>?_)
  ·refine ⟨by omega,by omega,hrl,fF (λrest acc τ=>∃(cs:List Int) (k4 l4:Int),τ=[none,some (.io (.list [.int a,.int b])),some (.io (nX ns k4 l4))]/\acc=cs.map q0/\cs.length+rest.length=n/\(∀c∈cs,kO c)/\0<=k4/\0<=l4) ?_ ?_
     ⟨[],k3,l3,rfl,rfl,by simp[vQ],λc hc=>by simp at hc,hk3,hl3⟩⟩
   ·rintro d ds acc τ ⟨cs,k4,l4,rfl,rfl,hlen,hB,hk4,hl4⟩ N hN
    refine ⟨ns,k4,l4,_,rfl,hk4,hl4,by decide,by decide,λj k5 l5 _ j0 j1 hk5 hl5=>?_⟩
    have hj:j=0\/j=1:=by omega
    rcases hj with rfl|rfl
    ·exact ⟨.int a,rfl,hN _ _ ⟨cs++[a],k5,l5,rfl,by simp[Sl.d],by simp at hlen ⊢;omega,λc hc=>by rcases Q2.mp hc with z|z;exact hB c z;exact hb c (by simp at z ⊢;exact .inl z),hk5,hl5⟩⟩
    ·exact ⟨.int b,rfl,hN _ _ ⟨cs++[b],k5,l5,rfl,by simp[Sl.d],by simp at hlen ⊢;omega,λc hc=>by rcases Q2.mp hc with z|z;exact hB c z;exact hb c (by simp at z ⊢;exact .inr z),hk5,hl5⟩⟩
   ·rintro acc τ ⟨cs,k4,l4,rfl,rfl,hlen,hB,hk4,hl4⟩
    exact q cs k4 l4 _ (by simpa using hlen) hB hk4 hl4
  ·refine ⟨by omega,by omega,hrl,fF (λrest acc τ=>∃(cs:List Int) (k4 l4:Int),τ=[none,some (.io (nX ns k4 l4))]/\acc=cs.map q0/\cs.length+rest.length=n/\(∀c∈cs,kO c)/\0<=k4/\0<=l4) ?_ ?_
     ⟨[],k3,l3,rfl,rfl,by simp[vQ],λc hc=>by simp at hc,hk3,hl3⟩⟩
   ·rintro d ds acc τ ⟨cs,k4,l4,rfl,rfl,hlen,hB,hk4,hl4⟩ N hN
    refine ⟨ns,k4,l4,rfl,hk4,hl4,λc k5 l5 _ hk5 hl5 c0 c1=>?_⟩
    exact hN _ _ ⟨cs++[c],k5,l5,rfl,by simp[Sl.d],by simp at hlen ⊢;omega,λc' hc=>by rcases Q2.mp hc with z|z;exact hB c' z;rw[P2.mp z];exact ⟨c0,c1⟩,hk5,hl5⟩
   ·rintro acc τ ⟨cs,k4,l4,rfl,rfl,hlen,hB,hk4,hl4⟩
    exact q cs k4 l4 _ (by simpa using hlen) hB hk4 hl4
end
section
variable {P:Program}{w:World}{K:A0}{mg:Str->Option Value}{base:Heap}
theorem wX(lo:Int)(n:Nat):vQ lo (n+1)=q0 lo :: vQ (lo+1) n:=by
 simp only[vQ,List.range_succ_eq_map,E1,R0]
 refine congr (congrArg List.cons (by simp)) (W2 λa _=>?_)
 simp only[Function.comp_def,PyData.int.injEq,Int.natCast_succ]
 omega
noncomputable def prodI:List Int->Int
 | []=>1
 | a :: r=>a * prodI r
theorem RX:∀{l:List Int},(∀c∈l,1<=c)->1<=prodI l
 | [],_=>U7 _
 | a :: r,h=>by
  have h1:=h a B0
  have h2:=RX (l:=r) λc hc=>h c (u0 _ hc)
  show 1<=a * prodI r
  have:=Int.mul_le_mul h1 h2 (by decide) (by omega)
  omega
theorem prodI_append(l r:List Int):prodI (l++r)=prodI l * prodI r:=by
 induction l with
 | nil=>show prodI r=1 * prodI r;rw[G4]
 | cons a l ih=>show a * prodI (l++r)=a * prodI l * prodI r;rw[ih,L4]
structure Sd(sd:List Int):Prop where
 l1:1<=sd.length
 l3:sd.length<=3
 p:∀c∈sd,1<=c
 m:prodI sd<=120
structure S0(sd:List Int):Prop where
 l3:sd.length<=3
 p:∀c∈sd,1<=c
 m:prodI sd<=120
theorem Sd.s0{sd:List Int}(h:Sd sd):S0 sd:=⟨h.l3,h.p,h.m⟩
theorem vF{b:Int}(hb:1<=b):∀{l:List Int},(∀c∈l,1<=c/\c<=b)->prodI l<=b ^ l.length
 | [],_=>by show (1:Int)<=b ^ 0;rw[Int.pow_zero];decide
 | a :: r,h=>by
  have h1:=h a B0
  have h2:=vF hb (l:=r) λc hc=>h c (u0 _ hc)
  have h3:=RX (l:=r) λc hc=>(h c (u0 _ hc)).1
  show a * prodI r<=b ^ (r.length+1)
  rw[Int.pow_succ,w8 (b ^ r.length) b]
  exact Int.mul_le_mul h1.2 h2 (by omega) (by omega)
noncomputable abbrev oQ(p:List Int):PyData:=.tuple (p.map q0)
noncomputable def WD:Con:=λargs Q=>∃(ns:List Int) (k l m:Int),args=[.io (nX ns k l),.fz (.int m)]/\0<=k/\0<=l/\1<=m/\m<=120 /\
 ∀(sd:List Int) (k' l':Int) (o:Ev),Sd sd->prodI sd<=120->0<=k'->0<=l'->Q (.fz (oQ sd)) (some (.io (nX ns k' l')) :: o)
theorem V9:FnScope ["_law_state","_law_most","_law_way","_law_found","_law_k","_law_side"] ["_law_state","_law_most"] (cQ (top 25)):=⟨rfl,rfl,rfl,by decide +kernel,rfl,by decide +kernel,by decide +kernel⟩
theorem Yw{f:Addr}{fd:FuncData}(F:Fun K "_law_sides" "_law_sides" (top 25) f fd)(T:Txt mg)(C:CalsB P w K mg base):FnOk P w K mg base BZ 3 f fd ["_law_state","_law_most"] (eQ K WD):=by
 have S:=V9
 refine TJ F S (λcdv A outer s H E hr=>(fQ (zQ (i:=2) S.nd rfl (Or.inl rfl) (bX C.law_take (hr.mono (by first|decide|omega)) (aQ (wn 0) (aQ (wx iQ) bQ))))
     (fQ (KJ (YX cF pG (wx (bX C.law_take (hr.mono (by first|decide|omega)) (aQ (wn 0) (aQ (wx iQ) bQ)))) (wx iQ)) (qQ (TQ (vZ kZ (rX (K:=K) rfl) T.tuple_ boot_tuple (aQ (wx (zX rfl (own:=["_law_one"]) (fr:=[0]) (by kernel_rfl) (qX rfl (WX rfl (wx (tX (aQ (wx (tX (aQ (wx iQ) bQ))) (aQ (wx (tX (aQ (wx iQ) (aQ (wx iQ) bQ)))) (aQ (wx (tX (aQ (wx iQ) (aQ (wx iQ) (aQ (wx iQ) bQ))))) bQ))))) (wn 2))) (λ_ _ _ _=>(lQ (i:=0) (by decide +kernel:G2 (["_law_one","_law_state"]:List Str)) rfl (Or.inl rfl))) (λ_ _ _ _=>uH) (λ_ _ _ _=>(w_bin QQ EQ (wx iQ) (wx (bX C.law_take (hr.mono (by first|decide|omega)) (aQ (wn 1) (aQ (wn 0) bQ)))))))) bQ)))) nZ)
     (fQ (zQ (i:=3) S.nd rfl (Or.inl rfl) (tX bQ))
     (fQ (MX [4,5] PassesOwn.never rfl (IJ T.range_ (aQ (wx (w_bin QQ EQ (wn 2) (wx iQ))) bQ)) (lQ (i:=4) S.nd rfl (Or.inl rfl)) (fQ (zQ (i:=5) S.nd rfl (Or.inl rfl) (w_bin QQ EQ (wx iQ) (wx (bX C.law_take (hr.mono (by first|decide|omega)) (aQ (wn 0) (aQ (wx (CQ qM (Rz rfl) T.min_ boot_min (aQ (wn 1) (aQ (wx (WX rfl (wx (tX (aQ (wx iQ) (aQ (wx (wv 1)) bQ)))) (wx (bX C.law_take (hr.mono (by first|decide|omega)) (aQ (wn 0) (aQ (wx iQ) bQ)))))) bQ)))) bQ))))))
     (fQ (lJ (qI wj rfl PySem.F.slot_list_insert PySem.F.type_list_insert lj (wn 3) (aQ (wx (bX C.law_take (hr.mono (by first|decide|omega)) (aQ (wn 0) (aQ (wx (w_bin QQ EQ (wn 4) (wx iQ))) bQ)))) (aQ (wx (wv 5)) bQ))))
     (qQ (zQ (i:=1) S.nd rfl (Or.inl rfl) (w_bin tY jY (wn 1) (wn 5)))))))
     (qQ (TQ (vZ kZ (rX (K:=K) rfl) T.tuple_ boot_tuple (aQ (wn 3) bQ))))))))) ?_ ?_
 ·rintro args Qd ⟨ns,k,l,m,rfl,_⟩;rfl
 ·rintro args Qd ⟨ns,k,l,m,rfl,hk,hl,m1,m2,q⟩
  refine ⟨uQ rfl,?_⟩
  refine ⟨ns,k,l,_,rfl,hk,hl,by decide,by decide,λway k1 l1 _ w0 w1 hk1 hl1=>?_⟩
  refine ⟨ns,k1,l1,_,rfl,hk1,hl1,by decide,by decide,λr2 k2 l2 _ _ _ hk2 hl2=>?_⟩
  refine wZ (λ_=>?_) (λ_=>?_)
  ·have pick:∃(n:Nat) (b:Int),SJ [X2 [.int 12],X2 [.int 5,.int 5],X2 [.int 3,.int 3,.int 3]] way=some (.list (Z1 n (.int b)))/\1<=n/\n<=3/\1<=b/\b<=12/\b ^ n<=27:=by
    have hw:way=0\/way=1\/way=2:=by omega
    rcases hw with rfl|rfl|rfl
    ·exact ⟨1,12,rfl,by decide,by decide,by decide,by decide,by decide⟩
    ·exact ⟨2,5,rfl,by decide,by decide,by decide,by decide,by decide⟩
    ·exact ⟨3,3,rfl,by decide,by decide,by decide,by decide,by decide⟩
   obtain⟨n,b,hat,n1,n3,b1,b12,hbn⟩:=pick
   refine ⟨_,hat,by rw[O8];exact FQ (by omega),fF (λrest acc τ=>∃(cs:List Int) (k4 l4:Int),τ=[none,some (.io (nX ns k4 l4))]/\acc=cs.map q0/\(∃m',rest=Z1 m' (.int b)/\cs.length+m'=n)/\(∀c∈cs,1<=c/\c<=b)/\0<=k4/\0<=l4) ?_ ?_
     ⟨[],k2,l2,rfl,rfl,⟨n,rfl,by simp⟩,λc hc=>by simp at hc,hk2,hl2⟩⟩
   ·rintro d ds acc τ ⟨cs,k4,l4,rfl,rfl,⟨m',em,hlen⟩,hB,hk4,hl4⟩ N hN
    cases m' with
    | zero=>cases em
    | succ m' =>
     rw[Y3]at em
     cases em
     refine ⟨ns,k4,l4,_,rfl,hk4,hl4,by omega,by omega,λj k5 l5 _ j0 j1 hk5 hl5=>?_⟩
     exact hN _ _ ⟨cs++[1+j],k5,l5,rfl,by simp[Sl.d],⟨m',rfl,by simp;omega⟩,λc hc=>by rcases Q2.mp hc with z|z;exact hB c z;rw[P2.mp z];omega,hk5,hl5⟩
   ·rintro acc τ ⟨cs,k4,l4,rfl,rfl,⟨m',em,hlen⟩,hB,hk4,hl4⟩
    cases m' with
    | succ m'=>cases em
    | zero =>
     have hp:=vF b1 hB
     rw[show cs.length=n by omega]at hp
     exact q cs k4 l4 _ ⟨by omega,by omega,λc hc=>(hB c hc).1,by omega⟩ (by omega) hk4 hl4
  ·refine ⟨by omega,by omega,BX (λrest ρ=>∃(mc:Int) (fs:List Int) (k4 l4:Int),ρ=[some (.io (nX ns k4 l4)),some (.fz (.int mc)),some (.fz (.int way)),some (.ow (.list (fs.map q0))),none,none] /\
       (∃n:Nat,rest=vQ fs.length n/\(fs.length:Int)+n=way+1)/\(∀c∈fs,1<=c)/\1<=mc/\prodI fs * mc<=m/\0<=k4/\0<=l4) ?_ ?_
     ⟨m,[],k2,l2,rfl,⟨(way+1).toNat,rfl,by simp;omega⟩,λc hc=>by simp at hc,by omega,by show 1 * m<=m;omega,hk2,hl2⟩⟩
   ·rintro d ds ρ ⟨mc,fs,k4,l4,rfl,⟨n,en,hlen⟩,hfp,hm1,hpm,hk4,hl4⟩ N hN
    cases n with
    | zero=>cases en
    | succ n =>
     have e2:vQ fs.length (n+1)=q0 fs.length :: vQ (fs.length+1) n:=by
      exact wX _ _
     rw[e2]at en
     cases en
     have hp1:=RX hfp
     have hmc:mc<=m:=Int.le_trans (by have:=V4 hp1 (show (0:Int)<=mc by omega);omega) hpm
     refine ⟨ns,k4,l4,_,rfl,hk4,hl4,by decide,by decide,λr k5 l5 _ r0 r1 hk5 hl5=>?_⟩
     have pick:∃x:Int,SJ [q0 12,q0 mc] r=some (.int x)/\1<=x:=by
      have:r=0\/r=1:=by omega
      rcases this with rfl|rfl
      ·exact ⟨12,rfl,by decide⟩
      ·exact ⟨mc,rfl,hm1⟩
     obtain⟨x,hx,hx1⟩:=pick
     refine ⟨_,hx,?_⟩
     refine ⟨ns,k5,l5,_,rfl,hk5,hl5,by split<;>omega,by split<;>omega,λr6 k6 l6 _ r60 r61 hk6 hl6=>?_⟩
     have hs1:1+r6<=mc:=by
      have:(if x < mc then x else mc)<=mc:=by split<;>omega
      omega
     refine ⟨ns,k6,l6,_,rfl,hk6,hl6,by omega,by omega,λr7 k7 l7 _ r70 r71 hk7 hl7=>?_⟩
     refine ⟨by rw[n0];exact N0 (show fs.length < 1000 by omega) (by decide),r70,by rw[n0];omega,⟨by omega,by omega⟩,?_⟩
     have ep:prodI (fs.take r7.toNat++(1+r6) :: fs.drop r7.toNat)=(1+r6) * prodI fs:=by
      rw[prodI_append]
      show prodI (fs.take r7.toNat) * ((1+r6) * prodI (fs.drop r7.toNat))=_
      rw[Int.mul_left_comm,<- prodI_append,o4]
     have hl:(fs.take r7.toNat++(1+r6) :: fs.drop r7.toNat).length=fs.length+1:=by
      rw[K0,P1,S3,Z5];omega
     refine hN _ ⟨mc / (1+r6),fs.take r7.toNat++(1+r6) :: fs.drop r7.toNat,k7,l7,?_,⟨n,by rw[hl];rfl,by rw[hl];omega⟩,?_,?_,?_,hk7,hl7⟩
     ·have e3:(fs.map q0).take r7.toNat++q0 (1+r6) :: (fs.map q0).drop r7.toNat=(fs.take r7.toNat++(1+r6) :: fs.drop r7.toNat).map q0:=by simp
      rw[<- e3];rfl
     ·intro c hc
      rcases Q2.mp hc with z|z
      ·exact hfp c (V8 z)
      ·rcases U1.mp z with z|z
       ·omega
       ·exact hfp c (W8 z)
     ·exact Int.le_ediv_of_mul_le (by omega) (by omega)
     ·rw[ep]
      have h1:(1+r6) * (mc / (1+r6))<=mc:=Int.mul_ediv_self_le (by omega)
      have h2:prodI fs * ((1+r6) * (mc / (1+r6)))<=prodI fs * mc:=Z2 h1 (by omega)
      rw[w8 (1+r6) (prodI fs),L4]
      omega
   ·rintro ρ ⟨mc,fs,k4,l4,rfl,⟨n,en,hlen⟩,hfp,hm1,hpm,hk4,hl4⟩
    cases n with
    | succ n=>simp[vQ,A4]at en
    | zero =>
     have hp1:=RX hfp
     have:=Z2 hm1 (show (0:Int)<=prodI fs by omega)
     exact q fs k4 l4 _ ⟨by omega,by omega,hfp,by omega⟩ (by omega) hk4 hl4
end
noncomputable def DQ{α:Type}(acc:List (List α)):List (List α)->List (List α)
 | []=>acc
 | c :: cs=>DQ (acc.flatMap λp=>c.map λx=>p++[x]) cs
noncomputable def oZ{α:Type}:List (List α)->Nat
 | []=>1
 | c :: cs=>c.length * oZ cs
theorem wW{α:Type}:∀{cs:List (List α)},(∀c∈cs,c≠[])->1<=oZ cs
 | [],_=>G0 _
 | c :: cs,h=>by
  have h1:1<=c.length:=List.length_pos_iff.mpr (h c B0)
  have h2:=wW (cs:=cs) λd hd=>h d (u0 _ hd)
  exact T8 h1 h2
theorem tK{α:Type}(c:List α):∀acc:List (List α),(acc.flatMap λp=>c.map λx=>p++[x]).length=acc.length * c.length
 | []=>by simp
 | p :: acc=>by rw[V1,K0,tK c acc,n0,P1,N6,x9]
theorem EX{α:Type}:∀(cs acc:List (List α)),(DQ acc cs).length=acc.length * oZ cs
 | [],acc=>by simp[DQ,oZ]
 | c :: cs,acc=>by rw[DQ,EX cs,tK,oZ,u7]
noncomputable def rng(s:Int):List Int:=(O0 s.toNat).map λ(n:Nat)=>(n:Int)
theorem xW(s:Int):vQ 0 s.toNat=(rng s).map q0:=by simp[vQ,rng,R0,Function.comp_def]
theorem xJ(s:Int):(rng s).length=s.toNat:=by simp[rng]
noncomputable def hX(sd:List Int):List (List Int):=DQ [[]] (sd.map rng)
theorem pJ:∀{sd:List Int},(∀c∈sd,1<=c)->(oZ (sd.map rng):Int)=prodI sd
 | [],_=>rfl
 | a :: r,h=>by
  have h1:=h a B0
  have h2:=pJ (sd:=r) λc hc=>h c (u0 _ hc)
  show ((((rng a).length * oZ (r.map rng):Nat)):Int)=a * prodI r
  rw[xJ,E7,h2]
  congr 1
  omega
section
variable {P:Program}{w:World}{K:A0}{mg:Str->Option Value}{base:Heap}
noncomputable def XD:Con:=λargs Q=>∃d,args=[.fz d]/\(∀es,d≠.dict es)/\∀o,Q (.fz (.bool (match d with | .int _=>true|_=>false))) o
theorem W9:FnScope ["_law_thing"] ["_law_thing"] (cQ (top 29)):=⟨rfl,rfl,rfl,by decide +kernel,rfl,by decide +kernel,by decide +kernel⟩
theorem Zw{f:Addr}{fd:FuncData}(F:Fun K "_law_is_whole" "_law_is_whole" (top 29) f fd)(T:Txt mg):FnOk P w K mg base BZ 1 f fd ["_law_thing"] (eQ K XD):=by
 have S:=W9
 refine TJ F S (λcdv A outer s H E hr=>(qQ (TQ (NB (bw .int rfl T.isinstance_ T.int_ boot_int (wn 0)) (MB (w_not (bw .bl rfl T.isinstance_ T.bool_ boot_bool (wn 0)))))))) ?_ ?_
 ·rintro args Qd ⟨d,rfl,_⟩;rfl
 ·rintro args Qd ⟨d,rfl,hd,q⟩
  refine ⟨uQ rfl,?_⟩
  cases d with
  | dict es=>exact (hd es rfl).elim
  | int i=>exact q _
  | bool b=>exact q _
  | none=>exact q _
  | str x=>exact q _
  | list xs=>exact q _
  | tuple xs=>exact q _
noncomputable def zY:Con:=λargs Q=>∃sd:List Int,(args=[.fz (oQ sd)]\/args=[.fz (.list (sd.map q0))])/\(∀c∈sd,1<=c)/\prodI sd<=1000/\sd.length<=3/\∀o,Q (.ow (.list ((hX sd).map oQ))) o
theorem bv:FnScope ["_law_sides_here","_law_found","_law_side","_law_longer","_law_place"] ["_law_sides_here"] (cQ (top 28)):=⟨rfl,rfl,rfl,by decide +kernel,rfl,by decide +kernel,by decide +kernel⟩
theorem Oj{f:Addr}{fd:FuncData}(F:Fun K "_law_places" "_law_places" (top 28) f fd)(T:Txt mg):FnOk P w K mg base BZ 1 f fd ["_law_sides_here"] (eQ K zY):=by
 have S:=bv
 refine TJ F S (λcdv A outer s H E hr=>(fQ (zQ (i:=1) S.nd rfl (Or.inl rfl) (tX (aQ (wx (lX bQ)) bQ)))
     (fQ (MX [2,3,4] PassesOwn.never rfl (qX rfl (wv 0)) (lQ (i:=2) S.nd rfl (Or.inl rfl)) (fQ (zQ (i:=3) S.nd rfl (Or.inl rfl) (tX bQ))
     (fQ (MX [4] PassesOwn.never rfl (qX rfl (wv 1)) (lQ (i:=4) S.nd rfl (Or.inr rfl)) (qQ (zQ (i:=3) S.nd rfl (Or.inl rfl) (w_bin QQ EQ (wn 3) (wx (zX rfl (own:=["_law_number_here"]) (fr:=[4]) (by kernel_rfl) (IJ T.range_ (aQ (wn 2) bQ)) (λ_ _ _ _=>(lQ (i:=0) (by decide +kernel:G2 (["_law_number_here","_law_place"]:List Str)) rfl (Or.inl rfl))) (λ_ _ _ _=>uH) (λ_ _ _ _=>(w_bin QQ EQ (wn 1) (wx (lX (aQ (wx (wv 0)) bQ)))))))))))
     (qQ (gw (i:=1) S.nd rfl (Or.inl rfl) (wn 3))))))
     (qQ (JJ (wn 1)))))) ?_ ?_
 ·rintro args Qd ⟨sd,rfl|rfl,_⟩<;>rfl
 ·rintro args Qd ⟨sd,ha,hp,hm,h3,q⟩
  have main:∀(d0:PyData) (E:DE),E.nx [some (.fz d0),some (.ow (.list ((hX sd).map oQ))),none,none,none]->LZ [2,3,4] (Vy 2)
    (YY (jU 3 (lU [] Oq)) (YY (Rq [4] (XG (FG 1)) (Vy 4) (jU 3 (QZ [Sum.inl 3,Sum.inr (HJ (mU (Sum.inl 2)) ["_law_number_here"] [4] (Vy 0) HG (QZ [Sum.inl 1,Sum.inr (lU [Sum.inr (FG 0)] VG)] (o2 yE)))] (o2 yE)))) (IG 1 3)))
    E (sd.map q0) [some (.fz d0),some (.ow (.list [.tuple []])),none,none,none]:=by
   intro d0 E hE
   refine BX (λrest ρ=>∃(acc:List (List Int)) (rs:List Int),ρ=[some (.fz d0),some (.ow (.list (acc.map oQ))),none,none,none]/\rest=rs.map q0/\(∀c∈rs,1<=c)/\DQ acc (rs.map rng)=hX sd/\(∀p∈acc,p.length+rs.length<=3)) ?_ ?_
    ⟨[[]],sd,rfl,rfl,hp,rfl,λp hp=>by simp at hp;subst hp;simpa using h3⟩
   ·rintro d ds ρ ⟨acc,rs,rfl,er,hr1,hacc,hl3⟩ N hN
    cases rs with
    | nil=>cases er
    | cons a rs =>
     cases er
     have ha1:=hr1 a B0
     have hr2:∀c∈rs,1<=c:=λc hc=>hr1 c (u0 _ hc)
     have hlp:=wW (cs:=rs.map rng) λc hc=>by
      obtain⟨x,hx,rfl⟩:=M0.mp hc
      intro z
      have:=congrArg E4 z
      rw[xJ]at this
      have:=hr2 x hx
      simp at *
      omega
     have htot:(acc.flatMap λp=>(rng a).map λx=>p++[x]).length<=1000:=by
      have h1:=EX (rs.map rng) (acc.flatMap λp=>(rng a).map λx=>p++[x])
      have h2:(DQ (acc.flatMap λp=>(rng a).map λx=>p++[x]) (rs.map rng))=hX sd:=hacc
      rw[h2]at h1
      have h3:=EX (sd.map rng) [[]]
      have h4:=pJ hp
      unfold hX at h1
      have:(acc.flatMap λp=>(rng a).map λx=>p++[x]).length<=(acc.flatMap λp=>(rng a).map λx=>p++[x]).length * oZ (rs.map rng):=v8 _ hlp
      simp only[Q1,M6]at h3
      omega
     refine BX (λrest ρ=>∃(lg rp:List (List Int)),ρ=[some (.fz d0),some (.fz (.list (acc.map oQ))),some (.fz (.int a)),some (.ow (.list (lg.map oQ))),none]/\rest=rp.map oQ/\(lg++rp.flatMap λp=>(rng a).map λx=>p++[x])=(acc.flatMap λp=>(rng a).map λx=>p++[x])/\(∀p∈rp,p∈acc)) ?_ ?_
      ⟨[],acc,rfl,rfl,rfl,λp hp=>hp⟩
     ·rintro d ds ρ ⟨lg,rp,rfl,er,he,hin⟩ M hM
      cases rp with
      | nil=>cases er
      | cons p rp =>
       cases er
       have hpl:=hl3 p (hin p B0)
       have hl5:lg.length+(rng a).length<=1000:=by
        have:=congrArg E4 he
        rw[K0,V1,K0,n0]at this
        omega
       have hra:a.toNat<=1000:=by rw[xJ]at hl5;omega
       refine ⟨by omega,by omega,by rw[vQ,n0,G3];exact FQ hra,kK (λd=>.tuple (p.map q0++[d])) ?_ ?_⟩
       ·rintro d hd R hR
        exact ⟨by simp only[n0,Q1];simp at hpl;exact FQ (by omega),hR⟩
       ·refine ⟨by rw[n0,n0,vQ,n0,G3];rw[xJ]at hl5;exact FQ (by omega),?_⟩
        refine hM _ ⟨lg++(rng a).map λx=>p++[x],rp,?_,rfl,by rw[K2,<- he,V1],λp' hp'=>hin p' (u0 _ hp')⟩
        have e1:(lg.map oQ)++((vQ 0 a.toNat).map λd=>J2 (p.map q0++[d]))=(lg++(rng a).map λx=>p++[x]).map oQ:=by
         rw[xW,S2,R0,R0]
         congr 1
         refine W2 λx _=>?_
         simp[oQ]
        rw[<- e1];rfl
     ·rintro ρ ⟨lg,rp,rfl,er,he,hin⟩
      cases rp with
      | cons p rp=>cases er
      | nil =>
       rw[t7,X1]at he
       refine hN _ ⟨acc.flatMap λp=>(rng a).map λx=>p++[x],rs,?_,rfl,hr2,hacc,λp hp=>?_⟩
       ·rw[he];rfl
       ·obtain⟨p',hp',hx⟩:=K3.mp hp
        obtain⟨x,_,rfl⟩:=M0.mp hx
        have:=hl3 p' hp'
        simp at this ⊢
        omega
   ·rintro ρ ⟨acc,rs,rfl,er,hr1,hacc,hl3⟩
    cases rs with
    | cons a rs=>cases er
    | nil =>
     have hacc:acc=hX sd:=hacc
     rw[hacc]
     exact hE
  rcases ha with rfl|rfl
  ·exact ⟨uQ rfl,main (oQ sd) _ (q _)⟩
  ·exact ⟨uQ rfl,main (.list (sd.map q0)) _ (q _)⟩
end
theorem MK{α β:Type}(f:α->β):∀(cs acc:List (List α)),(DQ acc cs).map (M4 f)=DQ (acc.map (M4 f)) (cs.map (M4 f))
 | [],acc=>rfl
 | c :: cs,acc=>by
  show (DQ (acc.flatMap λp=>c.map λx=>p++[x]) cs).map (M4 f)=DQ ((acc.map (M4 f)).flatMap λp=>(c.map f).map λx=>p++[x]) (cs.map (M4 f))
  rw[MK f cs]
  congr 1
  rw[o8,j6]
  congr 1
  funext p
  simp[R0,Function.comp_def]
section
variable {P:Program}{w:World}{K:A0}{mg:Str->Option Value}{base:Heap}
noncomputable def kz:Con:=λargs Q=>∃cs:List (List PyData),args=[.fz (.list (cs.map X2))]/\(∀c∈cs,c≠[])/\oZ cs<=1000/\cs.length<=1000/\∀o,Q (.ow (.list ((DQ [[]] cs).map J2))) o
theorem UI:FnScope ["choices","chosen","things","longer","ahead","thing"] ["choices"] (cQ (top 1)):=⟨rfl,rfl,rfl,by decide +kernel,rfl,by decide +kernel,by decide +kernel⟩
theorem X9{f:Addr}{fd:FuncData}(F:Fun K "one_of_each" "one_of_each" (top 1) f fd):FnOk P w K mg base BZ 1 f fd ["choices"] (eQ K kz):=by
 have S:=UI
 refine TJ F S (λcdv A outer s H E hr=>(fQ (zQ (i:=1) S.nd rfl (Or.inl rfl) (tX (aQ (wx (lX bQ)) bQ)))
     (fQ (MX [2,3,4] PassesOwn.never rfl (qX rfl (wv 0)) (lQ (i:=2) S.nd rfl (Or.inl rfl)) (fQ (zQ (i:=3) S.nd rfl (Or.inl rfl) (tX bQ))
     (fQ (MX [4,5] PassesOwn.never rfl (qX rfl (wv 1)) (lQ (i:=4) S.nd rfl (Or.inl rfl)) (qQ (MX [5] PassesOwn.never rfl (qX rfl (wv 2)) (lQ (i:=5) S.nd rfl (Or.inl rfl)) (qQ (lJ (qI DZ rfl PySem.F.slot_list_append PySem.F.type_list_append eZ (wn 3) (aQ (wx (w_bin QQ EQ (wn 4) (wx (lX (aQ (wx (wv 5)) bQ))))) bQ)))))))
     (qQ (gw (i:=1) S.nd rfl (Or.inl rfl) (wn 3))))))
     (qQ (JJ (wn 1)))))) ?_ ?_
 ·rintro args Qd ⟨cs,rfl,_⟩;rfl
 ·rintro args Qd ⟨cs,rfl,hne,hlen,hcl,q⟩
  refine ⟨uQ rfl,?_⟩
  refine BX (λrest ρ=>∃(acc rs:List (List PyData)),ρ=[some (.fz (.list (cs.map X2))),some (.ow (.list (acc.map J2))),none,none,none,none]/\rest=rs.map X2/\(∀c∈rs,c≠[])/\acc.length * oZ rs=oZ cs/\DQ acc rs=DQ [[]] cs/\(∀p∈acc,p.length+rs.length<=1000)) ?_ ?_
   ⟨[[]],cs,rfl,rfl,hne,by simp,rfl,λp hp=>by simp at hp;subst hp;simpa using hcl⟩
  ·rintro d ds ρ ⟨acc,rs,rfl,er,hne',hln,hacc,hpl⟩ N hN
   cases rs with
   | nil=>cases er
   | cons c rs =>
    cases er
    have hr2:∀c∈rs,c≠[]:=λc hc=>hne' c (u0 _ hc)
    have hlp:=wW hr2
    have htot:(acc.flatMap λp=>c.map λx=>p++[x]).length<=1000:=by
     rw[tK]
     have h1:acc.length * (c.length * oZ rs)=oZ cs:=hln
     rw[<- u7]at h1
     have:acc.length * c.length<=acc.length * c.length * oZ rs:=v8 _ hlp
     omega
    refine BX (λrest ρ=>∃(lg rp:List (List PyData)),ρ=[some (.fz (.list (cs.map X2))),some (.fz (.list (acc.map J2))),some (.fz (.list c)),some (.ow (.list (lg.map J2))),none,none]/\rest=rp.map J2/\(lg++rp.flatMap λp=>c.map λx=>p++[x])=(acc.flatMap λp=>c.map λx=>p++[x])/\(∀p∈rp,p∈acc)) ?_ ?_
     ⟨[],acc,rfl,rfl,rfl,λp hp=>hp⟩
    ·rintro d ds ρ ⟨lg,rp,rfl,er,he,hin⟩ M hM
     cases rp with
     | nil=>cases er
     | cons p rp =>
      cases er
      have hp1:=hpl p (hin p B0)
      have hl5:lg.length+c.length<=1000:=by
       have:=congrArg E4 he
       rw[K0,V1,K0,n0]at this
       omega
      refine BX (λrest ρ=>∃(pre:List PyData),c=pre++rest/\ρ=[some (.fz (.list (cs.map X2))),some (.fz (.list (acc.map J2))),some (.fz (.list c)),some (.ow (.list ((lg++pre.map λx=>p++[x]).map J2))),some (.fz (.tuple p)),none]) ?_ ?_
       ⟨[],rfl,by simp;rfl⟩
      ·rintro x ds' ρ ⟨pre,hc,rfl⟩ L hL
       refine ⟨by simp at hp1 ⊢;exact FQ (by omega),by rw[n0,K0,n0];have:=congrArg E4 hc;simp at this;exact N0 (show _ < 1000 by omega) (by decide),?_⟩
       refine hL _ ⟨pre++[x],by rw[hc];simp,?_⟩
       have e1:((lg++pre.map λx=>p++[x]).map J2)++[J2 (p++[x])]=((lg++(pre++[x]).map λx=>p++[x]).map J2):=by simp
       rw[<- e1];rfl
      ·rintro ρ ⟨pre,hc,rfl⟩
       rw[X1]at hc
       subst hc
       exact hM _ ⟨lg++c.map λx=>p++[x],rp,rfl,rfl,by rw[K2,<- he,V1],λp' hp'=>hin p' (u0 _ hp')⟩
    ·rintro ρ ⟨lg,rp,rfl,er,he,hin⟩
     cases rp with
     | cons p rp=>cases er
     | nil =>
      rw[t7,X1]at he
      refine hN _ ⟨acc.flatMap λp=>c.map λx=>p++[x],rs,by rw[he];rfl,rfl,hr2,?_,hacc,λp hp=>?_⟩
      ·rw[tK,u7];exact hln
      ·obtain⟨p',hp',hx⟩:=K3.mp hp
       obtain⟨x,_,rfl⟩:=M0.mp hx
       have:=hpl p' hp'
       simp at this ⊢
       omega
  ·rintro ρ ⟨acc,rs,rfl,er,hne',hln,hacc,hpl⟩
   cases rs with
   | cons a rs=>cases er
   | nil =>
    have hacc:acc=DQ [[]] cs:=hacc
    rw[hacc]
    exact q _
end
theorem FX(a b:List Int):eY (a.map q0) (b.map q0)=(a.zip b).map λp=>J2 [.int p.1,.int p.2]:=by
 rw[eY,y8,R0];rfl
noncomputable def SX(a b:Int):List Int:=(O0 (b+1 - a).toNat).map λ(n:Nat)=>a+(n:Int)
theorem wF(a b:Int):vQ a (b+1 - a).toNat=(SX a b).map q0:=by simp[vQ,SX,R0,Function.comp_def]
theorem NK(s:Int):SX 0 (s - 1)=rng s:=by
 unfold SX rng
 rw[show s - 1+1 - 0=s by omega]
 simp
noncomputable def vH(low high:List Int):List (List Int):=DQ [[]] ((low.zip high).map λp=>SX p.1 p.2)
section
variable {P:Program}{w:World}{K:A0}{mg:Str->Option Value}{base:Heap}
structure CalsE(P:Program)(w:World)(K:A0)(mg:Str->Option Value)(base:Heap):Prop where
 one_of_each:Cal P w K mg base 1 "one_of_each" ["choices"] (eQ K kz)
noncomputable def Y9:Con:=λargs Q=>∃low high:List Int,args=[.fz (oQ low),.fz (oQ high)]/\low.length=high.length/\low.length<=3/\(∀p∈low.zip high,0<=p.1/\p.1<=p.2/\p.2<=1000)/\oZ ((low.zip high).map λp=>SX p.1 p.2)<=1000/\∀o,Q (.ow (.list ((vH low high).map oQ))) o
theorem mN:FnScope ["low","high"] ["low","high"] (cQ (top 2)):=⟨rfl,rfl,rfl,by decide +kernel,rfl,by decide +kernel,by decide +kernel⟩
theorem VI{f:Addr}{fd:FuncData}(F:Fun K "places_between" "places_between" (top 2) f fd)(T:Txt mg)(C:CalsE P w K mg base):FnOk P w K mg base BZ 2 f fd ["low","high"] (eQ K Y9):=by
 have S:=mN
 refine TJ F S (λcdv A outer s H E hr=>(qQ (TQ (GX C.one_of_each (hr.mono (by first|decide|omega)) (aQ (wx (zX rfl (own:=["first","last"]) (fr:=[]) (by kernel_rfl) (sU rfl T.zip_ (aQ (wn 0) (aQ (wn 1) bQ))) (λ_ _ _ _=>(kJ rfl rfl (JQ (lQ (i:=0) (by decide +kernel:G2 (["first","last"]:List Str)) rfl (Or.inl rfl)) (JQ (lQ (i:=1) (by decide +kernel:G2 (["first","last"]:List Str)) rfl (Or.inl rfl)) mZ)))) (λ_ _ _ _=>uH) (λ_ _ _ _=>(MO rfl T.list_ T.range_ (aQ (wn 0) (aQ (wx (w_bin QQ EQ (wn 1) (wx iQ))) bQ)))))) bQ))))) ?_ ?_
 ·rintro args Qd ⟨low,high,rfl,_⟩;rfl
 ·rintro args Qd ⟨low,high,rfl,hl,h3,hb,hlen,q⟩
  refine ⟨uQ rfl,?_⟩
  have hz:(eY (low.map q0) (high.map q0)).length<=sizeLine:=by rw[FX,n0,O5];exact FQ (by omega)
  refine ⟨hz,kK (λd=>match d with | .tuple [.int a,.int b]=>.list (vQ a (b+1 - a).toNat)|_=>.none) ?_ ?_⟩
  ·intro d hd N hN
   rw[FX]at hd
   obtain⟨⟨a,b⟩,hp,rfl⟩:=M0.mp hd
   have hab:=hb _ hp
   simp only at hab
   exact ⟨rfl,⟨by omega,by omega,by omega,by omega⟩,by omega,hN⟩
  ·have e1:(eY (low.map q0) (high.map q0)).map (λd=>match d with | .tuple [.int a,.int b]=>X2 (vQ a (b+1 - a).toNat)|_=>.none)=(((low.zip high).map λp=>SX p.1 p.2).map (M4 q0)).map X2:=by
    rw[FX,R0,R0,R0]
    refine W2 λp _=>?_
    simp[wF]
   rw[e1]
   have hl2:oZ (((low.zip high).map λp=>SX p.1 p.2).map (M4 q0))=oZ ((low.zip high).map λp=>SX p.1 p.2):=by
    generalize (low.zip high).map (λp=>SX p.1 p.2)=cs
    induction cs with
    | nil=>rfl
    | cons c cs ih=>simp[oZ,ih]
   refine ⟨((low.zip high).map λp=>SX p.1 p.2).map (M4 q0),rfl,?_,by rw[hl2];exact hlen,by simp;omega,λo=>?_⟩
   ·intro c hc
    obtain⟨c',hc',rfl⟩:=M0.mp hc
    obtain⟨p,hp,rfl⟩:=M0.mp hc'
    have:=hb p hp
    intro z
    have:=congrArg E4 z
    simp[SX]at this
    omega
   ·have e2:(DQ [[]] (((low.zip high).map λp=>SX p.1 p.2).map (M4 q0))).map J2=(vH low high).map oQ:=by
     have:=MK q0 ((low.zip high).map λp=>SX p.1 p.2) [[]]
     simp only[E1,W4]at this
     rw[<- this,R0];rfl
    rw[e2]
    exact q _
noncomputable def YD:Con:=λargs Q=>∃sd:List Int,args=[.fz (oQ sd)]/\sd.length<=1000/\∀o,Q (.fz (oQ (sd.map λ_=>0))) o
theorem Z9:FnScope ["sides"] ["sides"] (cQ (top 5)):=⟨rfl,rfl,rfl,by decide +kernel,rfl,by decide +kernel,by decide +kernel⟩
theorem cv{f:Addr}{fd:FuncData}(F:Fun K "first_place" "first_place" (top 5) f fd)(T:Txt mg):FnOk P w K mg base BZ 1 f fd ["sides"] (eQ K YD):=by
 have S:=Z9
 refine TJ F S (λcdv A outer s H E hr=>(qQ (TQ (vZ kZ (rX (K:=K) rfl) T.tuple_ boot_tuple (aQ (wx (zX rfl (own:=["side"]) (fr:=[]) (by kernel_rfl) (qX rfl (wv 0)) (λ_ _ _ _=>(lQ (i:=0) (by decide +kernel:G2 (["side"]:List Str)) rfl (Or.inl rfl))) (λ_ _ _ _=>uH) (λ_ _ _ _=>iQ))) bQ))))) ?_ ?_
 ·rintro args Qd ⟨sd,rfl,_⟩;rfl
 ·rintro args Qd ⟨sd,rfl,hl,q⟩
  refine ⟨uQ rfl,?_⟩
  refine ⟨by rw[n0];exact FQ hl,kK (λ_=>.int 0) (λd hd N hN=>hN) ?_⟩
  have e:(sd.map q0).map (λ_=>q0 0)=(sd.map λ_=>0).map q0:=by simp[R0,Function.comp_def]
  rw[e]
  exact q _
noncomputable def lz:Con:=λargs Q=>∃sd:List Int,args=[.fz (oQ sd)]/\sd.length<=1000/\∀o,Q (.fz (oQ (sd.map λs=>s - 1))) o
theorem XI:FnScope ["sides"] ["sides"] (cQ (top 6)):=⟨rfl,rfl,rfl,by decide +kernel,rfl,by decide +kernel,by decide +kernel⟩
theorem aB{f:Addr}{fd:FuncData}(F:Fun K "last_place" "last_place" (top 6) f fd)(T:Txt mg):FnOk P w K mg base BZ 1 f fd ["sides"] (eQ K lz):=by
 have S:=XI
 refine TJ F S (λcdv A outer s H E hr=>(qQ (TQ (vZ kZ (rX (K:=K) rfl) T.tuple_ boot_tuple (aQ (wx (zX rfl (own:=["side"]) (fr:=[]) (by kernel_rfl) (qX rfl (wv 0)) (λ_ _ _ _=>(lQ (i:=0) (by decide +kernel:G2 (["side"]:List Str)) rfl (Or.inl rfl))) (λ_ _ _ _=>uH) (λ_ _ _ _=>(w_bin lZ iZ (wn 0) (wx iQ))))) bQ))))) ?_ ?_
 ·rintro args Qd ⟨sd,rfl,_⟩;rfl
 ·rintro args Qd ⟨sd,rfl,hl,q⟩
  refine ⟨uQ rfl,?_⟩
  refine ⟨by rw[n0];exact FQ hl,kK (λd=>match d with | .int i=>.int (i - 1)|_=>.none) (λd hd N hN=>?_) ?_⟩
  ·obtain⟨i,_,rfl⟩:=M0.mp hd
   exact hN
  ·refine Eq.mpr (congrArg (λz=>Qd (.fz (.tuple z)) _) ?_) (q _)
   simp[R0,Function.comp_def]
structure CalsF(P:Program)(w:World)(K:A0)(mg:Str->Option Value)(base:Heap):Prop where
 places_between:Cal P w K mg base 2 "places_between" ["low","high"] (eQ K Y9)
 first_place:Cal P w K mg base 1 "first_place" ["sides"] (eQ K YD)
 last_place:Cal P w K mg base 1 "last_place" ["sides"] (eQ K lz)
theorem yW:∀sd:List Int,((sd.map λ_=>(0:Int)).zip (sd.map λs=>s - 1))=sd.map λs=>(0,s - 1)
 | []=>rfl
 | a :: r=>by simp[yW r]
theorem pZ:∀{sd:List Int},(∀c∈sd,1<=c)->∀c∈sd,c<=prodI sd
 | a :: r,h,c,hc=>by
  have h1:=h a B0
  have hr:∀c∈r,1<=c:=λc hc=>h c (u0 _ hc)
  have h2:=RX hr
  show c<=a * prodI r
  rcases U1.mp hc with rfl|hc
  ·have:=Z2 h2 (show (0:Int)<=c by omega);omega
  ·have h3:=pZ hr c hc
   have:=V4 h1 (show (0:Int)<=prodI r by omega);omega
noncomputable def QJ:Con:=λargs Q=>∃sd:List Int,args=[.fz (oQ sd)]/\S0 sd/\∀o,Q (.ow (.list ((hX sd).map oQ))) o
theorem xF:FnScope ["sides"] ["sides"] (cQ (top 7)):=⟨rfl,rfl,rfl,by decide +kernel,rfl,by decide +kernel,by decide +kernel⟩
theorem CU{f:Addr}{fd:FuncData}(F:Fun K "all_places" "all_places" (top 7) f fd)(C:CalsF P w K mg base):FnOk P w K mg base BZ 3 f fd ["sides"] (eQ K QJ):=by
 have S:=xF
 refine TJ F S (λcdv A outer s H E hr=>(qQ (TQ (GX C.places_between (hr.mono (by first|decide|omega)) (aQ (wx (GX C.first_place (hr.mono (by first|decide|omega)) (aQ (wn 0) bQ))) (aQ (wx (GX C.last_place (hr.mono (by first|decide|omega)) (aQ (wn 0) bQ))) bQ)))))) ?_ ?_
 ·rintro args Qd ⟨sd,rfl,_⟩;rfl
 ·rintro args Qd ⟨sd,rfl,hsd,q⟩
  have h3:=hsd.l3
  refine ⟨uQ rfl,?_⟩
  refine ⟨sd,rfl,by omega,λo1=>?_⟩
  refine ⟨sd,rfl,by omega,λo2=>?_⟩
  have e:((sd.map λ_=>(0:Int)).zip (sd.map λs=>s - 1)).map (λp=>SX p.1 p.2)=sd.map rng:=by
   rw[yW,R0]
   exact W2 λs _=>NK s
  refine ⟨sd.map λ_=>0,sd.map λs=>s - 1,rfl,by simp,by simpa using h3,λp hp=>?_,?_,λo3=>?_⟩
  ·rw[yW]at hp
   obtain⟨s,hs,rfl⟩:=M0.mp hp
   have h1:=hsd.p s hs
   have h2:=pZ hsd.p s hs
   have:=hsd.m
   exact ⟨by show (0:Int)<=0;decide,by show (0:Int)<=s - 1;omega,by show s - 1<=1000;omega⟩
  ·rw[e]
   have h1:=pJ hsd.p
   have:=hsd.m
   omega
  ·unfold vH
   rw[e]
   exact q _
end
section
variable {P:Program}{w:World}{K:A0}{mg:Str->Option Value}{base:Heap}
noncomputable def qZ(sd pl:List Int):Int:=(sd.zip pl).foldl (λi p=>i * p.1+p.2) 0
noncomputable def ZD:Con:=λargs Q=>∃sd pl:List Int,args=[.fz (oQ sd),.fz (oQ pl)]/\sd.length<=1000/\(∀s∈sd,0<=s/\s < 2 ^ 64)/\∀o,Q (.fz (.int (qZ sd pl))) o
theorem bB:FnScope ["sides","place","index","side","number"] ["sides","place"] (cQ (top 3)):=⟨rfl,rfl,rfl,by decide +kernel,rfl,by decide +kernel,by decide +kernel⟩
theorem gv{f:Addr}{fd:FuncData}(F:Fun K "index_of" "index_of" (top 3) f fd)(T:Txt mg):FnOk P w K mg base BZ 1 f fd ["sides","place"] (eQ K ZD):=by
 have S:=bB
 refine TJ F S (λcdv A outer s H E hr=>(fQ (zQ (i:=2) S.nd rfl (Or.inl rfl) iQ)
     (fQ (MX [3,4] PassesOwn.never rfl (sU rfl T.zip_ (aQ (wn 0) (aQ (wn 1) bQ))) (kJ rfl rfl (JQ (lQ (i:=3) S.nd rfl (Or.inl rfl)) (JQ (lQ (i:=4) S.nd rfl (Or.inl rfl)) mZ))) (qQ (zQ (i:=2) S.nd rfl (Or.inl rfl) (w_bin QQ EQ (wx (w_bin LX pX (wn 2) (wn 3))) (wn 4)))))
     (qQ (JJ (wn 2)))))) ?_ ?_
 ·rintro args Qd ⟨sd,pl,rfl,_⟩;rfl
 ·rintro args Qd ⟨sd,pl,rfl,hl,hs,q⟩
  refine ⟨uQ rfl,?_⟩
  refine BX (λrest ρ=>∃(i:Int) (rs:List (Int×Int)),ρ=[some (.fz (oQ sd)),some (.fz (oQ pl)),some (.fz (.int i)),none,none]/\rest=rs.map (λp=>J2 [.int p.1,.int p.2])/\(∀p∈rs,p∈sd.zip pl)/\rs.foldl (λi p=>i * p.1+p.2) i=qZ sd pl) ?_ ?_
   ⟨0,sd.zip pl,rfl,FX _ _,λ_ h=>h,rfl⟩
  ·rintro d ds ρ ⟨i,rs,rfl,er,hin,hf⟩ N hN
   cases rs with
   | nil=>cases er
   | cons p rs =>
    cases er
    have hp:=hs p.1 (j5 (hin p B0)).1
    exact ⟨rfl,.inr ⟨by omega,by omega⟩,hN _ ⟨i * p.1+p.2,rs,rfl,rfl,λx hx=>hin x (u0 _ hx),hf⟩⟩
  ·rintro ρ ⟨i,rs,rfl,er,hin,hf⟩
   cases rs with
   | nil =>
    have hf:i=qZ sd pl:=hf
    subst hf
    exact q _
   | cons _ _=>cases er
noncomputable abbrev cV(p:Int×Int):PyData:=.tuple [.int p.1,.int p.2]
noncomputable def ZX(a b:Int):List (Int×Int):=if a=0 then [(b,1)] else [(a - 1,-1),(b,1)]
noncomputable def DU:Con:=λargs Q=>∃a b:Int,args=[.fz (.int a),.fz (.int b)]/\∀o,Q (.ow (.list ((ZX a b).map cV))) o
theorem jv:FnScope ["first","last"] ["first","last"] (cQ (top 13)):=⟨rfl,rfl,rfl,by decide +kernel,rfl,by decide +kernel,by decide +kernel⟩
theorem Pj{f:Addr}{fd:FuncData}(F:Fun K "corner_numbers" "corner_numbers" (top 13) f fd)(T:Txt mg):FnOk P w K mg base BZ 1 f fd ["first","last"] (eQ K DU):=by
 have S:=jv
 refine TJ F S (λcdv A outer s H E hr=>(fQ (KJ (YX UK (jJ (K:=K) rfl hr.units) (wn 0) (wx iQ)) (qQ (TQ (tX (aQ (wx (lX (aQ (wx (wv 1)) (aQ (wx iQ) bQ)))) bQ)))) nZ)
     (qQ (TQ (tX (aQ (wx (lX (aQ (wx (w_bin lZ iZ (wn 0) (wx iQ))) (aQ (wx (Zk (wx iQ))) bQ)))) (aQ (wx (lX (aQ (wx (wv 1)) (aQ (wx iQ) bQ)))) bQ))))))) ?_ ?_
 ·rintro args Qd ⟨a,b,rfl,_⟩;rfl
 ·rintro args Qd ⟨a,b,rfl,q⟩
  refine ⟨uQ rfl,?_⟩
  refine wZ (λh=>?_) (λh=>?_)
  ·have h0:a=0:=by simpa using h
   have:=q
   simp only[ZX,if_pos h0]at this
   exact this _
  ·have h0:a≠0:=by simpa using h
   have:=q
   simp only[ZX,if_neg h0]at this
   exact this _
end
section
variable {P:Program}{w:World}{K:A0}{mg:Str->Option Value}{base:Heap}
noncomputable def qJ(cs:List (Int×Int)):Int:=cs.foldl (λs p=>s * p.2) 1
noncomputable abbrev gC(cs:List (Int×Int)):PyData:=.tuple [.int (qJ cs),oQ (cs.map (·.1))]
noncomputable def nN:PyData->PyData
 | .tuple [x,_]=>x
 | _=>.none
noncomputable def EU:Con:=λargs Q=>∃cs:List (Int×Int),args=[.fz (.tuple (cs.map cV))]/\cs.length<=1000/\(∀p∈cs,-1<=p.2/\p.2<=1)/\∀o,Q (.fz (gC cs)) o
theorem lv:FnScope ["chosen","sign","pair"] ["chosen"] (cQ (top 14)):=⟨rfl,rfl,rfl,by decide +kernel,rfl,by decide +kernel,by decide +kernel⟩
theorem Qj{f:Addr}{fd:FuncData}(F:Fun K "signed_place" "signed_place" (top 14) f fd)(T:Txt mg):FnOk P w K mg base BZ 1 f fd ["chosen"] (eQ K EU):=by
 have S:=lv
 refine TJ F S (λcdv A outer s H E hr=>(fQ (zQ (i:=1) S.nd rfl (Or.inl rfl) iQ)
     (fQ (MX [2] PassesOwn.never rfl (qX rfl (wv 0)) (lQ (i:=2) S.nd rfl (Or.inl rfl)) (qQ (zQ (i:=1) S.nd rfl (Or.inl rfl) (w_bin LX pX (wn 1) (wx (WX rfl (wn 2) (wx iQ)))))))
     (qQ (TQ (lX (aQ (wx (wv 1)) (aQ (wx (vZ kZ (rX (K:=K) rfl) T.tuple_ boot_tuple (aQ (wx (zX rfl (own:=["pair"]) (fr:=[]) (by kernel_rfl) (qX rfl (wv 0)) (λ_ _ _ _=>(lQ (i:=0) (by decide +kernel:G2 (["pair"]:List Str)) rfl (Or.inl rfl))) (λ_ _ _ _=>uH) (λ_ _ _ _=>(WX rfl (wn 0) (wx iQ))))) bQ))) bQ)))))))) ?_ ?_
 ·rintro args Qd ⟨cs,rfl,_⟩;rfl
 ·rintro args Qd ⟨cs,rfl,hl,hs,q⟩
  refine ⟨uQ rfl,?_⟩
  refine BX (λrest ρ=>∃(i:Int) (rs:List (Int×Int)),ρ=[some (.fz (.tuple (cs.map cV))),some (.fz (.int i)),none]/\rest=rs.map cV/\(∀p∈rs,p∈cs)/\rs.foldl (λs p=>s * p.2) i=qJ cs) ?_ ?_
   ⟨1,cs,rfl,rfl,λ_ h=>h,rfl⟩
  ·rintro d ds ρ ⟨i,rs,rfl,er,hin,hf⟩ N hN
   cases rs with
   | nil=>cases er
   | cons p rs =>
    cases er
    have hp:=hs p (hin p B0)
    exact ⟨.int p.2,rfl,.inr ⟨by omega,by omega⟩,hN _ ⟨i * p.2,rs,rfl,rfl,λx hx=>hin x (u0 _ hx),hf⟩⟩
  ·rintro ρ ⟨i,rs,rfl,er,hin,hf⟩
   cases rs with
   | nil =>
    have hf:i=qJ cs:=hf
    subst hf
    refine ⟨by rw[n0];exact FQ hl,kK nN ?_ ?_⟩
    ·intro d hd N hN
     obtain⟨p,hp,rfl⟩:=M0.mp hd
     exact ⟨.int p.1,rfl,hN⟩
    ·have e:(cs.map cV).map nN=(cs.map (·.1)).map q0:=by rw[R0,R0];rfl
     rw[e]
     exact q _
   | cons _ _=>cases er
end
section
variable {P:Program}{w:World}{K:A0}{mg:Str->Option Value}{base:Heap}
structure CalsR(P:Program)(w:World)(K:A0)(mg:Str->Option Value)(base:Heap):Prop where
 one_of_each:Cal P w K mg base 1 "one_of_each" ["choices"] (eQ K kz)
 corner_numbers:Cal P w K mg base 1 "corner_numbers" ["first","last"] (eQ K DU)
 signed_place:Cal P w K mg base 1 "signed_place" ["chosen"] (eQ K EU)
noncomputable def mz(lo hi:List Int):List (List (Int×Int)):=DQ [[]] ((lo.zip hi).map λp=>ZX p.1 p.2)
theorem nz(a b:Int):∀p∈ZX a b,-1<=p.2/\p.2<=1:=by
 unfold ZX
 split<;>intro p hp<;>simp at hp
 ·subst hp;simp
 ·rcases hp with rfl|rfl<;>simp
theorem YI(a b:Int):ZX a b≠[]:=by unfold ZX;split<;>simp
theorem oz(a b:Int):(ZX a b).length<=2:=by unfold ZX;split<;>simp
noncomputable def zW:Con:=λargs Q=>∃sd lo hi:List Int,args=[.fz (oQ sd),.fz (.tuple [oQ lo,oQ hi])]/\lo.length=hi.length/\lo.length<=3/\∀o,Q (.ow (.list ((mz lo hi).map gC))) o
theorem FU{α:Type}:∀{cs acc:List (List α)}{P:α->Prop},(∀c∈cs,∀x∈c,P x)->(∀p∈acc,∀x∈p,P x)->∀p∈DQ acc cs,∀x∈p,P x
 | [],acc,P,_,ha=>ha
 | c :: cs,acc,P,hc,ha=>by
  refine FU (cs:=cs) (λc' h=>hc c' (u0 _ h)) ?_
  intro p hp x hx
  obtain⟨q,hq,hp⟩:=K3.mp hp
  obtain⟨y,hy,rfl⟩:=M0.mp hp
  rcases Q2.mp hx with h|h
  ·exact ha q hq x h
  ·rw[P2.mp h];exact hc c B0 y hy
theorem yF{α:Type}:∀{cs acc:List (List α)}{n:Nat},(∀p∈acc,p.length=n)->∀p∈DQ acc cs,p.length=n+cs.length
 | [],acc,n,ha=>λp hp=>by simpa using ha p hp
 | c :: cs,acc,n,ha=>λp hp=>by
  have:=yF (cs:=cs) (acc:=acc.flatMap λp=>c.map λx=>p++[x]) (n:=n+1) (λp hp=>by
    obtain⟨q,hq,hp⟩:=K3.mp hp
    obtain⟨y,hy,rfl⟩:=M0.mp hp
    simp[ha q hq]) p hp
  simp only[P1]
  omega
noncomputable def oN:PyData->PyData
 | .tuple [.int a,.int b]=>.list ((ZX a b).map cV)
 | _=>.none
noncomputable def MP:PyData->Int×Int
 | .tuple [.int a,.int b]=>(a,b)
 | _=>(0,0)
theorem pz(cs:List (Int×Int)):(cs.map cV).map MP=cs:=by
 rw[R0]
 exact M9 cs
noncomputable def yL:PyData->PyData
 | .tuple ds=>gC (ds.map MP)
 | _=>.none
theorem AW{α:Type}:∀{cs:List (List α)},(∀c∈cs,c.length<=2)->oZ cs<=2 ^ cs.length
 | [],_=>by simp[oZ]
 | c :: cs,h=>by
  have h1:=h c B0
  have h2:=AW (cs:=cs) λc' hc=>h c' (u0 _ hc)
  simp only[oZ,P1,Nat.pow_succ]
  calc c.length * oZ cs<=2 * 2 ^ cs.length:=T8 h1 h2
   _=2 ^ cs.length * 2:=Q3 _ _
theorem Rj:FnScope ["sides","box","choices"] ["sides","box"] (cQ (top 12)):=⟨rfl,rfl,rfl,by decide +kernel,rfl,by decide +kernel,by decide +kernel⟩
theorem aq{f:Addr}{fd:FuncData}(F:Fun K "corners" "corners" (top 12) f fd)(T:Txt mg)(C:CalsR P w K mg base):FnOk P w K mg base BZ 2 f fd ["sides","box"] (eQ K zW):=by
 have S:=Rj
 refine TJ F S (λcdv A outer s H E hr=>(fQ (tU (i:=2) S.nd rfl rfl rfl (own:=["first","last"]) (fr:=[]) (by kernel_rfl) (sU rfl T.zip_ (aQ (wx (WX rfl (wn 1) (wx iQ))) (aQ (wx (WX rfl (wn 1) (wx iQ))) bQ))) (λ_ _ _ _=>(kJ rfl rfl (JQ (lQ (i:=0) (by decide +kernel:G2 (["first","last"]:List Str)) rfl (Or.inl rfl)) (JQ (lQ (i:=1) (by decide +kernel:G2 (["first","last"]:List Str)) rfl (Or.inl rfl)) mZ)))) (λ_ _ _ _=>uH) (λ_ _ _ _=>(GX C.corner_numbers (hr.mono (by first|decide|omega)) (aQ (wn 0) (aQ (wn 1) bQ)))))
     (qQ (TQ (zX rfl (own:=["chosen"]) (fr:=[]) (by kernel_rfl) (qX rfl (GX C.one_of_each (hr.mono (by first|decide|omega)) (aQ (wx (wv 2)) bQ))) (λ_ _ _ _=>(lQ (i:=0) (by decide +kernel:G2 (["chosen"]:List Str)) rfl (Or.inl rfl))) (λ_ _ _ _=>uH) (λ_ _ _ _=>(GX C.signed_place (hr.mono (by first|decide|omega)) (aQ (wn 0) bQ)))))))) ?_ ?_
 ·rintro args Qd ⟨sd,lo,hi,rfl,_⟩;rfl
 ·rintro args Qd ⟨sd,lo,hi,rfl,hl,h3,q⟩
  refine ⟨uQ rfl,?_⟩
  have hz:(eY (lo.map q0) (hi.map q0)).length<=sizeLine:=by rw[FX,n0,O5];exact FQ (by omega)
  refine ⟨oQ lo,rfl,oQ hi,rfl,hz,kK oN ?_ ?_⟩
  ·intro d hd N hN
   rw[FX]at hd
   obtain⟨⟨a,b⟩,hp,rfl⟩:=M0.mp hd
   exact ⟨rfl,a,b,rfl,λo=>hN⟩
  ·have e1:(eY (lo.map q0) (hi.map q0)).map oN=(((lo.zip hi).map λp=>ZX p.1 p.2).map (M4 cV)).map X2:=by
    rw[FX,R0,R0,R0]
    rfl
   rw[e1]
   have hin:∀c∈((lo.zip hi).map λp=>ZX p.1 p.2).map (M4 cV),∃p:Int×Int,c=(ZX p.1 p.2).map cV:=λc hc=>by
    obtain⟨c',hc',rfl⟩:=M0.mp hc
    obtain⟨p,_,rfl⟩:=M0.mp hc'
    exact ⟨p,rfl⟩
   have hlen:oZ (((lo.zip hi).map λp=>ZX p.1 p.2).map (M4 cV))<=1000:=by
    have h1:=AW (cs:=((lo.zip hi).map λp=>ZX p.1 p.2).map (M4 cV)) λc hc=>by
     obtain⟨p,rfl⟩:=hin c hc
     rw[n0];exact oz _ _
    have h2:(((lo.zip hi).map λp=>ZX p.1 p.2).map (M4 cV)).length<=3:=by simp;omega
    have h3:=Z8 (n:=2) (by decide) h2
    omega
   refine ⟨((lo.zip hi).map λp=>ZX p.1 p.2).map (M4 cV),rfl,?_,hlen,by simp;omega,λo=>?_⟩
   ·intro c hc z
    obtain⟨p,rfl⟩:=hin c hc
    exact YI _ _ (List.map_eq_nil_iff.mp z)
   have e2:DQ [[]] (((lo.zip hi).map λp=>ZX p.1 p.2).map (M4 cV))=(mz lo hi).map (M4 cV):=by
    have:=MK cV ((lo.zip hi).map λp=>ZX p.1 p.2) [[]]
    simp only[E1,W4]at this
    exact this.symm
   have hcl:(mz lo hi).length<=1000:=by
    have h1:=EX (((lo.zip hi).map λp=>ZX p.1 p.2).map (M4 cV)) [[]]
    rw[e2,n0]at h1
    simp only[Q1,M6]at h1
    omega
   rw[e2]
   refine ⟨by rw[n0,n0];exact FQ hcl,kK yL ?_ ?_⟩
   ·intro d hd N hN
    obtain⟨d',hd',rfl⟩:=M0.mp hd
    obtain⟨cs,hcs,rfl⟩:=M0.mp hd'
    have h1:∀p∈cs,-1<=p.2/\p.2<=1:=FU (P:=λp:Int×Int=>-1<=p.2/\p.2<=1) (λc hc x hx=>by
      obtain⟨p,_,rfl⟩:=M0.mp hc
      exact nz _ _ x hx) (λp hp x hx=>by simp at hp;subst hp;simp at hx) cs hcs
    have h2:cs.length<=1000:=by
     have:=yF (n:=0) (λp hp=>by simp at hp;subst hp;rfl) cs hcs
     simp at this
     omega
    have h3:yL (.tuple (cs.map cV))=gC cs:=by rw[yL,pz]
    rw[h3]at hN
    exact ⟨cs,rfl,h2,h1,λo=>hN⟩
   ·have e3:(((mz lo hi).map (M4 cV)).map J2).map yL=(mz lo hi).map gC:=by
     rw[R0,R0]
     refine W2 λcs _=>?_
     show yL (.tuple (cs.map cV))=gC cs
     rw[yL,pz]
    rw[e3]
    exact q _
end
section
variable {P:Program}{w:World}{K:A0}{mg:Str->Option Value}{base:Heap}
structure CalsS(P:Program)(w:World)(K:A0)(mg:Str->Option Value)(base:Heap):Prop where
 index_of:Cal P w K mg base 1 "index_of" ["sides","place"] (eQ K ZD)
 corners:Cal P w K mg base 2 "corners" ["sides","box"] (eQ K zW)
noncomputable def nv(cl:List Int)(i:Int):Int:=(SJ cl i).getD 0
noncomputable def unI:PyData->Int
 | .int i=>i
 | _=>0
theorem AY(ns:List Int):(ns.map q0).map unI=ns:=by
 rw[R0];exact M9 ns
noncomputable def gP(sd cl:List Int):PyData->PyData
 | .tuple [.int s,.tuple ds]=>.int (s * nv cl (qZ sd (ds.map unI)))
 | _=>.none
noncomputable def pN(sd cl lo hi:List Int):Int:=((mz lo hi).map λcs=>qJ cs * nv cl (qZ sd (cs.map (·.1)))).sum
theorem qv(sd cl:List Int)(cs:List (Int×Int)):gP sd cl (gC cs)=.int (qJ cs * nv cl (qZ sd (cs.map (·.1)))):=by
 show q0 (qJ cs * nv cl (qZ sd (((cs.map (·.1)).map q0).map unI)))=_
 rw[AY]
theorem qN{cs:List (Int×Int)}(h:∀p∈cs,-1<=p.2/\p.2<=1):-1<=qJ cs/\qJ cs<=1:=by
 have gen:∀(l:List (Int×Int)) (s:Int),(∀p∈l,-1<=p.2/\p.2<=1)->-1<=s/\s<=1->-1<=l.foldl (λs p=>s * p.2) s/\l.foldl (λs p=>s * p.2) s<=1:=by
  intro l
  induction l with
  | nil=>intro s _ hs;exact hs
  | cons p l ih =>
   intro s hl hs
   refine ih _ (λq hq=>hl q (u0 _ hq)) ?_
   have hp:=hl p B0
   have:p.2=-1\/p.2=0\/p.2=1:=by omega
   show -1<=s * p.2/\s * p.2<=1
   rcases this with e|e|e<;>rw[e]<;>omega
 exact gen cs 1 h (by decide)
theorem cB{lo hi:List Int}{cs:List (Int×Int)}(h:cs∈mz lo hi):∀p∈cs,-1<=p.2/\p.2<=1 :=
 FU (P:=λp:Int×Int=>-1<=p.2/\p.2<=1) (λc hc x hx=>by
   obtain⟨p,_,rfl⟩:=M0.mp hc
   exact nz _ _ x hx) (λp hp x hx=>by simp at hp;subst hp;simp at hx) cs h
theorem dB(lo hi:List Int)(hl:lo.length=hi.length)(h3:lo.length<=3):(mz lo hi).length<=1000:=by
 have h1:=EX ((lo.zip hi).map λp=>ZX p.1 p.2) [[]]
 have h2:=AW (cs:=(lo.zip hi).map λp=>ZX p.1 p.2) λc hc=>by
  obtain⟨p,_,rfl⟩:=M0.mp hc
  exact oz _ _
 have h4:((lo.zip hi).map λp=>ZX p.1 p.2).length<=3:=by simp;omega
 have h5:=Z8 (n:=2) (by decide) h4
 simp only[Q1,M6]at h1
 unfold mz
 omega
noncomputable def NP(cl:List Int)(d:PyData):Prop:=d=oQ cl\/d=.list (cl.map q0)
noncomputable def ZI:Con:=λargs Q=>∃(sd cl lo hi:List Int) (d:PyData),args=[.fz (oQ sd),.fz d,.fz (.tuple [oQ lo,oQ hi])]/\NP cl d/\lo.length=hi.length/\lo.length<=3/\sd.length<=1000/\(∀s∈sd,0<=s/\s < 2 ^ 64) /\
 (∀cs∈mz lo hi,(SJ cl (qZ sd (cs.map (·.1)))).isSome=true)/\∀o,Q (.fz (.int (pN sd cl lo hi))) o
theorem rN:FnScope ["sides","table","box"] ["sides","table","box"] (cQ (top 15)):=⟨rfl,rfl,rfl,by decide +kernel,rfl,by decide +kernel,by decide +kernel⟩
theorem aL{f:Addr}{fd:FuncData}(F:Fun K "sum_by_running" "sum_by_running" (top 15) f fd)(T:Txt mg)(C:CalsS P w K mg base):FnOk P w K mg base BZ 3 f fd ["sides","table","box"] (eQ K ZI):=by
 have S:=rN
 refine TJ F S (λcdv A outer s H E hr=>(qQ (TQ (CQ Tk (AV (K:=K) rfl rfl) T.sum_ boot_sum (aQ (wx (zX rfl (own:=["sign","place"]) (fr:=[1,0]) (by kernel_rfl) (qX rfl (GX C.corners (hr.mono (by first|decide|omega)) (aQ (wn 0) (aQ (wn 2) bQ)))) (λ_ _ _ _=>(kJ rfl rfl (JQ (lQ (i:=0) (by decide +kernel:G2 (["sign","place","table","sides"]:List Str)) rfl (Or.inl rfl)) (JQ (lQ (i:=1) (by decide +kernel:G2 (["sign","place","table","sides"]:List Str)) rfl (Or.inl rfl)) mZ)))) (λ_ _ _ _=>uH) (λ_ _ _ _=>(w_bin LX pX (wn 0) (wx (WX rfl (wn 2) (wx (GX C.index_of (hr.mono (by first|decide|omega)) (aQ (wn 3) (aQ (wn 1) bQ)))))))))) bQ))))) ?_ ?_
 ·rintro args Qd ⟨sd,cl,lo,hi,d,rfl,_⟩;rfl
 ·rintro args Qd ⟨sd,cl,lo,hi,d,rfl,hdd,hl,h3,hsd,hs,hix,q⟩
  refine ⟨uQ rfl,?_⟩
  refine ⟨sd,lo,hi,rfl,hl,h3,λo=>⟨by rw[n0];exact FQ (dB lo hi hl h3),kK (gP sd cl) ?_ ?_⟩⟩
  ·intro d hd N hN
   obtain⟨cs,hcs,rfl⟩:=M0.mp hd
   obtain⟨v,hv⟩:=g8.mp (hix cs hcs)
   have hb:=qN (cB hcs)
   rw[qv,show nv cl (qZ sd (cs.map (·.1)))=v by rw[nv,hv];rfl]at hN
   rcases hdd with rfl|rfl
   all_goals exact ⟨rfl,sd,cs.map (·.1),rfl,hsd,hs,λo=>⟨.int v,Nq q0 hv,.inl ⟨by omega,by omega⟩,hN⟩⟩
  ·have e3:((mz lo hi).map gC).map (gP sd cl)=((mz lo hi).map λcs=>qJ cs * nv cl (qZ sd (cs.map (·.1)))).map q0:=by
    rw[R0,R0]
    exact W2 λcs _=>qv sd cl cs
   rw[e3]
   exact ⟨_,rfl,q _⟩
end
noncomputable def iC{α:Type}:List α->List (List α)->Prop
 | [],[]=>True
 | x :: xs,c :: cs=>x∈c/\iC xs cs
 | _,_=>False
theorem zF{α:Type}:∀{cs acc:List (List α)}{p:List α},p∈DQ acc cs->∃a∈acc,∃q,p=a++q/\iC q cs
 | [],acc,p,h=>⟨p,h,[],by simp,trivial⟩
 | c :: cs,acc,p,h=>by
  obtain⟨a',ha',q,rfl,hq⟩:=zF (cs:=cs) h
  obtain⟨a,ha,hb⟩:=K3.mp ha'
  obtain⟨x,hx,rfl⟩:=M0.mp hb
  exact ⟨a,ha,x :: q,by simp,hx,hq⟩
theorem MV{α:Type}{cs:List (List α)}{p:List α}(h:p∈DQ [[]] cs):iC p cs:=by
 obtain⟨a,ha,q,rfl,hq⟩:=zF h
 simp at ha
 subst ha
 exact hq
theorem qz{x s:Int}(h:x∈rng s):0<=x/\x < s:=by
 unfold rng at h
 obtain⟨n,hn,rfl⟩:=M0.mp h
 have:=D3.mp hn
 omega
noncomputable def Wi:List Int->List Int->Prop
 | [],[]=>True
 | x :: xs,s :: ss=>(0<=x/\x < s)/\Wi xs ss
 | _,_=>False
theorem rJ{sd p:List Int}(hm:p∈hX sd):Wi p sd:=by
 have h:=MV hm
 clear hm
 induction sd generalizing p with
 | nil=>cases p with
  | nil=>trivial
  | cons _ _=>exact h.elim
 | cons s ss ih=>cases p with
  | nil=>exact h.elim
  | cons x xs=>exact ⟨qz h.1,ih h.2⟩
theorem bq:∀{sd p:List Int}{cs:List (Int×Int)},Wi p sd->iC cs ((p.zip p).map λq=>ZX q.1 q.2)->Wi (cs.map (·.1)) sd
 | [],[],[],_,_=>trivial
 | [],[],_ :: _,_,h=>h.elim
 | [],_ :: _,_,h,_=>h.elim
 | _ :: _,[],_,h,_=>h.elim
 | _ :: _,_ :: _,[],_,h=>h.elim
 | s :: ss,x :: xs,c :: cs,h,k=>by
  refine ⟨?_,bq h.2 k.2⟩
  have h1:=h.1
  have k1:c∈ZX x x:=k.1
  unfold ZX at k1
  split at k1<;>simp at k1
  ·subst k1;exact h1
  ·rcases k1 with rfl|rfl
   ·show 0<=x - 1/\x - 1 < s;omega
   ·exact h1
theorem jC:∀{sd pl:List Int}{i m:Int},Wi pl sd->0<=i->i < m->0<=(sd.zip pl).foldl (λi p=>i * p.1+p.2) i/\(sd.zip pl).foldl (λi p=>i * p.1+p.2) i < m * prodI sd
 | [],[],i,m,_,h0,h1=>by simp[prodI];omega
 | [],_ :: _,_,_,h,_,_=>h.elim
 | _ :: _,[],_,_,h,_,_=>h.elim
 | s :: ss,x :: xs,i,m,h,h0,h1=>by
  have hx:=h.1
  have hs:0<=s:=by omega
  have e1:0<=i * s:=Int.mul_nonneg h0 hs
  have e2:i * s<=(m - 1) * s:=V4 (by omega) hs
  rw[Int.sub_mul,G4]at e2
  have:=jC (sd:=ss) (pl:=xs) (i:=i * s+x) (m:=m * s) h.2 (by omega) (by omega)
  rw[L4]at this
  exact this
theorem eB{cl:List Int}{i:Int}(h0:0<=i)(h1:i < cl.length):(SJ cl i).isSome=true:=by
 have:i.toNat < cl.length:=by omega
 unfold SJ SF
 simp[h0,h1,this]
theorem yJ{sd:List Int}(hp:∀c∈sd,1<=c):((hX sd).length:Int)=prodI sd:=by
 rw[hX,EX,<- pJ hp]
 simp
theorem BW:∀{p sd:List Int},Wi p sd->p.length=sd.length
 | [],[],_=>rfl
 | [],_ :: _,h=>h.elim
 | _ :: _,[],h=>h.elim
 | _ :: _,_ :: _,h=>by simp[BW h.2]
noncomputable def W{α:Type}:List (List α)->(List α->Int)->Int
 | [],g=>g []
 | c :: cs,g=>(c.map λx=>W cs λq=>g (x :: q)).sum
theorem AF{α β:Type}(f:β->Int)(h:α->List β):∀l:List α,((l.flatMap h).map f).sum=(l.map λa=>((h a).map f).sum).sum
 | []=>rfl
 | a :: l=>by simp[AF f h l]
theorem BF{α:Type}:∀(cs acc:List (List α)) (g:List α->Int),((DQ acc cs).map g).sum=(acc.map λa=>W cs λq=>g (a++q)).sum
 | [],acc,g=>by simp[DQ,W]
 | c :: cs,acc,g=>by
  rw[DQ,BF cs,AF]
  congr 1
  refine W2 λa _=>?_
  rw[R0,W]
  congr 1
  refine W2 λx _=>?_
  show (W cs λq=>g ((a++[x])++q))=W cs λq=>g (a++x :: q)
  congr 1
  funext q
  simp
theorem NV{α:Type}(cs:List (List α))(g:List α->Int):((DQ [[]] cs).map g).sum=W cs g:=by
 rw[BF];simp
theorem tz{α:Type}(e:Int):∀(cs:List (List α)) (g:List α->Int),(W cs λq=>e * g q)=e * W cs g
 | [],g=>rfl
 | c :: cs,g=>by
  have hs:∀(l:List α) (f:α->Int),(l.map λx=>e * f x).sum=e * (l.map f).sum:=by
   intro l f
   induction l with
   | nil=>simp
   | cons a l ih=>simp[ih,Int.mul_add]
  simp only[W]
  rw[<- hs]
  congr 1
  exact W2 λx _=>tz e cs λq=>g (x :: q)
theorem CW:∀(l:List (Int×Int)) (s:Int),l.foldl (λs p=>s * p.2) s=s * qJ l
 | [],s=>by simp[qJ]
 | p :: l,s=>by
  have h1:=CW l (s * p.2)
  have h2:=CW l (1 * p.2)
  unfold qJ at *
  simp only[P3]
  rw[h1,h2,G4,L4]
theorem CF(p:Int×Int)(l:List (Int×Int)):qJ (p :: l)=p.2 * qJ l:=by
 have:=CW l (1 * p.2)
 rw[G4]at this
 unfold qJ
 simp only[P3,G4]
 exact this
noncomputable def iP(l:List Int):Int:=1 - 2 * (l.sum % 2)
theorem zL(l:List Int):iP (0 :: l)=iP l:=by simp[iP]
theorem cq{α:Type}:∀(cs:List (List α)),(W cs λ_=>(0:Int))=0
 | []=>rfl
 | c :: cs=>by
  simp only[W,cq cs]
  induction c with
  | nil=>rfl
  | cons a c ih=>simpa using ih
theorem kC{α:Type}:∀(cs:List (List α)) (f g:List α->Int),(W cs λq=>f q+g q)=W cs f+W cs g
 | [],f,g=>rfl
 | c :: cs,f,g=>by
  simp only[W,kC cs]
  induction c with
  | nil=>rfl
  | cons a c ih=>simp only[E1,V5,ih];omega
theorem bL{s:Int}{j:Nat}{x:Int}(h:(rng s)[j]?=some x):x=j/\(j:Int) < s:=by
 unfold rng at h
 rw[D1,W3]at h
 obtain⟨n,hn,rfl⟩:=h
 rw[J1]at hn
 obtain⟨h1,h2⟩:=hn
 simp at h1 h2
 omega
theorem uz{s:Int}(hs:1<=s):∀{acc:List (List Int)}{j':Nat}{a':List Int},(acc.flatMap λp=>(rng s).map λx=>p++[x])[j']?=some a' ->
  ∃(j:Nat) (a:List Int) (x:Int),acc[j]?=some a/\a'=a++[x]/\(0<=x/\x < s)/\(j':Int)=j * s+x
 | [],j',a',h=>by simp at h
 | a :: acc,j',a',h=>by
  rw[V1]at h
  rcases A9 j' ((rng s).map λx=>a++[x]).length with g|g
  ·rw[E2 g,D1,W3]at h
   obtain⟨x,hx,rfl⟩:=h
   obtain⟨rfl,h2⟩:=bL hx
   exact ⟨0,a,_,rfl,rfl,⟨by omega,h2⟩,by simp⟩
  ·rw[T1 g]at h
   obtain⟨j,b,x,h1,h2,h3,h4⟩:=uz hs h
   rw[n0,xJ]at g h4
   refine ⟨j+1,b,x,h1,h2,h3,?_⟩
   rw[show ((j+1:Nat):Int)=(j:Int)+1 by omega,Int.add_mul,G4]
   omega
theorem vz:∀{sd:List Int}{acc:List (List Int)}{k:Nat}{p:List Int},(∀c∈sd,1<=c)->(DQ acc (sd.map rng))[k]?=some p ->
  ∃(j:Nat) (a q:List Int),acc[j]?=some a/\p=a++q/\Wi q sd/\(sd.zip q).foldl (λi p=>i * p.1+p.2) (j:Int)=k
 | [],acc,k,p,_,h=>⟨k,p,[],h,by simp,trivial,rfl⟩
 | s :: ss,acc,k,p,hp,h=>by
  obtain⟨j',a',q',h1,h2,h3,h4⟩:=vz (sd:=ss) (λc hc=>hp c (u0 _ hc)) h
  obtain⟨j,a,x,g1,g2,g3,g4⟩:=uz (hp s B0) h1
  refine ⟨j,a,x :: q',g1,by rw[h2,g2];simp,⟨g3,h3⟩,?_⟩
  rw[g4]at h4
  exact h4
theorem cL{sd:List Int}(hp:∀c∈sd,1<=c){k:Nat}{p:List Int}(h:(hX sd)[k]?=some p):Wi p sd/\qZ sd p=k:=by
 obtain⟨j,a,q,h1,h2,h3,h4⟩:=vz hp h
 have hj:j=0:=by
  rcases j with _|j
  ·rfl
  ·simp at h1
 subst hj
 simp at h1
 subst h1
 simp at h2
 subst h2
 exact ⟨h3,h4⟩
theorem BY{α:Type}:∀(cs:List (List α)) {f g:List α->Int},(∀q,iC q cs->f q=g q)->W cs f=W cs g
 | [],f,g,h=>h [] trivial
 | c :: cs,f,g,h=>by
  show (c.map λx=>W cs λq=>f (x :: q)).sum=(c.map λx=>W cs λq=>g (x :: q)).sum
  congr 1
  exact W2 λx hx=>BY cs λq hq=>h (x :: q) ⟨hx,hq⟩
theorem DW:∀{sd p:List Int} (i:Int),Wi p sd->(sd.zip p).foldl (λi q=>i * q.1+q.2) i=i * prodI sd+qZ sd p
 | [],[],i,_=>by simp[qZ,prodI]
 | [],_ :: _,_,h=>h.elim
 | _ :: _,[],_,h=>h.elim
 | s :: sd,x :: p,i,h=>by
  have h1:=DW (sd:=sd) (p:=p) (i * s+x) h.2
  have h2:=DW (sd:=sd) (p:=p) (0 * s+x) h.2
  show (sd.zip p).foldl _ (i * s+x)=i * (s * prodI sd)+(sd.zip p).foldl _ (0 * s+x)
  rw[h1,h2,A8,x8,Int.add_mul,L4]
  omega
theorem sv{s x:Int}{sd p:List Int}(h:Wi p sd):qZ (s :: sd) (x :: p)=x * prodI sd+qZ sd p:=by
 have:=DW (sd:=sd) (p:=p) (0 * s+x) h
 show (sd.zip p).foldl _ (0 * s+x)=_
 rw[this,A8,x8]
theorem GU{sd p:List Int}(h:Wi p sd):0<=qZ sd p/\qZ sd p < prodI sd:=by
 have:=jC h (U7 0) (by decide:(0:Int) < 1)
 rw[G4]at this
 exact this
theorem uK:∀l:List Int,RM.prodI l=prodI l
 | []=>rfl
 | a :: r=>by show a * RM.prodI r=a * prodI r;rw[uK r]
theorem prodN_I{l:List Int}(h:∀c∈l,1<=c):prodI l=(RM.prodN l:Int):=by rw[<- uK];exact RM.prodN_I h
theorem OV{s x:Int}{sd p:List Int}(hp:∀c∈sd,1<=c)(h:Wi p sd)(hx:0<=x):(qZ (s :: sd) (x :: p)).toNat=x.toNat * RM.prodN sd+(qZ sd p).toNat/\(qZ sd p).toNat < RM.prodN sd:=by
 have h1:=GU h
 have h2:=prodN_I hp
 obtain⟨n,rfl⟩:=K4 hx
 rw[sv h,h2]
 have e:((n:Int) * (RM.prodN sd:Int))=((n * RM.prodN sd:Nat):Int):=by rw[E7]
 rw[e]
 constructor
 ·show (((n * RM.prodN sd:Nat):Int)+qZ sd p).toNat=n * RM.prodN sd+(qZ sd p).toNat
  omega
 ·omega
theorem lC:∀{sd p:List Int},(∀c∈sd,1<=c)->Wi p sd->∀F:Nat->Int,(W ((p.zip p).map λq=>ZX q.1 q.2) λcs=>qJ cs * F (qZ sd (cs.map (·.1))).toNat)=RM.dif sd F (qZ sd p).toNat
 | [],[],_,_,F=>by simp[W,qJ,RM.dif,qZ]
 | [],_ :: _,_,h,_=>h.elim
 | _ :: _,[],_,h,_=>h.elim
 | s :: sd,x :: p,hp,h,F=>by
  have hp':∀c∈sd,1<=c:=λc hc=>hp c (u0 _ hc)
  have hx:=h.1
  have hR:=RM.prodN_pos hp'
  obtain⟨k1,k2⟩:=OV (s:=s) hp' h.2 hx.1
  have one:∀(y e:Int),0<=y->(W ((p.zip p).map λq=>ZX q.1 q.2) λcs=>qJ ((y,e) :: cs) * F (qZ (s :: sd) (((y,e) :: cs).map (·.1))).toNat)=e * RM.dif sd (λk'=>F (y.toNat * RM.prodN sd+k')) (qZ sd p).toNat:=by
   intro y e hy
   rw[<- lC hp' h.2 λk'=>F (y.toNat * RM.prodN sd+k'),<- tz]
   refine BY _ λcs hcs=>?_
   have hw:=bq h.2 hcs
   rw[CF,L4]
   show e * (qJ cs * F (qZ (s :: sd) (y :: cs.map (·.1))).toNat)=_
   rw[(OV (s:=s) hp' hw hy).1]
  have e1:(qZ (s :: sd) (x :: p)).toNat / RM.prodN sd=x.toNat:=by rw[k1,Q3,Nat.mul_add_div (by omega),i6 k2,A6]
  have e2:(qZ (s :: sd) (x :: p)).toNat % RM.prodN sd=(qZ sd p).toNat:=by rw[k1,Q3,Nat.mul_add_mod,B5 k2]
  show ((ZX x x).map λc=>W ((p.zip p).map λq=>ZX q.1 q.2) λcs=>qJ (c :: cs) * F (qZ (s :: sd) ((c :: cs).map (·.1))).toNat).sum=RM.dif sd (λk'=>F ((qZ (s :: sd) (x :: p)).toNat / RM.prodN sd * RM.prodN sd+k')) ((qZ (s :: sd) (x :: p)).toNat % RM.prodN sd) - (if (qZ (s :: sd) (x :: p)).toNat / RM.prodN sd=0 then 0 else RM.dif sd (λk'=>F (((qZ (s :: sd) (x :: p)).toNat / RM.prodN sd - 1) * RM.prodN sd+k')) ((qZ (s :: sd) (x :: p)).toNat % RM.prodN sd))
  rw[e1,e2]
  by_cases h0:x=0
  ·rw[ZX,if_pos h0,if_pos (by omega)]
   show (W ((p.zip p).map λq=>ZX q.1 q.2) λcs=>qJ ((x,1) :: cs) * F (qZ (s :: sd) (((x,1) :: cs).map (·.1))).toNat)+0=_
   rw[one x 1 hx.1,G4]
   omega
  ·rw[ZX,if_neg h0,if_neg (by omega)]
   show (W ((p.zip p).map λq=>ZX q.1 q.2) λcs=>qJ ((x - 1,-1) :: cs) * F (qZ (s :: sd) (((x - 1,-1) :: cs).map (·.1))).toNat)+((W ((p.zip p).map λq=>ZX q.1 q.2) λcs=>qJ ((x,1) :: cs) * F (qZ (s :: sd) (((x,1) :: cs).map (·.1))).toNat)+0)=_
   rw[one x 1 hx.1,one (x - 1) (-1) (by omega),G4,show (x - 1).toNat=x.toNat - 1 by omega]
   omega
theorem uv{cl:List Int}{i:Int}(h:0<=i):nv cl i=cl.getD i.toNat 0:=by
 obtain⟨n,rfl⟩:=K4 h
 rw[nv,j4,L1]
 congr 1
 by_cases hn:n < cl.length
 ·rw[mY (L0 hn),L0 hn]
 ·rw[Q8 (by omega)]
  unfold SJ SF
  simp[hn]
theorem fB{sd cl p:List Int}(hp:∀c∈sd,1<=c)(h:Wi p sd):pN sd cl p p=RM.dif sd (λi=>cl.getD i 0) (qZ sd p).toNat:=by
 rw[pN,mz,NV,<- lC hp h λi=>cl.getD i 0]
 refine BY _ λcs hcs=>?_
 rw[uv (GU (bq h hcs)).1]
noncomputable def lO(sd cl:List Int):List Int:=(O0 (RM.prodN sd)).map λk=>RM.dif sd (λi=>cl.getD i 0) k
noncomputable def DF(sd cl:List Int):List Int:=(O0 (RM.prodN sd)).map λk=>RM.pre sd (λi=>cl.getD i 0) k
theorem sJ{sd:List Int}(hp:∀c∈sd,1<=c):(hX sd).length=RM.prodN sd:=by
 have h1:=yJ hp
 rw[prodN_I hp]at h1
 omega
theorem EW{n:Nat}{f:Nat->Int}{k:Nat}(h:k < n):((O0 n).map f).getD k 0=f k:=by
 rw[L1,D1,i9 h]
 rfl
theorem sN{sd cl:List Int}(hp:∀c∈sd,1<=c)(hl:cl.length=RM.prodN sd):lO sd (DF sd cl)=cl:=by
 refine o7 (by simp[lO,hl]) λk h1 h2=>?_
 simp only[lO,List.getElem_map,v9]
 have hk:k < RM.prodN sd:=by omega
 rw[RM.dif_congr sd hp (f:=λi=>(DF sd cl).getD i 0) (g:=RM.pre sd λi=>cl.getD i 0) k hk λi hi=>EW hi,RM.dif_pre sd hp _ k hk,L1,L0 h2]
 rfl
theorem vv(sd:List Int):hX sd=RM.placesOf sd:=by
 have gen:∀(sd:List Int) (acc:List (List Int)),DQ acc (sd.map rng)=sd.foldl RM.stepP acc:=by
  intro sd
  induction sd with
  | nil=>intro acc;rfl
  | cons a r ih =>
   intro acc
   show DQ (acc.flatMap λp=>(rng a).map λx=>p++[x]) (r.map rng)=r.foldl RM.stepP (RM.stepP acc a)
   rw[ih]
   congr 1
   unfold RM.stepP
   congr 1
   funext p
   simp[rng,RM.rowP]
 exact gen sd [[]]
theorem PV{sd cl:List Int}(hp:∀c∈sd,1<=c)(hl:cl.length=RM.prodN sd):RM.runProg sd.reverse 1 cl=DF sd cl:=by
 refine o7 (by rw[RM.runProg_len];simp[DF,hl]) λk h1 h2=>?_
 have hk:k < RM.prodN sd:=by rw[RM.runProg_len]at h1;omega
 have e1:=RM.prog_val sd hp cl 1 (by rw[hl,M6]) k (by omega)
 rw[L1,L0 h1,T3,i6 hk,B5 hk]at e1
 rw[e1]
 simp only[DF,List.getElem_map,v9]
 exact RM.pre_congrU sd k λi=>by rw[N7,P5]
theorem zv{sd cl:List Int}(hp:∀c∈sd,1<=c)(hl:cl.length=RM.prodN sd):RM.runOf sd cl=DF sd cl:=by
 rw[<- PV hp hl,RM.runEq hp (by rw[hl,<- sJ hp,vv])]
open PySem PySem.Spec L2 L3 PyProof.Rows
section
variable {P:Program}{w:World}{K:A0}{mg:Str->Option Value}{base:Heap}
theorem CY{xs:List Int}{i:Nat}(h:i < xs.length):SJ (xs.map q0) (i:Int)=some (.int (xs.getD i 0)):=by
 refine mY ?_
 rw[D1,L0 h,L1,L0 h]
 rfl
theorem dL{n i:Nat}(h:i < n):SF n (i:Int)=some i:=by
 unfold SF
 simp
 omega
noncomputable def fL:Con:=λargs Q=>∃(xs:List Int) (side step:Int),args=[.io (.list (xs.map q0)),.fz (.int side),.fz (.int step)]/\xs.length<=1000/\1<=side/\side<=1000/\1<=step/\step<=1000 /\
 ∀o,Q (.fz .none) (some (.io (.list ((RM.addAlong side step xs).map q0))) :: o)
theorem tN:FnScope ["table","side","step","index"] ["table","side","step"] (cQ (top 11)):=⟨rfl,rfl,rfl,by decide +kernel,rfl,by decide +kernel,by decide +kernel⟩
theorem gB{f:Addr}{fd:FuncData}(F:Fun K "add_along" "add_along" (top 11) f fd)(T:Txt mg):FnOk P w K mg base BZ 1 f fd ["table","side","step"] (eQ K fL):=by
 have S:=tN
 refine TJ F S (λcdv A outer s H E hr=>(qQ (MX [3] PassesOwn.never rfl (fw T.range_ (aQ (wn 2) (aQ (wx (CQ QX (SQ (K:=K) rfl) T.len_ PySem.boot_len (aQ (wn 0) bQ))) bQ))) (lQ (i:=3) S.nd rfl (Or.inl rfl)) (qQ (KJ (YX IB CB (wx (w_bin iJ VZ (wx (w_bin tY jY (wn 3) (wn 2))) (wn 1))) (wx iQ)) (qQ (OO (w_bin QQ EQ (wx (WX rfl (wn 0) (wn 3))) (wx (WX rfl (wn 0) (wx (w_bin lZ iZ (wn 3) (wn 2)))))) (wn 0) (wn 3))) nZ))))) ?_ ?_
 ·rintro args Qd ⟨xs,side,step,rfl,_⟩;rfl
 ·rintro args Qd ⟨xs,side,step,rfl,hx,a1,a2,b1,b2,q⟩
  refine ⟨uQ rfl,?_⟩
  have hst:((step.toNat:Nat):Int)=step:=K7 (by omega)
  refine ⟨⟨by omega,by omega,by rw[n0];omega,by rw[n0];omega⟩,?_⟩
  refine BX (λrest ρ=>∃(j m:Nat),ρ=[some (.io (.list ((RM.addN side step xs j).map q0))),some (.fz (.int side)),some (.fz (.int step)),none]/\rest=vQ (step+j) m/\j+m=xs.length - step.toNat) ?_ ?_
   ⟨0,xs.length - step.toNat,rfl,by rw[n0];congr 1<;>omega,by omega⟩
  ·rintro d ds ρ ⟨j,m,rfl,er,hjm⟩ N hN
   cases m with
   | zero=>cases er
   | succ m =>
    rw[wX]at er
    cases er
    have hlen:=RM.addN_len side step xs j
    have hi:step.toNat+j < (RM.addN side step xs j).length:=by omega
    have ei:step+(j:Int)=((step.toNat+j:Nat):Int):=by omega
    have ei2:step+(j:Int) - step=((j:Nat):Int):=by omega
    have hj:j < (RM.addN side step xs j).length:=by omega
    have nextE:RM.addN side step xs (j+1)=RM.addT side step (RM.addN side step xs j) (step.toNat+j):=rfl
    have er2:vQ (step+(j:Int)+1) m=vQ (step+((j+1:Nat):Int)) m:=by congr 1;omega
    refine ⟨⟨by omega,by omega⟩,by show (0:Int) < side;omega,?_⟩
    refine wZ (λh=>?_) (λh=>?_)
    ·have h:0 < (step+(j:Int)) / step % side:=of_decide_eq_true h
     refine ⟨.int ((RM.addN side step xs j).getD (step.toNat+j) 0),by rw[ei];exact CY hi,.int ((RM.addN side step xs j).getD j 0),by rw[ei2];exact CY hj,step.toNat+j,by rw[n0,ei];exact dL hi,?_⟩
     refine hN _ ⟨j+1,m,?_,er2,by omega⟩
     rw[nextE]
     unfold RM.addT
     rw[if_pos (by rw[<- ei];exact h),O3]
     have e3:((RM.addN side step xs j).set (step.toNat+j) ((RM.addN side step xs j).getD (step.toNat+j) 0+(RM.addN side step xs j).getD j 0)).map q0=((RM.addN side step xs j).map q0).set (step.toNat+j) (.int ((RM.addN side step xs j).getD (step.toNat+j) 0+(RM.addN side step xs j).getD j 0)):=by rw[List.map_set]
     rw[e3]
     rfl
    ·have h:¬0 < (step+(j:Int)) / step % side:=λz=>h (decide_eq_true z)
     refine hN _ ⟨j+1,m,?_,er2,by omega⟩
     rw[nextE]
     unfold RM.addT
     rw[if_neg (by rw[<- ei];exact h)]
     rfl
  ·rintro ρ ⟨j,m,rfl,er,hjm⟩
   cases m with
   | succ m=>rw[wX]at er;cases er
   | zero =>
    have hj:j=xs.length - step.toNat:=by omega
    subst hj
    exact q _
structure CalsRO(P:Program)(w:World)(K:A0)(mg:Str->Option Value)(base:Heap):Prop where
 add_along:Cal P w K mg base 1 "add_along" ["table","side","step"] (eQ K fL)
noncomputable def dq:Con:=λargs Q=>∃(sd cl:List Int) (d:PyData),args=[.fz (.tuple [oQ sd,d])]/\NP cl d/\Sd sd/\cl.length=(hX sd).length/\∀o,Q (.ow (.list ((DF sd cl).map q0))) o
theorem iB:FnScope ["field","table","step","side"] ["field"] (cQ (top 10)):=⟨rfl,rfl,rfl,by decide +kernel,rfl,by decide +kernel,by decide +kernel⟩
theorem Av{f:Addr}{fd:FuncData}(F:Fun K "running_of" "running_of" (top 10) f fd)(T:Txt mg)(C:CalsRO P w K mg base):FnOk P w K mg base BZ 2 f fd ["field"] (eQ K dq):=by
 have S:=iB
 refine TJ F S (λcdv A outer s H E hr=>(fQ (zQ (i:=1) S.nd rfl (Or.inl rfl) (vZ bu (lD (K:=K) rfl) T.list_ boot_list (aQ (wx (WX rfl (wn 0) (wx iQ))) bQ)))
     (fQ (zQ (i:=2) S.nd rfl (Or.inl rfl) iQ)
     (fQ (MX [3] PassesOwn.never rfl (NM rfl T.reversed_ (aQ (wx (WX rfl (wn 0) (wx iQ))) bQ)) (lQ (i:=3) S.nd rfl (Or.inl rfl)) (fQ (lJ (bX C.add_along (hr.mono (by first|decide|omega)) (aQ (wn 1) (aQ (wn 3) (aQ (wn 2) bQ)))))
     (qQ (zQ (i:=2) S.nd rfl (Or.inl rfl) (w_bin LX pX (wn 2) (wn 3))))))
     (qQ (JJ (wn 1))))))) ?_ ?_
 ·rintro args Qd ⟨sd,cl,d,rfl,_⟩;rfl
 ·rintro args Qd ⟨sd,cl,d,rfl,hd,hsd,hc,q⟩
  have hm:=hsd.m
  have hpl:=yJ hsd.p
  have hpN:=sJ hsd.p
  rw[<- PV hsd.p (by omega)]at q
  refine ⟨uQ rfl,?_⟩
  have main:∀E:DE,(E.nx [some (.fz (.tuple [oQ sd,d])),some (.ow (.list ((RM.runProg sd.reverse 1 cl).map q0))),none,none])->E.nx [some (.fz (.tuple [oQ sd,d])),some (.ow (.list ((RM.runProg sd.reverse 1 cl).map q0))),none,none]:=λ_ h=>h
  have key:∀rs:List Int,(∀c∈rs,1<=c)->(rs.map q0)=(rs.map q0):=λ_ _=>rfl
  refine ⟨d,rfl,?_⟩
  rcases hd with rfl|rfl
  all_goals
   refine ⟨oQ sd,rfl,?_⟩
   refine BX (λrest ρ=>∃(rs xs:List Int) (st:Int),ρ=[some (.fz _),some (.ow (.list (xs.map q0))),some (.fz (.int st)),none]/\rest=rs.map q0/\RM.runProg rs st xs=RM.runProg sd.reverse 1 cl/\xs.length=cl.length/\1<=st/\st * prodI rs<=120/\∀c∈rs,1<=c) ?_ ?_
    ⟨sd.reverse,cl,1,rfl,by rw[List.map_reverse],rfl,rfl,by decide,by rw[G4,<- uK,RM.prodI_rev,uK];exact hm,λc h=>hsd.p c (m8.mp h)⟩
   ·rintro d ds ρ ⟨rs,xs,st,rfl,er,hrun,hxl,h1,hp,hrs⟩ N hN
    cases rs with
    | nil=>cases er
    | cons a rs =>
     cases er
     have ha:=hrs a B0
     have hr':∀c∈rs,1<=c:=λc h=>hrs c (u0 _ h)
     have hrp:=RX hr'
     have hp2:st * a * prodI rs<=120:=by
      have:st * (a * prodI rs)<=120:=hp
      rw[L4];exact this
     have hsa:st * a<=120:=by
      have:=Z2 hrp (show (0:Int)<=st * a from Int.mul_nonneg (by omega) (by omega))
      omega
     have hst:st<=120:=by
      have:=Z2 ha (show (0:Int)<=st by omega)
      omega
     have ha2:a<=120:=by
      have:=V4 h1 (show (0:Int)<=a by omega)
      omega
     have hsa1:1<=st * a:=by
      have:=Z2 ha (show (0:Int)<=st by omega)
      omega
     refine ⟨xs,a,st,rfl,by omega,ha,by omega,h1,by omega,λo=>?_⟩
     refine ⟨.inl ⟨by omega,by omega⟩,?_⟩
     exact hN _ ⟨rs,RM.addAlong a st xs,st * a,rfl,rfl,hrun,by rw[RM.addAlong_len];exact hxl,hsa1,hp2,hr'⟩
   ·rintro ρ ⟨rs,xs,st,rfl,er,hrun,hxl,h1,hp,hrs⟩
    cases rs with
    | nil =>
     have hrun:xs=RM.runProg sd.reverse 1 cl:=hrun
     rw[<- hrun]at q
     exact q _
    | cons _ _=>cases er
end
noncomputable def Bx:List Int->List Int->List Int->Prop
 | [],[],[]=>True
 | x :: lo,y :: hi,s :: sd=>(0<=x/\x<=y/\y < s)/\Bx lo hi sd
 | _,_,_=>False
theorem HU:∀{sd lo hi:List Int}{cs:List (Int×Int)},Bx lo hi sd->iC cs ((lo.zip hi).map λq=>ZX q.1 q.2)->Wi (cs.map (·.1)) sd
 | [],[],[],[],_,_=>trivial
 | [],[],[],_ :: _,_,h=>h.elim
 | _ :: _,_ :: _,_ :: _,[],_,h=>h.elim
 | s :: sd,x :: lo,y :: hi,c :: cs,h,k=>by
  refine ⟨?_,HU h.2 k.2⟩
  have h1:=h.1
  have k1:c∈ZX x y:=k.1
  unfold ZX at k1
  split at k1<;>simp at k1
  ·subst k1;show 0<=y/\y < s;omega
  ·rcases k1 with rfl|rfl
   ·show 0<=x - 1/\x - 1 < s;omega
   ·show 0<=y/\y < s;omega
 | [],[],_ :: _,_,h,_=>h.elim
 | [],_ :: _,z,_,h,_=>by cases z<;>exact h.elim
 | _ :: _,[],z,_,h,_=>by cases z<;>exact h.elim
 | _ :: _,_ :: _,[],_,h,_=>h.elim
noncomputable abbrev TF(p:List Int×Int):PyData:=.tuple [oQ p.1,.int p.2]
theorem gL(ps:List (List Int))(cl:List Int):eY (ps.map oQ) (cl.map q0)=(ps.zip cl).map TF:=by
 unfold eY
 rw[y8,R0]
 rfl
noncomputable def jP:PyData->PyData
 | .tuple [.int a,.int b]=>.bool (decide (a<=b))
 | _=>.none
noncomputable abbrev bxD(b:List Int×List Int):PyData:=.tuple [oQ b.1,oQ b.2]
theorem Bv:∀{sd lo hi:List Int},Wi lo sd->Wi hi sd->RM.leq hi lo=true->Bx lo hi sd
 | [],[],[],_,_,_=>trivial
 | s :: sd,x :: lo,y :: hi,h1,h2,h=>by
  rw[RM.leq_cons,U4]at h
  exact ⟨⟨h1.1.1,by simpa using h.1,h2.1.2⟩,Bv h1.2 h2.2 h.2⟩
 | [],_ :: _,_,h,_,_=>h.elim
 | [],[],_ :: _,_,h,_=>h.elim
 | _ :: _,[],_,h,_,_=>h.elim
 | _ :: _,_ :: _,[],_,h,_=>h.elim
theorem IU:∀{sd lo hi:List Int}{x y s:Int},Bx lo hi sd->0<=x/\x<=y/\y < s->Bx (lo++[x]) (hi++[y]) (sd++[s])
 | [],[],[],_,_,_,_,h=>⟨h,trivial⟩
 | _ :: _,_ :: _,_ :: _,_,_,_,h1,h=>⟨h1.1,IU h1.2 h⟩
 | [],[],_ :: _,_,_,_,h,_=>h.elim
 | [],_ :: _,z,_,_,_,h,_=>by cases z<;>exact h.elim
 | _ :: _,[],z,_,_,_,h,_=>by cases z<;>exact h.elim
 | _ :: _,_ :: _,[],_,_,_,h,_=>h.elim
theorem OK:∀{sd lo hi:List Int},Bx lo hi sd->lo.length=sd.length/\hi.length=sd.length
 | [],[],[],_=>⟨rfl,rfl⟩
 | _ :: _,_ :: _,_ :: _,h=>by have:=OK h.2;simp;omega
 | [],[],_ :: _,h=>h.elim
 | [],_ :: _,z,h=>by cases z<;>exact h.elim
 | _ :: _,[],z,h=>by cases z<;>exact h.elim
 | _ :: _,_ :: _,[],h=>h.elim
section
variable {P:Program}{w:World}{K:A0}{mg:Str->Option Value}{base:Heap}
noncomputable def iL(sd lo:List Int):List (List Int×List Int):=((hX sd).filter λhi=>RM.leq hi lo).map λhi=>(lo,hi)
noncomputable def uN(sd:List Int):List (List Int×List Int):=(hX sd).flatMap (iL sd)
structure CalsBS(P:Program)(w:World)(K:A0)(mg:Str->Option Value)(base:Heap):Prop where
 law_places:Cal P w K mg base 1 "_law_places" ["_law_sides_here"] (eQ K zY)
noncomputable def fq:Con:=λargs Q=>∃sd:List Int,args=[.fz (oQ sd)]/\S0 sd/\∀o,Q (.ow (.list ((uN sd).map bxD))) o
theorem jB:FnScope ["_law_sides_here","_law_places_here","_law_found","_law_low","_law_high"] ["_law_sides_here"] (cQ (top 30)):=⟨rfl,rfl,rfl,by decide +kernel,rfl,by decide +kernel,by decide +kernel⟩
theorem Cv{f:Addr}{fd:FuncData}(F:Fun K "_law_boxes" "_law_boxes" (top 30) f fd)(T:Txt mg)(C:CalsBS P w K mg base):FnOk P w K mg base BZ 2 f fd ["_law_sides_here"] (eQ K fq):=by
 have S:=jB
 refine TJ F S (λcdv A outer s H E hr=>(fQ (zQ (i:=1) S.nd rfl (Or.inl rfl) (GX C.law_places (hr.mono (by first|decide|omega)) (aQ (wn 0) bQ)))
     (fQ (zQ (i:=2) S.nd rfl (Or.inl rfl) (tX bQ))
     (fQ (MX [3,4] PassesOwn.never rfl (qX rfl (wv 1)) (lQ (i:=3) S.nd rfl (Or.inl rfl)) (qQ (MX [4] PassesOwn.never rfl (qX rfl (wv 1)) (lQ (i:=4) S.nd rfl (Or.inl rfl)) (qQ (KJ (gF (CQ Ek (uV (K:=K) rfl rfl) T.all_ boot_all (aQ (wx (zX rfl (own:=["_law_one","_law_other"]) (fr:=[]) (by kernel_rfl) (sU rfl T.zip_ (aQ (wn 3) (aQ (wn 4) bQ))) (λ_ _ _ _=>(kJ rfl rfl (JQ (lQ (i:=0) (by decide +kernel:G2 (["_law_one","_law_other"]:List Str)) rfl (Or.inl rfl)) (JQ (lQ (i:=1) (by decide +kernel:G2 (["_law_one","_law_other"]:List Str)) rfl (Or.inl rfl)) mZ)))) (λ_ _ _ _=>uH) (λ_ _ _ _=>(aw CM qx (wn 0) (wn 1))))) bQ))) (qQ (lJ (qI DZ rfl PySem.F.slot_list_append PySem.F.type_list_append eZ (wn 2) (aQ (wx (lX (aQ (wx (wv 3)) (aQ (wx (wv 4)) bQ)))) bQ)))) nZ)))))
     (qQ (JJ (wn 2))))))) ?_ ?_
 ·rintro args Qd ⟨sd,rfl,_⟩;rfl
 ·rintro args Qd ⟨sd,rfl,hsd,q⟩
  have hm:=hsd.m
  have h3:=hsd.l3
  have hpl:=yJ hsd.p
  refine ⟨uQ rfl,?_⟩
  refine ⟨sd,.inl rfl,hsd.p,by omega,hsd.l3,λo=>?_⟩
  refine BX (λrest ρ=>∃(dn rs:List (List Int)) (bs:List (List Int×List Int)),hX sd=dn++rs/\ρ=[some (.fz (oQ sd)),some (.fz (.list ((hX sd).map oQ))),some (.ow (.list (bs.map bxD))),none,none]/\rest=rs.map oQ/\bs=dn.flatMap (iL sd)/\bs.length<=120 * dn.length) ?_ ?_
   ⟨[],hX sd,[],rfl,rfl,rfl,rfl,by simp⟩
  ·rintro e ds ρ ⟨dn,rs,bs,hpe,rfl,er,hbs,hbl⟩ N hN
   cases rs with
   | nil=>cases er
   | cons lo rs =>
    cases er
    have hlo:Wi lo sd:=rJ (by rw[hpe];simp)
    have hdn:dn.length+1<=120:=by
     have h7:=congrArg E4 hpe
     simp at h7
     omega
    refine BX (λrest ρ=>∃(dm rm:List (List Int)) (bs:List (List Int×List Int)),hX sd=dm++rm/\ρ=[some (.fz (oQ sd)),some (.fz (.list ((hX sd).map oQ))),some (.ow (.list (bs.map bxD))),some (.fz (oQ lo)),none]/\rest=rm.map oQ/\bs=dn.flatMap (iL sd)++((dm.filter λhi=>RM.leq hi lo).map λhi=>(lo,hi))/\bs.length<=120 * dn.length+dm.length) ?_ ?_
     ⟨[],hX sd,bs,rfl,rfl,rfl,by rw[hbs];simp,by simpa using hbl⟩
    ·rintro e ds ρ ⟨dm,rm,bs,hpm,rfl,er,hbs,hbl⟩ M hM
     cases rm with
     | nil=>cases er
     | cons hi rm =>
      cases er
      have hhi:Wi hi sd:=rJ (by rw[hpm];simp)
      have hdm:dm.length+1<=120:=by
       have h7:=congrArg E4 hpm
       simp at h7
       omega
      have hz:=FX lo hi
      refine ⟨by rw[hz,n0,O5,BW hlo];exact FQ (by omega),kK jP ?_ ?_⟩
      ·intro x hx R hR
       rw[hz]at hx
       obtain⟨⟨a,b⟩,_,rfl⟩:=M0.mp hx
       exact ⟨rfl,hR⟩
      ·rw[hz,R0]
       refine ⟨RM.leqs hi lo,by unfold RM.leqs;rw[R0];rfl,?_⟩
       refine wZ (λh=>?_) (λh=>?_)
       ·have h:RM.leq hi lo=true:=h
        refine ⟨by rw[n0];exact J3 (show bs.length<=20000 by omega) (by decide),?_⟩
        refine hM _ ⟨dm++[hi],rm,bs++[(lo,hi)],by rw[hpm];simp,by rw[S2];rfl,rfl,?_,by simp;omega⟩
        rw[hbs,K6,S2,Z4 (p:=λhi=>RM.leq hi lo) h,List.filter_nil,K2]
        rfl
       ·refine hM _ ⟨dm++[hi],rm,bs,by rw[hpm];simp,rfl,rfl,?_,by simp;omega⟩
        rw[hbs,K6,d5 (p:=λhi=>RM.leq hi lo) h,List.filter_nil,X1]
    ·rintro ρ ⟨dm,rm,bs,hpm,rfl,er,hbs,hbl⟩
     have hdm:dm.length<=120:=by
      have h7:=congrArg E4 hpm
      simp at h7
      omega
     have rm0:rm=[]:=by
      cases rm with
      | nil=>rfl
      | cons _ _=>cases er
     subst rm0
     rw[X1]at hpm
     exact hN _ ⟨dn++[lo],rs,bs,by rw[hpe];simp,rfl,rfl,by rw[hbs,<- hpm,M3];simp[iL],by simp;omega⟩
  ·rintro ρ ⟨dn,rs,bs,hpe,rfl,er,hbs,hbl⟩
   have rs0:rs=[]:=by
    cases rs with
    | nil=>rfl
    | cons _ _=>cases er
   subst rs0
   rw[X1]at hpe
   have e:bs=uN sd:=by rw[hbs,uN,hpe]
   subst e
   exact q _
structure CalsBX(P:Program)(w:World)(K:A0)(mg:Str->Option Value)(base:Heap):Prop where
 law_take:Cal P w K mg base 2 "_law_take" ["_law_state","_law_most"] (eQ K vW)
noncomputable def vK:List Int->List Int->List Int->Bool
 | x :: lo,p :: pl,y :: hi=>(decide (x<=p)&&decide (p<=y))&&vK lo pl hi
 | _,_,_=>true
noncomputable def kP:PyData->PyData
 | .tuple [.int a,.int b,.int c]=>.bool (decide (a<=b)&&decide (b<=c))
 | _=>.none
noncomputable def gq(lo p hi:List Int):List Bool:=(lo.zip (p.zip hi)).map λq=>decide (q.1<=q.2.1)&&decide (q.2.1<=q.2.2)
theorem EF:∀(lo p hi:List Int),(gq lo p hi).all id=vK lo p hi
 | x :: lo,p :: pl,y :: hi=>by
  have:=EF lo pl hi
  simp only[gq,vK,G6,E1,List.all_cons,id]at this ⊢
  rw[this]
 | [],_,_=>by simp[gq,vK]
 | _ :: _,[],_=>by simp[gq,vK]
 | _ :: _,_ :: _,[]=>by simp[gq,vK]
theorem Sj(a b c:List Int):xV (a.map q0) (b.map q0) (c.map q0)=(a.zip (b.zip c)).map λq=>J2 [.int q.1,.int q.2.1,.int q.2.2]:=by
 unfold xV
 rw[y8,y8,R0]
 rfl
noncomputable def Dv:Con:=λargs Q=>∃lo hi p:List Int,args=[.fz (bxD (lo,hi)),.fz (oQ p)]/\lo.length<=1000/\∀o,Q (.fz (.bool (vK lo p hi))) o
theorem jL:FnScope ["_law_box_here","_law_place","_law_low","_law_high"] ["_law_box_here","_law_place"] (cQ (top 32)):=⟨rfl,rfl,rfl,by decide +kernel,rfl,by decide +kernel,by decide +kernel⟩
theorem lB{f:Addr}{fd:FuncData}(F:Fun K "_law_lies" "_law_lies" (top 32) f fd)(T:Txt mg):FnOk P w K mg base BZ 1 f fd ["_law_box_here","_law_place"] (eQ K Dv):=by
 have S:=jL
 refine TJ F S (λcdv A outer s H E hr=>(fQ (vI (wv 0) (kJ rfl rfl (JQ (lQ (i:=2) S.nd rfl (Or.inl rfl)) (JQ (lQ (i:=3) S.nd rfl (Or.inl rfl)) mZ))))
     (qQ (TQ (CQ Ek (uV (K:=K) rfl rfl) T.all_ boot_all (aQ (wx (zX rfl (own:=["_law_first","_law_number_here","_law_last"]) (fr:=[]) (by kernel_rfl) (uI rfl T.zip_ (aQ (wn 2) (aQ (wn 1) (aQ (wn 3) bQ)))) (λ_ _ _ _=>(kJ rfl rfl (JQ (lQ (i:=0) (by decide +kernel:G2 (["_law_first","_law_number_here","_law_last"]:List Str)) rfl (Or.inl rfl)) (JQ (lQ (i:=1) (by decide +kernel:G2 (["_law_first","_law_number_here","_law_last"]:List Str)) rfl (Or.inl rfl)) (JQ (lQ (i:=2) (by decide +kernel:G2 (["_law_first","_law_number_here","_law_last"]:List Str)) rfl (Or.inl rfl)) mZ))))) (λ_ _ _ _=>uH) (λ_ _ _ _=>(Ku qx qx (wn 0) (wn 1) (wn 2))))) bQ)))))) ?_ ?_
 ·rintro args Qd ⟨lo,hi,p,rfl,_⟩;rfl
 ·rintro args Qd ⟨lo,hi,p,rfl,hl,q⟩
  refine ⟨uQ rfl,?_⟩
  refine ⟨rfl,?_⟩
  have hz:=Sj lo p hi
  refine ⟨by rw[hz,n0,O5];exact FQ (by omega),kK kP ?_ ?_⟩
  ·intro x hx R hR
   rw[hz]at hx
   obtain⟨⟨a,b,c⟩,_,rfl⟩:=M0.mp hx
   refine ⟨rfl,?_⟩
   have hR:R (.bool (decide (a<=b)&&decide (b<=c))) _:=hR
   refine wZ (λh=>?_) (λh=>?_)
   ·have h:decide (a<=b)=true:=h
    rw[h,d8]at hR
    exact hR
   ·have h:¬decide (a<=b)=true:=h
    rw[Y7.mpr h,P6]at hR
    exact hR
  ·rw[hz,R0]
   refine ⟨gq lo p hi,by unfold gq;rw[R0];rfl,?_⟩
   rw[EF]
   exact q _
end
theorem FF{α:Type}:∀{cs acc:List (List α)}{a q:List α},a∈acc->iC q cs->a++q∈DQ acc cs
 | [],acc,a,[],ha,_=>by simpa [DQ]using ha
 | [],_,_,_ :: _,_,h=>h.elim
 | _ :: _,_,_,[],_,h=>h.elim
 | c :: cs,acc,a,x :: q,ha,h=>by
  have:=FF (cs:=cs) (acc:=acc.flatMap λp=>c.map λx=>p++[x]) (a:=a++[x]) (q:=q) (K3.mpr ⟨a,ha,M0.mpr ⟨x,h.1,rfl⟩⟩) h.2
  simpa [DQ]using this
theorem mB{x s:Int}(h0:0<=x)(h1:x < s):x∈rng s:=M0.mpr ⟨x.toNat,D3.mpr (by omega),by omega⟩
theorem Fv:∀{p sd:List Int},Wi p sd->iC p (sd.map rng)
 | [],[],_=>trivial
 | [],_ :: _,h=>h.elim
 | _ :: _,[],h=>h.elim
 | x :: p,s :: sd,h=>⟨mB h.1.1 h.1.2,Fv h.2⟩
theorem iq{p sd:List Int}(h:Wi p sd):p∈hX sd:=FF (a:=[]) (by simp) (Fv h)
theorem nB:RM.leq [] []=true:=rfl
theorem Gv(z y e:Int)(cs:List (List (Int×Int)))(o:List Int) :
  (W cs λq=>qJ ((y,e) :: q) * (if RM.leq (((y,e) :: q).map (·.1)) (z :: o)=true then 1 else 0))=e * ((if z<=y then 1 else 0) * W cs λq=>qJ q * (if RM.leq (q.map (·.1)) o=true then 1 else 0)):=by
 by_cases h:z<=y
 ·rw[if_pos h,G4,<- tz]
  congr 1
  funext q
  rw[CF,L4]
  show e * (qJ q * (if RM.leq (y :: q.map (·.1)) (z :: o)=true then 1 else 0))=_
  rw[RM.leq_cons,decide_eq_true h,d8]
 ·rw[if_neg h,A8,B9]
  refine Eq.trans ?_ (cq cs)
  congr 1
  funext q
  show qJ ((y,e) :: q) * (if RM.leq (y :: q.map (·.1)) (z :: o)=true then 1 else 0)=0
  rw[RM.leq_cons,decide_eq_false h,P6,if_neg (by simp),B9]
theorem ind:∀{sd lo hi o:List Int},Bx lo hi sd->Wi o sd->(W ((lo.zip hi).map λq=>ZX q.1 q.2) λcs=>qJ cs * (if RM.leq (cs.map (·.1)) o=true then 1 else 0))=if vK lo o hi=true then 1 else 0
 | [],[],[],[],_,_=>by simp[W,qJ,vK,nB]
 | s :: sd,x :: lo,y :: hi,z :: o,h,k=>by
  have ih:=ind h.2 k.2
  have h1:=h.1
  have k1:=k.1
  show ((ZX x y).map λc=>W ((lo.zip hi).map λq=>ZX q.1 q.2) λq=>qJ (c :: q) * (if RM.leq ((c :: q).map (·.1)) (z :: o)=true then 1 else 0)).sum=if ((decide (x<=z)&&decide (z<=y))&&vK lo o hi)=true then 1 else 0
  have fin:(if ((decide (x<=z)&&decide (z<=y))&&vK lo o hi)=true then (1:Int) else 0)=(if x<=z/\z<=y then 1 else 0) * (if vK lo o hi=true then 1 else 0):=by
   by_cases a:x<=z<;>by_cases b:z<=y<;>by_cases c:vK lo o hi=true<;>simp[a,b,c]
  rw[fin,<- ih]
  generalize hW:(W ((lo.zip hi).map λq=>ZX q.1 q.2) λcs=>qJ cs * (if RM.leq (cs.map (·.1)) o=true then 1 else 0))=ww
  by_cases h0:x=0
  ·rw[ZX,if_pos h0]
   simp only[E1,W4,V5,List.sum_nil]
   have w1:=Gv z y 1 ((lo.zip hi).map λq=>ZX q.1 q.2) o
   simp only[E1]at w1
   rw[w1,hW]
   have:(x<=z/\z<=y) ↔ z<=y:=by omega
   simp[this]
  ·rw[ZX,if_neg h0]
   simp only[E1,W4,V5,List.sum_nil]
   have w1:=Gv z y 1 ((lo.zip hi).map λq=>ZX q.1 q.2) o
   have w2:=Gv z (x - 1) (-1) ((lo.zip hi).map λq=>ZX q.1 q.2) o
   simp only[E1]at w1 w2
   rw[w1,w2,hW]
   by_cases a:z<=x - 1
   ·have b:z<=y:=by omega
    have c:¬(x<=z/\z<=y):=by omega
    rw[if_pos a,if_pos b,if_neg c]
    simp only[G4,A8,Int.neg_mul]
    omega
   ·by_cases b:z<=y
    ·have c:x<=z/\z<=y:=by omega
     simp[a,b,c]
    ·have c:¬(x<=z/\z<=y):=by omega
     simp[a,b,c]
 | [],[],[],_ :: _,_,k=>k.elim
 | _ :: _,_ :: _,_ :: _,[],_,k=>k.elim
 | [],[],_ :: _,_,h,_=>h.elim
 | [],_ :: _,z,_,h,_=>by cases z<;>exact h.elim
 | _ :: _,[],z,_,h,_=>by cases z<;>exact h.elim
 | _ :: _,_ :: _,[],_,h,_=>h.elim
noncomputable def rZ(rows:List (List Int×Int))(lo hi:List Int):Int:=((rows.filter λr=>vK lo r.1 hi).map (·.2)).sum
theorem wK(lo hi:List Int):∀rows:List (List Int×Int),rZ rows lo hi=(rows.map λr=>if vK lo r.1 hi=true then r.2 else 0).sum
 | []=>rfl
 | r :: rows=>by
  have ih:=wK lo hi rows
  unfold rZ at ih ⊢
  rw[E1,V5,<- ih]
  by_cases h:vK lo r.1 hi=true
  ·rw[Z4 (p:=λr:List Int×Int=>vK lo r.1 hi) h,if_pos h];simp
  ·rw[d5 (p:=λr:List Int×Int=>vK lo r.1 hi) h,if_neg h];simp
theorem wz(p:List Int):∀(rows:List (List Int×Int)) (t:Int),rows.foldl (λacc oc=>if RM.leq p oc.1=true then acc+oc.2 else acc) t=t+(rows.map λr=>if RM.leq p r.1=true then r.2 else 0).sum
 | [],t=>by simp
 | r :: rows,t=>by
  rw[P3,wz p rows,E1,V5]
  split<;>omega
theorem swap{sd lo hi:List Int}(hb:Bx lo hi sd):∀rows:List (List Int×Int),(∀r∈rows,Wi r.1 sd) ->
  (W ((lo.zip hi).map λq=>ZX q.1 q.2) λcs=>qJ cs * (rows.map λr=>if RM.leq (cs.map (·.1)) r.1=true then r.2 else 0).sum)=(rows.map λr=>if vK lo r.1 hi=true then r.2 else 0).sum
 | [],_=>by
  refine Eq.trans ?_ (cq ((lo.zip hi).map λq=>ZX q.1 q.2))
  congr 1
  funext cs
  simp
 | r :: rows,h=>by
  have ih:=swap hb rows λx hx=>h x (u0 _ hx)
  have e:(λcs:List (Int×Int)=>qJ cs * ((r :: rows).map λr=>if RM.leq (cs.map (·.1)) r.1=true then r.2 else 0).sum)=λcs=>r.2 * (qJ cs * (if RM.leq (cs.map (·.1)) r.1=true then 1 else 0))+qJ cs * (rows.map λr=>if RM.leq (cs.map (·.1)) r.1=true then r.2 else 0).sum:=by
   funext cs
   rw[E1,V5,Int.mul_add]
   congr 1
   split
   ·rw[v7,w8]
   ·simp
  rw[e,kC,tz,ih,ind hb (h r B0),E1,V5]
  congr 1
  split
  ·rw[v7]
  ·rw[B9]
theorem oB{sd:List Int}(hp:∀c∈sd,1<=c)(f:List Int->Int){c:List Int}(h:Wi c sd):nv ((hX sd).map f) (qZ sd c)=f c:=by
 obtain⟨k,hk,ek⟩:=U8.mp (iq h)
 have h4:=(cL hp (k:=k) (p:=c) (by rw[L0 hk,ek])).2
 rw[h4,nv,SJ,SF,if_pos (by omega),if_pos (by rw[n0];omega)]
 simp[hk,ek]
theorem GF{sd cl lo hi:List Int}(hp:∀c∈sd,1<=c)(hl:cl.length=(hX sd).length)(hb:Bx lo hi sd):pN sd (DF sd cl) lo hi=rZ ((hX sd).zip cl) lo hi:=by
 have hro:DF sd cl=(hX sd).map λp=>RM.tot p ((hX sd).zip cl):=by rw[<- zv hp (by rw[hl,sJ hp]),vv];rfl
 rw[wK,<- swap hb ((hX sd).zip cl) λr hr=>rJ (j5 (a:=r.1) (b:=r.2) hr).1,pN,mz,NV]
 refine BY _ λcs hcs=>?_
 rw[hro,oB hp _ (HU hb hcs),RM.tot,wz,x8]
section
variable {P:Program}{w:World}{K:A0}{mg:Str->Option Value}{base:Heap}
structure CalsSM(P:Program)(w:World)(K:A0)(mg:Str->Option Value)(base:Heap):Prop where
 law_lies:Cal P w K mg base 1 "_law_lies" ["_law_box_here","_law_place"] (eQ K Dv)
noncomputable def kL:Con:=λargs Q=>∃(rows:List (List Int×Int)) (lo hi:List Int),args=[.fz (.list (rows.map TF)),.fz (bxD (lo,hi))]/\rows.length<=1000/\lo.length<=1000/\∀o,Q (.fz (.int (rZ rows lo hi))) o
noncomputable def pB(lo hi:List Int):PyData->Bool
 | .tuple [.tuple ds,_]=>vK lo (ds.map unI) hi
 | _=>false
noncomputable def vN:PyData->PyData
 | .tuple [_,c]=>c
 | _=>.none
theorem wN:FnScope ["_law_rows","_law_box_here"] ["_law_rows","_law_box_here"] (cQ (top 33)):=⟨rfl,rfl,rfl,by decide +kernel,rfl,by decide +kernel,by decide +kernel⟩
theorem qB{f:Addr}{fd:FuncData}(F:Fun K "_law_sum" "_law_sum" (top 33) f fd)(T:Txt mg)(C:CalsSM P w K mg base):FnOk P w K mg base BZ 2 f fd ["_law_rows","_law_box_here"] (eQ K kL):=by
 have S:=wN
 refine TJ F S (λcdv A outer s H E hr=>(qQ (TQ (CQ Tk (AV (K:=K) rfl rfl) T.sum_ boot_sum (aQ (wx (zX rfl (own:=["_law_place","_law_cell"]) (fr:=[1]) (by kernel_rfl) (qX rfl (wv 0)) (λ_ _ _ _=>(kJ rfl rfl (JQ (lQ (i:=0) (by decide +kernel:G2 (["_law_place","_law_cell","_law_box_here"]:List Str)) rfl (Or.inl rfl)) (JQ (lQ (i:=1) (by decide +kernel:G2 (["_law_place","_law_cell","_law_box_here"]:List Str)) rfl (Or.inl rfl)) mZ)))) (λ_ _ _ _=>JP (gF (GX C.law_lies (hr.mono (by first|decide|omega)) (aQ (wn 2) (aQ (wn 0) bQ))))) (λ_ _ _ _=>(wv 1)))) bQ))))) ?_ ?_
 ·rintro args Qd ⟨rows,lo,hi,rfl,_⟩;rfl
 ·rintro args Qd ⟨rows,lo,hi,rfl,hr1,hl,q⟩
  refine ⟨uQ rfl,?_⟩
  have pe:∀r:List Int×Int,pB lo hi (TF r)=vK lo r.1 hi:=λr=>by
   show vK lo ((r.1.map q0).map unI) hi=_
   rw[AY]
  refine ⟨by rw[n0];exact FQ hr1,KM (pB lo hi) vN ?_ ?_⟩
  ·intro d hd N M hN hM
   obtain⟨r,_,rfl⟩:=M0.mp hd
   rw[pe]at hN hM
   refine ⟨rfl,lo,hi,r.1,rfl,hl,λo=>?_⟩
   refine wZ (λh=>?_) (λh=>?_)
   ·exact hN h
   ·exact hM (by simpa using h)
  ·have e:((rows.map TF).filter (pB lo hi)).map vN=((rows.filter λr=>vK lo r.1 hi).map (·.2)).map q0:=by
    rw[N8,R0,R0]
    have e2:(pB lo hi ∘ TF)=λr=>vK lo r.1 hi:=funext pe
    rw[e2]
    rfl
   rw[e]
   exact ⟨_,rfl,q _⟩
end
theorem DY(a b:Int):(SX a b).Pairwise (· < ·):=by
 unfold SX
 rw[X4]
 exact List.pairwise_lt_range.imp λh=>by omega
theorem PK:∀(cs acc:List (List Int)),DQ acc cs=acc.flatMap λa=>(DQ [[]] cs).map λt=>a++t
 | [],acc=>by
  show acc=acc.flatMap λa=>[a++[]]
  simp
 | c :: cs,acc=>by
  show DQ (acc.flatMap λp=>c.map λx=>p++[x]) cs=acc.flatMap λa=>(DQ ([[]].flatMap λp=>c.map λx=>p++[x]) cs).map λt=>a++t
  rw[PK cs (acc.flatMap _),PK cs ([[]].flatMap _)]
  simp[List.flatMap_assoc,o8,j6,Function.comp_def]
theorem FW(c:List Int)(cs:List (List Int)):DQ [[]] (c :: cs)=c.flatMap λx=>(DQ [[]] cs).map λt=>x :: t:=by
 show DQ ([[]].flatMap λp=>c.map λx=>p++[x]) cs=_
 rw[PK]
 simp[j6]
theorem xK(s:Int)(sd:List Int):hX (s :: sd)=(rng s).flatMap λx=>(hX sd).map λt=>x :: t:=FW _ _
theorem GW(l h:Int)(lo hi:List Int):vH (l :: lo) (h :: hi)=(SX l h).flatMap λx=>(vH lo hi).map λt=>x :: t:=FW _ _
noncomputable def JU:List Int->List Int->Bool
 | a :: as,b :: bs=>decide (a<=b)&&JU as bs
 | _,_=>true
inductive In:List Int->List Int->Prop
 | nil:In [] []
 | cons {a s:Int}{as sd:List Int}:0<=a->a < s->In as sd->In (a :: as) (s :: sd)
theorem In.len:∀{p sd:List Int},In p sd->p.length=sd.length
 | _,_,.nil=>rfl
 | _,_,.cons _ _ h=>by rw[P1,P1,h.len]
theorem mem_rngI{x s:Int}:x∈rng s ↔ 0<=x/\x < s:=by
 unfold rng
 rw[M0]
 constructor
 ·rintro⟨n,hn,rfl⟩
  have:=D3.mp hn
  omega
 ·intro h
  exact ⟨x.toNat,D3.mpr (by omega),by omega⟩
theorem Hv{x a b:Int}:x∈SX a b ↔ a<=x/\x<=b:=by
 unfold SX
 rw[M0]
 constructor
 ·rintro⟨n,hn,rfl⟩
  have:=D3.mp hn
  omega
 ·intro h
  exact ⟨(x - a).toNat,D3.mpr (by omega),by omega⟩
theorem KU:∀{sd p:List Int},p∈hX sd->In p sd
 | [],p,h=>by
  have:p=[]:=by simpa [hX,DQ]using h
  subst this
  exact .nil
 | s :: sd,p,h=>by
  rw[xK]at h
  obtain⟨x,hx,ht⟩:=K3.mp h
  obtain⟨t,ht2,rfl⟩:=M0.mp ht
  have:=mem_rngI.mp hx
  exact .cons this.1 this.2 (KU ht2)
theorem HF{α:Type}{lt:α->α->Bool}(an:∀a b,lt a b=false->lt b a=false->a=b):∀{l m:List α},l.Perm m->l.Pairwise (λa b=>lt b a=false)->m.Pairwise (λa b=>lt b a=false)->l=m
 | [],m,p,_,_=>by rw[List.nil_perm.mp p]
 | x :: l,[],p,_,_=>by simp at p
 | x :: l,y :: m,p,h1,h2=>by
  have e:x=y:=by
   rcases U1.mp (p.mem_iff.mp B0) with e|hx
   ·exact e
   ·rcases U1.mp (p.mem_iff.mpr B0) with e|hy
    ·exact e.symm
    ·exact an x y ((D4.mp h2).1 x hx) ((D4.mp h1).1 y hy)
  subst e
  rw[HF an (List.perm_cons x |>.mp p) (D4.mp h1).2 (D4.mp h2).2]
theorem jq{l s:Int}(h0:0<=l):(rng s).filter (λx=>decide (l<=x))=SX l (s - 1):=by
 have e:rng s=SX 0 (s - 1):=(NK s).symm
 have p1:((rng s).filter λx=>decide (l<=x)).Pairwise (· < ·):=by rw[e];exact (DY 0 (s - 1)).filter _
 have p2:=DY l (s - 1)
 refine HF (lt:=λa b:Int=>decide (a < b)) (λa b h1 h2=>?_) ((S7 (p1.imp λh=>by omega) (p2.imp λh=>by omega)).mpr λx=>?_) (p1.imp λh=>?_) (p2.imp λh=>?_)
 ·have:=of_decide_eq_false h1
  have:=of_decide_eq_false h2
  omega
 ·rw[u4,mem_rngI,Hv,decide_eq_true_eq]
  omega
 ·exact decide_eq_false (by omega)
 ·exact decide_eq_false (by omega)
theorem xz{α β:Type}(p:α->Bool)(f:α->List β):∀l:List α,(l.flatMap λx=>if p x=true then f x else [])=(l.filter p).flatMap f
 | []=>rfl
 | a :: l=>by
  rw[V1,xz p f l,List.filter_cons]
  split
  ·rw[V1]
  ·rfl
theorem RJ:∀{lo sd:List Int},In lo sd->(hX sd).filter (JU lo)=vH lo (sd.map λs=>s - 1)
 | _,_,.nil=>rfl
 | _,_,.cons (a:=l) (s:=s) (as:=lo) (sd:=sd) h0 h1 h=>by
  rw[xK,E1,GW,<- RJ h,<- jq h0,List.filter_flatMap,<- xz]
  congr 1
  funext x
  rw[N8]
  split
  ·rename_i q
   congr 1
   refine List.filter_congr λt _=>?_
   show (decide (l<=x)&&JU lo t)=JU lo t
   rw[q,d8]
  ·rename_i q
   have e:(hX sd).filter ((JU (l :: lo)) ∘ λt=>x :: t)=[]:=by
    rw[List.filter_eq_nil_iff]
    intro t _ z
    have z:(decide (l<=x)&&JU lo t)=true:=z
    rw[U4]at z
    exact q z.1
   rw[e]
   rfl
noncomputable def TZ(sd:List Int):List (List Int×List Int):=(hX sd).flatMap λlo=>(vH lo (sd.map λs=>s - 1)).map λhi=>(lo,hi)
theorem HW{sd:List Int}(hsd:S0 sd):(hX sd).length<=120:=by
 have h1:=EX (sd.map rng) [[]]
 have h2:=pJ hsd.p
 have h3:=hsd.m
 rw[Q1,M6]at h1
 show (DQ [[]] (sd.map rng)).length<=120
 omega
theorem Az{lo sd:List Int}(hsd:S0 sd)(h:In lo sd):(vH lo (sd.map λs=>s - 1)).length<=120:=by
 rw[<- RJ h]
 exact A1 (N3 _ _) (HW hsd)
theorem lL{lo sd:List Int}(hsd:S0 sd)(h:In lo sd):∀p∈lo.zip (sd.map λs=>s - 1),0<=p.1/\p.1<=p.2/\p.2<=1000:=by
 have gen:∀{lo sd:List Int},In lo sd->(∀c∈sd,c<=120)->∀p∈lo.zip (sd.map λs=>s - 1),0<=p.1/\p.1<=p.2/\p.2<=1000:=by
  intro lo sd h
  induction h with
  | nil=>intro _ p hp;simp at hp
  | cons h0 h1 _ ih =>
   intro hc p hp
   rw[E1,G6]at hp
   rcases U1.mp hp with rfl|hp
   ·have:=hc _ B0
    exact ⟨h0,by show _<=_ - 1;omega,by show _ - 1<=1000;omega⟩
   ·exact ih (λc hc'=>hc c (u0 _ hc')) p hp
 exact gen h λc hc=>Int.le_trans (pZ hsd.p c hc) hsd.m
theorem Bz{α β:Type}(f:α->List β)(b:Nat):∀l:List α,(∀x∈l,(f x).length<=b)->(l.flatMap f).length<=l.length * b
 | [],_=>by simp
 | a :: l,h=>by
  have h1:=h a B0
  have h2:=Bz f b l λx hx=>h x (u0 _ hx)
  rw[V1,K0,P1,N6]
  omega
theorem Cz{sd:List Int}(hsd:S0 sd)(ls:List (List Int))(h:∀x∈ls,x∈hX sd)(hl:ls.length<=120):(ls.flatMap λlo=>(vH lo (sd.map λs=>s - 1)).map λhi=>(lo,hi)).length<=14400:=by
 have:=Bz (λlo=>(vH lo (sd.map λs=>s - 1)).map λhi=>(lo,hi)) 120 ls λx hx=>by
  rw[n0]
  exact Az hsd (KU (h x hx))
 have:ls.length * 120<=120 * 120:=U5 _ hl
 omega
theorem IW:∀(hi lo:List Int),RM.leq hi lo=JU lo hi
 | [],[]=>rfl
 | [],_ :: _=>rfl
 | _ :: _,[]=>rfl
 | a :: hi,b :: lo=>by rw[RM.leq_cons,IW hi lo];rfl
theorem LU(sd:List Int):uN sd=TZ sd:=by
 unfold uN TZ
 have:∀lo∈hX sd,iL sd lo=(vH lo (sd.map λs=>s - 1)).map λhi=>(lo,hi):=λlo hlo=>by
  rw[iL,<- RJ (KU hlo)]
  congr 2
  funext hi
  exact IW hi lo
 have gen:∀(l:List (List Int)),(∀x∈l,x∈hX sd)->l.flatMap (iL sd)=l.flatMap λlo=>(vH lo (sd.map λs=>s - 1)).map λhi=>(lo,hi):=by
  intro l
  induction l with
  | nil=>intro _;rfl
  | cons a l ih =>
   intro h
   rw[V1,V1,this a (h a B0),ih λx hx=>h x (u0 _ hx)]
 exact gen _ λ_ h=>h
theorem JW{sd:List Int}{b:List Int×List Int}(h:b∈TZ sd):Bx b.1 b.2 sd:=by
 rw[<- LU]at h
 obtain⟨lo,hlo,hb⟩:=K3.mp h
 obtain⟨hi,hhi,rfl⟩:=M0.mp hb
 have:=u4.mp hhi
 exact Bv (rJ hlo) (rJ this.1) this.2
theorem kq{sd lo hi:List Int}(h:Bx lo hi sd):(lo,hi)∈TZ sd:=by
 have gen:∀{sd lo hi:List Int},Bx lo hi sd->Wi lo sd/\Wi hi sd/\RM.leq hi lo=true:=by
  intro sd
  induction sd with
  | nil =>
   intro lo hi h
   cases lo with
   | nil=>cases hi with
    | nil=>exact ⟨trivial,trivial,rfl⟩
    | cons _ _=>exact h.elim
   | cons _ _=>cases hi<;>exact h.elim
  | cons s sd ih =>
   intro lo hi h
   cases lo with
   | nil=>cases hi<;>exact h.elim
   | cons x lo=>cases hi with
    | nil=>exact h.elim
    | cons y hi =>
     have h1:=h.1
     obtain⟨a,b,c⟩:=ih h.2
     refine ⟨⟨⟨h1.1,by omega⟩,a⟩,⟨⟨by omega,h1.2.2⟩,b⟩,?_⟩
     rw[RM.leq_cons,c,decide_eq_true h1.2.1];rfl
 obtain⟨a,b,c⟩:=gen h
 rw[<- LU]
 exact K3.mpr ⟨lo,iq a,M0.mpr ⟨hi,u4.mpr ⟨iq b,c⟩,rfl⟩⟩
section
variable {P:Program}{w:World}{K:A0}{mg:Str->Option Value}{base:Heap}
structure CalsAB(P:Program)(w:World)(K:A0)(mg:Str->Option Value)(base:Heap):Prop where
 all_places:Cal P w K mg base 3 "all_places" ["sides"] (eQ K QJ)
 places_between:Cal P w K mg base 2 "places_between" ["low","high"] (eQ K Y9)
 last_place:Cal P w K mg base 1 "last_place" ["sides"] (eQ K lz)
noncomputable def Iv:Con:=λargs Q=>∃sd:List Int,args=[.fz (oQ sd)]/\S0 sd/\∀o,Q (.ow (.list ((TZ sd).map bxD))) o
theorem mL:FnScope ["sides","boxes","low","high"] ["sides"] (cQ (top 8)):=⟨rfl,rfl,rfl,by decide +kernel,rfl,by decide +kernel,by decide +kernel⟩
theorem rB{f:Addr}{fd:FuncData}(F:Fun K "all_boxes" "all_boxes" (top 8) f fd)(C:CalsAB P w K mg base):FnOk P w K mg base BZ 4 f fd ["sides"] (eQ K Iv):=by
 have S:=mL
 refine TJ F S (λcdv A outer s H E hr=>(fQ (zQ (i:=1) S.nd rfl (Or.inl rfl) (tX bQ))
     (fQ (MX [2,3] PassesOwn.never rfl (qX rfl (GX C.all_places (hr.mono (by first|decide|omega)) (aQ (wn 0) bQ))) (lQ (i:=2) S.nd rfl (Or.inl rfl)) (qQ (MX [3] PassesOwn.never rfl (qX rfl (GX C.places_between (hr.mono (by first|decide|omega)) (aQ (wn 2) (aQ (wx (GX C.last_place (hr.mono (by first|decide|omega)) (aQ (wn 0) bQ))) bQ)))) (lQ (i:=3) S.nd rfl (Or.inl rfl)) (qQ (lJ (qI DZ rfl PySem.F.slot_list_append PySem.F.type_list_append eZ (wn 1) (aQ (wx (lX (aQ (wx (wv 2)) (aQ (wx (wv 3)) bQ)))) bQ)))))))
     (qQ (JJ (wn 1)))))) ?_ ?_
 ·rintro args Qd ⟨sd,rfl,_⟩;rfl
 ·rintro args Qd ⟨sd,rfl,hsd,q⟩
  have h3:=hsd.l3
  have hpl:=HW hsd
  refine ⟨uQ rfl,?_⟩
  refine ⟨sd,rfl,hsd,λo=>?_⟩
  refine BX (λrest ρ=>∃(dn:List (List Int×List Int)) (rs:List (List Int)),ρ=[some (.fz (oQ sd)),some (.ow (.list (dn.map bxD))),none,none]/\rest=rs.map oQ/\(∀p∈rs,p∈hX sd)/\rs.length<=120/\(dn++rs.flatMap λlo=>(vH lo (sd.map λs=>s - 1)).map λhi=>(lo,hi))=TZ sd) ?_ ?_
   ⟨[],hX sd,rfl,rfl,λp h=>h,hpl,rfl⟩
  ·rintro d ds ρ ⟨dn,rs,rfl,er,hin,hl,he⟩ N hN
   cases rs with
   | nil=>cases er
   | cons lo rs =>
    cases er
    have hi:=KU (hin lo B0)
    have hb:=Az hsd hi
    have htot:(TZ sd).length<=14400:=Cz hsd (hX sd) (λx h=>h) hpl
    refine ⟨sd,rfl,by omega,λo=>?_⟩
    refine ⟨lo,sd.map λs=>s - 1,rfl,by rw[n0,hi.len],by rw[hi.len];exact h3,lL hsd hi,?_,λo=>?_⟩
    ·have:=EX ((lo.zip (sd.map λs=>s - 1)).map λp=>SX p.1 p.2) [[]]
     rw[Q1,M6]at this
     have h2:(DQ [[]] ((lo.zip (sd.map λs=>s - 1)).map λp=>SX p.1 p.2)).length<=120:=hb
     omega
    refine BX (λrest ρ=>∃(d2:List (List Int×List Int)) (rh:List (List Int)),ρ=[some (.fz (oQ sd)),some (.ow (.list (d2.map bxD))),some (.fz (oQ lo)),none]/\rest=rh.map oQ/\d2++rh.map (λhi=>(lo,hi))=dn++(vH lo (sd.map λs=>s - 1)).map λhi=>(lo,hi)) ?_ ?_
     ⟨dn,vH lo (sd.map λs=>s - 1),rfl,rfl,rfl⟩
    ·rintro d ds ρ ⟨d2,rh,rfl,er,he2⟩ M hM
     cases rh with
     | nil=>cases er
     | cons h rh =>
      cases er
      have hz:d2.length < 14401:=by
       have e1:=congrArg E4 he
       have e2:=congrArg E4 he2
       simp only[V1,K0,n0,P1]at e1 e2
       omega
      refine ⟨by rw[n0];exact N0 hz (by decide),?_⟩
      exact hM _ ⟨d2++[(lo,h)],rh,by rw[S2];rfl,rfl,by rw[<- he2];simp⟩
    ·rintro ρ ⟨d2,rh,rfl,er,he2⟩
     cases rh with
     | cons h rh=>cases er
     | nil =>
      rw[W4,X1]at he2
      subst he2
      refine hN _ ⟨_,rs,rfl,rfl,λp h=>hin p (u0 _ h),by simp at hl;omega,?_⟩
      rw[<- he,V1,K2]
  ·rintro ρ ⟨dn,rs,rfl,er,hin,hl,he⟩
   cases rs with
   | cons h rs=>cases er
   | nil =>
    rw[t7,X1]at he
    subst he
    exact q _
end
theorem Tj(ss:List Int)(z:Int):(((ss++[z]).map q0).take (if (-1:Int) < 0 then ((-1:Int)+(((ss++[z]).map q0).length:Nat)).toNat else (-1:Int).toNat))=ss.map q0:=by
 rw[if_pos (by decide),n0,K0,Q1,show ((-1:Int)+((ss.length+1:Nat):Int)).toNat=ss.length by omega,S2,List.take_append_of_le_length (by rw[n0];exact G0 _),u5 (by rw[n0];exact G0 _)]
theorem IF(ss:List Int)(z:Int):if (-1:Int) < 0 then 1<=((ss++[z]).map q0).length else (-1:Int) < (((ss++[z]).map q0).length:Nat):=by
 rw[if_pos (by decide),n0,K0,Q1];omega
theorem sB(ss:List Int)(z:Int):SJ ((ss++[z]).map q0) (-1)=some (.int z):=by
 unfold SJ SF
 rw[if_neg (by decide),n0,K0,Q1,if_pos (by omega)]
 show ((ss++[z]).map q0)[((-1:Int)+((ss.length+1:Nat):Int)).toNat]?=_
 rw[show ((-1:Int)+((ss.length+1:Nat):Int)).toNat=ss.length by omega]
 simp
noncomputable def xN(n:Int):Int->List (Int×Int)->Bool
 | _,[]=>true
 | a,x :: xs=>if n < x.2\/x.2 < x.1+max a 0 then false else xN n x.2 xs
section
variable {P:Program}{w:World}{K:A0}{mg:Str->Option Value}{base:Heap}
structure CalsSA(P:Program)(w:World)(K:A0)(mg:Str->Option Value)(base:Heap):Prop where
 sum_by_running:Cal P w K mg base 3 "sum_by_running" ["sides","table","box"] (eQ K ZI)
noncomputable def OZ(ss cl:List Int)(z:Int)(b:List Int×List Int):List Int:=(rng z).map λt=>rZ ((hX (ss++[z])).zip cl) (b.1++[t]) (b.2++[t])
noncomputable def OP(ss cl:List Int)(z:Int)(b:List Int×List Int):PyData->PyData
 | .int t=>.int (rZ ((hX (ss++[z])).zip cl) (b.1++[t]) (b.2++[t]))
 | _=>.none
noncomputable def lP:Con:=λargs Q=>∃(ss cl:List Int) (z:Int) (b:List Int×List Int),args=[.fz (oQ (ss++[z])),.fz (.list ((DF (ss++[z]) cl).map q0)),.fz (bxD b)]/\Sd (ss++[z])/\cl.length=(hX (ss++[z])).length/\Bx b.1 b.2 ss/\∀o,Q (.ow (.list ((OZ ss cl z b).map q0))) o
theorem mP:FnScope ["sides","running","base","low","high"] ["sides","running","base"] (cQ (top 16)):=⟨rfl,rfl,rfl,by decide +kernel,rfl,by decide +kernel,by decide +kernel⟩
theorem yN{f:Addr}{fd:FuncData}(F:Fun K "sums_along" "sums_along" (top 16) f fd)(T:Txt mg)(C:CalsSA P w K mg base):FnOk P w K mg base BZ 4 f fd ["sides","running","base"] (eQ K lP):=by
 have S:=mP
 refine TJ F S (λcdv A outer s H E hr=>(fQ (zQ (i:=3) S.nd rfl (Or.inr rfl) (WX rfl (wn 2) (wx iQ)))
     (fQ (zQ (i:=4) S.nd rfl (Or.inr rfl) (WX rfl (wn 2) (wx iQ)))
     (qQ (TQ (zX rfl (own:=["last"]) (fr:=[0,1,3,4]) (by kernel_rfl) (IJ T.range_ (aQ (wx (WX rfl (wn 0) (wx (Zk (wx iQ))))) bQ)) (λ_ _ _ _=>(lQ (i:=0) (by decide +kernel:G2 (["last","sides","running","low","high"]:List Str)) rfl (Or.inl rfl))) (λ_ _ _ _=>uH) (λ_ _ _ _=>(GX C.sum_by_running (hr.mono (by first|decide|omega)) (aQ (wn 1) (aQ (wn 2) (aQ (wx (lX (aQ (wx (w_bin QQ EQ (wn 3) (wx (lX (aQ (wx (wv 0)) bQ))))) (aQ (wx (w_bin QQ EQ (wn 4) (wx (lX (aQ (wx (wv 0)) bQ))))) bQ)))) bQ))))))))))) ?_ ?_
 ·rintro args Qd ⟨ss,cl,z,b,rfl,_⟩;rfl
 ·rintro args Qd ⟨ss,cl,z,b,rfl,hsd,hc,hb,q⟩
  have h3:=hsd.l3
  have hm:=hsd.m
  have hz1:=hsd.p z (by simp)
  have hz2:=pZ hsd.p z (by simp)
  have hbl:=OK hb
  have hpl:=yJ hsd.p
  rw[K0,Q1]at h3
  refine ⟨uQ rfl,?_⟩
  refine ⟨_,rfl,_,rfl,_,sB ss z,by omega,by omega,by rw[vQ,n0,G3];exact FQ (by omega),?_⟩
  rw[xW]
  refine kK (OP ss cl z b) ?_ ?_
  ·intro d hd N hN
   obtain⟨t,ht,rfl⟩:=M0.mp hd
   have ht:=qz ht
   have hbx:Bx (b.1++[t]) (b.2++[t]) (ss++[z]):=IU hb ⟨ht.1,U7 _,ht.2⟩
   have hN:N (.int (rZ ((hX (ss++[z])).zip cl) (b.1++[t]) (b.2++[t]))) _:=hN
   rw[<- GF hsd.p hc hbx]at hN
   have hrl:(DF (ss++[z]) cl).length=(hX (ss++[z])).length:=by simp[DF,sJ hsd.p]
   have hl1:(b.1++[t]).length=ss.length+1:=by rw[K0,Q1];omega
   have hl2:(b.2++[t]).length=ss.length+1:=by rw[K0,Q1];omega
   refine ⟨by show (b.1.map q0).length+1<=sizeLine;rw[n0];exact FQ (by omega),by show (b.2.map q0).length+1<=sizeLine;rw[n0];exact FQ (by omega),?_⟩
   refine ⟨ss++[z],DF (ss++[z]) cl,b.1++[t],b.2++[t],_,?_,.inr rfl,by omega,by omega,by rw[K0,Q1];omega,λs hs=>?_,λcs hcs=>?_,λo=>hN⟩
   ·show _=[Sl.fz _,.fz _,.fz (.tuple [.tuple ((b.1++[t]).map q0),.tuple ((b.2++[t]).map q0)])]
    rw[S2 (l₁:=b.1),S2 (l₁:=b.2)]
    rfl
   ·have h1:=hsd.p s hs
    have h2:=pZ hsd.p s hs
    omega
   ·have h1:=GU (HU hbx (MV hcs))
    exact eB h1.1 (by omega)
  ·have e3:((rng z).map q0).map (OP ss cl z b)=(OZ ss cl z b).map q0:=by
    rw[OZ,R0,R0];rfl
   rw[e3]
   exact q _
noncomputable def hold(ss cl:List Int)(z n:Int)(xs:List ((List Int×List Int)×List Int)):Bool:=xs.all λx=>xN n 0 ((OZ ss cl z x.1).zip x.2)
structure Fld(ss cl:List Int)(z:Int):Prop where
 sd:Sd (ss++[z])
 s0:S0 ss
 c:cl.length=(hX (ss++[z])).length
theorem zN{ss cl:List Int}{z:Int}(h:Fld ss cl z):1<=z/\z<=120:=by
 have h1:=h.sd.p z (by simp)
 have h2:=pZ h.sd.p z (by simp)
 have:=h.sd.m
 omega
theorem lq(l:List Int):nw (.ow (.list (l.map q0)))=true:=by
 show noMutAll (l.map q0)=true
 induction l with
 | nil=>rfl
 | cons a l ih=>exact ih
theorem MU{ss:List Int}(h:S0 ss):(TZ ss).length<=14400:=Cz h (hX ss) (λx h=>h) (HW h)
end
theorem Jv{X:Cx}{e:Expr}{te:TE}{pos:Pos}(he:WE X e te)(hs:swapsWith e none pos.line X.env=pure false:=by rfl):PS X (.Expr e pos) (QK te):=WV he.h hs
theorem uB{X:Cx}{tg iter:Expr}{body:List Stmt}{wi:TI}{g:TG}{tb:TS}{pos:Pos}(hp:PassesOwn (model X.prog X.w) X.A X.env X.xe)(hc:X.calm=true)(hi:WI X tg iter wi)(hg:PG X tg g)(hb:PSs X body tb)
  (hs:∀x,foldedSetIterable iter X.env x=pure x:=by intro _;rfl):PS X (.For tg iter body [] pos) (Qz wi g tb):=ix hp hc hi.h hg hb hs
section
variable {P:Program}{w:World}{K:A0}{mg:Str->Option Value}{base:Heap}
noncomputable def Kv:Con:=λargs Q=>∃(r:List Int) (n:Int),args=[.fz (.list (r.map q0)),.fz (.int n)]/\r.length<=120/\∀o,Q (.ow (.list ((pK r n r.length).map Kj))) o
theorem nL:FnScope ["sums","number","starts","total","found","last","one"] ["sums","number"] (cQ (top 20)):=⟨rfl,rfl,rfl,by decide +kernel,rfl,by decide +kernel,by decide +kernel⟩
theorem vB{f:Addr}{fd:FuncData}(F:Fun K "runs_of" "runs_of" (top 20) f fd)(T:Txt mg):FnOk P w K mg base BZ 1 f fd ["sums","number"] (eQ K Kv):=by
 have S:=nL
 refine TJ F S (λcdv A outer s H E hr=>(Nw (hZ (AK (i:=2) S.nd rfl (Or.inl rfl) (Cq (VJ EJ (IY (tJ EJ WZ)) Aq) rfl rfl (by simp) (by simp))) (hZ (AK (i:=3) S.nd rfl (Or.inl rfl) EJ) (hZ (AK (i:=4) S.nd rfl (Or.inl rfl) (IY WZ)) (hZ (uB PassesOwn.never rfl (JI rfl T.enumerate_ (aQ (wn 0) bQ)) (Iq rfl rfl (FY (XV (i:=5) S.nd rfl (Or.inr rfl)) (FY (XV (i:=6) S.nd rfl (Or.inl rfl)) oq))) (hZ (AK (i:=3) S.nd rfl (Or.inl rfl) (jx op_add (pv 3) (pv 6))) (hZ (Jv (qI vj rfl PySem.F.slot_list_extend PySem.F.type_list_extend Uz (wn 4) (aQ (wx (zX rfl (own:=["first"]) (fr:=[5]) (by kernel_rfl) (qX rfl (OI (WJ hr) (wn 2) (w_bin lZ iZ (wn 3) (wn 1)) ⟨rfl,rfl,rfl,rfl⟩)) (λ_ _ _ _=>(lQ (i:=0) (by decide +kernel:G2 (["first","last"]:List Str)) rfl (Or.inl rfl))) (λ_ _ _ _=>uH) (λ_ _ _ _=>(lX (aQ (wx (wv 0)) (aQ (wx (wv 1)) bQ)))))) bQ))) (UV (WV (DB PySem.F.plainAttrs_list PySem.F.slot_list_append PySem.F.type_list_append eZ (Gw (pv 2) (pv 3) (IY WZ) ⟨rfl,rfl,rfl,rfl⟩) (tJ (jx op_add (pv 5) EJ) WZ) rfl rfl rfl)))))) (UV (VF (pv 4))))))))) ?_ ?_
 ·rintro args Qd ⟨r,n,rfl,_⟩;rfl
 ·rintro args Qd ⟨r,n,rfl,hr,q⟩
  exact ⟨uQ rfl,r,n,hr,rfl,λρ'=>q _⟩
end
theorem JF{x y:Int}{a b:List Int}(h:x < y):HT.lexLt (x :: a) (y :: b)=true:=by rw[HT.lexLt_cons,if_neg (by omega)];exact decide_eq_true h
theorem KF{x:Int}{a b:List Int}(h:HT.lexLt a b=true):HT.lexLt (x :: a) (x :: b)=true:=by rw[HT.lexLt_cons,if_pos rfl];exact h
theorem Dz{l:List Int}{t:List (List Int)}(hl:l.Pairwise (· < ·))(ht:t.Pairwise λa b=>HT.lexLt a b=true):(l.flatMap λx=>t.map λq=>x :: q).Pairwise λa b=>HT.lexLt a b=true:=by
 rw[v6]
 refine ⟨λx _=>?_,hl.imp λ{x y} h a ha b hb=>?_⟩
 ·rw[X4]
  exact ht.imp λh=>KF h
 ·obtain⟨_,_,rfl⟩:=M0.mp ha
  obtain⟨_,_,rfl⟩:=M0.mp hb
  exact JF h
theorem pL(s:Int):(rng s).Pairwise (· < ·):=by
 have:=DY 0 (s - 1)
 rw[NK]at this
 exact this
theorem Lv:∀sd:List Int,(hX sd).Pairwise λa b=>HT.lexLt a b=true
 | []=>m6 _ _
 | s :: sd=>by rw[xK];exact Dz (pL s) (Lv sd)
theorem Mv:∀{lo hi:List Int},lo.length=hi.length->(vH lo hi).Pairwise λa b=>HT.lexLt a b=true
 | [],[],_=>m6 _ _
 | l :: lo,h :: hi,e=>by rw[GW];exact Dz (DY l h) (Mv (by simpa using e))
 | [],_ :: _,e=>by cases e
 | _ :: _,[],e=>by cases e
theorem wB{a b:az}(h:HT.lexLt a.1 b.1=true):aV a b=true:=by
 unfold aV
 rw[if_neg (λz=>by rw[z,SG.lex_wk.irr]at h;cases h)]
 exact h
theorem Nv(sd:List Int):(TZ sd).Pairwise λa b=>aV a b=true:=by
 unfold TZ
 rw[v6]
 refine ⟨λlo hlo=>?_,(Lv sd).imp λ{x y} h a ha b hb=>?_⟩
 ·rw[X4]
  have hw:=BW (rJ hlo)
  refine (Mv (lo:=lo) (hi:=sd.map λs=>s - 1) (by rw[n0];exact hw)).imp λ{x y} h=>?_
  show aV (lo,x) (lo,y)=true
  unfold aV
  rw[if_pos rfl]
  exact h
 ·obtain⟨_,_,rfl⟩:=M0.mp ha
  obtain⟨_,_,rfl⟩:=M0.mp hb
  exact wB h
theorem qL{a b:az}(h:aV a b=true):aV b a=false:=by
 cases q:aV b a with
 | false=>rfl
 | true=>have:=ltB_wk.tr _ _ _ h q;rw[ltB_wk.irr]at this;cases this
noncomputable abbrev yK(sd cl:List Int):List Int×List Int->Int:=λb=>rZ ((hX sd).zip cl) b.1 b.2
noncomputable def bY(sd cl:List Int)(n:Int):List (List Int×List Int):=(TZ sd).filter λb=>decide (yK sd cl b=n)
theorem Pv(sd cl:List Int)(n:Int):(bY sd cl n).Pairwise λa b=>aV a b=true:=(Nv sd).filter _
theorem Uj(sd cl:List Int)(n:Int):(bY sd cl n).Nodup:=(Pv sd cl n).imp λ{a b} h z=>by rw[z,ltB_wk.irr]at h;cases h
theorem Vj(sd:List Int):(TZ sd).Nodup:=(Nv sd).imp λ{a b} h z=>by rw[z,ltB_wk.irr]at h;cases h
theorem LF(ss cl:List Int)(z:Int)(b:List Int×List Int):(OZ ss cl z b).length=z.toNat:=by simp[OZ,xJ]
theorem zK:∀{lo p hi:List Int}{x y z:Int},lo.length=p.length->p.length=hi.length->vK (lo++[x]) (p++[y]) (hi++[z])=(vK lo p hi&&(decide (x<=y)&&decide (y<=z)))
 | [],[],[],x,y,z,_,_=>by simp[vK]
 | a :: lo,b :: p,c :: hi,x,y,z,h1,h2=>by
  have:=zK (lo:=lo) (p:=p) (hi:=hi) (x:=x) (y:=y) (z:=z) (by simpa using h1) (by simpa using h2)
  simp only[List.cons_append,vK,this,Bool.and_assoc]
 | [],[],_ :: _,_,_,_,_,h=>by simp at h
 | [],_ :: _,_,_,_,_,h,_=>by simp at h
 | _ :: _,[],_,_,_,_,h,_=>by simp at h
 | _ :: _,_ :: _,[],_,_,_,_,h=>by simp at h
theorem Ez:∀{q ss:List Int}{z:Int},Wi q (ss++[z])->∃p y,q=p++[y]/\Wi p ss/\0<=y/\y < z
 | [],[],_,h=>h.elim
 | [y],[],z,h=>⟨[],y,rfl,trivial,h.1.1,h.1.2⟩
 | _ :: _ :: _,[],_,h=>h.2.elim
 | [],_ :: _,_,h=>h.elim
 | x :: q,s :: ss,z,h=>by
  obtain⟨p,y,rfl,h1,h2,h3⟩:=Ez h.2
  exact ⟨x :: p,y,rfl,⟨h.1,h1⟩,h2,h3⟩
theorem Fz{α:Type}{f g h:α->Int}:∀{l:List α},(∀x∈l,f x=g x+h x)->(l.map f).sum=(l.map g).sum+(l.map h).sum
 | [],_=>rfl
 | x :: l,e=>by
  have:=Fz (l:=l) λy hy=>e y (u0 _ hy)
  simp only[E1,V5,this,e x B0]
  omega
theorem QV{rows:List (List Int×Int)}{ss lo hi:List Int}{z x y:Int}(hw:∀r∈rows,Wi r.1 (ss++[z]))(hb:Bx lo hi ss)(hxy:x<=y) :
  rZ rows (lo++[x]) (hi++[y+1])=rZ rows (lo++[x]) (hi++[y])+rZ rows (lo++[y+1]) (hi++[y+1]):=by
 have hbl:=OK hb
 rw[wK,wK,wK]
 refine Fz λr hr=>?_
 obtain⟨p,t,e,hp,t0,t1⟩:=Ez (hw r hr)
 have hpl:=BW hp
 rw[e,zK (by omega) (by omega),zK (by omega) (by omega),zK (by omega) (by omega)]
 cases vK lo p hi with
 | false=>rfl
 | true =>
  simp only[d8]
  by_cases h1:x<=t
  ·by_cases h2:t<=y
   ·rw[decide_eq_true h1,decide_eq_true h2,decide_eq_true (show t<=y+1 by omega),decide_eq_false (show ¬y+1<=t by omega)]
    simp
   ·by_cases h3:t<=y+1
    ·rw[decide_eq_true h1,decide_eq_false h2,decide_eq_true h3,decide_eq_true (show y+1<=t by omega)]
     simp
    ·rw[decide_eq_false h2,decide_eq_false h3]
     simp
  ·rw[decide_eq_false h1,decide_eq_false (show ¬y+1<=t by omega)]
   simp
theorem RV:∀{ss lo hi:List Int}{z:Int},Bx lo hi (ss++[z])->∃lo' x hi' y,lo=lo'++[x]/\hi=hi'++[y]/\Bx lo' hi' ss/\0<=x/\x<=y/\y < z
 | [],[x],[y],z,h=>⟨[],x,[],y,rfl,rfl,trivial,h.1.1,h.1.2.1,h.1.2.2⟩
 | [],[],hi,z,h=>by cases hi<;>exact h.elim
 | [],_ :: _,[],z,h=>h.elim
 | [],[_],_ :: _ :: _,z,h=>h.2.elim
 | [],_ :: _ :: _,_ :: hi,z,h=>by cases hi<;>exact h.2.elim
 | _ :: _,[],hi,z,h=>by cases hi<;>exact h.elim
 | _ :: _,_ :: _,[],z,h=>h.elim
 | s :: ss,a :: lo,b :: hi,z,h=>by
  obtain⟨lo',x,hi',y,rfl,rfl,h1,h2,h3,h4⟩:=RV (ss:=ss) (lo:=lo) (hi:=hi) h.2
  exact ⟨a :: lo',x,b :: hi',y,rfl,rfl,⟨h.1,h1⟩,h2,h3,h4⟩
theorem MF{ss cl:List Int}{z:Int}(b:List Int×List Int){i:Nat}(h:(i:Int) < z):(OZ ss cl z b)[i]?=some (rZ ((hX (ss++[z])).zip cl) (b.1++[(i:Int)]) (b.2++[(i:Int)])):=by
 unfold OZ
 rw[D1,rng,D1,i9 (by omega)]
 rfl
theorem NU{ss cl:List Int}{z:Int}{b:List Int×List Int}(hb:Bx b.1 b.2 ss)(x:Nat):∀k:Nat,((x+k:Nat):Int) < z->Sm (OZ ss cl z b) (x+k+1) - Sm (OZ ss cl z b) x=rZ ((hX (ss++[z])).zip cl) (b.1++[(x:Int)]) (b.2++[((x+k:Nat):Int)])
 | 0,h=>by
  have:=AU (MF (ss:=ss) (cl:=cl) b (i:=x) h)
  show Sm _ (x+1) - _=_
  rw[this]
  show _=rZ ((hX (ss++[z])).zip cl) (b.1++[(x:Int)]) (b.2++[(x:Int)])
  omega
 | k+1,h=>by
  have ih:=NU (cl:=cl) (z:=z) hb x k (by omega)
  have h1:=AU (MF (ss:=ss) (cl:=cl) b (i:=x+k+1) (by omega))
  have h4:=QV (rows:=(hX (ss++[z])).zip cl) (ss:=ss) (z:=z) (x:=(x:Int)) (y:=((x+k:Nat):Int)) (λr hr=>rJ (j5 (a:=r.1) (b:=r.2) hr).1) hb (by omega)
  have e:((x+(k+1):Nat):Int)=((x+k:Nat):Int)+1:=by omega
  have e2:((x+k+1:Nat):Int)=((x+k:Nat):Int)+1:=by omega
  rw[e,h4]
  rw[e2]at h1
  have e3:x+(k+1)+1=x+k+1+1:=by omega
  rw[e3,h1]
  omega
theorem mem_rns{r:List Int}{n:Int}{i x y:Nat}:(x,y)∈pK r n i ↔ y < i/\x<=y/\Sm r x=Sm r (y+1) - n:=by
 unfold pK QI
 rw[K3]
 constructor
 ·rintro⟨l,hl,h⟩
  obtain⟨j,hj,e⟩:=M0.mp h
  cases e
  obtain⟨h1,h2⟩:=u4.mp hj
  have h1:=D3.mp h1
  exact ⟨D3.mp hl,by omega,of_decide_eq_true h2⟩
 ·rintro⟨h1,h2,h3⟩
  exact ⟨y,D3.mpr h1,M0.mpr ⟨x,u4.mpr ⟨D3.mpr (by omega),decide_eq_true h3⟩,rfl⟩⟩
theorem Wj(r:List Int)(n:Int)(i:Nat):(pK r n i).Nodup:=by
 unfold pK
 unfold G2
 rw[v6]
 refine ⟨λl _=>?_,List.nodup_range.imp λ{a b} h x hx y hy z=>?_⟩
 ·unfold QI
  rw[X4]
  exact (List.nodup_range.filter _).imp λ{a b} h z=>h (by cases z;rfl)
 ·unfold QI at hx hy
  obtain⟨_,_,rfl⟩:=M0.mp hx
  obtain⟨_,_,rfl⟩:=M0.mp hy
  cases z
  exact h rfl
noncomputable def mq(ss cl:List Int)(z n:Int)(b:List Int×List Int):List (List Int×List Int):=(pK (OZ ss cl z b) n z.toNat).map λp=>(b.1++[(p.1:Int)],b.2++[(p.2:Int)])
noncomputable def rL(ss cl:List Int)(z n:Int):List (List Int×List Int):=(TZ ss).flatMap (mq ss cl z n)
theorem EY{a b:List Int}{x y:Int}(h:a++[x]=b++[y]):a=b/\x=y:=by
 have h1:=List.append_inj_left' h rfl
 have h2:=List.append_inj_right' h rfl
 exact ⟨h1,by simpa using h2⟩
theorem NF{ss cl:List Int}{z n:Int}(hz:0<=z):(rL ss cl z n).Perm (bY (ss++[z]) cl n):=by
 refine (S7 ?_ (Uj _ _ _)).mpr λb=>?_
 ·unfold rL G2
  rw[v6]
  refine ⟨λb _=>?_,(Vj ss).imp λ{a b} h x hx y hy q=>?_⟩
  ·unfold mq
   rw[X4]
   exact (Wj _ _ _).imp λ{p q} h e=>h (by
     injection e with e1 e2
     have h1:=(EY e1).2
     have h2:=(EY e2).2
     exact Prod.ext (by omega) (by omega))
  ·unfold mq at hx hy
   obtain⟨_,_,rfl⟩:=M0.mp hx
   obtain⟨_,_,rfl⟩:=M0.mp hy
   injection q with q1 q2
   exact h (Prod.ext (EY q1).1 (EY q2).1)
 ·unfold rL bY
  rw[K3,u4]
  constructor
  ·rintro⟨c,hc,hb⟩
   unfold mq at hb
   obtain⟨⟨x,y⟩,hp,rfl⟩:=M0.mp hb
   obtain⟨h1,h2,h3⟩:=mem_rns.mp hp
   have hbx:=JW hc
   obtain⟨k,rfl⟩:∃k,y=x+k:=⟨y - x,by omega⟩
   have hs:=NU (cl:=cl) hbx x k (z:=z) (by omega)
   refine ⟨kq (IU hbx ⟨by omega,by show (x:Int)<=((x+k:Nat):Int);omega,by show ((x+k:Nat):Int) < z;omega⟩),decide_eq_true ?_⟩
   show rZ ((hX (ss++[z])).zip cl) (c.1++[(x:Int)]) (c.2++[((x+k:Nat):Int)])=n
   omega
  ·rintro⟨hb,he⟩
   have he:=of_decide_eq_true he
   obtain⟨lo,x,hi,y,e1,e2,hbx,x0,xy,yz⟩:=RV (JW hb)
   obtain⟨b1,b2⟩:=b
   have e1:b1=lo++[x]:=e1
   have e2:b2=hi++[y]:=e2
   subst e1
   subst e2
   obtain⟨x',rfl⟩:=K4 x0
   obtain⟨k,rfl⟩:∃k:Nat,y=((x'+k:Nat):Int):=⟨(y - x').toNat,by omega⟩
   have hs:=NU (cl:=cl) (b:=(lo,hi)) hbx x' k yz
   refine ⟨(lo,hi),kq hbx,M0.mpr ⟨(x',x'+k),mem_rns.mpr ⟨by omega,by omega,?_⟩,rfl⟩⟩
   have he:rZ ((hX (ss++[z])).zip cl) (lo++[(x':Int)]) (hi++[((x'+k:Nat):Int)])=n:=he
   have hs:Sm (OZ ss cl z (lo,hi)) (x'+k+1) - Sm (OZ ss cl z (lo,hi)) x'=rZ ((hX (ss++[z])).zip cl) (lo++[(x':Int)]) (hi++[((x'+k:Nat):Int)]):=hs
   omega
theorem AZ{t u:ZJ}{E:DE}{ρ:Ev}(J:Ev->Prop)(h1:∀N:Ev->Prop,(∀ρ',J ρ'->N ρ')->t { nx:=N,rt:=E.rt,bk:=E.bk,ct:=E.ct } ρ)(h2:∀ρ',J ρ'->u E ρ'):YY t u E ρ:=h1 _ h2
theorem xB{ss cl:List Int}{z n:Int}(hz:0<=z)(h:S0 (ss++[z])):(rL ss cl z n).length<=14400:=by
 rw[(NF hz).length_eq]
 exact A1 (N3 _ _) (MU h)
noncomputable abbrev g1(b:List Int×List Int):Nat×Nat->List Int×List Int:=λp=>(b.1++[(p.1:Int)],b.2++[(p.2:Int)])
section
variable {P:Program}{w:World}{K:A0}{mg:Str->Option Value}{base:Heap}
structure CalsAo(P:Program)(w:World)(K:A0)(mg:Str->Option Value)(base:Heap):Prop where
 all_boxes:Cal P w K mg base 4 "all_boxes" ["sides"] (eQ K Iv)
 running_of:Cal P w K mg base 2 "running_of" ["field"] (eQ K dq)
 sums_along:Cal P w K mg base 4 "sums_along" ["sides","running","base"] (eQ K lP)
 runs_of:Cal P w K mg base 1 "runs_of" ["sums","number"] (eQ K Kv)
noncomputable def AN:Con:=λargs Q=>∃(ss cl:List Int) (z n:Int),args=[.fz (.tuple [oQ (ss++[z]),oQ cl]),.fz (.int n)]/\Fld ss cl z/\∀o,Q (.ow (.list ((bY (ss++[z]) cl n).map bxD))) o
theorem nP:FnScope ["field","number","sides","running","found","base","first","last"] ["field","number"] (cQ (top 19)):=⟨rfl,rfl,rfl,by decide +kernel,rfl,by decide +kernel,by decide +kernel⟩
theorem BN{f:Addr}{fd:FuncData}(F:Fun K "all_of" "all_of" (top 19) f fd)(T:Txt mg)(C:CalsAo P w K mg base):FnOk P w K mg base BZ 5 f fd ["field","number"] (eQ K AN):=by
 have S:=nP
 refine TJ F S (λcdv A outer s H E hr=>(fQ (zQ (i:=2) S.nd rfl (Or.inl rfl) (WX rfl (wn 0) (wx iQ)))
     (fQ (zQ (i:=3) S.nd rfl (Or.inl rfl) (GX C.running_of (hr.mono (by first|decide|omega)) (aQ (wn 0) bQ)))
     (fQ (zQ (i:=4) S.nd rfl (Or.inl rfl) (tX bQ))
     (fQ (MX [5,6,7] PassesOwn.never rfl (qX rfl (GX C.all_boxes (hr.mono (by first|decide|omega)) (aQ (wx (xI rfl (wn 2) (wx (Zk (wx iQ))))) bQ))) (lQ (i:=5) S.nd rfl (Or.inl rfl)) (qQ (MX [6,7] PassesOwn.never rfl (qX rfl (GX C.runs_of (hr.mono (by first|decide|omega)) (aQ (wx (TM C.sums_along (hr.mono (by first|decide|omega)) (aQ (wn 2) (aQ (wn 3) (aQ (wn 5) bQ))))) (aQ (wn 1) bQ)))) (kJ rfl rfl (JQ (lQ (i:=6) S.nd rfl (Or.inl rfl)) (JQ (lQ (i:=7) S.nd rfl (Or.inl rfl)) mZ))) (qQ (lJ (qI DZ rfl PySem.F.slot_list_append PySem.F.type_list_append eZ (wn 4) (aQ (wx (lX (aQ (wx (w_bin QQ EQ (wx (WX rfl (wn 5) (wx iQ))) (wx (lX (aQ (wx (wv 6)) bQ))))) (aQ (wx (w_bin QQ EQ (wx (WX rfl (wn 5) (wx iQ))) (wx (lX (aQ (wx (wv 7)) bQ))))) bQ)))) bQ)))))))
     (qQ (TQ (CQ Fw (oF rfl (wI hr)) T.sorted_ boot_sorted (aQ (wn 4) bQ))))))))) ?_ ?_
 ·rintro args Qd ⟨ss,cl,z,n,rfl,_⟩;rfl
 ·rintro args Qd ⟨ss,cl,z,n,rfl,hf,q⟩
  refine ⟨uQ rfl,?_⟩
  have hm:=zN hf
  have hsd:=hf.sd
  have hfl:=xB (cl:=cl) (n:=n) (show 0<=z by omega) hsd.s0
  refine ⟨_,rfl,?_⟩
  refine ⟨ss++[z],cl,_,rfl,.inl rfl,hsd,hf.c,λo=>?_⟩
  refine ⟨IF ss z,ss,by rw[Tj];rfl,hf.s0,λo=>?_⟩
  refine BX (λrest ρ=>∃(dn rs:List (List Int×List Int)),dn++rs=TZ ss/\rest=rs.map bxD/\ρ=[some (.fz (.tuple [oQ (ss++[z]),oQ cl])),some (.fz (.int n)),some (.fz (oQ (ss++[z]))),some (.ow (.list ((DF (ss++[z]) cl).map q0))),some (.ow (.list ((dn.flatMap (mq ss cl z n)).map bxD))),none,none,none]) ?_ ?_ ⟨[],TZ ss,rfl,rfl,rfl⟩
  ·rintro d ds ρ ⟨dn,rs,hd,er,rfl⟩ N hN
   cases rs with
   | nil=>cases er
   | cons b rs =>
    cases er
    have hb:Bx b.1 b.2 ss:=JW (by rw[<- hd];simp)
    have hbl:=OK hb
    have hl3:=hf.s0.l3
    have htot:(dn.flatMap (mq ss cl z n)).length+(pK (OZ ss cl z b) n z.toNat).length<=14400:=by
     have e:rL ss cl z n=dn.flatMap (mq ss cl z n)++(mq ss cl z n b++rs.flatMap (mq ss cl z n)):=by
      unfold rL
      rw[<- hd,M3,V1]
     rw[e,K0,K0]at hfl
     have e2:(mq ss cl z n b).length=(pK (OZ ss cl z b) n z.toNat).length:=by unfold mq;rw[n0]
     omega
    refine ⟨ss,cl,z,b,rfl,hsd,hf.c,hb,λo=>⟨lq _,?_⟩⟩
    refine ⟨OZ ss cl z b,n,rfl,by rw[LF];omega,λo=>?_⟩
    rw[LF]
    refine BX (λrest ρ=>∃(dp rp:List (Nat×Nat)),dp++rp=pK (OZ ss cl z b) n z.toNat/\rest=rp.map Kj/\ρ=[some (.fz (.tuple [oQ (ss++[z]),oQ cl])),some (.fz (.int n)),some (.fz (oQ (ss++[z]))),some (.ow (.list ((DF (ss++[z]) cl).map q0))),some (.ow (.list ((dn.flatMap (mq ss cl z n)++dp.map (g1 b)).map bxD))),some (.fz (bxD b)),none,none]) ?_ ?_ ⟨[],_,rfl,rfl,by rw[W4,X1];rfl⟩
    ·rintro d ds ρ ⟨dp,rp,hp,er,rfl⟩ M hM
     cases rp with
     | nil=>cases er
     | cons p rp =>
      cases er
      have hdl:dp.length < (pK (OZ ss cl z b) n z.toNat).length:=by rw[<- hp];simp
      refine ⟨rfl,_,rfl,?_⟩
      refine ⟨by show (b.1.map q0).length+1<=sizeLine;rw[n0];exact FQ (by omega),_,rfl,by show (b.2.map q0).length+1<=sizeLine;rw[n0];exact FQ (by omega),?_⟩
      refine ⟨by rw[n0,K0,n0];exact J3 (show (dn.flatMap (mq ss cl z n)).length+dp.length<=14400 by omega) (by decide),?_⟩
      refine hM _ ⟨dp++[p],rp,by rw[<- hp];simp,rfl,?_⟩
      rw[S2 (l₁:=dp),<- K2,S2 (l₂:=[p].map (g1 b))]
      have e:[p].map (g1 b)=[(b.1++[(p.1:Int)],b.2++[(p.2:Int)])]:=rfl
      rw[e]
      have e2:[(b.1++[(p.1:Int)],b.2++[(p.2:Int)])].map bxD=[.tuple [.tuple (b.1.map q0++[.int (p.1:Nat)]),.tuple (b.2.map q0++[.int (p.2:Nat)])]]:=by simp
      rw[e2]
      rfl
    ·rintro ρ ⟨dp,rp,hp,er,rfl⟩
     cases rp with
     | cons _ _=>cases er
     | nil =>
      rw[X1]at hp
      subst hp
      refine hN _ ⟨dn++[b],rs,by rw[<- hd];simp,rfl,?_⟩
      have e:(dn++[b]).flatMap (mq ss cl z n)=dn.flatMap (mq ss cl z n)++(pK (OZ ss cl z b) n z.toNat).map (g1 b):=by
       rw[M3,V1,t7,X1]
       rfl
      rw[e]
      rfl
  ·rintro ρ ⟨dn,rs,hd,er,rfl⟩
   cases rs with
   | cons _ _=>cases er
   | nil =>
    rw[X1]at hd
    subst hd
    refine ⟨rL ss cl z n,rfl,A1 hfl (by decide),λrows' p' s'=>?_⟩
    have e:rows'=bY (ss++[z]) cl n:=SG.sorted_uniq (λa b=>KI) (p'.trans (NF (by omega))) s' ((Pv _ _ _).imp λh=>qL h)
    rw[e]
    exact q _
structure CalsHo(P:Program)(w:World)(K:A0)(mg:Str->Option Value)(base:Heap):Prop where
 all_of:Cal P w K mg base 5 "all_of" ["field","number"] (eQ K AN)
noncomputable def mO:Con:=λargs Q=>∃(ss cl:List Int) (z n:Int),args=[.fz (.tuple [oQ (ss++[z]),oQ cl]),.fz (.int n)]/\Fld ss cl z/\∀o,Q (.fz (.int ((bY (ss++[z]) cl n).length:Nat))) o
theorem oP:FnScope ["field","number"] ["field","number"] (cQ (top 18)):=⟨rfl,rfl,rfl,by decide +kernel,rfl,by decide +kernel,by decide +kernel⟩
theorem CN{f:Addr}{fd:FuncData}(F:Fun K "how_many_of" "how_many_of" (top 18) f fd)(T:Txt mg)(C:CalsHo P w K mg base):FnOk P w K mg base BZ 6 f fd ["field","number"] (eQ K mO):=by
 have S:=oP
 refine TJ F S (λcdv A outer s H E hr=>(qQ (TQ (CQ QX (SQ (K:=K) rfl) T.len_ PySem.boot_len (aQ (wx (GX C.all_of (hr.mono (by first|decide|omega)) (aQ (wn 0) (aQ (wn 1) bQ)))) bQ))))) ?_ ?_
 ·rintro args Qd ⟨ss,cl,z,n,rfl,_⟩;rfl
 ·rintro args Qd ⟨ss,cl,z,n,rfl,hf,q⟩
  refine ⟨uQ rfl,?_⟩
  refine ⟨ss,cl,z,n,rfl,hf,λo=>?_⟩
  refine (?_:Qd (.fz (.int (((bY (ss++[z]) cl n).map bxD).length:Nat))) _)
  rw[n0]
  exact q _
end
theorem mC:∀{sd lo hi:List Int},Bx lo hi sd->Wi lo sd/\Wi hi sd/\RM.leq hi lo=true
 | [],[],[],_=>⟨trivial,trivial,rfl⟩
 | s :: sd,x :: lo,y :: hi,h=>by
  have h1:=h.1
  obtain⟨a,b,c⟩:=mC h.2
  refine ⟨⟨⟨h1.1,by omega⟩,a⟩,⟨⟨by omega,h1.2.2⟩,b⟩,?_⟩
  rw[RM.leq_cons,c,decide_eq_true h1.2.1];rfl
 | [],[],_ :: _,h=>h.elim
 | [],_ :: _,z,h=>by cases z<;>exact h.elim
 | _ :: _,[],z,h=>by cases z<;>exact h.elim
 | _ :: _,_ :: _,[],h=>h.elim
theorem Rv{sd p:List Int}(hs:S0 sd)(h:Wi p sd):∀x∈p,0<=x/\x<=120:=by
 have hm:=hs.m
 have h2:=pZ hs.p
 have gen:∀{sd p:List Int},(∀c∈sd,c<=120)->Wi p sd->∀x∈p,0<=x/\x<=120:=by
  intro sd
  induction sd with
  | nil =>
   intro p _ h x hx
   cases p with
   | nil=>cases hx
   | cons _ _=>exact h.elim
  | cons s sd ih =>
   intro p hc h x hx
   cases p with
   | nil=>cases hx
   | cons y p =>
    rcases U1.mp hx with rfl|hx
    ·have:=hc s B0
     have:=h.1
     omega
    ·exact ih (λc hc'=>hc c (u0 _ hc')) h.2 x hx
 exact gen (λc hc=>by have:=h2 c hc;omega) h
theorem yB{ss:List Int}{b:List Int×List Int}(hs:S0 ss)(hb:Bx b.1 b.2 ss):Nice 2 (bxD b)/\(bxD b).showable=true/\(bxD b).shown.length<=60:=by
 have hbl:=OK hb
 have h3:=hs.l3
 obtain⟨w1,w2,_⟩:=mC hb
 have sm:∀{p:List Int},Wi p ss->∀x∈p,0<=x/\x<=120:=λ{p} hw x hx=>Rv hs hw x hx
 have hi:∀i:Int,0<=i->i<=120->(q0 i).shown.length<=4/\(q0 i).showable=true:=λi i0 i1 =>
  ⟨Ej (k:=3) (by decide) (by omega),uU (k:=10) (by omega) (by decide)⟩
 have one:∀{p:List Int},Wi p ss->(oQ p).showable=true/\(oQ p).shown.length<=21:=λ{p} hw=>by
  have hpl:=BW hw
  refine ⟨L3.showableAll_of λd hd=>?_,?_⟩
  ·obtain⟨x,hx,rfl⟩:=M0.mp hd
   exact (hi x (sm hw x hx).1 (sm hw x hx).2).2
  ·have:=YK (l:=p.map q0) (b:=4) λd hd=>by
    obtain⟨x,hx,rfl⟩:=M0.mp hd
    exact (hi x (sm hw x hx).1 (sm hw x hx).2).1
   rw[n0]at this
   exact A1 this (by omega)
 refine ⟨.tuple λd hd=>?_,L3.showableAll_of λd hd=>?_,?_⟩
 ·simp only[U1,r8,or_false]at hd
  rcases hd with rfl|rfl
  ·exact Nice.tup _
  ·exact Nice.tup _
 ·simp only[U1,r8,or_false]at hd
  rcases hd with rfl|rfl
  ·exact (one w1).1
  ·exact (one w2).1
 ·have:=YK (l:=[oQ b.1,oQ b.2]) (b:=21) λd hd=>by
   simp only[U1,r8,or_false]at hd
   rcases hd with rfl|rfl
   ·exact (one w1).2
   ·exact (one w2).2
  exact A1 this (show 2 * (21+2)+3<=60 by decide)
theorem OF:∀p:List Int,JU p p=true
 | []=>rfl
 | x :: p=>by simp[JU,OF p]
theorem zB{sd cl p:List Int}(hp:∀c∈sd,1<=c)(hl:cl.length=(hX sd).length)(h:Wi p sd):rZ ((hX sd).zip cl) p p=cl.getD (qZ sd p).toNat 0:=by
 have hb:Bx p p sd:=Bv h h (by rw[IW];exact OF p)
 have hr:=GU h
 have hN:=sJ hp
 rw[<- GF hp hl hb,fB hp h]
 have e:=sN hp (cl:=cl) (by omega)
 have e2:(lO sd (DF sd cl)).getD (qZ sd p).toNat 0=RM.dif sd (λi=>(DF sd cl).getD i 0) (qZ sd p).toNat:=EW (by have:=prodN_I hp;omega)
 rw[<- e2,e]
noncomputable def f1(n j:Nat):List (List Int×List Int):=(O0 (n - j)).map λ(i:Nat)=>([(j:Int)],[(j:Int)+(i:Int)])
theorem Sv{α β:Type}(f:α->β):∀l:List α,(l.flatMap λx=>[f x])=l.map f
 | []=>rfl
 | x :: l=>by rw[V1,E1,Sv f l];rfl
theorem nC{α β:Type}{f g:α->List β}:∀{l:List α},(∀x∈l,f x=g x)->l.flatMap f=l.flatMap g
 | [],_=>rfl
 | x :: l,h=>by rw[V1,V1,h x B0,nC λy hy=>h y (u0 _ hy)]
theorem pP(z:Int):hX [z]=(rng z).map λx=>[x]:=by
 rw[xK]
 show ((rng z).flatMap λx=>[[x]])=_
 rw[Sv]
theorem qP(a b:Int):vH [a] [b]=(SX a b).map λx=>[x]:=by
 rw[GW]
 show ((SX a b).flatMap λx=>[[x]])=_
 rw[Sv]
theorem rP(n:Nat):TZ [(n:Int)]=(O0 n).flatMap (f1 n):=by
 unfold TZ
 rw[pP,rng,j6,j4,j6]
 refine nC λj hj=>?_
 show (vH [(j:Int)] [(n:Int) - 1]).map (λhi=>([(j:Int)],hi))=_
 rw[qP,R0,SX,R0,f1]
 have e:((n:Int) - 1+1 - (j:Int)).toNat=n - j:=by omega
 rw[e]
 rfl
structure Rw(cs:List Int)(n:Nat):Prop where
 l:cs.length=n
 n1:1<=n
 n2:n<=120
theorem Rw.fld{cs:List Int}{n:Nat}(h:Rw cs n):Fld [] cs (n:Int):=by
 have hp:∀c∈([]++[(n:Int)]:List Int),1<=c:=λc hc=>by
  have:c=n:=by simpa using hc
  have:=h.n1
  omega
 have e:prodI [(n:Int)]=n:=by show (n:Int) * 1=n;omega
 have:=h.n2
 refine ⟨⟨by simp,by simp,hp,by show prodI [(n:Int)]<=120;omega⟩,⟨by simp,λc hc=>(by cases hc),by decide⟩,?_⟩
 have:=yJ hp
 have e:prodI ([]++[(n:Int)])=n:=e
 have:=h.l
 omega
theorem Tv{cs:List Int}{n:Nat}(h:Rw cs n){t:Nat}(ht:t < n):rZ ((hX [(n:Int)]).zip cs) [(t:Int)] [(t:Int)]=cs.getD t 0:=by
 have hf:=h.fld
 have:=zB (sd:=[(n:Int)]) (cl:=cs) (p:=[(t:Int)]) hf.sd.p hf.c ⟨⟨by omega,by omega⟩,trivial⟩
 rw[this]
 have e:(qZ [(n:Int)] [(t:Int)]).toNat=t:=by
  show ((0:Int) * n+t).toNat=t
  omega
 rw[e]
theorem Uv{cs:List Int}{n:Nat}(h:Rw cs n){l m:Nat}(hm:l+(m+1) < n):yK [(n:Int)] cs ([(l:Int)],[(l:Int)+((m+1:Nat):Int)])=yK [(n:Int)] cs ([(l:Int)],[(l:Int)+(m:Int)])+cs.getD (l+(m+1)) 0:=by
 have h4:=QV (rows:=(hX ([]++[(n:Int)])).zip cs) (ss:=[]) (lo:=[]) (hi:=[]) (z:=(n:Int)) (x:=(l:Int)) (y:=(l:Int)+(m:Int)) (λr hr=>rJ (j5 (a:=r.1) (b:=r.2) hr).1) trivial (by omega)
 have h5:=Tv h hm
 have e:((l+(m+1):Nat):Int)=(l:Int)+(m:Int)+1:=by omega
 rw[e]at h5
 have e2:(l:Int)+((m+1:Nat):Int)=(l:Int)+(m:Int)+1:=by omega
 rw[e2]
 show rZ ((hX [(n:Int)]).zip cs) [(l:Int)] [(l:Int)+(m:Int)+1]=rZ ((hX [(n:Int)]).zip cs) [(l:Int)] [(l:Int)+(m:Int)]+_
 rw[<- h5]
 exact h4
theorem Gz{sd:List Int}{l:List (List Int×List Int)}(hs:S0 sd)(hl:l.length<=14400)(h:∀b∈l,b∈TZ sd):Nice 3 (.list (l.map bxD))/\(X2 (l.map bxD)).showable=true/\(X2 (l.map bxD)).shown.length<=sizeLine:=by
 have one:∀d∈l.map bxD,Nice 2 d/\d.showable=true/\d.shown.length<=60:=λd hd=>by
  obtain⟨b,hb,rfl⟩:=M0.mp hd
  exact yB hs (JW (h b hb))
 refine ⟨.list λd hd=>(one d hd).1,L3.showableAll_of λd hd=>(one d hd).2.1,?_⟩
 have h5:=JD (b:=60) λd hd=>(one d hd).2.2
 rw[n0]at h5
 exact A1 h5 (A1 (show l.length * (60+2)+3<=14400 * 62+3 by omega) (by decide))
section
variable {P:Program}{w:World}{K:A0}{mg:Str->Option Value}{base:Heap}
structure CalsLr(P:Program)(w:World)(K:A0)(mg:Str->Option Value)(base:Heap):Prop where
 law_take:Cal P w K mg base 2 "_law_take" ["_law_state","_law_most"] (eQ K vW)
 all_of:Cal P w K mg base 5 "all_of" ["field","number"] (eQ K AN)
 how_many_of:Cal P w K mg base 6 "how_many_of" ["field","number"] (eQ K mO)
noncomputable def sP:Con:=λargs Q=>∃(ns:List Int) (k l:Int),args=[.io (nX ns k l)]/\0<=k/\0<=l/\∀(k' l':Int) (o:Ev),0<=k'->0<=l'->Q (.fz (.bool true)) (some (.io (nX ns k' l')) :: o)
theorem tP:FnScope ["_law_state","_law_worth","_law_some","_law_cells_here","_law_number_here","_law_due","_law_low","_law_total","_law_high","_law_field"] ["_law_state"] (cQ (top 34)):=⟨rfl,rfl,rfl,by decide +kernel,rfl,by decide +kernel,by decide +kernel⟩
theorem DN{f:Addr}{fd:FuncData}(F:Fun K "_law_long_right" "_law_long_right" (top 34) f fd)(T:Txt mg)(C:CalsLr P w K mg base):FnOk P w K mg base BZ 7 f fd ["_law_state"] (eQ K sP):=by
 have S:=tP
 refine TJ F S (λcdv A outer s H E hr=>(fQ (zQ (i:=1) S.nd rfl (Or.inl rfl) (w_bin lZ iZ (wx (bX C.law_take (hr.mono (by first|decide|omega)) (aQ (wn 0) (aQ (wx iQ) bQ)))) (wx iQ)))
     (fQ (zQ (i:=2) S.nd rfl (Or.inr rfl) (WX rfl (wx (tX (aQ (wx (tX (aQ (wx (wv 1)) bQ))) (aQ (wx (tX (aQ (wx iQ) (aQ (wx (wv 1)) bQ)))) (aQ (wx (tX (aQ (wx (wv 1)) (aQ (wx (w_bin lZ iZ (wx iQ) (wn 1))) bQ)))) bQ))))) (wx (bX C.law_take (hr.mono (by first|decide|omega)) (aQ (wn 0) (aQ (wx iQ) bQ))))))
     (fQ (tU (i:=3) S.nd rfl rfl rfl (own:=["_law_k"]) (fr:=[2,0]) (by kernel_rfl) (IJ T.range_ (aQ (wx (w_bin QQ EQ (wx iQ) (wx (bX C.law_take (hr.mono (by first|decide|omega)) (aQ (wn 0) (aQ (wx iQ) bQ)))))) bQ)) (λ_ _ _ _=>(lQ (i:=0) (by decide +kernel:G2 (["_law_k","_law_some","_law_state"]:List Str)) rfl (Or.inl rfl))) (λ_ _ _ _=>uH) (λ_ _ _ _=>(WX rfl (wn 1) (wx (bX C.law_take (hr.mono (by first|decide|omega)) (aQ (wn 2) (aQ (wx (CQ QX (SQ (K:=K) rfl) T.len_ PySem.boot_len (aQ (wn 1) bQ))) bQ)))))))
     (fQ (zQ (i:=4) S.nd rfl (Or.inl rfl) (WX rfl (wx (tX (aQ (wx iQ) (aQ (wx (wv 1)) (aQ (wx (w_bin LX pX (wn 1) (wx iQ))) bQ))))) (wx (bX C.law_take (hr.mono (by first|decide|omega)) (aQ (wn 0) (aQ (wx iQ) bQ))))))
     (fQ (zQ (i:=5) S.nd rfl (Or.inl rfl) (tX bQ))
     (fQ (MX [6,7,8] PassesOwn.never rfl (IJ T.range_ (aQ (wx (CQ QX (SQ (K:=K) rfl) T.len_ PySem.boot_len (aQ (wn 3) bQ))) bQ)) (lQ (i:=6) S.nd rfl (Or.inl rfl)) (fQ (zQ (i:=7) S.nd rfl (Or.inl rfl) iQ)
     (qQ (MX [8] PassesOwn.never rfl (fw T.range_ (aQ (wn 6) (aQ (wx (CQ QX (SQ (K:=K) rfl) T.len_ PySem.boot_len (aQ (wn 3) bQ))) bQ))) (lQ (i:=8) S.nd rfl (Or.inl rfl)) (fQ (zQ (i:=7) S.nd rfl (Or.inl rfl) (w_bin QQ EQ (wn 7) (wx (WX rfl (wn 3) (wn 8)))))
     (qQ (KJ (YX UK (jJ (K:=K) rfl hr.units) (wn 7) (wn 4)) (qQ (lJ (qI DZ rfl PySem.F.slot_list_append PySem.F.type_list_append eZ (wn 5) (aQ (wx (lX (aQ (wx (lX (aQ (wx (wv 6)) bQ))) (aQ (wx (lX (aQ (wx (wv 8)) bQ))) bQ)))) bQ)))) nZ)))))))
     (fQ (zQ (i:=9) S.nd rfl (Or.inl rfl) (lX (aQ (wx (lX (aQ (wx (CQ QX (SQ (K:=K) rfl) T.len_ PySem.boot_len (aQ (wn 3) bQ))) bQ))) (aQ (wx (vZ kZ (rX (K:=K) rfl) T.tuple_ boot_tuple (aQ (wn 3) bQ))) bQ))))
     (qQ (TQ (NB (aw UK (jJ (K:=K) rfl hr.units) (wx (CQ uY (MZ (K:=K) rfl hr) T.repr_ boot_repr (aQ (wx (GX C.all_of (hr.mono (by first|decide|omega)) (aQ (wn 9) (aQ (wn 4) bQ)))) bQ))) (wx (CQ uY (MZ (K:=K) rfl hr) T.repr_ boot_repr (aQ (wn 5) bQ)))) (MB (aw UK (jJ (K:=K) rfl hr.units) (wx (GX C.how_many_of (hr.mono (by first|decide|omega)) (aQ (wn 9) (aQ (wn 4) bQ)))) (wx (CQ QX (SQ (K:=K) rfl) T.len_ PySem.boot_len (aQ (wn 5) bQ)))))))))))))))) ?_ ?_
 ·rintro args Qd ⟨ns,k,l,rfl,_⟩;rfl
 ·rintro args Qd ⟨ns,k,l,rfl,hk,hl,q⟩
  refine ⟨uQ rfl,?_⟩
  refine AZ (λρ=>∃mo k1 l1:Int,-1<=mo/\mo < 2/\0<=k1/\0<=l1/\ρ=[some (.io (nX ns k1 l1)),some (.fz (.int mo)),none,none,none,none,none,none,none,none]) ?_ ?_
  ·intro N hN
   exact ⟨ns,k,l,_,rfl,hk,hl,by decide,by decide,λmo k1 l1 _ m0 m1 hk1 hl1=>hN _ ⟨mo - 1,k1,l1,by omega,by omega,hk1,hl1,rfl⟩⟩
  rintro ρ ⟨mo,k1,l1,m0,m1,hk1,hl1,rfl⟩
  refine AZ (λρ=>∃(sm:List Int) (k l:Int),0<=k/\0<=l/\1<=sm.length/\sm.length<=3/\ρ=[some (.io (nX ns k l)),some (.fz (.int mo)),some (.fz (.list (sm.map q0))),none,none,none,none,none,none,none]) ?_ ?_
  ·intro N hN
   refine ⟨ns,k1,l1,_,rfl,hk1,hl1,by decide,by decide,λr k2 l2 _ r0 r1 hk2 hl2=>?_⟩
   have pick:∃sm:List Int,SJ [X2 [.int mo],X2 [.int 0,.int mo],X2 [.int mo,.int (0 - mo)]] r=some (.list (sm.map q0))/\1<=sm.length/\sm.length<=3:=by
    have hw:r=0\/r=1\/r=2:=by omega
    rcases hw with rfl|rfl|rfl
    ·exact ⟨[mo],rfl,by simp,by simp⟩
    ·exact ⟨[0,mo],rfl,by simp,by simp⟩
    ·exact ⟨[mo,0 - mo],rfl,by simp,by simp⟩
   obtain⟨sm,hat,s1,s3⟩:=pick
   exact ⟨_,hat,hN _ ⟨sm,k2,l2,hk2,hl2,s1,s3,rfl⟩⟩
  rintro ρ ⟨sm,k,l,hk,hl,s1,s3,rfl⟩
  refine AZ (λρ=>∃(cs:List Int) (n:Nat) (k l:Int),0<=k/\0<=l/\Rw cs n/\ρ=[some (.io (nX ns k l)),some (.fz (.int mo)),some (.fz (.list (sm.map q0))),some (.ow (.list (cs.map q0))),none,none,none,none,none,none]) ?_ ?_
  ·intro N hN
   refine ⟨ns,k,l,_,rfl,hk,hl,by decide,by decide,λr k2 l2 _ r0 r1 hk2 hl2=>?_⟩
   refine ⟨by omega,by omega,by rw[vQ,n0,G3];exact FQ (by omega),fF (λrest acc τ=>∃(cs:List Int) (k4 l4:Int),τ=[none,some (.fz (.list (sm.map q0))),some (.io (nX ns k4 l4))]/\acc=cs.map q0/\(cs.length+rest.length:Int)=70+r/\0<=k4/\0<=l4) ?_ ?_
       ⟨[],k2,l2,rfl,rfl,by simp[vQ];omega,hk2,hl2⟩⟩
   ·rintro d ds acc τ ⟨cs,k4,l4,rfl,rfl,hlen,hk4,hl4⟩ N hN
    refine ⟨ns,k4,l4,_,rfl,hk4,hl4,by rw[n0];omega,by rw[n0];omega,λx k5 l5 _ x0 x1 hk5 hl5=>?_⟩
    rw[n0]at x1
    obtain⟨x',ex⟩:=K4 x0
    subst ex
    refine ⟨_,CY (xs:=sm) (i:=x') (by omega),?_⟩
    exact hN _ _ ⟨cs++[sm.getD x' 0],k5,l5,rfl,by simp[Sl.d],by simp at hlen ⊢;omega,hk5,hl5⟩
   ·rintro acc τ ⟨cs,k4,l4,rfl,rfl,hlen,hk4,hl4⟩
    simp at hlen
    exact hN _ ⟨cs,cs.length,k4,l4,hk4,hl4,⟨rfl,by omega,by omega⟩,rfl⟩
  rintro ρ ⟨cs,n,k,l,hk,hl,hrw,rfl⟩
  have hcl:=hrw.l
  have hn1:=hrw.n1
  have hn2:=hrw.n2
  have ecl:(cs.map q0).length=n:=by rw[n0];exact hcl
  refine AZ (λρ=>∃nu k l:Int,0<=k/\0<=l/\ρ=[some (.io (nX ns k l)),some (.fz (.int mo)),some (.fz (.list (sm.map q0))),some (.ow (.list (cs.map q0))),some (.fz (.int nu)),none,none,none,none,none]) ?_ ?_
  ·intro N hN
   refine ⟨.inr ⟨by decide,by decide⟩,ns,k,l,_,rfl,hk,hl,by decide,by decide,λr k2 l2 _ r0 r1 hk2 hl2=>?_⟩
   have pick:∃nu:Int,SJ [q0 0,.int mo,.int (mo * 20)] r=some (.int nu):=by
    have hw:r=0\/r=1\/r=2:=by omega
    rcases hw with rfl|rfl|rfl
    ·exact ⟨_,rfl⟩
    ·exact ⟨_,rfl⟩
    ·exact ⟨_,rfl⟩
   obtain⟨nu,hat⟩:=pick
   exact ⟨_,hat,hN _ ⟨nu,k2,l2,hk2,hl2,rfl⟩⟩
  rintro ρ ⟨nu,k,l,hk,hl,rfl⟩
  refine AZ (λρ=>ρ=[some (.io (nX ns k l)),some (.fz (.int mo)),some (.fz (.list (sm.map q0))),some (.ow (.list (cs.map q0))),some (.fz (.int nu)),some (.ow (.list [])),none,none,none,none]) (λN hN=>hN _ rfl) ?_
  rintro ρ rfl
  have hfl:∀P:List (List Int×List Int),(P.filter λb=>decide (yK [(n:Int)] cs b=nu)).length<=P.length:=λP=>N3 _ _
  refine AZ (λρ=>ρ=[some (.io (nX ns k l)),some (.fz (.int mo)),some (.fz (.list (sm.map q0))),some (.ow (.list (cs.map q0))),some (.fz (.int nu)),some (.ow (.list ((bY [(n:Int)] cs nu).map bxD))),none,none,none,none]) ?_ ?_
  ·intro N hN
   refine ⟨by rw[ecl];omega,by rw[ecl];omega,?_⟩
   refine (?_:LZ _ _ _ _ (vQ 0 ((((cs.map q0).length:Nat):Int).toNat)) _)
   rw[ecl,j4]
   refine BX (λrest ρ=>∃(j m:Nat),j+m=n/\rest=vQ j m/\((O0 j).flatMap (f1 n)).length<=j * 120/\ρ=[some (.io (nX ns k l)),some (.fz (.int mo)),some (.fz (.list (sm.map q0))),some (.ow (.list (cs.map q0))),some (.fz (.int nu)),some (.ow (.list ((((O0 j).flatMap (f1 n)).filter λb=>decide (yK [(n:Int)] cs b=nu)).map bxD))),none,none,none,none]) ?_ ?_ ⟨0,n,by omega,rfl,by simp,rfl⟩
   ·rintro d ds ρ ⟨j,m,hj,er,hjl,rfl⟩ M hM
    cases m with
    | zero=>cases er
    | succ m =>
     rw[wX]at er
     cases er
     refine ⟨⟨by omega,by omega,by rw[ecl];omega,by rw[ecl];omega⟩,?_⟩
     refine (?_:LZ _ _ _ _ (vQ (j:Int) (((((cs.map q0).length:Nat):Int) - (j:Int)).toNat)) _)
     have enj:((((cs.map q0).length:Nat):Int) - (j:Int)).toNat=n - j:=by rw[ecl];omega
     rw[enj]
     refine BX (λrest ρ=>∃(u v:Nat) (tot:Int),u+v=n - j/\rest=vQ ((j:Int)+(u:Int)) v/\((u=0/\tot=0)\/∃u',u=u'+1/\tot=yK [(n:Int)] cs ([(j:Int)],[(j:Int)+(u':Int)])) /\
       ρ=[some (.io (nX ns k l)),some (.fz (.int mo)),some (.fz (.list (sm.map q0))),some (.ow (.list (cs.map q0))),some (.fz (.int nu)),some (.ow (.list ((((O0 j).flatMap (f1 n)++(O0 u).map λ(i:Nat)=>([(j:Int)],[(j:Int)+(i:Int)])).filter λb=>decide (yK [(n:Int)] cs b=nu)).map bxD))),some (.fz (.int j)),some (.fz (.int tot)),none,none]) ?_ ?_ ⟨0,n - j,0,by omega,by simp,.inl ⟨rfl,rfl⟩,by rw[List.range_zero,W4,X1];rfl⟩
     ·rintro d ds ρ ⟨u,v,tot,huv,er,htot,rfl⟩ M2 hM2
      cases v with
      | zero=>cases er
      | succ v =>
       rw[wX]at er
       cases er
       have hju:j+u < cs.length:=by omega
       have eat:SJ (cs.map q0) ((j:Int)+(u:Int))=some (.int (cs.getD (j+u) 0)):=by
        have:=CY hju
        rw[show ((j+u:Nat):Int)=(j:Int)+(u:Int) by omega]at this
        exact this
       have etot:tot+cs.getD (j+u) 0=yK [(n:Int)] cs ([(j:Int)],[(j:Int)+(u:Int)]):=by
        rcases htot with⟨rfl,rfl⟩|⟨u',rfl,rfl⟩
        ·have:=Tv hrw (t:=j) (by omega)
         show (0:Int)+cs.getD (j+0) 0=rZ ((hX [(n:Int)]).zip cs) [(j:Int)] [(j:Int)+((0:Nat):Int)]
         rw[show (j:Int)+((0:Nat):Int)=(j:Int) by omega,this]
         simp
        ·exact (Uv hrw (by omega)).symm
       have ern:(O0 (u+1)).map (λ(i:Nat)=>(([(j:Int)],[(j:Int)+(i:Int)]):List Int×List Int))=(O0 u).map (λ(i:Nat)=>([(j:Int)],[(j:Int)+(i:Int)]))++[([(j:Int)],[(j:Int)+(u:Int)])]:=by rw[A4,S2];rfl
       refine ⟨_,eat,?_⟩
       have eq1:(((O0 j).flatMap (f1 n)++(O0 (u+1)).map λ(i:Nat)=>([(j:Int)],[(j:Int)+(i:Int)])).filter λb=>decide (yK [(n:Int)] cs b=nu))=(((O0 j).flatMap (f1 n)++(O0 u).map λ(i:Nat)=>([(j:Int)],[(j:Int)+(i:Int)])).filter λb=>decide (yK [(n:Int)] cs b=nu))++(if tot+cs.getD (j+u) 0=nu then [([(j:Int)],[(j:Int)+(u:Int)])] else []):=by
        rw[ern,<- K2,K6]
        congr 1
        by_cases q1:tot+cs.getD (j+u) 0=nu
        ·rw[if_pos q1,Z4 (by rw[<- etot];exact decide_eq_true q1)];rfl
        ·rw[if_neg q1,d5 (by rw[<- etot,decide_eq_false q1];decide)];rfl
       have hsz:((((O0 j).flatMap (f1 n)++(O0 u).map λ(i:Nat)=>([(j:Int)],[(j:Int)+(i:Int)])).filter λb=>decide (yK [(n:Int)] cs b=nu)).map bxD).length < sizeLine:=by
        rw[n0]
        refine J3 (hfl _) ?_
        rw[K0,n0,G3]
        exact J3 (show _<=20000 by have:j * 120<=120 * 120:=U5 _ (by omega);omega) (by decide)
       have nx:∀L,L=((((O0 j).flatMap (f1 n)++(O0 (u+1)).map λ(i:Nat)=>([(j:Int)],[(j:Int)+(i:Int)])).filter λb=>decide (yK [(n:Int)] cs b=nu)).map bxD)->M2 [some (.io (nX ns k l)),some (.fz (.int mo)),some (.fz (.list (sm.map q0))),some (.ow (.list (cs.map q0))),some (.fz (.int nu)),some (.ow (.list L)),some (.fz (.int j)),some (.fz (.int (tot+cs.getD (j+u) 0))),none,none]:=λL eL =>
        hM2 _ ⟨u+1,v,_,by omega,by rw[show (j:Int)+((u+1:Nat):Int)=(j:Int)+(u:Int)+1 by omega],.inr ⟨u,rfl,etot⟩,by rw[eL]⟩
       refine wZ (λh=>?_) (λh=>?_)
       ·have h:tot+cs.getD (j+u) 0=nu:=of_decide_eq_true h
        refine ⟨hsz,?_⟩
        refine nx _ ?_
        rw[eq1,if_pos h,S2]
        rfl
       ·have h:¬tot+cs.getD (j+u) 0=nu:=λy=>h (decide_eq_true y)
        refine nx _ ?_
        rw[eq1,if_neg h,X1]
     ·rintro ρ ⟨u,v,tot,huv,er,htot,rfl⟩
      cases v with
      | succ v=>rw[wX]at er;cases er
      | zero =>
       have eu:u=n - j:=by omega
       have ef:(O0 (j+1)).flatMap (f1 n)=(O0 j).flatMap (f1 n)++(O0 u).map λ(i:Nat)=>([(j:Int)],[(j:Int)+(i:Int)]):=by
        rw[A4,M3,eu]
        simp[f1]
       refine hM _ ⟨j+1,m,by omega,rfl,?_,?_⟩
       ·rw[ef,K0,n0,G3];omega
       ·rw[ef];rfl
   ·rintro ρ ⟨j,m,hj,er,hjl,rfl⟩
    cases m with
    | succ m=>rw[wX]at er;cases er
    | zero =>
     have:j=n:=by omega
     subst this
     refine hN _ ?_
     unfold bY
     rw[rP]
  rintro ρ rfl
  have hf:=hrw.fld
  have hs0:S0 [(n:Int)]:=hf.sd.s0
  obtain⟨nf,sf,lf⟩:=Gz (l:=bY [(n:Int)] cs nu) hs0 (A1 (N3 _ _) (MU hs0)) λb hb=>(u4.mp hb).1
  refine AZ (λρ=>ρ=[some (.io (nX ns k l)),some (.fz (.int mo)),some (.fz (.list (sm.map q0))),some (.ow (.list (cs.map q0))),some (.fz (.int nu)),some (.ow (.list ((bY [(n:Int)] cs nu).map bxD))),none,none,none,some (.fz (.tuple [oQ [(n:Int)],oQ cs]))]) ?_ ?_
  ·intro N hN
   refine hN _ ?_
   show [some (Sl.io (nX ns k l)),some (.fz (.int mo)),some (.fz (.list (sm.map q0))),some (.ow (.list (cs.map q0))),some (.fz (.int nu)),some (.ow (.list ((bY [(n:Int)] cs nu).map bxD))),none,none,none,some (.fz (.tuple [.tuple [.int (((cs.map q0).length:Nat):Int)],.tuple (cs.map q0)]))]=_
   rw[ecl]
   rfl
  rintro ρ rfl
  have dp:(X2 ((bY [(n:Int)] cs nu).map bxD)).depth+1<=64:=A1 (Nat.succ_le_succ nf.d) (by decide)
  refine ⟨[],cs,(n:Int),nu,rfl,hf,λo=>?_⟩
  have e0:bY ([]++[(n:Int)]) cs nu=bY [(n:Int)] cs nu:=rfl
  rw[e0]
  refine ⟨nf.p,sf,dp,lf,nf.p,sf,dp,lf,?_⟩
  generalize O6 (Sl.ow (X2 ((bY [(n:Int)] cs nu).map bxD))).d=Sx
  refine wZ (λ_=>?_) (λh=>?_)
  ·refine ⟨[],cs,(n:Int),nu,rfl,hf,λo=>?_⟩
   refine (?_:Qd (.fz (.bool (decide (((bY [(n:Int)] cs nu).length:Int)=((((bY [(n:Int)] cs nu).map bxD).length:Nat):Int))))) _)
   rw[n0,decide_eq_true rfl]
   exact q _ _ _ hk hl
  ·exfalso
   have h:¬decide (Sx=Sx)=true:=h
   exact h (decide_eq_true rfl)
end
theorem EN{i:Nat}{d:PyData}{ρ:Ev}{Q:Ev->Prop}(h:hU ρ i)(q:Q (ρ.set i (some (.fz d)))):Vy i d ρ Q:=by
 unfold hU at h
 unfold Vy
 cases e:ρ[i]? with
 | none=>rw[e]at h;exact h.elim
 | some x =>
  cases x with
  | none=>exact q
  | some s=>cases s with
   | fz d=>exact q
   | ow d=>exact q
   | io d=>rw[e]at h;exact h.elim
noncomputable abbrev PF(x:(List Int×List Int)×Int):PyData:=.tuple [bxD x.1,.int x.2]
noncomputable def uP(sd cl:List Int):PyData->PyData
 | .tuple [.tuple lo,.tuple hi]=>PF ((lo.map unI,hi.map unI),yK sd cl (lo.map unI,hi.map unI))
 | _=>.none
theorem Vv(sd cl:List Int)(b:List Int×List Int):uP sd cl (bxD b)=PF (b,yK sd cl b):=by
 show PF (((b.1.map q0).map unI,(b.2.map q0).map unI),_)=_
 rw[AY,AY]
noncomputable def PP:PyData->PyData
 | .tuple [_,t]=>t
 | _=>.none
noncomputable def QP:PyData->PyData
 | .tuple [b,_]=>b
 | _=>.none
noncomputable def RP(M:Int):PyData->Bool
 | .tuple [_,.int t]=>decide (t=M)
 | _=>false
noncomputable abbrev av(ns:List Int)(k l:Int)(t:Ev):Ev:=some (.fz (YJ ns)) :: some (.ow (nX ns k l)) :: t
theorem Hz:∀{sd:List Int},(∀c∈sd,1<=c)->Bx (sd.map λ_=>0) (sd.map λ_=>0) sd
 | [],_=>trivial
 | s :: sd,h=>⟨⟨U7 _,U7 _,by have:=h s B0;show (0:Int) < s;omega⟩,Hz λc hc=>h c (u0 _ hc)⟩
section
variable {P:Program}{w:World}{K:A0}{mg:Str->Option Value}{base:Heap}
structure CalsL(P:Program)(w:World)(K:A0)(mg:Str->Option Value)(base:Heap):Prop where
 law_begin:Cal P w K mg base 1 "_law_begin" ["_law_script"] (eQ K UD)
 law_take:Cal P w K mg base 2 "_law_take" ["_law_state","_law_most"] (eQ K vW)
 law_long_right:Cal P w K mg base 7 "_law_long_right" ["_law_state"] (eQ K sP)
 law_sides:Cal P w K mg base 3 "_law_sides" ["_law_state","_law_most"] (eQ K WD)
 law_places:Cal P w K mg base 1 "_law_places" ["_law_sides_here"] (eQ K zY)
 law_cells:Cal P w K mg base 4 "_law_cells" ["_law_state","_law_many"] (eQ K VD)
 law_boxes:Cal P w K mg base 2 "_law_boxes" ["_law_sides_here"] (eQ K fq)
 law_sum:Cal P w K mg base 2 "_law_sum" ["_law_rows","_law_box_here"] (eQ K kL)
 law_number:Cal P w K mg base 3 "_law_number" ["_law_state"] (eQ K yY)
 law_is_whole:Cal P w K mg base 1 "_law_is_whole" ["_law_thing"] (eQ K XD)
 all_of:Cal P w K mg base 5 "all_of" ["field","number"] (eQ K AN)
 how_many_of:Cal P w K mg base 6 "how_many_of" ["field","number"] (eQ K mO)
noncomputable def Wv:Con:=λargs Q=>∃ns:List Int,args=[.fz (YJ ns)]/\ns.length<=63/\∀o,Q (.fz (.bool true)) o
theorem AB{K:A0}{H:Hp}{a:Addr}{ns:List Int}(hl:ns.length<=63)(h:SqL K H a (ns.map V.int)):eQ K Wv [.ref a] H (λv _=>v=.bl true) λ_ _ _=>False:=by
 refine ⟨⟨H,H,λ_=>none⟩,H,[.fz (YJ ns)],λr _=>r=.fz (.bool true),?_,⟨ns,rfl,hl,λ_=>rfl⟩,?_⟩
 ·refine ⟨rfl,Sub.refl _,Sub.refl _,λa o h=>.inl h,λa o h _=>h,?_,?_,?_,?_,?_,?_⟩
  ·intro i d e
   cases i with
   | zero=>cases e;exact ⟨_,rfl,.scr h⟩
   | succ i=>cases e
  ·intro i s e w
   cases i with
   | zero=>cases e;cases w
   | succ i=>cases e
  ·intro i d a e
   cases i with
   | zero=>cases e
   | succ i=>cases e
  ·intro i a e;cases e
  ·intro i d e
   cases i with
   | zero=>cases e
   | succ i=>cases e
  ·intro i j s t a e w
   cases i with
   | zero=>cases e;cases w
   | succ i=>cases e
 ·intro v H' F' r ρ' _ _ hr e
  subst e
  have hr:Da K F' v (.bool true):=hr
  cases hr
  rfl
theorem FN:FnScope ["_law_script","_law_state","_law_sides_here","_law_cells_here","_law_rows","_law_sums","_law_most","_law_wanted","_law_number_here","_law_due","_law_found","_law_many"] ["_law_script"] (cQ (top 35)):=⟨rfl,rfl,rfl,by decide +kernel,rfl,by decide +kernel,by decide +kernel⟩
theorem sL{f:Addr}{fd:FuncData}(F:Fun K "law" "law" (top 35) f fd)(T:Txt mg)(C:CalsL P w K mg base):FnOk P w K mg base BZ 8 f fd ["_law_script"] (eQ K Wv):=by
 have S:=FN
 refine TJ F S (λcdv A outer s H E hr=>(fQ (zQ (i:=1) S.nd rfl (Or.inl rfl) (GX C.law_begin (hr.mono (by first|decide|omega)) (aQ (wn 0) bQ)))
     (fQ (KJ (SN (MM (YX UK (jJ (K:=K) rfl hr.units) (wx (bX C.law_take (hr.mono (by first|decide|omega)) (aQ (wn 1) (aQ (wx iQ) bQ)))) (wx iQ)) (sI (cw (gF (bX C.law_long_right (hr.mono (by first|decide|omega)) (aQ (wn 1) bQ))))))) (qQ (TQ Ju)) nZ)
     (fQ (zQ (i:=2) S.nd rfl (Or.inl rfl) (bX C.law_sides (hr.mono (by first|decide|omega)) (aQ (wn 1) (aQ (wx iQ) bQ))))
     (fQ (zQ (i:=3) S.nd rfl (Or.inl rfl) (vZ kZ (rX (K:=K) rfl) T.tuple_ boot_tuple (aQ (wx (bX C.law_cells (hr.mono (by first|decide|omega)) (aQ (wn 1) (aQ (wx (CQ QX (SQ (K:=K) rfl) T.len_ PySem.boot_len (aQ (wx (GX C.law_places (hr.mono (by first|decide|omega)) (aQ (wn 2) bQ))) bQ))) bQ)))) bQ)))
     (fQ (zQ (i:=4) S.nd rfl (Or.inr rfl) (RO rfl rfl T.list_ T.zip_ (aQ (wx (GX C.law_places (hr.mono (by first|decide|omega)) (aQ (wn 2) bQ))) (aQ (wn 3) bQ))))
     (fQ (tU (i:=5) S.nd rfl rfl rfl (own:=["_law_box_here"]) (fr:=[4]) (by kernel_rfl) (qX rfl (GX C.law_boxes (hr.mono (by first|decide|omega)) (aQ (wn 2) bQ))) (λ_ _ _ _=>(lQ (i:=0) (by decide +kernel:G2 (["_law_box_here","_law_rows"]:List Str)) rfl (Or.inl rfl))) (λ_ _ _ _=>uH) (λ_ _ _ _=>(lX (aQ (wx (wv 0)) (aQ (wx (GX C.law_sum (hr.mono (by first|decide|omega)) (aQ (wn 1) (aQ (wn 0) bQ)))) bQ)))))
     (fQ (zQ (i:=6) S.nd rfl (Or.inl rfl) (CQ yI (mw (K:=K) rfl rfl) T.max_ boot_max (aQ (wx (zX rfl (own:=["_law_box_here","_law_total"]) (fr:=[]) (by kernel_rfl) (qX rfl (wv 5)) (λ_ _ _ _=>(kJ rfl rfl (JQ (lQ (i:=0) (by decide +kernel:G2 (["_law_box_here","_law_total"]:List Str)) rfl (Or.inl rfl)) (JQ (lQ (i:=1) (by decide +kernel:G2 (["_law_box_here","_law_total"]:List Str)) rfl (Or.inl rfl)) mZ)))) (λ_ _ _ _=>uH) (λ_ _ _ _=>(wv 1)))) bQ)))
     (fQ (zQ (i:=7) S.nd rfl (Or.inl rfl) (WX rfl (wx (WX rfl (wn 5) (wx (bX C.law_take (hr.mono (by first|decide|omega)) (aQ (wn 1) (aQ (wx (CQ QX (SQ (K:=K) rfl) T.len_ PySem.boot_len (aQ (wn 5) bQ))) bQ)))))) (wx iQ)))
     (fQ (MX [8,9,10,11] PassesOwn.never rfl (qX rfl (tX (aQ (wx (wv 7)) (aQ (wx iQ) (aQ (wx (bX C.law_number (hr.mono (by first|decide|omega)) (aQ (wn 1) bQ))) (aQ (wx (w_bin QQ EQ (wx (w_bin QQ EQ (wn 6) (wx iQ))) (wx (bX C.law_take (hr.mono (by first|decide|omega)) (aQ (wn 1) (aQ (wx iQ) bQ)))))) (aQ (wx (wv 7)) bQ))))))) (lQ (i:=8) S.nd rfl (Or.inr rfl)) (fQ (tU (i:=9) S.nd rfl rfl rfl (own:=["_law_box_here","_law_total"]) (fr:=[8]) (by kernel_rfl) (qX rfl (wv 5)) (λ_ _ _ _=>(kJ rfl rfl (JQ (lQ (i:=0) (by decide +kernel:G2 (["_law_box_here","_law_total","_law_number_here"]:List Str)) rfl (Or.inl rfl)) (JQ (lQ (i:=1) (by decide +kernel:G2 (["_law_box_here","_law_total","_law_number_here"]:List Str)) rfl (Or.inl rfl)) mZ)))) (λ_ _ _ _=>JP (YX UK (jJ (K:=K) rfl hr.units) (wn 1) (wn 2))) (λ_ _ _ _=>(wv 0)))
     (fQ (zQ (i:=10) S.nd rfl (Or.inl rfl) (GX C.all_of (hr.mono (by first|decide|omega)) (aQ (wx (lX (aQ (wx (wv 2)) (aQ (wx (wv 3)) bQ)))) (aQ (wn 8) bQ))))
     (fQ (zQ (i:=11) S.nd rfl (Or.inl rfl) (GX C.how_many_of (hr.mono (by first|decide|omega)) (aQ (wx (lX (aQ (wx (wv 2)) (aQ (wx (wv 3)) bQ)))) (aQ (wn 8) bQ))))
     (fQ (KJ (SN (tI (cw (gF (bw .lst rfl T.isinstance_ T.list_ boot_list (wn 10)))) (dw (YX JB (Sk (K:=K) rfl hr.units) (wx (CQ uY (MZ (K:=K) rfl hr) T.repr_ boot_repr (aQ (wn 10) bQ))) (wx (CQ uY (MZ (K:=K) rfl hr) T.repr_ boot_repr (aQ (wn 9) bQ))))))) (qQ (TQ Ju)) nZ)
     (fQ (KJ (SN (tI (cw (gF (GX C.law_is_whole (hr.mono (by first|decide|omega)) (aQ (wn 11) bQ)))) (dw (YX JB (Sk (K:=K) rfl hr.units) (wn 11) (wx (CQ QX (SQ (K:=K) rfl) T.len_ PySem.boot_len (aQ (wn 9) bQ))))))) (qQ (TQ Ju)) nZ)
     (qQ (lJ (NO Hk rfl PySem.F.slot_list_clear PySem.F.type_list_clear Hx (wn 10))))))))))
     (qQ (TQ Ju)))))))))))) ?_ ?_
 ·rintro args Qd ⟨ns,rfl,_⟩;rfl
 ·rintro args Qd ⟨ns,rfl,hn,q⟩
  refine ⟨uQ rfl,?_⟩
  refine AZ (λρ'=>ρ'=av ns 0 0 [none,none,none,none,none,none,none,none,none,none]) (λN hN=>⟨ns,rfl,λo=>hN _ rfl⟩) ?_
  rintro ρ' rfl
  refine AZ (λρ'=>∃k l:Int,0<=k/\0<=l/\ρ'=av ns k l [none,none,none,none,none,none,none,none,none,none]) ?_ ?_
  ·intro N hN
   refine ⟨ns,0,0,_,rfl,by decide,by decide,by decide,by decide,λr k1 l1 _ _ _ hk1 hl1=>?_⟩
   refine wZ (λ_=>?_) (λ_=>?_)
   ·refine ⟨ns,k1,l1,rfl,hk1,hl1,λk2 l2 _ hk2 hl2=>?_⟩
    exact hN _ ⟨k2,l2,hk2,hl2,rfl⟩
   ·exact hN _ ⟨k1,l1,hk1,hl1,rfl⟩
  rintro ρ' ⟨k,l,hk,hl,rfl⟩
  refine AZ (λρ'=>∃(sd:List Int) (k l:Int),Sd sd/\0<=k/\0<=l/\ρ'=av ns k l [some (.fz (oQ sd)),none,none,none,none,none,none,none,none,none]) (λN hN=>⟨ns,k,l,30,rfl,hk,hl,by decide,by decide,λsd k1 l1 _ hsd hpm hk1 hl1=>hN _ ⟨sd,k1,l1,hsd,hk1,hl1,rfl⟩⟩) ?_
  rintro ρ' ⟨sd,k,l,hsd,hk,hl,rfl⟩
  obtain⟨ss,z,rfl⟩:∃ss z,sd=ss++[z]:=by
   rcases P8 sd with e|⟨a,b,e⟩
   ·have:=hsd.l1;rw[e]at this;cases this
   ·exact ⟨a,b,by simpa using e⟩
  have h120:=hsd.m
  have h3:=hsd.l3
  have hpl:=yJ hsd.p
  have hkm:((hX (ss++[z])).map oQ).length=(hX (ss++[z])).length:=n0 ..
  refine AZ (λρ'=>∃(cs:List Int) (k l:Int),cs.length=(hX (ss++[z])).length/\0<=k/\0<=l/\ρ'=av ns k l [some (.fz (oQ (ss++[z]))),some (.fz (oQ cs)),none,none,none,none,none,none,none,none]) (λN hN=>⟨ss++[z],.inl rfl,hsd.p,by omega,hsd.l3,λo=>⟨ns,k,l,(hX (ss++[z])).length,by rw[hkm];rfl,hk,hl,by omega,λcs k2 l2 _ hcs hB hk2 hl2=>hN _ ⟨cs,k2,l2,hcs,hk2,hl2,rfl⟩⟩⟩) ?_
  rintro ρ' ⟨cs,k,l,hcs,hk,hl,rfl⟩
  have hs0:S0 ss:=by
   refine ⟨by rw[K0]at h3;omega,λc hc=>hsd.p c (by simp[hc]),?_⟩
   have h1:=prodI_append ss [z]
   have h2:prodI [z]=z * 1:=rfl
   have h4:=hsd.p z (by simp)
   have h5:=RX (l:=ss) λc hc=>hsd.p c (by simp[hc])
   rw[h2,v7]at h1
   have h6:=Z2 h4 (show (0:Int)<=prodI ss by omega)
   omega
  have hf:Fld ss cs z:=⟨hsd,hs0,hcs⟩
  have hz2:(((hX (ss++[z])).map oQ).zip (cs.map q0)).map (λp=>J2 [p.1,p.2])=((hX (ss++[z])).zip cs).map TF:=gL _ _
  refine AZ (λρ'=>ρ'=av ns k l [some (.fz (oQ (ss++[z]))),some (.fz (oQ cs)),some (.ow (.list (((hX (ss++[z])).zip cs).map TF))),none,none,none,none,none,none,none]) ?_ ?_
  ·intro N hN
   refine ⟨ss++[z],.inl rfl,hsd.p,by omega,hsd.l3,λo=>⟨_,_,rfl,rfl,?_⟩⟩
   rw[hz2]
   exact hN _ rfl
  rintro ρ' rfl
  have hbl:=MU hsd.s0
  have hbp:0 < (TZ (ss++[z])).length:=List.length_pos_of_mem (kq (Hz hsd.p))
  refine AZ (λρ'=>ρ'=av ns k l [some (.fz (oQ (ss++[z]))),some (.fz (oQ cs)),some (.ow (.list (((hX (ss++[z])).zip cs).map TF))),some (.ow (.list ((TZ (ss++[z])).map λb=>PF (b,yK (ss++[z]) cs b)))),none,none,none,none,none,none]) ?_ ?_
  ·intro N hN
   refine ⟨ss++[z],rfl,hsd.s0,λo=>?_⟩
   rw[LU]
   refine ⟨by rw[n0];exact A1 hbl (by decide),kK (uP (ss++[z]) cs) ?_ ?_⟩
   ·intro d hd N hN
    obtain⟨b,hb,rfl⟩:=M0.mp hd
    have hbb:=OK (JW hb)
    rw[Vv]at hN
    exact ⟨_,b.1,b.2,rfl,by rw[O5];omega,by omega,λo=>⟨rfl,hN⟩⟩
   have e3:((TZ (ss++[z])).map bxD).map (uP (ss++[z]) cs)=(TZ (ss++[z])).map λb=>PF (b,yK (ss++[z]) cs b):=by
    rw[R0]
    exact W2 λb _=>Vv _ _ b
   rw[e3]
   exact hN _ rfl
  rintro ρ' rfl
  refine AZ (λρ'=>∃M:Int,ρ'=av ns k l [some (.fz (oQ (ss++[z]))),some (.fz (oQ cs)),some (.ow (.list (((hX (ss++[z])).zip cs).map TF))),some (.fz (.list ((TZ (ss++[z])).map λb=>PF (b,yK (ss++[z]) cs b)))),some (.fz (.int M)),none,none,none,none,none]) ?_ ?_
  ·intro N hN
   refine ⟨by rw[n0];exact A1 hbl (by decide),kK PP ?_ ?_⟩
   ·intro d hd N hN
    obtain⟨b,_,rfl⟩:=M0.mp hd
    exact ⟨rfl,hN⟩
   have e3:((TZ (ss++[z])).map λb=>PF (b,yK (ss++[z]) cs b)).map PP=((TZ (ss++[z])).map (yK (ss++[z]) cs)).map q0:=by
    rw[R0,R0];rfl
   rw[e3]
   exact ⟨_,rfl,by rw[n0];exact hbp,λM m1 m2=>hN _ ⟨M,rfl⟩⟩
  rintro ρ' ⟨M,rfl⟩
  refine AZ (λρ'=>∃wa k l:Int,0<=k/\0<=l/\ρ'=av ns k l [some (.fz (oQ (ss++[z]))),some (.fz (oQ cs)),some (.ow (.list (((hX (ss++[z])).zip cs).map TF))),some (.fz (.list ((TZ (ss++[z])).map λb=>PF (b,yK (ss++[z]) cs b)))),some (.fz (.int M)),some (.fz (.int wa)),none,none,none,none]) ?_ ?_
  ·intro N hN
   refine ⟨ns,k,l,_,rfl,hk,hl,by rw[n0];omega,by rw[n0];omega,λr k1 l1 _ r0 r1 hk1 hl1=>?_⟩
   rw[n0]at r1
   obtain⟨r',er⟩:=K4 r0
   subst er
   have hat:SJ ((TZ (ss++[z])).map λb=>PF (b,yK (ss++[z]) cs b)) (r':Int)=some (PF ((TZ (ss++[z]))[r']'(by omega),yK (ss++[z]) cs ((TZ (ss++[z]))[r']'(by omega)))):=mY (by rw[D1,L0 (by omega)];rfl)
   refine ⟨_,hat,_,rfl,hN _ ⟨_,k1,l1,hk1,hl1,rfl⟩⟩
  rintro ρ' ⟨wa,k,l,hk,hl,rfl⟩
  with_reducible refine AZ (λ_=>True) ?_ ?_
  rotate_left
  ·intro _ _
   exact q _
  intro N hN
  refine ⟨ns,k,l,rfl,hk,hl,λy k6 l6 _ hk6 hl6 y0 y1=>?_⟩
  refine ⟨ns,k6,l6,_,rfl,hk6,hl6,by decide,by decide,λr k5 l5 _ r0 r1 hk5 hl5=>?_⟩
  refine BX (λrest ρ=>∃rs:List Int,rest=rs.map q0/\ρ=av ns k5 l5 [some (.fz (oQ (ss++[z]))),some (.fz (oQ cs)),some (.ow (.list (((hX (ss++[z])).zip cs).map TF))),some (.fz (.list ((TZ (ss++[z])).map λb=>PF (b,yK (ss++[z]) cs b)))),some (.fz (.int M)),some (.fz (.int wa)),none,none,none,none]) ?_ (λ_ _=>hN _ trivial) ⟨[wa,0,y,M+1+r,wa],rfl,rfl⟩
  rintro d ds ρ ⟨rs,er,rfl⟩ N' hN'
  cases rs with
  | nil=>cases er
  | cons nu rs =>
   cases er
   refine EN trivial ?_
   refine AZ (λρ'=>ρ'=av ns k5 l5 [some (.fz (oQ (ss++[z]))),some (.fz (oQ cs)),some (.ow (.list (((hX (ss++[z])).zip cs).map TF))),some (.fz (.list ((TZ (ss++[z])).map λb=>PF (b,yK (ss++[z]) cs b)))),some (.fz (.int M)),some (.fz (.int wa)),some (.fz (.int nu)),some (.ow (.list ((bY (ss++[z]) cs nu).map bxD))),none,none]) ?_ ?_
   ·intro N hN
    refine ⟨by rw[n0];exact A1 hbl (by decide),KM (RP nu) QP ?_ ?_⟩
    ·intro d hd N1 N2 h1 h2
     obtain⟨b,_,rfl⟩:=M0.mp hd
     refine ⟨rfl,wZ (λh=>h1 h) (λh=>h2 (Y7.mpr h))⟩
    have e3:(((TZ (ss++[z])).map λb=>PF (b,yK (ss++[z]) cs b)).filter (RP nu)).map QP=(bY (ss++[z]) cs nu).map bxD:=by
     unfold bY
     rw[N8,R0];rfl
    rw[e3]
    exact hN _ rfl
   rintro ρ' rfl
   obtain⟨nf,sf,lf⟩:=Gz (l:=bY (ss++[z]) cs nu) hsd.s0 (A1 (N3 _ _) hbl) λb hb=>(u4.mp hb).1
   have dp:(X2 ((bY (ss++[z]) cs nu).map bxD)).depth+1<=64:=A1 (Nat.succ_le_succ nf.d) (by decide)
   generalize hL:(bY (ss++[z]) cs nu).map bxD=L at nf sf lf dp
   have hLl:L.length=(bY (ss++[z]) cs nu).length:=by rw[<- hL,n0]
   refine AZ (λρ'=>ρ'=av ns k5 l5 [some (.fz (oQ (ss++[z]))),some (.fz (oQ cs)),some (.ow (.list (((hX (ss++[z])).zip cs).map TF))),some (.fz (.list ((TZ (ss++[z])).map λb=>PF (b,yK (ss++[z]) cs b)))),some (.fz (.int M)),some (.fz (.int wa)),some (.fz (.int nu)),some (.ow (.list L)),some (.ow (.list L)),none]) ?_ ?_
   ·intro N hN
    refine ⟨ss,cs,z,nu,rfl,hf,λo=>?_⟩
    rw[hL]
    exact hN _ rfl
   rintro ρ' rfl
   refine AZ (λρ'=>ρ'=av ns k5 l5 [some (.fz (oQ (ss++[z]))),some (.fz (oQ cs)),some (.ow (.list (((hX (ss++[z])).zip cs).map TF))),some (.fz (.list ((TZ (ss++[z])).map λb=>PF (b,yK (ss++[z]) cs b)))),some (.fz (.int M)),some (.fz (.int wa)),some (.fz (.int nu)),some (.ow (.list L)),some (.ow (.list L)),some (.fz (.int (L.length:Nat)))]) ?_ ?_
   ·intro N hN
    refine ⟨ss,cs,z,nu,rfl,hf,λo=>?_⟩
    rw[<- hLl]
    exact hN _ rfl
   rintro ρ' rfl
   refine AZ (λρ'=>ρ'=av ns k5 l5 [some (.fz (oQ (ss++[z]))),some (.fz (oQ cs)),some (.ow (.list (((hX (ss++[z])).zip cs).map TF))),some (.fz (.list ((TZ (ss++[z])).map λb=>PF (b,yK (ss++[z]) cs b)))),some (.fz (.int M)),some (.fz (.int wa)),some (.fz (.int nu)),some (.ow (.list L)),some (.ow (.list L)),some (.fz (.int (L.length:Nat)))]) ?_ ?_
   ·intro N hN
    refine ⟨nf.p,sf,dp,lf,nf.p,sf,dp,lf,?_⟩
    generalize O6 (Sl.ow (X2 L)).d=Sx
    refine wZ (λh=>?_) (λ_=>hN _ rfl)
    exfalso
    have h:(!decide (Sx=Sx))=true:=h
    rw[decide_eq_true rfl]at h
    cases h
   rintro ρ' rfl
   refine AZ (λρ'=>ρ'=av ns k5 l5 [some (.fz (oQ (ss++[z]))),some (.fz (oQ cs)),some (.ow (.list (((hX (ss++[z])).zip cs).map TF))),some (.fz (.list ((TZ (ss++[z])).map λb=>PF (b,yK (ss++[z]) cs b)))),some (.fz (.int M)),some (.fz (.int wa)),some (.fz (.int nu)),some (.ow (.list L)),some (.ow (.list L)),some (.fz (.int (L.length:Nat)))]) ?_ ?_
   ·intro N hN
    refine ⟨_,rfl,λes e=>(by cases e),λo=>?_⟩
    refine wZ (λh=>absurd (show false=true from h) (by decide)) (λ_=>?_)
    refine wZ (λh=>?_) (λ_=>hN _ rfl)
    exfalso
    have h:(!decide ((L.length:Int)=(L.length:Int)))=true:=h
    rw[decide_eq_true rfl]at h
    cases h
   rintro ρ' rfl
   exact hN' _ ⟨rs,rfl,rfl⟩
end
theorem vP{p:List Value->Prop}(h:p []):∀us:List Value,us.length=0->p us:=λus e=>by
 cases us with
 | nil=>exact h
 | cons x us=>cases e
theorem len1{p:List Value->Prop}(h:∀x0,p [x0]):∀us:List Value,us.length=1->p us:=λus e=>by
 cases us with
 | nil=>cases e
 | cons x us=>exact vP (p:=λl=>p (x :: l)) (h x) us (D9 e)
theorem len2{p:List Value->Prop}(h:∀x0 x1,p [x0,x1]):∀us:List Value,us.length=2->p us:=λus e=>by
 cases us with
 | nil=>cases e
 | cons x us=>exact len1 (p:=λl=>p (x :: l)) (λx1=>h x x1) us (D9 e)
theorem len3{p:List Value->Prop}(h:∀x0 x1 x2,p [x0,x1,x2]):∀us:List Value,us.length=3->p us:=λus e=>by
 cases us with
 | nil=>cases e
 | cons x us=>exact len2 (p:=λl=>p (x :: l)) (λx1 x2=>h x x1 x2) us (D9 e)
theorem all_mk{l:K8}{w:World}{K:A0}{h:Heap}{mg:Str->Option Value}{fa f0 f1 f2 f3 f4 f5 f6 f7 f8 f9 f10 f11 f12 f13 f14 f15 f16 f17 f18 f19 f20 f21 f22 f23 f24 f25 f26 f27 f28 f29:Addr}(X:K.In h)(G:h.Ns mainGlobals mg)(hfa:mg "law"=some (.ref fa))
  {od0 an0 od1 an1 od2 an2 od3 an3 od4 an4 od5 an5 od6 an6 od7 an7 od8 an8 od9 an9 od10 an10 od11 an11 od12 an12 od13 an13 od14 an14 od15 an15 od16 an16 od17 an17 od18 an18 od19 an19 od20 an20 od21 an21 od22 an22 od23 an23 od24 an24 od25 an25 od26 an26 od27 an27 od28 an28 od29 an29:Option Addr}{sl0 sl1 sl2 sl3 sl4 sl5 sl6 sl7 sl8 sl9 sl10 sl11 sl12 sl13 sl14 sl15 sl16 sl17 sl18 sl19 sl20 sl21 sl22 sl23 sl24 sl25 sl26 sl27 sl28 sl29:Array (Option Value)}{oc0 kV0 dc0 pm0 cd0 ct0 oc1 kV1 dc1 pm1 cd1 ct1 oc2 kV2 dc2 pm2 cd2 ct2 oc3 kV3 dc3 pm3 cd3 ct3 oc4 kV4 dc4 pm4 cd4 ct4 oc5 kV5 dc5 pm5 cd5 ct5 oc6 kV6 dc6 pm6 cd6 ct6 oc7 kV7 dc7 pm7 cd7 ct7 oc8 kV8 dc8 pm8 cd8 ct8 oc9 kV9 dc9 pm9 cd9 ct9 oc10 kV10 dc10 pm10 cd10 ct10 oc11 kV11 dc11 pm11 cd11 ct11 oc12 kV12 dc12 pm12 cd12 ct12 oc13 kV13 dc13 pm13 cd13 ct13 oc14 kV14 dc14 pm14 cd14 ct14 oc15 kV15 dc15 pm15 cd15 ct15 oc16 kV16 dc16 pm16 cd16 ct16 oc17 kV17 dc17 pm17 cd17 ct17 oc18 kV18 dc18 pm18 cd18 ct18 oc19 kV19 dc19 pm19 cd19 ct19 oc20 kV20 dc20 pm20 cd20 ct20 oc21 kV21 dc21 pm21 cd21 ct21 oc22 kV22 dc22 pm22 cd22 ct22 oc23 kV23 dc23 pm23 cd23 ct23 oc24 kV24 dc24 pm24 cd24 ct24 oc25 kV25 dc25 pm25 cd25 ct25 oc26 kV26 dc26 pm26 cd26 ct26 oc27 kV27 dc27 pm27 cd27 ct27 oc28 kV28 dc28 pm28 cd28 ct28 oc29 kV29 dc29 pm29 cd29 ct29:Value}
  (a0:T0 K mainGlobals "_law_begin"=some (some (.ref f0))) (l0:K.lookup f0=some ⟨oc0,od0,.func (B1 "_law_begin" "_law_begin" (sQ (top 22)) (pQ (top 22)) (cQ (top 22)) .none kV0 dc0 pm0 an0 cd0 ct0),sl0⟩) (c0:Y0 K cd0 "_law_begin"=true) (k0:X0 K (.ref f0)=true)
  (a1:T0 K mainGlobals "_law_mixed"=some (some (.ref f1))) (l1:K.lookup f1=some ⟨oc1,od1,.func (B1 "_law_mixed" "_law_mixed" (sQ (top 23)) (pQ (top 23)) (cQ (top 23)) .none kV1 dc1 pm1 an1 cd1 ct1),sl1⟩) (c1:Y0 K cd1 "_law_mixed"=true) (k1:X0 K (.ref f1)=true)
  (a2:T0 K mainGlobals "_law_take"=some (some (.ref f2))) (l2:K.lookup f2=some ⟨oc2,od2,.func (B1 "_law_take" "_law_take" (sQ (top 24)) (pQ (top 24)) (cQ (top 24)) .none kV2 dc2 pm2 an2 cd2 ct2),sl2⟩) (c2:Y0 K cd2 "_law_take"=true) (k2:X0 K (.ref f2)=true)
  (a3:T0 K mainGlobals "one_of_each"=some (some (.ref f3))) (l3:K.lookup f3=some ⟨oc3,od3,.func (B1 "one_of_each" "one_of_each" (sQ (top 1)) (pQ (top 1)) (cQ (top 1)) .none kV3 dc3 pm3 an3 cd3 ct3),sl3⟩) (c3:Y0 K cd3 "one_of_each"=true) (k3:X0 K (.ref f3)=true)
  (a4:T0 K mainGlobals "places_between"=some (some (.ref f4))) (l4:K.lookup f4=some ⟨oc4,od4,.func (B1 "places_between" "places_between" (sQ (top 2)) (pQ (top 2)) (cQ (top 2)) .none kV4 dc4 pm4 an4 cd4 ct4),sl4⟩) (c4:Y0 K cd4 "places_between"=true) (k4:X0 K (.ref f4)=true)
  (a5:T0 K mainGlobals "first_place"=some (some (.ref f5))) (l5:K.lookup f5=some ⟨oc5,od5,.func (B1 "first_place" "first_place" (sQ (top 5)) (pQ (top 5)) (cQ (top 5)) .none kV5 dc5 pm5 an5 cd5 ct5),sl5⟩) (c5:Y0 K cd5 "first_place"=true) (k5:X0 K (.ref f5)=true)
  (a6:T0 K mainGlobals "last_place"=some (some (.ref f6))) (l6:K.lookup f6=some ⟨oc6,od6,.func (B1 "last_place" "last_place" (sQ (top 6)) (pQ (top 6)) (cQ (top 6)) .none kV6 dc6 pm6 an6 cd6 ct6),sl6⟩) (c6:Y0 K cd6 "last_place"=true) (k6:X0 K (.ref f6)=true)
  (a7:T0 K mainGlobals "all_places"=some (some (.ref f7))) (l7:K.lookup f7=some ⟨oc7,od7,.func (B1 "all_places" "all_places" (sQ (top 7)) (pQ (top 7)) (cQ (top 7)) .none kV7 dc7 pm7 an7 cd7 ct7),sl7⟩) (c7:Y0 K cd7 "all_places"=true) (k7:X0 K (.ref f7)=true)
  (a8:T0 K mainGlobals "all_boxes"=some (some (.ref f8))) (l8:K.lookup f8=some ⟨oc8,od8,.func (B1 "all_boxes" "all_boxes" (sQ (top 8)) (pQ (top 8)) (cQ (top 8)) .none kV8 dc8 pm8 an8 cd8 ct8),sl8⟩) (c8:Y0 K cd8 "all_boxes"=true) (k8:X0 K (.ref f8)=true)
  (a9:T0 K mainGlobals "add_along"=some (some (.ref f9))) (l9:K.lookup f9=some ⟨oc9,od9,.func (B1 "add_along" "add_along" (sQ (top 11)) (pQ (top 11)) (cQ (top 11)) .none kV9 dc9 pm9 an9 cd9 ct9),sl9⟩) (c9:Y0 K cd9 "add_along"=true) (k9:X0 K (.ref f9)=true)
  (a10:T0 K mainGlobals "running_of"=some (some (.ref f10))) (l10:K.lookup f10=some ⟨oc10,od10,.func (B1 "running_of" "running_of" (sQ (top 10)) (pQ (top 10)) (cQ (top 10)) .none kV10 dc10 pm10 an10 cd10 ct10),sl10⟩) (c10:Y0 K cd10 "running_of"=true) (k10:X0 K (.ref f10)=true)
  (a11:T0 K mainGlobals "index_of"=some (some (.ref f11))) (l11:K.lookup f11=some ⟨oc11,od11,.func (B1 "index_of" "index_of" (sQ (top 3)) (pQ (top 3)) (cQ (top 3)) .none kV11 dc11 pm11 an11 cd11 ct11),sl11⟩) (c11:Y0 K cd11 "index_of"=true) (k11:X0 K (.ref f11)=true)
  (a12:T0 K mainGlobals "corner_numbers"=some (some (.ref f12))) (l12:K.lookup f12=some ⟨oc12,od12,.func (B1 "corner_numbers" "corner_numbers" (sQ (top 13)) (pQ (top 13)) (cQ (top 13)) .none kV12 dc12 pm12 an12 cd12 ct12),sl12⟩) (c12:Y0 K cd12 "corner_numbers"=true) (k12:X0 K (.ref f12)=true)
  (a13:T0 K mainGlobals "signed_place"=some (some (.ref f13))) (l13:K.lookup f13=some ⟨oc13,od13,.func (B1 "signed_place" "signed_place" (sQ (top 14)) (pQ (top 14)) (cQ (top 14)) .none kV13 dc13 pm13 an13 cd13 ct13),sl13⟩) (c13:Y0 K cd13 "signed_place"=true) (k13:X0 K (.ref f13)=true)
  (a14:T0 K mainGlobals "corners"=some (some (.ref f14))) (l14:K.lookup f14=some ⟨oc14,od14,.func (B1 "corners" "corners" (sQ (top 12)) (pQ (top 12)) (cQ (top 12)) .none kV14 dc14 pm14 an14 cd14 ct14),sl14⟩) (c14:Y0 K cd14 "corners"=true) (k14:X0 K (.ref f14)=true)
  (a15:T0 K mainGlobals "sum_by_running"=some (some (.ref f15))) (l15:K.lookup f15=some ⟨oc15,od15,.func (B1 "sum_by_running" "sum_by_running" (sQ (top 15)) (pQ (top 15)) (cQ (top 15)) .none kV15 dc15 pm15 an15 cd15 ct15),sl15⟩) (c15:Y0 K cd15 "sum_by_running"=true) (k15:X0 K (.ref f15)=true)
  (a16:T0 K mainGlobals "sums_along"=some (some (.ref f16))) (l16:K.lookup f16=some ⟨oc16,od16,.func (B1 "sums_along" "sums_along" (sQ (top 16)) (pQ (top 16)) (cQ (top 16)) .none kV16 dc16 pm16 an16 cd16 ct16),sl16⟩) (c16:Y0 K cd16 "sums_along"=true) (k16:X0 K (.ref f16)=true)
  (a17:T0 K mainGlobals "runs_of"=some (some (.ref f17))) (l17:K.lookup f17=some ⟨oc17,od17,.func (B1 "runs_of" "runs_of" (sQ (top 20)) (pQ (top 20)) (cQ (top 20)) .none kV17 dc17 pm17 an17 cd17 ct17),sl17⟩) (c17:Y0 K cd17 "runs_of"=true) (k17:X0 K (.ref f17)=true)
  (a18:T0 K mainGlobals "all_of"=some (some (.ref f18))) (l18:K.lookup f18=some ⟨oc18,od18,.func (B1 "all_of" "all_of" (sQ (top 19)) (pQ (top 19)) (cQ (top 19)) .none kV18 dc18 pm18 an18 cd18 ct18),sl18⟩) (c18:Y0 K cd18 "all_of"=true) (k18:X0 K (.ref f18)=true)
  (a19:T0 K mainGlobals "how_many_of"=some (some (.ref f19))) (l19:K.lookup f19=some ⟨oc19,od19,.func (B1 "how_many_of" "how_many_of" (sQ (top 18)) (pQ (top 18)) (cQ (top 18)) .none kV19 dc19 pm19 an19 cd19 ct19),sl19⟩) (c19:Y0 K cd19 "how_many_of"=true) (k19:X0 K (.ref f19)=true)
  (a20:T0 K mainGlobals "_law_long_right"=some (some (.ref f20))) (l20:K.lookup f20=some ⟨oc20,od20,.func (B1 "_law_long_right" "_law_long_right" (sQ (top 34)) (pQ (top 34)) (cQ (top 34)) .none kV20 dc20 pm20 an20 cd20 ct20),sl20⟩) (c20:Y0 K cd20 "_law_long_right"=true) (k20:X0 K (.ref f20)=true)
  (a21:T0 K mainGlobals "_law_sides"=some (some (.ref f21))) (l21:K.lookup f21=some ⟨oc21,od21,.func (B1 "_law_sides" "_law_sides" (sQ (top 25)) (pQ (top 25)) (cQ (top 25)) .none kV21 dc21 pm21 an21 cd21 ct21),sl21⟩) (c21:Y0 K cd21 "_law_sides"=true) (k21:X0 K (.ref f21)=true)
  (a22:T0 K mainGlobals "_law_places"=some (some (.ref f22))) (l22:K.lookup f22=some ⟨oc22,od22,.func (B1 "_law_places" "_law_places" (sQ (top 28)) (pQ (top 28)) (cQ (top 28)) .none kV22 dc22 pm22 an22 cd22 ct22),sl22⟩) (c22:Y0 K cd22 "_law_places"=true) (k22:X0 K (.ref f22)=true)
  (a23:T0 K mainGlobals "_law_number"=some (some (.ref f23))) (l23:K.lookup f23=some ⟨oc23,od23,.func (B1 "_law_number" "_law_number" (sQ (top 26)) (pQ (top 26)) (cQ (top 26)) .none kV23 dc23 pm23 an23 cd23 ct23),sl23⟩) (c23:Y0 K cd23 "_law_number"=true) (k23:X0 K (.ref f23)=true)
  (a24:T0 K mainGlobals "_law_cells"=some (some (.ref f24))) (l24:K.lookup f24=some ⟨oc24,od24,.func (B1 "_law_cells" "_law_cells" (sQ (top 27)) (pQ (top 27)) (cQ (top 27)) .none kV24 dc24 pm24 an24 cd24 ct24),sl24⟩) (c24:Y0 K cd24 "_law_cells"=true) (k24:X0 K (.ref f24)=true)
  (a25:T0 K mainGlobals "_law_boxes"=some (some (.ref f25))) (l25:K.lookup f25=some ⟨oc25,od25,.func (B1 "_law_boxes" "_law_boxes" (sQ (top 30)) (pQ (top 30)) (cQ (top 30)) .none kV25 dc25 pm25 an25 cd25 ct25),sl25⟩) (c25:Y0 K cd25 "_law_boxes"=true) (k25:X0 K (.ref f25)=true)
  (a26:T0 K mainGlobals "_law_lies"=some (some (.ref f26))) (l26:K.lookup f26=some ⟨oc26,od26,.func (B1 "_law_lies" "_law_lies" (sQ (top 32)) (pQ (top 32)) (cQ (top 32)) .none kV26 dc26 pm26 an26 cd26 ct26),sl26⟩) (c26:Y0 K cd26 "_law_lies"=true) (k26:X0 K (.ref f26)=true)
  (a27:T0 K mainGlobals "_law_sum"=some (some (.ref f27))) (l27:K.lookup f27=some ⟨oc27,od27,.func (B1 "_law_sum" "_law_sum" (sQ (top 33)) (pQ (top 33)) (cQ (top 33)) .none kV27 dc27 pm27 an27 cd27 ct27),sl27⟩) (c27:Y0 K cd27 "_law_sum"=true) (k27:X0 K (.ref f27)=true)
  (a28:T0 K mainGlobals "_law_is_whole"=some (some (.ref f28))) (l28:K.lookup f28=some ⟨oc28,od28,.func (B1 "_law_is_whole" "_law_is_whole" (sQ (top 29)) (pQ (top 29)) (cQ (top 29)) .none kV28 dc28 pm28 an28 cd28 ct28),sl28⟩) (c28:Y0 K cd28 "_law_is_whole"=true) (k28:X0 K (.ref f28)=true)
  (a29:T0 K mainGlobals "law"=some (some (.ref f29))) (l29:K.lookup f29=some ⟨oc29,od29,.func (B1 "law" "law" (sQ (top 35)) (pQ (top 35)) (cQ (top 35)) .none kV29 dc29 pm29 an29 cd29 ct29),sl29⟩) (c29:Y0 K cd29 "law"=true) (k29:X0 K (.ref f29)=true)
  (z0:T0 K mainGlobals "len"=some none) (z1:T0 K mainGlobals "isinstance"=some none) (z2:T0 K mainGlobals "int"=some none) (z3:T0 K mainGlobals "bool"=some none) (z4:T0 K mainGlobals "list"=some none) (z5:T0 K mainGlobals "tuple"=some none) (z6:T0 K mainGlobals "range"=some none) (z7:T0 K mainGlobals "zip"=some none) (z8:T0 K mainGlobals "all"=some none) (z9:T0 K mainGlobals "sum"=some none) (z10:T0 K mainGlobals "repr"=some none) (z11:T0 K mainGlobals "sorted"=some none) (z12:T0 K mainGlobals "max"=some none) (z13:T0 K mainGlobals "enumerate"=some none) (z14:T0 K mainGlobals "reversed"=some none) (z15:T0 K mainGlobals "min"=some none) (z16:T0 K mainGlobals "abs"=some none) :
  ∃fd:FuncData,(∀(s:Shared) (v:Value),BindsTo s fd ⟨[v],[]⟩ [("_law_script",v)])/\∀base:Heap,K.In base->base.Ns mainGlobals mg->FnOk l.prog w K mg base BZ 8 fa fd ["_law_script"] (eQ K Wv):=by
 have e:=hfa.symm.trans (G1 X G a29)
 cases e
 have T:Txt mg:=⟨Y1 X G z0,Y1 X G z1,Y1 X G z2,Y1 X G z3,Y1 X G z4,Y1 X G z5,Y1 X G z6,Y1 X G z7,Y1 X G z8,Y1 X G z9,Y1 X G z10,Y1 X G z11,Y1 X G z12,Y1 X G z13,Y1 X G z14,Y1 X G z15,Y1 X G z16⟩
 have F0:=HQ (st:=(top 22)) l0 c0 k0
 have b0:=F0.binds (ps:=["_law_script"]) λ_ _ _ _ _ _=>len1 (λ_=>rfl)
 have F1:=HQ (st:=(top 23)) l1 c1 k1
 have b1:=F1.binds (ps:=["_law_cell","_law_k"]) λ_ _ _ _ _ _=>len2 (λ_ _=>rfl)
 have F2:=HQ (st:=(top 24)) l2 c2 k2
 have b2:=F2.binds (ps:=["_law_state","_law_most"]) λ_ _ _ _ _ _=>len2 (λ_ _=>rfl)
 have F3:=HQ (st:=(top 1)) l3 c3 k3
 have b3:=F3.binds (ps:=["choices"]) λ_ _ _ _ _ _=>len1 (λ_=>rfl)
 have F4:=HQ (st:=(top 2)) l4 c4 k4
 have b4:=F4.binds (ps:=["low","high"]) λ_ _ _ _ _ _=>len2 (λ_ _=>rfl)
 have F5:=HQ (st:=(top 5)) l5 c5 k5
 have b5:=F5.binds (ps:=["sides"]) λ_ _ _ _ _ _=>len1 (λ_=>rfl)
 have F6:=HQ (st:=(top 6)) l6 c6 k6
 have b6:=F6.binds (ps:=["sides"]) λ_ _ _ _ _ _=>len1 (λ_=>rfl)
 have F7:=HQ (st:=(top 7)) l7 c7 k7
 have b7:=F7.binds (ps:=["sides"]) λ_ _ _ _ _ _=>len1 (λ_=>rfl)
 have F8:=HQ (st:=(top 8)) l8 c8 k8
 have b8:=F8.binds (ps:=["sides"]) λ_ _ _ _ _ _=>len1 (λ_=>rfl)
 have F9:=HQ (st:=(top 11)) l9 c9 k9
 have b9:=F9.binds (ps:=["table","side","step"]) λ_ _ _ _ _ _=>len3 (λ_ _ _=>rfl)
 have F10:=HQ (st:=(top 10)) l10 c10 k10
 have b10:=F10.binds (ps:=["field"]) λ_ _ _ _ _ _=>len1 (λ_=>rfl)
 have F11:=HQ (st:=(top 3)) l11 c11 k11
 have b11:=F11.binds (ps:=["sides","place"]) λ_ _ _ _ _ _=>len2 (λ_ _=>rfl)
 have F12:=HQ (st:=(top 13)) l12 c12 k12
 have b12:=F12.binds (ps:=["first","last"]) λ_ _ _ _ _ _=>len2 (λ_ _=>rfl)
 have F13:=HQ (st:=(top 14)) l13 c13 k13
 have b13:=F13.binds (ps:=["chosen"]) λ_ _ _ _ _ _=>len1 (λ_=>rfl)
 have F14:=HQ (st:=(top 12)) l14 c14 k14
 have b14:=F14.binds (ps:=["sides","box"]) λ_ _ _ _ _ _=>len2 (λ_ _=>rfl)
 have F15:=HQ (st:=(top 15)) l15 c15 k15
 have b15:=F15.binds (ps:=["sides","table","box"]) λ_ _ _ _ _ _=>len3 (λ_ _ _=>rfl)
 have F16:=HQ (st:=(top 16)) l16 c16 k16
 have b16:=F16.binds (ps:=["sides","running","base"]) λ_ _ _ _ _ _=>len3 (λ_ _ _=>rfl)
 have F17:=HQ (st:=(top 20)) l17 c17 k17
 have b17:=F17.binds (ps:=["sums","number"]) λ_ _ _ _ _ _=>len2 (λ_ _=>rfl)
 have F18:=HQ (st:=(top 19)) l18 c18 k18
 have b18:=F18.binds (ps:=["field","number"]) λ_ _ _ _ _ _=>len2 (λ_ _=>rfl)
 have F19:=HQ (st:=(top 18)) l19 c19 k19
 have b19:=F19.binds (ps:=["field","number"]) λ_ _ _ _ _ _=>len2 (λ_ _=>rfl)
 have F20:=HQ (st:=(top 34)) l20 c20 k20
 have b20:=F20.binds (ps:=["_law_state"]) λ_ _ _ _ _ _=>len1 (λ_=>rfl)
 have F21:=HQ (st:=(top 25)) l21 c21 k21
 have b21:=F21.binds (ps:=["_law_state","_law_most"]) λ_ _ _ _ _ _=>len2 (λ_ _=>rfl)
 have F22:=HQ (st:=(top 28)) l22 c22 k22
 have b22:=F22.binds (ps:=["_law_sides_here"]) λ_ _ _ _ _ _=>len1 (λ_=>rfl)
 have F23:=HQ (st:=(top 26)) l23 c23 k23
 have b23:=F23.binds (ps:=["_law_state"]) λ_ _ _ _ _ _=>len1 (λ_=>rfl)
 have F24:=HQ (st:=(top 27)) l24 c24 k24
 have b24:=F24.binds (ps:=["_law_state","_law_many"]) λ_ _ _ _ _ _=>len2 (λ_ _=>rfl)
 have F25:=HQ (st:=(top 30)) l25 c25 k25
 have b25:=F25.binds (ps:=["_law_sides_here"]) λ_ _ _ _ _ _=>len1 (λ_=>rfl)
 have F26:=HQ (st:=(top 32)) l26 c26 k26
 have b26:=F26.binds (ps:=["_law_box_here","_law_place"]) λ_ _ _ _ _ _=>len2 (λ_ _=>rfl)
 have F27:=HQ (st:=(top 33)) l27 c27 k27
 have b27:=F27.binds (ps:=["_law_rows","_law_box_here"]) λ_ _ _ _ _ _=>len2 (λ_ _=>rfl)
 have F28:=HQ (st:=(top 29)) l28 c28 k28
 have b28:=F28.binds (ps:=["_law_thing"]) λ_ _ _ _ _ _=>len1 (λ_=>rfl)
 have F29:=HQ (st:=(top 35)) l29 c29 k29
 have b29:=F29.binds (ps:=["_law_script"]) λ_ _ _ _ _ _=>len1 (λ_=>rfl)
 refine ⟨B1 "law" "law" (sQ (top 35)) (pQ (top 35)) (cQ (top 35)) .none kV29 dc29 pm29 an29 cd29 ct29,λs v=>.of_eq rfl,λbase _ _=>?_⟩
 have C0:Cal l.prog w K mg base 1 "_law_begin" ["_law_script"] (eQ K UD):=⟨⟨_,_,Uw F0,G1 X G a0,k0,b0⟩⟩
 have C1:Cal l.prog w K mg base 1 "_law_mixed" ["_law_cell","_law_k"] (eQ K uW):=⟨⟨_,_,Vw F1,G1 X G a1,k1,b1⟩⟩
 have C2:Cal l.prog w K mg base 2 "_law_take" ["_law_state","_law_most"] (eQ K vW):=⟨⟨_,_,T9 F2 T ⟨C1⟩,G1 X G a2,k2,b2⟩⟩
 have C3:Cal l.prog w K mg base 1 "one_of_each" ["choices"] (eQ K kz):=⟨⟨_,_,X9 F3,G1 X G a3,k3,b3⟩⟩
 have C4:Cal l.prog w K mg base 2 "places_between" ["low","high"] (eQ K Y9):=⟨⟨_,_,VI F4 T ⟨C3⟩,G1 X G a4,k4,b4⟩⟩
 have C5:Cal l.prog w K mg base 1 "first_place" ["sides"] (eQ K YD):=⟨⟨_,_,cv F5 T,G1 X G a5,k5,b5⟩⟩
 have C6:Cal l.prog w K mg base 1 "last_place" ["sides"] (eQ K lz):=⟨⟨_,_,aB F6 T,G1 X G a6,k6,b6⟩⟩
 have C7:Cal l.prog w K mg base 3 "all_places" ["sides"] (eQ K QJ):=⟨⟨_,_,CU F7 ⟨C4,C5,C6⟩,G1 X G a7,k7,b7⟩⟩
 have C8:Cal l.prog w K mg base 4 "all_boxes" ["sides"] (eQ K Iv):=⟨⟨_,_,rB F8 ⟨C7,C4,C6⟩,G1 X G a8,k8,b8⟩⟩
 have C9:Cal l.prog w K mg base 1 "add_along" ["table","side","step"] (eQ K fL):=⟨⟨_,_,gB F9 T,G1 X G a9,k9,b9⟩⟩
 have C10:Cal l.prog w K mg base 2 "running_of" ["field"] (eQ K dq):=⟨⟨_,_,Av F10 T ⟨C9⟩,G1 X G a10,k10,b10⟩⟩
 have C11:Cal l.prog w K mg base 1 "index_of" ["sides","place"] (eQ K ZD):=⟨⟨_,_,gv F11 T,G1 X G a11,k11,b11⟩⟩
 have C12:Cal l.prog w K mg base 1 "corner_numbers" ["first","last"] (eQ K DU):=⟨⟨_,_,Pj F12 T,G1 X G a12,k12,b12⟩⟩
 have C13:Cal l.prog w K mg base 1 "signed_place" ["chosen"] (eQ K EU):=⟨⟨_,_,Qj F13 T,G1 X G a13,k13,b13⟩⟩
 have C14:Cal l.prog w K mg base 2 "corners" ["sides","box"] (eQ K zW):=⟨⟨_,_,aq F14 T ⟨C3,C12,C13⟩,G1 X G a14,k14,b14⟩⟩
 have C15:Cal l.prog w K mg base 3 "sum_by_running" ["sides","table","box"] (eQ K ZI):=⟨⟨_,_,aL F15 T ⟨C11,C14⟩,G1 X G a15,k15,b15⟩⟩
 have C16:Cal l.prog w K mg base 4 "sums_along" ["sides","running","base"] (eQ K lP):=⟨⟨_,_,yN F16 T ⟨C15⟩,G1 X G a16,k16,b16⟩⟩
 have C17:Cal l.prog w K mg base 1 "runs_of" ["sums","number"] (eQ K Kv):=⟨⟨_,_,vB F17 T,G1 X G a17,k17,b17⟩⟩
 have C18:Cal l.prog w K mg base 5 "all_of" ["field","number"] (eQ K AN):=⟨⟨_,_,BN F18 T ⟨C8,C10,C16,C17⟩,G1 X G a18,k18,b18⟩⟩
 have C19:Cal l.prog w K mg base 6 "how_many_of" ["field","number"] (eQ K mO):=⟨⟨_,_,CN F19 T ⟨C18⟩,G1 X G a19,k19,b19⟩⟩
 have C20:Cal l.prog w K mg base 7 "_law_long_right" ["_law_state"] (eQ K sP):=⟨⟨_,_,DN F20 T ⟨C2,C18,C19⟩,G1 X G a20,k20,b20⟩⟩
 have C21:Cal l.prog w K mg base 3 "_law_sides" ["_law_state","_law_most"] (eQ K WD):=⟨⟨_,_,Yw F21 T ⟨C2⟩,G1 X G a21,k21,b21⟩⟩
 have C22:Cal l.prog w K mg base 1 "_law_places" ["_law_sides_here"] (eQ K zY):=⟨⟨_,_,Oj F22 T,G1 X G a22,k22,b22⟩⟩
 have C23:Cal l.prog w K mg base 3 "_law_number" ["_law_state"] (eQ K yY):=⟨⟨_,_,Nj F23 ⟨C2⟩,G1 X G a23,k23,b23⟩⟩
 have C24:Cal l.prog w K mg base 4 "_law_cells" ["_law_state","_law_many"] (eQ K VD):=⟨⟨_,_,Xw F24 T ⟨C2,C23⟩,G1 X G a24,k24,b24⟩⟩
 have C25:Cal l.prog w K mg base 2 "_law_boxes" ["_law_sides_here"] (eQ K fq):=⟨⟨_,_,Cv F25 T ⟨C22⟩,G1 X G a25,k25,b25⟩⟩
 have C26:Cal l.prog w K mg base 1 "_law_lies" ["_law_box_here","_law_place"] (eQ K Dv):=⟨⟨_,_,lB F26 T,G1 X G a26,k26,b26⟩⟩
 have C27:Cal l.prog w K mg base 2 "_law_sum" ["_law_rows","_law_box_here"] (eQ K kL):=⟨⟨_,_,qB F27 T ⟨C26⟩,G1 X G a27,k27,b27⟩⟩
 have C28:Cal l.prog w K mg base 1 "_law_is_whole" ["_law_thing"] (eQ K XD):=⟨⟨_,_,Zw F28 T,G1 X G a28,k28,b28⟩⟩
 exact sL F29 T ⟨C0,C2,C20,C21,C22,C24,C25,C27,C23,C28,C18,C19⟩
theorem walk{l:K8}{q:Program}{loose:List Str}{XP:(Str->Option Value)->Heap->Prop}{YP:World->Heap->Prop}{d:DefRec}{K:Params->A0}(hn:l.most=some 63)(hdf:d.params.defaults=[])
  (hY:∀(w:World) (h:Heap),YP w h->(K w.params).In h)
  (F:∀(w:World) (mg:Str->Option Value) (fa:Addr) (h:Heap),(K w.params).In h->h.Ns mainGlobals mg->mg d.name=some (.ref fa) ->
    ∃fd:FuncData,(∀(s:Shared) (u:Value),BindsTo s fd ⟨[u],[]⟩ [("_law_script",u)])/\∀base:Heap,(K w.params).In base->base.Ns mainGlobals mg->FnOk l.prog w (K w.params) mg base BZ 8 fa fd ["_law_script"] (eQ (K w.params) Wv)) :
  PySem.W.WalkO q loose XP YP l.row.toRowW d [] (λf vs=>PySem.call f vs) :=
 L2.walk_of (n:=63) (k:=8) (x:="_law_script") (CX:=λ_=>BZ) (sp:=λw=>eQ (K w.params) Wv) hn (by decide) hdf ⟨rfl,by decide,by decide,rfl⟩ hY F (λ_ _ a ns hl _ hS=>AB hl hS) λ_ _ _ _ _ z=>z
end R44
open PySem PySem.W PyProof.Rows
namespace PySem.W.Fast
end PySem.W.Fast
namespace PySem.W.Fast
noncomputable def tw4897574987634373049 : Unit := ()
noncomputable def tw14112125115298897370 : Unit := ()
noncomputable def tw6094435748423129204 : Unit := ()
noncomputable def tw15716588965464211838 : Unit := ()
noncomputable def tw3607237461472408464 : Unit := ()
noncomputable def tw13332491539763335801 : Unit := ()
noncomputable def tw8193253278624550229 : Unit := ()
noncomputable def tw5934878822934058666 : Unit := ()
noncomputable def tw7608528646856149712 : Unit := ()
noncomputable def tw16861347549812717572 : Unit := ()
noncomputable def tw15660651350200334976 : Unit := ()
noncomputable def tw2495103496462858958 : Unit := ()
noncomputable def tw17539433674273701111 : Unit := ()
noncomputable def tw3822627899681716759 : Unit := ()
noncomputable def tw11221450916041792149 : Unit := ()
noncomputable def tw14557163592553734705 : Unit := ()
noncomputable def tw12655032930897157495 : Unit := ()
noncomputable def tw15674082945294577008 : Unit := ()
noncomputable def tw7028068757590352064 : Unit := ()
noncomputable def tw2066744953359139087 : Unit := ()
noncomputable def tw8894616877004504716 : Unit := ()
noncomputable def tw10474142326977270276 : Unit := ()
noncomputable def tw7821568498776950206 : Unit := ()
noncomputable def tw17729255082221641384 : Unit := ()
noncomputable def tw2455735168510276797 : Unit := ()
noncomputable def tw5315421757993459884 : Unit := ()
noncomputable def tw9419894305855846549 : Unit := ()
noncomputable def tw5282472387874151802 : Unit := ()
noncomputable def tw916099955254135010 : Unit := ()
noncomputable def tw5815124160751281861 : Unit := ()
noncomputable def tw1674524455176785762 : Unit := ()
noncomputable def tw4111557105645650692 : Unit := ()
noncomputable def tw12622217639194947490 : Unit := ()
noncomputable def tw3288960946192719055 : Unit := ()
noncomputable def tw6919006510754278482 : Unit := ()
noncomputable def tw3976866524371593981 : Unit := ()
noncomputable def tw13826419331593211180 : Unit := ()
noncomputable def tw4938733687665274700 : Unit := ()
noncomputable def tw17490788497911694038 : Unit := ()
noncomputable def tw12970632516232964459 : Unit := ()
noncomputable def tw14551531512307630490 : Unit := ()
noncomputable def tw8671544540834951503 : Unit := ()
noncomputable def tw15237565369334378810 : Unit := ()
noncomputable def tw361508227293126981 : Unit := ()
noncomputable def tw11484962532947150761 : Unit := ()
noncomputable def tw12365609242384797244 : Unit := ()
noncomputable def tw17532161469526758960 : Unit := ()
noncomputable def tw5067532421025647837 : Unit := ()
noncomputable def tw8156952203672966317 : Unit := ()
noncomputable def tw14231941799165964493 : Unit := ()
noncomputable def tw6361398709400739774 : Unit := ()
noncomputable def tw15094849817830476412 : Unit := ()
noncomputable def tw14411166278149842470 : Unit := ()
noncomputable def tw12159029616773005473 : Unit := ()
noncomputable def tw9235626168183425605 : Unit := ()
noncomputable def tw1202059096483733546 : Unit := ()
noncomputable def tw6452417338696624167 : Unit := ()
noncomputable def tw6750502160811942364 : Unit := ()
noncomputable def tw16376614590745973923 : Unit := ()
noncomputable def tw3597952286609969634 : Unit := ()
noncomputable def tw5588469870555356613 : Unit := ()
noncomputable def tw2923548885812067695 : Unit := ()
noncomputable def tw17863537821254958826 : Unit := ()
noncomputable def tw10852464965300236380 : Unit := ()
noncomputable def tw15486845559343206437 : Unit := ()
noncomputable def tw8971635281262991198 : Unit := ()
noncomputable def tw5081579385349148780 : Unit := ()
noncomputable def tw14913819802031793818 : Unit := ()
end PySem.W.Fast
set_option maxRecDepth 100000 in
set_option maxHeartbeats 0 in
theorem PySem.Challenge.cw_boxsums_k44_boxes_of_a_sum_holds : PySem.Challenge.rw_boxsums_k44_boxes_of_a_sum.Holds := by
 w_on;o_law;k_head;(case hw=>w_witness2)
 k_fill
 refine R44.walk (l:=PySem.Challenge.rw_boxsums_k44_boxes_of_a_sum) rfl rfl (λw h Y=>PySem.W.kIn_of Y) ?F
 case F =>
  intro w mg fa h KX G hmg
  refine' R44.all_mk KX G hmg ?a0 ?l0 ?c0 ?k0 ?a1 ?l1 ?c1 ?k1 ?a2 ?l2 ?c2 ?k2 ?a3 ?l3 ?c3 ?k3 ?a4 ?l4 ?c4 ?k4 ?a5 ?l5 ?c5 ?k5 ?a6 ?l6 ?c6 ?k6 ?a7 ?l7 ?c7 ?k7 ?a8 ?l8 ?c8 ?k8 ?a9 ?l9 ?c9 ?k9 ?a10 ?l10 ?c10 ?k10 ?a11 ?l11 ?c11 ?k11 ?a12 ?l12 ?c12 ?k12 ?a13 ?l13 ?c13 ?k13 ?a14 ?l14 ?c14 ?k14 ?a15 ?l15 ?c15 ?k15 ?a16 ?l16 ?c16 ?k16 ?a17 ?l17 ?c17 ?k17 ?a18 ?l18 ?c18 ?k18 ?a19 ?l19 ?c19 ?k19 ?a20 ?l20 ?c20 ?k20 ?a21 ?l21 ?c21 ?k21 ?a22 ?l22 ?c22 ?k22 ?a23 ?l23 ?c23 ?k23 ?a24 ?l24 ?c24 ?k24 ?a25 ?l25 ?c25 ?k25 ?a26 ?l26 ?c26 ?k26 ?a27 ?l27 ?c27 ?k27 ?a28 ?l28 ?c28 ?k28 ?a29 ?l29 ?c29 ?k29 ?z0 ?z1 ?z2 ?z3 ?z4 ?z5 ?z6 ?z7 ?z8 ?z9 ?z10 ?z11 ?z12 ?z13 ?z14 ?z15 ?z16
  (case a0=>k_is);(case l0=>k_is);(case c0=>k_is);(case k0=>k_is);(case a1=>k_is);(case l1=>k_is)
  (case c1=>k_is);(case k1=>k_is);(case a2=>k_is);(case l2=>k_is);(case c2=>k_is);(case k2=>k_is)
  (case a3=>k_is);(case l3=>k_is);(case c3=>k_is);(case k3=>k_is);(case a4=>k_is);(case l4=>k_is)
  (case c4=>k_is);(case k4=>k_is);(case a5=>k_is);(case l5=>k_is);(case c5=>k_is);(case k5=>k_is)
  (case a6=>k_is);(case l6=>k_is);(case c6=>k_is);(case k6=>k_is);(case a7=>k_is);(case l7=>k_is)
  (case c7=>k_is);(case k7=>k_is);(case a8=>k_is);(case l8=>k_is);(case c8=>k_is);(case k8=>k_is)
  (case a9=>k_is);(case l9=>k_is);(case c9=>k_is);(case k9=>k_is);(case a10=>k_is);(case l10=>k_is)
  (case c10=>k_is);(case k10=>k_is);(case a11=>k_is);(case l11=>k_is);(case c11=>k_is);(case k11=>k_is)
  (case a12=>k_is);(case l12=>k_is);(case c12=>k_is);(case k12=>k_is);(case a13=>k_is);(case l13=>k_is)
  (case c13=>k_is);(case k13=>k_is);(case a14=>k_is);(case l14=>k_is);(case c14=>k_is);(case k14=>k_is)
  (case a15=>k_is);(case l15=>k_is);(case c15=>k_is);(case k15=>k_is);(case a16=>k_is);(case l16=>k_is)
  (case c16=>k_is);(case k16=>k_is);(case a17=>k_is);(case l17=>k_is);(case c17=>k_is);(case k17=>k_is)
  (case a18=>k_is);(case l18=>k_is);(case c18=>k_is);(case k18=>k_is);(case a19=>k_is);(case l19=>k_is)
  (case c19=>k_is);(case k19=>k_is);(case a20=>k_is);(case l20=>k_is);(case c20=>k_is);(case k20=>k_is)
  (case a21=>k_is);(case l21=>k_is);(case c21=>k_is);(case k21=>k_is);(case a22=>k_is);(case l22=>k_is)
  (case c22=>k_is);(case k22=>k_is);(case a23=>k_is);(case l23=>k_is);(case c23=>k_is);(case k23=>k_is)
  (case a24=>k_is);(case l24=>k_is);(case c24=>k_is);(case k24=>k_is);(case a25=>k_is);(case l25=>k_is)
  (case c25=>k_is);(case k25=>k_is);(case a26=>k_is);(case l26=>k_is);(case c26=>k_is);(case k26=>k_is)
  (case a27=>k_is);(case l27=>k_is);(case c27=>k_is);(case k27=>k_is);(case a28=>k_is);(case l28=>k_is)
  (case c28=>k_is);(case k28=>k_is);(case a29=>k_is);(case l29=>k_is);(case c29=>k_is);(case k29=>k_is)
  (case z0=>k_is);(case z1=>k_is);(case z2=>k_is);(case z3=>k_is);(case z4=>k_is);(case z5=>k_is)
  (case z6=>k_is);(case z7=>k_is);(case z8=>k_is);(case z9=>k_is);(case z10=>k_is);(case z11=>k_is)
  (case z12=>k_is);(case z13=>k_is);(case z14=>k_is);(case z15=>k_is);(case z16=>k_is)
